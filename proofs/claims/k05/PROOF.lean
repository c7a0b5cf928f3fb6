import PyProof.Rows.All
import Wide.All
import OpenK.AllK
import Wide.FinOn
import HandS.ForMost
import HandS.Exc
import HandS.ExcOwn
import HandS.ExcInit
import HandS.ExcField
import HandS.ExcIs
import HandS.TryOnly
import HandS.WordsExc
import HandS.IsInst
import HandS.CallSlots
import HandS.MakeKwOnly
import HandS.DictComp
import HandS.Flow
import PySem.Challenge.RW_roundheap_k05_equal_programs
import KE.KExcInit
import HandS.Keys
import HandS.More
import HandS.Zip
import HandS.Proxy
import HandS.TupAny
import PyProof.EqKinds
import HandS.TupMul
import HandS.OwnEq
import HandS.NoneIn
import HandS.DictSub
import KE.KStateDown
import HandS.Head0
import HandS.Head1
import HandS.Head2
import HandS.HeadEnd
import HandS.HeadHook1
import HandS.HeadHook2
import HandS.HeadHook3
import HandS.HeadHook4
set_option Elab.async false
set_option linter.all false
set_option maxRecDepth 100000
set_option maxHeartbeats 4000000
namespace K1
open PySem L2
/-- the program's top, by places -/
def top (i : Nat) : Stmt := PySem.Challenge.pw_roundheap_k05_equal_programs.main.body.getD i (.Pass ⟨0, 0, 0, 0⟩)
/-! ### data: plain values whose lists, tuples and (empty) dicts are tracked -/
inductive Dat (H : Hp) : V → Prop
  | non : Dat H .non
  | bl (b : Bool) : Dat H (.bl b)
  | int (i : Int) : Dat H (.int i)
  | str (s : Str) (h : s.length ≤ 1000 ∧ PyData.strOk s = true) : Dat H (.str s)
  | lst {a : Addr} {xs : List V} (e : H a = some (.lst xs)) (hx : ∀ x ∈ xs, Dat H x) : Dat H (.ref a)
  | tup {a : Addr} {xs : List V} (e : H a = some (.tup xs)) (hx : ∀ x ∈ xs, Dat H x) : Dat H (.ref a)
  | dic {a : Addr} {kvs : List (Key × V)} (e : H a = some (.dK kvs)) : Dat H (.ref a)
theorem Dat.mono {H H' : Hp} (s : Same H H') {v : V} (d : Dat H v) : Dat H' v := by
  induction d with
  | non => exact .non
  | bl b => exact .bl b
  | int i => exact .int i
  | str z h => exact .str z h
  | lst e _ ih => exact .lst (s _ _ e) ih
  | tup e _ ih => exact .tup (s _ _ e) ih
  | dic e => exact .dic (s _ _ e)
theorem Dat.items {H : Hp} {a : Addr} {xs : List V} (d : Dat H (.ref a)) (e : H a = some (.lst xs)) : ∀ x ∈ xs, Dat H x := by
  cases d with
  | lst e' hx => rw [e'] at e; cases e; exact hx
  | tup e' hx => rw [e'] at e; cases e
  | dic e' => rw [e'] at e; cases e
theorem Dat.itemsT {H : Hp} {a : Addr} {xs : List V} (d : Dat H (.ref a)) (e : H a = some (.tup xs)) : ∀ x ∈ xs, Dat H x := by
  cases d with
  | lst e' hx => rw [e'] at e; cases e
  | tup e' hx => rw [e'] at e; cases e; exact hx
  | dic e' => rw [e'] at e; cases e
/-! ### kinds -/
def isI : V → Bool | .int _ => true | .bl _ => true | _ => false
def isB : V → Bool | .bl _ => true | _ => false
def isS : V → Bool | .str _ => true | _ => false
def lstOf (H : Hp) : V → Option (List V) | .ref a => (match H a with | some (.lst xs) => some xs | _ => none) | _ => none
def tupOf (H : Hp) : V → Option (List V) | .ref a => (match H a with | some (.tup xs) => some xs | _ => none) | _ => none
theorem lstOf_some {H : Hp} {v : V} {xs : List V} (h : lstOf H v = some xs) : ∃ a, v = .ref a ∧ H a = some (.lst xs) := by
  cases v with
  | ref a =>
    refine ⟨a, rfl, ?_⟩
    cases e : H a with
    | none => rw [show lstOf H (.ref a) = (match H a with | some (.lst xs) => some xs | _ => none) from rfl, e] at h; cases h
    | some o =>
      rw [show lstOf H (.ref a) = (match H a with | some (.lst xs) => some xs | _ => none) from rfl, e] at h
      cases o with
      | lst ys => cases h; rfl
      | _ => cases h
  | _ => cases h
theorem tupOf_some {H : Hp} {v : V} {xs : List V} (h : tupOf H v = some xs) : ∃ a, v = .ref a ∧ H a = some (.tup xs) := by
  cases v with
  | ref a =>
    refine ⟨a, rfl, ?_⟩
    cases e : H a with
    | none => rw [show tupOf H (.ref a) = (match H a with | some (.tup xs) => some xs | _ => none) from rfl, e] at h; cases h
    | some o =>
      rw [show tupOf H (.ref a) = (match H a with | some (.tup xs) => some xs | _ => none) from rfl, e] at h
      cases o with
      | tup ys => cases h; rfl
      | _ => cases h
  | _ => cases h
theorem lstOf_of {H : Hp} {a : Addr} {xs : List V} (e : H a = some (.lst xs)) : lstOf H (.ref a) = some xs := by
  show (match H a with | some (.lst xs) => some xs | _ => none) = some xs
  rw [e]
theorem tupOf_of {H : Hp} {a : Addr} {xs : List V} (e : H a = some (.tup xs)) : tupOf H (.ref a) = some xs := by
  show (match H a with | some (.tup xs) => some xs | _ => none) = some xs
  rw [e]
/-- one question of isinstance, answered by the kind -/
structure Ans (K : PySem.W.Frag) (H : Hp) (v : V) (T : String) (b : Bool) : Prop where
  ex : ∃ t : String, TyX K H v (.type t) ∧ kitB t T = some b
theorem Ans.rd {K : PySem.W.Frag} {H : Hp} {v : V} {T : String} {b : Bool} {Q : VK} (a : Ans K H v T b) (q : Q (.bl b) H) : rIsi K [v, .ty T] H Q := by
  obtain ⟨t, ty, e⟩ := a.ex
  exact ⟨v, .ty T, .type t, .type T, b, rfl, .ty T, ty, kit_ty e, q⟩
section
variable {K : PySem.W.Frag} {H : Hp} {v : V}
theorem ans_int (d : Dat H v) : Ans K H v "int" (isI v) := by
  cases d with
  | non => exact ⟨"NoneType", .base .non, (by show kitB "NoneType" "int" = some false; decide +kernel)⟩
  | bl b => exact ⟨"bool", .base (.bl b), (by show kitB "bool" "int" = some true; decide +kernel)⟩
  | int i => exact ⟨"int", .base (.int i), (by show kitB "int" "int" = some true; decide +kernel)⟩
  | str z _ => exact ⟨"str", .base (.str z), (by show kitB "str" "int" = some false; decide +kernel)⟩
  | lst e _ => exact ⟨"list", .base (.lst e), (by show kitB "list" "int" = some false; decide +kernel)⟩
  | tup e _ => exact ⟨"tuple", .base (.tup e), (by show kitB "tuple" "int" = some false; decide +kernel)⟩
  | dic e => exact ⟨"dict", .base (.dK e), (by show kitB "dict" "int" = some false; decide +kernel)⟩
theorem ans_bool (d : Dat H v) : Ans K H v "bool" (isB v) := by
  cases d with
  | non => exact ⟨"NoneType", .base .non, (by show kitB "NoneType" "bool" = some false; decide +kernel)⟩
  | bl b => exact ⟨"bool", .base (.bl b), (by show kitB "bool" "bool" = some true; decide +kernel)⟩
  | int i => exact ⟨"int", .base (.int i), (by show kitB "int" "bool" = some false; decide +kernel)⟩
  | str z _ => exact ⟨"str", .base (.str z), (by show kitB "str" "bool" = some false; decide +kernel)⟩
  | lst e _ => exact ⟨"list", .base (.lst e), (by show kitB "list" "bool" = some false; decide +kernel)⟩
  | tup e _ => exact ⟨"tuple", .base (.tup e), (by show kitB "tuple" "bool" = some false; decide +kernel)⟩
  | dic e => exact ⟨"dict", .base (.dK e), (by show kitB "dict" "bool" = some false; decide +kernel)⟩
theorem ans_str (d : Dat H v) : Ans K H v "str" (isS v) := by
  cases d with
  | non => exact ⟨"NoneType", .base .non, (by show kitB "NoneType" "str" = some false; decide +kernel)⟩
  | bl b => exact ⟨"bool", .base (.bl b), (by show kitB "bool" "str" = some false; decide +kernel)⟩
  | int i => exact ⟨"int", .base (.int i), (by show kitB "int" "str" = some false; decide +kernel)⟩
  | str z _ => exact ⟨"str", .base (.str z), (by show kitB "str" "str" = some true; decide +kernel)⟩
  | lst e _ => exact ⟨"list", .base (.lst e), (by show kitB "list" "str" = some false; decide +kernel)⟩
  | tup e _ => exact ⟨"tuple", .base (.tup e), (by show kitB "tuple" "str" = some false; decide +kernel)⟩
  | dic e => exact ⟨"dict", .base (.dK e), (by show kitB "dict" "str" = some false; decide +kernel)⟩
theorem lstOf_tup {a : Addr} {xs : List V} (e : H a = some (.tup xs)) : lstOf H (.ref a) = none := by
  show (match H a with | some (.lst xs) => some xs | _ => none) = none
  rw [e]
theorem lstOf_dic {a : Addr} {kvs : List (Key × V)} (e : H a = some (.dK kvs)) : lstOf H (.ref a) = none := by
  show (match H a with | some (.lst xs) => some xs | _ => none) = none
  rw [e]
theorem tupOf_lst {a : Addr} {xs : List V} (e : H a = some (.lst xs)) : tupOf H (.ref a) = none := by
  show (match H a with | some (.tup xs) => some xs | _ => none) = none
  rw [e]
theorem tupOf_dic {a : Addr} {kvs : List (Key × V)} (e : H a = some (.dK kvs)) : tupOf H (.ref a) = none := by
  show (match H a with | some (.tup xs) => some xs | _ => none) = none
  rw [e]
theorem ans_list (d : Dat H v) : Ans K H v "list" (lstOf H v).isSome := by
  cases d with
  | non => exact ⟨"NoneType", .base .non, (by show kitB "NoneType" "list" = some false; decide +kernel)⟩
  | bl b => exact ⟨"bool", .base (.bl b), (by show kitB "bool" "list" = some false; decide +kernel)⟩
  | int i => exact ⟨"int", .base (.int i), (by show kitB "int" "list" = some false; decide +kernel)⟩
  | str z _ => exact ⟨"str", .base (.str z), (by show kitB "str" "list" = some false; decide +kernel)⟩
  | lst e _ => rw [lstOf_of e]; exact ⟨"list", .base (.lst e), (by show kitB "list" "list" = some true; decide +kernel)⟩
  | tup e _ => rw [lstOf_tup e]; exact ⟨"tuple", .base (.tup e), (by show kitB "tuple" "list" = some false; decide +kernel)⟩
  | dic e => rw [lstOf_dic e]; exact ⟨"dict", .base (.dK e), (by show kitB "dict" "list" = some false; decide +kernel)⟩
theorem ans_tup (d : Dat H v) : Ans K H v "tuple" (tupOf H v).isSome := by
  cases d with
  | non => exact ⟨"NoneType", .base .non, (by show kitB "NoneType" "tuple" = some false; decide +kernel)⟩
  | bl b => exact ⟨"bool", .base (.bl b), (by show kitB "bool" "tuple" = some false; decide +kernel)⟩
  | int i => exact ⟨"int", .base (.int i), (by show kitB "int" "tuple" = some false; decide +kernel)⟩
  | str z _ => exact ⟨"str", .base (.str z), (by show kitB "str" "tuple" = some false; decide +kernel)⟩
  | lst e _ => rw [tupOf_lst e]; exact ⟨"list", .base (.lst e), (by show kitB "list" "tuple" = some false; decide +kernel)⟩
  | tup e _ => rw [tupOf_of e]; exact ⟨"tuple", .base (.tup e), (by show kitB "tuple" "tuple" = some true; decide +kernel)⟩
  | dic e => rw [tupOf_dic e]; exact ⟨"dict", .base (.dK e), (by show kitB "dict" "tuple" = some false; decide +kernel)⟩
end
/-! ### a def of the module as its callers know it -/
structure Cal (P : Program) (w : World) (K : PySem.W.Frag) (mg : Str → Option Value) (base : Heap) (CX : CXT) (k : Nat) (x : Str) (ps : List Str) (sp : Sp) : Prop where
  ex : ∃ (f : Addr) (fd : FuncData), FnOk P w K mg base CX k f fd ps sp ∧ mg x = some (.ref f) ∧ PySem.W.keepIn K (.ref f) = true ∧ Binds K fd ps []
theorem pe_cal {X : Cx} {CX : CXT} {k j : Nat} {x : Str} {ps : List Str} {sp : Sp} {E : XK} {p pos : Pos} {e : Expr} {es : List Expr} {t : TA} (c : Cal X.prog X.w X.K X.mg X.base CX k x ps sp) (hr : Room j X.A) (hj : k ≤ j) (hx : Passes CX X E) (ha : PA X (e :: es) t)
    (hg : Gl X x := by rfl) (hdb : (x == ("__debug__" : Str)) = false := by decide) (he : starEach (e :: es) X.env = (false, eval e X.env) :: starEach es X.env := by rfl) (hpl : (backTo pos (starEach es X.env)).any (·.1) = false := by rfl) :
    PE X (.Call (.Name x p) (e :: es) [] pos) (tCall sp [] E t) := by
  obtain ⟨f, fd, G, hm, hk, hb⟩ := c.ex
  exact pe_call G (hr.mono hj) hg hm hk hb .nil hx ha hdb he hpl
/-- what the module's names of built-ins are: themselves -/
structure Blt (mg : Str → Option Value) : Prop where
  isinstance : mg "isinstance" = none
  int : mg "int" = none
  bool : mg "bool" = none
  str : mg "str" = none
  list : mg "list" = none
  tuple : mg "tuple" = none
  len : mg "len" = none
  all : mg "all" = none
  enumerate : mg "enumerate" = none
  range : mg "range" = none
  max : mg "max" = none
/-- isinstance(x, T), x in slot i -/
theorem isi_rd {K : PySem.W.Frag} {σ : St} {H : Hp} {i : Nat} {v : V} {T : String} {b : Bool} {Q : VK} (hv : σ[i]? = some (some v)) (a : Ans K H v T b) (q : Q (.bl b) H) : tCB (rIsi K) (tCons (tVar i) (tCons (tC (.ty T)) tNil)) σ H Q := by
  refine ⟨v, hv, ?_⟩
  show rIsi K [v, .ty T] H Q
  exact a.rd q
section
variable {X : Cx}
theorem pt_isi {e : Expr} {te : TE} {n : Str} {T : String} {p p1 pos : Pos} (B : Blt X.mg) (he : PE X e te) (hm : X.mg n = none) (hv : bootBuiltins n = some (.type T)) (hg : Gl X "isinstance" := by rfl) (hgn : Gl X n := by rfl) (hnn : n ≠ "__name__" := by decide) (hd : (n == ("__debug__" : Str)) = false := by decide) (hs1 : starEach [e, .Name n p1] X.env = (false, eval e X.env) :: starEach [.Name n p1] X.env := by rfl) (hs2 : starEach [Expr.Name n p1] X.env = (false, eval (.Name n p1) X.env) :: starEach [] X.env := by rfl) (hpl : (backTo pos (starEach [Expr.Name n p1] X.env)).any (·.1) = false := by rfl) :
    PE X (.Call (.Name "isinstance" p) [e, .Name n p1] [] pos) (tCB (rIsi X.K) (tCons te (tCons (tC (.ty T)) tNil))) :=
  pe_callB call_isi hg B.isinstance PyProof.Rows.boot_isinstance (pa_cons he (pa_cons (pe_bltn hgn hm hv rfl hnn hd) pa_nil hs2) hs1) (by decide) (by decide) hs1 hpl
end
end K1

set_option Elab.async false
set_option linter.all false
set_option maxRecDepth 100000
set_option maxHeartbeats 4000000
namespace K1
open PySem L2
section
variable {P : Program} {w : World} {K : PySem.W.Frag} {mg : Str → Option Value} {base : Heap}
/-! ### is_integer -/
def intV (v : V) : Bool := isI v && !isB v
def spInteger : Sp := fun vs H Q _ => ∃ v, vs = [v] ∧ Dat H v ∧ Q (.bl (intV v)) H
theorem sc1 : FnScope ["value"] ["value"] (defScope (top 1)) := ⟨rfl, rfl, rfl, by decide +kernel, rfl, by decide +kernel, by decide +kernel⟩
theorem ok1 {f : Addr} {fd : FuncData} (F : Fun K "is_integer" "is_integer" (top 1) f fd) (B : Blt mg) : FnOk P w K mg base CX0 1 f fd ["value"] spInteger := by
  refine F.ok sc1 (fun vs H Q E h => ?_) (fun cdv A outer s H vs Q E hr h => ?_)
  · obtain ⟨v, rfl, _⟩ := h
    rfl
  · obtain ⟨v, rfl, d, k⟩ := h
    refine ⟨_, pss_one (ps_ret (pe_and (pt_isi B (pv 0) B.int PyProof.Rows.boot_int) (pe_one (pe_not (pt_isi B (pv 0) B.bool PyProof.Rows.boot_bool))))), ?_⟩
    refine isi_rd rfl (ans_int d) ⟨_, rfl, ?_⟩
    refine ite2 (fun c => ?_) (fun c => ?_)
    · refine isi_rd rfl (ans_bool d) ⟨_, rfl, ?_⟩
      have e : intV v = !isB v := by unfold intV; rw [c, Bool.true_and]
      rw [← e]
      exact k
    · have e : intV v = false := by unfold intV; rw [Bool.eq_false_iff.mpr c, Bool.false_and]
      rw [← e]
      exact k
/-! ### is_within -/
def wholeV (v : V) (lo hi : Int) : Bool := match v with | .int i => decide (lo ≤ i) && decide (i ≤ hi) | _ => false
theorem intV_is {v : V} (h : intV v = true) : ∃ i, v = .int i := by
  cases v with
  | int i => exact ⟨i, rfl⟩
  | _ => cases h
theorem wholeV_not {v : V} {lo hi : Int} (h : ¬ intV v = true) : wholeV v lo hi = false := by
  cases v with
  | int i => exact absurd (show intV (V.int i) = true from rfl) h
  | _ => rfl
def spWithin : Sp := fun vs H Q _ => ∃ (v : V) (lo hi : Int), vs = [v, .int lo, .int hi] ∧ Dat H v ∧ Q (.bl (wholeV v lo hi)) H
theorem sc2 : FnScope ["value", "least", "most"] ["value", "least", "most"] (defScope (top 2)) := ⟨rfl, rfl, rfl, by decide +kernel, rfl, by decide +kernel, by decide +kernel⟩
theorem ok2 {f : Addr} {fd : FuncData} (F : Fun K "is_within" "is_within" (top 2) f fd) (B : Blt mg) (C1 : Cal P w K mg base CX0 1 "is_integer" ["value"] spInteger) : FnOk P w K mg base CX0 2 f fd ["value", "least", "most"] spWithin := by
  refine F.ok sc2 (fun vs H Q E h => ?_) (fun cdv A outer s H vs Q E hr h => ?_)
  · obtain ⟨v, lo, hi, rfl, _⟩ := h
    rfl
  · obtain ⟨v, lo, hi, rfl, d, k⟩ := h
    refine ⟨_, pss_one (ps_ret (pe_and (pe_cal C1 hr (by decide) pass0 (pa_cons (pv 0) pa_nil)) (pe_one (pe_chain op_le op_le (pv 1) (pv 0) (pv 2))))), ?_⟩
    refine ⟨_, rfl, v, rfl, d, _, rfl, ?_⟩
    refine ite2 (fun c => ?_) (fun c => ?_)
    · obtain ⟨i, rfl⟩ := intV_is c
      refine ⟨_, rfl, _, rfl, _, _, rfl, rfl, _, rfl, ?_⟩
      have e : wholeV (.int i) lo hi = (decide (lo ≤ i) && decide (i ≤ hi)) := rfl
      refine ite2 (fun c1 => ?_) (fun c1 => ?_)
      · refine ⟨_, rfl, _, _, rfl, rfl, ?_⟩
        rw [c1, Bool.true_and] at e
        rw [e] at k
        exact k
      · rw [Bool.eq_false_iff.mpr c1, Bool.false_and] at e
        rw [e] at k
        exact k
    · rw [← wholeV_not (lo := lo) (hi := hi) c]
      exact k
/-! ### is_name -/
def letterV (c : Nat) : Bool := decide (97 ≤ c) && decide (c ≤ 122)
def nameS (s : Str) : Bool := (decide (1 ≤ s.length) && decide (s.length ≤ 8)) && s.cps.toList.all letterV
def nameV : V → Bool | .str s => nameS s | _ => false
theorem le_one (a b : Nat) : (!decide (([b] : List Nat) < [a])) = decide (a ≤ b) := by
  rw [Bool.eq_iff_iff]
  simp [List.cons_lt_cons_iff]
theorem start_drop {α : Type} (l : List α) (i : Nat) (x : α) (h : l[i]? = some x) : l.take (i + 1) = l.take i ++ [x] := by
  rw [List.take_add_one, h]
  rfl
/-- a comprehension over a text's signs -/
theorem lc_str {x : Str} {g : TG} {tt : TT} {te : TE} {vs : List Nat} {σ : St} {H1 : Hp} {D : Addr} {Qd : Hp → Prop} (Pv : Nat → Hp → Prop) (h0 : Pv 0 (upd H1 D (.lst [])))
    (hs : ∀ i c H, x.cps.toList[i]? = some c → Pv i H → g (.str ⟨#[c]⟩) (wipe σ vs) H fun σ2 H2 => wipe σ2 vs = wipe σ vs ∧ tt σ2 H2 fun b H3 =>
      if b = true then te σ2 H3 fun y H4 => ∃ acc, H4 D = some (.lst acc) ∧ acc.length < sizeLine ∧ Pv (i + 1) (upd H4 D (.lst (acc ++ [y]))) else Pv (i + 1) H3) (hd : ∀ H, Pv x.cps.size H → Qd H) :
    ∃ W : Nat → Nat → Hp → Prop, (∃ m, W 0 m (upd H1 D (.lst []))) ∧ ∀ i m H, W i m H →
      ((Its x).stop i H ∧ Qd H) ∨ ((Its x).go i H ∧ ∃ Nx : Hp → Prop, (∀ H', Nx H' → ∃ m', m' < m ∧ W (i + 1) m' H') ∧ ∀ v H', (Its x).yld i H v H' → g v (wipe σ vs) H' fun σ2 H2 => wipe σ2 vs = wipe σ vs ∧ tt σ2 H2 fun b H3 =>
        if b = true then te σ2 H3 fun y H4 => ∃ acc, H4 D = some (.lst acc) ∧ acc.length < sizeLine ∧ Nx (upd H4 D (.lst (acc ++ [y]))) else Nx H3) := by
  refine ⟨fun i m H => m + i = x.cps.size ∧ Pv i H, ⟨x.cps.size, by omega, h0⟩, ?_⟩
  rintro i m H ⟨hm, p⟩
  by_cases hlt : i < x.cps.size
  · refine .inr ⟨hlt, Pv (i + 1), fun H' p' => ⟨x.cps.size - (i + 1), by omega, by omega, p'⟩, fun v H' y => ?_⟩
    obtain ⟨e, c, hc, rfl⟩ := y
    subst e
    exact hs i c _ (by rw [Array.getElem?_toList]; exact hc) p
  · have e : i = x.cps.size := by omega
    subst e
    exact .inl ⟨Nat.le_refl _, hd H p⟩
def spName : Sp := fun vs H Q _ => ∃ v, vs = [v] ∧ Dat H v ∧ ∀ H', Same H H' → Q (.bl (nameV v)) H'
theorem sc3 : FnScope ["value", "letter"] ["value"] (defScope (top 3)) := ⟨rfl, rfl, rfl, by decide +kernel, rfl, by decide +kernel, by decide +kernel⟩
theorem ok3 {f : Addr} {fd : FuncData} (F : Fun K "is_name" "is_name" (top 3) f fd) (B : Blt mg) : FnOk P w K mg base CX0 1 f fd ["value"] spName := by
  refine F.ok sc3 (fun vs H Q E h => ?_) (fun cdv A outer s H vs Q E hr h => ?_)
  · obtain ⟨v, rfl, _⟩ := h
    rfl
  · obtain ⟨v, rfl, d, k⟩ := h
    refine ⟨_, pss_cons (ps_if (PW.pt (pw_or (pt_not (pt_val (pt_isi B (pv 0) B.str PyProof.Rows.boot_str))) (pw_or1 (pt_not (pt_chain op_le op_le pe_int (pe_callB call_len_str rfl B.len PySem.boot_len (pa_cons (pv 0) pa_nil)) pe_int))))) (pss_one (ps_ret pe_bl)) pss_nil)
      (pss_one (ps_ret (pe_callB (cr_all rfl) rfl B.all PyProof.Rows.boot_all (pa_cons (pe_lc (own := [("letter", 1)]) (g := gName 1) (tt := tYes) rfl sc3.nd (pi_str (pv 0)) (blkOk_by (N := ["value", "letter"]) (sc := defScope (top 3)) (by decide +kernel))
        (fun _ _ _ _ _ => pg_name (i := 1) sc3.nd rfl (Or.inl rfl)) (fun _ _ _ _ _ => pts_nil) (fun _ _ _ _ _ => pe_chain op_le_str op_le_str pe_str (pv 1) pe_str)) pa_nil)))), ?_⟩
    refine isi_rd rfl (ans_str d) ⟨_, rfl, ?_⟩
    cases d with
    | str s hso =>
      have hs := hso.1
      refine iteF ?_
      have hz : s.length ≤ sizeLine := by rw [sizeLine_eq]; omega
      have en : nameV (.str s) = ((decide ((1 : Int) ≤ (s.length : Int)) && decide ((s.length : Int) ≤ 8)) && s.cps.toList.all letterV) := by
        show nameS s = _
        unfold nameS
        congr 2 <;> (rw [Bool.eq_iff_iff]; simp; try omega)
      refine ⟨_, rfl, s, rfl, hz, _, _, rfl, rfl, _, rfl, ?_⟩
      refine ite2 (fun c1 => ?_) (fun c1 => ?_)
      · refine ⟨_, _, rfl, rfl, _, rfl, ?_⟩
        refine ite2 (fun c2 => ?_) (fun c2 => ?_)
        · have c2' : decide ((s.length : Int) ≤ 8) = false := by
            cases z : decide ((s.length : Int) ≤ 8) with
            | false => rfl
            | true => rw [z] at c2; exact absurd c2 (by decide)
          rw [c2', Bool.and_false, Bool.false_and] at en
          rw [en] at k
          exact k _ (Same.refl _)
        · have c2' : decide ((s.length : Int) ≤ 8) = true := by
            cases z : decide ((s.length : Int) ≤ 8) with
            | true => rfl
            | false => rw [z] at c2; exact absurd rfl c2
          rw [c1, c2', Bool.and_true, Bool.true_and] at en
          refine ⟨_, rfl, s, rfl, fun D hD => ?_⟩
          have low : ∀ c : Nat, letterV c = (!decide (([c] : List Nat) < [97]) && !decide (([122] : List Nat) < [c])) := fun c => by rw [le_one, le_one]; rfl
          refine lc_str (x := s) (fun i H1 => Same H H1 ∧ H1 D = some (.lst ((s.cps.toList.take i).map fun c => V.bl (letterV c)))) ⟨fun b o e => by rw [upd_ne (ne_of_none e hD)]; exact e, by rw [upd_same]; rfl⟩ ?_ ?_
          · rintro i c H1 hc ⟨s1, e1⟩
            refine ⟨rfl, ?_⟩
            unfold tYes
            dsimp only
            rw [if_pos rfl]
            have fin : ∀ b : Bool, b = letterV c → ∃ acc, H1 D = some (.lst acc) ∧ acc.length < sizeLine ∧ (Same H (upd H1 D (.lst (acc ++ [V.bl b]))) ∧ (upd H1 D (.lst (acc ++ [V.bl b]))) D = some (.lst ((s.cps.toList.take (i + 1)).map fun c => V.bl (letterV c)))) := fun b hb => by
              refine ⟨_, e1, ?_, fun b o e => ?_, ?_⟩
              · rw [List.length_map, List.length_take]
                have hl : s.cps.toList.length = s.length := rfl
                rw [sizeLine_eq]; omega
              · rw [upd_ne (ne_of_none e hD)]
                exact s1 b o e
              · rw [upd_same, start_drop _ _ _ hc, List.map_append, hb]
                rfl
            refine ⟨_, rfl, _, _, rfl, rfl, _, rfl, ?_⟩
            refine ite2 (fun d1 => ?_) (fun d1 => ?_)
            · refine ⟨_, _, rfl, rfl, ?_⟩
              refine fin _ ?_
              rw [low, show (!decide (([c] : List Nat) < [97])) = true from d1, Bool.true_and]
              rfl
            · refine fin false ?_
              rw [low, show (!decide (([c] : List Nat) < [97])) = false from Bool.eq_false_iff.mpr d1, Bool.false_and]
          · rintro H1 ⟨s1, e1⟩
            refine ⟨D, s.cps.toList.map letterV, rfl, SqL.of (by rw [e1, List.take_of_length_le (by simp), List.map_map]; rfl), ?_⟩
            rw [en, show s.cps.toList.all letterV = (s.cps.toList.map letterV).all id by rw [List.all_map]; rfl] at k
            exact k _ s1
      · refine ⟨_, rfl, ?_⟩
        refine iteT ?_
        rw [Bool.eq_false_iff.mpr c1] at en
        rw [en] at k
        exact k _ (Same.refl _)
    | _ =>
      refine iteT ?_
      refine iteT ?_
      exact k _ (Same.refl _)
end
end K1

set_option Elab.async false
set_option linter.all false
set_option maxRecDepth 100000
set_option maxHeartbeats 4000000
namespace K1
open PySem L2
/-- for i, x in enumerate(xs) -/
theorem for_enum {K : PySem.W.Frag} {a : Addr} {xs : List V} {g : TG} {tb : TS} {D : Ends} {σ : St} {H : Hp} (Pv : Nat → St → Hp → Prop) (h0 : Pv 0 σ H) (hl : ∀ i σ H, i ≤ xs.length → Pv i σ H → SqL K H a xs)
    (hs : ∀ i x σ H T, xs[i]? = some x → Pv i σ H → H T = none → g (.ref T) σ (upd H T (.tup [.int (i : Nat), x])) fun σ2 H2 => tb { D with nx := Pv (i + 1), ct := Pv (i + 1), bk := D.nx } σ2 H2) (hd : ∀ σ H, Pv xs.length σ H → D.nx σ H) :
    ∃ W : Nat → Nat → St → Hp → Prop, (∃ m, W 0 m σ H) ∧ ∀ i m σ H, W i m σ H →
      ((Ite K a).stop i H ∧ D.nx σ H) ∨ ((Ite K a).go i H ∧ ∃ N : St → Hp → Prop, (∀ σ' H', N σ' H' → ∃ m', m' < m ∧ W (i + 1) m' σ' H') ∧ ∀ x H', (Ite K a).yld i H x H' → g x σ H' fun σ2 H2 => tb { D with nx := N, ct := N, bk := D.nx } σ2 H2) := by
  refine ⟨fun i m σ H => m + i = xs.length ∧ Pv i σ H, ⟨xs.length, by omega, h0⟩, ?_⟩
  rintro i m σ H ⟨hm, p⟩
  have q := hl i σ H (by omega) p
  by_cases hlt : i < xs.length
  · have hx : xs[i]? = some xs[i] := List.getElem?_eq_getElem hlt
    refine .inr ⟨⟨xs, xs[i], q, hx⟩, Pv (i + 1), fun σ' H' p' => ⟨xs.length - (i + 1), by omega, by omega, p'⟩, fun v H' y => ?_⟩
    obtain ⟨T, x, rfl, hT, rfl, hq⟩ := y
    exact hs i x σ H T (hq xs q) p hT
  · have e : i = xs.length := by omega
    subst e
    exact .inl ⟨⟨xs, q, Nat.le_refl _⟩, hd σ H p⟩
/-- a pair is taken apart into two slots -/
theorem pair_rd {K : PySem.W.Frag} {i j : Nat} {T : Addr} {x y : V} {σ : St} {H : Hp} {Q : St → Hp → Prop} (h : Q ((σ.set i (some x)).set j (some y)) (upd H T (.tup [x, y]))) : gTup K 2 (gCons (gName i) (gCons (gName j) gNil)) (.ref T) σ (upd H T (.tup [x, y])) Q := by
  refine ⟨T, [x, y], rfl, SqT.of upd_same, rfl, ?_⟩
  exact ⟨x, [y], rfl, y, [], rfl, rfl, h⟩
theorem same_new {H H1 : Hp} {T : Addr} {o : HO} (s : Same H H1) (h : H1 T = none) : Same H (upd H1 T o) := fun b u e => by
  rw [upd_ne (ne_of_none (s b u e) h)]
  exact s b u e
/-! ### names seen -/
def keysOf (ss : List Str) : List (Key × V) := ss.map fun s => ((Sum.inr s : Key), V.bl true)
theorem keysOf_val (ss : List Str) (s : Str) : (valV (keysOf ss) (Sum.inr s : Key)).isSome = ss.contains s := by
  induction ss with
  | nil => rfl
  | cons a r ih =>
    rw [List.contains_cons]
    by_cases e : a = s
    · subst e
      rw [show keysOf (a :: r) = ((Sum.inr a : Key), V.bl true) :: keysOf r from rfl, valV_pos rfl]
      simp
    · have e1 : valV (keysOf (a :: r)) (Sum.inr s : Key) = valV (keysOf r) (Sum.inr s : Key) := by
        show valV (((Sum.inr a : Key), V.bl true) :: keysOf r) (Sum.inr s : Key) = _
        unfold valV
        rw [List.find?_cons, show decide (((Sum.inr a : Key), V.bl true).1 = (Sum.inr s : Key)) = false from decide_eq_false fun z => e (Sum.inr.inj z)]
      rw [e1, ih, show (s == a) = false from by simpa using fun z => e z.symm, Bool.false_or]
theorem keysOf_put (ss : List Str) (s : Str) (h : ss.contains s = false) : putK (keysOf ss) (Sum.inr s : Key) (V.bl true) = keysOf (ss ++ [s]) := by
  have e : valV (keysOf ss) (Sum.inr s : Key) = none := by
    have z := keysOf_val ss s
    rw [h] at z
    cases q : valV (keysOf ss) (Sum.inr s : Key) with
    | none => rfl
    | some v => rw [q] at z; cases z
  rw [putK_new _ e]
  unfold keysOf
  rw [List.map_append]
  rfl
theorem inV_str (s : Str) (ss : List Str) : inV (.str s) (ss.map V.str) = ss.contains s := by
  unfold inV
  induction ss with
  | nil => rfl
  | cons a r ih =>
    rw [List.map_cons, List.any_cons, ih, List.contains_cons]
    congr 1
    show (a == s) = (s == a)
    rw [Bool.eq_iff_iff, beq_iff_eq, beq_iff_eq]
    exact ⟨Eq.symm, Eq.symm⟩
theorem flat_str (ss : List Str) : (ss.map V.str).all flatV = true := by
  rw [List.all_map, List.all_eq_true]
  intro s _
  rfl
/-! ### first_bad_name -/
def badFrom (bar : List Str) : List V → List Str → Nat → Option Nat
  | [], _, _ => none
  | .str s :: r, seen, i => if (nameS s && !seen.contains s && !bar.contains s) = true then badFrom bar r (seen ++ [s]) (i + 1) else some i
  | _ :: _, _, i => some i
def optV : Option Nat → V | none => .non | some i => .int (i : Nat)
def firstBad (H : Hp) (v : V) (most : Int) (bar : List Str) : V := match lstOf H v with
  | none => .int (-1)
  | some xs => if (most : Int) < (xs.length : Int) then .int (-1) else optV (badFrom bar xs [] 0)
theorem badFrom_no {bar seen : List Str} {v : V} {r : List V} {i : Nat} (h : nameV v = false) : badFrom bar (v :: r) seen i = some i := by
  cases v with
  | str s =>
    have h' : nameS s = false := h
    show (if (nameS s && !seen.contains s && !bar.contains s) = true then _ else some i) = some i
    rw [h', if_neg (by simp)]
  | _ => rfl
theorem badFrom_str {bar seen : List Str} {s : Str} {r : List V} {i : Nat} : badFrom bar (.str s :: r) seen i = if (nameS s && !seen.contains s && !bar.contains s) = true then badFrom bar r (seen ++ [s]) (i + 1) else some i := rfl
theorem nameV_is {v : V} (h : nameV v = true) : ∃ s, v = .str s ∧ nameS s = true := by
  cases v with
  | str s => exact ⟨s, rfl, h⟩
  | _ => cases h
section
variable {P : Program} {w : World} {K : PySem.W.Frag} {mg : Str → Option Value} {base : Heap}
def spFirst : Sp := fun vs H Q _ => ∃ (v : V) (most : Int) (b : Addr) (bar : List Str), vs = [v, .int most, .ref b] ∧ Dat H v ∧ H b = some (.lst (bar.map V.str)) ∧ most ≤ 100 ∧ ∀ H', Same H H' → Q (firstBad H v most bar) H'
theorem sc25 : FnScope ["value", "most", "barred", "seen", "index", "name"] ["value", "most", "barred"] (defScope (top 25)) := ⟨rfl, rfl, rfl, by decide +kernel, rfl, by decide +kernel, by decide +kernel⟩
theorem ok25 {f : Addr} {fd : FuncData} (F : Fun K "first_bad_name" "first_bad_name" (top 25) f fd) (B : Blt mg) (C3 : Cal P w K mg base CX0 1 "is_name" ["value"] spName) : FnOk P w K mg base CX0 2 f fd ["value", "most", "barred"] spFirst := by
  refine F.ok sc25 (fun vs H Q E h => ?_) (fun cdv A outer s H vs Q E hr h => ?_)
  · obtain ⟨v, most, b, bar, rfl, _⟩ := h
    rfl
  · obtain ⟨v, most, b, bar, rfl, d, hb, hm, k⟩ := h
    have hu := hu_of hr
    refine ⟨_, pss_cons (ps_if (PW.pt (pw_or (pt_not (pt_val (pt_isi B (pv 0) B.list PyProof.Rows.boot_list))) (pw_or1 (pt_cmpR op_gt (pe_callB call_len_seq rfl B.len PySem.boot_len (pa_cons (pv 0) pa_nil)) (pv 1) (nomark _))))) (pss_one (ps_ret (pe_un un_neg pe_int))) pss_nil)
      (pss_cons (ps_set (i := 3) sc25.nd rfl (Or.inl rfl) pe_dnewK)
      (pss_cons (ps_for PassesOwn.never rfl (pi_enum rfl B.enumerate (pa_cons (pv 0) pa_nil)) (pg_tup rfl (pgs_cons (pg_name (i := 4) sc25.nd rfl (Or.inl rfl)) (pgs_cons (pg_name (i := 5) sc25.nd rfl (Or.inl rfl)) pgs_nil)))
        (pss_cons (ps_if (PW.pt (pw_or (pt_not (pt_val (pe_cal C3 hr (by decide) pass0 (pa_cons (pv 5) pa_nil)))) (pw_or (pt_cmp (pc_din hu (pv 5) (pv 3))) (pw_or1 (pt_cmpR op_in_seq (pv 5) (pv 2) rfl))))) (pss_one (ps_ret (pv 4))) pss_nil)
          (pss_one (ps_dput hu (pv 3) (pv 5) pe_bl rfl))))
      (pss_one (ps_ret pe_non)))), ?_⟩
    refine isi_rd rfl (ans_list d) ⟨_, rfl, ?_⟩
    cases hl : lstOf H v with
    | none =>
      have e : firstBad H v most bar = .int (-1) := by unfold firstBad; rw [hl]
      rw [e] at k
      refine iteT ?_
      refine iteT ?_
      exact ⟨_, rfl, k _ (Same.refl _)⟩
    | some xs =>
      obtain ⟨a, rfl, ha⟩ := lstOf_some hl
      refine iteF ?_
      refine ⟨_, rfl, a, xs, rfl, .inl (SqL.of ha), _, rfl, _, _, rfl, rfl, _, rfl, ?_⟩
      have e : firstBad H (.ref a) most bar = if (most : Int) < (xs.length : Int) then .int (-1) else optV (badFrom bar xs [] 0) := by unfold firstBad; rw [hl]
      rw [e] at k
      refine ite2 (fun c => ?_) (fun c => ?_)
      · rw [if_pos (of_decide_eq_true c)] at k
        exact ⟨_, rfl, k _ (Same.refl _)⟩
      · rw [if_neg (fun z => c (decide_eq_true z))] at k
        have hlen : xs.length ≤ 100 := by
          have z : ¬ (most : Int) < (xs.length : Int) := fun z => c (decide_eq_true z)
          omega
        have di := d.items ha
        intro D hD
        refine ⟨_, rfl, a, xs, rfl, SqL.of (by rw [upd_ne (ne_of_none ha hD)]; exact ha), ?_⟩
        refine for_enum (fun i σ H1 => ∃ (ss : List Str) (v4 v5 : Option V), σ = [some (.ref a), some (.int most), some (.ref b), some (.ref D), v4, v5] ∧ Same H H1 ∧ H1 D = some (.dK (keysOf ss)) ∧ xs.take i = ss.map V.str ∧ ss.length = i ∧ i ≤ xs.length ∧ badFrom bar xs [] 0 = badFrom bar (xs.drop i) ss i)
          ⟨[], none, none, rfl, fun b o e => by rw [upd_ne (ne_of_none e hD)]; exact e, upd_same, rfl, rfl, Nat.zero_le _, rfl⟩ (fun i σ H1 _ ⟨_, _, _, _, s1, _⟩ => SqL.of (s1 _ _ ha)) ?_ ?_
        · rintro i x σ H1 T hx ⟨ss, v4, v5, rfl, s1, hD1, ht, hsl, hi, hbad⟩ hT
          refine pair_rd ?_
          have s2 : Same H (upd H1 T (.tup [.int (i : Nat), x])) := same_new s1 hT
          have hd2 : Dat (upd H1 T (.tup [.int (i : Nat), x])) x := (di x (List.mem_of_getElem? hx)).mono s2
          have hdr : xs.drop i = x :: xs.drop (i + 1) := by
            obtain ⟨h1, h2⟩ := List.getElem?_eq_some_iff.mp hx
            rw [List.drop_eq_getElem_cons h1, h2]
          rw [hdr] at hbad
          refine ⟨_, rfl, x, rfl, hd2, fun H3 s3 => ⟨_, rfl, ?_⟩⟩
          have s4 := s2.trans s3
          cases hn : nameV x with
          | false =>
            rw [badFrom_no hn] at hbad
            refine iteT ?_
            refine iteT ?_
            rw [hbad] at k
            exact ⟨_, rfl, k _ s4⟩
          | true =>
            obtain ⟨z, rfl, hz⟩ := nameV_is hn
            refine iteF ?_
            have hD3 : H3 D = some (.dK (keysOf ss)) := s3 _ _ (by rw [upd_ne (ne_of_none hD1 hT)]; exact hD1)
            refine ⟨_, rfl, _, rfl, D, _, rfl, DGet.k (k := Sum.inr z) hD3, _, rfl, ?_⟩
            rw [keysOf_val]
            rw [badFrom_str, hz, Bool.true_and] at hbad
            cases hc : ss.contains z with
            | true =>
              rw [hc] at hbad
              refine iteT ?_
              refine iteT ?_
              rw [if_neg (by simp)] at hbad
              rw [hbad] at k
              exact ⟨_, rfl, k _ s4⟩
            | false =>
              rw [hc] at hbad
              refine iteF ?_
              refine ⟨_, rfl, _, rfl, b, _, rfl, .inl (SqL.of (s4 _ _ hb)), rfl, flat_str _, _, rfl, ?_⟩
              rw [if_neg (show ¬ (false = true) from Bool.false_ne_true), inV_str]
              cases hc2 : bar.contains z with
              | true =>
                rw [hc2, if_neg (by simp)] at hbad
                refine iteT ?_
                rw [hbad] at k
                exact ⟨_, rfl, k _ s4⟩
              | false =>
                rw [hc2, if_pos (by simp)] at hbad
                refine iteF ?_
                refine ⟨_, rfl, _, rfl, D, _, rfl, DPut.k (k := Sum.inr z) hD3 (by unfold keysOf; rw [List.length_map, sizeLine_eq]; omega), ?_⟩
                refine ⟨ss ++ [z], _, _, rfl, fun c o e => ?_, ?_, ?_, ?_, ?_, hbad⟩
                · rw [upd_ne (ne_of_none e hD)]
                  exact s4 c o e
                · rw [upd_same, keysOf_put _ _ hc]
                · rw [start_drop _ _ _ hx, ht, List.map_append]
                  rfl
                · rw [List.length_append, hsl]; rfl
                · exact (List.getElem?_eq_some_iff.mp hx).1
        · rintro σ H1 ⟨ss, v4, v5, rfl, s1, hD1, ht, hsl, hi, hbad⟩
          rw [List.drop_eq_nil_of_le (Nat.le_refl _)] at hbad
          rw [hbad] at k
          exact k _ s1
end
end K1

set_option Elab.async false
set_option linter.all false
set_option maxRecDepth 100000
set_option maxHeartbeats 4000000
/-! own exceptions over ArithmeticError with an __init__ of their own -/
namespace PySem
namespace K1X
open PySem.W PySem.Calls PyProof.Rows PySem.HandSPX
abbrev tailA : List Value := [.type "ArithmeticError", .type "Exception", .type "BaseException", .type "object"]
/-- one own class between, then ArithmeticError's line -/
def LineA (bm : List Value) : Prop := ∃ R : Addr, bm = .ref R :: tailA
theorem LineA.has {bm : List Value} (l : LineA bm) (T : String) : bm.contains (.type T) = tailA.contains (.type T) := by
  obtain ⟨R, rfl⟩ := l
  rw [List.contains_cons, show (Value.type T == Value.ref R) = false from rfl, Bool.false_or]
theorem LineA.free {bm : List Value} (l : LineA bm) (self : Value) (C : Addr) : refuseLoop self "__setattr__" (.ref C :: bm) = pure () := by
  obtain ⟨R, rfl⟩ := l
  rw [refuseLoop_ref, refuseLoop_ref]
  exact PySem.F.store_ArithmeticError.passes self
section
open Builtin Builtin.ObjectAttr
variable {pg : Program} {wd : World} {Ar : Around} {Er : Value → Shared → Prop} {Rs : Result → Shared → Prop} {h0 : Heap} {gs : Array GenState} {dr : Drawn} {tk0 : Nat} {oss : OsState}
/-- a store by object.__setattr__ on such an exception comes to the store in its own dict -/
theorem own_store {Kf : Frag} {nm : Str} {tk : Tok} {v : Value} {x C : Addr} {ob : Obj} {odd : Option Obj} {cd : ClassData} {bm : List Value} (X : Kf.In h0) (J : InstAt h0 x ob C odd) (hcd : clsIn Kf C = some cd) (hm : cd.mro = .ref C :: bm) (l : LineA bm)
    (ha : findIn Kf (.ref C) nm = some none)
    (q : ∀ (A2 : Around) (E2 : Value → Shared → Prop) (Q2 : Fin → Shared → Prop), (∀ s2, Rs (.ok (.ret .none)) s2 → Q2 (.done (.ret .none)) s2) → wpAny (model pg wd) A2 (storeInOwnDict (.ref x) (.ref C) (.str nm tk) nm v false) Q2 E2 ⟨h0, gs, dr, tk0, oss⟩) :
    codeAny (model pg wd) Ar (.call (.builtin "object.__setattr__") ⟨[.ref x, .str nm tk, v], []⟩) Rs ⟨h0, gs, dr, tk0, oss⟩ := by
  have ST := PySem.F.store_object
  have one : cd.mro.isEmpty = false := by
    rw [hm]
    rfl
  have obj : cd.mro.contains (.type "object") = true := by
    rw [hm, List.contains_cons, l.has, show (Value.type "object" == Value.ref C) = false from rfl, Bool.false_or]
    decide +kernel
  have below : Looks (model pg wd) h0 (isInstance (.ref x) (.type "object")) true :=
    J.type.andThen (looks_mroIn X (by
      unfold mroIn
      rw [hcd, Option.bind_some, if_neg (by rw [one]; decide), obj]))
  refine codeAny_call_builtin ST.slot.plain ST.entry ?_
  refine @check_slot (model pg wd) _ _ ⟨h0, gs, dr, tk0, oss⟩ "object.__setattr__" "object" "__setattr__" (.ref x) [.str nm tk, v] [] _ ST.kind ST.split below (ST.args (.ref x) (.str nm tk) v) ?_
  have line : Looks (model pg wd) h0 (mroOf (.ref C)) cd.mro := (looks_clsIn X hcd).andThen .now
  have none' : Looks (model pg wd) h0 (storeTaker? none) none := .now
  rw [osa_eq, refuse_eq]
  refine wpAny_bind (wpAny_bind (J.type.at ?_))
  refine wpAny_bind (line.at ?_)
  rw [hm, l.free]
  refine wpAny_pure (wpAny_bind (J.type.at ?_))
  refine wpAny_bind ((looks_findIn X ha).at ?_)
  refine wpAny_bind (none'.at ?_)
  exact q _ _ _ fun _ z => z
theorem put_more {Md : Model} {dx : Addr} {nm : Str} {tk : Tok} {v : Value} {m0 : Str → Option Value} {ns : List Str} {Q : Fin → Shared → Prop} (sp : h0.Ns1 dx m0) (inn : Within m0 ns) (few : ns.length ≤ 1000)
    (q : ∀ h1 tk1, h1.Ns1 dx (fun y => if y = nm then some v else m0 y) → Heap.SameBut dx h0 h1 → Q (.done (.ret .none)) ⟨h1, gs, dr, tk1, oss⟩) :
    wpAny Md Ar (storeInDict dx (.str nm tk) nm v) Q Er ⟨h0, gs, dr, tk0, oss⟩ := by
  unfold storeInDict newKeyGuard
  refine wpAny_bind (wpAny_pure (wpAny_bind ?_))
  refine wpAny_nsSet1 sp fun h1 sp1 sb => ?_
  obtain ⟨oD, esD, epD, hoD, hdD, hcD⟩ := sp1.count (Within.cons nm v inn)
  have small : esD.size ≤ sizeLine + 1 := by
    have z : (nm :: ns).length ≤ 1001 := by rw [List.length_cons]; omega
    rw [sizeLine_eq]
    omega
  refine wpAny_bind (wpAny_lookBehind hoD ?_ ?_)
  · rw [hdD]
    exact pastItsLine_dict small
  · wp_walk
    exact q h1 _ sp1 sb
/-- its first field: the dict is made -/
theorem set_first {Kf : Frag} {nm : Str} {tk : Tok} {v : Value} {x C : Addr} {fv : Array Value} {cd : ClassData} {bm : List Value} (X : Kf.In h0) (hx : h0.get? x = some { cls := .ref C, data := .fields fv }) (hcd : clsIn Kf C = some cd) (hm : cd.mro = .ref C :: bm) (l : LineA bm)
    (hh : cd.hasDict = true) (ha : findIn Kf (.ref C) nm = some none)
    (hq : ∀ h1 tk1 dx, (∀ b o, b ≠ x → h0.get? b = some o → h1.get? b = some o) → h0.objs.size ≤ dx → dx ≠ x → h1.get? x = some { cls := .ref C, dict := some dx, data := .fields fv } →
      h1.Ns1 dx (fun y => if y = nm then some v else none) → Rs (.ok (.ret .none)) ⟨h1, gs, dr, tk1, oss⟩) :
    codeAny (model pg wd) Ar (.call (.builtin "object.__setattr__") ⟨[.ref x, .str nm tk, v], []⟩) Rs ⟨h0, gs, dr, tk0, oss⟩ := by
  have J : InstAt h0 x { cls := .ref C, data := .fields fv } C none := ⟨hx, rfl, rfl, trivial⟩
  have ap : x ≠ h0.objs.size := Nat.ne_of_lt (Heap.lt_size hx)
  refine own_store X J hcd hm l ha fun A2 E2 Q2 hQ => ?_
  have cls : Looks (model pg wd) h0 (classData C) cd := looks_clsIn X hcd
  obtain ⟨n1, n2, n3, n4, n5, n6, n7, n8, n9, n10, n11⟩ := cd
  dsimp only at hh
  subst hh
  unfold storeInOwnDict ownDictForStores
  repeat (first | with_reducible refine store_in_new ?_ ?_ | with_reducible refine wpAny_loadPart_at hx ?_ | with_reducible refine cls.at ?_ | wp_step)
  · exact ⟨_, #[], _,
      ((Heap.get?_update_ne _ _ _ _ ap.symm).trans (Heap.get?_push_at rfl rfl)),
      rfl, fun e he => absurd he (by simp), fun _ => rfl⟩
  · intro h1 tk1 sp1 sb
    have up : (h0.push { cls := .type "dict", data := .dict #[] }).get? x = some { cls := .ref C, data := .fields fv } := Heap.get?_push_of_some _ hx
    refine hQ _ (hq h1 tk1 h0.objs.size (fun b o nb ob => ?_) (Nat.le_refl _) ap.symm ?_ sp1)
    · have nb2 : b ≠ h0.objs.size := Nat.ne_of_lt (Heap.lt_size ob)
      exact (sb.2 b nb2).trans ((Heap.get?_update_ne _ _ _ _ nb).trans (Heap.get?_push_of_some _ ob))
    · exact (sb.2 x ap).trans (Heap.get?_update_self _ up rfl)
/-- a further field -/
theorem set_next {Kf : Frag} {nm : Str} {tk : Tok} {v : Value} {x C dx : Addr} {fv : Array Value} {cd : ClassData} {bm : List Value} {m0 : Str → Option Value} {ns : List Str} (X : Kf.In h0) (hx : h0.get? x = some { cls := .ref C, dict := some dx, data := .fields fv })
    (sp : h0.Ns1 dx m0) (inn : Within m0 ns) (few : ns.length ≤ 1000) (hcd : clsIn Kf C = some cd) (hm : cd.mro = .ref C :: bm) (l : LineA bm) (hh : cd.hasDict = true) (ha : findIn Kf (.ref C) nm = some none)
    (hq : ∀ h1 tk1, (∀ b o, b ≠ dx → h0.get? b = some o → h1.get? b = some o) → h1.Ns1 dx (fun y => if y = nm then some v else m0 y) → Rs (.ok (.ret .none)) ⟨h1, gs, dr, tk1, oss⟩) :
    codeAny (model pg wd) Ar (.call (.builtin "object.__setattr__") ⟨[.ref x, .str nm tk, v], []⟩) Rs ⟨h0, gs, dr, tk0, oss⟩ := by
  obtain ⟨oD, esD, epD, hoD, hdD, _⟩ := sp.count inn
  have J : InstAt h0 x { cls := .ref C, dict := some dx, data := .fields fv } C (some oD) := ⟨hx, rfl, rfl, hoD⟩
  refine own_store X J hcd hm l ha fun A2 E2 Q2 hQ => ?_
  have cls : Looks (model pg wd) h0 (classData C) cd := looks_clsIn X hcd
  obtain ⟨n1, n2, n3, n4, n5, n6, n7, n8, n9, n10, n11⟩ := cd
  dsimp only at hh
  subst hh
  unfold storeInOwnDict ownDictForStores
  repeat (first | with_reducible refine put_more sp inn few ?_ | with_reducible refine wpAny_loadPart_at hx ?_ | with_reducible refine cls.at ?_ | wp_step)
  intro h1 tk1 sp1 sb
  exact hQ _ (hq h1 tk1 (fun b o nb ob => (sb.2 b nb).trans ob) sp1)
end
end K1X
end PySem
namespace L2
open PySem PySem.Spec PyProof.Rows PySem.K1X
/-- what the written part says of such a class -/
structure ExA (K : PySem.W.Frag) (C : Addr) : Prop where
  cls : ∃ nm q N bs bm sn sub ab col dd k0 k1 k2 k3 k5, K.lookup C = some (excClassObj nm q C N bs bm true sn sub ab col dd k0 k1 k2 k3 k5 "ArithmeticError.__new__") ∧ LineA bm
  sa : PySem.W.findIn K (.ref C) "__setattr__" = some (some (.builtin "object.__setattr__"))
  exC : PySem.W.subIn K (.ref C) (.type "BaseException") = some true
  tyC : PySem.W.typeIn K (.ref C) = some (.type "type")
  kC : PySem.W.keepIn K (.ref C) = true
section
variable {X : Cx} {pins : List (Addr × Obj)} {σ : St} {H : Hp} {s : Shared} {a C dx : Addr} {f : Str} {y : V} {u : Value} {fs : List (Str × V)} {Q : Unit → Shared → Prop} {E : Value → Shared → Prop} {A : Around}
/-- self.f = y, the first one -/
theorem ea_first (T : ExA X.K C) (I : Inv X pins σ H s) (e : H a = some (exo a C none)) (no : PySem.W.findIn X.K (.ref C) f = some none) (ry : RelV y u)
    (h : ∀ dx s', H dx = none → dx ≠ a → Inv X pins σ (upd (upd H dx (exd dx [(f, y)])) a (exo a C (some dx))) s' → Q () s') : wpAny (model X.prog X.w) A (setAttr (.ref a) f u) Q E s := by
  obtain ⟨nm, q, N, bs, bm, sn, sub, ab, col, dd, k0, k1, k2, k3, k5, hC, line⟩ := T.cls
  have there : PySem.W.clsIn X.K C = some { name := nm, bases := bs, mro := .ref C :: bm, ns := N, qualname := q, hasDict := true, slotNames := sn, subclasses := sub, abstract := ab, collection := col, hasDel := false } := by
    unfold PySem.W.clsIn
    rw [hC] <;> rfl
  obtain ⟨t1, ho⟩ := exo_at I.hok e
  obtain ⟨hp, g, d, t, os⟩ := s
  refine PySem.W.set_plain I.kIn (ox := { cls := .ref C, dict := none, data := .fields #[.ref t1, .none, .none, .none, .bool false, .none] }) (od := none) ⟨ho, rfl, rfl, trivial⟩ T.sa ?_
  refine set_first I.kIn ho there rfl line rfl no fun h1 tk1 dx kp dn dne hx sp => ?_
  have fresh : H dx = none := I.hok.fresh dn
  have old : ∀ {b : Addr} {o : Obj}, hp.get? b = some o → b ≠ dx := fun {b o} z => Nat.ne_of_lt (Nat.lt_of_lt_of_le (Heap.lt_size z) dn)
  have other : ∀ {b : Addr}, H b = none → b ≠ a := fun {b} n z => by
    rw [z, e] at n
    cases n
  have un : Un X.fs [] H (upd (upd H dx (exd dx [(f, y)])) a (exo a C (some dx))) hp h1 := {
    keep := fun b o z n _ _ => kp b o (other n) z
    slot := fun b o z n _ _ => ⟨o.slots, kp b o (other n) z⟩
    free := fun b o z n _ => by
      rw [upd_ne (other n), upd_ne (old z)]
      exact n
    there := fun b o z _ => by
      by_cases hb : b = a
      · exact ⟨_, by rw [hb]; exact hx⟩
      · exact ⟨o, kp b o hb z⟩
    tups := fun b xs z => by
      rw [upd_ne (at_ne e z exo_tup), upd_ne (ne_of_none z fresh)]
      exact z
    frzs := fun b o v z => by
      rw [upd_ne (at_ne e z exo_frz), upd_ne (ne_of_none z fresh)]
      exact z
    tbls := fun b ps z => ⟨#[], by
      rw [upd_ne (at_ne e z exo_tbl), upd_ne (ne_of_none z fresh), z]
      simp⟩ }
  refine h dx _ fresh dne (I.un (t' := tk1) un fun b o z => ?_)
  by_cases hb : b = a
  · subst hb
    rw [upd_same] at z
    cases z
    exact exo_ok hx
  · rw [upd_ne hb] at z
    by_cases hd : b = dx
    · subst hd
      rw [upd_same] at z
      cases z
      exact exd_ok sp (relO_put (fs := []) ry fun g => True.intro)
    · rw [upd_ne hd] at z
      refine (I.hok b o z).stay (fun c v hc r => kp c v ?_ r) (fun c hc => ?_) (fun c xs hc => ?_)
      · rcases hc with hc | hc
        · rw [hc]
          exact hb
        · exact at_ne e hc exo_own
      · rw [upd_ne (at_ne e hc exo_own), upd_ne (ne_of_none hc fresh)]
        exact hc
      · rw [upd_ne (at_ne e hc exo_tup), upd_ne (ne_of_none hc fresh)]
        exact hc
/-- self.f = y, a further one -/
theorem ea_next (T : ExA X.K C) (I : Inv X pins σ H s) (e : H a = some (exo a C (some dx))) (ed : H dx = some (exd dx fs)) (hl : fs.length ≤ 900) (no : PySem.W.findIn X.K (.ref C) f = some none) (ry : RelV y u)
    (h : ∀ s', Inv X pins σ (upd H dx (exd dx ((f, y) :: fs))) s' → Q () s') : wpAny (model X.prog X.w) A (setAttr (.ref a) f u) Q E s := by
  obtain ⟨nm, q, N, bs, bm, sn, sub, ab, col, dd, k0, k1, k2, k3, k5, hC, line⟩ := T.cls
  have there : PySem.W.clsIn X.K C = some { name := nm, bases := bs, mro := .ref C :: bm, ns := N, qualname := q, hasDict := true, slotNames := sn, subclasses := sub, abstract := ab, collection := col, hasDel := false } := by
    unfold PySem.W.clsIn
    rw [hC] <;> rfl
  obtain ⟨t1, ho⟩ := exo_at I.hok e
  obtain ⟨mA, sp, rel⟩ := exd_at I.hok ed
  have inn := within_of rel
  obtain ⟨hp, g, d, t, os⟩ := s
  obtain ⟨oD, _, _, hoD, _, _⟩ := sp.count inn
  refine PySem.W.set_plain I.kIn (ox := { cls := .ref C, dict := some dx, data := .fields #[.ref t1, .none, .none, .none, .bool false, .none] }) (od := some oD) ⟨ho, rfl, rfl, hoD⟩ T.sa ?_
  refine set_next I.kIn ho sp inn (by rw [List.length_map]; omega) there rfl line rfl no fun h1 tk1 kp sp1 => ?_
  have hd : ∃ o, h1.get? dx = some o := by
    obtain ⟨o, _, _, z, _⟩ := sp1
    exact ⟨o, z⟩
  refine h _ (I.write (t' := tk1) (x := dx) (e := dx) (o := exd dx ((f, y) :: fs)) ?_ (.inl rfl) kp hd (exd_ok sp1 (relO_put ry rel)))
  rw [ed]
  exact True.intro
end
/-- self.f = e within such an __init__ -/
def tEa (K : PySem.W.Frag) (f : Str) (to te : TE) : TS := fun D σ H => te σ H fun y H1 => to σ H1 fun x H2 => ∃ a C : Addr, x = .ref a ∧ ExA K C ∧ PySem.W.findIn K (.ref C) f = some none ∧
  ((H2 a = some (exo a C none) ∧ ∀ dx, H2 dx = none → dx ≠ a → D.nx σ (upd (upd H2 dx (exd dx [(f, y)])) a (exo a C (some dx)))) ∨
    ∃ (dx : Addr) (fs : List (Str × V)), H2 a = some (exo a C (some dx)) ∧ H2 dx = some (exd dx fs) ∧ fs.length ≤ 900 ∧ D.nx σ (upd H2 dx (exd dx ((f, y) :: fs))))
section
variable {X : Cx} {o e : Expr} {es : List Expr} {to te : TE} {ta : TA} {f : Str} {p p' p1 p2 pos : Pos}
theorem ps_ea (ho : PE X o to) (he : PE X e te) (sw : swapsWith e (some (.Attribute o f p')) pos.line X.env = pure false := by rfl) : PS X (.Assign [.Attribute o f p'] e pos) (tEa X.K f to te) := by
  refine ⟨fun pins s σ H D I h => ?_⟩
  refine plainObj_wpAny_Assign_Attribute ?_ sw
  refine thn (he.run pins s σ H _ I h) fun v s1 ⟨y, H1, I1, r1, q1⟩ => ?_
  refine thn (ho.run pins s1 σ H1 _ I1 q1) fun u s2 ⟨x, H2, I2, r2, a, C, ex, T, no, q⟩ => ?_
  subst ex
  obtain rfl : u = Value.ref a := r2
  rcases q with ⟨ea, q⟩ | ⟨dx, fs, ea, ed, hl, q⟩
  · exact ea_first T I2 ea no r1 fun dx s' n ne J => ⟨σ, _, J, q dx n ne⟩
  · exact ea_next T I2 ea ed hl no r1 fun s' J => ⟨σ, _, J, q⟩
/-- C(e, ..) of such a class, to be raised -/
theorem pmk_ea {CX : CXT} {x : Str} {C fI : Addr} {k : Nat} {fd : FuncData} {ps : List Str} {sp : Sp} {ds : List Value} {dvs : List V} (T : ExA X.K C) (iC : PySem.W.findIn X.K (.ref C) "__init__" = some (some (.ref fI))) (tI : PySem.W.typeIn X.K (.ref fI) = some (.type "function"))
    (F1 : FnOk X.prog X.w X.K X.mg X.base CX k fI fd ps sp) (hr : Room (k + 1) X.A) (hb : Binds X.K fd ps ds) (hd : Vals dvs ds) (hx : Passes CX X (fun _ _ _ => False)) (hg : Gl X x) (hm : X.mg x = some (.ref C)) (ha : PA X (e :: es) ta)
    (hdb : (x == ("__debug__" : Str)) = false := by decide) (he : starEach (e :: es) X.env = (false, eval e X.env) :: starEach es X.env := by rfl) (hpl : (backTo pos (starEach es X.env)).any (·.1) = false := by rfl) :
    PMk X (.Call (.Name x p) (e :: es) [] pos) (tMkO C sp dvs ta) := by
  intro pins s σ H Q I h
  obtain ⟨nm, q, N, bs, bm, sn, sub, ab, col, dd, k0, k1, k2, k3, k5, hC, line⟩ := T.cls
  refine wpAny_Call_Name_kw (ld_glob I hg hm ?_ hdb)
  refine PySem.W.callWith_K (h₀ := X.base) I.ok.mod.kin T.kC ?_ he hpl
  refine thn (ha.run pos pins s σ H _ I h) fun us s1 ⟨vs, H1, I1, r1, hz, q1⟩ => ⟨I1.kIn, ?_⟩
  show wpAny _ _ (call (.ref C) us) _ _ _
  obtain ⟨hp, g, dr, tk, os⟩ := s1
  have le1 : hp.objs.size ≤ hp.objs.size + 1 := Nat.le_succ _
  have free : H1 (hp.objs.size + 1) = none := I1.hok.fresh le1
  have ask := q1 (hp.objs.size + 1) free
  have stay : ∀ b o, hp.get? b = some o → ((hp.push (PySem.W.kdv_tup us)).push (PySem.HandSPX.excO C hp.objs.size)).get? b = some o := fun b o z => Heap.get?_push_of_some _ (Heap.get?_push_of_some _ z)
  have got : ((hp.push (PySem.W.kdv_tup us)).push (PySem.HandSPX.excO C hp.objs.size)).get? (hp.objs.size + 1) = some (PySem.HandSPX.excO C hp.objs.size) := by heap_get
  have I2 : Inv X pins σ (upd H1 (hp.objs.size + 1) (exo (hp.objs.size + 1) C none)) ⟨(hp.push (PySem.W.kdv_tup us)).push (PySem.HandSPX.excO C hp.objs.size), g, dr, tk, os⟩ := by
    refine I1.laid (t' := tk) (a := hp.objs.size + 1) (o := exo (hp.objs.size + 1) C none) ?_ le1 (exo_ok got)
    exact stay
  have r2 : Vals (V.ref (hp.objs.size + 1) :: (vs ++ dvs)) (Value.ref (hp.objs.size + 1) :: (us ++ ds)) := .cons rfl (r1.append hd)
  have len : (Value.ref (hp.objs.size + 1) :: us ++ ds).length = ps.length := by
    have z := r2.length
    rw [F1.len _ _ _ _ ask] at z
    exact z.symm
  have few : us.length ≤ sizeLine := by
    rw [← Paired.length r1, sizeLine_eq]
    omega
  refine wpAny_call ?_
  refine PySem.HandSPX.call_own F.excBase_ArithmeticError (fun Y => line.has Y) (I1.kIn _ _ hC) (PySem.W.looks_findIn I1.kIn iC) (fun self => PySem.W.bind_fn I1.kIn self tI) few ?_
  refine codeAny_mono (F1.run _ X.stack _ _ ⟨Value.ref (hp.objs.size + 1) :: us, []⟩ (Value.ref (hp.objs.size + 1) :: (us ++ ds)) _ _ (fun _ _ _ => False) (hr.make C us []) (I2.env0.make C us []) (hb _ (Value.ref (hp.objs.size + 1) :: us) I2.kIn len) r2 ask) fun r s' back => ?_
  cases r with
  | error er => exact hx pins σ _ _ er s' I2 back
  | ok fl =>
    cases fl with
    | ret u =>
      obtain ⟨v, H2, os2, bare2, un2, hok2, rv, ev, d, fs, ea, ed, hd1, q2⟩ := back
      subst ev
      obtain ⟨h2, g2, d2, t2, os'⟩ := s'
      exact ⟨rv, mk_end (raises_own T.exC T.tyC) I1 le1 stay un2 hok2 os2 bare2 ea ed hd1 q2⟩
    | next => exact False.elim back
    | brk => exact False.elim back
    | cont => exact False.elim back
end
end L2

set_option Elab.async false
set_option linter.all false
set_option maxRecDepth 100000
set_option maxHeartbeats 4000000
namespace K1
open PySem L2
theorem lstOf_same {H H' : Hp} {v : V} (d : Dat H v) (s : Same H H') : lstOf H' v = lstOf H v := by
  cases d with
  | lst e _ => rw [lstOf_of e, lstOf_of (s _ _ e)]
  | tup e _ => rw [lstOf_tup e, lstOf_tup (s _ _ e)]
  | dic e => rw [lstOf_dic e, lstOf_dic (s _ _ e)]
  | _ => rfl
theorem tupOf_same {H H' : Hp} {v : V} (d : Dat H v) (s : Same H H') : tupOf H' v = tupOf H v := by
  cases d with
  | lst e _ => rw [tupOf_lst e, tupOf_lst (s _ _ e)]
  | tup e _ => rw [tupOf_of e, tupOf_of (s _ _ e)]
  | dic e => rw [tupOf_dic e, tupOf_dic (s _ _ e)]
  | _ => rfl
theorem firstBad_same {H H' : Hp} {v : V} {most : Int} {bar : List Str} (d : Dat H v) (s : Same H H') : firstBad H' v most bar = firstBad H v most bar := by
  unfold firstBad
  rw [lstOf_same d s]
/-! ### raise InvalidProgram(part, at) -/
/-- what is wished where it leaves -/
def Rz (C : Addr) (H : Hp) (part at_ : V) (E : XK) : Prop := ∀ (d : Addr) (H' : Hp), Same H H' → H d = none → H' d = some (.xd [("at", at_), ("part", part)]) → E (.ref C) (some d) H'
theorem Rz.later {C : Addr} {H H1 : Hp} {part at_ : V} {E : XK} (r : Rz C H part at_ E) (s : Same H H1) : Rz C H1 part at_ E := fun d H' s' n e => r d H' (s.trans s') (s.free n) e
def spIP (C : Addr) : Sp := fun vs H Q _ => ∃ (a : Addr) (p q : V), vs = [.ref a, p, q] ∧ H a = some (exo a C none) ∧
  ∀ (dx : Addr) (H' : Hp), H dx = none → dx ≠ a → H' a = some (exo a C (some dx)) → H' dx = some (exd dx [("at", q), ("part", p)]) → (∀ b o, H b = some o → b ≠ a → H' b = some o) → Q .non H'
abbrev sIP : Stmt := inClass (top 7) 0
section
variable {P : Program} {w : World} {K : PySem.W.Frag} {mg : Str → Option Value} {base : Heap}
theorem scIP : FnScope ["self", "part", "at"] ["self", "part", "at"] (defScope sIP) := ⟨rfl, rfl, rfl, by decide +kernel, rfl, by decide +kernel, by decide +kernel⟩
theorem okIP {f C : Addr} {fd : FuncData} (F : Fun K "__init__" "InvalidProgram.__init__" sIP f fd) (T : ExA K C) (n1 : PySem.W.findIn K (.ref C) "part" = some none) (n2 : PySem.W.findIn K (.ref C) "at" = some none) : FnOk P w K mg base CX0 1 f fd ["self", "part", "at"] (spIP C) := by
  refine F.ok scIP (fun vs H Q E h => ?_) (fun cdv A outer s H vs Q E hr h => ?_)
  · obtain ⟨a, p, q, rfl, _⟩ := h
    rfl
  · obtain ⟨a, p, q, rfl, ha, k⟩ := h
    refine ⟨_, pss_cons (ps_ea (pv 0) (pv 1)) (pss_one (ps_ea (pv 0) (pv 2))), ?_⟩
    refine ⟨_, rfl, _, rfl, a, C, rfl, T, n1, .inl ⟨ha, fun dx hd na => ?_⟩⟩
    refine ⟨_, rfl, _, rfl, a, C, rfl, T, n2, .inr ⟨dx, _, upd_same, by rw [upd_ne na, upd_same], (by show 1 ≤ 900; decide), ?_⟩⟩
    refine k dx _ hd na ?_ upd_same fun b o e nb => ?_
    · rw [upd_ne na.symm, upd_same]
    · rw [upd_ne (ne_of_none e hd), upd_ne nb, upd_ne (ne_of_none e hd)]
      exact e
/-- the class as its raisers know it -/
structure Ipc (P : Program) (w : World) (K : PySem.W.Frag) (mg : Str → Option Value) (base : Heap) (C : Addr) : Prop where
  T : ExA K C
  ex : ∃ (f : Addr) (fd : FuncData), PySem.W.findIn K (.ref C) "__init__" = some (some (.ref f)) ∧ PySem.W.typeIn K (.ref f) = some (.type "function") ∧ FnOk P w K mg base CX0 1 f fd ["self", "part", "at"] (spIP C) ∧ Binds K fd ["self", "part", "at"] []
  g : mg "InvalidProgram" = some (.ref C)
end
section
variable {X : Cx} {W : WX} {C : Addr} {j : Nat} {e1 e2 : Expr} {t1 t2 : TE} {p pos pos2 : Pos}
def tRip (C : Addr) (W : WX) (t1 t2 : TE) : TS := fun _ σ H => tMkO C (spIP C) [] (tCons t1 (tCons t2 tNil)) σ H fun cls d H' => W cls d σ H'
theorem ps_rip (c : Ipc X.prog X.w X.K X.mg X.base C) (hc : X.calm = true) (tk : Takes X W) (hr : Room j X.A) (hj : 2 ≤ j) (h1 : PE X e1 t1) (h2 : PE X e2 t2) (hg : Gl X "InvalidProgram" := by rfl)
    (s1 : starEach [e1, e2] X.env = (false, eval e1 X.env) :: starEach [e2] X.env := by rfl) (s2 : starEach [e2] X.env = (false, eval e2 X.env) :: starEach [] X.env := by rfl) (hpl : (backTo pos (starEach [e2] X.env)).any (·.1) = false := by rfl) :
    PS X (.Raise (some (.Call (.Name "InvalidProgram" p) [e1, e2] [] pos)) none pos2) (tRip C W t1 t2) := by
  obtain ⟨f, fd, iC, tI, G, b⟩ := c.ex
  exact ps_raise hc tk (pmk_ea c.T iC tI G (hr.mono hj) b .nil pass0 hg c.g (pa_cons h1 (pa_cons h2 pa_nil s2) s1) (by decide) s1 hpl)
/-- its reading, behind the two arguments' -/
theorem rip_rd {H : Hp} {p q : V} {E : XK} (h : Rz C H p q E) : ([p, q] : List V).length ≤ 1000 ∧ ∀ a, H a = none → spIP C (.ref a :: ([p, q] ++ [])) (upd H a (exo a C none))
    (fun v H2 => v = .non ∧ ∃ (d : Addr) (fs : List (Str × V)), H2 a = some (exo a C (some d)) ∧ H2 d = some (exd d fs) ∧ H d = none ∧ E (.ref C) (some d) (upd (del H2 a) d (.xd fs))) (fun _ _ _ => False) := by
  refine ⟨(by show 2 ≤ 1000; decide), fun a ha => ⟨a, p, q, rfl, upd_same, fun dx H' n1 n2 e1 e2 kp => ?_⟩⟩
  have n0 : H dx = none := by
    rw [upd_ne n2] at n1
    exact n1
  refine ⟨rfl, dx, _, e1, e2, n0, h dx _ (fun b o z => ?_) n0 upd_same⟩
  rw [upd_ne (ne_of_none z n0), del_ne (ne_of_none z ha)]
  exact kp b o (by rw [upd_ne (ne_of_none z ha)]; exact z) (ne_of_none z ha)
end
/-! ### check_names -/
def namesAt (H : Hp) (v : V) (least most : Int) (bar : List Str) : V := match firstBad H v most bar with
  | .non => (match lstOf H v with | some xs => if (xs.length : Int) < least then .int (-1) else .non | none => .non)
  | x => x
theorem firstBad_kind {H : Hp} {v : V} {most : Int} {bar : List Str} : (firstBad H v most bar = .non ∧ ∃ xs, lstOf H v = some xs) ∨ ∃ i, firstBad H v most bar = .int i := by
  unfold firstBad
  cases h : lstOf H v with
  | none => exact .inr ⟨_, rfl⟩
  | some xs =>
    show ((if (most : Int) < (xs.length : Int) then V.int (-1) else optV (badFrom bar xs [] 0)) = .non ∧ _) ∨ ∃ i, (if (most : Int) < (xs.length : Int) then V.int (-1) else optV (badFrom bar xs [] 0)) = .int i
    by_cases c : (most : Int) < (xs.length : Int)
    · rw [if_pos c]
      exact .inr ⟨_, rfl⟩
    · rw [if_neg c]
      cases badFrom bar xs [] 0 with
      | none => exact .inl ⟨rfl, xs, rfl⟩
      | some i => exact .inr ⟨_, rfl⟩
section
variable {P : Program} {w : World} {K : PySem.W.Frag} {mg : Str → Option Value} {base : Heap} {C : Addr}
def spNames (C : Addr) : Sp := fun vs H Q E => ∃ (part : Str) (v : V) (least most : Int) (b : Addr) (bar : List Str), vs = [.str part, v, .int least, .int most, .ref b] ∧ Dat H v ∧ H b = some (.lst (bar.map V.str)) ∧ most ≤ 100 ∧
  (namesAt H v least most bar = .non → ∀ H', Same H H' → Q .non H') ∧ (namesAt H v least most bar ≠ .non → Rz C H (.str part) (namesAt H v least most bar) E)
theorem sc26 : FnScope ["part", "value", "least", "most", "barred", "at"] ["part", "value", "least", "most", "barred"] (defScope (top 26)) := ⟨rfl, rfl, rfl, by decide +kernel, rfl, by decide +kernel, by decide +kernel⟩
theorem ok26 {f : Addr} {fd : FuncData} (F : Fun K "check_names" "check_names" (top 26) f fd) (B : Blt mg) (IP : Ipc P w K mg base C) (C25 : Cal P w K mg base CX0 2 "first_bad_name" ["value", "most", "barred"] spFirst) : FnOk P w K mg base (L2.CX P w) 3 f fd ["part", "value", "least", "most", "barred"] (spNames C) := by
  refine F.okX sc26 (fun vs H Q E h => ?_) (fun cdv A outer s H vs Q E hr h => ?_)
  · obtain ⟨part, v, least, most, b, bar, rfl, _⟩ := h
    rfl
  · obtain ⟨part, v, least, most, b, bar, rfl, d, hb, hm, kn, ke⟩ := h
    refine ⟨_, pss_cons (ps_set (i := 5) sc26.nd rfl (Or.inl rfl) (pe_cal C25 hr (by decide) pass0 (pa_cons (pv 1) (pa_cons (pv 3) (pa_cons (pv 4) pa_nil)))))
      (pss_cons (ps_if (PW.pt (pw_and (pt_cmpR op_isN (pv 5) pe_non (nomark _)) (pw_and1 (pt_cmpR op_lt (pe_callB call_len_seq rfl B.len PySem.boot_len (pa_cons (pv 1) pa_nil)) (pv 2) (nomark _))))) (pss_one (ps_set (i := 5) sc26.nd rfl (Or.inl rfl) (pe_un un_neg pe_int))) pss_nil)
      (pss_one (ps_if (pt_cmpR op_notN (pv 5) pe_non (nomark _)) (pss_one (ps_rip IP rfl (takes_of rfl rfl rfl rfl) hr (by decide) (pv 0) (pv 5))) pss_nil))), ?_⟩
    refine ⟨_, rfl, _, rfl, _, rfl, v, most, b, bar, rfl, d, hb, hm, fun H1 s1 => ?_⟩
    have fin_ : ∀ (x : V), namesAt H v least most bar = x → (∃ k, V.bl (!decide (x = V.non)) = V.bl k ∧ (if k = true then Rz C H1 (.str part) x E else Q .non H1)) := fun x hx => by
      refine ⟨_, rfl, ?_⟩
      by_cases hn : x = .non
      · subst hn
        refine iteF ?_
        exact kn hx H1 s1
      · rw [show (!decide (x = V.non)) = true from by rw [decide_eq_false hn]; rfl, if_pos rfl]
        rw [hx] at ke
        exact (ke hn).later s1
    refine ⟨_, rfl, rfl, _, rfl, ?_⟩
    rcases firstBad_kind (H := H) (v := v) (most := most) (bar := bar) with ⟨e, xs, hl⟩ | ⟨i, e⟩
    · rw [e]
      refine iteT ?_
      obtain ⟨a, rfl, ha⟩ := lstOf_some hl
      refine ⟨_, rfl, a, xs, rfl, .inl (SqL.of (s1 _ _ ha)), _, rfl, _, _, rfl, rfl, _, rfl, ?_⟩
      have en : namesAt H (.ref a) least most bar = if (xs.length : Int) < least then .int (-1) else .non := by unfold namesAt; rw [e, hl]
      refine ite2 (fun c => ?_) (fun c => ?_)
      · rw [if_pos (of_decide_eq_true c)] at en
        refine ⟨_, rfl, ?_⟩
        refine ⟨_, rfl, rfl, _, rfl, ?_⟩
        refine iteT ?_
        refine ⟨_, rfl, _, rfl, ?_⟩
        refine rip_rd (E := E) ?_
        rw [en] at ke
        exact (ke (by intro z; cases z)).later s1
      · rw [if_neg (fun z => c (decide_eq_true z))] at en
        refine ⟨_, rfl, rfl, _, rfl, ?_⟩
        refine iteF ?_
        exact kn en H1 s1
    · rw [e]
      refine iteF ?_
      have en : namesAt H v least most bar = .int i := by unfold namesAt; rw [e]
      refine ⟨_, rfl, rfl, _, rfl, ?_⟩
      refine iteT ?_
      refine ⟨_, rfl, _, rfl, ?_⟩
      refine rip_rd (E := E) ?_
      rw [en] at ke
      exact (ke (by intro z; cases z)).later s1
end
end K1

set_option Elab.async false
set_option linter.all false
set_option maxRecDepth 100000
set_option maxHeartbeats 4000000
namespace K1
open PySem L2
theorem keys_nil : keysOf [] = [] := rfl
/-! ### is_class -/
def strOf : V → Str | .str s => s | _ => default
def classOk (H : Hp) (v : V) (seen : List Str) : Bool := match tupOf H v with
  | some [n, z, f, b] => ((nameV n && !seen.contains (strOf n)) && wholeV z 1 8) && (decide (firstBad H f 3 [] = .non) && isB b)
  | _ => false
theorem classOk_four {H : Hp} {v n z f b : V} {seen : List Str} (h : tupOf H v = some [n, z, f, b]) : classOk H v seen = (((nameV n && !seen.contains (strOf n)) && wholeV z 1 8) && (decide (firstBad H f 3 [] = .non) && isB b)) := by
  unfold classOk
  rw [h]
theorem classOk_not {H : Hp} {v : V} {seen : List Str} (h : ∀ xs, tupOf H v = some xs → xs.length ≠ 4) : classOk H v seen = false := by
  unfold classOk
  cases e : tupOf H v with
  | none => rfl
  | some xs =>
    have z := h xs e
    match xs with
    | [] => rfl
    | [_] => rfl
    | [_, _] => rfl
    | [_, _, _] => rfl
    | [_, _, _, _] => exact absurd rfl z
    | _ :: _ :: _ :: _ :: _ :: _ => rfl
theorem four {xs : List V} (h : xs.length = 4) : ∃ n z f b, xs = [n, z, f, b] := by
  match xs, h with
  | [n, z, f, b], _ => exact ⟨n, z, f, b, rfl⟩
section
variable {P : Program} {w : World} {K : PySem.W.Frag} {mg : Str → Option Value} {base : Heap} {C : Addr}
def spIsClass : Sp := fun vs H Q _ => ∃ (v : V) (sd : Addr) (seen : List Str), vs = [v, .ref sd] ∧ Dat H v ∧ H sd = some (.dK (keysOf seen)) ∧ ∀ H', Same H H' → Q (.bl (classOk H v seen)) H'
theorem sc27 : FnScope ["value", "seen", "name", "size", "fields", "final"] ["value", "seen"] (defScope (top 27)) := ⟨rfl, rfl, rfl, by decide +kernel, rfl, by decide +kernel, by decide +kernel⟩
theorem ok27 {f : Addr} {fd : FuncData} (F : Fun K "is_class" "is_class" (top 27) f fd) (B : Blt mg) (C2 : Cal P w K mg base CX0 2 "is_within" ["value", "least", "most"] spWithin) (C3 : Cal P w K mg base CX0 1 "is_name" ["value"] spName)
    (C25 : Cal P w K mg base CX0 2 "first_bad_name" ["value", "most", "barred"] spFirst) : FnOk P w K mg base CX0 3 f fd ["value", "seen"] spIsClass := by
  refine F.ok sc27 (fun vs H Q E h => ?_) (fun cdv A outer s H vs Q E hr h => ?_)
  · obtain ⟨v, sd, seen, rfl, _⟩ := h
    rfl
  · obtain ⟨v, sd, seen, rfl, d, hsd, k⟩ := h
    have hu := hu_of hr
    refine ⟨_, pss_cons (ps_if (PW.pt (pw_or (pt_not (pt_val (pt_isi B (pv 0) B.tuple PyProof.Rows.boot_tuple))) (pw_or1 (pt_cmpR op_ne (pe_callB call_len_seq rfl B.len PySem.boot_len (pa_cons (pv 0) pa_nil)) pe_int (nomark _))))) (pss_one (ps_ret pe_bl)) pss_nil)
      (pss_cons (ps_asg (pv 0) (pg_tup rfl (pgs_cons (pg_name (i := 2) sc27.nd rfl (Or.inl rfl)) (pgs_cons (pg_name (i := 3) sc27.nd rfl (Or.inl rfl)) (pgs_cons (pg_name (i := 4) sc27.nd rfl (Or.inl rfl)) (pgs_cons (pg_name (i := 5) sc27.nd rfl (Or.inl rfl)) pgs_nil))))))
      (pss_cons (ps_if (PW.pt (pw_or (pt_not (pt_val (pe_cal C3 hr (by decide) pass0 (pa_cons (pv 2) pa_nil)))) (pw_or (pt_cmp (pc_din hu (pv 2) (pv 1))) (pw_or1 (pt_not (pt_val (pe_cal C2 hr (by decide) pass0 (pa_cons (pv 3) (pa_cons pe_int (pa_cons pe_int pa_nil)))))))))) (pss_one (ps_ret pe_bl)) pss_nil)
      (pss_one (ps_ret (pe_and (pe_cmpR op_isN (pe_cal C25 hr (by decide) pass0 (pa_cons (pv 4) (pa_cons pe_int (pa_cons (pe_lst pa_nil) pa_nil)))) pe_non (nomark _)) (pe_one (pt_isi B (pv 5) B.bool PyProof.Rows.boot_bool))))))), ?_⟩
    refine isi_rd rfl (ans_tup d) ⟨_, rfl, ?_⟩
    cases ht : tupOf H v with
    | none =>
      refine iteT ?_
      refine iteT ?_
      rw [classOk_not (fun xs e => by rw [ht] at e; cases e)] at k
      exact k _ (Same.refl _)
    | some xs =>
      obtain ⟨a, rfl, ha⟩ := tupOf_some ht
      refine iteF ?_
      refine ⟨_, rfl, a, xs, rfl, .inr (SqT.of ha), rfl, _, rfl, ?_⟩
      by_cases c4 : xs.length = 4
      · obtain ⟨n, z, fl, b, rfl⟩ := four c4
        refine iteF ?_
        rw [classOk_four ht] at k
        refine ⟨_, rfl, a, _, rfl, SqT.of ha, rfl, n, _, rfl, z, _, rfl, fl, _, rfl, b, _, rfl, rfl, ?_⟩
        have di := d.itemsT ha
        refine ⟨_, rfl, n, rfl, di n (by simp), fun H1 s1 => ⟨_, rfl, ?_⟩⟩
        cases hn : nameV n with
        | false =>
          rw [hn] at k
          refine iteT ?_
          refine iteT ?_
          exact k _ s1
        | true =>
          obtain ⟨t, rfl, hz⟩ := nameV_is hn
          rw [hn] at k
          refine iteF ?_
          refine ⟨_, rfl, _, rfl, sd, _, rfl, DGet.k (k := Sum.inr t) (s1 _ _ hsd), _, rfl, ?_⟩
          rw [keysOf_val]
          cases hc : seen.contains t with
          | true =>
            rw [show seen.contains (strOf (.str t)) = true from hc] at k
            refine iteT ?_
            refine iteT ?_
            exact k _ s1
          | false =>
            rw [show seen.contains (strOf (.str t)) = false from hc] at k
            refine iteF ?_
            refine ⟨_, rfl, z, 1, 8, rfl, (di z (by simp)).mono s1, _, rfl, ?_⟩
            cases hw : wholeV z 1 8 with
            | false =>
              rw [hw] at k
              refine iteT ?_
              exact k _ s1
            | true =>
              rw [hw] at k
              refine iteF ?_
              refine ⟨_, rfl, by decide, fun p hp => ?_⟩
              have s2 : Same H (upd H1 p (.lst [])) := same_new s1 hp
              have df : Dat H fl := di fl (by simp)
              refine ⟨fl, 3, p, [], rfl, df.mono s2, upd_same, by decide, fun H3 s3 => ⟨rfl, _, rfl, ?_⟩⟩
              rw [firstBad_same df s2]
              refine ite2 (fun c => ?_) (fun c => ?_)
              · refine isi_rd rfl (ans_bool ((di b (by simp)).mono (s2.trans s3))) ?_
                rw [show decide (firstBad H fl 3 [] = V.non) = true from c] at k
                exact k _ (s2.trans s3)
              · rw [show decide (firstBad H fl 3 [] = V.non) = false from Bool.eq_false_iff.mpr c] at k
                exact k _ (s2.trans s3)
      · rw [show (!decide (V.int (xs.length : Nat) = V.int 4)) = true from by rw [decide_eq_false (fun z => c4 (by have := V.int.inj z; omega))]; rfl]
        refine iteT ?_
        rw [classOk_not (fun ys e => by rw [ht] at e; cases e; exact c4)] at k
        exact k _ (Same.refl _)
/-! ### check_classes -/
def nameOf (H : Hp) (v : V) : Str := match tupOf H v with | some (n :: _) => strOf n | _ => default
def clsFrom (H : Hp) : List V → List Str → Nat → Option Nat
  | [], _, _ => none
  | v :: r, seen, i => if classOk H v seen = true then clsFrom H r (seen ++ [nameOf H v]) (i + 1) else some i
def classesAt (H : Hp) (v : V) : V := match lstOf H v with
  | none => .int (-1)
  | some xs => if (decide ((1 : Int) ≤ (xs.length : Int)) && decide ((xs.length : Int) ≤ 6)) = true then optV (clsFrom H xs [] 0) else .int (-1)
theorem classOk_same {H H' : Hp} {v : V} {seen : List Str} (d : Dat H v) (s : Same H H') : classOk H' v seen = classOk H v seen := by
  cases ht : tupOf H v with
  | none => rw [classOk_not (H := H) (fun xs e => by rw [ht] at e; cases e), classOk_not (H := H') (fun xs e => by rw [tupOf_same d s, ht] at e; cases e)]
  | some xs =>
    by_cases c4 : xs.length = 4
    · obtain ⟨n, z, f, b, rfl⟩ := four c4
      obtain ⟨a, rfl, ha⟩ := tupOf_some ht
      rw [classOk_four ht, classOk_four (by rw [tupOf_same d s]; exact ht), firstBad_same (d.itemsT ha f (by simp)) s]
    · rw [classOk_not (H := H) (fun ys e => by rw [ht] at e; cases e; exact c4), classOk_not (H := H') (fun ys e => by rw [tupOf_same d s, ht] at e; cases e; exact c4)]
theorem classOk_is {H : Hp} {v : V} {seen : List Str} (h : classOk H v seen = true) : ∃ (a : Addr) (n : Str) (z f b : V), v = .ref a ∧ H a = some (.tup [.str n, z, f, b]) ∧ nameS n = true ∧ seen.contains n = false ∧ wholeV z 1 8 = true ∧ firstBad H f 3 [] = .non ∧ isB b = true := by
  cases ht : tupOf H v with
  | none =>
    rw [classOk_not (fun xs e => by rw [ht] at e; cases e)] at h
    cases h
  | some xs =>
    by_cases c4 : xs.length = 4
    · obtain ⟨n, z, f, b, rfl⟩ := four c4
      obtain ⟨a, rfl, ha⟩ := tupOf_some ht
      rw [classOk_four ht] at h
      simp only [Bool.and_eq_true] at h
      obtain ⟨⟨⟨h1, h2⟩, h3⟩, h4, h5⟩ := h
      obtain ⟨t, rfl, hz⟩ := nameV_is h1
      refine ⟨a, t, z, f, b, rfl, ha, hz, ?_, h3, of_decide_eq_true h4, h5⟩
      have h2' : (!seen.contains t) = true := h2
      cases q : seen.contains t with
      | false => rfl
      | true => rw [q] at h2'; cases h2'
    · rw [classOk_not (fun ys e => by rw [ht] at e; cases e; exact c4)] at h
      cases h
def spClasses (C : Addr) : Sp := fun vs H Q E => ∃ (v : V), vs = [v] ∧ Dat H v ∧ (classesAt H v = .non → ∀ H', Same H H' → Q .non H') ∧ (classesAt H v ≠ .non → Rz C H (.str "classes") (classesAt H v) E)
theorem sc28 : FnScope ["classes", "seen", "index", "item"] ["classes"] (defScope (top 28)) := ⟨rfl, rfl, rfl, by decide +kernel, rfl, by decide +kernel, by decide +kernel⟩
theorem ok28 {f : Addr} {fd : FuncData} (F : Fun K "check_classes" "check_classes" (top 28) f fd) (B : Blt mg) (IP : Ipc P w K mg base C) (C27 : Cal P w K mg base CX0 3 "is_class" ["value", "seen"] spIsClass) : FnOk P w K mg base (L2.CX P w) 4 f fd ["classes"] (spClasses C) := by
  refine F.okX sc28 (fun vs H Q E h => ?_) (fun cdv A outer s H vs Q E hr h => ?_)
  · obtain ⟨v, rfl, _⟩ := h
    rfl
  · obtain ⟨v, rfl, d, kn, ke⟩ := h
    have hu := hu_of hr
    refine ⟨_, pss_cons (ps_if (PW.pt (pw_or (pt_not (pt_val (pt_isi B (pv 0) B.list PyProof.Rows.boot_list))) (pw_or1 (pt_not (pt_chain op_le op_le pe_int (pe_callB call_len_seq rfl B.len PySem.boot_len (pa_cons (pv 0) pa_nil)) pe_int))))) (pss_one (ps_rip IP rfl (takes_of rfl rfl rfl rfl) hr (by decide) pe_str (pe_un un_neg pe_int))) pss_nil)
      (pss_cons (ps_set (i := 1) sc28.nd rfl (Or.inl rfl) pe_dnewK)
      (pss_one (ps_for (passes_of rfl) rfl (pi_enum rfl B.enumerate (pa_cons (pv 0) pa_nil)) (pg_tup rfl (pgs_cons (pg_name (i := 2) sc28.nd rfl (Or.inl rfl)) (pgs_cons (pg_name (i := 3) sc28.nd rfl (Or.inl rfl)) pgs_nil)))
        (pss_cons (ps_if (pt_not (pt_val (pe_cal C27 hr (by decide) pass0 (pa_cons (pv 3) (pa_cons (pv 1) pa_nil))))) (pss_one (ps_rip IP rfl (takes_of rfl rfl rfl rfl) hr (by decide) pe_str (pv 2))) pss_nil)
          (pss_one (ps_dput hu (pv 1) (pe_ix ix_tup (pv 3) pe_int (fun _ _ => rfl)) pe_bl rfl)))))), ?_⟩
    refine isi_rd rfl (ans_list d) ⟨_, rfl, ?_⟩
    cases hl : lstOf H v with
    | none =>
      have e : classesAt H v = .int (-1) := by unfold classesAt; rw [hl]
      rw [e] at ke
      refine iteT ?_
      refine iteT ?_
      refine ⟨_, rfl, ?_⟩
      exact rip_rd (E := E) (ke (by intro z; cases z))
    | some xs =>
      obtain ⟨a, rfl, ha⟩ := lstOf_some hl
      refine iteF ?_
      refine ⟨_, rfl, a, xs, rfl, .inl (SqL.of ha), _, _, rfl, rfl, _, rfl, ?_⟩
      have e : classesAt H (.ref a) = if (decide ((1 : Int) ≤ (xs.length : Int)) && decide ((xs.length : Int) ≤ 6)) = true then optV (clsFrom H xs [] 0) else .int (-1) := by unfold classesAt; rw [hl]
      refine ite2 (fun c1 => ?_) (fun c1 => ?_)
      · refine ⟨_, _, rfl, rfl, _, rfl, ?_⟩
        refine ite2 (fun c2 => ?_) (fun c2 => ?_)
        · have c3 : decide ((xs.length : Int) ≤ 6) = false := by
            cases z : decide ((xs.length : Int) ≤ 6) with
            | false => rfl
            | true => rw [z] at c2; cases c2
          rw [c3, Bool.and_false, if_neg Bool.false_ne_true] at e
          rw [e] at ke
          exact ⟨_, rfl, rip_rd (E := E) (ke (by intro z; cases z))⟩
        · have c3 : decide ((xs.length : Int) ≤ 6) = true := by
            cases z : decide ((xs.length : Int) ≤ 6) with
            | true => rfl
            | false => rw [z] at c2; exact absurd rfl c2
          rw [c1, c3, Bool.true_and, if_pos rfl] at e
          rw [e] at ke kn
          have di := d.items ha
          have hlen : xs.length ≤ 6 := by have := of_decide_eq_true c3; omega
          intro D hD
          refine ⟨_, rfl, a, xs, rfl, SqL.of (by rw [upd_ne (ne_of_none ha hD)]; exact ha), ?_⟩
          refine for_enum (fun i σ H1 => ∃ (ss : List Str) (v4 v5 : Option V), σ = [some (.ref a), some (.ref D), v4, v5] ∧ Same H H1 ∧ H1 D = some (.dK (keysOf ss)) ∧ ss.length = i ∧ i ≤ xs.length ∧ clsFrom H xs [] 0 = clsFrom H (xs.drop i) ss i)
            ⟨[], none, none, rfl, fun b o e => by rw [upd_ne (ne_of_none e hD)]; exact e, upd_same, rfl, Nat.zero_le _, rfl⟩ (fun i σ H1 _ ⟨_, _, _, _, s1, _⟩ => SqL.of (s1 _ _ ha)) ?_ ?_
          · rintro i x σ H1 T hx ⟨ss, v4, v5, rfl, s1, hD1, hsl, hi, hbad⟩ hT
            refine pair_rd ?_
            have s2 : Same H (upd H1 T (.tup [.int (i : Nat), x])) := same_new s1 hT
            have dx : Dat H x := di x (List.mem_of_getElem? hx)
            have hdr : xs.drop i = x :: xs.drop (i + 1) := by
              obtain ⟨h1, h2⟩ := List.getElem?_eq_some_iff.mp hx
              rw [List.drop_eq_getElem_cons h1, h2]
            rw [hdr] at hbad
            have hD2 : (upd H1 T (.tup [.int (i : Nat), x])) D = some (.dK (keysOf ss)) := by rw [upd_ne (ne_of_none hD1 hT)]; exact hD1
            refine ⟨_, rfl, _, rfl, x, D, ss, rfl, dx.mono s2, hD2, fun H3 s3 => ⟨_, rfl, ?_⟩⟩
            rw [classOk_same dx s2]
            have s4 := s2.trans s3
            cases hk : classOk H x ss with
            | false =>
              refine iteT ?_
              refine ⟨_, rfl, rip_rd (E := E) ?_⟩
              rw [hbad, show clsFrom H (x :: xs.drop (i + 1)) ss i = some i from by show (if classOk H x ss = true then _ else some i) = some i; rw [hk, if_neg Bool.false_ne_true]] at ke
              exact (ke (by intro z; cases z)).later s4
            | true =>
              refine iteF ?_
              obtain ⟨p, n, z, fl, b, rfl, hp, hnm, hc, hw, hf, hb⟩ := classOk_is hk
              have hD3 : H3 D = some (.dK (keysOf ss)) := s3 _ _ hD2
              refine ⟨_, rfl, _, rfl, p, [.str n, z, fl, b], 0, .str n, rfl, rfl, SqT.of (s4 _ _ hp), rfl, D, _, rfl, DPut.k (k := Sum.inr n) hD3 (by unfold keysOf; rw [List.length_map, sizeLine_eq]; omega), ?_⟩
              refine ⟨ss ++ [n], _, _, rfl, fun c o e => ?_, ?_, ?_, (List.getElem?_eq_some_iff.mp hx).1, ?_⟩
              · rw [upd_ne (ne_of_none e hD)]
                exact s4 c o e
              · rw [upd_same, keysOf_put _ _ hc]
              · rw [List.length_append, hsl]; rfl
              · rw [hbad]
                show (if classOk H (.ref p) ss = true then clsFrom H (xs.drop (i + 1)) (ss ++ [nameOf H (.ref p)]) (i + 1) else some i) = _
                rw [hk, if_pos rfl, show nameOf H (.ref p) = n from by unfold nameOf; rw [tupOf_of hp]; rfl]
          · rintro σ H1 ⟨ss, v4, v5, rfl, s1, hD1, hsl, hi, hbad⟩
            rw [List.drop_eq_nil_of_le (Nat.le_refl _)] at hbad
            rw [hbad] at kn
            exact kn rfl _ s1
      · refine ⟨_, rfl, ?_⟩
        refine iteT ?_
        rw [Bool.eq_false_iff.mpr c1, Bool.false_and, if_neg Bool.false_ne_true] at e
        rw [e] at ke
        exact ⟨_, rfl, rip_rd (E := E) (ke (by intro z; cases z))⟩
end
end K1

set_option Elab.async false
set_option linter.all false
set_option maxRecDepth 100000
set_option maxHeartbeats 4000000
namespace K1
open PySem L2
theorem drop_at {xs : List V} {i : Nat} {x : V} (h : xs[i]? = some x) : xs.drop i = x :: xs.drop (i + 1) := by
  obtain ⟨h1, h2⟩ := List.getElem?_eq_some_iff.mp h
  rw [List.drop_eq_getElem_cons h1, h2]
def radFrom : List V → Int → Nat → Option Nat
  | [], _, _ => none
  | .int r :: rest, tot, i => if (decide (r < 2) || decide ((12 : Int) < tot * r)) = true then some i else radFrom rest (tot * r) (i + 1)
  | _ :: _, _, i => some i
theorem radFrom_no {v : V} {r : List V} {tot : Int} {i : Nat} (h : ¬ intV v = true) : radFrom (v :: r) tot i = some i := by
  cases v with
  | int k => exact absurd (show intV (V.int k) = true from rfl) h
  | _ => rfl
theorem radFrom_int {k : Int} {r : List V} {tot : Int} {i : Nat} : radFrom (.int k :: r) tot i = if (decide (k < 2) || decide ((12 : Int) < tot * k)) = true then some i else radFrom r (tot * k) (i + 1) := rfl
def radicesAt (H : Hp) (v : V) (th : Int) : V := match lstOf H v with
  | none => .int (-1)
  | some xs => optV (radFrom xs th 0)
section
variable {P : Program} {w : World} {K : PySem.W.Frag} {mg : Str → Option Value} {base : Heap} {C : Addr}
/-! ### check_threshold -/
def spThr (C : Addr) : Sp := fun vs H Q E => ∃ (v : V), vs = [v] ∧ Dat H v ∧ (wholeV v 1 12 = true → ∀ H', Same H H' → Q .non H') ∧ (wholeV v 1 12 = false → Rz C H (.str "threshold") (.int (-1)) E)
theorem sc29 : FnScope ["threshold"] ["threshold"] (defScope (top 29)) := ⟨rfl, rfl, rfl, by decide +kernel, rfl, by decide +kernel, by decide +kernel⟩
theorem ok29 {f : Addr} {fd : FuncData} {tM : Tok} (F : Fun K "check_threshold" "check_threshold" (top 29) f fd) (hM : mg "MOST_MEMORY" = some (.int 12 tM)) (IP : Ipc P w K mg base C) (C2 : Cal P w K mg base CX0 2 "is_within" ["value", "least", "most"] spWithin) :
    FnOk P w K mg base (L2.CX P w) 3 f fd ["threshold"] (spThr C) := by
  refine F.okX sc29 (fun vs H Q E h => ?_) (fun cdv A outer s H vs Q E hr h => ?_)
  · obtain ⟨v, rfl, _⟩ := h
    rfl
  · obtain ⟨v, rfl, d, kn, ke⟩ := h
    refine ⟨_, pss_one (ps_if (pt_not (pt_val (pe_cal C2 hr (by decide) pass0 (pa_cons (pv 0) (pa_cons pe_int (pa_cons (pe_glob (v := .int 12) rfl hM ⟨_, rfl⟩) pa_nil)))))) (pss_one (ps_rip IP rfl (takes_of rfl rfl rfl rfl) hr (by decide) pe_str (pe_un un_neg pe_int))) pss_nil), ?_⟩
    refine ⟨_, rfl, v, 1, 12, rfl, d, _, rfl, ?_⟩
    cases hw : wholeV v 1 12 with
    | false =>
      refine iteT ?_
      exact ⟨_, rfl, rip_rd (E := E) (ke hw)⟩
    | true =>
      refine iteF ?_
      exact kn hw _ (Same.refl _)
/-! ### check_radices -/
def spRad (C : Addr) : Sp := fun vs H Q E => ∃ (v : V) (th : Int), vs = [v, .int th] ∧ Dat H v ∧ 1 ≤ th ∧ th ≤ 12 ∧ (radicesAt H v th = .non → ∀ H', Same H H' → Q .non H') ∧ (radicesAt H v th ≠ .non → Rz C H (.str "radices") (radicesAt H v th) E)
theorem sc30 : FnScope ["radices", "threshold", "total", "index", "radix"] ["radices", "threshold"] (defScope (top 30)) := ⟨rfl, rfl, rfl, by decide +kernel, rfl, by decide +kernel, by decide +kernel⟩
theorem ok30 {f : Addr} {fd : FuncData} {tM : Tok} (F : Fun K "check_radices" "check_radices" (top 30) f fd) (B : Blt mg) (hM : mg "MOST_MEMORY" = some (.int 12 tM)) (IP : Ipc P w K mg base C) (C1 : Cal P w K mg base CX0 1 "is_integer" ["value"] spInteger) :
    FnOk P w K mg base (L2.CX P w) 3 f fd ["radices", "threshold"] (spRad C) := by
  refine F.okX sc30 (fun vs H Q E h => ?_) (fun cdv A outer s H vs Q E hr h => ?_)
  · obtain ⟨v, th, rfl, _⟩ := h
    rfl
  · obtain ⟨v, th, rfl, d, t1, t2, kn, ke⟩ := h
    refine ⟨_, pss_cons (ps_if (pt_not (pt_val (pt_isi B (pv 0) B.list PyProof.Rows.boot_list))) (pss_one (ps_rip IP rfl (takes_of rfl rfl rfl rfl) hr (by decide) pe_str (pe_un un_neg pe_int))) pss_nil)
      (pss_cons (ps_set (i := 2) sc30.nd rfl (Or.inl rfl) (pv 1))
      (pss_one (ps_for (passes_of rfl) rfl (pi_enum rfl B.enumerate (pa_cons (pv 0) pa_nil)) (pg_tup rfl (pgs_cons (pg_name (i := 3) sc30.nd rfl (Or.inl rfl)) (pgs_cons (pg_name (i := 4) sc30.nd rfl (Or.inl rfl)) pgs_nil)))
        (pss_cons (ps_if (PW.pt (pw_or (pt_not (pt_val (pe_cal C1 hr (by decide) pass0 (pa_cons (pv 4) pa_nil)))) (pw_or (pt_cmpR op_lt (pv 4) pe_int (nomark _)) (pw_or1 (pt_cmpR op_gt (pe_op op_mul (pv 2) (pv 4)) (pe_glob (v := .int 12) rfl hM ⟨_, rfl⟩) (nomark _)))))) (pss_one (ps_rip IP rfl (takes_of rfl rfl rfl rfl) hr (by decide) pe_str (pv 3))) pss_nil)
          (pss_one (ps_aug (i := 2) sc30.nd rfl (Or.inl rfl) (pv 4) iop_mul)))))), ?_⟩
    refine isi_rd rfl (ans_list d) ⟨_, rfl, ?_⟩
    cases hl : lstOf H v with
    | none =>
      have e : radicesAt H v th = .int (-1) := by unfold radicesAt; rw [hl]
      rw [e] at ke
      refine iteT ?_
      exact ⟨_, rfl, rip_rd (E := E) (ke (by intro z; cases z))⟩
    | some xs =>
      obtain ⟨a, rfl, ha⟩ := lstOf_some hl
      refine iteF ?_
      have e : radicesAt H (.ref a) th = optV (radFrom xs th 0) := by unfold radicesAt; rw [hl]
      rw [e] at ke kn
      have di := d.items ha
      refine ⟨_, rfl, ?_⟩
      refine ⟨_, rfl, a, xs, rfl, SqL.of ha, ?_⟩
      refine for_enum (fun i σ H1 => ∃ (tot : Int) (v4 v5 : Option V), σ = [some (.ref a), some (.int th), some (.int tot), v4, v5] ∧ Same H H1 ∧ 1 ≤ tot ∧ tot ≤ 12 ∧ radFrom xs th 0 = radFrom (xs.drop i) tot i)
        ⟨th, none, none, rfl, Same.refl _, t1, t2, rfl⟩ (fun i σ H1 _ ⟨_, _, _, _, s1, _⟩ => SqL.of (s1 _ _ ha)) ?_ ?_
      · rintro i x σ H1 T hx ⟨tot, v4, v5, rfl, s1, o1, o2, hbad⟩ hT
        refine pair_rd ?_
        have s2 : Same H (upd H1 T (.tup [.int (i : Nat), x])) := same_new s1 hT
        have dx : Dat H x := di x (List.mem_of_getElem? hx)
        rw [drop_at hx] at hbad
        have out : radFrom xs th 0 = some i → Rz C (upd H1 T (.tup [.int (i : Nat), x])) (.str "radices") (.int (i : Nat)) E := fun z => by
          rw [z] at ke
          exact (ke (by intro z; cases z)).later s2
        refine ⟨_, rfl, x, rfl, dx.mono s2, _, rfl, ?_⟩
        by_cases ci : intV x = true
        · obtain ⟨k, rfl⟩ := intV_is ci
          rw [radFrom_int] at hbad
          refine iteF ?_
          refine ⟨_, rfl, _, _, rfl, rfl, _, rfl, ?_⟩
          refine ite2 (fun c1 => ?_) (fun c1 => ?_)
          · rw [c1, Bool.true_or, if_pos rfl] at hbad
            refine iteT ?_
            exact ⟨_, rfl, rip_rd (E := E) (out hbad)⟩
          · rw [Bool.eq_false_iff.mpr c1, Bool.false_or] at hbad
            refine ⟨_, rfl, _, rfl, _, _, rfl, rfl, .inl ⟨by omega, by omega⟩, _, _, rfl, rfl, _, rfl, ?_⟩
            refine ite2 (fun c2 => ?_) (fun c2 => ?_)
            · rw [if_pos c2] at hbad
              exact ⟨_, rfl, rip_rd (E := E) (out hbad)⟩
            · rw [if_neg c2] at hbad
              refine ⟨_, rfl, _, rfl, _, _, rfl, rfl, .inl ⟨by omega, by omega⟩, ?_⟩
              have k2 : 2 ≤ k := by
                have z : ¬ k < 2 := fun z => c1 (decide_eq_true z)
                omega
              have hi : ¬ 12 < tot * k := fun z => c2 (decide_eq_true z)
              refine ⟨tot * k, _, _, rfl, s2, ?_, by omega, hbad⟩
              have : 1 * 1 ≤ tot * k := Int.mul_le_mul o1 (by omega) (by decide) (by omega)
              omega
        · rw [radFrom_no ci] at hbad
          rw [Bool.eq_false_iff.mpr ci]
          refine iteT ?_
          refine iteT ?_
          exact ⟨_, rfl, rip_rd (E := E) (out hbad)⟩
      · rintro σ H1 ⟨tot, v4, v5, rfl, s1, o1, o2, hbad⟩
        rw [List.drop_eq_nil_of_le (Nat.le_refl _)] at hbad
        rw [hbad] at kn
        exact kn rfl _ s1
end
end K1

set_option Elab.async false
set_option linter.all false
set_option maxRecDepth 100000
set_option maxHeartbeats 4000000
/-! {k: v for a in xs for b in ys}: a dict comprehension of two clauses without tests -/
namespace L2
open PySem PySem.Spec PyProof.Rows
abbrev dc2 (kx vx t0 j0 t1 j1 : Expr) (sc : Scope) (at_ : Pos) : Expr := .DictComp kx vx [⟨t0, j0, [], 0⟩, ⟨t1, j1, [], 0⟩] sc at_
theorem dc2_outer (kx vx t0 j0 t1 j1 : Expr) (sc : Scope) (at_ : Pos) (it acc : Value) (env : Env) :
    compTurn (dc2 kx vx t0 j0 t1 j1 sc at_) 0 it acc env = (do
      standAt j0.pos
      match ← pyNext it with
      | none => pure (.done .next)
      | some u =>
        letOwnedTupleGo t0 it u
        assign t0 env u
        let y ← eval j1 env
        standAt j1.pos
        let y ← foldedSetIterable j1 env y
        let _ ← runOwn (.compStart (dc2 kx vx t0 j0 t1 j1 sc at_) 1 (← holding [y] (pyIter y)) acc env) env
        again (.compLoop (dc2 kx vx t0 j0 t1 j1 sc at_) 0 it acc env)) := by rfl
theorem dc2_inner (kx vx t0 j0 t1 j1 : Expr) (sc : Scope) (at_ : Pos) (it : Value) (D : Addr) (env : Env) :
    compTurn (dc2 kx vx t0 j0 t1 j1 sc at_) 1 it (.ref D) env = (do
      standAt j1.pos
      match ← pyNext it with
      | none => pure (.done .next)
      | some u =>
        letOwnedTupleGo t1 it u
        assign t1 env u
        (do
          let ku ← eval kx env
          let vu ← holding [ku] (eval vx env)
          standAt { kx.pos with endLine := vx.pos.endLine, endCol := vx.pos.endCol }
          holding [ku, vu] (dictSet D ku vu))
        again (.compLoop (dc2 kx vx t0 j0 t1 j1 sc at_) 1 it (.ref D) env)) := by rfl
section
variable {pg : Program} {wd : World} {Ar : Around} {Rs : Result → Shared → Prop} {s0 : Shared} {kx vx t0 j0 t1 j1 : Expr} {sc : Scope} {at_ : Pos} {it acc : Value} {D : Addr} {env : Env}
/-- what is raised on the way -/
abbrev nby (pg : Program) (wd : World) (Ar : Around) (env : Env) (Rs : Result → Shared → Prop) : Value → Shared → Prop := notedBy (model pg wd) Ar env fun e s' => Rs (.error e) s'
/-- the outer loop, by an invariant and a number that falls -/
theorem dc2_loop0 (fold : ∀ y, foldedSetIterable j1 env y = pure y) (Iv : Nat → Shared → Prop)
    (turn : ∀ n s, Iv n s → wpAny (model pg wd) Ar (pyNext it) (fun r s1 => match r with
      | none => Rs (.ok .next) s1
      | some u => wpAny (model pg wd) Ar (letOwnedTupleGo t0 it u) (fun _ s2 => wpAny (model pg wd) Ar (assign t0 env u) (fun _ s3 =>
          wpAny (model pg wd) Ar (eval j1 env) (fun y s4 => wpAny (model pg wd) Ar (pyIter y) (fun it1 s5 =>
            codeAny (model pg wd) Ar (.compStart (dc2 kx vx t0 j0 t1 j1 sc at_) 1 it1 acc env) (fun r s' => match r with
              | .ok _ => ∃ m, m < n ∧ Iv m s'
              | .error _ => False) s5) (nby pg wd Ar env Rs) s4) (nby pg wd Ar env Rs) s3) (nby pg wd Ar env Rs) s2) (nby pg wd Ar env Rs) s1) (nby pg wd Ar env Rs) s)
    (n : Nat) (h : Iv n s0) : codeAny (model pg wd) Ar (.compLoop (dc2 kx vx t0 j0 t1 j1 sc at_) 0 it acc env) Rs s0 := by
  refine codeAny_loop rfl Iv (fun n s hI => ?_) n h
  show wpAny _ Ar ((compTurn (dc2 kx vx t0 j0 t1 j1 sc at_) 0 it acc env).onRaise (fun x => do noteFrame x env; theTreesLotGoes x)) _ _ s
  refine wpAny_noted ?_
  rw [dc2_outer]
  refine wpAny_bind (wpAny_standAt (wpAny_bind ?_))
  refine wpAny_mono (turn n s hI) (fun r s1 h1 => ?_) fun _ _ z => z
  cases r with
  | none => exact wpAny_pure h1
  | some u =>
    refine wpAny_bind (wpAny_mono h1 (fun _ s2 h2 => ?_) fun _ _ z => z)
    refine wpAny_bind (wpAny_mono h2 (fun _ s3 h3 => ?_) fun _ _ z => z)
    refine wpAny_bind (wpAny_mono h3 (fun y s4 h4 => ?_) fun _ _ z => z)
    refine wpAny_bind (wpAny_standAt (wpAny_bind ?_))
    refine wpAny_of_eq (fold y) (wpAny_bind (wpAny_holding ?_))
    refine wpAny_mono h4 (fun it1 s5 h5 => ?_) fun _ _ z => z
    refine wpAny_bind (wpAny_runOwn ?_)
    rw [Around.mark_none]
    refine codeAny_mono h5 fun r s' hr => ?_
    cases r with
    | error e => exact hr.elim
    | ok f =>
      first
        | exact wpAny_pure ⟨rfl, hr⟩
        | exact wpAny_bind (wpAny_pure (wpAny_pure ⟨rfl, hr⟩))
/-- the inner loop -/
theorem dc2_loop1 (Iv : Nat → Shared → Prop)
    (turn : ∀ n s, Iv n s → wpAny (model pg wd) Ar (pyNext it) (fun r s1 => match r with
      | none => Rs (.ok .next) s1
      | some u => wpAny (model pg wd) Ar (letOwnedTupleGo t1 it u) (fun _ s2 => wpAny (model pg wd) Ar (assign t1 env u) (fun _ s3 =>
          wpAny (model pg wd) Ar (eval kx env) (fun ku s4 => wpAny (model pg wd) Ar (eval vx env) (fun vu s5 =>
            wpAny (model pg wd) Ar (dictSet D ku vu) (fun _ s6 => ∃ m, m < n ∧ Iv m s6) (nby pg wd Ar env Rs) s5) (nby pg wd Ar env Rs) s4) (nby pg wd Ar env Rs) s3) (nby pg wd Ar env Rs) s2) (nby pg wd Ar env Rs) s1) (nby pg wd Ar env Rs) s)
    (n : Nat) (h : Iv n s0) : codeAny (model pg wd) Ar (.compLoop (dc2 kx vx t0 j0 t1 j1 sc at_) 1 it (.ref D) env) Rs s0 := by
  refine codeAny_loop rfl Iv (fun n s hI => ?_) n h
  show wpAny _ Ar ((compTurn (dc2 kx vx t0 j0 t1 j1 sc at_) 1 it (.ref D) env).onRaise (fun x => do noteFrame x env; theTreesLotGoes x)) _ _ s
  refine wpAny_noted ?_
  rw [dc2_inner]
  refine wpAny_bind (wpAny_standAt (wpAny_bind ?_))
  refine wpAny_mono (turn n s hI) (fun r s1 h1 => ?_) fun _ _ z => z
  cases r with
  | none => exact wpAny_pure h1
  | some u =>
    refine wpAny_bind (wpAny_mono h1 (fun _ s2 h2 => ?_) fun _ _ z => z)
    refine wpAny_bind (wpAny_mono h2 (fun _ s3 h3 => ?_) fun _ _ z => z)
    refine wpAny_bind (wpAny_bind (wpAny_mono h3 (fun ku s4 h4 => ?_) fun _ _ z => z))
    refine wpAny_bind (wpAny_holding (wpAny_mono h4 (fun vu s5 h5 => ?_) fun _ _ z => z))
    refine wpAny_bind (wpAny_standAt (wpAny_holding (wpAny_mono h5 (fun _ s6 h6 => ?_) fun _ _ z => z)))
    exact wpAny_pure ⟨rfl, h6⟩
/-- the inner source is made an iterator, or was one -/
theorem dc2_start1 (here : codeAny (model pg wd) Ar (.compLoop (dc2 kx vx t0 j0 t1 j1 sc at_) 1 it acc env) Rs s0)
    (made : wpAny (model pg wd) Ar (pyIter it) (fun it' s' => codeAny (model pg wd) Ar (.compLoop (dc2 kx vx t0 j0 t1 j1 sc at_) 1 it' acc env) Rs s') (nby pg wd Ar env Rs) s0) :
    codeAny (model pg wd) Ar (.compStart (dc2 kx vx t0 j0 t1 j1 sc at_) 1 it acc env) Rs s0 := by
  refine codeAny_of_tree ?_
  show wpAny _ _ ((compStart (dc2 kx vx t0 j0 t1 j1 sc at_) 1 it acc env).onRaise (fun x => do noteFrame x env; standAt theWindowsPlace)) _ _ s0
  refine wpAny_notedAt ?_
  unfold compStart
  show wpAny _ _ (ask >>= _) _ _ s0
  refine wpAny_bind (wpAny_askSetting (wpAny_ite ?_))
  split
  · first
      | exact wpAny_bind (wpAny_pure (wpAny_pure (And.intro rfl here)))
      | exact wpAny_pure (And.intro rfl here)
  · refine wpAny_bind (wpAny_rule ?_)
    first
      | exact wpAny_bind (wpAny_standAt (wpAny_bind (wpAny_mono made (fun it' s' z => wpAny_pure (And.intro rfl z)) fun _ _ z => z)))
      | (show wpAny _ _ (standAt j1.pos >>= _) _ _ s0; exact wpAny_bind (wpAny_standAt (wpAny_bind (wpAny_mono made (fun it' s' z => wpAny_pure (And.intro rfl z)) fun _ _ z => z))))
end
section
variable {X : Cx}
/-- its reading: W tells where the outer walk stands, W1 the inner one -/
def tDc2 (wi : TI) (g : TG) (wi1 : TI) (g1 : TG) (tk tv : TE) (vs vs1 : List Nat) : TE := fun σ H Q => wi σ H fun J H1 => ∀ D, H1 D = none → ∃ W : Nat → Nat → Hp → Prop, (∃ m, W 0 m (upd H1 D (.dK []))) ∧ ∀ i m H, W i m H →
  (J.stop i H ∧ Q (.ref D) H) ∨ (J.go i H ∧ ∃ Nx : Hp → Prop, (∀ H', Nx H' → ∃ m', m' < m ∧ W (i + 1) m' H') ∧ ∀ x H', J.yld i H x H' → g x (wipe σ vs) H' fun σ2 H2 => wipe σ2 vs = wipe σ vs ∧
    wi1 σ2 H2 fun J1 H4 => ∃ W1 : Nat → Nat → Hp → Prop, (∃ m, W1 0 m H4) ∧ ∀ j k H, W1 j k H →
      (J1.stop j H ∧ Nx H) ∨ (J1.go j H ∧ ∃ Nx1 : Hp → Prop, (∀ H', Nx1 H' → ∃ k', k' < k ∧ W1 (j + 1) k' H') ∧ ∀ x H', J1.yld j H x H' → g1 x (wipe σ2 vs1) H' fun σ3 H5 => wipe σ3 vs1 = wipe σ2 vs1 ∧
        tk σ3 H5 fun y H6 => tv σ3 H6 fun z H7 => ∃ kvs q, y = kV q ∧ H7 D = some (.dK kvs) ∧ kvs.length < sizeLine ∧ Nx1 (upd H7 D (.dK (putK kvs q z)))))
/-- a rule within the comprehension's block, whatever the block's frame is -/
abbrev InB (X : Cx) (sc : Scope) (R : Cx → Prop) : Prop := ∀ (s : Shared) (H : Hp) (C : Addr) (cl : List (Str × Addr)) (fp : List Addr), R (X.blk s H sc (compEnvC sc cl C X.env) fp)
theorem dc2_core {pins : List (Addr × Obj)} {s : Shared} {σ : St} {H : Hp} {Q : VK} {kx vx t0 j0 t1 j1 : Expr} {sc : Scope} {own : List (Str × Nat)} {vs1 : List Nat} {at_ pos' : Pos} {wi wi1 : TI} {g g1 : TG} {tk tv : TE} {use : Option (Value → Sem Unit)} {Qf : Value → Shared → Prop}
    (calm : X.calm = true) (nd : X.N.Nodup) (I : Inv X pins σ H s) (hi : PI X t0 j0 wi) (blk : BlkOk X.N X.env.scope sc own) (sub : ∀ i ∈ vs1, i ∈ own.map (·.2))
    (hg : InB X sc fun Y => PG Y t0 g) (hi1 : InB X sc fun Y => PI Y t1 j1 wi1) (hg1 : InB X sc fun Y => PG Y t1 g1) (hk : InB X sc fun Y => PE Y kx tk) (hv : InB X sc fun Y => PE Y vx tv)
    (fold0 : ∀ x, foldedSetIterable j0 X.env x = pure x) (fold1 : ∀ env x, foldedSetIterable j1 env x = pure x) (h : tDc2 wi g wi1 g1 tk tv (own.map (·.2)) vs1 σ H Q)
    (out : ∀ D C s' m H', Inv X pins σ H' s' → Q (.ref D) H' → s'.heap.Ns C m → FpOk X pins H' C → compPost (model X.prog X.w) X.A X.xe use Qf (.ref D) C (.ok .next) s') :
    wpAny (model X.prog X.w) X.A (comprehension (dc2 kx vx t0 j0 t1 j1 sc at_) sc X.env pos' newDict false (eval j0 X.env) use) Qf X.xe s := by
  have seen : ∀ y ∈ sc.names, y.2 = .free → ∃ c, X.env.cells.lookup y.1 = some c := fun y hy e => by
    rcases blk.free y hy e with k | k
    · exact I.ok.has _ (.inl k)
    · exact I.ok.has _ (.inr k)
  refine wpAny_comprehension_free (use := use) rfl fold0 (closure_ok seen) blk.kind (fun y hy e => by rw [blk.uniq y hy, e]) ?_
  refine thn (hi.run pins s σ H _ I h) fun xv s1 hx => thn hx fun itv s2 h2 => ?_
  obtain ⟨it, fp, tn, J, H2, e, I2, T, st2, f2, q⟩ := h2
  subst e
  refine wpAny_newObj_type (newEnv_comp ?_)
  generalize hD : s2.heap.objs.size = D
  have freeD : H2 D = none := I2.hok.fresh (Nat.le_of_eq hD)
  obtain ⟨W, ⟨m0, w0⟩, turn⟩ := q D freeD
  -- behind the new dict
  generalize hs3 : ({ s2 with heap := s2.heap.push { cls := .type "dict", data := .dict #[] } } : Shared) = s3
  have push3 : s3.heap = s2.heap.push { cls := .type "dict", data := .dict #[] } := by rw [← hs3]
  have I3 : Inv X pins σ (upd H2 D (.dK [])) s3 := by
    rw [← hs3]
    refine I2.laid (t' := s2.toks) (fun b o z => Heap.get?_push_of_some _ z) (Nat.le_of_eq hD) ?_
    rw [← hD]
    exact dk_empty s2.heap I2.big
  have below : ∀ b ∈ fp, b < s2.heap.objs.size := fun b hb => by
    obtain ⟨o, z, _⟩ := T.obj _ _ st2 b hb
    exact Heap.lt_size z
  have f3 : ∀ b ∈ fp, FpOk X pins (upd H2 D (.dK [])) b ∧ b < s3.heap.objs.size := fun b hb => by
    have lt := below b hb
    refine ⟨⟨?_, (f2 b hb).2⟩, ?_⟩
    · rw [upd_ne (by rw [← hD]; exact Nat.ne_of_lt lt)]
      exact (f2 b hb).1
    · rw [push3, Heap.size_push]
      exact Nat.lt_succ_of_lt lt
  have st3 : tn 0 s3.heap := T.keep _ _ _ st2 fun b _ o z => by
    rw [push3]
    exact Heap.get?_push_of_some _ z
  have I4 := block_start I3 blk nd f3
  generalize hcl : cellsFrom (s3.heap.objs.size + 1) sc.names (cloFrom X.env.cells sc.names []) = cl at I4
  have rg := hg s3 (upd H2 D (.dK [])) s3.heap.objs.size cl fp
  have ri := hi1 s3 (upd H2 D (.dK [])) s3.heap.objs.size cl fp
  have rg1 := hg1 s3 (upd H2 D (.dK [])) s3.heap.objs.size cl fp
  have rk := hk s3 (upd H2 D (.dK [])) s3.heap.objs.size cl fp
  have rv := hv s3 (upd H2 D (.dK [])) s3.heap.objs.size cl fp
  have nofp : ∀ b ∈ fp, (upd H2 D (.dK [])) b = none := fun b hb => (f3 b hb).1.1
  show codeAny _ _ (.compStart (dc2 kx vx t0 j0 t1 j1 sc at_) 0 (.ref it) (.ref D) (compEnvC sc cl s3.heap.objs.size X.env)) (compPost (model X.prog X.w) X.A X.xe use Qf (.ref D) s3.heap.objs.size)
    { s3 with heap := pushCells (s3.heap.push { cls := .type "dict", data := .dict #[] }) sc.names }
  generalize hce : compEnvC sc cl s3.heap.objs.size X.env = ce at I4 rg ri rg1 rk rv ⊢
  have frame : ce.locals = s3.heap.objs.size := by
    subst hce
    rfl
  generalize hH3 : upd H2 D (.dK []) = H3 at I3 I4 rg ri rg1 rk rv w0 nofp f3
  generalize hs4 : ({ s3 with heap := pushCells (s3.heap.push { cls := .type "dict", data := .dict #[] }) sc.names } : Shared) = s4 at I4 ⊢
  have st4 : tn 0 s4.heap := T.keep _ _ _ st3 fun b _ o z => by
    rw [← hs4]
    exact pushCells_keeps _ _ _ _ (Heap.get?_push_of_some _ z)
  have foot : ∀ {σ' : St} {H' : Hp} {s' : Shared}, Inv (X.blk s3 H3 sc ce fp) [] σ' H' s' → (∀ b ∈ fp, H' b = none) → ∀ b ∈ fp, FpOk (X.blk s3 H3 sc ce fp) [] H' b := fun {σ' H' s'} I' hn b hb =>
    ⟨hn b hb, (I'.ok.exf b hb).1, I'.ok.exfs b hb, .inl hb, fun x c z => (I'.ok.exf b hb).2 x c z, fun p hp => absurd (show p ∈ ([] : List (Addr × Obj)) ++ [] from hp) (by simp)⟩
  have walk : codeAny (model X.prog X.w) X.A (.compLoop (dc2 kx vx t0 j0 t1 j1 sc at_) 0 (.ref it) (.ref D) ce) (compPost (model X.prog X.w) X.A X.xe use Qf (.ref D) s3.heap.objs.size) s4 := by
    refine dc2_loop0 (fold1 ce) (fun n s' => ∃ i H', Inv (X.blk s3 H3 sc ce fp) [] (wipe σ (own.map (·.2))) H' s' ∧ tn i s'.heap ∧ (∀ b ∈ fp, H' b = none) ∧ W i n H') ?_ m0 ⟨0, H3, I4, st4, nofp, w0⟩
    rintro n s5 ⟨i, H5, I5, st5, n5, w5⟩
    rcases turn i n H5 w5 with ⟨stop, qq⟩ | ⟨go, Nx, next, step⟩
    · refine thnF (T.done (X.blk s3 H3 sc ce fp) rfl rfl rfl calm i [] s5 _ H5 (fun _ _ => False) I5 (foot I5 n5) st5 stop) fun r s6 ⟨hr, I6⟩ => ?_
      subst hr
      have I7 : Inv X pins σ H5 s6 := I3.call' (ch := fp) I6.os I6.base I6.hok I6.bare fun b hb => by
        have z := (f3 b hb).1
        exact ⟨z.2.2.2.1, z.2.1, z.2.2.2.2.1, z.2.2.2.2.2⟩
      have noC : H5 s3.heap.objs.size = none := by
        rw [← frame]
        exact I6.free
      obtain ⟨m, hn, _⟩ := I6.loc
      have hn : s6.heap.Ns s3.heap.objs.size m := by
        rw [← frame]
        exact hn
      exact out D s3.heap.objs.size s6 m H5 I7 qq hn (I3.fpOk (Nat.le_refl _) noC)
    · refine thnF (T.item (X.blk s3 H3 sc ce fp) rfl rfl rfl calm i [] s5 _ H5 (fun _ _ => False) I5 (foot I5 n5) st5 go) fun r s6 ⟨u, hr, h6⟩ => ?_
      subst hr
      refine thnF h6 fun _ s7 ⟨x, H7, I7, r7, y7, st7, n7⟩ => ?_
      have P7 := I7.pinned (foot I7 n7) (T.obj _ _ st7)
      refine thnF (rg.run _ s7 _ H7 x u _ P7 r7 (step x H7 y7)) fun _ s8 ⟨σ8, H8, I8, hw8, q8⟩ => ?_
      -- from any slots that know what was known at the turn's start, the turn ends
      have over : ∀ {σ9 : St} {s' : Shared} {H' : Hp}, Inv (X.blk s3 H3 sc ce fp) ([] ++ pinsAt fp s7.heap) σ9 H' s' → (wipe σ (own.map (·.2))).length = σ9.length → (∀ (j : Nat) v, (wipe σ (own.map (·.2)))[j]? = some (some v) → σ9[j]? = some (some v)) → Nx H' →
          ∃ m, m < n ∧ ∃ i H', Inv (X.blk s3 H3 sc ce fp) [] (wipe σ (own.map (·.2))) H' s' ∧ tn i s'.heap ∧ (∀ b ∈ fp, H' b = none) ∧ W i m H' := fun {σ9 s' H'} I' len know nx => by
        obtain ⟨m', lt, w'⟩ := next H' nx
        have still : ∀ b ∈ fp, ∀ o, s7.heap.get? b = some o → s'.heap.get? b = some o ∧ H' b = none := fun b hb o z =>
          let k := I'.pin (b, o) (List.mem_append_right _ (List.mem_append_right _ (mem_pinsAt hb z)))
          ⟨k.1, k.2.1⟩
        refine ⟨m', lt, i + 1, H', (I'.unpinned (pins := [])).weak len know, ?_, fun b hb => ?_, w'⟩
        · exact T.keep _ _ _ st7 fun b hb o z => (still b hb o z).1
        · obtain ⟨o, z, _⟩ := T.obj _ _ st7 b hb
          exact (still b hb o z).2
      have len8 : (wipe σ (own.map (·.2))).length = σ8.length := by rw [← hw8, wipe_length]
      have know9 : ∀ (j : Nat) v, (wipe σ (own.map (·.2)))[j]? = some (some v) → (wipe σ8 vs1)[j]? = some (some v) := fun j v z => by
        rw [← hw8] at z
        obtain ⟨z1, z2⟩ := wipe_some z
        rw [wipe_out fun k => z2 (sub j k)]
        exact z1
      refine thnF (ri.run _ s8 σ8 H8 _ I8 q8) fun xv s10 hx => thnF hx fun itv s11 h11 => ?_
      obtain ⟨it1, fp1, tn1, J1, H11, e1, I11, T1, st11, f11, W1, ⟨m1, w1⟩, turn1⟩ := h11
      subst e1
      have foot1 : ∀ {H' : Hp}, (∀ b ∈ fp1, H' b = none) → ∀ b ∈ fp1, FpOk (X.blk s3 H3 sc ce fp) ([] ++ pinsAt fp s7.heap) H' b := fun hn b hb => ⟨hn b hb, (f11 b hb).2⟩
      have inner : codeAny (model X.prog X.w) X.A (.compLoop (dc2 kx vx t0 j0 t1 j1 sc at_) 1 (.ref it1) (.ref D) ce)
          (fun r s' => match r with
            | .ok _ => ∃ m, m < n ∧ ∃ i H', Inv (X.blk s3 H3 sc ce fp) [] (wipe σ (own.map (·.2))) H' s' ∧ tn i s'.heap ∧ (∀ b ∈ fp, H' b = none) ∧ W i m H'
            | .error _ => False) s11 := by
        refine dc2_loop1 (fun k s' => ∃ j H', Inv (X.blk s3 H3 sc ce fp) ([] ++ pinsAt fp s7.heap) (wipe σ8 vs1) H' s' ∧ tn1 j s'.heap ∧ (∀ b ∈ fp1, H' b = none) ∧ W1 j k H') ?_ m1
          ⟨0, H11, I11.weak (wipe_length _ _) (fun j v z => (wipe_some z).1), st11, fun b hb => (f11 b hb).1, w1⟩
        rintro k s12 ⟨j, H12, I12, st12, n12, w12⟩
        rcases turn1 j k H12 w12 with ⟨stop1, nx1⟩ | ⟨go1, Nx1, next1, step1⟩
        · refine thnF (T1.done (X.blk s3 H3 sc ce fp) rfl rfl rfl calm j _ s12 (wipe σ8 vs1) H12 (fun _ _ => False) I12 (foot1 n12) st12 stop1) fun r s13 ⟨hr, I13⟩ => ?_
          subst hr
          exact over I13 (len8.trans (wipe_length σ8 vs1).symm) know9 nx1
        · refine thnF (T1.item (X.blk s3 H3 sc ce fp) rfl rfl rfl calm j _ s12 (wipe σ8 vs1) H12 (fun _ _ => False) I12 (foot1 n12) st12 go1) fun r s13 ⟨u1, hr, h13⟩ => ?_
          subst hr
          refine thnF h13 fun _ s14 ⟨x1, H14, I14, r14, y14, st14, n14⟩ => ?_
          have P14 := I14.pinned (foot1 n14) (T1.obj _ _ st14)
          refine thnF (rg1.run _ s14 (wipe σ8 vs1) H14 x1 u1 _ P14 r14 (step1 x1 H14 y14)) fun _ s15 ⟨σ15, H15, I15, hw15, q15⟩ => ?_
          have over1 : ∀ {s' : Shared} {H' : Hp}, Inv (X.blk s3 H3 sc ce fp) (([] ++ pinsAt fp s7.heap) ++ pinsAt fp1 s14.heap) σ15 H' s' → Nx1 H' →
              ∃ m, m < k ∧ ∃ j H', Inv (X.blk s3 H3 sc ce fp) ([] ++ pinsAt fp s7.heap) (wipe σ8 vs1) H' s' ∧ tn1 j s'.heap ∧ (∀ b ∈ fp1, H' b = none) ∧ W1 j m H' := fun {s' H'} I' nx => by
            obtain ⟨m', lt, w'⟩ := next1 H' nx
            have still : ∀ b ∈ fp1, ∀ o, s14.heap.get? b = some o → s'.heap.get? b = some o ∧ H' b = none := fun b hb o z =>
              let k := I'.pin (b, o) (List.mem_append_right _ (List.mem_append_right _ (mem_pinsAt hb z)))
              ⟨k.1, k.2.1⟩
            refine ⟨m', lt, j + 1, H', I'.unpinned.weak (by rw [← hw15, wipe_length]) (fun j v z => ?_), ?_, fun b hb => ?_, w'⟩
            · rw [← hw15] at z
              exact (wipe_some z).1
            · exact T1.keep _ _ _ st14 fun b hb o z => (still b hb o z).1
            · obtain ⟨o, z, _⟩ := T1.obj _ _ st14 b hb
              exact (still b hb o z).2
          refine thnF (rk.run _ s15 σ15 H15 _ I15 q15) fun ku s16 ⟨yk, H16, I16, r16, q16⟩ => ?_
          refine thnF (rv.run _ s16 σ15 H16 _ I16 q16) fun vu s17 ⟨yv, H17, I17, r17, kvs, key, ek, hD17, few, nx⟩ => ?_
          subst ek
          exact d_dictSet (X := X.blk s3 H3 sc ce fp) I17 hD17 few r16 r17 fun s18 I18 => over1 I18 nx
      exact dc2_start1 inner (T1.self X.A 0 _ _ _ st11 inner)
  exact codeAny_compStart_dict walk (T.self X.A 0 _ _ _ st4 walk)
/-- y = {..}, y a local -/
theorem ps_setDc2 {i : Nat} {y : Str} {py : Pos} {kx vx t0 j0 t1 j1 : Expr} {sc : Scope} {own : List (Str × Nat)} {vs1 : List Nat} {at_ spos : Pos} {wi wi1 : TI} {g g1 : TG} {tk tv : TE} (calm : X.calm = true) (nd : X.N.Nodup) (hy : X.N[i]? = some y) (hyl : X.env.scope.names.lookup y = some .local)
    (sw : swapsWith (dc2 kx vx t0 j0 t1 j1 sc at_) (some (.Name y py)) spos.line X.env = pure true) (hi : PI X t0 j0 wi) (blk : BlkOk X.N X.env.scope sc own) (sub : ∀ i ∈ vs1, i ∈ own.map (·.2))
    (hg : InB X sc fun Y => PG Y t0 g) (hi1 : InB X sc fun Y => PI Y t1 j1 wi1) (hg1 : InB X sc fun Y => PG Y t1 g1) (hk : InB X sc fun Y => PE Y kx tk) (hv : InB X sc fun Y => PE Y vx tv)
    (fold0 : ∀ x, foldedSetIterable j0 X.env x = pure x := by intro _; rfl) (fold1 : ∀ env x, foldedSetIterable j1 env x = pure x := by intro _ _; rfl) :
    PS X (.Assign [.Name y py] (dc2 kx vx t0 j0 t1 j1 sc at_) spos) (tAsg (tDc2 wi g wi1 g1 tk tv (own.map (·.2)) vs1) (gName i)) := by
  refine ⟨fun pins s σ H D I h => ?_⟩
  rw [exec_Assign_Name_used _ _ _ _ sw]
  refine wpAny_bind (wpAny_standAt (wpAny_bind ?_))
  show wpAny _ X.A (do let _ ← comprehension (dc2 kx vx t0 j0 t1 j1 sc at_) sc X.env (firstIterPos [⟨t0, j0, [], 0⟩, ⟨t1, j1, [], 0⟩] at_) newDict false (eval j0 X.env) (some (assign (.Name y py) X.env))) _ _ s
  have ask : tDc2 wi g wi1 g1 tk tv (own.map (·.2)) vs1 σ H (fun x H1 => gName i x σ H1 D.nx) := h
  refine wpAny_bind (thn (dc2_core (Qf := fun _ s' => SP X pins D .next s') calm nd I hi blk sub hg hi1 hg1 hk hv fold0 fold1 ask fun L C s' m H' I' q hn f => ?_) fun _ s' hq => wpAny_pure (wpAny_pure hq))
  show wpAny _ _ (assign (.Name y py) X.env (.ref L)) _ _ _
  refine wpAny_assign_Name (store_ok2 (v := V.ref L) I' nd hy (.inl hyl) rfl (fun s2 I2 ⟨a, sb, ha⟩ => ?_) (.inr hyl))
  obtain ⟨f0, f1, f2, f3, f4, f5⟩ := f
  have apart : C ≠ a := by
    rcases ha with z | z
    · rw [z]
      exact f1
    · exact fun e => f4 y a z e.symm
  refine ⟨m, hn.sameBut sb apart, fun h3 sb3 => ?_⟩
  exact ⟨_, H', I2.turned (t' := s2.toks) (fun b o hb z => (sb3.2 b hb).trans z) f0 f1 f3 f4 f5, q⟩
theorem sw_dc {kx vx : Expr} {gs : List Comprehension} {sc : Scope} {at_ py : Pos} {y : Str} {l : Nat} {env : Env} (hk : env.scope.kind = .function) (hy : env.scope.names.lookup y = some .local) (hl : (py.line == at_.line) = true)
    (ha : (sc.names.any fun (n, k) => n == y && (k == .local || k == .cell)) = false) : swapsWith (.DictComp kx vx gs sc at_) (some (.Name y py)) l env = pure true := by
  have ky : env.kindOf y = some .local := hy
  have kb : env.blockKind = .function := by
    unfold Env.blockKind
    rw [hk]
    rfl
  unfold swapsWith
  simp only [kb, ky, ha, Expr.pos, hl]
  rfl
end
end L2

set_option Elab.async false
set_option linter.all false
set_option maxRecDepth 100000
set_option maxHeartbeats 4000000
namespace K1
open PySem L2
/-- a class of the module as its makers know it -/
structure Mkr (P : Program) (w : World) (K : PySem.W.Frag) (mg : Str → Option Value) (base : Heap) (CX : CXT) (k : Nat) (x : Str) (C : Addr) (ps : List Str) (sp : Sp) : Prop where
  ex : ∃ (f : Addr) (fd : FuncData), Mk K C f ∧ FnOk P w K mg base CX k f fd ps sp ∧ mg x = some (.ref C) ∧ Binds K fd ps []
theorem pe_mkr {X : Cx} {CX : CXT} {k j : Nat} {x : Str} {C : Addr} {ps : List Str} {sp : Sp} {E : XK} {p pos : Pos} {e : Expr} {es : List Expr} {t : TA} (c : Mkr X.prog X.w X.K X.mg X.base CX k x C ps sp) (hr : Room j X.A) (hj : k + 1 ≤ j) (hx : Passes CX X E) (ha : PA X (e :: es) t)
    (hg : Gl X x := by rfl) (hdb : (x == ("__debug__" : Str)) = false := by decide) (he : starEach (e :: es) X.env = (false, eval e X.env) :: starEach es X.env := by rfl) (hpl : (backTo pos (starEach es X.env)).any (·.1) = false := by rfl) :
    PE X (.Call (.Name x p) (e :: es) [] pos) (tMake C sp [] E t) := by
  obtain ⟨f, fd, M, G, hm, hb⟩ := c.ex
  exact pe_make M G (hr.mono hj) hg hm hb .nil hx ha hdb he hpl
/-- a new instance and its __init__: what stood stands -/
theorem made_same {H H1 : Hp} {x dx C : Addr} (nx : H x = none) (nd : H dx = none) (k : ∀ b o, (upd (upd H dx (.own x)) x (.ins C dx [])) b = some o → b ≠ x → H1 b = some o) : Same H H1 := L2.Same.made nx nd k
section
variable {P : Program} {w : World} {K : PySem.W.Frag} {mg : Str → Option Value} {base : Heap}
/-! ### Scope: nothing of it is read here -/
abbrev sScI : Stmt := inClass (top 14) 0
def spScI (C : Addr) : Sp := fun vs H Q _ => ∃ (p dx : Addr) (a b c d e f : V), vs = [.ref p, a, b, c, d, e, f] ∧ H p = some (.ins C dx []) ∧ ∀ H', (∀ b o, H b = some o → b ≠ p → H' b = some o) → Q .non H'
structure NoS (K : PySem.W.Frag) (C : Addr) : Prop where
  cl : Cls K C
  n1 : NoAttr K C "class_names"
  n2 : NoAttr K C "field_names"
  n3 : NoAttr K C "variable_names"
  n4 : NoAttr K C "weak_names"
  n5 : NoAttr K C "levels"
  n6 : NoAttr K C "calls"
theorem putF_len (f : Str) (v : V) : ∀ fs : List (Str × V), (putF f v fs).length ≤ fs.length + 1
  | [] => Nat.le_refl _
  | (g, x) :: r => by
    show (if g = f then (g, v) :: r else (g, x) :: putF f v r).length ≤ _
    by_cases h : g = f
    · rw [if_pos h]
      simp
    · rw [if_neg h, List.length_cons, List.length_cons]
      have := putF_len f v r
      omega
theorem scSc : FnScope ["self", "class_names", "field_names", "variable_names", "weak_names", "levels", "calls"] ["self", "class_names", "field_names", "variable_names", "weak_names", "levels", "calls"] (defScope sScI) := ⟨rfl, rfl, rfl, by decide +kernel, rfl, by decide +kernel, by decide +kernel⟩
theorem okScI {f C : Addr} {fd : FuncData} (F : Fun K "__init__" "Scope.__init__" sScI f fd) (T : NoS K C) : FnOk P w K mg base CX0 1 f fd ["self", "class_names", "field_names", "variable_names", "weak_names", "levels", "calls"] (spScI C) := by
  refine F.ok scSc (fun vs H Q E h => ?_) (fun cdv A outer s H vs Q E hr h => ?_)
  · obtain ⟨p, dx, a, b, c, d, e, f, rfl, _⟩ := h
    rfl
  · obtain ⟨p, dx, a, b, c, d, e, f, rfl, hp, k⟩ := h
    refine ⟨_, pss_cons (ps_fld (pv 0) (pv 1) rfl) (pss_cons (ps_fld (pv 0) (pv 2) rfl) (pss_cons (ps_fld (pv 0) (pv 3) rfl) (pss_cons (ps_fld (pv 0) (pv 4) rfl) (pss_cons (ps_fld (pv 0) (pv 5) rfl) (pss_one (ps_fld (pv 0) (pv 6) rfl)))))), ?_⟩
    have z0 : ([] : List (Str × V)).length ≤ 0 := Nat.le_refl _
    have z1 := putF_len "class_names" a []
    have z2 := putF_len "field_names" b (putF "class_names" a [])
    have z3 := putF_len "variable_names" c (putF "field_names" b (putF "class_names" a []))
    have z4 := putF_len "weak_names" d (putF "variable_names" c (putF "field_names" b (putF "class_names" a [])))
    have z5 := putF_len "levels" e (putF "weak_names" d (putF "variable_names" c (putF "field_names" b (putF "class_names" a []))))
    refine ⟨_, rfl, _, rfl, p, C, dx, _, rfl, hp, T.cl, T.n1, by omega, ?_⟩
    refine ⟨_, rfl, _, rfl, p, C, dx, _, rfl, upd_same, T.cl, T.n2, by omega, ?_⟩
    refine ⟨_, rfl, _, rfl, p, C, dx, _, rfl, upd_same, T.cl, T.n3, by omega, ?_⟩
    refine ⟨_, rfl, _, rfl, p, C, dx, _, rfl, upd_same, T.cl, T.n4, by omega, ?_⟩
    refine ⟨_, rfl, _, rfl, p, C, dx, _, rfl, upd_same, T.cl, T.n5, by omega, ?_⟩
    refine ⟨_, rfl, _, rfl, p, C, dx, _, rfl, upd_same, T.cl, T.n6, by omega, ?_⟩
    refine k _ fun b o e hb => ?_
    rw [upd_ne hb, upd_ne hb, upd_ne hb, upd_ne hb, upd_ne hb, upd_ne hb]
    exact e
/-! ### Survey -/
abbrev sSuI : Stmt := inClass (top 15) 0
def suF (a b c e : V) : List (Str × V) := putF "buried" e (putF "depth" c (putF "many" b (putF "place" a [])))
theorem su_place (a b c e : V) : (suF a b c e).lookup ("place" : Str) = some a := by
  unfold suF
  rw [lookup_putF, if_neg (by decide +kernel), lookup_putF, if_neg (by decide +kernel), lookup_putF, if_neg (by decide +kernel), lookup_putF, if_pos rfl]
theorem su_many (a b c e : V) : (suF a b c e).lookup ("many" : Str) = some b := by
  unfold suF
  rw [lookup_putF, if_neg (by decide +kernel), lookup_putF, if_neg (by decide +kernel), lookup_putF, if_pos rfl]
def spSuI (C : Addr) : Sp := fun vs H Q _ => ∃ (p dx : Addr) (a b c e : V), vs = [.ref p, a, b, c, e] ∧ H p = some (.ins C dx []) ∧ ∀ H', H' p = some (.ins C dx (suF a b c e)) → (∀ b o, H b = some o → b ≠ p → H' b = some o) → Q .non H'
structure NoU (K : PySem.W.Frag) (C : Addr) : Prop where
  cl : Cls K C
  n1 : NoAttr K C "place"
  n2 : NoAttr K C "many"
  n3 : NoAttr K C "depth"
  n4 : NoAttr K C "buried"
theorem scSu : FnScope ["self", "place", "many", "depth", "buried"] ["self", "place", "many", "depth", "buried"] (defScope sSuI) := ⟨rfl, rfl, rfl, by decide +kernel, rfl, by decide +kernel, by decide +kernel⟩
theorem okSuI {f C : Addr} {fd : FuncData} (F : Fun K "__init__" "Survey.__init__" sSuI f fd) (T : NoU K C) : FnOk P w K mg base CX0 1 f fd ["self", "place", "many", "depth", "buried"] (spSuI C) := by
  refine F.ok scSu (fun vs H Q E h => ?_) (fun cdv A outer s H vs Q E hr h => ?_)
  · obtain ⟨p, dx, a, b, c, ee, rfl, _⟩ := h
    rfl
  · obtain ⟨p, dx, a, b, c, ee, rfl, hp, k⟩ := h
    refine ⟨_, pss_cons (ps_fld (pv 0) (pv 1) rfl) (pss_cons (ps_fld (pv 0) (pv 2) rfl) (pss_cons (ps_fld (pv 0) (pv 3) rfl) (pss_one (ps_fld (pv 0) (pv 4) rfl)))), ?_⟩
    have z1 := putF_len "place" a []
    have z2 := putF_len "many" b (putF "place" a [])
    have z3 := putF_len "depth" c (putF "many" b (putF "place" a []))
    have z0 : ([] : List (Str × V)).length ≤ 0 := Nat.le_refl _
    refine ⟨_, rfl, _, rfl, p, C, dx, _, rfl, hp, T.cl, T.n1, by omega, ?_⟩
    refine ⟨_, rfl, _, rfl, p, C, dx, _, rfl, upd_same, T.cl, T.n2, by omega, ?_⟩
    refine ⟨_, rfl, _, rfl, p, C, dx, _, rfl, upd_same, T.cl, T.n3, by omega, ?_⟩
    refine ⟨_, rfl, _, rfl, p, C, dx, _, rfl, upd_same, T.cl, T.n4, by omega, ?_⟩
    refine k _ upd_same fun b o e hb => ?_
    rw [upd_ne hb, upd_ne hb, upd_ne hb, upd_ne hb]
    exact e
/-! ### scope_for -/
/-- a list of valid classes stands at a -/
def ClsL (H : Hp) (a : Addr) (xs : List V) : Prop := H a = some (.lst xs) ∧ ∀ x ∈ xs, ∃ (p : Addr) (n : Str) (z b : V) (fl : Addr) (fs : List Str), x = .ref p ∧ H p = some (.tup [.str n, z, .ref fl, b]) ∧ H fl = some (.lst (fs.map V.str)) ∧ fs.length ≤ 3
theorem ClsL.mono {H H' : Hp} {a : Addr} {xs : List V} (c : ClsL H a xs) (s : Same H H') : ClsL H' a xs := ⟨s _ _ c.1, fun x hx => by
  obtain ⟨p, n, z, b, fl, fs, e, h1, h2, h3⟩ := c.2 x hx
  exact ⟨p, n, z, b, fl, fs, e, s _ _ h1, s _ _ h2, h3⟩⟩
def spScopeFor : Sp := fun vs H Q _ => ∃ (nm wk cs : V) (a r : Addr) (xs rs : List V), vs = [nm, .ref a, wk, .ref r, cs] ∧ ClsL H a xs ∧ xs.length ≤ 6 ∧ H r = some (.lst rs) ∧ ∀ p H', Same H H' → Q (.ref p) H'
theorem sc32 : FnScope ["names", "classes", "weak", "radices", "calls", "fields", "item", "name"] ["names", "classes", "weak", "radices", "calls"] (defScope (top 32)) := ⟨rfl, rfl, rfl, by decide +kernel, rfl, by decide +kernel, by decide +kernel⟩
theorem length_putK_le (kvs : List (Key × V)) (k : Key) (v : V) : (putK kvs k v).length ≤ kvs.length + 1 := length_putK kvs k v
theorem ok32 {f C : Addr} {fd : FuncData} (F : Fun K "scope_for" "scope_for" (top 32) f fd) (B : Blt mg) (MS : Mkr P w K mg base CX0 1 "Scope" C ["self", "class_names", "field_names", "variable_names", "weak_names", "levels", "calls"] (spScI C)) :
    FnOk P w K mg base CX0 3 f fd ["names", "classes", "weak", "radices", "calls"] spScopeFor := by
  refine F.ok sc32 (fun vs H Q E h => ?_) (fun cdv A outer s H vs Q E hr h => ?_)
  · obtain ⟨nm, wk, cs, a, r, xs, rs, rfl, _⟩ := h
    rfl
  · obtain ⟨nm, wk, cs, a, r, xs, rs, rfl, hC, hlen, hr', k⟩ := h
    refine ⟨_, pss_cons (ps_setDc2 (i := 5) (own := [("item", 6), ("name", 7)]) (vs1 := [7]) (wi1 := iList K (tOp (rIxT K) (tVar 6) (tC (.int 2)))) (g := gName 6) (g1 := gName 7) rfl sc32.nd rfl rfl (sw_dc rfl rfl rfl (by decide +kernel)) (pi_list (pv 1)) (blkOk_by (N := ["names", "classes", "weak", "radices", "calls", "fields", "item", "name"]) (sc := defScope (top 32)) (by decide +kernel)) (by decide)
        (fun _ _ _ _ _ => pg_name (i := 6) sc32.nd rfl (Or.inl rfl)) (fun _ _ _ _ _ => pi_list (pe_ix ix_tup (pv 6) pe_int (fun _ _ => rfl))) (fun _ _ _ _ _ => pg_name (i := 7) sc32.nd rfl (Or.inl rfl)) (fun _ _ _ _ _ => pv 7) (fun _ _ _ _ _ => pe_bl))
      (pss_one (ps_ret (pe_mkr MS hr (by decide) pass0 (pa_cons (pe_lc (own := [("item", 6)]) (te := tOp (rIxT K) (tVar 6) (tC (.int 0))) (g := gName 6) (tt := tYes) rfl sc32.nd (pi_list (pv 1)) (blkOk_by (N := ["names", "classes", "weak", "radices", "calls", "fields", "item", "name"]) (sc := defScope (top 32)) (by decide +kernel))
          (fun _ _ _ _ _ => pg_name (i := 6) sc32.nd rfl (Or.inl rfl)) (fun _ _ _ _ _ => pts_nil) (fun _ _ _ _ _ => pe_ix ix_tup (pv 6) pe_int (fun _ _ => rfl)))
        (pa_cons (pv 5) (pa_cons (pv 0) (pa_cons (pv 2) (pa_cons (pe_callB call_len_seq rfl B.len PySem.boot_len (pa_cons (pv 3) pa_nil)) (pa_cons (pv 4) pa_nil))))))))), ?_⟩
    refine ⟨_, rfl, a, rfl, ⟨_, SqL.of hC.1⟩, fun D hD => ?_⟩
    refine ⟨fun i m H1 => m + i = xs.length ∧ Same H H1 ∧ ∃ kvs : List (Key × V), H1 D = some (.dK kvs) ∧ kvs.length ≤ 3 * i, ⟨xs.length, rfl, fun b o e => by rw [upd_ne (ne_of_none e hD)]; exact e, [], upd_same, Nat.zero_le _⟩, ?_⟩
    rintro i m H1 ⟨hm, s1, kvs, hD1, hk⟩
    have hL := (hC.mono s1)
    by_cases hlt : i < xs.length
    · have hx : xs[i]? = some xs[i] := List.getElem?_eq_getElem hlt
      refine .inr ⟨⟨xs, xs[i], SqL.of hL.1, hx⟩, fun H2 => Same H H2 ∧ ∃ kvs : List (Key × V), H2 D = some (.dK kvs) ∧ kvs.length ≤ 3 * (i + 1), fun H2 ⟨s2, q⟩ => ⟨xs.length - (i + 1), by omega, by omega, s2, q⟩, fun x H2 y => ?_⟩
      obtain ⟨e, y⟩ := y
      subst e
      have hxx := y xs (SqL.of hL.1)
      obtain ⟨p, n, z, b, fl, fs, rfl, hp, hfl, hfs⟩ := hL.2 x (List.mem_of_getElem? hxx)
      refine ⟨rfl, _, rfl, p, _, 2, .ref fl, rfl, rfl, SqT.of hp, rfl, fl, rfl, ⟨_, SqL.of hfl⟩, ?_⟩
      refine ⟨fun j m H2 => m + j = fs.length ∧ Same H H2 ∧ ∃ kvs : List (Key × V), H2 D = some (.dK kvs) ∧ kvs.length ≤ 3 * i + j, ⟨fs.length, rfl, s1, kvs, hD1, by omega⟩, ?_⟩
      rintro j m2 H2 ⟨hm2, s2, kvs2, hD2, hk2⟩
      have hfl2 : H2 fl = some (.lst (fs.map V.str)) := by
        obtain ⟨p', n', z', b', fl', fs', e1, e2, e3, _⟩ := hC.2 (.ref p) (List.mem_of_getElem? hxx)
        cases e1
        have q1 := s1 _ _ e2
        rw [hp] at q1
        cases q1
        have q2 := s1 _ _ e3
        rw [hfl] at q2
        rw [Option.some.inj q2]
        exact s2 _ _ e3
      by_cases hlt2 : j < (fs.map V.str).length
      · have hy : (fs.map V.str)[j]? = some (fs.map V.str)[j] := List.getElem?_eq_getElem hlt2
        rw [List.length_map] at hlt2
        refine .inr ⟨⟨fs.map V.str, _, SqL.of hfl2, hy⟩, fun H3 => Same H H3 ∧ ∃ kvs : List (Key × V), H3 D = some (.dK kvs) ∧ kvs.length ≤ 3 * i + (j + 1), fun H3 ⟨s3, q⟩ => ⟨fs.length - (j + 1), by omega, by omega, s3, q⟩, fun y H3 yy => ?_⟩
        obtain ⟨e, yy⟩ := yy
        subst e
        have hyy := yy _ (SqL.of hfl2)
        rw [List.getElem?_map] at hyy
        obtain ⟨t, ht, rfl⟩ := Option.map_eq_some_iff.mp hyy
        refine ⟨rfl, _, rfl, kvs2, Sum.inr t, rfl, hD2, by rw [sizeLine_eq]; omega, fun b o e => ?_, _, upd_same, ?_⟩
        · rw [upd_ne (ne_of_none e hD)]
          exact s2 b o e
        · have := length_putK_le kvs2 (Sum.inr t) (.bl true)
          omega
      · rw [List.length_map] at hlt2
        refine .inl ⟨⟨fs.map V.str, SqL.of hfl2, by rw [List.length_map]; omega⟩, s2, kvs2, hD2, by omega⟩
    · have e : i = xs.length := by omega
      subst e
      refine .inl ⟨⟨xs, SqL.of hL.1, Nat.le_refl _⟩, ?_⟩
      refine ⟨_, rfl, a, rfl, ⟨_, SqL.of hL.1⟩, fun L hLn => ?_⟩
      refine lc_list (xs := xs) (fun i H2 => Same H H2 ∧ ∃ acc, H2 L = some (.lst acc) ∧ acc.length ≤ i) ⟨same_new s1 hLn, [], upd_same, Nat.le_refl _⟩ (fun i H2 _ ⟨s2, _⟩ => SqL.of (s2 _ _ hC.1)) ?_ ?_
      · rintro j x H2 hx ⟨s2, acc, hacc, hal⟩
        obtain ⟨p, n, z, b, fl, fs, rfl, hp, hfl, hfs⟩ := (hC.mono s2).2 x (List.mem_of_getElem? hx)
        refine ⟨rfl, ?_⟩
        unfold tYes
        dsimp only
        rw [if_pos rfl]
        refine ⟨_, rfl, p, _, 0, .str n, rfl, rfl, SqT.of hp, rfl, acc, hacc, ?_, fun c o e => ?_, _, upd_same, ?_⟩
        · have := (List.getElem?_eq_some_iff.mp hx).1
          rw [sizeLine_eq]
          omega
        · rw [upd_ne (ne_of_none (s1 _ _ e) hLn)]
          exact s2 c o e
        · rw [List.length_append]
          show acc.length + 1 ≤ j + 1
          omega
      · rintro H2 ⟨s2, acc, hacc, hal⟩
        refine ⟨_, rfl, _, rfl, _, rfl, _, rfl, r, rs, rfl, .inl (SqL.of (s2 _ _ hr')), _, rfl, fun x dx nx ndx nex => ?_⟩
        refine ⟨x, dx, _, _, _, _, _, _, rfl, upd_same, fun H3 kp => ⟨rfl, k x H3 (s2.trans (made_same nx ndx kp))⟩⟩
end
end K1

set_option Elab.async false
set_option linter.all false
set_option maxRecDepth 100000
set_option maxHeartbeats 4000000
namespace K1
open PySem L2
section
variable {P : Program} {w : World} {K : PySem.W.Frag} {mg : Str → Option Value} {base : Heap} {C CU : Addr}
theorem ans_isL {H : Hp} {b : Addr} {xs : List V} (e : H b = some (.lst xs)) : Ans K H (.ref b) "list" true := ⟨"list", .base (.lst e), by decide +kernel⟩
/-! ### survey of an empty body -/
def spSurvey (CU : Addr) : Sp := fun vs H Q _ => ∃ (b : Addr) (sc : V), vs = [.ref b, sc] ∧ H b = some (.lst []) ∧ ∀ p dx H', Same H H' → H' p = some (.ins CU dx (suF .non (.int 0) (.int 0) (.bl false))) → Q (.ref p) H'
theorem sc21 : FnScope ["body", "scope", "many", "depth", "buried", "ways", "block", "ahead", "nested", "repeats", "index", "statement", "place", "inner", "part", "start"] ["body", "scope"] (defScope (top 21)) := ⟨rfl, rfl, rfl, by decide +kernel, rfl, by decide +kernel, by decide +kernel⟩
theorem ok21 {f : Addr} {fd : FuncData} {tD : Tok} (F : Fun K "survey" "survey" (top 21) f fd) (B : Blt mg) (hD : mg "DEEPEST_BLOCK" = some (.int 60 tD)) (MU : Mkr P w K mg base CX0 1 "Survey" CU ["self", "place", "many", "depth", "buried"] (spSuI CU)) :
    FnOk P w K mg base CX0 3 f fd ["body", "scope"] (spSurvey CU) := by
  refine F.ok sc21 (fun vs H Q E h => ?_) (fun cdv A outer s H vs Q E hr h => ?_)
  · obtain ⟨b, sc, rfl, _⟩ := h
    rfl
  · obtain ⟨b, sc, rfl, hb, k⟩ := h
    refine ⟨_, pss_cons (ps_set (i := 2) sc21.nd rfl (Or.inl rfl) pe_int) (pss_cons (ps_set (i := 3) sc21.nd rfl (Or.inl rfl) pe_int)
      (pss_cons (ps_set (i := 4) sc21.nd rfl (Or.inl rfl) pe_bl) (pss_cons (ps_set (i := 5) sc21.nd rfl (Or.inl rfl) (pe_lst (pa_cons (pe_tup (pa_cons (pv 0) (pa_cons (pe_tup pa_nil) (pa_cons pe_int (pa_cons pe_int (pa_cons pe_int pa_nil)))))) pa_nil)))
      (pss_cons (ps_while PassesOwn.never (pt_truth (pv 5) (by intro _; rfl))
        (pss_cons (ps_asg (pe_bm0 PySem.F.plainAttrs_list PySem.F.slot_list_pop PySem.F.type_list_pop mt_pop (pv 5)) (pg_tup rfl (pgs_cons (pg_name (i := 6) sc21.nd rfl (Or.inl rfl)) (pgs_cons (pg_name (i := 7) sc21.nd rfl (Or.inl rfl)) (pgs_cons (pg_name (i := 8) sc21.nd rfl (Or.inl rfl)) (pgs_cons (pg_name (i := 9) sc21.nd rfl (Or.inl rfl)) (pgs_cons (pg_name (i := 10) sc21.nd rfl (Or.inl rfl)) pgs_nil)))))))
        (pss_cons (ps_if (pt_cmpR op_gt (pv 8) (pe_glob (v := .int 60) rfl hD ⟨_, rfl⟩) (nomark _)) pss_never pss_nil)
        (pss_cons (ps_if (pt_not (pt_val (pt_isi B (pv 6) B.list PyProof.Rows.boot_list))) pss_never pss_nil)
        (pss_cons (ps_if (pt_cmpR op_eq (pv 10) (pe_callB call_len_seq rfl B.len PySem.boot_len (pa_cons (pv 6) pa_nil)) (nomark _)) (pss_one ps_continue) pss_nil) pss_never)))))
      (pss_one (ps_ret (pe_mkr MU hr (by decide) pass0 (pa_cons pe_non (pa_cons (pv 2) (pa_cons (pv 3) (pa_cons (pv 4) pa_nil))))))))))), ?_⟩
    refine ⟨_, rfl, by decide, fun e he => ?_⟩
    refine ⟨(by show 5 ≤ sizeLine; decide), fun t ht => ?_⟩
    refine ⟨(by show 1 ≤ sizeLine; decide), fun l hl => ?_⟩
    have s0 : Same H (upd H e (.tup [])) := same_new (Same.refl _) he
    have s1 := same_new (o := .tup [.ref b, .ref e, .int 0, .int 0, .int 0]) s0 ht
    have s2 := same_new (o := .lst [.ref t]) s1 hl
    have hl0 : H l = none := s1.free hl
    refine ⟨fun m σ H1 => ∃ (v5 v6 v7 v8 v9 v10 v11 v12 v13 v14 : Option V), σ = [some (.ref b), some sc, some (.int 0), some (.int 0), some (.bl false), some (.ref l), v5, v6, v7, v8, v9, v10, v11, v12, v13, v14] ∧ Same H H1 ∧
        ((m = 1 ∧ H1 l = some (.lst [.ref t]) ∧ H1 t = some (.tup [.ref b, .ref e, .int 0, .int 0, .int 0])) ∨ (m = 0 ∧ H1 l = some (.lst []))),
      ⟨1, none, none, none, none, none, none, none, none, none, none, rfl, s2, .inl ⟨rfl, upd_same, by rw [upd_ne (ne_of_none upd_same hl), upd_same]⟩⟩, ?_⟩
    rintro m σ H1 ⟨v5, v6, v7, v8, v9, v10, v11, v12, v13, v14, rfl, s3, h3⟩
    rcases h3 with ⟨rfl, hl1, ht1⟩ | ⟨rfl, hl1⟩
    · refine ⟨_, rfl, true, .inl ⟨_, SqL.of hl1, rfl⟩, ?_⟩
      refine iteT ?_
      refine ⟨fun σ' H' => ∃ (v5 v6 v7 v8 v9 v10 v11 v12 v13 v14 : Option V), σ' = [some (.ref b), some sc, some (.int 0), some (.int 0), some (.bl false), some (.ref l), v5, v6, v7, v8, v9, v10, v11, v12, v13, v14] ∧ Same H H' ∧ H' l = some (.lst []),
        fun σ' H' ⟨w5, w6, w7, w8, w9, w10, w11, w12, w13, w14, e1, e2, e3⟩ => ⟨0, by decide, w5, w6, w7, w8, w9, w10, w11, w12, w13, w14, e1, e2, .inr ⟨rfl, e3⟩⟩, ?_⟩
      have s4 : Same H (upd H1 l (.lst [])) := fun c o z => by
        rw [upd_ne (ne_of_none z hl0)]
        exact s3 c o z
      have ntl : t ≠ l := fun z => by
        rw [z, hl1] at ht1
        cases ht1
      refine ⟨_, rfl, .inl ⟨rfl, _, SqL.of hl1⟩, l, [.ref t], .ref t, rfl, rfl, hl1, rfl, ?_⟩
      refine ⟨t, _, rfl, SqT.of (by rw [upd_ne ntl]; exact ht1), rfl, .ref b, _, rfl, .ref e, _, rfl, .int 0, _, rfl, .int 0, _, rfl, .int 0, _, rfl, rfl, ?_⟩
      refine ⟨_, rfl, _, _, rfl, rfl, _, rfl, ?_⟩
      refine iteF ?_
      have hb4 : (upd H1 l (.lst [])) b = some (.lst []) := s4 _ _ hb
      refine isi_rd rfl (ans_isL hb4) ⟨_, rfl, ?_⟩
      refine iteF ?_
      refine ⟨_, rfl, _, rfl, b, [], rfl, .inl (SqL.of hb4), rfl, _, rfl, ?_⟩
      refine iteT ?_
      exact ⟨_, _, _, _, _, _, _, _, _, _, rfl, s4, upd_same⟩
    · refine ⟨_, rfl, false, .inl ⟨_, SqL.of hl1, rfl⟩, ?_⟩
      refine iteF ?_
      refine ⟨_, rfl, _, rfl, _, rfl, fun x dx nx ndx nex => ?_⟩
      exact ⟨x, dx, _, _, _, _, rfl, upd_same, fun H3 h3 kp => ⟨rfl, k x dx H3 (s3.trans (made_same nx ndx kp)) h3⟩⟩
end
end K1

set_option Elab.async false
set_option linter.all false
set_option maxRecDepth 100000
set_option maxHeartbeats 4000000
namespace K1
open PySem L2
/-- a class of a program, as data -/
structure Row where
  n : Str
  z : Int
  fs : List Str
  b : Bool
/-- it stands as a tuple whose objects are new since H0 -/
def RowAt (H0 H : Hp) (x : V) (r : Row) : Prop := ∃ (p fl : Addr), x = .ref p ∧ H0 p = none ∧ H0 fl = none ∧ H p = some (.tup [.str r.n, .int r.z, .ref fl, .bl r.b]) ∧ H fl = some (.lst (r.fs.map V.str))
/-- the list of classes -/
def ClsN (H0 H : Hp) (a : Addr) (rows : List Row) : Prop := H0 a = none ∧ ∃ xs, H a = some (.lst xs) ∧ Paired (RowAt H0 H) xs rows
/-- list(xs), by values -/
def rLof (K : PySem.W.Frag) : List V → Hp → VK → Prop := fun xs H Q => ∃ p ys, xs = [.ref p] ∧ (SqL K H p ys ∨ SqT K H p ys) ∧ ∀ l, H l = none → Q (.ref l) (upd H l (.lst ys))
def nul : Hp := fun _ => none
theorem RowAt.mono {H0 H H' : Hp} {x : V} {r : Row} (h : RowAt H0 H x r) (s : Same H H') : RowAt H0 H' x r := by
  obtain ⟨p, fl, e, f1, f2, h1, h2⟩ := h
  exact ⟨p, fl, e, f1, f2, s _ _ h1, s _ _ h2⟩
theorem ClsN.mono {H0 H H' : Hp} {a : Addr} {rows : List Row} (h : ClsN H0 H a rows) (s : Same H H') : ClsN H0 H' a rows := by
  obtain ⟨f0, xs, e, p⟩ := h
  exact ⟨f0, xs, s _ _ e, p.mono fun _ _ z => z.mono s⟩
theorem paired_at {α β : Type} {F : α → β → Prop} : ∀ {l : List α} {m : List β} {i : Nat} {x : α}, Paired F l m → l[i]? = some x → ∃ y, m[i]? = some y ∧ F x y
  | _, _, _, _, .nil, h => by simp at h
  | _, _, 0, x, .cons (b := b) f _, h => by
    have e := Option.some.inj h
    subst e
    exact ⟨b, rfl, f⟩
  | _, _, i + 1, x, .cons _ r, h => by
    have h' : _ := h
    rw [List.getElem?_cons_succ] at h'
    obtain ⟨y, h1, h2⟩ := paired_at r h'
    exact ⟨y, by rw [List.getElem?_cons_succ]; exact h1, h2⟩
theorem take_snoc {α : Type} {l : List α} {i : Nat} {x : α} (h : l[i]? = some x) : l.take (i + 1) = l.take i ++ [x] := start_drop l i x h
theorem ClsN.toL {H0 H : Hp} {a : Addr} {rows : List Row} (h : ClsN H0 H a rows) (h3 : ∀ r ∈ rows, r.fs.length ≤ 3) : ∃ xs, ClsL H a xs ∧ xs.length = rows.length := by
  obtain ⟨f0, xs, e, p⟩ := h
  refine ⟨xs, ⟨e, fun x hx => ?_⟩, p.length⟩
  obtain ⟨i, hi⟩ := List.getElem?_of_mem hx
  obtain ⟨r, hr, q, fl, rfl, _, _, h1, h2⟩ := paired_at p hi
  exact ⟨q, r.n, .int r.z, .bl r.b, fl, r.fs, rfl, h1, h2, h3 r (List.mem_of_getElem? hr)⟩
section
variable {P : Program} {w : World} {K : PySem.W.Frag} {mg : Str → Option Value} {base : Heap} {C CU : Addr}
/-! ### check_body of an empty body -/
def spCheckBody (CU : Addr) : Sp := fun vs H Q _ => ∃ (b : Addr) (sc : V), vs = [.ref b, sc, .int 0] ∧ H b = some (.lst []) ∧ ∀ H', Same H H' → Q .non H'
theorem sc34 : FnScope ["body", "scope", "many", "seen"] ["body", "scope", "many"] (defScope (top 34)) := ⟨rfl, rfl, rfl, by decide +kernel, rfl, by decide +kernel, by decide +kernel⟩
theorem ok34 {f : Addr} {fd : FuncData} {tD : Tok} (F : Fun K "check_body" "check_body" (top 34) f fd) (B : Blt mg) (hD : mg "MOST_STATEMENTS" = some (.int 60 tD)) (U : NoU K CU) (C21 : Cal P w K mg base CX0 3 "survey" ["body", "scope"] (spSurvey CU)) :
    FnOk P w K mg base CX0 4 f fd ["body", "scope", "many"] (spCheckBody CU) := by
  refine F.ok sc34 (fun vs H Q E h => ?_) (fun cdv A outer s H vs Q E hr h => ?_)
  · obtain ⟨b, sc, rfl, _⟩ := h
    rfl
  · obtain ⟨b, sc, rfl, hb, k⟩ := h
    refine ⟨_, pss_cons (ps_set (i := 3) sc34.nd rfl (Or.inl rfl) (pe_cal C21 hr (by decide) pass0 (pa_cons (pv 0) (pa_cons (pv 1) pa_nil))))
      (pss_cons (ps_if (pt_cmpR op_notN (pe_fld (pv 3) rfl) pe_non (nomark _)) pss_never pss_nil)
      (pss_one (ps_if (pt_cmpR op_gt (pe_op op_add (pv 2) (pe_fld (pv 3) rfl)) (pe_glob (v := .int 60) rfl hD ⟨_, rfl⟩) (nomark _)) pss_never pss_nil))), ?_⟩
    refine ⟨_, rfl, _, rfl, b, sc, rfl, hb, fun p dx H1 s1 hp => ?_⟩
    refine ⟨_, rfl, p, CU, dx, _, _, rfl, hp, U.cl, U.n1, su_place _ _ _ _, rfl, _, rfl, ?_⟩
    refine iteF ?_
    refine ⟨_, rfl, _, rfl, p, CU, dx, _, _, rfl, hp, U.cl, U.n2, su_many _ _ _ _, _, _, rfl, rfl, _, _, rfl, rfl, _, rfl, ?_⟩
    refine iteF ?_
    exact k _ s1
/-! ### check_functions of an empty list -/
def spCheckFns : Sp := fun vs H Q _ => ∃ (f : Addr) (a b c : V), vs = [.ref f, a, b, c] ∧ H f = some (.lst []) ∧ ∀ t d H', Same H H' → H' t = some (.tup [.ref d, .int 0]) → Q (.ref t) H'
theorem sc33 : FnScope ["functions", "classes", "weak", "radices", "calls", "many", "index", "item", "name", "parameters", "inner", "body", "result", "seen"] ["functions", "classes", "weak", "radices"] (defScope (top 33)) := ⟨rfl, rfl, rfl, by decide +kernel, rfl, by decide +kernel, by decide +kernel⟩
theorem ok33 {f : Addr} {fd : FuncData} (F : Fun K "check_functions" "check_functions" (top 33) f fd) (B : Blt mg) : FnOk P w K mg base CX0 1 f fd ["functions", "classes", "weak", "radices"] spCheckFns := by
  refine F.ok sc33 (fun vs H Q E h => ?_) (fun cdv A outer s H vs Q E hr h => ?_)
  · obtain ⟨f, a, b, c, rfl, _⟩ := h
    rfl
  · obtain ⟨fa, a, b, c, rfl, hf, k⟩ := h
    refine ⟨_, pss_cons (ps_if (PW.pt (pw_or (pt_not (pt_val (pt_isi B (pv 0) B.list PyProof.Rows.boot_list))) (pw_or1 (pt_cmpR op_gt (pe_callB call_len_seq rfl B.len PySem.boot_len (pa_cons (pv 0) pa_nil)) pe_int (nomark _))))) pss_never pss_nil)
      (pss_cons (ps_set (i := 4) sc33.nd rfl (Or.inl rfl) pe_dnewK)
      (pss_cons (ps_set (i := 5) sc33.nd rfl (Or.inl rfl) pe_int)
      (pss_cons (ps_for PassesOwn.never rfl (pi_enum rfl B.enumerate (pa_cons (pv 0) pa_nil)) (pg_tup rfl (pgs_cons (pg_name (i := 6) sc33.nd rfl (Or.inl rfl)) (pgs_cons (pg_name (i := 7) sc33.nd rfl (Or.inl rfl)) pgs_nil))) pss_never)
      (pss_one (ps_ret (pe_tup (pa_cons (pv 4) (pa_cons (pv 5) pa_nil)))))))), ?_⟩
    refine isi_rd rfl (ans_isL hf) ⟨_, rfl, ?_⟩
    refine iteF ?_
    refine ⟨_, rfl, fa, [], rfl, .inl (SqL.of hf), _, _, rfl, rfl, _, rfl, ?_⟩
    refine iteF ?_
    intro D hD
    refine ⟨_, rfl, fa, [], rfl, SqL.of (by rw [upd_ne (ne_of_none hf hD)]; exact hf), ?_⟩
    refine for_enum (fun i σ H1 => σ = [some (.ref fa), some a, some b, some c, some (.ref D), some (.int 0), none, none, none, none, none, none, none, none] ∧ Same H H1)
      ⟨rfl, same_new (Same.refl _) hD⟩ (fun i σ H1 _ ⟨_, s1⟩ => SqL.of (s1 _ _ hf)) (fun i x σ H1 T hx => by simp at hx) ?_
    rintro σ H1 ⟨rfl, s1⟩
    refine ⟨_, rfl, _, rfl, (by show 2 ≤ sizeLine; decide), fun t ht => ?_⟩
    exact k t D _ (same_new s1 ht) upd_same
/-! ### copies -/
def spCopyNil : Sp := fun vs H Q _ => ∃ (b : Addr), vs = [.ref b] ∧ H b = some (.lst []) ∧ ∀ p H', Same H H' → H p = none → H' p = some (.lst []) → Q (.ref p) H'
theorem sc22 : FnScope ["block", "rows", "statement", "words", "word"] ["block"] (defScope (top 22)) := ⟨rfl, rfl, rfl, by decide +kernel, rfl, by decide +kernel, by decide +kernel⟩
theorem ok22 {f : Addr} {fd : FuncData} (F : Fun K "copied_block" "copied_block" (top 22) f fd) : FnOk P w K mg base CX0 1 f fd ["block"] spCopyNil := by
  refine F.ok sc22 (fun vs H Q E h => ?_) (fun cdv A outer s H vs Q E hr h => ?_)
  · obtain ⟨b, rfl, _⟩ := h
    rfl
  · obtain ⟨b, rfl, hb, k⟩ := h
    refine ⟨_, pss_cons (ps_set (i := 1) sc22.nd rfl (Or.inl rfl) (pe_lst pa_nil)) (pss_cons (ps_for PassesOwn.never rfl (pi_list (pv 0)) (pg_name (i := 2) sc22.nd rfl (Or.inl rfl)) pss_never) (pss_one (ps_ret (pv 1)))), ?_⟩
    refine ⟨by decide, fun l hl => ?_⟩
    have s1 : Same H (upd H l (.lst [])) := same_new (Same.refl _) hl
    refine ⟨_, rfl, b, rfl, ⟨_, SqL.of (s1 _ _ hb)⟩, for_list (xs := []) (fun i σ H1 => σ = [some (.ref b), some (.ref l), none, none, none] ∧ Same H H1 ∧ H1 l = some (.lst [])) ⟨rfl, s1, upd_same⟩ (fun i σ H1 _ ⟨_, s2, _⟩ => SqL.of (s2 _ _ hb)) (fun i x σ H1 hx => by simp at hx) ?_⟩
    rintro σ H1 ⟨rfl, s2, e⟩
    exact ⟨_, rfl, k l H1 s2 hl e⟩
theorem sc36 : FnScope ["functions", "rows", "name", "parameters", "inner", "body", "result"] ["functions"] (defScope (top 36)) := ⟨rfl, rfl, rfl, by decide +kernel, rfl, by decide +kernel, by decide +kernel⟩
theorem ok36 {f : Addr} {fd : FuncData} (F : Fun K "copied_functions" "copied_functions" (top 36) f fd) : FnOk P w K mg base CX0 1 f fd ["functions"] spCopyNil := by
  refine F.ok sc36 (fun vs H Q E h => ?_) (fun cdv A outer s H vs Q E hr h => ?_)
  · obtain ⟨b, rfl, _⟩ := h
    rfl
  · obtain ⟨b, rfl, hb, k⟩ := h
    refine ⟨_, pss_cons (ps_set (i := 1) sc36.nd rfl (Or.inl rfl) (pe_lst pa_nil)) (pss_cons (ps_for PassesOwn.never rfl (pi_list (pv 0)) (pg_tup rfl (pgs_cons (pg_name (i := 2) sc36.nd rfl (Or.inl rfl)) (pgs_cons (pg_name (i := 3) sc36.nd rfl (Or.inl rfl)) (pgs_cons (pg_name (i := 4) sc36.nd rfl (Or.inl rfl)) (pgs_cons (pg_name (i := 5) sc36.nd rfl (Or.inl rfl)) (pgs_cons (pg_name (i := 6) sc36.nd rfl (Or.inl rfl)) pgs_nil)))))) pss_never) (pss_one (ps_ret (pv 1)))), ?_⟩
    refine ⟨by decide, fun l hl => ?_⟩
    have s1 : Same H (upd H l (.lst [])) := same_new (Same.refl _) hl
    refine ⟨_, rfl, b, rfl, ⟨_, SqL.of (s1 _ _ hb)⟩, for_list (xs := []) (fun i σ H1 => σ = [some (.ref b), some (.ref l), none, none, none, none, none] ∧ Same H H1 ∧ H1 l = some (.lst [])) ⟨rfl, s1, upd_same⟩ (fun i σ H1 _ ⟨_, s2, _⟩ => SqL.of (s2 _ _ hb)) (fun i x σ H1 hx => by simp at hx) ?_⟩
    rintro σ H1 ⟨rfl, s2, e⟩
    exact ⟨_, rfl, k l H1 s2 hl e⟩
def spCopyCls : Sp := fun vs H Q _ => ∃ (a : Addr) (H0 : Hp) (rows : List Row), vs = [.ref a] ∧ ClsN H0 H a rows ∧ rows.length ≤ 6 ∧ (∀ r ∈ rows, r.fs.length ≤ 3) ∧ ∀ q H', Same H H' → ClsN H H' q rows → Q (.ref q) H'
theorem sc35 : FnScope ["classes", "name", "size", "fields", "final"] ["classes"] (defScope (top 35)) := ⟨rfl, rfl, rfl, by decide +kernel, rfl, by decide +kernel, by decide +kernel⟩
theorem ok35 {f : Addr} {fd : FuncData} (F : Fun K "copied_classes" "copied_classes" (top 35) f fd) (B : Blt mg) : FnOk P w K mg base CX0 1 f fd ["classes"] spCopyCls := by
  refine F.ok sc35 (fun vs H Q E h => ?_) (fun cdv A outer s H vs Q E hr h => ?_)
  · obtain ⟨a, H0, rows, rfl, _⟩ := h
    rfl
  · obtain ⟨a, H0, rows, rfl, hC, hlen, h3, k⟩ := h
    refine ⟨_, pss_one (ps_ret (pe_lc (own := [("name", 1), ("size", 2), ("fields", 3), ("final", 4)]) (tt := tYes) (g := gTup K 4 (gCons (gName 1) (gCons (gName 2) (gCons (gName 3) (gCons (gName 4) gNil))))) rfl sc35.nd (pi_list (pv 0)) (blkOk_by (N := ["classes", "name", "size", "fields", "final"]) (sc := defScope (top 35)) (by decide +kernel))
      (fun _ _ _ _ _ => pg_tup rfl (pgs_cons (pg_name (i := 1) sc35.nd rfl (Or.inl rfl)) (pgs_cons (pg_name (i := 2) sc35.nd rfl (Or.inl rfl)) (pgs_cons (pg_name (i := 3) sc35.nd rfl (Or.inl rfl)) (pgs_cons (pg_name (i := 4) sc35.nd rfl (Or.inl rfl)) pgs_nil))))) (fun _ _ _ _ _ => pts_nil)
      (fun _ _ _ _ _ => pe_tup (pa_cons (pv 1) (pa_cons (pv 2) (pa_cons (pe_callTy (r := rLof K) call_list_of rfl B.list PyProof.Rows.boot_list (pa_cons (pv 3) pa_nil)) (pa_cons (pv 4) pa_nil))))))), ?_⟩
    obtain ⟨f0, xs, ea, pr⟩ := hC
    refine ⟨_, rfl, a, rfl, ⟨_, SqL.of ea⟩, fun L hL => ?_⟩
    have hxs : xs.length ≤ 6 := by rw [pr.length]; exact hlen
    refine lc_list (xs := xs) (fun i H1 => Same H H1 ∧ ∃ acc, H1 L = some (.lst acc) ∧ acc.length ≤ i ∧ Paired (RowAt (upd H L (.lst [])) H1) acc (rows.take i)) ⟨same_new (Same.refl _) hL, [], upd_same, Nat.le_refl _, .nil⟩ (fun i H1 _ ⟨s1, _⟩ => SqL.of (s1 _ _ ea)) ?_ ?_
    · rintro i x H1 hx ⟨s1, acc, hacc, hal, hpa⟩
      obtain ⟨r, hrr, p, fl, rfl, g1, g2, hp, hfl⟩ := paired_at pr hx
      have hi : i < xs.length := (List.getElem?_eq_some_iff.mp hx).1
      refine ⟨p, _, rfl, SqT.of (s1 _ _ hp), rfl, _, _, rfl, _, _, rfl, _, _, rfl, _, _, rfl, rfl, rfl, ?_⟩
      unfold tYes
      dsimp only
      rw [if_pos rfl]
      refine ⟨_, rfl, _, rfl, _, rfl, fl, _, rfl, .inl (SqL.of (s1 _ _ hfl)), fun l hl => ?_⟩
      refine ⟨_, rfl, (by show 4 ≤ sizeLine; decide), fun t ht => ?_⟩
      have s2 : Same H1 (upd H1 l (.lst (r.fs.map V.str))) := same_new (Same.refl _) hl
      have s3 := same_new (o := .tup [.str r.n, .int r.z, .ref l, .bl r.b]) s2 ht
      have ntl : l ≠ t := ne_of_none upd_same ht
      refine ⟨acc, s3 _ _ hacc, by rw [sizeLine_eq]; omega, fun c o e => ?_, _, upd_same, by rw [List.length_append]; show acc.length + 1 ≤ i + 1; omega, ?_⟩
      · rw [upd_ne (ne_of_none e hL)]
        exact s3 _ _ (s1 _ _ e)
      · rw [take_snoc hrr]
        have kept : ∀ {y : V} {r' : Row}, RowAt (upd H L (.lst [])) H1 y r' → RowAt (upd H L (.lst [])) (upd (upd (upd H1 l (.lst (r.fs.map V.str))) t (.tup [.str r.n, .int r.z, .ref l, .bl r.b])) L (.lst (acc ++ [.ref t]))) y r' := fun {y r'} z => by
          obtain ⟨p', fl', e, z1, z2, z3, z4⟩ := z
          refine ⟨p', fl', e, z1, z2, ?_, ?_⟩
          · rw [upd_ne (ne_of z3 hacc (by intro q; cases q))]
            exact s3 _ _ z3
          · rw [upd_ne (ne_of_none (o := .lst []) upd_same z2).symm]
            exact s3 _ _ z4
        refine (hpa.mono fun _ _ z => kept z).snoc ⟨t, l, rfl, ?_, ?_, ?_, ?_⟩
        · have q : H1 t = none := s2.free ht
          rw [upd_ne (ne_of_none hacc q).symm]
          exact s1.free q
        · rw [upd_ne (ne_of_none hacc hl).symm]
          exact s1.free hl
        · rw [upd_ne (ne_of upd_same (s3 _ _ hacc) (by intro q; cases q)), upd_same]
        · rw [upd_ne (ne_of_none hacc hl).symm, upd_ne ntl, upd_same]
    · rintro H1 ⟨s1, acc, hacc, hal, hpa⟩
      rw [pr.length, List.take_of_length_le (Nat.le_refl _)] at hpa
      refine k L H1 s1 ⟨hL, acc, hacc, hpa.mono fun x r z => ?_⟩
      obtain ⟨p, fl, e, z1, z2, z3, z4⟩ := z
      have off : ∀ {b : Addr}, (upd H L (.lst [])) b = none → H b = none := fun {b} q => by
        by_cases hb : b = L
        · rw [hb]
          exact hL
        · rw [upd_ne hb] at q
          exact q
      exact ⟨p, fl, e, off z1, off z2, z3, z4⟩
end
end K1

set_option Elab.async false
set_option linter.all false
set_option maxRecDepth 100000
set_option maxHeartbeats 4000000
namespace K1
open PySem L2
/-! ### what the checks' silence says -/
theorem badFrom_none {bar : List Str} : ∀ {xs : List V} {seen : List Str} {i : Nat}, badFrom bar xs seen i = none → ∃ ss : List Str, xs = ss.map V.str ∧ ∀ s ∈ ss, nameS s = true
  | [], _, _, _ => ⟨[], rfl, fun _ h => by cases h⟩
  | v :: r, seen, i, h => by
    cases hn : nameV v with
    | false =>
      rw [badFrom_no hn] at h
      cases h
    | true =>
      obtain ⟨s, rfl, hz⟩ := nameV_is hn
      rw [badFrom_str] at h
      by_cases c : (nameS s && !seen.contains s && !bar.contains s) = true
      · rw [if_pos c] at h
        obtain ⟨ss, rfl, ok⟩ := badFrom_none h
        refine ⟨s :: ss, rfl, fun z hz' => ?_⟩
        rcases List.mem_cons.mp hz' with rfl | hz'
        · exact hz
        · exact ok z hz' 
      · rw [if_neg c] at h
        cases h
theorem firstBad_none {H : Hp} {v : V} {most : Int} {bar : List Str} (h : firstBad H v most bar = .non) : ∃ (a : Addr) (ss : List Str), v = .ref a ∧ H a = some (.lst (ss.map V.str)) ∧ (ss.length : Int) ≤ most ∧ ∀ s ∈ ss, nameS s = true := by
  unfold firstBad at h
  cases hl : lstOf H v with
  | none => rw [hl] at h; cases h
  | some xs =>
    rw [hl] at h
    obtain ⟨a, rfl, ha⟩ := lstOf_some hl
    have h' : (if (most : Int) < (xs.length : Int) then V.int (-1) else optV (badFrom bar xs [] 0)) = .non := h
    by_cases c : (most : Int) < (xs.length : Int)
    · rw [if_pos c] at h'
      cases h'
    · rw [if_neg c] at h'
      have h := h'
      cases hb : badFrom bar xs [] 0 with
      | some i => rw [hb] at h; cases h
      | none =>
        obtain ⟨ss, rfl, ok⟩ := badFrom_none hb
        refine ⟨a, ss, rfl, ha, ?_, ok⟩
        rw [List.length_map] at c
        omega
theorem names_ok {H : Hp} {v : V} {lo hi : Int} {bar : List Str} (h : namesAt H v lo hi bar = .non) : ∃ (a : Addr) (ss : List Str), v = .ref a ∧ H a = some (.lst (ss.map V.str)) ∧ lo ≤ (ss.length : Int) ∧ (ss.length : Int) ≤ hi ∧ firstBad H v hi bar = .non ∧ ∀ s ∈ ss, nameS s = true := by
  unfold namesAt at h
  rcases firstBad_kind (H := H) (v := v) (most := hi) (bar := bar) with ⟨e, xs, hl⟩ | ⟨i, e⟩
  · obtain ⟨a, ss, rfl, ha, hle, ok⟩ := firstBad_none e
    refine ⟨a, ss, rfl, ha, ?_, hle, e, ok⟩
    rw [e, lstOf_of ha] at h
    have h' : (if (((ss.map V.str).length : Nat) : Int) < lo then V.int (-1) else V.non) = V.non := h
    by_cases c : (((ss.map V.str).length : Nat) : Int) < lo
    · rw [if_pos c] at h'
      cases h'
    · rw [List.length_map] at c
      omega
  · rw [e] at h
    cases h
theorem whole_ok {v : V} {lo hi : Int} (h : wholeV v lo hi = true) : ∃ i, v = .int i ∧ lo ≤ i ∧ i ≤ hi := by
  cases v with
  | int i =>
    have h' : (decide (lo ≤ i) && decide (i ≤ hi)) = true := h
    rw [Bool.and_eq_true] at h'
    exact ⟨i, rfl, of_decide_eq_true h'.1, of_decide_eq_true h'.2⟩
  | _ => cases h
theorem radFrom_none : ∀ {xs : List V} {tot : Int} {i : Nat}, radFrom xs tot i = none → ∃ ks : List Int, xs = ks.map V.int
  | [], _, _, _ => ⟨[], rfl⟩
  | v :: r, tot, i, h => by
    by_cases c : intV v = true
    · obtain ⟨k, rfl⟩ := intV_is c
      rw [radFrom_int] at h
      by_cases d : (decide (k < 2) || decide ((12 : Int) < tot * k)) = true
      · rw [if_pos d] at h
        cases h
      · rw [if_neg d] at h
        obtain ⟨ks, rfl⟩ := radFrom_none h
        exact ⟨k :: ks, rfl⟩
    · rw [radFrom_no c] at h
      cases h
theorem rad_ok {H : Hp} {v : V} {th : Int} (h : radicesAt H v th = .non) : ∃ (a : Addr) (ks : List Int), v = .ref a ∧ H a = some (.lst (ks.map V.int)) := by
  unfold radicesAt at h
  cases hl : lstOf H v with
  | none => rw [hl] at h; cases h
  | some xs =>
    rw [hl] at h
    obtain ⟨a, rfl, ha⟩ := lstOf_some hl
    have h' : optV (radFrom xs th 0) = .non := h
    cases hb : radFrom xs th 0 with
    | some i => rw [hb] at h'; cases h'
    | none =>
      obtain ⟨ks, rfl⟩ := radFrom_none hb
      exact ⟨a, ks, rfl, ha⟩
theorem clsFrom_none {H : Hp} : ∀ {xs : List V} {seen : List Str} {i : Nat}, clsFrom H xs seen i = none → ∃ rows : List Row, Paired (RowAt nul H) xs rows ∧ ∀ r ∈ rows, r.fs.length ≤ 3 ∧ nameS r.n = true ∧ ∀ s ∈ r.fs, nameS s = true
  | [], _, _, _ => ⟨[], .nil, fun _ h => by cases h⟩
  | v :: r, seen, i, h => by
    have h' : (if classOk H v seen = true then clsFrom H r (seen ++ [nameOf H v]) (i + 1) else some i) = none := h
    by_cases c : classOk H v seen = true
    · rw [if_pos c] at h'
      obtain ⟨rows, pr, h3⟩ := clsFrom_none h'
      obtain ⟨a, n, z, f, b, rfl, ha, hnm, _, hw, hf, hb⟩ := classOk_is c
      obtain ⟨k, rfl, _, _⟩ := whole_ok hw
      obtain ⟨fl, fs, rfl, hfl, hlen, ok⟩ := firstBad_none hf
      cases b with
      | bl b =>
        refine ⟨⟨n, k, fs, b⟩ :: rows, .cons ⟨a, fl, rfl, rfl, rfl, ha, hfl⟩ pr, fun r hr => ?_⟩
        rcases List.mem_cons.mp hr with rfl | hr
        · exact ⟨by show fs.length ≤ 3; omega, hnm, ok⟩
        · exact h3 r hr
      | _ => cases hb
    · rw [if_neg c] at h'
      cases h'
theorem classes_ok {H : Hp} {v : V} (h : classesAt H v = .non) : ∃ (a : Addr) (rows : List Row), v = .ref a ∧ ClsN nul H a rows ∧ 1 ≤ rows.length ∧ rows.length ≤ 6 ∧ ∀ r ∈ rows, r.fs.length ≤ 3 ∧ nameS r.n = true ∧ ∀ s ∈ r.fs, nameS s = true := by
  unfold classesAt at h
  cases hl : lstOf H v with
  | none => rw [hl] at h; cases h
  | some xs =>
    rw [hl] at h
    obtain ⟨a, rfl, ha⟩ := lstOf_some hl
    have h' : (if (decide ((1 : Int) ≤ (xs.length : Int)) && decide ((xs.length : Int) ≤ 6)) = true then optV (clsFrom H xs [] 0) else V.int (-1)) = .non := h
    by_cases c : (decide ((1 : Int) ≤ (xs.length : Int)) && decide ((xs.length : Int) ≤ 6)) = true
    · rw [if_pos c] at h'
      cases hb : clsFrom H xs [] 0 with
      | some i => rw [hb] at h'; cases h'
      | none =>
        obtain ⟨rows, pr, h3⟩ := clsFrom_none hb
        rw [Bool.and_eq_true] at c
        have c1 := of_decide_eq_true c.1
        have c2 := of_decide_eq_true c.2
        have pl := pr.length
        exact ⟨a, rows, rfl, ⟨rfl, xs, ha, pr⟩, by omega, by omega, h3⟩
    · rw [if_neg c] at h'
      cases h'
/-! ### the answers do not change while all stands -/
theorem namesAt_same {H H' : Hp} {v : V} {lo hi : Int} {bar : List Str} (d : Dat H v) (s : Same H H') : namesAt H' v lo hi bar = namesAt H v lo hi bar := by
  unfold namesAt
  rw [firstBad_same d s, lstOf_same d s]
theorem radicesAt_same {H H' : Hp} {v : V} {th : Int} (d : Dat H v) (s : Same H H') : radicesAt H' v th = radicesAt H v th := by
  unfold radicesAt
  rw [lstOf_same d s]
theorem nameOf_same {H H' : Hp} {v : V} (d : Dat H v) (s : Same H H') : nameOf H' v = nameOf H v := by
  unfold nameOf
  rw [tupOf_same d s]
theorem clsFrom_same {H H' : Hp} (s : Same H H') : ∀ {xs : List V} {seen : List Str} {i : Nat}, (∀ x ∈ xs, Dat H x) → clsFrom H' xs seen i = clsFrom H xs seen i
  | [], _, _, _ => rfl
  | v :: r, seen, i, h => by
    have dv := h v List.mem_cons_self
    show (if classOk H' v seen = true then clsFrom H' r (seen ++ [nameOf H' v]) (i + 1) else some i) = (if classOk H v seen = true then clsFrom H r (seen ++ [nameOf H v]) (i + 1) else some i)
    rw [classOk_same dv s, nameOf_same dv s, clsFrom_same s fun x hx => h x (List.mem_cons_of_mem _ hx)]
theorem classesAt_same {H H' : Hp} {v : V} (d : Dat H v) (s : Same H H') : classesAt H' v = classesAt H v := by
  unfold classesAt
  rw [lstOf_same d s]
  cases hl : lstOf H v with
  | none => rfl
  | some xs =>
    obtain ⟨a, rfl, ha⟩ := lstOf_some hl
    show (if _ then optV (clsFrom H' xs [] 0) else _) = (if _ then optV (clsFrom H xs [] 0) else _)
    rw [clsFrom_same s (d.items ha)]
/-! ### the first fault -/
def strsOf (H : Hp) (v : V) : List Str := match lstOf H v with | some xs => xs.map strOf | none => []
def intOf : V → Int | .int i => i | _ => 0
def faultV (H : Hp) (c n l p r : V) : Option (Str × V) :=
  if classesAt H c ≠ .non then some ("classes", classesAt H c)
  else if namesAt H n 1 8 [] ≠ .non then some ("variables", namesAt H n 1 8 [])
  else if namesAt H l 0 4 (strsOf H n) ≠ .non then some ("weak", namesAt H l 0 4 (strsOf H n))
  else if wholeV p 1 12 = false then some ("threshold", .int (-1))
  else if radicesAt H r (intOf p) ≠ .non then some ("radices", radicesAt H r (intOf p))
  else none
theorem strsOf_is {H : Hp} {a : Addr} {ss : List Str} (h : H a = some (.lst (ss.map V.str))) : strsOf H (.ref a) = ss := by
  unfold strsOf
  rw [lstOf_of h]
  show (ss.map V.str).map strOf = ss
  rw [List.map_map]
  exact List.map_id'' (fun _ => rfl) ss
end K1

set_option Elab.async false
set_option linter.all false
set_option maxRecDepth 100000
set_option maxHeartbeats 4000000
namespace K1
open PySem L2
/-! ### Program.__init__ -/
abbrev sPrI : Stmt := inClass (top 37) 0
def pgF (a b c d e f g : V) : List (Str × V) := putF "_functions" g (putF "_radices" f (putF "_threshold" e (putF "_weak" d (putF "_variables" c (putF "_body" b (putF "_classes" a []))))))
structure NoP (K : PySem.W.Frag) (C : Addr) : Prop where
  cl : Cls K C
  n1 : NoAttr K C "_classes"
  n2 : NoAttr K C "_body"
  n3 : NoAttr K C "_variables"
  n4 : NoAttr K C "_weak"
  n5 : NoAttr K C "_threshold"
  n6 : NoAttr K C "_radices"
  n7 : NoAttr K C "_functions"
/-- a program stands at p, its own objects new since H0 -/
def ProgAt (H0 H : Hp) (CP p : Addr) (rows : List Row) (ns ls : List Str) (th : Int) (ks : List Int) : Prop := ∃ (dx a b c d f g : Addr), H p = some (.ins CP dx (pgF (.ref a) (.ref b) (.ref c) (.ref d) (.int th) (.ref f) (.ref g))) ∧ ClsN H0 H a rows ∧
  (H0 b = none ∧ H b = some (.lst [])) ∧ (H0 c = none ∧ H c = some (.lst (ns.map V.str))) ∧ (H0 d = none ∧ H d = some (.lst (ls.map V.str))) ∧ (H0 f = none ∧ H f = some (.lst (ks.map V.int))) ∧ (H0 g = none ∧ H g = some (.lst []))
/-- what is handed in, when nothing is wrong -/
structure Fine (H : Hp) (c n l p r : V) (rows : List Row) (ns ls : List Str) (th : Int) (ks : List Int) : Prop where
  c : ∃ a, c = .ref a ∧ ClsN nul H a rows
  c1 : 1 ≤ rows.length
  c6 : rows.length ≤ 6
  c3 : ∀ q ∈ rows, q.fs.length ≤ 3
  n : ∃ a, n = .ref a ∧ H a = some (.lst (ns.map V.str))
  l : ∃ a, l = .ref a ∧ H a = some (.lst (ls.map V.str))
  p : p = .int th
  t1 : 1 ≤ th
  t2 : th ≤ 12
  r : ∃ a, r = .ref a ∧ H a = some (.lst (ks.map V.int))
  cOk : ∀ q ∈ rows, nameS q.n = true ∧ ∀ s ∈ q.fs, nameS s = true
  nOk : ∀ s ∈ ns, nameS s = true
  lOk : ∀ s ∈ ls, nameS s = true
/-- while the new program's fields are filled: all else stands -/
structure Fil (H Hx : Hp) (CP p dx : Addr) (fs : List (Str × V)) : Prop where
  keep : ∀ b o, H b = some o → b ≠ p → Hx b = some o
  at_ : Hx p = some (.ins CP dx fs)
theorem Fil.new {H Hx Hy : Hp} {CP p dx : Addr} {fs : List (Str × V)} (f : Fil H Hx CP p dx fs) (s : Same Hx Hy) : Fil H Hy CP p dx fs := ⟨fun b o e n => s _ _ (f.keep b o e n), s _ _ f.at_⟩
theorem Fil.set {H Hx : Hp} {CP p dx : Addr} {fs : List (Str × V)} (f : Fil H Hx CP p dx fs) (gs : List (Str × V)) : Fil H (upd Hx p (.ins CP dx gs)) CP p dx gs := ⟨fun b o e n => by
  rw [upd_ne n]
  exact f.keep b o e n, upd_same⟩
theorem Fil.free {H Hx : Hp} {CP p dx b : Addr} {fs : List (Str × V)} (f : Fil H Hx CP p dx fs) (n : Hx b = none) : H b = none := by
  cases q : H b with
  | none => rfl
  | some o =>
    by_cases hb : b = p
    · rw [hb, f.at_] at n
      cases n
    · rw [f.keep b o q hb] at n
      cases n
theorem ClsN.base {H H1 Hx : Hp} {a : Addr} {rows : List Row} (h : ClsN H1 Hx a rows) (off : ∀ b, H1 b = none → H b = none) : ClsN H Hx a rows := by
  obtain ⟨f0, xs, e, p⟩ := h
  refine ⟨off _ f0, xs, e, p.mono fun x r z => ?_⟩
  obtain ⟨q, fl, e1, z1, z2, z3, z4⟩ := z
  exact ⟨q, fl, e1, off _ z1, off _ z2, z3, z4⟩
/-- a change at an object that stood in H -/
theorem ClsN.other {H Hx : Hp} {a p : Addr} {o u : HO} {rows : List Row} (h : ClsN H Hx a rows) (hp : H p = some o) : ClsN H (upd Hx p u) a rows := by
  obtain ⟨f0, xs, e, pr⟩ := h
  refine ⟨f0, xs, by rw [upd_ne (ne_of_none hp f0).symm]; exact e, pr.mono fun x r z => ?_⟩
  obtain ⟨q, fl, e1, z1, z2, z3, z4⟩ := z
  exact ⟨q, fl, e1, z1, z2, by rw [upd_ne (ne_of_none hp z1).symm]; exact z3, by rw [upd_ne (ne_of_none hp z2).symm]; exact z4⟩
/-- a new list -/
def NewL (H Hx : Hp) (a : Addr) (xs : List V) : Prop := H a = none ∧ Hx a = some (.lst xs)
theorem NewL.mono {H Hx Hy : Hp} {a : Addr} {xs : List V} (h : NewL H Hx a xs) (s : Same Hx Hy) : NewL H Hy a xs := ⟨h.1, s _ _ h.2⟩
theorem NewL.other {H Hx : Hp} {a p : Addr} {o u : HO} {xs : List V} (h : NewL H Hx a xs) (hp : H p = some o) : NewL H (upd Hx p u) a xs := ⟨h.1, by rw [upd_ne (ne_of_none hp h.1).symm]; exact h.2⟩
theorem Fil.lst {H Hx : Hp} {CP p dx q : Addr} {fs : List (Str × V)} (f : Fil H Hx CP p dx fs) (xs : List V) (n : Hx q = none) : NewL H (upd Hx q (.lst xs)) q xs := ⟨f.free n, upd_same⟩
def spPrI (C CP : Addr) : Sp := fun vs H Q E => ∃ (p dx bd fn : Addr) (c n l t r : V), vs = [.ref p, c, .ref bd, n, l, t, r, .ref fn] ∧ H p = some (.ins CP dx []) ∧ Dat H c ∧ Dat H n ∧ Dat H l ∧ Dat H t ∧ Dat H r ∧ H bd = some (.lst []) ∧ H fn = some (.lst []) ∧
  (∀ part at_, faultV H c n l t r = some (part, at_) → Rz C H (.str part) at_ E) ∧
  (faultV H c n l t r = none → ∀ rows ns ls th ks, Fine H c n l t r rows ns ls th ks → ∀ H', ProgAt H H' CP p rows ns ls th ks → (∀ b o, H b = some o → b ≠ p → H' b = some o) → Q .non H')
section
variable {P : Program} {w : World} {K : PySem.W.Frag} {mg : Str → Option Value} {base : Heap} {C CP CU : Addr}
abbrev prN : List Str := ["self", "classes", "body", "variables", "weak", "threshold", "radices", "functions", "calls", "many"]
abbrev prP : List Str := ["self", "classes", "body", "variables", "weak", "threshold", "radices", "functions"]
theorem scPr : FnScope prN prP (defScope sPrI) := ⟨rfl, rfl, rfl, by decide +kernel, rfl, by decide +kernel, by decide +kernel⟩
theorem okPr {f : Addr} {fd : FuncData} (F : Fun K "__init__" "Program.__init__" sPrI f fd) (B : Blt mg) (U : NoP K CP)
    (C28 : Cal P w K mg base (L2.CX P w) 4 "check_classes" ["classes"] (spClasses C)) (C26 : Cal P w K mg base (L2.CX P w) 3 "check_names" ["part", "value", "least", "most", "barred"] (spNames C))
    (C29 : Cal P w K mg base (L2.CX P w) 3 "check_threshold" ["threshold"] (spThr C)) (C30 : Cal P w K mg base (L2.CX P w) 3 "check_radices" ["radices", "threshold"] (spRad C))
    (C33 : Cal P w K mg base CX0 1 "check_functions" ["functions", "classes", "weak", "radices"] spCheckFns) (C32 : Cal P w K mg base CX0 3 "scope_for" ["names", "classes", "weak", "radices", "calls"] spScopeFor)
    (C34 : Cal P w K mg base CX0 4 "check_body" ["body", "scope", "many"] (spCheckBody CU)) (C35 : Cal P w K mg base CX0 1 "copied_classes" ["classes"] spCopyCls)
    (C22 : Cal P w K mg base CX0 1 "copied_block" ["block"] spCopyNil) (C36 : Cal P w K mg base CX0 1 "copied_functions" ["functions"] spCopyNil) :
    FnOk P w K mg base (L2.CX P w) 5 f fd prP (spPrI C CP) := by
  refine F.okX scPr (fun vs H Q E h => ?_) (fun cdv A outer s H vs Q E hr h => ?_)
  · obtain ⟨p, dx, bd, fn, c, n, l, t, r, rfl, _⟩ := h
    rfl
  · obtain ⟨p, dx, bd, fn, c, n, l, t, r, rfl, hp, dc, dn, dl, dt, dr, hbd, hfn, ke, kn⟩ := h
    refine ⟨_, pss_cons (ps_expr (pe_cal C28 hr (by decide) (passes_call (E := E) (takes_of rfl rfl rfl rfl) (fun _ _ _ _ h => h)) (pa_cons (pv 1) pa_nil)))
      (pss_cons (ps_expr (pe_cal C26 hr (by decide) (passes_call (E := E) (takes_of rfl rfl rfl rfl) (fun _ _ _ _ h => h)) (pa_cons pe_str (pa_cons (pv 3) (pa_cons pe_int (pa_cons pe_int (pa_cons (pe_lst pa_nil) pa_nil)))))))
      (pss_cons (ps_expr (pe_cal C26 hr (by decide) (passes_call (E := E) (takes_of rfl rfl rfl rfl) (fun _ _ _ _ h => h)) (pa_cons pe_str (pa_cons (pv 4) (pa_cons pe_int (pa_cons pe_int (pa_cons (pv 3) pa_nil)))))))
      (pss_cons (ps_expr (pe_cal C29 hr (by decide) (passes_call (E := E) (takes_of rfl rfl rfl rfl) (fun _ _ _ _ h => h)) (pa_cons (pv 5) pa_nil)))
      (pss_cons (ps_expr (pe_cal C30 hr (by decide) (passes_call (E := E) (takes_of rfl rfl rfl rfl) (fun _ _ _ _ h => h)) (pa_cons (pv 6) (pa_cons (pv 5) pa_nil))))
      (pss_cons (ps_asg (pe_cal C33 hr (by decide) pass0 (pa_cons (pv 7) (pa_cons (pv 1) (pa_cons (pv 4) (pa_cons (pv 6) pa_nil))))) (pg_tup rfl (pgs_cons (pg_name (i := 8) scPr.nd rfl (Or.inl rfl)) (pgs_cons (pg_name (i := 9) scPr.nd rfl (Or.inl rfl)) pgs_nil))))
      (pss_cons (ps_expr (pe_cal C34 hr (by decide) pass0 (pa_cons (pv 2) (pa_cons (pe_cal C32 hr (by decide) pass0 (pa_cons (pv 3) (pa_cons (pv 1) (pa_cons (pv 4) (pa_cons (pv 6) (pa_cons (pv 8) pa_nil)))))) (pa_cons (pv 9) pa_nil)))))
      (pss_cons (ps_fld (pv 0) (pe_cal C35 hr (by decide) pass0 (pa_cons (pv 1) pa_nil)) rfl)
      (pss_cons (ps_fld (pv 0) (pe_cal C22 hr (by decide) pass0 (pa_cons (pv 2) pa_nil)) rfl)
      (pss_cons (ps_fld (pv 0) (pe_callTy (r := rLof K) call_list_of rfl B.list PyProof.Rows.boot_list (pa_cons (pv 3) pa_nil)) rfl)
      (pss_cons (ps_fld (pv 0) (pe_callTy (r := rLof K) call_list_of rfl B.list PyProof.Rows.boot_list (pa_cons (pv 4) pa_nil)) rfl)
      (pss_cons (ps_fld (pv 0) (pv 5) rfl)
      (pss_cons (ps_fld (pv 0) (pe_callTy (r := rLof K) call_list_of rfl B.list PyProof.Rows.boot_list (pa_cons (pv 6) pa_nil)) rfl)
      (pss_one (ps_fld (pv 0) (pe_cal C36 hr (by decide) pass0 (pa_cons (pv 7) pa_nil)) rfl)))))))))))))), ?_⟩
    -- check_classes
    refine ⟨_, rfl, c, rfl, dc, fun e1 H1 s1 => ?_, fun e1 => ke _ _ (by unfold faultV; rw [if_pos e1])⟩
    -- check_names of the variables
    refine ⟨_, rfl, by decide, fun q1 hq1 => ?_⟩
    have s2 := same_new (o := .lst []) s1 hq1
    refine ⟨_, n, 1, 8, q1, [], rfl, dn.mono s2, upd_same, by decide, fun e2 H3 s3 => ?_, fun e2 => ?_⟩
    rotate_left
    · rw [namesAt_same dn s2] at e2 ⊢
      exact (ke _ _ (by unfold faultV; rw [if_neg (by simp [e1]), if_pos e2])).later s2
    rw [namesAt_same dn s2] at e2
    have s4 := s2.trans s3
    obtain ⟨na, ns, rfl, hna, hn1, hn8, _, nOk⟩ := names_ok e2
    -- check_names of the weak ones
    refine ⟨_, rfl, _, rfl, _, l, 0, 4, na, ns, rfl, dl.mono s4, s4 _ _ hna, by decide, fun e3 H5 s5 => ?_, fun e3 => ?_⟩
    rotate_left
    · rw [namesAt_same dl s4] at e3 ⊢
      exact (ke _ _ (by unfold faultV; rw [strsOf_is hna, if_neg (by simp [e1]), if_neg (by simp [e2]), if_pos e3])).later s4
    rw [namesAt_same dl s4] at e3
    have s6 := s4.trans s5
    obtain ⟨la, ls, rfl, hla, _, hl4, _, lOk⟩ := names_ok e3
    -- check_threshold
    refine ⟨_, rfl, t, rfl, dt.mono s6, fun e4 H7 s7 => ?_, fun e4 => ?_⟩
    rotate_left
    · exact (ke _ _ (by unfold faultV; rw [strsOf_is hna, if_neg (by simp [e1]), if_neg (by simp [e2]), if_neg (by simp [e3]), if_pos e4])).later s6
    have s8 := s6.trans s7
    obtain ⟨th, rfl, ht1, ht2⟩ := whole_ok e4
    -- check_radices
    refine ⟨_, rfl, _, rfl, r, th, rfl, dr.mono s8, ht1, ht2, fun e5 H9 s9 => ?_, fun e5 => ?_⟩
    rotate_left
    · rw [radicesAt_same dr s8] at e5 ⊢
      exact (ke _ _ (by unfold faultV; rw [strsOf_is hna, if_neg (by simp [e1]), if_neg (by simp [e2]), if_neg (by simp [e3]), if_neg (by simp [e4]), if_pos (show radicesAt H r (intOf (.int th)) ≠ .non from e5)]; rfl)).later s8
    rw [radicesAt_same dr s8] at e5
    have s10 := s8.trans s9
    obtain ⟨ra, ks, rfl, hra⟩ := rad_ok e5
    obtain ⟨ca, rows, rfl, hca, hc1, hc6, hcA⟩ := classes_ok e1
    have hc3 : ∀ r ∈ rows, r.fs.length ≤ 3 := fun r h => (hcA r h).1
    have none_ : faultV H (.ref ca) (.ref na) (.ref la) (.int th) (.ref ra) = none := by
      unfold faultV
      rw [strsOf_is hna, if_neg (by simp [e1]), if_neg (by simp [e2]), if_neg (by simp [e3]), if_neg (by simp [e4]), if_neg (show ¬ radicesAt H (.ref ra) (intOf (.int th)) ≠ .non from by show ¬ radicesAt H (.ref ra) th ≠ .non; simp [e5])]
    have fine : Fine H (.ref ca) (.ref na) (.ref la) (.int th) (.ref ra) rows ns ls th ks := ⟨⟨ca, rfl, hca⟩, hc1, hc6, hc3, ⟨na, rfl, hna⟩, ⟨la, rfl, hla⟩, rfl, ht1, ht2, ⟨ra, rfl, hra⟩, fun q h => (hcA q h).2, nOk, lOk⟩
    have k := kn none_ rows ns ls th ks fine
    -- check_functions
    refine ⟨_, rfl, _, rfl, _, rfl, _, rfl, fn, _, _, _, rfl, s10 _ _ hfn, fun tp cd H11 s11 htp => ?_⟩
    have s12 := s10.trans s11
    refine ⟨tp, _, rfl, SqT.of htp, rfl, .ref cd, _, rfl, .int 0, _, rfl, rfl, ?_⟩
    -- check_body, scope_for
    obtain ⟨xs, hxs, hxl⟩ := (hca.mono s12).toL hc3
    refine ⟨_, rfl, _, rfl, _, rfl, _, rfl, _, rfl, _, rfl, _, _, _, ca, ra, xs, _, rfl, hxs, by omega, s12 _ _ hra, fun scp H13 s13 => ?_⟩
    have s14 := s12.trans s13
    refine ⟨_, rfl, bd, _, rfl, s14 _ _ hbd, fun H15 s15 => ?_⟩
    have s16 := s14.trans s15
    have f0 : Fil H H15 CP p dx [] := ⟨fun b o e _ => s16 _ _ e, s16 _ _ hp⟩
    have few : ∀ (n : Nat) (fs : List (Str × V)) (k : Str) (v : V), fs.length ≤ n → (putF k v fs).length ≤ n + 1 := fun n fs k v h => Nat.le_trans (putF_len k v fs) (Nat.succ_le_succ h)
    have apart : ∀ {b : Addr} {xs : List V}, H b = some (.lst xs) → b ≠ p := fun {b xs} e => ne_of e hp (by intro z; cases z)
    have g0 : ([] : List (Str × V)).length ≤ 0 := Nat.le_refl _
    -- self._classes
    refine ⟨_, rfl, ca, nul, rows, rfl, hca.mono s16, hc6, hc3, fun q1 H17 s17 hq1 => ?_⟩
    have f1 := f0.new s17
    have k1 : ClsN H H17 q1 rows := hq1.base fun b z => f0.free z
    refine ⟨_, rfl, p, CP, dx, _, rfl, f1.at_, U.cl, U.n1, by omega, ?_⟩
    have f2 := f1.set (putF "_classes" (.ref q1) [])
    have k2 : ClsN H _ q1 rows := k1.other (u := .ins CP dx (putF "_classes" (.ref q1) [])) hp
    have g1 := few 0 [] "_classes" (.ref q1) g0
    -- self._body
    refine ⟨_, rfl, bd, rfl, f2.keep _ _ hbd (apart hbd), fun q2 H18 s18 nq2 hq2 => ?_⟩
    have f3 := f2.new s18
    have b3 : NewL H H18 q2 [] := ⟨f2.free nq2, hq2⟩
    have k3 := k2.mono s18
    refine ⟨_, rfl, p, CP, dx, _, rfl, f3.at_, U.cl, U.n2, by omega, ?_⟩
    have f4 := f3.set (putF "_body" (.ref q2) (putF "_classes" (.ref q1) []))
    have k4 := k3.other (u := .ins CP dx (putF "_body" (.ref q2) (putF "_classes" (.ref q1) []))) hp
    have b4 := b3.other (u := .ins CP dx (putF "_body" (.ref q2) (putF "_classes" (.ref q1) []))) hp
    have g2 := few 1 _ "_body" (.ref q2) g1
    -- self._variables
    refine ⟨_, rfl, na, _, rfl, .inl (SqL.of (f4.keep _ _ hna (apart hna))), fun q3 nq3 => ?_⟩
    have s19 := same_new (o := .lst (ns.map V.str)) (Same.refl _) nq3
    have f5 := f4.new s19
    have c5 := f4.lst (ns.map V.str) nq3
    have k5 := k4.mono s19
    have b5 := b4.mono s19
    refine ⟨_, rfl, p, CP, dx, _, rfl, f5.at_, U.cl, U.n3, by omega, ?_⟩
    have f6 := f5.set (putF "_variables" (.ref q3) (putF "_body" (.ref q2) (putF "_classes" (.ref q1) [])))
    have k6 := k5.other (u := .ins CP dx (putF "_variables" (.ref q3) (putF "_body" (.ref q2) (putF "_classes" (.ref q1) [])))) hp
    have b6 := b5.other (u := .ins CP dx (putF "_variables" (.ref q3) (putF "_body" (.ref q2) (putF "_classes" (.ref q1) [])))) hp
    have c6 := c5.other (u := .ins CP dx (putF "_variables" (.ref q3) (putF "_body" (.ref q2) (putF "_classes" (.ref q1) [])))) hp
    have g3 := few 2 _ "_variables" (.ref q3) g2
    -- self._weak
    refine ⟨_, rfl, la, _, rfl, .inl (SqL.of (f6.keep _ _ hla (apart hla))), fun q4 nq4 => ?_⟩
    have s20 := same_new (o := .lst (ls.map V.str)) (Same.refl _) nq4
    have f7 := f6.new s20
    have d7 := f6.lst (ls.map V.str) nq4
    have k7 := k6.mono s20
    have b7 := b6.mono s20
    have c7 := c6.mono s20
    refine ⟨_, rfl, p, CP, dx, _, rfl, f7.at_, U.cl, U.n4, by omega, ?_⟩
    have f8 := f7.set (putF "_weak" (.ref q4) (putF "_variables" (.ref q3) (putF "_body" (.ref q2) (putF "_classes" (.ref q1) []))))
    have k8 := k7.other (u := .ins CP dx (putF "_weak" (.ref q4) (putF "_variables" (.ref q3) (putF "_body" (.ref q2) (putF "_classes" (.ref q1) []))))) hp
    have b8 := b7.other (u := .ins CP dx (putF "_weak" (.ref q4) (putF "_variables" (.ref q3) (putF "_body" (.ref q2) (putF "_classes" (.ref q1) []))))) hp
    have c8 := c7.other (u := .ins CP dx (putF "_weak" (.ref q4) (putF "_variables" (.ref q3) (putF "_body" (.ref q2) (putF "_classes" (.ref q1) []))))) hp
    have d8 := d7.other (u := .ins CP dx (putF "_weak" (.ref q4) (putF "_variables" (.ref q3) (putF "_body" (.ref q2) (putF "_classes" (.ref q1) []))))) hp
    have g4 := few 3 _ "_weak" (.ref q4) g3
    -- self._threshold
    refine ⟨_, rfl, _, rfl, p, CP, dx, _, rfl, f8.at_, U.cl, U.n5, by omega, ?_⟩
    have f9 := f8.set (putF "_threshold" (.int th) (putF "_weak" (.ref q4) (putF "_variables" (.ref q3) (putF "_body" (.ref q2) (putF "_classes" (.ref q1) [])))))
    have k9 := k8.other (u := .ins CP dx (putF "_threshold" (.int th) (putF "_weak" (.ref q4) (putF "_variables" (.ref q3) (putF "_body" (.ref q2) (putF "_classes" (.ref q1) [])))))) hp
    have b9 := b8.other (u := .ins CP dx (putF "_threshold" (.int th) (putF "_weak" (.ref q4) (putF "_variables" (.ref q3) (putF "_body" (.ref q2) (putF "_classes" (.ref q1) [])))))) hp
    have c9 := c8.other (u := .ins CP dx (putF "_threshold" (.int th) (putF "_weak" (.ref q4) (putF "_variables" (.ref q3) (putF "_body" (.ref q2) (putF "_classes" (.ref q1) [])))))) hp
    have d9 := d8.other (u := .ins CP dx (putF "_threshold" (.int th) (putF "_weak" (.ref q4) (putF "_variables" (.ref q3) (putF "_body" (.ref q2) (putF "_classes" (.ref q1) [])))))) hp
    have g5 := few 4 _ "_threshold" (.int th) g4
    -- self._radices
    refine ⟨_, rfl, ra, _, rfl, .inl (SqL.of (f9.keep _ _ hra (apart hra))), fun q6 nq6 => ?_⟩
    have s21 := same_new (o := .lst (ks.map V.int)) (Same.refl _) nq6
    have f10 := f9.new s21
    have e10 := f9.lst (ks.map V.int) nq6
    have k10 := k9.mono s21
    have b10 := b9.mono s21
    have c10 := c9.mono s21
    have d10 := d9.mono s21
    refine ⟨_, rfl, p, CP, dx, _, rfl, f10.at_, U.cl, U.n6, by omega, ?_⟩
    generalize hfs6 : putF "_radices" (.ref q6) (putF "_threshold" (.int th) (putF "_weak" (.ref q4) (putF "_variables" (.ref q3) (putF "_body" (.ref q2) (putF "_classes" (.ref q1) []))))) = fs6
    have g6 : fs6.length ≤ 6 := by rw [← hfs6]; exact few 5 _ "_radices" (.ref q6) g5
    have f11 := f10.set fs6
    have k11 := k10.other (u := .ins CP dx fs6) hp
    have b11 := b10.other (u := .ins CP dx fs6) hp
    have c11 := c10.other (u := .ins CP dx fs6) hp
    have d11 := d10.other (u := .ins CP dx fs6) hp
    have e11 := e10.other (u := .ins CP dx fs6) hp
    -- self._functions
    refine ⟨_, rfl, fn, rfl, f11.keep _ _ hfn (apart hfn), fun q7 H22 s22 nq7 hq7 => ?_⟩
    have f12 := f11.new s22
    have h12 : NewL H H22 q7 [] := ⟨f11.free nq7, hq7⟩
    refine ⟨_, rfl, p, CP, dx, _, rfl, f12.at_, U.cl, U.n7, by omega, ?_⟩
    have f13 := f12.set (putF "_functions" (.ref q7) fs6)
    refine k _ ⟨dx, q1, q2, q3, q4, q6, q7, ?_, (k11.mono s22).other hp, (b11.mono s22).other hp, (c11.mono s22).other hp, (d11.mono s22).other hp, (e11.mono s22).other hp, h12.other hp⟩ f13.keep
    rw [f13.at_, ← hfs6]
    rfl
end
end K1

set_option Elab.async false
set_option linter.all false
set_option maxRecDepth 100000
set_option maxHeartbeats 4000000
namespace K1
open PySem L2
/-! ### what a program tells -/
theorem pg1 (a b c d e f g : V) : (pgF a b c d e f g).lookup ("_classes" : Str) = some a := by
  unfold pgF
  repeat rw [lookup_putF, if_neg (by decide +kernel)]
  rw [lookup_putF, if_pos rfl]
theorem pg2 (a b c d e f g : V) : (pgF a b c d e f g).lookup ("_body" : Str) = some b := by
  unfold pgF
  rw [lookup_putF, if_neg (by decide +kernel), lookup_putF, if_neg (by decide +kernel), lookup_putF, if_neg (by decide +kernel), lookup_putF, if_neg (by decide +kernel), lookup_putF, if_neg (by decide +kernel), lookup_putF, if_pos rfl]
theorem pg3 (a b c d e f g : V) : (pgF a b c d e f g).lookup ("_variables" : Str) = some c := by
  unfold pgF
  rw [lookup_putF, if_neg (by decide +kernel), lookup_putF, if_neg (by decide +kernel), lookup_putF, if_neg (by decide +kernel), lookup_putF, if_neg (by decide +kernel), lookup_putF, if_pos rfl]
theorem pg4 (a b c d e f g : V) : (pgF a b c d e f g).lookup ("_weak" : Str) = some d := by
  unfold pgF
  rw [lookup_putF, if_neg (by decide +kernel), lookup_putF, if_neg (by decide +kernel), lookup_putF, if_neg (by decide +kernel), lookup_putF, if_pos rfl]
theorem pg5 (a b c d e f g : V) : (pgF a b c d e f g).lookup ("_threshold" : Str) = some e := by
  unfold pgF
  rw [lookup_putF, if_neg (by decide +kernel), lookup_putF, if_neg (by decide +kernel), lookup_putF, if_pos rfl]
theorem pg6 (a b c d e f g : V) : (pgF a b c d e f g).lookup ("_radices" : Str) = some f := by
  unfold pgF
  rw [lookup_putF, if_neg (by decide +kernel), lookup_putF, if_pos rfl]
theorem pg7 (a b c d e f g : V) : (pgF a b c d e f g).lookup ("_functions" : Str) = some g := by
  unfold pgF
  rw [lookup_putF, if_pos rfl]
/-- no method's name is an attribute of the instance -/
theorem pg_no {m : Str} (a b c d e f g : V) (h1 : ¬ m = "_classes") (h2 : ¬ m = "_body") (h3 : ¬ m = "_variables") (h4 : ¬ m = "_weak") (h5 : ¬ m = "_threshold") (h6 : ¬ m = "_radices") (h7 : ¬ m = "_functions") : (pgF a b c d e f g).lookup m = none := by
  unfold pgF
  rw [lookup_putF, if_neg h7, lookup_putF, if_neg h6, lookup_putF, if_neg h5, lookup_putF, if_neg h4, lookup_putF, if_neg h3, lookup_putF, if_neg h2, lookup_putF, if_neg h1]
  rfl
/-- which program stands at p -/
structure Pg where
  rows : List Row
  ns : List Str
  ls : List Str
  th : Int
  ks : List Int
def PgAt (H0 H : Hp) (CP p : Addr) (g : Pg) : Prop := ProgAt H0 H CP p g.rows g.ns g.ls g.th g.ks ∧ g.rows.length ≤ 6 ∧ ∀ r ∈ g.rows, r.fs.length ≤ 3
theorem NewL.base {H H1 Hx : Hp} {a : Addr} {xs : List V} (h : NewL H1 Hx a xs) (off : ∀ b, H1 b = none → H b = none) : NewL H Hx a xs := ⟨off _ h.1, h.2⟩
def spTell (CP : Addr) (G : Pg → Hp → Hp → V → Prop) : Sp := fun vs H Q _ => ∃ (p : Addr) (H0 : Hp) (g : Pg), vs = [.ref p] ∧ PgAt H0 H CP p g ∧ ∀ v H', Same H H' → G g H H' v → Q v H'
def gCls (g : Pg) (H H' : Hp) (v : V) : Prop := ∃ q, v = .ref q ∧ ClsN H H' q g.rows
def gNil' (_ : Pg) (H H' : Hp) (v : V) : Prop := ∃ q, v = .ref q ∧ NewL H H' q []
def gVar (g : Pg) (H H' : Hp) (v : V) : Prop := ∃ q, v = .ref q ∧ NewL H H' q (g.ns.map V.str)
def gWk (g : Pg) (H H' : Hp) (v : V) : Prop := ∃ q, v = .ref q ∧ NewL H H' q (g.ls.map V.str)
def gTh (g : Pg) (_ _ : Hp) (v : V) : Prop := v = .int g.th
def gRad (g : Pg) (H H' : Hp) (v : V) : Prop := ∃ q, v = .ref q ∧ NewL H H' q (g.ks.map V.int)
section
variable {P : Program} {w : World} {K : PySem.W.Frag} {mg : Str → Option Value} {base : Heap} {CP : Addr} {f : Addr} {fd : FuncData}
theorem scM1 : FnScope ["self"] ["self"] (defScope (inClass (top 37) 1)) := ⟨rfl, rfl, rfl, by decide +kernel, rfl, by decide +kernel, by decide +kernel⟩
theorem okM1 (F : Fun K "classes" "Program.classes" (inClass (top 37) 1) f fd) (U : NoP K CP) (C35 : Cal P w K mg base CX0 1 "copied_classes" ["classes"] spCopyCls) : FnOk P w K mg base CX0 2 f fd ["self"] (spTell CP gCls) := by
  refine F.ok scM1 (fun vs H Q E h => ?_) (fun cdv A outer s H vs Q E hr h => ?_)
  · obtain ⟨p, H0, g, rfl, _⟩ := h
    rfl
  · obtain ⟨p, H0, g, rfl, ⟨⟨dx, a, b, c, d, e, i, hp, ha, hb, hc, hd, he, hi⟩, h6, h3⟩, k⟩ := h
    refine ⟨_, pss_one (ps_ret (pe_cal C35 hr (by decide) pass0 (pa_cons (pe_fld (pv 0) rfl) pa_nil))), ?_⟩
    refine ⟨_, rfl, p, CP, dx, _, _, rfl, hp, U.cl, U.n1, pg1 _ _ _ _ _ _ _, ?_⟩
    exact ⟨a, H0, g.rows, rfl, ha, h6, h3, fun q H' s' hq => k _ _ s' ⟨q, rfl, hq⟩⟩
theorem scM2 : FnScope ["self"] ["self"] (defScope (inClass (top 37) 2)) := ⟨rfl, rfl, rfl, by decide +kernel, rfl, by decide +kernel, by decide +kernel⟩
theorem okM2 (F : Fun K "body" "Program.body" (inClass (top 37) 2) f fd) (U : NoP K CP) (C22 : Cal P w K mg base CX0 1 "copied_block" ["block"] spCopyNil) : FnOk P w K mg base CX0 2 f fd ["self"] (spTell CP gNil') := by
  refine F.ok scM2 (fun vs H Q E h => ?_) (fun cdv A outer s H vs Q E hr h => ?_)
  · obtain ⟨p, H0, g, rfl, _⟩ := h
    rfl
  · obtain ⟨p, H0, g, rfl, ⟨⟨dx, a, b, c, d, e, i, hp, ha, hb, hc, hd, he, hi⟩, h6, h3⟩, k⟩ := h
    refine ⟨_, pss_one (ps_ret (pe_cal C22 hr (by decide) pass0 (pa_cons (pe_fld (pv 0) rfl) pa_nil))), ?_⟩
    refine ⟨_, rfl, p, CP, dx, _, _, rfl, hp, U.cl, U.n2, pg2 _ _ _ _ _ _ _, ?_⟩
    exact ⟨b, rfl, hb.2, fun q H' s' hq e => k _ _ s' ⟨q, rfl, hq, e⟩⟩
theorem scM3 : FnScope ["self"] ["self"] (defScope (inClass (top 37) 3)) := ⟨rfl, rfl, rfl, by decide +kernel, rfl, by decide +kernel, by decide +kernel⟩
theorem okM3 (F : Fun K "variables" "Program.variables" (inClass (top 37) 3) f fd) (B : Blt mg) (U : NoP K CP) : FnOk P w K mg base CX0 1 f fd ["self"] (spTell CP gVar) := by
  refine F.ok scM3 (fun vs H Q E h => ?_) (fun cdv A outer s H vs Q E hr h => ?_)
  · obtain ⟨p, H0, g, rfl, _⟩ := h
    rfl
  · obtain ⟨p, H0, g, rfl, ⟨⟨dx, a, b, c, d, e, i, hp, ha, hb, hc, hd, he, hi⟩, h6, h3⟩, k⟩ := h
    refine ⟨_, pss_one (ps_ret (pe_callTy (r := rLof K) call_list_of rfl B.list PyProof.Rows.boot_list (pa_cons (pe_fld (pv 0) rfl) pa_nil))), ?_⟩
    refine ⟨_, rfl, p, CP, dx, _, _, rfl, hp, U.cl, U.n3, pg3 _ _ _ _ _ _ _, ?_⟩
    exact ⟨c, _, rfl, .inl (SqL.of hc.2), fun q hq => k _ _ (same_new (Same.refl _) hq) ⟨q, rfl, hq, upd_same⟩⟩
theorem scM4 : FnScope ["self"] ["self"] (defScope (inClass (top 37) 4)) := ⟨rfl, rfl, rfl, by decide +kernel, rfl, by decide +kernel, by decide +kernel⟩
theorem okM4 (F : Fun K "weak" "Program.weak" (inClass (top 37) 4) f fd) (B : Blt mg) (U : NoP K CP) : FnOk P w K mg base CX0 1 f fd ["self"] (spTell CP gWk) := by
  refine F.ok scM4 (fun vs H Q E h => ?_) (fun cdv A outer s H vs Q E hr h => ?_)
  · obtain ⟨p, H0, g, rfl, _⟩ := h
    rfl
  · obtain ⟨p, H0, g, rfl, ⟨⟨dx, a, b, c, d, e, i, hp, ha, hb, hc, hd, he, hi⟩, h6, h3⟩, k⟩ := h
    refine ⟨_, pss_one (ps_ret (pe_callTy (r := rLof K) call_list_of rfl B.list PyProof.Rows.boot_list (pa_cons (pe_fld (pv 0) rfl) pa_nil))), ?_⟩
    refine ⟨_, rfl, p, CP, dx, _, _, rfl, hp, U.cl, U.n4, pg4 _ _ _ _ _ _ _, ?_⟩
    exact ⟨d, _, rfl, .inl (SqL.of hd.2), fun q hq => k _ _ (same_new (Same.refl _) hq) ⟨q, rfl, hq, upd_same⟩⟩
theorem scM5 : FnScope ["self"] ["self"] (defScope (inClass (top 37) 5)) := ⟨rfl, rfl, rfl, by decide +kernel, rfl, by decide +kernel, by decide +kernel⟩
theorem okM5 (F : Fun K "threshold" "Program.threshold" (inClass (top 37) 5) f fd) (U : NoP K CP) : FnOk P w K mg base CX0 1 f fd ["self"] (spTell CP gTh) := by
  refine F.ok scM5 (fun vs H Q E h => ?_) (fun cdv A outer s H vs Q E hr h => ?_)
  · obtain ⟨p, H0, g, rfl, _⟩ := h
    rfl
  · obtain ⟨p, H0, g, rfl, ⟨⟨dx, a, b, c, d, e, i, hp, ha, hb, hc, hd, he, hi⟩, h6, h3⟩, k⟩ := h
    refine ⟨_, pss_one (ps_ret (pe_fld (pv 0) rfl)), ?_⟩
    exact ⟨_, rfl, p, CP, dx, _, _, rfl, hp, U.cl, U.n5, pg5 _ _ _ _ _ _ _, k _ _ (Same.refl _) rfl⟩
theorem scM6 : FnScope ["self"] ["self"] (defScope (inClass (top 37) 6)) := ⟨rfl, rfl, rfl, by decide +kernel, rfl, by decide +kernel, by decide +kernel⟩
theorem okM6 (F : Fun K "radices" "Program.radices" (inClass (top 37) 6) f fd) (B : Blt mg) (U : NoP K CP) : FnOk P w K mg base CX0 1 f fd ["self"] (spTell CP gRad) := by
  refine F.ok scM6 (fun vs H Q E h => ?_) (fun cdv A outer s H vs Q E hr h => ?_)
  · obtain ⟨p, H0, g, rfl, _⟩ := h
    rfl
  · obtain ⟨p, H0, g, rfl, ⟨⟨dx, a, b, c, d, e, i, hp, ha, hb, hc, hd, he, hi⟩, h6, h3⟩, k⟩ := h
    refine ⟨_, pss_one (ps_ret (pe_callTy (r := rLof K) call_list_of rfl B.list PyProof.Rows.boot_list (pa_cons (pe_fld (pv 0) rfl) pa_nil))), ?_⟩
    refine ⟨_, rfl, p, CP, dx, _, _, rfl, hp, U.cl, U.n6, pg6 _ _ _ _ _ _ _, ?_⟩
    exact ⟨e, _, rfl, .inl (SqL.of he.2), fun q hq => k _ _ (same_new (Same.refl _) hq) ⟨q, rfl, hq, upd_same⟩⟩
theorem scM7 : FnScope ["self"] ["self"] (defScope (inClass (top 37) 7)) := ⟨rfl, rfl, rfl, by decide +kernel, rfl, by decide +kernel, by decide +kernel⟩
theorem okM7 (F : Fun K "functions" "Program.functions" (inClass (top 37) 7) f fd) (U : NoP K CP) (C36 : Cal P w K mg base CX0 1 "copied_functions" ["functions"] spCopyNil) : FnOk P w K mg base CX0 2 f fd ["self"] (spTell CP gNil') := by
  refine F.ok scM7 (fun vs H Q E h => ?_) (fun cdv A outer s H vs Q E hr h => ?_)
  · obtain ⟨p, H0, g, rfl, _⟩ := h
    rfl
  · obtain ⟨p, H0, g, rfl, ⟨⟨dx, a, b, c, d, e, i, hp, ha, hb, hc, hd, he, hi⟩, h6, h3⟩, k⟩ := h
    refine ⟨_, pss_one (ps_ret (pe_cal C36 hr (by decide) pass0 (pa_cons (pe_fld (pv 0) rfl) pa_nil))), ?_⟩
    refine ⟨_, rfl, p, CP, dx, _, _, rfl, hp, U.cl, U.n7, pg7 _ _ _ _ _ _ _, ?_⟩
    exact ⟨i, rfl, hi.2, fun q H' s' hq e => k _ _ s' ⟨q, rfl, hq, e⟩⟩
end
end K1

set_option Elab.async false
set_option linter.all false
set_option maxRecDepth 100000
set_option maxHeartbeats 4000000
namespace L2
open PySem PySem.Spec PyProof.Rows
/-- d.update(e), both dicts, two objects -/
def rUpd1 : V → List V → Hp → VK → Prop := fun x vs H Q => ∃ (d o : Addr) (kvs more : List (Key × V)), x = .ref d ∧ vs = [.ref o] ∧ d ≠ o ∧ H d = some (.dK kvs) ∧ H o = some (.dK more) ∧ kvs.length + more.length ≤ sizeLine ∧ Q .non (upd H d (.dK (mergeK kvs more)))
theorem mt_upd1 {X : Cx} : MtR X "dict.update" rUpd1 := by
  intro pins s σ H x xs v us Q I rx r h
  obtain ⟨d, o, kvs, more, rfl, rfl, ne, hd, ho, few, q⟩ := h
  obtain ⟨u, rfl, ru⟩ := vals1 r
  obtain rfl : v = Value.ref d := rx
  obtain rfl : u = Value.ref o := ru
  obtain ⟨z1, y1, vs1, r1, d1⟩ := dk_of I.hok hd
  obtain ⟨z2, y2, vs2, r2, d2⟩ := dk_of I.hok ho
  refine call_meetsIn PySem.F.slot_dict_update d1.typeIs PySem.F.entry_dict_update (PySem.F.args_dict_update_2 _ _) (meets_dict_update (mixKind X.prog X.w) d o ne y2) ⟨vs1, vs2, d1, d2, ?_, fun h' dd _ sb => ?_⟩
  · rw [← r1.length, ← r2.length]
    exact few
  · have there : ∃ z, h'.get? d = some z := by
      obtain ⟨z, _, _, e, _⟩ := dd
      exact ⟨z, e⟩
    have len : (mergeK kvs more).length ≤ sizeLine := Nat.le_trans (length_mergeK more kvs) few
    exact ⟨.non, upd H d (.dK (mergeK kvs more)), d_write I (by rw [hd]; exact True.intro) sb there (dk_new len y1 (KV.merge r2 r1) dd), rfl, q⟩
/-- a statement, a word, the rest -/
def tMid (t u : TS) : TS := fun D σ H => ∃ W : St → Hp → Prop, t { D with nx := W } σ H ∧ ∀ σ1 H1, W σ1 H1 → u D σ1 H1
theorem pss_mid {X : Cx} {st : Stmt} {rest : List Stmt} {t u : TS} (h1 : PS X st t) (h2 : PSs X rest u) : PSs X (st :: rest) (tMid t u) := by
  refine ⟨fun pins s σ H D I ⟨W, a, b⟩ => ?_⟩
  refine wpAny_execs_cons ?_
  refine thn (h1.run pins s σ H { D with nx := W } I a) fun f s1 q => ?_
  cases f with
  | next =>
    obtain ⟨σ1, H1, I1, q⟩ := q
    exact h2.run pins s1 σ1 H1 D I1 (b σ1 H1 q)
  | ret v => exact q
  | brk => exact q
  | cont => exact q
/-- tuple(xs), by values -/
def rTof (K : PySem.W.Frag) : List V → Hp → VK → Prop := fun xs H Q => ∃ p ys, xs = [.ref p] ∧ ((SqL K H p ys ∧ ∀ l, H l = none → Q (.ref l) (upd H l (.tup ys))) ∨ (SqT K H p ys ∧ Q (.ref p) H))
end L2
namespace K1
open PySem L2
theorem dstr {H : Hp} {s : Str} (h : (decide (s.length ≤ 1000) && PyData.strOk s) = true := by decide +kernel) : Dat H (.str s) := by
  rw [Bool.and_eq_true] at h
  exact .str s ⟨of_decide_eq_true h.1, h.2⟩
/-- a new list, a new tuple of data -/
theorem Dat.newL {H : Hp} {p : Addr} {xs : List V} (n : H p = none) (h : ∀ x ∈ xs, Dat H x) : Dat (upd H p (.lst xs)) (.ref p) := .lst upd_same fun x hx => (h x hx).mono (same_new (Same.refl _) n)
theorem Dat.newT {H : Hp} {p : Addr} {xs : List V} (n : H p = none) (h : ∀ x ∈ xs, Dat H x) : Dat (upd H p (.tup xs)) (.ref p) := .tup upd_same fun x hx => (h x hx).mono (same_new (Same.refl _) n)
theorem Dat.new {H : Hp} {p : Addr} {o : HO} {v : V} (n : H p = none) (d : Dat H v) : Dat (upd H p o) v := d.mono (same_new (Same.refl _) n)
/-- a dict is changed into a dict -/
theorem Dat.updD {H : Hp} {a : Addr} {kvs kvs' : List (Key × V)} (e : H a = some (.dK kvs)) {v : V} (d : Dat H v) : Dat (upd H a (.dK kvs')) v := by
  induction d with
  | non => exact .non
  | bl b => exact .bl b
  | int i => exact .int i
  | str z h => exact .str z h
  | lst q _ ih => exact .lst (by rw [upd_ne (ne_of q e (by intro z; cases z))]; exact q) ih
  | tup q _ ih => exact .tup (by rw [upd_ne (ne_of q e (by intro z; cases z))]; exact q) ih
  | @dic b ks q =>
    by_cases h : b = a
    · rw [h]
      exact .dic upd_same
    · exact .dic (by rw [upd_ne h]; exact q)
theorem mem3 {α : Type} {P : α → Prop} {a b c : α} (h1 : P a) (h2 : P b) (h3 : P c) : ∀ x ∈ [a, b, c], P x := fun x hx => by
  simp only [List.mem_cons, List.not_mem_nil, or_false] at hx
  rcases hx with rfl | rfl | rfl <;> assumption
theorem at_mod {xs : List V} {n : Nat} (h : xs.length = n) (hn : 0 < n) (z : Int) : ∃ v, atI xs (z % (n : Int)) = some v ∧ v ∈ xs := by
  have h1 := Int.emod_nonneg z (show (n : Int) ≠ 0 by omega)
  have h2 := Int.emod_lt_of_pos z (show (0 : Int) < (n : Int) by omega)
  obtain ⟨j, e⟩ : ∃ j : Nat, z % (n : Int) = (j : Int) := ⟨(z % (n : Int)).toNat, by omega⟩
  rw [e] at h2 ⊢
  have hj : j < xs.length := by omega
  exact ⟨xs[j], atI_nat (List.getElem?_eq_getElem hj), List.getElem_mem hj⟩
theorem dig_at {ds : List Int} (h : ds.length = 20) (j : Nat) (hj : j < 20) : ∃ x, atI (ds.map V.int) (j : Int) = some (.int x) := by
  have hj' : j < ds.length := by omega
  exact ⟨ds[j], atI_nat (by rw [List.getElem?_map, List.getElem?_eq_getElem hj']; rfl)⟩
theorem cut_mem {xs : List V} {lo hi : Option Int} {x : V} (h : x ∈ cutV xs lo hi) : x ∈ xs := List.mem_of_mem_drop (List.mem_of_mem_take h)
/-! ### the five parts in the dict -/
structure Five (kvs : List (Key × V)) (c n l p r : V) : Prop where
  c : valV kvs (Sum.inr ("classes" : Str)) = some c
  n : valV kvs (Sum.inr ("names" : Str)) = some n
  l : valV kvs (Sum.inr ("loose" : Str)) = some l
  p : valV kvs (Sum.inr ("pace" : Str)) = some p
  r : valV kvs (Sum.inr ("rest" : Str)) = some r
theorem five_c {kvs : List (Key × V)} {c n l p r : V} (f : Five kvs c n l p r) (y : V) : Five (putK kvs (Sum.inr ("classes" : Str)) y) y n l p r :=
  ⟨by rw [valV_put, if_pos rfl], by rw [valV_put, if_neg (by decide +kernel)]; exact f.n, by rw [valV_put, if_neg (by decide +kernel)]; exact f.l, by rw [valV_put, if_neg (by decide +kernel)]; exact f.p, by rw [valV_put, if_neg (by decide +kernel)]; exact f.r⟩
theorem five_n {kvs : List (Key × V)} {c n l p r : V} (f : Five kvs c n l p r) (y : V) : Five (putK kvs (Sum.inr ("names" : Str)) y) c y l p r :=
  ⟨by rw [valV_put, if_neg (by decide +kernel)]; exact f.c, by rw [valV_put, if_pos rfl], by rw [valV_put, if_neg (by decide +kernel)]; exact f.l, by rw [valV_put, if_neg (by decide +kernel)]; exact f.p, by rw [valV_put, if_neg (by decide +kernel)]; exact f.r⟩
theorem five_l {kvs : List (Key × V)} {c n l p r : V} (f : Five kvs c n l p r) (y : V) : Five (putK kvs (Sum.inr ("loose" : Str)) y) c n y p r :=
  ⟨by rw [valV_put, if_neg (by decide +kernel)]; exact f.c, by rw [valV_put, if_neg (by decide +kernel)]; exact f.n, by rw [valV_put, if_pos rfl], by rw [valV_put, if_neg (by decide +kernel)]; exact f.p, by rw [valV_put, if_neg (by decide +kernel)]; exact f.r⟩
theorem five_p {kvs : List (Key × V)} {c n l p r : V} (f : Five kvs c n l p r) (y : V) : Five (putK kvs (Sum.inr ("pace" : Str)) y) c n l y r :=
  ⟨by rw [valV_put, if_neg (by decide +kernel)]; exact f.c, by rw [valV_put, if_neg (by decide +kernel)]; exact f.n, by rw [valV_put, if_neg (by decide +kernel)]; exact f.l, by rw [valV_put, if_pos rfl], by rw [valV_put, if_neg (by decide +kernel)]; exact f.r⟩
theorem five_r {kvs : List (Key × V)} {c n l p r : V} (f : Five kvs c n l p r) (y : V) : Five (putK kvs (Sum.inr ("rest" : Str)) y) c n l p y :=
  ⟨by rw [valV_put, if_neg (by decide +kernel)]; exact f.c, by rw [valV_put, if_neg (by decide +kernel)]; exact f.n, by rw [valV_put, if_neg (by decide +kernel)]; exact f.l, by rw [valV_put, if_neg (by decide +kernel)]; exact f.p, by rw [valV_put, if_pos rfl]⟩
/-- a list of data of few items -/
def LsD (H : Hp) (v : V) : Prop := ∃ a xs, v = .ref a ∧ H a = some (.lst xs) ∧ xs.length ≤ 50
end K1

set_option Elab.async false
set_option linter.all false
set_option maxRecDepth 100000
set_option maxHeartbeats 4000000
namespace K1
open PySem L2
/-! ### Scope with what it holds -/
def scF (a b c d e f : V) : List (Str × V) := putF "calls" f (putF "levels" e (putF "weak_names" d (putF "variable_names" c (putF "field_names" b (putF "class_names" a [])))))
theorem sc_f1 (a b c d e f : V) : (scF a b c d e f).lookup ("class_names" : Str) = some a := by
  unfold scF
  rw [lookup_putF, if_neg (by decide +kernel), lookup_putF, if_neg (by decide +kernel), lookup_putF, if_neg (by decide +kernel), lookup_putF, if_neg (by decide +kernel), lookup_putF, if_neg (by decide +kernel), lookup_putF, if_pos rfl]
theorem sc_f2 (a b c d e f : V) : (scF a b c d e f).lookup ("field_names" : Str) = some b := by
  unfold scF
  rw [lookup_putF, if_neg (by decide +kernel), lookup_putF, if_neg (by decide +kernel), lookup_putF, if_neg (by decide +kernel), lookup_putF, if_neg (by decide +kernel), lookup_putF, if_pos rfl]
theorem sc_f3 (a b c d e f : V) : (scF a b c d e f).lookup ("variable_names" : Str) = some c := by
  unfold scF
  rw [lookup_putF, if_neg (by decide +kernel), lookup_putF, if_neg (by decide +kernel), lookup_putF, if_neg (by decide +kernel), lookup_putF, if_pos rfl]
theorem sc_f4 (a b c d e f : V) : (scF a b c d e f).lookup ("weak_names" : Str) = some d := by
  unfold scF
  rw [lookup_putF, if_neg (by decide +kernel), lookup_putF, if_neg (by decide +kernel), lookup_putF, if_pos rfl]
theorem sc_f5 (a b c d e f : V) : (scF a b c d e f).lookup ("levels" : Str) = some e := by
  unfold scF
  rw [lookup_putF, if_neg (by decide +kernel), lookup_putF, if_pos rfl]
theorem sc_f6 (a b c d e f : V) : (scF a b c d e f).lookup ("calls" : Str) = some f := by
  unfold scF
  rw [lookup_putF, if_pos rfl]
def spScG (C : Addr) : Sp := fun vs H Q _ => ∃ (p dx : Addr) (a b c d e f : V), vs = [.ref p, a, b, c, d, e, f] ∧ H p = some (.ins C dx []) ∧ ∀ H', H' p = some (.ins C dx (scF a b c d e f)) → (∀ b o, H b = some o → b ≠ p → H' b = some o) → Q .non H'
section
variable {P : Program} {w : World} {K : PySem.W.Frag} {mg : Str → Option Value} {base : Heap}
theorem okScG {f C : Addr} {fd : FuncData} (F : Fun K "__init__" "Scope.__init__" sScI f fd) (T : NoS K C) : FnOk P w K mg base CX0 1 f fd ["self", "class_names", "field_names", "variable_names", "weak_names", "levels", "calls"] (spScG C) := by
  refine F.ok scSc (fun vs H Q E h => ?_) (fun cdv A outer s H vs Q E hr h => ?_)
  · obtain ⟨p, dx, a, b, c, d, e, f, rfl, _⟩ := h
    rfl
  · obtain ⟨p, dx, a, b, c, d, e, f, rfl, hp, k⟩ := h
    refine ⟨_, pss_cons (ps_fld (pv 0) (pv 1) rfl) (pss_cons (ps_fld (pv 0) (pv 2) rfl) (pss_cons (ps_fld (pv 0) (pv 3) rfl) (pss_cons (ps_fld (pv 0) (pv 4) rfl) (pss_cons (ps_fld (pv 0) (pv 5) rfl) (pss_one (ps_fld (pv 0) (pv 6) rfl)))))), ?_⟩
    have z0 : ([] : List (Str × V)).length ≤ 0 := Nat.le_refl _
    have z1 := putF_len "class_names" a []
    have z2 := putF_len "field_names" b (putF "class_names" a [])
    have z3 := putF_len "variable_names" c (putF "field_names" b (putF "class_names" a []))
    have z4 := putF_len "weak_names" d (putF "variable_names" c (putF "field_names" b (putF "class_names" a [])))
    have z5 := putF_len "levels" e (putF "weak_names" d (putF "variable_names" c (putF "field_names" b (putF "class_names" a []))))
    refine ⟨_, rfl, _, rfl, p, C, dx, _, rfl, hp, T.cl, T.n1, by omega, ?_⟩
    refine ⟨_, rfl, _, rfl, p, C, dx, _, rfl, upd_same, T.cl, T.n2, by omega, ?_⟩
    refine ⟨_, rfl, _, rfl, p, C, dx, _, rfl, upd_same, T.cl, T.n3, by omega, ?_⟩
    refine ⟨_, rfl, _, rfl, p, C, dx, _, rfl, upd_same, T.cl, T.n4, by omega, ?_⟩
    refine ⟨_, rfl, _, rfl, p, C, dx, _, rfl, upd_same, T.cl, T.n5, by omega, ?_⟩
    refine ⟨_, rfl, _, rfl, p, C, dx, _, rfl, upd_same, T.cl, T.n6, by omega, ?_⟩
    refine k _ upd_same fun b o e hb => ?_
    rw [upd_ne hb, upd_ne hb, upd_ne hb, upd_ne hb, upd_ne hb, upd_ne hb]
    exact e
end
/-! ### what a scope holds -/
structure Sco where
  cn : List Str
  fn : List Str
  vn : List Str
  wn : List Str
  lv : Int
  cs : List (Str × (Int × Bool × Int))
/-- a dict whose keys are these -/
def KeysAre (H : Hp) (a : Addr) (ns : List Str) : Prop := ∃ kvs : List (Key × V), H a = some (.dK kvs) ∧ ∀ s : Str, (valV kvs (Sum.inr s)).isSome = decide (s ∈ ns)
def CallsAt (H : Hp) (a : Addr) (cs : List (Str × (Int × Bool × Int))) : Prop := ∃ kvs : List (Key × V), H a = some (.dK kvs) ∧ ∀ s : Str, match cs.lookup s with
  | none => valV kvs (Sum.inr s) = none
  | some (m, h, d) => ∃ t, valV kvs (Sum.inr s) = some (.ref t) ∧ H t = some (.tup [.int m, .bl h, .int d])
structure ScAt (H : Hp) (C p : Addr) (sc : Sco) : Prop where
  ex : ∃ dx a b c d f : Addr, H p = some (.ins C dx (scF (.ref a) (.ref b) (.ref c) (.ref d) (.int sc.lv) (.ref f))) ∧ H a = some (.lst (sc.cn.map V.str)) ∧ KeysAre H b sc.fn ∧ H c = some (.lst (sc.vn.map V.str)) ∧ H d = some (.lst (sc.wn.map V.str)) ∧ CallsAt H f sc.cs
theorem KeysAre.mono {H H' : Hp} {a : Addr} {ns : List Str} (h : KeysAre H a ns) (s : Same H H') : KeysAre H' a ns := by
  obtain ⟨kvs, e, k⟩ := h
  exact ⟨kvs, s _ _ e, k⟩
theorem CallsAt.mono {H H' : Hp} {a : Addr} {cs : List (Str × (Int × Bool × Int))} (h : CallsAt H a cs) (s : Same H H') : CallsAt H' a cs := by
  obtain ⟨kvs, e, k⟩ := h
  refine ⟨kvs, s _ _ e, fun z => ?_⟩
  have q := k z
  cases h2 : cs.lookup z with
  | none =>
    rw [h2] at q
    exact q
  | some r =>
    obtain ⟨m, b, d⟩ := r
    rw [h2] at q
    obtain ⟨t, e1, e2⟩ := q
    exact ⟨t, e1, s _ _ e2⟩
theorem ScAt.mono {H H' : Hp} {C p : Addr} {sc : Sco} (h : ScAt H C p sc) (s : Same H H') : ScAt H' C p sc := by
  obtain ⟨dx, a, b, c, d, f, e, h1, h2, h3, h4, h5⟩ := h.ex
  exact ⟨dx, a, b, c, d, f, s _ _ e, s _ _ h1, h2.mono s, s _ _ h3, s _ _ h4, h5.mono s⟩
theorem calls_keys {H : Hp} {a : Addr} {cs : List (Str × (Int × Bool × Int))} (h : CallsAt H a cs) : KeysAre H a (cs.map (·.1)) := by
  obtain ⟨kvs, e, k⟩ := h
  refine ⟨kvs, e, fun s => ?_⟩
  have q := k s
  have look : (cs.lookup s).isSome = decide (s ∈ cs.map (·.1)) := by
    clear k q
    induction cs with
    | nil => rfl
    | cons c cs ih =>
      obtain ⟨n, r⟩ := c
      by_cases z : s = n
      · subst z
        rw [List.lookup_cons_self]
        simp
      · have : (s == n) = false := by simpa using z
        rw [List.lookup_cons, this]
        show (cs.lookup s).isSome = _
        rw [ih]
        simp [z]
  rw [← look]
  cases h2 : cs.lookup s with
  | none =>
    rw [h2] at q
    rw [q] <;> rfl
  | some r =>
    obtain ⟨m, b, d⟩ := r
    rw [h2] at q
    obtain ⟨t, e1, _⟩ := q
    rw [e1] <;> rfl
/-! ### is_one_of -/
def oneV (v : V) (ns : List Str) : Bool := match v with | .str s => decide (s ∈ ns) | _ => false
def NamesAt (H : Hp) (a : Addr) (ns : List Str) : Prop := H a = some (.lst (ns.map V.str)) ∨ KeysAre H a ns
def spOne : Sp := fun vs H Q _ => ∃ (v : V) (a : Addr) (ns : List Str), vs = [v, .ref a] ∧ Dat H v ∧ NamesAt H a ns ∧ Q (.bl (oneV v ns)) H
theorem isS_str {v : V} (h : isS v = true) : ∃ s, v = .str s := by
  cases v with
  | str s => exact ⟨s, rfl⟩
  | _ => cases h
theorem oneV_not {v : V} {ns : List Str} (h : ¬ isS v = true) : oneV v ns = false := by
  cases v with
  | str s => exact absurd rfl h
  | _ => rfl
section
variable {P : Program} {w : World} {K : PySem.W.Frag} {mg : Str → Option Value} {base : Heap}
theorem sc4 : FnScope ["value", "names"] ["value", "names"] (defScope (top 4)) := ⟨rfl, rfl, rfl, by decide +kernel, rfl, by decide +kernel, by decide +kernel⟩
theorem ok4 {f : Addr} {fd : FuncData} (F : Fun K "is_one_of" "is_one_of" (top 4) f fd) (B : Blt mg) : FnOk P w K mg base CX0 1 f fd ["value", "names"] spOne := by
  refine F.ok sc4 (fun vs H Q E h => ?_) (fun cdv A outer s H vs Q E hr h => ?_)
  · obtain ⟨v, a, ns, rfl, _⟩ := h
    rfl
  · obtain ⟨v, a, ns, rfl, d, hn, k⟩ := h
    have hu := hu_of hr
    rcases hn with hn | ⟨kvs, hn, hk⟩
    · refine ⟨_, pss_one (ps_ret (pe_and (pt_isi B (pv 0) B.str PyProof.Rows.boot_str) (pe_one (pe_cmpR op_in_seq (pv 0) (pv 1) rfl)))), ?_⟩
      refine isi_rd rfl (ans_str d) ⟨_, rfl, ?_⟩
      refine ite2 (fun c => ?_) (fun c => ?_)
      · obtain ⟨z, rfl⟩ := isS_str c
        refine ⟨_, rfl, _, rfl, a, _, rfl, .inl (SqL.of hn), rfl, flat_str ns, ?_⟩
        rw [if_neg (show ¬ (false = true) from Bool.false_ne_true), inV_str]
        rw [show ns.contains z = oneV (.str z) ns from (List.contains_eq_mem z ns)]
        exact k
      · rw [oneV_not c] at k
        exact k
    · refine ⟨_, pss_one (ps_ret (pe_and (pt_isi B (pv 0) B.str PyProof.Rows.boot_str) (pe_one (pe_cmp (pc_din hu (pv 0) (pv 1)))))), ?_⟩
      refine isi_rd rfl (ans_str d) ⟨_, rfl, ?_⟩
      refine ite2 (fun c => ?_) (fun c => ?_)
      · obtain ⟨z, rfl⟩ := isS_str c
        refine ⟨_, rfl, _, rfl, a, _, rfl, DGet.k (k := Sum.inr z) hn, ?_⟩
        rw [hk z]
        exact k
      · rw [oneV_not c] at k
        exact k
end
end K1

set_option Elab.async false
set_option linter.all false
set_option maxRecDepth 100000
set_option maxHeartbeats 4000000
namespace K1
open PySem L2
/-! ### fits -/
def mostR : Int := 1000000000000000000000000000000
def fitsV (sc : Sco) (kind : Str) (v : V) : Bool :=
  if kind = "block" then true else if kind = "times" then wholeV v 0 mostR else if kind = "level" then wholeV v 0 sc.lv else if kind = "variable" then oneV v sc.vn else if kind = "weak" then oneV v sc.wn
  else if kind = "class" then oneV v sc.cn else if kind = "field" then oneV v sc.fn else nameV v
def spFits (C : Addr) : Sp := fun vs H Q _ => ∃ (kind : Str) (v : V) (p : Addr) (sc : Sco), vs = [.str kind, v, .ref p] ∧ Dat H v ∧ ScAt H C p sc ∧ ∀ H', Same H H' → Q (.bl (fitsV sc kind v)) H'
section
variable {P : Program} {w : World} {K : PySem.W.Frag} {mg : Str → Option Value} {base : Heap}
theorem sc16 : FnScope ["kind", "value", "scope"] ["kind", "value", "scope"] (defScope (top 16)) := ⟨rfl, rfl, rfl, by decide +kernel, rfl, by decide +kernel, by decide +kernel⟩
theorem ok16 {f C : Addr} {fd : FuncData} {tR : Tok} (F : Fun K "fits" "fits" (top 16) f fd) (T : NoS K C) (hR : mg "MOST_ROUNDS" = some (.int mostR tR)) (C2 : Cal P w K mg base CX0 2 "is_within" ["value", "least", "most"] spWithin)
    (C4 : Cal P w K mg base CX0 1 "is_one_of" ["value", "names"] spOne) (C3 : Cal P w K mg base CX0 1 "is_name" ["value"] spName) : FnOk P w K mg base CX0 3 f fd ["kind", "value", "scope"] (spFits C) := by
  refine F.ok sc16 (fun vs H Q E h => ?_) (fun cdv A outer s H vs Q E hr h => ?_)
  · obtain ⟨kind, v, p, sc, rfl, _⟩ := h
    rfl
  · obtain ⟨kind, v, p, sc, rfl, d, hs, k⟩ := h
    obtain ⟨dx, a1, a2, a3, a4, a6, hp, h1, h2, h3, h4, h6⟩ := hs.ex
    have kk := k
    have k := k H (Same.refl H)
    refine ⟨_, pss_cons (ps_if (pt_cmpR op_eq (pv 0) pe_str (nomark _)) (pss_one (ps_ret pe_bl)) pss_nil)
      (pss_cons (ps_if (pt_cmpR op_eq (pv 0) pe_str (nomark _)) (pss_one (ps_ret (pe_cal C2 hr (by decide) pass0 (pa_cons (pv 1) (pa_cons pe_int (pa_cons (pe_glob (v := .int mostR) rfl hR ⟨_, rfl⟩) pa_nil)))))) pss_nil)
      (pss_cons (ps_if (pt_cmpR op_eq (pv 0) pe_str (nomark _)) (pss_one (ps_ret (pe_cal C2 hr (by decide) pass0 (pa_cons (pv 1) (pa_cons pe_int (pa_cons (pe_fld (pv 2) rfl) pa_nil)))))) pss_nil)
      (pss_cons (ps_if (pt_cmpR op_eq (pv 0) pe_str (nomark _)) (pss_one (ps_ret (pe_cal C4 hr (by decide) pass0 (pa_cons (pv 1) (pa_cons (pe_fld (pv 2) rfl) pa_nil))))) pss_nil)
      (pss_cons (ps_if (pt_cmpR op_eq (pv 0) pe_str (nomark _)) (pss_one (ps_ret (pe_cal C4 hr (by decide) pass0 (pa_cons (pv 1) (pa_cons (pe_fld (pv 2) rfl) pa_nil))))) pss_nil)
      (pss_cons (ps_if (pt_cmpR op_eq (pv 0) pe_str (nomark _)) (pss_one (ps_ret (pe_cal C4 hr (by decide) pass0 (pa_cons (pv 1) (pa_cons (pe_fld (pv 2) rfl) pa_nil))))) pss_nil)
      (pss_cons (ps_if (pt_cmpR op_eq (pv 0) pe_str (nomark _)) (pss_one (ps_ret (pe_cal C4 hr (by decide) pass0 (pa_cons (pv 1) (pa_cons (pe_fld (pv 2) rfl) pa_nil))))) pss_nil)
      (pss_one (ps_ret (pe_cal C3 hr (by decide) pass0 (pa_cons (pv 1) pa_nil)))))))))), ?_⟩
    unfold fitsV at k
    have st : ∀ {x y : Str}, V.str x = V.str y ↔ x = y := fun {x y} => ⟨fun e => by cases e; rfl, fun e => by rw [e]⟩
    refine ⟨_, rfl, rfl, _, rfl, ?_⟩
    refine ite2 (fun c => ?_) (fun c => ?_)
    · rw [if_pos (st.mp (of_decide_eq_true c))] at k
      exact k
    have c1 : ¬ kind = "block" := fun e => c (decide_eq_true (st.mpr e))
    rw [if_neg c1] at k
    refine ⟨_, rfl, rfl, _, rfl, ?_⟩
    refine ite2 (fun c => ?_) (fun c => ?_)
    · rw [if_pos (st.mp (of_decide_eq_true c))] at k
      exact ⟨_, rfl, v, 0, mostR, rfl, d, k⟩
    have c2 : ¬ kind = "times" := fun e => c (decide_eq_true (st.mpr e))
    rw [if_neg c2] at k
    refine ⟨_, rfl, rfl, _, rfl, ?_⟩
    refine ite2 (fun c => ?_) (fun c => ?_)
    · rw [if_pos (st.mp (of_decide_eq_true c))] at k
      exact ⟨_, rfl, _, rfl, p, C, dx, _, _, rfl, hp, T.cl, T.n5, sc_f5 _ _ _ _ _ _, v, 0, sc.lv, rfl, d, k⟩
    have c3 : ¬ kind = "level" := fun e => c (decide_eq_true (st.mpr e))
    rw [if_neg c3] at k
    refine ⟨_, rfl, rfl, _, rfl, ?_⟩
    refine ite2 (fun c => ?_) (fun c => ?_)
    · rw [if_pos (st.mp (of_decide_eq_true c))] at k
      exact ⟨_, rfl, _, rfl, p, C, dx, _, _, rfl, hp, T.cl, T.n3, sc_f3 _ _ _ _ _ _, v, a3, sc.vn, rfl, d, .inl h3, k⟩
    have c4 : ¬ kind = "variable" := fun e => c (decide_eq_true (st.mpr e))
    rw [if_neg c4] at k
    refine ⟨_, rfl, rfl, _, rfl, ?_⟩
    refine ite2 (fun c => ?_) (fun c => ?_)
    · rw [if_pos (st.mp (of_decide_eq_true c))] at k
      exact ⟨_, rfl, _, rfl, p, C, dx, _, _, rfl, hp, T.cl, T.n4, sc_f4 _ _ _ _ _ _, v, a4, sc.wn, rfl, d, .inl h4, k⟩
    have c5 : ¬ kind = "weak" := fun e => c (decide_eq_true (st.mpr e))
    rw [if_neg c5] at k
    refine ⟨_, rfl, rfl, _, rfl, ?_⟩
    refine ite2 (fun c => ?_) (fun c => ?_)
    · rw [if_pos (st.mp (of_decide_eq_true c))] at k
      exact ⟨_, rfl, _, rfl, p, C, dx, _, _, rfl, hp, T.cl, T.n1, sc_f1 _ _ _ _ _ _, v, a1, sc.cn, rfl, d, .inl h1, k⟩
    have c6 : ¬ kind = "class" := fun e => c (decide_eq_true (st.mpr e))
    rw [if_neg c6] at k
    refine ⟨_, rfl, rfl, _, rfl, ?_⟩
    refine ite2 (fun c => ?_) (fun c => ?_)
    · rw [if_pos (st.mp (of_decide_eq_true c))] at k
      exact ⟨_, rfl, _, rfl, p, C, dx, _, _, rfl, hp, T.cl, T.n2, sc_f2 _ _ _ _ _ _, v, a2, sc.fn, rfl, d, .inr h2, k⟩
    have c7 : ¬ kind = "field" := fun e => c (decide_eq_true (st.mpr e))
    rw [if_neg c7] at k
    exact ⟨_, rfl, v, rfl, d, fun H' s => by
      have q := kk H' s
      unfold fitsV at q
      rw [if_neg c1, if_neg c2, if_neg c3, if_neg c4, if_neg c5, if_neg c6, if_neg c7] at q
      exact q⟩
end
end K1

set_option Elab.async false
set_option linter.all false
set_option maxRecDepth 100000
set_option maxHeartbeats 4000000
namespace K1
open PySem L2
/-! ### all([e for x in xs]) -/
theorem all_lc {K : PySem.W.Frag} {σ : St} {H : Hp} {Q : VK} {i : Nat} {a : Addr} {xs : List V} {p : V → Bool} {tl te : TE} {vs : List Nat} (hl : ∀ Q' : VK, Q' (.ref a) H → tl σ H Q') (ha : H a = some (.lst xs)) (few : xs.length < sizeLine)
    (hw : ∀ x, wipe ((wipe σ vs).set i (some x)) vs = wipe σ vs) (he : ∀ x ∈ xs, ∀ H1, Same H H1 → ∀ Q' : VK, (∀ H2, Same H1 H2 → Q' (.bl (p x)) H2) → te ((wipe σ vs).set i (some x)) H1 Q')
    (k : ∀ H1, Same H H1 → Q (.bl (xs.all p)) H1) : tCB (rAll K) (tCons (tLc (iList K tl) (gName i) tYes te vs) tNil) σ H Q := by
  refine hl _ ⟨a, rfl, ⟨_, SqL.of ha⟩, fun D hD => ?_⟩
  have s0 : Same H (upd H D (.lst [])) := same_new (Same.refl _) hD
  refine lc_list (xs := xs) (fun j H1 => Same H H1 ∧ H1 D = some (.lst ((xs.take j).map fun x => V.bl (p x)))) ⟨s0, by rw [upd_same]; rfl⟩ (fun j H1 _ z => SqL.of (z.1 _ _ ha)) ?_ ?_
  · rintro j x H1 hx ⟨s1, e1⟩
    refine ⟨hw x, ?_⟩
    unfold tYes
    dsimp only
    rw [if_pos rfl]
    have hm : x ∈ xs := List.mem_of_getElem? hx
    have hj : j < xs.length := (List.getElem?_eq_some_iff.mp hx).1
    refine he x hm H1 s1 _ fun H2 s2 => ⟨_, s2 _ _ e1, ?_, fun b o e => ?_, ?_⟩
    · rw [List.length_map, List.length_take]
      omega
    · rw [upd_ne (ne_of_none e hD)]
      exact s2 _ _ (s1 b o e)
    · rw [upd_same, take_snoc hx, List.map_append]
      rfl
  · rintro H1 ⟨s1, e1⟩
    refine ⟨D, xs.map p, rfl, SqL.of (by rw [e1, List.take_of_length_le (Nat.le_refl _), List.map_map]; rfl), ?_⟩
    rw [show (xs.map p).all id = xs.all p by rw [List.all_map]; rfl]
    exact k _ s1
/-! ### data as trees -/
mutual
inductive At (H : Hp) : V → PyData → Prop
  | non : At H .non .none
  | bl (b : Bool) : At H (.bl b) (.bool b)
  | int (i : Int) : At H (.int i) (.int i)
  | str (s : Str) (h : s.length ≤ 1000 ∧ PyData.strOk s = true) : At H (.str s) (.str s)
  | lst {a : Addr} {xs : List V} {ds : List PyData} (e : H a = some (.lst xs)) (h : AtAll H xs ds) : At H (.ref a) (.list ds)
  | tup {a : Addr} {xs : List V} {ds : List PyData} (e : H a = some (.tup xs)) (h : AtAll H xs ds) : At H (.ref a) (.tuple ds)
  | dic {a : Addr} {kvs : List (Key × V)} (e : H a = some (.dK kvs)) : At H (.ref a) (.dict [])
inductive AtAll (H : Hp) : List V → List PyData → Prop
  | nil : AtAll H [] []
  | cons {v : V} {vs : List V} {d : PyData} {ds : List PyData} (h : At H v d) (t : AtAll H vs ds) : AtAll H (v :: vs) (d :: ds)
end
mutual
theorem At.mono {H H' : Hp} (s : Same H H') : ∀ {v : V} {d : PyData}, At H v d → At H' v d
  | _, _, .non => .non
  | _, _, .bl b => .bl b
  | _, _, .int i => .int i
  | _, _, .str z h => .str z h
  | _, _, .lst e h => .lst (s _ _ e) (h.mono s)
  | _, _, .tup e h => .tup (s _ _ e) (h.mono s)
  | _, _, .dic e => .dic (s _ _ e)
theorem AtAll.mono {H H' : Hp} (s : Same H H') : ∀ {vs : List V} {ds : List PyData}, AtAll H vs ds → AtAll H' vs ds
  | _, _, .nil => .nil
  | _, _, .cons h t => .cons (h.mono s) (t.mono s)
end
mutual
theorem At.dat {H : Hp} : ∀ {v : V} {d : PyData}, At H v d → Dat H v
  | _, _, .non => .non
  | _, _, .bl b => .bl b
  | _, _, .int i => .int i
  | _, _, .str z h => .str z h
  | _, _, .lst e h => .lst e h.dats
  | _, _, .tup e h => .tup e h.dats
  | _, _, .dic e => .dic e
theorem AtAll.dats {H : Hp} : ∀ {vs : List V} {ds : List PyData}, AtAll H vs ds → ∀ v ∈ vs, Dat H v
  | _, _, .nil => fun _ h => by cases h
  | _, _, .cons h t => fun v hv => by
    rcases List.mem_cons.mp hv with e | hv
    · rw [e]
      exact h.dat
    · exact t.dats v hv
end
theorem AtAll.len {H : Hp} : ∀ {vs : List V} {ds : List PyData}, AtAll H vs ds → vs.length = ds.length
  | _, _, .nil => rfl
  | _, _, .cons _ t => congrArg Nat.succ t.len
theorem AtAll.get {H : Hp} : ∀ {vs : List V} {ds : List PyData} {i : Nat} {v : V}, AtAll H vs ds → vs[i]? = some v → ∃ d, ds[i]? = some d ∧ At H v d
  | _, _, i, v, .nil, h => by simp at h
  | _, _, 0, v, .cons h t, e => by
    cases e
    exact ⟨_, rfl, h⟩
  | _, _, i + 1, v, .cons h t, e => by
    have e' : _ := e
    rw [List.getElem?_cons_succ] at e'
    obtain ⟨d, h1, h2⟩ := t.get e'
    exact ⟨d, by rw [List.getElem?_cons_succ]; exact h1, h2⟩
/-! ### the words of a statement, as trees -/
def oneT (d : PyData) (ns : List Str) : Bool := match d with | .str s => decide (s ∈ ns) | _ => false
def nameT (d : PyData) : Bool := match d with | .str s => nameS s | _ => false
def wholeT (d : PyData) (lo hi : Int) : Bool := match d with | .int i => decide (lo ≤ i) && decide (i ≤ hi) | _ => false
def fitsT (sc : Sco) (kind : Str) (d : PyData) : Bool :=
  if kind = "block" then true else if kind = "times" then wholeT d 0 mostR else if kind = "level" then wholeT d 0 sc.lv else if kind = "variable" then oneT d sc.vn else if kind = "weak" then oneT d sc.wn
  else if kind = "class" then oneT d sc.cn else if kind = "field" then oneT d sc.fn else nameT d
theorem one_at {H : Hp} {v : V} {d : PyData} (h : At H v d) (ns : List Str) : oneV v ns = oneT d ns := by cases h <;> rfl
theorem name_at {H : Hp} {v : V} {d : PyData} (h : At H v d) : nameV v = nameT d := by cases h <;> rfl
theorem whole_at {H : Hp} {v : V} {d : PyData} (h : At H v d) (lo hi : Int) : wholeV v lo hi = wholeT d lo hi := by cases h <;> rfl
theorem fits_at {H : Hp} {v : V} {d : PyData} (h : At H v d) (sc : Sco) (kind : Str) : fitsV sc kind v = fitsT sc kind d := by
  unfold fitsV fitsT
  rw [whole_at h, whole_at h, one_at h, one_at h, one_at h, one_at h, name_at h]
/-! ### fits_call -/
def argsT (d : PyData) (m : Int) (vn : List Str) : Bool := match d with | .list ys => decide ((ys.length : Int) = m) && ys.all fun y => oneT y vn | _ => false
def noneT (d : PyData) : Bool := match d with | .none => true | _ => false
def callR (sc : Sco) (t a : PyData) (rep : Int) (r : Int × Bool × Int) : Bool := ((noneT t || (r.2.1 && oneT t sc.vn)) && argsT a r.1 sc.vn) && decide (rep + r.2.2 ≤ 3)
def callN (sc : Sco) (t n a : PyData) (rep : Int) : Bool := match n with
  | .str s => (match sc.cs.lookup s with
    | none => false
    | some r => callR sc t a rep r)
  | _ => false
def callT (sc : Sco) (ds : List PyData) (rep : Int) : Bool := match ds with
  | [t, n, a] => callN sc t n a rep
  | _ => false
end K1

set_option Elab.async false
set_option linter.all false
set_option maxRecDepth 100000
set_option maxHeartbeats 4000000
namespace K1
open PySem L2
def spCallF (C : Addr) : Sp := fun vs H Q _ => ∃ (t p : Addr) (xs : List V) (ds : List PyData) (sc : Sco) (rep : Int), vs = [.ref t, .ref p, .int rep] ∧ H t = some (.tup xs) ∧ AtAll H xs ds ∧ ScAt H C p sc ∧ (∀ z r, sc.cs.lookup z = some r → r.1 ≤ 100) ∧ ∀ H', Same H H' → Q (.bl (callT sc ds rep)) H'
theorem callT_len {sc : Sco} {ds : List PyData} {rep : Int} (h : ds.length ≠ 3) : callT sc ds rep = false := by
  match ds, h with
  | [], _ => rfl
  | [_], _ => rfl
  | [_, _], _ => rfl
  | [_, _, _], h => exact absurd rfl h
  | _ :: _ :: _ :: _ :: _, _ => rfl
theorem callT_no {sc : Sco} {d0 d1 d2 : PyData} {rep : Int} (h : oneT d1 (sc.cs.map (·.1)) = false) : callT sc [d0, d1, d2] rep = false := by
  cases d1 with
  | str s =>
    have n : sc.cs.lookup s = none := by
      rw [List.lookup_eq_none_iff]
      intro q hq
      have h' : decide (s ∈ sc.cs.map (·.1)) = false := h
      have h2 := of_decide_eq_false h'
      have : ¬ s = q.1 := fun e => h2 (List.mem_map.mpr ⟨q, hq, e.symm⟩)
      simpa using this
    show callN sc d0 (.str s) d2 rep = false
    unfold callN
    dsimp only
    rw [n]
  | _ => rfl
theorem oneT_str {d : PyData} {ns : List Str} (h : oneT d ns = true) : ∃ s, d = .str s ∧ s ∈ ns := by
  cases d with
  | str s => exact ⟨s, rfl, of_decide_eq_true h⟩
  | _ => cases h
theorem look_some {cs : List (Str × (Int × Bool × Int))} {s : Str} (h : s ∈ cs.map (·.1)) : ∃ m b d, cs.lookup s = some (m, b, d) := by
  cases q : cs.lookup s with
  | none =>
    obtain ⟨⟨n, r⟩, hr, e⟩ := List.mem_map.mp h
    have e : n = s := e
    rw [List.lookup_eq_none_iff] at q
    have := q _ hr
    rw [e] at this
    simp at this
  | some r => exact ⟨r.1, r.2.1, r.2.2, rfl⟩
theorem at_str {H : Hp} {v : V} {s : Str} (h : At H v (.str s)) : v = .str s := by
  cases h
  rfl
theorem none_at {H : Hp} {v : V} {d : PyData} (h : At H v d) : noneT d = decide (v = .non) := by
  cases h <;> rfl
theorem fits_var {sc : Sco} {d : PyData} : fitsT sc "variable" d = oneT d sc.vn := by
  unfold fitsT
  rw [if_neg (by decide +kernel), if_neg (by decide +kernel), if_neg (by decide +kernel), if_pos rfl]
theorem fits_varV {sc : Sco} {v : V} : fitsV sc "variable" v = oneV v sc.vn := by
  unfold fitsV
  rw [if_neg (by decide +kernel), if_neg (by decide +kernel), if_neg (by decide +kernel), if_pos rfl]
theorem all_at {H : Hp} {ns : List Str} : ∀ {vs : List V} {ds : List PyData}, AtAll H vs ds → (vs.all fun v => oneV v ns) = ds.all fun d => oneT d ns
  | _, _, .nil => rfl
  | _, _, .cons h t => by
    rw [List.all_cons, List.all_cons, one_at h, all_at t]
theorem at_lst {H : Hp} {v : V} {d : PyData} (h : At H v d) : (∃ (a : Addr) (ys : List V) (es : List PyData), v = .ref a ∧ d = .list es ∧ H a = some (.lst ys) ∧ AtAll H ys es) ∨ (lstOf H v = none ∧ ∀ m vn, argsT d m vn = false) := by
  cases h with
  | lst e t => exact .inl ⟨_, _, _, rfl, rfl, e, t⟩
  | tup e t => exact .inr ⟨lstOf_tup e, fun _ _ => rfl⟩
  | dic e => exact .inr ⟨lstOf_dic e, fun _ _ => rfl⟩
  | _ => exact .inr ⟨rfl, fun _ _ => rfl⟩
abbrev fcN : List Str := ["words", "scope", "repeats", "target", "name", "arguments", "many", "has_result", "depth", "argument"]
section
variable {P : Program} {w : World} {K : PySem.W.Frag} {mg : Str → Option Value} {base : Heap}
theorem sc17 : FnScope fcN ["words", "scope", "repeats"] (defScope (top 17)) := ⟨rfl, rfl, rfl, by decide +kernel, rfl, by decide +kernel, by decide +kernel⟩
theorem ok17 {f C : Addr} {fd : FuncData} {tR : Tok} (F : Fun K "fits_call" "fits_call" (top 17) f fd) (B : Blt mg) (T : NoS K C) (hR : mg "DEEPEST_REPEAT" = some (.int 3 tR)) (C4 : Cal P w K mg base CX0 1 "is_one_of" ["value", "names"] spOne)
    (C16 : Cal P w K mg base CX0 3 "fits" ["kind", "value", "scope"] (spFits C)) : FnOk P w K mg base CX0 4 f fd ["words", "scope", "repeats"] (spCallF C) := by
  refine F.ok sc17 (fun vs H Q E h => ?_) (fun cdv A outer s H vs Q E hr h => ?_)
  · obtain ⟨t, p, xs, ds, sc, rep, rfl, _⟩ := h
    rfl
  · obtain ⟨t, p, xs, ds, sc, rep, rfl, ht, ha, hs, few, k⟩ := h
    have hu := hu_of hr
    obtain ⟨dx, a1, a2, a3, a4, a6, hp, h1, h2, h3, h4, h6⟩ := hs.ex
    refine ⟨_, pss_cons (ps_if (pt_cmpR op_ne (pe_callB call_len_seq rfl B.len PySem.boot_len (pa_cons (pv 0) pa_nil)) pe_int (nomark _)) (pss_one (ps_ret pe_bl)) pss_nil)
      (pss_cons (ps_asg (pv 0) (pg_tup rfl (pgs_cons (pg_name (i := 3) sc17.nd rfl (Or.inl rfl)) (pgs_cons (pg_name (i := 4) sc17.nd rfl (Or.inl rfl)) (pgs_cons (pg_name (i := 5) sc17.nd rfl (Or.inl rfl)) pgs_nil)))))
      (pss_cons (ps_if (pt_not (pt_val (pe_cal C4 hr (by decide) pass0 (pa_cons (pv 4) (pa_cons (pe_fld (pv 1) rfl) pa_nil))))) (pss_one (ps_ret pe_bl)) pss_nil)
      (pss_cons (ps_asg (pe_dget hu (pe_fld (pv 1) rfl) (pv 4) (fun _ _ => rfl)) (pg_tup rfl (pgs_cons (pg_name (i := 6) sc17.nd rfl (Or.inl rfl)) (pgs_cons (pg_name (i := 7) sc17.nd rfl (Or.inl rfl)) (pgs_cons (pg_name (i := 8) sc17.nd rfl (Or.inl rfl)) pgs_nil)))))
      (pss_mid (ps_if (PW.pt (pw_and (pt_cmpR op_notN (pv 3) pe_non (nomark _)) (pw_and1 (pt_not (PW.pt (pw_and (pt_val (pv 7)) (pw_and1 (pt_val (pe_cal C16 hr (by decide) pass0 (pa_cons pe_str (pa_cons (pv 3) (pa_cons (pv 1) pa_nil)))))))))))) (pss_one (ps_ret pe_bl)) pss_nil)
      (pss_mid (ps_if (PW.pt (pw_or (pt_not (pt_val (pt_isi B (pv 5) B.list PyProof.Rows.boot_list))) (pw_or1 (pt_cmpR op_ne (pe_callB call_len_seq rfl B.len PySem.boot_len (pa_cons (pv 5) pa_nil)) (pv 6) (nomark _))))) (pss_one (ps_ret pe_bl)) pss_nil)
      (pss_mid (ps_if (pt_not (pt_val (pe_callB (cr_all rfl) rfl B.all PyProof.Rows.boot_all (pa_cons (pe_lc (own := [("argument", 9)]) (g := gName 9) (tt := tYes) rfl sc17.nd (pi_list (pv 5)) (blkOk_by (N := fcN) (sc := defScope (top 17)) (by decide +kernel))
        (fun _ _ _ _ _ => pg_name (i := 9) sc17.nd rfl (Or.inl rfl)) (fun _ _ _ _ _ => pts_nil) (fun _ _ _ _ _ => pe_cal C16 hr (by decide) pass0 (pa_cons pe_str (pa_cons (pv 9) (pa_cons (pv 1) pa_nil))))) pa_nil)))) (pss_one (ps_ret pe_bl)) pss_nil)
      (pss_one (ps_ret (pe_cmpR op_le (pe_op op_add (pv 2) (pv 8)) (pe_glob (v := .int 3) rfl hR ⟨_, rfl⟩) (nomark _))))))))))  , ?_⟩
    have same := Same.refl H
    refine ⟨_, rfl, t, xs, rfl, .inr (SqT.of ht), rfl, _, rfl, ?_⟩
    refine ite2 (fun c => ?_) (fun c => ?_)
    · have n3 : ds.length ≠ 3 := fun e => by
        rw [ha.len, e] at c
        exact absurd c (by decide)
      rw [callT_len n3] at k
      exact k H same
    have x3 : xs.length = 3 := by
      cases z : decide (V.int (xs.length : Int) = V.int 3) with
      | true =>
        have e := of_decide_eq_true z
        injection e with e
        omega
      | false => rw [z] at c; exact absurd rfl c
    match xs, x3, ds, ha with
    | [x0, x1, x2], _, _, .cons (d := d0) at0 (.cons (d := d1) at1 (.cons (d := d2) at2 .nil)) =>
    refine ⟨_, rfl, t, [x0, x1, x2], rfl, SqT.of ht, rfl, x0, [x1, x2], rfl, x1, [x2], rfl, x2, [], rfl, rfl, ?_⟩
    refine ⟨_, rfl, _, rfl, p, C, dx, _, _, rfl, hp, T.cl, T.n6, sc_f6 _ _ _ _ _ _, x1, a6, sc.cs.map (·.1), rfl, at1.dat, .inr (calls_keys h6), _, rfl, ?_⟩
    rw [one_at at1]
    cases e1 : oneT d1 (sc.cs.map (·.1)) with
    | false =>
      refine iteT ?_
      rw [callT_no e1] at k
      exact k H same
    | true =>
    refine iteF ?_
    obtain ⟨z, rfl, hz⟩ := oneT_str e1
    obtain rfl := at_str at1
    obtain ⟨m, b, dp, hl⟩ := look_some hz
    obtain ⟨kvs, hk, hv⟩ := id h6
    have hv := hv z
    rw [hl] at hv
    obtain ⟨tt, hv, htt⟩ := hv
    refine ⟨_, rfl, p, C, dx, _, _, rfl, hp, T.cl, T.n6, sc_f6 _ _ _ _ _ _, _, rfl, a6, .ref tt, rfl, ?_, tt, _, rfl, SqT.of htt, rfl, _, _, rfl, _, _, rfl, _, _, rfl, rfl, ?_⟩
    · rw [← hv]
      exact DGet.k (k := Sum.inr z) hk
    have kc : callT sc [d0, .str z, d2] rep = callR sc d0 d2 rep (m, b, dp) := by
      show callN sc d0 (.str z) d2 rep = _
      unfold callN
      dsimp only
      rw [hl]
    rw [kc] at k
    have hl0 := hl
    clear kc hl hv hk htt
    -- the target
    refine ⟨fun σ H1 => σ = [some (.ref t), some (.ref p), some (.int rep), some x0, some (.str z), some x2, some (.int m), some (.bl b), some (.int dp), none] ∧ Same H H1 ∧ (noneT d0 || (b && oneT d0 sc.vn)) = true, ?_, ?_⟩
    · refine ⟨_, rfl, rfl, _, rfl, ?_⟩
      by_cases hx : x0 = .non
      · rw [decide_eq_true hx]
        refine iteF ?_
        refine iteF ⟨rfl, same, ?_⟩
        rw [none_at at0, decide_eq_true hx]
        rfl
      · have n0 : noneT d0 = false := by rw [none_at at0, decide_eq_false hx]
        rw [decide_eq_false hx]
        refine iteT ?_
        refine ⟨_, rfl, b, rfl, ?_⟩
        cases b with
        | false =>
          refine iteF ?_
          refine iteT ?_
          have q := k H same
          unfold callR at q
          rw [n0] at q
          exact q
        | true =>
          refine iteT ?_
          refine ⟨_, rfl, _, rfl, "variable", x0, p, sc, rfl, at0.dat, hs, fun H1 s1 => ?_⟩
          refine ⟨_, rfl, ?_⟩
          rw [fits_at at0, fits_var]
          cases e0 : oneT d0 sc.vn with
          | false =>
            refine iteT ?_
            have q := k H1 s1
            unfold callR at q
            rw [n0, e0] at q
            exact q
          | true =>
            refine iteF ⟨rfl, s1, ?_⟩
            rw [Bool.and_self, Bool.or_true]
    rintro σ H1 ⟨rfl, s1, et⟩
    have k : ∀ H2, Same H H2 → Q (.bl (argsT d2 m sc.vn && decide (rep + dp ≤ 3))) H2 := fun H2 s2 => by
      have q := k H2 s2
      unfold callR at q
      dsimp only at q
      rw [et, Bool.true_and] at q
      exact q
    -- the arguments
    refine ⟨fun σ H2 => σ = [some (.ref t), some (.ref p), some (.int rep), some x0, some (.str z), some x2, some (.int m), some (.bl b), some (.int dp), none] ∧ H2 = H1 ∧ ∃ (a : Addr) (ys : List V) (es : List PyData), x2 = .ref a ∧ d2 = .list es ∧ H a = some (.lst ys) ∧ AtAll H ys es ∧ (ys.length : Int) = m, ?_, ?_⟩
    · refine isi_rd rfl (ans_list (at2.dat.mono s1)) ⟨_, rfl, ?_⟩
      rcases at_lst at2 with ⟨a, ys, es, rfl, rfl, hy, hys⟩ | ⟨hn, hno⟩
      · rw [lstOf_of (s1 _ _ hy)]
        refine iteF ?_
        refine ⟨_, rfl, a, ys, rfl, .inl (SqL.of (s1 _ _ hy)), _, rfl, rfl, _, rfl, ?_⟩
        refine ite2 (fun c => ?_) (fun c => ?_)
        · have ne : ¬ ((es.length : Int) = m) := fun e => by
            rw [hys.len, decide_eq_true (show V.int (es.length : Int) = V.int m by rw [e])] at c
            cases c
          have q := k H1 s1
          unfold argsT at q
          dsimp only at q
          rw [decide_eq_false ne] at q
          exact q
        · refine ⟨rfl, rfl, a, ys, es, rfl, rfl, hy, hys, ?_⟩
          cases z : decide (V.int (ys.length : Int) = V.int m) with
          | true =>
            have e := of_decide_eq_true z
            injection e
          | false => rw [z] at c; exact absurd rfl c
      · have hn1 : lstOf H1 x2 = none := by rw [lstOf_same at2.dat s1]; exact hn
        rw [hn1]
        refine iteT ?_
        refine iteT ?_
        have q := k H1 s1
        rw [hno, Bool.false_and] at q
        exact q
    rintro σ H2 ⟨rfl, rfl, a, ys, es, rfl, rfl, hy, hys, hm⟩
    have k : ∀ H3, Same H H3 → Q (.bl ((es.all fun d => oneT d sc.vn) && decide (rep + dp ≤ 3))) H3 := fun H3 s3 => by
      have q := k H3 s3
      unfold argsT at q
      dsimp only at q
      rw [decide_eq_true (show (es.length : Int) = m by rw [← hys.len]; exact hm), Bool.true_and] at q
      exact q
    have lt : ys.length < sizeLine := by
      have := few _ _ hl0
      have z : 101 ≤ sizeLine := by decide
      dsimp only at this
      omega
    -- all of them
    refine ⟨fun σ H3 => (∃ v9, σ = [some (.ref t), some (.ref p), some (.int rep), some x0, some (.str z), some (.ref a), some (.int m), some (.bl b), some (.int dp), v9]) ∧ Same H H3 ∧ (es.all fun d => oneT d sc.vn) = true, ?_, ?_⟩
    · refine all_lc (p := fun v => oneV v sc.vn) (fun Q' q => ⟨_, rfl, q⟩) (s1 _ _ hy) lt (fun x => rfl) (fun x hx H3 s3 Q' q => ?_) (fun H3 s3 => ?_)
      · refine ⟨_, rfl, _, rfl, "variable", x, p, sc, rfl, (hys.dats x hx).mono (s1.trans s3), hs.mono (s1.trans s3), fun H4 s4 => ?_⟩
        rw [fits_varV]
        exact q H4 s4
      · refine ⟨_, rfl, ?_⟩
        rw [all_at hys]
        cases ea : es.all fun d => oneT d sc.vn with
        | false =>
          refine iteT ?_
          have q := k H3 (s1.trans s3)
          rw [ea, Bool.false_and] at q
          exact q
        | true => exact iteF ⟨⟨none, rfl⟩, s1.trans s3, rfl⟩
    rintro σ H3 ⟨⟨v9, rfl⟩, s3, ea⟩
    refine ⟨_, rfl, _, rfl, _, _, rfl, rfl, _, _, rfl, rfl, ?_⟩
    have q := k H3 s3
    rw [ea, Bool.true_and] at q
    exact q
end
end K1

set_option Elab.async false
set_option linter.all false
set_option maxRecDepth 100000
set_option maxHeartbeats 4000000
namespace L2
open PySem PySem.Spec PyProof.Rows
/-- d[k], d a dict of the top with text keys -/
theorem ix_kd {X : Cx} {d : Addr} {es : Array DictEntry} {n : Nat} (D : KDict X.K X.w d es n) : IxR X (fun x y H Q => ∃ (z : Str) (u0 : Value) (v0 : V), x = .ref d ∧ y = .str z ∧ PySem.W.nsIn X.K d z = some (some u0) ∧ RelV v0 u0 ∧ Q v0 H) := by
  intro value slice pins s σ H x y v u Q I rx ry h hs
  have g := op_item_kd D pins s σ H x y v u Q I rx ry h
  obtain ⟨z, u0, v0, rfl, rfl, e, r, q⟩ := h
  cases rx
  exact tail_any (kd_type D I) PySem.F.slot_dict_getitem.lookup g hs
end L2
namespace K1
open PySem L2
/-! ### all([e for x, y in zip(xs, ys)]), two tuples -/
theorem all_zip {K : PySem.W.Frag} {σ : St} {H : Hp} {Q : VK} {i j : Nat} {a b : Addr} {xs ys : List V} {p : V → V → Bool} {ta : TA} {te : TE} {vs : List Nat} (hl : ∀ Q' : List V → Hp → Prop, Q' [.ref a, .ref b] H → ta σ H Q') (ha : ∀ H1, Same H H1 → SqT K H1 a xs) (hb : ∀ H1, Same H H1 → SqT K H1 b ys) (len : xs.length = ys.length)
    (few : xs.length < sizeLine) (hw : ∀ x y, wipe (((wipe σ vs).set i (some x)).set j (some y)) vs = wipe σ vs)
    (he : ∀ (k : Nat) (x y : V), xs[k]? = some x → ys[k]? = some y → ∀ H1, Same H H1 → ∀ Q' : VK, (∀ H2, Same H1 H2 → Q' (.bl (p x y)) H2) → te (((wipe σ vs).set i (some x)).set j (some y)) H1 Q')
    (k : ∀ H1, Same H H1 → Q (.bl ((xs.zip ys).all fun q => p q.1 q.2)) H1) :
    tCB (rAll K) (tCons (tLc (RZ.iZipA K ta) (gTup K 2 (gCons (gName i) (gCons (gName j) gNil))) tYes te vs) tNil) σ H Q := by
  refine hl _ ⟨a, b, xs, ys, rfl, .inr ⟨ha H (Same.refl H), hb H (Same.refl H), fun D hD => ?_⟩⟩
  have s0 : Same H (upd H D (.lst [])) := same_new (Same.refl _) hD
  have lz : (xs.zip ys).length = xs.length := by rw [List.length_zip]; omega
  refine ⟨fun n m H1 => m + n = xs.length ∧ Same H H1 ∧ H1 D = some (.lst (((xs.zip ys).take n).map fun q => V.bl (p q.1 q.2))), ⟨xs.length, by omega, s0, by rw [upd_same]; rfl⟩, ?_⟩
  rintro n m H1 ⟨hm, s1, e1⟩
  by_cases hlt : n < xs.length
  · have hx : xs[n]? = some xs[n] := List.getElem?_eq_getElem hlt
    have hy : ys[n]? = some (ys[n]'(by omega)) := List.getElem?_eq_getElem (by omega)
    have hz : (xs.zip ys)[n]? = some (xs[n], ys[n]'(by omega)) := by
      rw [List.getElem?_eq_getElem (by omega), List.getElem_zip]
    refine .inr ⟨⟨xs, ys, _, _, ha H1 s1, hb H1 s1, hx, hy⟩, fun H2 => Same H H2 ∧ H2 D = some (.lst (((xs.zip ys).take (n + 1)).map fun q => V.bl (p q.1 q.2))), fun H2 h2 => ⟨xs.length - (n + 1), by omega, by omega, h2⟩, fun v H2 y => ?_⟩
    obtain ⟨T, x, y, rfl, hT, rfl, q1, q2⟩ := y
    have ex := q1 xs (ha H1 s1)
    have ey := q2 ys (hb H1 s1)
    have s2 : Same H1 (upd H1 T (.tup [x, y])) := same_new (Same.refl _) hT
    refine pair_rd ⟨hw x y, ?_⟩
    unfold tYes
    dsimp only
    rw [if_pos rfl]
    refine he n x y ex ey _ (s1.trans s2) _ fun H3 s3 => ⟨_, s3 _ _ (s2 _ _ e1), ?_, fun b o e => ?_, ?_⟩
    · rw [List.length_map, List.length_take]
      omega
    · rw [upd_ne (ne_of_none e hD)]
      exact s3 _ _ (s2 _ _ (s1 b o e))
    · have ez : (xs.zip ys)[n]? = some (x, y) := by
        rw [hx] at ex
        rw [hy] at ey
        rw [hz, Option.some.inj ex, Option.some.inj ey]
      rw [upd_same, take_snoc ez, List.map_append]
      rfl
  · have en : n = xs.length := by omega
    subst en
    refine .inl ⟨⟨xs, ys, ha H1 s1, hb H1 s1, .inl (Nat.le_refl _)⟩, ?_⟩
    refine ⟨D, (xs.zip ys).map fun q => p q.1 q.2, rfl, SqL.of (by rw [e1, List.take_of_length_le (by omega), List.map_map]; rfl), ?_⟩
    rw [show ((xs.zip ys).map fun q => p q.1 q.2).all id = (xs.zip ys).all fun q => p q.1 q.2 by rw [List.all_map]; rfl]
    exact k _ s1
end K1

set_option Elab.async false
set_option linter.all false
set_option maxRecDepth 100000
set_option maxHeartbeats 4000000
namespace K1
open PySem L2
/-! ### fits_form -/
def forms : List (Str × List Str) := [("new", ["variable", "class"]), ("copy", ["variable", "variable"]), ("clear", ["variable"]), ("load", ["variable", "variable", "field"]), ("store", ["variable", "field", "variable"]), ("wipe", ["variable", "field"]), ("tag", ["variable", "name"]), ("emit", ["variable"]),
  ("weak", ["weak", "variable"]), ("get", ["variable", "weak"]), ("collect", ["level"]), ("ifnil", ["variable", "block", "block"]), ("ifsame", ["variable", "variable", "block", "block"]), ("repeat", ["times", "block"])]
structure Frm (w : World) (K : PySem.W.Frag) (mg : Str → Option Value) (fa : Addr) : Prop where
  g : mg "FORMS" = some (.ref fa)
  kd : ∃ es n, KDict K w fa es n
  has : ∀ s ws, forms.lookup s = some ws → ∃ t, PySem.W.nsIn K fa s = some (some (.ref t)) ∧ ∀ H, SqT K H t (ws.map V.str)
  no : ∀ s, forms.lookup s = none → PySem.W.nsIn K fa s = some none
theorem look_mem {α : Type} {s : Str} {r : α} : ∀ {cs : List (Str × α)}, cs.lookup s = some r → (s, r) ∈ cs
  | [], h => by cases h
  | (n, x) :: cs, h => by
    rw [List.lookup_cons] at h
    split at h
    · rename_i z
      cases h
      rw [show s = n by simpa using z]
      exact List.mem_cons_self
    · exact List.mem_cons_of_mem _ (look_mem h)
theorem forms_few {s : Str} {ws : List Str} (h : forms.lookup s = some ws) : ws.length ≤ 4 ∧ ws ≠ [] := by
  have : ∀ q ∈ forms, q.2.length ≤ 4 ∧ q.2 ≠ [] := by decide +kernel
  exact this (s, ws) (look_mem h)
theorem at_tup {H : Hp} {v : V} {d : PyData} (h : At H v d) : (∃ (a : Addr) (ys : List V) (es : List PyData), v = .ref a ∧ d = .tuple es ∧ H a = some (.tup ys) ∧ AtAll H ys es) ∨ (tupOf H v = none ∧ ∀ es, d ≠ .tuple es) := by
  cases h with
  | lst e t => exact .inr ⟨tupOf_lst e, fun _ z => by cases z⟩
  | tup e t => exact .inl ⟨_, _, _, rfl, rfl, e, t⟩
  | dic e => exact .inr ⟨tupOf_dic e, fun _ z => by cases z⟩
  | _ => exact .inr ⟨rfl, fun _ z => by cases z⟩
def kindsT (sc : Sco) (ws : List Str) (ds : List PyData) : Bool := decide (ds.length = ws.length) && (ws.zip ds).all fun q => fitsT sc q.1 q.2
def wordsT (sc : Sco) (s : Str) (ds : List PyData) (rep : Int) : Bool :=
  if s = "call" then callT sc ds rep else match forms.lookup s with
    | none => false
    | some ws => (decide (ds.length = ws.length) && !(decide (s = "repeat") && decide (rep = 3))) && (ws.zip ds).all fun q => fitsT sc q.1 q.2
def formT (sc : Sco) (d : PyData) (rep : Int) : Bool := match d with
  | .tuple (.str s :: ds) => wordsT sc s ds rep
  | _ => false
def spForm (C : Addr) : Sp := fun vs H Q _ => ∃ (v : V) (p : Addr) (d : PyData) (sc : Sco) (rep : Int), vs = [v, .ref p, .int rep] ∧ At H v d ∧ ScAt H C p sc ∧ (∀ z r, sc.cs.lookup z = some r → r.1 ≤ 100) ∧ ∀ H', Same H H' → Q (.bl (formT sc d rep)) H'
theorem form_not {sc : Sco} {d : PyData} {rep : Int} (h : ∀ es, d ≠ .tuple es) : formT sc d rep = false := by
  unfold formT
  split
  · exact absurd rfl (h _)
  · rfl
theorem form_str {sc : Sco} {e : PyData} {es : List PyData} {rep : Int} (h : ∀ z, e ≠ .str z) : formT sc (.tuple (e :: es)) rep = false := by
  unfold formT
  split
  · rename_i q
    cases q
    exact absurd rfl (h _)
  · rfl
theorem isS_at {H : Hp} {v : V} {d : PyData} (h : At H v d) : (isS v = true ∧ ∃ z, v = .str z ∧ d = .str z) ∨ (isS v = false ∧ ∀ z, d ≠ .str z) := by
  cases h with
  | str s _ => exact .inl ⟨rfl, s, rfl, rfl⟩
  | _ => exact .inr ⟨rfl, fun _ z => by cases z⟩
theorem sIx_one {n d : Nat} (h : 1 ≤ n) : HT.sIx n d (some 1) = 1 := by
  show (if (1 : Int) < 0 then ((1 : Int) + (n : Int)).toNat else min (1 : Int).toNat n) = 1
  rw [if_neg (by decide)]
  show min 1 n = 1
  omega
theorem cut_tail {y : V} {ys : List V} : cutV (y :: ys) (some 1) none = ys := by
  unfold cutV
  have e1 : HT.sIx (y :: ys).length 0 (some 1) = 1 := sIx_one (by rw [List.length_cons]; omega)
  have e2 : HT.sIx (y :: ys).length (y :: ys).length none = ys.length + 1 := rfl
  rw [e1, e2]
  show List.take (ys.length + 1 - 1) ys = ys
  simp
theorem zip_fits {H : Hp} {sc : Sco} : ∀ {vs : List V} {ds : List PyData}, AtAll H vs ds → ∀ ws : List Str, (((ws.map V.str).zip vs).all fun q => match q.1 with | .str kd => fitsV sc kd q.2 | _ => false) = (ws.zip ds).all fun q => fitsT sc q.1 q.2
  | _, _, .nil, ws => by cases ws <;> rfl
  | _, _, .cons h t, [] => rfl
  | _, _, .cons (v := v) (d := d) h t, k :: ws => by
    rw [List.map_cons, List.zip_cons_cons, List.zip_cons_cons, List.all_cons, List.all_cons, zip_fits t ws]
    show (fitsV sc k v && _) = (fitsT sc k d && _)
    rw [fits_at h]
abbrev ffN : List Str := ["statement", "scope", "repeats", "word", "words", "kinds", "kind", "value"]
section
variable {P : Program} {w : World} {K : PySem.W.Frag} {mg : Str → Option Value} {base : Heap}
theorem sc18 : FnScope ffN ["statement", "scope", "repeats"] (defScope (top 18)) := ⟨rfl, rfl, rfl, by decide +kernel, rfl, by decide +kernel, by decide +kernel⟩
theorem ok18 {f C fa : Addr} {fd : FuncData} {tR : Tok} (F : Fun K "fits_form" "fits_form" (top 18) f fd) (B : Blt mg) (zz : mg "zip" = none) (FM : Frm w K mg fa) (hR : mg "DEEPEST_REPEAT" = some (.int 3 tR)) (C17 : Cal P w K mg base CX0 4 "fits_call" ["words", "scope", "repeats"] (spCallF C))
    (C16 : Cal P w K mg base CX0 3 "fits" ["kind", "value", "scope"] (spFits C)) : FnOk P w K mg base CX0 5 f fd ["statement", "scope", "repeats"] (spForm C) := by
  refine F.ok sc18 (fun vs H Q E h => ?_) (fun cdv A outer s H vs Q E hr h => ?_)
  · obtain ⟨v, p, d, sc, rep, rfl, _⟩ := h
    rfl
  · obtain ⟨v, p, d, sc, rep, rfl, hd, hs, few, k⟩ := h
    have hu := hu_of hr
    obtain ⟨es, n, kd⟩ := FM.kd
    refine ⟨_, pss_mid (ps_if (PW.pt (pw_or (pt_not (pt_val (pt_isi B (pv 0) B.tuple PyProof.Rows.boot_tuple))) (pw_or1 (pt_cmpR op_eq (pe_callB call_len_seq rfl B.len PySem.boot_len (pa_cons (pv 0) pa_nil)) pe_int (nomark _))))) (pss_one (ps_ret pe_bl)) pss_nil)
      (pss_mid (ps_set (i := 3) sc18.nd rfl (Or.inl rfl) (pe_ix ix_tup (pv 0) pe_int (fun _ _ => rfl)))
      (pss_mid (ps_set (i := 4) sc18.nd rfl (Or.inl rfl) (pe_slice sl_tup (pv 0) (po_some pe_int) po_none))
      (pss_mid (ps_if (pt_not (pt_val (pt_isi B (pv 3) B.str PyProof.Rows.boot_str))) (pss_one (ps_ret pe_bl)) pss_nil)
      (pss_mid (ps_if (pt_cmpR op_eq (pv 3) pe_str (nomark _)) (pss_one (ps_ret (pe_cal C17 hr (by decide) pass0 (pa_cons (pv 4) (pa_cons (pv 1) (pa_cons (pv 2) pa_nil)))))) pss_nil)
      (pss_mid (ps_if (pt_cmpR (op_notIn_kd kd) (pv 3) (pe_glob (v := .ref fa) rfl FM.g rfl) rfl) (pss_one (ps_ret pe_bl)) pss_nil)
      (pss_mid (ps_set (i := 5) sc18.nd rfl (Or.inl rfl) (pe_ix (ix_kd kd) (pe_glob (v := .ref fa) rfl FM.g rfl) (pv 3) (fun _ _ => rfl)))
      (pss_mid (ps_if (pt_cmpR op_ne (pe_callB call_len_seq rfl B.len PySem.boot_len (pa_cons (pv 4) pa_nil)) (pe_callB call_len_seq rfl B.len PySem.boot_len (pa_cons (pv 5) pa_nil)) (nomark _)) (pss_one (ps_ret pe_bl)) pss_nil)
      (pss_mid (ps_if (PW.pt (pw_and (pt_cmpR op_eq (pv 3) pe_str (nomark _)) (pw_and1 (pt_cmpR op_eq (pv 2) (pe_glob (v := .int 3) rfl hR ⟨_, rfl⟩) (nomark _))))) (pss_one (ps_ret pe_bl)) pss_nil)
      (pss_one (ps_ret (pe_callB (cr_all rfl) rfl B.all PyProof.Rows.boot_all (pa_cons (pe_lc (own := [("kind", 6), ("value", 7)]) (g := gTup K 2 (gCons (gName 6) (gCons (gName 7) gNil))) (tt := tYes) rfl sc18.nd (RZ.pi_zipA rfl zz (pa_cons (pv 5) (pa_cons (pv 4) pa_nil))) (blkOk_by (N := ffN) (sc := defScope (top 18)) (by decide +kernel))
        (fun _ _ _ _ _ => pg_tup rfl (pgs_cons (pg_name (i := 6) sc18.nd rfl (Or.inl rfl)) (pgs_cons (pg_name (i := 7) sc18.nd rfl (Or.inl rfl)) pgs_nil))) (fun _ _ _ _ _ => pts_nil) (fun _ _ _ _ _ => pe_cal C16 hr (by decide) pass0 (pa_cons (pv 6) (pa_cons (pv 7) (pa_cons (pv 1) pa_nil))))) pa_nil))))))))))))  , ?_⟩
    have no : ∀ H1, Same H H1 → formT sc d rep = false → Q (.bl false) H1 := fun H1 s1 e => by
      have q := k H1 s1
      rw [e] at q
      exact q
    -- a tuple of some words
    refine ⟨fun σ H1 => σ = [some v, some (.ref p), some (.int rep), none, none, none, none, none] ∧ H1 = H ∧ ∃ (a : Addr) (y : V) (ys : List V) (e : PyData) (es : List PyData), v = .ref a ∧ d = .tuple (e :: es) ∧ H a = some (.tup (y :: ys)) ∧ At H y e ∧ AtAll H ys es, ?_, ?_⟩
    · refine isi_rd rfl (ans_tup hd.dat) ⟨_, rfl, ?_⟩
      rcases at_tup hd with ⟨a, ys, es', rfl, rfl, hy, hys⟩ | ⟨hn, hno⟩
      · rw [tupOf_of hy]
        refine iteF ?_
        refine ⟨_, rfl, a, ys, rfl, .inr (SqT.of hy), rfl, _, rfl, ?_⟩
        cases hys with
        | nil => exact iteT (no H (Same.refl H) rfl)
        | cons h1 t1 =>
          refine ite2 (fun c => ?_) (fun c => ?_)
          · have e := of_decide_eq_true c
            injection e with e
            rw [List.length_cons] at e
            omega
          · exact ⟨rfl, rfl, a, _, _, _, _, rfl, rfl, hy, h1, t1⟩
      · rw [hn]
        refine iteT ?_
        exact iteT (no H (Same.refl H) (form_not hno))
    rintro σ H1 ⟨rfl, rfl, a, y, ys, e, es, rfl, rfl, hy, h1, t1⟩
    -- word, words
    refine ⟨fun σ H2 => σ = [some (.ref a), some (.ref p), some (.int rep), some y, none, none, none, none] ∧ H2 = H1, ⟨_, rfl, a, _, 0, y, rfl, rfl, SqT.of hy, atI_nat (j := 0) rfl, rfl, rfl⟩, ?_⟩
    rintro σ H2 ⟨rfl, rfl⟩
    refine ⟨fun σ H3 => ∃ q, σ = [some (.ref a), some (.ref p), some (.int rep), some y, some (.ref q), none, none, none] ∧ Same H2 H3 ∧ H3 q = some (.tup ys), ?_, ?_⟩
    · refine ⟨_, rfl, 1, rfl, a, _, rfl, SqT.of hy, ?_, fun q nq => ⟨q, rfl, same_new (Same.refl _) nq, ?_⟩⟩
      · rintro ⟨z, _⟩
        rw [sIx_one (by rw [List.length_cons]; omega)] at z
        cases z
      · rw [upd_same, cut_tail]
    rintro σ H3 ⟨q, rfl, s3, hq⟩
    -- a text
    refine ⟨fun σ H4 => σ = [some (.ref a), some (.ref p), some (.int rep), some y, some (.ref q), none, none, none] ∧ H4 = H3 ∧ ∃ z, y = .str z ∧ e = .str z, ?_, ?_⟩
    · refine isi_rd rfl (ans_str (h1.dat.mono s3)) ⟨_, rfl, ?_⟩
      rcases isS_at h1 with ⟨e1, z, e2, e3⟩ | ⟨e1, e2⟩
      · rw [e1]
        exact iteF ⟨rfl, rfl, z, e2, e3⟩
      · rw [e1]
        exact iteT (no H3 s3 (form_str e2))
    rintro σ H4 ⟨rfl, rfl, z, rfl, rfl⟩
    have k : ∀ H', Same H4 H' → Q (.bl (wordsT sc z es rep)) H' := fun H' s' => k H' (s3.trans s')
    have hs4 := hs.mono s3
    have t4 := t1.mono s3
    clear no
    have st : ∀ {x y : Str}, V.str x = V.str y ↔ x = y := fun {x y} => ⟨fun e => by cases e; rfl, fun e => by rw [e]⟩
    -- a call
    refine ⟨fun σ H5 => σ = [some (.ref a), some (.ref p), some (.int rep), some (.str z), some (.ref q), none, none, none] ∧ H5 = H4 ∧ z ≠ "call", ?_, ?_⟩
    · refine ⟨_, rfl, rfl, _, rfl, ?_⟩
      refine ite2 (fun c => ?_) (fun c => ?_)
      · have ez := st.mp (of_decide_eq_true c)
        refine ⟨_, rfl, _, rfl, _, rfl, q, p, ys, es, sc, rep, rfl, hq, t4, hs4, few, fun H' s' => ?_⟩
        have w1 := k H' s'
        unfold wordsT at w1
        rw [if_pos ez] at w1
        exact w1
      · exact ⟨rfl, rfl, fun e => c (decide_eq_true (st.mpr e))⟩
    rintro σ H5 ⟨rfl, rfl, nc⟩
    unfold wordsT at k
    rw [if_neg nc] at k
    -- a form
    refine ⟨fun σ H6 => σ = [some (.ref a), some (.ref p), some (.int rep), some (.str z), some (.ref q), none, none, none] ∧ H6 = H5 ∧ ∃ ws, forms.lookup z = some ws, ?_, ?_⟩
    · cases hf : forms.lookup z with
      | none =>
        refine ⟨_, rfl, z, none, rfl, rfl, FM.no z hf, _, rfl, ?_⟩
        refine iteT ?_
        have w1 := k H5 (Same.refl _)
        rw [hf] at w1
        exact w1
      | some ws =>
        obtain ⟨t, ht, _⟩ := FM.has z ws hf
        refine ⟨_, rfl, z, _, rfl, rfl, ht, _, rfl, ?_⟩
        exact iteF ⟨rfl, rfl, ws, rfl⟩
    rintro σ H6 ⟨rfl, rfl, ws, hf⟩
    rw [hf] at k
    obtain ⟨t, ht, hw⟩ := FM.has z ws hf
    obtain ⟨w4, wn⟩ := forms_few hf
    have k : ∀ H', Same H6 H' → Q (.bl ((decide (es.length = ws.length) && !(decide (z = "repeat") && decide (rep = 3))) && (ws.zip es).all fun q => fitsT sc q.1 q.2)) H' := k
    -- kinds
    refine ⟨fun σ H7 => σ = [some (.ref a), some (.ref p), some (.int rep), some (.str z), some (.ref q), some (.ref t), none, none] ∧ H7 = H6, ⟨_, rfl, z, .ref t, .ref t, rfl, rfl, ht, rfl, rfl, rfl⟩, ?_⟩
    rintro σ H7 ⟨rfl, rfl⟩
    -- as many
    refine ⟨fun σ H8 => σ = [some (.ref a), some (.ref p), some (.int rep), some (.str z), some (.ref q), some (.ref t), none, none] ∧ H8 = H7 ∧ es.length = ws.length, ?_, ?_⟩
    · refine ⟨_, rfl, q, ys, rfl, .inr (SqT.of hq), _, rfl, t, _, rfl, .inr (hw H7), rfl, _, rfl, ?_⟩
      rw [List.length_map, t4.len]
      refine ite2 (fun c => ?_) (fun c => ?_)
      · have ne : ¬ es.length = ws.length := fun e => by
          rw [e, decide_eq_true rfl] at c
          cases c
        have w1 := k H7 (Same.refl _)
        rw [decide_eq_false ne, Bool.false_and, Bool.false_and] at w1
        exact w1
      · refine ⟨rfl, rfl, ?_⟩
        cases zz : decide (V.int (es.length : Int) = V.int (ws.length : Int)) with
        | true =>
          have e := of_decide_eq_true zz
          injection e with e
          omega
        | false => rw [zz] at c; exact absurd rfl c
    rintro σ H8 ⟨rfl, rfl, el⟩
    rw [decide_eq_true el, Bool.true_and] at k
    -- repeats
    refine ⟨fun σ H9 => σ = [some (.ref a), some (.ref p), some (.int rep), some (.str z), some (.ref q), some (.ref t), none, none] ∧ H9 = H8 ∧ (decide (z = "repeat") && decide (rep = 3)) = false, ?_, ?_⟩
    · refine ⟨_, rfl, rfl, _, rfl, ?_⟩
      by_cases er : z = "repeat"
      · rw [decide_eq_true (st.mpr er)]
        refine iteT ?_
        refine ⟨_, rfl, rfl, _, rfl, ?_⟩
        by_cases e3 : rep = 3
        · rw [decide_eq_true (show V.int rep = V.int 3 by rw [e3])]
          refine iteT ?_
          have w1 := k H8 (Same.refl _)
          rw [decide_eq_true er, decide_eq_true e3] at w1
          exact w1
        · rw [decide_eq_false (show ¬ V.int rep = V.int 3 from fun e => by injection e with e; exact e3 e)]
          refine iteF ⟨rfl, rfl, ?_⟩
          rw [decide_eq_false e3, Bool.and_false]
      · rw [decide_eq_false (fun e => er (st.mp e))]
        refine iteF ?_
        refine iteF ⟨rfl, rfl, ?_⟩
        rw [decide_eq_false er, Bool.false_and]
    rintro σ H9 ⟨rfl, rfl, en⟩
    rw [en, Bool.not_false, Bool.true_and] at k
    -- each word is of its kind
    refine all_zip (p := fun x v => match x with | .str kd => fitsV sc kd v | _ => false) (fun Q' w1 => ⟨_, rfl, _, rfl, w1⟩) (fun H1 _ => hw H1) (fun H1 s1 => SqT.of (s1 _ _ hq)) (by rw [List.length_map, t4.len, el]) (by rw [List.length_map]; exact Nat.lt_of_le_of_lt w4 (by decide)) (fun x y => rfl) (fun i x y hx hy H1 s1 Q' w1 => ?_) (fun H1 s1 => ?_)
    · rw [List.getElem?_map] at hx
      cases e : ws[i]? with
      | none =>
        rw [e] at hx
        cases hx
      | some kd =>
        rw [e] at hx
        cases hx
        obtain ⟨d1, _, ad⟩ := t4.get hy
        exact ⟨_, rfl, _, rfl, _, rfl, kd, y, p, sc, rfl, (ad.mono s1).dat, hs4.mono s1, fun H2 s2 => w1 H2 s2⟩
    · rw [zip_fits t4 ws]
      exact k H1 s1
end
end K1

set_option Elab.async false
set_option linter.all false
set_option maxRecDepth 100000
set_option maxHeartbeats 4000000
namespace K1
open PySem L2
/-! ### depth_of -/
def callDp (sc : Sco) (es : List PyData) : Int := match es with
  | [_, n, _] => (match n with
    | .str s => (match sc.cs.lookup s with
      | some r => r.2.2
      | none => 0)
    | _ => 0)
  | _ => 0
def depthT (sc : Sco) (s : Str) (es : List PyData) (rep : Int) : Int := if s = "repeat" then rep + 1 else if s = "call" then rep + callDp sc es else rep
theorem callT_is {sc : Sco} {es : List PyData} {rep : Int} (h : callT sc es rep = true) : ∃ t z a m b dp, es = [t, .str z, a] ∧ sc.cs.lookup z = some (m, b, dp) := by
  match es, h with
  | [], h => cases h
  | [_], h => cases h
  | [_, _], h => cases h
  | [t, n, a], h =>
    have h : callN sc t n a rep = true := h
    cases n with
    | str z =>
      unfold callN at h
      dsimp only at h
      cases q : sc.cs.lookup z with
      | none =>
        rw [q] at h
        cases h
      | some r => exact ⟨t, z, a, r.1, r.2.1, r.2.2, rfl, q⟩
    | _ => cases h
  | _ :: _ :: _ :: _ :: _, h => cases h
def spDepth (C : Addr) : Sp := fun vs H Q _ => ∃ (a p : Addr) (s : Str) (ys : List V) (es : List PyData) (sc : Sco) (rep : Int), vs = [.ref a, .ref p, .int rep] ∧ H a = some (.tup (.str s :: ys)) ∧ AtAll H ys es ∧ ScAt H C p sc ∧ wordsT sc s es rep = true ∧ Q (.int (depthT sc s es rep)) H
section
variable {P : Program} {w : World} {K : PySem.W.Frag} {mg : Str → Option Value} {base : Heap}
theorem str_iff {x y : Str} : V.str x = V.str y ↔ x = y := ⟨fun e => by cases e; rfl, fun e => by rw [e]⟩
theorem sc19 : FnScope ["statement", "scope", "repeats"] ["statement", "scope", "repeats"] (defScope (top 19)) := ⟨rfl, rfl, rfl, by decide +kernel, rfl, by decide +kernel, by decide +kernel⟩
theorem ok19 {f C : Addr} {fd : FuncData} (F : Fun K "depth_of" "depth_of" (top 19) f fd) (T : NoS K C) : FnOk P w K mg base CX0 1 f fd ["statement", "scope", "repeats"] (spDepth C) := by
  refine F.ok sc19 (fun vs H Q E h => ?_) (fun cdv A outer s H vs Q E hr h => ?_)
  · obtain ⟨a, p, s, ys, es, sc, rep, rfl, _⟩ := h
    rfl
  · obtain ⟨a, p, z, ys, es, sc, rep, rfl, ha, hys, hs, ok, k⟩ := h
    have hu := hu_of hr
    obtain ⟨dx, a1, a2, a3, a4, a6, hp, h1, h2, h3, h4, h6⟩ := hs.ex
    refine ⟨_, pss_mid (ps_if (pt_cmpR op_eq (pe_ix ix_tup (pv 0) pe_int (fun _ _ => rfl)) pe_str (nomark _)) (pss_one (ps_ret (pe_op op_add (pv 2) pe_int))) pss_nil)
      (pss_mid (ps_if (pt_cmpR op_eq (pe_ix ix_tup (pv 0) pe_int (fun _ _ => rfl)) pe_str (nomark _)) (pss_one (ps_ret (pe_op op_add (pv 2) (pe_ix ix_tup (pe_dget hu (pe_fld (pv 1) rfl) (pe_ix ix_tup (pv 0) pe_int (fun _ _ => rfl)) (fun _ _ => rfl)) pe_int (fun _ _ => rfl))))) pss_nil)
      (pss_one (ps_ret (pv 2)))), ?_⟩
    unfold depthT at k
    refine ⟨fun σ H1 => σ = [some (.ref a), some (.ref p), some (.int rep)] ∧ H1 = H ∧ z ≠ "repeat", ?_, ?_⟩
    · refine ⟨_, rfl, a, _, 0, _, rfl, rfl, SqT.of ha, atI_nat (j := 0) rfl, rfl, _, rfl, ?_⟩
      refine ite2 (fun c => ?_) (fun c => ?_)
      · rw [if_pos (str_iff.mp (of_decide_eq_true c))] at k
        exact ⟨_, rfl, _, _, rfl, rfl, k⟩
      · exact ⟨rfl, rfl, fun e => c (decide_eq_true (str_iff.mpr e))⟩
    rintro σ H1 ⟨rfl, rfl, n1⟩
    rw [if_neg n1] at k
    refine ⟨fun σ H2 => σ = [some (.ref a), some (.ref p), some (.int rep)] ∧ H2 = H1 ∧ z ≠ "call", ?_, ?_⟩
    · refine ⟨_, rfl, a, _, 0, _, rfl, rfl, SqT.of ha, atI_nat (j := 0) rfl, rfl, _, rfl, ?_⟩
      refine ite2 (fun c => ?_) (fun c => ?_)
      · have ez := str_iff.mp (of_decide_eq_true c)
        rw [if_pos ez] at k
        unfold wordsT at ok
        rw [if_pos ez] at ok
        obtain ⟨t, nm, ar, m, b, dp, rfl, hl⟩ := callT_is ok
        match ys, hys with
        | [x0, x1, x2], .cons at0 (.cons at1 (.cons at2 .nil)) =>
        obtain rfl := at_str at1
        obtain ⟨kvs, hk, hv⟩ := id h6
        have hv := hv nm
        rw [hl] at hv
        obtain ⟨tt, hv, htt⟩ := hv
        refine ⟨_, rfl, _, rfl, p, C, dx, _, _, rfl, hp, T.cl, T.n6, sc_f6 _ _ _ _ _ _, _, rfl, a, _, 2, .str nm, rfl, rfl, SqT.of ha, rfl, a6, .ref tt, rfl, ?_, tt, _, 2, .int dp, rfl, rfl, SqT.of htt, rfl, _, _, rfl, rfl, ?_⟩
        · rw [← hv]
          exact DGet.k (k := Sum.inr nm) hk
        · have e : callDp sc [t, .str nm, ar] = dp := by
            unfold callDp
            dsimp only
            rw [hl]
          rw [e] at k
          exact k
      · exact ⟨rfl, rfl, fun e => c (decide_eq_true (str_iff.mpr e))⟩
    rintro σ H2 ⟨rfl, rfl, n2⟩
    rw [if_neg n2] at k
    exact ⟨_, rfl, k⟩
theorem none_of' {H H1 : Hp} {a : Addr} (s : Same H H1) (h : H1 a = none) : H a = none := by
  cases e : H a with
  | none => rfl
  | some o => rw [s _ _ e] at h; cases h
/-! ### blocks_of -/
def blkV {α : Type} (s : Str) (ys : List α) : List (α × List Int) :=
  if s = "repeat" then (match ys with
    | [_, b] => [(b, [])]
    | _ => [])
  else if s = "ifnil" then (match ys with
    | [_, a, b] => [(b, [1]), (a, [0])]
    | _ => [])
  else if s = "ifsame" then (match ys with
    | [_, _, a, b] => [(b, [1]), (a, [0])]
    | _ => [])
  else []
def BlkAt (H0 H : Hp) (pp : List Int) (t : V) (q : V × List Int) : Prop := ∃ (u pl : Addr), t = .ref u ∧ H0 u = none ∧ H u = some (.tup [q.1, .ref pl]) ∧ H pl = some (.tup ((pp ++ q.2).map V.int))
def spBlocks : Sp := fun vs H Q _ => ∃ (a pl : Addr) (s : Str) (ys : List V) (pp : List Int), vs = [.ref a, .ref pl] ∧ H a = some (.tup (.str s :: ys)) ∧ H pl = some (.tup (pp.map V.int)) ∧ pp ≠ [] ∧ pp.length ≤ 1000 ∧ (∀ ws, forms.lookup s = some ws → ys.length = ws.length) ∧
  ∀ (q : Addr) (H' : Hp) (ts : List V), Same H H' → H q = none → H' q = some (.lst ts) → Paired (BlkAt H H' pp) ts (blkV s ys) → Q (.ref q) H'
theorem one_blk {H0 H : Hp} {pp : List Int} {z : Str} {ys : List V} {pl u : Addr} {b : V} (e : blkV z ys = [(b, [])]) (n : H0 u = none) (h : H u = some (.tup [b, .ref pl])) (hp : H pl = some (.tup (pp.map V.int))) : Paired (BlkAt H0 H pp) [.ref u] (blkV z ys) := by
  rw [e]
  exact .cons ⟨u, pl, rfl, n, h, by rw [List.append_nil]; exact hp⟩ .nil
theorem two_rd {σ : St} {H : Hp} {Q : VK} {a pl : Addr} {z : Str} {ys : List V} {pp : List Int} {b0 a0 : V} (e0 : σ[0]? = some (some (.ref a))) (e1 : σ[1]? = some (some (.ref pl))) (ha : H a = some (.tup (.str z :: ys))) (hpl : H pl = some (.tup (pp.map V.int))) (np : pp ≠ []) (pf : pp.length ≤ 1000)
    (hb : atI (V.str z :: ys) (-1) = some b0) (hc : atI (V.str z :: ys) (-2) = some a0) (eb : blkV z ys = [(b0, [1]), (a0, [0])]) (k : ∀ (q : Addr) (H' : Hp) (ts : List V), Same H H' → H q = none → H' q = some (.lst ts) → Paired (BlkAt H H' pp) ts (blkV z ys) → Q (.ref q) H') :
    tLst (tCons (tTup (tCons (tOp (rIxT K) (tVar 0) (tUn (rU fun i => V.int (-i)) (tC (V.int 1)))) (tCons (tOp (rCatT K) (tVar 1) (tTup (tCons (tC (V.int 1)) tNil))) tNil))) (tCons (tTup (tCons (tOp (rIxT K) (tVar 0) (tUn (rU fun i => V.int (-i)) (tC (V.int 2)))) (tCons (tOp (rCatT K) (tVar 1) (tTup (tCons (tC (V.int 0)) tNil))) tNil))) tNil)) σ H Q := by
  have big : 1001 ≤ sizeLine := by decide
  have nmap : pp.map V.int ≠ [] := fun e => np (List.map_eq_nil_iff.mp e)
  refine ⟨_, e0, 1, rfl, a, _, _, b0, rfl, rfl, SqT.of ha, hb, _, e1, by show 1 ≤ sizeLine; decide, fun t1 n1 => ?_⟩
  have s1 := same_new (o := .tup [.int 1]) (Same.refl H) n1
  refine ⟨pl, t1, _, _, rfl, rfl, SqT.of (s1 _ _ hpl), SqT.of upd_same, nmap, by rw [List.length_map, List.length_singleton]; omega, fun z => (by cases z), fun _ p1 m1 => ?_⟩
  have s2 := same_new (o := .tup (pp.map V.int ++ [.int 1])) s1 m1
  refine ⟨by show 2 ≤ sizeLine; decide, fun u1 v1 => ?_⟩
  have s3 := same_new (o := .tup [b0, .ref p1]) s2 v1
  refine ⟨_, e0, 2, rfl, a, _, _, a0, rfl, rfl, SqT.of (s3 _ _ ha), hc, _, e1, by show 1 ≤ sizeLine; decide, fun t2 n2 => ?_⟩
  have s4 := same_new (o := .tup [.int 0]) s3 n2
  refine ⟨pl, t2, _, _, rfl, rfl, SqT.of (s4 _ _ hpl), SqT.of upd_same, nmap, by rw [List.length_map, List.length_singleton]; omega, fun z => (by cases z), fun _ p2 m2 => ?_⟩
  have s5 := same_new (o := .tup (pp.map V.int ++ [.int 0])) s4 m2
  refine ⟨by show 2 ≤ sizeLine; decide, fun u2 v2 => ?_⟩
  have s6 := same_new (o := .tup [a0, .ref p2]) s5 v2
  refine ⟨by show 2 ≤ sizeLine; decide, fun q nq => ?_⟩
  have s7 := same_new (o := .lst [.ref u1, .ref u2]) s6 nq
  have f3 : Same _ _ := ((((same_new (o := .tup [.int 0]) (Same.refl _) n2).trans (same_new (o := .tup (pp.map V.int ++ [.int 0])) (Same.refl _) m2)).trans (same_new (o := .tup [a0, .ref p2]) (Same.refl _) v2)).trans (same_new (o := .lst [.ref u1, .ref u2]) (Same.refl _) nq))
  refine k q _ [.ref u1, .ref u2] s7 (none_of' s6 nq) upd_same ?_
  rw [eb]
  refine .cons ⟨u1, p1, rfl, none_of' s2 v1, f3 _ _ upd_same, ?_⟩ (.cons ⟨u2, p2, rfl, none_of' s5 v2, ?_, ?_⟩ .nil)
  · rw [List.map_append]
    exact f3 _ _ (same_new (o := .tup [b0, .ref p1]) (Same.refl _) v1 _ _ upd_same)
  · exact same_new (o := .lst [.ref u1, .ref u2]) (Same.refl _) nq _ _ upd_same
  · rw [List.map_append]
    exact ((same_new (o := .tup [a0, .ref p2]) (Same.refl _) v2).trans (same_new (o := .lst [.ref u1, .ref u2]) (Same.refl _) nq)) _ _ upd_same
theorem sc20 : FnScope ["statement", "place"] ["statement", "place"] (defScope (top 20)) := ⟨rfl, rfl, rfl, by decide +kernel, rfl, by decide +kernel, by decide +kernel⟩
theorem ok20 {f : Addr} {fd : FuncData} (F : Fun K "blocks_of" "blocks_of" (top 20) f fd) : FnOk P w K mg base CX0 1 f fd ["statement", "place"] spBlocks := by
  refine F.ok sc20 (fun vs H Q E h => ?_) (fun cdv A outer s H vs Q E hr h => ?_)
  · obtain ⟨a, pl, z, ys, pp, rfl, _⟩ := h
    rfl
  · obtain ⟨a, pl, z, ys, pp, rfl, ha, hpl, np, pf, hw, k⟩ := h
    refine ⟨_, pss_mid (ps_if (pt_cmpR op_eq (pe_ix ix_tup (pv 0) pe_int (fun _ _ => rfl)) pe_str (nomark _)) (pss_one (ps_ret (pe_lst (pa_cons (pe_tup (pa_cons (pe_ix ix_tup (pv 0) pe_int (fun _ _ => rfl)) (pa_cons (pv 1) pa_nil))) pa_nil)))) pss_nil)
      (pss_mid (ps_if (PW.pt (pw_or (pt_cmpR op_eq (pe_ix ix_tup (pv 0) pe_int (fun _ _ => rfl)) pe_str (nomark _)) (pw_or1 (pt_cmpR op_eq (pe_ix ix_tup (pv 0) pe_int (fun _ _ => rfl)) pe_str (nomark _)))))
        (pss_one (ps_ret (pe_lst (pa_cons (pe_tup (pa_cons (pe_ix ix_tup (pv 0) (pe_un un_neg pe_int) (fun _ _ => rfl)) (pa_cons (pe_op op_catT (pv 1) (pe_tup (pa_cons pe_int pa_nil))) pa_nil))) (pa_cons (pe_tup (pa_cons (pe_ix ix_tup (pv 0) (pe_un un_neg pe_int) (fun _ _ => rfl)) (pa_cons (pe_op op_catT (pv 1) (pe_tup (pa_cons pe_int pa_nil))) pa_nil))) pa_nil))))) pss_nil)
      (pss_one (ps_ret (pe_lst pa_nil)))), ?_⟩
    refine ⟨fun σ H1 => σ = [some (.ref a), some (.ref pl)] ∧ H1 = H ∧ z ≠ "repeat", ?_, ?_⟩
    · refine ⟨_, rfl, a, _, 0, _, rfl, rfl, SqT.of ha, atI_nat (j := 0) rfl, rfl, _, rfl, ?_⟩
      refine ite2 (fun c => ?_) (fun c => ?_)
      · have ez := str_iff.mp (of_decide_eq_true c)
        have l2 := hw ["times", "block"] (by rw [ez]; decide +kernel)
        match ys, l2 with
        | [y0, y1], _ =>
        refine ⟨_, rfl, a, _, 2, y1, rfl, rfl, SqT.of ha, rfl, _, rfl, by show 2 ≤ sizeLine; decide, fun u nu => ⟨by show 1 ≤ sizeLine; decide, fun q nq => ?_⟩⟩
        have s1 := same_new (o := .tup [y1, .ref pl]) (Same.refl H) nu
        have s2 := same_new (o := .lst [.ref u]) s1 nq
        refine k q _ [.ref u] s2 (none_of' s1 nq) upd_same (one_blk (pl := pl) (b := y1) ?_ nu (same_new (o := .lst [.ref u]) (Same.refl _) nq _ _ upd_same) (s2 _ _ hpl))
        unfold blkV
        rw [if_pos ez]
      · exact ⟨rfl, rfl, fun e => c (decide_eq_true (str_iff.mpr e))⟩
    rintro σ H1 ⟨rfl, rfl, n1⟩
    refine ⟨fun σ H2 => σ = [some (.ref a), some (.ref pl)] ∧ H2 = H1 ∧ z ≠ "ifnil" ∧ z ≠ "ifsame", ?_, ?_⟩
    · refine ⟨_, rfl, a, _, 0, _, rfl, rfl, SqT.of ha, atI_nat (j := 0) rfl, rfl, _, rfl, ?_⟩
      refine ite2 (fun c => ?_) (fun c => ?_)
      · have ez := str_iff.mp (of_decide_eq_true c)
        have l3 := hw ["variable", "block", "block"] (by rw [ez]; decide +kernel)
        match ys, l3 with
        | [y0, y1, y2], _ =>
        refine iteT ?_
        refine two_rd (b0 := y2) (a0 := y1) rfl rfl ha hpl np pf rfl rfl ?_ k
        unfold blkV
        rw [if_neg n1, if_pos ez]
      · refine ⟨_, rfl, a, _, 0, _, rfl, rfl, SqT.of ha, atI_nat (j := 0) rfl, rfl, _, rfl, ?_⟩
        refine ite2 (fun c2 => ?_) (fun c2 => ?_)
        · have ez := str_iff.mp (of_decide_eq_true c2)
          have l4 := hw ["variable", "variable", "block", "block"] (by rw [ez]; decide +kernel)
          match ys, l4 with
          | [y0, y1, y2, y3], _ =>
          refine two_rd (b0 := y3) (a0 := y2) rfl rfl ha hpl np pf rfl rfl ?_ k
          unfold blkV
          rw [if_neg n1, if_neg (fun e => c (decide_eq_true (str_iff.mpr e))), if_pos ez]
        · exact ⟨rfl, rfl, fun e => c (decide_eq_true (str_iff.mpr e)), fun e => c2 (decide_eq_true (str_iff.mpr e))⟩
    rintro σ H2 ⟨rfl, rfl, n2, n3⟩
    refine ⟨Nat.zero_le _, fun q nq => k q _ [] (same_new (Same.refl _) nq) nq upd_same ?_⟩
    unfold blkV
    rw [if_neg n1, if_neg n2, if_neg n3]
    exact .nil
end
end K1

set_option Elab.async false
set_option linter.all false
set_option maxRecDepth 100000
set_option maxHeartbeats 4000000
namespace K1
open PySem L2
/-! ### survey, as a run over trees -/
structure Fr where
  blk : PyData
  ahead : List Int
  nested : Nat
  rep : Int
  index : Nat
abbrev Sv : Type := Option (List Int) × Int × Int
inductive Nxt where
  | fin (r : Sv)
  | go (ws : List Fr) (many depth : Int)
/-- the frames of a statement's blocks, the first one on top -/
def pushT (s : Str) (es : List PyData) (place : List Int) (nested : Nat) (rep : Int) : List Fr := ((blkV s es).map fun q => (⟨q.1, place ++ q.2, nested + 1, if s = "repeat" then rep + 1 else rep, 0⟩ : Fr)).reverse
def wordsStep (sc : Sco) (w : Fr) (r : List Fr) (many depth : Int) (s : Str) (es : List PyData) : Nxt :=
  if wordsT sc s es w.rep = true then
    .go (pushT s es (w.ahead ++ [(w.index : Int)]) w.nested w.rep ++ { w with index := w.index + 1 } :: r) (many + 1) (if depthT sc s es w.rep > depth then depthT sc s es w.rep else depth)
  else .fin (some (w.ahead ++ [(w.index : Int)]), many, depth)
def stStep (sc : Sco) (w : Fr) (r : List Fr) (many depth : Int) (d : PyData) : Nxt := match d with
  | .tuple (.str s :: es) => wordsStep sc w r many depth s es
  | _ => .fin (some (w.ahead ++ [(w.index : Int)]), many, depth)
def stepT (sc : Sco) (w : Fr) (r : List Fr) (many depth : Int) : Nxt :=
  if w.nested > 60 then .go r (many + 61) depth
  else match w.blk with
    | .list ds => (match ds[w.index]? with
      | none => .go r many depth
      | some d => stStep sc w r many depth d)
    | _ => .fin (some w.ahead, many, depth)
def runT (sc : Sco) : Nat → List Fr → Int → Int → Option Sv
  | _, [], many, depth => some (none, many, depth)
  | 0, _ :: _, _, _ => none
  | n + 1, w :: r, many, depth => match stepT sc w r many depth with
    | .fin x => some x
    | .go ws many depth => runT sc n ws many depth
theorem runT_nil {sc : Sco} {n : Nat} {many depth : Int} : runT sc n [] many depth = some (none, many, depth) := by
  cases n <;> rfl
theorem runT_fin {sc : Sco} {m : Nat} {w : Fr} {r : List Fr} {many depth : Int} {x res : Sv} (h : runT sc (m + 1) (w :: r) many depth = some res) (e : stepT sc w r many depth = .fin x) : res = x := by
  unfold runT at h
  rw [e] at h
  exact (Option.some.inj h).symm
theorem runT_go {sc : Sco} {m : Nat} {w : Fr} {r ws : List Fr} {many depth many' depth' : Int} {res : Sv} (h : runT sc (m + 1) (w :: r) many depth = some res) (e : stepT sc w r many depth = .go ws many' depth') : runT sc m ws many' depth' = some res := by
  unfold runT at h
  rw [e] at h
  exact h
theorem step_deep {sc : Sco} {w : Fr} {r : List Fr} {many depth : Int} (h : w.nested > 60) : stepT sc w r many depth = .go r (many + 61) depth := by
  unfold stepT
  rw [if_pos h]
theorem step_not {sc : Sco} {w : Fr} {r : List Fr} {many depth : Int} (h : ¬ w.nested > 60) (n : ∀ ds, w.blk ≠ .list ds) : stepT sc w r many depth = .fin (some w.ahead, many, depth) := by
  unfold stepT
  rw [if_neg h]
  split
  · rename_i e
    exact absurd e (n _)
  · rfl
theorem step_end {sc : Sco} {w : Fr} {r : List Fr} {many depth : Int} {ds : List PyData} (h : ¬ w.nested > 60) (e : w.blk = .list ds) (n : ds[w.index]? = none) : stepT sc w r many depth = .go r many depth := by
  unfold stepT
  rw [if_neg h, e]
  show (match ds[w.index]? with | none => Nxt.go r many depth | some d => stStep sc w r many depth d) = _
  rw [n]
theorem step_st {sc : Sco} {w : Fr} {r : List Fr} {many depth : Int} {ds : List PyData} {d : PyData} (h : ¬ w.nested > 60) (e : w.blk = .list ds) (n : ds[w.index]? = some d) : stepT sc w r many depth = stStep sc w r many depth d := by
  unfold stepT
  rw [if_neg h, e]
  show (match ds[w.index]? with | none => Nxt.go r many depth | some d => stStep sc w r many depth d) = _
  rw [n]
theorem st_bad {sc : Sco} {w : Fr} {r : List Fr} {many depth : Int} {d : PyData} (h : formT sc d w.rep = false) : stStep sc w r many depth d = .fin (some (w.ahead ++ [(w.index : Int)]), many, depth) := by
  unfold stStep
  split
  · rename_i s es
    have h : wordsT sc s es w.rep = false := h
    unfold wordsStep
    rw [if_neg (by rw [h]; exact Bool.false_ne_true)]
  · rfl
theorem st_good {sc : Sco} {w : Fr} {d : PyData} (h : formT sc d w.rep = true) : ∃ s es, d = .tuple (.str s :: es) ∧ wordsT sc s es w.rep = true := by
  unfold formT at h
  split at h
  · exact ⟨_, _, rfl, h⟩
  · cases h
theorem at_lst2 {H : Hp} {v : V} {d : PyData} (h : At H v d) : (∃ (a : Addr) (ys : List V) (es : List PyData), v = .ref a ∧ d = .list es ∧ H a = some (.lst ys) ∧ AtAll H ys es) ∨ (lstOf H v = none ∧ ∀ es, d ≠ .list es) := by
  cases h with
  | lst e t => exact .inl ⟨_, _, _, rfl, rfl, e, t⟩
  | tup e t => exact .inr ⟨lstOf_tup e, fun _ z => by cases z⟩
  | dic e => exact .inr ⟨lstOf_dic e, fun _ z => by cases z⟩
  | _ => exact .inr ⟨rfl, fun _ z => by cases z⟩
theorem paired_snoc {α β : Type} {F : α → β → Prop} : ∀ {l : List α} {m : List β} {b : β}, Paired F l (m ++ [b]) → ∃ l' a, l = l' ++ [a] ∧ Paired F l' m ∧ F a b
  | _, [], b, h => by
    cases h with
    | cons f t =>
      cases t
      exact ⟨[], _, rfl, .nil, f⟩
  | _, c :: m, b, h => by
    cases h with
    | cons f t =>
      obtain ⟨l', a, e, p, q⟩ := paired_snoc t
      exact ⟨_ :: l', a, by rw [e]; rfl, .cons f p, q⟩
theorem paired_app {α β : Type} {F : α → β → Prop} : ∀ {l l' : List α} {m m' : List β}, Paired F l m → Paired F l' m' → Paired F (l ++ l') (m ++ m')
  | _, _, _, _, .nil, h => h
  | _, _, _, _, .cons f t, h => .cons f (paired_app t h)
theorem blk_at {H : Hp} {s : Str} {ys : List V} {es : List PyData} (h : AtAll H ys es) : Paired (fun q q' => At H q.1 q'.1 ∧ q.2 = q'.2) (blkV s ys) (blkV s es) := by
  unfold blkV
  by_cases h1 : s = "repeat"
  · rw [if_pos h1, if_pos h1]
    match ys, es, h with
    | _, _, .nil => exact .nil
    | _, _, .cons _ .nil => exact .nil
    | _, _, .cons _ (.cons h2 .nil) => exact .cons ⟨h2, rfl⟩ .nil
    | _, _, .cons _ (.cons _ (.cons _ _)) => exact .nil
  rw [if_neg h1, if_neg h1]
  by_cases h2 : s = "ifnil"
  · rw [if_pos h2, if_pos h2]
    match ys, es, h with
    | _, _, .nil => exact .nil
    | _, _, .cons _ .nil => exact .nil
    | _, _, .cons _ (.cons _ .nil) => exact .nil
    | _, _, .cons _ (.cons a (.cons b .nil)) => exact .cons ⟨b, rfl⟩ (.cons ⟨a, rfl⟩ .nil)
    | _, _, .cons _ (.cons _ (.cons _ (.cons _ _))) => exact .nil
  rw [if_neg h2, if_neg h2]
  by_cases h3 : s = "ifsame"
  · rw [if_pos h3, if_pos h3]
    match ys, es, h with
    | _, _, .nil => exact .nil
    | _, _, .cons _ .nil => exact .nil
    | _, _, .cons _ (.cons _ .nil) => exact .nil
    | _, _, .cons _ (.cons _ (.cons _ .nil)) => exact .nil
    | _, _, .cons _ (.cons _ (.cons a (.cons b .nil))) => exact .cons ⟨b, rfl⟩ (.cons ⟨a, rfl⟩ .nil)
    | _, _, .cons _ (.cons _ (.cons _ (.cons _ (.cons _ _)))) => exact .nil
  rw [if_neg h3, if_neg h3]
  exact .nil
theorem blk_few {α : Type} {s : Str} {ys : List α} : (blkV s ys).length ≤ 2 ∧ ∀ q ∈ blkV s ys, q.2.length ≤ 1 := by
  unfold blkV
  split
  · split
    · exact ⟨by simp, fun q hq => by rw [List.mem_singleton.mp hq]; simp⟩
    · exact ⟨by simp, fun q hq => by cases hq⟩
  split
  · split
    · exact ⟨by simp, fun q hq => by
        simp only [List.mem_cons, List.not_mem_nil, or_false] at hq
        rcases hq with rfl | rfl <;> simp⟩
    · exact ⟨by simp, fun q hq => by cases hq⟩
  split
  · split
    · exact ⟨by simp, fun q hq => by
        simp only [List.mem_cons, List.not_mem_nil, or_false] at hq
        rcases hq with rfl | rfl <;> simp⟩
    · exact ⟨by simp, fun q hq => by cases hq⟩
  exact ⟨by simp, fun q hq => by cases hq⟩
theorem same_updL {H H2 : Hp} {a : Addr} {o : HO} (s : Same H H2) (h : H a = none) : Same H (upd H2 a o) := fun b u e => by
  have ne : b ≠ a := fun z => by rw [z, h] at e; cases e
  rw [upd_ne ne]
  exact s _ _ e
/-! ### where it stands -/
def FrAt (H0 H : Hp) (v : V) (w : Fr) : Prop := ∃ (u pl : Addr) (bv : V), v = .ref u ∧ H u = some (.tup [bv, .ref pl, .int w.nested, .int w.rep, .int w.index]) ∧ At H0 bv w.blk ∧ H pl = some (.tup (w.ahead.map V.int)) ∧ w.ahead.length ≤ 2 * w.nested ∧ w.nested ≤ 61 ∧ ∀ ds, w.blk = .list ds → w.index ≤ ds.length
theorem FrAt.mono {H0 H H' : Hp} {v : V} {w : Fr} (h : FrAt H0 H v w) (s : Same H H') : FrAt H0 H' v w := by
  obtain ⟨u, pl, bv, e, h1, h2, h3, h4⟩ := h
  exact ⟨u, pl, bv, e, s _ _ h1, h2, s _ _ h3, h4⟩
theorem FrAt.upd {H0 H : Hp} {v : V} {w : Fr} {l : Addr} {xs ys : List V} (h : FrAt H0 H v w) (hl : H l = some (.lst xs)) : FrAt H0 (L2.upd H l (.lst ys)) v w := by
  obtain ⟨u, pl, bv, e, h1, h2, h3, h4⟩ := h
  refine ⟨u, pl, bv, e, ?_, h2, ?_, h4⟩
  · rw [upd_ne (ne_of h1 hl (by intro z; cases z))]
    exact h1
  · rw [upd_ne (ne_of h3 hl (by intro z; cases z))]
    exact h3
def PlaceV (H : Hp) (v : V) (o : Option (List Int)) : Prop := match o with
  | none => v = .non
  | some l => ∃ t, v = .ref t ∧ H t = some (.tup (l.map V.int))
def SuAt (H : Hp) (CU x : Addr) (r : Sv) : Prop := ∃ (dx : Addr) (pv : V) (bu : Bool), H x = some (.ins CU dx (suF pv (.int r.2.1) (.int r.2.2) (.bl bu))) ∧ PlaceV H pv r.1 ∧ ∀ l, r.1 = some l → l.length ≤ 200
def spSv (C CU : Addr) : Sp := fun vs H Q _ => ∃ (b : V) (d : PyData) (p : Addr) (sc : Sco) (n : Nat) (res : Sv), vs = [b, .ref p] ∧ At H b d ∧ ScAt H C p sc ∧ (∀ z r, sc.cs.lookup z = some r → r.1 ≤ 100) ∧ n ≤ 100000 ∧ runT sc n [⟨d, [], 0, 0, 0⟩] 0 0 = some res ∧
  ∀ x H', Same H H' → H x = none → SuAt H' CU x res → Q (.ref x) H'
end K1

set_option Elab.async false
set_option linter.all false
set_option maxRecDepth 100000
set_option maxHeartbeats 8000000
namespace K1
open PySem L2
theorem words_len {sc : Sco} {s : Str} {es : List PyData} {rep : Int} {ws : List Str} (h : wordsT sc s es rep = true) (e : forms.lookup s = some ws) : es.length = ws.length := by
  unfold wordsT at h
  split at h
  · rename_i z
    rw [z, show forms.lookup ("call" : Str) = none by decide +kernel] at e
    cases e
  · rw [e] at h
    have h : ((decide (es.length = ws.length) && !(decide (s = "repeat") && decide (rep = 3))) && (ws.zip es).all fun q => fitsT sc q.1 q.2) = true := h
    rw [Bool.and_eq_true, Bool.and_eq_true] at h
    exact of_decide_eq_true h.1.1
abbrev svN : List Str := ["body", "scope", "many", "depth", "buried", "ways", "block", "ahead", "nested", "repeats", "index", "statement", "place", "inner", "part", "start"]
section
variable {P : Program} {w : World} {K : PySem.W.Frag} {mg : Str → Option Value} {base : Heap}
theorem okSv {f C CU : Addr} {fd : FuncData} {tD tS : Tok} (F : Fun K "survey" "survey" (top 21) f fd) (B : Blt mg) (T : NoS K C) (hD : mg "DEEPEST_BLOCK" = some (.int 60 tD)) (hS : mg "MOST_STATEMENTS" = some (.int 60 tS)) (MU : Mkr P w K mg base CX0 1 "Survey" CU ["self", "place", "many", "depth", "buried"] (spSuI CU))
    (C18 : Cal P w K mg base CX0 5 "fits_form" ["statement", "scope", "repeats"] (spForm C)) (C19 : Cal P w K mg base CX0 1 "depth_of" ["statement", "scope", "repeats"] (spDepth C)) (C20 : Cal P w K mg base CX0 1 "blocks_of" ["statement", "place"] spBlocks) :
    FnOk P w K mg base CX0 6 f fd ["body", "scope"] (spSv C CU) := by
  refine F.ok sc21 (fun vs H Q E h => ?_) (fun cdv A outer s H vs Q E hr h => ?_)
  · obtain ⟨b, d, p, sc, n, res, rfl, _⟩ := h
    rfl
  · obtain ⟨b, d, p, sc, n, res, rfl, hb, hs, few, hn, hrun, k⟩ := h
    refine ⟨_, pss_cons (ps_set (i := 2) sc21.nd rfl (Or.inl rfl) pe_int) (pss_cons (ps_set (i := 3) sc21.nd rfl (Or.inl rfl) pe_int)
      (pss_cons (ps_set (i := 4) sc21.nd rfl (Or.inl rfl) pe_bl) (pss_cons (ps_set (i := 5) sc21.nd rfl (Or.inl rfl) (pe_lst (pa_cons (pe_tup (pa_cons (pv 0) (pa_cons (pe_tup pa_nil) (pa_cons pe_int (pa_cons pe_int (pa_cons pe_int pa_nil)))))) pa_nil)))
      (pss_cons (ps_while PassesOwn.never (pt_truth (pv 5) (by intro _; rfl))
        (pss_mid (ps_asg (pe_bm0 PySem.F.plainAttrs_list PySem.F.slot_list_pop PySem.F.type_list_pop mt_pop (pv 5)) (pg_tup rfl (pgs_cons (pg_name (i := 6) sc21.nd rfl (Or.inl rfl)) (pgs_cons (pg_name (i := 7) sc21.nd rfl (Or.inl rfl)) (pgs_cons (pg_name (i := 8) sc21.nd rfl (Or.inl rfl)) (pgs_cons (pg_name (i := 9) sc21.nd rfl (Or.inl rfl)) (pgs_cons (pg_name (i := 10) sc21.nd rfl (Or.inl rfl)) pgs_nil)))))))
        (pss_mid (ps_if (pt_cmpR op_gt (pv 8) (pe_glob (v := .int 60) rfl hD ⟨_, rfl⟩) (nomark _)) (pss_cons (ps_aug (i := 2) sc21.nd rfl (Or.inl rfl) (pe_op op_add (pe_glob (v := .int 60) rfl hS ⟨_, rfl⟩) pe_int) iop_add) (pss_cons (ps_set (i := 4) sc21.nd rfl (Or.inl rfl) pe_bl) (pss_one ps_continue))) pss_nil)
        (pss_mid (ps_if (pt_not (pt_val (pt_isi B (pv 6) B.list PyProof.Rows.boot_list))) (pss_one (ps_ret (pe_mkr MU hr (by decide) pass0 (pa_cons (pv 7) (pa_cons (pv 2) (pa_cons (pv 3) (pa_cons (pv 4) pa_nil))))))) pss_nil)
        (pss_mid (ps_if (pt_cmpR op_eq (pv 10) (pe_callB call_len_seq rfl B.len PySem.boot_len (pa_cons (pv 6) pa_nil)) (nomark _)) (pss_one ps_continue) pss_nil)
        (pss_mid (ps_set (i := 11) sc21.nd rfl (Or.inl rfl) (pe_ix ix_list (pv 6) (pv 10) (fun _ _ => rfl)))
        (pss_mid (ps_set (i := 12) sc21.nd rfl (Or.inl rfl) (pe_op op_catA (pv 7) (pe_tup (pa_cons (pv 10) pa_nil))))
        (pss_mid (ps_if (pt_not (pt_val (pe_cal C18 hr (by decide) pass0 (pa_cons (pv 11) (pa_cons (pv 1) (pa_cons (pv 9) pa_nil)))))) (pss_one (ps_ret (pe_mkr MU hr (by decide) pass0 (pa_cons (pv 12) (pa_cons (pv 2) (pa_cons (pv 3) (pa_cons (pv 4) pa_nil))))))) pss_nil)
        (pss_mid (ps_aug (i := 2) sc21.nd rfl (Or.inl rfl) pe_int iop_add)
        (pss_mid (ps_set (i := 3) sc21.nd rfl (Or.inl rfl) (pe_callB (call_max2 rfl) rfl B.max PyProof.Rows.boot_max (pa_cons (pv 3) (pa_cons (pe_cal C19 hr (by decide) pass0 (pa_cons (pv 11) (pa_cons (pv 1) (pa_cons (pv 9) pa_nil)))) pa_nil))))
        (pss_mid (ps_expr (pe_bm PySem.F.plainAttrs_list PySem.F.slot_list_append PySem.F.type_list_append mt_append (pv 5) (pa_cons (pe_tup (pa_cons (pv 6) (pa_cons (pv 7) (pa_cons (pv 8) (pa_cons (pv 9) (pa_cons (pe_op op_add (pv 10) pe_int) pa_nil)))))) pa_nil)))
        (pss_mid (ps_set (i := 13) sc21.nd rfl (Or.inl rfl) (pe_ifExp (pt_cmpR op_eq (pe_ix ix_tup (pv 11) pe_int (fun _ _ => rfl)) pe_str (nomark _)) (pe_op op_add (pv 9) pe_int) (pv 9)))
        (pss_one (ps_for PassesOwn.never rfl (pi_list (pe_cal C20 hr (by decide) pass0 (pa_cons (pv 11) (pa_cons (pv 12) pa_nil)))) (pg_tup rfl (pgs_cons (pg_name (i := 14) sc21.nd rfl (Or.inl rfl)) (pgs_cons (pg_name (i := 15) sc21.nd rfl (Or.inl rfl)) pgs_nil)))
          (pss_one (ps_expr (pe_bm PySem.F.plainAttrs_list PySem.F.slot_list_append PySem.F.type_list_append mt_append (pv 5) (pa_cons (pe_tup (pa_cons (pv 14) (pa_cons (pv 15) (pa_cons (pe_op op_add (pv 8) pe_int) (pa_cons (pv 13) (pa_cons pe_int pa_nil)))))) pa_nil))))))))))))))))))
      (pss_one (ps_ret (pe_mkr MU hr (by decide) pass0 (pa_cons pe_non (pa_cons (pv 2) (pa_cons (pv 3) (pa_cons (pv 4) pa_nil))))))))))), ?_⟩
    refine ⟨_, rfl, Nat.zero_le _, fun e he => ⟨(by show 5 ≤ sizeLine; decide), fun t ht => ⟨(by show 1 ≤ sizeLine; decide), fun l hl => ?_⟩⟩⟩
    have s0 : Same H (upd H e (.tup [])) := same_new (Same.refl _) he
    have s1 := same_new (o := .tup [b, .ref e, .int 0, .int 0, .int 0]) s0 ht
    have s2 := same_new (o := .lst [.ref t]) s1 hl
    have hl0 : H l = none := none_of' s1 hl
    have big : 400000 ≤ sizeLine := by decide
    refine ⟨fun m σ H1 => ∃ (ws : List Fr) (many depth : Int) (bu : Bool) (vs : List V) (v5 v6 v7 v8 v9 v10 v11 v12 v13 v14 : Option V), σ = [some b, some (.ref p), some (.int many), some (.int depth), some (.bl bu), some (.ref l), v5, v6, v7, v8, v9, v10, v11, v12, v13, v14] ∧ Same H H1 ∧ H1 l = some (.lst vs) ∧ Paired (FrAt H H1) vs ws.reverse ∧ runT sc m ws many depth = some res ∧ ws.length + 3 * m ≤ 3 * n + 1,
      ⟨n, [⟨d, [], 0, 0, 0⟩], 0, 0, false, [.ref t], none, none, none, none, none, none, none, none, none, none, rfl, s2, upd_same, .cons ⟨t, e, b, rfl, same_new (o := .lst [.ref t]) (Same.refl _) hl _ _ upd_same, hb, ((same_new (o := .tup [b, .ref e, .int 0, .int 0, .int 0]) (Same.refl _) ht).trans (same_new (o := .lst [.ref t]) (Same.refl _) hl)) _ _ upd_same, Nat.le_refl _, Nat.zero_le _, fun ds _ => Nat.zero_le _⟩ .nil, hrun, by rw [List.length_singleton]; omega⟩, ?_⟩
    rintro m σ H1 ⟨ws, many, depth, bu, vs, v5, v6, v7, v8, v9, v10, v11, v12, v13, v14, rfl, s3, hl1, hst, hrn, hbd⟩
    cases ws with
    | nil =>
      have ev : vs = [] := by
        cases hst
        rfl
      subst ev
      refine ⟨_, rfl, false, .inl ⟨_, SqL.of hl1, rfl⟩, ?_⟩
      refine iteF ?_
      rw [runT_nil] at hrn
      cases hrn
      refine ⟨_, rfl, _, rfl, _, rfl, fun x dx nx ndx nex => ?_⟩
      refine ⟨x, dx, _, _, _, _, rfl, upd_same, fun H3 h3 kp => ⟨rfl, k x H3 (s3.trans (made_same nx ndx kp)) (none_of' s3 nx) ⟨dx, .non, _, h3, rfl, fun l e => by cases e⟩⟩⟩
    | cons w r =>
      rw [List.reverse_cons] at hst
      obtain ⟨vs', v, rfl, hst2, hfr⟩ := paired_snoc hst
      obtain ⟨u, pl, bv, rfl, hu1, hbv, hpl, ha2, hn61, hix⟩ := hfr
      cases m with
      | zero => cases hrn
      | succ m =>
      refine ⟨_, rfl, true, .inl ⟨_, SqL.of hl1, by simp⟩, ?_⟩
      refine iteT ?_
      refine ⟨fun σ' H' => ∃ (ws : List Fr) (many depth : Int) (bu : Bool) (vs : List V) (v5 v6 v7 v8 v9 v10 v11 v12 v13 v14 : Option V), σ' = [some b, some (.ref p), some (.int many), some (.int depth), some (.bl bu), some (.ref l), v5, v6, v7, v8, v9, v10, v11, v12, v13, v14] ∧ Same H H' ∧ H' l = some (.lst vs) ∧ Paired (FrAt H H') vs ws.reverse ∧ runT sc m ws many depth = some res ∧ ws.length + 3 * m ≤ 3 * n + 1,
        fun σ' H' h => ⟨m, Nat.lt_succ_self _, h⟩, ?_⟩
      -- pop
      have s4 : Same H (upd H1 l (.lst vs')) := same_updL s3 hl0
      have ul : (upd H1 l (.lst vs')) u = H1 u := upd_ne (ne_of hu1 hl1 (by intro z; cases z))
      have pll : (upd H1 l (.lst vs')) pl = H1 pl := upd_ne (ne_of hpl hl1 (by intro z; cases z))
      have hst4 : Paired (FrAt H (upd H1 l (.lst vs'))) vs' r.reverse := hst2.mono fun _ _ z => z.upd hl1
      rw [List.length_cons] at hbd
      refine ⟨fun σ H2 => σ = [some b, some (.ref p), some (.int many), some (.int depth), some (.bl bu), some (.ref l), some bv, some (.ref pl), some (.int w.nested), some (.int w.rep), some (.int w.index), v10, v11, v12, v13, v14] ∧ H2 = upd H1 l (.lst vs'), ?_, ?_⟩
      · refine ⟨_, rfl, .inl ⟨rfl, _, SqL.of hl1⟩, l, _, .ref u, rfl, rfl, hl1, by simp, ?_⟩
        rw [List.dropLast_concat]
        exact ⟨u, _, rfl, SqT.of (by rw [ul]; exact hu1), rfl, bv, _, rfl, .ref pl, _, rfl, _, _, rfl, _, _, rfl, _, _, rfl, rfl, rfl, rfl⟩
      rintro σ H2 ⟨rfl, rfl⟩
      -- too deep
      refine ⟨fun σ H2 => σ = [some b, some (.ref p), some (.int many), some (.int depth), some (.bl bu), some (.ref l), some bv, some (.ref pl), some (.int w.nested), some (.int w.rep), some (.int w.index), v10, v11, v12, v13, v14] ∧ H2 = upd H1 l (.lst vs') ∧ ¬ w.nested > 60, ?_, ?_⟩
      · refine ⟨_, rfl, _, _, rfl, rfl, _, rfl, ?_⟩
        refine ite2 (fun c => ?_) (fun c => ?_)
        · have c' : w.nested > 60 := by
            have := of_decide_eq_true c
            omega
          refine ⟨_, rfl, _, _, rfl, rfl, _, _, rfl, rfl, ?_⟩
          exact ⟨r, many + 61, depth, true, vs', _, _, _, _, _, _, _, _, _, _, rfl, s4, upd_same, hst4, runT_go hrn (step_deep c'), by omega⟩
        · exact ⟨rfl, rfl, fun z => c (decide_eq_true (by omega))⟩
      rintro σ H2 ⟨rfl, rfl, nd⟩
      -- a list
      refine ⟨fun σ H2 => σ = [some b, some (.ref p), some (.int many), some (.int depth), some (.bl bu), some (.ref l), some bv, some (.ref pl), some (.int w.nested), some (.int w.rep), some (.int w.index), v10, v11, v12, v13, v14] ∧ H2 = upd H1 l (.lst vs') ∧ ∃ (a : Addr) (ys : List V) (ds : List PyData), bv = .ref a ∧ w.blk = .list ds ∧ H a = some (.lst ys) ∧ AtAll H ys ds, ?_, ?_⟩
      · refine isi_rd rfl (ans_list (hbv.dat.mono s4)) ⟨_, rfl, ?_⟩
        rw [lstOf_same hbv.dat s4]
        rcases at_lst2 hbv with ⟨a, ys, ds, e1, e2, hy, hys⟩ | ⟨hn1, hno⟩
        · rw [e1, lstOf_of hy]
          exact iteF ⟨rfl, rfl, a, ys, ds, rfl, e2, hy, hys⟩
        · rw [hn1]
          refine iteT ?_
          have er := runT_fin hrn (step_not nd hno)
          subst er
          refine ⟨_, rfl, _, rfl, _, rfl, _, rfl, fun x dx nx ndx nex => ?_⟩
          refine ⟨x, dx, _, _, _, _, rfl, upd_same, fun H3 h3 kp => ?_⟩
          have sm := made_same nx ndx kp
          exact ⟨rfl, k x H3 (s4.trans sm) (none_of' s4 nx) ⟨dx, .ref pl, _, h3, ⟨pl, rfl, sm _ _ (by rw [pll]; exact hpl)⟩, fun l e => by cases e; omega⟩⟩
      rintro σ H2 ⟨rfl, rfl, a, ys, ds, rfl, ew, hy, hys⟩
      have hy4 := s4 _ _ hy
      have hixd := hix ds ew
      -- its end
      refine ⟨fun σ H2 => σ = [some b, some (.ref p), some (.int many), some (.int depth), some (.bl bu), some (.ref l), some (.ref a), some (.ref pl), some (.int w.nested), some (.int w.rep), some (.int w.index), v10, v11, v12, v13, v14] ∧ H2 = upd H1 l (.lst vs') ∧ w.index < ds.length, ?_, ?_⟩
      · refine ⟨_, rfl, _, rfl, a, ys, rfl, .inl (SqL.of hy4), rfl, _, rfl, ?_⟩
        rw [hys.len]
        refine ite2 (fun c => ?_) (fun c => ?_)
        · have e := of_decide_eq_true c
          injection e with e
          exact ⟨r, many, depth, bu, vs', _, _, _, _, _, _, _, _, _, _, rfl, s4, upd_same, hst4, runT_go hrn (step_end nd ew (List.getElem?_eq_none (by omega))), by omega⟩
        · refine ⟨rfl, rfl, ?_⟩
          have : ¬ w.index = ds.length := fun z => by
            rw [z, decide_eq_true rfl] at c
            exact c rfl
          omega
      rintro σ H2 ⟨rfl, rfl, hlt⟩
      -- statement
      obtain ⟨x, hx⟩ : ∃ x, ys[w.index]? = some x := ⟨ys[w.index]'(by rw [hys.len]; exact hlt), List.getElem?_eq_getElem _⟩
      obtain ⟨dd, hdd, had⟩ := hys.get hx
      refine ⟨fun σ H2 => σ = [some b, some (.ref p), some (.int many), some (.int depth), some (.bl bu), some (.ref l), some (.ref a), some (.ref pl), some (.int w.nested), some (.int w.rep), some (.int w.index), some x, v11, v12, v13, v14] ∧ H2 = upd H1 l (.lst vs'), ⟨_, rfl, _, rfl, a, ys, _, x, rfl, rfl, SqL.of hy4, atI_nat hx, rfl, rfl⟩, ?_⟩
      rintro σ H2 ⟨rfl, rfl⟩
      -- place
      refine ⟨fun σ H2 => ∃ pq : Addr, σ = [some b, some (.ref p), some (.int many), some (.int depth), some (.bl bu), some (.ref l), some (.ref a), some (.ref pl), some (.int w.nested), some (.int w.rep), some (.int w.index), some x, some (.ref pq), v12, v13, v14] ∧ Same (upd H1 l (.lst vs')) H2 ∧ H2 pq = some (.tup ((w.ahead ++ [(w.index : Int)]).map V.int)), ?_, ?_⟩
      · refine ⟨_, rfl, _, rfl, (by show 1 ≤ sizeLine; decide), fun t2 nt2 => ?_⟩
        have s5 := same_new (o := .tup [.int w.index]) (Same.refl (upd H1 l (.lst vs'))) nt2
        refine ⟨pl, t2, _, _, rfl, rfl, SqT.of (s5 _ _ (by rw [pll]; exact hpl)), SqT.of upd_same, by rw [List.length_map, List.length_singleton]; omega, fun z => ?_, fun _ z => (by cases z), fun _ _ q nq => ?_⟩
        · have z : w.ahead = [] := List.map_eq_nil_iff.mp z
          exact ⟨t2, rfl, s5, by rw [upd_same, z]; rfl⟩
        · exact ⟨q, rfl, same_new s5 nq, by rw [upd_same, List.map_append]; rfl⟩
      rintro σ H2 ⟨pq, rfl, s5, hpq⟩
      have s45 := s4.trans s5
      -- fits_form
      refine ⟨fun σ H3 => σ = [some b, some (.ref p), some (.int many), some (.int depth), some (.bl bu), some (.ref l), some (.ref a), some (.ref pl), some (.int w.nested), some (.int w.rep), some (.int w.index), some x, some (.ref pq), v12, v13, v14] ∧ Same H2 H3 ∧ formT sc dd w.rep = true, ?_, ?_⟩
      · refine ⟨_, rfl, _, rfl, _, rfl, x, p, dd, sc, w.rep, rfl, had.mono s45, hs.mono s45, few, fun H3 s6 => ⟨_, rfl, ?_⟩⟩
        cases ef : formT sc dd w.rep with
        | true => exact iteF ⟨rfl, s6, rfl⟩
        | false =>
          refine iteT ?_
          have er := runT_fin hrn ((step_st nd ew hdd).trans (st_bad ef))
          subst er
          refine ⟨_, rfl, _, rfl, _, rfl, _, rfl, fun x2 dx nx ndx nex => ?_⟩
          refine ⟨x2, dx, _, _, _, _, rfl, upd_same, fun H4 h4 kp => ?_⟩
          have sm := made_same nx ndx kp
          exact ⟨rfl, k x2 H4 ((s45.trans s6).trans sm) (none_of' (s45.trans s6) nx) ⟨dx, .ref pq, _, h4, ⟨pq, rfl, sm _ _ (s6 _ _ hpq)⟩, fun l e => by cases e; rw [List.length_append, List.length_singleton]; omega⟩⟩
      rintro σ H3 ⟨rfl, s6, ef⟩
      obtain ⟨z, es, rfl, wok⟩ := st_good ef
      have est : stepT sc w r many depth = .go (pushT z es (w.ahead ++ [(w.index : Int)]) w.nested w.rep ++ { w with index := w.index + 1 } :: r) (many + 1) (if depthT sc z es w.rep > depth then depthT sc z es w.rep else depth) := by
        rw [step_st nd ew hdd]
        show wordsStep sc w r many depth z es = _
        unfold wordsStep
        rw [if_pos wok]
      have hrn := runT_go hrn est
      -- the statement is a tuple
      rcases at_tup had with ⟨sa, xs, es', rfl, ee, hsa, hsx⟩ | ⟨_, hno⟩
      case inr => exact absurd rfl (hno _)
      cases ee
      cases hsx with
      | cons hz hys2 =>
      obtain rfl := at_str hz
      rename_i xs2 _ 
      have s456 := s45.trans s6
      have hsa3 := s456 _ _ hsa
      -- many
      refine ⟨fun σ H4 => σ = [some b, some (.ref p), some (.int (many + 1)), some (.int depth), some (.bl bu), some (.ref l), some (.ref a), some (.ref pl), some (.int w.nested), some (.int w.rep), some (.int w.index), some (.ref sa), some (.ref pq), v12, v13, v14] ∧ H4 = H3, ⟨_, rfl, _, _, rfl, rfl, rfl, rfl⟩, ?_⟩
      rintro σ H4 ⟨rfl, rfl⟩
      -- depth
      refine ⟨fun σ H5 => σ = [some b, some (.ref p), some (.int (many + 1)), some (.int (if depthT sc z es w.rep > depth then depthT sc z es w.rep else depth)), some (.bl bu), some (.ref l), some (.ref a), some (.ref pl), some (.int w.nested), some (.int w.rep), some (.int w.index), some (.ref sa), some (.ref pq), v12, v13, v14] ∧ H5 = H4, ⟨_, rfl, _, rfl, _, rfl, _, rfl, sa, p, z, _, es, sc, w.rep, rfl, hsa3, hys2.mono s456, hs.mono s456, wok, _, _, rfl, rfl, rfl⟩, ?_⟩
      rintro σ H5 ⟨rfl, rfl⟩
      generalize (if depthT sc z es w.rep > depth then depthT sc z es w.rep else depth) = depth' at hrn ⊢
      have hl5 : H5 l = some (.lst vs') := (s5.trans s6) _ _ upd_same
      have hst5 : Paired (FrAt H H5) vs' r.reverse := hst4.mono fun _ _ z => z.mono (s5.trans s6)
      have lv : vs'.length = r.length := by rw [hst2.length, List.length_reverse]
      -- the same block goes on
      refine ⟨fun σ H6 => ∃ t3 : Addr, σ = [some b, some (.ref p), some (.int (many + 1)), some (.int depth'), some (.bl bu), some (.ref l), some (.ref a), some (.ref pl), some (.int w.nested), some (.int w.rep), some (.int w.index), some (.ref sa), some (.ref pq), v12, v13, v14] ∧ Same H H6 ∧ H6 l = some (.lst (vs' ++ [.ref t3])) ∧ Paired (FrAt H H6) (vs' ++ [.ref t3]) (r.reverse ++ [{ w with index := w.index + 1 }]) ∧ H6 pq = some (.tup ((w.ahead ++ [(w.index : Int)]).map V.int)), ?_, ?_⟩
      · refine ⟨_, rfl, .inl ⟨rfl, _, SqL.of hl5⟩, _, rfl, _, rfl, _, rfl, _, rfl, _, rfl, _, _, rfl, rfl, (by show 5 ≤ sizeLine; decide), fun t3 nt3 => ?_⟩
        have s7 := same_new (o := .tup [.ref a, .ref pl, .int w.nested, .int w.rep, .int (w.index + 1)]) (Same.refl H5) nt3
        have hl6 := s7 _ _ hl5
        have ntl : t3 ≠ l := fun z => by rw [z, hl5] at nt3; cases nt3
        refine ⟨l, vs', _, rfl, rfl, hl6, by omega, t3, rfl, same_updL (s456.trans s7) hl0, upd_same, paired_app (hst5.mono fun _ _ z => (z.mono s7).upd hl6) (.cons ⟨t3, pl, .ref a, rfl, ?_, hbv, ?_, ha2, hn61, fun ds' e => ?_⟩ .nil), ?_⟩
        · rw [upd_ne ntl, upd_same]
          rfl
        · rw [upd_ne (ne_of (s7 _ _ ((s5.trans s6) _ _ (by rw [pll]; exact hpl))) hl6 (by intro z; cases z))]
          exact s7 _ _ ((s5.trans s6) _ _ (by rw [pll]; exact hpl))
        · have e : w.blk = .list ds' := e
          rw [ew] at e
          cases e
          exact hlt
        · have hp6 := s7 _ _ (s6 _ _ hpq)
          rw [upd_ne (ne_of hp6 hl6 (by intro z; cases z))]
          exact hp6
      rintro σ H6 ⟨t3, rfl, s7, hl6, hst6, hpq6⟩
      have hsa6 := s7 _ _ hsa
      -- inner
      refine ⟨fun σ H7 => σ = [some b, some (.ref p), some (.int (many + 1)), some (.int depth'), some (.bl bu), some (.ref l), some (.ref a), some (.ref pl), some (.int w.nested), some (.int w.rep), some (.int w.index), some (.ref sa), some (.ref pq), some (.int (if z = "repeat" then w.rep + 1 else w.rep)), v13, v14] ∧ H7 = H6, ?_, ?_⟩
      · refine ⟨_, rfl, sa, _, 0, _, rfl, rfl, SqT.of hsa6, atI_nat (j := 0) rfl, rfl, _, rfl, ?_⟩
        refine ite2 (fun c => ?_) (fun c => ?_)
        · rw [if_pos (str_iff.mp (of_decide_eq_true c))]
          exact ⟨_, rfl, _, _, rfl, rfl, rfl, rfl⟩
        · rw [if_neg (fun e => c (decide_eq_true (str_iff.mpr e)))]
          exact ⟨_, rfl, rfl, rfl⟩
      rintro σ H7 ⟨rfl, rfl⟩
      -- its blocks
      have plen : (w.ahead ++ [(w.index : Int)]).length ≤ 2 * w.nested + 1 := by
        rw [List.length_append, List.length_singleton]
        omega
      refine ⟨_, rfl, _, rfl, sa, pq, z, _, w.ahead ++ [(w.index : Int)], rfl, hsa6, hpq6, by simp, by omega, fun wl hwl => by rw [hys2.len]; exact words_len wok hwl, fun q H8 ts s8 nq hq hpr => ?_⟩
      have hat := blk_at (s := z) hys2
      have few2 : (blkV z es).length ≤ 2 := blk_few.1
      have lts : ts.length = (blkV z es).length := by rw [hpr.length, hat.length]
      have s78 := s7.trans s8
      have nql : q ≠ l := fun e => by rw [e, hl6] at nq; cases nq
      refine ⟨q, rfl, ⟨_, SqL.of hq⟩, for_list (K := K) (a := q) (xs := ts) (fun j σ H9 => ∃ (vs2 : List V) (v13 v14 : Option V), σ = [some b, some (.ref p), some (.int (many + 1)), some (.int depth'), some (.bl bu), some (.ref l), some (.ref a), some (.ref pl), some (.int w.nested), some (.int w.rep), some (.int w.index), some (.ref sa), some (.ref pq), some (.int (if z = "repeat" then w.rep + 1 else w.rep)), v13, v14] ∧
        Same H H9 ∧ H9 l = some (.lst vs2) ∧ Paired (FrAt H H9) vs2 (r.reverse ++ [{ w with index := w.index + 1 }] ++ ((blkV z es).take j).map fun q => (⟨q.1, (w.ahead ++ [(w.index : Int)]) ++ q.2, w.nested + 1, if z = "repeat" then w.rep + 1 else w.rep, 0⟩ : Fr)) ∧ (∀ c o, H8 c = some o → c ≠ l → H9 c = some o))
        ⟨_, v13, v14, rfl, s78, s8 _ _ hl6, by rw [List.take_zero, List.map_nil, List.append_nil]; exact hst6.mono fun _ _ z => z.mono s8, fun _ _ e _ => e⟩ (fun j σ H9 _ ⟨_, _, _, _, _, _, _, kp⟩ => SqL.of (kp _ _ hq nql)) ?_ ?_⟩
      · rintro j y σ H9 hj ⟨vs2, v13, v14, rfl, s9, hl9, hst9, kp⟩
        have hjl : j < ts.length := (List.getElem?_eq_some_iff.mp hj).1
        obtain ⟨⟨b0, sfx⟩, hb0, u2, pl2, rfl, nu2, hu2, hpl2⟩ := paired_at hpr hj
        obtain ⟨⟨bd, sfx'⟩, hbd, hab, rfl⟩ := paired_at hat hb0
        have nul : u2 ≠ l := fun e => by rw [e, hl6] at nu2; cases nu2
        have npl : pl2 ≠ l := ne_of hpl2 (s8 _ _ hl6) (by intro z; cases z)
        have lv2 : vs2.length = r.length + 1 + j := by
          rw [hst9.length, List.length_append, List.length_append, List.length_reverse, List.length_singleton, List.length_map, List.length_take]
          omega
        refine ⟨u2, _, rfl, SqT.of (kp _ _ hu2 nul), rfl, b0, _, rfl, .ref pl2, _, rfl, rfl, ?_⟩
        refine ⟨_, rfl, .inl ⟨rfl, _, SqL.of hl9⟩, _, rfl, _, rfl, _, rfl, _, _, rfl, rfl, _, rfl, (by show 5 ≤ sizeLine; decide), fun t4 nt4 => ?_⟩
        have s10 := same_new (o := .tup [b0, .ref pl2, .int (w.nested + 1), .int (if z = "repeat" then w.rep + 1 else w.rep), .int 0]) (Same.refl H9) nt4
        have hl10 := s10 _ _ hl9
        have ntl : t4 ≠ l := fun e => by rw [e, hl9] at nt4; cases nt4
        refine ⟨l, vs2, _, rfl, rfl, hl10, by omega, _, _, _, rfl, same_updL (s9.trans s10) hl0, upd_same, ?_, fun c o e nc => ?_⟩
        · rw [take_snoc hbd, List.map_append, ← List.append_assoc]
          refine paired_app (hst9.mono fun _ _ z => (z.mono s10).upd hl10) (.cons ⟨t4, pl2, b0, rfl, ?_, hab, ?_, ?_, ?_, fun ds' _ => Nat.zero_le _⟩ .nil)
          · rw [upd_ne ntl, upd_same]
            rfl
          · rw [upd_ne npl]
            exact s10 _ _ (kp _ _ hpl2 npl)
          · have := blk_few.2 _ (List.mem_of_getElem? hbd)
            show (w.ahead ++ [(w.index : Int)] ++ sfx).length ≤ 2 * (w.nested + 1)
            rw [List.length_append]
            have : sfx.length ≤ 1 := this
            omega
          · show w.nested + 1 ≤ 61
            omega
        · rw [upd_ne nc]
          exact s10 _ _ (kp c o e nc)
      · rintro σ H9 ⟨vs2, v13, v14, rfl, s9, hl9, hst9, kp⟩
        refine ⟨_, _, _, bu, vs2, _, _, _, _, _, _, _, _, _, _, rfl, s9, hl9, ?_, hrn, ?_⟩
        · rw [lts, List.take_of_length_le (Nat.le_refl _)] at hst9
          unfold pushT
          rw [List.reverse_append, List.reverse_cons, List.reverse_reverse]
          exact hst9
        · unfold pushT
          rw [List.length_append, List.length_reverse, List.length_map, List.length_cons]
          omega
end
end K1

set_option Elab.async false
set_option linter.all false
set_option maxRecDepth 100000
set_option maxHeartbeats 8000000
namespace K1
open PySem L2
/-! ### what is new since a heap -/
def off (H0 H : Hp) : Hp := fun a => match H0 a with
  | none => H a
  | some _ => none
theorem off_of {H0 H : Hp} {a : Addr} {o : HO} (n : H0 a = none) (h : H a = some o) : off H0 H a = some o := by
  unfold off
  rw [n]
  exact h
theorem off_at {H0 H : Hp} {a : Addr} {o : HO} (h : off H0 H a = some o) : H0 a = none ∧ H a = some o := by
  unfold off at h
  cases q : H0 a with
  | none =>
    rw [q] at h
    exact ⟨rfl, h⟩
  | some u =>
    rw [q] at h
    cases h
theorem off_mono {H0 H H' : Hp} (s : Same H H') : Same (off H0 H) (off H0 H') := fun b o e => by
  obtain ⟨n, h⟩ := off_at e
  exact off_of n (s _ _ h)
theorem off_sub {H0 H : Hp} : Same (off H0 H) H := fun b o e => (off_at e).2
theorem off_base {H0 H1 H : Hp} (s : Same H0 H1) : Same (off H1 H) (off H0 H) := fun b o e => by
  obtain ⟨n, h⟩ := off_at e
  exact off_of (none_of' s n) h
theorem off_dom {H0 H1 H : Hp} (s : ∀ a, H1 a = none → H0 a = none) : Same (off H1 H) (off H0 H) := fun b o e => by
  obtain ⟨n, h⟩ := off_at e
  exact off_of (s _ n) h
theorem dom_upd {H H1 : Hp} {l : Addr} {o u : HO} (s : Same H H1) (h : H1 l = some u) : ∀ a, H1 a = none → upd H l o a = none := fun a n => by
  rw [upd_ne (fun e => by rw [e, h] at n; cases n)]
  exact none_of' s n
theorem off_upd {H0 H : Hp} {l : Addr} {o u : HO} (h : H0 l = some u) : Same (off H0 H) (off H0 (upd H l o)) := fun b z e => by
  obtain ⟨n, q⟩ := off_at e
  refine off_of n ?_
  rw [upd_ne (fun y => by rw [y, h] at n; cases n)]
  exact q
/-! ### copied_block -/
def scaT (d : PyData) : Bool := match d with
  | .none | .bool _ | .int _ | .str _ => true
  | _ => false
def cpW (f : PyData → Bool) (s : Str) (d : PyData) : Bool := match d with
  | .list ds => if s = "call" then ds.all scaT else f d
  | _ => scaT d
def cpS (f : PyData → Bool) (d : PyData) : Bool := match d with
  | .tuple (.str s :: ds) => decide (ds.length ≤ 900) && ds.all (cpW f s)
  | _ => false
/-- what copied_block can copy, so deep -/
def cpB : Nat → PyData → Bool
  | 0, _ => false
  | k + 1, d => match d with
    | .list ds => decide (ds.length ≤ 900) && ds.all (cpS (cpB k))
    | _ => false
theorem cpB_is {k : Nat} {ds : List PyData} (h : cpB (k + 1) (.list ds) = true) : ds.length ≤ 900 ∧ ∀ d ∈ ds, cpS (cpB k) d = true := by
  have h : (decide (ds.length ≤ 900) && ds.all (cpS (cpB k))) = true := h
  rw [Bool.and_eq_true, List.all_eq_true] at h
  exact ⟨of_decide_eq_true h.1, h.2⟩
theorem cpS_is {f : PyData → Bool} {d : PyData} (h : cpS f d = true) : ∃ s ds, d = .tuple (.str s :: ds) ∧ ds.length ≤ 900 ∧ ∀ e ∈ ds, cpW f s e = true := by
  unfold cpS at h
  split at h
  · rw [Bool.and_eq_true, List.all_eq_true] at h
    exact ⟨_, _, rfl, of_decide_eq_true h.1, h.2⟩
  · cases h
theorem at_sca {H H' : Hp} {v : V} {d : PyData} (h : At H v d) (s : scaT d = true) : At H' v d := by
  cases h with
  | non => exact .non
  | bl b => exact .bl b
  | int i => exact .int i
  | str z q => exact .str z q
  | _ => cases s
theorem at_scas {H H' : Hp} : ∀ {vs : List V} {ds : List PyData}, AtAll H vs ds → (∀ d ∈ ds, scaT d = true) → AtAll H' vs ds
  | _, _, .nil, _ => .nil
  | _, _, .cons h t, s => .cons (at_sca h (s _ List.mem_cons_self)) (at_scas t fun d hd => s d (List.mem_cons_of_mem _ hd))
theorem at_app {H : Hp} : ∀ {vs vs' : List V} {ds ds' : List PyData}, AtAll H vs ds → AtAll H vs' ds' → AtAll H (vs ++ vs') (ds ++ ds')
  | _, _, _, _, .nil, h => h
  | _, _, _, _, .cons h t, h' => .cons h (at_app t h')
def spCopy (k : Nat) : Sp := fun vs H Q _ => ∃ (b : Addr) (ds : List PyData), vs = [.ref b] ∧ At H (.ref b) (.list ds) ∧ cpB k (.list ds) = true ∧ ∀ q H', Same H H' → At (off H H') (.ref q) (.list ds) → Q (.ref q) H'
abbrev cpN : List Str := ["block", "rows", "statement", "words", "word"]
section
variable {P : Program} {w : World} {K : PySem.W.Frag} {mg : Str → Option Value} {base : Heap}
theorem scCp : FnScope cpN ["block"] (defScope (top 22)) := ⟨rfl, rfl, rfl, by decide +kernel, rfl, by decide +kernel, by decide +kernel⟩
theorem ok22c {f : Addr} {fd : FuncData} (F : Fun K "copied_block" "copied_block" (top 22) f fd) (B : Blt mg) (g : mg "copied_block" = some (.ref f)) (bd : Binds K fd ["block"] []) : ∀ k, FnOk P w K mg base CX0 (k + 1) f fd ["block"] (spCopy k)
  | 0 => by
    refine F.ok scCp (fun vs H Q E h => ?_) (fun cdv A outer s H vs Q E hr h => ?_)
    · obtain ⟨b, ds, rfl, _⟩ := h
      rfl
    · obtain ⟨b, ds, rfl, _, z, _⟩ := h
      cases z
  | k + 1 => by
    have Crec : Cal P w K mg base CX0 (k + 1) "copied_block" ["block"] (spCopy k) := ⟨f, fd, ok22c F B g bd k, g, F.kp, bd⟩
    refine F.ok scCp (fun vs H Q E h => ?_) (fun cdv A outer s H vs Q E hr h => ?_)
    · obtain ⟨b, ds, rfl, _⟩ := h
      rfl
    · obtain ⟨b, ds, rfl, hb, hcp, k'⟩ := h
      refine ⟨_, pss_cons (ps_set (i := 1) scCp.nd rfl (Or.inl rfl) (pe_lst pa_nil)) (pss_mid (ps_for PassesOwn.never rfl (pi_list (pv 0)) (pg_name (i := 2) scCp.nd rfl (Or.inl rfl))
          (pss_cons (ps_set (i := 3) scCp.nd rfl (Or.inl rfl) (pe_lst pa_nil)) (pss_mid (ps_for PassesOwn.never rfl (pi_tup (pv 2)) (pg_name (i := 4) scCp.nd rfl (Or.inl rfl))
            (pss_one (ps_if (pt_val (pt_isi B (pv 4) B.list PyProof.Rows.boot_list))
              (pss_one (ps_expr (pe_bm PySem.F.plainAttrs_list PySem.F.slot_list_append PySem.F.type_list_append mt_append (pv 3) (pa_cons (pe_ifExp (pt_cmpR op_eq (pe_ix ix_tup (pv 2) pe_int (fun _ _ => rfl)) pe_str (nomark _)) (pe_callTy (r := rLof K) call_list_of rfl B.list PyProof.Rows.boot_list (pa_cons (pv 4) pa_nil)) (pe_cal Crec hr (Nat.le_refl _) pass0 (pa_cons (pv 4) pa_nil))) pa_nil))))
              (pss_one (ps_expr (pe_bm PySem.F.plainAttrs_list PySem.F.slot_list_append PySem.F.type_list_append mt_append (pv 3) (pa_cons (pv 4) pa_nil)))))))
          (pss_one (ps_expr (pe_bm PySem.F.plainAttrs_list PySem.F.slot_list_append PySem.F.type_list_append mt_append (pv 1) (pa_cons (pe_callTy (r := rTof K) call_tuple_of rfl B.tuple PyProof.Rows.boot_tuple (pa_cons (pv 3) pa_nil)) pa_nil)))))))
        (pss_one (ps_ret (pv 1)))), ?_⟩
      cases hb with
      | @lst _ xs _ hbl hxs =>
      obtain ⟨l900, hall⟩ := cpB_is hcp
      have big : 1000 ≤ sizeLine := by decide
      refine ⟨Nat.zero_le _, fun ro nro => ?_⟩
      have s1 := same_new (o := .lst []) (Same.refl H) nro
      have hro0 : (upd H ro (.lst [])) ro = some (.lst []) := upd_same
      generalize hHr : upd H ro (.lst []) = Hr at s1 hro0 ⊢
      -- the rows
      refine ⟨fun σ H1 => ∃ (v2 v3 v4 : Option V) (vs : List V), σ = [some (.ref b), some (.ref ro), v2, v3, v4] ∧ Same H H1 ∧ H1 ro = some (.lst vs) ∧ AtAll (off Hr H1) vs ds, ?_, ?_⟩
      · refine ⟨_, rfl, b, rfl, ⟨_, SqL.of (s1 _ _ hbl)⟩, for_list (K := K) (a := b) (xs := xs) (fun i σ H1 => ∃ (v2 v3 v4 : Option V) (vs : List V), σ = [some (.ref b), some (.ref ro), v2, v3, v4] ∧ Same H H1 ∧ H1 ro = some (.lst vs) ∧ AtAll (off Hr H1) vs (ds.take i))
          ⟨none, none, none, [], rfl, s1, hro0, .nil⟩ (fun i σ H1 _ ⟨_, _, _, _, _, s2, _⟩ => SqL.of (s2 _ _ hbl)) ?_ ?_⟩
        · rintro i y σ H1 hi ⟨v2, v3, v4, vs, rfl, s2, hr1, hvs⟩
          obtain ⟨d, hd, had⟩ := hxs.get hi
          obtain ⟨z, es, rfl, l9, hes⟩ := cpS_is (hall d (List.mem_of_getElem? hd))
          cases had with
          | @tup sa ws _ hsa hws =>
          have domR : ∀ a, H1 a = none → Hr a = none := by
            rw [← hHr]
            exact dom_upd s2 hr1
          refine ⟨Nat.zero_le _, fun wl nwl => ?_⟩
          have hw0 : (upd H1 wl (.lst [])) wl = some (.lst []) := upd_same
          have s3 : Same H1 (upd H1 wl (.lst [])) := same_new (Same.refl _) nwl
          generalize hHw : upd H1 wl (.lst []) = Hw at s3 hw0 ⊢
          have hsa3 : ∀ {H2 : Hp}, Same H1 H2 → H2 sa = some (.tup ws) := fun s' => s' _ _ (s2 _ _ hsa)
          have lws : ws.length = es.length + 1 := by rw [hws.len, List.length_cons]
          refine ⟨fun σ H2 => ∃ (v4 : Option V) (us : List V), σ = [some (.ref b), some (.ref ro), some (.ref sa), some (.ref wl), v4] ∧ Same H1 H2 ∧ H2 wl = some (.lst us) ∧ AtAll (off Hw H2) us (.str z :: es), ?_, ?_⟩
          · refine ⟨_, rfl, sa, rfl, ⟨_, SqT.of (hsa3 s3)⟩, for_tup (K := K) (a := sa) (xs := ws) (fun j σ H2 => ∃ (v4 : Option V) (us : List V), σ = [some (.ref b), some (.ref ro), some (.ref sa), some (.ref wl), v4] ∧ Same H1 H2 ∧ H2 wl = some (.lst us) ∧ AtAll (off Hw H2) us ((.str z :: es).take j))
              ⟨v4, [], rfl, s3, hw0, .nil⟩ (fun j σ H2 _ ⟨_, _, _, s4, _⟩ => SqT.of (hsa3 s4)) ?_ ?_⟩
            · rintro j y σ H2 hj ⟨v4, us, rfl, s4, hwl, hus⟩
              have s24 := s2.trans s4
              have hjl : j < ws.length := (List.getElem?_eq_some_iff.mp hj).1
              have lus : us.length ≤ 901 := by
                rw [hus.len, List.length_take, List.length_cons]
                omega
              have domW : ∀ a, H2 a = none → Hw a = none := by
                rw [← hHw]
                exact dom_upd s4 hwl
              obtain ⟨dj, hdj, haj⟩ := hws.get hj
              -- one more word
              have more : ∀ {H3 : Hp} {v : V}, Same H2 H3 → At (off Hw H3) v dj → ∃ (v4 : Option V) (us' : List V), [some (.ref b), some (.ref ro), some (.ref sa), some (.ref wl), some y] = [some (.ref b), some (.ref ro), some (.ref sa), some (.ref wl), v4] ∧ Same H1 (upd H3 wl (.lst (us ++ [v]))) ∧ (upd H3 wl (.lst (us ++ [v]))) wl = some (.lst us') ∧ AtAll (off Hw (upd H3 wl (.lst (us ++ [v])))) us' ((.str z :: es).take (j + 1)) := fun {H3 v} s5 hv => by
                refine ⟨_, _, rfl, same_updL (s4.trans s5) nwl, upd_same, ?_⟩
                rw [take_snoc hdj]
                exact at_app ((hus.mono (off_mono s5)).mono (off_upd hw0)) (.cons (hv.mono (off_upd hw0)) .nil)
              refine isi_rd rfl (ans_list (haj.dat.mono s24)) ⟨_, rfl, ?_⟩
              rw [lstOf_same haj.dat s24]
              rcases at_lst2 haj with ⟨a, ys, es2, rfl, rfl, hy, hys⟩ | ⟨hn1, hno⟩
              · rw [lstOf_of hy]
                refine iteT ?_
                have hcw : cpW (cpB k) z (.list es2) = true := by
                  cases j with
                  | zero => cases hdj
                  | succ j => exact hes _ (List.mem_of_getElem? (by rw [List.getElem?_cons_succ] at hdj; exact hdj))
                unfold cpW at hcw
                dsimp only at hcw
                have hws0 : ∃ x0 xs0, ws = x0 :: xs0 ∧ x0 = .str z := by
                  cases hws with
                  | cons h0 t0 => exact ⟨_, _, rfl, at_str h0⟩
                obtain ⟨x0, xs0, ew0, rfl⟩ := hws0
                refine ⟨_, rfl, .inl ⟨rfl, _, SqL.of hwl⟩, ?_⟩
                refine ⟨_, rfl, sa, ws, 0, .str z, rfl, rfl, SqT.of (hsa3 s4), by rw [ew0]; exact atI_nat (j := 0) rfl, rfl, _, rfl, ?_⟩
                refine ite2 (fun c => ?_) (fun c => ?_)
                · have ez := str_iff.mp (of_decide_eq_true c)
                  rw [if_pos ez, List.all_eq_true] at hcw
                  refine ⟨_, rfl, a, ys, rfl, .inl (SqL.of (s24 _ _ hy)), fun l2 nl2 => ?_⟩
                  have s5 := same_new (o := .lst ys) (Same.refl H2) nl2
                  refine ⟨wl, us, _, rfl, rfl, s5 _ _ hwl, by omega, more s5 (.lst (off_of (domW _ nl2) upd_same) (at_scas hys hcw))⟩
                · have ez : ¬ z = "call" := fun e => c (decide_eq_true (str_iff.mpr e))
                  rw [if_neg ez] at hcw
                  refine ⟨_, rfl, a, es2, rfl, (At.lst hy hys).mono s24, hcw, fun q H3 s5 hq => ?_⟩
                  exact ⟨wl, us, _, rfl, rfl, s5 _ _ hwl, by omega, more s5 (hq.mono (off_dom domW))⟩
              · rw [hn1]
                refine iteF ?_
                have hsc : scaT dj = true := by
                  cases j with
                  | zero =>
                    cases hdj
                    rfl
                  | succ j =>
                    have hcw := hes _ (List.mem_of_getElem? (by rw [List.getElem?_cons_succ] at hdj; exact hdj))
                    unfold cpW at hcw
                    split at hcw
                    · exact absurd rfl (hno _)
                    · exact hcw
                exact ⟨_, rfl, .inl ⟨rfl, _, SqL.of hwl⟩, _, rfl, wl, us, _, rfl, rfl, hwl, by omega, more (Same.refl _) (at_sca haj hsc)⟩
            · rintro σ H2 ⟨v4, us, rfl, s4, hwl, hus⟩
              rw [List.take_of_length_le (by rw [hws.len]; exact Nat.le_refl _)] at hus
              exact ⟨v4, us, rfl, s4, hwl, hus⟩
          rintro σ H2 ⟨v4, us, rfl, s4, hwl, hus⟩
          -- the statement's copy
          have hr2 := s4 _ _ hr1
          have domW : ∀ a, Hw a = none → Hr a = none := fun a n => domR a (none_of' s3 n)
          have domW2 : ∀ a, H2 a = none → Hw a = none := by
            rw [← hHw]
            exact dom_upd s4 hwl
          refine ⟨_, rfl, .inl ⟨rfl, _, SqL.of hr2⟩, _, rfl, wl, us, rfl, .inl ⟨SqL.of hwl, fun tq ntq => ?_⟩⟩
          have s5 := same_new (o := .tup us) (Same.refl H2) ntq
          have hr3 := s5 _ _ hr2
          have il : i < xs.length := (List.getElem?_eq_some_iff.mp hi).1
          have lvs : vs.length ≤ 900 := by
            rw [hvs.len, List.length_take]
            omega
          refine ⟨ro, vs, _, rfl, rfl, hr3, by omega, _, _, _, _, rfl, same_updL ((s2.trans s4).trans s5) nro, upd_same, ?_⟩
          rw [take_snoc hd]
          refine at_app (((hvs.mono (off_mono s4)).mono (off_mono s5)).mono (off_upd hro0)) (.cons (At.mono (off_upd hro0) (.tup (off_of (domW _ (domW2 _ ntq)) upd_same) ((hus.mono (off_mono s5)).mono (off_dom domW)))) .nil)
        · rintro σ H1 ⟨v2, v3, v4, vs, rfl, s2, hr1, hvs⟩
          rw [List.take_of_length_le (by rw [hxs.len]; exact Nat.le_refl _)] at hvs
          exact ⟨v2, v3, v4, vs, rfl, s2, hr1, hvs⟩
      rintro σ H1 ⟨v2, v3, v4, vs, rfl, s2, hr1, hvs⟩
      exact ⟨_, rfl, k' ro H1 s2 (.lst (off_of nro hr1) (hvs.mono (off_base (by rw [← hHr]; exact same_new (Same.refl _) nro))))⟩
end
end K1

set_option Elab.async false
set_option linter.all false
set_option maxRecDepth 100000
set_option maxHeartbeats 8000000
namespace K1
open PySem L2
/-! ### scope_for, with what it holds -/
def scoOf (rows : List Row) (vn wn : List Str) (lv : Int) (cs : List (Str × (Int × Bool × Int))) : Sco := ⟨rows.map (·.n), rows.flatMap (·.fs), vn, wn, lv, cs⟩
def spSF (C : Addr) : Sp := fun vs H Q _ => ∃ (nm a wk r cs : Addr) (rows : List Row) (vn wn : List Str) (rs : List V) (cl : List (Str × (Int × Bool × Int))), vs = [.ref nm, .ref a, .ref wk, .ref r, .ref cs] ∧ ClsN nul H a rows ∧ rows.length ≤ 6 ∧ (∀ q ∈ rows, q.fs.length ≤ 3) ∧ H nm = some (.lst (vn.map V.str)) ∧ H wk = some (.lst (wn.map V.str)) ∧ H r = some (.lst rs) ∧ CallsAt H cs cl ∧
  ∀ p H', Same H H' → H p = none → ScAt H' C p (scoOf rows vn wn rs.length cl) → Q (.ref p) H'
/-- the keys of a dict that is being filled -/
def FK (kvs : List (Key × V)) (ns : List Str) : Prop := ∀ s : Str, (valV kvs (Sum.inr s)).isSome = decide (s ∈ ns)
theorem fk_nil : FK [] [] := fun s => rfl
theorem fk_put {kvs : List (Key × V)} {ns : List Str} (h : FK kvs ns) (t : Str) (v : V) : FK (putK kvs (Sum.inr t) v) (ns ++ [t]) := fun s => by
  rw [valV_put]
  by_cases e : s = t
  · rw [if_pos (by rw [e]), e]
    simp
  · rw [if_neg (fun z => e (by cases z; rfl)), h s]
    simp [e]
theorem flat_take {rows : List Row} {i : Nat} {q : Row} (h : rows[i]? = some q) : (rows.take (i + 1)).flatMap (·.fs) = (rows.take i).flatMap (·.fs) ++ q.fs := by
  rw [take_snoc h, List.flatMap_append]
  simp
section
variable {P : Program} {w : World} {K : PySem.W.Frag} {mg : Str → Option Value} {base : Heap}
theorem okSF {f C : Addr} {fd : FuncData} (F : Fun K "scope_for" "scope_for" (top 32) f fd) (B : Blt mg) (MS : Mkr P w K mg base CX0 1 "Scope" C ["self", "class_names", "field_names", "variable_names", "weak_names", "levels", "calls"] (spScG C)) :
    FnOk P w K mg base CX0 3 f fd ["names", "classes", "weak", "radices", "calls"] (spSF C) := by
  refine F.ok sc32 (fun vs H Q E h => ?_) (fun cdv A outer s H vs Q E hr h => ?_)
  · obtain ⟨nm, a, wk, r, cs, rows, vn, wn, rs, cl, rfl, _⟩ := h
    rfl
  · obtain ⟨nm, a, wk, r, cs, rows, vn, wn, rs, cl, rfl, ⟨_, xs, hxs, hpr⟩, r6, r3, hnm, hwk, hr', hcs, k⟩ := h
    refine ⟨_, pss_cons (ps_setDc2 (i := 5) (own := [("item", 6), ("name", 7)]) (vs1 := [7]) (wi1 := iList K (tOp (rIxT K) (tVar 6) (tC (.int 2)))) (g := gName 6) (g1 := gName 7) rfl sc32.nd rfl rfl (sw_dc rfl rfl rfl (by decide +kernel)) (pi_list (pv 1)) (blkOk_by (N := ["names", "classes", "weak", "radices", "calls", "fields", "item", "name"]) (sc := defScope (top 32)) (by decide +kernel)) (by decide)
        (fun _ _ _ _ _ => pg_name (i := 6) sc32.nd rfl (Or.inl rfl)) (fun _ _ _ _ _ => pi_list (pe_ix ix_tup (pv 6) pe_int (fun _ _ => rfl))) (fun _ _ _ _ _ => pg_name (i := 7) sc32.nd rfl (Or.inl rfl)) (fun _ _ _ _ _ => pv 7) (fun _ _ _ _ _ => pe_bl))
      (pss_one (ps_ret (pe_mkr MS hr (by decide) pass0 (pa_cons (pe_lc (own := [("item", 6)]) (te := tOp (rIxT K) (tVar 6) (tC (.int 0))) (g := gName 6) (tt := tYes) rfl sc32.nd (pi_list (pv 1)) (blkOk_by (N := ["names", "classes", "weak", "radices", "calls", "fields", "item", "name"]) (sc := defScope (top 32)) (by decide +kernel))
          (fun _ _ _ _ _ => pg_name (i := 6) sc32.nd rfl (Or.inl rfl)) (fun _ _ _ _ _ => pts_nil) (fun _ _ _ _ _ => pe_ix ix_tup (pv 6) pe_int (fun _ _ => rfl)))
        (pa_cons (pv 5) (pa_cons (pv 0) (pa_cons (pv 2) (pa_cons (pe_callB call_len_seq rfl B.len PySem.boot_len (pa_cons (pv 3) pa_nil)) (pa_cons (pv 4) pa_nil))))))))), ?_⟩
    have lx : xs.length = rows.length := hpr.length
    refine ⟨_, rfl, a, rfl, ⟨_, SqL.of hxs⟩, fun D hD => ?_⟩
    refine ⟨fun i m H1 => m + i = xs.length ∧ Same H H1 ∧ ∃ kvs : List (Key × V), H1 D = some (.dK kvs) ∧ kvs.length ≤ 3 * i ∧ FK kvs ((rows.take i).flatMap (·.fs)), ⟨xs.length, rfl, fun b o e => by rw [upd_ne (ne_of_none e hD)]; exact e, [], upd_same, Nat.zero_le _, fk_nil⟩, ?_⟩
    rintro i m H1 ⟨hm, s1, kvs, hD1, hk, fk⟩
    by_cases hlt : i < xs.length
    · have hx : xs[i]? = some xs[i] := List.getElem?_eq_getElem hlt
      refine .inr ⟨⟨xs, xs[i], SqL.of (s1 _ _ hxs), hx⟩, fun H2 => Same H H2 ∧ ∃ kvs : List (Key × V), H2 D = some (.dK kvs) ∧ kvs.length ≤ 3 * (i + 1) ∧ FK kvs ((rows.take (i + 1)).flatMap (·.fs)), fun H2 ⟨s2, q⟩ => ⟨xs.length - (i + 1), by omega, by omega, s2, q⟩, fun x H2 y => ?_⟩
      obtain ⟨e, y⟩ := y
      subst e
      have hxx := y xs (SqL.of (s1 _ _ hxs))
      obtain ⟨q, hq, p, fl, rfl, _, _, hp, hfl⟩ := paired_at hpr hxx
      have hfs := r3 q (List.mem_of_getElem? hq)
      refine ⟨rfl, _, rfl, p, _, 2, .ref fl, rfl, rfl, SqT.of (s1 _ _ hp), rfl, fl, rfl, ⟨_, SqL.of (s1 _ _ hfl)⟩, ?_⟩
      refine ⟨fun j m H2 => m + j = q.fs.length ∧ Same H H2 ∧ ∃ kvs : List (Key × V), H2 D = some (.dK kvs) ∧ kvs.length ≤ 3 * i + j ∧ FK kvs ((rows.take i).flatMap (·.fs) ++ q.fs.take j), ⟨q.fs.length, rfl, s1, kvs, hD1, by omega, by rw [List.take_zero, List.append_nil]; exact fk⟩, ?_⟩
      rintro j m2 H2 ⟨hm2, s2, kvs2, hD2, hk2, fk2⟩
      have hfl2 := s2 _ _ hfl
      by_cases hlt2 : j < (q.fs.map V.str).length
      · have hy : (q.fs.map V.str)[j]? = some (q.fs.map V.str)[j] := List.getElem?_eq_getElem hlt2
        rw [List.length_map] at hlt2
        refine .inr ⟨⟨q.fs.map V.str, _, SqL.of hfl2, hy⟩, fun H3 => Same H H3 ∧ ∃ kvs : List (Key × V), H3 D = some (.dK kvs) ∧ kvs.length ≤ 3 * i + (j + 1) ∧ FK kvs ((rows.take i).flatMap (·.fs) ++ q.fs.take (j + 1)), fun H3 ⟨s3, q'⟩ => ⟨q.fs.length - (j + 1), by omega, by omega, s3, q'⟩, fun y H3 yy => ?_⟩
        obtain ⟨e, yy⟩ := yy
        subst e
        have hyy := yy _ (SqL.of hfl2)
        rw [List.getElem?_map] at hyy
        obtain ⟨t, ht, rfl⟩ := Option.map_eq_some_iff.mp hyy
        refine ⟨rfl, _, rfl, kvs2, Sum.inr t, rfl, hD2, by rw [sizeLine_eq]; omega, fun b o e => ?_, _, upd_same, ?_, ?_⟩
        · rw [upd_ne (ne_of_none e hD)]
          exact s2 b o e
        · have := length_putK_le kvs2 (Sum.inr t) (.bl true)
          omega
        · rw [take_snoc ht, ← List.append_assoc]
          exact fk_put fk2 t _
      · rw [List.length_map] at hlt2
        refine .inl ⟨⟨q.fs.map V.str, SqL.of hfl2, by rw [List.length_map]; omega⟩, s2, kvs2, hD2, by omega, ?_⟩
        have etk : q.fs.take j = q.fs := List.take_of_length_le (by omega)
        rw [etk] at fk2
        rw [flat_take hq]
        exact fk2
    · have e : i = xs.length := by omega
      subst e
      refine .inl ⟨⟨xs, SqL.of (s1 _ _ hxs), Nat.le_refl _⟩, ?_⟩
      rw [List.take_of_length_le (by omega)] at fk
      refine ⟨_, rfl, a, rfl, ⟨_, SqL.of (s1 _ _ hxs)⟩, fun L hLn => ?_⟩
      refine lc_list (xs := xs) (fun i H2 => Same H1 H2 ∧ H2 L = some (.lst ((rows.take i).map fun q => V.str q.n))) ⟨same_new (Same.refl _) hLn, upd_same⟩ (fun i H2 _ ⟨s2, _⟩ => SqL.of (s2 _ _ (s1 _ _ hxs))) ?_ ?_
      · rintro j x H2 hx ⟨s2, hacc⟩
        obtain ⟨q, hq, p, fl, rfl, _, _, hp, hfl⟩ := paired_at hpr hx
        refine ⟨rfl, ?_⟩
        unfold tYes
        dsimp only
        rw [if_pos rfl]
        refine ⟨_, rfl, p, _, 0, .str q.n, rfl, rfl, SqT.of (s2 _ _ (s1 _ _ hp)), rfl, _, hacc, ?_, fun c o e => ?_, ?_⟩
        · rw [List.length_map, List.length_take, sizeLine_eq]
          omega
        · rw [upd_ne (ne_of_none e hLn)]
          exact s2 c o e
        · rw [upd_same, take_snoc hq, List.map_append]
          rfl
      · rintro H2 ⟨s2, hacc⟩
        have s12 := s1.trans s2
        rw [List.take_of_length_le (by omega)] at hacc
        refine ⟨_, rfl, _, rfl, _, rfl, _, rfl, r, rs, rfl, .inl (SqL.of (s12 _ _ hr')), _, rfl, fun x dx nx ndx nex => ?_⟩
        refine ⟨x, dx, _, _, _, _, _, _, rfl, upd_same, fun H3 h3 kp => ⟨rfl, ?_⟩⟩
        have sm := made_same nx ndx kp
        refine k x H3 (s12.trans sm) (none_of' s12 nx) ⟨dx, L, D, nm, wk, cs, h3, ?_, ⟨kvs, (s2.trans sm) _ _ hD1, fk⟩, (s12.trans sm) _ _ hnm, (s12.trans sm) _ _ hwk, hcs.mono (s12.trans sm)⟩
        rw [sm _ _ hacc]
        show some (HO.lst (rows.map fun q => V.str q.n)) = some (HO.lst ((rows.map (·.n)).map V.str))
        rw [List.map_map]
        rfl
end
end K1

set_option Elab.async false
set_option linter.all false
set_option maxRecDepth 100000
set_option maxHeartbeats 8000000
namespace K1
open PySem L2
/-! ### is_head -/
def badT (bar : List Str) : List PyData → List Str → Nat → Option Nat
  | [], _, _ => none
  | .str s :: r, seen, i => if (nameS s && !seen.contains s && !bar.contains s) = true then badT bar r (seen ++ [s]) (i + 1) else some i
  | _ :: _, _, i => some i
theorem bad_at {H : Hp} {bar : List Str} : ∀ {vs : List V} {ds : List PyData} {seen : List Str} {i : Nat}, AtAll H vs ds → badFrom bar vs seen i = badT bar ds seen i
  | _, _, _, _, .nil => rfl
  | _, _, seen, i, .cons (v := v) (vs := vs) (d := d) (ds := ds) h t => by
    cases h with
    | str s q =>
      show (if (nameS s && !seen.contains s && !bar.contains s) = true then badFrom bar vs (seen ++ [s]) (i + 1) else some i) = (if (nameS s && !seen.contains s && !bar.contains s) = true then badT bar ds (seen ++ [s]) (i + 1) else some i)
      rw [bad_at t]
    | _ => rfl
def strsT (ds : List PyData) : List Str := ds.filterMap fun d => match d with
  | .str s => some s
  | _ => none
theorem badT_none {bar : List Str} : ∀ {ds : List PyData} {seen : List Str} {i : Nat}, badT bar ds seen i = none → ds = (strsT ds).map PyData.str
  | [], _, _, _ => rfl
  | .str s :: r, seen, i, h => by
    have h : (if (nameS s && !seen.contains s && !bar.contains s) = true then badT bar r (seen ++ [s]) (i + 1) else some i) = none := h
    split at h
    · show PyData.str s :: r = PyData.str s :: (strsT r).map PyData.str
      rw [← badT_none h]
    · cases h
  | .none :: _, _, _, h => by cases h
  | .bool _ :: _, _, _, h => by cases h
  | .int _ :: _, _, _, h => by cases h
  | .list _ :: _, _, _, h => by cases h
  | .tuple _ :: _, _, _, h => by cases h
  | .dict _ :: _, _, _, h => by cases h
theorem at_strs {H : Hp} : ∀ {vs : List V} {ss : List Str}, AtAll H vs (ss.map PyData.str) → vs = ss.map V.str
  | _, [], .nil => rfl
  | _, s :: ss, .cons h t => by rw [at_str h, at_strs t] <;> rfl
def headN (ps : List PyData) (wn : List Str) (r : PyData) : Bool := (decide (ps.length ≤ 8) && (badT wn ps [] 0).isNone) && (noneT r || oneT r (strsT ps))
def headW (cs : List (Str × (Int × Bool × Int))) (wn : List Str) (n p i r : PyData) : Bool := (nameT n && !oneT n (cs.map (·.1))) && match p with
  | .list ps => (match i with
    | .list is => headN (ps ++ is) wn r
    | _ => false)
  | _ => false
def headT (cs : List (Str × (Int × Bool × Int))) (wn : List Str) (d : PyData) : Bool := match d with
  | .tuple es => (match es with
    | [n, p, i, _, r] => headW cs wn n p i r
    | _ => false)
  | _ => false
theorem headT_not {cs : List (Str × (Int × Bool × Int))} {wn : List Str} {d : PyData} (h : ∀ es, d ≠ .tuple es) : headT cs wn d = false := by
  unfold headT
  split
  · exact absurd rfl (h _)
  · rfl
theorem headT_len {cs : List (Str × (Int × Bool × Int))} {wn : List Str} {es : List PyData} (h : es.length ≠ 5) : headT cs wn (.tuple es) = false := by
  match es, h with
  | [], _ => rfl
  | [_], _ => rfl
  | [_, _], _ => rfl
  | [_, _, _], _ => rfl
  | [_, _, _, _], _ => rfl
  | [_, _, _, _, _], h => exact absurd rfl h
  | _ :: _ :: _ :: _ :: _ :: _ :: _, _ => rfl
def spHead : Sp := fun vs H Q _ => ∃ (v : V) (d : PyData) (sd wk : Addr) (cs : List (Str × (Int × Bool × Int))) (wn : List Str), vs = [v, .ref sd, .ref wk] ∧ At H v d ∧ CallsAt H sd cs ∧ H wk = some (.lst (wn.map V.str)) ∧ (∀ es, d = .tuple es → ∀ ys, PyData.list ys ∈ es → ys.length ≤ 1000) ∧ ∀ H', Same H H' → Q (.bl (headT cs wn d)) H'
theorem nameT_str {d : PyData} (h : nameT d = true) : ∃ s, d = .str s := by
  cases d with
  | str s => exact ⟨s, rfl⟩
  | _ => cases h
abbrev ihN : List Str := ["value", "seen", "weak", "name", "parameters", "inner", "_", "result"]
section
variable {P : Program} {w : World} {K : PySem.W.Frag} {mg : Str → Option Value} {base : Heap}
theorem sc31 : FnScope ihN ["value", "seen", "weak"] (defScope (top 31)) := ⟨rfl, rfl, rfl, by decide +kernel, rfl, by decide +kernel, by decide +kernel⟩
theorem ok31 {f : Addr} {fd : FuncData} (F : Fun K "is_head" "is_head" (top 31) f fd) (B : Blt mg) (C3 : Cal P w K mg base CX0 1 "is_name" ["value"] spName) (C4 : Cal P w K mg base CX0 1 "is_one_of" ["value", "names"] spOne) (C25 : Cal P w K mg base CX0 2 "first_bad_name" ["value", "most", "barred"] spFirst) :
    FnOk P w K mg base CX0 3 f fd ["value", "seen", "weak"] spHead := by
  refine F.ok sc31 (fun vs H Q E h => ?_) (fun cdv A outer s H vs Q E hr h => ?_)
  · obtain ⟨v, d, sd, wk, cs, wn, rfl, _⟩ := h
    rfl
  · obtain ⟨v, d, sd, wk, cs, wn, rfl, hd, hcs, hwk, few, k⟩ := h
    have hu := hu_of hr
    refine ⟨_, pss_mid (ps_if (PW.pt (pw_or (pt_not (pt_val (pt_isi B (pv 0) B.tuple PyProof.Rows.boot_tuple))) (pw_or1 (pt_cmpR op_ne (pe_callB call_len_seq rfl B.len PySem.boot_len (pa_cons (pv 0) pa_nil)) pe_int (nomark _))))) (pss_one (ps_ret pe_bl)) pss_nil)
      (pss_mid (ps_asg (pv 0) (pg_tup rfl (pgs_cons (pg_name (i := 3) sc31.nd rfl (Or.inl rfl)) (pgs_cons (pg_name (i := 4) sc31.nd rfl (Or.inl rfl)) (pgs_cons (pg_name (i := 5) sc31.nd rfl (Or.inl rfl)) (pgs_cons (pg_name (i := 6) sc31.nd rfl (Or.inl rfl)) (pgs_cons (pg_name (i := 7) sc31.nd rfl (Or.inl rfl)) pgs_nil)))))))
      (pss_mid (ps_if (PW.pt (pw_or (pt_not (pt_val (pe_cal C3 hr (by decide) pass0 (pa_cons (pv 3) pa_nil)))) (pw_or1 (pt_cmp (pc_din hu (pv 3) (pv 1)))))) (pss_one (ps_ret pe_bl)) pss_nil)
      (pss_mid (ps_if (PW.pt (pw_or (pt_not (pt_val (pt_isi B (pv 4) B.list PyProof.Rows.boot_list))) (pw_or1 (pt_not (pt_val (pt_isi B (pv 5) B.list PyProof.Rows.boot_list)))))) (pss_one (ps_ret pe_bl)) pss_nil)
      (pss_mid (ps_if (pt_cmpR op_notN (pe_cal C25 hr (by decide) pass0 (pa_cons (pe_op op_cat (pv 4) (pv 5)) (pa_cons pe_int (pa_cons (pv 2) pa_nil)))) pe_non (nomark _)) (pss_one (ps_ret pe_bl)) pss_nil)
      (pss_one (ps_ret (pe_or (pe_cmpR op_isN (pv 7) pe_non (nomark _)) (pe_one (pe_cal C4 hr (by decide) pass0 (pa_cons (pv 7) (pa_cons (pe_op op_cat (pv 4) (pv 5)) pa_nil))))))))))), ?_⟩
    have big : 2001 ≤ sizeLine := by decide
    have no : ∀ H1, Same H H1 → headT cs wn d = false → Q (.bl false) H1 := fun H1 s1 e => by
      have q := k H1 s1
      rw [e] at q
      exact q
    -- a tuple of five
    refine ⟨fun σ H1 => σ = [some v, some (.ref sd), some (.ref wk), none, none, none, none, none] ∧ H1 = H ∧ ∃ (a : Addr) (ys : List V) (es : List PyData), v = .ref a ∧ d = .tuple es ∧ H a = some (.tup ys) ∧ AtAll H ys es ∧ ys.length = 5, ?_, ?_⟩
    · refine isi_rd rfl (ans_tup hd.dat) ⟨_, rfl, ?_⟩
      rcases at_tup hd with ⟨a, ys, es, rfl, rfl, hy, hys⟩ | ⟨hn, hno⟩
      · rw [tupOf_of hy]
        refine iteF ?_
        refine ⟨_, rfl, a, ys, rfl, .inr (SqT.of hy), rfl, _, rfl, ?_⟩
        refine ite2 (fun c => ?_) (fun c => ?_)
        · refine no H (Same.refl H) (headT_len fun e => ?_)
          rw [hys.len, e] at c
          exact absurd c (by decide)
        · refine ⟨rfl, rfl, a, ys, es, rfl, rfl, hy, hys, ?_⟩
          cases z : decide (V.int (ys.length : Int) = V.int 5) with
          | true =>
            have e := of_decide_eq_true z
            injection e with e
            omega
          | false => rw [z] at c; exact absurd rfl c
      · rw [hn]
        refine iteT ?_
        exact iteT (no H (Same.refl H) (headT_not hno))
    rintro σ H1 ⟨rfl, rfl, a, ys, es, rfl, rfl, hy, hys, l5⟩
    have few := few es rfl
    match ys, l5, es, hys with
    | [x0, x1, x2, x3, x4], _, _, .cons (d := d0) a0 (.cons (d := d1) a1 (.cons (d := d2) a2 (.cons (d := d3) a3 (.cons (d := d4) a4 .nil)))) =>
    have k : ∀ H', Same H1 H' → Q (.bl (headW cs wn d0 d1 d2 d4)) H' := k
    have no : ∀ H', Same H1 H' → headW cs wn d0 d1 d2 d4 = false → Q (.bl false) H' := no
    refine ⟨fun σ H2 => σ = [some (.ref a), some (.ref sd), some (.ref wk), some x0, some x1, some x2, some x3, some x4] ∧ H2 = H1, ⟨_, rfl, a, _, rfl, SqT.of hy, rfl, x0, _, rfl, x1, _, rfl, x2, _, rfl, x3, _, rfl, x4, _, rfl, rfl, rfl, rfl⟩, ?_⟩
    rintro σ H2 ⟨rfl, rfl⟩
    -- its name
    refine ⟨fun σ H3 => σ = [some (.ref a), some (.ref sd), some (.ref wk), some x0, some x1, some x2, some x3, some x4] ∧ Same H2 H3 ∧ (nameT d0 && !oneT d0 (cs.map (·.1))) = true, ?_, ?_⟩
    · refine ⟨_, rfl, x0, rfl, a0.dat, fun H3 s3 => ⟨_, rfl, ?_⟩⟩
      rw [name_at a0]
      cases e0 : nameT d0 with
      | false =>
        refine iteT ?_
        refine iteT (no H3 s3 ?_)
        unfold headW
        rw [e0] <;> rfl
      | true =>
        refine iteF ?_
        obtain ⟨z, rfl⟩ := nameT_str e0
        obtain rfl := at_str a0
        obtain ⟨kvs, hk, hv⟩ := calls_keys (hcs.mono s3)
        refine ⟨_, rfl, _, rfl, sd, _, rfl, DGet.k (k := Sum.inr z) hk, _, rfl, ?_⟩
        rw [hv z]
        have e1 : oneT (.str z) (cs.map (·.1)) = decide (z ∈ cs.map (·.1)) := rfl
        rw [e1]
        cases e2 : decide (z ∈ cs.map (·.1)) with
        | true =>
          refine iteT (no H3 s3 ?_)
          unfold headW
          rw [e1, e2, Bool.not_true, Bool.and_false, Bool.false_and]
        | false => exact iteF ⟨rfl, s3, rfl⟩
    rintro σ H3 ⟨rfl, s3, e0⟩
    -- its lists
    refine ⟨fun σ H4 => σ = [some (.ref a), some (.ref sd), some (.ref wk), some x0, some x1, some x2, some x3, some x4] ∧ H4 = H3 ∧ ∃ (p1 p2 : Addr) (u1 u2 : List V) (ps is : List PyData), x1 = .ref p1 ∧ x2 = .ref p2 ∧ d1 = .list ps ∧ d2 = .list is ∧ H2 p1 = some (.lst u1) ∧ H2 p2 = some (.lst u2) ∧ AtAll H2 u1 ps ∧ AtAll H2 u2 is, ?_, ?_⟩
    · refine isi_rd rfl (ans_list (a1.dat.mono s3)) ⟨_, rfl, ?_⟩
      rw [lstOf_same a1.dat s3]
      rcases at_lst2 a1 with ⟨p1, u1, ps, rfl, rfl, h1, hu1⟩ | ⟨hn1, hno1⟩
      · rw [lstOf_of h1]
        refine iteF ?_
        refine isi_rd rfl (ans_list (a2.dat.mono s3)) ⟨_, rfl, ?_⟩
        rw [lstOf_same a2.dat s3]
        rcases at_lst2 a2 with ⟨p2, u2, is, rfl, rfl, h2, hu2⟩ | ⟨hn2, hno2⟩
        · rw [lstOf_of h2]
          exact iteF ⟨rfl, rfl, p1, p2, u1, u2, ps, is, rfl, rfl, rfl, rfl, h1, h2, hu1, hu2⟩
        · rw [hn2]
          refine iteT (no H3 s3 ?_)
          unfold headW
          rw [e0, Bool.true_and]
          dsimp only
          split
          · exact absurd rfl (hno2 _)
          · rfl
      · rw [hn1]
        refine iteT ?_
        refine iteT (no H3 s3 ?_)
        unfold headW
        rw [e0, Bool.true_and]
        split
        · exact absurd rfl (hno1 _)
        · rfl
    rintro σ H4 ⟨rfl, rfl, p1, p2, u1, u2, ps, is, rfl, rfl, rfl, rfl, h1, h2, hu1, hu2⟩
    have k : ∀ H', Same H2 H' → Q (.bl (headN (ps ++ is) wn d4)) H' := fun H' s' => by
      have q := k H' s'
      unfold headW at q
      rw [e0, Bool.true_and] at q
      exact q
    have l1 : ps.length ≤ 1000 := few ps (by simp)
    have l2 : is.length ≤ 1000 := few is (by simp)
    have hap := at_app hu1 hu2
    -- their names
    refine ⟨fun σ H5 => σ = [some (.ref a), some (.ref sd), some (.ref wk), some x0, some (.ref p1), some (.ref p2), some x3, some x4] ∧ Same H2 H5 ∧ (decide ((ps ++ is).length ≤ 8) && (badT wn (ps ++ is) [] 0).isNone) = true, ?_, ?_⟩
    · refine ⟨_, rfl, _, rfl, p1, p2, u1, u2, rfl, rfl, s3 _ _ h1, s3 _ _ h2, by rw [hu1.len, hu2.len]; omega, fun q nq => ?_⟩
      have s4 := same_new (o := .lst (u1 ++ u2)) s3 nq
      refine ⟨_, rfl, .ref q, 8, wk, wn, rfl, .lst upd_same ((hap.mono s4).dats), s4 _ _ hwk, by decide, fun H5 s5 => ?_⟩
      have ef : firstBad (upd H4 q (.lst (u1 ++ u2))) (.ref q) 8 wn = if (8 : Int) < ((ps ++ is).length : Int) then .int (-1) else optV (badT wn (ps ++ is) [] 0) := by
        unfold firstBad
        rw [lstOf_of upd_same]
        show (if (8 : Int) < ((u1 ++ u2).length : Int) then V.int (-1) else optV (badFrom wn (u1 ++ u2) [] 0)) = _
        rw [bad_at hap, hap.len]
      rw [ef]
      refine ⟨rfl, _, rfl, ?_⟩
      by_cases c8 : (8 : Int) < ((ps ++ is).length : Int)
      · rw [if_pos c8]
        refine iteT ?_
        have q1 := k H5 (s4.trans s5)
        unfold headN at q1
        rw [decide_eq_false (by omega), Bool.false_and, Bool.false_and] at q1
        exact q1
      · rw [if_neg c8]
        have e8 : decide ((ps ++ is).length ≤ 8) = true := decide_eq_true (by omega)
        cases eb : badT wn (ps ++ is) [] 0 with
        | none => exact iteF ⟨rfl, s4.trans s5, by rw [e8] <;> rfl⟩
        | some i =>
          refine iteT ?_
          have q1 := k H5 (s4.trans s5)
          unfold headN at q1
          rw [eb] at q1
          rw [e8] at q1
          exact q1
    rintro σ H5 ⟨rfl, s5, en⟩
    have k : ∀ H', Same H2 H' → Q (.bl (noneT d4 || oneT d4 (strsT (ps ++ is)))) H' := fun H' s' => by
      have q := k H' s'
      unfold headN at q
      rw [en, Bool.true_and] at q
      exact q
    rw [Bool.and_eq_true, Option.isNone_iff_eq_none] at en
    have es' := badT_none en.2
    have hus : u1 ++ u2 = (strsT (ps ++ is)).map V.str := at_strs (by rw [← es']; exact hap)
    -- its result
    refine ⟨_, rfl, rfl, _, rfl, ?_⟩
    rw [← none_at a4]
    cases e4 : noneT d4 with
    | true =>
      refine iteT ?_
      have q := k H5 s5
      rw [e4, Bool.true_or] at q
      exact q
    | false =>
      refine iteF ?_
      refine ⟨_, rfl, _, rfl, _, rfl, p1, p2, u1, u2, rfl, rfl, s5 _ _ h1, s5 _ _ h2, by rw [hu1.len, hu2.len]; omega, fun q nq => ?_⟩
      have s6 := same_new (o := .lst (u1 ++ u2)) s5 nq
      refine ⟨x4, q, strsT (ps ++ is), rfl, a4.dat.mono s6, .inl (by rw [upd_same, hus]), ?_⟩
      have q1 := k _ s6
      rw [e4, Bool.false_or, ← one_at a4] at q1
      exact q1
end
end K1

set_option Elab.async false
set_option linter.all false
set_option maxRecDepth 100000
set_option maxHeartbeats 8000000
namespace K1
open PySem L2
/-! ### check_functions -/
theorem su_depth (a b c e : V) : (suF a b c e).lookup ("depth" : Str) = some c := by
  unfold suF
  rw [lookup_putF, if_neg (by decide +kernel), lookup_putF, if_pos rfl]
abbrev Cl : Type := List (Str × (Int × Bool × Int))
inductive FRes where
  | bad (l : List Int)
  | ok (cs : Cl) (many : Int)
structure Env where
  rows : List Row
  wn : List Str
  lv : Int
def funR (e : Env) (n : Nat) (cs : Cl) (nm : Str) (ps is : List PyData) (b : PyData) : Option Sv := runT (scoOf e.rows (strsT (ps ++ is)) e.wn e.lv cs) n [⟨b, [], 0, 0, 0⟩] 0 0
def noteT (cs : Cl) (nm : Str) (ps : List PyData) (r : PyData) (dp : Int) : Cl := cs ++ [(nm, ((ps.length : Int), !noneT r, dp))]
def partsT (d : PyData) : Option (Str × List PyData × List PyData × PyData × PyData) := match d with
  | .tuple es => (match es with
    | [n, p, i, b, r] => (match n with
      | .str nm => (match p with
        | .list ps => (match i with
          | .list is => some (nm, ps, is, b, r)
          | _ => none)
        | _ => none)
      | _ => none)
    | _ => none)
  | _ => none
def funT (e : Env) (n : Nat) : List PyData → Nat → Cl → Int → Option FRes
  | [], _, cs, many => some (.ok cs many)
  | d :: r, i, cs, many => if headT cs e.wn d = true then (match partsT d with
    | some (nm, ps, is, b, res) => (match funR e n cs nm ps is b with
      | some (some pl, _, _) => some (.bad ((i : Int) :: pl))
      | some (none, m, dp) => funT e n r (i + 1) (noteT cs nm ps res dp) (many + m)
      | none => none)
    | none => none) else some (.bad [(i : Int)])
theorem head_parts {cs : Cl} {wn : List Str} {d : PyData} (h : headT cs wn d = true) : ∃ nm ps is b r, d = .tuple [.str nm, .list ps, .list is, b, r] ∧ partsT d = some (nm, ps, is, b, r) ∧ oneT (.str nm) (cs.map (·.1)) = false ∧ (ps ++ is).length ≤ 8 ∧ badT wn (ps ++ is) [] 0 = none := by
  unfold headT at h
  split at h
  case h_2 => cases h
  split at h
  case h_2 => cases h
  rename_i n p i b r
  unfold headW at h
  rw [Bool.and_eq_true, Bool.and_eq_true] at h
  obtain ⟨⟨h1, h2⟩, h3⟩ := h
  obtain ⟨nm, rfl⟩ := nameT_str h1
  split at h3
  case h_2 => cases h3
  split at h3
  case h_2 => cases h3
  rename_i ps _ is
  unfold headN at h3
  rw [Bool.and_eq_true, Bool.and_eq_true] at h3
  refine ⟨nm, ps, is, b, r, rfl, rfl, by simpa using h2, of_decide_eq_true h3.1.1, ?_⟩
  exact Option.isNone_iff_eq_none.mp h3.1.2
theorem lookup_snoc {s n : Str} {r : Int × Bool × Int} : ∀ {cs : Cl}, (cs ++ [(n, r)]).lookup s = (match cs.lookup s with | some x => some x | none => if s = n then some r else none)
  | [] => by
    show ([(n, r)] : Cl).lookup s = _
    rw [List.lookup_cons]
    by_cases e : s = n
    · subst e
      simp
    · rw [show (s == n) = false by simpa using e]
      show none = (if s = n then some r else none)
      rw [if_neg e]
  | (m, x) :: cs => by
    rw [List.cons_append, List.lookup_cons, List.lookup_cons]
    cases s == m with
    | true => rfl
    | false => exact lookup_snoc
theorem calls_put {H : Hp} {a t : Addr} {cs : Cl} {kvs : List (Key × V)} {n : Str} {m : Int} {b : Bool} {d : Int} (h : H a = some (.dK kvs)) (k : ∀ s : Str, match cs.lookup s with | none => valV kvs (Sum.inr s) = none | some (m, h, d) => ∃ t, valV kvs (Sum.inr s) = some (.ref t) ∧ H t = some (.tup [.int m, .bl h, .int d]))
    (nn : cs.lookup n = none) (ht : H t = some (.tup [.int m, .bl b, .int d])) : CallsAt (upd H a (.dK (putK kvs (Sum.inr n) (.ref t)))) a (cs ++ [(n, (m, b, d))]) := by
  have keep : ∀ {c : Addr} {xs : List V}, H c = some (.tup xs) → (upd H a (.dK (putK kvs (Sum.inr n) (.ref t)))) c = some (.tup xs) := fun e => by
    rw [upd_ne (ne_of e h (by intro z; cases z))]
    exact e
  refine ⟨_, upd_same, fun s => ?_⟩
  rw [lookup_snoc, valV_put]
  have q := k s
  by_cases e : s = n
  · subst e
    rw [nn]
    dsimp only
    rw [if_pos rfl, if_pos rfl]
    exact ⟨t, rfl, keep ht⟩
  · have en : ¬ (Sum.inr s : Key) = Sum.inr n := fun z => e (by cases z; rfl)
    cases hl : cs.lookup s with
    | none =>
      rw [hl] at q
      dsimp only
      rw [if_neg e, if_neg en]
      exact q
    | some x =>
      obtain ⟨m', b', d'⟩ := x
      rw [hl] at q
      obtain ⟨t', e1, e2⟩ := q
      dsimp only
      rw [if_neg en]
      exact ⟨t', e1, keep e2⟩
def spCFn (C : Addr) : Sp := fun vs H Q E => ∃ (v : V) (d : PyData) (ca wk rd : Addr) (en : Env) (rs : List V) (n : Nat), vs = [v, .ref ca, .ref wk, .ref rd] ∧ At H v d ∧ ClsN nul H ca en.rows ∧ en.rows.length ≤ 6 ∧ (∀ q ∈ en.rows, q.fs.length ≤ 3) ∧ H wk = some (.lst (en.wn.map V.str)) ∧ H rd = some (.lst rs) ∧ (rs.length : Int) = en.lv ∧ n ≤ 100000 ∧
  (match d with
  | .list ds => if ds.length ≤ 4 then (∀ q ∈ ds, ∀ es, q = .tuple es → ∀ ys, PyData.list ys ∈ es → ys.length ≤ 1000) ∧ (match funT en n ds 0 [] 0 with
      | some (.bad l) => ∀ t H1, Same H H1 → H1 t = some (.tup (l.map V.int)) → Rz C H1 (.str "functions") (.ref t) E
      | some (.ok cs many) => ∀ t cf H', Same H H' → H' t = some (.tup [.ref cf, .int many]) → CallsAt H' cf cs → (∀ z r, cs.lookup z = some r → r.1 ≤ 100) → Q (.ref t) H'
      | none => False)
    else Rz C H (.str "functions") (.int (-1)) E
  | _ => Rz C H (.str "functions") (.int (-1)) E)
section
variable {P : Program} {w : World} {K : PySem.W.Frag} {mg : Str → Option Value} {base : Heap}
theorem ok33c {f C CS CU : Addr} {fd : FuncData} (F : Fun K "check_functions" "check_functions" (top 33) f fd) (B : Blt mg) (IP : Ipc P w K mg base C) (UU : NoU K CU) (C31 : Cal P w K mg base CX0 3 "is_head" ["value", "seen", "weak"] spHead)
    (C21 : Cal P w K mg base CX0 6 "survey" ["body", "scope"] (spSv CS CU)) (C32 : Cal P w K mg base CX0 3 "scope_for" ["names", "classes", "weak", "radices", "calls"] (spSF CS)) : FnOk P w K mg base (L2.CX P w) 7 f fd ["functions", "classes", "weak", "radices"] (spCFn C) := by
  refine F.okX sc33 (fun vs H Q E h => ?_) (fun cdv A outer s H vs Q E hr h => ?_)
  · obtain ⟨v, d, ca, wk, rd, en, rs, n, rfl, _⟩ := h
    rfl
  · obtain ⟨v, d, ca, wk, rd, en, rs, n, rfl, hd, hca, r6, r3, hwk, hrd, hlv, hn, k⟩ := h
    have hu := hu_of hr
    refine ⟨_, pss_mid (ps_if (PW.pt (pw_or (pt_not (pt_val (pt_isi B (pv 0) B.list PyProof.Rows.boot_list))) (pw_or1 (pt_cmpR op_gt (pe_callB call_len_seq rfl B.len PySem.boot_len (pa_cons (pv 0) pa_nil)) pe_int (nomark _))))) (pss_one (ps_rip IP rfl (takes_of rfl rfl rfl rfl) hr (by decide) pe_str (pe_un un_neg pe_int))) pss_nil)
      (pss_cons (ps_set (i := 4) sc33.nd rfl (Or.inl rfl) pe_dnewK)
      (pss_cons (ps_set (i := 5) sc33.nd rfl (Or.inl rfl) pe_int)
      (pss_cons (ps_for (passes_of rfl) rfl (pi_enum rfl B.enumerate (pa_cons (pv 0) pa_nil)) (pg_tup rfl (pgs_cons (pg_name (i := 6) sc33.nd rfl (Or.inl rfl)) (pgs_cons (pg_name (i := 7) sc33.nd rfl (Or.inl rfl)) pgs_nil)))
        (pss_mid (ps_if (pt_not (pt_val (pe_cal C31 hr (by decide) pass0 (pa_cons (pv 7) (pa_cons (pv 4) (pa_cons (pv 2) pa_nil)))))) (pss_one (ps_rip IP rfl (takes_of rfl rfl rfl rfl) hr (by decide) pe_str (pe_tup (pa_cons (pv 6) pa_nil)))) pss_nil)
        (pss_mid (ps_asg (pv 7) (pg_tup rfl (pgs_cons (pg_name (i := 8) sc33.nd rfl (Or.inl rfl)) (pgs_cons (pg_name (i := 9) sc33.nd rfl (Or.inl rfl)) (pgs_cons (pg_name (i := 10) sc33.nd rfl (Or.inl rfl)) (pgs_cons (pg_name (i := 11) sc33.nd rfl (Or.inl rfl)) (pgs_cons (pg_name (i := 12) sc33.nd rfl (Or.inl rfl)) pgs_nil)))))))
        (pss_mid (ps_set (i := 13) sc33.nd rfl (Or.inl rfl) (pe_cal C21 hr (by decide) pass0 (pa_cons (pv 11) (pa_cons (pe_cal C32 hr (by decide) pass0 (pa_cons (pe_op op_cat (pv 9) (pv 10)) (pa_cons (pv 1) (pa_cons (pv 2) (pa_cons (pv 3) (pa_cons (pv 4) pa_nil)))))) pa_nil))))
        (pss_mid (ps_if (pt_cmpR op_notN (pe_fld (pv 13) rfl) pe_non (nomark _)) (pss_one (ps_rip IP rfl (takes_of rfl rfl rfl rfl) hr (by decide) pe_str (pe_op op_catA (pe_tup (pa_cons (pv 6) pa_nil)) (pe_fld (pv 13) rfl)))) pss_nil)
        (pss_mid (ps_dput hu (pv 4) (pv 8) (pe_tup (pa_cons (pe_callB call_len_seq rfl B.len PySem.boot_len (pa_cons (pv 9) pa_nil)) (pa_cons (pe_cmpR op_notN (pv 12) pe_non (nomark _)) (pa_cons (pe_fld (pv 13) rfl) pa_nil)))) rfl)
        (pss_one (ps_aug (i := 5) sc33.nd rfl (Or.inl rfl) (pe_fld (pv 13) rfl) iop_add))))))))
      (pss_one (ps_ret (pe_tup (pa_cons (pv 4) (pa_cons (pv 5) pa_nil)))))))), ?_⟩
    have big : 100000 ≤ sizeLine := by decide
    -- a list of at most four
    refine ⟨fun σ H1 => σ = [some v, some (.ref ca), some (.ref wk), some (.ref rd), none, none, none, none, none, none, none, none, none, none] ∧ H1 = H ∧ ∃ (a : Addr) (ys : List V) (ds : List PyData), v = .ref a ∧ d = .list ds ∧ H a = some (.lst ys) ∧ AtAll H ys ds ∧ ds.length ≤ 4, ?_, ?_⟩
    · refine isi_rd rfl (ans_list hd.dat) ⟨_, rfl, ?_⟩
      rcases at_lst2 hd with ⟨a, ys, ds, rfl, rfl, hy, hys⟩ | ⟨hn1, hno⟩
      · rw [lstOf_of hy]
        refine iteF ?_
        refine ⟨_, rfl, a, ys, rfl, .inl (SqL.of hy), _, _, rfl, rfl, _, rfl, ?_⟩
        refine ite2 (fun c => ?_) (fun c => ?_)
        · have gt : ¬ ds.length ≤ 4 := by
            have := of_decide_eq_true c
            rw [hys.len] at this
            omega
          dsimp only at k
          rw [if_neg gt] at k
          exact ⟨_, rfl, rip_rd (E := E) k⟩
        · refine ⟨rfl, rfl, a, ys, ds, rfl, rfl, hy, hys, ?_⟩
          have : ¬ (4 : Int) < (ys.length : Int) := fun z => c (decide_eq_true z)
          rw [hys.len] at this
          omega
      · rw [hn1]
        refine iteT ?_
        refine iteT ?_
        have kz : Rz C H (.str "functions") (.int (-1)) E := by
          split at k
          · exact absurd rfl (hno _)
          · exact k
        exact ⟨_, rfl, rip_rd (E := E) kz⟩
    rintro σ H1 ⟨rfl, rfl, a, ys, ds, rfl, rfl, hy, hys, l4⟩
    dsimp only at k
    rw [if_pos l4] at k
    obtain ⟨few, k⟩ := k
    intro D hD
    have sD := same_new (o := .dK []) (Same.refl H1) hD
    refine ⟨_, rfl, a, ys, rfl, SqL.of (sD _ _ hy), ?_⟩
    refine for_enum (fun i σ H2 => ∃ (cs : Cl) (many : Int) (kvs : List (Key × V)) (v6 v7 v8 v9 v10 v11 v12 v13 : Option V), σ = [some (.ref a), some (.ref ca), some (.ref wk), some (.ref rd), some (.ref D), some (.int many), v6, v7, v8, v9, v10, v11, v12, v13] ∧ Same H1 H2 ∧ H2 D = some (.dK kvs) ∧
        (∀ s : Str, match cs.lookup s with | none => valV kvs (Sum.inr s) = none | some (m, h, d) => ∃ t, valV kvs (Sum.inr s) = some (.ref t) ∧ H2 t = some (.tup [.int m, .bl h, .int d])) ∧ (∀ z r, cs.lookup z = some r → r.1 ≤ 100) ∧ kvs.length ≤ i ∧ i ≤ 4 ∧ funT en n ds 0 [] 0 = funT en n (ds.drop i) i cs many)
      ⟨[], 0, [], none, none, none, none, none, none, none, none, rfl, sD, upd_same, fun s => rfl, fun z r e => by (cases e), Nat.le_refl _, Nat.zero_le _, rfl⟩ (fun i σ H2 _ ⟨_, _, _, _, _, _, _, _, _, _, _, _, s2, _⟩ => SqL.of (s2 _ _ hy)) ?_ ?_
    · rintro i x σ H2 T hx ⟨cs, many, kvs, v6, v7, v8, v9, v10, v11, v12, v13, rfl, s2, hD2, hkv, small, lk, i4, erun⟩ hT
      refine pair_rd ?_
      obtain ⟨di, hdi, hai⟩ := hys.get hx
      have ild : i < ds.length := (List.getElem?_eq_some_iff.mp hdi).1
      have edrop : ds.drop i = di :: ds.drop (i + 1) := by
        rw [List.drop_eq_getElem_cons ild]
        rw [List.getElem?_eq_getElem ild] at hdi
        rw [Option.some.inj hdi]
      rw [edrop] at erun
      have s3 := same_new (o := .tup [.int (i : Nat), x]) s2 hT
      have s23 := same_new (o := .tup [.int (i : Nat), x]) (Same.refl H2) hT
      have hcs3 : CallsAt (upd H2 T (.tup [.int (i : Nat), x])) D cs := CallsAt.mono ⟨kvs, hD2, hkv⟩ s23
      -- is_head
      refine ⟨fun σ H4 => σ = [some (.ref a), some (.ref ca), some (.ref wk), some (.ref rd), some (.ref D), some (.int many), some (.int (i : Nat)), some x, v8, v9, v10, v11, v12, v13] ∧ Same (upd H2 T (.tup [.int (i : Nat), x])) H4 ∧ headT cs en.wn di = true, ?_, ?_⟩
      · refine ⟨_, rfl, _, rfl, _, rfl, x, di, D, wk, cs, en.wn, rfl, hai.mono s3, hcs3, s3 _ _ hwk, few di (List.mem_of_getElem? hdi), fun H4 s4 => ⟨_, rfl, ?_⟩⟩
        cases eh : headT cs en.wn di with
        | true => exact iteF ⟨rfl, s4, rfl⟩
        | false =>
          refine iteT ?_
          have eb : funT en n ds 0 [] 0 = some (.bad [(i : Int)]) := by
            rw [erun]
            unfold funT
            rw [if_neg (by rw [eh]; exact Bool.false_ne_true)]
          rw [eb] at k
          exact ⟨_, rfl, (by show 1 ≤ sizeLine; decide), fun t nt => rip_rd (E := E) (k t _ (same_new (s3.trans s4) nt) upd_same)⟩
      rintro σ H4 ⟨rfl, s4, eh⟩
      obtain ⟨nm, ps, is, b, r, rfl, epa, en1, en8, enb⟩ := head_parts eh
      rcases at_tup hai with ⟨xa, xw, es0, rfl, ee, hxa, hxw⟩ | ⟨_, hno⟩
      case inr => exact absurd rfl (hno _)
      cases ee
      match xw, hxw with
      | [x0, x1, x2, x3, x4], .cons a0 (.cons a1 (.cons a2 (.cons a3 (.cons a4 .nil)))) =>
      obtain rfl := at_str a0
      have s34 := s3.trans s4
      refine ⟨fun σ H5 => σ = [some (.ref a), some (.ref ca), some (.ref wk), some (.ref rd), some (.ref D), some (.int many), some (.int (i : Nat)), some (.ref xa), some (.str nm), some x1, some x2, some x3, some x4, v13] ∧ H5 = H4, ⟨_, rfl, xa, _, rfl, SqT.of (s34 _ _ hxa), rfl, _, _, rfl, x1, _, rfl, x2, _, rfl, x3, _, rfl, x4, _, rfl, rfl, rfl, rfl⟩, ?_⟩
      rintro σ H5 ⟨rfl, rfl⟩
      rcases at_lst2 a1 with ⟨p1, u1, ps', rfl, ee, h1, hu1⟩ | ⟨_, hno⟩
      case inr => exact absurd rfl (hno _)
      cases ee
      rcases at_lst2 a2 with ⟨p2, u2, is', rfl, ee, h2, hu2⟩ | ⟨_, hno⟩
      case inr => exact absurd rfl (hno _)
      cases ee
      have hap := at_app hu1 hu2
      have es' := badT_none enb
      have hus : u1 ++ u2 = (strsT (ps ++ is)).map V.str := at_strs (by rw [← es']; exact hap)
      have lu : u1.length + u2.length ≤ 8 := by
        rw [hu1.len, hu2.len, ← List.length_append]
        exact en8
      have hcs5 : CallsAt H5 D cs := hcs3.mono s4
      have estep : funT en n ds 0 [] 0 = (match funR en n cs nm ps is b with
          | some (some pl, _, _) => some (FRes.bad ((i : Int) :: pl))
          | some (none, m, dp) => funT en n (ds.drop (i + 1)) (i + 1) (noteT cs nm ps r dp) (many + m)
          | none => none) := by
        rw [erun]
        show (if headT cs en.wn (.tuple [.str nm, .list ps, .list is, b, r]) = true then _ else _) = _
        rw [if_pos eh, epa]
      obtain ⟨res, hres⟩ : ∃ res, funR en n cs nm ps is b = some res := by
        cases q : funR en n cs nm ps is b with
        | some res => exact ⟨res, rfl⟩
        | none =>
          rw [q] at estep
          rw [estep] at k
          exact False.elim k
      -- seen
      refine ⟨fun σ H6 => ∃ sx : Addr, σ = [some (.ref a), some (.ref ca), some (.ref wk), some (.ref rd), some (.ref D), some (.int many), some (.int (i : Nat)), some (.ref xa), some (.str nm), some (.ref p1), some (.ref p2), some x3, some x4, some (.ref sx)] ∧ Same H5 H6 ∧ SuAt H6 CU sx res, ?_, ?_⟩
      · refine ⟨_, rfl, _, rfl, _, rfl, p1, p2, u1, u2, rfl, rfl, s34 _ _ h1, s34 _ _ h2, by omega, fun q nq => ?_⟩
        have s6 := same_new (o := .lst (u1 ++ u2)) (Same.refl H5) nq
        have s06 := s34.trans s6
        refine ⟨_, rfl, _, rfl, _, rfl, _, rfl, q, ca, wk, rd, D, en.rows, strsT (ps ++ is), en.wn, rs, cs, rfl, hca.mono s06, r6, r3, by rw [upd_same, hus], s06 _ _ hwk, s06 _ _ hrd, hcs5.mono s6, fun p H7 s7 np hsc => ?_⟩
        refine ⟨x3, b, p, _, n, res, rfl, a3.mono (s06.trans s7), hsc, small, hn, ?_, fun sx H8 s8 nx su => ⟨sx, rfl, (s6.trans s7).trans s8, su⟩⟩
        rw [hlv]
        exact hres
      rintro σ H6 ⟨sx, rfl, s6, dx, pv6, bu, hsx, hpv, hpl⟩
      obtain ⟨pl, m, dp⟩ := res
      rw [hres] at estep
      have s06 := s34.trans s6
      -- its place
      refine ⟨fun σ H7 => σ = [some (.ref a), some (.ref ca), some (.ref wk), some (.ref rd), some (.ref D), some (.int many), some (.int (i : Nat)), some (.ref xa), some (.str nm), some (.ref p1), some (.ref p2), some x3, some x4, some (.ref sx)] ∧ H7 = H6 ∧ pl = none, ?_, ?_⟩
      · cases pl with
        | none =>
          have ep : pv6 = .non := hpv
          subst ep
          refine ⟨_, rfl, sx, CU, dx, _, _, rfl, hsx, UU.cl, UU.n1, su_place _ _ _ _, rfl, _, rfl, ?_⟩
          exact iteF ⟨rfl, rfl, rfl⟩
        | some l =>
          obtain ⟨t0, rfl, ht0⟩ : ∃ t0, pv6 = .ref t0 ∧ H6 t0 = some (.tup (l.map V.int)) := hpv
          refine ⟨_, rfl, sx, CU, dx, _, _, rfl, hsx, UU.cl, UU.n1, su_place _ _ _ _, rfl, _, rfl, ?_⟩
          refine iteT ?_
          have estep : funT en n ds 0 [] 0 = some (FRes.bad ((i : Int) :: l)) := estep
          rw [estep] at k
          refine ⟨_, rfl, (by show 1 ≤ sizeLine; decide), fun t nt => ?_⟩
          have s7 := same_new (o := .tup [.int (i : Nat)]) s06 nt
          have s67 := same_new (o := .tup [.int (i : Nat)]) (Same.refl H6) nt
          refine ⟨_, rfl, sx, CU, dx, _, _, rfl, s67 _ _ hsx, UU.cl, UU.n1, su_place _ _ _ _, t, t0, _, _, rfl, rfl, SqT.of upd_same, SqT.of (s67 _ _ ht0), ?_, fun z => (by cases z), fun _ z => ?_, fun _ _ q nq => ?_⟩
          · have := hpl l rfl
            rw [List.length_map, List.length_singleton]
            omega
          · have z : l = [] := List.map_eq_nil_iff.mp z
            exact rip_rd (E := E) (k t _ s7 (by rw [upd_same, z]; rfl))
          · exact rip_rd (E := E) (k q _ (same_new s7 nq) (by rw [upd_same]; rfl))
      rintro σ H7 ⟨rfl, rfl, rfl⟩
      have estep : funT en n ds 0 [] 0 = funT en n (ds.drop (i + 1)) (i + 1) (noteT cs nm ps r dp) (many + m) := estep
      have hD7 := s6 _ _ (s4 _ _ (s23 _ _ hD2))
      have s27 := (s23.trans s4).trans s6
      have hkv7 : ∀ s : Str, match cs.lookup s with | none => valV kvs (Sum.inr s) = none | some (m, h, d) => ∃ t, valV kvs (Sum.inr s) = some (.ref t) ∧ H7 t = some (.tup [.int m, .bl h, .int d]) := fun z => by
        have q := hkv z
        cases hl : cs.lookup z with
        | none =>
          rw [hl] at q
          exact q
        | some y =>
          obtain ⟨m', b', d'⟩ := y
          rw [hl] at q
          obtain ⟨t', e1, e2⟩ := q
          exact ⟨t', e1, s27 _ _ e2⟩
      have nl : cs.lookup nm = none := by
        rw [List.lookup_eq_none_iff]
        intro q hq
        have en1 : decide (nm ∈ cs.map (·.1)) = false := en1
        have h2 := of_decide_eq_false en1
        have : ¬ nm = q.1 := fun e => h2 (List.mem_map.mpr ⟨q, hq, e.symm⟩)
        simpa using this
      -- calls
      refine ⟨fun σ H8 => ∃ kvs' : List (Key × V), σ = [some (.ref a), some (.ref ca), some (.ref wk), some (.ref rd), some (.ref D), some (.int many), some (.int (i : Nat)), some (.ref xa), some (.str nm), some (.ref p1), some (.ref p2), some x3, some x4, some (.ref sx)] ∧ Same H1 H8 ∧ H8 sx = some (.ins CU dx (suF pv6 (.int m) (.int dp) (.bl bu))) ∧ H8 D = some (.dK kvs') ∧
        (∀ s : Str, match (noteT cs nm ps r dp).lookup s with | none => valV kvs' (Sum.inr s) = none | some (m, h, d) => ∃ t, valV kvs' (Sum.inr s) = some (.ref t) ∧ H8 t = some (.tup [.int m, .bl h, .int d])) ∧ kvs'.length ≤ i + 1, ?_, ?_⟩
      · refine ⟨_, rfl, p1, u1, rfl, .inl (SqL.of (s06 _ _ h1)), _, rfl, rfl, _, rfl, sx, CU, dx, _, _, rfl, hsx, UU.cl, UU.n3, su_depth _ _ _ _, (by show 3 ≤ sizeLine; decide), fun t nt => ?_⟩
        have s8 := same_new (o := .tup [.int (u1.length : Int), .bl (!decide (x4 = .non)), .int dp]) (Same.refl H7) nt
        have hD8 := s8 _ _ hD7
        refine ⟨_, rfl, _, rfl, D, _, rfl, .inl ⟨kvs, Sum.inr nm, hD8, rfl, by omega, rfl⟩, _, rfl, same_updL (s06.trans s8) hD, ?_, upd_same, ?_, ?_⟩
        · rw [upd_ne (ne_of (s8 _ _ hsx) hD8 (by intro z; cases z))]
          exact s8 _ _ hsx
        · have hkv8 : ∀ s : Str, match cs.lookup s with | none => valV kvs (Sum.inr s) = none | some (m, h, d) => ∃ t', valV kvs (Sum.inr s) = some (.ref t') ∧ (upd H7 t (.tup [.int (u1.length : Int), .bl (!decide (x4 = .non)), .int dp])) t' = some (.tup [.int m, .bl h, .int d]) := fun z => by
            have q := hkv7 z
            cases hl : cs.lookup z with
            | none =>
              rw [hl] at q
              exact q
            | some y =>
              obtain ⟨m', b', d'⟩ := y
              rw [hl] at q
              obtain ⟨t', e1, e2⟩ := q
              exact ⟨t', e1, s8 _ _ e2⟩
          obtain ⟨kvs2, e2, q2⟩ := calls_put (n := nm) (m := (ps.length : Int)) (b := !noneT r) (d := dp) hD8 hkv8 nl (t := t) (by rw [upd_same, hu1.len, none_at a4])
          rw [upd_same] at e2
          cases e2
          exact q2
        · exact Nat.le_trans (length_putK _ _ _) (by omega)
      rintro σ H8 ⟨kvs', rfl, s8, hsx8, hD8, hkv8, lk'⟩
      refine ⟨_, rfl, _, rfl, sx, CU, dx, _, _, rfl, hsx8, UU.cl, UU.n2, su_many _ _ _ _, _, _, rfl, rfl, ?_⟩
      refine ⟨noteT cs nm ps r dp, many + m, kvs', _, _, _, _, _, _, _, _, rfl, s8, hD8, hkv8, fun z y e => ?_, lk', by omega, estep⟩
      unfold noteT at e
      rw [lookup_snoc] at e
      cases hl : cs.lookup z with
      | some y' =>
        rw [hl] at e
        cases e
        exact small z _ hl
      | none =>
        rw [hl] at e
        dsimp only at e
        split at e
        · cases e
          have : ps.length ≤ 8 := by
            rw [List.length_append] at en8
            omega
          show (ps.length : Int) ≤ 100
          omega
        · cases e
    · rintro σ H2 ⟨cs, many, kvs, v6, v7, v8, v9, v10, v11, v12, v13, rfl, s2, hD2, hkv, small, lk, i4, erun⟩
      have edn : ds.drop ys.length = [] := List.drop_eq_nil_of_le (by rw [hys.len]; exact Nat.le_refl _)
      rw [edn] at erun
      have erun : funT en n ds 0 [] 0 = some (.ok cs many) := erun
      rw [erun] at k
      refine ⟨_, rfl, _, rfl, (by show 2 ≤ sizeLine; decide), fun t nt => ?_⟩
      have s3 := same_new (o := .tup [.ref D, .int many]) (Same.refl H2) nt
      exact k t D _ (s2.trans s3) upd_same (CallsAt.mono ⟨kvs, hD2, hkv⟩ s3) small
end
end K1

set_option Elab.async false
set_option linter.all false
set_option maxRecDepth 100000
set_option maxHeartbeats 8000000
namespace K1
open PySem L2
theorem at_five {H : Hp} {xs : List V} {d0 d1 d2 d3 d4 : PyData} (h : AtAll H xs [d0, d1, d2, d3, d4]) : ∃ x0 x1 x2 x3 x4, xs = [x0, x1, x2, x3, x4] ∧ At H x0 d0 ∧ At H x1 d1 ∧ At H x2 d2 ∧ At H x3 d3 ∧ At H x4 d4 := by
  cases h with
  | cons a0 t0 =>
    cases t0 with
    | cons a1 t1 =>
      cases t1 with
      | cons a2 t2 =>
        cases t2 with
        | cons a3 t3 =>
          cases t3 with
          | cons a4 t4 =>
            cases t4
            exact ⟨_, _, _, _, _, rfl, a0, a1, a2, a3, a4⟩
section
variable {P : Program} {w : World} {K : PySem.W.Frag} {mg : Str → Option Value} {base : Heap}
/-! ### check_body -/
def spCB (C CS : Addr) : Sp := fun vs H Q E => ∃ (b : V) (d : PyData) (p : Addr) (sc : Sco) (n : Nat) (many : Int) (pl : Option (List Int)) (m dp : Int), vs = [b, .ref p, .int many] ∧ At H b d ∧ ScAt H CS p sc ∧ (∀ z r, sc.cs.lookup z = some r → r.1 ≤ 100) ∧ n ≤ 100000 ∧ runT sc n [⟨d, [], 0, 0, 0⟩] 0 0 = some (pl, m, dp) ∧
  (match pl with
  | some l => ∀ t H1, Same H H1 → H1 t = some (.tup (l.map V.int)) → Rz C H1 (.str "body") (.ref t) E
  | none => if 60 < many + m then Rz C H (.str "body") (.int (-1)) E else ∀ H', Same H H' → Q .non H')
theorem ok34c {f C CS CU : Addr} {fd : FuncData} {tS : Tok} (F : Fun K "check_body" "check_body" (top 34) f fd) (B : Blt mg) (hS : mg "MOST_STATEMENTS" = some (.int 60 tS)) (IP : Ipc P w K mg base C) (U : NoU K CU) (C21 : Cal P w K mg base CX0 6 "survey" ["body", "scope"] (spSv CS CU)) :
    FnOk P w K mg base (L2.CX P w) 7 f fd ["body", "scope", "many"] (spCB C CS) := by
  refine F.okX sc34 (fun vs H Q E h => ?_) (fun cdv A outer s H vs Q E hr h => ?_)
  · obtain ⟨b, d, p, sc, n, many, pl, m, dp, rfl, _⟩ := h
    rfl
  · obtain ⟨b, d, p, sc, n, many, pl, m, dp, rfl, hd, hsc, small, hn, hrun, k⟩ := h
    refine ⟨_, pss_cons (ps_set (i := 3) sc34.nd rfl (Or.inl rfl) (pe_cal C21 hr (by decide) pass0 (pa_cons (pv 0) (pa_cons (pv 1) pa_nil))))
      (pss_mid (ps_if (pt_cmpR op_notN (pe_fld (pv 3) rfl) pe_non (nomark _)) (pss_one (ps_rip IP rfl (takes_of rfl rfl rfl rfl) hr (by decide) pe_str (pe_fld (pv 3) rfl))) pss_nil)
      (pss_one (ps_if (pt_cmpR op_gt (pe_op op_add (pv 2) (pe_fld (pv 3) rfl)) (pe_glob (v := .int 60) rfl hS ⟨_, rfl⟩) (nomark _)) (pss_one (ps_rip IP rfl (takes_of rfl rfl rfl rfl) hr (by decide) pe_str (pe_un un_neg pe_int))) pss_nil))), ?_⟩
    refine ⟨_, rfl, _, rfl, b, d, p, sc, n, _, rfl, hd, hsc, small, hn, hrun, fun x H1 s1 nx su => ?_⟩
    obtain ⟨dx, pv6, bu, hsx, hpv, _⟩ := su
    refine ⟨fun σ H2 => σ = [some b, some (.ref p), some (.int many), some (.ref x)] ∧ H2 = H1 ∧ pl = none, ?_, ?_⟩
    · cases pl with
      | none =>
        have ep : pv6 = .non := hpv
        subst ep
        refine ⟨_, rfl, x, CU, dx, _, _, rfl, hsx, U.cl, U.n1, su_place _ _ _ _, rfl, _, rfl, ?_⟩
        exact iteF ⟨rfl, rfl, rfl⟩
      | some l =>
        obtain ⟨t0, rfl, ht0⟩ : ∃ t0, pv6 = .ref t0 ∧ H1 t0 = some (.tup (l.map V.int)) := hpv
        refine ⟨_, rfl, x, CU, dx, _, _, rfl, hsx, U.cl, U.n1, su_place _ _ _ _, rfl, _, rfl, ?_⟩
        refine iteT ?_
        exact ⟨_, rfl, x, CU, dx, _, _, rfl, hsx, U.cl, U.n1, su_place _ _ _ _, rip_rd (E := E) (k t0 H1 s1 ht0)⟩
    rintro σ H2 ⟨rfl, rfl, rfl⟩
    refine ⟨_, rfl, _, rfl, x, CU, dx, _, _, rfl, hsx, U.cl, U.n2, su_many _ _ _ _, _, _, rfl, rfl, _, _, rfl, rfl, _, rfl, ?_⟩
    dsimp only at k
    refine ite2 (fun c => ?_) (fun c => ?_)
    · have c' : 60 < many + m := of_decide_eq_true c
      rw [if_pos c'] at k
      exact ⟨_, rfl, rip_rd (E := E) (k.later s1)⟩
    · have c' : ¬ 60 < many + m := fun z => c (decide_eq_true z)
      rw [if_neg c'] at k
      exact k H2 s1
/-! ### copied_functions -/
def cpF (k : Nat) (d : PyData) : Bool := match d with
  | .tuple es => (match es with
    | [n, p, i, b, r] => (scaT n && scaT r) && ((match p with
      | .list ps => ps.all scaT
      | _ => false) && ((match i with
      | .list is => is.all scaT
      | _ => false) && cpB k b))
    | _ => false)
  | _ => false
theorem cpF_is {k : Nat} {d : PyData} (h : cpF k d = true) : ∃ n ps is bs r, d = .tuple [n, .list ps, .list is, .list bs, r] ∧ scaT n = true ∧ scaT r = true ∧ (∀ e ∈ ps, scaT e = true) ∧ (∀ e ∈ is, scaT e = true) ∧ cpB k (.list bs) = true := by
  unfold cpF at h
  split at h
  case h_2 => cases h
  split at h
  case h_2 => cases h
  rename_i n p i b r
  rw [Bool.and_eq_true, Bool.and_eq_true, Bool.and_eq_true, Bool.and_eq_true] at h
  obtain ⟨⟨h1, h2⟩, h3, h4, h5⟩ := h
  split at h3
  case h_2 => cases h3
  split at h4
  case h_2 => cases h4
  rw [List.all_eq_true] at h3 h4
  cases k with
  | zero => cases h5
  | succ k =>
    cases b with
    | list bs => exact ⟨_, _, _, _, _, rfl, h1, h2, h3, h4, h5⟩
    | _ => cases h5
def spCpF (k : Nat) : Sp := fun vs H Q _ => ∃ (a : Addr) (ds : List PyData), vs = [.ref a] ∧ At H (.ref a) (.list ds) ∧ ds.length ≤ 900 ∧ (∀ d ∈ ds, cpF k d = true) ∧ ∀ q H', Same H H' → At (off H H') (.ref q) (.list ds) → Q (.ref q) H'
theorem ok36c {f : Addr} {fd : FuncData} {k : Nat} (F : Fun K "copied_functions" "copied_functions" (top 36) f fd) (B : Blt mg) (C22 : Cal P w K mg base CX0 (k + 1) "copied_block" ["block"] (spCopy k)) : FnOk P w K mg base CX0 (k + 2) f fd ["functions"] (spCpF k) := by
  refine F.ok sc36 (fun vs H Q E h => ?_) (fun cdv A outer s H vs Q E hr h => ?_)
  · obtain ⟨b, ds, rfl, _⟩ := h
    rfl
  · obtain ⟨b, ds, rfl, hb, l900, hcp, k'⟩ := h
    refine ⟨_, pss_cons (ps_set (i := 1) sc36.nd rfl (Or.inl rfl) (pe_lst pa_nil)) (pss_mid (ps_for PassesOwn.never rfl (pi_list (pv 0)) (pg_tup rfl (pgs_cons (pg_name (i := 2) sc36.nd rfl (Or.inl rfl)) (pgs_cons (pg_name (i := 3) sc36.nd rfl (Or.inl rfl)) (pgs_cons (pg_name (i := 4) sc36.nd rfl (Or.inl rfl)) (pgs_cons (pg_name (i := 5) sc36.nd rfl (Or.inl rfl)) (pgs_cons (pg_name (i := 6) sc36.nd rfl (Or.inl rfl)) pgs_nil))))))
        (pss_one (ps_expr (pe_bm PySem.F.plainAttrs_list PySem.F.slot_list_append PySem.F.type_list_append mt_append (pv 1) (pa_cons (pe_tup (pa_cons (pv 2) (pa_cons (pe_callTy (r := rLof K) call_list_of rfl B.list PyProof.Rows.boot_list (pa_cons (pv 3) pa_nil)) (pa_cons (pe_callTy (r := rLof K) call_list_of rfl B.list PyProof.Rows.boot_list (pa_cons (pv 4) pa_nil)) (pa_cons (pe_cal C22 hr (Nat.le_refl _) pass0 (pa_cons (pv 5) pa_nil)) (pa_cons (pv 6) pa_nil)))))) pa_nil)))))
      (pss_one (ps_ret (pv 1)))), ?_⟩
    cases hb with
    | @lst _ xs _ hbl hxs =>
    have big : 1000 ≤ sizeLine := by decide
    refine ⟨Nat.zero_le _, fun ro nro => ?_⟩
    have s1 := same_new (o := .lst []) (Same.refl H) nro
    have hro0 : (upd H ro (.lst [])) ro = some (.lst []) := upd_same
    generalize hHr : upd H ro (.lst []) = Hr at s1 hro0 ⊢
    refine ⟨fun σ H1 => ∃ (v2 v3 v4 v5 v6 : Option V) (vs : List V), σ = [some (.ref b), some (.ref ro), v2, v3, v4, v5, v6] ∧ Same H H1 ∧ H1 ro = some (.lst vs) ∧ AtAll (off Hr H1) vs ds, ?_, ?_⟩
    · refine ⟨_, rfl, b, rfl, ⟨_, SqL.of (s1 _ _ hbl)⟩, for_list (K := K) (a := b) (xs := xs) (fun i σ H1 => ∃ (v2 v3 v4 v5 v6 : Option V) (vs : List V), σ = [some (.ref b), some (.ref ro), v2, v3, v4, v5, v6] ∧ Same H H1 ∧ H1 ro = some (.lst vs) ∧ AtAll (off Hr H1) vs (ds.take i))
        ⟨none, none, none, none, none, [], rfl, s1, hro0, .nil⟩ (fun i σ H1 _ ⟨_, _, _, _, _, _, _, s2, _⟩ => SqL.of (s2 _ _ hbl)) ?_ ?_⟩
      · rintro i y σ H1 hi ⟨v2, v3, v4, v5, v6, vs, rfl, s2, hr1, hvs⟩
        obtain ⟨d, hd, had⟩ := hxs.get hi
        obtain ⟨n, ps, is, bs, r, rfl, e1, e2, e3, e4, e5⟩ := cpF_is (hcp d (List.mem_of_getElem? hd))
        rcases at_tup had with ⟨ta, xw, es0, rfl, ee, hta, hxw⟩ | ⟨_, hno⟩
        case inr => exact absurd rfl (hno _)
        cases ee
        obtain ⟨x0, x1, x2, x3, x4, rfl, a0, a1, a2, a3, a4⟩ := at_five hxw
        rcases at_lst2 a1 with ⟨p1, u1, ps', rfl, ee, h1, hu1⟩ | ⟨_, hno⟩
        case inr => exact absurd rfl (hno _)
        cases ee
        rcases at_lst2 a2 with ⟨p2, u2, is', rfl, ee, h2, hu2⟩ | ⟨_, hno⟩
        case inr => exact absurd rfl (hno _)
        cases ee
        rcases at_lst2 a3 with ⟨p3, u3, bs', rfl, ee, h3, hu3⟩ | ⟨_, hno⟩
        case inr => exact absurd rfl (hno _)
        cases ee
        have domR : ∀ a, H1 a = none → Hr a = none := by
          rw [← hHr]
          exact dom_upd s2 hr1
        have il : i < xs.length := (List.getElem?_eq_some_iff.mp hi).1
        have lvs : vs.length ≤ 900 := by
          rw [hvs.len, List.length_take]
          omega
        refine ⟨ta, _, rfl, SqT.of (s2 _ _ hta), rfl, x0, _, rfl, _, _, rfl, _, _, rfl, _, _, rfl, x4, _, rfl, rfl, ?_⟩
        refine ⟨_, rfl, .inl ⟨rfl, _, SqL.of hr1⟩, _, rfl, _, rfl, p1, u1, rfl, .inl (SqL.of (s2 _ _ h1)), fun q1 nq1 => ?_⟩
        have s3 := same_new (o := .lst u1) (Same.refl H1) nq1
        refine ⟨_, rfl, p2, u2, rfl, .inl (SqL.of (s3 _ _ (s2 _ _ h2))), fun q2 nq2 => ?_⟩
        have s4 := same_new (o := .lst u2) s3 nq2
        have s04 := s2.trans s4
        refine ⟨_, rfl, p3, bs, rfl, (At.lst h3 hu3).mono s04, e5, fun q3 H3 s5 hq3 => ?_⟩
        have s15 := s4.trans s5
        refine ⟨_, rfl, (by show 5 ≤ sizeLine; decide), fun tq ntq => ?_⟩
        have s6 := same_new (o := .tup [x0, .ref q1, .ref q2, .ref q3, x4]) s15 ntq
        have hr4 := s6 _ _ hr1
        refine ⟨ro, vs, _, rfl, rfl, hr4, by omega, _, _, _, _, _, _, rfl, same_updL (s2.trans s6) nro, upd_same, ?_⟩
        rw [take_snoc hd]
        have n1 : Hr q1 = none := domR _ nq1
        have n2 : Hr q2 = none := domR _ (none_of' s3 nq2)
        have n3 : Hr tq = none := domR _ (none_of' s15 ntq)
        have f56 : Same (upd (upd H1 q1 (.lst u1)) q2 (.lst u2)) (upd H3 tq (.tup [x0, .ref q1, .ref q2, .ref q3, x4])) := same_new s5 ntq
        have f46 : Same (upd H1 q1 (.lst u1)) (upd H3 tq (.tup [x0, .ref q1, .ref q2, .ref q3, x4])) := (same_new (o := .lst u2) (Same.refl _) nq2).trans f56
        refine at_app ((hvs.mono (off_mono s6)).mono (off_upd hro0)) (.cons (At.mono (off_upd hro0) (.tup (off_of n3 upd_same) (.cons (at_sca a0 e1) (.cons (.lst (off_of n1 (f46 _ _ upd_same)) (at_scas hu1 e3)) (.cons (.lst (off_of n2 (f56 _ _ upd_same)) (at_scas hu2 e4)) (.cons ?_ (.cons (at_sca a4 e2) .nil))))))) .nil)
        refine (hq3.mono (off_mono (same_new (Same.refl _) ntq))).mono (off_dom fun a n => domR a (none_of' s4 n))
      · rintro σ H1 ⟨v2, v3, v4, v5, v6, vs, rfl, s2, hr1, hvs⟩
        rw [List.take_of_length_le (by rw [hxs.len]; exact Nat.le_refl _)] at hvs
        exact ⟨v2, v3, v4, v5, v6, vs, rfl, s2, hr1, hvs⟩
    rintro σ H1 ⟨v2, v3, v4, v5, v6, vs, rfl, s2, hr1, hvs⟩
    exact ⟨_, rfl, k' ro H1 s2 (.lst (off_of nro hr1) (hvs.mono (off_base (by rw [← hHr]; exact same_new (Same.refl _) nro))))⟩
end
end K1

set_option Elab.async false
set_option linter.all false
set_option maxRecDepth 100000
set_option maxHeartbeats 8000000
namespace K1
open PySem L2
/-! ### Program.__init__, any body, any functions -/
def AtNew (H Hx : Hp) (v : V) (d : PyData) : Prop := At (off H Hx) v d
theorem AtNew.mono {H Hx Hy : Hp} {v : V} {d : PyData} (h : AtNew H Hx v d) (s : Same Hx Hy) : AtNew H Hy v d := At.mono (off_mono s) h
theorem AtNew.other {H Hx : Hp} {v : V} {d : PyData} {p : Addr} {o u : HO} (h : AtNew H Hx v d) (hp : H p = some o) : AtNew H (upd Hx p u) v d := At.mono (off_upd hp) h
mutual
theorem At.keepP {H Hx : Hp} {p CP dx : Addr} {fs : List (Str × V)} (hp : H p = some (.ins CP dx fs)) (kp : ∀ b o, H b = some o → b ≠ p → Hx b = some o) : ∀ {v : V} {d : PyData}, At H v d → At Hx v d
  | _, _, .non => .non
  | _, _, .bl b => .bl b
  | _, _, .int i => .int i
  | _, _, .str z h => .str z h
  | _, _, .lst e h => .lst (kp _ _ e (ne_of e hp (by intro z; cases z))) (h.keepP hp kp)
  | _, _, .tup e h => .tup (kp _ _ e (ne_of e hp (by intro z; cases z))) (h.keepP hp kp)
  | _, _, .dic e => .dic (kp _ _ e (ne_of e hp (by intro z; cases z)))
theorem AtAll.keepP {H Hx : Hp} {p CP dx : Addr} {fs : List (Str × V)} (hp : H p = some (.ins CP dx fs)) (kp : ∀ b o, H b = some o → b ≠ p → Hx b = some o) : ∀ {vs : List V} {ds : List PyData}, AtAll H vs ds → AtAll Hx vs ds
  | _, _, .nil => .nil
  | _, _, .cons h t => .cons (h.keepP hp kp) (t.keepP hp kp)
end
/-- a program stands at p, all that is its own new since H0 -/
def Prog2 (H0 H : Hp) (CP p : Addr) (rows : List Row) (ns ls : List Str) (th : Int) (ks : List Int) (bs fs : List PyData) : Prop := ∃ (dx a b c d f g : Addr), H p = some (.ins CP dx (pgF (.ref a) (.ref b) (.ref c) (.ref d) (.int th) (.ref f) (.ref g))) ∧ ClsN H0 H a rows ∧
  AtNew H0 H (.ref b) (.list bs) ∧ (H0 c = none ∧ H c = some (.lst (ns.map V.str))) ∧ (H0 d = none ∧ H d = some (.lst (ls.map V.str))) ∧ (H0 f = none ∧ H f = some (.lst (ks.map V.int))) ∧ AtNew H0 H (.ref g) (.list fs)
/-- what follows the heads -/
def Rest (C CP p : Addr) (kk nf : Nat) (H : Hp) (Q : VK) (E : XK) (bd fd : PyData) (rows : List Row) (ns ls : List Str) (th : Int) (ks : List Int) : Prop :=
  ((∀ ds, fd = .list ds → ¬ ds.length ≤ 4) → Rz C H (.str "functions") (.int (-1)) E) ∧
  ∀ ds, fd = .list ds → ds.length ≤ 4 → (∀ q ∈ ds, ∀ es, q = .tuple es → ∀ ys, PyData.list ys ∈ es → ys.length ≤ 1000) ∧
    ((∃ l, funT ⟨rows, ls, ks.length⟩ nf ds 0 [] 0 = some (.bad l) ∧ ∀ t H1, Same H H1 → H1 t = some (.tup (l.map V.int)) → Rz C H1 (.str "functions") (.ref t) E) ∨
     ∃ cs many pl m dp, funT ⟨rows, ls, ks.length⟩ nf ds 0 [] 0 = some (.ok cs many) ∧ runT (scoOf rows ns ls ks.length cs) nf [⟨bd, [], 0, 0, 0⟩] 0 0 = some (pl, m, dp) ∧
      (match pl with
      | some l => ∀ t H1, Same H H1 → H1 t = some (.tup (l.map V.int)) → Rz C H1 (.str "body") (.ref t) E
      | none => if 60 < many + m then Rz C H (.str "body") (.int (-1)) E else
          ∃ bs, bd = .list bs ∧ cpB kk bd = true ∧ (∀ d ∈ ds, cpF kk d = true) ∧ ∀ H', Prog2 H H' CP p rows ns ls th ks bs ds → (∀ b o, H b = some o → b ≠ p → H' b = some o) → Q .non H'))
def spPr2 (C CP : Addr) (kk : Nat) : Sp := fun vs H Q E => ∃ (p dx : Addr) (c b n l t r f : V) (bd fd : PyData) (nf : Nat), vs = [.ref p, c, b, n, l, t, r, f] ∧ H p = some (.ins CP dx []) ∧ Dat H c ∧ Dat H n ∧ Dat H l ∧ Dat H t ∧ Dat H r ∧ At H b bd ∧ At H f fd ∧ nf ≤ 100000 ∧
  (∀ part at_, faultV H c n l t r = some (part, at_) → Rz C H (.str part) at_ E) ∧
  (faultV H c n l t r = none → ∀ rows ns ls th ks, Fine H c n l t r rows ns ls th ks → Rest C CP p kk nf H Q E bd fd rows ns ls th ks)
section
variable {P : Program} {w : World} {K : PySem.W.Frag} {mg : Str → Option Value} {base : Heap} {C CP CS CU : Addr} {kk : Nat}
theorem okPr2 {f : Addr} {fd : FuncData} {N : Nat} (hN : 7 ≤ N) (hkk : kk + 2 ≤ N) (F : Fun K "__init__" "Program.__init__" sPrI f fd) (B : Blt mg) (U : NoP K CP)
    (C28 : Cal P w K mg base (L2.CX P w) 4 "check_classes" ["classes"] (spClasses C)) (C26 : Cal P w K mg base (L2.CX P w) 3 "check_names" ["part", "value", "least", "most", "barred"] (spNames C))
    (C29 : Cal P w K mg base (L2.CX P w) 3 "check_threshold" ["threshold"] (spThr C)) (C30 : Cal P w K mg base (L2.CX P w) 3 "check_radices" ["radices", "threshold"] (spRad C))
    (C33 : Cal P w K mg base (L2.CX P w) 7 "check_functions" ["functions", "classes", "weak", "radices"] (spCFn C)) (C32 : Cal P w K mg base CX0 3 "scope_for" ["names", "classes", "weak", "radices", "calls"] (spSF CS))
    (C34 : Cal P w K mg base (L2.CX P w) 7 "check_body" ["body", "scope", "many"] (spCB C CS)) (C35 : Cal P w K mg base CX0 1 "copied_classes" ["classes"] spCopyCls)
    (C22 : Cal P w K mg base CX0 (kk + 1) "copied_block" ["block"] (spCopy kk)) (C36 : Cal P w K mg base CX0 (kk + 2) "copied_functions" ["functions"] (spCpF kk)) :
    FnOk P w K mg base (L2.CX P w) (N + 1) f fd prP (spPr2 C CP kk) := by
  refine F.okX scPr (fun vs H Q E h => ?_) (fun cdv A outer s H vs Q E hr h => ?_)
  · obtain ⟨p, dx, c, b, n, l, t, r, f, bd, fd, nf, rfl, _⟩ := h
    rfl
  · obtain ⟨p, dx, c, b, n, l, t, r, f, bd, fdT, nf, rfl, hp, dc, dn, dl, dt, dr, hb, hf, hnf, ke, kn⟩ := h
    refine ⟨_, pss_cons (ps_expr (pe_cal C28 hr (by omega) (passes_call (E := E) (takes_of rfl rfl rfl rfl) (fun _ _ _ _ h => h)) (pa_cons (pv 1) pa_nil)))
      (pss_cons (ps_expr (pe_cal C26 hr (by omega) (passes_call (E := E) (takes_of rfl rfl rfl rfl) (fun _ _ _ _ h => h)) (pa_cons pe_str (pa_cons (pv 3) (pa_cons pe_int (pa_cons pe_int (pa_cons (pe_lst pa_nil) pa_nil)))))))
      (pss_cons (ps_expr (pe_cal C26 hr (by omega) (passes_call (E := E) (takes_of rfl rfl rfl rfl) (fun _ _ _ _ h => h)) (pa_cons pe_str (pa_cons (pv 4) (pa_cons pe_int (pa_cons pe_int (pa_cons (pv 3) pa_nil)))))))
      (pss_cons (ps_expr (pe_cal C29 hr (by omega) (passes_call (E := E) (takes_of rfl rfl rfl rfl) (fun _ _ _ _ h => h)) (pa_cons (pv 5) pa_nil)))
      (pss_cons (ps_expr (pe_cal C30 hr (by omega) (passes_call (E := E) (takes_of rfl rfl rfl rfl) (fun _ _ _ _ h => h)) (pa_cons (pv 6) (pa_cons (pv 5) pa_nil))))
      (pss_cons (ps_asg (pe_cal C33 hr (by omega) (passes_call (E := E) (takes_of rfl rfl rfl rfl) (fun _ _ _ _ h => h)) (pa_cons (pv 7) (pa_cons (pv 1) (pa_cons (pv 4) (pa_cons (pv 6) pa_nil))))) (pg_tup rfl (pgs_cons (pg_name (i := 8) scPr.nd rfl (Or.inl rfl)) (pgs_cons (pg_name (i := 9) scPr.nd rfl (Or.inl rfl)) pgs_nil))))
      (pss_cons (ps_expr (pe_cal C34 hr (by omega) (passes_call (E := E) (takes_of rfl rfl rfl rfl) (fun _ _ _ _ h => h)) (pa_cons (pv 2) (pa_cons (pe_cal C32 hr (by omega) pass0 (pa_cons (pv 3) (pa_cons (pv 1) (pa_cons (pv 4) (pa_cons (pv 6) (pa_cons (pv 8) pa_nil)))))) (pa_cons (pv 9) pa_nil)))))
      (pss_cons (ps_fld (pv 0) (pe_cal C35 hr (by omega) pass0 (pa_cons (pv 1) pa_nil)) rfl)
      (pss_cons (ps_fld (pv 0) (pe_cal C22 hr (by omega) pass0 (pa_cons (pv 2) pa_nil)) rfl)
      (pss_cons (ps_fld (pv 0) (pe_callTy (r := rLof K) call_list_of rfl B.list PyProof.Rows.boot_list (pa_cons (pv 3) pa_nil)) rfl)
      (pss_cons (ps_fld (pv 0) (pe_callTy (r := rLof K) call_list_of rfl B.list PyProof.Rows.boot_list (pa_cons (pv 4) pa_nil)) rfl)
      (pss_cons (ps_fld (pv 0) (pv 5) rfl)
      (pss_cons (ps_fld (pv 0) (pe_callTy (r := rLof K) call_list_of rfl B.list PyProof.Rows.boot_list (pa_cons (pv 6) pa_nil)) rfl)
      (pss_one (ps_fld (pv 0) (pe_cal C36 hr (by omega) pass0 (pa_cons (pv 7) pa_nil)) rfl)))))))))))))), ?_⟩
    -- check_classes
    refine ⟨_, rfl, c, rfl, dc, fun e1 H1 s1 => ?_, fun e1 => ke _ _ (by unfold faultV; rw [if_pos e1])⟩
    -- check_names of the variables
    refine ⟨_, rfl, by decide, fun q1 hq1 => ?_⟩
    have s2 := same_new (o := .lst []) s1 hq1
    refine ⟨_, n, 1, 8, q1, [], rfl, dn.mono s2, upd_same, by decide, fun e2 H3 s3 => ?_, fun e2 => ?_⟩
    rotate_left
    · rw [namesAt_same dn s2] at e2 ⊢
      exact (ke _ _ (by unfold faultV; rw [if_neg (by simp [e1]), if_pos e2])).later s2
    rw [namesAt_same dn s2] at e2
    have s4 := s2.trans s3
    obtain ⟨na, ns, rfl, hna, hn1, hn8, _, nOk⟩ := names_ok e2
    -- check_names of the weak ones
    refine ⟨_, rfl, _, rfl, _, l, 0, 4, na, ns, rfl, dl.mono s4, s4 _ _ hna, by decide, fun e3 H5 s5 => ?_, fun e3 => ?_⟩
    rotate_left
    · rw [namesAt_same dl s4] at e3 ⊢
      exact (ke _ _ (by unfold faultV; rw [strsOf_is hna, if_neg (by simp [e1]), if_neg (by simp [e2]), if_pos e3])).later s4
    rw [namesAt_same dl s4] at e3
    have s6 := s4.trans s5
    obtain ⟨la, ls, rfl, hla, _, hl4, _, lOk⟩ := names_ok e3
    -- check_threshold
    refine ⟨_, rfl, t, rfl, dt.mono s6, fun e4 H7 s7 => ?_, fun e4 => ?_⟩
    rotate_left
    · exact (ke _ _ (by unfold faultV; rw [strsOf_is hna, if_neg (by simp [e1]), if_neg (by simp [e2]), if_neg (by simp [e3]), if_pos e4])).later s6
    have s8 := s6.trans s7
    obtain ⟨th, rfl, ht1, ht2⟩ := whole_ok e4
    -- check_radices
    refine ⟨_, rfl, _, rfl, r, th, rfl, dr.mono s8, ht1, ht2, fun e5 H9 s9 => ?_, fun e5 => ?_⟩
    rotate_left
    · rw [radicesAt_same dr s8] at e5 ⊢
      exact (ke _ _ (by unfold faultV; rw [strsOf_is hna, if_neg (by simp [e1]), if_neg (by simp [e2]), if_neg (by simp [e3]), if_neg (by simp [e4]), if_pos (show radicesAt H r (intOf (.int th)) ≠ .non from e5)]; rfl)).later s8
    rw [radicesAt_same dr s8] at e5
    have s10 := s8.trans s9
    obtain ⟨ra, ks, rfl, hra⟩ := rad_ok e5
    obtain ⟨ca, rows, rfl, hca, hc1, hc6, hcA⟩ := classes_ok e1
    have hc3 : ∀ r ∈ rows, r.fs.length ≤ 3 := fun r h => (hcA r h).1
    have none_ : faultV H (.ref ca) (.ref na) (.ref la) (.int th) (.ref ra) = none := by
      unfold faultV
      rw [strsOf_is hna, if_neg (by simp [e1]), if_neg (by simp [e2]), if_neg (by simp [e3]), if_neg (by simp [e4]), if_neg (show ¬ radicesAt H (.ref ra) (intOf (.int th)) ≠ .non from by show ¬ radicesAt H (.ref ra) th ≠ .non; simp [e5])]
    have fine : Fine H (.ref ca) (.ref na) (.ref la) (.int th) (.ref ra) rows ns ls th ks := ⟨⟨ca, rfl, hca⟩, hc1, hc6, hc3, ⟨na, rfl, hna⟩, ⟨la, rfl, hla⟩, rfl, ht1, ht2, ⟨ra, rfl, hra⟩, fun q h => (hcA q h).2, nOk, lOk⟩
    have k := kn none_ rows ns ls th ks fine
    obtain ⟨kz, kd⟩ := k
    -- check_functions
    refine ⟨_, rfl, _, rfl, _, rfl, _, rfl, f, fdT, ca, la, ra, ⟨rows, ls, ks.length⟩, ks.map V.int, nf, rfl, hf.mono s10, hca.mono s10, hc6, hc3, s10 _ _ hla, s10 _ _ hra, by rw [List.length_map], hnf, ?_⟩
    by_cases hfl : ∃ ds, fdT = .list ds ∧ ds.length ≤ 4
    case neg =>
      have kz2 : Rz C H9 (.str "functions") (.int (-1)) E := (kz fun ds e l4 => hfl ⟨ds, e, l4⟩).later s10
      split
      · rename_i ds
        rw [if_neg fun l4 => hfl ⟨ds, rfl, l4⟩]
        exact kz2
      · exact kz2
    obtain ⟨ds, rfl, l4⟩ := hfl
    obtain ⟨fewd, kd⟩ := kd ds rfl l4
    dsimp only
    rw [if_pos l4]
    refine ⟨fewd, ?_⟩
    rcases kd with ⟨lb, efun, kb⟩ | ⟨cs, many, plb, m, dp, efun, erun, kb⟩
    · rw [efun]
      exact fun t H1 s' ht => kb t H1 (s10.trans s') ht
    rw [efun]
    intro tp cd H11 s11 htp hcd small
    have s12 := s10.trans s11
    refine ⟨tp, _, rfl, SqT.of htp, rfl, .ref cd, _, rfl, .int many, _, rfl, rfl, ?_⟩
    -- check_body, scope_for
    refine ⟨_, rfl, _, rfl, _, rfl, _, rfl, _, rfl, _, rfl, na, ca, la, ra, cd, rows, ns, ls, ks.map V.int, cs, rfl, hca.mono s12, hc6, hc3, s12 _ _ hna, s12 _ _ hla, s12 _ _ hra, hcd, fun scp H13 s13 nscp hscp => ?_⟩
    have s14 := s12.trans s13
    rw [List.length_map] at hscp
    refine ⟨_, rfl, b, bd, scp, _, nf, many, plb, m, dp, rfl, hb.mono s14, hscp, small, hnf, erun, ?_⟩
    cases plb with
    | some lb => exact fun t H1 s' ht => kb t H1 (s14.trans s') ht
    | none =>
    dsimp only at kb ⊢
    by_cases c60 : 60 < many + m
    · rw [if_pos c60] at kb ⊢
      exact kb.later s14
    rw [if_neg c60] at kb ⊢
    obtain ⟨bs, rfl, hcb, hcf, k⟩ := kb
    intro H15 s15
    have s16 := s14.trans s15
    rcases at_lst2 hb with ⟨bda, _, _, rfl, _, hbd, _⟩ | ⟨_, hno⟩
    case inr => exact absurd rfl (hno _)
    rcases at_lst2 hf with ⟨fna, _, _, rfl, _, hfn, _⟩ | ⟨_, hno⟩
    case inr => exact absurd rfl (hno _)
    have f0 : Fil H H15 CP p dx [] := ⟨fun b o e _ => s16 _ _ e, s16 _ _ hp⟩
    have few : ∀ (n : Nat) (fs : List (Str × V)) (k : Str) (v : V), fs.length ≤ n → (putF k v fs).length ≤ n + 1 := fun n fs k v h => Nat.le_trans (putF_len k v fs) (Nat.succ_le_succ h)
    have apart : ∀ {b : Addr} {xs : List V}, H b = some (.lst xs) → b ≠ p := fun {b xs} e => ne_of e hp (by intro z; cases z)
    have g0 : ([] : List (Str × V)).length ≤ 0 := Nat.le_refl _
    -- self._classes
    refine ⟨_, rfl, ca, nul, rows, rfl, hca.mono s16, hc6, hc3, fun q1 H17 s17 hq1 => ?_⟩
    have f1 := f0.new s17
    have k1 : ClsN H H17 q1 rows := hq1.base fun b z => f0.free z
    refine ⟨_, rfl, p, CP, dx, _, rfl, f1.at_, U.cl, U.n1, by omega, ?_⟩
    have f2 := f1.set (putF "_classes" (.ref q1) [])
    have k2 : ClsN H _ q1 rows := k1.other (u := .ins CP dx (putF "_classes" (.ref q1) [])) hp
    have g1 := few 0 [] "_classes" (.ref q1) g0
    -- self._body
    refine ⟨_, rfl, bda, bs, rfl, hb.keepP hp f2.keep, hcb, fun q2 H18 s18 hq2 => ?_⟩
    have f3 := f2.new s18
    have b3 : AtNew H H18 (.ref q2) (.list bs) := At.mono (off_dom fun _ n => f2.free n) hq2
    have k3 := k2.mono s18
    refine ⟨_, rfl, p, CP, dx, _, rfl, f3.at_, U.cl, U.n2, by omega, ?_⟩
    have f4 := f3.set (putF "_body" (.ref q2) (putF "_classes" (.ref q1) []))
    have k4 := k3.other (u := .ins CP dx (putF "_body" (.ref q2) (putF "_classes" (.ref q1) []))) hp
    have b4 := b3.other (u := .ins CP dx (putF "_body" (.ref q2) (putF "_classes" (.ref q1) []))) hp
    have g2 := few 1 _ "_body" (.ref q2) g1
    -- self._variables
    refine ⟨_, rfl, na, _, rfl, .inl (SqL.of (f4.keep _ _ hna (apart hna))), fun q3 nq3 => ?_⟩
    have s19 := same_new (o := .lst (ns.map V.str)) (Same.refl _) nq3
    have f5 := f4.new s19
    have c5 := f4.lst (ns.map V.str) nq3
    have k5 := k4.mono s19
    have b5 := b4.mono s19
    refine ⟨_, rfl, p, CP, dx, _, rfl, f5.at_, U.cl, U.n3, by omega, ?_⟩
    have f6 := f5.set (putF "_variables" (.ref q3) (putF "_body" (.ref q2) (putF "_classes" (.ref q1) [])))
    have k6 := k5.other (u := .ins CP dx (putF "_variables" (.ref q3) (putF "_body" (.ref q2) (putF "_classes" (.ref q1) [])))) hp
    have b6 := b5.other (u := .ins CP dx (putF "_variables" (.ref q3) (putF "_body" (.ref q2) (putF "_classes" (.ref q1) [])))) hp
    have c6 := c5.other (u := .ins CP dx (putF "_variables" (.ref q3) (putF "_body" (.ref q2) (putF "_classes" (.ref q1) [])))) hp
    have g3 := few 2 _ "_variables" (.ref q3) g2
    -- self._weak
    refine ⟨_, rfl, la, _, rfl, .inl (SqL.of (f6.keep _ _ hla (apart hla))), fun q4 nq4 => ?_⟩
    have s20 := same_new (o := .lst (ls.map V.str)) (Same.refl _) nq4
    have f7 := f6.new s20
    have d7 := f6.lst (ls.map V.str) nq4
    have k7 := k6.mono s20
    have b7 := b6.mono s20
    have c7 := c6.mono s20
    refine ⟨_, rfl, p, CP, dx, _, rfl, f7.at_, U.cl, U.n4, by omega, ?_⟩
    have f8 := f7.set (putF "_weak" (.ref q4) (putF "_variables" (.ref q3) (putF "_body" (.ref q2) (putF "_classes" (.ref q1) []))))
    have k8 := k7.other (u := .ins CP dx (putF "_weak" (.ref q4) (putF "_variables" (.ref q3) (putF "_body" (.ref q2) (putF "_classes" (.ref q1) []))))) hp
    have b8 := b7.other (u := .ins CP dx (putF "_weak" (.ref q4) (putF "_variables" (.ref q3) (putF "_body" (.ref q2) (putF "_classes" (.ref q1) []))))) hp
    have c8 := c7.other (u := .ins CP dx (putF "_weak" (.ref q4) (putF "_variables" (.ref q3) (putF "_body" (.ref q2) (putF "_classes" (.ref q1) []))))) hp
    have d8 := d7.other (u := .ins CP dx (putF "_weak" (.ref q4) (putF "_variables" (.ref q3) (putF "_body" (.ref q2) (putF "_classes" (.ref q1) []))))) hp
    have g4 := few 3 _ "_weak" (.ref q4) g3
    -- self._threshold
    refine ⟨_, rfl, _, rfl, p, CP, dx, _, rfl, f8.at_, U.cl, U.n5, by omega, ?_⟩
    have f9 := f8.set (putF "_threshold" (.int th) (putF "_weak" (.ref q4) (putF "_variables" (.ref q3) (putF "_body" (.ref q2) (putF "_classes" (.ref q1) [])))))
    have k9 := k8.other (u := .ins CP dx (putF "_threshold" (.int th) (putF "_weak" (.ref q4) (putF "_variables" (.ref q3) (putF "_body" (.ref q2) (putF "_classes" (.ref q1) [])))))) hp
    have b9 := b8.other (u := .ins CP dx (putF "_threshold" (.int th) (putF "_weak" (.ref q4) (putF "_variables" (.ref q3) (putF "_body" (.ref q2) (putF "_classes" (.ref q1) [])))))) hp
    have c9 := c8.other (u := .ins CP dx (putF "_threshold" (.int th) (putF "_weak" (.ref q4) (putF "_variables" (.ref q3) (putF "_body" (.ref q2) (putF "_classes" (.ref q1) [])))))) hp
    have d9 := d8.other (u := .ins CP dx (putF "_threshold" (.int th) (putF "_weak" (.ref q4) (putF "_variables" (.ref q3) (putF "_body" (.ref q2) (putF "_classes" (.ref q1) [])))))) hp
    have g5 := few 4 _ "_threshold" (.int th) g4
    -- self._radices
    refine ⟨_, rfl, ra, _, rfl, .inl (SqL.of (f9.keep _ _ hra (apart hra))), fun q6 nq6 => ?_⟩
    have s21 := same_new (o := .lst (ks.map V.int)) (Same.refl _) nq6
    have f10 := f9.new s21
    have e10 := f9.lst (ks.map V.int) nq6
    have k10 := k9.mono s21
    have b10 := b9.mono s21
    have c10 := c9.mono s21
    have d10 := d9.mono s21
    refine ⟨_, rfl, p, CP, dx, _, rfl, f10.at_, U.cl, U.n6, by omega, ?_⟩
    generalize hfs6 : putF "_radices" (.ref q6) (putF "_threshold" (.int th) (putF "_weak" (.ref q4) (putF "_variables" (.ref q3) (putF "_body" (.ref q2) (putF "_classes" (.ref q1) []))))) = fs6
    have g6 : fs6.length ≤ 6 := by rw [← hfs6]; exact few 5 _ "_radices" (.ref q6) g5
    have f11 := f10.set fs6
    have k11 := k10.other (u := .ins CP dx fs6) hp
    have b11 := b10.other (u := .ins CP dx fs6) hp
    have c11 := c10.other (u := .ins CP dx fs6) hp
    have d11 := d10.other (u := .ins CP dx fs6) hp
    have e11 := e10.other (u := .ins CP dx fs6) hp
    -- self._functions
    refine ⟨_, rfl, fna, ds, rfl, hf.keepP hp f11.keep, by omega, hcf, fun q7 H22 s22 hq7 => ?_⟩
    have f12 := f11.new s22
    have h12 : AtNew H H22 (.ref q7) (.list ds) := At.mono (off_dom fun _ n => f11.free n) hq7
    refine ⟨_, rfl, p, CP, dx, _, rfl, f12.at_, U.cl, U.n7, by omega, ?_⟩
    have f13 := f12.set (putF "_functions" (.ref q7) fs6)
    refine k _ ⟨dx, q1, q2, q3, q4, q6, q7, ?_, (k11.mono s22).other hp, (b11.mono s22).other hp, (c11.mono s22).other hp, (d11.mono s22).other hp, (e11.mono s22).other hp, h12.other hp⟩ f13.keep
    rw [f13.at_, ← hfs6]
    rfl
end
end K1

set_option Elab.async false
set_option linter.all false
set_option maxRecDepth 100000
set_option maxHeartbeats 8000000
namespace PySem.SeqAt
open Sem (wp)
theorem dct_eq_str (l : Addr) (dd : Option Addr) (es : Array DictEntry) (n : Nat) (sl : Array (Option Value)) (b : Str) (u : Tok) :
    Meets (Builtin.«dict.__eq__» ⟨[.ref l, .str b u], []⟩) (fun _ R s => s.heap.get? l = some { cls := .type "dict", dict := dd, data := .dict es n, slots := sl } ∧ R (.ok (.ret .notImplemented)) s) :=
  .of_wp fun prog w A R s h => by
    obtain ⟨hp, g, d, tk, os⟩ := s
    obtain ⟨hl, h⟩ := h
    have f1 := F.sub_str_dict
    wp_walk using wpAny_loadPart' hl
    exact ⟨_, rfl, h⟩
theorem str_eq_dct (l : Addr) (dd : Option Addr) (es : Array DictEntry) (n : Nat) (sl : Array (Option Value)) (b : Str) (u : Tok) :
    Meets (Builtin.«str.__eq__» ⟨[.str b u, .ref l], []⟩) (fun _ R s => s.heap.get? l = some { cls := .type "dict", dict := dd, data := .dict es n, slots := sl } ∧ R (.ok (.ret .notImplemented)) s) :=
  .of_wp fun prog w A R s h => by
    obtain ⟨hp, g, d, tk, os⟩ := s
    obtain ⟨hl, h⟩ := h
    wp_walk using wpAny_loadPart' hl, wpAny_load hl
    exact ⟨_, rfl, h⟩
theorem dct_eq_lst (l : Addr) (dd : Option Addr) (es : Array DictEntry) (n : Nat) (sl : Array (Option Value)) (k : Addr) (items : Array Value) (m : Nat) (dk : Option Addr) (sk : Array (Option Value)) :
    Meets (Builtin.«dict.__eq__» ⟨[.ref l, .ref k], []⟩) (fun _ R s => (s.heap.get? l = some { cls := .type "dict", dict := dd, data := .dict es n, slots := sl } ∧ s.heap.get? k = some { cls := .type "list", dict := dk, data := .seq items m, slots := sk }) ∧ R (.ok (.ret .notImplemented)) s) :=
  .of_wp fun prog w A R s h => by
    obtain ⟨hp, g, d, tk, os⟩ := s
    obtain ⟨⟨hl, hk⟩, h⟩ := h
    have f1 := F.sub_list_dict
    wp_walk using wpAny_loadPart' hl, wpAny_loadPart' hk, wpAny_load hl, wpAny_load hk
    exact ⟨_, rfl, h⟩
theorem lst_eq_dct (l : Addr) (dd : Option Addr) (es : Array DictEntry) (n : Nat) (sl : Array (Option Value)) (k : Addr) (items : Array Value) (m : Nat) (dk : Option Addr) (sk : Array (Option Value)) :
    Meets (Builtin.«list.__eq__» ⟨[.ref k, .ref l], []⟩) (fun _ R s => (s.heap.get? l = some { cls := .type "dict", dict := dd, data := .dict es n, slots := sl } ∧ s.heap.get? k = some { cls := .type "list", dict := dk, data := .seq items m, slots := sk }) ∧ R (.ok (.ret .notImplemented)) s) :=
  .of_wp fun prog w A R s h => by
    obtain ⟨hp, g, d, tk, os⟩ := s
    obtain ⟨⟨hl, hk⟩, h⟩ := h
    have f1 := F.sub_dict_list
    wp_walk using wpAny_loadPart' hl, wpAny_loadPart' hk, wpAny_load hl, wpAny_load hk
    exact ⟨_, rfl, h⟩
end PySem.SeqAt

set_option Elab.async false
set_option linter.all false
set_option maxRecDepth 100000
set_option maxHeartbeats 8000000
namespace PySem.SeqAt
open AutoSeq1 (wpAny_loadPart')
open MeetsSeq
section
variable {A : Around} {s : Shared}
theorem RcAt.dct_str {l : Addr} {dd : Option Addr} {es : Array DictEntry} {n : Nat} {sl : Array (Option Value)} (b : Str) (u : Tok) (ho : s.heap.get? l = some { cls := .type "dict", dict := dd, data := .dict es n, slots := sl }) (hu : A.units < cLine) : RcAt A s (.ref l) (.str b u) false := fun prog w E Q h =>
  rc_eq_decline_or (k := false) ⟨_, ho, rfl⟩ (typeIs_str s b u) (by decide) F.sub_str_dict F.slot_dict_eq F.slot_str_eq_refl
    (fun _ hq => call_meets F.slot_dict_eq ⟨_, ho, rfl⟩ F.entry_dict_eq (F.args_dict_eq_2 _ _) (dct_eq_str l dd es n sl b u) ⟨ho, hq⟩)
    (fun _ hq => call_meets F.slot_str_eq_refl (typeIs_str s b u) F.entry_str_eq (F.args_str_eq_2 _ _) (str_eq_dct l dd es n sl b u) ⟨ho, hq⟩)
    (fun _ hq => wpAny_of_eq (rfl : isSame (.ref l) (.str b u) = pure false) hq) (.inr hu) h
theorem RcAt.dct_lst {l : Addr} {dd : Option Addr} {es : Array DictEntry} {n : Nat} {sl : Array (Option Value)} {k : Addr} {items : Array Value} (ho : s.heap.get? l = some { cls := .type "dict", dict := dd, data := .dict es n, slots := sl }) (hk : s.heap.IsList k items) (hu : A.units < cLine) : RcAt A s (.ref l) (.ref k) false := fun prog w E Q h => by
  obtain ⟨⟨cls, dk, data, sk⟩, hk, hc, m, hd⟩ := id hk
  simp only at hc hd
  subst hc hd
  have ne : l ≠ k := fun z => by
    rw [z, hk] at ho
    exact absurd (Value.type.inj (congrArg Obj.cls (Option.some.inj ho))) (by decide)
  exact rc_eq_decline_or (k := false) ⟨_, ho, rfl⟩ ⟨_, hk, rfl⟩ (by decide) F.sub_list_dict F.slot_dict_eq F.slot_list_eq_refl
    (fun _ hq => call_meets F.slot_dict_eq ⟨_, ho, rfl⟩ F.entry_dict_eq (F.args_dict_eq_2 _ _) (dct_eq_lst l dd es n sl k items m dk sk) ⟨⟨ho, hk⟩, hq⟩)
    (fun _ hq => call_meets F.slot_list_eq_refl ⟨_, hk, rfl⟩ F.entry_list_eq (F.args_list_eq_2 _ _) (lst_eq_dct l dd es n sl k items m dk sk) ⟨⟨ho, hk⟩, hq⟩)
    (fun _ hq => wpAny_isSame_ref_other' ne ho hk (fun z => absurd (Value.type.inj z) (by decide)) hq) (.inr hu) h
end
end PySem.SeqAt
namespace L2
open PySem PySem.Spec PyProof.Rows
section
variable {X : Cx}
def rEqM (K : PySem.W.Frag) : V → V → Hp → VK → Prop := fun x y H Q => rEqD K x y H Q ∨ ∃ (d : Addr) (kvs : List (Key × V)), x = .ref d ∧ H d = some (.dK kvs) ∧ ((∃ z, y = .str z) ∨ ∃ l ys, y = .ref l ∧ H l = some (.lst ys)) ∧ Q (.bl false) H
theorem op_eqM (hu : X.A.units + 64 < cLine) : OpR X (compareOp .Eq) (rEqM X.K) := by
  intro pins s σ H x y v u Q I rx ry h
  rcases h with h | ⟨d, kvs, rfl, hd, hy, q⟩
  · exact op_eqD hu pins s σ H x y v u Q I rx ry h
  obtain rfl : v = Value.ref d := rx
  obtain ⟨_, _, va, _, od, es, ep, ho, ⟨e1, e2, e3⟩, e4, _⟩ := (show ObjOk X.prog X.w H s.heap d (.dK kvs) from I.hok d _ hd)
  have hd' : s.heap.get? d = some { cls := .type "dict", dict := none, data := .dict es ep, slots := #[] } := by
    rw [ho]
    obtain ⟨c1, c2, c3, c4⟩ := od
    simp only at e1 e2 e3 e4
    subst e1 e2 e3 e4
    rfl
  have hu' : X.A.units < cLine := by omega
  rcases hy with ⟨z, rfl⟩ | ⟨l, ys, rfl, hl⟩
  · obtain ⟨t, rfl⟩ := ry
    exact SeqAt.RcAt.dct_str z t hd' hu' _ _ _ _ ⟨.bl _, H, I, rfl, q⟩
  · obtain rfl : u = Value.ref l := ry
    obtain ⟨_, its, n, _, hl'⟩ := (show ObjOk X.prog X.w H s.heap l (.lst ys) from I.hok l _ hl)
    exact SeqAt.RcAt.dct_lst hd' ⟨_, hl', rfl, n, rfl⟩ hu' _ _ _ _ ⟨.bl _, H, I, rfl, q⟩
end
end L2

set_option Elab.async false
set_option linter.all false
set_option maxRecDepth 100000
set_option maxHeartbeats 8000000
namespace K1
open PySem L2
/-! ### a text so many times -/
def repS (x : Str) (k : Int) : Str := ⟨(List.replicate k.toNat x.cps).foldl (· ++ ·) #[]⟩
def rRepS : V → V → Hp → VK → Prop := fun x y H Q => ∃ (z : Str) (k : Int), x = .str z ∧ y = .int k ∧ 2 ≤ k ∧ k ≤ 1000 ∧ z.length ≠ 0 ∧ z.length ≤ 1000 ∧ (repS z k).length ≤ sizeLine ∧ Q (.str (repS z k)) H
theorem op_repS {X : Cx} : OpR X (binaryOp .Mult) rRepS := by
  intro pins s σ H x y v u Q I rx ry h
  obtain ⟨z, k, rfl, rfl, k2, k3, z0, z1, few, q⟩ := h
  obtain ⟨t, rfl⟩ := rx
  obtain ⟨t', rfl⟩ := ry
  have c1 : ¬ k < 1 := by omega
  have c2 : (k == 1 || z.length == 0) = false := by
    rw [Bool.or_eq_false_iff]
    exact ⟨by rw [beq_eq_false_iff_ne]; omega, by rw [beq_eq_false_iff_ne]; exact z0⟩
  refine P.mul_str ?_ (fun _ _ => ?_) (fun _ _ => ?_) ?_
  · rw [decide_eq_false (show ¬ k < -(2 ^ 63 : Int) by omega), decide_eq_false (show ¬ k ≥ 2 ^ 63 by omega)]
    rfl
  · have h1 : (1000 : Int) ≤ (2 ^ 63 - 1) / k := by
      rw [Int.le_ediv_iff_mul_le (by omega)]
      omega
    omega
  · unfold Builtin.Str.tooLong
    rw [decide_eq_false]
    have e1 : z.length * k.toNat ≤ 1000 * 1000 := Nat.mul_le_mul z1 (by omega)
    have e2 : 1000 * 1000 ≤ sizeLine := by decide
    omega
  · rw [if_neg c1, if_neg (by rw [c2]; exact Bool.false_ne_true)]
    exact ⟨few, .str (repS z k), H, I.tok _, ⟨_, rfl⟩, q⟩
/-! ### written data -/
def DL (t : TE) (d : PyData) (σ : St) (H1 : Hp) : Prop := ∀ H2, Same H1 H2 → ∀ Q : VK, (∀ v H3, Same H2 H3 → At (off H2 H3) v d → Q v H3) → t σ H2 Q
def DLs (ts : TA) (ds : List PyData) (σ : St) (H1 : Hp) : Prop := ∀ H2, Same H1 H2 → ∀ Q : List V → Hp → Prop, (∀ vs H3, Same H2 H3 → AtAll (off H2 H3) vs ds → Q vs H3) → ts σ H2 Q
section
variable {σ : St} {H1 : Hp} {t : TE} {ts : TA} {d : PyData} {ds : List PyData}
theorem dl_non : DL (tC .non) .none σ H1 := fun H2 _ Q k => k _ H2 (Same.refl _) .non
theorem dl_int {i : Int} : DL (tC (.int i)) (.int i) σ H1 := fun H2 _ Q k => k _ H2 (Same.refl _) (.int i)
theorem dl_bl {b : Bool} : DL (tC (.bl b)) (.bool b) σ H1 := fun H2 _ Q k => k _ H2 (Same.refl _) (.bl b)
theorem dl_str {s : Str} (h : (decide (s.length ≤ 1000) && PyData.strOk s) = true := by decide +kernel) : DL (tC (.str s)) (.str s) σ H1 := fun H2 _ Q k => by
  rw [Bool.and_eq_true] at h
  exact k _ H2 (Same.refl _) (.str s ⟨of_decide_eq_true h.1, h.2⟩)
theorem dl_nil : DLs tNil [] σ H1 := fun H2 _ Q k => k [] H2 (Same.refl _) .nil
theorem dl_cons (h : DL t d σ H1) (r : DLs ts ds σ H1) : DLs (tCons t ts) (d :: ds) σ H1 := fun H2 s Q k =>
  h H2 s _ fun v H3 s3 a => r H3 (s.trans s3) _ fun vs H4 s4 as => k (v :: vs) H4 (s3.trans s4) (.cons (a.mono (off_mono s4)) (as.mono (off_base s3)))
theorem off_new {H H3 : Hp} {p : Addr} {o : HO} (s : Same H H3) (n : H3 p = none) : off H (upd H3 p o) p = some o := off_of (none_of' s n) upd_same
theorem dl_lst (h : DLs ts ds σ H1) (few : ds.length ≤ sizeLine) : DL (tLst ts) (.list ds) σ H1 := fun H2 s Q k => h H2 s _ fun vs H3 s3 a => ⟨by rw [a.len]; exact few, fun p np => k _ _ (same_new s3 np) (.lst (off_new s3 np) (a.mono (off_mono (same_new (Same.refl _) np))))⟩
theorem dl_tup (h : DLs ts ds σ H1) (few : ds.length ≤ sizeLine) : DL (tTup ts) (.tuple ds) σ H1 := fun H2 s Q k => h H2 s _ fun vs H3 s3 a => ⟨by rw [a.len]; exact few, fun p np => k _ _ (same_new s3 np) (.tup (off_new s3 np) (a.mono (off_mono (same_new (Same.refl _) np))))⟩
theorem lst_new (h : DLs ts ds σ H1) (few : ds.length ≤ sizeLine) {Q : VK} (k : ∀ l vs H3, Same H1 H3 → AtAll (off H1 H3) vs ds → H3 l = none → Q (.ref l) (upd H3 l (.lst vs))) : tLst ts σ H1 Q := h H1 (Same.refl _) _ fun vs H3 s3 a => ⟨by rw [a.len]; exact few, fun l nl => k l vs H3 s3 a nl⟩
theorem one_arg (h : DL t d σ H1) {Q : List V → Hp → Prop} (k : ∀ v H3, Same H1 H3 → At (off H1 H3) v d → Q [v] H3) : tCons t tNil σ H1 Q := h H1 (Same.refl _) _ fun v H3 s3 a => k v H3 s3 a
theorem dl_dic : DL tDNewK (.dict []) σ H1 := fun H2 s Q k p np => k _ _ (same_new (Same.refl _) np) (.dic (off_new (Same.refl _) np))
end
/-! ### trees beside a list that is changed -/
def hide (l : Addr) (H : Hp) : Hp := fun a => if a = l then none else H a
theorem hide_ne {l a : Addr} {H : Hp} (h : a ≠ l) : hide l H a = H a := if_neg h
theorem hide_upd {l : Addr} {H : Hp} {o : HO} : hide l (upd H l o) = hide l H := by
  funext a
  unfold hide
  by_cases e : a = l
  · rw [if_pos e, if_pos e]
  · rw [if_neg e, if_neg e, upd_ne e]
theorem hide_sub {l : Addr} {H : Hp} : Same (hide l H) H := fun a o e => by
  unfold hide at e
  split at e
  · cases e
  · exact e
theorem hide_mono {l : Addr} {H H' : Hp} (s : Same H H') : Same (hide l H) (hide l H') := fun a o e => by
  unfold hide at e ⊢
  split at e
  · cases e
  · rename_i n
    rw [if_neg n]
    exact s _ _ e
theorem hide_off {l : Addr} {H H' : Hp} {o : HO} (h : H l = some o) : Same (off H H') (hide l H') := fun a u e => by
  obtain ⟨e1, e2⟩ := off_at e
  rw [hide_ne (fun z => by rw [z, h] at e1; cases e1)]
  exact e2
theorem hide_of {l : Addr} {H H' : Hp} (h : H l = none) (s : Same H H') : Same H (hide l H') := fun a u e => by
  rw [hide_ne (fun z => by rw [z, h] at e; cases e)]
  exact s _ _ e
theorem AtAll.append {H : Hp} {vs ws : List V} {ds es : List PyData} (h : AtAll H vs ds) (r : AtAll H ws es) : AtAll H (vs ++ ws) (ds ++ es) := at_app h r
theorem AtAll.take {H : Hp} : ∀ {vs : List V} {ds : List PyData} (n : Nat), AtAll H vs ds → AtAll H (vs.take n) (ds.take n)
  | _, _, 0, _ => .nil
  | _, _, n + 1, .nil => .nil
  | _, _, n + 1, .cons h t => .cons h (AtAll.take n t)
theorem AtAll.drop {H : Hp} : ∀ {vs : List V} {ds : List PyData} (n : Nat), AtAll H vs ds → AtAll H (vs.drop n) (ds.drop n)
  | _, _, 0, h => h
  | _, _, n + 1, .nil => .nil
  | _, _, n + 1, .cons h t => AtAll.drop n t
theorem AtAll.set {H : Hp} : ∀ {vs : List V} {ds : List PyData} {v : V} {d : PyData} (n : Nat), AtAll H vs ds → At H v d → AtAll H (vs.set n v) (ds.set n d)
  | _, _, _, _, _, .nil, _ => .nil
  | _, _, _, _, 0, .cons h t, a => .cons a t
  | _, _, _, _, n + 1, .cons h t, a => .cons h (AtAll.set n t a)
theorem AtAll.at {H : Hp} : ∀ {vs : List V} {ds : List PyData} {n : Nat} {d : PyData}, AtAll H vs ds → ds[n]? = some d → ∃ v, vs[n]? = some v ∧ At H v d
  | _, _, _, _, .nil, h => by simp at h
  | _, _, 0, _, .cons h t, e => by
    simp only [List.getElem?_cons_zero, Option.some.injEq] at e
    exact ⟨_, rfl, e ▸ h⟩
  | _, _, n + 1, _, .cons h t, e => by
    simp only [List.getElem?_cons_succ] at e ⊢
    exact AtAll.at t e
/-! ### slices -/
theorem sIx_pos {n d : Nat} {k : Int} (h0 : 0 ≤ k) (h : k ≤ n) : HT.sIx n d (some k) = k.toNat := by
  show (if k < 0 then (k + (n : Int)).toNat else min k.toNat n) = k.toNat
  rw [if_neg (by omega)]
  omega
theorem sIx_min {n d : Nat} {k : Int} (h0 : 0 ≤ k) : HT.sIx n d (some k) = min k.toNat n := by
  show (if k < 0 then (k + (n : Int)).toNat else min k.toNat n) = min k.toNat n
  rw [if_neg (by omega)]
theorem cut_to {xs : List V} {k : Int} (h0 : 0 ≤ k) : cutV xs none (some k) = xs.take k.toNat := by
  unfold cutV
  rw [sIx_min h0, show HT.sIx xs.length 0 none = 0 from rfl, List.drop_zero, Nat.sub_zero]
  by_cases c : k.toNat ≤ xs.length
  · rw [Nat.min_eq_left c]
  · rw [Nat.min_eq_right (by omega), List.take_of_length_le (Nat.le_refl _), List.take_of_length_le (by omega)]
theorem cut_from {xs : List V} {k : Int} (h0 : 0 ≤ k) : cutV xs (some k) none = xs.drop k.toNat := by
  unfold cutV
  rw [sIx_min h0, show HT.sIx xs.length xs.length none = xs.length from rfl]
  by_cases c : k.toNat ≤ xs.length
  · rw [Nat.min_eq_left c, List.take_of_length_le (by rw [List.length_drop]; exact Nat.le_refl _)]
  · rw [Nat.min_eq_right (by omega), Nat.sub_self, List.take_zero, List.drop_eq_nil_of_le (by omega)]
/-! ### trees without dicts are what == looks at -/
mutual
def noDic : PyData → Bool
  | .dict _ => false
  | .list ds => noDics ds
  | .tuple ds => noDics ds
  | _ => true
def noDics : List PyData → Bool
  | [] => true
  | d :: ds => noDic d && noDics ds
end
mutual
theorem At.dp {K : PySem.W.Frag} {H : Hp} : ∀ {v : V} {d : PyData}, At H v d → noDic d = true → Dp K H v d
  | _, _, .non, _ => .non
  | _, _, .bl b, _ => .bl b
  | _, _, .int i, _ => .int i
  | _, _, .str z _, _ => .str z
  | _, _, .lst e h, n => .lst (SqL.of e) (AtAll.dps h (by rw [noDic] at n; exact n))
  | _, _, .tup e h, n => .tup (SqT.of e) (AtAll.dps h (by rw [noDic] at n; exact n))
  | _, _, .dic e, n => by rw [noDic] at n; cases n
theorem AtAll.dps {K : PySem.W.Frag} {H : Hp} : ∀ {vs : List V} {ds : List PyData}, AtAll H vs ds → noDics ds = true → DpAll K H vs ds
  | _, _, .nil, _ => .nil
  | _, _, .cons h t, n => by
    rw [noDics, Bool.and_eq_true] at n
    exact .cons (At.dp h n.1) (AtAll.dps t n.2)
end
end K1

set_option Elab.async false
set_option linter.all false
set_option maxRecDepth 100000
set_option maxHeartbeats 8000000
namespace K1
open PySem L2
/-! ### expressions that give trees, on whatever heap behind the one given; some objects are hidden: no tree has them -/
def hid (L : List Addr) (H : Hp) : Hp := fun a => if a ∈ L then none else H a
def Live (L : List Addr) (H : Hp) : Prop := ∀ l ∈ L, H l ≠ none
theorem live_nil {H : Hp} : Live [] H := fun l h => by cases h
theorem Live.mono {L : List Addr} {H H' : Hp} (h : Live L H) (s : Same H H') : Live L H' := fun l m e => by
  have := h l m
  cases q : H l with
  | none => exact this q
  | some o => rw [s _ _ q] at e; cases e
theorem hid_ne {L : List Addr} {H : Hp} {a : Addr} (h : a ∉ L) : hid L H a = H a := if_neg h
theorem hid_nil {H : Hp} : hid [] H = H := by
  funext a
  exact hid_ne (by simp)
theorem hid_sub {L : List Addr} {H : Hp} : Same (hid L H) H := fun a o e => by
  unfold hid at e
  split at e
  · cases e
  · exact e
theorem hid_mono {L : List Addr} {H H' : Hp} (s : Same H H') : Same (hid L H) (hid L H') := fun a o e => by
  unfold hid at e ⊢
  split at e
  · cases e
  · rename_i n
    rw [if_neg n]
    exact s _ _ e
theorem hid_new {L : List Addr} {H : Hp} {p : Addr} {o : HO} (lv : Live L H) (n : H p = none) : hid L (upd H p o) p = some o := by
  rw [hid_ne (fun m => lv p m n), upd_same]
theorem hid_upd {l : Addr} {L : List Addr} {H : Hp} {o : HO} (m : l ∈ L) : hid L (upd H l o) = hid L H := by
  funext a
  unfold hid
  by_cases e : a ∈ L
  · rw [if_pos e, if_pos e]
  · rw [if_neg e, if_neg e, upd_ne (fun z => e (by rw [z]; exact m))]
theorem hid_off {L : List Addr} {H H' : Hp} (lv : Live L H) : Same (off H H') (hid L H') := fun a u e => by
  obtain ⟨e1, e2⟩ := off_at e
  rw [hid_ne (fun m => lv a m e1)]
  exact e2
/-- what stood when the hidden ones were not there yet -/
theorem hid_of {L : List Addr} {H H' : Hp} (h : ∀ l ∈ L, H l = none) (s : Same H H') : Same H (hid L H') := fun a u e => by
  rw [hid_ne (fun m => by rw [h a m] at e; cases e)]
  exact s _ _ e
def DT (L : List Addr) (t : TE) (d : PyData) (σ : St) (H1 : Hp) : Prop := ∀ H2, Same H1 H2 → ∀ Q : VK, (∀ v H3, Same H2 H3 → At (hid L H3) v d → Q v H3) → t σ H2 Q
def DTs (L : List Addr) (ts : TA) (ds : List PyData) (σ : St) (H1 : Hp) : Prop := ∀ H2, Same H1 H2 → ∀ Q : List V → Hp → Prop, (∀ vs H3, Same H2 H3 → AtAll (hid L H3) vs ds → Q vs H3) → ts σ H2 Q
def VE (t : TE) (v : V) (σ : St) (H1 : Hp) : Prop := ∀ H2, Same H1 H2 → ∀ Q : VK, Q v H2 → t σ H2 Q
/-- tests -/
def BE (t : TT) (b : Bool) (σ : St) (H1 : Hp) : Prop := ∀ H2, Same H1 H2 → ∀ Q : Bool → Hp → Prop, (∀ H3, Same H2 H3 → Q b H3) → t σ H2 Q
section
variable {L : List Addr} {σ : St} {H1 : Hp} {t u : TE} {ts : TA} {d e : PyData} {ds es : List PyData} {K : PySem.W.Frag} {v : V} {i j : Int}
theorem VE.mono {H2 : Hp} (h : VE t v σ H1) (s : Same H1 H2) : VE t v σ H2 := fun H3 s3 => h H3 (s.trans s3)
theorem DT.mono {H2 : Hp} (h : DT L t d σ H1) (s : Same H1 H2) : DT L t d σ H2 := fun H3 s3 => h H3 (s.trans s3)
theorem ve_int : VE (tC (.int i)) (.int i) σ H1 := fun H2 _ Q q => q
theorem ve_c : VE (tC v) v σ H1 := fun H2 _ Q q => q
theorem ve_var {s : Nat} (e : σ[s]? = some (some v)) : VE (tVar s) v σ H1 := fun H2 _ Q q => ⟨v, e, q⟩
abbrev tDg (K : PySem.W.Frag) (s : Nat) (i : Int) : TE := tCB (fun xs H Q => (∃ i, xs = [V.int i] ∧ Q (V.int i) H) ∨ ∃ k, xs = [V.bl k] ∧ Q (V.int (if k = true then 1 else 0)) H) (tCons (tOp (rIxL K) (tVar s) (tC (.int i))) tNil)
theorem ve_dg {s j : Nat} {z : Int} {dg : Addr} {xs : List Int} (e : σ[s]? = some (some (.ref dg))) (h : H1 dg = some (.lst (xs.map V.int))) (hj : xs[j]? = some z) (ij : i = (j : Int)) : VE (tDg K s i) (.int z) σ H1 := fun H2 s2 Q q => by
  subst ij
  exact ⟨_, e, dg, _, _, _, rfl, rfl, SqL.of (s2 _ _ h), atI_nat (by rw [List.getElem?_map, hj]; rfl), .inl ⟨z, rfl, q⟩⟩
theorem dg_get {xs : List Int} {n : Nat} (h : xs.length = n) (j : Nat) (hj : j < n) : xs[j]? = some (xs.getD j 0) := by
  rw [List.getD_eq_getElem?_getD, List.getElem?_eq_getElem (by omega)]
  rfl
theorem ve_mod (h : VE t (.int i) σ H1) (r : VE u (.int j) σ H1) (p : 0 < j) : VE (tOp (rI (fun _ j => 0 < j) fun i j => V.int (i % j)) t u) (.int (i % j)) σ H1 := fun H2 s Q q => h H2 s _ (r H2 s _ ⟨i, j, rfl, rfl, p, q⟩)
theorem ve_add (h : VE t (.int i) σ H1) (r : VE u (.int j) σ H1) : VE (tOp (rI0 fun i j => V.int (i + j)) t u) (.int (i + j)) σ H1 := fun H2 s Q q => h H2 s _ (r H2 s _ ⟨i, j, rfl, rfl, q⟩)
theorem ve_sub (h : VE t (.int i) σ H1) (r : VE u (.int j) σ H1) : VE (tOp (rI0 fun i j => V.int (i - j)) t u) (.int (i - j)) σ H1 := fun H2 s Q q => h H2 s _ (r H2 s _ ⟨i, j, rfl, rfl, q⟩)
/-- len(x), x in a slot -/
theorem ve_len {s : Nat} {a : Addr} {xs : List V} (e : σ[s]? = some (some (.ref a))) (h : H1 a = some (.lst xs)) : VE (tCB (fun xs H Q => ∃ p ys, xs = [V.ref p] ∧ (SqL K H p ys ∨ SqT K H p ys) ∧ Q (V.int (ys.length : Nat)) H) (tCons (tVar s) tNil)) (.int (xs.length : Nat)) σ H1 := fun H2 s2 Q q => ⟨_, e, a, xs, rfl, .inl (SqL.of (s2 _ _ h)), q⟩
theorem dt_v (h : VE t v σ H1) (a : ∀ H2, Same H1 H2 → At (hid L H2) v d) : DT L t d σ H1 := fun H2 s Q k => h H2 s _ (k v H2 (Same.refl _) (a H2 s))
theorem dt_var {s : Nat} (e : σ[s]? = some (some v)) (a : At (hid L H1) v d) : DT L (tVar s) d σ H1 := dt_v (ve_var e) fun H2 s => a.mono (hid_mono s)
theorem dt_int (h : VE t (.int i) σ H1) : DT L t (.int i) σ H1 := dt_v h fun _ _ => .int i
theorem dt_l (h : DL t d σ H1) (lv : Live L H1) : DT L t d σ H1 := fun H2 s Q k => h H2 s _ fun v H3 s3 a => k v H3 s3 (a.mono (hid_off (lv.mono s)))
theorem dt_nil : DTs L tNil [] σ H1 := fun H2 _ Q k => k [] H2 (Same.refl _) .nil
theorem dt_cons (h : DT L t d σ H1) (r : DTs L ts ds σ H1) : DTs L (tCons t ts) (d :: ds) σ H1 := fun H2 s Q k =>
  h H2 s _ fun v H3 s3 a => r H3 (s.trans s3) _ fun vs H4 s4 as => k (v :: vs) H4 (s3.trans s4) (.cons (a.mono (hid_mono s4)) as)
theorem dt_lst (lv : Live L H1) (h : DTs L ts ds σ H1) (few : ds.length ≤ sizeLine) : DT L (tLst ts) (.list ds) σ H1 := fun H2 s Q k => h H2 s _ fun vs H3 s3 a => ⟨by rw [a.len]; exact few, fun p np => k _ _ (same_new s3 np) (.lst (hid_new (lv.mono (s.trans s3)) np) (a.mono (hid_mono (same_new (Same.refl _) np))))⟩
theorem dt_tup (lv : Live L H1) (h : DTs L ts ds σ H1) (few : ds.length ≤ sizeLine) : DT L (tTup ts) (.tuple ds) σ H1 := fun H2 s Q k => h H2 s _ fun vs H3 s3 a => ⟨by rw [a.len]; exact few, fun p np => k _ _ (same_new s3 np) (.tup (hid_new (lv.mono (s.trans s3)) np) (a.mono (hid_mono (same_new (Same.refl _) np))))⟩
theorem at_l {H : Hp} (h : At H v (.list ds)) : ∃ a xs, v = .ref a ∧ H a = some (.lst xs) ∧ AtAll H xs ds := by
  cases h with
  | lst e t => exact ⟨_, _, rfl, e, t⟩
theorem at_t {H : Hp} (h : At H v (.tuple ds)) : ∃ a xs, v = .ref a ∧ H a = some (.tup xs) ∧ AtAll H xs ds := by
  cases h with
  | tup e t => exact ⟨_, _, rfl, e, t⟩
theorem dt_ixL {n : Nat} (h : DT L t (.list ds) σ H1) (r : VE u (.int i) σ H1) (hn : ds[n]? = some d) (e : i = (n : Int)) : DT L (tOp (rIxL K) t u) d σ H1 := fun H2 s Q k => h H2 s _ fun v H3 s3 a => r H3 (s.trans s3) _ (by
    obtain ⟨p, xs, rfl, hp, as⟩ := at_l a
    obtain ⟨y, hy, ay⟩ := as.at hn
    subst e
    exact ⟨p, xs, _, y, rfl, rfl, SqL.of (hid_sub _ _ hp), atI_nat hy, k y H3 s3 ay⟩)
theorem dt_ixT {n : Nat} (h : DT L t (.tuple ds) σ H1) (r : VE u (.int i) σ H1) (hn : ds[n]? = some d) (e : i = (n : Int)) : DT L (tOp (rIxT K) t u) d σ H1 := fun H2 s Q k => h H2 s _ fun v H3 s3 a => r H3 (s.trans s3) _ (by
    obtain ⟨p, xs, rfl, hp, as⟩ := at_t a
    obtain ⟨y, hy, ay⟩ := as.at hn
    subst e
    exact ⟨p, xs, _, y, rfl, rfl, SqT.of (hid_sub _ _ hp), atI_nat hy, k y H3 s3 ay⟩)
theorem dt_cat (lv : Live L H1) (h : DT L t (.list ds) σ H1) (r : DT L u (.list es) σ H1) (few : ds.length + es.length ≤ sizeLine) : DT L (tOp rCat t u) (.list (ds ++ es)) σ H1 := fun H2 s Q k => h H2 s _ fun v H3 s3 a => r H3 (s.trans s3) _ fun w H4 s4 b => by
  obtain ⟨p, xs, rfl, hp, as⟩ := at_l (a.mono (hid_mono s4))
  obtain ⟨q, ys, rfl, hq, bs⟩ := at_l b
  refine ⟨p, q, xs, ys, rfl, rfl, hid_sub _ _ hp, hid_sub _ _ hq, by rw [as.len, bs.len]; exact few, fun l nl => ?_⟩
  have s5 := same_new (o := .lst (xs ++ ys)) (Same.refl H4) nl
  exact k _ _ ((s3.trans s4).trans s5) (.lst (hid_new (lv.mono ((s.trans s3).trans s4)) nl) ((as.append bs).mono (hid_mono s5)))
theorem dt_listT (lv : Live L H1) (h : DT L t (.tuple ds) σ H1) : DT L (tCB (rLof K) (tCons t tNil)) (.list ds) σ H1 := fun H2 s Q k => h H2 s _ fun v H3 s3 a => by
  obtain ⟨p, xs, rfl, hp, as⟩ := at_t a
  refine ⟨p, xs, rfl, .inr (SqT.of (hid_sub _ _ hp)), fun l nl => ?_⟩
  have s4 := same_new (o := .lst xs) (Same.refl H3) nl
  exact k _ _ (s3.trans s4) (.lst (hid_new (lv.mono (s.trans s3)) nl) (as.mono (hid_mono s4)))
theorem dt_tupL (lv : Live L H1) (h : DT L t (.list ds) σ H1) : DT L (tCB (rTof K) (tCons t tNil)) (.tuple ds) σ H1 := fun H2 s Q k => h H2 s _ fun v H3 s3 a => by
  obtain ⟨p, xs, rfl, hp, as⟩ := at_l a
  refine ⟨p, xs, rfl, .inl ⟨SqL.of (hid_sub _ _ hp), fun l nl => ?_⟩⟩
  have s4 := same_new (o := .tup xs) (Same.refl H3) nl
  exact k _ _ (s3.trans s4) (.tup (hid_new (lv.mono (s.trans s3)) nl) (as.mono (hid_mono s4)))
theorem dt_to (lv : Live L H1) (h : DT L t (.list ds) σ H1) (r : VE u (.int i) σ H1) (p : 0 ≤ i) : DT L (tSl (rSlL K) t tNoPart (tPart u)) (.list (ds.take i.toNat)) σ H1 := fun H2 s Q k => h H2 s _ fun v H3 s3 a => r H3 (s.trans s3) _ (by
    obtain ⟨q, xs, rfl, hq, as⟩ := at_l a
    refine ⟨i, rfl, q, xs, rfl, SqL.of (hid_sub _ _ hq), fun l nl => ?_⟩
    have s4 := same_new (o := .lst (cutV xs none (some i))) (Same.refl H3) nl
    refine k _ _ (s3.trans s4) (.lst (hid_new (lv.mono (s.trans s3)) nl) ?_)
    rw [cut_to p]
    exact (as.mono (hid_mono (same_new (Same.refl _) nl))).take _)
theorem dt_from (lv : Live L H1) (h : DT L t (.list ds) σ H1) (r : VE u (.int i) σ H1) (p : 0 ≤ i) : DT L (tSl (rSlL K) t (tPart u) tNoPart) (.list (ds.drop i.toNat)) σ H1 := fun H2 s Q k => h H2 s _ fun v H3 s3 a => r H3 (s.trans s3) _ (by
    obtain ⟨q, xs, rfl, hq, as⟩ := at_l a
    refine ⟨i, rfl, q, xs, rfl, SqL.of (hid_sub _ _ hq), fun l nl => ?_⟩
    have s4 := same_new (o := .lst (cutV xs (some i) none)) (Same.refl H3) nl
    refine k _ _ (s3.trans s4) (.lst (hid_new (lv.mono (s.trans s3)) nl) ?_)
    rw [cut_from p]
    exact (as.mono (hid_mono (same_new (Same.refl _) nl))).drop _)
theorem dt_rep (lv : Live L H1) (h : DT L t (.list ds) σ H1) (c1 : 0 ≤ i) (c2 : i < 2 ^ 63) (few : ds.length * i.toNat ≤ sizeLine) : DT L (tOp rRep t (tC (.int i))) (.list (List.replicate i.toNat ds).flatten) σ H1 := fun H2 s Q k => h H2 s _ fun v H3 s3 a => by
    obtain ⟨q, xs, rfl, hq, as⟩ := at_l a
    refine ⟨q, i, xs, rfl, rfl, hid_sub _ _ hq, by omega, c2, by rw [as.len]; exact few, fun l nl => ?_⟩
    have s4 := same_new (o := .lst (List.replicate i.toNat xs).flatten) (Same.refl H3) nl
    refine k _ _ (s3.trans s4) (.lst (hid_new (lv.mono (s.trans s3)) nl) ?_)
    have as4 := as.mono (hid_mono (L := L) (same_new (o := .lst (List.replicate i.toNat xs).flatten) (Same.refl _) nl))
    have : ∀ n : Nat, AtAll (hid L (upd H3 l (.lst (List.replicate i.toNat xs).flatten))) (List.replicate n xs).flatten (List.replicate n ds).flatten := fun n => by
      induction n with
      | zero => exact .nil
      | succ n ih =>
        rw [List.replicate_succ, List.replicate_succ, List.flatten_cons, List.flatten_cons]
        exact as4.append ih
    exact this _
/-- x == y, x != y -/
theorem be_eq (h : DT [] t d σ H1) (r : DT [] u e σ H1) (nd : noDic d = true) (ne : noDic e = true) (sd : SeqAt.shaped d = true) (se : SeqAt.shaped e = true) : BE (tTest (tOp (rEqD K) t u)) (PyData.eqv d e) σ H1 := fun H2 s Q k => h H2 s _ fun v H3 s3 a => r H3 (s.trans s3) _ fun w H4 s4 b => by
  rw [hid_nil] at a b
  exact ⟨d, e, (a.mono s4).dp nd, b.dp ne, sd, se, _, rfl, k H4 (s3.trans s4)⟩
theorem be_ne (h : DT [] t d σ H1) (r : DT [] u e σ H1) (nd : noDic d = true) (ne : noDic e = true) (sd : SeqAt.shaped d = true) (se : SeqAt.shaped e = true) : BE (tTest (tOp (rNeD K) t u)) (!PyData.eqv d e) σ H1 := fun H2 s Q k => h H2 s _ fun v H3 s3 a => r H3 (s.trans s3) _ fun w H4 s4 b => by
  rw [hid_nil] at a b
  exact ⟨d, e, (a.mono s4).dp nd, b.dp ne, sd, se, _, rfl, k H4 (s3.trans s4)⟩
/-! ### a list of the def's own that is changed -/
def LA (H : Hp) (l : Addr) (ds : List PyData) (H1 : Hp) : Prop := H l = none ∧ Same H H1 ∧ ∃ vs, H1 l = some (.lst vs) ∧ AtAll (hid [l] H1) vs ds
theorem LA.live {H : Hp} {l : Addr} (h : LA H l ds H1) : Live [l] H1 := fun a m => by
  rw [List.mem_singleton] at m
  obtain ⟨_, _, vs, e, _⟩ := h
  rw [m, e]
  exact fun z => nomatch z
theorem LA.first {H H3 : Hp} {l : Addr} {vs : List V} (s : Same H H3) (a : AtAll H3 vs ds) (n : H3 l = none) : LA H l ds (upd H3 l (.lst vs)) :=
  ⟨none_of' s n, same_new s n, vs, upd_same, by rw [hid_upd (by simp)]; exact a.mono (hid_of (fun b m => by rw [List.mem_singleton.mp m]; exact n) (Same.refl _))⟩
theorem LA.push {H H3 : Hp} {l : Addr} {v : V} {vs : List V} (h : LA H l ds H1) (hl : H1 l = some (.lst vs)) (s : Same H1 H3) (a : At (hid [l] H3) v d) : LA H l (ds ++ [d]) (upd H3 l (.lst (vs ++ [v]))) := by
  obtain ⟨h0, s1, ws, e, as⟩ := h
  rw [hl] at e
  cases e
  refine ⟨h0, same_updL (s1.trans s) h0, vs ++ [v], upd_same, ?_⟩
  rw [hid_upd (by simp)]
  exact (as.mono (hid_mono s)).append (.cons a .nil)
theorem LA.set {H H3 : Hp} {l : Addr} {v : V} {vs : List V} (n : Nat) (h : LA H l ds H1) (hl : H1 l = some (.lst vs)) (s : Same H1 H3) (a : At (hid [l] H3) v d) : LA H l (ds.set n d) (upd H3 l (.lst (vs.set n v))) := by
  obtain ⟨h0, s1, ws, e, as⟩ := h
  rw [hl] at e
  cases e
  refine ⟨h0, same_updL (s1.trans s) h0, vs.set n v, upd_same, ?_⟩
  rw [hid_upd (by simp)]
  exact (as.mono (hid_mono s)).set n a
theorem LA.later {H H3 : Hp} {l : Addr} (h : LA H l ds H1) (s : Same H1 H3) : LA H l ds H3 := by
  obtain ⟨h0, s1, vs, e, as⟩ := h
  exact ⟨h0, s1.trans s, vs, s _ _ e, as.mono (hid_mono s)⟩
theorem LA.tree {H : Hp} {l : Addr} (h : LA H l ds H1) : At H1 (.ref l) (.list ds) := by
  obtain ⟨h0, s1, vs, e, as⟩ := h
  exact .lst e (as.mono hid_sub)
theorem LA.old {H : Hp} {l : Addr} (h : LA H l ds H1) (a : At H v d) : At (hid [l] H1) v d := a.mono (hid_of (fun b m => by rw [List.mem_singleton.mp m]; exact h.1) h.2.1)
/-- an item of it -/
theorem dt_la {H : Hp} {l : Addr} {s n : Nat} (e : σ[s]? = some (some (.ref l))) (h : LA H l ds H1) (hn : ds[n]? = some d) (ij : i = (n : Int)) : DT [l] (tOp (rIxL K) (tVar s) (tC (.int i))) d σ H1 := fun H2 s2 Q k => by
  obtain ⟨h0, s1, vs, e1, as⟩ := h.later s2
  obtain ⟨y, hy, ay⟩ := as.at hn
  subst ij
  exact ⟨_, e, l, vs, _, y, rfl, rfl, SqL.of e1, atI_nat hy, k y H2 (Same.refl _) ay⟩
/-! ### tests -/
theorem be_int (h : VE t (.int i) σ H1) (r : VE u (.int j) σ H1) : BE (tTest (tOp rEq t u)) (decide (i = j)) σ H1 := fun H2 s Q k => h H2 s _ (r H2 s _ ⟨rfl, _, rfl, by
  rw [show decide (V.int i = V.int j) = decide (i = j) from by
    by_cases c : i = j
    · rw [c, decide_eq_true rfl, decide_eq_true rfl]
    · rw [decide_eq_false c, decide_eq_false (fun z => c (V.int.inj z))]]
  exact k H2 (Same.refl _)⟩)
theorem be_lt (h : VE t (.int i) σ H1) (r : VE u (.int j) σ H1) : BE (tTest (tOp (rI0 fun i j => .bl (decide (i < j))) t u)) (decide (i < j)) σ H1 := fun H2 s Q k => h H2 s _ (r H2 s _ ⟨i, j, rfl, rfl, _, rfl, k H2 (Same.refl _)⟩)
theorem be_le (h : VE t (.int i) σ H1) (r : VE u (.int j) σ H1) : BE (tTest (tOp (rI0 fun i j => .bl (decide (i ≤ j))) t u)) (decide (i ≤ j)) σ H1 := fun H2 s Q k => h H2 s _ (r H2 s _ ⟨i, j, rfl, rfl, _, rfl, k H2 (Same.refl _)⟩)
theorem be_gt (h : VE t (.int i) σ H1) (r : VE u (.int j) σ H1) : BE (tTest (tOp (rI0 fun i j => .bl (decide (j < i))) t u)) (decide (j < i)) σ H1 := fun H2 s Q k => h H2 s _ (r H2 s _ ⟨i, j, rfl, rfl, _, rfl, k H2 (Same.refl _)⟩)
theorem be_ge (h : VE t (.int i) σ H1) (r : VE u (.int j) σ H1) : BE (tTest (tOp (rI0 fun i j => .bl (decide (j ≤ i))) t u)) (decide (j ≤ i)) σ H1 := fun H2 s Q k => h H2 s _ (r H2 s _ ⟨i, j, rfl, rfl, _, rfl, k H2 (Same.refl _)⟩)
theorem be_two {p q : Int} (h : VE t (.int i) σ H1) : BE (tTest (tOp (rIn K false) t (tTup (tCons (tC (.int p)) (tCons (tC (.int q)) tNil))))) (decide (i = p) || decide (i = q)) σ H1 := fun H2 s Q k => h H2 s _ ⟨by show 2 ≤ sizeLine; decide, fun l nl => ⟨l, _, rfl, .inr (SqT.of upd_same), rfl, rfl, _, rfl, by
  rw [if_neg (show ¬ (false = true) from Bool.false_ne_true), show inV (.int i) [.int p, .int q] = (decide (i = p) || decide (i = q)) from by
    unfold inV
    simp only [List.any_cons, List.any_nil, Bool.or_false]
    show ((p == i) || (q == i)) = _
    rw [show (p == i) = decide (i = p) from decide_eq_decide.mpr ⟨Eq.symm, Eq.symm⟩, show (q == i) = decide (i = q) from decide_eq_decide.mpr ⟨Eq.symm, Eq.symm⟩]]
  exact k _ (same_new (Same.refl _) nl)⟩⟩
def eqM (d e : PyData) : Bool := match d with
  | .dict _ => false
  | _ => PyData.eqv d e
theorem be_eqM (h : DT [] t d σ H1) (r : DT [] u e σ H1) (nd : (∀ k, d ≠ .dict k) → noDic d = true ∧ SeqAt.shaped d = true) (ne : noDic e = true) (se : SeqAt.shaped e = true) (ek : (∃ z, e = .str z) ∨ ∃ es, e = .list es) : BE (tTest (tOp (rEqM K) t u)) (eqM d e) σ H1 := fun H2 s Q k => h H2 s _ fun v H3 s3 a => r H3 (s.trans s3) _ fun w H4 s4 b => by
  rw [hid_nil] at a b
  have a4 := a.mono s4
  cases d with
  | dict kv =>
    cases a4 with
    | dic e1 =>
      refine .inr ⟨_, _, rfl, e1, ?_, _, rfl, k H4 (s3.trans s4)⟩
      rcases ek with ⟨z, rfl⟩ | ⟨es, rfl⟩
      · cases b with
        | str _ _ => exact .inl ⟨_, rfl⟩
      · obtain ⟨l, ys, rfl, hl, _⟩ := at_l b
        exact .inr ⟨l, ys, rfl, hl⟩
  | _ => exact .inl ⟨_, e, a4.dp (nd fun k z => by cases z).1, b.dp ne, (nd fun k z => by cases z).2, se, _, rfl, k H4 (s3.trans s4)⟩
theorem be_and {ta tb : TT} {b c : Bool} (h : BE ta b σ H1) (r : b = true → BE tb c σ H1) : BE (tAnd ta tb) (b && c) σ H1 := fun H2 s Q k => h H2 s _ fun H3 s3 => by
  cases b with
  | true => exact r rfl H3 (s.trans s3) Q fun H4 s4 => k H4 (s3.trans s4)
  | false => exact k H3 s3
theorem be_or {ta tb : TT} {b c : Bool} (h : BE ta b σ H1) (r : b = false → BE tb c σ H1) : BE (tOr ta tb) (b || c) σ H1 := fun H2 s Q k => h H2 s _ fun H3 s3 => by
  cases b with
  | false => exact r rfl H3 (s.trans s3) Q fun H4 s4 => k H4 (s3.trans s4)
  | true => exact k H3 s3
theorem be_not {ta : TT} {b : Bool} (h : BE ta b σ H1) : BE (tNot ta) (!b) σ H1 := fun H2 s Q k => h H2 s _ fun H3 s3 => k H3 s3
theorem if_be {c : TT} {b : Bool} {x y : TS} {D : Ends} (h : BE c b σ H1) (k : ∀ H3, Same H1 H3 → (b = true → x D σ H3) ∧ (b = false → y D σ H3)) : tIfS c x y D σ H1 := h H1 (Same.refl _) _ fun H3 s3 => by
  cases b with
  | true => exact (k H3 s3).1 rfl
  | false => exact (k H3 s3).2 rfl
theorem set_v {s : Nat} {D : Ends} (h : VE t v σ H1) (k : D.nx (σ.set s (some v)) H1) : tAsg t (gName s) D σ H1 := h H1 (Same.refl _) _ k
theorem set_dt {s : Nat} {D : Ends} (h : DT L t d σ H1) (k : ∀ v H3, Same H1 H3 → At (hid L H3) v d → D.nx (σ.set s (some v)) H3) : tAsg t (gName s) D σ H1 := h H1 (Same.refl _) _ k
/-- l[e] = t, l a list of the def's own -/
theorem set_la {H : Hp} {l : Addr} {s n : Nat} {D : Ends} (la : LA H l ds H1) (e1 : σ[s]? = some (some (.ref l))) (hi : VE u (.int i) σ H1) (ij : i = (n : Int)) (hn : n < ds.length) (h : DT [l] t d σ H1) (k : ∀ H3, LA H l (ds.set n d) H3 → Same (hid [l] H1) (hid [l] H3) → D.nx σ H3) : tAsg t (gSub (tVar s) u rSetL) D σ H1 := h H1 (Same.refl _) _ fun v H3 s3 a => ⟨_, e1, hi H3 s3 _ (by
  obtain ⟨_, _, vs, hl, as⟩ := la.later s3
  subst ij
  refine ⟨l, vs, _, n, rfl, rfl, hl, ?_, k _ ((la.later s3).set n hl (Same.refl _) a) ?_⟩
  · unfold ixN
    rw [if_pos (by omega), if_pos (by rw [as.len]; omega)]
    rfl
  · rw [hid_upd (by simp)]
    exact hid_mono s3)⟩
theorem getD_some {α : Type} {l : List α} {n : Nat} {x : α} (h : n < l.length) : l[n]? = some (l.getD n x) := by
  rw [List.getD_eq_getElem?_getD, List.getElem?_eq_getElem h]
  rfl
/-- l[i], x = e1, e2: l a list of the def's own -/
theorem asg_la2 {H : Hp} {l : Addr} {s n j : Nat} {D : Ends} {ta tb : TE} (la : LA H l ds H1) (e1 : σ[s]? = some (some (.ref l))) (ij : i = (n : Int)) (hn : n < ds.length) (h : DT [l] ta d σ H1) (r : DT [l] tb e σ H1) (k : ∀ v H3, LA H l (ds.set n d) H3 → At (hid [l] H3) v e → Same (hid [l] H1) (hid [l] H3) → D.nx (σ.set j (some v)) H3) :
    tAsg (tTup (tCons ta (tCons tb tNil))) (gTup K 2 (gCons (gSub (tVar s) (tC (.int i)) rSetL) (gCons (gName j) gNil))) D σ H1 := h H1 (Same.refl _) _ fun v H3 s3 a => r H3 s3 _ fun w H4 s4 b => ⟨by show 2 ≤ sizeLine; decide, fun p np => ⟨p, [v, w], rfl, SqT.of upd_same, rfl, v, [w], rfl, _, e1, by
  have s5 := same_new (o := .tup [v, w]) (Same.refl H4) np
  have la5 := la.later ((s3.trans s4).trans s5)
  obtain ⟨_, _, vs, hl, as⟩ := id la5
  subst ij
  refine ⟨l, vs, _, n, rfl, rfl, hl, ?_, w, [], rfl, rfl, k w _ (la5.set n hl (Same.refl _) (a.mono (hid_mono (s4.trans s5)))) ?_ ?_⟩
  · unfold ixN
    rw [if_pos (by omega), if_pos (by rw [as.len]; omega)]
    rfl
  · rw [hid_upd (by simp)]
    exact b.mono (hid_mono s5)
  · rw [hid_upd (by simp)]
    exact hid_mono ((s3.trans s4).trans s5)⟩⟩
/-- len(l[i]) -/
theorem dt_laLen {H : Hp} {l : Addr} {s n : Nat} {xs : List PyData} (e1 : σ[s]? = some (some (.ref l))) (h : LA H l ds H1) (hn : ds[n]? = some (.list xs)) (ij : i = (n : Int)) : DT [l] (tCB (fun xs H Q => ∃ p ys, xs = [V.ref p] ∧ (SqL K H p ys ∨ SqT K H p ys) ∧ Q (V.int (ys.length : Nat)) H) (tCons (tOp (rIxL K) (tVar s) (tC (.int i))) tNil)) (.int (xs.length : Nat)) σ H1 := fun H2 s2 Q k =>
  dt_la e1 h hn ij H2 s2 _ fun v H3 s3 a => by
    obtain ⟨p, ys, rfl, hp, as⟩ := at_l a
    exact ⟨p, ys, rfl, .inl (SqL.of (hid_sub _ _ hp)), k _ H3 s3 (by rw [as.len]; exact .int _)⟩
/-- l[i] * k, a text -/
theorem dt_laS {H : Hp} {l : Addr} {s n : Nat} {z : Str} {c : Int} (e1 : σ[s]? = some (some (.ref l))) (h : LA H l ds H1) (hn : ds[n]? = some (.str z)) (ij : i = (n : Int)) (c2 : 2 ≤ c) (c3 : c ≤ 1000) (z0 : z.length ≠ 0) (z1 : z.length ≤ 1000) (few : (repS z c).length ≤ 1000) (ok : PyData.strOk (repS z c) = true) : DT [l] (tOp rRepS (tOp (rIxL K) (tVar s) (tC (.int i))) (tC (.int c))) (.str (repS z c)) σ H1 := fun H2 s2 Q k =>
  dt_la e1 h hn ij H2 s2 _ fun v H3 s3 a => by
    cases a with
    | str _ _ => exact ⟨z, c, rfl, rfl, c2, c3, z0, z1, Nat.le_trans few (by decide), k _ H3 s3 (.str _ ⟨few, ok⟩)⟩
end
end K1

set_option Elab.async false
set_option linter.all false
set_option maxRecDepth 100000
set_option maxHeartbeats 4000000
namespace K1
open PySem L2
section
variable {P : Program} {w : World} {K : PySem.W.Frag} {mg : Str → Option Value} {base : Heap}
def spDig : Sp := fun vs H Q _ => ∃ (c m : Int), vs = [.int c, .int m] ∧ 0 ≤ m ∧ m ≤ 100 ∧ ∀ (q : Addr) (H' : Hp) (ds : List Int), Same H H' → H q = none → H' q = some (.lst (ds.map V.int)) → ds.length = m.toNat → (∀ x ∈ ds, 0 ≤ x ∧ x < 1009) → Q (.ref q) H'
theorem sc39 : FnScope ["_law_cell", "_law_many", "_law_digits_here", "_law_rest", "_law_number", "_law_k"] ["_law_cell", "_law_many"] (defScope (top 39)) := ⟨rfl, rfl, rfl, by decide +kernel, rfl, by decide +kernel, by decide +kernel⟩
theorem ok39 {f : Addr} {fd : FuncData} (F : Fun K "_law_digits" "_law_digits" (top 39) f fd) (B : Blt mg) : FnOk P w K mg base CX0 1 f fd ["_law_cell", "_law_many"] spDig := by
  refine F.ok sc39 (fun vs H Q E h => ?_) (fun cdv A outer s H vs Q E hr h => ?_)
  · obtain ⟨c, m, rfl, _⟩ := h
    rfl
  · obtain ⟨c, m, rfl, m0, m1, k⟩ := h
    refine ⟨_, pss_cons (ps_set (i := 2) sc39.nd rfl (Or.inl rfl) (pe_lst pa_nil))
      (pss_cons (ps_set (i := 3) sc39.nd rfl (Or.inl rfl) pe_int)
      (pss_cons (ps_if (pt_cmpR op_ge (pv 0) (pe_op op_pow pe_int pe_int) (nomark _)) (pss_one (ps_set (i := 3) sc39.nd rfl (Or.inl rfl) (pv 0))) pss_nil)
      (pss_cons (ps_set (i := 4) sc39.nd rfl (Or.inl rfl) (pe_op op_mod (pe_callTy call_int1 rfl B.int PyProof.Rows.boot_int (pa_cons (pv 0) pa_nil)) pe_int))
      (pss_cons (ps_for PassesOwn.never rfl (pi_range1 rfl B.range (pa_cons (pv 1) pa_nil)) (pg_name (i := 5) sc39.nd rfl (Or.inl rfl))
        (pss_cons (ps_set (i := 4) sc39.nd rfl (Or.inl rfl) (pe_op op_mod (pe_callTy call_int1 rfl B.int PyProof.Rows.boot_int (pa_cons (pe_op op_add (pe_op op_add (pe_op op_mul (pv 4) pe_int) (pe_op op_mul pe_int (pv 5))) pe_int) pa_nil)) pe_int))
        (pss_cons (ps_set (i := 4) sc39.nd rfl (Or.inl rfl) (pe_op op_mod (pe_callTy call_int1 rfl B.int PyProof.Rows.boot_int (pa_cons (pe_op op_mul (pv 4) (pe_op op_add (pe_op op_fdiv (pv 4) pe_int) pe_int)) pa_nil)) pe_int))
        (pss_one (ps_if (pt_cmpR op_gt (pv 3) pe_int (nomark _))
          (pss_cons (ps_expr (pe_bm PySem.F.plainAttrs_list PySem.F.slot_list_append PySem.F.type_list_append mt_append (pv 2) (pa_cons (pe_op op_mod (pe_callTy call_int1 rfl B.int PyProof.Rows.boot_int (pa_cons (pv 3) pa_nil)) pe_int) pa_nil)))
            (pss_one (ps_set (i := 3) sc39.nd rfl (Or.inl rfl) (pe_op op_fdiv (pv 3) pe_int))))
          (pss_one (ps_expr (pe_bm PySem.F.plainAttrs_list PySem.F.slot_list_append PySem.F.type_list_append mt_append (pv 2) (pa_cons (pe_op op_mod (pe_callTy call_int1 rfl B.int PyProof.Rows.boot_int (pa_cons (pe_op op_fdiv (pv 4) pe_int) pa_nil)) pe_int) pa_nil)))))))))
      (pss_one (ps_ret (pv 2))))))), ?_⟩
    refine ⟨by decide, fun L hL => ?_⟩
    have s0 : Same H (upd H L (.lst [])) := same_new (Same.refl _) hL
    have big : ∀ z : Int, 0 ≤ z % 2147483647 ∧ z % 2147483647 < 2147483647 := fun z => ⟨Int.emod_nonneg z (by decide), Int.emod_lt_of_pos z (by decide)⟩
    have big2 : ∀ z : Int, 0 ≤ z % 2147483629 ∧ z % 2147483629 < 2147483629 := fun z => ⟨Int.emod_nonneg z (by decide), Int.emod_lt_of_pos z (by decide)⟩
    have small : ∀ z : Int, 0 ≤ z % 1009 ∧ z % 1009 < 1009 := fun z => ⟨Int.emod_nonneg z (by decide), Int.emod_lt_of_pos z (by decide)⟩
    refine ⟨_, rfl, _, _, rfl, rfl, ⟨by decide, by decide, by decide⟩, _, _, rfl, rfl, _, rfl, ?_⟩
    refine ite2 (fun _ => ?_) (fun _ => ?_)
    case' refine_1 => refine ⟨_, rfl, ?_⟩
    all_goals
      refine ⟨_, rfl, .inl ⟨_, rfl, _, _, rfl, rfl, (by show (0 : Int) < 2147483647; decide), ?_⟩⟩
      refine ⟨_, rfl, m, rfl, by omega, by omega, ?_⟩
      refine for_range (n := m.toNat) (fun i σ H1 => ∃ (r nb : Int) (v5 : Option V) (ds : List Int), σ = [some (.int c), some (.int m), some (.ref L), some (.int r), some (.int nb), v5] ∧ Same H H1 ∧ 0 ≤ nb ∧ nb < 2147483647 ∧ H1 L = some (.lst (ds.map V.int)) ∧ ds.length = i ∧ ∀ x ∈ ds, 0 ≤ x ∧ x < 1009)
        ⟨_, _, none, [], rfl, s0, (big _).1, (big _).2, upd_same, rfl, fun x hx => by cases hx⟩ ?_ ?_
      · rintro i σ H1 hi ⟨r, nb, v5, ds, rfl, s1, n0, n1, hds, hlen, hb⟩
        refine ⟨_, rfl, _, _, rfl, rfl, .inl ⟨by omega, by omega⟩, _, rfl, _, _, rfl, rfl, .inl ⟨by decide, by decide⟩, _, _, rfl, rfl, _, _, rfl, rfl, .inl ⟨_, rfl, _, _, rfl, rfl, (by show (0 : Int) < 2147483647; decide), ?_⟩⟩
        have hna := big (nb * 48271 + 30103 * (0 + (i : Int)) + 11)
        refine ⟨_, rfl, _, rfl, _, _, rfl, rfl, ⟨by decide, by decide⟩, _, _, rfl, rfl, _, _, rfl, rfl, .inl ⟨by omega, by omega⟩, .inl ⟨_, rfl, _, _, rfl, rfl, (by show (0 : Int) < 2147483629; decide), ?_⟩⟩
        have hnc := big2 ((nb * 48271 + 30103 * (0 + (i : Int)) + 11) % 2147483647 * ((nb * 48271 + 30103 * (0 + (i : Int)) + 11) % 2147483647 / 1009 + 69621))
        refine ⟨_, rfl, _, _, rfl, rfl, _, rfl, ?_⟩
        have push : ∀ (r' z nc : Int) (v : Option V), 0 ≤ nc ∧ nc < 2147483629 → 0 ≤ z ∧ z < 1009 → ∃ (r nb : Int) (v5 : Option V) (ds' : List Int), [some (.int c), some (.int m), some (.ref L), some (.int r'), some (.int nc), v] = [some (.int c), some (.int m), some (.ref L), some (.int r), some (.int nb), v5] ∧
            Same H (upd H1 L (.lst (ds.map V.int ++ [V.int z]))) ∧ 0 ≤ nb ∧ nb < 2147483647 ∧ (upd H1 L (.lst (ds.map V.int ++ [V.int z]))) L = some (.lst (ds'.map V.int)) ∧ ds'.length = i + 1 ∧ ∀ x ∈ ds', 0 ≤ x ∧ x < 1009 := fun r' z nc v hnc hz => by
          refine ⟨r', nc, v, ds ++ [z], rfl, fun b o e => ?_, hnc.1, by omega, ?_, ?_, fun x hx => ?_⟩
          · rw [upd_ne (ne_of_none e hL)]
            exact s1 b o e
          · rw [upd_same, List.map_append]
            rfl
          · rw [List.length_append, hlen]
            rfl
          · rcases List.mem_append.mp hx with h | h
            · exact hb x h
            · rw [List.mem_singleton.mp h]
              exact hz
        have room : (ds.map V.int).length < sizeLine := by
          rw [List.length_map, sizeLine_eq]
          omega
        refine ite2 (fun _ => ?_) (fun _ => ?_)
        · refine ⟨_, rfl, .inl ⟨rfl, _, SqL.of hds⟩, _, rfl, .inl ⟨_, rfl, _, _, rfl, rfl, (by show (0 : Int) < 1009; decide), L, _, _, rfl, rfl, hds, room, ?_⟩⟩
          refine ⟨_, rfl, _, _, rfl, rfl, ⟨by decide, by decide⟩, ?_⟩
          exact push _ _ _ _ hnc (small _)
        · refine ⟨_, rfl, .inl ⟨rfl, _, SqL.of hds⟩, _, rfl, _, _, rfl, rfl, ⟨by decide, by decide⟩, .inl ⟨_, rfl, _, _, rfl, rfl, (by show (0 : Int) < 1009; decide), L, _, _, rfl, rfl, hds, room, ?_⟩⟩
          exact push _ _ _ _ hnc (small _)
      · rintro σ H1 ⟨r, nb, v5, ds, rfl, s1, n0, n1, hds, hlen, hb⟩
        exact ⟨_, rfl, k L H1 ds s1 hL hds hlen hb⟩
end
end K1

set_option Elab.async false
set_option linter.all false
set_option maxRecDepth 100000
set_option maxHeartbeats 8000000
namespace K1
open PySem L2
/-! ### a program's parts as trees -/
def rowD (r : Row) : PyData := .tuple [.str r.n, .int r.z, .list (r.fs.map PyData.str), .bool r.b]
def clsD (rows : List Row) : PyData := .list (rows.map rowD)
theorem strs_at {H : Hp} {v : V} {ss : List Str} (h : At H v (.list (ss.map PyData.str))) : ∃ a, v = .ref a ∧ H a = some (.lst (ss.map V.str)) := by
  obtain ⟨a, xs, rfl, ha, as⟩ := at_l h
  exact ⟨a, rfl, by rw [ha, at_strs as]⟩
theorem at_ints {H : Hp} : ∀ {vs : List V} {ks : List Int}, AtAll H vs (ks.map PyData.int) → vs = ks.map V.int
  | _, [], .nil => rfl
  | _, k :: ks, .cons h t => by
    cases h
    rw [at_ints t]
    rfl
theorem ints_atL {H : Hp} {v : V} {ks : List Int} (h : At H v (.list (ks.map PyData.int))) : ∃ a, v = .ref a ∧ H a = some (.lst (ks.map V.int)) := by
  obtain ⟨a, xs, rfl, ha, as⟩ := at_l h
  exact ⟨a, rfl, by rw [ha, at_ints as]⟩
theorem row_at {H : Hp} {v : V} {r : Row} (h : At H v (rowD r)) : ∃ p fl, v = .ref p ∧ H p = some (.tup [.str r.n, .int r.z, .ref fl, .bl r.b]) ∧ H fl = some (.lst (r.fs.map V.str)) := by
  obtain ⟨p, ys, rfl, hp, bs⟩ := at_t h
  cases bs with
  | cons g1 bs =>
  cases bs with
  | cons g2 bs =>
  cases bs with
  | cons g3 bs =>
  cases bs with
  | cons g4 bs =>
  cases bs
  obtain rfl := at_str g1
  cases g2
  obtain ⟨q, rfl, hq⟩ := strs_at g3
  cases g4
  exact ⟨p, q, rfl, hp, hq⟩
def rowsOk : List Row → List Str → Bool
  | [], _ => true
  | q :: r, seen => (((nameS q.n && !seen.contains q.n) && (decide (1 ≤ q.z) && decide (q.z ≤ 8))) && (decide (q.fs.length ≤ 3) && decide (badFrom [] (q.fs.map V.str) [] 0 = none))) && rowsOk r (seen ++ [q.n])
structure Parts (rows : List Row) (ns ls : List Str) (th : Int) (ks : List Int) : Prop where
  c : ((decide (1 ≤ rows.length) && decide (rows.length ≤ 6)) && rowsOk rows []) = true
  n : ((decide (1 ≤ ns.length) && decide (ns.length ≤ 8)) && decide (badFrom [] (ns.map V.str) [] 0 = none)) = true
  l : (decide (ls.length ≤ 4) && decide (badFrom ns (ls.map V.str) [] 0 = none)) = true
  t : (decide (1 ≤ th) && decide (th ≤ 12)) = true
  r : radFrom (ks.map V.int) th 0 = none
theorem bad_none {H : Hp} {a : Addr} {ss bar : List Str} {most : Int} (h : H a = some (.lst (ss.map V.str))) (few : (ss.length : Int) ≤ most) (e : badFrom bar (ss.map V.str) [] 0 = none) : firstBad H (.ref a) most bar = .non := by
  unfold firstBad
  rw [lstOf_of h]
  dsimp only
  rw [if_neg (by rw [List.length_map]; omega), e]
  rfl
theorem clsG {H : Hp} : ∀ {xs : List V} {rows : List Row} {seen : List Str} {i : Nat}, AtAll H xs (rows.map rowD) → rowsOk rows seen = true → clsFrom H xs seen i = none
  | _, [], _, _, .nil, _ => rfl
  | _, q :: r, seen, i, .cons h t, ok => by
    obtain ⟨p, fl, rfl, hp, hf⟩ := row_at h
    have ok : ((((nameS q.n && !seen.contains q.n) && (decide (1 ≤ q.z) && decide (q.z ≤ 8))) && (decide (q.fs.length ≤ 3) && decide (badFrom [] (q.fs.map V.str) [] 0 = none))) && rowsOk r (seen ++ [q.n])) = true := ok
    simp only [Bool.and_eq_true, decide_eq_true_eq] at ok
    obtain ⟨⟨⟨⟨o1, o2⟩, o3, o4⟩, o5, o6⟩, o7⟩ := ok
    have fb := bad_none (most := 3) hf (by omega) o6
    have co : classOk H (.ref p) seen = true := by
      rw [classOk_four (tupOf_of hp), fb]
      show (((nameS q.n && !seen.contains q.n) && (decide (1 ≤ q.z) && decide (q.z ≤ 8))) && (decide (V.non = V.non) && true)) = true
      rw [o1, o2, decide_eq_true o3, decide_eq_true o4]
      rfl
    show (if classOk H (.ref p) seen = true then clsFrom H _ (seen ++ [nameOf H (.ref p)]) (i + 1) else some i) = none
    rw [if_pos co, show nameOf H (.ref p) = q.n from by unfold nameOf; rw [tupOf_of hp]; rfl]
    exact clsG t o7
theorem names_none {H : Hp} {a : Addr} {ss bar : List Str} {least most : Int} (h : H a = some (.lst (ss.map V.str))) (few : (ss.length : Int) ≤ most) (many : least ≤ (ss.length : Int)) (e : badFrom bar (ss.map V.str) [] 0 = none) : namesAt H (.ref a) least most bar = .non := by
  unfold namesAt
  rw [bad_none h few e, lstOf_of h]
  dsimp only
  rw [if_neg (by rw [List.length_map]; omega)]
section
variable {H : Hp} {c n l r : V} {rows rows' : List Row} {ns ls ns' ls' : List Str} {th th' : Int} {ks ks' : List Int}
theorem faultG (hc : At H c (clsD rows)) (hn : At H n (.list (ns.map PyData.str))) (hl : At H l (.list (ls.map PyData.str))) (hr : At H r (.list (ks.map PyData.int))) (ok : Parts rows ns ls th ks) : faultV H c n l (.int th) r = none := by
  obtain ⟨a, xs, rfl, ha, as⟩ := at_l hc
  obtain ⟨b, rfl, hb⟩ := strs_at hn
  obtain ⟨b3, rfl, h3⟩ := strs_at hl
  obtain ⟨b4, rfl, h4⟩ := ints_atL hr
  obtain ⟨k1, k2, k3, k4, k5⟩ := ok
  rw [Bool.and_eq_true] at k1 k2 k3 k4
  obtain ⟨k1, k1'⟩ := k1
  obtain ⟨k2, k2'⟩ := k2
  rw [Bool.and_eq_true] at k1 k2
  have c1 : classesAt H (.ref a) = .non := by
    unfold classesAt
    rw [lstOf_of ha]
    dsimp only
    have e := as.len
    rw [List.length_map] at e
    have u1 := of_decide_eq_true k1.1
    have u2 := of_decide_eq_true k1.2
    rw [if_pos (by rw [e, decide_eq_true (by omega), decide_eq_true (by omega)]; rfl), clsG as k1']
    rfl
  have v1 := of_decide_eq_true k2.1
  have v2 := of_decide_eq_true k2.2
  have v3 := of_decide_eq_true k3.1
  have c2 := names_none (least := 1) (most := 8) hb (by omega) (by omega) (of_decide_eq_true k2')
  have c3 := names_none (least := 0) (most := 4) (bar := ns) h3 (by omega) (by omega) (of_decide_eq_true k3.2)
  have c5 : radicesAt H (.ref b4) th = .non := by
    unfold radicesAt
    rw [lstOf_of h4]
    dsimp only
    rw [k5]
    rfl
  have c4 : wholeV (.int th) 1 12 = true := by
    show (decide ((1 : Int) ≤ th) && decide (th ≤ 12)) = true
    rw [k4.1, k4.2]
    rfl
  unfold faultV
  rw [strsOf_is hb, if_neg (by rw [c1]; simp), if_neg (by rw [c2]; simp), if_neg (by rw [c3]; simp), if_neg (by rw [c4]; simp), if_neg (by show ¬ radicesAt H (.ref b4) th ≠ .non; rw [c5]; simp)]
theorem strs_inj : ∀ {xs ys : List Str}, xs.map V.str = ys.map V.str → xs = ys
  | [], [], _ => rfl
  | [], _ :: _, h => by cases h
  | _ :: _, [], h => by cases h
  | x :: xs, y :: ys, h => by
    rw [List.map_cons, List.map_cons, List.cons.injEq] at h
    rw [V.str.inj h.1, strs_inj h.2]
theorem ints_inj : ∀ {xs ys : List Int}, xs.map V.int = ys.map V.int → xs = ys
  | [], [], _ => rfl
  | [], _ :: _, h => by cases h
  | _ :: _, [], h => by cases h
  | x :: xs, y :: ys, h => by
    rw [List.map_cons, List.map_cons, List.cons.injEq] at h
    rw [V.int.inj h.1, ints_inj h.2]
theorem rows_eq : ∀ {xs : List V} {rows rows' : List Row}, AtAll H xs (rows.map rowD) → Paired (RowAt nul H) xs rows' → rows' = rows
  | _, [], _, .nil, .nil => rfl
  | _, q :: r, _, .cons h t, .cons (b := q') z pr => by
    obtain ⟨p, fl, rfl, hp, hf⟩ := row_at h
    obtain ⟨p', fl', e1, _, _, g1, g2⟩ := z
    cases e1
    obtain ⟨rn, rz, rfs, rb⟩ := q
    obtain ⟨rn', rz', rfs', rb'⟩ := q'
    simp only at g1 g2 hp hf
    rw [hp] at g1
    simp only [Option.some.injEq, HO.tup.injEq, List.cons.injEq, V.str.injEq, V.int.injEq, V.ref.injEq, V.bl.injEq, and_true] at g1
    obtain ⟨e1, e2, e3, e4⟩ := g1
    subst e1 e2 e3 e4
    rw [hf] at g2
    simp only [Option.some.injEq, HO.lst.injEq] at g2
    rw [rows_eq t pr, strs_inj g2]
theorem fineG (f : Fine H c n l (.int th) r rows' ns' ls' th' ks') (hc : At H c (clsD rows)) (hn : At H n (.list (ns.map PyData.str))) (hl : At H l (.list (ls.map PyData.str))) (hr : At H r (.list (ks.map PyData.int))) :
    rows' = rows ∧ ns' = ns ∧ ls' = ls ∧ th' = th ∧ ks' = ks := by
  obtain ⟨a, xs, rfl, ha, as⟩ := at_l hc
  obtain ⟨b, rfl, hb⟩ := strs_at hn
  obtain ⟨b3, rfl, h3⟩ := strs_at hl
  obtain ⟨b4, rfl, h4⟩ := ints_atL hr
  refine ⟨?_, ?_, ?_, ?_, ?_⟩
  · obtain ⟨a', e, _, ys, e2, pr⟩ := f.c
    cases e
    rw [ha] at e2
    cases e2
    exact rows_eq as pr
  · obtain ⟨a', e, h'⟩ := f.n
    cases e
    rw [hb] at h'
    exact (strs_inj (HO.lst.inj (Option.some.inj h'))).symm
  · obtain ⟨a', e, h'⟩ := f.l
    cases e
    rw [h3] at h'
    exact (strs_inj (HO.lst.inj (Option.some.inj h'))).symm
  · exact (V.int.inj f.p).symm
  · obtain ⟨a', e, h'⟩ := f.r
    cases e
    rw [h4] at h'
    exact (ints_inj (HO.lst.inj (Option.some.inj h'))).symm
end
/-! ### what becomes of a program -/
inductive PRes where
  | bad (part : Str) (d : PyData)
  | ok
def shortT (d : PyData) : Bool := match d with
  | .list ds => ds.all fun q => match q with
    | .tuple es => es.all fun e => match e with
      | .list ys => decide (ys.length ≤ 1000)
      | _ => true
    | _ => true
  | _ => true
theorem short_is {ds : List PyData} (h : shortT (.list ds) = true) : ∀ q ∈ ds, ∀ es, q = .tuple es → ∀ ys, PyData.list ys ∈ es → ys.length ≤ 1000 := fun q hq es e ys hy => by
  subst e
  have h := List.all_eq_true.mp (show (ds.all fun q => match q with
    | .tuple es => es.all fun e => match e with
      | .list ys => decide (ys.length ≤ 1000)
      | _ => true
    | _ => true) = true from h) _ hq
  have h := List.all_eq_true.mp (show (es.all fun e => match e with
      | .list ys => decide (ys.length ≤ 1000)
      | _ => true) = true from h) _ hy
  exact of_decide_eq_true h
def envOf (rows : List Row) (ls : List Str) (ks : List Int) : Env := ⟨rows, ls, (ks.length : Nat)⟩
def isL (d : PyData) : Bool := match d with | .list _ => true | _ => false
def bodyT (kk n : Nat) (rows : List Row) (ns ls : List Str) (ks : List Int) (b : PyData) (ds : List PyData) (cs : Cl) (many : Int) : Option PRes := match runT (scoOf rows ns ls (ks.length : Nat) cs) n [⟨b, [], 0, 0, 0⟩] 0 0 with
  | some (some l, _, _) => some (.bad "body" (.tuple (l.map PyData.int)))
  | some (none, m, _) => if 60 < many + m then some (.bad "body" (.int (-1))) else if ((isL b && cpB kk b) && ds.all (cpF kk)) = true then some .ok else none
  | none => none
def progT (kk n : Nat) (rows : List Row) (ns ls : List Str) (ks : List Int) (b f : PyData) : Option PRes := match f with
  | .list ds => if ds.length ≤ 4 then (match funT (envOf rows ls ks) n ds 0 [] 0 with
    | some (.bad l) => some (.bad "functions" (.tuple (l.map PyData.int)))
    | some (.ok cs many) => bodyT kk n rows ns ls ks b ds cs many
    | none => none) else some (.bad "functions" (.int (-1)))
  | _ => some (.bad "functions" (.int (-1)))
theorem ints_at {H : Hp} {t : Addr} {l : List Int} (h : H t = some (.tup (l.map V.int))) : At H (.ref t) (.tuple (l.map PyData.int)) := by
  refine .tup h ?_
  clear h
  induction l with
  | nil => exact .nil
  | cons i l ih => exact .cons (.int i) ih
theorem rest_rd {C CP p : Addr} {kk n : Nat} {H : Hp} {Q : VK} {E : XK} {bd fd : PyData} {rows : List Row} {ns ls : List Str} {th : Int} {ks : List Int} {res : PRes} (em : progT kk n rows ns ls ks bd fd = some res) (sh : shortT fd = true)
    (hbad : ∀ part b, res = .bad part b → (part = "functions" ∨ part = "body") → ∀ x H1, Same H H1 → At H1 x b → Rz C H1 (.str part) x E)
    (hok : res = .ok → ∀ bs ds, bd = .list bs → fd = .list ds → ∀ H', Prog2 H H' CP p rows ns ls th ks bs ds → (∀ b o, H b = some o → b ≠ p → H' b = some o) → Q .non H') : Rest C CP p kk n H Q E bd fd rows ns ls th ks := by
  refine ⟨fun hno => ?_, fun ds ed h4 => ⟨short_is (by rw [ed] at sh; exact sh), ?_⟩⟩
  · refine hbad _ _ ?_ (.inl rfl) _ H (Same.refl H) (.int (-1))
    unfold progT at em
    split at em
    · rename_i ds
      rw [if_neg (hno ds rfl)] at em
      exact (Option.some.inj em).symm
    · exact (Option.some.inj em).symm
  · subst ed
    unfold progT at em
    dsimp only at em
    rw [if_pos h4] at em
    cases hf : funT (envOf rows ls ks) n ds 0 [] 0 with
    | none => rw [hf] at em; cases em
    | some fr =>
      rw [hf] at em
      cases fr with
      | bad l => exact .inl ⟨l, hf, fun t2 H1' s1' ht2 => hbad _ _ (Option.some.inj em).symm (.inl rfl) _ H1' s1' (ints_at ht2)⟩
      | ok cs many =>
        dsimp only at em
        unfold bodyT at em
        cases hr : runT (scoOf rows ns ls (ks.length : Nat) cs) n [⟨bd, [], 0, 0, 0⟩] 0 0 with
        | none => rw [hr] at em; cases em
        | some x =>
          obtain ⟨pl, m, dp⟩ := x
          rw [hr] at em
          refine .inr ⟨cs, many, pl, m, dp, hf, hr, ?_⟩
          cases pl with
          | some l => exact fun t H1' s1' ht => hbad _ _ (Option.some.inj em).symm (.inr rfl) _ H1' s1' (ints_at ht)
          | none =>
            dsimp only at em ⊢
            by_cases c : 60 < many + m
            · rw [if_pos c] at em ⊢
              exact hbad _ _ (Option.some.inj em).symm (.inr rfl) _ H (Same.refl H) (.int (-1))
            · rw [if_neg c] at em ⊢
              split at em
              · rename_i c2
                rw [Bool.and_eq_true, Bool.and_eq_true, List.all_eq_true] at c2
                obtain ⟨⟨q1, q2⟩, q3⟩ := c2
                cases bd with
                | list bs => exact ⟨bs, rfl, q2, q3, fun H' pg kp => hok (Option.some.inj em).symm bs ds rfl rfl H' pg kp⟩
                | _ => cases q1
              · cases em
end K1

set_option Elab.async false
set_option linter.all false
set_option maxRecDepth 100000
set_option maxHeartbeats 8000000
namespace L2
open PySem PySem.Spec PyProof.Rows
theorem tuple_mul1 (l : Addr) (items : Array Value) (n : Nat) (dd : Option Addr) (sl : Array (Option Value)) (u : Tok) :
    Meets (Builtin.«tuple.__mul__» ⟨[.ref l, .int 1 u], []⟩) (fun _ R s => s.heap.get? l = some { cls := .type "tuple", dict := dd, data := .seq items n, slots := sl } ∧
      R (.ok (.ret (Value.ref l))) s) :=
  .of_wp fun prog w A R s h => by
    obtain ⟨hp, g, d, tk, os⟩ := s
    obtain ⟨hl, h⟩ := h
    have f1 := AutoSeq1.idx_int
    wp_walk using wpAny_loadPart' hl
    have c1 : (items.isEmpty || (1 : Int) == 1) = true := by rw [show ((1 : Int) == 1) = true from rfl, Bool.or_true]
    repeat (first
      | (refine wpAny_ite_true (decide_eq_true (by rw [c1])) ?_; wp_walk using wpAny_loadPart' hl))
    exact ⟨_, rfl, h⟩
theorem tuple_mul0 (l : Addr) (items : Array Value) (n : Nat) (dd : Option Addr) (sl : Array (Option Value)) (u : Tok) (he : items.isEmpty = false) :
    Meets (Builtin.«tuple.__mul__» ⟨[.ref l, .int 0 u], []⟩) (fun _ R s => s.heap.get? l = some { cls := .type "tuple", dict := dd, data := .seq items n, slots := sl } ∧
      R (.ok (.ret (Value.ref s.heap.objs.size))) { s with heap := s.heap.push { cls := Value.type "tuple", data := Data.seq #[] }, toks := s.toks }) :=
  .of_wp fun prog w A R s h => by
    obtain ⟨hp, g, d, tk, os⟩ := s
    obtain ⟨hl, h⟩ := h
    have f1 := AutoSeq1.idx_int
    wp_walk using wpAny_loadPart' hl
    have c1 : (items.isEmpty || (0 : Int) == 1) = false := by rw [he]; rfl
    repeat (first
      | (refine wpAny_ite_false (decide_eq_false (by rw [c1]; exact Bool.false_ne_true)) ?_; wp_walk using wpAny_loadPart' hl))
    exact ⟨_, rfl, h⟩
def rRepTA (K : PySem.W.Frag) : R2 := fun x y H Q => ∃ l k xs, x = .ref l ∧ y = .int k ∧ SqT K H l xs ∧ xs ≠ [] ∧ 0 ≤ k ∧ k ≤ 1000 ∧ xs.length ≤ 1000 ∧ (k = 1 → Q (.ref l) H) ∧ (k ≠ 1 → ∀ p, H p = none → Q (.ref p) (upd H p (.tup (List.replicate k.toNat xs).flatten)))
section
variable {X : Cx}
theorem op_repTA : OpR X (binaryOp .Mult) (rRepTA X.K) := by
  intro pins s σ H x y v u Q I rx ry h
  obtain ⟨l, k, xs, rfl, rfl, hT, hne, h1, h2, hz, q1, q2⟩ := h
  by_cases k2 : 2 ≤ k
  · exact op_repT pins s σ H _ _ v u Q I rx ry ⟨l, k, xs, rfl, rfl, hT, hne, k2, h2, hz, q2 (by omega)⟩
  cases rx
  obtain ⟨t, rfl⟩ := ry
  obtain ⟨its, r, ⟨⟨cls, dd, data, sl⟩, ho, hc, n, hd⟩, hs⟩ := I.tuple hT
  simp only at hc hd
  subst hc hd
  have hle : its.length = xs.length := r.length.symm
  have hn : its ≠ [] := fun e => hne (by
    rw [e] at hle
    exact List.eq_nil_of_length_eq_zero hle.symm)
  have hi : its.toArray.isEmpty = false := by
    cases its with
    | nil => exact absurd rfl hn
    | cons a b => rfl
  by_cases k1 : k = 1
  · subst k1
    refine wpAny_binaryOp_repeat_ref (T := "tuple") (U := "int") (by decide) ⟨_, ho, rfl⟩ (fun s' => typeIs_int s' 1 t) noFill_tuple_mul F.fills_int_mul F.slot_int_rmul repeat_tuple F.slot_int_index.lookup
      (call_meets F.slot_int_rmul (typeIs_int s 1 t) F.entry_int_rmul (F.args_int_rmul_2 _ _) (int_rmul_tuple 1 t l its.toArray n dd sl)
        ⟨ho, rfl, ⟨_, ho, rfl⟩, call_meets F.slot_tuple_mul ⟨_, ho, rfl⟩ F.entry_tuple_mul (F.args_tuple_mul_2 _ _) (tuple_mul1 l its.toArray n dd sl t) ⟨ho, ?_⟩⟩)
    exact ⟨.ref l, H, I, rfl, q1 rfl⟩
  · have k0 : k = 0 := by omega
    subst k0
    refine wpAny_binaryOp_repeat_ref (T := "tuple") (U := "int") (by decide) ⟨_, ho, rfl⟩ (fun s' => typeIs_int s' 0 t) noFill_tuple_mul F.fills_int_mul F.slot_int_rmul repeat_tuple F.slot_int_index.lookup
      (call_meets F.slot_int_rmul (typeIs_int s 0 t) F.entry_int_rmul (F.args_int_rmul_2 _ _) (int_rmul_tuple 0 t l its.toArray n dd sl)
        ⟨ho, rfl, ⟨_, ho, rfl⟩, call_meets F.slot_tuple_mul ⟨_, ho, rfl⟩ F.entry_tuple_mul (F.args_tuple_mul_2 _ _) (tuple_mul0 l its.toArray n dd sl t hi) ⟨ho, ?_⟩⟩)
    refine ⟨.ref s.heap.objs.size, _, I.laid (t' := s.toks) (o := .tup []) (fun b ob q => Heap.get?_push_of_some _ q) (Nat.le_refl _) ?_, rfl, q2 (by decide) _ (I.hok.fresh (Nat.le_refl _))⟩
    exact ⟨Nat.zero_le _, [], .nil, IsTup.new _ _⟩
end
end L2
namespace K1
open PySem L2
section
variable {L : List Addr} {σ : St} {H1 : Hp} {t u : TE} {d e : PyData} {ds es : List PyData} {K : PySem.W.Frag} {v : V} {i j : Int}
/-- a tuple so many times -/
theorem dt_repT (lv : Live L H1) (h : DT L t (.tuple ds) σ H1) (r : VE u (.int i) σ H1) (ne : ds ≠ []) (c1 : 0 ≤ i) (c2 : i ≤ 1000) (few : ds.length ≤ 1000) : DT L (tOp (rRepTA K) t u) (.tuple (List.replicate i.toNat ds).flatten) σ H1 := fun H2 s Q k => h H2 s _ fun v H3 s3 a => r H3 (s.trans s3) _ (by
    obtain ⟨q, xs, rfl, hq, as⟩ := at_t a
    have hl := as.len
    refine ⟨q, i, xs, rfl, rfl, SqT.of (hid_sub _ _ hq), (fun z => by rw [z] at hl; exact ne (List.eq_nil_of_length_eq_zero hl.symm)), c1, c2, by omega, fun e => ?_, fun _ l nl => ?_⟩
    · subst e
      refine k _ _ s3 ?_
      show At _ _ (.tuple (List.replicate 1 ds).flatten)
      rw [List.replicate_one, List.flatten_singleton]
      exact a
    have s4 := same_new (o := .tup (List.replicate i.toNat xs).flatten) (Same.refl H3) nl
    refine k _ _ (s3.trans s4) (.tup (hid_new (lv.mono (s.trans s3)) nl) ?_)
    have as4 := as.mono (hid_mono (L := L) (same_new (o := .tup (List.replicate i.toNat xs).flatten) (Same.refl _) nl))
    have : ∀ n : Nat, AtAll (hid L (upd H3 l (.tup (List.replicate i.toNat xs).flatten))) (List.replicate n xs).flatten (List.replicate n ds).flatten := fun n => by
      induction n with
      | zero => exact .nil
      | succ n ih =>
        rw [List.replicate_succ, List.replicate_succ, List.flatten_cons, List.flatten_cons]
        exact as4.append ih
    exact this _)
/-- a list so many times -/
theorem dt_repL (lv : Live L H1) (h : DT L t (.list ds) σ H1) (r : VE u (.int i) σ H1) (c1 : 0 ≤ i) (c2 : i < 2 ^ 63) (few : ds.length * i.toNat ≤ sizeLine) : DT L (tOp rRep t u) (.list (List.replicate i.toNat ds).flatten) σ H1 := fun H2 s Q k => h H2 s _ fun v H3 s3 a => r H3 (s.trans s3) _ (by
    obtain ⟨q, xs, rfl, hq, as⟩ := at_l a
    refine ⟨q, i, xs, rfl, rfl, hid_sub _ _ hq, by omega, c2, by rw [as.len]; exact few, fun l nl => ?_⟩
    have s4 := same_new (o := .lst (List.replicate i.toNat xs).flatten) (Same.refl H3) nl
    refine k _ _ (s3.trans s4) (.lst (hid_new (lv.mono (s.trans s3)) nl) ?_)
    have as4 := as.mono (hid_mono (L := L) (same_new (o := .lst (List.replicate i.toNat xs).flatten) (Same.refl _) nl))
    have : ∀ n : Nat, AtAll (hid L (upd H3 l (.lst (List.replicate i.toNat xs).flatten))) (List.replicate n xs).flatten (List.replicate n ds).flatten := fun n => by
      induction n with
      | zero => exact .nil
      | succ n ih =>
        rw [List.replicate_succ, List.replicate_succ, List.flatten_cons, List.flatten_cons]
        exact as4.append ih
    exact this _)
/-- t1 + t2 of tuples -/
theorem dt_catT (lv : Live L H1) (h : DT L t (.tuple ds) σ H1) (r : DT L u (.tuple es) σ H1) (few : ds.length + es.length ≤ sizeLine) : DT L (tOp (rCatA K) t u) (.tuple (ds ++ es)) σ H1 := fun H2 s Q k => h H2 s _ fun v H3 s3 a => r H3 (s.trans s3) _ fun w H4 s4 b => by
  obtain ⟨p, xs, rfl, hp, as⟩ := at_t (a.mono (hid_mono s4))
  obtain ⟨q, ys, rfl, hq, bs⟩ := at_t b
  refine ⟨p, q, xs, ys, rfl, rfl, SqT.of (hid_sub _ _ hp), SqT.of (hid_sub _ _ hq), by rw [as.len, bs.len]; exact few, fun e => ?_, fun _ e => ?_, fun _ _ l nl => ?_⟩
  · have e2 : ds = [] := List.eq_nil_of_length_eq_zero (by rw [← as.len, e]; rfl)
    exact k _ _ (s3.trans s4) (by rw [e2, List.nil_append]; exact b)
  · have e2 : es = [] := List.eq_nil_of_length_eq_zero (by rw [← bs.len, e]; rfl)
    exact k _ _ (s3.trans s4) (by rw [e2, List.append_nil]; exact a.mono (hid_mono s4))
  · have s5 := same_new (o := .tup (xs ++ ys)) (Same.refl H4) nl
    exact k _ _ ((s3.trans s4).trans s5) (.tup (hid_new (lv.mono ((s.trans s3).trans s4)) nl) ((as.append bs).mono (hid_mono s5)))
/-- a if c else b -/
theorem dt_if {c : TT} {b : Bool} (h : BE c b σ H1) (r1 : b = true → DT L t d σ H1) (r2 : b = false → DT L u d σ H1) : DT L (tIf c t u) d σ H1 := fun H2 s Q k => h H2 s _ fun H3 s3 => by
  cases b with
  | true => exact r1 rfl H3 (s.trans s3) _ fun v H4 s4 a => k v H4 (s3.trans s4) a
  | false => exact r2 rfl H3 (s.trans s3) _ fun v H4 s4 a => k v H4 (s3.trans s4) a
end
end K1

set_option Elab.async false
set_option linter.all false
set_option maxRecDepth 100000
set_option maxHeartbeats 8000000
namespace L2
open PySem PySem.Spec PyProof.Rows
/-! ### own == and != with whatever answer -/
section
variable {M : Model} {prog : Program} {w : World} {A : Around} {E : Value → Shared → Prop} {s : Shared} {K : PySem.W.Frag} {x C f : Addr} {ox : Obj} {od : Option Obj} {b tb : Value}
theorem ifBound_objNe {args : List Value} {Q : Option Value → Shared → Prop} (X : K.In s.heap) (I : PySem.W.InstAt s.heap x ox C od) (hs : PySem.W.findIn K (.ref C) "__ne__" = some (some (.builtin "object.__ne__")))
    (h : wpAny M A (call (.builtin "object.__ne__") (.ref x :: args)) (fun v => Q (some v)) E s) : wpAny M A (callSpecialIfBound? (.ref x) "__ne__" args) Q E s := by
  simp only [callSpecialIfBound?, bindSpecialIfBound?]
  refine wpAny_holding (wpAny_bind (wpAny_bind (wpAny_bind (I.type.here ((PySem.W.looks_findIn X hs).here ?_)))))
  refine wpAny_bind (wpAny_askSetting (wpAny_ite ?_))
  have fin : wpAny M A (call (.builtin "object.__ne__") ([.ref x] ++ args) >>= fun v => pure (some v)) Q E s := wpAny_bind (wpAny_mono h (fun v s' h' => wpAny_pure h') fun _ _ h' => h')
  split
  · exact wpAny_bind (wpAny_of_eq (F.cmp_object.ne.bind _) (wpAny_pure (by exact fin)))
  · exact wpAny_tryCatch (wpAny_bind (wpAny_of_eq (F.cmp_object.ne.bind _) (wpAny_pure (by exact fin))))
/-- object.__ne__ by the own __eq__ -/
theorem objNe_entry {Q : Fin → Shared → Prop} (hu : A.units < cLine) (X : K.In s.heap) (I : PySem.W.InstAt s.heap x ox C od) (hs : PySem.W.findIn K (.ref C) "__eq__" = some (some (.ref f))) (hf : PySem.W.isFn K (.ref f) = true)
    (h : wpAny M A (call (.ref f) [.ref x, b]) (fun v s' => ∃ r, v = .bool r ∧ Q (.done (.ret (.bool (!r)))) s') E s) : wpAny M A (Builtin.«object.__ne__» ⟨[.ref x, b], []⟩) Q E s := by
  unfold Builtin.«object.__ne__»
  repeat (first
    | with_reducible refine wpAny_cRoomFor hu ?_
    | (refine wpAny_bind (m := callSpecialIfBound? (.ref x) (Str.ofString "__eq__") [b])
        (PySem.W.ifBound_K X I hs hf (wpAny_mono h (fun v s' hv => by
          obtain ⟨r, rfl, hq⟩ := hv
          repeat (first | exact hq | exact wpAny_pure hq | exact wpAny_truthy_bool hq | (refine wpAny_bind (m := truthy (.bool _)) (wpAny_truthy_bool ?_)) | wp_step)) fun _ _ e => e)))
    | wp_step)
theorem ne_K {Q : Value → Shared → Prop} (hu : A.units + 1 < cLine) (X : K.In s.heap) (I : PySem.W.InstAt s.heap x ox C od) (hb : PySem.W.Looks (model prog w) s.heap (typeOf b) tb) (hn : PySem.W.notFirst K C tb = true)
    (hne : PySem.W.findIn K (.ref C) "__ne__" = some (some (.builtin "object.__ne__"))) (hm : PySem.W.mroIn K C (.type "object") = some true)
    (hs : PySem.W.findIn K (.ref C) "__eq__" = some (some (.ref f))) (hf : PySem.W.isFn K (.ref f) = true)
    (h : wpAny (model prog w) A.in1 (call (.ref f) [.ref x, b]) (fun v s' => ∃ r, v = .bool r ∧ Q (.bool (!r)) s') E s) : wpAny (model prog w) A (richCompare .NotEq (.ref x) b) Q E s := by
  have one : wpAny (model prog w) A (tryCompare (.ref x) (cmpInfo .NotEq).2.1 b) (fun r s' => ∃ v, r = some v ∧ Q v s') E s := by
    unfold tryCompare
    refine wpAny_bind (ifBound_objNe X I hne (wpAny_call (codeAny_call_builtin F.cmp_object.ne.plain F.cmpEntry_ne (PySem.W.check_slot F.cmpKind_ne F.cmpSplit_ne (I.type.andThen (PySem.W.looks_mroIn X hm)) (F.cmpArgs_ne _ _) (objNe_entry (A := A.in1) (by show A.units + 1 < cLine; exact hu) X I hs hf (wpAny_mono h (fun v s' hv => ?_) fun _ _ e => e))))))
    obtain ⟨r, rfl, hq⟩ := hv
    exact ⟨r, rfl, wpAny_pure ⟨_, rfl, hq⟩⟩
  unfold richCompare
  simp only [oneThing_ref]
  refine wpAny_holding (wpAny_bind (wpAny_cRoomFor (by omega) ?_))
  refine wpAny_bind (I.type.here (wpAny_bind (hb.here ?_)))
  split
  · rename_i q
    have e : PySem.W.subIn K tb (.ref C) = some false := by
      rcases Bool.or_eq_true_iff.mp hn with e | e
      · rw [beq_iff_eq.mp e] at q; simp at q
      · exact beq_iff_eq.mp e
    refine wpAny_bind ((PySem.W.looks_subIn X e).here ?_)
    simp only [Bool.false_eq_true, if_false]
    refine wpAny_bind (wpAny_mono one (fun r s' z => ?_) fun _ _ e => e)
    obtain ⟨v, rfl, hq⟩ := z
    exact wpAny_pure hq
  · refine wpAny_bind (wpAny_pure ?_)
    simp only [Bool.false_eq_true, if_false]
    refine wpAny_bind (wpAny_mono one (fun r s' z => ?_) fun _ _ e => e)
    obtain ⟨v, rfl, hq⟩ := z
    exact wpAny_pure hq
end
/-- what may stand on the right: an instance of the class, a dict, a list -/
inductive RightV (C : Addr) (H : Hp) : V → Prop
  | ins {q dx : Addr} {fs : List (Str × V)} (e : H q = some (.ins C dx fs)) : RightV C H (.ref q)
  | dic {q : Addr} {kvs : List (Key × V)} (e : H q = some (.dK kvs)) : RightV C H (.ref q)
  | lst {q : Addr} {xs : List V} (e : H q = some (.lst xs)) : RightV C H (.ref q)
theorem sub_dict {K : PySem.W.Frag} {C : Addr} : PySem.W.subIn K (.type "dict") (.ref C) = some false := by
  have e : fastBuiltinMro "dict" = some [.type "dict", .type "object"] := by decide +kernel
  show (fastBuiltinMro "dict").map (·.contains (.ref C)) = some false
  rw [e]
  first
    | rfl
    | simp
theorem sub_list {K : PySem.W.Frag} {C : Addr} : PySem.W.subIn K (.type "list") (.ref C) = some false := by
  have e : fastBuiltinMro "list" = some [.type "list", .type "object"] := by decide +kernel
  show (fastBuiltinMro "list").map (·.contains (.ref C)) = some false
  rw [e]
  first
    | rfl
    | simp
section
variable {X : Cx} {pins : List (Addr × Obj)} {σ : St} {H : Hp} {s : Shared}
theorem right_is {C : Addr} {y : V} {u : Value} (I : Inv X pins σ H s) (r : RightV C H y) (ry : RelV y u) : ∃ tb, PySem.W.Looks (model X.prog X.w) s.heap (typeOf u) tb ∧ PySem.W.notFirst X.K C tb = true := by
  cases r with
  | ins e =>
    cases ry
    obtain ⟨m, J, _⟩ := ins_get I.hok e
    obtain ⟨od, J, _⟩ := J.look
    exact ⟨_, J.type, by simp [PySem.W.notFirst]⟩
  | dic e =>
    obtain rfl : u = Value.ref _ := ry
    obtain ⟨_, _, va, _, od, es, ep, ho, ⟨e1, e2, e3⟩, e4, _⟩ := (show ObjOk X.prog X.w H s.heap _ (.dK _) from I.hok _ _ e)
    refine ⟨.type "dict", fun A Q E s' k q => wpAny_typeOf_ref (k _ _ ho) (by rw [e1]; exact q), ?_⟩
    unfold PySem.W.notFirst
    rw [sub_dict]
    simp
  | lst e =>
    obtain rfl : u = Value.ref _ := ry
    obtain ⟨_, its, n, _, hl'⟩ := (show ObjOk X.prog X.w H s.heap _ (.lst _) from I.hok _ _ e)
    refine ⟨.type "list", fun A Q E s' k q => wpAny_typeOf_ref (k _ _ hl') q, ?_⟩
    unfold PySem.W.notFirst
    rw [sub_list]
    simp
/-- the own == as its callers know it -/
structure OwnE (P : Program) (w : World) (K : PySem.W.Frag) (mg : Str → Option Value) (base : Heap) (CX : CXT) (k : Nat) (C : Addr) (ps : List Str) (sp : Sp) : Prop where
  ex : ∃ (f : Addr) (fd : FuncData), FnOk P w K mg base CX k f fd ps sp ∧ PySem.W.findIn K (.ref C) "__eq__" = some (some (.ref f)) ∧ PySem.W.isFn K (.ref f) = true ∧ Binds K fd ps []
  ne : PySem.W.findIn K (.ref C) "__ne__" = some (some (.builtin "object.__ne__"))
  mro : PySem.W.mroIn K C (.type "object") = some true
def rOwnE (C : Addr) (sp : Sp) (E : XK) (neg : Bool) : R2 := fun x y H Q => ∃ p dx fs, x = .ref p ∧ H p = some (.ins C dx fs) ∧ RightV C H y ∧ sp [x, y] H (fun v H' => ∃ r : Bool, v = .bl r ∧ Q (.bl (neg != r)) H') E
theorem own_call {CX : CXT} {k : Nat} {f p : Addr} {fd : FuncData} {ps : List Str} {sp : Sp} {E : XK} {y : V} {u : Value} {Q : VK} {A : Around} (F : FnOk X.prog X.w X.K X.mg X.base CX k f fd ps sp) (hb : Binds X.K fd ps []) (hx : Passes CX X E) (sb : Sub X k A) (I : Inv X pins σ H s) (ry : RelV y u)
    (h : sp [.ref p, y] H Q E) : wpAny (model X.prog X.w) A (call (.ref f) [.ref p, u]) (fun v s' => ∃ z H', Inv X pins σ H' s' ∧ RelV z v ∧ Q z H') X.xe s := by
  have e0 : Env0 X.prog X.w X.K X.mg X.base A X.stack s H := by
    have e := I.env0
    exact ⟨by rw [sb.fr]; exact e.frames, e.mod, e.bs, e.bsz, e.funs, e.frf, e.hok, e.bare⟩
  have hl := F.len _ _ _ _ h
  have r2 : Vals [V.ref p, y] [Value.ref p, u] := .cons rfl (.cons ry .nil)
  refine wpAny_call (codeAny_mono (F.run A X.stack s H ⟨[.ref p, u], []⟩ [.ref p, u] [.ref p, y] _ E sb.room e0 (by
    have := hb s [.ref p, u] I.kIn (by simpa using hl)
    simpa using this) r2 h) fun r s' hq => ?_)
  cases r with
  | error e => exact hx pins σ H s e s' I hq
  | ok fl =>
    cases fl with
    | ret w =>
      obtain ⟨z, H', I', rz, q⟩ := I.after hq
      exact ⟨z, H', I', rz, q⟩
    | next => exact False.elim hq
    | brk => exact False.elim hq
    | cont => exact False.elim hq
theorem op_eqOwn {CX : CXT} {k : Nat} {C : Addr} {ps : List Str} {sp : Sp} {E : XK} (O : OwnE X.prog X.w X.K X.mg X.base CX k C ps sp) (hr : Room k X.A) (hx : Passes CX X E) : OpR X (compareOp .Eq) (rOwnE C sp E false) := by
  intro pins s σ H x y v u Q I rx ry h
  obtain ⟨p, dx, fs, rfl, hp, rt, h⟩ := h
  obtain ⟨f, fd, F, hs, hf, hb⟩ := O.ex
  obtain rfl : v = Value.ref p := rx
  obtain ⟨m, J, _⟩ := ins_get I.hok hp
  obtain ⟨od, J, _⟩ := J.look
  obtain ⟨tb, l, n⟩ := right_is I rt ry
  obtain ⟨m, hF⟩ := I.fr
  show wpAny (model X.prog X.w) X.A (richCompare .Eq (.ref p) u) (EP X pins σ Q) X.xe s
  refine PySem.W.cmp_K (op := .Eq) hr.units0 hF I.ok.mod.kin J l n hs hf (wpAny_mono (own_call F hb hx ⟨hr, rfl⟩ I ry h) (fun v s' q => ?_) fun _ _ e => e)
  obtain ⟨z, H', I', rz, r, rfl, q⟩ := q
  cases rz
  exact ⟨.bl r, H', I', rfl, by rw [Bool.false_bne] at q; exact q⟩
theorem op_neOwn {CX : CXT} {k : Nat} {C : Addr} {ps : List Str} {sp : Sp} {E : XK} (O : OwnE X.prog X.w X.K X.mg X.base CX k C ps sp) (hr : Room (k + 1) X.A) (hx : Passes CX X E) : OpR X (compareOp .NotEq) (rOwnE C sp E true) := by
  intro pins s σ H x y v u Q I rx ry h
  obtain ⟨p, dx, fs, rfl, hp, rt, h⟩ := h
  obtain ⟨f, fd, F, hs, hf, hb⟩ := O.ex
  obtain rfl : v = Value.ref p := rx
  obtain ⟨m, J, _⟩ := ins_get I.hok hp
  obtain ⟨od, J, _⟩ := J.look
  obtain ⟨tb, l, n⟩ := right_is I rt ry
  have hu := hu_of hr
  show wpAny (model X.prog X.w) X.A (richCompare .NotEq (.ref p) u) (EP X pins σ Q) X.xe s
  refine ne_K (by omega) I.kIn J l n O.ne O.mro hs hf (wpAny_mono (own_call F hb hx ⟨hr.in1, rfl⟩ I ry h) (fun v s' q => ?_) fun _ _ e => e)
  obtain ⟨z, H', I', rz, r, rfl, q⟩ := q
  cases rz
  exact ⟨r, rfl, .bl (!r), H', I', rfl, by rw [Bool.true_bne] at q; exact q⟩
/-- None in a list of tuples -/
def rNonT (K : PySem.W.Frag) : R2 := fun x y H Q => ∃ p xs, x = .non ∧ y = .ref p ∧ SqL K H p xs ∧ (∀ z ∈ xs, ∃ t ys, z = .ref t ∧ SqT K H t ys) ∧ Q (.bl false) H
theorem op_nonInT (hu : X.A.units + 64 < cLine) : OpR X (compareOp .In) (rNonT X.K) := by
  intro pins s σ H x y v u Q I rx ry h
  obtain ⟨p, xs, rfl, rfl, hq, f, q⟩ := h
  cases rx
  cases ry
  obtain ⟨its, rv, hl, _⟩ := I.list hq
  have hu1 : X.A.in1.units < cLine := by show X.A.units + 1 < cLine; omega
  refine SeqAt.in_listAt (fun _ => false) hl.isList (fun z hz => ?_) ⟨.bl _, H, I, rfl, ?_⟩
  · obtain ⟨i, hi, rfl⟩ := List.getElem_of_mem (show z ∈ its by simpa using hz)
    have k1 : i < xs.length := by rw [rv.length]; exact hi
    obtain ⟨t, ys, e, ht⟩ := f _ (List.getElem_mem k1)
    obtain ⟨u', hu', ru⟩ := rv.get (List.getElem?_eq_getElem k1)
    rw [List.getElem?_eq_getElem hi] at hu'
    rw [Option.some.inj hu']
    rw [e] at ru
    cases ru
    obtain ⟨_, _, h2, _⟩ := I.tuple ht
    exact SeqAt.EqAt.tuple_none h2 hu1
  · rw [show its.toArray.any (fun _ => false) = false by simp]
    exact q
end
end L2

set_option Elab.async false
set_option linter.all false
set_option maxRecDepth 100000
set_option maxHeartbeats 4000000
namespace K1
open PySem L2
/-! ### what survey says of frames, one behind the other -/
section
variable {sc : Sco} {fs gs : List Fr} {K K' M M' : Nat} {pl : List Int}
def RunsL (sc : Sco) (fs : List Fr) (K M : Nat) : Prop := ∃ (k m : Nat) (g : Int → Int), k ≤ K ∧ m ≤ M ∧ ∀ n r many depth, runT sc (n + k) (fs ++ r) many depth = runT sc n r (many + (m : Int)) (g depth)
def FailsL (sc : Sco) (fs : List Fr) (K : Nat) (pl : List Int) : Prop := ∃ k : Nat, k ≤ K ∧ ∀ n r many depth, ∃ m d, runT sc (n + k) (fs ++ r) many depth = some (some pl, m, d)
theorem RunsL.nil : RunsL sc [] 0 0 := ⟨0, 0, id, Nat.le_refl _, Nat.le_refl _, fun n r many depth => by
  rw [Nat.add_zero, List.nil_append]
  show _ = runT sc n r (many + 0) depth
  rw [Int.add_zero]⟩
theorem RunsL.le (h : RunsL sc fs K M) (h1 : K ≤ K') (h2 : M ≤ M') : RunsL sc fs K' M' := by
  obtain ⟨k, m, g, a, b, c⟩ := h
  exact ⟨k, m, g, by omega, by omega, c⟩
theorem FailsL.le (h : FailsL sc fs K pl) (h1 : K ≤ K') : FailsL sc fs K' pl := by
  obtain ⟨k, a, c⟩ := h
  exact ⟨k, by omega, c⟩
theorem RunsL.app (h : RunsL sc fs K M) (h' : RunsL sc gs K' M') : RunsL sc (fs ++ gs) (K + K') (M + M') := by
  obtain ⟨k, m, g, a, b, c⟩ := h
  obtain ⟨k', m', g', a', b', c'⟩ := h'
  refine ⟨k' + k, m + m', fun d => g' (g d), by omega, by omega, fun n r many depth => ?_⟩
  rw [List.append_assoc, ← Nat.add_assoc, c, c']
  congr 1
  omega
theorem FailsL.right (h : RunsL sc fs K M) (h' : FailsL sc gs K' pl) : FailsL sc (fs ++ gs) (K + K') pl := by
  obtain ⟨k, m, g, a, b, c⟩ := h
  obtain ⟨k', a', c'⟩ := h'
  refine ⟨k' + k, by omega, fun n r many depth => ?_⟩
  obtain ⟨x, y, e⟩ := c' n r (many + (m : Int)) (g depth)
  exact ⟨x, y, by rw [List.append_assoc, ← Nat.add_assoc, c, e]⟩
theorem FailsL.left (h : FailsL sc fs K pl) : FailsL sc (fs ++ gs) K pl := by
  obtain ⟨k, a, c⟩ := h
  refine ⟨k, a, fun n r many depth => ?_⟩
  rw [List.append_assoc]
  exact c n (gs ++ r) many depth
/-! one statement -/
variable {ds : List PyData} {a : List Int} {nd i : Nat} {rep : Int} {s : Str} {es : List PyData}
theorem step_stI {st : PyData} {r : List Fr} {many depth : Int} (hn : nd ≤ 60) (hi : ds[i]? = some st) : stepT sc ⟨.list ds, a, nd, rep, i⟩ r many depth = stStep sc ⟨.list ds, a, nd, rep, i⟩ r many depth st := by
  unfold stepT
  dsimp only
  rw [if_neg (by omega), hi]
theorem runs_end (hn : nd ≤ 60) (hi : ds[i]? = none) : RunsL sc [⟨.list ds, a, nd, rep, i⟩] 1 0 := ⟨1, 0, id, Nat.le_refl _, Nat.le_refl _, fun n r many depth => by
  have e : stepT sc ⟨.list ds, a, nd, rep, i⟩ r many depth = .go r many depth := by
    unfold stepT
    dsimp only
    rw [if_neg (by omega), hi]
  show (match stepT sc ⟨.list ds, a, nd, rep, i⟩ r many depth with | .fin x => some x | .go ws many depth => runT sc n ws many depth) = runT sc n r (many + 0) depth
  rw [e, Int.add_zero]⟩
theorem runs_st (hn : nd ≤ 60) (hi : ds[i]? = some (.tuple (.str s :: es))) (hw : wordsT sc s es rep = true) (h : RunsL sc (pushT s es (a ++ [(i : Int)]) nd rep ++ [⟨.list ds, a, nd, rep, i + 1⟩]) K M) : RunsL sc [⟨.list ds, a, nd, rep, i⟩] (K + 1) (M + 1) := by
  obtain ⟨k, m, g, b, c, d⟩ := h
  refine ⟨k + 1, m + 1, fun x => g (if depthT sc s es rep > x then depthT sc s es rep else x), by omega, by omega, fun n r many depth => ?_⟩
  show (match stepT sc ⟨.list ds, a, nd, rep, i⟩ r many depth with | .fin x => some x | .go ws many depth => runT sc (n + k) ws many depth) = _
  rw [step_stI hn hi]
  show (match wordsStep sc ⟨.list ds, a, nd, rep, i⟩ r many depth s es with | .fin x => some x | .go ws many depth => runT sc (n + k) ws many depth) = _
  unfold wordsStep
  dsimp only
  rw [if_pos hw]
  dsimp only
  have := d n r (many + 1) (if depthT sc s es rep > depth then depthT sc s es rep else depth)
  rw [List.append_assoc] at this
  rw [show pushT s es (a ++ [(i : Int)]) nd rep ++ ⟨.list ds, a, nd, rep, i + 1⟩ :: r = pushT s es (a ++ [(i : Int)]) nd rep ++ ([⟨.list ds, a, nd, rep, i + 1⟩] ++ r) from rfl, this]
  congr 1
  omega
theorem fails_st (hn : nd ≤ 60) (hi : ds[i]? = some (.tuple (.str s :: es))) (hw : wordsT sc s es rep = true) (h : FailsL sc (pushT s es (a ++ [(i : Int)]) nd rep ++ [⟨.list ds, a, nd, rep, i + 1⟩]) K pl) : FailsL sc [⟨.list ds, a, nd, rep, i⟩] (K + 1) pl := by
  obtain ⟨k, b, d⟩ := h
  refine ⟨k + 1, by omega, fun n r many depth => ?_⟩
  show ∃ m d, (match stepT sc ⟨.list ds, a, nd, rep, i⟩ r many depth with | .fin x => some x | .go ws many depth => runT sc (n + k) ws many depth) = some (some pl, m, d)
  rw [step_stI hn hi]
  show ∃ m d, (match wordsStep sc ⟨.list ds, a, nd, rep, i⟩ r many depth s es with | .fin x => some x | .go ws many depth => runT sc (n + k) ws many depth) = some (some pl, m, d)
  unfold wordsStep
  dsimp only
  rw [if_pos hw]
  dsimp only
  have := d n r (many + 1) (if depthT sc s es rep > depth then depthT sc s es rep else depth)
  rw [List.append_assoc] at this
  exact this
theorem fails_here {st : PyData} (hn : nd ≤ 60) (hi : ds[i]? = some st) (hf : formT sc st rep = false) : FailsL sc [⟨.list ds, a, nd, rep, i⟩] 1 (a ++ [(i : Int)]) := by
  refine ⟨1, Nat.le_refl _, fun n r many depth => ⟨many, depth, ?_⟩⟩
  have e : stStep sc ⟨.list ds, a, nd, rep, i⟩ r many depth st = .fin (some (a ++ [(i : Int)]), many, depth) := by
    unfold stStep
    split
    · rename_i s es
      unfold wordsStep
      rw [if_neg]
      intro z
      have : formT sc (.tuple (.str s :: es)) rep = true := z
      rw [hf] at this
      cases this
    · rfl
  show (match stepT sc ⟨.list ds, a, nd, rep, i⟩ r many depth with | .fin x => some x | .go ws many depth => runT sc n ws many depth) = _
  rw [step_stI hn hi, e]
theorem fails_blk {b : PyData} (hn : nd ≤ 60) (hb : ∀ ds, b ≠ .list ds) : FailsL sc [⟨b, a, nd, rep, 0⟩] 1 a := by
  refine ⟨1, Nat.le_refl _, fun n r many depth => ⟨many, depth, ?_⟩⟩
  show (match stepT sc ⟨b, a, nd, rep, 0⟩ r many depth with | .fin x => some x | .go ws many depth => runT sc n ws many depth) = _
  rw [step_not (w := ⟨b, a, nd, rep, 0⟩) (by show ¬ nd > 60; omega) hb]
/-! simple statements: valid, without blocks -/
def Simple (sc : Sco) (st : PyData) : Prop := ∃ s es, st = .tuple (.str s :: es) ∧ blkV s es = [] ∧ ∀ rep, wordsT sc s es rep = true
theorem push_nil {place : List Int} (h : blkV s es = []) : pushT s es place nd rep = [] := by
  unfold pushT
  rw [h]
  rfl
theorem runs_simple {st : PyData} (hn : nd ≤ 60) (hi : ds[i]? = some st) (hs : Simple sc st) (h : RunsL sc [⟨.list ds, a, nd, rep, i + 1⟩] K M) : RunsL sc [⟨.list ds, a, nd, rep, i⟩] (K + 1) (M + 1) := by
  obtain ⟨s, es, rfl, hb, hw⟩ := hs
  refine runs_st hn hi (hw rep) ?_
  rw [push_nil hb]
  exact h
theorem fails_simple {st : PyData} (hn : nd ≤ 60) (hi : ds[i]? = some st) (hs : Simple sc st) (h : FailsL sc [⟨.list ds, a, nd, rep, i + 1⟩] K pl) : FailsL sc [⟨.list ds, a, nd, rep, i⟩] (K + 1) pl := by
  obtain ⟨s, es, rfl, hb, hw⟩ := hs
  refine fails_st hn hi (hw rep) ?_
  rw [push_nil hb]
  exact h
theorem at_mid {α : Type} {xs ys : List α} {y : α} : (xs ++ y :: ys)[xs.length]? = some y := by
  rw [List.getElem?_append_right (Nat.le_refl _), Nat.sub_self]
  rfl
theorem runs_simples : ∀ (pre xs : List PyData) (post : List PyData) (hs : ∀ d ∈ xs, Simple sc d) (hn : nd ≤ 60) (h : RunsL sc [⟨.list (pre ++ xs ++ post), a, nd, rep, pre.length + xs.length⟩] K M), RunsL sc [⟨.list (pre ++ xs ++ post), a, nd, rep, pre.length⟩] (K + xs.length) (M + xs.length)
  | pre, [], post, _, _, h => h
  | pre, x :: xs, post, hs, hn, h => by
    have e : pre ++ (x :: xs) ++ post = (pre ++ [x]) ++ xs ++ post := by simp
    have l : pre.length + (x :: xs).length = (pre ++ [x]).length + xs.length := by simp; omega
    rw [l, e] at h
    have ih := runs_simples (pre ++ [x]) xs post (fun d m => hs d (List.mem_cons_of_mem _ m)) hn h
    rw [List.length_append, List.length_singleton, ← e] at ih
    refine (runs_simple (st := x) hn ?_ (hs x List.mem_cons_self) ih).le (by rw [List.length_cons]; omega) (by rw [List.length_cons]; omega)
    rw [List.append_assoc]
    exact at_mid
theorem fails_simples : ∀ (pre xs : List PyData) (post : List PyData) (hs : ∀ d ∈ xs, Simple sc d) (hn : nd ≤ 60) (h : FailsL sc [⟨.list (pre ++ xs ++ post), a, nd, rep, pre.length + xs.length⟩] K pl), FailsL sc [⟨.list (pre ++ xs ++ post), a, nd, rep, pre.length⟩] (K + xs.length) pl
  | pre, [], post, _, _, h => h
  | pre, x :: xs, post, hs, hn, h => by
    have e : pre ++ (x :: xs) ++ post = (pre ++ [x]) ++ xs ++ post := by simp
    have l : pre.length + (x :: xs).length = (pre ++ [x]).length + xs.length := by simp; omega
    rw [l, e] at h
    have ih := fails_simples (pre ++ [x]) xs post (fun d m => hs d (List.mem_cons_of_mem _ m)) hn h
    rw [List.length_append, List.length_singleton, ← e] at ih
    refine (fails_simple (st := x) hn ?_ (hs x List.mem_cons_self) ih).le (by rw [List.length_cons]; omega)
    rw [List.append_assoc]
    exact at_mid
/-! a block of simple statements and one more -/
variable {pre post : List PyData}
theorem runs_block (hp : ∀ d ∈ pre, Simple sc d) (hq : ∀ d ∈ post, Simple sc d) (hn : nd ≤ 60) (hw : wordsT sc s es rep = true) (h : RunsL sc (pushT s es (a ++ [(pre.length : Int)]) nd rep) K M) :
    RunsL sc [⟨.list (pre ++ .tuple (.str s :: es) :: post), a, nd, rep, 0⟩] (K + pre.length + post.length + 2) (M + pre.length + post.length + 1) := by
  have e0 : pre ++ .tuple (.str s :: es) :: post = [] ++ pre ++ (.tuple (.str s :: es) :: post) := by simp
  have e1 : pre ++ .tuple (.str s :: es) :: post = (pre ++ [.tuple (.str s :: es)]) ++ post ++ [] := by simp
  have z : RunsL sc [⟨.list (pre ++ .tuple (.str s :: es) :: post), a, nd, rep, pre.length + 1 + post.length⟩] 1 0 := runs_end hn (by
    rw [List.getElem?_eq_none]
    rw [List.length_append, List.length_cons]
    omega)
  have z1 : RunsL sc [⟨.list (pre ++ .tuple (.str s :: es) :: post), a, nd, rep, pre.length + 1⟩] (1 + post.length) (0 + post.length) := by
    have l : pre.length + 1 = (pre ++ [PyData.tuple (.str s :: es)]).length := by simp
    rw [l, e1] at z ⊢
    exact runs_simples (pre ++ [.tuple (.str s :: es)]) post [] hq hn z
  have z2 := runs_st hn (at_mid (xs := pre) (ys := post)) hw (h.app z1)
  rw [e0] at z2 ⊢
  have z3 := runs_simples [] pre (.tuple (.str s :: es) :: post) hp hn (by rw [List.length_nil, Nat.zero_add]; exact z2)
  exact z3.le (by omega) (by omega)
theorem fails_block (hp : ∀ d ∈ pre, Simple sc d) (hn : nd ≤ 60) (hw : wordsT sc s es rep = true) (h : FailsL sc (pushT s es (a ++ [(pre.length : Int)]) nd rep) K pl) :
    FailsL sc [⟨.list (pre ++ .tuple (.str s :: es) :: post), a, nd, rep, 0⟩] (K + pre.length + 1) pl := by
  have e0 : pre ++ .tuple (.str s :: es) :: post = [] ++ pre ++ (.tuple (.str s :: es) :: post) := by simp
  have z2 := fails_st hn (at_mid (xs := pre) (ys := post)) hw (h.left (gs := [⟨.list (pre ++ .tuple (.str s :: es) :: post), a, nd, rep, pre.length + 1⟩]))
  rw [e0] at z2 ⊢
  have z3 := fails_simples [] pre (.tuple (.str s :: es) :: post) hp hn (by rw [List.length_nil, Nat.zero_add]; exact z2)
  exact z3.le (by omega)
theorem fails_block_here {st : PyData} (hp : ∀ d ∈ pre, Simple sc d) (hn : nd ≤ 60) (hf : formT sc st rep = false) :
    FailsL sc [⟨.list (pre ++ st :: post), a, nd, rep, 0⟩] (pre.length + 1) (a ++ [(pre.length : Int)]) := by
  have e0 : pre ++ st :: post = [] ++ pre ++ (st :: post) := by simp
  have z2 := fails_here (a := a) hn (at_mid (xs := pre) (ys := post) (y := st)) hf
  rw [e0] at z2 ⊢
  have z3 := fails_simples [] pre (st :: post) hp hn (by rw [List.length_nil, Nat.zero_add]; exact z2)
  exact z3.le (by omega)
end
end K1

set_option Elab.async false
set_option linter.all false
set_option maxRecDepth 100000
set_option maxHeartbeats 4000000
namespace K1
open PySem L2
/-! ### how many statements a block has, if all are valid -/
def addO : Option Nat → Option Nat → Option Nat
  | some a, some b => some (a + b)
  | _, _ => none
def sumO (f : PyData → Option Nat) : List PyData → Option Nat
  | [] => some 0
  | d :: r => addO (f d) (sumO f r)
def blkO (g : List PyData → Option Nat) (b : PyData) : Option Nat := match b with
  | .list xs => g xs
  | _ => none
def inR (s : Str) (rep : Int) : Int := if s = "repeat" then rep + 1 else rep
def vS (sc : Sco) : Nat → Int → PyData → Option Nat
  | 0, _, _ => none
  | f + 1, rep, d => match d with
    | .tuple (.str s :: es) => if wordsT sc s es rep = true then addO (some 1) (sumO (fun b => blkO (sumO (vS sc f (inR s rep))) b) ((blkV s es).map (·.1))) else none
    | _ => none
def vL (sc : Sco) (f : Nat) (rep : Int) (xs : List PyData) : Option Nat := sumO (vS sc f rep) xs
theorem addO_is {a b : Option Nat} {m : Nat} (h : addO a b = some m) : ∃ x y, a = some x ∧ b = some y ∧ m = x + y := by
  cases a with
  | none => cases h
  | some x =>
    cases b with
    | none => cases h
    | some y => exact ⟨x, y, rfl, rfl, (Option.some.inj h).symm⟩
theorem sumO_app {f : PyData → Option Nat} : ∀ {xs ys : List PyData} {a b : Nat}, sumO f xs = some a → sumO f ys = some b → sumO f (xs ++ ys) = some (a + b)
  | [], ys, a, b, h, k => by
    cases h
    rw [List.nil_append, Nat.zero_add]
    exact k
  | x :: xs, ys, a, b, h, k => by
    obtain ⟨u, v, e1, e2, rfl⟩ := addO_is h
    show addO (f x) (sumO f (xs ++ ys)) = _
    rw [e1, sumO_app e2 k]
    show some (u + (v + b)) = _
    rw [Nat.add_assoc]
theorem sumO_len {f : PyData → Option Nat} (h1 : ∀ d c, f d = some c → 1 ≤ c) : ∀ {xs : List PyData} {a : Nat}, sumO f xs = some a → xs.length ≤ a
  | [], a, h => Nat.zero_le _
  | x :: xs, a, h => by
    obtain ⟨u, v, e1, e2, rfl⟩ := addO_is h
    have := sumO_len h1 e2
    have := h1 _ _ e1
    rw [List.length_cons]
    omega
theorem sumO_take {f : PyData → Option Nat} (h1 : ∀ d c, f d = some c → 1 ≤ c) : ∀ {xs : List PyData} {a : Nat} (n : Nat), sumO f xs = some a → ∃ b, sumO f (xs.take n) = some b ∧ b + xs.length ≤ a + (xs.take n).length
  | xs, a, 0, h => ⟨0, rfl, by have := sumO_len h1 h; rw [List.take_zero, List.length_nil]; omega⟩
  | [], a, n + 1, h => ⟨a, h, Nat.le_refl _⟩
  | x :: xs, a, n + 1, h => by
    obtain ⟨u, v, e1, e2, rfl⟩ := addO_is h
    obtain ⟨b, e, l⟩ := sumO_take h1 n e2
    have := h1 _ _ e1
    refine ⟨u + b, ?_, ?_⟩
    · show addO (f x) (sumO f (xs.take n)) = _
      rw [e1, e]
      rfl
    · rw [List.take_succ_cons, List.length_cons, List.length_cons]
      omega
theorem sumO_mono {f g : PyData → Option Nat} (h : ∀ d m, f d = some m → g d = some m) : ∀ {xs : List PyData} {m : Nat}, sumO f xs = some m → sumO g xs = some m
  | [], m, e => e
  | x :: xs, m, e => by
    obtain ⟨u, v, e1, e2, rfl⟩ := addO_is e
    show addO (g x) (sumO g xs) = _
    rw [h _ _ e1, sumO_mono h e2]
    rfl
theorem blkO_mono {g g' : List PyData → Option Nat} (h : ∀ xs m, g xs = some m → g' xs = some m) {b : PyData} {m : Nat} (e : blkO g b = some m) : blkO g' b = some m := by
  cases b with
  | list xs => exact h _ _ e
  | _ => cases e
/-! in a wider scope, less deep -/
structure ScLe (a b : Sco) : Prop where
  cn : a.cn = b.cn
  fn : ∀ s ∈ a.fn, s ∈ b.fn
  vn : ∀ s ∈ a.vn, s ∈ b.vn
  wn : ∀ s ∈ a.wn, s ∈ b.wn
  lv : a.lv ≤ b.lv
  cs : ∀ z m h d, a.cs.lookup z = some (m, h, d) → ∃ d', d' ≤ d ∧ b.cs.lookup z = some (m, h, d')
theorem ScLe.rfl {a : Sco} : ScLe a a := ⟨Eq.refl _, fun _ h => h, fun _ h => h, fun _ h => h, Int.le_refl _, fun z m h d e => ⟨d, Int.le_refl _, e⟩⟩
theorem oneT_mono {d : PyData} {ns ms : List Str} (h : ∀ s ∈ ns, s ∈ ms) (e : oneT d ns = true) : oneT d ms = true := by
  obtain ⟨s, rfl, m⟩ := oneT_str e
  exact decide_eq_true (h s m)
theorem whole_mono {d : PyData} {i j : Int} (h : i ≤ j) (e : wholeT d 0 i = true) : wholeT d 0 j = true := by
  unfold wholeT at e ⊢
  split at e
  · rename_i z
    rw [Bool.and_eq_true] at e ⊢
    have := of_decide_eq_true e.2
    exact ⟨e.1, decide_eq_true (by omega)⟩
  · cases e
theorem fits_mono {a b : Sco} (l : ScLe a b) {k : Str} {d : PyData} (h : fitsT a k d = true) : fitsT b k d = true := by
  unfold fitsT at h ⊢
  by_cases c1 : k = "block"
  · rw [if_pos c1]
  rw [if_neg c1] at h ⊢
  by_cases c2 : k = "times"
  · rw [if_pos c2] at h ⊢
    exact h
  rw [if_neg c2] at h ⊢
  by_cases c3 : k = "level"
  · rw [if_pos c3] at h ⊢
    exact whole_mono l.lv h
  rw [if_neg c3] at h ⊢
  by_cases c4 : k = "variable"
  · rw [if_pos c4] at h ⊢
    exact oneT_mono l.vn h
  rw [if_neg c4] at h ⊢
  by_cases c5 : k = "weak"
  · rw [if_pos c5] at h ⊢
    exact oneT_mono l.wn h
  rw [if_neg c5] at h ⊢
  by_cases c6 : k = "class"
  · rw [if_pos c6] at h ⊢
    rw [← l.cn]
    exact h
  rw [if_neg c6] at h ⊢
  by_cases c7 : k = "field"
  · rw [if_pos c7] at h ⊢
    exact oneT_mono l.fn h
  rw [if_neg c7] at h ⊢
  exact h
theorem callT_mono {a b : Sco} (l : ScLe a b) {r r' : Int} (hr : r' ≤ r) {es : List PyData} (h : callT a es r = true) : callT b es r' = true := by
  obtain ⟨t, z, ar, m, hh, dp, rfl, lk⟩ := callT_is h
  obtain ⟨dp', ld, lk'⟩ := l.cs _ _ _ _ lk
  have h : callN a t (.str z) ar r = true := h
  show callN b t (.str z) ar r' = true
  unfold callN at h ⊢
  dsimp only at h ⊢
  rw [lk] at h
  rw [lk']
  have h : callR a t ar r (m, hh, dp) = true := h
  show callR b t ar r' (m, hh, dp') = true
  unfold callR at h ⊢
  rw [Bool.and_eq_true, Bool.and_eq_true, Bool.or_eq_true, Bool.and_eq_true] at h ⊢
  obtain ⟨⟨h1, h2⟩, h3⟩ := h
  have := of_decide_eq_true h3
  dsimp only at this
  refine ⟨⟨h1.imp id fun q => ⟨q.1, oneT_mono l.vn q.2⟩, ?_⟩, decide_eq_true (by dsimp only; omega)⟩
  unfold argsT at h2 ⊢
  split at h2
  · dsimp only
    rw [Bool.and_eq_true, List.all_eq_true] at h2 ⊢
    exact ⟨h2.1, fun y m => oneT_mono l.vn (h2.2 y m)⟩
  · cases h2
theorem words_mono {a b : Sco} (l : ScLe a b) {r r' : Int} (hr : r' ≤ r) (h3 : r ≤ 3) {s : Str} {es : List PyData} (h : wordsT a s es r = true) : wordsT b s es r' = true := by
  unfold wordsT at h ⊢
  by_cases c : s = "call"
  · rw [if_pos c] at h ⊢
    exact callT_mono l hr h
  rw [if_neg c] at h ⊢
  cases e : forms.lookup s with
  | none => rw [e] at h; cases h
  | some ws =>
    rw [e] at h
    dsimp only at h ⊢
    rw [Bool.and_eq_true, Bool.and_eq_true] at h ⊢
    obtain ⟨⟨h1, h2⟩, h4⟩ := h
    refine ⟨⟨h1, ?_⟩, ?_⟩
    · by_cases c2 : s = "repeat"
      · rw [decide_eq_true c2, Bool.true_and, Bool.not_eq_true', decide_eq_false_iff_not] at h2 ⊢
        omega
      · rw [decide_eq_false c2]
        rfl
    · rw [List.all_eq_true] at h4 ⊢
      exact fun q m => fits_mono l (h4 q m)
theorem inR_mono {s : Str} {r r' : Int} (h : r' ≤ r) : inR s r' ≤ inR s r := by
  unfold inR
  split <;> omega
theorem words_rep {a : Sco} {s : Str} {es : List PyData} {r : Int} (h3 : r ≤ 3) (h : wordsT a s es r = true) : inR s r ≤ 3 := by
  unfold inR
  split
  · rename_i c
    unfold wordsT at h
    rw [if_neg (by rw [c]; decide +kernel)] at h
    cases e : forms.lookup s with
    | none => rw [e] at h; cases h
    | some ws =>
      rw [e] at h
      dsimp only at h
      rw [Bool.and_eq_true, Bool.and_eq_true] at h
      have h2 := h.1.2
      rw [decide_eq_true c, Bool.true_and, Bool.not_eq_true', decide_eq_false_iff_not] at h2
      omega
  · exact h3
theorem vS_mono {a b : Sco} (l : ScLe a b) : ∀ {f f' : Nat} {r r' : Int} (hf : f ≤ f') (hr : r' ≤ r) (h3 : r ≤ 3) {d : PyData} {m : Nat}, vS a f r d = some m → vS b f' r' d = some m
  | 0, f', r, r', _, _, _, d, m, h => by cases h
  | f + 1, 0, r, r', hf, _, _, d, m, h => by omega
  | f + 1, f' + 1, r, r', hf, hr, h3, d, m, h => by
    unfold vS at h ⊢
    split at h
    · rename_i s es
      split at h
      · rename_i hw
        rw [if_pos (words_mono l hr h3 hw)]
        obtain ⟨u, v, e1, e2, rfl⟩ := addO_is h
        cases e1
        rw [sumO_mono (fun b m e => blkO_mono (fun xs m e => sumO_mono (fun d m e => vS_mono l (by omega) (inR_mono hr) (words_rep h3 hw) e) e) e) e2]
        rfl
      · cases h
    · cases h
theorem vL_mono {a b : Sco} (l : ScLe a b) {f f' : Nat} {r r' : Int} (hf : f ≤ f') (hr : r' ≤ r) (h3 : r ≤ 3) {xs : List PyData} {m : Nat} (h : vL a f r xs = some m) : vL b f' r' xs = some m := sumO_mono (fun _ _ e => vS_mono l hf hr h3 e) h
theorem vS_one {sc : Sco} {f : Nat} {r : Int} {d : PyData} {c : Nat} (h : vS sc f r d = some c) : 1 ≤ c := by
  cases f with
  | zero => cases h
  | succ f =>
    unfold vS at h
    split at h
    · split at h
      · obtain ⟨u, v, e1, e2, rfl⟩ := addO_is h
        cases e1
        omega
      · cases h
    · cases h
theorem vL_app {sc : Sco} {f : Nat} {r : Int} {xs ys : List PyData} {a b : Nat} (h : vL sc f r xs = some a) (k : vL sc f r ys = some b) : vL sc f r (xs ++ ys) = some (a + b) := sumO_app h k
theorem vL_take {sc : Sco} {f : Nat} {r : Int} {xs : List PyData} {a : Nat} (n : Nat) (h : vL sc f r xs = some a) : ∃ b, vL sc f r (xs.take n) = some b ∧ b + xs.length ≤ a + (xs.take n).length := sumO_take (fun _ _ e => vS_one e) n h
theorem vL_repeat {sc : Sco} {f : Nat} {r : Int} {n : PyData} {xs : List PyData} {a : Nat} (hn : wholeT n 0 mostR = true) (hr : r ≠ 3) (h : vL sc f (r + 1) xs = some a) : vL sc (f + 1) r [.tuple [.str "repeat", n, .list xs]] = some (1 + a) := by
  have hw : wordsT sc "repeat" [n, .list xs] r = true := by
    unfold wordsT
    rw [if_neg (by decide +kernel), show forms.lookup ("repeat" : Str) = some (["times", "block"] : List Str) from by decide +kernel]
    show ((decide (2 = 2) && !(decide (("repeat" : Str) = "repeat") && decide (r = 3))) && (fitsT sc "times" n && (fitsT sc "block" (.list xs) && true))) = true
    rw [show fitsT sc "times" n = wholeT n 0 mostR from by unfold fitsT; rw [if_neg (by decide +kernel), if_pos rfl], hn, show fitsT sc "block" (.list xs) = true from by unfold fitsT; rw [if_pos rfl], decide_eq_false hr, Bool.and_false]
    rfl
  show addO (vS sc (f + 1) r (.tuple [.str "repeat", n, .list xs])) (some 0) = _
  unfold vS
  dsimp only
  rw [if_pos hw, show (blkV ("repeat" : Str) [n, .list xs]).map (·.1) = [.list xs] from rfl]
  show addO (addO (some 1) (addO (blkO (sumO (vS sc f (inR "repeat" r))) (.list xs)) (some 0))) (some 0) = _
  rw [show inR "repeat" r = r + 1 from rfl, show blkO (sumO (vS sc f (r + 1))) (.list xs) = some a from h]
  rfl
/-! what survey says of it -/
theorem push_runs {sc : Sco} {s : Str} {place : List Int} {nd : Nat} {rep : Int} {f : Nat} (ih : ∀ xs m a, vL sc f (inR s rep) xs = some m → RunsL sc [⟨.list xs, a, nd + 1, inR s rep, 0⟩] (3 * m + 1) m) :
    ∀ (l : List (PyData × List Int)) (m : Nat), sumO (fun b => blkO (sumO (vS sc f (inR s rep))) b) (l.map (·.1)) = some m → RunsL sc (l.map fun q => (⟨q.1, place ++ q.2, nd + 1, inR s rep, 0⟩ : Fr)).reverse (3 * m + l.length) m
  | [], m, h => by
    cases h
    exact RunsL.nil
  | q :: l, m, h => by
    obtain ⟨u, v, e1, e2, rfl⟩ := addO_is h
    have ih2 := push_runs (place := place) ih l v e2
    obtain ⟨b, pl⟩ := q
    cases b with
    | list xs =>
      rw [List.map_cons, List.reverse_cons]
      refine (ih2.app (ih xs u (place ++ pl) e1)).le ?_ ?_
      · rw [List.length_cons]; omega
      · omega
    | _ => cases e1
theorem blkV_two {α : Type} (s : Str) (ys : List α) : (blkV s ys).length ≤ 2 := by
  unfold blkV
  repeat' split
  all_goals (first | (show 1 ≤ 2; decide) | (show 2 ≤ 2; decide) | (show 0 ≤ 2; decide))
theorem runs_vL {sc : Sco} : ∀ (f : Nat) (xs : List PyData) (rep : Int) (nd : Nat) (hn : nd + f ≤ 60) (m : Nat) (a : List Int), vL sc f rep xs = some m → RunsL sc [⟨.list xs, a, nd, rep, 0⟩] (3 * m + 1) m := fun f => by
  induction f with
  | zero =>
    intro xs rep nd hn m a h
    cases xs with
    | nil =>
      cases h
      exact runs_end (by omega) rfl
    | cons x xs =>
      have h : addO (vS sc 0 rep x) (sumO (vS sc 0 rep) xs) = some m := h
      obtain ⟨u, v, e1, e2, rfl⟩ := addO_is h
      cases e1
  | succ f ih =>
    intro xs rep nd hn m a h
    have go : ∀ (post : List PyData) (pre : List PyData) (m : Nat), vL sc (f + 1) rep post = some m → RunsL sc [⟨.list (pre ++ post), a, nd, rep, pre.length⟩] (3 * m + 1) m := fun post => by
      induction post with
      | nil =>
        intro pre m h
        cases h
        rw [List.append_nil]
        exact runs_end (by omega) (List.getElem?_eq_none (Nat.le_refl _))
      | cons x post ih2 =>
        intro pre m h
        obtain ⟨u, v, e1, e2, rfl⟩ := addO_is h
        have r2 := ih2 (pre ++ [x]) v e2
        rw [List.append_assoc, List.length_append, List.length_singleton] at r2
        unfold vS at e1
        split at e1
        · rename_i s es
          split at e1
          · rename_i hw
            obtain ⟨u1, u2, e3, e4, rfl⟩ := addO_is e1
            cases e3
            have rp := push_runs (place := a ++ [(pre.length : Int)]) (nd := nd) (fun xs m a h => ih xs (inR s rep) (nd + 1) (by omega) m a h) _ _ e4
            refine (runs_st (by omega) at_mid hw (RunsL.app (gs := [⟨.list (pre ++ .tuple (.str s :: es) :: post), a, nd, rep, pre.length + 1⟩]) rp r2)).le ?_ ?_
            · have := blkV_two s es
              omega
            · omega
          · cases e1
        · cases e1
    exact go xs [] m h
/-! the whole program -/
theorem progOk {kk n : Nat} {rows : List Row} {ns ls : List Str} {ks : List Int} {bs hs : List PyData} {cs : Cl} {many : Int} {f m : Nat} (h4 : hs.length ≤ 4) (hf : funT (envOf rows ls ks) n hs 0 [] 0 = some (.ok cs many)) (hv : vL (scoOf rows ns ls (ks.length : Nat) cs) f 0 bs = some m) (f61 : f ≤ 60)
    (hn : 3 * m + 2 ≤ n) (h60 : many + m ≤ 60) (hc : cpB kk (.list bs) = true) (hd : hs.all (cpF kk) = true) : progT kk n rows ns ls ks (.list bs) (.list hs) = some .ok := by
  unfold progT
  dsimp only
  rw [if_pos h4, hf]
  dsimp only
  unfold bodyT
  obtain ⟨k, m', g, hk, hm, hr⟩ := runs_vL f bs 0 0 (by omega) m [] hv
  have e := hr (n - k - 1 + 1) [] 0 0
  rw [show n - k - 1 + 1 + k = n from by omega, List.append_nil] at e
  rw [e, runT_nil]
  dsimp only
  rw [if_neg (by omega), show isL (.list bs) = true from rfl, hc, hd]
  rfl
end K1

set_option Elab.async false
set_option linter.all false
set_option maxRecDepth 100000
set_option maxHeartbeats 0
namespace K1
open PySem L2
/-! ### trees that == looks at -/
def OkD (n : Nat) (d : PyData) : Prop := noDic d = true ∧ PyData.canLay0 d = true ∧ PyData.depth d ≤ n
def OkDs (n : Nat) (ds : List PyData) : Prop := noDics ds = true ∧ PyData.canLayAll0 ds = true ∧ PyData.depthAll ds ≤ n
theorem OkDs.of {n : Nat} : ∀ {ds : List PyData}, (∀ d ∈ ds, OkD n d) → OkDs n ds
  | [], _ => ⟨rfl, rfl, Nat.zero_le _⟩
  | d :: ds, h => by
    obtain ⟨a1, a2, a3⟩ := h d List.mem_cons_self
    obtain ⟨b1, b2, b3⟩ := OkDs.of fun e m => h e (List.mem_cons_of_mem _ m)
    refine ⟨?_, ?_, ?_⟩
    · show (noDic d && noDics ds) = true
      rw [a1, b1]
      rfl
    · show (PyData.canLay0 d && PyData.canLayAll0 ds) = true
      rw [a2, b2]
      rfl
    · show max (PyData.depth d) (PyData.depthAll ds) ≤ n
      omega
theorem OkD.list {n : Nat} {ds : List PyData} (h : ∀ d ∈ ds, OkD n d) : OkD (n + 1) (.list ds) := by
  obtain ⟨a, b, c⟩ := OkDs.of h
  exact ⟨a, b, Nat.succ_le_succ c⟩
theorem OkD.tup {n : Nat} {ds : List PyData} (h : ∀ d ∈ ds, OkD n d) : OkD (n + 1) (.tuple ds) := by
  obtain ⟨a, b, c⟩ := OkDs.of h
  exact ⟨a, b, Nat.succ_le_succ c⟩
theorem OkD.up {n m : Nat} {d : PyData} (h : OkD n d) (le : n ≤ m) : OkD m d := ⟨h.1, h.2.1, Nat.le_trans h.2.2 le⟩
theorem OkD.int {n : Nat} (i : Int) : OkD n (.int i) := ⟨rfl, rfl, Nat.zero_le _⟩
theorem OkD.str {n : Nat} {s : Str} (h : PyData.strOk s = true) : OkD n (.str s) := ⟨rfl, h, Nat.zero_le _⟩
theorem OkD.non {n : Nat} : OkD n .none := ⟨rfl, rfl, Nat.zero_le _⟩
theorem OkD.ints {n : Nat} (l : List Int) : OkD (n + 1) (.tuple (l.map PyData.int)) := OkD.tup fun d m => by
  obtain ⟨i, _, rfl⟩ := List.mem_map.mp m
  exact OkD.int i
theorem OkD.facts {d : PyData} (h : OkD 64 d) : noDic d = true ∧ SeqAt.shaped d = true ∧ PyData.eqv d d = true := by
  obtain ⟨a, b, c⟩ := h
  refine ⟨a, ?_, SeqAt.eqv_refl _ b⟩
  unfold SeqAt.shaped
  rw [b, Bool.true_and]
  exact decide_eq_true c
def okB0 (n : Nat) (d : PyData) : Bool := noDic d && (PyData.canLay0 d && decide (PyData.depth d ≤ n))
theorem okB0_is {n : Nat} {d : PyData} (h : okB0 n d = true) : OkD n d := by
  unfold okB0 at h
  rw [Bool.and_eq_true, Bool.and_eq_true] at h
  exact ⟨h.1, h.2.1, of_decide_eq_true h.2.2⟩
/-! ### what can be copied -/
theorem cpW_mono {f g : PyData → Bool} (h : ∀ d, f d = true → g d = true) {s : Str} {e : PyData} (c : cpW f s e = true) : cpW g s e = true := by
  unfold cpW at c ⊢
  split at c
  · by_cases e : s = "call"
    · rw [if_pos e] at c ⊢
      exact c
    · rw [if_neg e] at c ⊢
      exact h _ c
  · exact c
theorem cpS_mono {f g : PyData → Bool} (h : ∀ d, f d = true → g d = true) {st : PyData} (c : cpS f st = true) : cpS g st = true := by
  obtain ⟨s, ds, rfl, h1, h2⟩ := cpS_is c
  show (decide (ds.length ≤ 900) && ds.all (cpW g s)) = true
  rw [decide_eq_true h1, Bool.true_and, List.all_eq_true]
  exact fun e he => cpW_mono h (h2 e he)
theorem cpB_mono : ∀ k d, cpB k d = true → cpB (k + 1) d = true
  | 0, d, h => by cases h
  | k + 1, d, h => by
    cases d with
    | list ds =>
      obtain ⟨h1, h2⟩ := cpB_is h
      show (decide (ds.length ≤ 900) && ds.all (cpS (cpB (k + 1)))) = true
      rw [decide_eq_true h1, Bool.true_and, List.all_eq_true]
      exact fun e he => cpS_mono (cpB_mono k) (h2 e he)
    | _ => cases h
theorem cpB_up {d : PyData} : ∀ {k j : Nat}, k ≤ j → cpB k d = true → cpB j d = true
  | k, 0, h, c => by
    rw [Nat.le_zero.mp h] at c
    exact c
  | k, j + 1, h, c => by
    by_cases e : k = j + 1
    · rw [← e]
      exact c
    · exact cpB_mono j d (cpB_up (by omega) c)
/-! ### the trees of the law of equal programs -/
def dgN (ds : List Int) (j m : Nat) : Nat := (ds.getD j 0 % (m : Int)).toNat
theorem dgN_lt (ds : List Int) (j : Nat) {m : Nat} (h : 0 < m) : dgN ds j m < m := by
  have h1 := Int.emod_nonneg (ds.getD j 0) (show (m : Int) ≠ 0 by omega)
  have h2 := Int.emod_lt_of_pos (ds.getD j 0) (show (0 : Int) < (m : Int) by omega)
  unfold dgN
  omega
def S (s : Str) : PyData := .str s
def st1 (a : Str) : PyData := .tuple [.str a]
def pick (l : List PyData) (n : Nat) : PyData := l.getD n .none
def oneD (a : Nat) : PyData := pick [.str "x", .str "y"] a
def othD (a : Nat) : PyData := pick [.str "y", .str "x"] a
def kinD (k : Nat) : PyData := pick [.str "node", .str "pair", .str "leaf"] k
def modN (w a k p q r : Nat) : List PyData :=
  if w = 0 then [.tuple [.str "new", .str "t", kinD k], .tuple [.str "copy", oneD a, othD a], .tuple [.str "copy", othD a, .str "t"], .tuple [.str "clear", .str "t"]]
  else if w = 1 then [.tuple [.str "new", .str "t", .str "node"], .tuple [.str "new", .str "u", .str "pair"], .tuple [.str "store", .str "t", .str "left", .str "u"]] ++ [.tuple [.str "store", .str "u", .str "left", .str "t"], .tuple [.str "clear", .str "t"], .tuple [.str "clear", .str "u"]]
  else if w = 2 then [.tuple [.str "copy", .str "t", oneD a], .tuple [.str "copy", oneD a, othD a], .tuple [.str "copy", othD a, .str "t"], .tuple [.str "clear", .str "t"]]
  else if w = 3 then [.tuple [.str "new", oneD a, kinD k], .tuple [.str "emit", oneD a]]
  else if w = 4 then [.tuple [.str "weak", pick [.str "v", .str "q"] p, oneD a], .tuple [.str "weak", .str "w", oneD a], .tuple [.str "new", oneD a, kinD k]] ++ [.tuple [.str "get", .str "t", pick [.str "w", .str "v", .str "q"] q], .tuple [.str "emit", .str "t"], .tuple [.str "clear", .str "t"]]
  else if w = 5 then [.tuple [.str "call", oneD a, .str "build", .list [othD a]]]
  else if w = 6 then [.tuple [.str "ifsame", oneD a, othD a, .list [.tuple [.str "emit", oneD a]], .list [.tuple [.str "tag", oneD a, pick [.str "red", .str "blue"] r]]], .tuple [.str "ifnil", oneD a, .list [.tuple [.str "new", oneD a, .str "leaf"]], .list []]]
  else if w = 7 then ([.tuple [.str "new", .str "t", .str "pair"], .tuple [.str "store", .str "t", .str "left", oneD a], .tuple [.str "store", .str "t", .str "right", othD a]] ++ [.tuple [.str "copy", .str "u", .str "t"], .tuple [.str "load", othD a, .str "u", .str "left"], .tuple [.str "clear", .str "t"]]) ++ [.tuple [.str "emit", .str "u"], .tuple [.str "clear", .str "u"]]
  else [.tuple [.str "collect", .int 0], .tuple [.str "emit", othD a]]
def modT (e : List Int) : List PyData := modN (dgN e 0 9) (dgN e 1 2) (dgN e 2 3) (dgN e 2 2) (dgN e 3 3) (dgN e 3 2)
def ordS (o : Nat) : List Str := (([["left", "right"], ["right", "left"], ["right", "left", "back"]] : List (List Str))).getD o []
def rows5 (ds : List Int) : List Row := [⟨"node", 1, ["left"], false⟩, ⟨"pair", 1 + ds.getD 0 0 % 8, ordS (dgN ds 0 3), decide (ds.getD 1 0 % 2 = 0)⟩, ⟨"leaf", 1 + ds.getD 2 0 % 8, [], decide (ds.getD 3 0 % 3 = 0)⟩]
def ns5 : List Str := ["x", "y", "t", "u"]
def ls5 : List Str := ["v", "w", "q"]
def planN (n : Nat) : Int × List Int := ([(1, []), (2, []), (1, [2]), (2, [2]), (3, [2, 2]), (1, [3, 2]), (4, []), (2, [3]), (1, [2, 2, 3])] : List (Int × List Int)).getD n (1, [])
def np (n : Nat) : PyData := pick [.str "node", .str "pair"] n
def deepT : List PyData := [.tuple [.str "new", .str "d", .str "pair"], .tuple [.str "store", .str "d", .str "left", .str "d"], .tuple [.str "collect", .int 0], .tuple [.str "copy", .str "d", .str "c"]]
def buildT (p : Nat) (r : Bool) : List PyData := ([.tuple [.str "new", .str "b", np p], .tuple [.str "store", .str "b", .str "left", .str "a"]] ++ [.tuple [.str "call", .str "a", .str "deep", .list [.str "b"]], .tuple [.str "wipe", .str "b", .str "left"]]) ++ (if r = true then [.tuple [.str "repeat", .int 2, .list [.tuple [.str "ifnil", .str "a", .list [], .list [.tuple [.str "emit", .str "a"]]]]]] else [])
def headsT5 (p : Nat) (r : Bool) : List PyData := [.tuple [.str "deep", .list [.str "c"], .list [.str "d"], .list deepT, .str "d"], .tuple [.str "build", .list [.str "a"], .list [.str "b"], .list (buildT p r), .str "b"]]
def slc (ds : List Int) (i : Nat) : List Int := (ds.drop i).take 4
def innN (ds : List Int) : Nat → List PyData
  | 0 => []
  | k + 1 => (innN ds k ++ modT (slc ds (10 + 4 * k))).take 14
def timT (ds : List Int) (t : Int) : PyData := pick [.int 2, .int 3, .int t] (dgN ds 8 3)
def inn2 (ds : List Int) (t : Int) : List PyData := innN ds (1 + dgN ds 6 3) ++ (if ds.getD 7 0 % 3 = 0 then [.tuple [.str "repeat", timT ds t, .list (modT (slc ds 26))]] else [])
def bodT (ds : List Int) (t : Int) : List PyData := (([.tuple [.str "new", .str "x", .str "node"], .tuple [.str "new", .str "y", np (dgN ds 5 2)]] ++ modT (slc ds 30)) ++ [.tuple [.str "repeat", .int t, .list (inn2 ds t)]]) ++ modT (slc ds 34)
/-! ### valid -/
def cs5 (r : Bool) : Cl := [("deep", (1, true, 0)), ("build", (1, true, if r = true then 1 else 0))]
def sc0 : Sco := ⟨["node", "pair", "leaf"], ["left", "right"], ns5, ls5, 0, cs5 true⟩
theorem mod_c : ∀ w < 9, ∀ a < 2, ∀ k < 3, ∀ p < 2, ∀ q < 3, ∀ r < 2, ((match vL sc0 3 2 (modN w a k p q r) with
    | some m => decide (m ≤ 8) && (decide (m = (modN w a k p q r).length) || (decide (m = 5) && decide ((modN w a k p q r).length = 2)))
    | none => false) && ((modN w a k p q r).all (cpS (cpB 1)) && (modN w a k p q r).all fun d => okB0 3 d)) = true := by decide +kernel
theorem modT_ok (e : List Int) : (∃ m, vL sc0 3 2 (modT e) = some m ∧ m ≤ 8 ∧ (m = (modT e).length ∨ (m = 5 ∧ (modT e).length = 2))) ∧ (∀ d ∈ modT e, cpS (cpB 1) d = true) ∧ ∀ d ∈ modT e, OkD 3 d := by
  have h := mod_c _ (dgN_lt e 0 (by decide)) _ (dgN_lt e 1 (by decide)) _ (dgN_lt e 2 (by decide)) _ (dgN_lt e 2 (by decide)) _ (dgN_lt e 3 (by decide)) _ (dgN_lt e 3 (by decide))
  rw [Bool.and_eq_true, Bool.and_eq_true, List.all_eq_true, List.all_eq_true] at h
  obtain ⟨h1, h2, h3⟩ := h
  refine ⟨?_, h2, fun d m => okB0_is (h3 d m)⟩
  unfold modT
  cases q : vL sc0 3 2 (modN (dgN e 0 9) (dgN e 1 2) (dgN e 2 3) (dgN e 2 2) (dgN e 3 3) (dgN e 3 2)) with
  | none => rw [q] at h1; cases h1
  | some m =>
    rw [q] at h1
    simp only [Bool.and_eq_true, Bool.or_eq_true, decide_eq_true_eq] at h1
    exact ⟨m, rfl, h1.1, h1.2⟩
theorem inn_ok (ds : List Int) : ∀ k, (∃ m e, vL sc0 3 2 (innN ds k) = some m ∧ m ≤ (innN ds k).length + 3 * e ∧ e ≤ k ∧ (innN ds k).length ≤ 14 ∧ (innN ds k).length ≤ 2 * e + 8 * (k - e)) ∧ (∀ d ∈ innN ds k, cpS (cpB 1) d = true) ∧ ∀ d ∈ innN ds k, OkD 3 d
  | 0 => ⟨⟨0, 0, rfl, Nat.le_refl _, Nat.le_refl _, Nat.zero_le _, Nat.zero_le _⟩, (fun d m => by cases m), (fun d m => by cases m)⟩
  | k + 1 => by
    obtain ⟨⟨m, e, h1, h2, h3, h4, h5⟩, c1, o1⟩ := inn_ok ds k
    obtain ⟨⟨m', g1, g2, g3⟩, c2, o2⟩ := modT_ok (slc ds (10 + 4 * k))
    refine ⟨?_, fun d hd => ?_, fun d hd => ?_⟩
    · obtain ⟨b, e1, e2⟩ := vL_take 14 (vL_app h1 g1)
      have l14 := List.length_take_le 14 (innN ds k ++ modT (slc ds (10 + 4 * k)))
      have lx := List.length_take_le' 14 (innN ds k ++ modT (slc ds (10 + 4 * k)))
      have la : (innN ds k ++ modT (slc ds (10 + 4 * k))).length = (innN ds k).length + (modT (slc ds (10 + 4 * k))).length := List.length_append
      rcases g3 with g3 | ⟨g3, g4⟩
      · exact ⟨b, e, e1, by show b ≤ ((innN ds k ++ modT (slc ds (10 + 4 * k))).take 14).length + 3 * e; omega, by omega, l14, by show ((innN ds k ++ modT (slc ds (10 + 4 * k))).take 14).length ≤ _; omega⟩
      · exact ⟨b, e + 1, e1, by show b ≤ ((innN ds k ++ modT (slc ds (10 + 4 * k))).take 14).length + 3 * (e + 1); omega, by omega, l14, by show ((innN ds k ++ modT (slc ds (10 + 4 * k))).take 14).length ≤ _; omega⟩
    · rcases List.mem_append.mp (List.mem_of_mem_take hd) with q | q
      · exact c1 d q
      · exact c2 d q
    · rcases List.mem_append.mp (List.mem_of_mem_take hd) with q | q
      · exact o1 d q
      · exact o2 d q
theorem inn_few {ds : List Int} {k : Nat} (hk : k ≤ 3) : ∃ m, vL sc0 3 2 (innN ds k) = some m ∧ m ≤ 18 := by
  obtain ⟨⟨m, e, h1, h2, h3, h4, h5⟩, _⟩ := inn_ok ds k
  exact ⟨m, h1, by omega⟩
theorem times_ok {ds : List Int} {t : Int} (h0 : 0 ≤ t) (h1 : t ≤ 2000) : (∃ z, timT ds t = .int z) ∧ wholeT (timT ds t) 0 mostR = true := by
  unfold timT pick
  have lt := dgN_lt ds 8 (show 0 < 3 by decide)
  match dgN ds 8 3, lt with
  | 0, _ => exact ⟨⟨2, rfl⟩, (by decide +kernel : wholeT (.int 2) 0 mostR = true)⟩
  | 1, _ => exact ⟨⟨3, rfl⟩, (by decide +kernel : wholeT (.int 3) 0 mostR = true)⟩
  | 2, _ =>
    refine ⟨⟨t, rfl⟩, ?_⟩
    show (decide (0 ≤ t) && decide (t ≤ mostR)) = true
    rw [decide_eq_true h0, decide_eq_true (by unfold mostR; omega)]
    rfl
theorem whole_ok5 {t : Int} (h0 : 0 ≤ t) (h1 : t ≤ 2000) : wholeT (.int t) 0 mostR = true := by
  show (decide (0 ≤ t) && decide (t ≤ mostR)) = true
  rw [decide_eq_true h0, decide_eq_true (by unfold mostR; omega)]
  rfl
theorem cpS_rep {k : Nat} {n : PyData} {xs : List PyData} (hn : ∃ z, n = .int z) (hl : xs.length ≤ 900) (h : ∀ d ∈ xs, cpS (cpB k) d = true) : cpS (cpB (k + 1)) (.tuple [.str "repeat", n, .list xs]) = true := by
  obtain ⟨z, rfl⟩ := hn
  have e : cpB (k + 1) (.list xs) = true := by
    show (decide (xs.length ≤ 900) && xs.all (cpS (cpB k))) = true
    rw [decide_eq_true hl, Bool.true_and, List.all_eq_true]
    exact h
  show (decide (2 ≤ 900) && (true && ((if ("repeat" : Str) = "call" then xs.all scaT else cpB (k + 1) (.list xs)) && true))) = true
  rw [if_neg (by decide +kernel), e]
  rfl
theorem cpB_of {k : Nat} {xs : List PyData} (hl : xs.length ≤ 900) (h : ∀ d ∈ xs, cpS (cpB k) d = true) : cpB (k + 1) (.list xs) = true := by
  show (decide (xs.length ≤ 900) && xs.all (cpS (cpB k))) = true
  rw [decide_eq_true hl, Bool.true_and, List.all_eq_true]
  exact h
theorem okD_rep {k : Nat} {n : PyData} {xs : List PyData} (hn : ∃ z, n = .int z) (h : ∀ d ∈ xs, OkD k d) : OkD (k + 2) (.tuple [.str "repeat", n, .list xs]) := OkD.tup fun d m => by
  simp only [List.mem_cons, List.not_mem_nil, or_false] at m
  obtain ⟨z, rfl⟩ := hn
  rcases m with rfl | rfl | rfl
  · exact OkD.str (by decide +kernel)
  · exact OkD.int z
  · exact OkD.list h
theorem len_vL {sc : Sco} {f : Nat} {r : Int} {xs : List PyData} {m : Nat} (h : vL sc f r xs = some m) : xs.length ≤ m := sumO_len (fun _ _ e => vS_one e) h
theorem cpS_up {k j : Nat} (h : k ≤ j) {d : PyData} (c : cpS (cpB k) d = true) : cpS (cpB j) d = true := cpS_mono (fun _ z => cpB_up h z) c
theorem inn2_ok {ds : List Int} {t : Int} (h0 : 0 ≤ t) (h1 : t ≤ 2000) : (∃ m, vL sc0 4 1 (inn2 ds t) = some m ∧ m ≤ 27) ∧ (∀ d ∈ inn2 ds t, cpS (cpB 2) d = true) ∧ ∀ d ∈ inn2 ds t, OkD 5 d := by
  have hk := dgN_lt ds 6 (show 0 < 3 by decide)
  obtain ⟨m, e1, e2⟩ := inn_few (ds := ds) (k := 1 + dgN ds 6 3) (by omega)
  obtain ⟨_, c1, o1⟩ := inn_ok ds (1 + dgN ds 6 3)
  obtain ⟨⟨m', g1, g2, _⟩, c2, o2⟩ := modT_ok (slc ds 26)
  obtain ⟨ti, tw⟩ := times_ok (ds := ds) h0 h1
  have l2 := len_vL g1
  have e1' := vL_mono (ScLe.rfl (a := sc0)) (f' := 4) (r' := 1) (by decide) (by decide) (by decide) e1
  unfold inn2
  split
  · refine ⟨⟨m + (1 + m'), vL_app e1' (vL_repeat tw (by decide) g1), by omega⟩, fun d hd => ?_, fun d hd => ?_⟩
    · rcases List.mem_append.mp hd with q | q
      · exact cpS_up (by decide) (c1 d q)
      · rw [List.mem_singleton.mp q]
        exact cpS_rep ti (by omega) c2
    · rcases List.mem_append.mp hd with q | q
      · exact (o1 d q).up (by decide)
      · rw [List.mem_singleton.mp q]
        exact okD_rep ti o2
  · rw [List.append_nil]
    exact ⟨⟨m, e1', by omega⟩, fun d hd => cpS_up (by decide) (c1 d hd), fun d hd => (o1 d hd).up (by decide)⟩
theorem news_c : ∀ p < 2, ((match vL sc0 4 1 [.tuple [.str "new", .str "x", .str "node"], .tuple [.str "new", .str "y", np p]] with
    | some m => decide (m = 2)
    | none => false) && ([PyData.tuple [.str "new", .str "x", .str "node"], .tuple [.str "new", .str "y", np p]].all fun d => cpS (cpB 1) d && okB0 3 d)) = true := by decide +kernel
theorem bod_ok {ds : List Int} {t : Int} (h0 : 0 ≤ t) (h1 : t ≤ 2000) : (∃ m, vL sc0 5 0 (bodT ds t) = some m ∧ m ≤ 46 ∧ 2 ≤ m) ∧ (∀ d ∈ bodT ds t, cpS (cpB 3) d = true) ∧ (∀ d ∈ bodT ds t, OkD 7 d) ∧ 2 ≤ (bodT ds t).length := by
  have hp := news_c _ (dgN_lt ds 5 (show 0 < 2 by decide))
  rw [Bool.and_eq_true, List.all_eq_true] at hp
  obtain ⟨p1, p2⟩ := hp
  have p3 : vL sc0 4 1 [.tuple [.str "new", .str "x", .str "node"], .tuple [.str "new", .str "y", np (dgN ds 5 2)]] = some 2 := by
    split at p1
    · rename_i q
      rw [q, of_decide_eq_true p1]
    · cases p1
  have hk := dgN_lt ds 6 (show 0 < 3 by decide)
  obtain ⟨⟨m, e1, e2⟩, c1, o1⟩ := inn2_ok (ds := ds) h0 h1
  obtain ⟨⟨m1, g1, g2, _⟩, c2, o2⟩ := modT_ok (slc ds 30)
  obtain ⟨⟨m2, k1, k2, _⟩, c3, o3⟩ := modT_ok (slc ds 34)
  have le := len_vL e1
  have up := fun {f : Nat} {r : Int} {xs : List PyData} {m : Nat} (hf : f ≤ 5) (hr : 0 ≤ r) (h3 : r ≤ 3) (h : vL sc0 f r xs = some m) => vL_mono (ScLe.rfl (a := sc0)) hf hr h3 h
  refine ⟨⟨2 + m1 + (1 + m) + m2, vL_app (vL_app (vL_app (up (by decide) (by decide) (by decide) p3) (up (by decide) (by decide) (by decide) g1)) (vL_repeat (whole_ok5 h0 h1) (by decide) e1)) (up (by decide) (by decide) (by decide) k1), by omega, by omega⟩, fun d hd => ?_, fun d hd => ?_, ?_⟩
  · unfold bodT at hd
    rw [List.mem_append, List.mem_append, List.mem_append, List.mem_singleton] at hd
    rcases hd with ((hd | hd) | rfl) | hd
    · have z := p2 d hd
      rw [Bool.and_eq_true] at z
      exact cpS_up (by decide) z.1
    · exact cpS_up (by decide) (c2 d hd)
    · exact cpS_rep ⟨t, rfl⟩ (by omega) c1
    · exact cpS_up (by decide) (c3 d hd)
  · unfold bodT at hd
    rw [List.mem_append, List.mem_append, List.mem_append, List.mem_singleton] at hd
    rcases hd with ((hd | hd) | rfl) | hd
    · have z := p2 d hd
      rw [Bool.and_eq_true] at z
      exact (okB0_is z.2).up (by decide)
    · exact (o2 d hd).up (by decide)
    · exact okD_rep ⟨t, rfl⟩ o1
    · exact (o3 d hd).up (by decide)
  · unfold bodT
    simp only [List.length_append, List.length_cons, List.length_nil]
    omega
/-! ### the whole program is made -/
theorem funT_rows {e e' : Env} (hn : e.rows.map (·.n) = e'.rows.map (·.n)) (hf : e.rows.flatMap (·.fs) = e'.rows.flatMap (·.fs)) (hw : e.wn = e'.wn) (hl : e.lv = e'.lv) {n : Nat} : ∀ (ds : List PyData) (i : Nat) (cs : Cl) (many : Int), funT e n ds i cs many = funT e' n ds i cs many
  | [], i, cs, many => rfl
  | d :: r, i, cs, many => by
    have hs : ∀ vn cs, scoOf e.rows vn e.wn e.lv cs = scoOf e'.rows vn e'.wn e'.lv cs := fun vn cs => by
      unfold scoOf
      rw [hn, hf, hw, hl]
    have hr : ∀ cs nm ps is b, funR e n cs nm ps is b = funR e' n cs nm ps is b := fun cs nm ps is b => by
      unfold funR
      rw [hs]
    unfold funT
    rw [hw]
    simp only [hr, funT_rows hn hf hw hl r]
def rows0 (o : Nat) : List Row := [⟨"node", 1, ["left"], false⟩, ⟨"pair", 1, ordS o, false⟩, ⟨"leaf", 1, [], false⟩]
def manyN (r : Bool) : Int := if r = true then 11 else 8
def more5 : PyData := .tuple [.str "more", .list [], .list [], .list [], .none]
def lsN (x : Nat) : List Str := if x = 0 then ls5 else ["q", "w", "v"]
def hsN (p : Nat) (r : Bool) (y : Nat) : List PyData := headsT5 p r ++ (if y = 1 then [more5] else [])
def csN (r : Bool) (y : Nat) : Cl := cs5 r ++ (if y = 1 then ([("more", (0, false, 0))] : Cl) else [])
theorem fun_c : ∀ o < 3, ∀ lv < 4, ∀ p < 2, ∀ k < 2, ∀ x < 2, ∀ y < 2, ((match funT ⟨rows0 o, lsN x, (lv : Nat)⟩ 400 (hsN p (decide (k = 1)) y) 0 [] 0 with
    | some (.ok cs many) => decide (cs = csN (decide (k = 1)) y) && decide (many = manyN (decide (k = 1)))
    | _ => false) && (((hsN p (decide (k = 1)) y).all (cpF 4) && shortT (.list (hsN p (decide (k = 1)) y))) && ((hsN p (decide (k = 1)) y).all fun d => okB0 8 d))) = true := by decide +kernel
end K1

set_option Elab.async false
set_option linter.all false
set_option maxRecDepth 100000
set_option maxHeartbeats 8000000
namespace K1
open PySem L2
/-! ### programs within a part of the heap -/
structure Pt where
  rows : List Row
  ns : List Str
  ls : List Str
  th : Int
  ks : List Int
  bs : List PyData
  fs : List PyData
def strD (ss : List Str) : PyData := .list (ss.map PyData.str)
def intD (ks : List Int) : PyData := .list (ks.map PyData.int)
def strF (s : Str) : Bool := decide (s.length ≤ 1000) && PyData.strOk s
theorem strF_is {s : Str} (h : strF s = true) : s.length ≤ 1000 ∧ PyData.strOk s = true := by
  unfold strF at h
  rw [Bool.and_eq_true] at h
  exact ⟨of_decide_eq_true h.1, h.2⟩
structure GoodP (g : Pt) : Prop where
  r6 : g.rows.length ≤ 6
  r3 : ∀ q ∈ g.rows, q.fs.length ≤ 3
  rs : ∀ q ∈ g.rows, strF q.n = true ∧ ∀ s ∈ q.fs, strF s = true
  nS : ∀ s ∈ g.ns, strF s = true
  lS : ∀ s ∈ g.ls, strF s = true
  bc : cpB 4 (.list g.bs) = true
  f9 : g.fs.length ≤ 900
  fc : ∀ d ∈ g.fs, cpF 4 d = true
  oc : OkD 60 (clsD g.rows)
  ob : OkD 60 (.list g.bs)
  oN : OkD 60 (strD g.ns)
  ol : OkD 60 (strD g.ls)
  ok : OkD 60 (intD g.ks)
  oF : OkD 60 (.list g.fs)
def PgIn (G : Hp) (CP p : Addr) (g : Pt) : Prop := ∃ (dx a b c d f h : Addr), G p = some (.ins CP dx (pgF (.ref a) (.ref b) (.ref c) (.ref d) (.int g.th) (.ref f) (.ref h))) ∧ ClsN nul G a g.rows ∧ At G (.ref b) (.list g.bs) ∧ G c = some (.lst (g.ns.map V.str)) ∧ G d = some (.lst (g.ls.map V.str)) ∧ G f = some (.lst (g.ks.map V.int)) ∧ At G (.ref h) (.list g.fs)
theorem PgIn.mono {G G' : Hp} {CP p : Addr} {g : Pt} (h : PgIn G CP p g) (s : Same G G') : PgIn G' CP p g := by
  obtain ⟨dx, a, b, c, d, f, i, h1, h2, h3, h4, h5, h6, h7⟩ := h
  exact ⟨dx, a, b, c, d, f, i, s _ _ h1, h2.mono s, h3.mono s, s _ _ h4, s _ _ h5, s _ _ h6, h7.mono s⟩
theorem ClsN.off {H0 H : Hp} {a : Addr} {rows : List Row} (h : ClsN H0 H a rows) : ClsN nul (off H0 H) a rows := by
  obtain ⟨n, xs, e, p⟩ := h
  refine ⟨rfl, xs, off_of n e, p.mono fun x r z => ?_⟩
  obtain ⟨q, fl, e1, z1, z2, z3, z4⟩ := z
  exact ⟨q, fl, e1, rfl, rfl, off_of z1 z3, off_of z2 z4⟩
theorem PgIn.of {H0 H : Hp} {CP p : Addr} {rows : List Row} {ns ls : List Str} {th : Int} {ks : List Int} {bs fs : List PyData} (pg : Prog2 H0 H CP p rows ns ls th ks bs fs) (n : H0 p = none) : PgIn (off H0 H) CP p ⟨rows, ns, ls, th, ks, bs, fs⟩ := by
  obtain ⟨dx, a, b, c, d, f, i, h1, h2, h3, h4, h5, h6, h7⟩ := pg
  exact ⟨dx, a, b, c, d, f, i, off_of n h1, h2.off, h3, off_of h4.1 h4.2, off_of h5.1 h5.2, off_of h6.1 h6.2, h7⟩
theorem at_strs' {H : Hp} : ∀ {ss : List Str}, (∀ s ∈ ss, strF s = true) → AtAll H (ss.map V.str) (ss.map PyData.str)
  | [], _ => .nil
  | s :: ss, h => .cons (.str s (strF_is (h s List.mem_cons_self))) (at_strs' fun t m => h t (List.mem_cons_of_mem _ m))
theorem at_ints' {H : Hp} : ∀ {ks : List Int}, AtAll H (ks.map V.int) (ks.map PyData.int)
  | [] => .nil
  | k :: ks => .cons (.int k) at_ints'
theorem cls_at {G : Hp} {a : Addr} {rows : List Row} (h : ClsN nul G a rows) (rs : ∀ q ∈ rows, strF q.n = true ∧ ∀ s ∈ q.fs, strF s = true) : At G (.ref a) (clsD rows) := by
  obtain ⟨_, xs, e, p⟩ := h
  refine .lst e ?_
  clear e
  induction p with
  | nil => exact .nil
  | cons z p ih =>
    obtain ⟨q, fl, rfl, _, _, z3, z4⟩ := z
    obtain ⟨r1, r2⟩ := rs _ List.mem_cons_self
    exact .cons (.tup z3 (.cons (.str _ (strF_is r1)) (.cons (.int _) (.cons (.lst z4 (at_strs' r2)) (.cons (.bl _) .nil))))) (ih fun q m => rs q (List.mem_cons_of_mem _ m))
/-! ### what a program tells -/
def spTel (CP : Addr) (tr : Pt → PyData) : Sp := fun vs H Q _ => ∃ (p : Addr) (g : Pt), vs = [.ref p] ∧ PgIn H CP p g ∧ GoodP g ∧ ∀ v H', Same H H' → At (off H H') v (tr g) → Q v H'
section
variable {P : Program} {w : World} {K : PySem.W.Frag} {mg : Str → Option Value} {base : Heap} {CP : Addr} {f : Addr} {fd : FuncData}
theorem m1 (F : Fun K "classes" "Program.classes" (inClass (top 37) 1) f fd) (U : NoP K CP) (C35 : Cal P w K mg base CX0 1 "copied_classes" ["classes"] spCopyCls) : FnOk P w K mg base CX0 2 f fd ["self"] (spTel CP fun g => clsD g.rows) := by
  refine F.ok scM1 (fun vs H Q E h => ?_) (fun cdv A outer s H vs Q E hr h => ?_)
  · obtain ⟨p, g, rfl, _⟩ := h
    rfl
  · obtain ⟨p, g, rfl, ⟨dx, a, b, c, d, e, i, hp, ha, hb, hc, hd, he, hi⟩, gd, k⟩ := h
    refine ⟨_, pss_one (ps_ret (pe_cal C35 hr (by decide) pass0 (pa_cons (pe_fld (pv 0) rfl) pa_nil))), ?_⟩
    refine ⟨_, rfl, p, CP, dx, _, _, rfl, hp, U.cl, U.n1, pg1 _ _ _ _ _ _ _, ?_⟩
    exact ⟨a, nul, g.rows, rfl, ha, gd.r6, gd.r3, fun q H' s' hq => k _ _ s' (cls_at hq.off gd.rs)⟩
theorem m2 (F : Fun K "body" "Program.body" (inClass (top 37) 2) f fd) (U : NoP K CP) (C22 : Cal P w K mg base CX0 5 "copied_block" ["block"] (spCopy 4)) : FnOk P w K mg base CX0 6 f fd ["self"] (spTel CP fun g => .list g.bs) := by
  refine F.ok scM2 (fun vs H Q E h => ?_) (fun cdv A outer s H vs Q E hr h => ?_)
  · obtain ⟨p, g, rfl, _⟩ := h
    rfl
  · obtain ⟨p, g, rfl, ⟨dx, a, b, c, d, e, i, hp, ha, hb, hc, hd, he, hi⟩, gd, k⟩ := h
    refine ⟨_, pss_one (ps_ret (pe_cal C22 hr (by decide) pass0 (pa_cons (pe_fld (pv 0) rfl) pa_nil))), ?_⟩
    refine ⟨_, rfl, p, CP, dx, _, _, rfl, hp, U.cl, U.n2, pg2 _ _ _ _ _ _ _, ?_⟩
    exact ⟨b, g.bs, rfl, hb, gd.bc, fun q H' s' a' => k _ H' s' a'⟩
theorem m3 (F : Fun K "variables" "Program.variables" (inClass (top 37) 3) f fd) (B : Blt mg) (U : NoP K CP) : FnOk P w K mg base CX0 1 f fd ["self"] (spTel CP fun g => strD g.ns) := by
  refine F.ok scM3 (fun vs H Q E h => ?_) (fun cdv A outer s H vs Q E hr h => ?_)
  · obtain ⟨p, g, rfl, _⟩ := h
    rfl
  · obtain ⟨p, g, rfl, ⟨dx, a, b, c, d, e, i, hp, ha, hb, hc, hd, he, hi⟩, gd, k⟩ := h
    refine ⟨_, pss_one (ps_ret (pe_callTy (r := rLof K) call_list_of rfl B.list PyProof.Rows.boot_list (pa_cons (pe_fld (pv 0) rfl) pa_nil))), ?_⟩
    refine ⟨_, rfl, p, CP, dx, _, _, rfl, hp, U.cl, U.n3, pg3 _ _ _ _ _ _ _, ?_⟩
    exact ⟨c, _, rfl, .inl (SqL.of hc), fun q hq => k _ _ (same_new (Same.refl _) hq) (.lst (off_of hq upd_same) (at_strs' gd.nS))⟩
theorem m4 (F : Fun K "weak" "Program.weak" (inClass (top 37) 4) f fd) (B : Blt mg) (U : NoP K CP) : FnOk P w K mg base CX0 1 f fd ["self"] (spTel CP fun g => strD g.ls) := by
  refine F.ok scM4 (fun vs H Q E h => ?_) (fun cdv A outer s H vs Q E hr h => ?_)
  · obtain ⟨p, g, rfl, _⟩ := h
    rfl
  · obtain ⟨p, g, rfl, ⟨dx, a, b, c, d, e, i, hp, ha, hb, hc, hd, he, hi⟩, gd, k⟩ := h
    refine ⟨_, pss_one (ps_ret (pe_callTy (r := rLof K) call_list_of rfl B.list PyProof.Rows.boot_list (pa_cons (pe_fld (pv 0) rfl) pa_nil))), ?_⟩
    refine ⟨_, rfl, p, CP, dx, _, _, rfl, hp, U.cl, U.n4, pg4 _ _ _ _ _ _ _, ?_⟩
    exact ⟨d, _, rfl, .inl (SqL.of hd), fun q hq => k _ _ (same_new (Same.refl _) hq) (.lst (off_of hq upd_same) (at_strs' gd.lS))⟩
theorem m5 (F : Fun K "threshold" "Program.threshold" (inClass (top 37) 5) f fd) (U : NoP K CP) : FnOk P w K mg base CX0 1 f fd ["self"] (spTel CP fun g => .int g.th) := by
  refine F.ok scM5 (fun vs H Q E h => ?_) (fun cdv A outer s H vs Q E hr h => ?_)
  · obtain ⟨p, g, rfl, _⟩ := h
    rfl
  · obtain ⟨p, g, rfl, ⟨dx, a, b, c, d, e, i, hp, ha, hb, hc, hd, he, hi⟩, gd, k⟩ := h
    refine ⟨_, pss_one (ps_ret (pe_fld (pv 0) rfl)), ?_⟩
    exact ⟨_, rfl, p, CP, dx, _, _, rfl, hp, U.cl, U.n5, pg5 _ _ _ _ _ _ _, k _ _ (Same.refl _) (.int _)⟩
theorem m6 (F : Fun K "radices" "Program.radices" (inClass (top 37) 6) f fd) (B : Blt mg) (U : NoP K CP) : FnOk P w K mg base CX0 1 f fd ["self"] (spTel CP fun g => intD g.ks) := by
  refine F.ok scM6 (fun vs H Q E h => ?_) (fun cdv A outer s H vs Q E hr h => ?_)
  · obtain ⟨p, g, rfl, _⟩ := h
    rfl
  · obtain ⟨p, g, rfl, ⟨dx, a, b, c, d, e, i, hp, ha, hb, hc, hd, he, hi⟩, gd, k⟩ := h
    refine ⟨_, pss_one (ps_ret (pe_callTy (r := rLof K) call_list_of rfl B.list PyProof.Rows.boot_list (pa_cons (pe_fld (pv 0) rfl) pa_nil))), ?_⟩
    refine ⟨_, rfl, p, CP, dx, _, _, rfl, hp, U.cl, U.n6, pg6 _ _ _ _ _ _ _, ?_⟩
    exact ⟨e, _, rfl, .inl (SqL.of he), fun q hq => k _ _ (same_new (Same.refl _) hq) (.lst (off_of hq upd_same) at_ints')⟩
theorem m7 (F : Fun K "functions" "Program.functions" (inClass (top 37) 7) f fd) (U : NoP K CP) (C36 : Cal P w K mg base CX0 6 "copied_functions" ["functions"] (spCpF 4)) : FnOk P w K mg base CX0 7 f fd ["self"] (spTel CP fun g => .list g.fs) := by
  refine F.ok scM7 (fun vs H Q E h => ?_) (fun cdv A outer s H vs Q E hr h => ?_)
  · obtain ⟨p, g, rfl, _⟩ := h
    rfl
  · obtain ⟨p, g, rfl, ⟨dx, a, b, c, d, e, i, hp, ha, hb, hc, hd, he, hi⟩, gd, k⟩ := h
    refine ⟨_, pss_one (ps_ret (pe_cal C36 hr (by decide) pass0 (pa_cons (pe_fld (pv 0) rfl) pa_nil))), ?_⟩
    refine ⟨_, rfl, p, CP, dx, _, _, rfl, hp, U.cl, U.n7, pg7 _ _ _ _ _ _ _, ?_⟩
    exact ⟨i, g.fs, rfl, hi, gd.f9, gd.fc, fun q H' s' a' => k _ H' s' a'⟩
end
/-- a method that tells a part, as its callers know it -/
structure Tel (P : Program) (w : World) (K : PySem.W.Frag) (mg : Str → Option Value) (base : Heap) (CP : Addr) (m : Str) (tr : Pt → PyData) : Prop where
  ex : ∃ (f : Addr) (fd : FuncData), Meth K CP m f ∧ FnOk P w K mg base CX0 7 f fd ["self"] (spTel CP tr) ∧ Binds K fd ["self"] []
section
variable {X : Cx} {CP : Addr} {j : Nat} {o : Expr} {ta : TE} {pos apos : Pos} {pl : Sem Bool} {m : Str} {tr : Pt → PyData}
theorem pe_tel (M : Tel X.prog X.w X.K X.mg X.base CP m tr) (c : Cls X.K CP) (hr : Room j X.A) (hj : 7 ≤ j) (he : PE X o ta)
    (hs : eval (.Call (.Attribute o m apos) [] [] pos) X.env = (do let ov ← eval o X.env; standAt apos.atName; let (f, first) ← holding [ov] (getMethod ov m pl); callWith pos f first (backTo pos (starEach [] X.env)) (backToKw pos (keywordEach [] X.env))) := by rfl) :
    PE X (.Call (.Attribute o m apos) [] [] pos) (tMeth CP m (spTel CP tr) [] E0 ta tNil) := by
  obtain ⟨f, fd, mt, F, b⟩ := M.ex
  exact pe_meth0 he c mt F (hr.mono hj) b .nil pass0 hs
end
theorem dt_tel {CP : Addr} {m : Str} {tr : Pt → PyData} {s : Nat} {p : Addr} {g : Pt} {σ : St} {H1 : Hp} (e : σ[s]? = some (some (.ref p))) (pg : PgIn H1 CP p g) (gd : GoodP g) (hm : ∀ a b c d e f g : V, (pgF a b c d e f g).lookup m = none) : ∀ H2, Same H1 H2 → ∀ Q : VK, (∀ v H3, Same H2 H3 → At (off H2 H3) v (tr g) → Q v H3) → tMeth CP m (spTel CP tr) [] E0 (tVar s) tNil σ H2 Q := fun H2 s2 Q k => by
  have pg2 := pg.mono s2
  obtain ⟨dx, a, b, c, d, f, i, hp, r⟩ := id pg2
  exact ⟨_, e, p, dx, _, rfl, hp, hm _ _ _ _ _ _ _, p, g, rfl, pg2, gd, k⟩
/-! ### == -/
def eqvP (g g' : Pt) : Bool := PyData.eqv (clsD g.rows) (clsD g'.rows) && (PyData.eqv (strD g.ns) (strD g'.ns) && (PyData.eqv (strD g.ls) (strD g'.ls) && (decide (g.th = g'.th) && (PyData.eqv (intD g.ks) (intD g'.ks) && (PyData.eqv (.list g.fs) (.list g'.fs) && PyData.eqv (.list g.bs) (.list g'.bs))))))
theorem GoodP.refl {g : Pt} (h : GoodP g) : eqvP g g = true := by
  unfold eqvP
  rw [(h.oc.up (by decide)).facts.2.2, (h.oN.up (by decide)).facts.2.2, (h.ol.up (by decide)).facts.2.2, (h.ok.up (by decide)).facts.2.2, (h.oF.up (by decide)).facts.2.2, (h.ob.up (by decide)).facts.2.2, decide_eq_true rfl]
  rfl
structure Isi5 (K : PySem.W.Frag) (CP : Addr) : Prop where
  cl : Cls K CP
  ha : PySem.W.findIn K (.ref CP) "__class__" = some (some (.builtin "object.__class__"))
  hn : PySem.W.specialIn K (.builtin "object.__class__") "__get__" = some (some (.builtin "getset_descriptor.__get__"))
  ht : PySem.W.takesIn K (.builtin "object.__class__") = some true
  hm : PySem.W.mroIn K CP (.type "object") = some true
  kit : PySem.W.kitOne K (.ref CP) (.ref CP) = some true
  kd : PySem.W.kitOne K (.type "dict") (.ref CP) = some false
  kl : PySem.W.kitOne K (.type "list") (.ref CP) = some false
def spEq5 (CP : Addr) : Sp := fun vs H Q _ => ∃ (p : Addr) (y : V) (g : Pt), vs = [.ref p, y] ∧ PgIn H CP p g ∧ GoodP g ∧
  ((∃ (q : Addr) (g' : Pt), y = .ref q ∧ PgIn H CP q g' ∧ GoodP g' ∧ Q (.bl (eqvP g g')) H) ∨ ((∃ q kvs, y = .ref q ∧ H q = some (.dK kvs)) ∨ ∃ q xs, y = .ref q ∧ H q = some (.lst xs)) ∧ Q (.bl false) H)
section
variable {P : Program} {w : World} {K : PySem.W.Frag} {mg : Str → Option Value} {base : Heap} {CP : Addr} {f : Addr} {fd : FuncData}
theorem scM8 : FnScope ["self", "other"] ["self", "other"] (defScope (inClass (top 37) 8)) := ⟨rfl, rfl, rfl, by decide +kernel, rfl, by decide +kernel, by decide +kernel⟩
theorem m8 (F : Fun K "__eq__" "Program.__eq__" (inClass (top 37) 8) f fd) (B : Blt mg) (gP : mg "Program" = some (.ref CP)) (U : NoP K CP) (I : Isi5 K CP) : FnOk P w K mg base CX0 1 f fd ["self", "other"] (spEq5 CP) := by
  refine F.ok scM8 (fun vs H Q E h => ?_) (fun cdv A outer s H vs Q E hr h => ?_)
  · obtain ⟨p, y, g, rfl, _⟩ := h
    rfl
  · obtain ⟨p, y, g, rfl, ⟨dx, a, b, c, d, e, i, hp, ha, hb, hc, hd, he, hi⟩, gd, k⟩ := h
    refine ⟨_, pss_one (ps_ret (pe_and (pe_callB call_isi rfl B.isinstance PyProof.Rows.boot_isinstance (pa_cons (pv 1) (pa_cons (pe_glob (v := .ref CP) rfl gP rfl) pa_nil)))
      (pe_and (pe_cmpR (op_eqD hr.units) (pe_fld (pv 0) rfl) (pe_fld (pv 1) rfl) (nomark _)) (pe_and (pe_cmpR (op_eqD hr.units) (pe_fld (pv 0) rfl) (pe_fld (pv 1) rfl) (nomark _)) (pe_and (pe_cmpR (op_eqD hr.units) (pe_fld (pv 0) rfl) (pe_fld (pv 1) rfl) (nomark _))
      (pe_and (pe_cmpR op_eq (pe_fld (pv 0) rfl) (pe_fld (pv 1) rfl) (nomark _)) (pe_and (pe_cmpR (op_eqD hr.units) (pe_fld (pv 0) rfl) (pe_fld (pv 1) rfl) (nomark _)) (pe_and (pe_cmpR (op_eqD hr.units) (pe_fld (pv 0) rfl) (pe_fld (pv 1) rfl) (nomark _)) (pe_one (pe_cmpR (op_eqD hr.units) (pe_fld (pv 0) rfl) (pe_fld (pv 1) rfl) (nomark _)))))))))))
      , ?_⟩
    rcases k with ⟨q, g', rfl, ⟨dx', a', b', c', d', e', i', hp', ha', hb', hc', hd', he', hi'⟩, gd', k⟩ | ⟨hy, k⟩
    · refine ⟨_, rfl, .ref q, .ref CP, .ref CP, .ref CP, true, rfl, .own CP, .base (.ins hp' I.cl I.ha I.hn I.ht I.hm), I.kit, _, rfl, ?_⟩
      refine iteT ?_
      have step : ∀ {d1 d2 : PyData} {v1 v2 : V} (o1 : OkD 60 d1) (o2 : OkD 60 d2), At H v1 d1 → At H v2 d2 → ∀ {R : VK}, R (.bl (PyData.eqv d1 d2)) H → rEqD K v1 v2 H R := fun {d1 d2 v1 v2} o1 o2 t1 t2 {R} q => by
        have f1 := (o1.up (show 60 ≤ 64 by decide)).facts
        have f2 := (o2.up (show 60 ≤ 64 by decide)).facts
        exact ⟨_, _, t1.dp f1.1, t2.dp f2.1, f1.2.1, f2.2.1, q⟩
      unfold eqvP at k
      refine ⟨_, rfl, p, CP, dx, _, _, rfl, hp, U.cl, U.n1, pg1 _ _ _ _ _ _ _, _, rfl, q, CP, dx', _, _, rfl, hp', U.cl, U.n1, pg1 _ _ _ _ _ _ _, step gd.oc gd'.oc (cls_at ha gd.rs) (cls_at ha' gd'.rs) ⟨_, rfl, ?_⟩⟩
      refine ite2 (fun c1 => ?_) (fun c1 => by rw [Bool.eq_false_iff.mpr c1, Bool.false_and] at k; exact k)
      rw [c1, Bool.true_and] at k
      refine ⟨_, rfl, p, CP, dx, _, _, rfl, hp, U.cl, U.n3, pg3 _ _ _ _ _ _ _, _, rfl, q, CP, dx', _, _, rfl, hp', U.cl, U.n3, pg3 _ _ _ _ _ _ _, step gd.oN gd'.oN (.lst hc (at_strs' gd.nS)) (.lst hc' (at_strs' gd'.nS)) ⟨_, rfl, ?_⟩⟩
      refine ite2 (fun c1 => ?_) (fun c1 => by rw [Bool.eq_false_iff.mpr c1, Bool.false_and] at k; exact k)
      rw [c1, Bool.true_and] at k
      refine ⟨_, rfl, p, CP, dx, _, _, rfl, hp, U.cl, U.n4, pg4 _ _ _ _ _ _ _, _, rfl, q, CP, dx', _, _, rfl, hp', U.cl, U.n4, pg4 _ _ _ _ _ _ _, step gd.ol gd'.ol (.lst hd (at_strs' gd.lS)) (.lst hd' (at_strs' gd'.lS)) ⟨_, rfl, ?_⟩⟩
      refine ite2 (fun c1 => ?_) (fun c1 => by rw [Bool.eq_false_iff.mpr c1, Bool.false_and] at k; exact k)
      rw [c1, Bool.true_and] at k
      refine ⟨_, rfl, p, CP, dx, _, _, rfl, hp, U.cl, U.n5, pg5 _ _ _ _ _ _ _, _, rfl, q, CP, dx', _, _, rfl, hp', U.cl, U.n5, pg5 _ _ _ _ _ _ _, rfl, _, rfl, ?_⟩
      rw [show decide (V.int g.th = V.int g'.th) = decide (g.th = g'.th) from by
        by_cases c : g.th = g'.th
        · rw [c, decide_eq_true rfl, decide_eq_true rfl]
        · rw [decide_eq_false c, decide_eq_false (fun z => c (V.int.inj z))]]
      refine ite2 (fun c1 => ?_) (fun c1 => by rw [Bool.eq_false_iff.mpr c1, Bool.false_and] at k; exact k)
      rw [c1, Bool.true_and] at k
      refine ⟨_, rfl, p, CP, dx, _, _, rfl, hp, U.cl, U.n6, pg6 _ _ _ _ _ _ _, _, rfl, q, CP, dx', _, _, rfl, hp', U.cl, U.n6, pg6 _ _ _ _ _ _ _, step gd.ok gd'.ok (.lst he at_ints') (.lst he' at_ints') ⟨_, rfl, ?_⟩⟩
      refine ite2 (fun c1 => ?_) (fun c1 => by rw [Bool.eq_false_iff.mpr c1, Bool.false_and] at k; exact k)
      rw [c1, Bool.true_and] at k
      refine ⟨_, rfl, p, CP, dx, _, _, rfl, hp, U.cl, U.n7, pg7 _ _ _ _ _ _ _, _, rfl, q, CP, dx', _, _, rfl, hp', U.cl, U.n7, pg7 _ _ _ _ _ _ _, step gd.oF gd'.oF hi hi' ⟨_, rfl, ?_⟩⟩
      refine ite2 (fun c1 => ?_) (fun c1 => by rw [Bool.eq_false_iff.mpr c1, Bool.false_and] at k; exact k)
      rw [c1, Bool.true_and] at k
      exact ⟨_, rfl, p, CP, dx, _, _, rfl, hp, U.cl, U.n2, pg2 _ _ _ _ _ _ _, _, rfl, q, CP, dx', _, _, rfl, hp', U.cl, U.n2, pg2 _ _ _ _ _ _ _, step gd.ob gd'.ob hb hb' k⟩
    · rcases hy with ⟨q, kvs, rfl, hq⟩ | ⟨q, xs, rfl, hq⟩
      · refine ⟨_, rfl, .ref q, .ref CP, _, .ref CP, false, rfl, .own CP, .base (.dK hq), I.kd, _, rfl, ?_⟩
        exact iteF k
      · refine ⟨_, rfl, .ref q, .ref CP, _, .ref CP, false, rfl, .own CP, .base (.lst hq), I.kl, _, rfl, ?_⟩
        exact iteF k
end
end K1

set_option Elab.async false
set_option linter.all false
set_option maxRecDepth 100000
set_option maxHeartbeats 8000000
namespace L2
open PySem PySem.Spec PyProof.Rows
section
variable {X : Cx} {CX : CXT} {k n : Nat} {f C : Addr} {fd : FuncData} {ps ks : List Str} {sp : Sp} {E : St → XK} {x : Str} {p pos : Pos} {e : Expr} {es : List Expr} {kws : List Keyword} {t tk : TA} {g : List Value → List Value → List Value} {gV : List V → List V → List V}
/-- C(e, .., k = v, ..): what is raised is wished for at the slots -/
def tMkS (C : Addr) (n m : Nat) (sp : Sp) (gV : List V → List V → List V) (E : St → XK) (t tk : TA) : TE := fun σ H Q => tMakeK C n m sp gV (E σ) t tk σ H Q
theorem pe_mkS (M : Mk X.K C f) (F : FnOk X.prog X.w X.K X.mg X.base CX k f fd ps sp) (hr : Room (k + 1) X.A) (hg : Gl X x) (hm : X.mg x = some (.ref C)) (hb : KBn X.K fd ps (n + 1) ks g gV) (px : ∀ σ, PassesAt CX X σ (E σ)) (ha : PA X (e :: es) t) (hkw : PK X kws tk)
    (hall : (backToKw pos (keywordEach kws X.env)).all (·.1.isSome) = true := by rfl) (hks : (backToKw pos (keywordEach kws X.env)).filterMap (·.1) = ks := by rfl) (hdb : (x == ("__debug__" : Str)) = false := by decide)
    (he : starEach (e :: es) X.env = (false, eval e X.env) :: starEach es X.env := by rfl) (hpl : ((backTo pos (starEach (e :: es) X.env)).any (·.1) || (backToKw pos (keywordEach kws X.env)).any (·.1.isNone)) = false := by rfl) :
    PE X (.Call (.Name x p) (e :: es) kws pos) (tMkS C n ks.length sp gV E t tk) := by
  refine ⟨fun pins s σ H Q I h => wpAny_Call_Name_kw (ld_glob I hg hm (PySem.W.callWith_KW (h₀ := X.base) I.ok.mod.kin M.kp hall (thn (ha.run pos pins s σ H _ I h) fun us s1 ⟨vs, H1, I1, r, q⟩ => ?_) hpl he) hdb)⟩
  refine thn (hkw.run pos pins s1 σ H1 _ I1 q) fun ws s2 ⟨zs, H2, I2, rz, l1, l2, hyp⟩ => ⟨I2.kIn, ?_⟩
  rw [hks]
  have fresh := hyp (s2.heap.objs.size + 1) s2.heap.objs.size (I2.hok.fresh (Nat.le_succ _)) (I2.hok.fresh (Nat.le_refl _)) (Nat.ne_of_lt (Nat.lt_succ_self _))
  have I3 := Inv.made (C := C) I2
  have rv : Vals (V.ref (s2.heap.objs.size + 1) :: vs) (Value.ref (s2.heap.objs.size + 1) :: us) := .cons rfl r
  have len : (Value.ref (s2.heap.objs.size + 1) :: us).length = n + 1 := by
    rw [List.length_cons, ← r.length, l1]
  refine wpAny_call (make_map (f := f) I2.kIn M.makes M.init (beq_iff_eq.mp M.fn) (codeAny_mono (F.run _ X.stack _ _ ⟨Value.ref (s2.heap.objs.size + 1) :: us, ks.zip ws⟩ (g (Value.ref (s2.heap.objs.size + 1) :: us) ws) _ _ (E σ) (hr.make C us (ks.zip ws))
    (I3.env0.make C us (ks.zip ws)) (hb.to _ (Value.ref (s2.heap.objs.size + 1) :: us) ws I3.kIn len (rz.length.symm.trans l2)) (hb.rel rv rz) fresh) fun res st hres => ?_))
  cases res with
  | error e => exact px σ pins _ _ e st I3 hres
  | ok fl =>
    cases fl with
    | ret u =>
      obtain ⟨v, Hv, I4, rl, ev, q4⟩ := I3.after hres
      subst ev
      exact ⟨rl, ⟨V.ref (s2.heap.objs.size + 1), Hv, I4, rfl, q4⟩⟩
    | next => exact False.elim hres
    | brk => exact False.elim hres
    | cont => exact False.elim hres
end
end L2
namespace K1
open PySem L2
section
variable {P : Program} {w : World} {K : PySem.W.Frag} {mg : Str → Option Value} {base : Heap} {C CP : Addr}
abbrev kwP : List Str := ["variables", "weak", "threshold", "radices", "functions"]
theorem kb_pr {f : Addr} {fd : FuncData} (F : Fun K "__init__" "Program.__init__" sPrI f fd) : KBn K fd prP 3 kwP (fun us ws => us ++ ws) (fun vs zs => vs ++ zs) := by
  obtain ⟨oc, od, kV, doc, pm, an, cdv, ct, osl, rfl, lk, hcd⟩ := F.ex
  refine ⟨fun s us ws X l1 l2 => BindsTo.of_looks fun M => PySem.W.Looks.of_pure ?_, fun r1 r2 => r1.append r2⟩
  match us, l1, ws, l2 with
  | [_, _, _], _, [_, _, _, _, _], _ => rfl
/-- the class Program as its makers know it -/
structure PrmN (P : Program) (w : World) (K : PySem.W.Frag) (mg : Str → Option Value) (base : Heap) (C CP : Addr) (kk N : Nat) : Prop where
  ex : ∃ (f : Addr) (fd : FuncData), Mk K CP f ∧ FnOk P w K mg base (L2.CX P w) (N + 1) f fd prP (spPr2 C CP kk) ∧ KBn K fd prP 3 kwP (fun us ws => us ++ ws) (fun vs zs => vs ++ zs)
  g : mg "Program" = some (.ref CP)
theorem Prog2.off {H H1 Hx : Hp} {p : Addr} {rows : List Row} {ns ls : List Str} {th : Int} {ks : List Int} {bs fs : List PyData} (g : Prog2 H1 Hx CP p rows ns ls th ks bs fs) (of : ∀ b, H1 b = none → H b = none) : Prog2 H Hx CP p rows ns ls th ks bs fs := by
  obtain ⟨dx, a, b, c, d, f, g, hp, ca, cb, cc, cd, cf, cg⟩ := g
  exact ⟨dx, a, b, c, d, f, g, hp, ca.base of, At.mono (off_dom of) cb, ⟨of _ cc.1, cc.2⟩, ⟨of _ cd.1, cd.2⟩, ⟨of _ cf.1, cf.2⟩, At.mono (off_dom of) cg⟩
theorem mk_rd {n m : Nat} {sp : Sp} {gV : List V → List V → List V} {E : St → XK} {t tk : TA} {σ : St} {H : Hp} {D : Ends} {CC : Addr} (h : t σ H fun vs H1 => tk σ H1 fun zs H2 => vs.length = n ∧ zs.length = m ∧ ∀ x dx, H2 x = none → H2 dx = none → dx ≠ x →
    sp (gV (.ref x :: vs) zs) (upd (upd H2 dx (.own x)) x (.ins CC dx [])) (fun v H3 => v = .non ∧ D.rt (.ref x) H3) (E σ)) : tRet (tMkS CC n m sp gV E t tk) D σ H := h
theorem passF {X : Cx} {σ : St} : PassesAt (L2.CX X.prog X.w) X σ E0 := fun _ _ _ _ _ _ h => by
  obtain ⟨_, _, _, _, _, _, _, _, _, _, _, _, h⟩ := h
  exact h.elim
/-! ### the parts of a program in a dict -/
def PaAt (H : Hp) (a : Addr) (g : Pt) : Prop := ∃ (kvs : List (Key × V)) (c b n l r f : V), H a = some (.dK kvs) ∧ kvs.length ≤ 200 ∧ (valV kvs (Sum.inr ("classes" : Str)) = some c ∧ At H c (clsD g.rows)) ∧ (valV kvs (Sum.inr ("body" : Str)) = some b ∧ At H b (.list g.bs)) ∧ (valV kvs (Sum.inr ("variables" : Str)) = some n ∧ At H n (strD g.ns)) ∧
  (valV kvs (Sum.inr ("weak" : Str)) = some l ∧ At H l (strD g.ls)) ∧ valV kvs (Sum.inr ("threshold" : Str)) = some (.int g.th) ∧ (valV kvs (Sum.inr ("radices" : Str)) = some r ∧ At H r (intD g.ks)) ∧ (valV kvs (Sum.inr ("functions" : Str)) = some f ∧ At H f (.list g.fs))
theorem PaAt.mono {H H' : Hp} {a : Addr} {g : Pt} (h : PaAt H a g) (s : Same H H') : PaAt H' a g := by
  obtain ⟨kvs, c, b, n, l, r, f, h0, hl, h1, h2, h3, h4, h5, h6, h7⟩ := h
  exact ⟨kvs, c, b, n, l, r, f, s _ _ h0, hl, ⟨h1.1, h1.2.mono s⟩, ⟨h2.1, h2.2.mono s⟩, ⟨h3.1, h3.2.mono s⟩, ⟨h4.1, h4.2.mono s⟩, h5, ⟨h6.1, h6.2.mono s⟩, ⟨h7.1, h7.2.mono s⟩⟩
structure MadeP (g : Pt) : Prop where
  pa : Parts g.rows g.ns g.ls g.th g.ks
  sh : shortT (.list g.fs) = true
  em : progT 4 400 g.rows g.ns g.ls g.ks (.list g.bs) (.list g.fs) = some .ok
def spPrg (CP : Addr) : Sp := fun vs H Q _ => ∃ (a : Addr) (g : Pt), vs = [.ref a] ∧ PaAt H a g ∧ MadeP g ∧ ∀ p H', Same H H' → H p = none → PgIn (off H H') CP p g → Q (.ref p) H'
theorem dg_some {H : Hp} {a : Addr} {kvs : List (Key × V)} {s : Str} {v : V} (h : H a = some (.dK kvs)) (e : valV kvs (Sum.inr s) = some v) : DGet H a (.str s) (some v) := by
  rw [← e]
  exact DGet.k (k := Sum.inr s) h
theorem sc42 : FnScope ["_law_parts", "_law_body"] ["_law_parts"] (defScope (top 42)) := ⟨rfl, rfl, rfl, by decide +kernel, rfl, by decide +kernel, by decide +kernel⟩
theorem ok42 {f : Addr} {fd : FuncData} {N : Nat} (F : Fun K "_law_program" "_law_program" (top 42) f fd) (M : PrmN P w K mg base C CP 4 N) : FnOk P w K mg base CX0 (N + 3) f fd ["_law_parts"] (spPrg CP) := by
  refine F.ok sc42 (fun vs H Q E h => ?_) (fun cdv A outer s H vs Q E hr h => ?_)
  · obtain ⟨a, g, rfl, _⟩ := h
    rfl
  · obtain ⟨a, g, rfl, ⟨kvs, c, b, n, l, r, fv, h0, hlen, h1, h2, h3, h4, h5, h6, h7⟩, md, k⟩ := h
    obtain ⟨fI, fdI, mk, G, kb⟩ := M.ex
    have hu := hu_of hr
    refine ⟨_, pss_mid (ps_set (i := 1) sc42.nd rfl (Or.inl rfl) (pe_dget hu (pv 0) pe_str (fun _ _ => rfl)))
      (pss_one (ps_ret (pe_mkS mk G hr rfl M.g kb (fun σ => passF) (pa_cons (pe_dget hu (pv 0) pe_str (fun _ _ => rfl)) (pa_cons (pv 1) pa_nil))
        (pk_cons (pe_dget hu (pv 0) pe_str (fun _ _ => rfl)) (pk_cons (pe_dget hu (pv 0) pe_str (fun _ _ => rfl)) (pk_cons (pe_dget hu (pv 0) pe_str (fun _ _ => rfl)) (pk_cons (pe_dget hu (pv 0) pe_str (fun _ _ => rfl)) (pk_cons (pe_dget hu (pv 0) pe_str (fun _ _ => rfl)) pk_nil)))))))), ?_⟩
    refine ⟨fun σ H1 => σ = [some (.ref a), some b] ∧ H1 = H, ⟨_, rfl, a, _, rfl, dg_some h0 h2.1, rfl, rfl⟩, ?_⟩
    rintro σ H1 ⟨rfl, rfl⟩
    refine mk_rd ⟨_, rfl, a, _, rfl, dg_some h0 h1.1, _, rfl, ?_⟩
    refine ⟨_, rfl, a, _, rfl, dg_some h0 h3.1, _, rfl, a, _, rfl, dg_some h0 h4.1, _, rfl, a, _, rfl, dg_some h0 h5, _, rfl, a, _, rfl, dg_some h0 h6.1, _, rfl, a, _, rfl, dg_some h0 h7.1, rfl, rfl, fun x dx nx ndx ne => ?_⟩
    have s3 := same_new (o := .own x) (Same.refl H1) ndx
    have nx' : (upd H1 dx (.own x)) x = none := by
      rw [upd_ne ne.symm]
      exact nx
    have s4 := same_new (o := .ins CP dx []) s3 nx'
    have s5 := s4
    have hc := h1.2.mono s5
    have hb := h2.2.mono s5
    have hn := h3.2.mono s5
    have hl := h4.2.mono s5
    have hrr := h6.2.mono s5
    have hf := h7.2.mono s5
    have ef := faultG hc hn hl hrr md.pa
    refine ⟨x, dx, _, _, _, _, _, _, _, _, _, 400, rfl, upd_same, hc.dat, hn.dat, hl.dat, .int g.th, hrr.dat, hb, hf, by decide, fun part at_ e => ?_, fun _ rows ns ls th ks fine => ?_⟩
    · rw [ef] at e
      cases e
    obtain ⟨rfl, rfl, rfl, rfl, rfl⟩ := fineG fine hc hn hl hrr
    refine rest_rd md.em md.sh (fun part b e => by cases e) fun e bs ds eb ed H' pg kp => ?_
    cases eb
    cases ed
    have ndx0 : H1 dx = none := ndx
    refine ⟨rfl, k x H' (fun b o z => kp b o (s5 _ _ z) (fun q => by rw [q, none_of' s3 nx'] at z; cases z)) (none_of' s3 nx') ?_⟩
    have pg0 := pg.off (H := H1) fun b hb => none_of' s4 hb
    exact PgIn.of pg0 (none_of' s3 nx')
end
end K1

set_option Elab.async false
set_option linter.all false
set_option maxRecDepth 100000
set_option maxHeartbeats 8000000
namespace K1
open PySem L2
/-! ### picks by digits -/
section
variable {L : List Addr} {σ : St} {H1 : Hp} {t u : TE} {d e : PyData} {ds es : List PyData} {K : PySem.W.Frag} {v : V} {i j : Int}
theorem dg_int {xs : List Int} {j m : Nat} : xs.getD j 0 % (m : Int) = ((dgN xs j m : Nat) : Int) ∨ m = 0 := by
  by_cases h : m = 0
  · exact .inr h
  · left
    unfold dgN
    rw [Int.toNat_of_nonneg (Int.emod_nonneg _ (by omega))]
theorem dg_is {xs : List Int} {j m : Nat} (h : 0 < m) : xs.getD j 0 % (m : Int) = ((dgN xs j m : Nat) : Int) := by
  rcases dg_int (xs := xs) (j := j) (m := m) with h' | h'
  · exact h'
  · omega
theorem ve_dm {s j n : Nat} {m : Int} {dg : Addr} {xs : List Int} (e : σ[s]? = some (some (.ref dg))) (h : H1 dg = some (.lst (xs.map V.int))) (hl : xs.length = n) (hj : j < n) (ij : i = (j : Int)) (m0 : 0 < m) :
    VE (tOp (rI (fun _ j => 0 < j) fun i j => V.int (i % j)) (tDg K s i) (tC (.int m))) (.int (xs.getD j 0 % m)) σ H1 := ve_mod (ve_dg e h (dg_get hl j hj) ij) ve_int m0
theorem dt_pick {xs : List Int} {j m : Nat} (h : DT L t (.list ds) σ H1) (r : VE u (.int (xs.getD j 0 % (m : Int))) σ H1) (hl : ds.length = m) (m0 : 0 < m) : DT L (tOp (rIxL K) t u) (pick ds (dgN xs j m)) σ H1 :=
  dt_ixL h r (getD_some (by rw [hl]; exact dgN_lt xs j m0)) (dg_is m0)
theorem dt_bool {b : Bool} (h : VE t (.bl b) σ H1) : DT L t (.bool b) σ H1 := dt_v h fun _ _ => .bl b
theorem ve_eqI (h : VE t (.int i) σ H1) (r : VE u (.int j) σ H1) : VE (tOp rEq t u) (.bl (decide (i = j))) σ H1 := fun H2 s Q q => h H2 s _ (r H2 s _ ⟨rfl, by
  rw [show decide (V.int i = V.int j) = decide (i = j) from by
    by_cases c : i = j
    · rw [c, decide_eq_true rfl, decide_eq_true rfl]
    · rw [decide_eq_false c, decide_eq_false (fun z => c (V.int.inj z))]]
  exact q⟩)
theorem ret_dt {D : Ends} (h : DT [] t d σ H1) (k : ∀ v H', Same H1 H' → At H' v d → D.rt v H') : tRet t D σ H1 := h H1 (Same.refl _) _ fun v H3 s3 a => k v H3 s3 (by rw [hid_nil] at a; exact a)
end
structure Blt5 (mg : Str → Option Value) : Prop where
  dict : mg "dict" = none
section
variable {P : Program} {w : World} {K : PySem.W.Frag} {mg : Str → Option Value} {base : Heap} {CP : Addr} {f : Addr} {fd : FuncData}
/-! ### _law_all -/
def allD (g : Pt) : List PyData := [clsD g.rows, .list g.bs, strD g.ns, strD g.ls, .int g.th, intD g.ks, .list g.fs]
def spAll (CP : Addr) : Sp := fun vs H Q _ => ∃ (p : Addr) (g : Pt), vs = [.ref p] ∧ PgIn H CP p g ∧ GoodP g ∧ ∀ q Hm us, Same H Hm → AtAll (off H Hm) us (allD g) → Hm q = none → Q (.ref q) (upd Hm q (.lst us))
theorem sc43 : FnScope ["_law_program_here"] ["_law_program_here"] (defScope (top 43)) := ⟨rfl, rfl, rfl, by decide +kernel, rfl, by decide +kernel, by decide +kernel⟩
theorem ok43 (F : Fun K "_law_all" "_law_all" (top 43) f fd) (cl : Cls K CP) (T1 : Tel P w K mg base CP "classes" fun g => clsD g.rows) (T2 : Tel P w K mg base CP "body" fun g => .list g.bs) (T3 : Tel P w K mg base CP "variables" fun g => strD g.ns) (T4 : Tel P w K mg base CP "weak" fun g => strD g.ls)
    (T5 : Tel P w K mg base CP "threshold" fun g => .int g.th) (T6 : Tel P w K mg base CP "radices" fun g => intD g.ks) (T7 : Tel P w K mg base CP "functions" fun g => .list g.fs) : FnOk P w K mg base CX0 8 f fd ["_law_program_here"] (spAll CP) := by
  refine F.ok sc43 (fun vs H Q E h => ?_) (fun cdv A outer s H vs Q E hr h => ?_)
  · obtain ⟨p, g, rfl, _⟩ := h
    rfl
  · obtain ⟨p, g, rfl, pg, gd, k⟩ := h
    refine ⟨_, (pss_one (ps_ret (pe_lst (pa_cons (pe_tel T1 cl hr (by decide) (pv 0)) (pa_cons (pe_tel T2 cl hr (by decide) (pv 0)) (pa_cons (pe_tel T3 cl hr (by decide) (pv 0)) (pa_cons (pe_tel T4 cl hr (by decide) (pv 0)) (pa_cons (pe_tel T5 cl hr (by decide) (pv 0)) (pa_cons (pe_tel T6 cl hr (by decide) (pv 0)) (pa_cons (pe_tel T7 cl hr (by decide) (pv 0)) pa_nil)))))))))), ?_⟩
    have no := fun (m : Str) (h : ([("_classes" : Str), "_body", "_variables", "_weak", "_threshold", "_radices", "_functions"].all fun x => decide (¬ m = x)) = true) (a b c d e f g : V) => show (pgF a b c d e f g).lookup m = none from by
      simp only [List.all_cons, List.all_nil, Bool.and_true, Bool.and_eq_true, decide_eq_true_eq] at h
      obtain ⟨h1, h2, h3, h4, h5, h6, h7⟩ := h
      exact pg_no a b c d e f g h1 h2 h3 h4 h5 h6 h7
    exact lst_new (dl_cons (dt_tel rfl pg gd (no _ (by decide +kernel))) (dl_cons (dt_tel rfl pg gd (no _ (by decide +kernel))) (dl_cons (dt_tel rfl pg gd (no _ (by decide +kernel))) (dl_cons (dt_tel rfl pg gd (no _ (by decide +kernel))) (dl_cons (dt_tel rfl pg gd (no _ (by decide +kernel))) (dl_cons (dt_tel rfl pg gd (no _ (by decide +kernel))) (dl_cons (dt_tel rfl pg gd (no _ (by decide +kernel))) dl_nil))))))) (by show 7 ≤ sizeLine; decide) fun l us Hm sm as nl => k l Hm us sm as nl
/-! ### _law_module -/
def spMod : Sp := fun vs H Q _ => ∃ (dg : Addr) (e : List Int), vs = [.ref dg] ∧ H dg = some (.lst (e.map V.int)) ∧ e.length = 4 ∧ ∀ v H', Same H H' → At H' v (.list (modT e)) → Q v H'
theorem sc40 : FnScope ["_law_digits_here", "_law_one", "_law_other", "_law_kind", "_law_way", "_law_cycle", "_law_held", "_law_change", "_law_first"] ["_law_digits_here"] (defScope (top 40)) := ⟨rfl, rfl, rfl, by decide +kernel, rfl, by decide +kernel, by decide +kernel⟩
theorem both_is {a : Nat} (h : a < 2) : [PyData.list [.str "x", .str "y"], .list [.str "y", .str "x"]].getD a .none = .list [oneD a, othD a] := by
  match a, h with
  | 0, _ => rfl
  | 1, _ => rfl
theorem ok40 (F : Fun K "_law_module" "_law_module" (top 40) f fd) (B : Blt mg) : FnOk P w K mg base CX0 1 f fd ["_law_digits_here"] spMod := by
  refine F.ok sc40 (fun vs H Q E h => ?_) (fun cdv A outer s H vs Q E hr h => ?_)
  · obtain ⟨dg, e, rfl, _⟩ := h
    rfl
  · obtain ⟨dg, e, rfl, hdg0, hln, k⟩ := h
    refine ⟨_, (pss_mid (ps_asg (pe_ix ix_tup (pe_tup (pa_cons (pe_lst (pa_cons pe_str (pa_cons pe_str pa_nil))) (pa_cons (pe_lst (pa_cons pe_str (pa_cons pe_str pa_nil))) pa_nil))) (pe_op op_mod (pe_callTy call_int1 rfl B.int PyProof.Rows.boot_int (pa_cons (pe_ix ix_list (pv 0) pe_int (fun _ _ => rfl)) pa_nil)) pe_int) (fun _ _ => rfl)) (pg_unl rfl (pgs_cons (pg_name (i := 1) sc40.nd rfl (Or.inl rfl)) (pgs_cons (pg_name (i := 2) sc40.nd rfl (Or.inl rfl)) pgs_nil))))
      (pss_mid (ps_set (i := 3) sc40.nd rfl (Or.inl rfl) (pe_ix ix_list (pe_lst (pa_cons pe_str (pa_cons pe_str (pa_cons pe_str pa_nil)))) (pe_op op_mod (pe_callTy call_int1 rfl B.int PyProof.Rows.boot_int (pa_cons (pe_ix ix_list (pv 0) pe_int (fun _ _ => rfl)) pa_nil)) pe_int) (fun _ _ => rfl)))
      (pss_mid (ps_set (i := 4) sc40.nd rfl (Or.inl rfl) (pe_op op_mod (pe_callTy call_int1 rfl B.int PyProof.Rows.boot_int (pa_cons (pe_ix ix_list (pv 0) pe_int (fun _ _ => rfl)) pa_nil)) pe_int))
      (pss_mid (ps_if (pt_cmpR op_eq (pv 4) pe_int (nomark _)) (pss_one (ps_ret (pe_lst (pa_cons (pe_tup (pa_cons pe_str (pa_cons pe_str (pa_cons (pv 3) pa_nil)))) (pa_cons (pe_tup (pa_cons pe_str (pa_cons (pv 1) (pa_cons (pv 2) pa_nil)))) (pa_cons (pe_tup (pa_cons pe_str (pa_cons (pv 2) (pa_cons pe_str pa_nil)))) (pa_cons (pe_tup (pa_cons pe_str (pa_cons pe_str pa_nil))) pa_nil))))))) pss_nil)
      (pss_mid (ps_if (pt_cmpR op_eq (pv 4) pe_int (nomark _)) (pss_mid (ps_set (i := 5) sc40.nd rfl (Or.inl rfl) (pe_lst (pa_cons (pe_tup (pa_cons pe_str (pa_cons pe_str (pa_cons pe_str pa_nil)))) (pa_cons (pe_tup (pa_cons pe_str (pa_cons pe_str (pa_cons pe_str pa_nil)))) (pa_cons (pe_tup (pa_cons pe_str (pa_cons pe_str (pa_cons pe_str (pa_cons pe_str pa_nil))))) pa_nil)))))
      (pss_one (ps_ret (pe_op op_cat (pv 5) (pe_lst (pa_cons (pe_tup (pa_cons pe_str (pa_cons pe_str (pa_cons pe_str (pa_cons pe_str pa_nil))))) (pa_cons (pe_tup (pa_cons pe_str (pa_cons pe_str pa_nil))) (pa_cons (pe_tup (pa_cons pe_str (pa_cons pe_str pa_nil))) pa_nil)))))))) pss_nil)
      (pss_mid (ps_if (pt_cmpR op_eq (pv 4) pe_int (nomark _)) (pss_one (ps_ret (pe_lst (pa_cons (pe_tup (pa_cons pe_str (pa_cons pe_str (pa_cons (pv 1) pa_nil)))) (pa_cons (pe_tup (pa_cons pe_str (pa_cons (pv 1) (pa_cons (pv 2) pa_nil)))) (pa_cons (pe_tup (pa_cons pe_str (pa_cons (pv 2) (pa_cons pe_str pa_nil)))) (pa_cons (pe_tup (pa_cons pe_str (pa_cons pe_str pa_nil))) pa_nil))))))) pss_nil)
      (pss_mid (ps_if (pt_cmpR op_eq (pv 4) pe_int (nomark _)) (pss_one (ps_ret (pe_lst (pa_cons (pe_tup (pa_cons pe_str (pa_cons (pv 1) (pa_cons (pv 3) pa_nil)))) (pa_cons (pe_tup (pa_cons pe_str (pa_cons (pv 1) pa_nil))) pa_nil))))) pss_nil)
      (pss_mid (ps_if (pt_cmpR op_eq (pv 4) pe_int (nomark _)) (pss_mid (ps_set (i := 6) sc40.nd rfl (Or.inl rfl) (pe_lst (pa_cons (pe_tup (pa_cons pe_str (pa_cons (pe_ix ix_list (pe_lst (pa_cons pe_str (pa_cons pe_str pa_nil))) (pe_op op_mod (pe_callTy call_int1 rfl B.int PyProof.Rows.boot_int (pa_cons (pe_ix ix_list (pv 0) pe_int (fun _ _ => rfl)) pa_nil)) pe_int) (fun _ _ => rfl)) (pa_cons (pv 1) pa_nil)))) (pa_cons (pe_tup (pa_cons pe_str (pa_cons pe_str (pa_cons (pv 1) pa_nil)))) (pa_cons (pe_tup (pa_cons pe_str (pa_cons (pv 1) (pa_cons (pv 3) pa_nil)))) pa_nil)))))
      (pss_one (ps_ret (pe_op op_cat (pv 6) (pe_lst (pa_cons (pe_tup (pa_cons pe_str (pa_cons pe_str (pa_cons (pe_ix ix_list (pe_lst (pa_cons pe_str (pa_cons pe_str (pa_cons pe_str pa_nil)))) (pe_op op_mod (pe_callTy call_int1 rfl B.int PyProof.Rows.boot_int (pa_cons (pe_ix ix_list (pv 0) pe_int (fun _ _ => rfl)) pa_nil)) pe_int) (fun _ _ => rfl)) pa_nil)))) (pa_cons (pe_tup (pa_cons pe_str (pa_cons pe_str pa_nil))) (pa_cons (pe_tup (pa_cons pe_str (pa_cons pe_str pa_nil))) pa_nil)))))))) pss_nil)
      (pss_mid (ps_if (pt_cmpR op_eq (pv 4) pe_int (nomark _)) (pss_one (ps_ret (pe_lst (pa_cons (pe_tup (pa_cons pe_str (pa_cons (pv 1) (pa_cons pe_str (pa_cons (pe_lst (pa_cons (pv 2) pa_nil)) pa_nil))))) pa_nil)))) pss_nil)
      (pss_mid (ps_if (pt_cmpR op_eq (pv 4) pe_int (nomark _)) (pss_mid (ps_set (i := 7) sc40.nd rfl (Or.inl rfl) (pe_lst (pa_cons (pe_tup (pa_cons pe_str (pa_cons (pv 1) (pa_cons (pe_ix ix_list (pe_lst (pa_cons pe_str (pa_cons pe_str pa_nil))) (pe_op op_mod (pe_callTy call_int1 rfl B.int PyProof.Rows.boot_int (pa_cons (pe_ix ix_list (pv 0) pe_int (fun _ _ => rfl)) pa_nil)) pe_int) (fun _ _ => rfl)) pa_nil)))) pa_nil)))
      (pss_mid (ps_set (i := 8) sc40.nd rfl (Or.inl rfl) (pe_tup (pa_cons pe_str (pa_cons (pv 1) (pa_cons (pv 2) (pa_cons (pe_lst (pa_cons (pe_tup (pa_cons pe_str (pa_cons (pv 1) pa_nil))) pa_nil)) (pa_cons (pv 7) pa_nil)))))))
      (pss_one (ps_ret (pe_lst (pa_cons (pv 8) (pa_cons (pe_tup (pa_cons pe_str (pa_cons (pv 1) (pa_cons (pe_lst (pa_cons (pe_tup (pa_cons pe_str (pa_cons (pv 1) (pa_cons pe_str pa_nil)))) pa_nil)) (pa_cons (pe_lst pa_nil) pa_nil))))) pa_nil))))))) pss_nil)
      (pss_mid (ps_if (pt_cmpR op_eq (pv 4) pe_int (nomark _)) (pss_mid (ps_set (i := 6) sc40.nd rfl (Or.inl rfl) (pe_lst (pa_cons (pe_tup (pa_cons pe_str (pa_cons pe_str (pa_cons pe_str pa_nil)))) (pa_cons (pe_tup (pa_cons pe_str (pa_cons pe_str (pa_cons pe_str (pa_cons (pv 1) pa_nil))))) (pa_cons (pe_tup (pa_cons pe_str (pa_cons pe_str (pa_cons pe_str (pa_cons (pv 2) pa_nil))))) pa_nil)))))
      (pss_mid (ps_set (i := 6) sc40.nd rfl (Or.inl rfl) (pe_op op_cat (pv 6) (pe_lst (pa_cons (pe_tup (pa_cons pe_str (pa_cons pe_str (pa_cons pe_str pa_nil)))) (pa_cons (pe_tup (pa_cons pe_str (pa_cons (pv 2) (pa_cons pe_str (pa_cons pe_str pa_nil))))) (pa_cons (pe_tup (pa_cons pe_str (pa_cons pe_str pa_nil))) pa_nil))))))
      (pss_one (ps_ret (pe_op op_cat (pv 6) (pe_lst (pa_cons (pe_tup (pa_cons pe_str (pa_cons pe_str pa_nil))) (pa_cons (pe_tup (pa_cons pe_str (pa_cons pe_str pa_nil))) pa_nil)))))))) pss_nil)
      (pss_one (ps_ret (pe_lst (pa_cons (pe_tup (pa_cons pe_str (pa_cons pe_int pa_nil))) (pa_cons (pe_tup (pa_cons pe_str (pa_cons (pv 2) pa_nil))) pa_nil)))))))))))))))), ?_⟩
    have dg_int : ∀ {j m : Nat}, e.getD j 0 % ((m + 1 : Nat) : Int) = ((dgN e j (m + 1) : Nat) : Int) := fun {j m} => dg_is (Nat.succ_pos m)
    have hdg := hdg0
    refine ⟨fun σ H1 => ∃ v1 v2 : V, σ = [some (.ref dg), some v1, some v2, none, none, none, none, none, none] ∧ Same H H1 ∧ At H1 v1 (oneD (dgN e 1 2)) ∧ At H1 v2 (othD (dgN e 1 2)), ?_, ?_⟩
    · refine ((dt_ixT (n := dgN e 1 2) (dt_l (dl_tup (dl_cons (dl_lst (dl_cons dl_str (dl_cons dl_str dl_nil)) (by show 2 ≤ sizeLine; decide)) (dl_cons (dl_lst (dl_cons dl_str (dl_cons dl_str dl_nil)) (by show 2 ≤ sizeLine; decide)) dl_nil)) (by show 2 ≤ sizeLine; decide)) live_nil) (ve_dm (j := 1) rfl hdg hln (by decide) rfl (by decide)) (getD_some (x := .none) (dgN_lt e 1 (show 0 < 2 by decide))) dg_int) : DT [] _ _ _ _) H (Same.refl _) _ fun v H1 s1 a => ?_
      rw [hid_nil, both_is (dgN_lt e 1 (by decide))] at a
      obtain ⟨q, xs, rfl, hq, as⟩ := at_l a
      cases as with
      | cons b1 as =>
      cases as with
      | cons b2 as =>
      cases as
      exact ⟨q, _, rfl, SqL.of hq, rfl, _, _, rfl, _, _, rfl, rfl, _, _, rfl, s1, b1, b2⟩
    rintro σ H1 ⟨v1, v2, rfl, s1, a1, a2⟩
    have hdg := s1 _ _ hdg
    refine ⟨fun σ H2 => ∃ v3 : V, σ = [some (.ref dg), some v1, some v2, some v3, none, none, none, none, none] ∧ Same H1 H2 ∧ At H2 v3 (kinD (dgN e 2 3)), set_dt (dt_pick (j := 2) (m := 3) (dt_l (dl_lst (dl_cons dl_str (dl_cons dl_str (dl_cons dl_str dl_nil))) (by show 3 ≤ sizeLine; decide)) live_nil) (ve_dm (j := 2) rfl hdg hln (by decide) rfl (by decide)) rfl (by decide)) fun v H2 s a => ⟨v, rfl, s, by rw [hid_nil] at a; exact a⟩, ?_⟩
    rintro σ H2 ⟨v3, rfl, s2, a3⟩
    have hdg := s2 _ _ hdg
    have a1 := a1.mono s2
    have a2 := a2.mono s2
    refine ⟨fun σ H1 => σ = [some (.ref dg), some v1, some v2, some v3, some (.int (dgN e 0 9 : Nat)), none, none, none, none] ∧ H1 = H2, set_v (ve_dm (j := 0) rfl hdg hln (by decide) rfl (by decide)) ⟨by rw [show e.getD 0 0 % 9 = ((dgN e 0 9 : Nat) : Int) from dg_int]; rfl, rfl⟩, ?_⟩
    rintro σ H1 ⟨rfl, rfl⟩
    have s01 := s1.trans s2
    rw [← hid_nil (H := H1)] at a1 a2 a3
    refine ⟨fun σ H2 => σ = [some (.ref dg), some v1, some v2, some v3, some (.int (dgN e 0 9 : Nat)), none, none, none, none] ∧ H2 = H1 ∧ ¬ dgN e 0 9 = 0, ?_, ?_⟩
    · refine ⟨_, rfl, rfl, _, rfl, ?_⟩
      refine ite2 (fun c => ?_) (fun c => ⟨rfl, rfl, fun z => c (by rw [z]; rfl)⟩)
      have ew : dgN e 0 9 = 0 := by
        have := V.int.inj (of_decide_eq_true c)
        omega
      exact ret_dt (dt_lst live_nil (dt_cons (dt_tup live_nil (dt_cons (dt_l dl_str live_nil) (dt_cons (dt_l dl_str live_nil) (dt_cons (dt_var rfl a3) dt_nil))) (by show 3 ≤ sizeLine; decide)) (dt_cons (dt_tup live_nil (dt_cons (dt_l dl_str live_nil) (dt_cons (dt_var rfl a1) (dt_cons (dt_var rfl a2) dt_nil))) (by show 3 ≤ sizeLine; decide)) (dt_cons (dt_tup live_nil (dt_cons (dt_l dl_str live_nil) (dt_cons (dt_var rfl a2) (dt_cons (dt_l dl_str live_nil) dt_nil))) (by show 3 ≤ sizeLine; decide)) (dt_cons (dt_l (dl_tup (dl_cons dl_str (dl_cons dl_str dl_nil)) (by show 2 ≤ sizeLine; decide)) live_nil) dt_nil)))) (by show 4 ≤ sizeLine; decide)) fun v H' s a => k v H' (s01.trans s) (by unfold modT; rw [ew]; exact a)
    rintro σ H1 ⟨rfl, rfl, n0⟩
    refine ⟨fun σ H2 => σ = [some (.ref dg), some v1, some v2, some v3, some (.int (dgN e 0 9 : Nat)), none, none, none, none] ∧ H2 = H1 ∧ ¬ dgN e 0 9 = 1, ?_, ?_⟩
    · refine ⟨_, rfl, rfl, _, rfl, ?_⟩
      refine ite2 (fun c => ?_) (fun c => ⟨rfl, rfl, fun z => c (by rw [z]; rfl)⟩)
      have ew : dgN e 0 9 = 1 := by
        have := V.int.inj (of_decide_eq_true c)
        omega
      refine ⟨fun σ H2 => ∃ w1 : V, σ = [some (.ref dg), some v1, some v2, some v3, some (.int (dgN e 0 9 : Nat)), some w1, none, none, none] ∧ Same H H2 ∧ Same H1 H2 ∧ At H2 w1 (.list [.tuple [.str "new", .str "t", .str "node"], .tuple [.str "new", .str "u", .str "pair"], .tuple [.str "store", .str "t", .str "left", .str "u"]]), set_dt (dt_l (dl_lst (dl_cons (dl_tup (dl_cons dl_str (dl_cons dl_str (dl_cons dl_str dl_nil))) (by show 3 ≤ sizeLine; decide)) (dl_cons (dl_tup (dl_cons dl_str (dl_cons dl_str (dl_cons dl_str dl_nil))) (by show 3 ≤ sizeLine; decide)) (dl_cons (dl_tup (dl_cons dl_str (dl_cons dl_str (dl_cons dl_str (dl_cons dl_str dl_nil)))) (by show 4 ≤ sizeLine; decide)) dl_nil))) (by show 3 ≤ sizeLine; decide)) live_nil) fun v H2 s a => ⟨v, rfl, s01.trans s, s, by rw [hid_nil] at a; exact a⟩, ?_⟩
      rintro σ K1 ⟨w1, rfl, t1, u1, b1⟩
      have a1 := a1.mono (hid_mono u1)
      have a2 := a2.mono (hid_mono u1)
      have a3 := a3.mono (hid_mono u1)
      have hdg := u1 _ _ hdg
      exact ret_dt (dt_cat live_nil (dt_var rfl (by rw [hid_nil]; exact b1)) (dt_l (dl_lst (dl_cons (dl_tup (dl_cons dl_str (dl_cons dl_str (dl_cons dl_str (dl_cons dl_str dl_nil)))) (by show 4 ≤ sizeLine; decide)) (dl_cons (dl_tup (dl_cons dl_str (dl_cons dl_str dl_nil)) (by show 2 ≤ sizeLine; decide)) (dl_cons (dl_tup (dl_cons dl_str (dl_cons dl_str dl_nil)) (by show 2 ≤ sizeLine; decide)) dl_nil))) (by show 3 ≤ sizeLine; decide)) live_nil) (by simp only [List.length_append, List.length_cons, List.length_nil]; decide)) fun v H' s a => k v H' (t1.trans s) (by unfold modT; rw [ew]; exact a)
    rintro σ H1 ⟨rfl, rfl, n1⟩
    refine ⟨fun σ H2 => σ = [some (.ref dg), some v1, some v2, some v3, some (.int (dgN e 0 9 : Nat)), none, none, none, none] ∧ H2 = H1 ∧ ¬ dgN e 0 9 = 2, ?_, ?_⟩
    · refine ⟨_, rfl, rfl, _, rfl, ?_⟩
      refine ite2 (fun c => ?_) (fun c => ⟨rfl, rfl, fun z => c (by rw [z]; rfl)⟩)
      have ew : dgN e 0 9 = 2 := by
        have := V.int.inj (of_decide_eq_true c)
        omega
      exact ret_dt (dt_lst live_nil (dt_cons (dt_tup live_nil (dt_cons (dt_l dl_str live_nil) (dt_cons (dt_l dl_str live_nil) (dt_cons (dt_var rfl a1) dt_nil))) (by show 3 ≤ sizeLine; decide)) (dt_cons (dt_tup live_nil (dt_cons (dt_l dl_str live_nil) (dt_cons (dt_var rfl a1) (dt_cons (dt_var rfl a2) dt_nil))) (by show 3 ≤ sizeLine; decide)) (dt_cons (dt_tup live_nil (dt_cons (dt_l dl_str live_nil) (dt_cons (dt_var rfl a2) (dt_cons (dt_l dl_str live_nil) dt_nil))) (by show 3 ≤ sizeLine; decide)) (dt_cons (dt_l (dl_tup (dl_cons dl_str (dl_cons dl_str dl_nil)) (by show 2 ≤ sizeLine; decide)) live_nil) dt_nil)))) (by show 4 ≤ sizeLine; decide)) fun v H' s a => k v H' (s01.trans s) (by unfold modT; rw [ew]; exact a)
    rintro σ H1 ⟨rfl, rfl, n2⟩
    refine ⟨fun σ H2 => σ = [some (.ref dg), some v1, some v2, some v3, some (.int (dgN e 0 9 : Nat)), none, none, none, none] ∧ H2 = H1 ∧ ¬ dgN e 0 9 = 3, ?_, ?_⟩
    · refine ⟨_, rfl, rfl, _, rfl, ?_⟩
      refine ite2 (fun c => ?_) (fun c => ⟨rfl, rfl, fun z => c (by rw [z]; rfl)⟩)
      have ew : dgN e 0 9 = 3 := by
        have := V.int.inj (of_decide_eq_true c)
        omega
      exact ret_dt (dt_lst live_nil (dt_cons (dt_tup live_nil (dt_cons (dt_l dl_str live_nil) (dt_cons (dt_var rfl a1) (dt_cons (dt_var rfl a3) dt_nil))) (by show 3 ≤ sizeLine; decide)) (dt_cons (dt_tup live_nil (dt_cons (dt_l dl_str live_nil) (dt_cons (dt_var rfl a1) dt_nil)) (by show 2 ≤ sizeLine; decide)) dt_nil)) (by show 2 ≤ sizeLine; decide)) fun v H' s a => k v H' (s01.trans s) (by unfold modT; rw [ew]; exact a)
    rintro σ H1 ⟨rfl, rfl, n3⟩
    refine ⟨fun σ H2 => σ = [some (.ref dg), some v1, some v2, some v3, some (.int (dgN e 0 9 : Nat)), none, none, none, none] ∧ H2 = H1 ∧ ¬ dgN e 0 9 = 4, ?_, ?_⟩
    · refine ⟨_, rfl, rfl, _, rfl, ?_⟩
      refine ite2 (fun c => ?_) (fun c => ⟨rfl, rfl, fun z => c (by rw [z]; rfl)⟩)
      have ew : dgN e 0 9 = 4 := by
        have := V.int.inj (of_decide_eq_true c)
        omega
      refine ⟨fun σ H2 => ∃ w1 : V, σ = [some (.ref dg), some v1, some v2, some v3, some (.int (dgN e 0 9 : Nat)), none, some w1, none, none] ∧ Same H H2 ∧ Same H1 H2 ∧ At H2 w1 (.list [.tuple [.str "weak", (pick [.str "v", .str "q"] (dgN e 2 2)), (oneD (dgN e 1 2))], .tuple [.str "weak", .str "w", (oneD (dgN e 1 2))], .tuple [.str "new", (oneD (dgN e 1 2)), (kinD (dgN e 2 3))]]), set_dt (dt_lst live_nil (dt_cons (dt_tup live_nil (dt_cons (dt_l dl_str live_nil) (dt_cons (dt_pick (j := 2) (m := 2) (dt_l (dl_lst (dl_cons dl_str (dl_cons dl_str dl_nil)) (by show 2 ≤ sizeLine; decide)) live_nil) (ve_dm (j := 2) rfl hdg hln (by decide) rfl (by decide)) rfl (by decide)) (dt_cons (dt_var rfl a1) dt_nil))) (by show 3 ≤ sizeLine; decide)) (dt_cons (dt_tup live_nil (dt_cons (dt_l dl_str live_nil) (dt_cons (dt_l dl_str live_nil) (dt_cons (dt_var rfl a1) dt_nil))) (by show 3 ≤ sizeLine; decide)) (dt_cons (dt_tup live_nil (dt_cons (dt_l dl_str live_nil) (dt_cons (dt_var rfl a1) (dt_cons (dt_var rfl a3) dt_nil))) (by show 3 ≤ sizeLine; decide)) dt_nil))) (by show 3 ≤ sizeLine; decide)) fun v H2 s a => ⟨v, rfl, s01.trans s, s, by rw [hid_nil] at a; exact a⟩, ?_⟩
      rintro σ K1 ⟨w1, rfl, t1, u1, b1⟩
      have a1 := a1.mono (hid_mono u1)
      have a2 := a2.mono (hid_mono u1)
      have a3 := a3.mono (hid_mono u1)
      have hdg := u1 _ _ hdg
      exact ret_dt (dt_cat live_nil (dt_var rfl (by rw [hid_nil]; exact b1)) (dt_lst live_nil (dt_cons (dt_tup live_nil (dt_cons (dt_l dl_str live_nil) (dt_cons (dt_l dl_str live_nil) (dt_cons (dt_pick (j := 3) (m := 3) (dt_l (dl_lst (dl_cons dl_str (dl_cons dl_str (dl_cons dl_str dl_nil))) (by show 3 ≤ sizeLine; decide)) live_nil) (ve_dm (j := 3) rfl hdg hln (by decide) rfl (by decide)) rfl (by decide)) dt_nil))) (by show 3 ≤ sizeLine; decide)) (dt_cons (dt_l (dl_tup (dl_cons dl_str (dl_cons dl_str dl_nil)) (by show 2 ≤ sizeLine; decide)) live_nil) (dt_cons (dt_l (dl_tup (dl_cons dl_str (dl_cons dl_str dl_nil)) (by show 2 ≤ sizeLine; decide)) live_nil) dt_nil))) (by show 3 ≤ sizeLine; decide)) (by simp only [List.length_append, List.length_cons, List.length_nil]; decide)) fun v H' s a => k v H' (t1.trans s) (by unfold modT; rw [ew]; exact a)
    rintro σ H1 ⟨rfl, rfl, n4⟩
    refine ⟨fun σ H2 => σ = [some (.ref dg), some v1, some v2, some v3, some (.int (dgN e 0 9 : Nat)), none, none, none, none] ∧ H2 = H1 ∧ ¬ dgN e 0 9 = 5, ?_, ?_⟩
    · refine ⟨_, rfl, rfl, _, rfl, ?_⟩
      refine ite2 (fun c => ?_) (fun c => ⟨rfl, rfl, fun z => c (by rw [z]; rfl)⟩)
      have ew : dgN e 0 9 = 5 := by
        have := V.int.inj (of_decide_eq_true c)
        omega
      exact ret_dt (dt_lst live_nil (dt_cons (dt_tup live_nil (dt_cons (dt_l dl_str live_nil) (dt_cons (dt_var rfl a1) (dt_cons (dt_l dl_str live_nil) (dt_cons (dt_lst live_nil (dt_cons (dt_var rfl a2) dt_nil) (by show 1 ≤ sizeLine; decide)) dt_nil)))) (by show 4 ≤ sizeLine; decide)) dt_nil) (by show 1 ≤ sizeLine; decide)) fun v H' s a => k v H' (s01.trans s) (by unfold modT; rw [ew]; exact a)
    rintro σ H1 ⟨rfl, rfl, n5⟩
    refine ⟨fun σ H2 => σ = [some (.ref dg), some v1, some v2, some v3, some (.int (dgN e 0 9 : Nat)), none, none, none, none] ∧ H2 = H1 ∧ ¬ dgN e 0 9 = 6, ?_, ?_⟩
    · refine ⟨_, rfl, rfl, _, rfl, ?_⟩
      refine ite2 (fun c => ?_) (fun c => ⟨rfl, rfl, fun z => c (by rw [z]; rfl)⟩)
      have ew : dgN e 0 9 = 6 := by
        have := V.int.inj (of_decide_eq_true c)
        omega
      refine ⟨fun σ H2 => ∃ w1 : V, σ = [some (.ref dg), some v1, some v2, some v3, some (.int (dgN e 0 9 : Nat)), none, none, some w1, none] ∧ Same H H2 ∧ Same H1 H2 ∧ At H2 w1 (.list [.tuple [.str "tag", (oneD (dgN e 1 2)), (pick [.str "red", .str "blue"] (dgN e 3 2))]]), set_dt (dt_lst live_nil (dt_cons (dt_tup live_nil (dt_cons (dt_l dl_str live_nil) (dt_cons (dt_var rfl a1) (dt_cons (dt_pick (j := 3) (m := 2) (dt_l (dl_lst (dl_cons dl_str (dl_cons dl_str dl_nil)) (by show 2 ≤ sizeLine; decide)) live_nil) (ve_dm (j := 3) rfl hdg hln (by decide) rfl (by decide)) rfl (by decide)) dt_nil))) (by show 3 ≤ sizeLine; decide)) dt_nil) (by show 1 ≤ sizeLine; decide)) fun v H2 s a => ⟨v, rfl, s01.trans s, s, by rw [hid_nil] at a; exact a⟩, ?_⟩
      rintro σ K1 ⟨w1, rfl, t1, u1, b1⟩
      have a1 := a1.mono (hid_mono u1)
      have a2 := a2.mono (hid_mono u1)
      have a3 := a3.mono (hid_mono u1)
      have hdg := u1 _ _ hdg
      refine ⟨fun σ H2 => ∃ w2 : V, σ = [some (.ref dg), some v1, some v2, some v3, some (.int (dgN e 0 9 : Nat)), none, none, some w1, some w2] ∧ Same H H2 ∧ Same K1 H2 ∧ At H2 w2 (.tuple [.str "ifsame", (oneD (dgN e 1 2)), (othD (dgN e 1 2)), .list [.tuple [.str "emit", (oneD (dgN e 1 2))]], .list [.tuple [.str "tag", (oneD (dgN e 1 2)), (pick [.str "red", .str "blue"] (dgN e 3 2))]]]), set_dt (dt_tup live_nil (dt_cons (dt_l dl_str live_nil) (dt_cons (dt_var rfl a1) (dt_cons (dt_var rfl a2) (dt_cons (dt_lst live_nil (dt_cons (dt_tup live_nil (dt_cons (dt_l dl_str live_nil) (dt_cons (dt_var rfl a1) dt_nil)) (by show 2 ≤ sizeLine; decide)) dt_nil) (by show 1 ≤ sizeLine; decide)) (dt_cons (dt_var rfl (by rw [hid_nil]; exact b1)) dt_nil))))) (by show 5 ≤ sizeLine; decide)) fun v H2 s a => ⟨v, rfl, t1.trans s, s, by rw [hid_nil] at a; exact a⟩, ?_⟩
      rintro σ K2 ⟨w2, rfl, t2, u2, b2⟩
      have a1 := a1.mono (hid_mono u2)
      have a2 := a2.mono (hid_mono u2)
      have a3 := a3.mono (hid_mono u2)
      have hdg := u2 _ _ hdg
      have b1 := b1.mono u2
      exact ret_dt (dt_lst live_nil (dt_cons (dt_var rfl (by rw [hid_nil]; exact b2)) (dt_cons (dt_tup live_nil (dt_cons (dt_l dl_str live_nil) (dt_cons (dt_var rfl a1) (dt_cons (dt_lst live_nil (dt_cons (dt_tup live_nil (dt_cons (dt_l dl_str live_nil) (dt_cons (dt_var rfl a1) (dt_cons (dt_l dl_str live_nil) dt_nil))) (by show 3 ≤ sizeLine; decide)) dt_nil) (by show 1 ≤ sizeLine; decide)) (dt_cons (dt_l (dl_lst dl_nil (by show 0 ≤ sizeLine; decide)) live_nil) dt_nil)))) (by show 4 ≤ sizeLine; decide)) dt_nil)) (by show 2 ≤ sizeLine; decide)) fun v H' s a => k v H' (t2.trans s) (by unfold modT; rw [ew]; exact a)
    rintro σ H1 ⟨rfl, rfl, n6⟩
    refine ⟨fun σ H2 => σ = [some (.ref dg), some v1, some v2, some v3, some (.int (dgN e 0 9 : Nat)), none, none, none, none] ∧ H2 = H1 ∧ ¬ dgN e 0 9 = 7, ?_, ?_⟩
    · refine ⟨_, rfl, rfl, _, rfl, ?_⟩
      refine ite2 (fun c => ?_) (fun c => ⟨rfl, rfl, fun z => c (by rw [z]; rfl)⟩)
      have ew : dgN e 0 9 = 7 := by
        have := V.int.inj (of_decide_eq_true c)
        omega
      refine ⟨fun σ H2 => ∃ w1 : V, σ = [some (.ref dg), some v1, some v2, some v3, some (.int (dgN e 0 9 : Nat)), none, some w1, none, none] ∧ Same H H2 ∧ Same H1 H2 ∧ At H2 w1 (.list [.tuple [.str "new", .str "t", .str "pair"], .tuple [.str "store", .str "t", .str "left", (oneD (dgN e 1 2))], .tuple [.str "store", .str "t", .str "right", (othD (dgN e 1 2))]]), set_dt (dt_lst live_nil (dt_cons (dt_l (dl_tup (dl_cons dl_str (dl_cons dl_str (dl_cons dl_str dl_nil))) (by show 3 ≤ sizeLine; decide)) live_nil) (dt_cons (dt_tup live_nil (dt_cons (dt_l dl_str live_nil) (dt_cons (dt_l dl_str live_nil) (dt_cons (dt_l dl_str live_nil) (dt_cons (dt_var rfl a1) dt_nil)))) (by show 4 ≤ sizeLine; decide)) (dt_cons (dt_tup live_nil (dt_cons (dt_l dl_str live_nil) (dt_cons (dt_l dl_str live_nil) (dt_cons (dt_l dl_str live_nil) (dt_cons (dt_var rfl a2) dt_nil)))) (by show 4 ≤ sizeLine; decide)) dt_nil))) (by show 3 ≤ sizeLine; decide)) fun v H2 s a => ⟨v, rfl, s01.trans s, s, by rw [hid_nil] at a; exact a⟩, ?_⟩
      rintro σ K1 ⟨w1, rfl, t1, u1, b1⟩
      have a1 := a1.mono (hid_mono u1)
      have a2 := a2.mono (hid_mono u1)
      have a3 := a3.mono (hid_mono u1)
      have hdg := u1 _ _ hdg
      refine ⟨fun σ H2 => ∃ w2 : V, σ = [some (.ref dg), some v1, some v2, some v3, some (.int (dgN e 0 9 : Nat)), none, some w2, none, none] ∧ Same H H2 ∧ Same K1 H2 ∧ At H2 w2 (.list ([.tuple [.str "new", .str "t", .str "pair"], .tuple [.str "store", .str "t", .str "left", (oneD (dgN e 1 2))], .tuple [.str "store", .str "t", .str "right", (othD (dgN e 1 2))]] ++ [.tuple [.str "copy", .str "u", .str "t"], .tuple [.str "load", (othD (dgN e 1 2)), .str "u", .str "left"], .tuple [.str "clear", .str "t"]])), set_dt (dt_cat live_nil (dt_var rfl (by rw [hid_nil]; exact b1)) (dt_lst live_nil (dt_cons (dt_l (dl_tup (dl_cons dl_str (dl_cons dl_str (dl_cons dl_str dl_nil))) (by show 3 ≤ sizeLine; decide)) live_nil) (dt_cons (dt_tup live_nil (dt_cons (dt_l dl_str live_nil) (dt_cons (dt_var rfl a2) (dt_cons (dt_l dl_str live_nil) (dt_cons (dt_l dl_str live_nil) dt_nil)))) (by show 4 ≤ sizeLine; decide)) (dt_cons (dt_l (dl_tup (dl_cons dl_str (dl_cons dl_str dl_nil)) (by show 2 ≤ sizeLine; decide)) live_nil) dt_nil))) (by show 3 ≤ sizeLine; decide)) (by simp only [List.length_append, List.length_cons, List.length_nil]; decide)) fun v H2 s a => ⟨v, rfl, t1.trans s, s, by rw [hid_nil] at a; exact a⟩, ?_⟩
      rintro σ K2 ⟨w2, rfl, t2, u2, b2⟩
      have a1 := a1.mono (hid_mono u2)
      have a2 := a2.mono (hid_mono u2)
      have a3 := a3.mono (hid_mono u2)
      have hdg := u2 _ _ hdg
      have b1 := b1.mono u2
      exact ret_dt (dt_cat live_nil (dt_var rfl (by rw [hid_nil]; exact b2)) (dt_l (dl_lst (dl_cons (dl_tup (dl_cons dl_str (dl_cons dl_str dl_nil)) (by show 2 ≤ sizeLine; decide)) (dl_cons (dl_tup (dl_cons dl_str (dl_cons dl_str dl_nil)) (by show 2 ≤ sizeLine; decide)) dl_nil)) (by show 2 ≤ sizeLine; decide)) live_nil) (by simp only [List.length_append, List.length_cons, List.length_nil]; decide)) fun v H' s a => k v H' (t2.trans s) (by unfold modT; rw [ew]; exact a)
    rintro σ H1 ⟨rfl, rfl, n7⟩
    have ew : dgN e 0 9 = 8 := by
      have := dgN_lt e 0 (show 0 < 9 by decide)
      omega
    exact ret_dt (dt_lst live_nil (dt_cons (dt_l (dl_tup (dl_cons dl_str (dl_cons dl_int dl_nil)) (by show 2 ≤ sizeLine; decide)) live_nil) (dt_cons (dt_tup live_nil (dt_cons (dt_l dl_str live_nil) (dt_cons (dt_var rfl a2) dt_nil)) (by show 2 ≤ sizeLine; decide)) dt_nil)) (by show 2 ≤ sizeLine; decide)) fun v H' s a => k v H' (s01.trans s) (by unfold modT; rw [ew]; exact a)
end
end K1

set_option Elab.async false
set_option linter.all false
set_option maxRecDepth 100000
set_option maxHeartbeats 8000000
namespace K1
open PySem L2
def IT (t : TE) (xs : List Int) (σ : St) (H1 : Hp) : Prop := ∀ H2, Same H1 H2 → ∀ Q : VK, (∀ p H3, Same H2 H3 → H3 p = some (.lst (xs.map V.int)) → Q (.ref p) H3) → t σ H2 Q
section
variable {σ : St} {H1 : Hp} {t u tl th : TE} {i j : Int} {K : PySem.W.Frag} {ds xs ys : List Int} {s : Nat} {dg : Addr}
theorem it_cut (e : σ[s]? = some (some (.ref dg))) (h : H1 dg = some (.lst (ds.map V.int))) (hl : VE tl (.int i) σ H1) (hh : VE th (.int j) σ H1) (i0 : 0 ≤ i) (ij : i ≤ j) (jn : j.toNat ≤ ds.length) : IT (tSl (rSlL K) (tVar s) (tPart tl) (tPart th)) ((ds.drop i.toNat).take (j - i).toNat) σ H1 := fun H2 s2 Q k =>
  ⟨_, e, hl H2 s2 _ ⟨i, rfl, hh H2 s2 _ ⟨j, rfl, dg, _, rfl, SqL.of (s2 _ _ h), fun p np => k p _ (same_new (Same.refl _) np) (by
    rw [upd_same]
    unfold cutV
    rw [sIx_min i0, sIx_min (by omega), List.length_map, Nat.min_eq_left jn, Nat.min_eq_left (show i.toNat ≤ ds.length by omega), ← List.map_drop, ← List.map_take, show (j - i).toNat = j.toNat - i.toNat by omega])⟩⟩⟩
theorem ve_mul (h : VE t (.int i) σ H1) (r : VE u (.int j) σ H1) (p : CMul i j) : VE (tOp (rI CMul fun i j => V.int (i * j)) t u) (.int (i * j)) σ H1 := fun H2 s Q q => h H2 s _ (r H2 s _ ⟨i, j, rfl, rfl, p, q⟩)
end
section
variable {L : List Addr} {σ : St} {H1 : Hp} {t u : TE} {d e : PyData} {ds es : List PyData} {K : PySem.W.Frag}
/-- x = a + b, a list of the def's own -/
theorem cat_la {s : Nat} {D : Ends} (h : DT [] t (.list ds) σ H1) (r : DT [] u (.list es) σ H1) (few : ds.length + es.length ≤ sizeLine) (k : ∀ l H3, LA H1 l (ds ++ es) H3 → D.nx (σ.set s (some (.ref l))) H3) : tAsg (tOp rCat t u) (gName s) D σ H1 := h H1 (Same.refl _) _ fun v H3 s3 a => r H3 s3 _ fun w H4 s4 b => by
  rw [hid_nil] at a b
  obtain ⟨p, xs, rfl, hp, as⟩ := at_l (a.mono s4)
  obtain ⟨q, ys, rfl, hq, bs⟩ := at_l b
  exact ⟨p, q, xs, ys, rfl, rfl, hp, hq, by rw [as.len, bs.len]; exact few, fun l nl => k l _ (LA.first (s3.trans s4) (as.append bs) nl)⟩
theorem dt_mod {xs : List Int} (h : IT t xs σ H1) (hl : xs.length = 4) : DT [] (tCall spMod [] E0 (tCons t tNil)) (.list (modT xs)) σ H1 := fun H2 s Q k => h H2 s _ fun p H3 s3 hp => ⟨p, xs, rfl, hp, hl, fun v H' s' a => k v H' (s3.trans s') (by rw [hid_nil]; exact a)⟩
end
theorem slc_len {ds : List Int} (h : ds.length = 50) {i : Nat} (hi : i ≤ 46) : (slc ds i).length = 4 := by
  unfold slc
  rw [List.length_take, List.length_drop, h]
  omega
theorem ord_is {o : Nat} (h : o < 3) : [PyData.list [.str "left", .str "right"], .list [.str "right", .str "left"], .list [.str "right", .str "left", .str "back"]].getD o .none = strD (ordS o) := by
  match o, h with
  | 0, _ => rfl
  | 1, _ => rfl
  | 2, _ => rfl
def planD (n : Nat) : PyData := .tuple [.int (planN n).1, intD (planN n).2]
theorem plan_is {n : Nat} (h : n < 9) : [PyData.tuple [.int 1, .list []], .tuple [.int 2, .list []], .tuple [.int 1, .list [.int 2]], .tuple [.int 2, .list [.int 2]], .tuple [.int 3, .list [.int 2, .int 2]], .tuple [.int 1, .list [.int 3, .int 2]], .tuple [.int 4, .list []], .tuple [.int 2, .list [.int 3]], .tuple [.int 1, .list [.int 2, .int 2, .int 3]]].getD n .none = planD n := by
  match n, h with
  | 0, _ => rfl
  | 1, _ => rfl
  | 2, _ => rfl
  | 3, _ => rfl
  | 4, _ => rfl
  | 5, _ => rfl
  | 6, _ => rfl
  | 7, _ => rfl
  | 8, _ => rfl
def gOf (ds : List Int) (t : Int) : Pt := ⟨rows5 ds, ns5, ls5, (planN (dgN ds 9 9)).1, (planN (dgN ds 9 9)).2, bodT ds t, headsT5 (dgN ds 4 2) (decide (ds.getD 39 0 % 3 = 0))⟩
section
variable {P : Program} {w : World} {K : PySem.W.Frag} {mg : Str → Option Value} {base : Heap} {CP : Addr} {f : Addr} {fd : FuncData}
def spDrawn : Sp := fun vs H Q _ => ∃ (dg : Addr) (ds : List Int) (t : Int), vs = [.ref dg, .int t] ∧ H dg = some (.lst (ds.map V.int)) ∧ ds.length = 50 ∧ 0 ≤ t ∧ t ≤ 2000 ∧ ∀ a H', Same H H' → PaAt H' a (gOf ds t) → (∀ kvs, H' a = some (.dK kvs) → kvs.length ≤ 100) → Q (.ref a) H'
theorem sc41 : FnScope ["_law_digits_here", "_law_times", "_law_classes", "_law_order", "_law_deep", "_law_build", "_law_heads", "_law_body", "_law_inner", "_law_k", "_law_nested", "_law_plans", "_law_plan", "_law_parts"] ["_law_digits_here", "_law_times"] (defScope (top 41)) := ⟨rfl, rfl, rfl, by decide +kernel, rfl, by decide +kernel, by decide +kernel⟩
theorem ok41 (F : Fun K "_law_drawn" "_law_drawn" (top 41) f fd) (B : Blt mg) (C40 : Cal P w K mg base CX0 1 "_law_module" ["_law_digits_here"] spMod) : FnOk P w K mg base CX0 2 f fd ["_law_digits_here", "_law_times"] spDrawn := by
  refine F.ok sc41 (fun vs H Q E h => ?_) (fun cdv A outer s H vs Q E hr h => ?_)
  · obtain ⟨dg, ds, t, rfl, _⟩ := h
    rfl
  · obtain ⟨dg, ds, t, rfl, hdg, hln, t0, t1, k⟩ := h
    have big : 1000 ≤ sizeLine := by decide
    have bo := bod_ok (ds := ds) t0 t1
    have io := inn2_ok (ds := ds) t0 t1
    have mlen : ∀ e, (modT e).length ≤ 8 := fun e => by
      obtain ⟨⟨m, g1, g2, _⟩, _⟩ := modT_ok e
      exact Nat.le_trans (len_vL g1) g2
    refine ⟨_, (pss_mid (ps_set (i := 2) sc41.nd rfl (Or.inl rfl) (pe_lst (pa_cons (pe_tup (pa_cons pe_str (pa_cons pe_int (pa_cons (pe_lst (pa_cons pe_str pa_nil)) (pa_cons pe_bl pa_nil))))) pa_nil)))
      (pss_mid (ps_set (i := 3) sc41.nd rfl (Or.inl rfl) (pe_ix ix_list (pe_lst (pa_cons (pe_lst (pa_cons pe_str (pa_cons pe_str pa_nil))) (pa_cons (pe_lst (pa_cons pe_str (pa_cons pe_str pa_nil))) (pa_cons (pe_lst (pa_cons pe_str (pa_cons pe_str (pa_cons pe_str pa_nil)))) pa_nil)))) (pe_op op_mod (pe_callTy call_int1 rfl B.int PyProof.Rows.boot_int (pa_cons (pe_ix ix_list (pv 0) pe_int (fun _ _ => rfl)) pa_nil)) pe_int) (fun _ _ => rfl)))
      (pss_mid (ps_expr (pe_bm PySem.F.plainAttrs_list PySem.F.slot_list_append PySem.F.type_list_append mt_append (pv 2) (pa_cons (pe_tup (pa_cons pe_str (pa_cons (pe_op op_add pe_int (pe_op op_mod (pe_callTy call_int1 rfl B.int PyProof.Rows.boot_int (pa_cons (pe_ix ix_list (pv 0) pe_int (fun _ _ => rfl)) pa_nil)) pe_int)) (pa_cons (pv 3) (pa_cons (pe_cmpR op_eq (pe_op op_mod (pe_callTy call_int1 rfl B.int PyProof.Rows.boot_int (pa_cons (pe_ix ix_list (pv 0) pe_int (fun _ _ => rfl)) pa_nil)) pe_int) pe_int (nomark _)) pa_nil))))) pa_nil)))
      (pss_mid (ps_expr (pe_bm PySem.F.plainAttrs_list PySem.F.slot_list_append PySem.F.type_list_append mt_append (pv 2) (pa_cons (pe_tup (pa_cons pe_str (pa_cons (pe_op op_add pe_int (pe_op op_mod (pe_callTy call_int1 rfl B.int PyProof.Rows.boot_int (pa_cons (pe_ix ix_list (pv 0) pe_int (fun _ _ => rfl)) pa_nil)) pe_int)) (pa_cons (pe_lst pa_nil) (pa_cons (pe_cmpR op_eq (pe_op op_mod (pe_callTy call_int1 rfl B.int PyProof.Rows.boot_int (pa_cons (pe_ix ix_list (pv 0) pe_int (fun _ _ => rfl)) pa_nil)) pe_int) pe_int (nomark _)) pa_nil))))) pa_nil)))
      (pss_mid (ps_set (i := 4) sc41.nd rfl (Or.inl rfl) (pe_lst (pa_cons (pe_tup (pa_cons pe_str (pa_cons pe_str (pa_cons pe_str pa_nil)))) (pa_cons (pe_tup (pa_cons pe_str (pa_cons pe_str (pa_cons pe_str (pa_cons pe_str pa_nil))))) (pa_cons (pe_tup (pa_cons pe_str (pa_cons pe_int pa_nil))) (pa_cons (pe_tup (pa_cons pe_str (pa_cons pe_str (pa_cons pe_str pa_nil)))) pa_nil))))))
      (pss_mid (ps_set (i := 5) sc41.nd rfl (Or.inl rfl) (pe_lst (pa_cons (pe_tup (pa_cons pe_str (pa_cons pe_str (pa_cons (pe_ix ix_list (pe_lst (pa_cons pe_str (pa_cons pe_str pa_nil))) (pe_op op_mod (pe_callTy call_int1 rfl B.int PyProof.Rows.boot_int (pa_cons (pe_ix ix_list (pv 0) pe_int (fun _ _ => rfl)) pa_nil)) pe_int) (fun _ _ => rfl)) pa_nil)))) (pa_cons (pe_tup (pa_cons pe_str (pa_cons pe_str (pa_cons pe_str (pa_cons pe_str pa_nil))))) pa_nil))))
      (pss_mid (ps_set (i := 5) sc41.nd rfl (Or.inl rfl) (pe_op op_cat (pv 5) (pe_lst (pa_cons (pe_tup (pa_cons pe_str (pa_cons pe_str (pa_cons pe_str (pa_cons (pe_lst (pa_cons pe_str pa_nil)) pa_nil))))) (pa_cons (pe_tup (pa_cons pe_str (pa_cons pe_str (pa_cons pe_str pa_nil)))) pa_nil)))))
      (pss_mid (ps_if (pt_cmpR op_eq (pe_op op_mod (pe_callTy call_int1 rfl B.int PyProof.Rows.boot_int (pa_cons (pe_ix ix_list (pv 0) pe_int (fun _ _ => rfl)) pa_nil)) pe_int) pe_int (nomark _)) (pss_one (ps_expr (pe_bm PySem.F.plainAttrs_list PySem.F.slot_list_append PySem.F.type_list_append mt_append (pv 5) (pa_cons (pe_tup (pa_cons pe_str (pa_cons pe_int (pa_cons (pe_lst (pa_cons (pe_tup (pa_cons pe_str (pa_cons pe_str (pa_cons (pe_lst pa_nil) (pa_cons (pe_lst (pa_cons (pe_tup (pa_cons pe_str (pa_cons pe_str pa_nil))) pa_nil)) pa_nil))))) pa_nil)) pa_nil)))) pa_nil)))) pss_nil)
      (pss_mid (ps_set (i := 6) sc41.nd rfl (Or.inl rfl) (pe_lst (pa_cons (pe_tup (pa_cons pe_str (pa_cons (pe_lst (pa_cons pe_str pa_nil)) (pa_cons (pe_lst (pa_cons pe_str pa_nil)) (pa_cons (pv 4) (pa_cons pe_str pa_nil)))))) (pa_cons (pe_tup (pa_cons pe_str (pa_cons (pe_lst (pa_cons pe_str pa_nil)) (pa_cons (pe_lst (pa_cons pe_str pa_nil)) (pa_cons (pv 5) (pa_cons pe_str pa_nil)))))) pa_nil))))
      (pss_mid (ps_set (i := 7) sc41.nd rfl (Or.inl rfl) (pe_lst (pa_cons (pe_tup (pa_cons pe_str (pa_cons pe_str (pa_cons pe_str pa_nil)))) (pa_cons (pe_tup (pa_cons pe_str (pa_cons pe_str (pa_cons (pe_ix ix_list (pe_lst (pa_cons pe_str (pa_cons pe_str pa_nil))) (pe_op op_mod (pe_callTy call_int1 rfl B.int PyProof.Rows.boot_int (pa_cons (pe_ix ix_list (pv 0) pe_int (fun _ _ => rfl)) pa_nil)) pe_int) (fun _ _ => rfl)) pa_nil)))) pa_nil))))
      (pss_mid (ps_set (i := 8) sc41.nd rfl (Or.inl rfl) (pe_lst pa_nil))
      (pss_mid (ps_for PassesOwn.never rfl (pi_range1 rfl B.range (pa_cons (pe_op op_add pe_int (pe_op op_mod (pe_callTy call_int1 rfl B.int PyProof.Rows.boot_int (pa_cons (pe_ix ix_list (pv 0) pe_int (fun _ _ => rfl)) pa_nil)) pe_int)) pa_nil)) (pg_name (i := 9) sc41.nd rfl (Or.inl rfl))
        (pss_one (ps_set (i := 8) sc41.nd rfl (Or.inl rfl) (pe_slice sl_list (pe_op op_cat (pv 8) (pe_cal C40 hr (by decide) pass0 (pa_cons (pe_slice sl_list (pv 0) (po_some (pe_op op_add pe_int (pe_op op_mul pe_int (pv 9)))) (po_some (pe_op op_add pe_int (pe_op op_mul pe_int (pv 9))))) pa_nil))) po_none (po_some pe_int)))))
      (pss_mid (ps_if (pt_cmpR op_eq (pe_op op_mod (pe_callTy call_int1 rfl B.int PyProof.Rows.boot_int (pa_cons (pe_ix ix_list (pv 0) pe_int (fun _ _ => rfl)) pa_nil)) pe_int) pe_int (nomark _)) (pss_mid (ps_set (i := 10) sc41.nd rfl (Or.inl rfl) (pe_cal C40 hr (by decide) pass0 (pa_cons (pe_slice sl_list (pv 0) (po_some pe_int) (po_some pe_int)) pa_nil)))
      (pss_one (ps_set (i := 8) sc41.nd rfl (Or.inl rfl) (pe_op op_cat (pv 8) (pe_lst (pa_cons (pe_tup (pa_cons pe_str (pa_cons (pe_ix ix_list (pe_lst (pa_cons pe_int (pa_cons pe_int (pa_cons (pv 1) pa_nil)))) (pe_op op_mod (pe_callTy call_int1 rfl B.int PyProof.Rows.boot_int (pa_cons (pe_ix ix_list (pv 0) pe_int (fun _ _ => rfl)) pa_nil)) pe_int) (fun _ _ => rfl)) (pa_cons (pv 10) pa_nil)))) pa_nil)))))) pss_nil)
      (pss_mid (ps_set (i := 7) sc41.nd rfl (Or.inl rfl) (pe_op op_cat (pe_op op_cat (pv 7) (pe_cal C40 hr (by decide) pass0 (pa_cons (pe_slice sl_list (pv 0) (po_some pe_int) (po_some pe_int)) pa_nil))) (pe_lst (pa_cons (pe_tup (pa_cons pe_str (pa_cons (pv 1) (pa_cons (pv 8) pa_nil)))) pa_nil))))
      (pss_mid (ps_set (i := 7) sc41.nd rfl (Or.inl rfl) (pe_op op_cat (pv 7) (pe_cal C40 hr (by decide) pass0 (pa_cons (pe_slice sl_list (pv 0) (po_some pe_int) (po_some pe_int)) pa_nil))))
      (pss_mid (ps_set (i := 11) sc41.nd rfl (Or.inl rfl) (pe_lst (pa_cons (pe_tup (pa_cons pe_int (pa_cons (pe_lst pa_nil) pa_nil))) (pa_cons (pe_tup (pa_cons pe_int (pa_cons (pe_lst pa_nil) pa_nil))) (pa_cons (pe_tup (pa_cons pe_int (pa_cons (pe_lst (pa_cons pe_int pa_nil)) pa_nil))) (pa_cons (pe_tup (pa_cons pe_int (pa_cons (pe_lst (pa_cons pe_int pa_nil)) pa_nil))) (pa_cons (pe_tup (pa_cons pe_int (pa_cons (pe_lst (pa_cons pe_int (pa_cons pe_int pa_nil))) pa_nil))) (pa_cons (pe_tup (pa_cons pe_int (pa_cons (pe_lst (pa_cons pe_int (pa_cons pe_int pa_nil))) pa_nil))) (pa_cons (pe_tup (pa_cons pe_int (pa_cons (pe_lst pa_nil) pa_nil))) (pa_cons (pe_tup (pa_cons pe_int (pa_cons (pe_lst (pa_cons pe_int pa_nil)) pa_nil))) (pa_cons (pe_tup (pa_cons pe_int (pa_cons (pe_lst (pa_cons pe_int (pa_cons pe_int (pa_cons pe_int pa_nil)))) pa_nil))) pa_nil)))))))))))
      (pss_mid (ps_set (i := 12) sc41.nd rfl (Or.inl rfl) (pe_ix ix_list (pv 11) (pe_op op_mod (pe_callTy call_int1 rfl B.int PyProof.Rows.boot_int (pa_cons (pe_ix ix_list (pv 0) pe_int (fun _ _ => rfl)) pa_nil)) pe_int) (fun _ _ => rfl)))
      (pss_mid (ps_set (i := 13) sc41.nd rfl (Or.inl rfl) (pe_disp (pps_cons pe_str (pv 2) (pps_cons pe_str (pv 7) (pps_cons pe_str (pe_lst (pa_cons pe_str (pa_cons pe_str (pa_cons pe_str (pa_cons pe_str pa_nil))))) (pps_cons pe_str (pe_lst (pa_cons pe_str (pa_cons pe_str (pa_cons pe_str pa_nil)))) pps_nil)))) (by rfl) (by rfl) (by decide) (by decide)))
      (pss_mid (ps_expr (pe_bm PySem.F.plainAttrs_dict PySem.F.slot_dict_update PySem.F.type_dict_update mt_upd1 (pv 13) (pa_cons (pe_disp (pps_cons pe_str (pv 6) (pps_cons pe_str (pe_ix ix_tup (pv 12) pe_int (fun _ _ => rfl)) (pps_cons pe_str (pe_ix ix_tup (pv 12) pe_int (fun _ _ => rfl)) pps_nil))) (by rfl) (by rfl) (by decide) (by decide)) pa_nil)))
      (pss_one (ps_ret (pv 13)))))))))))))))))))))), ?_⟩
    -- classes
    refine ⟨fun σ H1 => ∃ l : Addr, σ = [some (.ref dg), some (.int t), some (.ref l), none, none, none, none, none, none, none, none, none, none, none] ∧ LA H l [rowD ⟨"node", 1, ["left"], false⟩] H1, ?_, ?_⟩
    · unfold tAsg
      refine (dt_cons (L := []) (dt_l (dl_tup (dl_cons dl_str (dl_cons dl_int (dl_cons (dl_lst (dl_cons dl_str dl_nil) (by show 1 ≤ sizeLine; decide)) (dl_cons dl_bl dl_nil)))) (by show 4 ≤ sizeLine; decide)) live_nil) dt_nil) H (Same.refl _) _ fun vs H5 s5 av => ⟨by rw [av.len]; show 1 ≤ sizeLine; decide, fun p np => ⟨p, rfl, LA.first s5 (by rw [hid_nil] at av; exact av) np⟩⟩
    rintro σ H1 ⟨l, rfl, la⟩
    have lv := la.live
    have hdg := la.2.1 _ _ hdg
    refine ⟨fun σ H2 => ∃ vo : V, σ = [some (.ref dg), some (.int t), some (.ref l), some vo, none, none, none, none, none, none, none, none, none, none] ∧ LA H l [rowD ⟨"node", 1, ["left"], false⟩] H2 ∧ Same H1 H2 ∧ At (hid [l] H2) vo (strD (ordS (dgN ds 0 3))), set_dt (dt_pick (j := 0) (m := 3) (dt_l (dl_lst (dl_cons (dl_lst (dl_cons dl_str (dl_cons dl_str dl_nil)) (by show 2 ≤ sizeLine; decide)) (dl_cons (dl_lst (dl_cons dl_str (dl_cons dl_str dl_nil)) (by show 2 ≤ sizeLine; decide)) (dl_cons (dl_lst (dl_cons dl_str (dl_cons dl_str (dl_cons dl_str dl_nil))) (by show 3 ≤ sizeLine; decide)) dl_nil))) (by show 3 ≤ sizeLine; decide)) lv) (ve_dm (j := 0) rfl hdg hln (by decide) rfl (by decide)) rfl (by decide)) fun v H2 s a => ⟨v, rfl, la.later s, s, by rw [show pick _ _ = _ from ord_is (dgN_lt ds 0 (by decide))] at a; exact a⟩, ?_⟩
    rintro σ H2 ⟨vo, rfl, la, s2, ao⟩
    have lv := la.live
    have hdg := s2 _ _ hdg
    refine ⟨fun σ H3 => σ = [some (.ref dg), some (.int t), some (.ref l), some vo, none, none, none, none, none, none, none, none, none, none] ∧ LA H l [rowD ⟨"node", 1, ["left"], false⟩, rowD ⟨"pair", 1 + ds.getD 0 0 % 8, ordS (dgN ds 0 3), decide (ds.getD 1 0 % 2 = 0)⟩] H3, ?_, ?_⟩
    · obtain ⟨n0, s1, vs, hl, as⟩ := _root_.id la
      refine ⟨_, rfl, .inl ⟨rfl, _, SqL.of hl⟩, ?_⟩
      refine (dt_cons (L := [l]) (d := .tuple [.str "pair", .int (1 + ds.getD 0 0 % 8), strD (ordS (dgN ds 0 3)), .bool (decide (ds.getD 1 0 % 2 = 0))]) (dt_tup lv (dt_cons (dt_l dl_str lv) (dt_cons (dt_int (ve_add ve_int (ve_dm (j := 0) rfl hdg hln (by decide) rfl (by decide)))) (dt_cons (dt_var rfl ao) (dt_cons (dt_bool (ve_eqI (ve_dm (j := 1) rfl hdg hln (by decide) rfl (by decide)) ve_int)) dt_nil)))) (by show 4 ≤ sizeLine; decide)) dt_nil) H2 (Same.refl _) _ fun us H6 s6 au => ?_
      cases au with
      | cons a1 au =>
      cases au
      exact ⟨l, vs, _, rfl, rfl, s6 _ _ hl, by rw [as.len]; show 1 < sizeLine; decide, rfl, LA.push la hl s6 a1⟩
    rintro σ H3 ⟨rfl, la⟩
    have hdg0 := la.2.1 _ _ (by assumption : H dg = some (.lst (ds.map V.int)))
    have hdg := hdg0
    have lv := la.live
    refine ⟨fun σ H4 => σ = [some (.ref dg), some (.int t), some (.ref l), some vo, none, none, none, none, none, none, none, none, none, none] ∧ LA H l ((rows5 ds).map rowD) H4, ?_, ?_⟩
    · obtain ⟨n0, s1, vs, hl, as⟩ := _root_.id la
      refine ⟨_, rfl, .inl ⟨rfl, _, SqL.of hl⟩, ?_⟩
      refine (dt_cons (L := [l]) (d := .tuple [.str "leaf", .int (1 + ds.getD 2 0 % 8), .list [], .bool (decide (ds.getD 3 0 % 3 = 0))]) (dt_tup lv (dt_cons (dt_l dl_str lv) (dt_cons (dt_int (ve_add ve_int (ve_dm (j := 2) rfl hdg hln (by decide) rfl (by decide)))) (dt_cons (dt_l (dl_lst dl_nil (by show 0 ≤ sizeLine; decide)) lv) (dt_cons (dt_bool (ve_eqI (ve_dm (j := 3) rfl hdg hln (by decide) rfl (by decide)) ve_int)) dt_nil)))) (by show 4 ≤ sizeLine; decide)) dt_nil) H3 (Same.refl _) _ fun us H6 s6 au => ?_
      cases au with
      | cons a1 au =>
      cases au
      exact ⟨l, vs, _, rfl, rfl, s6 _ _ hl, by rw [as.len]; show 2 < sizeLine; decide, rfl, LA.push la hl s6 a1⟩
    rintro σ H4 ⟨rfl, la⟩
    have sA : Same H H4 := la.2.1
    have ac : At H4 (.ref l) (clsD (rows5 ds)) := la.tree
    have hdg := sA _ _ (by assumption : H dg = some (.lst (ds.map V.int)))
    -- deep, build
    refine ⟨fun σ H5 => ∃ vd : V, σ = [some (.ref dg), some (.int t), some (.ref l), some vo, some vd, none, none, none, none, none, none, none, none, none] ∧ Same H4 H5 ∧ At (hid [] H5) vd (.list deepT), set_dt (dt_l (dl_lst (dl_cons (dl_tup (dl_cons dl_str (dl_cons dl_str (dl_cons dl_str dl_nil))) (by show 3 ≤ sizeLine; decide)) (dl_cons (dl_tup (dl_cons dl_str (dl_cons dl_str (dl_cons dl_str (dl_cons dl_str dl_nil)))) (by show 4 ≤ sizeLine; decide)) (dl_cons (dl_tup (dl_cons dl_str (dl_cons dl_int dl_nil)) (by show 2 ≤ sizeLine; decide)) (dl_cons (dl_tup (dl_cons dl_str (dl_cons dl_str (dl_cons dl_str dl_nil))) (by show 3 ≤ sizeLine; decide)) dl_nil)))) (by show 4 ≤ sizeLine; decide)) live_nil) fun v H2 s a => ⟨v, rfl, s, a⟩, ?_⟩
    rintro σ H5 ⟨vd, rfl, s5, ad⟩
    have hdg := s5 _ _ hdg
    refine ⟨fun σ H6 => ∃ vb : V, σ = [some (.ref dg), some (.int t), some (.ref l), some vo, some vd, some vb, none, none, none, none, none, none, none, none] ∧ Same H5 H6 ∧ At (hid [] H6) vb (.list [.tuple [.str "new", .str "b", np (dgN ds 4 2)], .tuple [.str "store", .str "b", .str "left", .str "a"]]), set_dt (dt_lst live_nil (dt_cons (dt_tup live_nil (dt_cons (dt_l dl_str live_nil) (dt_cons (dt_l dl_str live_nil) (dt_cons (dt_pick (j := 4) (m := 2) (dt_l (dl_lst (dl_cons dl_str (dl_cons dl_str dl_nil)) (by show 2 ≤ sizeLine; decide)) live_nil) (ve_dm (j := 4) rfl hdg hln (by decide) rfl (by decide)) rfl (by decide)) dt_nil))) (by show 3 ≤ sizeLine; decide)) (dt_cons (dt_l (dl_tup (dl_cons dl_str (dl_cons dl_str (dl_cons dl_str (dl_cons dl_str dl_nil)))) (by show 4 ≤ sizeLine; decide)) live_nil) dt_nil)) (by show 2 ≤ sizeLine; decide)) fun v H2 s a => ⟨v, rfl, s, a⟩, ?_⟩
    rintro σ H6 ⟨vb, rfl, s6, ab⟩
    have hdg := s6 _ _ hdg
    refine ⟨fun σ H7 => ∃ l2 : Addr, σ = [some (.ref dg), some (.int t), some (.ref l), some vo, some vd, some (.ref l2), none, none, none, none, none, none, none, none] ∧ LA H6 l2 (buildT (dgN ds 4 2) false) H7, cat_la (dt_var rfl ab) (dt_l (dl_lst (dl_cons (dl_tup (dl_cons dl_str (dl_cons dl_str (dl_cons dl_str (dl_cons (dl_lst (dl_cons dl_str dl_nil) (by show 1 ≤ sizeLine; decide)) dl_nil)))) (by show 4 ≤ sizeLine; decide)) (dl_cons (dl_tup (dl_cons dl_str (dl_cons dl_str (dl_cons dl_str dl_nil))) (by show 3 ≤ sizeLine; decide)) dl_nil)) (by show 2 ≤ sizeLine; decide)) live_nil) (by show 2 + 2 ≤ sizeLine; decide) fun l2 H3 la2 => ⟨l2, rfl, by unfold buildT; rw [if_neg (by decide), List.append_nil]; exact la2⟩, ?_⟩
    rintro σ H7 ⟨l2, rfl, la2⟩
    have hdg := la2.2.1 _ _ hdg
    refine ⟨fun σ H8 => σ = [some (.ref dg), some (.int t), some (.ref l), some vo, some vd, some (.ref l2), none, none, none, none, none, none, none, none] ∧ LA H6 l2 (buildT (dgN ds 4 2) (decide (ds.getD 39 0 % 3 = 0))) H8, if_be (be_int (ve_dm (j := 39) rfl hdg hln (by decide) rfl (by decide)) ve_int) fun H8 s8 => ⟨fun c => ?_, fun c => ⟨rfl, by rw [c]; exact la2.later s8⟩⟩, ?_⟩
    · have la8 := la2.later s8
      have lv := la8.live
      have hdg := s8 _ _ hdg
      obtain ⟨n0, s1, vs, hl, as⟩ := _root_.id la8
      refine ⟨_, rfl, .inl ⟨rfl, _, SqL.of hl⟩, ?_⟩
      refine (dt_cons (L := [l2]) (d := .tuple [.str "repeat", .int 2, .list [.tuple [.str "ifnil", .str "a", .list [], .list [.tuple [.str "emit", .str "a"]]]]]) (dt_l (dl_tup (dl_cons dl_str (dl_cons dl_int (dl_cons (dl_lst (dl_cons (dl_tup (dl_cons dl_str (dl_cons dl_str (dl_cons (dl_lst dl_nil (by show 0 ≤ sizeLine; decide)) (dl_cons (dl_lst (dl_cons (dl_tup (dl_cons dl_str (dl_cons dl_str dl_nil)) (by show 2 ≤ sizeLine; decide)) dl_nil) (by show 1 ≤ sizeLine; decide)) dl_nil)))) (by show 4 ≤ sizeLine; decide)) dl_nil) (by show 1 ≤ sizeLine; decide)) dl_nil))) (by show 3 ≤ sizeLine; decide)) lv) dt_nil) H8 (Same.refl _) _ fun us H9 s9 au => ?_
      cases au with
      | cons a1 au =>
      cases au
      refine ⟨l2, vs, _, rfl, rfl, s9 _ _ hl, by rw [as.len]; show 4 < sizeLine; decide, rfl, ?_⟩
      rw [c]
      exact LA.push la8 hl s9 a1
    rintro σ H8 ⟨rfl, lb⟩
    have s68 := lb.2.1
    have ab : At (hid [] H8) (.ref l2) (.list (buildT (dgN ds 4 2) (decide (ds.getD 39 0 % 3 = 0)))) := by rw [hid_nil]; exact lb.tree
    have sB : Same H4 H8 := (s5.trans s6).trans s68
    have ad := ad.mono (hid_mono (s6.trans s68))
    have hdg := sB _ _ (sA _ _ (by assumption : H dg = some (.lst (ds.map V.int))))
    generalize hbt : buildT (dgN ds 4 2) (decide (ds.getD 39 0 % 3 = 0)) = bt at ab
    -- heads, body, inner
    refine ⟨fun σ H9 => ∃ vh : V, σ = [some (.ref dg), some (.int t), some (.ref l), some vo, some vd, some (.ref l2), some vh, none, none, none, none, none, none, none] ∧ Same H8 H9 ∧ At H9 vh (.list (headsT5 (dgN ds 4 2) (decide (ds.getD 39 0 % 3 = 0)))), set_dt (dt_lst live_nil (dt_cons (dt_tup live_nil (dt_cons (dt_l dl_str live_nil) (dt_cons (dt_l (dl_lst (dl_cons dl_str dl_nil) (by show 1 ≤ sizeLine; decide)) live_nil) (dt_cons (dt_l (dl_lst (dl_cons dl_str dl_nil) (by show 1 ≤ sizeLine; decide)) live_nil) (dt_cons (dt_var rfl ad) (dt_cons (dt_l dl_str live_nil) dt_nil))))) (by show 5 ≤ sizeLine; decide)) (dt_cons (dt_tup live_nil (dt_cons (dt_l dl_str live_nil) (dt_cons (dt_l (dl_lst (dl_cons dl_str dl_nil) (by show 1 ≤ sizeLine; decide)) live_nil) (dt_cons (dt_l (dl_lst (dl_cons dl_str dl_nil) (by show 1 ≤ sizeLine; decide)) live_nil) (dt_cons (dt_var rfl ab) (dt_cons (dt_l dl_str live_nil) dt_nil))))) (by show 5 ≤ sizeLine; decide)) dt_nil)) (by show 2 ≤ sizeLine; decide)) fun v H2 s a => ⟨v, rfl, s, by rw [hid_nil] at a; unfold headsT5; rw [hbt]; exact a⟩, ?_⟩
    rintro σ H9 ⟨vh, rfl, s9, ah⟩
    have hdg := s9 _ _ hdg
    refine ⟨fun σ H10 => ∃ vy : V, σ = [some (.ref dg), some (.int t), some (.ref l), some vo, some vd, some (.ref l2), some vh, some vy, none, none, none, none, none, none] ∧ Same H9 H10 ∧ At H10 vy (.list [.tuple [.str "new", .str "x", .str "node"], .tuple [.str "new", .str "y", np (dgN ds 5 2)]]), set_dt (dt_lst live_nil (dt_cons (dt_l (dl_tup (dl_cons dl_str (dl_cons dl_str (dl_cons dl_str dl_nil))) (by show 3 ≤ sizeLine; decide)) live_nil) (dt_cons (dt_tup live_nil (dt_cons (dt_l dl_str live_nil) (dt_cons (dt_l dl_str live_nil) (dt_cons (dt_pick (j := 5) (m := 2) (dt_l (dl_lst (dl_cons dl_str (dl_cons dl_str dl_nil)) (by show 2 ≤ sizeLine; decide)) live_nil) (ve_dm (j := 5) rfl hdg hln (by decide) rfl (by decide)) rfl (by decide)) dt_nil))) (by show 3 ≤ sizeLine; decide)) dt_nil)) (by show 2 ≤ sizeLine; decide)) fun v H2 s a => ⟨v, rfl, s, by rw [hid_nil] at a; exact a⟩, ?_⟩
    rintro σ H10 ⟨vy, rfl, s10, ay⟩
    have hdg := s10 _ _ hdg
    refine ⟨fun σ H11 => ∃ vi : V, σ = [some (.ref dg), some (.int t), some (.ref l), some vo, some vd, some (.ref l2), some vh, some vy, some vi, none, none, none, none, none] ∧ Same H10 H11 ∧ At H11 vi (.list (innN ds 0)), set_dt (dt_l (dl_lst dl_nil (by show 0 ≤ sizeLine; decide)) live_nil) fun v H2 s a => ⟨v, rfl, s, by rw [hid_nil] at a; exact a⟩, ?_⟩
    rintro σ H11 ⟨vi0, rfl, s11, ai0⟩
    have hdg := s11 _ _ hdg
    -- the modules
    have kr := dgN_lt ds 6 (show 0 < 3 by decide)
    refine ⟨fun σ H12 => ∃ (vi : V) (vk : Option V), σ = [some (.ref dg), some (.int t), some (.ref l), some vo, some vd, some (.ref l2), some vh, some vy, some vi, vk, none, none, none, none] ∧ Same H11 H12 ∧ At H12 vi (.list (innN ds (1 + dgN ds 6 3))), ?_, ?_⟩
    · have e6 : ds.getD 6 0 % 3 = ((dgN ds 6 3 : Nat) : Int) := dg_is (m := 3) (by decide)
      refine (ve_add ve_int (ve_dm (j := 6) rfl hdg hln (by decide) rfl (by decide))) H11 (Same.refl _) _ ⟨_, rfl, by rw [e6]; omega, by rw [e6]; omega, ?_⟩
      rw [e6, show ((1 : Int) + ((dgN ds 6 3 : Nat) : Int)).toNat = 1 + dgN ds 6 3 by omega]
      refine for_range (n := 1 + dgN ds 6 3) (fun i σ H12 => ∃ (vi : V) (vk : Option V), σ = [some (.ref dg), some (.int t), some (.ref l), some vo, some vd, some (.ref l2), some vh, some vy, some vi, vk, none, none, none, none] ∧ Same H11 H12 ∧ At H12 vi (.list (innN ds i))) ⟨vi0, none, rfl, Same.refl _, ai0⟩ ?_ (fun σ H12 h => h)
      rintro i σ H12 hi ⟨vi, vk, rfl, s12, ai⟩
      have hdg := s12 _ _ hdg
      have e1 : slc ds (10 + 4 * i) = (ds.drop ((10 : Int) + 4 * (0 + (i : Int))).toNat).take (((14 : Int) + 4 * (0 + (i : Int))) - ((10 : Int) + 4 * (0 + (i : Int)))).toNat := by
        unfold slc
        rw [show ((10 : Int) + 4 * (0 + (i : Int))).toNat = 10 + 4 * i by omega, show (((14 : Int) + 4 * (0 + (i : Int))) - ((10 : Int) + 4 * (0 + (i : Int)))).toNat = 4 by omega]
      obtain ⟨⟨_, _, _, _, _, l14, _⟩, _⟩ := inn_ok ds i
      have ml := mlen (slc ds (10 + 4 * i))
      refine set_dt (d := .list (innN ds (i + 1))) (dt_to (i := 14) live_nil (dt_cat live_nil (dt_var (s := 8) rfl (by rw [hid_nil]; exact ai)) (dt_mod (xs := slc ds (10 + 4 * i)) (by
        rw [e1]
        refine it_cut rfl hdg (ve_add ve_int (ve_mul ve_int (ve_var rfl) (.inl ⟨by decide, by decide⟩))) (ve_add ve_int (ve_mul ve_int (ve_var rfl) (.inl ⟨by decide, by decide⟩))) (by omega) (by omega) (by omega)) (slc_len hln (by omega))) (by omega)) ve_int (by decide)) fun v H13 s13 a => ⟨v, _, rfl, s12.trans s13, by rw [hid_nil] at a; exact a⟩
    rintro σ H12 ⟨vi, vk, rfl, s12, ai⟩
    have hdg := s12 _ _ hdg
    -- a nested repeat
    obtain ⟨⟨_, _, _, _, _, l14, _⟩, _⟩ := inn_ok ds (1 + dgN ds 6 3)
    refine ⟨fun σ H13 => ∃ (vi : V) (vn : Option V), σ = [some (.ref dg), some (.int t), some (.ref l), some vo, some vd, some (.ref l2), some vh, some vy, some vi, vk, vn, none, none, none] ∧ Same H12 H13 ∧ At H13 vi (.list (inn2 ds t)), if_be (be_int (ve_dm (j := 7) rfl hdg hln (by decide) rfl (by decide)) ve_int) fun H13 s13 => ⟨fun c => ?_, fun c => ⟨vi, none, rfl, s13, by unfold inn2; rw [if_neg (of_decide_eq_false c), List.append_nil]; exact ai.mono s13⟩⟩, ?_⟩
    · have hdg := s13 _ _ hdg
      have ai := ai.mono s13
      refine ⟨fun σ H14 => ∃ vn : V, σ = [some (.ref dg), some (.int t), some (.ref l), some vo, some vd, some (.ref l2), some vh, some vy, some vi, vk, some vn, none, none, none] ∧ Same H13 H14 ∧ At (hid [] H14) vn (.list (modT (slc ds 26))), set_dt (dt_mod (xs := slc ds 26) (it_cut (i := 26) (j := 30) rfl hdg ve_int ve_int (by decide) (by decide) (by rw [hln]; decide)) (slc_len hln (by decide))) fun v H14 s a => ⟨v, rfl, s, a⟩, ?_⟩
      rintro σ H14 ⟨vn, rfl, s14, an⟩
      have hdg := s14 _ _ hdg
      refine set_dt (d := .list (inn2 ds t)) (by
        unfold inn2
        rw [if_pos (of_decide_eq_true c)]
        exact dt_cat live_nil (dt_var rfl (by rw [hid_nil]; exact ai.mono s14)) (dt_lst live_nil (dt_cons (dt_tup live_nil (dt_cons (dt_l dl_str live_nil) (dt_cons (dt_pick (j := 8) (m := 3) (dt_lst live_nil (dt_cons (dt_l dl_int live_nil) (dt_cons (dt_l dl_int live_nil) (dt_cons (dt_int (ve_var rfl)) dt_nil))) (by show 3 ≤ sizeLine; decide)) (ve_dm (j := 8) rfl hdg hln (by decide) rfl (by decide)) rfl (by decide)) (dt_cons (dt_var rfl an) dt_nil))) (by show 3 ≤ sizeLine; decide)) dt_nil) (by show 1 ≤ sizeLine; decide)) (by simp only [List.length_cons, List.length_nil]; omega)) fun v H15 s15 a => ⟨v, _, rfl, (s13.trans s14).trans s15, by rw [hid_nil] at a; exact a⟩
    rintro σ H13 ⟨vi2, vn, rfl, s13, ai⟩
    have hdg := s13 _ _ hdg
    have ay := ay.mono ((s11.trans s12).trans s13)
    rw [← hid_nil (H := H13)] at ay ai
    have m1 := mlen (slc ds 30)
    have m2 := mlen (slc ds 34)
    -- the body
    refine ⟨fun σ H14 => ∃ vy : V, σ = [some (.ref dg), some (.int t), some (.ref l), some vo, some vd, some (.ref l2), some vh, some vy, some vi2, vk, vn, none, none, none] ∧ Same H13 H14 ∧ At (hid [] H14) vy (.list (([.tuple [.str "new", .str "x", .str "node"], .tuple [.str "new", .str "y", np (dgN ds 5 2)]] ++ modT (slc ds 30)) ++ [.tuple [.str "repeat", .int t, .list (inn2 ds t)]])), set_dt (dt_cat live_nil (dt_cat live_nil (dt_var rfl ay) (dt_mod (xs := slc ds 30) (it_cut (i := 30) (j := 34) rfl hdg ve_int ve_int (by decide) (by decide) (by rw [hln]; decide)) (slc_len hln (by decide))) (by simp only [List.length_cons, List.length_nil]; omega)) (dt_lst live_nil (dt_cons (dt_tup live_nil (dt_cons (dt_l dl_str live_nil) (dt_cons (dt_int (ve_var rfl)) (dt_cons (dt_var rfl ai) dt_nil))) (by show 3 ≤ sizeLine; decide)) dt_nil) (by show 1 ≤ sizeLine; decide)) (by simp only [List.length_append, List.length_cons, List.length_nil]; omega)) fun v H14 s a => ⟨v, rfl, s, a⟩, ?_⟩
    rintro σ H14 ⟨vy2, rfl, s14, ay2⟩
    have hdg := s14 _ _ hdg
    refine ⟨fun σ H15 => ∃ vy : V, σ = [some (.ref dg), some (.int t), some (.ref l), some vo, some vd, some (.ref l2), some vh, some vy, some vi2, vk, vn, none, none, none] ∧ Same H14 H15 ∧ At H15 vy (.list (bodT ds t)), set_dt (dt_cat live_nil (dt_var rfl ay2) (dt_mod (xs := slc ds 34) (it_cut (i := 34) (j := 38) rfl hdg ve_int ve_int (by decide) (by decide) (by rw [hln]; decide)) (slc_len hln (by decide))) (by simp only [List.length_append, List.length_cons, List.length_nil]; omega)) fun v H15 s a => ⟨v, rfl, s, by rw [hid_nil] at a; exact a⟩, ?_⟩
    rintro σ H15 ⟨vy3, rfl, s15, ay3⟩
    have hdg := s15 _ _ hdg
    -- the plan
    refine ⟨fun σ H16 => ∃ vp : V, σ = [some (.ref dg), some (.int t), some (.ref l), some vo, some vd, some (.ref l2), some vh, some vy3, some vi2, vk, vn, some vp, none, none] ∧ Same H15 H16 ∧ At (hid [] H16) vp _, set_dt (dt_l (dl_lst (dl_cons (dl_tup (dl_cons dl_int (dl_cons (dl_lst dl_nil (by show 0 ≤ sizeLine; decide)) dl_nil)) (by show 2 ≤ sizeLine; decide)) (dl_cons (dl_tup (dl_cons dl_int (dl_cons (dl_lst dl_nil (by show 0 ≤ sizeLine; decide)) dl_nil)) (by show 2 ≤ sizeLine; decide)) (dl_cons (dl_tup (dl_cons dl_int (dl_cons (dl_lst (dl_cons dl_int dl_nil) (by show 1 ≤ sizeLine; decide)) dl_nil)) (by show 2 ≤ sizeLine; decide)) (dl_cons (dl_tup (dl_cons dl_int (dl_cons (dl_lst (dl_cons dl_int dl_nil) (by show 1 ≤ sizeLine; decide)) dl_nil)) (by show 2 ≤ sizeLine; decide)) (dl_cons (dl_tup (dl_cons dl_int (dl_cons (dl_lst (dl_cons dl_int (dl_cons dl_int dl_nil)) (by show 2 ≤ sizeLine; decide)) dl_nil)) (by show 2 ≤ sizeLine; decide)) (dl_cons (dl_tup (dl_cons dl_int (dl_cons (dl_lst (dl_cons dl_int (dl_cons dl_int dl_nil)) (by show 2 ≤ sizeLine; decide)) dl_nil)) (by show 2 ≤ sizeLine; decide)) (dl_cons (dl_tup (dl_cons dl_int (dl_cons (dl_lst dl_nil (by show 0 ≤ sizeLine; decide)) dl_nil)) (by show 2 ≤ sizeLine; decide)) (dl_cons (dl_tup (dl_cons dl_int (dl_cons (dl_lst (dl_cons dl_int dl_nil) (by show 1 ≤ sizeLine; decide)) dl_nil)) (by show 2 ≤ sizeLine; decide)) (dl_cons (dl_tup (dl_cons dl_int (dl_cons (dl_lst (dl_cons dl_int (dl_cons dl_int (dl_cons dl_int dl_nil))) (by show 3 ≤ sizeLine; decide)) dl_nil)) (by show 2 ≤ sizeLine; decide)) dl_nil))))))))) (by show 9 ≤ sizeLine; decide)) live_nil) fun v H16 s a => ⟨v, rfl, s, a⟩, ?_⟩
    rintro σ H16 ⟨vp, rfl, s16, ap⟩
    have hdg := s16 _ _ hdg
    refine ⟨fun σ H17 => ∃ (q r : Addr), σ = [some (.ref dg), some (.int t), some (.ref l), some vo, some vd, some (.ref l2), some vh, some vy3, some vi2, vk, vn, some vp, some (.ref q), none] ∧ Same H16 H17 ∧ H17 q = some (.tup [.int (planN (dgN ds 9 9)).1, .ref r]) ∧ At H17 (.ref r) (intD (planN (dgN ds 9 9)).2), set_dt (dt_pick (j := 9) (m := 9) (dt_var rfl ap) (ve_dm (j := 9) rfl hdg hln (by decide) rfl (by decide)) rfl (by decide)) fun v H17 s a => ?_, ?_⟩
    · rw [hid_nil, show pick _ _ = _ from plan_is (dgN_lt ds 9 (by decide))] at a
      obtain ⟨q, xs, rfl, hq, as⟩ := at_t a
      cases as with
      | cons b1 as =>
      cases as with
      | cons b2 as =>
      cases as
      cases b1
      obtain ⟨r, ys, rfl, _, _⟩ := at_l b2
      exact ⟨q, r, rfl, s, hq, b2⟩
    rintro σ H17 ⟨q, r, rfl, s17, hq, ar⟩
    have s917 : Same H9 H17 := s10.trans (s11.trans (s12.trans (s13.trans (s14.trans (s15.trans (s16.trans s17))))))
    have ac := ac.mono (sB.trans (s9.trans s917))
    have ah := ah.mono s917
    have ay3 := ay3.mono (s16.trans s17)
    have sZ : Same H H17 := sA.trans (sB.trans (s9.trans s917))
    -- parts
    refine ⟨fun σ H18 => ∃ (a : Addr) (vv vw : V), σ = [some (.ref dg), some (.int t), some (.ref l), some vo, some vd, some (.ref l2), some vh, some vy3, some vi2, vk, vn, some vp, some (.ref q), some (.ref a)] ∧ H17 a = none ∧ Same H17 H18 ∧ H18 a = some (.dK (mergeK [] [(Sum.inr "classes", .ref l), (Sum.inr "body", vy3), (Sum.inr "variables", vv), (Sum.inr "weak", vw)])) ∧ At (hid [a] H18) vv (strD ns5) ∧ At (hid [a] H18) vw (strD ls5), ?_, ?_⟩
    · intro a na
      have s0 := same_new (o := .dK []) (Same.refl H17) na
      have lvA : Live [a] (upd H17 a (.dK [])) := fun b m => by
        rw [List.mem_singleton.mp m, upd_same]
        exact fun z => nomatch z
      refine ⟨_, rfl, _, rfl, ?_⟩
      dsimp only [tPairs, tC]
      refine (dt_l (L := [a]) (d := strD ns5) (dl_lst (dl_cons dl_str (dl_cons dl_str (dl_cons dl_str (dl_cons dl_str dl_nil)))) (by show 4 ≤ sizeLine; decide)) lvA) _ (Same.refl _) _ fun vv Ha sa av => ?_
      refine (dt_l (L := [a]) (d := strD ls5) (dl_lst (dl_cons dl_str (dl_cons dl_str (dl_cons dl_str dl_nil))) (by show 3 ≤ sizeLine; decide)) (lvA.mono sa)) _ (Same.refl _) _ fun vw Hb sb aw => ?_
      refine ⟨(sa.trans sb) _ _ upd_same, [(Sum.inr "classes", .ref l), (Sum.inr "body", vy3), (Sum.inr "variables", vv), (Sum.inr "weak", vw)], rfl, by show 4 ≤ 15; decide, ?_⟩
      exact ⟨a, vv, vw, rfl, na, same_updL (s0.trans (sa.trans sb)) na, upd_same, by rw [hid_upd (by simp)]; exact av.mono (hid_mono sb), by rw [hid_upd (by simp)]; exact aw⟩
    rintro σ H18 ⟨a, vv, vw, rfl, na, s18, ha, av, aw⟩
    have nH : H a = none := none_of' sZ na
    have up : ∀ {H' : Hp} {v : V} {d : PyData}, Same H17 H' → At H17 v d → At (hid [a] H') v d := fun s at_ => at_.mono (hid_of (fun b m => by rw [List.mem_singleton.mp m]; exact na) s)
    refine ⟨fun σ H19 => σ = [some (.ref dg), some (.int t), some (.ref l), some vo, some vd, some (.ref l2), some vh, some vy3, some vi2, vk, vn, some vp, some (.ref q), some (.ref a)] ∧ Same H H19 ∧ PaAt H19 a (gOf ds t) ∧ (∀ kvs, H19 a = some (.dK kvs) → kvs.length ≤ 100), ?_, ?_⟩
    · refine ⟨_, rfl, .inr (.inr (.inl ⟨rfl, .inl ⟨_, ha⟩⟩)), fun o no => ?_⟩
      have s0 := same_new (o := .dK []) (Same.refl H18) no
      have ne : a ≠ o := fun z => by rw [z, no] at ha; cases ha
      refine ⟨_, rfl, _, rfl, q, _, _, _, rfl, rfl, SqT.of (s0 _ _ (s18 _ _ hq)), atI_nat (j := 0) rfl, _, rfl, q, _, _, _, rfl, rfl, SqT.of (s0 _ _ (s18 _ _ hq)), atI_nat (j := 1) rfl, ?_⟩
      refine ⟨upd_same, [(Sum.inr "functions", vh), (Sum.inr "threshold", .int (planN (dgN ds 9 9)).1), (Sum.inr "radices", .ref r)], rfl, by show 3 ≤ 15; decide, ?_⟩
      refine ⟨a, o, _, _, rfl, rfl, ne, by rw [upd_ne ne]; exact s0 _ _ ha, upd_same, by show 4 + 3 ≤ sizeLine; decide, ?_⟩
      have sF : Same (hid [a] H18) (upd (upd (upd H18 o (.dK [])) o (.dK (mergeK [] [(Sum.inr "functions", vh), (Sum.inr "threshold", .int (planN (dgN ds 9 9)).1), (Sum.inr "radices", .ref r)]))) a (.dK (mergeK (mergeK [] [(Sum.inr "classes", .ref l), (Sum.inr "body", vy3), (Sum.inr "variables", vv), (Sum.inr "weak", vw)]) (mergeK [] [(Sum.inr "functions", vh), (Sum.inr "threshold", .int (planN (dgN ds 9 9)).1), (Sum.inr "radices", .ref r)])))) := fun b u e => by
        have nb : b ≠ a := fun z => by
          unfold hid at e
          rw [z, if_pos (by simp)] at e
          cases e
        have e' := hid_sub _ _ e
        have no' : b ≠ o := fun z => by rw [z, no] at e'; cases e'
        rw [upd_ne nb, upd_ne no', upd_ne no']
        exact e'
      have go : ∀ {v : V} {d : PyData}, At H17 v d → At _ v d := fun at_ => (up s18 at_).mono sF
      refine ⟨rfl, fun b u e => sF _ _ (hid_of (fun b m => by rw [List.mem_singleton.mp m]; exact nH) (sZ.trans s18) _ _ e), ?_⟩
      refine ⟨?_, fun kvs e => by rw [upd_same] at e; cases e; show 7 ≤ 100; decide⟩
      exact ⟨_, .ref l, vy3, vv, vw, .ref r, vh, upd_same, by show 7 ≤ 200; decide, ⟨by kernel_rfl, go ac⟩, ⟨by kernel_rfl, go ay3⟩, ⟨by kernel_rfl, av.mono sF⟩, ⟨by kernel_rfl, aw.mono sF⟩, by kernel_rfl, ⟨by kernel_rfl, go ar⟩, ⟨by kernel_rfl, go ah⟩⟩
    rintro σ H19 ⟨rfl, s19, pa, pl⟩
    exact ⟨_, rfl, k a H19 s19 pa pl⟩
end
end K1

set_option Elab.async false
set_option linter.all false
set_option maxRecDepth 100000
set_option maxHeartbeats 8000000
namespace K1
open PySem L2
/-! ### the programs of the law are made, and can be compared -/
theorem lookup5 {z : Str} {m : Int} {h : Bool} {d : Int} (e : (cs5 true).lookup z = some (m, h, d)) (r : Bool) (y : Nat) : ∃ d', d' ≤ d ∧ (csN r y).lookup z = some (m, h, d') := by
  unfold cs5 at e
  rw [if_pos rfl, List.lookup_cons] at e
  unfold csN cs5
  rw [List.cons_append, List.cons_append, List.lookup_cons, List.lookup_cons]
  cases q : z == ("deep" : Str) with
  | true =>
    rw [q] at e
    cases e
    exact ⟨0, by decide, rfl⟩
  | false =>
    rw [q] at e
    dsimp only at e ⊢
    rw [List.lookup_cons] at e
    cases q2 : z == ("build" : Str) with
    | true =>
      rw [q2] at e
      cases e
      refine ⟨_, ?_, rfl⟩
      split <;> decide
    | false =>
      rw [q2] at e
      cases e
theorem fields5 {o : Nat} (h : o < 3) : ∀ s ∈ (["left", "right"] : List Str), s ∈ (rows0 o).flatMap (·.fs) := by
  have : ∀ o < 3, ((["left", "right"] : List Str).all fun s => decide (s ∈ (rows0 o).flatMap (·.fs))) = true := by decide +kernel
  have := this o h
  rw [List.all_eq_true] at this
  exact fun s m => of_decide_eq_true (this s m)
theorem le5 {g : Pt} {o x y : Nat} {r : Bool} (ho : o < 3) (hn : g.rows.map (·.n) = (rows0 o).map (·.n)) (hf : g.rows.flatMap (·.fs) = (rows0 o).flatMap (·.fs)) (hl : g.ls = lsN x) (hv : ∀ s ∈ ns5, s ∈ g.ns) : ScLe sc0 (scoOf g.rows g.ns g.ls (g.ks.length : Nat) (csN r y)) := by
  refine ⟨?_, ?_, hv, ?_, ?_, fun z m h d e => lookup5 e r y⟩
  · show _ = g.rows.map (·.n)
    rw [hn]
    rfl
  · show ∀ s ∈ _, s ∈ g.rows.flatMap (·.fs)
    rw [hf]
    exact fields5 ho
  · show ∀ s ∈ ls5, s ∈ g.ls
    rw [hl]
    unfold lsN
    split
    · exact fun s h => h
    · have : (ls5.all fun s => decide (s ∈ (["q", "w", "v"] : List Str))) = true := by decide +kernel
      rw [List.all_eq_true] at this
      exact fun s m => of_decide_eq_true (this s m)
  · show (0 : Int) ≤ ((g.ks.length : Nat) : Int)
    omega
structure Way (g : Pt) (o p x y : Nat) (r : Bool) : Prop where
  o3 : o < 3
  p2 : p < 2
  x2 : x < 2
  y2 : y < 2
  k4 : g.ks.length < 4
  n : g.rows.map (·.n) = (rows0 o).map (·.n)
  f : g.rows.flatMap (·.fs) = (rows0 o).flatMap (·.fs)
  l : g.ls = lsN x
  v : ∀ s ∈ ns5, s ∈ g.ns
  h : g.fs = hsN p r y
  b : ∃ m, vL sc0 5 0 g.bs = some m ∧ m ≤ 48
  c : ∀ d ∈ g.bs, cpS (cpB 3) d = true
  k : ∀ d ∈ g.bs, OkD 20 d
theorem hs_ok {o lv p x y : Nat} {r : Bool} (ho : o < 3) (hl : lv < 4) (hp : p < 2) (hx : x < 2) (hy : y < 2) : funT ⟨rows0 o, lsN x, (lv : Nat)⟩ 400 (hsN p r y) 0 [] 0 = some (.ok (csN r y) (manyN r)) ∧ ((hsN p r y).all (cpF 4) = true ∧ shortT (.list (hsN p r y)) = true) ∧ ∀ d ∈ hsN p r y, OkD 8 d := by
  have main : ∀ k < 2, funT ⟨rows0 o, lsN x, (lv : Nat)⟩ 400 (hsN p (decide (k = 1)) y) 0 [] 0 = some (.ok (csN (decide (k = 1)) y) (manyN (decide (k = 1)))) ∧ ((hsN p (decide (k = 1)) y).all (cpF 4) = true ∧ shortT (.list (hsN p (decide (k = 1)) y)) = true) ∧ ∀ d ∈ hsN p (decide (k = 1)) y, OkD 8 d := fun k hk => by
    have h := fun_c o ho lv hl p hp k hk x hx y hy
    rw [Bool.and_eq_true, Bool.and_eq_true, Bool.and_eq_true, List.all_eq_true (p := fun d => okB0 8 d)] at h
    obtain ⟨h1, ⟨h2, h3⟩, h4⟩ := h
    refine ⟨?_, ⟨h2, h3⟩, fun d m => okB0_is (h4 d m)⟩
    split at h1
    · rename_i cs many e
      rw [Bool.and_eq_true] at h1
      rw [e, of_decide_eq_true h1.1, of_decide_eq_true h1.2]
    · cases h1
  cases r with
  | true => exact main 1 (by decide)
  | false => exact main 0 (by decide)
theorem Way.made {g : Pt} {o p x y : Nat} {r : Bool} (w : Way g o p x y r) (pa : Parts g.rows g.ns g.ls g.th g.ks) : MadeP g := by
  obtain ⟨h1, ⟨h2, h3⟩, h4⟩ := hs_ok (r := r) w.o3 w.k4 w.p2 w.x2 w.y2
  obtain ⟨m, hm, hm2⟩ := w.b
  refine ⟨pa, by rw [w.h]; exact h3, ?_⟩
  rw [w.h]
  refine progOk (cs := csN r y) (many := manyN r) (f := 5) (m := m) ?_ ?_ (vL_mono (le5 w.o3 w.n w.f w.l w.v) (Nat.le_refl _) (Int.le_refl _) (by decide) hm) (by decide) (by omega) ?_ (cpB_of (Nat.le_trans (len_vL hm) (by omega)) w.c) h2
  · have hy := w.y2
    show (headsT5 p r ++ (if y = 1 then [more5] else [])).length ≤ 4
    rw [List.length_append, show (headsT5 p r).length = 2 from rfl]
    split <;> decide
  · rw [← h1]
    exact funT_rows (e := envOf g.rows g.ls g.ks) (e' := ⟨rows0 o, lsN x, ((g.ks.length : Nat) : Int)⟩) w.n w.f w.l rfl _ _ _ _
  · unfold manyN
    split <;> omega
theorem OkD.strs {n : Nat} {ss : List Str} (h : ∀ s ∈ ss, strF s = true) : OkD (n + 1) (strD ss) := OkD.list fun d m => by
  obtain ⟨s, hs, rfl⟩ := List.mem_map.mp m
  exact OkD.str (strF_is (h s hs)).2
theorem OkD.intsL {n : Nat} (l : List Int) : OkD (n + 1) (intD l) := OkD.list fun d m => by
  obtain ⟨i, _, rfl⟩ := List.mem_map.mp m
  exact OkD.int i
theorem OkD.bool {n : Nat} (b : Bool) : OkD n (.bool b) := ⟨rfl, rfl, Nat.zero_le _⟩
def rowF (q : Row) : Bool := decide (q.fs.length ≤ 3) && (strF q.n && q.fs.all strF)
theorem Way.good {g : Pt} {o p x y : Nat} {r : Bool} (w : Way g o p x y r) (r6 : g.rows.length ≤ 6) (rf : ∀ q ∈ g.rows, rowF q = true) (nf : ∀ s ∈ g.ns, strF s = true) : GoodP g := by
  obtain ⟨h1, ⟨h2, h3⟩, h4⟩ := hs_ok (r := r) w.o3 w.k4 w.p2 w.x2 w.y2
  obtain ⟨m, hm, hm2⟩ := w.b
  have rw' : ∀ q ∈ g.rows, q.fs.length ≤ 3 ∧ strF q.n = true ∧ ∀ s ∈ q.fs, strF s = true := fun q m => by
    have := rf q m
    unfold rowF at this
    rw [Bool.and_eq_true, Bool.and_eq_true, List.all_eq_true] at this
    exact ⟨of_decide_eq_true this.1, this.2⟩
  have lf : ∀ s ∈ g.ls, strF s = true := by
    rw [w.l]
    have hx := w.x2
    have : ∀ x < 2, ((lsN x).all strF) = true := by decide +kernel
    have := this x hx
    rw [List.all_eq_true] at this
    exact this
  refine ⟨r6, fun q m => (rw' q m).1, fun q m => (rw' q m).2, nf, lf, cpB_of (Nat.le_trans (len_vL hm) (by omega)) w.c, ?_, ?_, ?_, (OkD.list w.k).up (by decide), (OkD.strs nf).up (show 1 ≤ 60 by decide), (OkD.strs lf).up (show 1 ≤ 60 by decide), (OkD.intsL _).up (show 1 ≤ 60 by decide), ?_⟩
  · rw [w.h]
    show (headsT5 p r ++ (if y = 1 then [more5] else [])).length ≤ 900
    rw [List.length_append, show (headsT5 p r).length = 2 from rfl]
    split <;> decide
  · rw [w.h]
    rw [List.all_eq_true] at h2
    exact h2
  · refine (OkD.list (n := 9) fun d m => ?_).up (by decide)
    obtain ⟨q, hq, rfl⟩ := List.mem_map.mp m
    obtain ⟨_, q1, q2⟩ := rw' q hq
    refine OkD.tup (n := 8) fun e m2 => ?_
    simp only [List.mem_cons, List.not_mem_nil, or_false] at m2
    rcases m2 with rfl | rfl | rfl | rfl
    · exact OkD.str (strF_is q1).2
    · exact OkD.int _
    · exact (OkD.strs q2).up (show 1 ≤ 8 by decide)
    · exact OkD.bool _
  · rw [w.h]
    exact (OkD.list h4).up (by decide)
/-! ### the one, and the seven others -/
theorem rows_names (ds : List Int) : (rows5 ds).map (·.n) = (rows0 (dgN ds 0 3)).map (·.n) := rfl
theorem rows_fields (ds : List Int) : (rows5 ds).flatMap (·.fs) = (rows0 (dgN ds 0 3)).flatMap (·.fs) := rfl
theorem plan_c : ∀ n < 9, (((decide (1 ≤ (planN n).1) && decide ((planN n).1 ≤ 12)) && decide (radFrom ((planN n).2.map V.int) (planN n).1 0 = none)) && (decide ((planN n).2.length < 4) && (decide ((planN n).1 % 12 + 1 ≤ 12) && decide ((planN n).1 % 12 + 1 ≠ (planN n).1)))) = true := by decide +kernel
theorem rows_c : ∀ o < 3, ∀ u < 8, ∀ v < 8, ∀ a < 2, ∀ b < 2, ((((decide (1 ≤ 3) && decide (3 ≤ 6)) && rowsOk [⟨"node", 1, ["left"], false⟩, ⟨"pair", 1 + ((u : Nat) : Int), ordS o, decide (a = 1)⟩, ⟨"leaf", 1 + ((v : Nat) : Int), [], decide (b = 1)⟩] [])) && ([(⟨"node", 1, ["left"], false⟩ : Row), ⟨"pair", 1 + ((u : Nat) : Int), ordS o, decide (a = 1)⟩, ⟨"leaf", 1 + ((v : Nat) : Int), [], decide (b = 1)⟩].all rowF)) = true := by decide +kernel
theorem bool_dec (b : Bool) : ∃ k < 2, b = decide (k = 1) := by
  cases b with
  | true => exact ⟨1, by decide, rfl⟩
  | false => exact ⟨0, by decide, rfl⟩
theorem rows_ok5 {o : Nat} {u v : Int} {a b : Bool} (ho : o < 3) (u0 : 0 ≤ u) (u8 : u < 8) (v0 : 0 ≤ v) (v8 : v < 8) : rowsOk [⟨"node", 1, ["left"], false⟩, ⟨"pair", 1 + u, ordS o, a⟩, ⟨"leaf", 1 + v, [], b⟩] [] = true ∧ ∀ q ∈ [(⟨"node", 1, ["left"], false⟩ : Row), ⟨"pair", 1 + u, ordS o, a⟩, ⟨"leaf", 1 + v, [], b⟩], rowF q = true := by
  obtain ⟨k, hk, rfl⟩ := bool_dec a
  obtain ⟨j, hj, rfl⟩ := bool_dec b
  have h := rows_c o ho u.toNat (by omega) v.toNat (by omega) k hk j hj
  rw [Int.toNat_of_nonneg u0, Int.toNat_of_nonneg v0, Bool.and_eq_true, Bool.and_eq_true, List.all_eq_true] at h
  exact ⟨h.1.2, h.2⟩
def othP (ds : List Int) (t : Int) (k : Nat) : Pt :=
  if k = 0 then { gOf ds t with rows := [⟨"node", 1, ["left"], false⟩, ⟨"pair", 1 + ds.getD 0 0 % 8, ordS (dgN ds 0 3), decide (ds.getD 1 0 % 2 = 0)⟩, ⟨"leaf", 7, [], !decide (ds.getD 3 0 % 3 = 0)⟩] }
  else if k = 1 then { gOf ds t with bs := bodT ds t ++ [.tuple [.str "emit", .str "x"]] }
  else if k = 2 then { gOf ds t with ns := ["x", "y", "t", "u", "zz"] }
  else if k = 3 then { gOf ds t with ls := ["q", "w", "v"] }
  else if k = 4 then { gOf ds t with th := (planN (dgN ds 9 9)).1 % 12 + 1, ks := [] }
  else if k = 5 then { gOf ds t with fs := (gOf ds t).fs ++ [more5] }
  else { gOf ds t with bs := ((bodT ds t).take 1 ++ [.tuple [.str "repeat", .int (ds.getD 40 0), .list []]]) ++ (bodT ds t).drop 1 }
theorem sumO_drop {f : PyData → Option Nat} : ∀ {xs : List PyData} {a : Nat} (n : Nat), sumO f xs = some a → ∃ u v, sumO f (xs.take n) = some u ∧ sumO f (xs.drop n) = some v ∧ a = u + v
  | xs, a, 0, h => ⟨0, a, rfl, h, (Nat.zero_add _).symm⟩
  | [], a, n + 1, h => ⟨a, 0, h, rfl, rfl⟩
  | x :: xs, a, n + 1, h => by
    obtain ⟨u, v, e1, e2, rfl⟩ := addO_is h
    obtain ⟨p, q, h1, h2, rfl⟩ := sumO_drop n e2
    exact ⟨u + p, q, by show addO (f x) (sumO f (xs.take n)) = _; rw [e1, h1]; rfl, h2, (Nat.add_assoc _ _ _).symm⟩
theorem names_c : (decide (badFrom [] ((["x", "y", "t", "u"] : List Str).map V.str) [] 0 = none) && (decide (badFrom [] ((["x", "y", "t", "u", "zz"] : List Str).map V.str) [] 0 = none) && (decide (badFrom (["x", "y", "t", "u"] : List Str) ((["v", "w", "q"] : List Str).map V.str) [] 0 = none) && (decide (badFrom (["x", "y", "t", "u", "zz"] : List Str) ((["v", "w", "q"] : List Str).map V.str) [] 0 = none) && (decide (badFrom (["x", "y", "t", "u"] : List Str) ((["q", "w", "v"] : List Str).map V.str) [] 0 = none) && (["x", "y", "t", "u", "zz"] : List Str).all strF))))) = true := by decide +kernel
theorem emit_c : ((match vL sc0 5 0 [.tuple [.str "emit", .str "x"]] with
    | some m => decide (m = 1)
    | none => false) && (cpS (cpB 3) (.tuple [.str "emit", .str "x"]) && okB0 3 (.tuple [.str "emit", .str "x"]))) = true := by decide +kernel
theorem eqv_third {a a' b b' c c' : PyData} (h : PyData.eqv c' c = false) : PyData.eqv (.list [a', b', c']) (.list [a, b, c]) = false := by
  simp [PyData.eqv, PyData.eqvAll, h]
theorem eqv_leaf {z z' : Int} {b b' : Bool} (h : b' ≠ b) : PyData.eqv (.tuple [.str "leaf", .int z', .list [], .bool b']) (.tuple [.str "leaf", .int z, .list [], .bool b]) = false := by
  simp [PyData.eqv, PyData.eqvAll, h]
theorem oth_ok {ds : List Int} {t : Int} (t0 : 0 ≤ t) (t1 : t ≤ 2000) (h40 : 0 ≤ ds.getD 40 0 ∧ ds.getD 40 0 ≤ 2000) : (MadeP (gOf ds t) ∧ GoodP (gOf ds t)) ∧ ∀ k < 7, MadeP (othP ds t k) ∧ GoodP (othP ds t k) ∧ eqvP (othP ds t k) (gOf ds t) = false := by
  have ho := dgN_lt ds 0 (show 0 < 3 by decide)
  have hp := dgN_lt ds 4 (show 0 < 2 by decide)
  obtain ⟨⟨m, b1, b2, b3⟩, b4, b5, b6⟩ := bod_ok (ds := ds) t0 t1
  have pl := plan_c _ (dgN_lt ds 9 (show 0 < 9 by decide))
  simp only [Bool.and_eq_true, decide_eq_true_eq] at pl
  obtain ⟨⟨⟨p1, p2⟩, p3⟩, p4, p5, p6⟩ := pl
  have nc := names_c
  simp only [Bool.and_eq_true, decide_eq_true_eq, List.all_eq_true] at nc
  obtain ⟨n1, n2, n3, n4, n5, n6⟩ := nc
  have nf : ∀ s ∈ ns5, strF s = true := fun s m => n6 s (by
    unfold ns5 at m
    simp only [List.mem_cons, List.not_mem_nil, or_false] at m ⊢
    rcases m with rfl | rfl | rfl | rfl <;> simp)
  have u0 := Int.emod_nonneg (ds.getD 0 0) (show (8 : Int) ≠ 0 by decide)
  have u8 := Int.emod_lt_of_pos (ds.getD 0 0) (show (0 : Int) < 8 by decide)
  have v0 := Int.emod_nonneg (ds.getD 2 0) (show (8 : Int) ≠ 0 by decide)
  have v8 := Int.emod_lt_of_pos (ds.getD 2 0) (show (0 : Int) < 8 by decide)
  have rok := fun a b => rows_ok5 (a := a) (b := b) ho u0 u8 v0 v8
  have rok7 := fun a b => rows_ok5 (a := a) (b := b) (v := 6) ho u0 u8 (by decide) (by decide)
  have pa : ∀ (rows : List Row) (ns ls : List Str) (th : Int) (ks : List Int), rows.length = 3 → rowsOk rows [] = true → (decide (1 ≤ ns.length) && decide (ns.length ≤ 8)) = true → badFrom [] (ns.map V.str) [] 0 = none → ls.length = 3 → badFrom ns (ls.map V.str) [] 0 = none → 1 ≤ th → th ≤ 12 → radFrom (ks.map V.int) th 0 = none → Parts rows ns ls th ks := fun rows ns ls th ks h1 h2 h3 h4 h5 h6 h7 h8 h9 =>
    ⟨by rw [h1, h2]; rfl, by rw [h3, decide_eq_true h4]; rfl, by rw [h5, decide_eq_true h6]; rfl, by rw [decide_eq_true h7, decide_eq_true h8]; rfl, h9⟩
  have hh : (gOf ds t).fs = hsN (dgN ds 4 2) (decide (ds.getD 39 0 % 3 = 0)) 0 := by
    unfold hsN
    rw [if_neg (by decide), List.append_nil]
    rfl
  have w0 : Way (gOf ds t) (dgN ds 0 3) (dgN ds 4 2) 0 0 (decide (ds.getD 39 0 % 3 = 0)) := ⟨ho, hp, by decide, by decide, p4, rows_names ds, rows_fields ds, rfl, fun s h => h, hh, ⟨m, b1, by omega⟩, b4, fun d m => (b5 d m).up (by decide)⟩
  have ec := emit_c
  rw [Bool.and_eq_true, Bool.and_eq_true] at ec
  obtain ⟨e1, e2, e3⟩ := ec
  have e1 : vL sc0 5 0 [.tuple [.str "emit", .str "x"]] = some 1 := by
    split at e1
    · rename_i q
      rw [q, of_decide_eq_true e1]
    · cases e1
  have pr : Parts (rows5 ds) ns5 ls5 (planN (dgN ds 9 9)).1 (planN (dgN ds 9 9)).2 := pa _ _ _ _ _ rfl (rok _ _).1 rfl n1 rfl n3 p1 p2 p3
  have lenx : ∀ {xs ys : List PyData}, xs.length ≠ ys.length → PyData.eqvAll xs ys = false := fun {xs} => by
    induction xs with
    | nil =>
      intro ys h
      cases ys with
      | nil => exact absurd rfl h
      | cons y ys => rfl
    | cons x xs ih =>
      intro ys h
      cases ys with
      | nil => rfl
      | cons y ys =>
        show (PyData.eqv x y && PyData.eqvAll xs ys) = false
        rw [ih (fun e => h (by rw [List.length_cons, List.length_cons, e])), Bool.and_false]
  refine ⟨⟨w0.made pr, w0.good (by show 3 ≤ 6; decide) (rok _ _).2 nf⟩, fun k hk => ?_⟩
  match k, hk with
  | 0, _ =>
    have w : Way (othP ds t 0) (dgN ds 0 3) (dgN ds 4 2) 0 0 (decide (ds.getD 39 0 % 3 = 0)) := ⟨ho, hp, by decide, by decide, p4, rfl, rfl, rfl, fun s h => h, hh, ⟨m, b1, by omega⟩, b4, fun d m => (b5 d m).up (by decide)⟩
    refine ⟨w.made (pa _ _ _ _ _ rfl (rok7 _ _).1 rfl n1 rfl n3 p1 p2 p3), w.good (by show 3 ≤ 6; decide) (rok7 _ _).2 nf, ?_⟩
    unfold eqvP
    rw [show PyData.eqv (clsD (othP ds t 0).rows) (clsD (gOf ds t).rows) = false from ?_]
    · rfl
    · exact eqv_third (eqv_leaf (by cases decide (ds.getD 3 0 % 3 = 0) <;> simp))
  | 1, _ =>
    have w : Way (othP ds t 1) (dgN ds 0 3) (dgN ds 4 2) 0 0 (decide (ds.getD 39 0 % 3 = 0)) := ⟨ho, hp, by decide, by decide, p4, rows_names ds, rows_fields ds, rfl, fun s h => h, hh, ⟨m + 1, vL_app b1 e1, by omega⟩, fun d hd => by
      rcases List.mem_append.mp (show d ∈ bodT ds t ++ [_] from hd) with q | q
      · exact b4 d q
      · rw [List.mem_singleton.mp q]; exact e2, fun d hd => by
      rcases List.mem_append.mp (show d ∈ bodT ds t ++ [_] from hd) with q | q
      · exact (b5 d q).up (by decide)
      · rw [List.mem_singleton.mp q]; exact (okB0_is e3).up (by decide)⟩
    refine ⟨w.made pr, w.good (by show 3 ≤ 6; decide) (rok _ _).2 nf, ?_⟩
    unfold eqvP
    rw [show PyData.eqv (.list (othP ds t 1).bs) (.list (gOf ds t).bs) = false from lenx (by
      show (bodT ds t ++ [_]).length ≠ (bodT ds t).length
      rw [List.length_append, List.length_singleton]
      omega)]
    simp
  | 2, _ =>
    have w : Way (othP ds t 2) (dgN ds 0 3) (dgN ds 4 2) 0 0 (decide (ds.getD 39 0 % 3 = 0)) := ⟨ho, hp, by decide, by decide, p4, rows_names ds, rows_fields ds, rfl, fun s h => by
      show s ∈ (["x", "y", "t", "u", "zz"] : List Str)
      unfold ns5 at h
      simp only [List.mem_cons, List.not_mem_nil, or_false] at h ⊢
      rcases h with rfl | rfl | rfl | rfl <;> simp, hh, ⟨m, b1, by omega⟩, b4, fun d m => (b5 d m).up (by decide)⟩
    refine ⟨w.made (pa _ _ _ _ _ rfl (rok _ _).1 rfl n2 rfl n4 p1 p2 p3), w.good (by show 3 ≤ 6; decide) (rok _ _).2 n6, ?_⟩
    unfold eqvP
    rw [show PyData.eqv (strD (othP ds t 2).ns) (strD (gOf ds t).ns) = false from lenx (by show 5 ≠ 4; decide)]
    simp
  | 3, _ =>
    have w : Way (othP ds t 3) (dgN ds 0 3) (dgN ds 4 2) 1 0 (decide (ds.getD 39 0 % 3 = 0)) := ⟨ho, hp, by decide, by decide, p4, rows_names ds, rows_fields ds, rfl, fun s h => h, hh, ⟨m, b1, by omega⟩, b4, fun d m => (b5 d m).up (by decide)⟩
    refine ⟨w.made (pa _ _ _ _ _ rfl (rok _ _).1 rfl n1 rfl n5 p1 p2 p3), w.good (by show 3 ≤ 6; decide) (rok _ _).2 nf, ?_⟩
    unfold eqvP
    rw [show PyData.eqv (strD (othP ds t 3).ls) (strD (gOf ds t).ls) = false from (by decide +kernel : PyData.eqv (strD ["q", "w", "v"]) (strD ls5) = false)]
    simp
  | 4, _ =>
    have w : Way (othP ds t 4) (dgN ds 0 3) (dgN ds 4 2) 0 0 (decide (ds.getD 39 0 % 3 = 0)) := ⟨ho, hp, by decide, by decide, by show 0 < 4; decide, rows_names ds, rows_fields ds, rfl, fun s h => h, hh, ⟨m, b1, by omega⟩, b4, fun d m => (b5 d m).up (by decide)⟩
    refine ⟨w.made (pa _ _ _ _ _ rfl (rok _ _).1 rfl n1 rfl n3 (by
      show 1 ≤ (planN (dgN ds 9 9)).1 % 12 + 1
      have := Int.emod_nonneg (planN (dgN ds 9 9)).1 (show (12 : Int) ≠ 0 by decide)
      omega) p5 rfl), w.good (by show 3 ≤ 6; decide) (rok _ _).2 nf, ?_⟩
    unfold eqvP
    rw [show decide ((othP ds t 4).th = (gOf ds t).th) = false from decide_eq_false p6]
    simp
  | 5, _ =>
    have w : Way (othP ds t 5) (dgN ds 0 3) (dgN ds 4 2) 0 1 (decide (ds.getD 39 0 % 3 = 0)) := ⟨ho, hp, by decide, by decide, p4, rows_names ds, rows_fields ds, rfl, fun s h => h, by
      unfold hsN
      rw [if_pos rfl]
      rfl, ⟨m, b1, by omega⟩, b4, fun d m => (b5 d m).up (by decide)⟩
    refine ⟨w.made pr, w.good (by show 3 ≤ 6; decide) (rok _ _).2 nf, ?_⟩
    unfold eqvP
    rw [show PyData.eqv (.list (othP ds t 5).fs) (.list (gOf ds t).fs) = false from lenx (by
      show ((gOf ds t).fs ++ [_]).length ≠ (gOf ds t).fs.length
      rw [List.length_append, List.length_singleton]
      omega)]
    simp
  | 6, _ =>
    obtain ⟨u, v, q1, q2, rfl⟩ := sumO_drop 1 b1
    have rp : vL sc0 5 0 [.tuple [.str "repeat", .int (ds.getD 40 0), .list []]] = some (1 + 0) := vL_repeat (whole_ok5 h40.1 h40.2) (by decide) rfl
    have mem : ∀ d ∈ (othP ds t 6).bs, d ∈ bodT ds t ∨ d = .tuple [.str "repeat", .int (ds.getD 40 0), .list []] := fun d hd => by
      have hd : d ∈ ((bodT ds t).take 1 ++ [.tuple [.str "repeat", .int (ds.getD 40 0), .list []]]) ++ (bodT ds t).drop 1 := hd
      rw [List.mem_append, List.mem_append, List.mem_singleton] at hd
      rcases hd with (hd | hd) | hd
      · exact .inl (List.mem_of_mem_take hd)
      · exact .inr hd
      · exact .inl (List.mem_of_mem_drop hd)
    have w : Way (othP ds t 6) (dgN ds 0 3) (dgN ds 4 2) 0 0 (decide (ds.getD 39 0 % 3 = 0)) := ⟨ho, hp, by decide, by decide, p4, rows_names ds, rows_fields ds, rfl, fun s h => h, hh, ⟨u + (1 + 0) + v, vL_app (vL_app q1 rp) q2, by omega⟩, fun d hd => by
      rcases mem d hd with q | rfl
      · exact b4 d q
      · exact cpS_rep ⟨_, rfl⟩ (by decide) (fun d m => by cases m), fun d hd => by
      rcases mem d hd with q | rfl
      · exact (b5 d q).up (by decide)
      · exact (okD_rep (k := 0) ⟨_, rfl⟩ (fun d m => by cases m)).up (by decide)⟩
    refine ⟨w.made pr, w.good (by show 3 ≤ 6; decide) (rok _ _).2 nf, ?_⟩
    unfold eqvP
    rw [show PyData.eqv (.list (othP ds t 6).bs) (.list (gOf ds t).bs) = false from lenx (by
      show (((bodT ds t).take 1 ++ [_]) ++ (bodT ds t).drop 1).length ≠ (bodT ds t).length
      rw [List.length_append, List.length_append, List.length_singleton, List.length_take, List.length_drop]
      omega)]
    simp
end K1

set_option Elab.async false
set_option linter.all false
set_option maxRecDepth 100000
set_option maxHeartbeats 8000000
namespace K1
open PySem L2
section
variable {L : List Addr} {σ : St} {H1 : Hp} {t u : TE} {d e : PyData} {ds es : List PyData} {K : PySem.W.Frag} {v : V} {i j : Int}
theorem dt_dget {s : Nat} {a : Addr} {kvs : List (Key × V)} {k : Str} (e : σ[s]? = some (some (.ref a))) (h0 : H1 a = some (.dK kvs)) (hv : valV kvs (Sum.inr k) = some v) (at_ : At (hid L H1) v d) : DT L (tDGet (tVar s) (tC (.str k))) d σ H1 := fun H2 s2 Q q => ⟨_, e, a, v, rfl, dg_some (s2 _ _ h0) hv, q v H2 (Same.refl _) (at_.mono (hid_mono s2))⟩
theorem dt_not {b : Bool} (h : DT L t (.bool b) σ H1) : DT L (tNotV t) (.bool (!b)) σ H1 := fun H2 s Q q => h H2 s _ fun v H3 s3 a => by
  cases a
  exact ⟨b, rfl, q _ H3 s3 (.bl _)⟩
theorem ve_dg0 {s j : Nat} {z : Int} {dg : Addr} {xs : List Int} (e : σ[s]? = some (some (.ref dg))) (h : H1 dg = some (.lst (xs.map V.int))) (hj : xs[j]? = some z) (ij : i = (j : Int)) : VE (tOp (rIxL K) (tVar s) (tC (.int i))) (.int z) σ H1 := fun H2 s2 Q q => by
  subst ij
  exact ⟨_, e, dg, _, _, _, rfl, rfl, SqL.of (s2 _ _ h), atI_nat (by rw [List.getElem?_map, hj]; rfl), q⟩
theorem put_dt {s : Nat} {key : Str} {o : Addr} {kvs : List (Key × V)} {D : Ends} (h : DT L t d σ H1) (e : σ[s]? = some (some (.ref o))) (ho : H1 o = some (.dK kvs)) (few : kvs.length < sizeLine) (k : ∀ v H4, Same H1 H4 → At (hid L H4) v d → D.nx σ (upd H4 o (.dK (putK kvs (Sum.inr key) v)))) : sDPut (tVar s) (tC (.str key)) t D σ H1 := h H1 (Same.refl _) _ fun v H4 s4 a => ⟨_, e, o, _, rfl, DPut.k (k := Sum.inr key) (s4 _ _ ho) few, k v H4 s4 a⟩
end
theorem DSub_putK_len (c : List (Key × V)) (k : Key) (x : V) : (putK c k x).length ≤ c.length + 1 := by
  cases e : valV c k with
  | none =>
    rw [putK_new x e, List.length_append]
    exact Nat.le_refl _
  | some v =>
    unfold putK
    split
    · rw [List.length_map]; omega
    · rw [List.length_append]; exact Nat.le_refl _
/-! ### the seven others -/
def OtI (H : Hp) (l : Addr) (ds : List Int) (t : Int) (i : Nat) (H1 : Hp) : Prop := H l = none ∧ Same H H1 ∧ ∃ us : List V, H1 l = some (.lst us) ∧ us.length = i ∧ ∀ j, j < i → ∃ o, us[j]? = some (.ref o) ∧ PaAt (hid [l] H1) o (othP ds t j)
theorem OtI.push {H H1 H4 : Hp} {l o : Addr} {ds : List Int} {t : Int} {i : Nat} {us : List V} (h : OtI H l ds t i H1) (s : Same H1 H4) (hl : H4 l = some (.lst us)) (p : PaAt (hid [l] H4) o (othP ds t i)) : OtI H l ds t (i + 1) (upd H4 l (.lst (us ++ [.ref o]))) := by
  obtain ⟨n, s1, ws, e, hw, h⟩ := h
  rw [s _ _ e] at hl
  cases hl
  refine ⟨n, same_updL (s1.trans s) n, _, upd_same, by rw [List.length_append, hw]; rfl, fun j hj => ?_⟩
  rw [hid_upd (by simp)]
  by_cases c : j < i
  · obtain ⟨q, e1, e2⟩ := h j c
    exact ⟨q, by rw [List.getElem?_append_left (by omega)]; exact e1, e2.mono (hid_mono s)⟩
  · have e : j = i := by omega
    subst e
    exact ⟨o, by rw [List.getElem?_append_right (by omega), hw, Nat.sub_self]; rfl, p⟩
section
variable {P : Program} {w : World} {K : PySem.W.Frag} {mg : Str → Option Value} {base : Heap} {CP : Addr} {f : Addr} {fd : FuncData}
def spOth : Sp := fun vs H Q _ => ∃ (a dg : Addr) (ds : List Int) (t : Int), vs = [.ref a, .ref dg] ∧ PaAt H a (gOf ds t) ∧ (∀ kvs, H a = some (.dK kvs) → kvs.length ≤ 100) ∧ H dg = some (.lst (ds.map V.int)) ∧ ds.length = 50 ∧ 0 ≤ t ∧ t ≤ 2000 ∧ ∀ l H', OtI H l ds t 7 H' → Q (.ref l) H'
theorem sc44 : FnScope ["_law_parts", "_law_digits_here", "_law_found", "_law_k", "_law_other", "_law_swapped"] ["_law_parts", "_law_digits_here"] (defScope (top 44)) := ⟨rfl, rfl, rfl, by decide +kernel, rfl, by decide +kernel, by decide +kernel⟩
theorem ok44 (F : Fun K "_law_others" "_law_others" (top 44) f fd) (B : Blt mg) (B5 : Blt5 mg) : FnOk P w K mg base CX0 1 f fd ["_law_parts", "_law_digits_here"] spOth := by
  refine F.ok sc44 (fun vs H Q E h => ?_) (fun cdv A outer s H vs Q E hr h => ?_)
  · obtain ⟨a, dg, ds, t, rfl, _⟩ := h
    rfl
  · obtain ⟨a, dg, ds, t, rfl, ⟨kvs, c, b, n, lw, r, f, h0, hlen, h1, h2, h3, h4, h5, h6, h7⟩, hsm, hdg, hln, t0, t1, k⟩ := h
    have hlen := hsm _ h0
    have hu := hu_of hr
    have big : 1000 ≤ sizeLine := by decide
    obtain ⟨⟨mb, bo1, bo2, _⟩, _⟩ := bod_ok (ds := ds) t0 t1
    have bl := len_vL bo1
    refine ⟨_, (pss_mid (ps_set (i := 2) sc44.nd rfl (Or.inl rfl) (pe_lst pa_nil))
      (pss_mid (ps_for PassesOwn.never rfl (pi_range1 rfl B.range (pa_cons pe_int pa_nil)) (pg_name (i := 3) sc44.nd rfl (Or.inl rfl))
        (pss_mid (ps_set (i := 4) sc44.nd rfl (Or.inl rfl) (pe_callTy call_dictD rfl B5.dict (by decide +kernel) (pa_cons (pv 0) pa_nil)))
      (pss_mid (ps_if (pt_cmpR op_eq (pv 3) pe_int (nomark _)) (pss_one (ps_dput hu (pv 4) pe_str (pe_op op_cat (pe_slice sl_list (pe_dget hu (pv 0) pe_str (fun _ _ => rfl)) po_none (po_some pe_int)) (pe_lst (pa_cons (pe_tup (pa_cons pe_str (pa_cons pe_int (pa_cons (pe_lst pa_nil) (pa_cons (pe_not (pe_ix ix_tup (pe_ix ix_list (pe_dget hu (pv 0) pe_str (fun _ _ => rfl)) pe_int (fun _ _ => rfl)) pe_int (fun _ _ => rfl))) pa_nil))))) pa_nil))) rfl)) (pss_one (ps_if (pt_cmpR op_eq (pv 3) pe_int (nomark _)) (pss_one (ps_dput hu (pv 4) pe_str (pe_op op_cat (pe_dget hu (pv 0) pe_str (fun _ _ => rfl)) (pe_lst (pa_cons (pe_tup (pa_cons pe_str (pa_cons pe_str pa_nil))) pa_nil))) rfl)) (pss_one (ps_if (pt_cmpR op_eq (pv 3) pe_int (nomark _)) (pss_one (ps_dput hu (pv 4) pe_str (pe_op op_cat (pe_dget hu (pv 0) pe_str (fun _ _ => rfl)) (pe_lst (pa_cons pe_str pa_nil))) rfl)) (pss_one (ps_if (pt_cmpR op_eq (pv 3) pe_int (nomark _)) (pss_one (ps_dput hu (pv 4) pe_str (pe_lst (pa_cons pe_str (pa_cons pe_str (pa_cons pe_str pa_nil)))) rfl)) (pss_one (ps_if (pt_cmpR op_eq (pv 3) pe_int (nomark _)) (pss_mid (ps_dput hu (pv 4) pe_str (pe_op op_add (pe_op op_mod (pe_callTy call_int1 rfl B.int PyProof.Rows.boot_int (pa_cons (pe_dget hu (pv 0) pe_str (fun _ _ => rfl)) pa_nil)) pe_int) pe_int) rfl)
      (pss_one (ps_dput hu (pv 4) pe_str (pe_lst pa_nil) rfl))) (pss_one (ps_if (pt_cmpR op_eq (pv 3) pe_int (nomark _)) (pss_one (ps_dput hu (pv 4) pe_str (pe_op op_cat (pe_dget hu (pv 0) pe_str (fun _ _ => rfl)) (pe_lst (pa_cons (pe_tup (pa_cons pe_str (pa_cons (pe_lst pa_nil) (pa_cons (pe_lst pa_nil) (pa_cons (pe_lst pa_nil) (pa_cons pe_non pa_nil)))))) pa_nil))) rfl)) (pss_mid (ps_set (i := 5) sc44.nd rfl (Or.inl rfl) (pe_op op_cat (pe_op op_cat (pe_slice sl_list (pe_dget hu (pv 0) pe_str (fun _ _ => rfl)) po_none (po_some pe_int)) (pe_lst (pa_cons (pe_tup (pa_cons pe_str (pa_cons (pe_ix ix_list (pv 1) pe_int (fun _ _ => rfl)) (pa_cons (pe_lst pa_nil) pa_nil)))) pa_nil))) (pe_slice sl_list (pe_dget hu (pv 0) pe_str (fun _ _ => rfl)) (po_some pe_int) po_none)))
      (pss_one (ps_dput hu (pv 4) pe_str (pv 5) rfl))))))))))))))
      (pss_one (ps_expr (pe_bm PySem.F.plainAttrs_list PySem.F.slot_list_append PySem.F.type_list_append mt_append (pv 2) (pa_cons (pv 4) pa_nil)))))))
      (pss_one (ps_ret (pv 2))))), ?_⟩
    refine ⟨fun σ H1 => ∃ l : Addr, σ = [some (.ref a), some (.ref dg), some (.ref l), none, none, none] ∧ OtI H l ds t 0 H1, ⟨Nat.zero_le _, fun l nl => ⟨l, rfl, nl, same_new (Same.refl _) nl, [], upd_same, rfl, fun j hj => by omega⟩⟩, ?_⟩
    rintro σ H0 ⟨l, rfl, ot0⟩
    have nl := ot0.1
    refine ⟨fun σ H1 => ∃ v3 v4 v5 : Option V, σ = [some (.ref a), some (.ref dg), some (.ref l), v3, v4, v5] ∧ OtI H l ds t 7 H1, ⟨7, rfl, by decide, by decide, ?_⟩, ?_⟩
    rotate_left
    · rintro σ H1 ⟨v3, v4, v5, rfl, ot⟩
      exact ⟨_, rfl, k l H1 ot⟩
    refine for_range (n := 7) (fun i σ H1 => ∃ v3 v4 v5 : Option V, σ = [some (.ref a), some (.ref dg), some (.ref l), v3, v4, v5] ∧ OtI H l ds t i H1) ⟨none, none, none, rfl, ot0⟩ ?_ (fun σ H1 h => h)
    rintro i σ H1 hi ⟨v3, v4, v5, rfl, ot⟩
    have s1 := ot.2.1
    -- a copy
    refine ⟨fun σ H3 => ∃ o : Addr, σ = [some (.ref a), some (.ref dg), some (.ref l), some (.int (0 + ((i : Nat) : Int))), some (.ref o), v5] ∧ H1 o = none ∧ H3 = upd H1 o (.dK kvs), ⟨_, rfl, a, kvs, rfl, .inl (s1 _ _ h0), fun o no => ⟨o, rfl, no, rfl⟩⟩, ?_⟩
    rintro σ H3 ⟨o, rfl, no, rfl⟩
    have s13 : Same H1 (upd H1 o (.dK kvs)) := same_new (Same.refl _) no
    have ho : (upd H1 o (.dK kvs)) o = some (.dK kvs) := upd_same
    have noH : H o = none := none_of' s1 no
    obtain ⟨us, hl1, hul⟩ : ∃ us : List V, H1 l = some (.lst us) ∧ us.length = i := by
      obtain ⟨_, _, us, e, hl, _⟩ := ot
      exact ⟨us, e, hl⟩
    have nlo : l ≠ o := fun z => by rw [← z, hl1] at no; cases no
    generalize hH3 : upd H1 o (.dK kvs) = H3 at s13 ho
    have lv : Live [l, o] H3 := fun b m => by
      simp only [List.mem_cons, List.not_mem_nil, or_false] at m
      rcases m with rfl | rfl
      · rw [s13 _ _ hl1]; exact fun z => nomatch z
      · rw [ho]; exact fun z => nomatch z
    have h0x := s13 _ _ (s1 _ _ h0)
    have oldx : ∀ {v : V} {d : PyData}, At H v d → At (hid [l, o] H3) v d := fun a => a.mono (hid_of (fun b m => by
      simp only [List.mem_cons, List.not_mem_nil, or_false] at m
      rcases m with rfl | rfl
      · exact nl
      · exact noH) (s1.trans s13))
    have lenk : kvs.length < sizeLine := by omega
    have oldS : ∀ {H4 : Hp} {X : HO}, Same H3 H4 → Same H (hid [l] (upd H4 o X)) := fun s4 => hid_of (fun b m => by rw [List.mem_singleton.mp m]; exact nl) (same_updL (s1.trans (s13.trans s4)) noH)
    have newSX : ∀ {H4 : Hp} {X : HO}, Same (hid [l, o] H4) (hid [l] (upd H4 o X)) := fun {H4 X} b u e => by
      have nb : b ∉ [l, o] := fun m => by
        unfold hid at e
        rw [if_pos m] at e
        cases e
      rw [hid_ne nb] at e
      simp only [List.mem_cons, List.not_mem_nil, or_false, not_or] at nb
      rw [hid_ne (by simp [nb.1]), upd_ne nb.2]
      exact e
    have newS : ∀ {H4 : Hp} {X : HO}, Same H3 H4 → Same (hid [l, o] H4) (hid [l] (upd H4 o X)) := fun _ => newSX
    have ho4 : ∀ {H4 : Hp} {X : HO}, Same H3 H4 → (hid [l] (upd H4 o X)) o = some X := fun _ => by rw [hid_ne (by simp [nlo.symm]), upd_same]
    have putlen : ∀ (key : Str) (v : V), (putK kvs (Sum.inr key) v).length ≤ 200 := fun key v => by
      have := DSub_putK_len kvs (Sum.inr key) v
      omega
    refine ⟨fun σ H4 => ∃ (o : Addr) (v5 : Option V), σ = [some (.ref a), some (.ref dg), some (.ref l), some (.int (0 + ((i : Nat) : Int))), some (.ref o), v5] ∧ Same H1 H4 ∧ H1 o = none ∧ PaAt (hid [l] H4) o (othP ds t i), ?_, ?_⟩
    rotate_left
    · rintro σ H4 ⟨o, v5, rfl, s14, no, p⟩
      exact ⟨_, rfl, .inl ⟨rfl, _, SqL.of (s14 _ _ hl1)⟩, _, rfl, l, us, _, rfl, rfl, s14 _ _ hl1, by omega, _, _, _, rfl, ot.push s14 (s14 _ _ hl1) p⟩
    match i, hi with
    | 0, _ =>
      refine ⟨_, rfl, rfl, _, rfl, ?_⟩
      refine iteT ?_
      refine put_dt (d := clsD (othP ds t 0).rows) (dt_cat lv (dt_to (i := 2) lv (dt_dget rfl h0x h1.1 (oldx h1.2)) ve_int (by decide)) (dt_lst lv (dt_cons (dt_tup lv (dt_cons (dt_l dl_str lv) (dt_cons (dt_l dl_int lv) (dt_cons (dt_l (dl_lst dl_nil (by show 0 ≤ sizeLine; decide)) lv) (dt_cons (dt_not (dt_ixT (n := 3) (d := .bool (decide (ds.getD 3 0 % 3 = 0))) (dt_ixL (n := 2) (dt_dget rfl h0x h1.1 (oldx h1.2)) ve_int rfl rfl) ve_int rfl rfl)) dt_nil)))) (by show 4 ≤ sizeLine; decide)) dt_nil) (by show 1 ≤ sizeLine; decide)) (by show 2 + 1 ≤ sizeLine; decide)) rfl ho lenk fun v H4 s4 av => ?_
      have old : ∀ {v' : V} {d : PyData}, At H v' d → At (hid [l] (upd H4 o (.dK (putK kvs (Sum.inr ("classes" : Str)) v)))) v' d := fun a => a.mono (oldS s4)
      have lenp := putlen "classes" v
      exact ⟨o, _, rfl, same_updL (s13.trans s4) no, no, ⟨_, v, b, n, lw, r, f, ho4 s4, by exact lenp, ⟨by rw [valV_put, if_pos rfl], av.mono (newS s4)⟩, ⟨by rw [valV_put, if_neg (by decide +kernel)]; exact h2.1, old h2.2⟩, ⟨by rw [valV_put, if_neg (by decide +kernel)]; exact h3.1, old h3.2⟩, ⟨by rw [valV_put, if_neg (by decide +kernel)]; exact h4.1, old h4.2⟩, by rw [valV_put, if_neg (by decide +kernel)]; exact h5, ⟨by rw [valV_put, if_neg (by decide +kernel)]; exact h6.1, old h6.2⟩, ⟨by rw [valV_put, if_neg (by decide +kernel)]; exact h7.1, old h7.2⟩⟩⟩
    | 1, _ =>
      refine ⟨_, rfl, rfl, _, rfl, ?_⟩
      refine iteF ?_
      refine ⟨_, rfl, rfl, _, rfl, ?_⟩
      refine iteT ?_
      refine put_dt (d := .list (othP ds t 1).bs) (dt_cat lv (dt_dget rfl h0x h2.1 (oldx h2.2)) (dt_l (dl_lst (dl_cons (dl_tup (dl_cons dl_str (dl_cons dl_str dl_nil)) (by show 2 ≤ sizeLine; decide)) dl_nil) (by show 1 ≤ sizeLine; decide)) lv) (by show (bodT ds t).length + 1 ≤ sizeLine; omega)) rfl ho lenk fun v H4 s4 av => ?_
      have old : ∀ {v' : V} {d : PyData}, At H v' d → At (hid [l] (upd H4 o (.dK (putK kvs (Sum.inr ("body" : Str)) v)))) v' d := fun a => a.mono (oldS s4)
      have lenp := putlen "body" v
      exact ⟨o, _, rfl, same_updL (s13.trans s4) no, no, ⟨_, c, v, n, lw, r, f, ho4 s4, by exact lenp, ⟨by rw [valV_put, if_neg (by decide +kernel)]; exact h1.1, old h1.2⟩, ⟨by rw [valV_put, if_pos rfl], av.mono (newS s4)⟩, ⟨by rw [valV_put, if_neg (by decide +kernel)]; exact h3.1, old h3.2⟩, ⟨by rw [valV_put, if_neg (by decide +kernel)]; exact h4.1, old h4.2⟩, by rw [valV_put, if_neg (by decide +kernel)]; exact h5, ⟨by rw [valV_put, if_neg (by decide +kernel)]; exact h6.1, old h6.2⟩, ⟨by rw [valV_put, if_neg (by decide +kernel)]; exact h7.1, old h7.2⟩⟩⟩
    | 2, _ =>
      refine ⟨_, rfl, rfl, _, rfl, ?_⟩
      refine iteF ?_
      refine ⟨_, rfl, rfl, _, rfl, ?_⟩
      refine iteF ?_
      refine ⟨_, rfl, rfl, _, rfl, ?_⟩
      refine iteT ?_
      refine put_dt (d := strD (othP ds t 2).ns) (dt_cat lv (dt_dget rfl h0x h3.1 (oldx h3.2)) (dt_l (dl_lst (dl_cons dl_str dl_nil) (by show 1 ≤ sizeLine; decide)) lv) (by show 4 + 1 ≤ sizeLine; decide)) rfl ho lenk fun v H4 s4 av => ?_
      have old : ∀ {v' : V} {d : PyData}, At H v' d → At (hid [l] (upd H4 o (.dK (putK kvs (Sum.inr ("variables" : Str)) v)))) v' d := fun a => a.mono (oldS s4)
      have lenp := putlen "variables" v
      exact ⟨o, _, rfl, same_updL (s13.trans s4) no, no, ⟨_, c, b, v, lw, r, f, ho4 s4, by exact lenp, ⟨by rw [valV_put, if_neg (by decide +kernel)]; exact h1.1, old h1.2⟩, ⟨by rw [valV_put, if_neg (by decide +kernel)]; exact h2.1, old h2.2⟩, ⟨by rw [valV_put, if_pos rfl], av.mono (newS s4)⟩, ⟨by rw [valV_put, if_neg (by decide +kernel)]; exact h4.1, old h4.2⟩, by rw [valV_put, if_neg (by decide +kernel)]; exact h5, ⟨by rw [valV_put, if_neg (by decide +kernel)]; exact h6.1, old h6.2⟩, ⟨by rw [valV_put, if_neg (by decide +kernel)]; exact h7.1, old h7.2⟩⟩⟩
    | 3, _ =>
      refine ⟨_, rfl, rfl, _, rfl, ?_⟩
      refine iteF ?_
      refine ⟨_, rfl, rfl, _, rfl, ?_⟩
      refine iteF ?_
      refine ⟨_, rfl, rfl, _, rfl, ?_⟩
      refine iteF ?_
      refine ⟨_, rfl, rfl, _, rfl, ?_⟩
      refine iteT ?_
      refine put_dt (d := strD (othP ds t 3).ls) (dt_l (dl_lst (dl_cons dl_str (dl_cons dl_str (dl_cons dl_str dl_nil))) (by show 3 ≤ sizeLine; decide)) lv) rfl ho lenk fun v H4 s4 av => ?_
      have old : ∀ {v' : V} {d : PyData}, At H v' d → At (hid [l] (upd H4 o (.dK (putK kvs (Sum.inr ("weak" : Str)) v)))) v' d := fun a => a.mono (oldS s4)
      have lenp := putlen "weak" v
      exact ⟨o, _, rfl, same_updL (s13.trans s4) no, no, ⟨_, c, b, n, v, r, f, ho4 s4, by exact lenp, ⟨by rw [valV_put, if_neg (by decide +kernel)]; exact h1.1, old h1.2⟩, ⟨by rw [valV_put, if_neg (by decide +kernel)]; exact h2.1, old h2.2⟩, ⟨by rw [valV_put, if_neg (by decide +kernel)]; exact h3.1, old h3.2⟩, ⟨by rw [valV_put, if_pos rfl], av.mono (newS s4)⟩, by rw [valV_put, if_neg (by decide +kernel)]; exact h5, ⟨by rw [valV_put, if_neg (by decide +kernel)]; exact h6.1, old h6.2⟩, ⟨by rw [valV_put, if_neg (by decide +kernel)]; exact h7.1, old h7.2⟩⟩⟩
    | 4, _ =>
      refine ⟨_, rfl, rfl, _, rfl, ?_⟩
      refine iteF ?_
      refine ⟨_, rfl, rfl, _, rfl, ?_⟩
      refine iteF ?_
      refine ⟨_, rfl, rfl, _, rfl, ?_⟩
      refine iteF ?_
      refine ⟨_, rfl, rfl, _, rfl, ?_⟩
      refine iteF ?_
      refine ⟨_, rfl, rfl, _, rfl, ?_⟩
      refine iteT ?_
      refine ⟨fun σ H4 => σ = [some (.ref a), some (.ref dg), some (.ref l), some (.int (0 + ((4 : Nat) : Int))), some (.ref o), v5] ∧ H4 = upd H3 o (.dK (putK kvs (Sum.inr ("threshold" : Str)) (.int (othP ds t 4).th))), ?_, ?_⟩
      · exact ⟨_, rfl, a, _, rfl, dg_some (s13 _ _ (s1 _ _ h0)) h5, .inl ⟨_, rfl, _, _, rfl, rfl, (by show (0 : Int) < 12; decide), _, _, rfl, rfl, _, rfl, o, _, rfl, DPut.k (k := Sum.inr ("threshold" : Str)) ho lenk, rfl, rfl⟩⟩
      rintro σ H4 ⟨rfl, rfl⟩
      have lenp0 := putlen "threshold" (.int (othP ds t 4).th)
      have lv4 : Live [l, o] (upd H3 o (.dK (putK kvs (Sum.inr ("threshold" : Str)) (.int (othP ds t 4).th)))) := fun b m => by
        by_cases e : b = o
        · rw [e, upd_same]; exact fun z => nomatch z
        · rw [upd_ne e]; exact lv b m
      refine put_dt (d := intD (othP ds t 4).ks) (dt_l (dl_lst dl_nil (by show 0 ≤ sizeLine; decide)) lv4) rfl upd_same (by omega) fun v H4 s4 av => ?_
      have s4' : ∀ b u, H3 b = some u → b ≠ o → H4 b = some u := fun b u e n => s4 _ _ (by rw [upd_ne n]; exact e)
      have oz : ∀ {X : HO}, Same H (hid [l] (upd H4 o X)) := fun {X} => hid_of (fun b m => by rw [List.mem_singleton.mp m]; exact nl) (fun b u e => by
        have nb : b ≠ o := fun z => by rw [z, noH] at e; cases e
        rw [upd_ne nb]; exact s4' _ _ (s13 _ _ (s1 _ _ e)) nb)
      have old : ∀ {v' : V} {d : PyData}, At H v' d → At (hid [l] (upd H4 o (.dK (putK (putK kvs (Sum.inr ("threshold" : Str)) (.int (othP ds t 4).th)) (Sum.inr ("radices" : Str)) v)))) v' d := fun a => a.mono oz
      have lenp : (putK (putK kvs (Sum.inr ("threshold" : Str)) (.int (othP ds t 4).th)) (Sum.inr ("radices" : Str)) v).length ≤ 200 := by
        have := DSub_putK_len (putK kvs (Sum.inr ("threshold" : Str)) (.int (othP ds t 4).th)) (Sum.inr ("radices" : Str)) v
        have := DSub_putK_len kvs (Sum.inr ("threshold" : Str)) (.int (othP ds t 4).th)
        omega
      exact ⟨o, _, rfl, fun b u e => by
        have nb : b ≠ o := fun z => by rw [z, no] at e; cases e
        rw [upd_ne nb]; exact s4' _ _ (s13 _ _ e) nb, no, ⟨_, c, b, n, lw, v, f, (by rw [hid_ne (by simp [nlo.symm]), upd_same]), by exact lenp, ⟨by rw [valV_put, if_neg (by decide +kernel)]; rw [valV_put, if_neg (by decide +kernel)]; exact h1.1, old h1.2⟩, ⟨by rw [valV_put, if_neg (by decide +kernel)]; rw [valV_put, if_neg (by decide +kernel)]; exact h2.1, old h2.2⟩, ⟨by rw [valV_put, if_neg (by decide +kernel)]; rw [valV_put, if_neg (by decide +kernel)]; exact h3.1, old h3.2⟩, ⟨by rw [valV_put, if_neg (by decide +kernel)]; rw [valV_put, if_neg (by decide +kernel)]; exact h4.1, old h4.2⟩, by rw [valV_put, if_neg (by decide +kernel)]; rw [valV_put, if_pos rfl], ⟨by rw [valV_put, if_pos rfl], av.mono (newSX)⟩, ⟨by rw [valV_put, if_neg (by decide +kernel)]; rw [valV_put, if_neg (by decide +kernel)]; exact h7.1, old h7.2⟩⟩⟩
    | 5, _ =>
      refine ⟨_, rfl, rfl, _, rfl, ?_⟩
      refine iteF ?_
      refine ⟨_, rfl, rfl, _, rfl, ?_⟩
      refine iteF ?_
      refine ⟨_, rfl, rfl, _, rfl, ?_⟩
      refine iteF ?_
      refine ⟨_, rfl, rfl, _, rfl, ?_⟩
      refine iteF ?_
      refine ⟨_, rfl, rfl, _, rfl, ?_⟩
      refine iteF ?_
      refine ⟨_, rfl, rfl, _, rfl, ?_⟩
      refine iteT ?_
      refine put_dt (d := .list (othP ds t 5).fs) (dt_cat lv (dt_dget rfl h0x h7.1 (oldx h7.2)) (dt_l (dl_lst (dl_cons (dl_tup (dl_cons dl_str (dl_cons (dl_lst dl_nil (by show 0 ≤ sizeLine; decide)) (dl_cons (dl_lst dl_nil (by show 0 ≤ sizeLine; decide)) (dl_cons (dl_lst dl_nil (by show 0 ≤ sizeLine; decide)) (dl_cons dl_non dl_nil))))) (by show 5 ≤ sizeLine; decide)) dl_nil) (by show 1 ≤ sizeLine; decide)) lv) (by show 2 + 1 ≤ sizeLine; decide)) rfl ho lenk fun v H4 s4 av => ?_
      have old : ∀ {v' : V} {d : PyData}, At H v' d → At (hid [l] (upd H4 o (.dK (putK kvs (Sum.inr ("functions" : Str)) v)))) v' d := fun a => a.mono (oldS s4)
      have lenp := putlen "functions" v
      exact ⟨o, _, rfl, same_updL (s13.trans s4) no, no, ⟨_, c, b, n, lw, r, v, ho4 s4, by exact lenp, ⟨by rw [valV_put, if_neg (by decide +kernel)]; exact h1.1, old h1.2⟩, ⟨by rw [valV_put, if_neg (by decide +kernel)]; exact h2.1, old h2.2⟩, ⟨by rw [valV_put, if_neg (by decide +kernel)]; exact h3.1, old h3.2⟩, ⟨by rw [valV_put, if_neg (by decide +kernel)]; exact h4.1, old h4.2⟩, by rw [valV_put, if_neg (by decide +kernel)]; exact h5, ⟨by rw [valV_put, if_neg (by decide +kernel)]; exact h6.1, old h6.2⟩, ⟨by rw [valV_put, if_pos rfl], av.mono (newS s4)⟩⟩⟩
    | 6, _ =>
      refine ⟨_, rfl, rfl, _, rfl, ?_⟩
      refine iteF ?_
      refine ⟨_, rfl, rfl, _, rfl, ?_⟩
      refine iteF ?_
      refine ⟨_, rfl, rfl, _, rfl, ?_⟩
      refine iteF ?_
      refine ⟨_, rfl, rfl, _, rfl, ?_⟩
      refine iteF ?_
      refine ⟨_, rfl, rfl, _, rfl, ?_⟩
      refine iteF ?_
      refine ⟨_, rfl, rfl, _, rfl, ?_⟩
      refine iteF ?_
      refine ⟨fun σ H4 => ∃ w : V, σ = [some (.ref a), some (.ref dg), some (.ref l), some (.int (0 + ((6 : Nat) : Int))), some (.ref o), some w] ∧ Same H3 H4 ∧ At (hid [l, o] H4) w (.list (othP ds t 6).bs), set_dt (dt_cat lv (dt_cat lv (dt_to (i := 1) lv (dt_dget rfl h0x h2.1 (oldx h2.2)) ve_int (by decide)) (dt_lst lv (dt_cons (dt_tup lv (dt_cons (dt_l dl_str lv) (dt_cons (dt_int (ve_dg0 (j := 40) rfl (s13 _ _ (s1 _ _ hdg)) (dg_get hln 40 (by decide)) rfl)) (dt_cons (dt_l (dl_lst dl_nil (by show 0 ≤ sizeLine; decide)) lv) dt_nil))) (by show 3 ≤ sizeLine; decide)) dt_nil) (by show 1 ≤ sizeLine; decide)) (by rw [List.length_take]; show _ + 1 ≤ sizeLine; omega)) (dt_from (i := 1) lv (dt_dget rfl h0x h2.1 (oldx h2.2)) ve_int (by decide)) (by have e0 : (gOf ds t).bs.length = (bodT ds t).length := rfl; rw [List.length_append, List.length_take, List.length_drop, e0]; show _ + 1 + _ ≤ sizeLine; omega)) fun v H4 s a => ⟨v, rfl, s, a⟩, ?_⟩
      rintro σ H4 ⟨w, rfl, s34, aw⟩
      refine ⟨_, rfl, _, rfl, o, _, rfl, DPut.k (k := Sum.inr ("body" : Str)) (s34 _ _ ho) lenk, ?_⟩
      have old : ∀ {v : V} {d : PyData}, At H v d → At (hid [l] (upd H4 o (.dK (putK kvs (Sum.inr ("body" : Str)) w)))) v d := fun a => a.mono (oldS s34)
      have lenp := putlen "body" w
      exact ⟨o, _, rfl, same_updL (s13.trans s34) no, no, ⟨_, c, w, n, lw, r, f, ho4 s34, by exact lenp, ⟨by rw [valV_put, if_neg (by decide +kernel)]; exact h1.1, old h1.2⟩, ⟨by rw [valV_put, if_pos rfl], aw.mono (newS s34)⟩, ⟨by rw [valV_put, if_neg (by decide +kernel)]; exact h3.1, old h3.2⟩, ⟨by rw [valV_put, if_neg (by decide +kernel)]; exact h4.1, old h4.2⟩, by rw [valV_put, if_neg (by decide +kernel)]; exact h5, ⟨by rw [valV_put, if_neg (by decide +kernel)]; exact h6.1, old h6.2⟩, ⟨by rw [valV_put, if_neg (by decide +kernel)]; exact h7.1, old h7.2⟩⟩⟩
end
end K1

set_option Elab.async false
set_option linter.all false
set_option maxRecDepth 100000
set_option maxHeartbeats 8000000
namespace K1
open PySem L2
theorem eqv_nil : PyData.eqv (.list []) (.list []) = true := by
  rw [PyData.eqv, PyData.eqvAll]
theorem eqv_some {x : PyData} {xs : List PyData} : PyData.eqv (.list (x :: xs)) (.list []) = false := by
  rw [PyData.eqv, PyData.eqvAll]
theorem shaped_ints (ks : List Int) : SeqAt.shaped (.list (ks.map PyData.int)) = true := (OkD.facts (OkD.up (n := 1) (OkD.list fun d m => by
  obtain ⟨i, _, rfl⟩ := List.mem_map.mp m
  exact OkD.int i) (by decide))).2.1
theorem dp_ints {K : PySem.W.Frag} {H : Hp} : ∀ ks : List Int, DpAll K H (ks.map V.int) (ks.map PyData.int)
  | [] => .nil
  | k :: ks => .cons (.int k) (dp_ints ks)
theorem cut_ints (ns : List Int) (lo hi : Option Int) : ∃ zs : List Int, cutV (ns.map V.int) lo hi = zs.map V.int := by
  unfold cutV
  rw [← List.map_drop, ← List.map_take]
  exact ⟨_, rfl⟩

/-! ### == of programs in a test -/
section
variable {σ : St} {H1 : Hp} {t u : TE} {K : PySem.W.Frag} {CP p q : Addr} {g g' : Pt} {neg : Bool} {d e : PyData} {ds : List PyData} {i : Int}
theorem pg_ins {G : Hp} (h : PgIn G CP p g) : ∃ dx fs, G p = some (.ins CP dx fs) := by
  obtain ⟨dx, _, _, _, _, _, _, h, _⟩ := h
  exact ⟨_, _, h⟩
theorem be_own {x : V} (h : VE t (.ref p) σ H1) (r : VE u (.ref q) σ H1) (pg : PgIn H1 CP p g) (pq : PgIn H1 CP q g') (gd : GoodP g) (gd' : GoodP g') : BE (tTest (tOp (rOwnE CP (spEq5 CP) E0 neg) t u)) (neg != eqvP g g') σ H1 := fun H2 s Q k => h H2 s _ (r H2 s _ (by
  have pg := pg.mono s
  have pq := pq.mono s
  obtain ⟨dx, fs, hp⟩ := pg_ins pg
  obtain ⟨dy, gs, hq⟩ := pg_ins pq
  exact ⟨p, dx, fs, rfl, hp, .ins hq, p, .ref q, g, rfl, pg, gd, .inl ⟨q, g', rfl, pq, gd', _, rfl, _, rfl, k H2 (Same.refl _)⟩⟩))
theorem be_ownD {kvs : List (Key × V)} (h : VE t (.ref p) σ H1) (r : VE u (.ref q) σ H1) (pg : PgIn H1 CP p g) (hq : H1 q = some (.dK kvs)) (gd : GoodP g) : BE (tTest (tOp (rOwnE CP (spEq5 CP) E0 neg) t u)) (neg != false) σ H1 := fun H2 s Q k => h H2 s _ (r H2 s _ (by
  have pg := pg.mono s
  obtain ⟨dx, fs, hp⟩ := pg_ins pg
  exact ⟨p, dx, fs, rfl, hp, .dic (s _ _ hq), p, .ref q, g, rfl, pg, gd, .inr ⟨.inl ⟨q, _, rfl, s _ _ hq⟩, _, rfl, _, rfl, k H2 (Same.refl _)⟩⟩))
theorem be_ownL {xs : List V} (h : VE t (.ref p) σ H1) (r : VE u (.ref q) σ H1) (pg : PgIn H1 CP p g) (hq : H1 q = some (.lst xs)) (gd : GoodP g) : BE (tTest (tOp (rOwnE CP (spEq5 CP) E0 neg) t u)) (neg != false) σ H1 := fun H2 s Q k => h H2 s _ (r H2 s _ (by
  have pg := pg.mono s
  obtain ⟨dx, fs, hp⟩ := pg_ins pg
  exact ⟨p, dx, fs, rfl, hp, .lst (s _ _ hq), p, .ref q, g, rfl, pg, gd, .inr ⟨.inr ⟨q, _, rfl, s _ _ hq⟩, _, rfl, _, rfl, k H2 (Same.refl _)⟩⟩))
/-- program(x) == program, x in a slot: made anew -/
theorem be_ownN {s : Nat} {a : Addr} (e : σ[s]? = some (some (.ref a))) (pa : PaAt H1 a g) (md : MadeP g) (gd : GoodP g) (r : VE u (.ref q) σ H1) (pq : PgIn H1 CP q g') (gd' : GoodP g') : BE (tTest (tOp (rOwnE CP (spEq5 CP) E0 neg) (tCall (spPrg CP) [] E0 (tCons (tVar s) tNil)) u)) (neg != eqvP g g') σ H1 := fun H2 s2 Q k =>
  ⟨_, e, a, g, rfl, pa.mono s2, md, fun p H3 s3 np pg => r H3 (s2.trans s3) _ (by
    have pg := pg.mono off_sub
    have pq := pq.mono (s2.trans s3)
    obtain ⟨dx, fs, hp⟩ := pg_ins pg
    obtain ⟨dy, gs, hq⟩ := pg_ins pq
    exact ⟨p, dx, fs, rfl, hp, .ins hq, p, .ref q, g, rfl, pg, gd, .inl ⟨q, g', rfl, pq, gd', _, rfl, _, rfl, k H3 s3⟩⟩)⟩
theorem be_nonT (h : DT [] t (.list ds) σ H1) (ht : ∀ d ∈ ds, ∃ es, d = .tuple es) : BE (tTest (tOp (rNonT K) (tC .non) t)) false σ H1 := fun H2 s Q k => h H2 s _ fun v H3 s3 a => by
  rw [hid_nil] at a
  obtain ⟨p, xs, rfl, hp, as⟩ := at_l a
  refine ⟨p, xs, rfl, rfl, SqL.of hp, fun z hz => ?_, _, rfl, k H3 s3⟩
  obtain ⟨j, hj, rfl⟩ := List.getElem_of_mem hz
  obtain ⟨d, hd, ad⟩ := as.get (List.getElem?_eq_getElem hj)
  obtain ⟨es, rfl⟩ := ht d (List.mem_of_getElem? hd)
  obtain ⟨q, ys, e, hq, _⟩ := at_t ad
  exact ⟨q, ys, e, SqT.of hq⟩
theorem dt_all {s : Nat} (e : σ[s]? = some (some (.ref p))) (pg : PgIn H1 CP p g) (gd : GoodP g) : DT [] (tCall (spAll CP) [] E0 (tCons (tVar s) tNil)) (.list (allD g)) σ H1 := fun H2 s2 Q k =>
  ⟨_, e, p, g, rfl, pg.mono s2, gd, fun q Hm us sm as nq => k _ _ (same_new sm nq) (by
    rw [hid_nil]
    exact .lst upd_same ((as.mono off_sub).mono (same_new (Same.refl _) nq)))⟩
end
theorem allD_ok {g : Pt} (gd : GoodP g) : OkD 64 (.list (allD g)) := (OkD.list (n := 60) fun d m => by
  unfold allD at m
  simp only [List.mem_cons, List.not_mem_nil, or_false] at m
  rcases m with rfl | rfl | rfl | rfl | rfl | rfl | rfl
  · exact gd.oc
  · exact gd.ob
  · exact gd.oN
  · exact gd.ol
  · exact OkD.int _
  · exact gd.ok
  · exact gd.oF).up (by decide)
theorem ns_ok : OkD 64 (strD ns5) ∧ OkD 64 (.list []) := ⟨(OkD.strs (n := 0) fun s m => by
  unfold ns5 at m
  simp only [List.mem_cons, List.not_mem_nil, or_false] at m
  rcases m with rfl | rfl | rfl | rfl <;> decide +kernel).up (by decide), okB0_is (by decide +kernel)⟩
def keysL : List Str := ["classes", "body", "variables", "weak", "threshold", "radices", "functions"]
/-- the comprehension over the names -/
theorem pa_get {H : Hp} {a : Addr} {g : Pt} (h : PaAt H a g) : ∀ j, j < 7 → ∃ v d, (allD g)[j]? = some d ∧ (∀ H', Same H H' → DGet H' a (.str (keysL.getD j "")) (some v)) ∧ At H v d := fun j hj => by
  obtain ⟨kvs, c, b, n, l, r, f, h0, hl, h1, h2, h3, h4, h5, h6, h7⟩ := h
  match j, hj with
  | 0, _ => exact ⟨_, _, rfl, fun H' s => dg_some (s _ _ h0) h1.1, h1.2⟩
  | 1, _ => exact ⟨_, _, rfl, fun H' s => dg_some (s _ _ h0) h2.1, h2.2⟩
  | 2, _ => exact ⟨_, _, rfl, fun H' s => dg_some (s _ _ h0) h3.1, h3.2⟩
  | 3, _ => exact ⟨_, _, rfl, fun H' s => dg_some (s _ _ h0) h4.1, h4.2⟩
  | 4, _ => exact ⟨_, _, rfl, fun H' s => dg_some (s _ _ h0) h5, .int _⟩
  | 5, _ => exact ⟨_, _, rfl, fun H' s => dg_some (s _ _ h0) h6.1, h6.2⟩
  | 6, _ => exact ⟨_, _, rfl, fun H' s => dg_some (s _ _ h0) h7.1, h7.2⟩
theorem dt_names {K : PySem.W.Frag} {σ : St} {H1 : Hp} {a nl : Addr} {g : Pt} (h4 : ∀ w : Option V, (σ.set 9 w)[4]? = some (some (.ref a))) (h8 : σ[8]? = some (some (.ref nl))) (l9 : 9 < σ.length) (hn : H1 nl = some (.lst (keysL.map V.str))) (pa : PaAt H1 a g) :
    DT [] (tLc (fun σ H Q => tVar 8 σ H fun v H' => ∃ q, v = .ref q ∧ (∃ xs, SqL K H' q xs) ∧ Q (Itl K q) H') (gName 9) tYes (tDGet (tVar 4) (tVar 9)) [9]) (.list (allD g)) σ H1 := fun H2 s2 Q k => by
  have pa := pa.mono s2
  have hn := s2 _ _ hn
  refine ⟨_, h8, nl, rfl, ⟨_, SqL.of hn⟩, fun D nD => ?_⟩
  have big : 100 ≤ sizeLine := by decide
  refine lc_list (xs := keysL.map V.str) (fun i H3 => Same H2 H3 ∧ ∃ acc, H3 D = some (.lst acc) ∧ acc.length = i ∧ AtAll H2 acc ((allD g).take i)) ⟨same_new (Same.refl _) nD, [], upd_same, rfl, .nil⟩ (fun i H3 _ ⟨s3, _⟩ => SqL.of (s3 _ _ hn)) ?_ ?_
  · rintro i x H3 hx ⟨s3, acc, hacc, hal, as⟩
    have hi : i < 7 := by
      have := (List.getElem?_eq_some_iff.mp hx).1
      rw [List.length_map] at this
      exact this
    obtain ⟨v', d', e1', e2', e3'⟩ := pa_get pa i hi
    have ex : x = .str (keysL.getD i "") := by
      rw [List.getElem?_map] at hx
      have hk : keysL[i]? = some (keysL.getD i "") := getD_some (by show i < 7; exact hi)
      rw [hk] at hx
      exact (Option.some.inj hx).symm
    subst ex
    refine ⟨?_, ?_⟩
    · show (((σ.set 9 none).set 9 _).set 9 none) = σ.set 9 none
      rw [List.set_set, List.set_set]
    unfold tYes
    dsimp only
    rw [if_pos rfl]
    have h49 : ((σ.set 9 none).set 9 (some (V.str (keysL.getD i ""))))[4]? = some (some (.ref a)) := by
      rw [List.set_set]
      exact h4 _
    have h99 : ((σ.set 9 none).set 9 (some (V.str (keysL.getD i ""))))[9]? = some (some (V.str (keysL.getD i ""))) := by
      rw [List.set_set, List.getElem?_set_self l9]
    refine ⟨_, h49, _, h99, a, v', rfl, e2' H3 s3, acc, hacc, by omega, fun b o e => ?_, _, upd_same, by rw [List.length_append, hal]; rfl, ?_⟩
    · rw [upd_ne (ne_of_none e nD)]
      exact s3 _ _ e
    · rw [List.take_succ, e1']
      exact as.append (.cons e3' .nil)
  · rintro H3 ⟨s3, acc, hacc, hal, as⟩
    rw [List.length_map] at hal as
    refine k _ H3 s3 ?_
    rw [hid_nil]
    refine .lst hacc ?_
    have e : (allD g).take keysL.length = allD g := rfl
    rw [e] at as
    exact as.mono s3
/-! ### the law -/
def spLaw (K : PySem.W.Frag) : Sp := fun vs H Q _ => ∃ (a : Addr) (ns : List Int), vs = [.ref a] ∧ SqL K H a (ns.map V.int) ∧ ∀ H1, Q (.bl true) H1
section
variable {P : Program} {w : World} {K : PySem.W.Frag} {mg : Str → Option Value} {base : Heap} {CP : Addr} {f : Addr} {fd : FuncData}
theorem sc45 : FnScope ["_law_script", "_law_cells", "_law_cell", "_law_digits_here", "_law_parts", "_law_program_here", "_law_twin", "_law_told", "_law_names", "_law_name", "_law_other", "_law_row", "_law_again"] ["_law_script"] (defScope (top 45)) := ⟨rfl, rfl, rfl, by decide +kernel, rfl, by decide +kernel, by decide +kernel⟩
/-- while None is put behind some lists: all else stands, and they are lists no shorter -/
def Mut (Hb : Hp) (L : List Addr) (i : Nat) (H : Hp) : Prop := (∀ b o, Hb b = some o → b ∉ L → H b = some o) ∧ ∀ l ∈ L, ∃ ys zs, Hb l = some (.lst ys) ∧ H l = some (.lst zs) ∧ ys.length ≤ zs.length ∧ zs.length ≤ 10000 + i
theorem Mut.push {Hb H : Hp} {L : List Addr} {i : Nat} {l : Addr} {zs : List V} (m : Mut Hb L i H) (hl : l ∈ L) (h : H l = some (.lst zs)) : Mut Hb L (i + 1) (upd H l (.lst (zs ++ [.non]))) := by
  refine ⟨fun b o e n => ?_, fun k hk => ?_⟩
  · rw [upd_ne (fun z => n (by rw [z]; exact hl))]
    exact m.1 b o e n
  · obtain ⟨ys, zs', h1, h2, h3, h4⟩ := m.2 k hk
    by_cases e : k = l
    · subst e
      rw [h] at h2
      cases h2
      exact ⟨ys, _, h1, upd_same, by rw [List.length_append]; omega, by rw [List.length_append, List.length_singleton]; omega⟩
    · exact ⟨ys, zs', h1, by rw [upd_ne e]; exact h2, h3, by omega⟩
theorem PgIn.keep {G Hb H : Hp} {L : List Addr} {i : Nat} {p : Addr} {g : Pt} (pg : PgIn G CP p g) (s : Same G Hb) (m : Mut Hb L i H) (n : ∀ l ∈ L, G l = none) : PgIn H CP p g := pg.mono fun b o e => m.1 b o (s _ _ e) fun hl => by
  rw [n b hl] at e
  cases e
theorem ok45 (F : Fun K "law" "law" (top 45) f fd) (B : Blt mg) (O : OwnE P w K mg base CX0 1 CP ["self", "other"] (spEq5 CP)) (C39 : Cal P w K mg base CX0 1 "_law_digits" ["_law_cell", "_law_many"] spDig) (C41 : Cal P w K mg base CX0 2 "_law_drawn" ["_law_digits_here", "_law_times"] spDrawn)
    (C42 : Cal P w K mg base CX0 10 "_law_program" ["_law_parts"] (spPrg CP)) (C43 : Cal P w K mg base CX0 8 "_law_all" ["_law_program_here"] (spAll CP)) (C44 : Cal P w K mg base CX0 1 "_law_others" ["_law_parts", "_law_digits_here"] spOth) : FnOk P w K mg base CX0 11 f fd ["_law_script"] (spLaw K) := by
  refine F.ok sc45 (fun vs H Q E h => ?_) (fun cdv A outer s H vs Q E hr h => ?_)
  · obtain ⟨a, ns, rfl, _⟩ := h
    rfl
  · obtain ⟨a, ns, rfl, hS, k⟩ := h
    have hu := hu_of hr
    refine ⟨_, (pss_mid (ps_set (i := 1) sc45.nd rfl (Or.inl rfl) (pe_slice sl_list (pv 0) po_none (po_some pe_int)))
      (pss_mid (ps_if (pt_cmpR (op_eqD hr.units) (pv 1) (pe_lst pa_nil) (nomark _)) (pss_one (ps_set (i := 1) sc45.nd rfl (Or.inl rfl) (pe_lst (pa_cons pe_int (pa_cons pe_int pa_nil))))) pss_nil)
      (pss_mid (ps_for PassesOwn.never rfl (pi_list (pv 1)) (pg_name (i := 2) sc45.nd rfl (Or.inl rfl))
        (pss_mid (ps_set (i := 3) sc45.nd rfl (Or.inl rfl) (pe_cal C39 hr (by decide) pass0 (pa_cons (pv 2) (pa_cons pe_int pa_nil))))
      (pss_mid (ps_set (i := 4) sc45.nd rfl (Or.inr rfl) (pe_cal C41 hr (by decide) pass0 (pa_cons (pv 3) (pa_cons (pe_op op_add pe_int (pe_ix ix_list (pv 3) pe_int (fun _ _ => rfl))) pa_nil))))
      (pss_mid (ps_par (i := 5) (j := 6) (by rfl) sc45.nd rfl rfl (by decide) rfl rfl (pa_cons (pe_cal C42 hr (by decide) pass0 (pa_cons (pv 4) pa_nil)) (pa_cons (pe_cal C42 hr (by decide) pass0 (pa_cons (pv 4) pa_nil)) pa_nil)) (by rfl))
      (pss_mid (ps_set (i := 7) sc45.nd rfl (Or.inl rfl) (pe_cal C43 hr (by decide) pass0 (pa_cons (pv 5) pa_nil)))
      (pss_mid (ps_set (i := 8) sc45.nd rfl (Or.inl rfl) (pe_lst (pa_cons pe_str (pa_cons pe_str (pa_cons pe_str (pa_cons pe_str (pa_cons pe_str (pa_cons pe_str (pa_cons pe_str pa_nil)))))))))
      (pss_mid (ps_if (PW.pt (pw_or (pt_cmpR (op_neD hr.units) (pv 7) (pe_lc (own := [("_law_name", 9)]) (g := gName 9) (te := tDGet (tVar 4) (tVar 9)) (tt := tYes) rfl sc45.nd (pi_list (pv 8)) (blkOk_by (N := ["_law_script", "_law_cells", "_law_cell", "_law_digits_here", "_law_parts", "_law_program_here", "_law_twin", "_law_told", "_law_names", "_law_name", "_law_other", "_law_row", "_law_again"]) (sc := defScope (top 45)) (by decide +kernel)) (fun _ _ _ _ _ => pg_name (i := 9) sc45.nd rfl (Or.inl rfl)) (fun _ _ _ _ _ => pts_nil) (fun _ _ _ _ _ => pe_dget hu (pv 4) (pv 9) (fun _ _ => rfl))) (nomark _)) (pw_or (pt_cmpR (op_neOwn O (hr.mono (by decide)) pass0) (pv 5) (pv 6) (nomark _)) (pw_or (pt_cmpR (op_eqOwn O (hr.mono (by decide)) pass0) (pv 5) (pv 4) (nomark _)) (pw_or1 (pt_cmpR (op_eqOwn O (hr.mono (by decide)) pass0) (pv 5) (pv 7) (nomark _))))))) (pss_one (ps_ret pe_bl)) pss_nil)
      (pss_mid (ps_for PassesOwn.never rfl (pi_list (pe_cal C44 hr (by decide) pass0 (pa_cons (pv 4) (pa_cons (pv 3) pa_nil)))) (pg_name (i := 10) sc45.nd rfl (Or.inl rfl))
        (pss_one (ps_if (pt_cmpR (op_eqOwn O (hr.mono (by decide)) pass0) (pe_cal C42 hr (by decide) pass0 (pa_cons (pv 10) pa_nil)) (pv 5) (nomark _)) (pss_one (ps_ret pe_bl)) pss_nil)))
      (pss_mid (ps_for PassesOwn.never rfl (pi_list (pe_lst (pa_cons (pe_ix ix_list (pv 7) pe_int (fun _ _ => rfl)) (pa_cons (pe_ix ix_list (pv 7) pe_int (fun _ _ => rfl)) (pa_cons (pe_ix ix_list (pv 7) pe_int (fun _ _ => rfl)) (pa_cons (pe_ix ix_list (pv 7) pe_int (fun _ _ => rfl)) (pa_cons (pe_ix ix_list (pv 7) pe_int (fun _ _ => rfl)) (pa_cons (pe_ix ix_list (pv 7) pe_int (fun _ _ => rfl)) (pa_cons (pe_dget hu (pv 4) pe_str (fun _ _ => rfl)) (pa_cons (pe_dget hu (pv 4) pe_str (fun _ _ => rfl)) pa_nil)))))))))) (pg_name (i := 11) sc45.nd rfl (Or.inl rfl))
        (pss_one (ps_expr (pe_bm PySem.F.plainAttrs_list PySem.F.slot_list_append PySem.F.type_list_append mt_append (pv 11) (pa_cons pe_non pa_nil)))))
      (pss_mid (ps_asg (pe_tup (pa_cons pe_str (pa_cons pe_str pa_nil))) (pg_sub (pe_ix ix_list (pv 7) pe_int (fun _ _ => rfl)) pe_int set_list))
      (pss_mid (ps_set (i := 12) sc45.nd rfl (Or.inl rfl) (pe_cal C43 hr (by decide) pass0 (pa_cons (pv 5) pa_nil)))
      (pss_one (ps_if (PW.pt (pw_or (pt_cmpR (op_neD hr.units) (pv 12) (pe_cal C43 hr (by decide) pass0 (pa_cons (pv 6) pa_nil)) (nomark _)) (pw_or (pt_cmpR (op_nonInT hr.units) pe_non (pe_ix ix_list (pv 12) pe_int (fun _ _ => rfl)) rfl) (pw_or (pt_cmpR (op_neD hr.units) (pe_ix ix_list (pv 12) pe_int (fun _ _ => rfl)) (pe_lst (pa_cons pe_str (pa_cons pe_str (pa_cons pe_str (pa_cons pe_str pa_nil))))) (nomark _)) (pw_or1 (pt_cmpR (op_neOwn O (hr.mono (by decide)) pass0) (pv 5) (pv 6) (nomark _))))))) (pss_one (ps_ret pe_bl)) pss_nil)))))))))))))
      (pss_one (ps_ret pe_bl))))), ?_⟩
    have few : 100000 ≤ sizeLine := by decide
    -- cells
    refine ⟨fun σ H1 => ∃ (ca : Addr) (zs : List Int), σ = [some (.ref a), some (.ref ca), none, none, none, none, none, none, none, none, none, none, none] ∧ H1 ca = some (.lst (zs.map V.int)), ⟨_, rfl, 4, rfl, a, _, rfl, hS, fun p np => ?_⟩, ?_⟩
    · obtain ⟨zs, e⟩ := cut_ints ns none (some 4)
      refine ⟨p, zs, rfl, ?_⟩
      rw [upd_same, e]
    rintro σ H1 ⟨ca, zs, rfl, hca⟩
    refine ⟨fun σ H1 => ∃ (ca : Addr) (zs : List Int), σ = [some (.ref a), some (.ref ca), none, none, none, none, none, none, none, none, none, none, none] ∧ H1 ca = some (.lst (zs.map V.int)), ?_, ?_⟩
    · refine ⟨_, rfl, Nat.zero_le _, fun q nq => ?_⟩
      have s1 := same_new (o := .lst []) (Same.refl H1) nq
      refine ⟨.list (zs.map PyData.int), .list [], .lst (SqL.of (s1 _ _ hca)) (dp_ints zs), .lst (SqL.of upd_same) .nil, shaped_ints zs, shaped_ints [], _, rfl, ?_⟩
      cases zs with
      | nil =>
        rw [show PyData.eqv (.list (([] : List Int).map PyData.int)) (.list []) = true from eqv_nil]
        exact iteT ⟨by show 2 ≤ sizeLine; decide, fun p np => ⟨p, [4, 19], rfl, upd_same⟩⟩
      | cons z zs =>
        rw [show PyData.eqv (.list ((z :: zs).map PyData.int)) (.list []) = false from eqv_some]
        exact iteF ⟨ca, z :: zs, rfl, s1 _ _ hca⟩
    rintro σ H1 ⟨ca, zs, rfl, hca⟩
    -- the loop
    refine ⟨fun _ _ => True, ⟨_, rfl, ca, rfl, ⟨_, SqL.of hca⟩, for_list (K := K) (a := ca) (xs := zs.map V.int) (fun _ σ H1 => ∃ v2 v3 v4 v5 v6 v7 v8 v9 v10 v11 v12 : Option V, σ = [some (.ref a), some (.ref ca), v2, v3, v4, v5, v6, v7, v8, v9, v10, v11, v12] ∧ H1 ca = some (.lst (zs.map V.int)))
      ⟨none, none, none, none, none, none, none, none, none, none, none, rfl, hca⟩ (fun _ _ _ _ ⟨_, _, _, _, _, _, _, _, _, _, _, _, h⟩ => SqL.of h) ?_ (fun _ _ _ => trivial)⟩, fun σ H1 _ => k H1⟩
    rintro i y σ H1 hi ⟨v2, v3, v4, v5, v6, v7, v8, v9, v10, v11, v12, rfl, hca⟩
    obtain ⟨z, rfl⟩ : ∃ z, y = V.int z := by
      rw [List.getElem?_map] at hi
      cases e : zs[i]? with
      | none =>
        rw [e] at hi
        cases hi
      | some z =>
        rw [e] at hi
        exact ⟨z, (Option.some.inj hi).symm⟩
    -- digits
    refine ⟨fun σ H2 => ∃ (dg : Addr) (ds : List Int), σ = [some (.ref a), some (.ref ca), some (.int z), some (.ref dg), v4, v5, v6, v7, v8, v9, v10, v11, v12] ∧ Same H1 H2 ∧ H2 dg = some (.lst (ds.map V.int)) ∧ ds.length = 50 ∧ ∀ x ∈ ds, 0 ≤ x ∧ x < 1009, ⟨_, rfl, z, 50, rfl, by decide, by decide, fun q H2 ds s2 nq hq hl hb => ⟨q, ds, rfl, s2, hq, hl, hb⟩⟩, ?_⟩
    rintro σ H2 ⟨dg, ds, rfl, s2, hdg, hlen, hb⟩
    have bnd : ∀ j, j < 50 → 0 ≤ ds.getD j 0 ∧ ds.getD j 0 < 1009 := fun j hj => by
      refine hb _ ?_
      rw [List.getD_eq_getElem?_getD, List.getElem?_eq_getElem (by omega)]
      exact List.getElem_mem _
    have b41 := bnd 41 (by decide)
    have b40 := bnd 40 (by decide)
    generalize ht : 3 + ds.getD 41 0 = t
    have t0 : 0 ≤ t := by omega
    have t1 : t ≤ 2000 := by omega
    obtain ⟨⟨mg0, gd⟩, oth⟩ := oth_ok (ds := ds) t0 t1 ⟨b40.1, by omega⟩
    have bo := bod_ok (ds := ds) t0 t1
    have bo4 := bo.2.1
    -- parts
    refine ⟨fun σ H3 => ∃ pa : Addr, σ = [some (.ref a), some (.ref ca), some (.int z), some (.ref dg), some (.ref pa), v5, v6, v7, v8, v9, v10, v11, v12] ∧ Same H2 H3 ∧ PaAt H3 pa (gOf ds t) ∧ ∀ kvs, H3 pa = some (.dK kvs) → kvs.length ≤ 100, ?_, ?_⟩
    · refine ⟨_, rfl, ?_⟩
      refine (ve_add ve_int (ve_dg0 (j := 41) rfl hdg (dg_get hlen 41 (by decide)) rfl)) H2 (Same.refl _) _ ?_
      exact ⟨dg, ds, _, rfl, hdg, hlen, by omega, by omega, by rw [ht]; exact fun a H' s pa pl => ⟨a, rfl, s, pa, pl⟩⟩
    rintro σ H3 ⟨pa, rfl, s3, hpa, hpl⟩
    have hdg3 := s3 _ _ hdg
    -- two programs
    refine ⟨fun σ H5 => ∃ (p q : Addr) (H4 : Hp), σ = [some (.ref a), some (.ref ca), some (.int z), some (.ref dg), some (.ref pa), some (.ref p), some (.ref q), v7, v8, v9, v10, v11, v12] ∧ Same H3 H4 ∧ Same H4 H5 ∧ PgIn (off H3 H4) CP p (gOf ds t) ∧ PgIn (off H4 H5) CP q (gOf ds t), ?_, ?_⟩
    · exact ⟨_, rfl, pa, _, rfl, hpa, mg0, fun p H4 s4 np pg => ⟨_, rfl, pa, _, rfl, hpa.mono s4, mg0, fun q H5 s5 nq pq => ⟨_, _, rfl, p, q, H4, rfl, s4, s5, pg, pq⟩⟩⟩
    rintro σ H5 ⟨p, q, H4, rfl, s4, s5, pg, pq⟩
    have pgF : PgIn H5 CP p (gOf ds t) := (pg.mono off_sub).mono s5
    have pqF : PgIn H5 CP q (gOf ds t) := pq.mono off_sub
    have hpa5 := hpa.mono (s4.trans s5)
    -- told
    refine ⟨fun σ H6 => ∃ (tl : Addr) (Hm : Hp) (us : List V), σ = [some (.ref a), some (.ref ca), some (.int z), some (.ref dg), some (.ref pa), some (.ref p), some (.ref q), some (.ref tl), v8, v9, v10, v11, v12] ∧ Same H5 Hm ∧ AtAll (off H5 Hm) us (allD (gOf ds t)) ∧ Hm tl = none ∧ H6 = upd Hm tl (.lst us), ⟨_, rfl, p, _, rfl, pgF, gd, fun tl Hm us sm as nl => ⟨tl, Hm, us, rfl, sm, as, nl, rfl⟩⟩, ?_⟩
    rintro σ H6 ⟨tl, Hm, us, rfl, sm, as, nl, rfl⟩
    have s6 := same_new (o := .lst us) sm nl
    have htl : (upd Hm tl (.lst us)) tl = some (.lst us) := upd_same
    have asH : AtAll (upd Hm tl (.lst us)) us (allD (gOf ds t)) := (as.mono off_sub).mono (same_new (Same.refl _) nl)
    have smH : Same Hm (upd Hm tl (.lst us)) := same_new (Same.refl _) nl
    generalize hH6 : upd Hm tl (.lst us) = H6 at s6 htl asH smH
    -- names
    refine ⟨fun σ H7 => ∃ na : Addr, σ = [some (.ref a), some (.ref ca), some (.int z), some (.ref dg), some (.ref pa), some (.ref p), some (.ref q), some (.ref tl), some (.ref na), v9, v10, v11, v12] ∧ Same H6 H7 ∧ H7 na = some (.lst (keysL.map V.str)), ⟨by show 7 ≤ sizeLine; decide, fun na nna => ⟨na, rfl, same_new (Same.refl _) nna, upd_same⟩⟩, ?_⟩
    rintro σ H7 ⟨na, rfl, s7, hna⟩
    have s57 := s6.trans s7
    obtain ⟨al1, al2, al3⟩ := (allD_ok gd).facts
    have htl7 := s7 _ _ htl
    have tt7 : DT [] (tVar 7) (.list (allD (gOf ds t))) [some (.ref a), some (.ref ca), some (.int z), some (.ref dg), some (.ref pa), some (.ref p), some (.ref q), some (.ref tl), some (.ref na), v9, v10, v11, v12] H7 := dt_var rfl (by rw [hid_nil]; exact .lst htl7 (asH.mono s7))
    obtain ⟨kvs0, hk0⟩ : ∃ kvs, H7 pa = some (.dK kvs) := by
      obtain ⟨kvs, _, _, _, _, _, _, h0, _⟩ := hpa5.mono s57
      exact ⟨kvs, h0⟩
    refine ⟨fun σ H8 => σ = [some (.ref a), some (.ref ca), some (.int z), some (.ref dg), some (.ref pa), some (.ref p), some (.ref q), some (.ref tl), some (.ref na), v9, v10, v11, v12] ∧ Same H7 H8, if_be (be_or (be_ne tt7 (dt_names (fun w => rfl) rfl (by show 9 < 13; decide) hna (hpa5.mono s57)) al1 al1 al2 al2) fun _ => be_or (be_own (x := .non) (ve_var rfl) (ve_var rfl) (pgF.mono s57) (pqF.mono s57) gd gd) fun _ => be_or (be_ownD (ve_var rfl) (ve_var rfl) (pgF.mono s57) hk0 gd) fun _ => be_ownL (ve_var rfl) (ve_var rfl) (pgF.mono s57) htl7 gd) fun H8 s8 => ⟨fun c => ?_, fun _ => ⟨rfl, s8⟩⟩, ?_⟩
    · rw [al3, gd.refl] at c
      cases c
    rintro σ H8 ⟨rfl, s8⟩
    have s58 := s57.trans s8
    -- the others
    refine ⟨fun σ H9 => ∃ w10 : Option V, σ = [some (.ref a), some (.ref ca), some (.int z), some (.ref dg), some (.ref pa), some (.ref p), some (.ref q), some (.ref tl), some (.ref na), v9, w10, v11, v12] ∧ Same H8 H9, ?_, ?_⟩
    · refine ⟨_, rfl, _, rfl, pa, dg, ds, t, rfl, hpa5.mono s58, fun kvs e => ?_, s58 _ _ ((s4.trans s5) _ _ hdg3), hlen, t0, t1, fun lo H9 ot => ?_⟩
      · obtain ⟨kvs', _, _, _, _, _, _, h0, _⟩ := hpa
        rw [(s4.trans (s5.trans s58)) _ _ h0] at e
        cases e
        exact hpl _ h0
      obtain ⟨nlo, s9, ws, hlo, hwl, hw⟩ := ot
      refine ⟨lo, rfl, ⟨_, SqL.of hlo⟩, for_list (K := K) (a := lo) (xs := ws) (fun _ σ H9' => ∃ w10 : Option V, σ = [some (.ref a), some (.ref ca), some (.int z), some (.ref dg), some (.ref pa), some (.ref p), some (.ref q), some (.ref tl), some (.ref na), v9, w10, v11, v12] ∧ Same H9 H9') ⟨v10, rfl, Same.refl _⟩ (fun _ _ _ _ ⟨_, _, s⟩ => SqL.of (s _ _ hlo)) ?_ (fun σ H9' ⟨w10, e, s⟩ => ⟨w10, e, s9.trans s⟩)⟩
      rintro j y σ H9' hj ⟨w10, rfl, s9'⟩
      have hj7 : j < 7 := by
        have := (List.getElem?_eq_some_iff.mp hj).1
        omega
      obtain ⟨o, e1, e2⟩ := hw j hj7
      rw [hj] at e1
      cases e1
      obtain ⟨md, gd', ne⟩ := oth j hj7
      have s59 := s58.trans (s9.trans s9')
      refine if_be (be_ownN (s := 10) rfl ((e2.mono hid_sub).mono s9') md gd' (ve_var rfl) (pgF.mono s59) gd) fun H10 s10 => ⟨fun c => ?_, fun _ => ⟨_, rfl, s9'.trans s10⟩⟩
      rw [ne] at c
      cases c
    rintro σ H9 ⟨w10, rfl, s9⟩
    have s59 := s58.trans s9
    have htl9 := s9 _ _ (s8 _ _ htl7)
    -- the lists of what was told
    obtain ⟨kvs, c0, b0, n0, l0, r0, f0, hk, hkl, k1, k2, k3, k4, k5, k6, k7⟩ := hpa
    have s39 : Same H3 H9 := s4.trans (s5.trans s59)
    have hk9 := s39 _ _ hk
    cases as with
    | cons a0 as =>
    cases as with
    | cons a1 as =>
    cases as with
    | cons a2 as =>
    cases as with
    | cons a3 as =>
    cases as with
    | cons a4 as =>
    cases as with
    | cons a5 as =>
    cases as with
    | cons a6 as =>
    cases as
    obtain ⟨t0a, x0, rfl, g0, q0⟩ := at_l a0
    obtain ⟨t1a, x1, rfl, g1, q1⟩ := at_l a1
    obtain ⟨t2a, x2, rfl, g2, q2⟩ := at_l a2
    obtain ⟨t3a, x3, rfl, g3, q3⟩ := at_l a3
    obtain ⟨t5a, x5, rfl, g5, q5⟩ := at_l a5
    obtain ⟨t6a, x6, rfl, g6, q6⟩ := at_l a6
    obtain ⟨va, x7, rfl, g7, q7⟩ := at_l k3.2
    obtain ⟨ba, x8, rfl, g8, q8⟩ := at_l k2.2
    have y0 := q0.len
    have y1 := q1.len
    have y2 := q2.len
    have y3 := q3.len
    have y5 := q5.len
    have y6 := q6.len
    have y7 := q7.len
    have y8 := q8.len
    have pc := plan_c _ (dgN_lt ds 9 (show 0 < 9 by decide))
    simp only [Bool.and_eq_true, decide_eq_true_eq] at pc
    have pk4 := pc.2.1
    obtain ⟨⟨mb, vb, mb2, _⟩, _, _, bl2⟩ := bo
    have bl := len_vL vb
    have e0 : ((gOf ds t).rows.map rowD).length = 3 := rfl
    have e1 : (gOf ds t).bs.length = (bodT ds t).length := rfl
    have e2 : ((gOf ds t).ns.map PyData.str).length = 4 := rfl
    have e3 : ((gOf ds t).ls.map PyData.str).length = 3 := rfl
    have e5 : ((gOf ds t).ks.map PyData.int).length = (planN (dgN ds 9 9)).2.length := by rw [List.length_map]; rfl
    have e6 : (gOf ds t).fs.length = 2 := rfl
    have sm9 : Same Hm H9 := smH.trans (s7.trans (s8.trans s9))
    generalize hL : [t0a, t1a, t2a, t3a, t5a, t6a, va, ba] = L
    have memL : ∀ {P : Addr → Prop}, P t0a → P t1a → P t2a → P t3a → P t5a → P t6a → P va → P ba → ∀ l ∈ L, P l := fun p0 p1 p2 p3 p5 p6 p7 p8 l m => by
      rw [← hL] at m
      simp only [List.mem_cons, List.not_mem_nil, or_false] at m
      rcases m with rfl | rfl | rfl | rfl | rfl | rfl | rfl | rfl <;> assumption
    have in1 : t1a ∈ L := by rw [← hL]; simp
    have fr : ∀ {l : Addr} {o : HO}, off H5 Hm l = some o → H5 l = none ∧ H9 l = some o := fun e => ⟨(off_at e).1, sm9 _ _ (off_at e).2⟩
    have L9 : ∀ l ∈ L, ∃ ys : List V, H9 l = some (.lst ys) ∧ ys.length ≤ 10000 := memL ⟨x0, (fr g0).2, by omega⟩ ⟨x1, (fr g1).2, by omega⟩ ⟨x2, (fr g2).2, by omega⟩ ⟨x3, (fr g3).2, by omega⟩ ⟨x5, (fr g5).2, by omega⟩ ⟨x6, (fr g6).2, by omega⟩ ⟨x7, s39 _ _ g7, by omega⟩ ⟨x8, s39 _ _ g8, by omega⟩
    have Lp : ∀ l ∈ L, off H3 H4 l = none := by
      have a : ∀ {l : Addr} {o : HO}, off H5 Hm l = some o → off H3 H4 l = none := fun e => by
        cases q : off H3 H4 _ with
        | none => rfl
        | some u =>
          have := s5 _ _ (off_at q).2
          rw [(fr e).1] at this
          cases this
      have b : ∀ {l : Addr} {o : HO}, H3 l = some o → off H3 H4 l = none := fun e => by
        cases q : off H3 H4 _ with
        | none => rfl
        | some u =>
          rw [(off_at q).1] at e
          cases e
      exact memL (a g0) (a g1) (a g2) (a g3) (a g5) (a g6) (b g7) (b g8)
    have Lq : ∀ l ∈ L, off H4 H5 l = none := by
      have a : ∀ {l : Addr} {o : HO}, off H5 Hm l = some o → off H4 H5 l = none := fun e => by
        cases q : off H4 H5 _ with
        | none => rfl
        | some u =>
          have := (off_at q).2
          rw [(fr e).1] at this
          cases this
      have b : ∀ {l : Addr} {o : HO}, H3 l = some o → off H4 H5 l = none := fun e => by
        cases q : off H4 H5 _ with
        | none => rfl
        | some u =>
          have := s4 _ _ e
          rw [(off_at q).1] at this
          cases this
      exact memL (a g0) (a g1) (a g2) (a g3) (a g5) (a g6) (b g7) (b g8)
    have Lt : tl ∉ L := fun m => by
      have := memL (P := fun l => l ≠ tl) (ne_of_none (off_at g0).2 nl) (ne_of_none (off_at g1).2 nl) (ne_of_none (off_at g2).2 nl) (ne_of_none (off_at g3).2 nl) (ne_of_none (off_at g5).2 nl) (ne_of_none (off_at g6).2 nl) (ne_of_none ((s4.trans (s5.trans sm)) _ _ g7) nl) (ne_of_none ((s4.trans (s5.trans sm)) _ _ g8) nl) tl m
      exact this rfl
    have hca5 : H5 ca = some (.lst (zs.map V.int)) := (s4.trans s5) _ _ (s3 _ _ (s2 _ _ hca))
    have noInt : ∀ {x : Addr} {ys : List V} {es : List PyData} {d : PyData}, H3 x = some (.lst ys) → AtAll H3 ys es → es[0]? = some d → (∀ i, d ≠ .int i) → x ≠ ca := fun {x ys es d} h as hd hn z => by
      rw [z, s3 _ _ (s2 _ _ hca)] at h
      cases h
      obtain ⟨v, e1, e2⟩ := as.at hd
      rw [List.getElem?_map] at e1
      cases q : zs[0]? with
      | none => rw [q] at e1; cases e1
      | some u =>
        rw [q] at e1
        cases e1
        cases e2
        exact hn _ rfl
    have Lc : ca ∉ L := fun m => by
      have := memL (P := fun l => l ≠ ca) (ne_of_none hca5 (fr g0).1).symm (ne_of_none hca5 (fr g1).1).symm (ne_of_none hca5 (fr g2).1).symm (ne_of_none hca5 (fr g3).1).symm (ne_of_none hca5 (fr g5).1).symm (ne_of_none hca5 (fr g6).1).symm (noInt g7 q7 rfl (fun i e => by cases e)) (noInt g8 q8 (show (bodT ds t)[0]? = some _ from rfl) (fun i e => by cases e)) ca m
      exact this rfl
    -- None behind each
    refine ⟨fun σ H11 => ∃ (w11 : Option V) (r : Addr) (Hb : Hp), σ = [some (.ref a), some (.ref ca), some (.int z), some (.ref dg), some (.ref pa), some (.ref p), some (.ref q), some (.ref tl), some (.ref na), v9, w10, w11, v12] ∧ Same H9 Hb ∧ Mut Hb L 8 H11, ?_, ?_⟩
    · refine ⟨_, rfl, tl, _, _, _, rfl, rfl, SqL.of htl9, atI_nat (j := 0) rfl, _, rfl, tl, _, _, _, rfl, rfl, SqL.of htl9, atI_nat (j := 1) rfl, _, rfl, tl, _, _, _, rfl, rfl, SqL.of htl9, atI_nat (j := 2) rfl, _, rfl, tl, _, _, _, rfl, rfl, SqL.of htl9, atI_nat (j := 3) rfl, _, rfl, tl, _, _, _, rfl, rfl, SqL.of htl9, atI_nat (j := 5) rfl, _, rfl, tl, _, _, _, rfl, rfl, SqL.of htl9, atI_nat (j := 6) rfl, _, rfl, pa, _, rfl, dg_some hk9 k3.1, _, rfl, pa, _, rfl, dg_some hk9 k2.1, by show 8 ≤ sizeLine; decide, fun r nr => ?_⟩
      have sr := same_new (o := .lst (L.map V.ref)) (Same.refl H9) nr
      have er : [V.ref t0a, .ref t1a, .ref t2a, .ref t3a, .ref t5a, .ref t6a, .ref va, .ref ba] = L.map V.ref := by rw [← hL]; rfl
      rw [er]
      have hr9 : (upd H9 r (.lst (L.map V.ref))) r = some (.lst (L.map V.ref)) := upd_same
      have hLr : r ∉ L := fun m => by
        obtain ⟨ys, e, _⟩ := L9 r m
        rw [nr] at e
        cases e
      have L8 : L.length = 8 := by rw [← hL]; rfl
      generalize hHb : upd H9 r (.lst (L.map V.ref)) = Hb at sr hr9
      refine ⟨r, rfl, ⟨_, SqL.of hr9⟩, for_list (K := K) (a := r) (xs := L.map V.ref) (fun i σ H11 => ∃ w11 : Option V, σ = [some (.ref a), some (.ref ca), some (.int z), some (.ref dg), some (.ref pa), some (.ref p), some (.ref q), some (.ref tl), some (.ref na), v9, w10, w11, v12] ∧ Mut Hb L i H11) ⟨v11, rfl, fun b o e _ => e, fun l m => ?_⟩ (fun i σ H11 _ ⟨_, _, m⟩ => SqL.of (m.1 _ _ hr9 hLr)) ?_ (fun σ H11 ⟨w11, e, m⟩ => ⟨w11, r, Hb, e, sr, by rw [List.length_map, L8] at m; exact m⟩)⟩
      · obtain ⟨ys, e, l5⟩ := L9 l m
        exact ⟨ys, ys, sr _ _ e, sr _ _ e, Nat.le_refl _, by omega⟩
      rintro j y σ H11 hj ⟨w11, rfl, m⟩
      rw [List.getElem?_map] at hj
      cases ql : L[j]? with
      | none => rw [ql] at hj; cases hj
      | some l =>
        rw [ql] at hj
        cases hj
        have hl := List.mem_of_getElem? ql
        have hj8 := (List.getElem?_eq_some_iff.mp ql).1
        obtain ⟨ys, zs', h1, h2, h3, h4⟩ := m.2 l hl
        exact ⟨_, rfl, .inl ⟨rfl, _, SqL.of h2⟩, l, zs', _, rfl, rfl, h2, by omega, _, rfl, m.push hl h2⟩
    rintro σ H11 ⟨w11, r, Hb, rfl, s9b, mu⟩
    have s5b := s59.trans s9b
    have htl11 := mu.1 _ _ (s9b _ _ htl9) Lt
    obtain ⟨ys1, zs1, m1, m2, m3, m4⟩ := mu.2 t1a in1
    rw [s9b _ _ (fr g1).2] at m1
    cases m1
    -- another statement
    refine ⟨fun σ H12 => σ = [some (.ref a), some (.ref ca), some (.int z), some (.ref dg), some (.ref pa), some (.ref p), some (.ref q), some (.ref tl), some (.ref na), v9, w10, w11, v12] ∧ ∀ b o, Hb b = some o → b ∉ L → H12 b = some o, ?_, ?_⟩
    · refine ⟨by show 2 ≤ sizeLine; decide, fun tt ntt => ?_⟩
      have st := same_new (o := .tup [.str "emit", .str "y"]) (Same.refl H11) ntt
      refine ⟨_, rfl, tl, _, _, _, rfl, rfl, SqL.of (st _ _ htl11), atI_nat (j := 1) rfl, t1a, zs1, 0, 0, rfl, rfl, st _ _ m2, ?_, rfl, fun b o e n => ?_⟩
      · unfold ixN
        rw [if_pos (by decide), if_pos (by omega)]
        rfl
      · rw [upd_ne (fun z => n (by rw [z]; exact in1))]
        exact st _ _ (mu.1 b o e n)
    rintro σ H12 ⟨rfl, keep⟩
    have pg12 : PgIn H12 CP p (gOf ds t) := pg.mono fun b o e => keep _ _ ((s5.trans s5b) _ _ (off_sub _ _ e)) fun m => by
      rw [Lp b m] at e
      cases e
    have pq12 : PgIn H12 CP q (gOf ds t) := pq.mono fun b o e => keep _ _ (s5b _ _ (off_sub _ _ e)) fun m => by
      rw [Lq b m] at e
      cases e
    have hca12 := keep _ _ (s5b _ _ hca5) Lc
    -- told again
    refine ⟨fun σ H13 => ∃ al : Addr, σ = [some (.ref a), some (.ref ca), some (.int z), some (.ref dg), some (.ref pa), some (.ref p), some (.ref q), some (.ref tl), some (.ref na), v9, w10, w11, some (.ref al)] ∧ Same H12 H13 ∧ At H13 (.ref al) (.list (allD (gOf ds t))), ⟨_, rfl, p, _, rfl, pg12, gd, fun al Hn us2 sn as2 nal => ⟨al, rfl, same_new sn nal, .lst upd_same ((as2.mono off_sub).mono (same_new (Same.refl _) nal))⟩⟩, ?_⟩
    rintro σ H13 ⟨al, rfl, s13, aal⟩
    have tt13 : DT [] (tVar 12) (.list (allD (gOf ds t))) [some (.ref a), some (.ref ca), some (.int z), some (.ref dg), some (.ref pa), some (.ref p), some (.ref q), some (.ref tl), some (.ref na), v9, w10, w11, some (.ref al)] H13 := dt_var rfl (by rw [hid_nil]; exact aal)
    obtain ⟨n1, n2, n3⟩ := ns_ok.1.facts
    refine if_be (be_or (be_ne tt13 (dt_all rfl (pq12.mono s13) gd) al1 al1 al2 al2) fun _ => be_or (be_nonT (ds := (gOf ds t).bs) (dt_ixL (n := 1) tt13 ve_int rfl rfl) fun d m => ?_) fun _ => be_or (be_ne (d := strD ns5) (dt_ixL (n := 2) tt13 ve_int rfl rfl) (dt_l (d := strD ns5) (dl_lst (dl_cons dl_str (dl_cons dl_str (dl_cons dl_str (dl_cons dl_str dl_nil)))) (by show 4 ≤ sizeLine; decide)) live_nil) n1 n1 n2 n2) fun _ => be_own (x := .non) (ve_var rfl) (ve_var rfl) (pg12.mono s13) (pq12.mono s13) gd gd) fun H14 s14 => ⟨fun c => ?_, fun _ => ⟨_, _, _, _, _, _, _, _, _, _, _, rfl, s14 _ _ (s13 _ _ hca12)⟩⟩
    · obtain ⟨s, es, e, _⟩ := cpS_is (bo4 d m)
      exact ⟨_, e⟩
    · rw [al3, n3, gd.refl] at c
      cases c
end
end K1

set_option Elab.async false
set_option linter.all false
set_option maxRecDepth 100000
set_option maxHeartbeats 0
namespace K1
open PySem PySem.Spec PyProof.Rows L2
/-! ### the head by facts -/
/-- an own exception class over ArithmeticError, one own class between -/
def excIA (K : PySem.W.Frag) (C : Addr) : Bool := match K.lookup C with
  | some ⟨.type t, _, .cls cd, sl⟩ => (match cd.mro, sl.toList with
    | [.ref C', .ref _, .type "ArithmeticError", .type "Exception", .type "BaseException", .type "object"], [_, _, _, _, some (.builtin n), _] => decide (t = "type") && (decide (C' = C) && (decide (n = "ArithmeticError.__new__") && (!cd.hasDel && cd.hasDict)))
    | _, _ => false)
  | _ => false
def hfn : List He.DefD := [
  ⟨("is_integer", none), "is_integer", "is_integer", defArgs (top 1), defBody (top 1), defScope (top 1), [], []⟩,
  ⟨("is_within", none), "is_within", "is_within", defArgs (top 2), defBody (top 2), defScope (top 2), [], []⟩,
  ⟨("is_name", none), "is_name", "is_name", defArgs (top 3), defBody (top 3), defScope (top 3), [], []⟩,
  ⟨("is_one_of", none), "is_one_of", "is_one_of", defArgs (top 4), defBody (top 4), defScope (top 4), [], []⟩,
  ⟨("fits", none), "fits", "fits", defArgs (top 16), defBody (top 16), defScope (top 16), [], []⟩,
  ⟨("fits_call", none), "fits_call", "fits_call", defArgs (top 17), defBody (top 17), defScope (top 17), [], []⟩,
  ⟨("fits_form", none), "fits_form", "fits_form", defArgs (top 18), defBody (top 18), defScope (top 18), [], []⟩,
  ⟨("depth_of", none), "depth_of", "depth_of", defArgs (top 19), defBody (top 19), defScope (top 19), [], []⟩,
  ⟨("blocks_of", none), "blocks_of", "blocks_of", defArgs (top 20), defBody (top 20), defScope (top 20), [], []⟩,
  ⟨("survey", none), "survey", "survey", defArgs (top 21), defBody (top 21), defScope (top 21), [], []⟩,
  ⟨("copied_block", none), "copied_block", "copied_block", defArgs (top 22), defBody (top 22), defScope (top 22), [], []⟩,
  ⟨("first_bad_name", none), "first_bad_name", "first_bad_name", defArgs (top 25), defBody (top 25), defScope (top 25), [], []⟩,
  ⟨("check_names", none), "check_names", "check_names", defArgs (top 26), defBody (top 26), defScope (top 26), [], []⟩,
  ⟨("is_class", none), "is_class", "is_class", defArgs (top 27), defBody (top 27), defScope (top 27), [], []⟩,
  ⟨("check_classes", none), "check_classes", "check_classes", defArgs (top 28), defBody (top 28), defScope (top 28), [], []⟩,
  ⟨("check_threshold", none), "check_threshold", "check_threshold", defArgs (top 29), defBody (top 29), defScope (top 29), [], []⟩,
  ⟨("check_radices", none), "check_radices", "check_radices", defArgs (top 30), defBody (top 30), defScope (top 30), [], []⟩,
  ⟨("is_head", none), "is_head", "is_head", defArgs (top 31), defBody (top 31), defScope (top 31), [], []⟩,
  ⟨("scope_for", none), "scope_for", "scope_for", defArgs (top 32), defBody (top 32), defScope (top 32), [], []⟩,
  ⟨("check_functions", none), "check_functions", "check_functions", defArgs (top 33), defBody (top 33), defScope (top 33), [], []⟩,
  ⟨("check_body", none), "check_body", "check_body", defArgs (top 34), defBody (top 34), defScope (top 34), [], []⟩,
  ⟨("copied_classes", none), "copied_classes", "copied_classes", defArgs (top 35), defBody (top 35), defScope (top 35), [], []⟩,
  ⟨("copied_functions", none), "copied_functions", "copied_functions", defArgs (top 36), defBody (top 36), defScope (top 36), [], []⟩,
  ⟨("_law_digits", none), "_law_digits", "_law_digits", defArgs (top 39), defBody (top 39), defScope (top 39), [], []⟩,
  ⟨("_law_module", none), "_law_module", "_law_module", defArgs (top 40), defBody (top 40), defScope (top 40), [], []⟩,
  ⟨("_law_drawn", none), "_law_drawn", "_law_drawn", defArgs (top 41), defBody (top 41), defScope (top 41), [], []⟩,
  ⟨("_law_program", none), "_law_program", "_law_program", defArgs (top 42), defBody (top 42), defScope (top 42), [], []⟩,
  ⟨("_law_all", none), "_law_all", "_law_all", defArgs (top 43), defBody (top 43), defScope (top 43), [], []⟩,
  ⟨("_law_others", none), "_law_others", "_law_others", defArgs (top 44), defBody (top 44), defScope (top 44), [], []⟩,
  ⟨("law", none), "law", "law", defArgs (top 45), defBody (top 45), defScope (top 45), [], []⟩,
  ⟨("InvalidProgram", some "__init__"), "__init__", "InvalidProgram.__init__", defArgs (inClass (top 7) 0), defBody (inClass (top 7) 0), defScope (inClass (top 7) 0), [], []⟩,
  ⟨("Scope", some "__init__"), "__init__", "Scope.__init__", defArgs (inClass (top 14) 0), defBody (inClass (top 14) 0), defScope (inClass (top 14) 0), [], []⟩,
  ⟨("Survey", some "__init__"), "__init__", "Survey.__init__", defArgs (inClass (top 15) 0), defBody (inClass (top 15) 0), defScope (inClass (top 15) 0), [], []⟩,
  ⟨("Program", some "__init__"), "__init__", "Program.__init__", defArgs (inClass (top 37) 0), defBody (inClass (top 37) 0), defScope (inClass (top 37) 0), [], []⟩,
  ⟨("Program", some "classes"), "classes", "Program.classes", defArgs (inClass (top 37) 1), defBody (inClass (top 37) 1), defScope (inClass (top 37) 1), [], []⟩,
  ⟨("Program", some "body"), "body", "Program.body", defArgs (inClass (top 37) 2), defBody (inClass (top 37) 2), defScope (inClass (top 37) 2), [], []⟩,
  ⟨("Program", some "variables"), "variables", "Program.variables", defArgs (inClass (top 37) 3), defBody (inClass (top 37) 3), defScope (inClass (top 37) 3), [], []⟩,
  ⟨("Program", some "weak"), "weak", "Program.weak", defArgs (inClass (top 37) 4), defBody (inClass (top 37) 4), defScope (inClass (top 37) 4), [], []⟩,
  ⟨("Program", some "threshold"), "threshold", "Program.threshold", defArgs (inClass (top 37) 5), defBody (inClass (top 37) 5), defScope (inClass (top 37) 5), [], []⟩,
  ⟨("Program", some "radices"), "radices", "Program.radices", defArgs (inClass (top 37) 6), defBody (inClass (top 37) 6), defScope (inClass (top 37) 6), [], []⟩,
  ⟨("Program", some "functions"), "functions", "Program.functions", defArgs (inClass (top 37) 7), defBody (inClass (top 37) 7), defScope (inClass (top 37) 7), [], []⟩,
  ⟨("Program", some "__eq__"), "__eq__", "Program.__eq__", defArgs (inClass (top 37) 8), defBody (inClass (top 37) 8), defScope (inClass (top 37) 8), [], []⟩]
def hfa0 : List He.Fa := [.glo "is_integer", .glo "is_within", .glo "is_name", .glo "is_one_of", .glo "fits", .glo "fits_call", .glo "fits_form", .glo "depth_of", .glo "blocks_of", .glo "survey", .glo "copied_block", .glo "first_bad_name", .glo "check_names", .glo "is_class", .glo "check_classes", .glo "check_threshold", .glo "check_radices", .glo "is_head", .glo "scope_for", .glo "check_functions", .glo "check_body", .glo "copied_classes", .glo "copied_functions", .glo "_law_digits", .glo "_law_module", .glo "_law_drawn", .glo "_law_program", .glo "_law_all", .glo "_law_others", .glo "law", .glo "RunError"]
def hfa1 : List He.Fa := [.glo "InvalidProgram", .glo "Scope", .glo "Survey", .glo "Program", .glo "FORMS", .free "isinstance", .free "int", .free "bool", .free "str", .free "list", .free "tuple", .free "len", .free "all", .free "enumerate", .free "range", .free "max", .free "zip", .free "dict", .int "MOST_STATEMENTS" 60, .int "DEEPEST_BLOCK" 60, .int "DEEPEST_REPEAT" 3, .int "MOST_MEMORY" 12, .int "MOST_ROUNDS" 1000000000000000000000000000000, .cls "Scope", .mkr "Scope", .noat "Scope" "class_names", .noat "Scope" "field_names", .noat "Scope" "variable_names", .noat "Scope" "weak_names", .noat "Scope" "levels", .noat "Scope" "calls"]
def hfa2 : List He.Fa := [.cls "Survey", .mkr "Survey", .noat "Survey" "place", .noat "Survey" "many", .noat "Survey" "depth", .noat "Survey" "buried", .cls "Program", .mkr "Program", .noat "Program" "_classes", .noat "Program" "_body", .noat "Program" "_variables", .noat "Program" "_weak", .noat "Program" "_threshold", .noat "Program" "_radices", .noat "Program" "_functions", .meth "Program" "classes", .meth "Program" "body", .meth "Program" "variables", .meth "Program" "weak", .meth "Program" "threshold", .meth "Program" "radices", .meth "Program" "functions", .meth "Program" "__eq__", .exm "InvalidProgram" "InvalidProgram" true, .keep "InvalidProgram", .noat "InvalidProgram" "part", .noat "InvalidProgram" "at", .noat "InvalidProgram" "__getattr__", .meth "InvalidProgram" "__init__"]
def hfa : List He.Fa := hfa0 ++ hfa1 ++ hfa2
/-- the words of each form stand in the table as tuples -/
def formsB (K : PySem.W.Frag) : Bool := forms.all fun q => match PySem.W.nsIn K (He.ga K "FORMS") q.1 with
  | some (some (.ref t)) => (match K.lookup t with
    | some ⟨.type c, _, .seq its _, _⟩ => decide (c = "tuple") && (decide (its.size ≤ sizeLine) && He.relAll (q.2.map V.str) its.toList)
    | _ => false)
  | _ => false
/-- the other keys are none of it -/
def hts : List He.Tab := [((fun K => He.ga K "FORMS"), forms.map (·.1))]
def exB (K : PySem.W.Frag) : Bool := excIA K (He.ga K "InvalidProgram") && (formsB K && (decide (PySem.W.findIn K (.ref (He.ga K "InvalidProgram")) "__setattr__" = some (some (.builtin "object.__setattr__"))) && (decide (PySem.W.findIn K (.ref (He.ga K "InvalidProgram")) "__getattribute__" = some (some (.builtin "BaseException.__getattribute__"))) && (decide (PySem.W.subIn K (.ref (He.ga K "InvalidProgram")) (.type "BaseException") = some true) && (decide (PySem.W.typeIn K (.ref (He.ga K "InvalidProgram")) = some (.type "type")) && (PySem.W.hasDictIn K (He.ga K "InvalidProgram") && (decide (PySem.W.findIn K (.ref (He.ga K "Program")) "__class__" = some (some (.builtin "object.__class__"))) && (decide (PySem.W.specialIn K (.builtin "object.__class__") "__get__" = some (some (.builtin "getset_descriptor.__get__"))) && (decide (PySem.W.takesIn K (.builtin "object.__class__") = some true) && (decide (PySem.W.mroIn K (He.ga K "Program") (.type "object") = some true) && (decide (PySem.W.kitOne K (.ref (He.ga K "Program")) (.ref (He.ga K "Program")) = some true) && (decide (PySem.W.kitOne K (.type "dict") (.ref (He.ga K "Program")) = some false) && (decide (PySem.W.kitOne K (.type "list") (.ref (He.ga K "Program")) = some false) && (decide (PySem.W.findIn K (.ref (He.ga K "Program")) "__ne__" = some (some (.builtin "object.__ne__")))))))))))))))))
abbrev Rw : PySem.W.OpenRow := PySem.W.OpenLaw.row PySem.Challenge.rw_roundheap_k05_equal_programs
abbrev hhk : PySem.W.Hook := He.hookX 6 hfa hfn hts [] exB
def hob (s : PySem.W.SharedT) : He.AlX := He.obsX 6 hfa hfn hts [] exB (HandSHeadRun.getT s)
theorem hob_eq (s : PySem.W.SharedT) : hob s = hhk.obs s.abs := He.obsX_eq (HandSHeadRun.getT_eq s)
def hnm1 : List Str := ["is_integer", "is_within", "is_name", "is_one_of", "fits", "fits_call", "fits_form", "depth_of", "blocks_of", "survey", "copied_block", "first_bad_name", "check_names", "is_class", "check_classes", "check_threshold", "check_radices", "is_head", "scope_for", "check_functions"]
def hnm2 : List Str := ["check_body", "copied_classes", "copied_functions", "RunError", "InvalidProgram", "MOST_ROUNDS", "MOST_STATEMENTS", "DEEPEST_BLOCK", "DEEPEST_REPEAT", "FORMS", "Scope", "Survey", "MOST_MEMORY", "Program", "_law_digits", "_law_module", "_law_drawn", "_law_program", "_law_all", "_law_others"]
def hnm : List Str := hnm1 ++ hnm2
theorem hrun (w : World) : HandSHeadRun.RunEq Rw (PySem.W.view Rw.prog [45]) hhk hob 4000 hnm w := PySem.W.byRow2 "special-get-raises" (P := fun w => HandSHeadRun.RunEq Rw (PySem.W.view Rw.prog [45]) hhk hob 4000 hnm w) (fun w os => by kernel_rfl) (fun w os => by kernel_rfl) w
end K1

set_option Elab.async false
set_option linter.all false
set_option maxRecDepth 100000
set_option maxHeartbeats 4000000
namespace K1
open PySem PySem.Spec PyProof.Rows L2 PySem.K1X
/-! ### from the head's facts to what the texts ask -/
section
variable {w : World} {K : PySem.W.Frag} {mg : Str → Option Value} {h : Heap}
theorem keys_none {P : Params} {s : Str} : ∀ {l : List DictEntry} {ks : List Str}, l.map He.keyOf = He.keysIn P ks → s ∉ ks → l.find? (·.key.isStr s) = none ∧ l.any (·.refKey) = false
  | [], _, _, _ => ⟨rfl, rfl⟩
  | e :: r, [], z, _ => by cases z
  | e :: r, k :: ks, z, n => by
    have h1 : He.keyOf e :: r.map He.keyOf = some (k, PyData.keyHash P k) :: He.keysIn P ks := z
    injection h1 with h2 h3
    obtain ⟨i1, i2⟩ := keys_none h3 (fun m => n (List.mem_cons_of_mem _ m))
    unfold He.keyOf at h2
    split at h2
    · rename_i x t q
      have h4 := Option.some.inj h2
      obtain ⟨h5, _⟩ := Prod.mk.inj h4
      subst h5
      have ne : x ≠ s := fun z => n (by rw [z]; exact List.mem_cons_self)
      have e1 : e.key.isStr s = false := by
        rw [q]
        show (x == s) = false
        rw [beq_eq_false_iff_ne]
        exact ne
      have e2 : e.refKey = false := by
        unfold DictEntry.refKey
        rw [q]
      exact ⟨by rw [List.find?_cons_of_neg (by rw [e1]; exact Bool.false_ne_true)]; exact i1, by rw [List.any_cons, e2, i2]; rfl⟩
    · cases h2
theorem no_key {P : Params} {a : Addr} {ks : List Str} {s : Str} (h : He.dicW K a = some (He.keysIn P ks)) (n : s ∉ ks) : PySem.W.nsIn K a s = some none := by
  unfold He.dicW at h
  split at h
  · rename_i c es m sl q
    split at h
    · have z := Option.some.inj h
      obtain ⟨i1, i2⟩ := keys_none z n
      unfold PySem.W.nsIn
      rw [q]
      dsimp only
      rw [i1]
      dsimp only
      rw [i2, if_neg Bool.false_ne_true]
    · cases h
  · cases h
theorem lookup_key {α : Type} {s : Str} : ∀ {cs : List (Str × α)}, cs.lookup s = none → s ∉ cs.map (·.1)
  | [], _ => by simp
  | (n, x) :: cs, h => by
    rw [List.lookup_cons] at h
    split at h
    · cases h
    · rename_i e
      rw [List.map_cons, List.mem_cons]
      rintro (z | z)
      · rw [z] at e
        simp at e
      · exact lookup_key h z
theorem forms_of (hf : formsB K = true) : ∀ s ws, forms.lookup s = some ws → ∃ t, PySem.W.nsIn K (He.ga K "FORMS") s = some (some (.ref t)) ∧ ∀ H, SqT K H t (ws.map V.str) := fun s ws hl => by
  have := List.all_eq_true.mp hf _ (look_mem hl)
  dsimp only at this
  split at this
  · rename_i t e
    refine ⟨t, e, fun H => ?_⟩
    split at this
    · rename_i c dd its m sl q
      rw [Bool.and_eq_true, Bool.and_eq_true] at this
      obtain ⟨c1, c2, c3⟩ := this
      have c1 := of_decide_eq_true c1
      have c2 := of_decide_eq_true c2
      subst c1
      exact .inr ⟨_, its, m, q, rfl, rfl, c2, He.relAll_ok c3⟩
    · cases this
  · cases this
theorem excIA_is {C : Addr} (h : excIA K C = true) : ∃ nm q N bs bm sn sub ab col dd k0 k1 k2 k3 k5, K.lookup C = some (excClassObj nm q C N bs bm true sn sub ab col dd k0 k1 k2 k3 k5 "ArithmeticError.__new__") ∧ LineA bm := by
  unfold excIA at h
  split at h
  · rename_i t dd cd sl ho
    split at h
    · rename_i C' R k0 k1 k2 k3 n k5 hm hs
      simp only [Bool.and_eq_true, decide_eq_true_eq, Bool.not_eq_true'] at h
      obtain ⟨rfl, rfl, rfl, hdel, hdc⟩ := h
      obtain ⟨nm, bs, mro, ns, qn, hd, sn, sub, ab, col, del⟩ := cd
      dsimp only at hm hdel hdc
      subst hm hdel hdc
      have hsl : sl = #[k0, k1, k2, k3, some (.builtin "ArithmeticError.__new__"), k5] := by
        obtain ⟨l⟩ := sl
        simp only at hs
        rw [hs]
      subst hsl
      exact ⟨nm, qn, ns, bs, _, sn, sub, ab, col, dd, k0, k1, k2, k3, k5, ho, R, rfl⟩
    · cases h
  · cases h
theorem fun_of {x q : Str} {st : Stmt} {f : Addr} {fd : FuncData} (F : FunD K x q (defArgs st) (defBody st) (defScope st) [] [] f fd) : Fun K x q st f fd := by
  obtain ⟨oc, od, dV, kV, doc, pm, an, cdv, ct, osl, e, lk, hcd, hD, _⟩ := F.ex
  rcases hD with ⟨_, rfl⟩ | ⟨z, _⟩
  · exact ⟨⟨oc, od, kV, doc, pm, an, cdv, ct, osl, e, lk, hcd⟩, F.kp⟩
  · exact absurd rfl z
end
end K1

set_option Elab.async false
set_option linter.all false
set_option maxRecDepth 100000
set_option maxHeartbeats 8000000
namespace K1
open PySem PySem.Spec PyProof.Rows L2 PySem.K1X
theorem tab0 {w : World} {K : PySem.W.Frag} (c : He.SaysT hfa hfn hts w K) : He.dicW K (He.ga K "FORMS") = some (He.keysIn w.params (forms.map (·.1))) := by
  have e : hts.map (fun t => He.dicW K (t.1 K)) = hts.map fun t => some (He.keysIn w.params t.2) := congrArg (fun z : He.AlT => z.2) c
  exact (List.cons.inj e).1
theorem facts {P : Program} {w : World} {K : PySem.W.Frag} {h : Heap} {mg : Str → Option Value} {f : Addr} (X : K.In h) (G : h.Ns mainGlobals mg) (hfm : mg ("law" : Str) = some (.ref f)) (c : He.SaysX hfa hfn hts [] exB w h K) :
    ∃ fd : FuncData, (∀ (s : Shared) (v : Value), BindsTo s fd ⟨[v], []⟩ [("_law_script", v)]) ∧ ∀ base : Heap, K.In base → base.Ns mainGlobals mg → FnOk P w K mg base CX0 11 f fd ["_law_script"] (spLaw K) := by
  have cd : He.SaysD hfa hfn K := c.t.d
  have e := hfm.symm.trans (He.glo_ok X G (cd.fact 29 (f := .glo "law") rfl))
  cases e
  obtain ⟨fd0, D0⟩ := cd.def_ 0 rfl
  have F0 : Fun K "is_integer" "is_integer" (top 1) (He.fAd K ("is_integer", none)) fd0 := fun_of D0
  have b0 : Binds K fd0 ["value"] [] := D0.bindsN fun _ _ _ _ _ _ us hl => match us, hl with | [_], _ => rfl
  obtain ⟨fd1, D1⟩ := cd.def_ 1 rfl
  have F1 : Fun K "is_within" "is_within" (top 2) (He.fAd K ("is_within", none)) fd1 := fun_of D1
  have b1 : Binds K fd1 ["value", "least", "most"] [] := D1.bindsN fun _ _ _ _ _ _ us hl => match us, hl with | [_, _, _], _ => rfl
  obtain ⟨fd2, D2⟩ := cd.def_ 2 rfl
  have F2 : Fun K "is_name" "is_name" (top 3) (He.fAd K ("is_name", none)) fd2 := fun_of D2
  have b2 : Binds K fd2 ["value"] [] := D2.bindsN fun _ _ _ _ _ _ us hl => match us, hl with | [_], _ => rfl
  obtain ⟨fd3, D3⟩ := cd.def_ 3 rfl
  have F3 : Fun K "is_one_of" "is_one_of" (top 4) (He.fAd K ("is_one_of", none)) fd3 := fun_of D3
  have b3 : Binds K fd3 ["value", "names"] [] := D3.bindsN fun _ _ _ _ _ _ us hl => match us, hl with | [_, _], _ => rfl
  obtain ⟨fd4, D4⟩ := cd.def_ 4 rfl
  have F4 : Fun K "fits" "fits" (top 16) (He.fAd K ("fits", none)) fd4 := fun_of D4
  have b4 : Binds K fd4 ["kind", "value", "scope"] [] := D4.bindsN fun _ _ _ _ _ _ us hl => match us, hl with | [_, _, _], _ => rfl
  obtain ⟨fd5, D5⟩ := cd.def_ 5 rfl
  have F5 : Fun K "fits_call" "fits_call" (top 17) (He.fAd K ("fits_call", none)) fd5 := fun_of D5
  have b5 : Binds K fd5 ["words", "scope", "repeats"] [] := D5.bindsN fun _ _ _ _ _ _ us hl => match us, hl with | [_, _, _], _ => rfl
  obtain ⟨fd6, D6⟩ := cd.def_ 6 rfl
  have F6 : Fun K "fits_form" "fits_form" (top 18) (He.fAd K ("fits_form", none)) fd6 := fun_of D6
  have b6 : Binds K fd6 ["statement", "scope", "repeats"] [] := D6.bindsN fun _ _ _ _ _ _ us hl => match us, hl with | [_, _, _], _ => rfl
  obtain ⟨fd7, D7⟩ := cd.def_ 7 rfl
  have F7 : Fun K "depth_of" "depth_of" (top 19) (He.fAd K ("depth_of", none)) fd7 := fun_of D7
  have b7 : Binds K fd7 ["statement", "scope", "repeats"] [] := D7.bindsN fun _ _ _ _ _ _ us hl => match us, hl with | [_, _, _], _ => rfl
  obtain ⟨fd8, D8⟩ := cd.def_ 8 rfl
  have F8 : Fun K "blocks_of" "blocks_of" (top 20) (He.fAd K ("blocks_of", none)) fd8 := fun_of D8
  have b8 : Binds K fd8 ["statement", "place"] [] := D8.bindsN fun _ _ _ _ _ _ us hl => match us, hl with | [_, _], _ => rfl
  obtain ⟨fd9, D9⟩ := cd.def_ 9 rfl
  have F9 : Fun K "survey" "survey" (top 21) (He.fAd K ("survey", none)) fd9 := fun_of D9
  have b9 : Binds K fd9 ["body", "scope"] [] := D9.bindsN fun _ _ _ _ _ _ us hl => match us, hl with | [_, _], _ => rfl
  obtain ⟨fd10, D10⟩ := cd.def_ 10 rfl
  have F10 : Fun K "copied_block" "copied_block" (top 22) (He.fAd K ("copied_block", none)) fd10 := fun_of D10
  have b10 : Binds K fd10 ["block"] [] := D10.bindsN fun _ _ _ _ _ _ us hl => match us, hl with | [_], _ => rfl
  obtain ⟨fd11, D11⟩ := cd.def_ 11 rfl
  have F11 : Fun K "first_bad_name" "first_bad_name" (top 25) (He.fAd K ("first_bad_name", none)) fd11 := fun_of D11
  have b11 : Binds K fd11 ["value", "most", "barred"] [] := D11.bindsN fun _ _ _ _ _ _ us hl => match us, hl with | [_, _, _], _ => rfl
  obtain ⟨fd12, D12⟩ := cd.def_ 12 rfl
  have F12 : Fun K "check_names" "check_names" (top 26) (He.fAd K ("check_names", none)) fd12 := fun_of D12
  have b12 : Binds K fd12 ["part", "value", "least", "most", "barred"] [] := D12.bindsN fun _ _ _ _ _ _ us hl => match us, hl with | [_, _, _, _, _], _ => rfl
  obtain ⟨fd13, D13⟩ := cd.def_ 13 rfl
  have F13 : Fun K "is_class" "is_class" (top 27) (He.fAd K ("is_class", none)) fd13 := fun_of D13
  have b13 : Binds K fd13 ["value", "seen"] [] := D13.bindsN fun _ _ _ _ _ _ us hl => match us, hl with | [_, _], _ => rfl
  obtain ⟨fd14, D14⟩ := cd.def_ 14 rfl
  have F14 : Fun K "check_classes" "check_classes" (top 28) (He.fAd K ("check_classes", none)) fd14 := fun_of D14
  have b14 : Binds K fd14 ["classes"] [] := D14.bindsN fun _ _ _ _ _ _ us hl => match us, hl with | [_], _ => rfl
  obtain ⟨fd15, D15⟩ := cd.def_ 15 rfl
  have F15 : Fun K "check_threshold" "check_threshold" (top 29) (He.fAd K ("check_threshold", none)) fd15 := fun_of D15
  have b15 : Binds K fd15 ["threshold"] [] := D15.bindsN fun _ _ _ _ _ _ us hl => match us, hl with | [_], _ => rfl
  obtain ⟨fd16, D16⟩ := cd.def_ 16 rfl
  have F16 : Fun K "check_radices" "check_radices" (top 30) (He.fAd K ("check_radices", none)) fd16 := fun_of D16
  have b16 : Binds K fd16 ["radices", "threshold"] [] := D16.bindsN fun _ _ _ _ _ _ us hl => match us, hl with | [_, _], _ => rfl
  obtain ⟨fd17, D17⟩ := cd.def_ 17 rfl
  have F17 : Fun K "is_head" "is_head" (top 31) (He.fAd K ("is_head", none)) fd17 := fun_of D17
  have b17 : Binds K fd17 ["value", "seen", "weak"] [] := D17.bindsN fun _ _ _ _ _ _ us hl => match us, hl with | [_, _, _], _ => rfl
  obtain ⟨fd18, D18⟩ := cd.def_ 18 rfl
  have F18 : Fun K "scope_for" "scope_for" (top 32) (He.fAd K ("scope_for", none)) fd18 := fun_of D18
  have b18 : Binds K fd18 ["names", "classes", "weak", "radices", "calls"] [] := D18.bindsN fun _ _ _ _ _ _ us hl => match us, hl with | [_, _, _, _, _], _ => rfl
  obtain ⟨fd19, D19⟩ := cd.def_ 19 rfl
  have F19 : Fun K "check_functions" "check_functions" (top 33) (He.fAd K ("check_functions", none)) fd19 := fun_of D19
  have b19 : Binds K fd19 ["functions", "classes", "weak", "radices"] [] := D19.bindsN fun _ _ _ _ _ _ us hl => match us, hl with | [_, _, _, _], _ => rfl
  obtain ⟨fd20, D20⟩ := cd.def_ 20 rfl
  have F20 : Fun K "check_body" "check_body" (top 34) (He.fAd K ("check_body", none)) fd20 := fun_of D20
  have b20 : Binds K fd20 ["body", "scope", "many"] [] := D20.bindsN fun _ _ _ _ _ _ us hl => match us, hl with | [_, _, _], _ => rfl
  obtain ⟨fd21, D21⟩ := cd.def_ 21 rfl
  have F21 : Fun K "copied_classes" "copied_classes" (top 35) (He.fAd K ("copied_classes", none)) fd21 := fun_of D21
  have b21 : Binds K fd21 ["classes"] [] := D21.bindsN fun _ _ _ _ _ _ us hl => match us, hl with | [_], _ => rfl
  obtain ⟨fd22, D22⟩ := cd.def_ 22 rfl
  have F22 : Fun K "copied_functions" "copied_functions" (top 36) (He.fAd K ("copied_functions", none)) fd22 := fun_of D22
  have b22 : Binds K fd22 ["functions"] [] := D22.bindsN fun _ _ _ _ _ _ us hl => match us, hl with | [_], _ => rfl
  obtain ⟨fd23, D23⟩ := cd.def_ 23 rfl
  have F23 : Fun K "_law_digits" "_law_digits" (top 39) (He.fAd K ("_law_digits", none)) fd23 := fun_of D23
  have b23 : Binds K fd23 ["_law_cell", "_law_many"] [] := D23.bindsN fun _ _ _ _ _ _ us hl => match us, hl with | [_, _], _ => rfl
  obtain ⟨fd24, D24⟩ := cd.def_ 24 rfl
  have F24 : Fun K "_law_module" "_law_module" (top 40) (He.fAd K ("_law_module", none)) fd24 := fun_of D24
  have b24 : Binds K fd24 ["_law_digits_here"] [] := D24.bindsN fun _ _ _ _ _ _ us hl => match us, hl with | [_], _ => rfl
  obtain ⟨fd25, D25⟩ := cd.def_ 25 rfl
  have F25 : Fun K "_law_drawn" "_law_drawn" (top 41) (He.fAd K ("_law_drawn", none)) fd25 := fun_of D25
  have b25 : Binds K fd25 ["_law_digits_here", "_law_times"] [] := D25.bindsN fun _ _ _ _ _ _ us hl => match us, hl with | [_, _], _ => rfl
  obtain ⟨fd26, D26⟩ := cd.def_ 26 rfl
  have F26 : Fun K "_law_program" "_law_program" (top 42) (He.fAd K ("_law_program", none)) fd26 := fun_of D26
  have b26 : Binds K fd26 ["_law_parts"] [] := D26.bindsN fun _ _ _ _ _ _ us hl => match us, hl with | [_], _ => rfl
  obtain ⟨fd27, D27⟩ := cd.def_ 27 rfl
  have F27 : Fun K "_law_all" "_law_all" (top 43) (He.fAd K ("_law_all", none)) fd27 := fun_of D27
  have b27 : Binds K fd27 ["_law_program_here"] [] := D27.bindsN fun _ _ _ _ _ _ us hl => match us, hl with | [_], _ => rfl
  obtain ⟨fd28, D28⟩ := cd.def_ 28 rfl
  have F28 : Fun K "_law_others" "_law_others" (top 44) (He.fAd K ("_law_others", none)) fd28 := fun_of D28
  have b28 : Binds K fd28 ["_law_parts", "_law_digits_here"] [] := D28.bindsN fun _ _ _ _ _ _ us hl => match us, hl with | [_, _], _ => rfl
  obtain ⟨fd29, D29⟩ := cd.def_ 29 rfl
  have F29 : Fun K "law" "law" (top 45) (He.fAd K ("law", none)) fd29 := fun_of D29
  have b29 : Binds K fd29 ["_law_script"] [] := D29.bindsN fun _ _ _ _ _ _ us hl => match us, hl with | [_], _ => rfl
  obtain ⟨fd30, D30⟩ := cd.def_ 30 rfl
  have F30 : Fun K "__init__" "InvalidProgram.__init__" sIP (He.fAd K ("InvalidProgram", some "__init__")) fd30 := fun_of D30
  have b30 : Binds K fd30 ["self", "part", "at"] [] := D30.bindsN fun _ _ _ _ _ _ us hl => match us, hl with | [_, _, _], _ => rfl
  obtain ⟨fd31, D31⟩ := cd.def_ 31 rfl
  have F31 : Fun K "__init__" "Scope.__init__" sScI (He.fAd K ("Scope", some "__init__")) fd31 := fun_of D31
  have b31 : Binds K fd31 ["self", "class_names", "field_names", "variable_names", "weak_names", "levels", "calls"] [] := D31.bindsN fun _ _ _ _ _ _ us hl => match us, hl with | [_, _, _, _, _, _, _], _ => rfl
  obtain ⟨fd32, D32⟩ := cd.def_ 32 rfl
  have F32 : Fun K "__init__" "Survey.__init__" sSuI (He.fAd K ("Survey", some "__init__")) fd32 := fun_of D32
  have b32 : Binds K fd32 ["self", "place", "many", "depth", "buried"] [] := D32.bindsN fun _ _ _ _ _ _ us hl => match us, hl with | [_, _, _, _, _], _ => rfl
  obtain ⟨fd33, D33⟩ := cd.def_ 33 rfl
  have F33 : Fun K "__init__" "Program.__init__" sPrI (He.fAd K ("Program", some "__init__")) fd33 := fun_of D33
  obtain ⟨fd34, D34⟩ := cd.def_ 34 rfl
  have F34 : Fun K "classes" "Program.classes" (inClass (top 37) 1) (He.fAd K ("Program", some "classes")) fd34 := fun_of D34
  have b34 : Binds K fd34 ["self"] [] := D34.bindsN fun _ _ _ _ _ _ us hl => match us, hl with | [_], _ => rfl
  obtain ⟨fd35, D35⟩ := cd.def_ 35 rfl
  have F35 : Fun K "body" "Program.body" (inClass (top 37) 2) (He.fAd K ("Program", some "body")) fd35 := fun_of D35
  have b35 : Binds K fd35 ["self"] [] := D35.bindsN fun _ _ _ _ _ _ us hl => match us, hl with | [_], _ => rfl
  obtain ⟨fd36, D36⟩ := cd.def_ 36 rfl
  have F36 : Fun K "variables" "Program.variables" (inClass (top 37) 3) (He.fAd K ("Program", some "variables")) fd36 := fun_of D36
  have b36 : Binds K fd36 ["self"] [] := D36.bindsN fun _ _ _ _ _ _ us hl => match us, hl with | [_], _ => rfl
  obtain ⟨fd37, D37⟩ := cd.def_ 37 rfl
  have F37 : Fun K "weak" "Program.weak" (inClass (top 37) 4) (He.fAd K ("Program", some "weak")) fd37 := fun_of D37
  have b37 : Binds K fd37 ["self"] [] := D37.bindsN fun _ _ _ _ _ _ us hl => match us, hl with | [_], _ => rfl
  obtain ⟨fd38, D38⟩ := cd.def_ 38 rfl
  have F38 : Fun K "threshold" "Program.threshold" (inClass (top 37) 5) (He.fAd K ("Program", some "threshold")) fd38 := fun_of D38
  have b38 : Binds K fd38 ["self"] [] := D38.bindsN fun _ _ _ _ _ _ us hl => match us, hl with | [_], _ => rfl
  obtain ⟨fd39, D39⟩ := cd.def_ 39 rfl
  have F39 : Fun K "radices" "Program.radices" (inClass (top 37) 6) (He.fAd K ("Program", some "radices")) fd39 := fun_of D39
  have b39 : Binds K fd39 ["self"] [] := D39.bindsN fun _ _ _ _ _ _ us hl => match us, hl with | [_], _ => rfl
  obtain ⟨fd40, D40⟩ := cd.def_ 40 rfl
  have F40 : Fun K "functions" "Program.functions" (inClass (top 37) 7) (He.fAd K ("Program", some "functions")) fd40 := fun_of D40
  have b40 : Binds K fd40 ["self"] [] := D40.bindsN fun _ _ _ _ _ _ us hl => match us, hl with | [_], _ => rfl
  obtain ⟨fd41, D41⟩ := cd.def_ 41 rfl
  have F41 : Fun K "__eq__" "Program.__eq__" (inClass (top 37) 8) (He.fAd K ("Program", some "__eq__")) fd41 := fun_of D41
  have b41 : Binds K fd41 ["self", "other"] [] := D41.bindsN fun _ _ _ _ _ _ us hl => match us, hl with | [_, _], _ => rfl
  have zisinstance := He.free_ok X G (cd.fact 36 (f := .free "isinstance") rfl)
  have zint := He.free_ok X G (cd.fact 37 (f := .free "int") rfl)
  have zbool := He.free_ok X G (cd.fact 38 (f := .free "bool") rfl)
  have zstr := He.free_ok X G (cd.fact 39 (f := .free "str") rfl)
  have zlist := He.free_ok X G (cd.fact 40 (f := .free "list") rfl)
  have ztuple := He.free_ok X G (cd.fact 41 (f := .free "tuple") rfl)
  have zlen := He.free_ok X G (cd.fact 42 (f := .free "len") rfl)
  have zall := He.free_ok X G (cd.fact 43 (f := .free "all") rfl)
  have zenumerate := He.free_ok X G (cd.fact 44 (f := .free "enumerate") rfl)
  have zrange := He.free_ok X G (cd.fact 45 (f := .free "range") rfl)
  have zmax := He.free_ok X G (cd.fact 46 (f := .free "max") rfl)
  have zzip := He.free_ok X G (cd.fact 47 (f := .free "zip") rfl)
  have zdict := He.free_ok X G (cd.fact 48 (f := .free "dict") rfl)
  have B : Blt mg := ⟨zisinstance, zint, zbool, zstr, zlist, ztuple, zlen, zall, zenumerate, zrange, zmax⟩
  obtain ⟨t0, i0⟩ := He.int_ok X G (cd.fact 49 (f := .int "MOST_STATEMENTS" 60) rfl)
  obtain ⟨t1, i1⟩ := He.int_ok X G (cd.fact 50 (f := .int "DEEPEST_BLOCK" 60) rfl)
  obtain ⟨t2, i2⟩ := He.int_ok X G (cd.fact 51 (f := .int "DEEPEST_REPEAT" 3) rfl)
  obtain ⟨t3, i3⟩ := He.int_ok X G (cd.fact 52 (f := .int "MOST_MEMORY" 12) rfl)
  obtain ⟨t4, i4⟩ := He.int_ok X G (cd.fact 53 (f := .int "MOST_ROUNDS" 1000000000000000000000000000000) rfl)
  have US : NoS K (He.ga K "Scope") := ⟨He.cls_ok (cd.fact 54 (f := .cls "Scope") rfl), He.noat_ok (cd.fact 56 (f := .noat "Scope" "class_names") rfl), He.noat_ok (cd.fact 57 (f := .noat "Scope" "field_names") rfl), He.noat_ok (cd.fact 58 (f := .noat "Scope" "variable_names") rfl), He.noat_ok (cd.fact 59 (f := .noat "Scope" "weak_names") rfl), He.noat_ok (cd.fact 60 (f := .noat "Scope" "levels") rfl), He.noat_ok (cd.fact 61 (f := .noat "Scope" "calls") rfl)⟩
  have UU : NoU K (He.ga K "Survey") := ⟨He.cls_ok (cd.fact 62 (f := .cls "Survey") rfl), He.noat_ok (cd.fact 64 (f := .noat "Survey" "place") rfl), He.noat_ok (cd.fact 65 (f := .noat "Survey" "many") rfl), He.noat_ok (cd.fact 66 (f := .noat "Survey" "depth") rfl), He.noat_ok (cd.fact 67 (f := .noat "Survey" "buried") rfl)⟩
  have UP : NoP K (He.ga K "Program") := ⟨He.cls_ok (cd.fact 68 (f := .cls "Program") rfl), He.noat_ok (cd.fact 70 (f := .noat "Program" "_classes") rfl), He.noat_ok (cd.fact 71 (f := .noat "Program" "_body") rfl), He.noat_ok (cd.fact 72 (f := .noat "Program" "_variables") rfl), He.noat_ok (cd.fact 73 (f := .noat "Program" "_weak") rfl), He.noat_ok (cd.fact 74 (f := .noat "Program" "_threshold") rfl), He.noat_ok (cd.fact 75 (f := .noat "Program" "_radices") rfl), He.noat_ok (cd.fact 76 (f := .noat "Program" "_functions") rfl)⟩
  have gC := He.glo_ok X G (cd.fact 31 (f := .glo "InvalidProgram") rfl)
  have gP := He.glo_ok X G (cd.fact 34 (f := .glo "Program") rfl)
  have n1 := He.noat_ok (cd.fact 87 (f := .noat "InvalidProgram" "part") rfl)
  have n2 := He.noat_ok (cd.fact 88 (f := .noat "InvalidProgram" "at") rfl)
  have n3 := He.noat_ok (cd.fact 89 (f := .noat "InvalidProgram" "__getattr__") rfl)
  have mI := He.meth_ok (cd.fact 90 (f := .meth "InvalidProgram" "__init__") rfl)
  obtain ⟨xIA, x2⟩ := He.ba c.more
  obtain ⟨xf, x2⟩ := He.ba x2
  obtain ⟨xsa, x2⟩ := He.ba x2
  obtain ⟨xga, x2⟩ := He.ba x2
  obtain ⟨xsu, x2⟩ := He.ba x2
  obtain ⟨xty, x2⟩ := He.ba x2
  obtain ⟨xhd, x2⟩ := He.ba x2
  obtain ⟨y1, x2⟩ := He.ba x2
  obtain ⟨y2, x2⟩ := He.ba x2
  obtain ⟨y3, x2⟩ := He.ba x2
  obtain ⟨y4, x2⟩ := He.ba x2
  obtain ⟨y5, x2⟩ := He.ba x2
  obtain ⟨e0, x2⟩ := He.ba x2
  obtain ⟨e1, x2⟩ := He.ba x2
  have e2 := x2
  have TA : ExA K (He.ga K "InvalidProgram") := ⟨excIA_is xIA, of_decide_eq_true xsa, of_decide_eq_true xsu, of_decide_eq_true xty, He.keep_ok (cd.fact 86 (f := .keep "InvalidProgram") rfl)⟩
  have FM : Frm w K mg (He.ga K "FORMS") := ⟨He.glo_ok X G (cd.fact 35 (f := .glo "FORMS") rfl), c.t.tab 0 rfl, forms_of xf, fun s hs => no_key (tab0 c.t) (lookup_key hs)⟩
  have bA := FunD.bindsA (ps := ["_law_script"]) D29 fun _ _ _ _ _ _ us hl => match us, hl with | [_], _ => rfl
  refine ⟨fd29, fun s v => bA s [v] rfl, fun base _ _ => ?_⟩
  have C1 : Cal P w K mg base CX0 1 "is_integer" ["value"] spInteger := ⟨_, _, ok1 F0 B, He.glo_ok X G (cd.fact 0 (f := .glo "is_integer") rfl), D0.kp, b0⟩
  have C2 : Cal P w K mg base CX0 2 "is_within" ["value", "least", "most"] spWithin := ⟨_, _, ok2 F1 B C1, He.glo_ok X G (cd.fact 1 (f := .glo "is_within") rfl), D1.kp, b1⟩
  have C3 : Cal P w K mg base CX0 1 "is_name" ["value"] spName := ⟨_, _, ok3 F2 B, He.glo_ok X G (cd.fact 2 (f := .glo "is_name") rfl), D2.kp, b2⟩
  have C4 : Cal P w K mg base CX0 1 "is_one_of" ["value", "names"] spOne := ⟨_, _, ok4 F3 B, He.glo_ok X G (cd.fact 3 (f := .glo "is_one_of") rfl), D3.kp, b3⟩
  have C25 : Cal P w K mg base CX0 2 "first_bad_name" ["value", "most", "barred"] spFirst := ⟨_, _, ok25 F11 B C3, He.glo_ok X G (cd.fact 11 (f := .glo "first_bad_name") rfl), D11.kp, b11⟩
  have IP : Ipc P w K mg base (He.ga K "InvalidProgram") := ⟨TA, ⟨_, _, mI.at_, beq_iff_eq.mp mI.fn, okIP F30 TA n1 n2, b30⟩, gC⟩
  have C26 : Cal P w K mg base (L2.CX P w) 3 "check_names" ["part", "value", "least", "most", "barred"] (spNames (He.ga K "InvalidProgram")) := ⟨_, _, ok26 F12 B IP C25, He.glo_ok X G (cd.fact 12 (f := .glo "check_names") rfl), D12.kp, b12⟩
  have C27 : Cal P w K mg base CX0 3 "is_class" ["value", "seen"] spIsClass := ⟨_, _, ok27 F13 B C2 C3 C25, He.glo_ok X G (cd.fact 13 (f := .glo "is_class") rfl), D13.kp, b13⟩
  have C28 : Cal P w K mg base (L2.CX P w) 4 "check_classes" ["classes"] (spClasses (He.ga K "InvalidProgram")) := ⟨_, _, ok28 F14 B IP C27, He.glo_ok X G (cd.fact 14 (f := .glo "check_classes") rfl), D14.kp, b14⟩
  have C29 : Cal P w K mg base (L2.CX P w) 3 "check_threshold" ["threshold"] (spThr (He.ga K "InvalidProgram")) := ⟨_, _, ok29 F15 i3 IP C2, He.glo_ok X G (cd.fact 15 (f := .glo "check_threshold") rfl), D15.kp, b15⟩
  have C30 : Cal P w K mg base (L2.CX P w) 3 "check_radices" ["radices", "threshold"] (spRad (He.ga K "InvalidProgram")) := ⟨_, _, ok30 F16 B i3 IP C1, He.glo_ok X G (cd.fact 16 (f := .glo "check_radices") rfl), D16.kp, b16⟩
  have MS : Mkr P w K mg base CX0 1 "Scope" (He.ga K "Scope") ["self", "class_names", "field_names", "variable_names", "weak_names", "levels", "calls"] (spScG (He.ga K "Scope")) := ⟨_, _, He.mkr_ok (cd.fact 55 (f := .mkr "Scope") rfl), okScG F31 US, He.glo_ok X G (cd.fact 32 (f := .glo "Scope") rfl), b31⟩
  have MU : Mkr P w K mg base CX0 1 "Survey" (He.ga K "Survey") ["self", "place", "many", "depth", "buried"] (spSuI (He.ga K "Survey")) := ⟨_, _, He.mkr_ok (cd.fact 63 (f := .mkr "Survey") rfl), okSuI F32 UU, He.glo_ok X G (cd.fact 33 (f := .glo "Survey") rfl), b32⟩
  have C16 : Cal P w K mg base CX0 3 "fits" ["kind", "value", "scope"] (spFits (He.ga K "Scope")) := ⟨_, _, ok16 F4 US i4 C2 C4 C3, He.glo_ok X G (cd.fact 4 (f := .glo "fits") rfl), D4.kp, b4⟩
  have C17 : Cal P w K mg base CX0 4 "fits_call" ["words", "scope", "repeats"] (spCallF (He.ga K "Scope")) := ⟨_, _, ok17 F5 B US i2 C4 C16, He.glo_ok X G (cd.fact 5 (f := .glo "fits_call") rfl), D5.kp, b5⟩
  have C18 : Cal P w K mg base CX0 5 "fits_form" ["statement", "scope", "repeats"] (spForm (He.ga K "Scope")) := ⟨_, _, ok18 F6 B zzip FM i2 C17 C16, He.glo_ok X G (cd.fact 6 (f := .glo "fits_form") rfl), D6.kp, b6⟩
  have C19 : Cal P w K mg base CX0 1 "depth_of" ["statement", "scope", "repeats"] (spDepth (He.ga K "Scope")) := ⟨_, _, ok19 F7 US, He.glo_ok X G (cd.fact 7 (f := .glo "depth_of") rfl), D7.kp, b7⟩
  have C20 : Cal P w K mg base CX0 1 "blocks_of" ["statement", "place"] spBlocks := ⟨_, _, ok20 F8, He.glo_ok X G (cd.fact 8 (f := .glo "blocks_of") rfl), D8.kp, b8⟩
  have C21 : Cal P w K mg base CX0 6 "survey" ["body", "scope"] (spSv (He.ga K "Scope") (He.ga K "Survey")) := ⟨_, _, okSv F9 B US i1 i0 MU C18 C19 C20, He.glo_ok X G (cd.fact 9 (f := .glo "survey") rfl), D9.kp, b9⟩
  have C22 : Cal P w K mg base CX0 5 "copied_block" ["block"] (spCopy 4) := ⟨_, _, ok22c F10 B (He.glo_ok X G (cd.fact 10 (f := .glo "copied_block") rfl)) b10 4, He.glo_ok X G (cd.fact 10 (f := .glo "copied_block") rfl), D10.kp, b10⟩
  have C31 : Cal P w K mg base CX0 3 "is_head" ["value", "seen", "weak"] spHead := ⟨_, _, ok31 F17 B C3 C4 C25, He.glo_ok X G (cd.fact 17 (f := .glo "is_head") rfl), D17.kp, b17⟩
  have C32 : Cal P w K mg base CX0 3 "scope_for" ["names", "classes", "weak", "radices", "calls"] (spSF (He.ga K "Scope")) := ⟨_, _, okSF F18 B MS, He.glo_ok X G (cd.fact 18 (f := .glo "scope_for") rfl), D18.kp, b18⟩
  have C33 : Cal P w K mg base (L2.CX P w) 7 "check_functions" ["functions", "classes", "weak", "radices"] (spCFn (He.ga K "InvalidProgram")) := ⟨_, _, ok33c F19 B IP UU C31 C21 C32, He.glo_ok X G (cd.fact 19 (f := .glo "check_functions") rfl), D19.kp, b19⟩
  have C34 : Cal P w K mg base (L2.CX P w) 7 "check_body" ["body", "scope", "many"] (spCB (He.ga K "InvalidProgram") (He.ga K "Scope")) := ⟨_, _, ok34c F20 B i0 IP UU C21, He.glo_ok X G (cd.fact 20 (f := .glo "check_body") rfl), D20.kp, b20⟩
  have C35 : Cal P w K mg base CX0 1 "copied_classes" ["classes"] spCopyCls := ⟨_, _, ok35 F21 B, He.glo_ok X G (cd.fact 21 (f := .glo "copied_classes") rfl), D21.kp, b21⟩
  have C36 : Cal P w K mg base CX0 6 "copied_functions" ["functions"] (spCpF 4) := ⟨_, _, ok36c F22 B C22, He.glo_ok X G (cd.fact 22 (f := .glo "copied_functions") rfl), D22.kp, b22⟩
  have PR : PrmN P w K mg base (He.ga K "InvalidProgram") (He.ga K "Program") 4 7 := ⟨⟨_, _, He.mkr_ok (cd.fact 69 (f := .mkr "Program") rfl), okPr2 (by decide) (by decide) F33 B UP C28 C26 C29 C30 C33 C32 C34 C35 C22 C36, kb_pr F33⟩, gP⟩
  have IS : Isi5 K (He.ga K "Program") := ⟨UP.cl, of_decide_eq_true y1, of_decide_eq_true y2, of_decide_eq_true y3, of_decide_eq_true y4, of_decide_eq_true y5, of_decide_eq_true e0, of_decide_eq_true e1⟩
  have T1 : Tel P w K mg base (He.ga K "Program") "classes" (fun g => clsD g.rows) := ⟨_, _, He.meth_ok (cd.fact 77 (f := .meth "Program" "classes") rfl), FnOk.mono (m1 F34 UP C35) (by decide), b34⟩
  have T2 : Tel P w K mg base (He.ga K "Program") "body" (fun g => .list g.bs) := ⟨_, _, He.meth_ok (cd.fact 78 (f := .meth "Program" "body") rfl), FnOk.mono (m2 F35 UP C22) (by decide), b35⟩
  have T3 : Tel P w K mg base (He.ga K "Program") "variables" (fun g => strD g.ns) := ⟨_, _, He.meth_ok (cd.fact 79 (f := .meth "Program" "variables") rfl), FnOk.mono (m3 F36 B UP) (by decide), b36⟩
  have T4 : Tel P w K mg base (He.ga K "Program") "weak" (fun g => strD g.ls) := ⟨_, _, He.meth_ok (cd.fact 80 (f := .meth "Program" "weak") rfl), FnOk.mono (m4 F37 B UP) (by decide), b37⟩
  have T5 : Tel P w K mg base (He.ga K "Program") "threshold" (fun g => .int g.th) := ⟨_, _, He.meth_ok (cd.fact 81 (f := .meth "Program" "threshold") rfl), FnOk.mono (m5 F38 UP) (by decide), b38⟩
  have T6 : Tel P w K mg base (He.ga K "Program") "radices" (fun g => intD g.ks) := ⟨_, _, He.meth_ok (cd.fact 82 (f := .meth "Program" "radices") rfl), FnOk.mono (m6 F39 B UP) (by decide), b39⟩
  have T7 : Tel P w K mg base (He.ga K "Program") "functions" (fun g => .list g.fs) := ⟨_, _, He.meth_ok (cd.fact 83 (f := .meth "Program" "functions") rfl), FnOk.mono (m7 F40 UP C36) (by decide), b40⟩
  have mE := He.meth_ok (cd.fact 84 (f := .meth "Program" "__eq__") rfl)
  have O : OwnE P w K mg base CX0 1 (He.ga K "Program") ["self", "other"] (spEq5 (He.ga K "Program")) := ⟨⟨_, _, m8 F41 B gP UP IS, mE.at_, mE.fn, b41⟩, of_decide_eq_true e2, of_decide_eq_true y4⟩
  have C39 : Cal P w K mg base CX0 1 "_law_digits" ["_law_cell", "_law_many"] spDig := ⟨_, _, ok39 F23 B, He.glo_ok X G (cd.fact 23 (f := .glo "_law_digits") rfl), D23.kp, b23⟩
  have C40 : Cal P w K mg base CX0 1 "_law_module" ["_law_digits_here"] spMod := ⟨_, _, ok40 F24 B, He.glo_ok X G (cd.fact 24 (f := .glo "_law_module") rfl), D24.kp, b24⟩
  have C41 : Cal P w K mg base CX0 2 "_law_drawn" ["_law_digits_here", "_law_times"] spDrawn := ⟨_, _, ok41 F25 B C40, He.glo_ok X G (cd.fact 25 (f := .glo "_law_drawn") rfl), D25.kp, b25⟩
  have C42 : Cal P w K mg base CX0 10 "_law_program" ["_law_parts"] (spPrg (He.ga K "Program")) := ⟨_, _, ok42 F26 PR, He.glo_ok X G (cd.fact 26 (f := .glo "_law_program") rfl), D26.kp, b26⟩
  have C43 : Cal P w K mg base CX0 8 "_law_all" ["_law_program_here"] (spAll (He.ga K "Program")) := ⟨_, _, ok43 F27 UP.cl T1 T2 T3 T4 T5 T6 T7, He.glo_ok X G (cd.fact 27 (f := .glo "_law_all") rfl), D27.kp, b27⟩
  have C44 : Cal P w K mg base CX0 1 "_law_others" ["_law_parts", "_law_digits_here"] spOth := ⟨_, _, ok44 F28 B ⟨zdict⟩, He.glo_ok X G (cd.fact 28 (f := .glo "_law_others") rfl), D28.kp, b28⟩
  exact ok45 F29 B O C39 C41 C42 C43 C44
end K1
open PySem PySem.W PySem.Calls PyProof.Rows
set_option maxRecDepth 100000 in
set_option maxHeartbeats 0 in
theorem PySem.Challenge.cw_roundheap_k05_equal_programs_holds : PySem.Challenge.rw_roundheap_k05_equal_programs.Holds := by
  w_on; o_law
  refine HandSHeadRun.head_any (r := OpenLaw.row PySem.Challenge.rw_roundheap_k05_equal_programs) (q := view (OpenLaw.row PySem.Challenge.rw_roundheap_k05_equal_programs).prog [45]) (H := K1.hhk) (ob := K1.hob) (M := 4000) (loose := K1.hnm) (d := HandSHeadRun.topDef (OpenLaw.row PySem.Challenge.rw_roundheap_k05_equal_programs).prog 45) (kwd := []) K1.hob_eq
    (by kernel_rfl) (fun s => by kernel_rfl) K1.hrun (by kernel_rfl) (by kernel_rfl) (by kernel_rfl) (by rfl) (by first | assumption | decide +kernel) (by decide +kernel) ⟨rfl, rfl, rfl, rfl, rfl, by decide +kernel⟩ ?hw ?hc
  case hw => w_witness2
  case hc =>
    refine L2.walk_ofE (l := PySem.Challenge.rw_roundheap_k05_equal_programs) (n := 63) (k := 11) (x := "_law_script") (CX := L2.CX0) rfl (by decide) (by kernel_rfl) ⟨rfl, by decide, by decide⟩ ?F (fun _ _ _ _ z => z)
    intro w mg fa h Y G hmg0
    obtain ⟨K, KX, c⟩ := Y
    have hmg : mg ("law" : PySem.Str) = some (.ref fa) := by
      have e : (HandSHeadRun.topDef (OpenLaw.row PySem.Challenge.rw_roundheap_k05_equal_programs).prog 45).name = ("law" : PySem.Str) := by kernel_rfl
      rw [← e]
      exact hmg0
    obtain ⟨fd, hb, hF⟩ := K1.facts (P := (PySem.Challenge.rw_roundheap_k05_equal_programs).prog) (w := w) KX G hmg c
    exact ⟨K, fd, K1.spLaw K, KX, hb, fun H a ns hl _ hS => ⟨a, ns, rfl, hS, fun _ => rfl⟩, hF⟩
