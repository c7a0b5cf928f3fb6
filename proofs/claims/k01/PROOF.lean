import PyProof.Rows.All
import Wide.All
import OpenK.AllK
import Wide.FinOn
import HandS.ForMost
import HandS.Exc
import HandS.ExcOwn
import HandS.ExcInit
import HandS.ExcField
import HandS.ExcIs
import HandS.TryOnly
import HandS.WordsExc
import HandS.IsInst
import HandS.CallSlots
import HandS.MakeKwOnly
import HandS.DictComp
import HandS.Flow
import PySem.Challenge.RW_roundheap_k01_heads_of_programs_refused
import KE.KExcInit
import HandS.Keys
import KE.KExcIs
set_option Elab.async false
set_option linter.all false
set_option maxRecDepth 100000
set_option maxHeartbeats 4000000
namespace K1
open PySem L2
/-- the program's top, by places -/
def top (i : Nat) : Stmt := PySem.Challenge.pw_roundheap_k01_heads_of_programs_refused.main.body.getD i (.Pass ⟨0, 0, 0, 0⟩)
/-! ### data: plain values whose lists, tuples and (empty) dicts are tracked -/
inductive Dat (H : Hp) : V → Prop
  | non : Dat H .non
  | bl (b : Bool) : Dat H (.bl b)
  | int (i : Int) : Dat H (.int i)
  | str (s : Str) (h : s.length ≤ 1000 ∧ PyData.strOk s = true) : Dat H (.str s)
  | lst {a : Addr} {xs : List V} (e : H a = some (.lst xs)) (hx : ∀ x ∈ xs, Dat H x) : Dat H (.ref a)
  | tup {a : Addr} {xs : List V} (e : H a = some (.tup xs)) (hx : ∀ x ∈ xs, Dat H x) : Dat H (.ref a)
  | dic {a : Addr} {kvs : List (Key × V)} (e : H a = some (.dK kvs)) : Dat H (.ref a)
theorem Dat.mono {H H' : Hp} (s : Same H H') {v : V} (d : Dat H v) : Dat H' v := by
  induction d with
  | non => exact .non
  | bl b => exact .bl b
  | int i => exact .int i
  | str z h => exact .str z h
  | lst e _ ih => exact .lst (s _ _ e) ih
  | tup e _ ih => exact .tup (s _ _ e) ih
  | dic e => exact .dic (s _ _ e)
theorem Dat.items {H : Hp} {a : Addr} {xs : List V} (d : Dat H (.ref a)) (e : H a = some (.lst xs)) : ∀ x ∈ xs, Dat H x := by
  cases d with
  | lst e' hx => rw [e'] at e; cases e; exact hx
  | tup e' hx => rw [e'] at e; cases e
  | dic e' => rw [e'] at e; cases e
theorem Dat.itemsT {H : Hp} {a : Addr} {xs : List V} (d : Dat H (.ref a)) (e : H a = some (.tup xs)) : ∀ x ∈ xs, Dat H x := by
  cases d with
  | lst e' hx => rw [e'] at e; cases e
  | tup e' hx => rw [e'] at e; cases e; exact hx
  | dic e' => rw [e'] at e; cases e
/-! ### kinds -/
def isI : V → Bool | .int _ => true | .bl _ => true | _ => false
def isB : V → Bool | .bl _ => true | _ => false
def isS : V → Bool | .str _ => true | _ => false
def lstOf (H : Hp) : V → Option (List V) | .ref a => (match H a with | some (.lst xs) => some xs | _ => none) | _ => none
def tupOf (H : Hp) : V → Option (List V) | .ref a => (match H a with | some (.tup xs) => some xs | _ => none) | _ => none
theorem lstOf_some {H : Hp} {v : V} {xs : List V} (h : lstOf H v = some xs) : ∃ a, v = .ref a ∧ H a = some (.lst xs) := by
  cases v with
  | ref a =>
    refine ⟨a, rfl, ?_⟩
    cases e : H a with
    | none => rw [show lstOf H (.ref a) = (match H a with | some (.lst xs) => some xs | _ => none) from rfl, e] at h; cases h
    | some o =>
      rw [show lstOf H (.ref a) = (match H a with | some (.lst xs) => some xs | _ => none) from rfl, e] at h
      cases o with
      | lst ys => cases h; rfl
      | _ => cases h
  | _ => cases h
theorem tupOf_some {H : Hp} {v : V} {xs : List V} (h : tupOf H v = some xs) : ∃ a, v = .ref a ∧ H a = some (.tup xs) := by
  cases v with
  | ref a =>
    refine ⟨a, rfl, ?_⟩
    cases e : H a with
    | none => rw [show tupOf H (.ref a) = (match H a with | some (.tup xs) => some xs | _ => none) from rfl, e] at h; cases h
    | some o =>
      rw [show tupOf H (.ref a) = (match H a with | some (.tup xs) => some xs | _ => none) from rfl, e] at h
      cases o with
      | tup ys => cases h; rfl
      | _ => cases h
  | _ => cases h
theorem lstOf_of {H : Hp} {a : Addr} {xs : List V} (e : H a = some (.lst xs)) : lstOf H (.ref a) = some xs := by
  show (match H a with | some (.lst xs) => some xs | _ => none) = some xs
  rw [e]
theorem tupOf_of {H : Hp} {a : Addr} {xs : List V} (e : H a = some (.tup xs)) : tupOf H (.ref a) = some xs := by
  show (match H a with | some (.tup xs) => some xs | _ => none) = some xs
  rw [e]
/-- one question of isinstance, answered by the kind -/
structure Ans (K : PySem.W.Frag) (H : Hp) (v : V) (T : String) (b : Bool) : Prop where
  ex : ∃ t : String, TyX K H v (.type t) ∧ kitB t T = some b
theorem Ans.rd {K : PySem.W.Frag} {H : Hp} {v : V} {T : String} {b : Bool} {Q : VK} (a : Ans K H v T b) (q : Q (.bl b) H) : rIsi K [v, .ty T] H Q := by
  obtain ⟨t, ty, e⟩ := a.ex
  exact ⟨v, .ty T, .type t, .type T, b, rfl, .ty T, ty, kit_ty e, q⟩
section
variable {K : PySem.W.Frag} {H : Hp} {v : V}
theorem ans_int (d : Dat H v) : Ans K H v "int" (isI v) := by
  cases d with
  | non => exact ⟨"NoneType", .base .non, (by show kitB "NoneType" "int" = some false; decide +kernel)⟩
  | bl b => exact ⟨"bool", .base (.bl b), (by show kitB "bool" "int" = some true; decide +kernel)⟩
  | int i => exact ⟨"int", .base (.int i), (by show kitB "int" "int" = some true; decide +kernel)⟩
  | str z _ => exact ⟨"str", .base (.str z), (by show kitB "str" "int" = some false; decide +kernel)⟩
  | lst e _ => exact ⟨"list", .base (.lst e), (by show kitB "list" "int" = some false; decide +kernel)⟩
  | tup e _ => exact ⟨"tuple", .base (.tup e), (by show kitB "tuple" "int" = some false; decide +kernel)⟩
  | dic e => exact ⟨"dict", .base (.dK e), (by show kitB "dict" "int" = some false; decide +kernel)⟩
theorem ans_bool (d : Dat H v) : Ans K H v "bool" (isB v) := by
  cases d with
  | non => exact ⟨"NoneType", .base .non, (by show kitB "NoneType" "bool" = some false; decide +kernel)⟩
  | bl b => exact ⟨"bool", .base (.bl b), (by show kitB "bool" "bool" = some true; decide +kernel)⟩
  | int i => exact ⟨"int", .base (.int i), (by show kitB "int" "bool" = some false; decide +kernel)⟩
  | str z _ => exact ⟨"str", .base (.str z), (by show kitB "str" "bool" = some false; decide +kernel)⟩
  | lst e _ => exact ⟨"list", .base (.lst e), (by show kitB "list" "bool" = some false; decide +kernel)⟩
  | tup e _ => exact ⟨"tuple", .base (.tup e), (by show kitB "tuple" "bool" = some false; decide +kernel)⟩
  | dic e => exact ⟨"dict", .base (.dK e), (by show kitB "dict" "bool" = some false; decide +kernel)⟩
theorem ans_str (d : Dat H v) : Ans K H v "str" (isS v) := by
  cases d with
  | non => exact ⟨"NoneType", .base .non, (by show kitB "NoneType" "str" = some false; decide +kernel)⟩
  | bl b => exact ⟨"bool", .base (.bl b), (by show kitB "bool" "str" = some false; decide +kernel)⟩
  | int i => exact ⟨"int", .base (.int i), (by show kitB "int" "str" = some false; decide +kernel)⟩
  | str z _ => exact ⟨"str", .base (.str z), (by show kitB "str" "str" = some true; decide +kernel)⟩
  | lst e _ => exact ⟨"list", .base (.lst e), (by show kitB "list" "str" = some false; decide +kernel)⟩
  | tup e _ => exact ⟨"tuple", .base (.tup e), (by show kitB "tuple" "str" = some false; decide +kernel)⟩
  | dic e => exact ⟨"dict", .base (.dK e), (by show kitB "dict" "str" = some false; decide +kernel)⟩
theorem lstOf_tup {a : Addr} {xs : List V} (e : H a = some (.tup xs)) : lstOf H (.ref a) = none := by
  show (match H a with | some (.lst xs) => some xs | _ => none) = none
  rw [e]
theorem lstOf_dic {a : Addr} {kvs : List (Key × V)} (e : H a = some (.dK kvs)) : lstOf H (.ref a) = none := by
  show (match H a with | some (.lst xs) => some xs | _ => none) = none
  rw [e]
theorem tupOf_lst {a : Addr} {xs : List V} (e : H a = some (.lst xs)) : tupOf H (.ref a) = none := by
  show (match H a with | some (.tup xs) => some xs | _ => none) = none
  rw [e]
theorem tupOf_dic {a : Addr} {kvs : List (Key × V)} (e : H a = some (.dK kvs)) : tupOf H (.ref a) = none := by
  show (match H a with | some (.tup xs) => some xs | _ => none) = none
  rw [e]
theorem ans_list (d : Dat H v) : Ans K H v "list" (lstOf H v).isSome := by
  cases d with
  | non => exact ⟨"NoneType", .base .non, (by show kitB "NoneType" "list" = some false; decide +kernel)⟩
  | bl b => exact ⟨"bool", .base (.bl b), (by show kitB "bool" "list" = some false; decide +kernel)⟩
  | int i => exact ⟨"int", .base (.int i), (by show kitB "int" "list" = some false; decide +kernel)⟩
  | str z _ => exact ⟨"str", .base (.str z), (by show kitB "str" "list" = some false; decide +kernel)⟩
  | lst e _ => rw [lstOf_of e]; exact ⟨"list", .base (.lst e), (by show kitB "list" "list" = some true; decide +kernel)⟩
  | tup e _ => rw [lstOf_tup e]; exact ⟨"tuple", .base (.tup e), (by show kitB "tuple" "list" = some false; decide +kernel)⟩
  | dic e => rw [lstOf_dic e]; exact ⟨"dict", .base (.dK e), (by show kitB "dict" "list" = some false; decide +kernel)⟩
theorem ans_tup (d : Dat H v) : Ans K H v "tuple" (tupOf H v).isSome := by
  cases d with
  | non => exact ⟨"NoneType", .base .non, (by show kitB "NoneType" "tuple" = some false; decide +kernel)⟩
  | bl b => exact ⟨"bool", .base (.bl b), (by show kitB "bool" "tuple" = some false; decide +kernel)⟩
  | int i => exact ⟨"int", .base (.int i), (by show kitB "int" "tuple" = some false; decide +kernel)⟩
  | str z _ => exact ⟨"str", .base (.str z), (by show kitB "str" "tuple" = some false; decide +kernel)⟩
  | lst e _ => rw [tupOf_lst e]; exact ⟨"list", .base (.lst e), (by show kitB "list" "tuple" = some false; decide +kernel)⟩
  | tup e _ => rw [tupOf_of e]; exact ⟨"tuple", .base (.tup e), (by show kitB "tuple" "tuple" = some true; decide +kernel)⟩
  | dic e => rw [tupOf_dic e]; exact ⟨"dict", .base (.dK e), (by show kitB "dict" "tuple" = some false; decide +kernel)⟩
end
/-! ### a def of the module as its callers know it -/
structure Cal (P : Program) (w : World) (K : PySem.W.Frag) (mg : Str → Option Value) (base : Heap) (CX : CXT) (k : Nat) (x : Str) (ps : List Str) (sp : Sp) : Prop where
  ex : ∃ (f : Addr) (fd : FuncData), FnOk P w K mg base CX k f fd ps sp ∧ mg x = some (.ref f) ∧ PySem.W.keepIn K (.ref f) = true ∧ Binds K fd ps []
theorem pe_cal {X : Cx} {CX : CXT} {k j : Nat} {x : Str} {ps : List Str} {sp : Sp} {E : XK} {p pos : Pos} {e : Expr} {es : List Expr} {t : TA} (c : Cal X.prog X.w X.K X.mg X.base CX k x ps sp) (hr : Room j X.A) (hj : k ≤ j) (hx : Passes CX X E) (ha : PA X (e :: es) t)
    (hg : Gl X x := by rfl) (hdb : (x == ("__debug__" : Str)) = false := by decide) (he : starEach (e :: es) X.env = (false, eval e X.env) :: starEach es X.env := by rfl) (hpl : (backTo pos (starEach es X.env)).any (·.1) = false := by rfl) :
    PE X (.Call (.Name x p) (e :: es) [] pos) (tCall sp [] E t) := by
  obtain ⟨f, fd, G, hm, hk, hb⟩ := c.ex
  exact pe_call G (hr.mono hj) hg hm hk hb .nil hx ha hdb he hpl
/-- what the module's names of built-ins are: themselves -/
structure Blt (mg : Str → Option Value) : Prop where
  isinstance : mg "isinstance" = none
  int : mg "int" = none
  bool : mg "bool" = none
  str : mg "str" = none
  list : mg "list" = none
  tuple : mg "tuple" = none
  len : mg "len" = none
  all : mg "all" = none
  enumerate : mg "enumerate" = none
  range : mg "range" = none
  max : mg "max" = none
/-- isinstance(x, T), x in slot i -/
theorem isi_rd {K : PySem.W.Frag} {σ : St} {H : Hp} {i : Nat} {v : V} {T : String} {b : Bool} {Q : VK} (hv : σ[i]? = some (some v)) (a : Ans K H v T b) (q : Q (.bl b) H) : tCB (rIsi K) (tCons (tVar i) (tCons (tC (.ty T)) tNil)) σ H Q := by
  refine ⟨v, hv, ?_⟩
  show rIsi K [v, .ty T] H Q
  exact a.rd q
section
variable {X : Cx}
theorem pt_isi {e : Expr} {te : TE} {n : Str} {T : String} {p p1 pos : Pos} (B : Blt X.mg) (he : PE X e te) (hm : X.mg n = none) (hv : bootBuiltins n = some (.type T)) (hg : Gl X "isinstance" := by rfl) (hgn : Gl X n := by rfl) (hnn : n ≠ "__name__" := by decide) (hd : (n == ("__debug__" : Str)) = false := by decide) (hs1 : starEach [e, .Name n p1] X.env = (false, eval e X.env) :: starEach [.Name n p1] X.env := by rfl) (hs2 : starEach [Expr.Name n p1] X.env = (false, eval (.Name n p1) X.env) :: starEach [] X.env := by rfl) (hpl : (backTo pos (starEach [Expr.Name n p1] X.env)).any (·.1) = false := by rfl) :
    PE X (.Call (.Name "isinstance" p) [e, .Name n p1] [] pos) (tCB (rIsi X.K) (tCons te (tCons (tC (.ty T)) tNil))) :=
  pe_callB call_isi hg B.isinstance PyProof.Rows.boot_isinstance (pa_cons he (pa_cons (pe_bltn hgn hm hv rfl hnn hd) pa_nil hs2) hs1) (by decide) (by decide) hs1 hpl
end
end K1

set_option Elab.async false
set_option linter.all false
set_option maxRecDepth 100000
set_option maxHeartbeats 4000000
namespace K1
open PySem L2
section
variable {P : Program} {w : World} {K : PySem.W.Frag} {mg : Str → Option Value} {base : Heap}
/-! ### is_integer -/
def intV (v : V) : Bool := isI v && !isB v
def spInteger : Sp := fun vs H Q _ => ∃ v, vs = [v] ∧ Dat H v ∧ Q (.bl (intV v)) H
theorem sc1 : FnScope ["value"] ["value"] (defScope (top 1)) := ⟨rfl, rfl, rfl, by decide +kernel, rfl, by decide +kernel, by decide +kernel⟩
theorem ok1 {f : Addr} {fd : FuncData} (F : Fun K "is_integer" "is_integer" (top 1) f fd) (B : Blt mg) : FnOk P w K mg base CX0 1 f fd ["value"] spInteger := by
  refine F.ok sc1 (fun vs H Q E h => ?_) (fun cdv A outer s H vs Q E hr h => ?_)
  · obtain ⟨v, rfl, _⟩ := h
    rfl
  · obtain ⟨v, rfl, d, k⟩ := h
    refine ⟨_, pss_one (ps_ret (pe_and (pt_isi B (pv 0) B.int PyProof.Rows.boot_int) (pe_one (pe_not (pt_isi B (pv 0) B.bool PyProof.Rows.boot_bool))))), ?_⟩
    refine isi_rd rfl (ans_int d) ⟨_, rfl, ?_⟩
    refine ite2 (fun c => ?_) (fun c => ?_)
    · refine isi_rd rfl (ans_bool d) ⟨_, rfl, ?_⟩
      have e : intV v = !isB v := by unfold intV; rw [c, Bool.true_and]
      rw [← e]
      exact k
    · have e : intV v = false := by unfold intV; rw [Bool.eq_false_iff.mpr c, Bool.false_and]
      rw [← e]
      exact k
/-! ### is_within -/
def wholeV (v : V) (lo hi : Int) : Bool := match v with | .int i => decide (lo ≤ i) && decide (i ≤ hi) | _ => false
theorem intV_is {v : V} (h : intV v = true) : ∃ i, v = .int i := by
  cases v with
  | int i => exact ⟨i, rfl⟩
  | _ => cases h
theorem wholeV_not {v : V} {lo hi : Int} (h : ¬ intV v = true) : wholeV v lo hi = false := by
  cases v with
  | int i => exact absurd (show intV (V.int i) = true from rfl) h
  | _ => rfl
def spWithin : Sp := fun vs H Q _ => ∃ (v : V) (lo hi : Int), vs = [v, .int lo, .int hi] ∧ Dat H v ∧ Q (.bl (wholeV v lo hi)) H
theorem sc2 : FnScope ["value", "least", "most"] ["value", "least", "most"] (defScope (top 2)) := ⟨rfl, rfl, rfl, by decide +kernel, rfl, by decide +kernel, by decide +kernel⟩
theorem ok2 {f : Addr} {fd : FuncData} (F : Fun K "is_within" "is_within" (top 2) f fd) (B : Blt mg) (C1 : Cal P w K mg base CX0 1 "is_integer" ["value"] spInteger) : FnOk P w K mg base CX0 2 f fd ["value", "least", "most"] spWithin := by
  refine F.ok sc2 (fun vs H Q E h => ?_) (fun cdv A outer s H vs Q E hr h => ?_)
  · obtain ⟨v, lo, hi, rfl, _⟩ := h
    rfl
  · obtain ⟨v, lo, hi, rfl, d, k⟩ := h
    refine ⟨_, pss_one (ps_ret (pe_and (pe_cal C1 hr (by decide) pass0 (pa_cons (pv 0) pa_nil)) (pe_one (pe_chain op_le op_le (pv 1) (pv 0) (pv 2))))), ?_⟩
    refine ⟨_, rfl, v, rfl, d, _, rfl, ?_⟩
    refine ite2 (fun c => ?_) (fun c => ?_)
    · obtain ⟨i, rfl⟩ := intV_is c
      refine ⟨_, rfl, _, rfl, _, _, rfl, rfl, _, rfl, ?_⟩
      have e : wholeV (.int i) lo hi = (decide (lo ≤ i) && decide (i ≤ hi)) := rfl
      refine ite2 (fun c1 => ?_) (fun c1 => ?_)
      · refine ⟨_, rfl, _, _, rfl, rfl, ?_⟩
        rw [c1, Bool.true_and] at e
        rw [e] at k
        exact k
      · rw [Bool.eq_false_iff.mpr c1, Bool.false_and] at e
        rw [e] at k
        exact k
    · rw [← wholeV_not (lo := lo) (hi := hi) c]
      exact k
/-! ### is_name -/
def letterV (c : Nat) : Bool := decide (97 ≤ c) && decide (c ≤ 122)
def nameS (s : Str) : Bool := (decide (1 ≤ s.length) && decide (s.length ≤ 8)) && s.cps.toList.all letterV
def nameV : V → Bool | .str s => nameS s | _ => false
theorem le_one (a b : Nat) : (!decide (([b] : List Nat) < [a])) = decide (a ≤ b) := by
  rw [Bool.eq_iff_iff]
  simp [List.cons_lt_cons_iff]
theorem start_drop {α : Type} (l : List α) (i : Nat) (x : α) (h : l[i]? = some x) : l.take (i + 1) = l.take i ++ [x] := by
  rw [List.take_add_one, h]
  rfl
/-- a comprehension over a text's signs -/
theorem lc_str {x : Str} {g : TG} {tt : TT} {te : TE} {vs : List Nat} {σ : St} {H1 : Hp} {D : Addr} {Qd : Hp → Prop} (Pv : Nat → Hp → Prop) (h0 : Pv 0 (upd H1 D (.lst [])))
    (hs : ∀ i c H, x.cps.toList[i]? = some c → Pv i H → g (.str ⟨#[c]⟩) (wipe σ vs) H fun σ2 H2 => wipe σ2 vs = wipe σ vs ∧ tt σ2 H2 fun b H3 =>
      if b = true then te σ2 H3 fun y H4 => ∃ acc, H4 D = some (.lst acc) ∧ acc.length < sizeLine ∧ Pv (i + 1) (upd H4 D (.lst (acc ++ [y]))) else Pv (i + 1) H3) (hd : ∀ H, Pv x.cps.size H → Qd H) :
    ∃ W : Nat → Nat → Hp → Prop, (∃ m, W 0 m (upd H1 D (.lst []))) ∧ ∀ i m H, W i m H →
      ((Its x).stop i H ∧ Qd H) ∨ ((Its x).go i H ∧ ∃ Nx : Hp → Prop, (∀ H', Nx H' → ∃ m', m' < m ∧ W (i + 1) m' H') ∧ ∀ v H', (Its x).yld i H v H' → g v (wipe σ vs) H' fun σ2 H2 => wipe σ2 vs = wipe σ vs ∧ tt σ2 H2 fun b H3 =>
        if b = true then te σ2 H3 fun y H4 => ∃ acc, H4 D = some (.lst acc) ∧ acc.length < sizeLine ∧ Nx (upd H4 D (.lst (acc ++ [y]))) else Nx H3) := by
  refine ⟨fun i m H => m + i = x.cps.size ∧ Pv i H, ⟨x.cps.size, by omega, h0⟩, ?_⟩
  rintro i m H ⟨hm, p⟩
  by_cases hlt : i < x.cps.size
  · refine .inr ⟨hlt, Pv (i + 1), fun H' p' => ⟨x.cps.size - (i + 1), by omega, by omega, p'⟩, fun v H' y => ?_⟩
    obtain ⟨e, c, hc, rfl⟩ := y
    subst e
    exact hs i c _ (by rw [Array.getElem?_toList]; exact hc) p
  · have e : i = x.cps.size := by omega
    subst e
    exact .inl ⟨Nat.le_refl _, hd H p⟩
def spName : Sp := fun vs H Q _ => ∃ v, vs = [v] ∧ Dat H v ∧ ∀ H', Same H H' → Q (.bl (nameV v)) H'
theorem sc3 : FnScope ["value", "letter"] ["value"] (defScope (top 3)) := ⟨rfl, rfl, rfl, by decide +kernel, rfl, by decide +kernel, by decide +kernel⟩
theorem ok3 {f : Addr} {fd : FuncData} (F : Fun K "is_name" "is_name" (top 3) f fd) (B : Blt mg) : FnOk P w K mg base CX0 1 f fd ["value"] spName := by
  refine F.ok sc3 (fun vs H Q E h => ?_) (fun cdv A outer s H vs Q E hr h => ?_)
  · obtain ⟨v, rfl, _⟩ := h
    rfl
  · obtain ⟨v, rfl, d, k⟩ := h
    refine ⟨_, pss_cons (ps_if (PW.pt (pw_or (pt_not (pt_val (pt_isi B (pv 0) B.str PyProof.Rows.boot_str))) (pw_or1 (pt_not (pt_chain op_le op_le pe_int (pe_callB call_len_str rfl B.len PySem.boot_len (pa_cons (pv 0) pa_nil)) pe_int))))) (pss_one (ps_ret pe_bl)) pss_nil)
      (pss_one (ps_ret (pe_callB (cr_all rfl) rfl B.all PyProof.Rows.boot_all (pa_cons (pe_lc (own := [("letter", 1)]) (g := gName 1) (tt := tYes) rfl sc3.nd (pi_str (pv 0)) (blkOk_by (N := ["value", "letter"]) (sc := defScope (top 3)) (by decide +kernel))
        (fun _ _ _ _ _ => pg_name (i := 1) sc3.nd rfl (Or.inl rfl)) (fun _ _ _ _ _ => pts_nil) (fun _ _ _ _ _ => pe_chain op_le_str op_le_str pe_str (pv 1) pe_str)) pa_nil)))), ?_⟩
    refine isi_rd rfl (ans_str d) ⟨_, rfl, ?_⟩
    cases d with
    | str s hso =>
      have hs := hso.1
      refine iteF ?_
      have hz : s.length ≤ sizeLine := by rw [sizeLine_eq]; omega
      have en : nameV (.str s) = ((decide ((1 : Int) ≤ (s.length : Int)) && decide ((s.length : Int) ≤ 8)) && s.cps.toList.all letterV) := by
        show nameS s = _
        unfold nameS
        congr 2 <;> (rw [Bool.eq_iff_iff]; simp; try omega)
      refine ⟨_, rfl, s, rfl, hz, _, _, rfl, rfl, _, rfl, ?_⟩
      refine ite2 (fun c1 => ?_) (fun c1 => ?_)
      · refine ⟨_, _, rfl, rfl, _, rfl, ?_⟩
        refine ite2 (fun c2 => ?_) (fun c2 => ?_)
        · have c2' : decide ((s.length : Int) ≤ 8) = false := by
            cases z : decide ((s.length : Int) ≤ 8) with
            | false => rfl
            | true => rw [z] at c2; exact absurd c2 (by decide)
          rw [c2', Bool.and_false, Bool.false_and] at en
          rw [en] at k
          exact k _ (Same.refl _)
        · have c2' : decide ((s.length : Int) ≤ 8) = true := by
            cases z : decide ((s.length : Int) ≤ 8) with
            | true => rfl
            | false => rw [z] at c2; exact absurd rfl c2
          rw [c1, c2', Bool.and_true, Bool.true_and] at en
          refine ⟨_, rfl, s, rfl, fun D hD => ?_⟩
          have low : ∀ c : Nat, letterV c = (!decide (([c] : List Nat) < [97]) && !decide (([122] : List Nat) < [c])) := fun c => by rw [le_one, le_one]; rfl
          refine lc_str (x := s) (fun i H1 => Same H H1 ∧ H1 D = some (.lst ((s.cps.toList.take i).map fun c => V.bl (letterV c)))) ⟨fun b o e => by rw [upd_ne (ne_of_none e hD)]; exact e, by rw [upd_same]; rfl⟩ ?_ ?_
          · rintro i c H1 hc ⟨s1, e1⟩
            refine ⟨rfl, ?_⟩
            unfold tYes
            dsimp only
            rw [if_pos rfl]
            have fin : ∀ b : Bool, b = letterV c → ∃ acc, H1 D = some (.lst acc) ∧ acc.length < sizeLine ∧ (Same H (upd H1 D (.lst (acc ++ [V.bl b]))) ∧ (upd H1 D (.lst (acc ++ [V.bl b]))) D = some (.lst ((s.cps.toList.take (i + 1)).map fun c => V.bl (letterV c)))) := fun b hb => by
              refine ⟨_, e1, ?_, fun b o e => ?_, ?_⟩
              · rw [List.length_map, List.length_take]
                have hl : s.cps.toList.length = s.length := rfl
                rw [sizeLine_eq]; omega
              · rw [upd_ne (ne_of_none e hD)]
                exact s1 b o e
              · rw [upd_same, start_drop _ _ _ hc, List.map_append, hb]
                rfl
            refine ⟨_, rfl, _, _, rfl, rfl, _, rfl, ?_⟩
            refine ite2 (fun d1 => ?_) (fun d1 => ?_)
            · refine ⟨_, _, rfl, rfl, ?_⟩
              refine fin _ ?_
              rw [low, show (!decide (([c] : List Nat) < [97])) = true from d1, Bool.true_and]
              rfl
            · refine fin false ?_
              rw [low, show (!decide (([c] : List Nat) < [97])) = false from Bool.eq_false_iff.mpr d1, Bool.false_and]
          · rintro H1 ⟨s1, e1⟩
            refine ⟨D, s.cps.toList.map letterV, rfl, SqL.of (by rw [e1, List.take_of_length_le (by simp), List.map_map]; rfl), ?_⟩
            rw [en, show s.cps.toList.all letterV = (s.cps.toList.map letterV).all id by rw [List.all_map]; rfl] at k
            exact k _ s1
      · refine ⟨_, rfl, ?_⟩
        refine iteT ?_
        rw [Bool.eq_false_iff.mpr c1] at en
        rw [en] at k
        exact k _ (Same.refl _)
    | _ =>
      refine iteT ?_
      refine iteT ?_
      exact k _ (Same.refl _)
end
end K1

set_option Elab.async false
set_option linter.all false
set_option maxRecDepth 100000
set_option maxHeartbeats 4000000
namespace K1
open PySem L2
/-- for i, x in enumerate(xs) -/
theorem for_enum {K : PySem.W.Frag} {a : Addr} {xs : List V} {g : TG} {tb : TS} {D : Ends} {σ : St} {H : Hp} (Pv : Nat → St → Hp → Prop) (h0 : Pv 0 σ H) (hl : ∀ i σ H, i ≤ xs.length → Pv i σ H → SqL K H a xs)
    (hs : ∀ i x σ H T, xs[i]? = some x → Pv i σ H → H T = none → g (.ref T) σ (upd H T (.tup [.int (i : Nat), x])) fun σ2 H2 => tb { D with nx := Pv (i + 1), ct := Pv (i + 1), bk := D.nx } σ2 H2) (hd : ∀ σ H, Pv xs.length σ H → D.nx σ H) :
    ∃ W : Nat → Nat → St → Hp → Prop, (∃ m, W 0 m σ H) ∧ ∀ i m σ H, W i m σ H →
      ((Ite K a).stop i H ∧ D.nx σ H) ∨ ((Ite K a).go i H ∧ ∃ N : St → Hp → Prop, (∀ σ' H', N σ' H' → ∃ m', m' < m ∧ W (i + 1) m' σ' H') ∧ ∀ x H', (Ite K a).yld i H x H' → g x σ H' fun σ2 H2 => tb { D with nx := N, ct := N, bk := D.nx } σ2 H2) := by
  refine ⟨fun i m σ H => m + i = xs.length ∧ Pv i σ H, ⟨xs.length, by omega, h0⟩, ?_⟩
  rintro i m σ H ⟨hm, p⟩
  have q := hl i σ H (by omega) p
  by_cases hlt : i < xs.length
  · have hx : xs[i]? = some xs[i] := List.getElem?_eq_getElem hlt
    refine .inr ⟨⟨xs, xs[i], q, hx⟩, Pv (i + 1), fun σ' H' p' => ⟨xs.length - (i + 1), by omega, by omega, p'⟩, fun v H' y => ?_⟩
    obtain ⟨T, x, rfl, hT, rfl, hq⟩ := y
    exact hs i x σ H T (hq xs q) p hT
  · have e : i = xs.length := by omega
    subst e
    exact .inl ⟨⟨xs, q, Nat.le_refl _⟩, hd σ H p⟩
/-- a pair is taken apart into two slots -/
theorem pair_rd {K : PySem.W.Frag} {i j : Nat} {T : Addr} {x y : V} {σ : St} {H : Hp} {Q : St → Hp → Prop} (h : Q ((σ.set i (some x)).set j (some y)) (upd H T (.tup [x, y]))) : gTup K 2 (gCons (gName i) (gCons (gName j) gNil)) (.ref T) σ (upd H T (.tup [x, y])) Q := by
  refine ⟨T, [x, y], rfl, SqT.of upd_same, rfl, ?_⟩
  exact ⟨x, [y], rfl, y, [], rfl, rfl, h⟩
theorem same_new {H H1 : Hp} {T : Addr} {o : HO} (s : Same H H1) (h : H1 T = none) : Same H (upd H1 T o) := fun b u e => by
  rw [upd_ne (ne_of_none (s b u e) h)]
  exact s b u e
/-! ### names seen -/
def keysOf (ss : List Str) : List (Key × V) := ss.map fun s => ((Sum.inr s : Key), V.bl true)
theorem keysOf_val (ss : List Str) (s : Str) : (valV (keysOf ss) (Sum.inr s : Key)).isSome = ss.contains s := by
  induction ss with
  | nil => rfl
  | cons a r ih =>
    rw [List.contains_cons]
    by_cases e : a = s
    · subst e
      rw [show keysOf (a :: r) = ((Sum.inr a : Key), V.bl true) :: keysOf r from rfl, valV_pos rfl]
      simp
    · have e1 : valV (keysOf (a :: r)) (Sum.inr s : Key) = valV (keysOf r) (Sum.inr s : Key) := by
        show valV (((Sum.inr a : Key), V.bl true) :: keysOf r) (Sum.inr s : Key) = _
        unfold valV
        rw [List.find?_cons, show decide (((Sum.inr a : Key), V.bl true).1 = (Sum.inr s : Key)) = false from decide_eq_false fun z => e (Sum.inr.inj z)]
      rw [e1, ih, show (s == a) = false from by simpa using fun z => e z.symm, Bool.false_or]
theorem keysOf_put (ss : List Str) (s : Str) (h : ss.contains s = false) : putK (keysOf ss) (Sum.inr s : Key) (V.bl true) = keysOf (ss ++ [s]) := by
  have e : valV (keysOf ss) (Sum.inr s : Key) = none := by
    have z := keysOf_val ss s
    rw [h] at z
    cases q : valV (keysOf ss) (Sum.inr s : Key) with
    | none => rfl
    | some v => rw [q] at z; cases z
  rw [putK_new _ e]
  unfold keysOf
  rw [List.map_append]
  rfl
theorem inV_str (s : Str) (ss : List Str) : inV (.str s) (ss.map V.str) = ss.contains s := by
  unfold inV
  induction ss with
  | nil => rfl
  | cons a r ih =>
    rw [List.map_cons, List.any_cons, ih, List.contains_cons]
    congr 1
    show (a == s) = (s == a)
    rw [Bool.eq_iff_iff, beq_iff_eq, beq_iff_eq]
    exact ⟨Eq.symm, Eq.symm⟩
theorem flat_str (ss : List Str) : (ss.map V.str).all flatV = true := by
  rw [List.all_map, List.all_eq_true]
  intro s _
  rfl
/-! ### first_bad_name -/
def badFrom (bar : List Str) : List V → List Str → Nat → Option Nat
  | [], _, _ => none
  | .str s :: r, seen, i => if (nameS s && !seen.contains s && !bar.contains s) = true then badFrom bar r (seen ++ [s]) (i + 1) else some i
  | _ :: _, _, i => some i
def optV : Option Nat → V | none => .non | some i => .int (i : Nat)
def firstBad (H : Hp) (v : V) (most : Int) (bar : List Str) : V := match lstOf H v with
  | none => .int (-1)
  | some xs => if (most : Int) < (xs.length : Int) then .int (-1) else optV (badFrom bar xs [] 0)
theorem badFrom_no {bar seen : List Str} {v : V} {r : List V} {i : Nat} (h : nameV v = false) : badFrom bar (v :: r) seen i = some i := by
  cases v with
  | str s =>
    have h' : nameS s = false := h
    show (if (nameS s && !seen.contains s && !bar.contains s) = true then _ else some i) = some i
    rw [h', if_neg (by simp)]
  | _ => rfl
theorem badFrom_str {bar seen : List Str} {s : Str} {r : List V} {i : Nat} : badFrom bar (.str s :: r) seen i = if (nameS s && !seen.contains s && !bar.contains s) = true then badFrom bar r (seen ++ [s]) (i + 1) else some i := rfl
theorem nameV_is {v : V} (h : nameV v = true) : ∃ s, v = .str s ∧ nameS s = true := by
  cases v with
  | str s => exact ⟨s, rfl, h⟩
  | _ => cases h
section
variable {P : Program} {w : World} {K : PySem.W.Frag} {mg : Str → Option Value} {base : Heap}
def spFirst : Sp := fun vs H Q _ => ∃ (v : V) (most : Int) (b : Addr) (bar : List Str), vs = [v, .int most, .ref b] ∧ Dat H v ∧ H b = some (.lst (bar.map V.str)) ∧ most ≤ 100 ∧ ∀ H', Same H H' → Q (firstBad H v most bar) H'
theorem sc25 : FnScope ["value", "most", "barred", "seen", "index", "name"] ["value", "most", "barred"] (defScope (top 25)) := ⟨rfl, rfl, rfl, by decide +kernel, rfl, by decide +kernel, by decide +kernel⟩
theorem ok25 {f : Addr} {fd : FuncData} (F : Fun K "first_bad_name" "first_bad_name" (top 25) f fd) (B : Blt mg) (C3 : Cal P w K mg base CX0 1 "is_name" ["value"] spName) : FnOk P w K mg base CX0 2 f fd ["value", "most", "barred"] spFirst := by
  refine F.ok sc25 (fun vs H Q E h => ?_) (fun cdv A outer s H vs Q E hr h => ?_)
  · obtain ⟨v, most, b, bar, rfl, _⟩ := h
    rfl
  · obtain ⟨v, most, b, bar, rfl, d, hb, hm, k⟩ := h
    have hu := hu_of hr
    refine ⟨_, pss_cons (ps_if (PW.pt (pw_or (pt_not (pt_val (pt_isi B (pv 0) B.list PyProof.Rows.boot_list))) (pw_or1 (pt_cmpR op_gt (pe_callB call_len_seq rfl B.len PySem.boot_len (pa_cons (pv 0) pa_nil)) (pv 1) (nomark _))))) (pss_one (ps_ret (pe_un un_neg pe_int))) pss_nil)
      (pss_cons (ps_set (i := 3) sc25.nd rfl (Or.inl rfl) pe_dnewK)
      (pss_cons (ps_for PassesOwn.never rfl (pi_enum rfl B.enumerate (pa_cons (pv 0) pa_nil)) (pg_tup rfl (pgs_cons (pg_name (i := 4) sc25.nd rfl (Or.inl rfl)) (pgs_cons (pg_name (i := 5) sc25.nd rfl (Or.inl rfl)) pgs_nil)))
        (pss_cons (ps_if (PW.pt (pw_or (pt_not (pt_val (pe_cal C3 hr (by decide) pass0 (pa_cons (pv 5) pa_nil)))) (pw_or (pt_cmp (pc_din hu (pv 5) (pv 3))) (pw_or1 (pt_cmpR op_in_seq (pv 5) (pv 2) rfl))))) (pss_one (ps_ret (pv 4))) pss_nil)
          (pss_one (ps_dput hu (pv 3) (pv 5) pe_bl rfl))))
      (pss_one (ps_ret pe_non)))), ?_⟩
    refine isi_rd rfl (ans_list d) ⟨_, rfl, ?_⟩
    cases hl : lstOf H v with
    | none =>
      have e : firstBad H v most bar = .int (-1) := by unfold firstBad; rw [hl]
      rw [e] at k
      refine iteT ?_
      refine iteT ?_
      exact ⟨_, rfl, k _ (Same.refl _)⟩
    | some xs =>
      obtain ⟨a, rfl, ha⟩ := lstOf_some hl
      refine iteF ?_
      refine ⟨_, rfl, a, xs, rfl, .inl (SqL.of ha), _, rfl, _, _, rfl, rfl, _, rfl, ?_⟩
      have e : firstBad H (.ref a) most bar = if (most : Int) < (xs.length : Int) then .int (-1) else optV (badFrom bar xs [] 0) := by unfold firstBad; rw [hl]
      rw [e] at k
      refine ite2 (fun c => ?_) (fun c => ?_)
      · rw [if_pos (of_decide_eq_true c)] at k
        exact ⟨_, rfl, k _ (Same.refl _)⟩
      · rw [if_neg (fun z => c (decide_eq_true z))] at k
        have hlen : xs.length ≤ 100 := by
          have z : ¬ (most : Int) < (xs.length : Int) := fun z => c (decide_eq_true z)
          omega
        have di := d.items ha
        intro D hD
        refine ⟨_, rfl, a, xs, rfl, SqL.of (by rw [upd_ne (ne_of_none ha hD)]; exact ha), ?_⟩
        refine for_enum (fun i σ H1 => ∃ (ss : List Str) (v4 v5 : Option V), σ = [some (.ref a), some (.int most), some (.ref b), some (.ref D), v4, v5] ∧ Same H H1 ∧ H1 D = some (.dK (keysOf ss)) ∧ xs.take i = ss.map V.str ∧ ss.length = i ∧ i ≤ xs.length ∧ badFrom bar xs [] 0 = badFrom bar (xs.drop i) ss i)
          ⟨[], none, none, rfl, fun b o e => by rw [upd_ne (ne_of_none e hD)]; exact e, upd_same, rfl, rfl, Nat.zero_le _, rfl⟩ (fun i σ H1 _ ⟨_, _, _, _, s1, _⟩ => SqL.of (s1 _ _ ha)) ?_ ?_
        · rintro i x σ H1 T hx ⟨ss, v4, v5, rfl, s1, hD1, ht, hsl, hi, hbad⟩ hT
          refine pair_rd ?_
          have s2 : Same H (upd H1 T (.tup [.int (i : Nat), x])) := same_new s1 hT
          have hd2 : Dat (upd H1 T (.tup [.int (i : Nat), x])) x := (di x (List.mem_of_getElem? hx)).mono s2
          have hdr : xs.drop i = x :: xs.drop (i + 1) := by
            obtain ⟨h1, h2⟩ := List.getElem?_eq_some_iff.mp hx
            rw [List.drop_eq_getElem_cons h1, h2]
          rw [hdr] at hbad
          refine ⟨_, rfl, x, rfl, hd2, fun H3 s3 => ⟨_, rfl, ?_⟩⟩
          have s4 := s2.trans s3
          cases hn : nameV x with
          | false =>
            rw [badFrom_no hn] at hbad
            refine iteT ?_
            refine iteT ?_
            rw [hbad] at k
            exact ⟨_, rfl, k _ s4⟩
          | true =>
            obtain ⟨z, rfl, hz⟩ := nameV_is hn
            refine iteF ?_
            have hD3 : H3 D = some (.dK (keysOf ss)) := s3 _ _ (by rw [upd_ne (ne_of_none hD1 hT)]; exact hD1)
            refine ⟨_, rfl, _, rfl, D, _, rfl, DGet.k (k := Sum.inr z) hD3, _, rfl, ?_⟩
            rw [keysOf_val]
            rw [badFrom_str, hz, Bool.true_and] at hbad
            cases hc : ss.contains z with
            | true =>
              rw [hc] at hbad
              refine iteT ?_
              refine iteT ?_
              rw [if_neg (by simp)] at hbad
              rw [hbad] at k
              exact ⟨_, rfl, k _ s4⟩
            | false =>
              rw [hc] at hbad
              refine iteF ?_
              refine ⟨_, rfl, _, rfl, b, _, rfl, .inl (SqL.of (s4 _ _ hb)), rfl, flat_str _, _, rfl, ?_⟩
              rw [if_neg (show ¬ (false = true) from Bool.false_ne_true), inV_str]
              cases hc2 : bar.contains z with
              | true =>
                rw [hc2, if_neg (by simp)] at hbad
                refine iteT ?_
                rw [hbad] at k
                exact ⟨_, rfl, k _ s4⟩
              | false =>
                rw [hc2, if_pos (by simp)] at hbad
                refine iteF ?_
                refine ⟨_, rfl, _, rfl, D, _, rfl, DPut.k (k := Sum.inr z) hD3 (by unfold keysOf; rw [List.length_map, sizeLine_eq]; omega), ?_⟩
                refine ⟨ss ++ [z], _, _, rfl, fun c o e => ?_, ?_, ?_, ?_, ?_, hbad⟩
                · rw [upd_ne (ne_of_none e hD)]
                  exact s4 c o e
                · rw [upd_same, keysOf_put _ _ hc]
                · rw [start_drop _ _ _ hx, ht, List.map_append]
                  rfl
                · rw [List.length_append, hsl]; rfl
                · exact (List.getElem?_eq_some_iff.mp hx).1
        · rintro σ H1 ⟨ss, v4, v5, rfl, s1, hD1, ht, hsl, hi, hbad⟩
          rw [List.drop_eq_nil_of_le (Nat.le_refl _)] at hbad
          rw [hbad] at k
          exact k _ s1
end
end K1

set_option Elab.async false
set_option linter.all false
set_option maxRecDepth 100000
set_option maxHeartbeats 4000000
/-! own exceptions over ArithmeticError with an __init__ of their own -/
namespace PySem
namespace K1X
open PySem.W PySem.Calls PyProof.Rows PySem.HandSPX
abbrev tailA : List Value := [.type "ArithmeticError", .type "Exception", .type "BaseException", .type "object"]
/-- one own class between, then ArithmeticError's line -/
def LineA (bm : List Value) : Prop := ∃ R : Addr, bm = .ref R :: tailA
theorem LineA.has {bm : List Value} (l : LineA bm) (T : String) : bm.contains (.type T) = tailA.contains (.type T) := by
  obtain ⟨R, rfl⟩ := l
  rw [List.contains_cons, show (Value.type T == Value.ref R) = false from rfl, Bool.false_or]
theorem LineA.free {bm : List Value} (l : LineA bm) (self : Value) (C : Addr) : refuseLoop self "__setattr__" (.ref C :: bm) = pure () := by
  obtain ⟨R, rfl⟩ := l
  rw [refuseLoop_ref, refuseLoop_ref]
  exact PySem.F.store_ArithmeticError.passes self
section
open Builtin Builtin.ObjectAttr
variable {pg : Program} {wd : World} {Ar : Around} {Er : Value → Shared → Prop} {Rs : Result → Shared → Prop} {h0 : Heap} {gs : Array GenState} {dr : Drawn} {tk0 : Nat} {oss : OsState}
/-- a store by object.__setattr__ on such an exception comes to the store in its own dict -/
theorem own_store {Kf : Frag} {nm : Str} {tk : Tok} {v : Value} {x C : Addr} {ob : Obj} {odd : Option Obj} {cd : ClassData} {bm : List Value} (X : Kf.In h0) (J : InstAt h0 x ob C odd) (hcd : clsIn Kf C = some cd) (hm : cd.mro = .ref C :: bm) (l : LineA bm)
    (ha : findIn Kf (.ref C) nm = some none)
    (q : ∀ (A2 : Around) (E2 : Value → Shared → Prop) (Q2 : Fin → Shared → Prop), (∀ s2, Rs (.ok (.ret .none)) s2 → Q2 (.done (.ret .none)) s2) → wpAny (model pg wd) A2 (storeInOwnDict (.ref x) (.ref C) (.str nm tk) nm v false) Q2 E2 ⟨h0, gs, dr, tk0, oss⟩) :
    codeAny (model pg wd) Ar (.call (.builtin "object.__setattr__") ⟨[.ref x, .str nm tk, v], []⟩) Rs ⟨h0, gs, dr, tk0, oss⟩ := by
  have ST := PySem.F.store_object
  have one : cd.mro.isEmpty = false := by
    rw [hm]
    rfl
  have obj : cd.mro.contains (.type "object") = true := by
    rw [hm, List.contains_cons, l.has, show (Value.type "object" == Value.ref C) = false from rfl, Bool.false_or]
    decide +kernel
  have below : Looks (model pg wd) h0 (isInstance (.ref x) (.type "object")) true :=
    J.type.andThen (looks_mroIn X (by
      unfold mroIn
      rw [hcd, Option.bind_some, if_neg (by rw [one]; decide), obj]))
  refine codeAny_call_builtin ST.slot.plain ST.entry ?_
  refine @check_slot (model pg wd) _ _ ⟨h0, gs, dr, tk0, oss⟩ "object.__setattr__" "object" "__setattr__" (.ref x) [.str nm tk, v] [] _ ST.kind ST.split below (ST.args (.ref x) (.str nm tk) v) ?_
  have line : Looks (model pg wd) h0 (mroOf (.ref C)) cd.mro := (looks_clsIn X hcd).andThen .now
  have none' : Looks (model pg wd) h0 (storeTaker? none) none := .now
  rw [osa_eq, refuse_eq]
  refine wpAny_bind (wpAny_bind (J.type.at ?_))
  refine wpAny_bind (line.at ?_)
  rw [hm, l.free]
  refine wpAny_pure (wpAny_bind (J.type.at ?_))
  refine wpAny_bind ((looks_findIn X ha).at ?_)
  refine wpAny_bind (none'.at ?_)
  exact q _ _ _ fun _ z => z
theorem put_more {Md : Model} {dx : Addr} {nm : Str} {tk : Tok} {v : Value} {m0 : Str → Option Value} {ns : List Str} {Q : Fin → Shared → Prop} (sp : h0.Ns1 dx m0) (inn : Within m0 ns) (few : ns.length ≤ 1000)
    (q : ∀ h1 tk1, h1.Ns1 dx (fun y => if y = nm then some v else m0 y) → Heap.SameBut dx h0 h1 → Q (.done (.ret .none)) ⟨h1, gs, dr, tk1, oss⟩) :
    wpAny Md Ar (storeInDict dx (.str nm tk) nm v) Q Er ⟨h0, gs, dr, tk0, oss⟩ := by
  unfold storeInDict newKeyGuard
  refine wpAny_bind (wpAny_pure (wpAny_bind ?_))
  refine wpAny_nsSet1 sp fun h1 sp1 sb => ?_
  obtain ⟨oD, esD, epD, hoD, hdD, hcD⟩ := sp1.count (Within.cons nm v inn)
  have small : esD.size ≤ sizeLine + 1 := by
    have z : (nm :: ns).length ≤ 1001 := by rw [List.length_cons]; omega
    rw [sizeLine_eq]
    omega
  refine wpAny_bind (wpAny_lookBehind hoD ?_ ?_)
  · rw [hdD]
    exact pastItsLine_dict small
  · wp_walk
    exact q h1 _ sp1 sb
/-- its first field: the dict is made -/
theorem set_first {Kf : Frag} {nm : Str} {tk : Tok} {v : Value} {x C : Addr} {fv : Array Value} {cd : ClassData} {bm : List Value} (X : Kf.In h0) (hx : h0.get? x = some { cls := .ref C, data := .fields fv }) (hcd : clsIn Kf C = some cd) (hm : cd.mro = .ref C :: bm) (l : LineA bm)
    (hh : cd.hasDict = true) (ha : findIn Kf (.ref C) nm = some none)
    (hq : ∀ h1 tk1 dx, (∀ b o, b ≠ x → h0.get? b = some o → h1.get? b = some o) → h0.objs.size ≤ dx → dx ≠ x → h1.get? x = some { cls := .ref C, dict := some dx, data := .fields fv } →
      h1.Ns1 dx (fun y => if y = nm then some v else none) → Rs (.ok (.ret .none)) ⟨h1, gs, dr, tk1, oss⟩) :
    codeAny (model pg wd) Ar (.call (.builtin "object.__setattr__") ⟨[.ref x, .str nm tk, v], []⟩) Rs ⟨h0, gs, dr, tk0, oss⟩ := by
  have J : InstAt h0 x { cls := .ref C, data := .fields fv } C none := ⟨hx, rfl, rfl, trivial⟩
  have ap : x ≠ h0.objs.size := Nat.ne_of_lt (Heap.lt_size hx)
  refine own_store X J hcd hm l ha fun A2 E2 Q2 hQ => ?_
  have cls : Looks (model pg wd) h0 (classData C) cd := looks_clsIn X hcd
  obtain ⟨n1, n2, n3, n4, n5, n6, n7, n8, n9, n10, n11⟩ := cd
  dsimp only at hh
  subst hh
  unfold storeInOwnDict ownDictForStores
  repeat (first | with_reducible refine store_in_new ?_ ?_ | with_reducible refine wpAny_loadPart_at hx ?_ | with_reducible refine cls.at ?_ | wp_step)
  · exact ⟨_, #[], _,
      ((Heap.get?_update_ne _ _ _ _ ap.symm).trans (Heap.get?_push_at rfl rfl)),
      rfl, fun e he => absurd he (by simp), fun _ => rfl⟩
  · intro h1 tk1 sp1 sb
    have up : (h0.push { cls := .type "dict", data := .dict #[] }).get? x = some { cls := .ref C, data := .fields fv } := Heap.get?_push_of_some _ hx
    refine hQ _ (hq h1 tk1 h0.objs.size (fun b o nb ob => ?_) (Nat.le_refl _) ap.symm ?_ sp1)
    · have nb2 : b ≠ h0.objs.size := Nat.ne_of_lt (Heap.lt_size ob)
      exact (sb.2 b nb2).trans ((Heap.get?_update_ne _ _ _ _ nb).trans (Heap.get?_push_of_some _ ob))
    · exact (sb.2 x ap).trans (Heap.get?_update_self _ up rfl)
/-- a further field -/
theorem set_next {Kf : Frag} {nm : Str} {tk : Tok} {v : Value} {x C dx : Addr} {fv : Array Value} {cd : ClassData} {bm : List Value} {m0 : Str → Option Value} {ns : List Str} (X : Kf.In h0) (hx : h0.get? x = some { cls := .ref C, dict := some dx, data := .fields fv })
    (sp : h0.Ns1 dx m0) (inn : Within m0 ns) (few : ns.length ≤ 1000) (hcd : clsIn Kf C = some cd) (hm : cd.mro = .ref C :: bm) (l : LineA bm) (hh : cd.hasDict = true) (ha : findIn Kf (.ref C) nm = some none)
    (hq : ∀ h1 tk1, (∀ b o, b ≠ dx → h0.get? b = some o → h1.get? b = some o) → h1.Ns1 dx (fun y => if y = nm then some v else m0 y) → Rs (.ok (.ret .none)) ⟨h1, gs, dr, tk1, oss⟩) :
    codeAny (model pg wd) Ar (.call (.builtin "object.__setattr__") ⟨[.ref x, .str nm tk, v], []⟩) Rs ⟨h0, gs, dr, tk0, oss⟩ := by
  obtain ⟨oD, esD, epD, hoD, hdD, _⟩ := sp.count inn
  have J : InstAt h0 x { cls := .ref C, dict := some dx, data := .fields fv } C (some oD) := ⟨hx, rfl, rfl, hoD⟩
  refine own_store X J hcd hm l ha fun A2 E2 Q2 hQ => ?_
  have cls : Looks (model pg wd) h0 (classData C) cd := looks_clsIn X hcd
  obtain ⟨n1, n2, n3, n4, n5, n6, n7, n8, n9, n10, n11⟩ := cd
  dsimp only at hh
  subst hh
  unfold storeInOwnDict ownDictForStores
  repeat (first | with_reducible refine put_more sp inn few ?_ | with_reducible refine wpAny_loadPart_at hx ?_ | with_reducible refine cls.at ?_ | wp_step)
  intro h1 tk1 sp1 sb
  exact hQ _ (hq h1 tk1 (fun b o nb ob => (sb.2 b nb).trans ob) sp1)
end
end K1X
end PySem
namespace L2
open PySem PySem.Spec PyProof.Rows PySem.K1X
/-- what the written part says of such a class -/
structure ExA (K : PySem.W.Frag) (C : Addr) : Prop where
  cls : ∃ nm q N bs bm sn sub ab col dd k0 k1 k2 k3 k5, K.lookup C = some (excClassObj nm q C N bs bm true sn sub ab col dd k0 k1 k2 k3 k5 "ArithmeticError.__new__") ∧ LineA bm
  sa : PySem.W.findIn K (.ref C) "__setattr__" = some (some (.builtin "object.__setattr__"))
  exC : PySem.W.subIn K (.ref C) (.type "BaseException") = some true
  tyC : PySem.W.typeIn K (.ref C) = some (.type "type")
  kC : PySem.W.keepIn K (.ref C) = true
section
variable {X : Cx} {pins : List (Addr × Obj)} {σ : St} {H : Hp} {s : Shared} {a C dx : Addr} {f : Str} {y : V} {u : Value} {fs : List (Str × V)} {Q : Unit → Shared → Prop} {E : Value → Shared → Prop} {A : Around}
/-- self.f = y, the first one -/
theorem ea_first (T : ExA X.K C) (I : Inv X pins σ H s) (e : H a = some (exo a C none)) (no : PySem.W.findIn X.K (.ref C) f = some none) (ry : RelV y u)
    (h : ∀ dx s', H dx = none → dx ≠ a → Inv X pins σ (upd (upd H dx (exd dx [(f, y)])) a (exo a C (some dx))) s' → Q () s') : wpAny (model X.prog X.w) A (setAttr (.ref a) f u) Q E s := by
  obtain ⟨nm, q, N, bs, bm, sn, sub, ab, col, dd, k0, k1, k2, k3, k5, hC, line⟩ := T.cls
  have there : PySem.W.clsIn X.K C = some { name := nm, bases := bs, mro := .ref C :: bm, ns := N, qualname := q, hasDict := true, slotNames := sn, subclasses := sub, abstract := ab, collection := col, hasDel := false } := by
    unfold PySem.W.clsIn
    rw [hC] <;> rfl
  obtain ⟨t1, ho⟩ := exo_at I.hok e
  obtain ⟨hp, g, d, t, os⟩ := s
  refine PySem.W.set_plain I.kIn (ox := { cls := .ref C, dict := none, data := .fields #[.ref t1, .none, .none, .none, .bool false, .none] }) (od := none) ⟨ho, rfl, rfl, trivial⟩ T.sa ?_
  refine set_first I.kIn ho there rfl line rfl no fun h1 tk1 dx kp dn dne hx sp => ?_
  have fresh : H dx = none := I.hok.fresh dn
  have old : ∀ {b : Addr} {o : Obj}, hp.get? b = some o → b ≠ dx := fun {b o} z => Nat.ne_of_lt (Nat.lt_of_lt_of_le (Heap.lt_size z) dn)
  have other : ∀ {b : Addr}, H b = none → b ≠ a := fun {b} n z => by
    rw [z, e] at n
    cases n
  have un : Un X.fs [] H (upd (upd H dx (exd dx [(f, y)])) a (exo a C (some dx))) hp h1 := {
    keep := fun b o z n _ _ => kp b o (other n) z
    slot := fun b o z n _ _ => ⟨o.slots, kp b o (other n) z⟩
    free := fun b o z n _ => by
      rw [upd_ne (other n), upd_ne (old z)]
      exact n
    there := fun b o z _ => by
      by_cases hb : b = a
      · exact ⟨_, by rw [hb]; exact hx⟩
      · exact ⟨o, kp b o hb z⟩
    tups := fun b xs z => by
      rw [upd_ne (at_ne e z exo_tup), upd_ne (ne_of_none z fresh)]
      exact z
    frzs := fun b o v z => by
      rw [upd_ne (at_ne e z exo_frz), upd_ne (ne_of_none z fresh)]
      exact z
    tbls := fun b ps z => ⟨#[], by
      rw [upd_ne (at_ne e z exo_tbl), upd_ne (ne_of_none z fresh), z]
      simp⟩ }
  refine h dx _ fresh dne (I.un (t' := tk1) un fun b o z => ?_)
  by_cases hb : b = a
  · subst hb
    rw [upd_same] at z
    cases z
    exact exo_ok hx
  · rw [upd_ne hb] at z
    by_cases hd : b = dx
    · subst hd
      rw [upd_same] at z
      cases z
      exact exd_ok sp (relO_put (fs := []) ry fun g => True.intro)
    · rw [upd_ne hd] at z
      refine (I.hok b o z).stay (fun c v hc r => kp c v ?_ r) (fun c hc => ?_) (fun c xs hc => ?_)
      · rcases hc with hc | hc
        · rw [hc]
          exact hb
        · exact at_ne e hc exo_own
      · rw [upd_ne (at_ne e hc exo_own), upd_ne (ne_of_none hc fresh)]
        exact hc
      · rw [upd_ne (at_ne e hc exo_tup), upd_ne (ne_of_none hc fresh)]
        exact hc
/-- self.f = y, a further one -/
theorem ea_next (T : ExA X.K C) (I : Inv X pins σ H s) (e : H a = some (exo a C (some dx))) (ed : H dx = some (exd dx fs)) (hl : fs.length ≤ 900) (no : PySem.W.findIn X.K (.ref C) f = some none) (ry : RelV y u)
    (h : ∀ s', Inv X pins σ (upd H dx (exd dx ((f, y) :: fs))) s' → Q () s') : wpAny (model X.prog X.w) A (setAttr (.ref a) f u) Q E s := by
  obtain ⟨nm, q, N, bs, bm, sn, sub, ab, col, dd, k0, k1, k2, k3, k5, hC, line⟩ := T.cls
  have there : PySem.W.clsIn X.K C = some { name := nm, bases := bs, mro := .ref C :: bm, ns := N, qualname := q, hasDict := true, slotNames := sn, subclasses := sub, abstract := ab, collection := col, hasDel := false } := by
    unfold PySem.W.clsIn
    rw [hC] <;> rfl
  obtain ⟨t1, ho⟩ := exo_at I.hok e
  obtain ⟨mA, sp, rel⟩ := exd_at I.hok ed
  have inn := within_of rel
  obtain ⟨hp, g, d, t, os⟩ := s
  obtain ⟨oD, _, _, hoD, _, _⟩ := sp.count inn
  refine PySem.W.set_plain I.kIn (ox := { cls := .ref C, dict := some dx, data := .fields #[.ref t1, .none, .none, .none, .bool false, .none] }) (od := some oD) ⟨ho, rfl, rfl, hoD⟩ T.sa ?_
  refine set_next I.kIn ho sp inn (by rw [List.length_map]; omega) there rfl line rfl no fun h1 tk1 kp sp1 => ?_
  have hd : ∃ o, h1.get? dx = some o := by
    obtain ⟨o, _, _, z, _⟩ := sp1
    exact ⟨o, z⟩
  refine h _ (I.write (t' := tk1) (x := dx) (e := dx) (o := exd dx ((f, y) :: fs)) ?_ (.inl rfl) kp hd (exd_ok sp1 (relO_put ry rel)))
  rw [ed]
  exact True.intro
end
/-- self.f = e within such an __init__ -/
def tEa (K : PySem.W.Frag) (f : Str) (to te : TE) : TS := fun D σ H => te σ H fun y H1 => to σ H1 fun x H2 => ∃ a C : Addr, x = .ref a ∧ ExA K C ∧ PySem.W.findIn K (.ref C) f = some none ∧
  ((H2 a = some (exo a C none) ∧ ∀ dx, H2 dx = none → dx ≠ a → D.nx σ (upd (upd H2 dx (exd dx [(f, y)])) a (exo a C (some dx)))) ∨
    ∃ (dx : Addr) (fs : List (Str × V)), H2 a = some (exo a C (some dx)) ∧ H2 dx = some (exd dx fs) ∧ fs.length ≤ 900 ∧ D.nx σ (upd H2 dx (exd dx ((f, y) :: fs))))
section
variable {X : Cx} {o e : Expr} {es : List Expr} {to te : TE} {ta : TA} {f : Str} {p p' p1 p2 pos : Pos}
theorem ps_ea (ho : PE X o to) (he : PE X e te) (sw : swapsWith e (some (.Attribute o f p')) pos.line X.env = pure false := by rfl) : PS X (.Assign [.Attribute o f p'] e pos) (tEa X.K f to te) := by
  refine ⟨fun pins s σ H D I h => ?_⟩
  refine plainObj_wpAny_Assign_Attribute ?_ sw
  refine thn (he.run pins s σ H _ I h) fun v s1 ⟨y, H1, I1, r1, q1⟩ => ?_
  refine thn (ho.run pins s1 σ H1 _ I1 q1) fun u s2 ⟨x, H2, I2, r2, a, C, ex, T, no, q⟩ => ?_
  subst ex
  obtain rfl : u = Value.ref a := r2
  rcases q with ⟨ea, q⟩ | ⟨dx, fs, ea, ed, hl, q⟩
  · exact ea_first T I2 ea no r1 fun dx s' n ne J => ⟨σ, _, J, q dx n ne⟩
  · exact ea_next T I2 ea ed hl no r1 fun s' J => ⟨σ, _, J, q⟩
/-- C(e, ..) of such a class, to be raised -/
theorem pmk_ea {CX : CXT} {x : Str} {C fI : Addr} {k : Nat} {fd : FuncData} {ps : List Str} {sp : Sp} {ds : List Value} {dvs : List V} (T : ExA X.K C) (iC : PySem.W.findIn X.K (.ref C) "__init__" = some (some (.ref fI))) (tI : PySem.W.typeIn X.K (.ref fI) = some (.type "function"))
    (F1 : FnOk X.prog X.w X.K X.mg X.base CX k fI fd ps sp) (hr : Room (k + 1) X.A) (hb : Binds X.K fd ps ds) (hd : Vals dvs ds) (hx : Passes CX X (fun _ _ _ => False)) (hg : Gl X x) (hm : X.mg x = some (.ref C)) (ha : PA X (e :: es) ta)
    (hdb : (x == ("__debug__" : Str)) = false := by decide) (he : starEach (e :: es) X.env = (false, eval e X.env) :: starEach es X.env := by rfl) (hpl : (backTo pos (starEach es X.env)).any (·.1) = false := by rfl) :
    PMk X (.Call (.Name x p) (e :: es) [] pos) (tMkO C sp dvs ta) := by
  intro pins s σ H Q I h
  obtain ⟨nm, q, N, bs, bm, sn, sub, ab, col, dd, k0, k1, k2, k3, k5, hC, line⟩ := T.cls
  refine wpAny_Call_Name_kw (ld_glob I hg hm ?_ hdb)
  refine PySem.W.callWith_K (h₀ := X.base) I.ok.mod.kin T.kC ?_ he hpl
  refine thn (ha.run pos pins s σ H _ I h) fun us s1 ⟨vs, H1, I1, r1, hz, q1⟩ => ⟨I1.kIn, ?_⟩
  show wpAny _ _ (call (.ref C) us) _ _ _
  obtain ⟨hp, g, dr, tk, os⟩ := s1
  have le1 : hp.objs.size ≤ hp.objs.size + 1 := Nat.le_succ _
  have free : H1 (hp.objs.size + 1) = none := I1.hok.fresh le1
  have ask := q1 (hp.objs.size + 1) free
  have stay : ∀ b o, hp.get? b = some o → ((hp.push (PySem.W.kdv_tup us)).push (PySem.HandSPX.excO C hp.objs.size)).get? b = some o := fun b o z => Heap.get?_push_of_some _ (Heap.get?_push_of_some _ z)
  have got : ((hp.push (PySem.W.kdv_tup us)).push (PySem.HandSPX.excO C hp.objs.size)).get? (hp.objs.size + 1) = some (PySem.HandSPX.excO C hp.objs.size) := by heap_get
  have I2 : Inv X pins σ (upd H1 (hp.objs.size + 1) (exo (hp.objs.size + 1) C none)) ⟨(hp.push (PySem.W.kdv_tup us)).push (PySem.HandSPX.excO C hp.objs.size), g, dr, tk, os⟩ := by
    refine I1.laid (t' := tk) (a := hp.objs.size + 1) (o := exo (hp.objs.size + 1) C none) ?_ le1 (exo_ok got)
    exact stay
  have r2 : Vals (V.ref (hp.objs.size + 1) :: (vs ++ dvs)) (Value.ref (hp.objs.size + 1) :: (us ++ ds)) := .cons rfl (r1.append hd)
  have len : (Value.ref (hp.objs.size + 1) :: us ++ ds).length = ps.length := by
    have z := r2.length
    rw [F1.len _ _ _ _ ask] at z
    exact z.symm
  have few : us.length ≤ sizeLine := by
    rw [← Paired.length r1, sizeLine_eq]
    omega
  refine wpAny_call ?_
  refine PySem.HandSPX.call_own F.excBase_ArithmeticError (fun Y => line.has Y) (I1.kIn _ _ hC) (PySem.W.looks_findIn I1.kIn iC) (fun self => PySem.W.bind_fn I1.kIn self tI) few ?_
  refine codeAny_mono (F1.run _ X.stack _ _ ⟨Value.ref (hp.objs.size + 1) :: us, []⟩ (Value.ref (hp.objs.size + 1) :: (us ++ ds)) _ _ (fun _ _ _ => False) (hr.make C us []) (I2.env0.make C us []) (hb _ (Value.ref (hp.objs.size + 1) :: us) I2.kIn len) r2 ask) fun r s' back => ?_
  cases r with
  | error er => exact hx pins σ _ _ er s' I2 back
  | ok fl =>
    cases fl with
    | ret u =>
      obtain ⟨v, H2, os2, bare2, un2, hok2, rv, ev, d, fs, ea, ed, hd1, q2⟩ := back
      subst ev
      obtain ⟨h2, g2, d2, t2, os'⟩ := s'
      exact ⟨rv, mk_end (raises_own T.exC T.tyC) I1 le1 stay un2 hok2 os2 bare2 ea ed hd1 q2⟩
    | next => exact False.elim back
    | brk => exact False.elim back
    | cont => exact False.elim back
end
end L2

set_option Elab.async false
set_option linter.all false
set_option maxRecDepth 100000
set_option maxHeartbeats 4000000
namespace K1
open PySem L2
theorem lstOf_same {H H' : Hp} {v : V} (d : Dat H v) (s : Same H H') : lstOf H' v = lstOf H v := by
  cases d with
  | lst e _ => rw [lstOf_of e, lstOf_of (s _ _ e)]
  | tup e _ => rw [lstOf_tup e, lstOf_tup (s _ _ e)]
  | dic e => rw [lstOf_dic e, lstOf_dic (s _ _ e)]
  | _ => rfl
theorem tupOf_same {H H' : Hp} {v : V} (d : Dat H v) (s : Same H H') : tupOf H' v = tupOf H v := by
  cases d with
  | lst e _ => rw [tupOf_lst e, tupOf_lst (s _ _ e)]
  | tup e _ => rw [tupOf_of e, tupOf_of (s _ _ e)]
  | dic e => rw [tupOf_dic e, tupOf_dic (s _ _ e)]
  | _ => rfl
theorem firstBad_same {H H' : Hp} {v : V} {most : Int} {bar : List Str} (d : Dat H v) (s : Same H H') : firstBad H' v most bar = firstBad H v most bar := by
  unfold firstBad
  rw [lstOf_same d s]
/-! ### raise InvalidProgram(part, at) -/
/-- what is wished where it leaves -/
def Rz (C : Addr) (H : Hp) (part at_ : V) (E : XK) : Prop := ∀ (d : Addr) (H' : Hp), Same H H' → H d = none → H' d = some (.xd [("at", at_), ("part", part)]) → E (.ref C) (some d) H'
theorem Rz.later {C : Addr} {H H1 : Hp} {part at_ : V} {E : XK} (r : Rz C H part at_ E) (s : Same H H1) : Rz C H1 part at_ E := fun d H' s' n e => r d H' (s.trans s') (s.free n) e
def spIP (C : Addr) : Sp := fun vs H Q _ => ∃ (a : Addr) (p q : V), vs = [.ref a, p, q] ∧ H a = some (exo a C none) ∧
  ∀ (dx : Addr) (H' : Hp), H dx = none → dx ≠ a → H' a = some (exo a C (some dx)) → H' dx = some (exd dx [("at", q), ("part", p)]) → (∀ b o, H b = some o → b ≠ a → H' b = some o) → Q .non H'
abbrev sIP : Stmt := inClass (top 7) 0
section
variable {P : Program} {w : World} {K : PySem.W.Frag} {mg : Str → Option Value} {base : Heap}
theorem scIP : FnScope ["self", "part", "at"] ["self", "part", "at"] (defScope sIP) := ⟨rfl, rfl, rfl, by decide +kernel, rfl, by decide +kernel, by decide +kernel⟩
theorem okIP {f C : Addr} {fd : FuncData} (F : Fun K "__init__" "InvalidProgram.__init__" sIP f fd) (T : ExA K C) (n1 : PySem.W.findIn K (.ref C) "part" = some none) (n2 : PySem.W.findIn K (.ref C) "at" = some none) : FnOk P w K mg base CX0 1 f fd ["self", "part", "at"] (spIP C) := by
  refine F.ok scIP (fun vs H Q E h => ?_) (fun cdv A outer s H vs Q E hr h => ?_)
  · obtain ⟨a, p, q, rfl, _⟩ := h
    rfl
  · obtain ⟨a, p, q, rfl, ha, k⟩ := h
    refine ⟨_, pss_cons (ps_ea (pv 0) (pv 1)) (pss_one (ps_ea (pv 0) (pv 2))), ?_⟩
    refine ⟨_, rfl, _, rfl, a, C, rfl, T, n1, .inl ⟨ha, fun dx hd na => ?_⟩⟩
    refine ⟨_, rfl, _, rfl, a, C, rfl, T, n2, .inr ⟨dx, _, upd_same, by rw [upd_ne na, upd_same], (by show 1 ≤ 900; decide), ?_⟩⟩
    refine k dx _ hd na ?_ upd_same fun b o e nb => ?_
    · rw [upd_ne na.symm, upd_same]
    · rw [upd_ne (ne_of_none e hd), upd_ne nb, upd_ne (ne_of_none e hd)]
      exact e
/-- the class as its raisers know it -/
structure Ipc (P : Program) (w : World) (K : PySem.W.Frag) (mg : Str → Option Value) (base : Heap) (C : Addr) : Prop where
  T : ExA K C
  ex : ∃ (f : Addr) (fd : FuncData), PySem.W.findIn K (.ref C) "__init__" = some (some (.ref f)) ∧ PySem.W.typeIn K (.ref f) = some (.type "function") ∧ FnOk P w K mg base CX0 1 f fd ["self", "part", "at"] (spIP C) ∧ Binds K fd ["self", "part", "at"] []
  g : mg "InvalidProgram" = some (.ref C)
end
section
variable {X : Cx} {W : WX} {C : Addr} {j : Nat} {e1 e2 : Expr} {t1 t2 : TE} {p pos pos2 : Pos}
def tRip (C : Addr) (W : WX) (t1 t2 : TE) : TS := fun _ σ H => tMkO C (spIP C) [] (tCons t1 (tCons t2 tNil)) σ H fun cls d H' => W cls d σ H'
theorem ps_rip (c : Ipc X.prog X.w X.K X.mg X.base C) (hc : X.calm = true) (tk : Takes X W) (hr : Room j X.A) (hj : 2 ≤ j) (h1 : PE X e1 t1) (h2 : PE X e2 t2) (hg : Gl X "InvalidProgram" := by rfl)
    (s1 : starEach [e1, e2] X.env = (false, eval e1 X.env) :: starEach [e2] X.env := by rfl) (s2 : starEach [e2] X.env = (false, eval e2 X.env) :: starEach [] X.env := by rfl) (hpl : (backTo pos (starEach [e2] X.env)).any (·.1) = false := by rfl) :
    PS X (.Raise (some (.Call (.Name "InvalidProgram" p) [e1, e2] [] pos)) none pos2) (tRip C W t1 t2) := by
  obtain ⟨f, fd, iC, tI, G, b⟩ := c.ex
  exact ps_raise hc tk (pmk_ea c.T iC tI G (hr.mono hj) b .nil pass0 hg c.g (pa_cons h1 (pa_cons h2 pa_nil s2) s1) (by decide) s1 hpl)
/-- its reading, behind the two arguments' -/
theorem rip_rd {H : Hp} {p q : V} {E : XK} (h : Rz C H p q E) : ([p, q] : List V).length ≤ 1000 ∧ ∀ a, H a = none → spIP C (.ref a :: ([p, q] ++ [])) (upd H a (exo a C none))
    (fun v H2 => v = .non ∧ ∃ (d : Addr) (fs : List (Str × V)), H2 a = some (exo a C (some d)) ∧ H2 d = some (exd d fs) ∧ H d = none ∧ E (.ref C) (some d) (upd (del H2 a) d (.xd fs))) (fun _ _ _ => False) := by
  refine ⟨(by show 2 ≤ 1000; decide), fun a ha => ⟨a, p, q, rfl, upd_same, fun dx H' n1 n2 e1 e2 kp => ?_⟩⟩
  have n0 : H dx = none := by
    rw [upd_ne n2] at n1
    exact n1
  refine ⟨rfl, dx, _, e1, e2, n0, h dx _ (fun b o z => ?_) n0 upd_same⟩
  rw [upd_ne (ne_of_none z n0), del_ne (ne_of_none z ha)]
  exact kp b o (by rw [upd_ne (ne_of_none z ha)]; exact z) (ne_of_none z ha)
end
/-! ### check_names -/
def namesAt (H : Hp) (v : V) (least most : Int) (bar : List Str) : V := match firstBad H v most bar with
  | .non => (match lstOf H v with | some xs => if (xs.length : Int) < least then .int (-1) else .non | none => .non)
  | x => x
theorem firstBad_kind {H : Hp} {v : V} {most : Int} {bar : List Str} : (firstBad H v most bar = .non ∧ ∃ xs, lstOf H v = some xs) ∨ ∃ i, firstBad H v most bar = .int i := by
  unfold firstBad
  cases h : lstOf H v with
  | none => exact .inr ⟨_, rfl⟩
  | some xs =>
    show ((if (most : Int) < (xs.length : Int) then V.int (-1) else optV (badFrom bar xs [] 0)) = .non ∧ _) ∨ ∃ i, (if (most : Int) < (xs.length : Int) then V.int (-1) else optV (badFrom bar xs [] 0)) = .int i
    by_cases c : (most : Int) < (xs.length : Int)
    · rw [if_pos c]
      exact .inr ⟨_, rfl⟩
    · rw [if_neg c]
      cases badFrom bar xs [] 0 with
      | none => exact .inl ⟨rfl, xs, rfl⟩
      | some i => exact .inr ⟨_, rfl⟩
section
variable {P : Program} {w : World} {K : PySem.W.Frag} {mg : Str → Option Value} {base : Heap} {C : Addr}
def spNames (C : Addr) : Sp := fun vs H Q E => ∃ (part : Str) (v : V) (least most : Int) (b : Addr) (bar : List Str), vs = [.str part, v, .int least, .int most, .ref b] ∧ Dat H v ∧ H b = some (.lst (bar.map V.str)) ∧ most ≤ 100 ∧
  (namesAt H v least most bar = .non → ∀ H', Same H H' → Q .non H') ∧ (namesAt H v least most bar ≠ .non → Rz C H (.str part) (namesAt H v least most bar) E)
theorem sc26 : FnScope ["part", "value", "least", "most", "barred", "at"] ["part", "value", "least", "most", "barred"] (defScope (top 26)) := ⟨rfl, rfl, rfl, by decide +kernel, rfl, by decide +kernel, by decide +kernel⟩
theorem ok26 {f : Addr} {fd : FuncData} (F : Fun K "check_names" "check_names" (top 26) f fd) (B : Blt mg) (IP : Ipc P w K mg base C) (C25 : Cal P w K mg base CX0 2 "first_bad_name" ["value", "most", "barred"] spFirst) : FnOk P w K mg base (L2.CX P w) 3 f fd ["part", "value", "least", "most", "barred"] (spNames C) := by
  refine F.okX sc26 (fun vs H Q E h => ?_) (fun cdv A outer s H vs Q E hr h => ?_)
  · obtain ⟨part, v, least, most, b, bar, rfl, _⟩ := h
    rfl
  · obtain ⟨part, v, least, most, b, bar, rfl, d, hb, hm, kn, ke⟩ := h
    refine ⟨_, pss_cons (ps_set (i := 5) sc26.nd rfl (Or.inl rfl) (pe_cal C25 hr (by decide) pass0 (pa_cons (pv 1) (pa_cons (pv 3) (pa_cons (pv 4) pa_nil)))))
      (pss_cons (ps_if (PW.pt (pw_and (pt_cmpR op_isN (pv 5) pe_non (nomark _)) (pw_and1 (pt_cmpR op_lt (pe_callB call_len_seq rfl B.len PySem.boot_len (pa_cons (pv 1) pa_nil)) (pv 2) (nomark _))))) (pss_one (ps_set (i := 5) sc26.nd rfl (Or.inl rfl) (pe_un un_neg pe_int))) pss_nil)
      (pss_one (ps_if (pt_cmpR op_notN (pv 5) pe_non (nomark _)) (pss_one (ps_rip IP rfl (takes_of rfl rfl rfl rfl) hr (by decide) (pv 0) (pv 5))) pss_nil))), ?_⟩
    refine ⟨_, rfl, _, rfl, _, rfl, v, most, b, bar, rfl, d, hb, hm, fun H1 s1 => ?_⟩
    have fin_ : ∀ (x : V), namesAt H v least most bar = x → (∃ k, V.bl (!decide (x = V.non)) = V.bl k ∧ (if k = true then Rz C H1 (.str part) x E else Q .non H1)) := fun x hx => by
      refine ⟨_, rfl, ?_⟩
      by_cases hn : x = .non
      · subst hn
        refine iteF ?_
        exact kn hx H1 s1
      · rw [show (!decide (x = V.non)) = true from by rw [decide_eq_false hn]; rfl, if_pos rfl]
        rw [hx] at ke
        exact (ke hn).later s1
    refine ⟨_, rfl, rfl, _, rfl, ?_⟩
    rcases firstBad_kind (H := H) (v := v) (most := most) (bar := bar) with ⟨e, xs, hl⟩ | ⟨i, e⟩
    · rw [e]
      refine iteT ?_
      obtain ⟨a, rfl, ha⟩ := lstOf_some hl
      refine ⟨_, rfl, a, xs, rfl, .inl (SqL.of (s1 _ _ ha)), _, rfl, _, _, rfl, rfl, _, rfl, ?_⟩
      have en : namesAt H (.ref a) least most bar = if (xs.length : Int) < least then .int (-1) else .non := by unfold namesAt; rw [e, hl]
      refine ite2 (fun c => ?_) (fun c => ?_)
      · rw [if_pos (of_decide_eq_true c)] at en
        refine ⟨_, rfl, ?_⟩
        refine ⟨_, rfl, rfl, _, rfl, ?_⟩
        refine iteT ?_
        refine ⟨_, rfl, _, rfl, ?_⟩
        refine rip_rd (E := E) ?_
        rw [en] at ke
        exact (ke (by intro z; cases z)).later s1
      · rw [if_neg (fun z => c (decide_eq_true z))] at en
        refine ⟨_, rfl, rfl, _, rfl, ?_⟩
        refine iteF ?_
        exact kn en H1 s1
    · rw [e]
      refine iteF ?_
      have en : namesAt H v least most bar = .int i := by unfold namesAt; rw [e]
      refine ⟨_, rfl, rfl, _, rfl, ?_⟩
      refine iteT ?_
      refine ⟨_, rfl, _, rfl, ?_⟩
      refine rip_rd (E := E) ?_
      rw [en] at ke
      exact (ke (by intro z; cases z)).later s1
end
end K1

set_option Elab.async false
set_option linter.all false
set_option maxRecDepth 100000
set_option maxHeartbeats 4000000
namespace K1
open PySem L2
theorem keys_nil : keysOf [] = [] := rfl
/-! ### is_class -/
def strOf : V → Str | .str s => s | _ => default
def classOk (H : Hp) (v : V) (seen : List Str) : Bool := match tupOf H v with
  | some [n, z, f, b] => ((nameV n && !seen.contains (strOf n)) && wholeV z 1 8) && (decide (firstBad H f 3 [] = .non) && isB b)
  | _ => false
theorem classOk_four {H : Hp} {v n z f b : V} {seen : List Str} (h : tupOf H v = some [n, z, f, b]) : classOk H v seen = (((nameV n && !seen.contains (strOf n)) && wholeV z 1 8) && (decide (firstBad H f 3 [] = .non) && isB b)) := by
  unfold classOk
  rw [h]
theorem classOk_not {H : Hp} {v : V} {seen : List Str} (h : ∀ xs, tupOf H v = some xs → xs.length ≠ 4) : classOk H v seen = false := by
  unfold classOk
  cases e : tupOf H v with
  | none => rfl
  | some xs =>
    have z := h xs e
    match xs with
    | [] => rfl
    | [_] => rfl
    | [_, _] => rfl
    | [_, _, _] => rfl
    | [_, _, _, _] => exact absurd rfl z
    | _ :: _ :: _ :: _ :: _ :: _ => rfl
theorem four {xs : List V} (h : xs.length = 4) : ∃ n z f b, xs = [n, z, f, b] := by
  match xs, h with
  | [n, z, f, b], _ => exact ⟨n, z, f, b, rfl⟩
section
variable {P : Program} {w : World} {K : PySem.W.Frag} {mg : Str → Option Value} {base : Heap} {C : Addr}
def spIsClass : Sp := fun vs H Q _ => ∃ (v : V) (sd : Addr) (seen : List Str), vs = [v, .ref sd] ∧ Dat H v ∧ H sd = some (.dK (keysOf seen)) ∧ ∀ H', Same H H' → Q (.bl (classOk H v seen)) H'
theorem sc27 : FnScope ["value", "seen", "name", "size", "fields", "final"] ["value", "seen"] (defScope (top 27)) := ⟨rfl, rfl, rfl, by decide +kernel, rfl, by decide +kernel, by decide +kernel⟩
theorem ok27 {f : Addr} {fd : FuncData} (F : Fun K "is_class" "is_class" (top 27) f fd) (B : Blt mg) (C2 : Cal P w K mg base CX0 2 "is_within" ["value", "least", "most"] spWithin) (C3 : Cal P w K mg base CX0 1 "is_name" ["value"] spName)
    (C25 : Cal P w K mg base CX0 2 "first_bad_name" ["value", "most", "barred"] spFirst) : FnOk P w K mg base CX0 3 f fd ["value", "seen"] spIsClass := by
  refine F.ok sc27 (fun vs H Q E h => ?_) (fun cdv A outer s H vs Q E hr h => ?_)
  · obtain ⟨v, sd, seen, rfl, _⟩ := h
    rfl
  · obtain ⟨v, sd, seen, rfl, d, hsd, k⟩ := h
    have hu := hu_of hr
    refine ⟨_, pss_cons (ps_if (PW.pt (pw_or (pt_not (pt_val (pt_isi B (pv 0) B.tuple PyProof.Rows.boot_tuple))) (pw_or1 (pt_cmpR op_ne (pe_callB call_len_seq rfl B.len PySem.boot_len (pa_cons (pv 0) pa_nil)) pe_int (nomark _))))) (pss_one (ps_ret pe_bl)) pss_nil)
      (pss_cons (ps_asg (pv 0) (pg_tup rfl (pgs_cons (pg_name (i := 2) sc27.nd rfl (Or.inl rfl)) (pgs_cons (pg_name (i := 3) sc27.nd rfl (Or.inl rfl)) (pgs_cons (pg_name (i := 4) sc27.nd rfl (Or.inl rfl)) (pgs_cons (pg_name (i := 5) sc27.nd rfl (Or.inl rfl)) pgs_nil))))))
      (pss_cons (ps_if (PW.pt (pw_or (pt_not (pt_val (pe_cal C3 hr (by decide) pass0 (pa_cons (pv 2) pa_nil)))) (pw_or (pt_cmp (pc_din hu (pv 2) (pv 1))) (pw_or1 (pt_not (pt_val (pe_cal C2 hr (by decide) pass0 (pa_cons (pv 3) (pa_cons pe_int (pa_cons pe_int pa_nil)))))))))) (pss_one (ps_ret pe_bl)) pss_nil)
      (pss_one (ps_ret (pe_and (pe_cmpR op_isN (pe_cal C25 hr (by decide) pass0 (pa_cons (pv 4) (pa_cons pe_int (pa_cons (pe_lst pa_nil) pa_nil)))) pe_non (nomark _)) (pe_one (pt_isi B (pv 5) B.bool PyProof.Rows.boot_bool))))))), ?_⟩
    refine isi_rd rfl (ans_tup d) ⟨_, rfl, ?_⟩
    cases ht : tupOf H v with
    | none =>
      refine iteT ?_
      refine iteT ?_
      rw [classOk_not (fun xs e => by rw [ht] at e; cases e)] at k
      exact k _ (Same.refl _)
    | some xs =>
      obtain ⟨a, rfl, ha⟩ := tupOf_some ht
      refine iteF ?_
      refine ⟨_, rfl, a, xs, rfl, .inr (SqT.of ha), rfl, _, rfl, ?_⟩
      by_cases c4 : xs.length = 4
      · obtain ⟨n, z, fl, b, rfl⟩ := four c4
        refine iteF ?_
        rw [classOk_four ht] at k
        refine ⟨_, rfl, a, _, rfl, SqT.of ha, rfl, n, _, rfl, z, _, rfl, fl, _, rfl, b, _, rfl, rfl, ?_⟩
        have di := d.itemsT ha
        refine ⟨_, rfl, n, rfl, di n (by simp), fun H1 s1 => ⟨_, rfl, ?_⟩⟩
        cases hn : nameV n with
        | false =>
          rw [hn] at k
          refine iteT ?_
          refine iteT ?_
          exact k _ s1
        | true =>
          obtain ⟨t, rfl, hz⟩ := nameV_is hn
          rw [hn] at k
          refine iteF ?_
          refine ⟨_, rfl, _, rfl, sd, _, rfl, DGet.k (k := Sum.inr t) (s1 _ _ hsd), _, rfl, ?_⟩
          rw [keysOf_val]
          cases hc : seen.contains t with
          | true =>
            rw [show seen.contains (strOf (.str t)) = true from hc] at k
            refine iteT ?_
            refine iteT ?_
            exact k _ s1
          | false =>
            rw [show seen.contains (strOf (.str t)) = false from hc] at k
            refine iteF ?_
            refine ⟨_, rfl, z, 1, 8, rfl, (di z (by simp)).mono s1, _, rfl, ?_⟩
            cases hw : wholeV z 1 8 with
            | false =>
              rw [hw] at k
              refine iteT ?_
              exact k _ s1
            | true =>
              rw [hw] at k
              refine iteF ?_
              refine ⟨_, rfl, by decide, fun p hp => ?_⟩
              have s2 : Same H (upd H1 p (.lst [])) := same_new s1 hp
              have df : Dat H fl := di fl (by simp)
              refine ⟨fl, 3, p, [], rfl, df.mono s2, upd_same, by decide, fun H3 s3 => ⟨rfl, _, rfl, ?_⟩⟩
              rw [firstBad_same df s2]
              refine ite2 (fun c => ?_) (fun c => ?_)
              · refine isi_rd rfl (ans_bool ((di b (by simp)).mono (s2.trans s3))) ?_
                rw [show decide (firstBad H fl 3 [] = V.non) = true from c] at k
                exact k _ (s2.trans s3)
              · rw [show decide (firstBad H fl 3 [] = V.non) = false from Bool.eq_false_iff.mpr c] at k
                exact k _ (s2.trans s3)
      · rw [show (!decide (V.int (xs.length : Nat) = V.int 4)) = true from by rw [decide_eq_false (fun z => c4 (by have := V.int.inj z; omega))]; rfl]
        refine iteT ?_
        rw [classOk_not (fun ys e => by rw [ht] at e; cases e; exact c4)] at k
        exact k _ (Same.refl _)
/-! ### check_classes -/
def nameOf (H : Hp) (v : V) : Str := match tupOf H v with | some (n :: _) => strOf n | _ => default
def clsFrom (H : Hp) : List V → List Str → Nat → Option Nat
  | [], _, _ => none
  | v :: r, seen, i => if classOk H v seen = true then clsFrom H r (seen ++ [nameOf H v]) (i + 1) else some i
def classesAt (H : Hp) (v : V) : V := match lstOf H v with
  | none => .int (-1)
  | some xs => if (decide ((1 : Int) ≤ (xs.length : Int)) && decide ((xs.length : Int) ≤ 6)) = true then optV (clsFrom H xs [] 0) else .int (-1)
theorem classOk_same {H H' : Hp} {v : V} {seen : List Str} (d : Dat H v) (s : Same H H') : classOk H' v seen = classOk H v seen := by
  cases ht : tupOf H v with
  | none => rw [classOk_not (H := H) (fun xs e => by rw [ht] at e; cases e), classOk_not (H := H') (fun xs e => by rw [tupOf_same d s, ht] at e; cases e)]
  | some xs =>
    by_cases c4 : xs.length = 4
    · obtain ⟨n, z, f, b, rfl⟩ := four c4
      obtain ⟨a, rfl, ha⟩ := tupOf_some ht
      rw [classOk_four ht, classOk_four (by rw [tupOf_same d s]; exact ht), firstBad_same (d.itemsT ha f (by simp)) s]
    · rw [classOk_not (H := H) (fun ys e => by rw [ht] at e; cases e; exact c4), classOk_not (H := H') (fun ys e => by rw [tupOf_same d s, ht] at e; cases e; exact c4)]
theorem classOk_is {H : Hp} {v : V} {seen : List Str} (h : classOk H v seen = true) : ∃ (a : Addr) (n : Str) (z f b : V), v = .ref a ∧ H a = some (.tup [.str n, z, f, b]) ∧ nameS n = true ∧ seen.contains n = false ∧ wholeV z 1 8 = true ∧ firstBad H f 3 [] = .non ∧ isB b = true := by
  cases ht : tupOf H v with
  | none =>
    rw [classOk_not (fun xs e => by rw [ht] at e; cases e)] at h
    cases h
  | some xs =>
    by_cases c4 : xs.length = 4
    · obtain ⟨n, z, f, b, rfl⟩ := four c4
      obtain ⟨a, rfl, ha⟩ := tupOf_some ht
      rw [classOk_four ht] at h
      simp only [Bool.and_eq_true] at h
      obtain ⟨⟨⟨h1, h2⟩, h3⟩, h4, h5⟩ := h
      obtain ⟨t, rfl, hz⟩ := nameV_is h1
      refine ⟨a, t, z, f, b, rfl, ha, hz, ?_, h3, of_decide_eq_true h4, h5⟩
      have h2' : (!seen.contains t) = true := h2
      cases q : seen.contains t with
      | false => rfl
      | true => rw [q] at h2'; cases h2'
    · rw [classOk_not (fun ys e => by rw [ht] at e; cases e; exact c4)] at h
      cases h
def spClasses (C : Addr) : Sp := fun vs H Q E => ∃ (v : V), vs = [v] ∧ Dat H v ∧ (classesAt H v = .non → ∀ H', Same H H' → Q .non H') ∧ (classesAt H v ≠ .non → Rz C H (.str "classes") (classesAt H v) E)
theorem sc28 : FnScope ["classes", "seen", "index", "item"] ["classes"] (defScope (top 28)) := ⟨rfl, rfl, rfl, by decide +kernel, rfl, by decide +kernel, by decide +kernel⟩
theorem ok28 {f : Addr} {fd : FuncData} (F : Fun K "check_classes" "check_classes" (top 28) f fd) (B : Blt mg) (IP : Ipc P w K mg base C) (C27 : Cal P w K mg base CX0 3 "is_class" ["value", "seen"] spIsClass) : FnOk P w K mg base (L2.CX P w) 4 f fd ["classes"] (spClasses C) := by
  refine F.okX sc28 (fun vs H Q E h => ?_) (fun cdv A outer s H vs Q E hr h => ?_)
  · obtain ⟨v, rfl, _⟩ := h
    rfl
  · obtain ⟨v, rfl, d, kn, ke⟩ := h
    have hu := hu_of hr
    refine ⟨_, pss_cons (ps_if (PW.pt (pw_or (pt_not (pt_val (pt_isi B (pv 0) B.list PyProof.Rows.boot_list))) (pw_or1 (pt_not (pt_chain op_le op_le pe_int (pe_callB call_len_seq rfl B.len PySem.boot_len (pa_cons (pv 0) pa_nil)) pe_int))))) (pss_one (ps_rip IP rfl (takes_of rfl rfl rfl rfl) hr (by decide) pe_str (pe_un un_neg pe_int))) pss_nil)
      (pss_cons (ps_set (i := 1) sc28.nd rfl (Or.inl rfl) pe_dnewK)
      (pss_one (ps_for (passes_of rfl) rfl (pi_enum rfl B.enumerate (pa_cons (pv 0) pa_nil)) (pg_tup rfl (pgs_cons (pg_name (i := 2) sc28.nd rfl (Or.inl rfl)) (pgs_cons (pg_name (i := 3) sc28.nd rfl (Or.inl rfl)) pgs_nil)))
        (pss_cons (ps_if (pt_not (pt_val (pe_cal C27 hr (by decide) pass0 (pa_cons (pv 3) (pa_cons (pv 1) pa_nil))))) (pss_one (ps_rip IP rfl (takes_of rfl rfl rfl rfl) hr (by decide) pe_str (pv 2))) pss_nil)
          (pss_one (ps_dput hu (pv 1) (pe_ix ix_tup (pv 3) pe_int (fun _ _ => rfl)) pe_bl rfl)))))), ?_⟩
    refine isi_rd rfl (ans_list d) ⟨_, rfl, ?_⟩
    cases hl : lstOf H v with
    | none =>
      have e : classesAt H v = .int (-1) := by unfold classesAt; rw [hl]
      rw [e] at ke
      refine iteT ?_
      refine iteT ?_
      refine ⟨_, rfl, ?_⟩
      exact rip_rd (E := E) (ke (by intro z; cases z))
    | some xs =>
      obtain ⟨a, rfl, ha⟩ := lstOf_some hl
      refine iteF ?_
      refine ⟨_, rfl, a, xs, rfl, .inl (SqL.of ha), _, _, rfl, rfl, _, rfl, ?_⟩
      have e : classesAt H (.ref a) = if (decide ((1 : Int) ≤ (xs.length : Int)) && decide ((xs.length : Int) ≤ 6)) = true then optV (clsFrom H xs [] 0) else .int (-1) := by unfold classesAt; rw [hl]
      refine ite2 (fun c1 => ?_) (fun c1 => ?_)
      · refine ⟨_, _, rfl, rfl, _, rfl, ?_⟩
        refine ite2 (fun c2 => ?_) (fun c2 => ?_)
        · have c3 : decide ((xs.length : Int) ≤ 6) = false := by
            cases z : decide ((xs.length : Int) ≤ 6) with
            | false => rfl
            | true => rw [z] at c2; cases c2
          rw [c3, Bool.and_false, if_neg Bool.false_ne_true] at e
          rw [e] at ke
          exact ⟨_, rfl, rip_rd (E := E) (ke (by intro z; cases z))⟩
        · have c3 : decide ((xs.length : Int) ≤ 6) = true := by
            cases z : decide ((xs.length : Int) ≤ 6) with
            | true => rfl
            | false => rw [z] at c2; exact absurd rfl c2
          rw [c1, c3, Bool.true_and, if_pos rfl] at e
          rw [e] at ke kn
          have di := d.items ha
          have hlen : xs.length ≤ 6 := by have := of_decide_eq_true c3; omega
          intro D hD
          refine ⟨_, rfl, a, xs, rfl, SqL.of (by rw [upd_ne (ne_of_none ha hD)]; exact ha), ?_⟩
          refine for_enum (fun i σ H1 => ∃ (ss : List Str) (v4 v5 : Option V), σ = [some (.ref a), some (.ref D), v4, v5] ∧ Same H H1 ∧ H1 D = some (.dK (keysOf ss)) ∧ ss.length = i ∧ i ≤ xs.length ∧ clsFrom H xs [] 0 = clsFrom H (xs.drop i) ss i)
            ⟨[], none, none, rfl, fun b o e => by rw [upd_ne (ne_of_none e hD)]; exact e, upd_same, rfl, Nat.zero_le _, rfl⟩ (fun i σ H1 _ ⟨_, _, _, _, s1, _⟩ => SqL.of (s1 _ _ ha)) ?_ ?_
          · rintro i x σ H1 T hx ⟨ss, v4, v5, rfl, s1, hD1, hsl, hi, hbad⟩ hT
            refine pair_rd ?_
            have s2 : Same H (upd H1 T (.tup [.int (i : Nat), x])) := same_new s1 hT
            have dx : Dat H x := di x (List.mem_of_getElem? hx)
            have hdr : xs.drop i = x :: xs.drop (i + 1) := by
              obtain ⟨h1, h2⟩ := List.getElem?_eq_some_iff.mp hx
              rw [List.drop_eq_getElem_cons h1, h2]
            rw [hdr] at hbad
            have hD2 : (upd H1 T (.tup [.int (i : Nat), x])) D = some (.dK (keysOf ss)) := by rw [upd_ne (ne_of_none hD1 hT)]; exact hD1
            refine ⟨_, rfl, _, rfl, x, D, ss, rfl, dx.mono s2, hD2, fun H3 s3 => ⟨_, rfl, ?_⟩⟩
            rw [classOk_same dx s2]
            have s4 := s2.trans s3
            cases hk : classOk H x ss with
            | false =>
              refine iteT ?_
              refine ⟨_, rfl, rip_rd (E := E) ?_⟩
              rw [hbad, show clsFrom H (x :: xs.drop (i + 1)) ss i = some i from by show (if classOk H x ss = true then _ else some i) = some i; rw [hk, if_neg Bool.false_ne_true]] at ke
              exact (ke (by intro z; cases z)).later s4
            | true =>
              refine iteF ?_
              obtain ⟨p, n, z, fl, b, rfl, hp, hnm, hc, hw, hf, hb⟩ := classOk_is hk
              have hD3 : H3 D = some (.dK (keysOf ss)) := s3 _ _ hD2
              refine ⟨_, rfl, _, rfl, p, [.str n, z, fl, b], 0, .str n, rfl, rfl, SqT.of (s4 _ _ hp), rfl, D, _, rfl, DPut.k (k := Sum.inr n) hD3 (by unfold keysOf; rw [List.length_map, sizeLine_eq]; omega), ?_⟩
              refine ⟨ss ++ [n], _, _, rfl, fun c o e => ?_, ?_, ?_, (List.getElem?_eq_some_iff.mp hx).1, ?_⟩
              · rw [upd_ne (ne_of_none e hD)]
                exact s4 c o e
              · rw [upd_same, keysOf_put _ _ hc]
              · rw [List.length_append, hsl]; rfl
              · rw [hbad]
                show (if classOk H (.ref p) ss = true then clsFrom H (xs.drop (i + 1)) (ss ++ [nameOf H (.ref p)]) (i + 1) else some i) = _
                rw [hk, if_pos rfl, show nameOf H (.ref p) = n from by unfold nameOf; rw [tupOf_of hp]; rfl]
          · rintro σ H1 ⟨ss, v4, v5, rfl, s1, hD1, hsl, hi, hbad⟩
            rw [List.drop_eq_nil_of_le (Nat.le_refl _)] at hbad
            rw [hbad] at kn
            exact kn rfl _ s1
      · refine ⟨_, rfl, ?_⟩
        refine iteT ?_
        rw [Bool.eq_false_iff.mpr c1, Bool.false_and, if_neg Bool.false_ne_true] at e
        rw [e] at ke
        exact ⟨_, rfl, rip_rd (E := E) (ke (by intro z; cases z))⟩
end
end K1

set_option Elab.async false
set_option linter.all false
set_option maxRecDepth 100000
set_option maxHeartbeats 4000000
namespace K1
open PySem L2
theorem drop_at {xs : List V} {i : Nat} {x : V} (h : xs[i]? = some x) : xs.drop i = x :: xs.drop (i + 1) := by
  obtain ⟨h1, h2⟩ := List.getElem?_eq_some_iff.mp h
  rw [List.drop_eq_getElem_cons h1, h2]
def radFrom : List V → Int → Nat → Option Nat
  | [], _, _ => none
  | .int r :: rest, tot, i => if (decide (r < 2) || decide ((12 : Int) < tot * r)) = true then some i else radFrom rest (tot * r) (i + 1)
  | _ :: _, _, i => some i
theorem radFrom_no {v : V} {r : List V} {tot : Int} {i : Nat} (h : ¬ intV v = true) : radFrom (v :: r) tot i = some i := by
  cases v with
  | int k => exact absurd (show intV (V.int k) = true from rfl) h
  | _ => rfl
theorem radFrom_int {k : Int} {r : List V} {tot : Int} {i : Nat} : radFrom (.int k :: r) tot i = if (decide (k < 2) || decide ((12 : Int) < tot * k)) = true then some i else radFrom r (tot * k) (i + 1) := rfl
def radicesAt (H : Hp) (v : V) (th : Int) : V := match lstOf H v with
  | none => .int (-1)
  | some xs => optV (radFrom xs th 0)
section
variable {P : Program} {w : World} {K : PySem.W.Frag} {mg : Str → Option Value} {base : Heap} {C : Addr}
/-! ### check_threshold -/
def spThr (C : Addr) : Sp := fun vs H Q E => ∃ (v : V), vs = [v] ∧ Dat H v ∧ (wholeV v 1 12 = true → ∀ H', Same H H' → Q .non H') ∧ (wholeV v 1 12 = false → Rz C H (.str "threshold") (.int (-1)) E)
theorem sc29 : FnScope ["threshold"] ["threshold"] (defScope (top 29)) := ⟨rfl, rfl, rfl, by decide +kernel, rfl, by decide +kernel, by decide +kernel⟩
theorem ok29 {f : Addr} {fd : FuncData} {tM : Tok} (F : Fun K "check_threshold" "check_threshold" (top 29) f fd) (hM : mg "MOST_MEMORY" = some (.int 12 tM)) (IP : Ipc P w K mg base C) (C2 : Cal P w K mg base CX0 2 "is_within" ["value", "least", "most"] spWithin) :
    FnOk P w K mg base (L2.CX P w) 3 f fd ["threshold"] (spThr C) := by
  refine F.okX sc29 (fun vs H Q E h => ?_) (fun cdv A outer s H vs Q E hr h => ?_)
  · obtain ⟨v, rfl, _⟩ := h
    rfl
  · obtain ⟨v, rfl, d, kn, ke⟩ := h
    refine ⟨_, pss_one (ps_if (pt_not (pt_val (pe_cal C2 hr (by decide) pass0 (pa_cons (pv 0) (pa_cons pe_int (pa_cons (pe_glob (v := .int 12) rfl hM ⟨_, rfl⟩) pa_nil)))))) (pss_one (ps_rip IP rfl (takes_of rfl rfl rfl rfl) hr (by decide) pe_str (pe_un un_neg pe_int))) pss_nil), ?_⟩
    refine ⟨_, rfl, v, 1, 12, rfl, d, _, rfl, ?_⟩
    cases hw : wholeV v 1 12 with
    | false =>
      refine iteT ?_
      exact ⟨_, rfl, rip_rd (E := E) (ke hw)⟩
    | true =>
      refine iteF ?_
      exact kn hw _ (Same.refl _)
/-! ### check_radices -/
def spRad (C : Addr) : Sp := fun vs H Q E => ∃ (v : V) (th : Int), vs = [v, .int th] ∧ Dat H v ∧ 1 ≤ th ∧ th ≤ 12 ∧ (radicesAt H v th = .non → ∀ H', Same H H' → Q .non H') ∧ (radicesAt H v th ≠ .non → Rz C H (.str "radices") (radicesAt H v th) E)
theorem sc30 : FnScope ["radices", "threshold", "total", "index", "radix"] ["radices", "threshold"] (defScope (top 30)) := ⟨rfl, rfl, rfl, by decide +kernel, rfl, by decide +kernel, by decide +kernel⟩
theorem ok30 {f : Addr} {fd : FuncData} {tM : Tok} (F : Fun K "check_radices" "check_radices" (top 30) f fd) (B : Blt mg) (hM : mg "MOST_MEMORY" = some (.int 12 tM)) (IP : Ipc P w K mg base C) (C1 : Cal P w K mg base CX0 1 "is_integer" ["value"] spInteger) :
    FnOk P w K mg base (L2.CX P w) 3 f fd ["radices", "threshold"] (spRad C) := by
  refine F.okX sc30 (fun vs H Q E h => ?_) (fun cdv A outer s H vs Q E hr h => ?_)
  · obtain ⟨v, th, rfl, _⟩ := h
    rfl
  · obtain ⟨v, th, rfl, d, t1, t2, kn, ke⟩ := h
    refine ⟨_, pss_cons (ps_if (pt_not (pt_val (pt_isi B (pv 0) B.list PyProof.Rows.boot_list))) (pss_one (ps_rip IP rfl (takes_of rfl rfl rfl rfl) hr (by decide) pe_str (pe_un un_neg pe_int))) pss_nil)
      (pss_cons (ps_set (i := 2) sc30.nd rfl (Or.inl rfl) (pv 1))
      (pss_one (ps_for (passes_of rfl) rfl (pi_enum rfl B.enumerate (pa_cons (pv 0) pa_nil)) (pg_tup rfl (pgs_cons (pg_name (i := 3) sc30.nd rfl (Or.inl rfl)) (pgs_cons (pg_name (i := 4) sc30.nd rfl (Or.inl rfl)) pgs_nil)))
        (pss_cons (ps_if (PW.pt (pw_or (pt_not (pt_val (pe_cal C1 hr (by decide) pass0 (pa_cons (pv 4) pa_nil)))) (pw_or (pt_cmpR op_lt (pv 4) pe_int (nomark _)) (pw_or1 (pt_cmpR op_gt (pe_op op_mul (pv 2) (pv 4)) (pe_glob (v := .int 12) rfl hM ⟨_, rfl⟩) (nomark _)))))) (pss_one (ps_rip IP rfl (takes_of rfl rfl rfl rfl) hr (by decide) pe_str (pv 3))) pss_nil)
          (pss_one (ps_aug (i := 2) sc30.nd rfl (Or.inl rfl) (pv 4) iop_mul)))))), ?_⟩
    refine isi_rd rfl (ans_list d) ⟨_, rfl, ?_⟩
    cases hl : lstOf H v with
    | none =>
      have e : radicesAt H v th = .int (-1) := by unfold radicesAt; rw [hl]
      rw [e] at ke
      refine iteT ?_
      exact ⟨_, rfl, rip_rd (E := E) (ke (by intro z; cases z))⟩
    | some xs =>
      obtain ⟨a, rfl, ha⟩ := lstOf_some hl
      refine iteF ?_
      have e : radicesAt H (.ref a) th = optV (radFrom xs th 0) := by unfold radicesAt; rw [hl]
      rw [e] at ke kn
      have di := d.items ha
      refine ⟨_, rfl, ?_⟩
      refine ⟨_, rfl, a, xs, rfl, SqL.of ha, ?_⟩
      refine for_enum (fun i σ H1 => ∃ (tot : Int) (v4 v5 : Option V), σ = [some (.ref a), some (.int th), some (.int tot), v4, v5] ∧ Same H H1 ∧ 1 ≤ tot ∧ tot ≤ 12 ∧ radFrom xs th 0 = radFrom (xs.drop i) tot i)
        ⟨th, none, none, rfl, Same.refl _, t1, t2, rfl⟩ (fun i σ H1 _ ⟨_, _, _, _, s1, _⟩ => SqL.of (s1 _ _ ha)) ?_ ?_
      · rintro i x σ H1 T hx ⟨tot, v4, v5, rfl, s1, o1, o2, hbad⟩ hT
        refine pair_rd ?_
        have s2 : Same H (upd H1 T (.tup [.int (i : Nat), x])) := same_new s1 hT
        have dx : Dat H x := di x (List.mem_of_getElem? hx)
        rw [drop_at hx] at hbad
        have out : radFrom xs th 0 = some i → Rz C (upd H1 T (.tup [.int (i : Nat), x])) (.str "radices") (.int (i : Nat)) E := fun z => by
          rw [z] at ke
          exact (ke (by intro z; cases z)).later s2
        refine ⟨_, rfl, x, rfl, dx.mono s2, _, rfl, ?_⟩
        by_cases ci : intV x = true
        · obtain ⟨k, rfl⟩ := intV_is ci
          rw [radFrom_int] at hbad
          refine iteF ?_
          refine ⟨_, rfl, _, _, rfl, rfl, _, rfl, ?_⟩
          refine ite2 (fun c1 => ?_) (fun c1 => ?_)
          · rw [c1, Bool.true_or, if_pos rfl] at hbad
            refine iteT ?_
            exact ⟨_, rfl, rip_rd (E := E) (out hbad)⟩
          · rw [Bool.eq_false_iff.mpr c1, Bool.false_or] at hbad
            refine ⟨_, rfl, _, rfl, _, _, rfl, rfl, .inl ⟨by omega, by omega⟩, _, _, rfl, rfl, _, rfl, ?_⟩
            refine ite2 (fun c2 => ?_) (fun c2 => ?_)
            · rw [if_pos c2] at hbad
              exact ⟨_, rfl, rip_rd (E := E) (out hbad)⟩
            · rw [if_neg c2] at hbad
              refine ⟨_, rfl, _, rfl, _, _, rfl, rfl, .inl ⟨by omega, by omega⟩, ?_⟩
              have k2 : 2 ≤ k := by
                have z : ¬ k < 2 := fun z => c1 (decide_eq_true z)
                omega
              have hi : ¬ 12 < tot * k := fun z => c2 (decide_eq_true z)
              refine ⟨tot * k, _, _, rfl, s2, ?_, by omega, hbad⟩
              have : 1 * 1 ≤ tot * k := Int.mul_le_mul o1 (by omega) (by decide) (by omega)
              omega
        · rw [radFrom_no ci] at hbad
          rw [Bool.eq_false_iff.mpr ci]
          refine iteT ?_
          refine iteT ?_
          exact ⟨_, rfl, rip_rd (E := E) (out hbad)⟩
      · rintro σ H1 ⟨tot, v4, v5, rfl, s1, o1, o2, hbad⟩
        rw [List.drop_eq_nil_of_le (Nat.le_refl _)] at hbad
        rw [hbad] at kn
        exact kn rfl _ s1
end
end K1

set_option Elab.async false
set_option linter.all false
set_option maxRecDepth 100000
set_option maxHeartbeats 4000000
/-! {k: v for a in xs for b in ys}: a dict comprehension of two clauses without tests -/
namespace L2
open PySem PySem.Spec PyProof.Rows
abbrev dc2 (kx vx t0 j0 t1 j1 : Expr) (sc : Scope) (at_ : Pos) : Expr := .DictComp kx vx [⟨t0, j0, [], 0⟩, ⟨t1, j1, [], 0⟩] sc at_
theorem dc2_outer (kx vx t0 j0 t1 j1 : Expr) (sc : Scope) (at_ : Pos) (it acc : Value) (env : Env) :
    compTurn (dc2 kx vx t0 j0 t1 j1 sc at_) 0 it acc env = (do
      standAt j0.pos
      match ← pyNext it with
      | none => pure (.done .next)
      | some u =>
        letOwnedTupleGo t0 it u
        assign t0 env u
        let y ← eval j1 env
        standAt j1.pos
        let y ← foldedSetIterable j1 env y
        let _ ← runOwn (.compStart (dc2 kx vx t0 j0 t1 j1 sc at_) 1 (← holding [y] (pyIter y)) acc env) env
        again (.compLoop (dc2 kx vx t0 j0 t1 j1 sc at_) 0 it acc env)) := by rfl
theorem dc2_inner (kx vx t0 j0 t1 j1 : Expr) (sc : Scope) (at_ : Pos) (it : Value) (D : Addr) (env : Env) :
    compTurn (dc2 kx vx t0 j0 t1 j1 sc at_) 1 it (.ref D) env = (do
      standAt j1.pos
      match ← pyNext it with
      | none => pure (.done .next)
      | some u =>
        letOwnedTupleGo t1 it u
        assign t1 env u
        (do
          let ku ← eval kx env
          let vu ← holding [ku] (eval vx env)
          standAt { kx.pos with endLine := vx.pos.endLine, endCol := vx.pos.endCol }
          holding [ku, vu] (dictSet D ku vu))
        again (.compLoop (dc2 kx vx t0 j0 t1 j1 sc at_) 1 it (.ref D) env)) := by rfl
section
variable {pg : Program} {wd : World} {Ar : Around} {Rs : Result → Shared → Prop} {s0 : Shared} {kx vx t0 j0 t1 j1 : Expr} {sc : Scope} {at_ : Pos} {it acc : Value} {D : Addr} {env : Env}
/-- what is raised on the way -/
abbrev nby (pg : Program) (wd : World) (Ar : Around) (env : Env) (Rs : Result → Shared → Prop) : Value → Shared → Prop := notedBy (model pg wd) Ar env fun e s' => Rs (.error e) s'
/-- the outer loop, by an invariant and a number that falls -/
theorem dc2_loop0 (fold : ∀ y, foldedSetIterable j1 env y = pure y) (Iv : Nat → Shared → Prop)
    (turn : ∀ n s, Iv n s → wpAny (model pg wd) Ar (pyNext it) (fun r s1 => match r with
      | none => Rs (.ok .next) s1
      | some u => wpAny (model pg wd) Ar (letOwnedTupleGo t0 it u) (fun _ s2 => wpAny (model pg wd) Ar (assign t0 env u) (fun _ s3 =>
          wpAny (model pg wd) Ar (eval j1 env) (fun y s4 => wpAny (model pg wd) Ar (pyIter y) (fun it1 s5 =>
            codeAny (model pg wd) Ar (.compStart (dc2 kx vx t0 j0 t1 j1 sc at_) 1 it1 acc env) (fun r s' => match r with
              | .ok _ => ∃ m, m < n ∧ Iv m s'
              | .error _ => False) s5) (nby pg wd Ar env Rs) s4) (nby pg wd Ar env Rs) s3) (nby pg wd Ar env Rs) s2) (nby pg wd Ar env Rs) s1) (nby pg wd Ar env Rs) s)
    (n : Nat) (h : Iv n s0) : codeAny (model pg wd) Ar (.compLoop (dc2 kx vx t0 j0 t1 j1 sc at_) 0 it acc env) Rs s0 := by
  refine codeAny_loop rfl Iv (fun n s hI => ?_) n h
  show wpAny _ Ar ((compTurn (dc2 kx vx t0 j0 t1 j1 sc at_) 0 it acc env).onRaise (fun x => do noteFrame x env; theTreesLotGoes x)) _ _ s
  refine wpAny_noted ?_
  rw [dc2_outer]
  refine wpAny_bind (wpAny_standAt (wpAny_bind ?_))
  refine wpAny_mono (turn n s hI) (fun r s1 h1 => ?_) fun _ _ z => z
  cases r with
  | none => exact wpAny_pure h1
  | some u =>
    refine wpAny_bind (wpAny_mono h1 (fun _ s2 h2 => ?_) fun _ _ z => z)
    refine wpAny_bind (wpAny_mono h2 (fun _ s3 h3 => ?_) fun _ _ z => z)
    refine wpAny_bind (wpAny_mono h3 (fun y s4 h4 => ?_) fun _ _ z => z)
    refine wpAny_bind (wpAny_standAt (wpAny_bind ?_))
    refine wpAny_of_eq (fold y) (wpAny_bind (wpAny_holding ?_))
    refine wpAny_mono h4 (fun it1 s5 h5 => ?_) fun _ _ z => z
    refine wpAny_bind (wpAny_runOwn ?_)
    rw [Around.mark_none]
    refine codeAny_mono h5 fun r s' hr => ?_
    cases r with
    | error e => exact hr.elim
    | ok f =>
      first
        | exact wpAny_pure ⟨rfl, hr⟩
        | exact wpAny_bind (wpAny_pure (wpAny_pure ⟨rfl, hr⟩))
/-- the inner loop -/
theorem dc2_loop1 (Iv : Nat → Shared → Prop)
    (turn : ∀ n s, Iv n s → wpAny (model pg wd) Ar (pyNext it) (fun r s1 => match r with
      | none => Rs (.ok .next) s1
      | some u => wpAny (model pg wd) Ar (letOwnedTupleGo t1 it u) (fun _ s2 => wpAny (model pg wd) Ar (assign t1 env u) (fun _ s3 =>
          wpAny (model pg wd) Ar (eval kx env) (fun ku s4 => wpAny (model pg wd) Ar (eval vx env) (fun vu s5 =>
            wpAny (model pg wd) Ar (dictSet D ku vu) (fun _ s6 => ∃ m, m < n ∧ Iv m s6) (nby pg wd Ar env Rs) s5) (nby pg wd Ar env Rs) s4) (nby pg wd Ar env Rs) s3) (nby pg wd Ar env Rs) s2) (nby pg wd Ar env Rs) s1) (nby pg wd Ar env Rs) s)
    (n : Nat) (h : Iv n s0) : codeAny (model pg wd) Ar (.compLoop (dc2 kx vx t0 j0 t1 j1 sc at_) 1 it (.ref D) env) Rs s0 := by
  refine codeAny_loop rfl Iv (fun n s hI => ?_) n h
  show wpAny _ Ar ((compTurn (dc2 kx vx t0 j0 t1 j1 sc at_) 1 it (.ref D) env).onRaise (fun x => do noteFrame x env; theTreesLotGoes x)) _ _ s
  refine wpAny_noted ?_
  rw [dc2_inner]
  refine wpAny_bind (wpAny_standAt (wpAny_bind ?_))
  refine wpAny_mono (turn n s hI) (fun r s1 h1 => ?_) fun _ _ z => z
  cases r with
  | none => exact wpAny_pure h1
  | some u =>
    refine wpAny_bind (wpAny_mono h1 (fun _ s2 h2 => ?_) fun _ _ z => z)
    refine wpAny_bind (wpAny_mono h2 (fun _ s3 h3 => ?_) fun _ _ z => z)
    refine wpAny_bind (wpAny_bind (wpAny_mono h3 (fun ku s4 h4 => ?_) fun _ _ z => z))
    refine wpAny_bind (wpAny_holding (wpAny_mono h4 (fun vu s5 h5 => ?_) fun _ _ z => z))
    refine wpAny_bind (wpAny_standAt (wpAny_holding (wpAny_mono h5 (fun _ s6 h6 => ?_) fun _ _ z => z)))
    exact wpAny_pure ⟨rfl, h6⟩
/-- the inner source is made an iterator, or was one -/
theorem dc2_start1 (here : codeAny (model pg wd) Ar (.compLoop (dc2 kx vx t0 j0 t1 j1 sc at_) 1 it acc env) Rs s0)
    (made : wpAny (model pg wd) Ar (pyIter it) (fun it' s' => codeAny (model pg wd) Ar (.compLoop (dc2 kx vx t0 j0 t1 j1 sc at_) 1 it' acc env) Rs s') (nby pg wd Ar env Rs) s0) :
    codeAny (model pg wd) Ar (.compStart (dc2 kx vx t0 j0 t1 j1 sc at_) 1 it acc env) Rs s0 := by
  refine codeAny_of_tree ?_
  show wpAny _ _ ((compStart (dc2 kx vx t0 j0 t1 j1 sc at_) 1 it acc env).onRaise (fun x => do noteFrame x env; standAt theWindowsPlace)) _ _ s0
  refine wpAny_notedAt ?_
  unfold compStart
  show wpAny _ _ (ask >>= _) _ _ s0
  refine wpAny_bind (wpAny_askSetting (wpAny_ite ?_))
  split
  · first
      | exact wpAny_bind (wpAny_pure (wpAny_pure (And.intro rfl here)))
      | exact wpAny_pure (And.intro rfl here)
  · refine wpAny_bind (wpAny_rule ?_)
    first
      | exact wpAny_bind (wpAny_standAt (wpAny_bind (wpAny_mono made (fun it' s' z => wpAny_pure (And.intro rfl z)) fun _ _ z => z)))
      | (show wpAny _ _ (standAt j1.pos >>= _) _ _ s0; exact wpAny_bind (wpAny_standAt (wpAny_bind (wpAny_mono made (fun it' s' z => wpAny_pure (And.intro rfl z)) fun _ _ z => z))))
end
section
variable {X : Cx}
/-- its reading: W tells where the outer walk stands, W1 the inner one -/
def tDc2 (wi : TI) (g : TG) (wi1 : TI) (g1 : TG) (tk tv : TE) (vs vs1 : List Nat) : TE := fun σ H Q => wi σ H fun J H1 => ∀ D, H1 D = none → ∃ W : Nat → Nat → Hp → Prop, (∃ m, W 0 m (upd H1 D (.dK []))) ∧ ∀ i m H, W i m H →
  (J.stop i H ∧ Q (.ref D) H) ∨ (J.go i H ∧ ∃ Nx : Hp → Prop, (∀ H', Nx H' → ∃ m', m' < m ∧ W (i + 1) m' H') ∧ ∀ x H', J.yld i H x H' → g x (wipe σ vs) H' fun σ2 H2 => wipe σ2 vs = wipe σ vs ∧
    wi1 σ2 H2 fun J1 H4 => ∃ W1 : Nat → Nat → Hp → Prop, (∃ m, W1 0 m H4) ∧ ∀ j k H, W1 j k H →
      (J1.stop j H ∧ Nx H) ∨ (J1.go j H ∧ ∃ Nx1 : Hp → Prop, (∀ H', Nx1 H' → ∃ k', k' < k ∧ W1 (j + 1) k' H') ∧ ∀ x H', J1.yld j H x H' → g1 x (wipe σ2 vs1) H' fun σ3 H5 => wipe σ3 vs1 = wipe σ2 vs1 ∧
        tk σ3 H5 fun y H6 => tv σ3 H6 fun z H7 => ∃ kvs q, y = kV q ∧ H7 D = some (.dK kvs) ∧ kvs.length < sizeLine ∧ Nx1 (upd H7 D (.dK (putK kvs q z)))))
/-- a rule within the comprehension's block, whatever the block's frame is -/
abbrev InB (X : Cx) (sc : Scope) (R : Cx → Prop) : Prop := ∀ (s : Shared) (H : Hp) (C : Addr) (cl : List (Str × Addr)) (fp : List Addr), R (X.blk s H sc (compEnvC sc cl C X.env) fp)
theorem dc2_core {pins : List (Addr × Obj)} {s : Shared} {σ : St} {H : Hp} {Q : VK} {kx vx t0 j0 t1 j1 : Expr} {sc : Scope} {own : List (Str × Nat)} {vs1 : List Nat} {at_ pos' : Pos} {wi wi1 : TI} {g g1 : TG} {tk tv : TE} {use : Option (Value → Sem Unit)} {Qf : Value → Shared → Prop}
    (calm : X.calm = true) (nd : X.N.Nodup) (I : Inv X pins σ H s) (hi : PI X t0 j0 wi) (blk : BlkOk X.N X.env.scope sc own) (sub : ∀ i ∈ vs1, i ∈ own.map (·.2))
    (hg : InB X sc fun Y => PG Y t0 g) (hi1 : InB X sc fun Y => PI Y t1 j1 wi1) (hg1 : InB X sc fun Y => PG Y t1 g1) (hk : InB X sc fun Y => PE Y kx tk) (hv : InB X sc fun Y => PE Y vx tv)
    (fold0 : ∀ x, foldedSetIterable j0 X.env x = pure x) (fold1 : ∀ env x, foldedSetIterable j1 env x = pure x) (h : tDc2 wi g wi1 g1 tk tv (own.map (·.2)) vs1 σ H Q)
    (out : ∀ D C s' m H', Inv X pins σ H' s' → Q (.ref D) H' → s'.heap.Ns C m → FpOk X pins H' C → compPost (model X.prog X.w) X.A X.xe use Qf (.ref D) C (.ok .next) s') :
    wpAny (model X.prog X.w) X.A (comprehension (dc2 kx vx t0 j0 t1 j1 sc at_) sc X.env pos' newDict false (eval j0 X.env) use) Qf X.xe s := by
  have seen : ∀ y ∈ sc.names, y.2 = .free → ∃ c, X.env.cells.lookup y.1 = some c := fun y hy e => by
    rcases blk.free y hy e with k | k
    · exact I.ok.has _ (.inl k)
    · exact I.ok.has _ (.inr k)
  refine wpAny_comprehension_free (use := use) rfl fold0 (closure_ok seen) blk.kind (fun y hy e => by rw [blk.uniq y hy, e]) ?_
  refine thn (hi.run pins s σ H _ I h) fun xv s1 hx => thn hx fun itv s2 h2 => ?_
  obtain ⟨it, fp, tn, J, H2, e, I2, T, st2, f2, q⟩ := h2
  subst e
  refine wpAny_newObj_type (newEnv_comp ?_)
  generalize hD : s2.heap.objs.size = D
  have freeD : H2 D = none := I2.hok.fresh (Nat.le_of_eq hD)
  obtain ⟨W, ⟨m0, w0⟩, turn⟩ := q D freeD
  -- behind the new dict
  generalize hs3 : ({ s2 with heap := s2.heap.push { cls := .type "dict", data := .dict #[] } } : Shared) = s3
  have push3 : s3.heap = s2.heap.push { cls := .type "dict", data := .dict #[] } := by rw [← hs3]
  have I3 : Inv X pins σ (upd H2 D (.dK [])) s3 := by
    rw [← hs3]
    refine I2.laid (t' := s2.toks) (fun b o z => Heap.get?_push_of_some _ z) (Nat.le_of_eq hD) ?_
    rw [← hD]
    exact dk_empty s2.heap I2.big
  have below : ∀ b ∈ fp, b < s2.heap.objs.size := fun b hb => by
    obtain ⟨o, z, _⟩ := T.obj _ _ st2 b hb
    exact Heap.lt_size z
  have f3 : ∀ b ∈ fp, FpOk X pins (upd H2 D (.dK [])) b ∧ b < s3.heap.objs.size := fun b hb => by
    have lt := below b hb
    refine ⟨⟨?_, (f2 b hb).2⟩, ?_⟩
    · rw [upd_ne (by rw [← hD]; exact Nat.ne_of_lt lt)]
      exact (f2 b hb).1
    · rw [push3, Heap.size_push]
      exact Nat.lt_succ_of_lt lt
  have st3 : tn 0 s3.heap := T.keep _ _ _ st2 fun b _ o z => by
    rw [push3]
    exact Heap.get?_push_of_some _ z
  have I4 := block_start I3 blk nd f3
  generalize hcl : cellsFrom (s3.heap.objs.size + 1) sc.names (cloFrom X.env.cells sc.names []) = cl at I4
  have rg := hg s3 (upd H2 D (.dK [])) s3.heap.objs.size cl fp
  have ri := hi1 s3 (upd H2 D (.dK [])) s3.heap.objs.size cl fp
  have rg1 := hg1 s3 (upd H2 D (.dK [])) s3.heap.objs.size cl fp
  have rk := hk s3 (upd H2 D (.dK [])) s3.heap.objs.size cl fp
  have rv := hv s3 (upd H2 D (.dK [])) s3.heap.objs.size cl fp
  have nofp : ∀ b ∈ fp, (upd H2 D (.dK [])) b = none := fun b hb => (f3 b hb).1.1
  show codeAny _ _ (.compStart (dc2 kx vx t0 j0 t1 j1 sc at_) 0 (.ref it) (.ref D) (compEnvC sc cl s3.heap.objs.size X.env)) (compPost (model X.prog X.w) X.A X.xe use Qf (.ref D) s3.heap.objs.size)
    { s3 with heap := pushCells (s3.heap.push { cls := .type "dict", data := .dict #[] }) sc.names }
  generalize hce : compEnvC sc cl s3.heap.objs.size X.env = ce at I4 rg ri rg1 rk rv ⊢
  have frame : ce.locals = s3.heap.objs.size := by
    subst hce
    rfl
  generalize hH3 : upd H2 D (.dK []) = H3 at I3 I4 rg ri rg1 rk rv w0 nofp f3
  generalize hs4 : ({ s3 with heap := pushCells (s3.heap.push { cls := .type "dict", data := .dict #[] }) sc.names } : Shared) = s4 at I4 ⊢
  have st4 : tn 0 s4.heap := T.keep _ _ _ st3 fun b _ o z => by
    rw [← hs4]
    exact pushCells_keeps _ _ _ _ (Heap.get?_push_of_some _ z)
  have foot : ∀ {σ' : St} {H' : Hp} {s' : Shared}, Inv (X.blk s3 H3 sc ce fp) [] σ' H' s' → (∀ b ∈ fp, H' b = none) → ∀ b ∈ fp, FpOk (X.blk s3 H3 sc ce fp) [] H' b := fun {σ' H' s'} I' hn b hb =>
    ⟨hn b hb, (I'.ok.exf b hb).1, I'.ok.exfs b hb, .inl hb, fun x c z => (I'.ok.exf b hb).2 x c z, fun p hp => absurd (show p ∈ ([] : List (Addr × Obj)) ++ [] from hp) (by simp)⟩
  have walk : codeAny (model X.prog X.w) X.A (.compLoop (dc2 kx vx t0 j0 t1 j1 sc at_) 0 (.ref it) (.ref D) ce) (compPost (model X.prog X.w) X.A X.xe use Qf (.ref D) s3.heap.objs.size) s4 := by
    refine dc2_loop0 (fold1 ce) (fun n s' => ∃ i H', Inv (X.blk s3 H3 sc ce fp) [] (wipe σ (own.map (·.2))) H' s' ∧ tn i s'.heap ∧ (∀ b ∈ fp, H' b = none) ∧ W i n H') ?_ m0 ⟨0, H3, I4, st4, nofp, w0⟩
    rintro n s5 ⟨i, H5, I5, st5, n5, w5⟩
    rcases turn i n H5 w5 with ⟨stop, qq⟩ | ⟨go, Nx, next, step⟩
    · refine thnF (T.done (X.blk s3 H3 sc ce fp) rfl rfl rfl calm i [] s5 _ H5 (fun _ _ => False) I5 (foot I5 n5) st5 stop) fun r s6 ⟨hr, I6⟩ => ?_
      subst hr
      have I7 : Inv X pins σ H5 s6 := I3.call' (ch := fp) I6.os I6.base I6.hok I6.bare fun b hb => by
        have z := (f3 b hb).1
        exact ⟨z.2.2.2.1, z.2.1, z.2.2.2.2.1, z.2.2.2.2.2⟩
      have noC : H5 s3.heap.objs.size = none := by
        rw [← frame]
        exact I6.free
      obtain ⟨m, hn, _⟩ := I6.loc
      have hn : s6.heap.Ns s3.heap.objs.size m := by
        rw [← frame]
        exact hn
      exact out D s3.heap.objs.size s6 m H5 I7 qq hn (I3.fpOk (Nat.le_refl _) noC)
    · refine thnF (T.item (X.blk s3 H3 sc ce fp) rfl rfl rfl calm i [] s5 _ H5 (fun _ _ => False) I5 (foot I5 n5) st5 go) fun r s6 ⟨u, hr, h6⟩ => ?_
      subst hr
      refine thnF h6 fun _ s7 ⟨x, H7, I7, r7, y7, st7, n7⟩ => ?_
      have P7 := I7.pinned (foot I7 n7) (T.obj _ _ st7)
      refine thnF (rg.run _ s7 _ H7 x u _ P7 r7 (step x H7 y7)) fun _ s8 ⟨σ8, H8, I8, hw8, q8⟩ => ?_
      -- from any slots that know what was known at the turn's start, the turn ends
      have over : ∀ {σ9 : St} {s' : Shared} {H' : Hp}, Inv (X.blk s3 H3 sc ce fp) ([] ++ pinsAt fp s7.heap) σ9 H' s' → (wipe σ (own.map (·.2))).length = σ9.length → (∀ (j : Nat) v, (wipe σ (own.map (·.2)))[j]? = some (some v) → σ9[j]? = some (some v)) → Nx H' →
          ∃ m, m < n ∧ ∃ i H', Inv (X.blk s3 H3 sc ce fp) [] (wipe σ (own.map (·.2))) H' s' ∧ tn i s'.heap ∧ (∀ b ∈ fp, H' b = none) ∧ W i m H' := fun {σ9 s' H'} I' len know nx => by
        obtain ⟨m', lt, w'⟩ := next H' nx
        have still : ∀ b ∈ fp, ∀ o, s7.heap.get? b = some o → s'.heap.get? b = some o ∧ H' b = none := fun b hb o z =>
          let k := I'.pin (b, o) (List.mem_append_right _ (List.mem_append_right _ (mem_pinsAt hb z)))
          ⟨k.1, k.2.1⟩
        refine ⟨m', lt, i + 1, H', (I'.unpinned (pins := [])).weak len know, ?_, fun b hb => ?_, w'⟩
        · exact T.keep _ _ _ st7 fun b hb o z => (still b hb o z).1
        · obtain ⟨o, z, _⟩ := T.obj _ _ st7 b hb
          exact (still b hb o z).2
      have len8 : (wipe σ (own.map (·.2))).length = σ8.length := by rw [← hw8, wipe_length]
      have know9 : ∀ (j : Nat) v, (wipe σ (own.map (·.2)))[j]? = some (some v) → (wipe σ8 vs1)[j]? = some (some v) := fun j v z => by
        rw [← hw8] at z
        obtain ⟨z1, z2⟩ := wipe_some z
        rw [wipe_out fun k => z2 (sub j k)]
        exact z1
      refine thnF (ri.run _ s8 σ8 H8 _ I8 q8) fun xv s10 hx => thnF hx fun itv s11 h11 => ?_
      obtain ⟨it1, fp1, tn1, J1, H11, e1, I11, T1, st11, f11, W1, ⟨m1, w1⟩, turn1⟩ := h11
      subst e1
      have foot1 : ∀ {H' : Hp}, (∀ b ∈ fp1, H' b = none) → ∀ b ∈ fp1, FpOk (X.blk s3 H3 sc ce fp) ([] ++ pinsAt fp s7.heap) H' b := fun hn b hb => ⟨hn b hb, (f11 b hb).2⟩
      have inner : codeAny (model X.prog X.w) X.A (.compLoop (dc2 kx vx t0 j0 t1 j1 sc at_) 1 (.ref it1) (.ref D) ce)
          (fun r s' => match r with
            | .ok _ => ∃ m, m < n ∧ ∃ i H', Inv (X.blk s3 H3 sc ce fp) [] (wipe σ (own.map (·.2))) H' s' ∧ tn i s'.heap ∧ (∀ b ∈ fp, H' b = none) ∧ W i m H'
            | .error _ => False) s11 := by
        refine dc2_loop1 (fun k s' => ∃ j H', Inv (X.blk s3 H3 sc ce fp) ([] ++ pinsAt fp s7.heap) (wipe σ8 vs1) H' s' ∧ tn1 j s'.heap ∧ (∀ b ∈ fp1, H' b = none) ∧ W1 j k H') ?_ m1
          ⟨0, H11, I11.weak (wipe_length _ _) (fun j v z => (wipe_some z).1), st11, fun b hb => (f11 b hb).1, w1⟩
        rintro k s12 ⟨j, H12, I12, st12, n12, w12⟩
        rcases turn1 j k H12 w12 with ⟨stop1, nx1⟩ | ⟨go1, Nx1, next1, step1⟩
        · refine thnF (T1.done (X.blk s3 H3 sc ce fp) rfl rfl rfl calm j _ s12 (wipe σ8 vs1) H12 (fun _ _ => False) I12 (foot1 n12) st12 stop1) fun r s13 ⟨hr, I13⟩ => ?_
          subst hr
          exact over I13 (len8.trans (wipe_length σ8 vs1).symm) know9 nx1
        · refine thnF (T1.item (X.blk s3 H3 sc ce fp) rfl rfl rfl calm j _ s12 (wipe σ8 vs1) H12 (fun _ _ => False) I12 (foot1 n12) st12 go1) fun r s13 ⟨u1, hr, h13⟩ => ?_
          subst hr
          refine thnF h13 fun _ s14 ⟨x1, H14, I14, r14, y14, st14, n14⟩ => ?_
          have P14 := I14.pinned (foot1 n14) (T1.obj _ _ st14)
          refine thnF (rg1.run _ s14 (wipe σ8 vs1) H14 x1 u1 _ P14 r14 (step1 x1 H14 y14)) fun _ s15 ⟨σ15, H15, I15, hw15, q15⟩ => ?_
          have over1 : ∀ {s' : Shared} {H' : Hp}, Inv (X.blk s3 H3 sc ce fp) (([] ++ pinsAt fp s7.heap) ++ pinsAt fp1 s14.heap) σ15 H' s' → Nx1 H' →
              ∃ m, m < k ∧ ∃ j H', Inv (X.blk s3 H3 sc ce fp) ([] ++ pinsAt fp s7.heap) (wipe σ8 vs1) H' s' ∧ tn1 j s'.heap ∧ (∀ b ∈ fp1, H' b = none) ∧ W1 j m H' := fun {s' H'} I' nx => by
            obtain ⟨m', lt, w'⟩ := next1 H' nx
            have still : ∀ b ∈ fp1, ∀ o, s14.heap.get? b = some o → s'.heap.get? b = some o ∧ H' b = none := fun b hb o z =>
              let k := I'.pin (b, o) (List.mem_append_right _ (List.mem_append_right _ (mem_pinsAt hb z)))
              ⟨k.1, k.2.1⟩
            refine ⟨m', lt, j + 1, H', I'.unpinned.weak (by rw [← hw15, wipe_length]) (fun j v z => ?_), ?_, fun b hb => ?_, w'⟩
            · rw [← hw15] at z
              exact (wipe_some z).1
            · exact T1.keep _ _ _ st14 fun b hb o z => (still b hb o z).1
            · obtain ⟨o, z, _⟩ := T1.obj _ _ st14 b hb
              exact (still b hb o z).2
          refine thnF (rk.run _ s15 σ15 H15 _ I15 q15) fun ku s16 ⟨yk, H16, I16, r16, q16⟩ => ?_
          refine thnF (rv.run _ s16 σ15 H16 _ I16 q16) fun vu s17 ⟨yv, H17, I17, r17, kvs, key, ek, hD17, few, nx⟩ => ?_
          subst ek
          exact d_dictSet (X := X.blk s3 H3 sc ce fp) I17 hD17 few r16 r17 fun s18 I18 => over1 I18 nx
      exact dc2_start1 inner (T1.self X.A 0 _ _ _ st11 inner)
  exact codeAny_compStart_dict walk (T.self X.A 0 _ _ _ st4 walk)
/-- y = {..}, y a local -/
theorem ps_setDc2 {i : Nat} {y : Str} {py : Pos} {kx vx t0 j0 t1 j1 : Expr} {sc : Scope} {own : List (Str × Nat)} {vs1 : List Nat} {at_ spos : Pos} {wi wi1 : TI} {g g1 : TG} {tk tv : TE} (calm : X.calm = true) (nd : X.N.Nodup) (hy : X.N[i]? = some y) (hyl : X.env.scope.names.lookup y = some .local)
    (sw : swapsWith (dc2 kx vx t0 j0 t1 j1 sc at_) (some (.Name y py)) spos.line X.env = pure true) (hi : PI X t0 j0 wi) (blk : BlkOk X.N X.env.scope sc own) (sub : ∀ i ∈ vs1, i ∈ own.map (·.2))
    (hg : InB X sc fun Y => PG Y t0 g) (hi1 : InB X sc fun Y => PI Y t1 j1 wi1) (hg1 : InB X sc fun Y => PG Y t1 g1) (hk : InB X sc fun Y => PE Y kx tk) (hv : InB X sc fun Y => PE Y vx tv)
    (fold0 : ∀ x, foldedSetIterable j0 X.env x = pure x := by intro _; rfl) (fold1 : ∀ env x, foldedSetIterable j1 env x = pure x := by intro _ _; rfl) :
    PS X (.Assign [.Name y py] (dc2 kx vx t0 j0 t1 j1 sc at_) spos) (tAsg (tDc2 wi g wi1 g1 tk tv (own.map (·.2)) vs1) (gName i)) := by
  refine ⟨fun pins s σ H D I h => ?_⟩
  rw [exec_Assign_Name_used _ _ _ _ sw]
  refine wpAny_bind (wpAny_standAt (wpAny_bind ?_))
  show wpAny _ X.A (do let _ ← comprehension (dc2 kx vx t0 j0 t1 j1 sc at_) sc X.env (firstIterPos [⟨t0, j0, [], 0⟩, ⟨t1, j1, [], 0⟩] at_) newDict false (eval j0 X.env) (some (assign (.Name y py) X.env))) _ _ s
  have ask : tDc2 wi g wi1 g1 tk tv (own.map (·.2)) vs1 σ H (fun x H1 => gName i x σ H1 D.nx) := h
  refine wpAny_bind (thn (dc2_core (Qf := fun _ s' => SP X pins D .next s') calm nd I hi blk sub hg hi1 hg1 hk hv fold0 fold1 ask fun L C s' m H' I' q hn f => ?_) fun _ s' hq => wpAny_pure (wpAny_pure hq))
  show wpAny _ _ (assign (.Name y py) X.env (.ref L)) _ _ _
  refine wpAny_assign_Name (store_ok2 (v := V.ref L) I' nd hy (.inl hyl) rfl (fun s2 I2 ⟨a, sb, ha⟩ => ?_) (.inr hyl))
  obtain ⟨f0, f1, f2, f3, f4, f5⟩ := f
  have apart : C ≠ a := by
    rcases ha with z | z
    · rw [z]
      exact f1
    · exact fun e => f4 y a z e.symm
  refine ⟨m, hn.sameBut sb apart, fun h3 sb3 => ?_⟩
  exact ⟨_, H', I2.turned (t' := s2.toks) (fun b o hb z => (sb3.2 b hb).trans z) f0 f1 f3 f4 f5, q⟩
theorem sw_dc {kx vx : Expr} {gs : List Comprehension} {sc : Scope} {at_ py : Pos} {y : Str} {l : Nat} {env : Env} (hk : env.scope.kind = .function) (hy : env.scope.names.lookup y = some .local) (hl : (py.line == at_.line) = true)
    (ha : (sc.names.any fun (n, k) => n == y && (k == .local || k == .cell)) = false) : swapsWith (.DictComp kx vx gs sc at_) (some (.Name y py)) l env = pure true := by
  have ky : env.kindOf y = some .local := hy
  have kb : env.blockKind = .function := by
    unfold Env.blockKind
    rw [hk]
    rfl
  unfold swapsWith
  simp only [kb, ky, ha, Expr.pos, hl]
  rfl
end
end L2

set_option Elab.async false
set_option linter.all false
set_option maxRecDepth 100000
set_option maxHeartbeats 4000000
namespace K1
open PySem L2
/-- a class of the module as its makers know it -/
structure Mkr (P : Program) (w : World) (K : PySem.W.Frag) (mg : Str → Option Value) (base : Heap) (CX : CXT) (k : Nat) (x : Str) (C : Addr) (ps : List Str) (sp : Sp) : Prop where
  ex : ∃ (f : Addr) (fd : FuncData), Mk K C f ∧ FnOk P w K mg base CX k f fd ps sp ∧ mg x = some (.ref C) ∧ Binds K fd ps []
theorem pe_mkr {X : Cx} {CX : CXT} {k j : Nat} {x : Str} {C : Addr} {ps : List Str} {sp : Sp} {E : XK} {p pos : Pos} {e : Expr} {es : List Expr} {t : TA} (c : Mkr X.prog X.w X.K X.mg X.base CX k x C ps sp) (hr : Room j X.A) (hj : k + 1 ≤ j) (hx : Passes CX X E) (ha : PA X (e :: es) t)
    (hg : Gl X x := by rfl) (hdb : (x == ("__debug__" : Str)) = false := by decide) (he : starEach (e :: es) X.env = (false, eval e X.env) :: starEach es X.env := by rfl) (hpl : (backTo pos (starEach es X.env)).any (·.1) = false := by rfl) :
    PE X (.Call (.Name x p) (e :: es) [] pos) (tMake C sp [] E t) := by
  obtain ⟨f, fd, M, G, hm, hb⟩ := c.ex
  exact pe_make M G (hr.mono hj) hg hm hb .nil hx ha hdb he hpl
/-- a new instance and its __init__: what stood stands -/
theorem made_same {H H1 : Hp} {x dx C : Addr} (nx : H x = none) (nd : H dx = none) (k : ∀ b o, (upd (upd H dx (.own x)) x (.ins C dx [])) b = some o → b ≠ x → H1 b = some o) : Same H H1 := L2.Same.made nx nd k
section
variable {P : Program} {w : World} {K : PySem.W.Frag} {mg : Str → Option Value} {base : Heap}
/-! ### Scope: nothing of it is read here -/
abbrev sScI : Stmt := inClass (top 14) 0
def spScI (C : Addr) : Sp := fun vs H Q _ => ∃ (p dx : Addr) (a b c d e f : V), vs = [.ref p, a, b, c, d, e, f] ∧ H p = some (.ins C dx []) ∧ ∀ H', (∀ b o, H b = some o → b ≠ p → H' b = some o) → Q .non H'
structure NoS (K : PySem.W.Frag) (C : Addr) : Prop where
  cl : Cls K C
  n1 : NoAttr K C "class_names"
  n2 : NoAttr K C "field_names"
  n3 : NoAttr K C "variable_names"
  n4 : NoAttr K C "weak_names"
  n5 : NoAttr K C "levels"
  n6 : NoAttr K C "calls"
theorem putF_len (f : Str) (v : V) : ∀ fs : List (Str × V), (putF f v fs).length ≤ fs.length + 1
  | [] => Nat.le_refl _
  | (g, x) :: r => by
    show (if g = f then (g, v) :: r else (g, x) :: putF f v r).length ≤ _
    by_cases h : g = f
    · rw [if_pos h]
      simp
    · rw [if_neg h, List.length_cons, List.length_cons]
      have := putF_len f v r
      omega
theorem scSc : FnScope ["self", "class_names", "field_names", "variable_names", "weak_names", "levels", "calls"] ["self", "class_names", "field_names", "variable_names", "weak_names", "levels", "calls"] (defScope sScI) := ⟨rfl, rfl, rfl, by decide +kernel, rfl, by decide +kernel, by decide +kernel⟩
theorem okScI {f C : Addr} {fd : FuncData} (F : Fun K "__init__" "Scope.__init__" sScI f fd) (T : NoS K C) : FnOk P w K mg base CX0 1 f fd ["self", "class_names", "field_names", "variable_names", "weak_names", "levels", "calls"] (spScI C) := by
  refine F.ok scSc (fun vs H Q E h => ?_) (fun cdv A outer s H vs Q E hr h => ?_)
  · obtain ⟨p, dx, a, b, c, d, e, f, rfl, _⟩ := h
    rfl
  · obtain ⟨p, dx, a, b, c, d, e, f, rfl, hp, k⟩ := h
    refine ⟨_, pss_cons (ps_fld (pv 0) (pv 1) rfl) (pss_cons (ps_fld (pv 0) (pv 2) rfl) (pss_cons (ps_fld (pv 0) (pv 3) rfl) (pss_cons (ps_fld (pv 0) (pv 4) rfl) (pss_cons (ps_fld (pv 0) (pv 5) rfl) (pss_one (ps_fld (pv 0) (pv 6) rfl)))))), ?_⟩
    have z0 : ([] : List (Str × V)).length ≤ 0 := Nat.le_refl _
    have z1 := putF_len "class_names" a []
    have z2 := putF_len "field_names" b (putF "class_names" a [])
    have z3 := putF_len "variable_names" c (putF "field_names" b (putF "class_names" a []))
    have z4 := putF_len "weak_names" d (putF "variable_names" c (putF "field_names" b (putF "class_names" a [])))
    have z5 := putF_len "levels" e (putF "weak_names" d (putF "variable_names" c (putF "field_names" b (putF "class_names" a []))))
    refine ⟨_, rfl, _, rfl, p, C, dx, _, rfl, hp, T.cl, T.n1, by omega, ?_⟩
    refine ⟨_, rfl, _, rfl, p, C, dx, _, rfl, upd_same, T.cl, T.n2, by omega, ?_⟩
    refine ⟨_, rfl, _, rfl, p, C, dx, _, rfl, upd_same, T.cl, T.n3, by omega, ?_⟩
    refine ⟨_, rfl, _, rfl, p, C, dx, _, rfl, upd_same, T.cl, T.n4, by omega, ?_⟩
    refine ⟨_, rfl, _, rfl, p, C, dx, _, rfl, upd_same, T.cl, T.n5, by omega, ?_⟩
    refine ⟨_, rfl, _, rfl, p, C, dx, _, rfl, upd_same, T.cl, T.n6, by omega, ?_⟩
    refine k _ fun b o e hb => ?_
    rw [upd_ne hb, upd_ne hb, upd_ne hb, upd_ne hb, upd_ne hb, upd_ne hb]
    exact e
/-! ### Survey -/
abbrev sSuI : Stmt := inClass (top 15) 0
def suF (a b c e : V) : List (Str × V) := putF "buried" e (putF "depth" c (putF "many" b (putF "place" a [])))
theorem su_place (a b c e : V) : (suF a b c e).lookup ("place" : Str) = some a := by
  unfold suF
  rw [lookup_putF, if_neg (by decide +kernel), lookup_putF, if_neg (by decide +kernel), lookup_putF, if_neg (by decide +kernel), lookup_putF, if_pos rfl]
theorem su_many (a b c e : V) : (suF a b c e).lookup ("many" : Str) = some b := by
  unfold suF
  rw [lookup_putF, if_neg (by decide +kernel), lookup_putF, if_neg (by decide +kernel), lookup_putF, if_pos rfl]
def spSuI (C : Addr) : Sp := fun vs H Q _ => ∃ (p dx : Addr) (a b c e : V), vs = [.ref p, a, b, c, e] ∧ H p = some (.ins C dx []) ∧ ∀ H', H' p = some (.ins C dx (suF a b c e)) → (∀ b o, H b = some o → b ≠ p → H' b = some o) → Q .non H'
structure NoU (K : PySem.W.Frag) (C : Addr) : Prop where
  cl : Cls K C
  n1 : NoAttr K C "place"
  n2 : NoAttr K C "many"
  n3 : NoAttr K C "depth"
  n4 : NoAttr K C "buried"
theorem scSu : FnScope ["self", "place", "many", "depth", "buried"] ["self", "place", "many", "depth", "buried"] (defScope sSuI) := ⟨rfl, rfl, rfl, by decide +kernel, rfl, by decide +kernel, by decide +kernel⟩
theorem okSuI {f C : Addr} {fd : FuncData} (F : Fun K "__init__" "Survey.__init__" sSuI f fd) (T : NoU K C) : FnOk P w K mg base CX0 1 f fd ["self", "place", "many", "depth", "buried"] (spSuI C) := by
  refine F.ok scSu (fun vs H Q E h => ?_) (fun cdv A outer s H vs Q E hr h => ?_)
  · obtain ⟨p, dx, a, b, c, ee, rfl, _⟩ := h
    rfl
  · obtain ⟨p, dx, a, b, c, ee, rfl, hp, k⟩ := h
    refine ⟨_, pss_cons (ps_fld (pv 0) (pv 1) rfl) (pss_cons (ps_fld (pv 0) (pv 2) rfl) (pss_cons (ps_fld (pv 0) (pv 3) rfl) (pss_one (ps_fld (pv 0) (pv 4) rfl)))), ?_⟩
    have z1 := putF_len "place" a []
    have z2 := putF_len "many" b (putF "place" a [])
    have z3 := putF_len "depth" c (putF "many" b (putF "place" a []))
    have z0 : ([] : List (Str × V)).length ≤ 0 := Nat.le_refl _
    refine ⟨_, rfl, _, rfl, p, C, dx, _, rfl, hp, T.cl, T.n1, by omega, ?_⟩
    refine ⟨_, rfl, _, rfl, p, C, dx, _, rfl, upd_same, T.cl, T.n2, by omega, ?_⟩
    refine ⟨_, rfl, _, rfl, p, C, dx, _, rfl, upd_same, T.cl, T.n3, by omega, ?_⟩
    refine ⟨_, rfl, _, rfl, p, C, dx, _, rfl, upd_same, T.cl, T.n4, by omega, ?_⟩
    refine k _ upd_same fun b o e hb => ?_
    rw [upd_ne hb, upd_ne hb, upd_ne hb, upd_ne hb]
    exact e
/-! ### scope_for -/
/-- a list of valid classes stands at a -/
def ClsL (H : Hp) (a : Addr) (xs : List V) : Prop := H a = some (.lst xs) ∧ ∀ x ∈ xs, ∃ (p : Addr) (n : Str) (z b : V) (fl : Addr) (fs : List Str), x = .ref p ∧ H p = some (.tup [.str n, z, .ref fl, b]) ∧ H fl = some (.lst (fs.map V.str)) ∧ fs.length ≤ 3
theorem ClsL.mono {H H' : Hp} {a : Addr} {xs : List V} (c : ClsL H a xs) (s : Same H H') : ClsL H' a xs := ⟨s _ _ c.1, fun x hx => by
  obtain ⟨p, n, z, b, fl, fs, e, h1, h2, h3⟩ := c.2 x hx
  exact ⟨p, n, z, b, fl, fs, e, s _ _ h1, s _ _ h2, h3⟩⟩
def spScopeFor : Sp := fun vs H Q _ => ∃ (nm wk cs : V) (a r : Addr) (xs rs : List V), vs = [nm, .ref a, wk, .ref r, cs] ∧ ClsL H a xs ∧ xs.length ≤ 6 ∧ H r = some (.lst rs) ∧ ∀ p H', Same H H' → Q (.ref p) H'
theorem sc32 : FnScope ["names", "classes", "weak", "radices", "calls", "fields", "item", "name"] ["names", "classes", "weak", "radices", "calls"] (defScope (top 32)) := ⟨rfl, rfl, rfl, by decide +kernel, rfl, by decide +kernel, by decide +kernel⟩
theorem length_putK_le (kvs : List (Key × V)) (k : Key) (v : V) : (putK kvs k v).length ≤ kvs.length + 1 := length_putK kvs k v
theorem ok32 {f C : Addr} {fd : FuncData} (F : Fun K "scope_for" "scope_for" (top 32) f fd) (B : Blt mg) (MS : Mkr P w K mg base CX0 1 "Scope" C ["self", "class_names", "field_names", "variable_names", "weak_names", "levels", "calls"] (spScI C)) :
    FnOk P w K mg base CX0 3 f fd ["names", "classes", "weak", "radices", "calls"] spScopeFor := by
  refine F.ok sc32 (fun vs H Q E h => ?_) (fun cdv A outer s H vs Q E hr h => ?_)
  · obtain ⟨nm, wk, cs, a, r, xs, rs, rfl, _⟩ := h
    rfl
  · obtain ⟨nm, wk, cs, a, r, xs, rs, rfl, hC, hlen, hr', k⟩ := h
    refine ⟨_, pss_cons (ps_setDc2 (i := 5) (own := [("item", 6), ("name", 7)]) (vs1 := [7]) (wi1 := iList K (tOp (rIxT K) (tVar 6) (tC (.int 2)))) (g := gName 6) (g1 := gName 7) rfl sc32.nd rfl rfl (sw_dc rfl rfl rfl (by decide +kernel)) (pi_list (pv 1)) (blkOk_by (N := ["names", "classes", "weak", "radices", "calls", "fields", "item", "name"]) (sc := defScope (top 32)) (by decide +kernel)) (by decide)
        (fun _ _ _ _ _ => pg_name (i := 6) sc32.nd rfl (Or.inl rfl)) (fun _ _ _ _ _ => pi_list (pe_ix ix_tup (pv 6) pe_int (fun _ _ => rfl))) (fun _ _ _ _ _ => pg_name (i := 7) sc32.nd rfl (Or.inl rfl)) (fun _ _ _ _ _ => pv 7) (fun _ _ _ _ _ => pe_bl))
      (pss_one (ps_ret (pe_mkr MS hr (by decide) pass0 (pa_cons (pe_lc (own := [("item", 6)]) (te := tOp (rIxT K) (tVar 6) (tC (.int 0))) (g := gName 6) (tt := tYes) rfl sc32.nd (pi_list (pv 1)) (blkOk_by (N := ["names", "classes", "weak", "radices", "calls", "fields", "item", "name"]) (sc := defScope (top 32)) (by decide +kernel))
          (fun _ _ _ _ _ => pg_name (i := 6) sc32.nd rfl (Or.inl rfl)) (fun _ _ _ _ _ => pts_nil) (fun _ _ _ _ _ => pe_ix ix_tup (pv 6) pe_int (fun _ _ => rfl)))
        (pa_cons (pv 5) (pa_cons (pv 0) (pa_cons (pv 2) (pa_cons (pe_callB call_len_seq rfl B.len PySem.boot_len (pa_cons (pv 3) pa_nil)) (pa_cons (pv 4) pa_nil))))))))), ?_⟩
    refine ⟨_, rfl, a, rfl, ⟨_, SqL.of hC.1⟩, fun D hD => ?_⟩
    refine ⟨fun i m H1 => m + i = xs.length ∧ Same H H1 ∧ ∃ kvs : List (Key × V), H1 D = some (.dK kvs) ∧ kvs.length ≤ 3 * i, ⟨xs.length, rfl, fun b o e => by rw [upd_ne (ne_of_none e hD)]; exact e, [], upd_same, Nat.zero_le _⟩, ?_⟩
    rintro i m H1 ⟨hm, s1, kvs, hD1, hk⟩
    have hL := (hC.mono s1)
    by_cases hlt : i < xs.length
    · have hx : xs[i]? = some xs[i] := List.getElem?_eq_getElem hlt
      refine .inr ⟨⟨xs, xs[i], SqL.of hL.1, hx⟩, fun H2 => Same H H2 ∧ ∃ kvs : List (Key × V), H2 D = some (.dK kvs) ∧ kvs.length ≤ 3 * (i + 1), fun H2 ⟨s2, q⟩ => ⟨xs.length - (i + 1), by omega, by omega, s2, q⟩, fun x H2 y => ?_⟩
      obtain ⟨e, y⟩ := y
      subst e
      have hxx := y xs (SqL.of hL.1)
      obtain ⟨p, n, z, b, fl, fs, rfl, hp, hfl, hfs⟩ := hL.2 x (List.mem_of_getElem? hxx)
      refine ⟨rfl, _, rfl, p, _, 2, .ref fl, rfl, rfl, SqT.of hp, rfl, fl, rfl, ⟨_, SqL.of hfl⟩, ?_⟩
      refine ⟨fun j m H2 => m + j = fs.length ∧ Same H H2 ∧ ∃ kvs : List (Key × V), H2 D = some (.dK kvs) ∧ kvs.length ≤ 3 * i + j, ⟨fs.length, rfl, s1, kvs, hD1, by omega⟩, ?_⟩
      rintro j m2 H2 ⟨hm2, s2, kvs2, hD2, hk2⟩
      have hfl2 : H2 fl = some (.lst (fs.map V.str)) := by
        obtain ⟨p', n', z', b', fl', fs', e1, e2, e3, _⟩ := hC.2 (.ref p) (List.mem_of_getElem? hxx)
        cases e1
        have q1 := s1 _ _ e2
        rw [hp] at q1
        cases q1
        have q2 := s1 _ _ e3
        rw [hfl] at q2
        rw [Option.some.inj q2]
        exact s2 _ _ e3
      by_cases hlt2 : j < (fs.map V.str).length
      · have hy : (fs.map V.str)[j]? = some (fs.map V.str)[j] := List.getElem?_eq_getElem hlt2
        rw [List.length_map] at hlt2
        refine .inr ⟨⟨fs.map V.str, _, SqL.of hfl2, hy⟩, fun H3 => Same H H3 ∧ ∃ kvs : List (Key × V), H3 D = some (.dK kvs) ∧ kvs.length ≤ 3 * i + (j + 1), fun H3 ⟨s3, q⟩ => ⟨fs.length - (j + 1), by omega, by omega, s3, q⟩, fun y H3 yy => ?_⟩
        obtain ⟨e, yy⟩ := yy
        subst e
        have hyy := yy _ (SqL.of hfl2)
        rw [List.getElem?_map] at hyy
        obtain ⟨t, ht, rfl⟩ := Option.map_eq_some_iff.mp hyy
        refine ⟨rfl, _, rfl, kvs2, Sum.inr t, rfl, hD2, by rw [sizeLine_eq]; omega, fun b o e => ?_, _, upd_same, ?_⟩
        · rw [upd_ne (ne_of_none e hD)]
          exact s2 b o e
        · have := length_putK_le kvs2 (Sum.inr t) (.bl true)
          omega
      · rw [List.length_map] at hlt2
        refine .inl ⟨⟨fs.map V.str, SqL.of hfl2, by rw [List.length_map]; omega⟩, s2, kvs2, hD2, by omega⟩
    · have e : i = xs.length := by omega
      subst e
      refine .inl ⟨⟨xs, SqL.of hL.1, Nat.le_refl _⟩, ?_⟩
      refine ⟨_, rfl, a, rfl, ⟨_, SqL.of hL.1⟩, fun L hLn => ?_⟩
      refine lc_list (xs := xs) (fun i H2 => Same H H2 ∧ ∃ acc, H2 L = some (.lst acc) ∧ acc.length ≤ i) ⟨same_new s1 hLn, [], upd_same, Nat.le_refl _⟩ (fun i H2 _ ⟨s2, _⟩ => SqL.of (s2 _ _ hC.1)) ?_ ?_
      · rintro j x H2 hx ⟨s2, acc, hacc, hal⟩
        obtain ⟨p, n, z, b, fl, fs, rfl, hp, hfl, hfs⟩ := (hC.mono s2).2 x (List.mem_of_getElem? hx)
        refine ⟨rfl, ?_⟩
        unfold tYes
        dsimp only
        rw [if_pos rfl]
        refine ⟨_, rfl, p, _, 0, .str n, rfl, rfl, SqT.of hp, rfl, acc, hacc, ?_, fun c o e => ?_, _, upd_same, ?_⟩
        · have := (List.getElem?_eq_some_iff.mp hx).1
          rw [sizeLine_eq]
          omega
        · rw [upd_ne (ne_of_none (s1 _ _ e) hLn)]
          exact s2 c o e
        · rw [List.length_append]
          show acc.length + 1 ≤ j + 1
          omega
      · rintro H2 ⟨s2, acc, hacc, hal⟩
        refine ⟨_, rfl, _, rfl, _, rfl, _, rfl, r, rs, rfl, .inl (SqL.of (s2 _ _ hr')), _, rfl, fun x dx nx ndx nex => ?_⟩
        refine ⟨x, dx, _, _, _, _, _, _, rfl, upd_same, fun H3 kp => ⟨rfl, k x H3 (s2.trans (made_same nx ndx kp))⟩⟩
end
end K1

set_option Elab.async false
set_option linter.all false
set_option maxRecDepth 100000
set_option maxHeartbeats 4000000
namespace K1
open PySem L2
section
variable {P : Program} {w : World} {K : PySem.W.Frag} {mg : Str → Option Value} {base : Heap} {C CU : Addr}
theorem ans_isL {H : Hp} {b : Addr} {xs : List V} (e : H b = some (.lst xs)) : Ans K H (.ref b) "list" true := ⟨"list", .base (.lst e), by decide +kernel⟩
/-! ### survey of an empty body -/
def spSurvey (CU : Addr) : Sp := fun vs H Q _ => ∃ (b : Addr) (sc : V), vs = [.ref b, sc] ∧ H b = some (.lst []) ∧ ∀ p dx H', Same H H' → H' p = some (.ins CU dx (suF .non (.int 0) (.int 0) (.bl false))) → Q (.ref p) H'
theorem sc21 : FnScope ["body", "scope", "many", "depth", "buried", "ways", "block", "ahead", "nested", "repeats", "index", "statement", "place", "inner", "part", "start"] ["body", "scope"] (defScope (top 21)) := ⟨rfl, rfl, rfl, by decide +kernel, rfl, by decide +kernel, by decide +kernel⟩
theorem ok21 {f : Addr} {fd : FuncData} {tD : Tok} (F : Fun K "survey" "survey" (top 21) f fd) (B : Blt mg) (hD : mg "DEEPEST_BLOCK" = some (.int 60 tD)) (MU : Mkr P w K mg base CX0 1 "Survey" CU ["self", "place", "many", "depth", "buried"] (spSuI CU)) :
    FnOk P w K mg base CX0 3 f fd ["body", "scope"] (spSurvey CU) := by
  refine F.ok sc21 (fun vs H Q E h => ?_) (fun cdv A outer s H vs Q E hr h => ?_)
  · obtain ⟨b, sc, rfl, _⟩ := h
    rfl
  · obtain ⟨b, sc, rfl, hb, k⟩ := h
    refine ⟨_, pss_cons (ps_set (i := 2) sc21.nd rfl (Or.inl rfl) pe_int) (pss_cons (ps_set (i := 3) sc21.nd rfl (Or.inl rfl) pe_int)
      (pss_cons (ps_set (i := 4) sc21.nd rfl (Or.inl rfl) pe_bl) (pss_cons (ps_set (i := 5) sc21.nd rfl (Or.inl rfl) (pe_lst (pa_cons (pe_tup (pa_cons (pv 0) (pa_cons (pe_tup pa_nil) (pa_cons pe_int (pa_cons pe_int (pa_cons pe_int pa_nil)))))) pa_nil)))
      (pss_cons (ps_while PassesOwn.never (pt_truth (pv 5) (by intro _; rfl))
        (pss_cons (ps_asg (pe_bm0 PySem.F.plainAttrs_list PySem.F.slot_list_pop PySem.F.type_list_pop mt_pop (pv 5)) (pg_tup rfl (pgs_cons (pg_name (i := 6) sc21.nd rfl (Or.inl rfl)) (pgs_cons (pg_name (i := 7) sc21.nd rfl (Or.inl rfl)) (pgs_cons (pg_name (i := 8) sc21.nd rfl (Or.inl rfl)) (pgs_cons (pg_name (i := 9) sc21.nd rfl (Or.inl rfl)) (pgs_cons (pg_name (i := 10) sc21.nd rfl (Or.inl rfl)) pgs_nil)))))))
        (pss_cons (ps_if (pt_cmpR op_gt (pv 8) (pe_glob (v := .int 60) rfl hD ⟨_, rfl⟩) (nomark _)) pss_never pss_nil)
        (pss_cons (ps_if (pt_not (pt_val (pt_isi B (pv 6) B.list PyProof.Rows.boot_list))) pss_never pss_nil)
        (pss_cons (ps_if (pt_cmpR op_eq (pv 10) (pe_callB call_len_seq rfl B.len PySem.boot_len (pa_cons (pv 6) pa_nil)) (nomark _)) (pss_one ps_continue) pss_nil) pss_never)))))
      (pss_one (ps_ret (pe_mkr MU hr (by decide) pass0 (pa_cons pe_non (pa_cons (pv 2) (pa_cons (pv 3) (pa_cons (pv 4) pa_nil))))))))))), ?_⟩
    refine ⟨_, rfl, by decide, fun e he => ?_⟩
    refine ⟨(by show 5 ≤ sizeLine; decide), fun t ht => ?_⟩
    refine ⟨(by show 1 ≤ sizeLine; decide), fun l hl => ?_⟩
    have s0 : Same H (upd H e (.tup [])) := same_new (Same.refl _) he
    have s1 := same_new (o := .tup [.ref b, .ref e, .int 0, .int 0, .int 0]) s0 ht
    have s2 := same_new (o := .lst [.ref t]) s1 hl
    have hl0 : H l = none := s1.free hl
    refine ⟨fun m σ H1 => ∃ (v5 v6 v7 v8 v9 v10 v11 v12 v13 v14 : Option V), σ = [some (.ref b), some sc, some (.int 0), some (.int 0), some (.bl false), some (.ref l), v5, v6, v7, v8, v9, v10, v11, v12, v13, v14] ∧ Same H H1 ∧
        ((m = 1 ∧ H1 l = some (.lst [.ref t]) ∧ H1 t = some (.tup [.ref b, .ref e, .int 0, .int 0, .int 0])) ∨ (m = 0 ∧ H1 l = some (.lst []))),
      ⟨1, none, none, none, none, none, none, none, none, none, none, rfl, s2, .inl ⟨rfl, upd_same, by rw [upd_ne (ne_of_none upd_same hl), upd_same]⟩⟩, ?_⟩
    rintro m σ H1 ⟨v5, v6, v7, v8, v9, v10, v11, v12, v13, v14, rfl, s3, h3⟩
    rcases h3 with ⟨rfl, hl1, ht1⟩ | ⟨rfl, hl1⟩
    · refine ⟨_, rfl, true, .inl ⟨_, SqL.of hl1, rfl⟩, ?_⟩
      refine iteT ?_
      refine ⟨fun σ' H' => ∃ (v5 v6 v7 v8 v9 v10 v11 v12 v13 v14 : Option V), σ' = [some (.ref b), some sc, some (.int 0), some (.int 0), some (.bl false), some (.ref l), v5, v6, v7, v8, v9, v10, v11, v12, v13, v14] ∧ Same H H' ∧ H' l = some (.lst []),
        fun σ' H' ⟨w5, w6, w7, w8, w9, w10, w11, w12, w13, w14, e1, e2, e3⟩ => ⟨0, by decide, w5, w6, w7, w8, w9, w10, w11, w12, w13, w14, e1, e2, .inr ⟨rfl, e3⟩⟩, ?_⟩
      have s4 : Same H (upd H1 l (.lst [])) := fun c o z => by
        rw [upd_ne (ne_of_none z hl0)]
        exact s3 c o z
      have ntl : t ≠ l := fun z => by
        rw [z, hl1] at ht1
        cases ht1
      refine ⟨_, rfl, .inl ⟨rfl, _, SqL.of hl1⟩, l, [.ref t], .ref t, rfl, rfl, hl1, rfl, ?_⟩
      refine ⟨t, _, rfl, SqT.of (by rw [upd_ne ntl]; exact ht1), rfl, .ref b, _, rfl, .ref e, _, rfl, .int 0, _, rfl, .int 0, _, rfl, .int 0, _, rfl, rfl, ?_⟩
      refine ⟨_, rfl, _, _, rfl, rfl, _, rfl, ?_⟩
      refine iteF ?_
      have hb4 : (upd H1 l (.lst [])) b = some (.lst []) := s4 _ _ hb
      refine isi_rd rfl (ans_isL hb4) ⟨_, rfl, ?_⟩
      refine iteF ?_
      refine ⟨_, rfl, _, rfl, b, [], rfl, .inl (SqL.of hb4), rfl, _, rfl, ?_⟩
      refine iteT ?_
      exact ⟨_, _, _, _, _, _, _, _, _, _, rfl, s4, upd_same⟩
    · refine ⟨_, rfl, false, .inl ⟨_, SqL.of hl1, rfl⟩, ?_⟩
      refine iteF ?_
      refine ⟨_, rfl, _, rfl, _, rfl, fun x dx nx ndx nex => ?_⟩
      exact ⟨x, dx, _, _, _, _, rfl, upd_same, fun H3 h3 kp => ⟨rfl, k x dx H3 (s3.trans (made_same nx ndx kp)) h3⟩⟩
end
end K1

set_option Elab.async false
set_option linter.all false
set_option maxRecDepth 100000
set_option maxHeartbeats 4000000
namespace K1
open PySem L2
/-- a class of a program, as data -/
structure Row where
  n : Str
  z : Int
  fs : List Str
  b : Bool
/-- it stands as a tuple whose objects are new since H0 -/
def RowAt (H0 H : Hp) (x : V) (r : Row) : Prop := ∃ (p fl : Addr), x = .ref p ∧ H0 p = none ∧ H0 fl = none ∧ H p = some (.tup [.str r.n, .int r.z, .ref fl, .bl r.b]) ∧ H fl = some (.lst (r.fs.map V.str))
/-- the list of classes -/
def ClsN (H0 H : Hp) (a : Addr) (rows : List Row) : Prop := H0 a = none ∧ ∃ xs, H a = some (.lst xs) ∧ Paired (RowAt H0 H) xs rows
/-- list(xs), by values -/
def rLof (K : PySem.W.Frag) : List V → Hp → VK → Prop := fun xs H Q => ∃ p ys, xs = [.ref p] ∧ (SqL K H p ys ∨ SqT K H p ys) ∧ ∀ l, H l = none → Q (.ref l) (upd H l (.lst ys))
def nul : Hp := fun _ => none
theorem RowAt.mono {H0 H H' : Hp} {x : V} {r : Row} (h : RowAt H0 H x r) (s : Same H H') : RowAt H0 H' x r := by
  obtain ⟨p, fl, e, f1, f2, h1, h2⟩ := h
  exact ⟨p, fl, e, f1, f2, s _ _ h1, s _ _ h2⟩
theorem ClsN.mono {H0 H H' : Hp} {a : Addr} {rows : List Row} (h : ClsN H0 H a rows) (s : Same H H') : ClsN H0 H' a rows := by
  obtain ⟨f0, xs, e, p⟩ := h
  exact ⟨f0, xs, s _ _ e, p.mono fun _ _ z => z.mono s⟩
theorem paired_at {α β : Type} {F : α → β → Prop} : ∀ {l : List α} {m : List β} {i : Nat} {x : α}, Paired F l m → l[i]? = some x → ∃ y, m[i]? = some y ∧ F x y
  | _, _, _, _, .nil, h => by simp at h
  | _, _, 0, x, .cons (b := b) f _, h => by
    have e := Option.some.inj h
    subst e
    exact ⟨b, rfl, f⟩
  | _, _, i + 1, x, .cons _ r, h => by
    have h' : _ := h
    rw [List.getElem?_cons_succ] at h'
    obtain ⟨y, h1, h2⟩ := paired_at r h'
    exact ⟨y, by rw [List.getElem?_cons_succ]; exact h1, h2⟩
theorem take_snoc {α : Type} {l : List α} {i : Nat} {x : α} (h : l[i]? = some x) : l.take (i + 1) = l.take i ++ [x] := start_drop l i x h
theorem ClsN.toL {H0 H : Hp} {a : Addr} {rows : List Row} (h : ClsN H0 H a rows) (h3 : ∀ r ∈ rows, r.fs.length ≤ 3) : ∃ xs, ClsL H a xs ∧ xs.length = rows.length := by
  obtain ⟨f0, xs, e, p⟩ := h
  refine ⟨xs, ⟨e, fun x hx => ?_⟩, p.length⟩
  obtain ⟨i, hi⟩ := List.getElem?_of_mem hx
  obtain ⟨r, hr, q, fl, rfl, _, _, h1, h2⟩ := paired_at p hi
  exact ⟨q, r.n, .int r.z, .bl r.b, fl, r.fs, rfl, h1, h2, h3 r (List.mem_of_getElem? hr)⟩
section
variable {P : Program} {w : World} {K : PySem.W.Frag} {mg : Str → Option Value} {base : Heap} {C CU : Addr}
/-! ### check_body of an empty body -/
def spCheckBody (CU : Addr) : Sp := fun vs H Q _ => ∃ (b : Addr) (sc : V), vs = [.ref b, sc, .int 0] ∧ H b = some (.lst []) ∧ ∀ H', Same H H' → Q .non H'
theorem sc34 : FnScope ["body", "scope", "many", "seen"] ["body", "scope", "many"] (defScope (top 34)) := ⟨rfl, rfl, rfl, by decide +kernel, rfl, by decide +kernel, by decide +kernel⟩
theorem ok34 {f : Addr} {fd : FuncData} {tD : Tok} (F : Fun K "check_body" "check_body" (top 34) f fd) (B : Blt mg) (hD : mg "MOST_STATEMENTS" = some (.int 60 tD)) (U : NoU K CU) (C21 : Cal P w K mg base CX0 3 "survey" ["body", "scope"] (spSurvey CU)) :
    FnOk P w K mg base CX0 4 f fd ["body", "scope", "many"] (spCheckBody CU) := by
  refine F.ok sc34 (fun vs H Q E h => ?_) (fun cdv A outer s H vs Q E hr h => ?_)
  · obtain ⟨b, sc, rfl, _⟩ := h
    rfl
  · obtain ⟨b, sc, rfl, hb, k⟩ := h
    refine ⟨_, pss_cons (ps_set (i := 3) sc34.nd rfl (Or.inl rfl) (pe_cal C21 hr (by decide) pass0 (pa_cons (pv 0) (pa_cons (pv 1) pa_nil))))
      (pss_cons (ps_if (pt_cmpR op_notN (pe_fld (pv 3) rfl) pe_non (nomark _)) pss_never pss_nil)
      (pss_one (ps_if (pt_cmpR op_gt (pe_op op_add (pv 2) (pe_fld (pv 3) rfl)) (pe_glob (v := .int 60) rfl hD ⟨_, rfl⟩) (nomark _)) pss_never pss_nil))), ?_⟩
    refine ⟨_, rfl, _, rfl, b, sc, rfl, hb, fun p dx H1 s1 hp => ?_⟩
    refine ⟨_, rfl, p, CU, dx, _, _, rfl, hp, U.cl, U.n1, su_place _ _ _ _, rfl, _, rfl, ?_⟩
    refine iteF ?_
    refine ⟨_, rfl, _, rfl, p, CU, dx, _, _, rfl, hp, U.cl, U.n2, su_many _ _ _ _, _, _, rfl, rfl, _, _, rfl, rfl, _, rfl, ?_⟩
    refine iteF ?_
    exact k _ s1
/-! ### check_functions of an empty list -/
def spCheckFns : Sp := fun vs H Q _ => ∃ (f : Addr) (a b c : V), vs = [.ref f, a, b, c] ∧ H f = some (.lst []) ∧ ∀ t d H', Same H H' → H' t = some (.tup [.ref d, .int 0]) → Q (.ref t) H'
theorem sc33 : FnScope ["functions", "classes", "weak", "radices", "calls", "many", "index", "item", "name", "parameters", "inner", "body", "result", "seen"] ["functions", "classes", "weak", "radices"] (defScope (top 33)) := ⟨rfl, rfl, rfl, by decide +kernel, rfl, by decide +kernel, by decide +kernel⟩
theorem ok33 {f : Addr} {fd : FuncData} (F : Fun K "check_functions" "check_functions" (top 33) f fd) (B : Blt mg) : FnOk P w K mg base CX0 1 f fd ["functions", "classes", "weak", "radices"] spCheckFns := by
  refine F.ok sc33 (fun vs H Q E h => ?_) (fun cdv A outer s H vs Q E hr h => ?_)
  · obtain ⟨f, a, b, c, rfl, _⟩ := h
    rfl
  · obtain ⟨fa, a, b, c, rfl, hf, k⟩ := h
    refine ⟨_, pss_cons (ps_if (PW.pt (pw_or (pt_not (pt_val (pt_isi B (pv 0) B.list PyProof.Rows.boot_list))) (pw_or1 (pt_cmpR op_gt (pe_callB call_len_seq rfl B.len PySem.boot_len (pa_cons (pv 0) pa_nil)) pe_int (nomark _))))) pss_never pss_nil)
      (pss_cons (ps_set (i := 4) sc33.nd rfl (Or.inl rfl) pe_dnewK)
      (pss_cons (ps_set (i := 5) sc33.nd rfl (Or.inl rfl) pe_int)
      (pss_cons (ps_for PassesOwn.never rfl (pi_enum rfl B.enumerate (pa_cons (pv 0) pa_nil)) (pg_tup rfl (pgs_cons (pg_name (i := 6) sc33.nd rfl (Or.inl rfl)) (pgs_cons (pg_name (i := 7) sc33.nd rfl (Or.inl rfl)) pgs_nil))) pss_never)
      (pss_one (ps_ret (pe_tup (pa_cons (pv 4) (pa_cons (pv 5) pa_nil)))))))), ?_⟩
    refine isi_rd rfl (ans_isL hf) ⟨_, rfl, ?_⟩
    refine iteF ?_
    refine ⟨_, rfl, fa, [], rfl, .inl (SqL.of hf), _, _, rfl, rfl, _, rfl, ?_⟩
    refine iteF ?_
    intro D hD
    refine ⟨_, rfl, fa, [], rfl, SqL.of (by rw [upd_ne (ne_of_none hf hD)]; exact hf), ?_⟩
    refine for_enum (fun i σ H1 => σ = [some (.ref fa), some a, some b, some c, some (.ref D), some (.int 0), none, none, none, none, none, none, none, none] ∧ Same H H1)
      ⟨rfl, same_new (Same.refl _) hD⟩ (fun i σ H1 _ ⟨_, s1⟩ => SqL.of (s1 _ _ hf)) (fun i x σ H1 T hx => by simp at hx) ?_
    rintro σ H1 ⟨rfl, s1⟩
    refine ⟨_, rfl, _, rfl, (by show 2 ≤ sizeLine; decide), fun t ht => ?_⟩
    exact k t D _ (same_new s1 ht) upd_same
/-! ### copies -/
def spCopyNil : Sp := fun vs H Q _ => ∃ (b : Addr), vs = [.ref b] ∧ H b = some (.lst []) ∧ ∀ p H', Same H H' → H p = none → H' p = some (.lst []) → Q (.ref p) H'
theorem sc22 : FnScope ["block", "rows", "statement", "words", "word"] ["block"] (defScope (top 22)) := ⟨rfl, rfl, rfl, by decide +kernel, rfl, by decide +kernel, by decide +kernel⟩
theorem ok22 {f : Addr} {fd : FuncData} (F : Fun K "copied_block" "copied_block" (top 22) f fd) : FnOk P w K mg base CX0 1 f fd ["block"] spCopyNil := by
  refine F.ok sc22 (fun vs H Q E h => ?_) (fun cdv A outer s H vs Q E hr h => ?_)
  · obtain ⟨b, rfl, _⟩ := h
    rfl
  · obtain ⟨b, rfl, hb, k⟩ := h
    refine ⟨_, pss_cons (ps_set (i := 1) sc22.nd rfl (Or.inl rfl) (pe_lst pa_nil)) (pss_cons (ps_for PassesOwn.never rfl (pi_list (pv 0)) (pg_name (i := 2) sc22.nd rfl (Or.inl rfl)) pss_never) (pss_one (ps_ret (pv 1)))), ?_⟩
    refine ⟨by decide, fun l hl => ?_⟩
    have s1 : Same H (upd H l (.lst [])) := same_new (Same.refl _) hl
    refine ⟨_, rfl, b, rfl, ⟨_, SqL.of (s1 _ _ hb)⟩, for_list (xs := []) (fun i σ H1 => σ = [some (.ref b), some (.ref l), none, none, none] ∧ Same H H1 ∧ H1 l = some (.lst [])) ⟨rfl, s1, upd_same⟩ (fun i σ H1 _ ⟨_, s2, _⟩ => SqL.of (s2 _ _ hb)) (fun i x σ H1 hx => by simp at hx) ?_⟩
    rintro σ H1 ⟨rfl, s2, e⟩
    exact ⟨_, rfl, k l H1 s2 hl e⟩
theorem sc36 : FnScope ["functions", "rows", "name", "parameters", "inner", "body", "result"] ["functions"] (defScope (top 36)) := ⟨rfl, rfl, rfl, by decide +kernel, rfl, by decide +kernel, by decide +kernel⟩
theorem ok36 {f : Addr} {fd : FuncData} (F : Fun K "copied_functions" "copied_functions" (top 36) f fd) : FnOk P w K mg base CX0 1 f fd ["functions"] spCopyNil := by
  refine F.ok sc36 (fun vs H Q E h => ?_) (fun cdv A outer s H vs Q E hr h => ?_)
  · obtain ⟨b, rfl, _⟩ := h
    rfl
  · obtain ⟨b, rfl, hb, k⟩ := h
    refine ⟨_, pss_cons (ps_set (i := 1) sc36.nd rfl (Or.inl rfl) (pe_lst pa_nil)) (pss_cons (ps_for PassesOwn.never rfl (pi_list (pv 0)) (pg_tup rfl (pgs_cons (pg_name (i := 2) sc36.nd rfl (Or.inl rfl)) (pgs_cons (pg_name (i := 3) sc36.nd rfl (Or.inl rfl)) (pgs_cons (pg_name (i := 4) sc36.nd rfl (Or.inl rfl)) (pgs_cons (pg_name (i := 5) sc36.nd rfl (Or.inl rfl)) (pgs_cons (pg_name (i := 6) sc36.nd rfl (Or.inl rfl)) pgs_nil)))))) pss_never) (pss_one (ps_ret (pv 1)))), ?_⟩
    refine ⟨by decide, fun l hl => ?_⟩
    have s1 : Same H (upd H l (.lst [])) := same_new (Same.refl _) hl
    refine ⟨_, rfl, b, rfl, ⟨_, SqL.of (s1 _ _ hb)⟩, for_list (xs := []) (fun i σ H1 => σ = [some (.ref b), some (.ref l), none, none, none, none, none] ∧ Same H H1 ∧ H1 l = some (.lst [])) ⟨rfl, s1, upd_same⟩ (fun i σ H1 _ ⟨_, s2, _⟩ => SqL.of (s2 _ _ hb)) (fun i x σ H1 hx => by simp at hx) ?_⟩
    rintro σ H1 ⟨rfl, s2, e⟩
    exact ⟨_, rfl, k l H1 s2 hl e⟩
def spCopyCls : Sp := fun vs H Q _ => ∃ (a : Addr) (H0 : Hp) (rows : List Row), vs = [.ref a] ∧ ClsN H0 H a rows ∧ rows.length ≤ 6 ∧ (∀ r ∈ rows, r.fs.length ≤ 3) ∧ ∀ q H', Same H H' → ClsN H H' q rows → Q (.ref q) H'
theorem sc35 : FnScope ["classes", "name", "size", "fields", "final"] ["classes"] (defScope (top 35)) := ⟨rfl, rfl, rfl, by decide +kernel, rfl, by decide +kernel, by decide +kernel⟩
theorem ok35 {f : Addr} {fd : FuncData} (F : Fun K "copied_classes" "copied_classes" (top 35) f fd) (B : Blt mg) : FnOk P w K mg base CX0 1 f fd ["classes"] spCopyCls := by
  refine F.ok sc35 (fun vs H Q E h => ?_) (fun cdv A outer s H vs Q E hr h => ?_)
  · obtain ⟨a, H0, rows, rfl, _⟩ := h
    rfl
  · obtain ⟨a, H0, rows, rfl, hC, hlen, h3, k⟩ := h
    refine ⟨_, pss_one (ps_ret (pe_lc (own := [("name", 1), ("size", 2), ("fields", 3), ("final", 4)]) (tt := tYes) (g := gTup K 4 (gCons (gName 1) (gCons (gName 2) (gCons (gName 3) (gCons (gName 4) gNil))))) rfl sc35.nd (pi_list (pv 0)) (blkOk_by (N := ["classes", "name", "size", "fields", "final"]) (sc := defScope (top 35)) (by decide +kernel))
      (fun _ _ _ _ _ => pg_tup rfl (pgs_cons (pg_name (i := 1) sc35.nd rfl (Or.inl rfl)) (pgs_cons (pg_name (i := 2) sc35.nd rfl (Or.inl rfl)) (pgs_cons (pg_name (i := 3) sc35.nd rfl (Or.inl rfl)) (pgs_cons (pg_name (i := 4) sc35.nd rfl (Or.inl rfl)) pgs_nil))))) (fun _ _ _ _ _ => pts_nil)
      (fun _ _ _ _ _ => pe_tup (pa_cons (pv 1) (pa_cons (pv 2) (pa_cons (pe_callTy (r := rLof K) call_list_of rfl B.list PyProof.Rows.boot_list (pa_cons (pv 3) pa_nil)) (pa_cons (pv 4) pa_nil))))))), ?_⟩
    obtain ⟨f0, xs, ea, pr⟩ := hC
    refine ⟨_, rfl, a, rfl, ⟨_, SqL.of ea⟩, fun L hL => ?_⟩
    have hxs : xs.length ≤ 6 := by rw [pr.length]; exact hlen
    refine lc_list (xs := xs) (fun i H1 => Same H H1 ∧ ∃ acc, H1 L = some (.lst acc) ∧ acc.length ≤ i ∧ Paired (RowAt (upd H L (.lst [])) H1) acc (rows.take i)) ⟨same_new (Same.refl _) hL, [], upd_same, Nat.le_refl _, .nil⟩ (fun i H1 _ ⟨s1, _⟩ => SqL.of (s1 _ _ ea)) ?_ ?_
    · rintro i x H1 hx ⟨s1, acc, hacc, hal, hpa⟩
      obtain ⟨r, hrr, p, fl, rfl, g1, g2, hp, hfl⟩ := paired_at pr hx
      have hi : i < xs.length := (List.getElem?_eq_some_iff.mp hx).1
      refine ⟨p, _, rfl, SqT.of (s1 _ _ hp), rfl, _, _, rfl, _, _, rfl, _, _, rfl, _, _, rfl, rfl, rfl, ?_⟩
      unfold tYes
      dsimp only
      rw [if_pos rfl]
      refine ⟨_, rfl, _, rfl, _, rfl, fl, _, rfl, .inl (SqL.of (s1 _ _ hfl)), fun l hl => ?_⟩
      refine ⟨_, rfl, (by show 4 ≤ sizeLine; decide), fun t ht => ?_⟩
      have s2 : Same H1 (upd H1 l (.lst (r.fs.map V.str))) := same_new (Same.refl _) hl
      have s3 := same_new (o := .tup [.str r.n, .int r.z, .ref l, .bl r.b]) s2 ht
      have ntl : l ≠ t := ne_of_none upd_same ht
      refine ⟨acc, s3 _ _ hacc, by rw [sizeLine_eq]; omega, fun c o e => ?_, _, upd_same, by rw [List.length_append]; show acc.length + 1 ≤ i + 1; omega, ?_⟩
      · rw [upd_ne (ne_of_none e hL)]
        exact s3 _ _ (s1 _ _ e)
      · rw [take_snoc hrr]
        have kept : ∀ {y : V} {r' : Row}, RowAt (upd H L (.lst [])) H1 y r' → RowAt (upd H L (.lst [])) (upd (upd (upd H1 l (.lst (r.fs.map V.str))) t (.tup [.str r.n, .int r.z, .ref l, .bl r.b])) L (.lst (acc ++ [.ref t]))) y r' := fun {y r'} z => by
          obtain ⟨p', fl', e, z1, z2, z3, z4⟩ := z
          refine ⟨p', fl', e, z1, z2, ?_, ?_⟩
          · rw [upd_ne (ne_of z3 hacc (by intro q; cases q))]
            exact s3 _ _ z3
          · rw [upd_ne (ne_of_none (o := .lst []) upd_same z2).symm]
            exact s3 _ _ z4
        refine (hpa.mono fun _ _ z => kept z).snoc ⟨t, l, rfl, ?_, ?_, ?_, ?_⟩
        · have q : H1 t = none := s2.free ht
          rw [upd_ne (ne_of_none hacc q).symm]
          exact s1.free q
        · rw [upd_ne (ne_of_none hacc hl).symm]
          exact s1.free hl
        · rw [upd_ne (ne_of upd_same (s3 _ _ hacc) (by intro q; cases q)), upd_same]
        · rw [upd_ne (ne_of_none hacc hl).symm, upd_ne ntl, upd_same]
    · rintro H1 ⟨s1, acc, hacc, hal, hpa⟩
      rw [pr.length, List.take_of_length_le (Nat.le_refl _)] at hpa
      refine k L H1 s1 ⟨hL, acc, hacc, hpa.mono fun x r z => ?_⟩
      obtain ⟨p, fl, e, z1, z2, z3, z4⟩ := z
      have off : ∀ {b : Addr}, (upd H L (.lst [])) b = none → H b = none := fun {b} q => by
        by_cases hb : b = L
        · rw [hb]
          exact hL
        · rw [upd_ne hb] at q
          exact q
      exact ⟨p, fl, e, off z1, off z2, z3, z4⟩
end
end K1

set_option Elab.async false
set_option linter.all false
set_option maxRecDepth 100000
set_option maxHeartbeats 4000000
namespace K1
open PySem L2
/-! ### what the checks' silence says -/
theorem badFrom_none {bar : List Str} : ∀ {xs : List V} {seen : List Str} {i : Nat}, badFrom bar xs seen i = none → ∃ ss : List Str, xs = ss.map V.str ∧ ∀ s ∈ ss, nameS s = true
  | [], _, _, _ => ⟨[], rfl, fun _ h => by cases h⟩
  | v :: r, seen, i, h => by
    cases hn : nameV v with
    | false =>
      rw [badFrom_no hn] at h
      cases h
    | true =>
      obtain ⟨s, rfl, hz⟩ := nameV_is hn
      rw [badFrom_str] at h
      by_cases c : (nameS s && !seen.contains s && !bar.contains s) = true
      · rw [if_pos c] at h
        obtain ⟨ss, rfl, ok⟩ := badFrom_none h
        refine ⟨s :: ss, rfl, fun z hz' => ?_⟩
        rcases List.mem_cons.mp hz' with rfl | hz'
        · exact hz
        · exact ok z hz' 
      · rw [if_neg c] at h
        cases h
theorem firstBad_none {H : Hp} {v : V} {most : Int} {bar : List Str} (h : firstBad H v most bar = .non) : ∃ (a : Addr) (ss : List Str), v = .ref a ∧ H a = some (.lst (ss.map V.str)) ∧ (ss.length : Int) ≤ most ∧ ∀ s ∈ ss, nameS s = true := by
  unfold firstBad at h
  cases hl : lstOf H v with
  | none => rw [hl] at h; cases h
  | some xs =>
    rw [hl] at h
    obtain ⟨a, rfl, ha⟩ := lstOf_some hl
    have h' : (if (most : Int) < (xs.length : Int) then V.int (-1) else optV (badFrom bar xs [] 0)) = .non := h
    by_cases c : (most : Int) < (xs.length : Int)
    · rw [if_pos c] at h'
      cases h'
    · rw [if_neg c] at h'
      have h := h'
      cases hb : badFrom bar xs [] 0 with
      | some i => rw [hb] at h; cases h
      | none =>
        obtain ⟨ss, rfl, ok⟩ := badFrom_none hb
        refine ⟨a, ss, rfl, ha, ?_, ok⟩
        rw [List.length_map] at c
        omega
theorem names_ok {H : Hp} {v : V} {lo hi : Int} {bar : List Str} (h : namesAt H v lo hi bar = .non) : ∃ (a : Addr) (ss : List Str), v = .ref a ∧ H a = some (.lst (ss.map V.str)) ∧ lo ≤ (ss.length : Int) ∧ (ss.length : Int) ≤ hi ∧ firstBad H v hi bar = .non ∧ ∀ s ∈ ss, nameS s = true := by
  unfold namesAt at h
  rcases firstBad_kind (H := H) (v := v) (most := hi) (bar := bar) with ⟨e, xs, hl⟩ | ⟨i, e⟩
  · obtain ⟨a, ss, rfl, ha, hle, ok⟩ := firstBad_none e
    refine ⟨a, ss, rfl, ha, ?_, hle, e, ok⟩
    rw [e, lstOf_of ha] at h
    have h' : (if (((ss.map V.str).length : Nat) : Int) < lo then V.int (-1) else V.non) = V.non := h
    by_cases c : (((ss.map V.str).length : Nat) : Int) < lo
    · rw [if_pos c] at h'
      cases h'
    · rw [List.length_map] at c
      omega
  · rw [e] at h
    cases h
theorem whole_ok {v : V} {lo hi : Int} (h : wholeV v lo hi = true) : ∃ i, v = .int i ∧ lo ≤ i ∧ i ≤ hi := by
  cases v with
  | int i =>
    have h' : (decide (lo ≤ i) && decide (i ≤ hi)) = true := h
    rw [Bool.and_eq_true] at h'
    exact ⟨i, rfl, of_decide_eq_true h'.1, of_decide_eq_true h'.2⟩
  | _ => cases h
theorem radFrom_none : ∀ {xs : List V} {tot : Int} {i : Nat}, radFrom xs tot i = none → ∃ ks : List Int, xs = ks.map V.int
  | [], _, _, _ => ⟨[], rfl⟩
  | v :: r, tot, i, h => by
    by_cases c : intV v = true
    · obtain ⟨k, rfl⟩ := intV_is c
      rw [radFrom_int] at h
      by_cases d : (decide (k < 2) || decide ((12 : Int) < tot * k)) = true
      · rw [if_pos d] at h
        cases h
      · rw [if_neg d] at h
        obtain ⟨ks, rfl⟩ := radFrom_none h
        exact ⟨k :: ks, rfl⟩
    · rw [radFrom_no c] at h
      cases h
theorem rad_ok {H : Hp} {v : V} {th : Int} (h : radicesAt H v th = .non) : ∃ (a : Addr) (ks : List Int), v = .ref a ∧ H a = some (.lst (ks.map V.int)) := by
  unfold radicesAt at h
  cases hl : lstOf H v with
  | none => rw [hl] at h; cases h
  | some xs =>
    rw [hl] at h
    obtain ⟨a, rfl, ha⟩ := lstOf_some hl
    have h' : optV (radFrom xs th 0) = .non := h
    cases hb : radFrom xs th 0 with
    | some i => rw [hb] at h'; cases h'
    | none =>
      obtain ⟨ks, rfl⟩ := radFrom_none hb
      exact ⟨a, ks, rfl, ha⟩
theorem clsFrom_none {H : Hp} : ∀ {xs : List V} {seen : List Str} {i : Nat}, clsFrom H xs seen i = none → ∃ rows : List Row, Paired (RowAt nul H) xs rows ∧ ∀ r ∈ rows, r.fs.length ≤ 3 ∧ nameS r.n = true ∧ ∀ s ∈ r.fs, nameS s = true
  | [], _, _, _ => ⟨[], .nil, fun _ h => by cases h⟩
  | v :: r, seen, i, h => by
    have h' : (if classOk H v seen = true then clsFrom H r (seen ++ [nameOf H v]) (i + 1) else some i) = none := h
    by_cases c : classOk H v seen = true
    · rw [if_pos c] at h'
      obtain ⟨rows, pr, h3⟩ := clsFrom_none h'
      obtain ⟨a, n, z, f, b, rfl, ha, hnm, _, hw, hf, hb⟩ := classOk_is c
      obtain ⟨k, rfl, _, _⟩ := whole_ok hw
      obtain ⟨fl, fs, rfl, hfl, hlen, ok⟩ := firstBad_none hf
      cases b with
      | bl b =>
        refine ⟨⟨n, k, fs, b⟩ :: rows, .cons ⟨a, fl, rfl, rfl, rfl, ha, hfl⟩ pr, fun r hr => ?_⟩
        rcases List.mem_cons.mp hr with rfl | hr
        · exact ⟨by show fs.length ≤ 3; omega, hnm, ok⟩
        · exact h3 r hr
      | _ => cases hb
    · rw [if_neg c] at h'
      cases h'
theorem classes_ok {H : Hp} {v : V} (h : classesAt H v = .non) : ∃ (a : Addr) (rows : List Row), v = .ref a ∧ ClsN nul H a rows ∧ 1 ≤ rows.length ∧ rows.length ≤ 6 ∧ ∀ r ∈ rows, r.fs.length ≤ 3 ∧ nameS r.n = true ∧ ∀ s ∈ r.fs, nameS s = true := by
  unfold classesAt at h
  cases hl : lstOf H v with
  | none => rw [hl] at h; cases h
  | some xs =>
    rw [hl] at h
    obtain ⟨a, rfl, ha⟩ := lstOf_some hl
    have h' : (if (decide ((1 : Int) ≤ (xs.length : Int)) && decide ((xs.length : Int) ≤ 6)) = true then optV (clsFrom H xs [] 0) else V.int (-1)) = .non := h
    by_cases c : (decide ((1 : Int) ≤ (xs.length : Int)) && decide ((xs.length : Int) ≤ 6)) = true
    · rw [if_pos c] at h'
      cases hb : clsFrom H xs [] 0 with
      | some i => rw [hb] at h'; cases h'
      | none =>
        obtain ⟨rows, pr, h3⟩ := clsFrom_none hb
        rw [Bool.and_eq_true] at c
        have c1 := of_decide_eq_true c.1
        have c2 := of_decide_eq_true c.2
        have pl := pr.length
        exact ⟨a, rows, rfl, ⟨rfl, xs, ha, pr⟩, by omega, by omega, h3⟩
    · rw [if_neg c] at h'
      cases h'
/-! ### the answers do not change while all stands -/
theorem namesAt_same {H H' : Hp} {v : V} {lo hi : Int} {bar : List Str} (d : Dat H v) (s : Same H H') : namesAt H' v lo hi bar = namesAt H v lo hi bar := by
  unfold namesAt
  rw [firstBad_same d s, lstOf_same d s]
theorem radicesAt_same {H H' : Hp} {v : V} {th : Int} (d : Dat H v) (s : Same H H') : radicesAt H' v th = radicesAt H v th := by
  unfold radicesAt
  rw [lstOf_same d s]
theorem nameOf_same {H H' : Hp} {v : V} (d : Dat H v) (s : Same H H') : nameOf H' v = nameOf H v := by
  unfold nameOf
  rw [tupOf_same d s]
theorem clsFrom_same {H H' : Hp} (s : Same H H') : ∀ {xs : List V} {seen : List Str} {i : Nat}, (∀ x ∈ xs, Dat H x) → clsFrom H' xs seen i = clsFrom H xs seen i
  | [], _, _, _ => rfl
  | v :: r, seen, i, h => by
    have dv := h v List.mem_cons_self
    show (if classOk H' v seen = true then clsFrom H' r (seen ++ [nameOf H' v]) (i + 1) else some i) = (if classOk H v seen = true then clsFrom H r (seen ++ [nameOf H v]) (i + 1) else some i)
    rw [classOk_same dv s, nameOf_same dv s, clsFrom_same s fun x hx => h x (List.mem_cons_of_mem _ hx)]
theorem classesAt_same {H H' : Hp} {v : V} (d : Dat H v) (s : Same H H') : classesAt H' v = classesAt H v := by
  unfold classesAt
  rw [lstOf_same d s]
  cases hl : lstOf H v with
  | none => rfl
  | some xs =>
    obtain ⟨a, rfl, ha⟩ := lstOf_some hl
    show (if _ then optV (clsFrom H' xs [] 0) else _) = (if _ then optV (clsFrom H xs [] 0) else _)
    rw [clsFrom_same s (d.items ha)]
/-! ### the first fault -/
def strsOf (H : Hp) (v : V) : List Str := match lstOf H v with | some xs => xs.map strOf | none => []
def intOf : V → Int | .int i => i | _ => 0
def faultV (H : Hp) (c n l p r : V) : Option (Str × V) :=
  if classesAt H c ≠ .non then some ("classes", classesAt H c)
  else if namesAt H n 1 8 [] ≠ .non then some ("variables", namesAt H n 1 8 [])
  else if namesAt H l 0 4 (strsOf H n) ≠ .non then some ("weak", namesAt H l 0 4 (strsOf H n))
  else if wholeV p 1 12 = false then some ("threshold", .int (-1))
  else if radicesAt H r (intOf p) ≠ .non then some ("radices", radicesAt H r (intOf p))
  else none
theorem strsOf_is {H : Hp} {a : Addr} {ss : List Str} (h : H a = some (.lst (ss.map V.str))) : strsOf H (.ref a) = ss := by
  unfold strsOf
  rw [lstOf_of h]
  show (ss.map V.str).map strOf = ss
  rw [List.map_map]
  exact List.map_id'' (fun _ => rfl) ss
end K1

set_option Elab.async false
set_option linter.all false
set_option maxRecDepth 100000
set_option maxHeartbeats 4000000
namespace K1
open PySem L2
/-! ### Program.__init__ -/
abbrev sPrI : Stmt := inClass (top 37) 0
def pgF (a b c d e f g : V) : List (Str × V) := putF "_functions" g (putF "_radices" f (putF "_threshold" e (putF "_weak" d (putF "_variables" c (putF "_body" b (putF "_classes" a []))))))
structure NoP (K : PySem.W.Frag) (C : Addr) : Prop where
  cl : Cls K C
  n1 : NoAttr K C "_classes"
  n2 : NoAttr K C "_body"
  n3 : NoAttr K C "_variables"
  n4 : NoAttr K C "_weak"
  n5 : NoAttr K C "_threshold"
  n6 : NoAttr K C "_radices"
  n7 : NoAttr K C "_functions"
/-- a program stands at p, its own objects new since H0 -/
def ProgAt (H0 H : Hp) (CP p : Addr) (rows : List Row) (ns ls : List Str) (th : Int) (ks : List Int) : Prop := ∃ (dx a b c d f g : Addr), H p = some (.ins CP dx (pgF (.ref a) (.ref b) (.ref c) (.ref d) (.int th) (.ref f) (.ref g))) ∧ ClsN H0 H a rows ∧
  (H0 b = none ∧ H b = some (.lst [])) ∧ (H0 c = none ∧ H c = some (.lst (ns.map V.str))) ∧ (H0 d = none ∧ H d = some (.lst (ls.map V.str))) ∧ (H0 f = none ∧ H f = some (.lst (ks.map V.int))) ∧ (H0 g = none ∧ H g = some (.lst []))
/-- what is handed in, when nothing is wrong -/
structure Fine (H : Hp) (c n l p r : V) (rows : List Row) (ns ls : List Str) (th : Int) (ks : List Int) : Prop where
  c : ∃ a, c = .ref a ∧ ClsN nul H a rows
  c1 : 1 ≤ rows.length
  c6 : rows.length ≤ 6
  c3 : ∀ q ∈ rows, q.fs.length ≤ 3
  n : ∃ a, n = .ref a ∧ H a = some (.lst (ns.map V.str))
  l : ∃ a, l = .ref a ∧ H a = some (.lst (ls.map V.str))
  p : p = .int th
  t1 : 1 ≤ th
  t2 : th ≤ 12
  r : ∃ a, r = .ref a ∧ H a = some (.lst (ks.map V.int))
  cOk : ∀ q ∈ rows, nameS q.n = true ∧ ∀ s ∈ q.fs, nameS s = true
  nOk : ∀ s ∈ ns, nameS s = true
  lOk : ∀ s ∈ ls, nameS s = true
/-- while the new program's fields are filled: all else stands -/
structure Fil (H Hx : Hp) (CP p dx : Addr) (fs : List (Str × V)) : Prop where
  keep : ∀ b o, H b = some o → b ≠ p → Hx b = some o
  at_ : Hx p = some (.ins CP dx fs)
theorem Fil.new {H Hx Hy : Hp} {CP p dx : Addr} {fs : List (Str × V)} (f : Fil H Hx CP p dx fs) (s : Same Hx Hy) : Fil H Hy CP p dx fs := ⟨fun b o e n => s _ _ (f.keep b o e n), s _ _ f.at_⟩
theorem Fil.set {H Hx : Hp} {CP p dx : Addr} {fs : List (Str × V)} (f : Fil H Hx CP p dx fs) (gs : List (Str × V)) : Fil H (upd Hx p (.ins CP dx gs)) CP p dx gs := ⟨fun b o e n => by
  rw [upd_ne n]
  exact f.keep b o e n, upd_same⟩
theorem Fil.free {H Hx : Hp} {CP p dx b : Addr} {fs : List (Str × V)} (f : Fil H Hx CP p dx fs) (n : Hx b = none) : H b = none := by
  cases q : H b with
  | none => rfl
  | some o =>
    by_cases hb : b = p
    · rw [hb, f.at_] at n
      cases n
    · rw [f.keep b o q hb] at n
      cases n
theorem ClsN.base {H H1 Hx : Hp} {a : Addr} {rows : List Row} (h : ClsN H1 Hx a rows) (off : ∀ b, H1 b = none → H b = none) : ClsN H Hx a rows := by
  obtain ⟨f0, xs, e, p⟩ := h
  refine ⟨off _ f0, xs, e, p.mono fun x r z => ?_⟩
  obtain ⟨q, fl, e1, z1, z2, z3, z4⟩ := z
  exact ⟨q, fl, e1, off _ z1, off _ z2, z3, z4⟩
/-- a change at an object that stood in H -/
theorem ClsN.other {H Hx : Hp} {a p : Addr} {o u : HO} {rows : List Row} (h : ClsN H Hx a rows) (hp : H p = some o) : ClsN H (upd Hx p u) a rows := by
  obtain ⟨f0, xs, e, pr⟩ := h
  refine ⟨f0, xs, by rw [upd_ne (ne_of_none hp f0).symm]; exact e, pr.mono fun x r z => ?_⟩
  obtain ⟨q, fl, e1, z1, z2, z3, z4⟩ := z
  exact ⟨q, fl, e1, z1, z2, by rw [upd_ne (ne_of_none hp z1).symm]; exact z3, by rw [upd_ne (ne_of_none hp z2).symm]; exact z4⟩
/-- a new list -/
def NewL (H Hx : Hp) (a : Addr) (xs : List V) : Prop := H a = none ∧ Hx a = some (.lst xs)
theorem NewL.mono {H Hx Hy : Hp} {a : Addr} {xs : List V} (h : NewL H Hx a xs) (s : Same Hx Hy) : NewL H Hy a xs := ⟨h.1, s _ _ h.2⟩
theorem NewL.other {H Hx : Hp} {a p : Addr} {o u : HO} {xs : List V} (h : NewL H Hx a xs) (hp : H p = some o) : NewL H (upd Hx p u) a xs := ⟨h.1, by rw [upd_ne (ne_of_none hp h.1).symm]; exact h.2⟩
theorem Fil.lst {H Hx : Hp} {CP p dx q : Addr} {fs : List (Str × V)} (f : Fil H Hx CP p dx fs) (xs : List V) (n : Hx q = none) : NewL H (upd Hx q (.lst xs)) q xs := ⟨f.free n, upd_same⟩
def spPrI (C CP : Addr) : Sp := fun vs H Q E => ∃ (p dx bd fn : Addr) (c n l t r : V), vs = [.ref p, c, .ref bd, n, l, t, r, .ref fn] ∧ H p = some (.ins CP dx []) ∧ Dat H c ∧ Dat H n ∧ Dat H l ∧ Dat H t ∧ Dat H r ∧ H bd = some (.lst []) ∧ H fn = some (.lst []) ∧
  (∀ part at_, faultV H c n l t r = some (part, at_) → Rz C H (.str part) at_ E) ∧
  (faultV H c n l t r = none → ∀ rows ns ls th ks, Fine H c n l t r rows ns ls th ks → ∀ H', ProgAt H H' CP p rows ns ls th ks → (∀ b o, H b = some o → b ≠ p → H' b = some o) → Q .non H')
section
variable {P : Program} {w : World} {K : PySem.W.Frag} {mg : Str → Option Value} {base : Heap} {C CP CU : Addr}
abbrev prN : List Str := ["self", "classes", "body", "variables", "weak", "threshold", "radices", "functions", "calls", "many"]
abbrev prP : List Str := ["self", "classes", "body", "variables", "weak", "threshold", "radices", "functions"]
theorem scPr : FnScope prN prP (defScope sPrI) := ⟨rfl, rfl, rfl, by decide +kernel, rfl, by decide +kernel, by decide +kernel⟩
theorem okPr {f : Addr} {fd : FuncData} (F : Fun K "__init__" "Program.__init__" sPrI f fd) (B : Blt mg) (U : NoP K CP)
    (C28 : Cal P w K mg base (L2.CX P w) 4 "check_classes" ["classes"] (spClasses C)) (C26 : Cal P w K mg base (L2.CX P w) 3 "check_names" ["part", "value", "least", "most", "barred"] (spNames C))
    (C29 : Cal P w K mg base (L2.CX P w) 3 "check_threshold" ["threshold"] (spThr C)) (C30 : Cal P w K mg base (L2.CX P w) 3 "check_radices" ["radices", "threshold"] (spRad C))
    (C33 : Cal P w K mg base CX0 1 "check_functions" ["functions", "classes", "weak", "radices"] spCheckFns) (C32 : Cal P w K mg base CX0 3 "scope_for" ["names", "classes", "weak", "radices", "calls"] spScopeFor)
    (C34 : Cal P w K mg base CX0 4 "check_body" ["body", "scope", "many"] (spCheckBody CU)) (C35 : Cal P w K mg base CX0 1 "copied_classes" ["classes"] spCopyCls)
    (C22 : Cal P w K mg base CX0 1 "copied_block" ["block"] spCopyNil) (C36 : Cal P w K mg base CX0 1 "copied_functions" ["functions"] spCopyNil) :
    FnOk P w K mg base (L2.CX P w) 5 f fd prP (spPrI C CP) := by
  refine F.okX scPr (fun vs H Q E h => ?_) (fun cdv A outer s H vs Q E hr h => ?_)
  · obtain ⟨p, dx, bd, fn, c, n, l, t, r, rfl, _⟩ := h
    rfl
  · obtain ⟨p, dx, bd, fn, c, n, l, t, r, rfl, hp, dc, dn, dl, dt, dr, hbd, hfn, ke, kn⟩ := h
    refine ⟨_, pss_cons (ps_expr (pe_cal C28 hr (by decide) (passes_call (E := E) (takes_of rfl rfl rfl rfl) (fun _ _ _ _ h => h)) (pa_cons (pv 1) pa_nil)))
      (pss_cons (ps_expr (pe_cal C26 hr (by decide) (passes_call (E := E) (takes_of rfl rfl rfl rfl) (fun _ _ _ _ h => h)) (pa_cons pe_str (pa_cons (pv 3) (pa_cons pe_int (pa_cons pe_int (pa_cons (pe_lst pa_nil) pa_nil)))))))
      (pss_cons (ps_expr (pe_cal C26 hr (by decide) (passes_call (E := E) (takes_of rfl rfl rfl rfl) (fun _ _ _ _ h => h)) (pa_cons pe_str (pa_cons (pv 4) (pa_cons pe_int (pa_cons pe_int (pa_cons (pv 3) pa_nil)))))))
      (pss_cons (ps_expr (pe_cal C29 hr (by decide) (passes_call (E := E) (takes_of rfl rfl rfl rfl) (fun _ _ _ _ h => h)) (pa_cons (pv 5) pa_nil)))
      (pss_cons (ps_expr (pe_cal C30 hr (by decide) (passes_call (E := E) (takes_of rfl rfl rfl rfl) (fun _ _ _ _ h => h)) (pa_cons (pv 6) (pa_cons (pv 5) pa_nil))))
      (pss_cons (ps_asg (pe_cal C33 hr (by decide) pass0 (pa_cons (pv 7) (pa_cons (pv 1) (pa_cons (pv 4) (pa_cons (pv 6) pa_nil))))) (pg_tup rfl (pgs_cons (pg_name (i := 8) scPr.nd rfl (Or.inl rfl)) (pgs_cons (pg_name (i := 9) scPr.nd rfl (Or.inl rfl)) pgs_nil))))
      (pss_cons (ps_expr (pe_cal C34 hr (by decide) pass0 (pa_cons (pv 2) (pa_cons (pe_cal C32 hr (by decide) pass0 (pa_cons (pv 3) (pa_cons (pv 1) (pa_cons (pv 4) (pa_cons (pv 6) (pa_cons (pv 8) pa_nil)))))) (pa_cons (pv 9) pa_nil)))))
      (pss_cons (ps_fld (pv 0) (pe_cal C35 hr (by decide) pass0 (pa_cons (pv 1) pa_nil)) rfl)
      (pss_cons (ps_fld (pv 0) (pe_cal C22 hr (by decide) pass0 (pa_cons (pv 2) pa_nil)) rfl)
      (pss_cons (ps_fld (pv 0) (pe_callTy (r := rLof K) call_list_of rfl B.list PyProof.Rows.boot_list (pa_cons (pv 3) pa_nil)) rfl)
      (pss_cons (ps_fld (pv 0) (pe_callTy (r := rLof K) call_list_of rfl B.list PyProof.Rows.boot_list (pa_cons (pv 4) pa_nil)) rfl)
      (pss_cons (ps_fld (pv 0) (pv 5) rfl)
      (pss_cons (ps_fld (pv 0) (pe_callTy (r := rLof K) call_list_of rfl B.list PyProof.Rows.boot_list (pa_cons (pv 6) pa_nil)) rfl)
      (pss_one (ps_fld (pv 0) (pe_cal C36 hr (by decide) pass0 (pa_cons (pv 7) pa_nil)) rfl)))))))))))))), ?_⟩
    -- check_classes
    refine ⟨_, rfl, c, rfl, dc, fun e1 H1 s1 => ?_, fun e1 => ke _ _ (by unfold faultV; rw [if_pos e1])⟩
    -- check_names of the variables
    refine ⟨_, rfl, by decide, fun q1 hq1 => ?_⟩
    have s2 := same_new (o := .lst []) s1 hq1
    refine ⟨_, n, 1, 8, q1, [], rfl, dn.mono s2, upd_same, by decide, fun e2 H3 s3 => ?_, fun e2 => ?_⟩
    rotate_left
    · rw [namesAt_same dn s2] at e2 ⊢
      exact (ke _ _ (by unfold faultV; rw [if_neg (by simp [e1]), if_pos e2])).later s2
    rw [namesAt_same dn s2] at e2
    have s4 := s2.trans s3
    obtain ⟨na, ns, rfl, hna, hn1, hn8, _, nOk⟩ := names_ok e2
    -- check_names of the weak ones
    refine ⟨_, rfl, _, rfl, _, l, 0, 4, na, ns, rfl, dl.mono s4, s4 _ _ hna, by decide, fun e3 H5 s5 => ?_, fun e3 => ?_⟩
    rotate_left
    · rw [namesAt_same dl s4] at e3 ⊢
      exact (ke _ _ (by unfold faultV; rw [strsOf_is hna, if_neg (by simp [e1]), if_neg (by simp [e2]), if_pos e3])).later s4
    rw [namesAt_same dl s4] at e3
    have s6 := s4.trans s5
    obtain ⟨la, ls, rfl, hla, _, hl4, _, lOk⟩ := names_ok e3
    -- check_threshold
    refine ⟨_, rfl, t, rfl, dt.mono s6, fun e4 H7 s7 => ?_, fun e4 => ?_⟩
    rotate_left
    · exact (ke _ _ (by unfold faultV; rw [strsOf_is hna, if_neg (by simp [e1]), if_neg (by simp [e2]), if_neg (by simp [e3]), if_pos e4])).later s6
    have s8 := s6.trans s7
    obtain ⟨th, rfl, ht1, ht2⟩ := whole_ok e4
    -- check_radices
    refine ⟨_, rfl, _, rfl, r, th, rfl, dr.mono s8, ht1, ht2, fun e5 H9 s9 => ?_, fun e5 => ?_⟩
    rotate_left
    · rw [radicesAt_same dr s8] at e5 ⊢
      exact (ke _ _ (by unfold faultV; rw [strsOf_is hna, if_neg (by simp [e1]), if_neg (by simp [e2]), if_neg (by simp [e3]), if_neg (by simp [e4]), if_pos (show radicesAt H r (intOf (.int th)) ≠ .non from e5)]; rfl)).later s8
    rw [radicesAt_same dr s8] at e5
    have s10 := s8.trans s9
    obtain ⟨ra, ks, rfl, hra⟩ := rad_ok e5
    obtain ⟨ca, rows, rfl, hca, hc1, hc6, hcA⟩ := classes_ok e1
    have hc3 : ∀ r ∈ rows, r.fs.length ≤ 3 := fun r h => (hcA r h).1
    have none_ : faultV H (.ref ca) (.ref na) (.ref la) (.int th) (.ref ra) = none := by
      unfold faultV
      rw [strsOf_is hna, if_neg (by simp [e1]), if_neg (by simp [e2]), if_neg (by simp [e3]), if_neg (by simp [e4]), if_neg (show ¬ radicesAt H (.ref ra) (intOf (.int th)) ≠ .non from by show ¬ radicesAt H (.ref ra) th ≠ .non; simp [e5])]
    have fine : Fine H (.ref ca) (.ref na) (.ref la) (.int th) (.ref ra) rows ns ls th ks := ⟨⟨ca, rfl, hca⟩, hc1, hc6, hc3, ⟨na, rfl, hna⟩, ⟨la, rfl, hla⟩, rfl, ht1, ht2, ⟨ra, rfl, hra⟩, fun q h => (hcA q h).2, nOk, lOk⟩
    have k := kn none_ rows ns ls th ks fine
    -- check_functions
    refine ⟨_, rfl, _, rfl, _, rfl, _, rfl, fn, _, _, _, rfl, s10 _ _ hfn, fun tp cd H11 s11 htp => ?_⟩
    have s12 := s10.trans s11
    refine ⟨tp, _, rfl, SqT.of htp, rfl, .ref cd, _, rfl, .int 0, _, rfl, rfl, ?_⟩
    -- check_body, scope_for
    obtain ⟨xs, hxs, hxl⟩ := (hca.mono s12).toL hc3
    refine ⟨_, rfl, _, rfl, _, rfl, _, rfl, _, rfl, _, rfl, _, _, _, ca, ra, xs, _, rfl, hxs, by omega, s12 _ _ hra, fun scp H13 s13 => ?_⟩
    have s14 := s12.trans s13
    refine ⟨_, rfl, bd, _, rfl, s14 _ _ hbd, fun H15 s15 => ?_⟩
    have s16 := s14.trans s15
    have f0 : Fil H H15 CP p dx [] := ⟨fun b o e _ => s16 _ _ e, s16 _ _ hp⟩
    have few : ∀ (n : Nat) (fs : List (Str × V)) (k : Str) (v : V), fs.length ≤ n → (putF k v fs).length ≤ n + 1 := fun n fs k v h => Nat.le_trans (putF_len k v fs) (Nat.succ_le_succ h)
    have apart : ∀ {b : Addr} {xs : List V}, H b = some (.lst xs) → b ≠ p := fun {b xs} e => ne_of e hp (by intro z; cases z)
    have g0 : ([] : List (Str × V)).length ≤ 0 := Nat.le_refl _
    -- self._classes
    refine ⟨_, rfl, ca, nul, rows, rfl, hca.mono s16, hc6, hc3, fun q1 H17 s17 hq1 => ?_⟩
    have f1 := f0.new s17
    have k1 : ClsN H H17 q1 rows := hq1.base fun b z => f0.free z
    refine ⟨_, rfl, p, CP, dx, _, rfl, f1.at_, U.cl, U.n1, by omega, ?_⟩
    have f2 := f1.set (putF "_classes" (.ref q1) [])
    have k2 : ClsN H _ q1 rows := k1.other (u := .ins CP dx (putF "_classes" (.ref q1) [])) hp
    have g1 := few 0 [] "_classes" (.ref q1) g0
    -- self._body
    refine ⟨_, rfl, bd, rfl, f2.keep _ _ hbd (apart hbd), fun q2 H18 s18 nq2 hq2 => ?_⟩
    have f3 := f2.new s18
    have b3 : NewL H H18 q2 [] := ⟨f2.free nq2, hq2⟩
    have k3 := k2.mono s18
    refine ⟨_, rfl, p, CP, dx, _, rfl, f3.at_, U.cl, U.n2, by omega, ?_⟩
    have f4 := f3.set (putF "_body" (.ref q2) (putF "_classes" (.ref q1) []))
    have k4 := k3.other (u := .ins CP dx (putF "_body" (.ref q2) (putF "_classes" (.ref q1) []))) hp
    have b4 := b3.other (u := .ins CP dx (putF "_body" (.ref q2) (putF "_classes" (.ref q1) []))) hp
    have g2 := few 1 _ "_body" (.ref q2) g1
    -- self._variables
    refine ⟨_, rfl, na, _, rfl, .inl (SqL.of (f4.keep _ _ hna (apart hna))), fun q3 nq3 => ?_⟩
    have s19 := same_new (o := .lst (ns.map V.str)) (Same.refl _) nq3
    have f5 := f4.new s19
    have c5 := f4.lst (ns.map V.str) nq3
    have k5 := k4.mono s19
    have b5 := b4.mono s19
    refine ⟨_, rfl, p, CP, dx, _, rfl, f5.at_, U.cl, U.n3, by omega, ?_⟩
    have f6 := f5.set (putF "_variables" (.ref q3) (putF "_body" (.ref q2) (putF "_classes" (.ref q1) [])))
    have k6 := k5.other (u := .ins CP dx (putF "_variables" (.ref q3) (putF "_body" (.ref q2) (putF "_classes" (.ref q1) [])))) hp
    have b6 := b5.other (u := .ins CP dx (putF "_variables" (.ref q3) (putF "_body" (.ref q2) (putF "_classes" (.ref q1) [])))) hp
    have c6 := c5.other (u := .ins CP dx (putF "_variables" (.ref q3) (putF "_body" (.ref q2) (putF "_classes" (.ref q1) [])))) hp
    have g3 := few 2 _ "_variables" (.ref q3) g2
    -- self._weak
    refine ⟨_, rfl, la, _, rfl, .inl (SqL.of (f6.keep _ _ hla (apart hla))), fun q4 nq4 => ?_⟩
    have s20 := same_new (o := .lst (ls.map V.str)) (Same.refl _) nq4
    have f7 := f6.new s20
    have d7 := f6.lst (ls.map V.str) nq4
    have k7 := k6.mono s20
    have b7 := b6.mono s20
    have c7 := c6.mono s20
    refine ⟨_, rfl, p, CP, dx, _, rfl, f7.at_, U.cl, U.n4, by omega, ?_⟩
    have f8 := f7.set (putF "_weak" (.ref q4) (putF "_variables" (.ref q3) (putF "_body" (.ref q2) (putF "_classes" (.ref q1) []))))
    have k8 := k7.other (u := .ins CP dx (putF "_weak" (.ref q4) (putF "_variables" (.ref q3) (putF "_body" (.ref q2) (putF "_classes" (.ref q1) []))))) hp
    have b8 := b7.other (u := .ins CP dx (putF "_weak" (.ref q4) (putF "_variables" (.ref q3) (putF "_body" (.ref q2) (putF "_classes" (.ref q1) []))))) hp
    have c8 := c7.other (u := .ins CP dx (putF "_weak" (.ref q4) (putF "_variables" (.ref q3) (putF "_body" (.ref q2) (putF "_classes" (.ref q1) []))))) hp
    have d8 := d7.other (u := .ins CP dx (putF "_weak" (.ref q4) (putF "_variables" (.ref q3) (putF "_body" (.ref q2) (putF "_classes" (.ref q1) []))))) hp
    have g4 := few 3 _ "_weak" (.ref q4) g3
    -- self._threshold
    refine ⟨_, rfl, _, rfl, p, CP, dx, _, rfl, f8.at_, U.cl, U.n5, by omega, ?_⟩
    have f9 := f8.set (putF "_threshold" (.int th) (putF "_weak" (.ref q4) (putF "_variables" (.ref q3) (putF "_body" (.ref q2) (putF "_classes" (.ref q1) [])))))
    have k9 := k8.other (u := .ins CP dx (putF "_threshold" (.int th) (putF "_weak" (.ref q4) (putF "_variables" (.ref q3) (putF "_body" (.ref q2) (putF "_classes" (.ref q1) [])))))) hp
    have b9 := b8.other (u := .ins CP dx (putF "_threshold" (.int th) (putF "_weak" (.ref q4) (putF "_variables" (.ref q3) (putF "_body" (.ref q2) (putF "_classes" (.ref q1) [])))))) hp
    have c9 := c8.other (u := .ins CP dx (putF "_threshold" (.int th) (putF "_weak" (.ref q4) (putF "_variables" (.ref q3) (putF "_body" (.ref q2) (putF "_classes" (.ref q1) [])))))) hp
    have d9 := d8.other (u := .ins CP dx (putF "_threshold" (.int th) (putF "_weak" (.ref q4) (putF "_variables" (.ref q3) (putF "_body" (.ref q2) (putF "_classes" (.ref q1) [])))))) hp
    have g5 := few 4 _ "_threshold" (.int th) g4
    -- self._radices
    refine ⟨_, rfl, ra, _, rfl, .inl (SqL.of (f9.keep _ _ hra (apart hra))), fun q6 nq6 => ?_⟩
    have s21 := same_new (o := .lst (ks.map V.int)) (Same.refl _) nq6
    have f10 := f9.new s21
    have e10 := f9.lst (ks.map V.int) nq6
    have k10 := k9.mono s21
    have b10 := b9.mono s21
    have c10 := c9.mono s21
    have d10 := d9.mono s21
    refine ⟨_, rfl, p, CP, dx, _, rfl, f10.at_, U.cl, U.n6, by omega, ?_⟩
    generalize hfs6 : putF "_radices" (.ref q6) (putF "_threshold" (.int th) (putF "_weak" (.ref q4) (putF "_variables" (.ref q3) (putF "_body" (.ref q2) (putF "_classes" (.ref q1) []))))) = fs6
    have g6 : fs6.length ≤ 6 := by rw [← hfs6]; exact few 5 _ "_radices" (.ref q6) g5
    have f11 := f10.set fs6
    have k11 := k10.other (u := .ins CP dx fs6) hp
    have b11 := b10.other (u := .ins CP dx fs6) hp
    have c11 := c10.other (u := .ins CP dx fs6) hp
    have d11 := d10.other (u := .ins CP dx fs6) hp
    have e11 := e10.other (u := .ins CP dx fs6) hp
    -- self._functions
    refine ⟨_, rfl, fn, rfl, f11.keep _ _ hfn (apart hfn), fun q7 H22 s22 nq7 hq7 => ?_⟩
    have f12 := f11.new s22
    have h12 : NewL H H22 q7 [] := ⟨f11.free nq7, hq7⟩
    refine ⟨_, rfl, p, CP, dx, _, rfl, f12.at_, U.cl, U.n7, by omega, ?_⟩
    have f13 := f12.set (putF "_functions" (.ref q7) fs6)
    refine k _ ⟨dx, q1, q2, q3, q4, q6, q7, ?_, (k11.mono s22).other hp, (b11.mono s22).other hp, (c11.mono s22).other hp, (d11.mono s22).other hp, (e11.mono s22).other hp, h12.other hp⟩ f13.keep
    rw [f13.at_, ← hfs6]
    rfl
end
end K1

set_option Elab.async false
set_option linter.all false
set_option maxRecDepth 100000
set_option maxHeartbeats 4000000
namespace K1
open PySem L2
/-! ### what a program tells -/
theorem pg1 (a b c d e f g : V) : (pgF a b c d e f g).lookup ("_classes" : Str) = some a := by
  unfold pgF
  repeat rw [lookup_putF, if_neg (by decide +kernel)]
  rw [lookup_putF, if_pos rfl]
theorem pg2 (a b c d e f g : V) : (pgF a b c d e f g).lookup ("_body" : Str) = some b := by
  unfold pgF
  rw [lookup_putF, if_neg (by decide +kernel), lookup_putF, if_neg (by decide +kernel), lookup_putF, if_neg (by decide +kernel), lookup_putF, if_neg (by decide +kernel), lookup_putF, if_neg (by decide +kernel), lookup_putF, if_pos rfl]
theorem pg3 (a b c d e f g : V) : (pgF a b c d e f g).lookup ("_variables" : Str) = some c := by
  unfold pgF
  rw [lookup_putF, if_neg (by decide +kernel), lookup_putF, if_neg (by decide +kernel), lookup_putF, if_neg (by decide +kernel), lookup_putF, if_neg (by decide +kernel), lookup_putF, if_pos rfl]
theorem pg4 (a b c d e f g : V) : (pgF a b c d e f g).lookup ("_weak" : Str) = some d := by
  unfold pgF
  rw [lookup_putF, if_neg (by decide +kernel), lookup_putF, if_neg (by decide +kernel), lookup_putF, if_neg (by decide +kernel), lookup_putF, if_pos rfl]
theorem pg5 (a b c d e f g : V) : (pgF a b c d e f g).lookup ("_threshold" : Str) = some e := by
  unfold pgF
  rw [lookup_putF, if_neg (by decide +kernel), lookup_putF, if_neg (by decide +kernel), lookup_putF, if_pos rfl]
theorem pg6 (a b c d e f g : V) : (pgF a b c d e f g).lookup ("_radices" : Str) = some f := by
  unfold pgF
  rw [lookup_putF, if_neg (by decide +kernel), lookup_putF, if_pos rfl]
theorem pg7 (a b c d e f g : V) : (pgF a b c d e f g).lookup ("_functions" : Str) = some g := by
  unfold pgF
  rw [lookup_putF, if_pos rfl]
/-- no method's name is an attribute of the instance -/
theorem pg_no {m : Str} (a b c d e f g : V) (h1 : ¬ m = "_classes") (h2 : ¬ m = "_body") (h3 : ¬ m = "_variables") (h4 : ¬ m = "_weak") (h5 : ¬ m = "_threshold") (h6 : ¬ m = "_radices") (h7 : ¬ m = "_functions") : (pgF a b c d e f g).lookup m = none := by
  unfold pgF
  rw [lookup_putF, if_neg h7, lookup_putF, if_neg h6, lookup_putF, if_neg h5, lookup_putF, if_neg h4, lookup_putF, if_neg h3, lookup_putF, if_neg h2, lookup_putF, if_neg h1]
  rfl
/-- which program stands at p -/
structure Pg where
  rows : List Row
  ns : List Str
  ls : List Str
  th : Int
  ks : List Int
def PgAt (H0 H : Hp) (CP p : Addr) (g : Pg) : Prop := ProgAt H0 H CP p g.rows g.ns g.ls g.th g.ks ∧ g.rows.length ≤ 6 ∧ ∀ r ∈ g.rows, r.fs.length ≤ 3
theorem NewL.base {H H1 Hx : Hp} {a : Addr} {xs : List V} (h : NewL H1 Hx a xs) (off : ∀ b, H1 b = none → H b = none) : NewL H Hx a xs := ⟨off _ h.1, h.2⟩
def spTell (CP : Addr) (G : Pg → Hp → Hp → V → Prop) : Sp := fun vs H Q _ => ∃ (p : Addr) (H0 : Hp) (g : Pg), vs = [.ref p] ∧ PgAt H0 H CP p g ∧ ∀ v H', Same H H' → G g H H' v → Q v H'
def gCls (g : Pg) (H H' : Hp) (v : V) : Prop := ∃ q, v = .ref q ∧ ClsN H H' q g.rows
def gNil' (_ : Pg) (H H' : Hp) (v : V) : Prop := ∃ q, v = .ref q ∧ NewL H H' q []
def gVar (g : Pg) (H H' : Hp) (v : V) : Prop := ∃ q, v = .ref q ∧ NewL H H' q (g.ns.map V.str)
def gWk (g : Pg) (H H' : Hp) (v : V) : Prop := ∃ q, v = .ref q ∧ NewL H H' q (g.ls.map V.str)
def gTh (g : Pg) (_ _ : Hp) (v : V) : Prop := v = .int g.th
def gRad (g : Pg) (H H' : Hp) (v : V) : Prop := ∃ q, v = .ref q ∧ NewL H H' q (g.ks.map V.int)
section
variable {P : Program} {w : World} {K : PySem.W.Frag} {mg : Str → Option Value} {base : Heap} {CP : Addr} {f : Addr} {fd : FuncData}
theorem scM1 : FnScope ["self"] ["self"] (defScope (inClass (top 37) 1)) := ⟨rfl, rfl, rfl, by decide +kernel, rfl, by decide +kernel, by decide +kernel⟩
theorem okM1 (F : Fun K "classes" "Program.classes" (inClass (top 37) 1) f fd) (U : NoP K CP) (C35 : Cal P w K mg base CX0 1 "copied_classes" ["classes"] spCopyCls) : FnOk P w K mg base CX0 2 f fd ["self"] (spTell CP gCls) := by
  refine F.ok scM1 (fun vs H Q E h => ?_) (fun cdv A outer s H vs Q E hr h => ?_)
  · obtain ⟨p, H0, g, rfl, _⟩ := h
    rfl
  · obtain ⟨p, H0, g, rfl, ⟨⟨dx, a, b, c, d, e, i, hp, ha, hb, hc, hd, he, hi⟩, h6, h3⟩, k⟩ := h
    refine ⟨_, pss_one (ps_ret (pe_cal C35 hr (by decide) pass0 (pa_cons (pe_fld (pv 0) rfl) pa_nil))), ?_⟩
    refine ⟨_, rfl, p, CP, dx, _, _, rfl, hp, U.cl, U.n1, pg1 _ _ _ _ _ _ _, ?_⟩
    exact ⟨a, H0, g.rows, rfl, ha, h6, h3, fun q H' s' hq => k _ _ s' ⟨q, rfl, hq⟩⟩
theorem scM2 : FnScope ["self"] ["self"] (defScope (inClass (top 37) 2)) := ⟨rfl, rfl, rfl, by decide +kernel, rfl, by decide +kernel, by decide +kernel⟩
theorem okM2 (F : Fun K "body" "Program.body" (inClass (top 37) 2) f fd) (U : NoP K CP) (C22 : Cal P w K mg base CX0 1 "copied_block" ["block"] spCopyNil) : FnOk P w K mg base CX0 2 f fd ["self"] (spTell CP gNil') := by
  refine F.ok scM2 (fun vs H Q E h => ?_) (fun cdv A outer s H vs Q E hr h => ?_)
  · obtain ⟨p, H0, g, rfl, _⟩ := h
    rfl
  · obtain ⟨p, H0, g, rfl, ⟨⟨dx, a, b, c, d, e, i, hp, ha, hb, hc, hd, he, hi⟩, h6, h3⟩, k⟩ := h
    refine ⟨_, pss_one (ps_ret (pe_cal C22 hr (by decide) pass0 (pa_cons (pe_fld (pv 0) rfl) pa_nil))), ?_⟩
    refine ⟨_, rfl, p, CP, dx, _, _, rfl, hp, U.cl, U.n2, pg2 _ _ _ _ _ _ _, ?_⟩
    exact ⟨b, rfl, hb.2, fun q H' s' hq e => k _ _ s' ⟨q, rfl, hq, e⟩⟩
theorem scM3 : FnScope ["self"] ["self"] (defScope (inClass (top 37) 3)) := ⟨rfl, rfl, rfl, by decide +kernel, rfl, by decide +kernel, by decide +kernel⟩
theorem okM3 (F : Fun K "variables" "Program.variables" (inClass (top 37) 3) f fd) (B : Blt mg) (U : NoP K CP) : FnOk P w K mg base CX0 1 f fd ["self"] (spTell CP gVar) := by
  refine F.ok scM3 (fun vs H Q E h => ?_) (fun cdv A outer s H vs Q E hr h => ?_)
  · obtain ⟨p, H0, g, rfl, _⟩ := h
    rfl
  · obtain ⟨p, H0, g, rfl, ⟨⟨dx, a, b, c, d, e, i, hp, ha, hb, hc, hd, he, hi⟩, h6, h3⟩, k⟩ := h
    refine ⟨_, pss_one (ps_ret (pe_callTy (r := rLof K) call_list_of rfl B.list PyProof.Rows.boot_list (pa_cons (pe_fld (pv 0) rfl) pa_nil))), ?_⟩
    refine ⟨_, rfl, p, CP, dx, _, _, rfl, hp, U.cl, U.n3, pg3 _ _ _ _ _ _ _, ?_⟩
    exact ⟨c, _, rfl, .inl (SqL.of hc.2), fun q hq => k _ _ (same_new (Same.refl _) hq) ⟨q, rfl, hq, upd_same⟩⟩
theorem scM4 : FnScope ["self"] ["self"] (defScope (inClass (top 37) 4)) := ⟨rfl, rfl, rfl, by decide +kernel, rfl, by decide +kernel, by decide +kernel⟩
theorem okM4 (F : Fun K "weak" "Program.weak" (inClass (top 37) 4) f fd) (B : Blt mg) (U : NoP K CP) : FnOk P w K mg base CX0 1 f fd ["self"] (spTell CP gWk) := by
  refine F.ok scM4 (fun vs H Q E h => ?_) (fun cdv A outer s H vs Q E hr h => ?_)
  · obtain ⟨p, H0, g, rfl, _⟩ := h
    rfl
  · obtain ⟨p, H0, g, rfl, ⟨⟨dx, a, b, c, d, e, i, hp, ha, hb, hc, hd, he, hi⟩, h6, h3⟩, k⟩ := h
    refine ⟨_, pss_one (ps_ret (pe_callTy (r := rLof K) call_list_of rfl B.list PyProof.Rows.boot_list (pa_cons (pe_fld (pv 0) rfl) pa_nil))), ?_⟩
    refine ⟨_, rfl, p, CP, dx, _, _, rfl, hp, U.cl, U.n4, pg4 _ _ _ _ _ _ _, ?_⟩
    exact ⟨d, _, rfl, .inl (SqL.of hd.2), fun q hq => k _ _ (same_new (Same.refl _) hq) ⟨q, rfl, hq, upd_same⟩⟩
theorem scM5 : FnScope ["self"] ["self"] (defScope (inClass (top 37) 5)) := ⟨rfl, rfl, rfl, by decide +kernel, rfl, by decide +kernel, by decide +kernel⟩
theorem okM5 (F : Fun K "threshold" "Program.threshold" (inClass (top 37) 5) f fd) (U : NoP K CP) : FnOk P w K mg base CX0 1 f fd ["self"] (spTell CP gTh) := by
  refine F.ok scM5 (fun vs H Q E h => ?_) (fun cdv A outer s H vs Q E hr h => ?_)
  · obtain ⟨p, H0, g, rfl, _⟩ := h
    rfl
  · obtain ⟨p, H0, g, rfl, ⟨⟨dx, a, b, c, d, e, i, hp, ha, hb, hc, hd, he, hi⟩, h6, h3⟩, k⟩ := h
    refine ⟨_, pss_one (ps_ret (pe_fld (pv 0) rfl)), ?_⟩
    exact ⟨_, rfl, p, CP, dx, _, _, rfl, hp, U.cl, U.n5, pg5 _ _ _ _ _ _ _, k _ _ (Same.refl _) rfl⟩
theorem scM6 : FnScope ["self"] ["self"] (defScope (inClass (top 37) 6)) := ⟨rfl, rfl, rfl, by decide +kernel, rfl, by decide +kernel, by decide +kernel⟩
theorem okM6 (F : Fun K "radices" "Program.radices" (inClass (top 37) 6) f fd) (B : Blt mg) (U : NoP K CP) : FnOk P w K mg base CX0 1 f fd ["self"] (spTell CP gRad) := by
  refine F.ok scM6 (fun vs H Q E h => ?_) (fun cdv A outer s H vs Q E hr h => ?_)
  · obtain ⟨p, H0, g, rfl, _⟩ := h
    rfl
  · obtain ⟨p, H0, g, rfl, ⟨⟨dx, a, b, c, d, e, i, hp, ha, hb, hc, hd, he, hi⟩, h6, h3⟩, k⟩ := h
    refine ⟨_, pss_one (ps_ret (pe_callTy (r := rLof K) call_list_of rfl B.list PyProof.Rows.boot_list (pa_cons (pe_fld (pv 0) rfl) pa_nil))), ?_⟩
    refine ⟨_, rfl, p, CP, dx, _, _, rfl, hp, U.cl, U.n6, pg6 _ _ _ _ _ _ _, ?_⟩
    exact ⟨e, _, rfl, .inl (SqL.of he.2), fun q hq => k _ _ (same_new (Same.refl _) hq) ⟨q, rfl, hq, upd_same⟩⟩
theorem scM7 : FnScope ["self"] ["self"] (defScope (inClass (top 37) 7)) := ⟨rfl, rfl, rfl, by decide +kernel, rfl, by decide +kernel, by decide +kernel⟩
theorem okM7 (F : Fun K "functions" "Program.functions" (inClass (top 37) 7) f fd) (U : NoP K CP) (C36 : Cal P w K mg base CX0 1 "copied_functions" ["functions"] spCopyNil) : FnOk P w K mg base CX0 2 f fd ["self"] (spTell CP gNil') := by
  refine F.ok scM7 (fun vs H Q E h => ?_) (fun cdv A outer s H vs Q E hr h => ?_)
  · obtain ⟨p, H0, g, rfl, _⟩ := h
    rfl
  · obtain ⟨p, H0, g, rfl, ⟨⟨dx, a, b, c, d, e, i, hp, ha, hb, hc, hd, he, hi⟩, h6, h3⟩, k⟩ := h
    refine ⟨_, pss_one (ps_ret (pe_cal C36 hr (by decide) pass0 (pa_cons (pe_fld (pv 0) rfl) pa_nil))), ?_⟩
    refine ⟨_, rfl, p, CP, dx, _, _, rfl, hp, U.cl, U.n7, pg7 _ _ _ _ _ _ _, ?_⟩
    exact ⟨i, rfl, hi.2, fun q H' s' hq e => k _ _ s' ⟨q, rfl, hq, e⟩⟩
end
end K1

set_option Elab.async false
set_option linter.all false
set_option maxRecDepth 100000
set_option maxHeartbeats 4000000
namespace K1
open PySem L2
/-! ## the law's own helpers -/
theorem abc_mem (c : Nat) : decide (c ∈ ("abcdefghijklmnopqrstuvwxyz" : Str).cps.toList) = letterV c := by
  have e : ("abcdefghijklmnopqrstuvwxyz" : Str).cps.toList = List.range' 97 26 := by decide +kernel
  rw [e, Bool.eq_iff_iff, decide_eq_true_iff, List.mem_range'_1]
  unfold letterV
  rw [Bool.and_eq_true, decide_eq_true_iff, decide_eq_true_iff]
  omega
theorem take_filter_snoc {l : List Nat} {i c : Nat} (p : Nat → Bool) (h : l[i]? = some c) : (l.take (i + 1)).filter p = if p c = true then (l.take i).filter p ++ [c] else (l.take i).filter p := by
  rw [take_snoc h, List.filter_append]
  by_cases e : p c = true
  · rw [if_pos e, List.filter_cons_of_pos e]
    rfl
  · rw [if_neg e, List.filter_cons_of_neg e]
    simp
def strD (l : List Nat) : List PyData := l.map fun c => .str ⟨#[c]⟩
theorem dp_strs {K : PySem.W.Frag} {H : Hp} : ∀ ss : List Str, DpAll K H (ss.map V.str) (ss.map PyData.str)
  | [] => .nil
  | s :: ss => .cons (.str s) (dp_strs ss)
theorem canAll_str : ∀ ss : List Str, (∀ s ∈ ss, PyData.strOk s = true) → PyData.canLayAll0 (ss.map PyData.str) = true
  | [], _ => rfl
  | s :: ss, h => by
    show (PyData.strOk s && PyData.canLayAll0 (ss.map PyData.str)) = true
    rw [canAll_str ss (fun x hx => h x (List.mem_cons_of_mem _ hx)), h s List.mem_cons_self]
    rfl
theorem depthAll_str : ∀ ss : List Str, PyData.depthAll (ss.map PyData.str) = 0
  | [] => rfl
  | s :: ss => by
    show max (PyData.depth (.str s)) (PyData.depthAll (ss.map PyData.str)) = 0
    rw [depthAll_str ss]
    rfl
theorem shaped_strs {ss : List Str} (h : ∀ s ∈ ss, PyData.strOk s = true) : SeqAt.shaped (.list (ss.map PyData.str)) = true := by
  unfold SeqAt.shaped
  rw [show PyData.canLay0 (.list (ss.map PyData.str)) = PyData.canLayAll0 (ss.map PyData.str) from rfl, canAll_str ss h, show PyData.depth (.list (ss.map PyData.str)) = PyData.depthAll (ss.map PyData.str) + 1 from rfl, depthAll_str]
  rfl
theorem strOk_name {s : Str} (h : nameS s = true) : PyData.strOk s = true := by
  unfold nameS at h
  rw [Bool.and_eq_true, List.all_eq_true] at h
  unfold PyData.strOk
  rw [← Array.all_toList, List.all_eq_true]
  intro c hc
  have z := h.2 c hc
  unfold letterV at z
  rw [Bool.and_eq_true, decide_eq_true_iff, decide_eq_true_iff] at z
  exact decide_eq_true (by omega)
theorem strOk_sign {s : Str} {c : Nat} (h : PyData.strOk s = true) (hc : c ∈ s.cps.toList) : PyData.strOk ⟨#[c]⟩ = true := by
  unfold PyData.strOk at h ⊢
  rw [← Array.all_toList, List.all_eq_true] at h ⊢
  intro d hd
  have e : d = c := by simpa using hd
  rw [e]
  exact h c hc
section
variable {P : Program} {w : World} {K : PySem.W.Frag} {mg : Str → Option Value} {base : Heap} {C : Addr}
/-! ### _law_is_name -/
theorem sc40 : FnScope ["_law_thing", "_law_sign"] ["_law_thing"] (defScope (top 40)) := ⟨rfl, rfl, rfl, by decide +kernel, rfl, by decide +kernel, by decide +kernel⟩
theorem ok40 {f : Addr} {fd : FuncData} (F : Fun K "_law_is_name" "_law_is_name" (top 40) f fd) (B : Blt mg) : FnOk P w K mg base CX0 1 f fd ["_law_thing"] spName := by
  refine F.ok sc40 (fun vs H Q E h => ?_) (fun cdv A outer s H vs Q E hr h => ?_)
  · obtain ⟨v, rfl, _⟩ := h
    rfl
  · obtain ⟨v, rfl, d, k⟩ := h
    refine ⟨_, pss_cons (ps_if (PW.pt (pw_or (pt_not (pt_val (pt_isi B (pv 0) B.str PyProof.Rows.boot_str))) (pw_or1 (pt_not (pt_chain op_le op_le pe_int (pe_callB call_len_str rfl B.len PySem.boot_len (pa_cons (pv 0) pa_nil)) pe_int))))) (pss_one (ps_ret pe_bl)) pss_nil)
      (pss_one (ps_ret (pe_cmpR (op_eqD hr.units) (pe_lc (own := [("_law_sign", 1)]) (g := gName 1) rfl sc40.nd (pi_str (pv 0)) (blkOk_by (N := ["_law_thing", "_law_sign"]) (sc := defScope (top 40)) (by decide +kernel))
        (fun _ _ _ _ _ => pg_name (i := 1) sc40.nd rfl (Or.inl rfl)) (fun _ _ _ _ _ => pts_one (pt_cmpR op_notIn_sign (pv 1) pe_str rfl)) (fun _ _ _ _ _ => pv 1)) (pe_lst pa_nil) (nomark _)))), ?_⟩
    refine isi_rd rfl (ans_str d) ⟨_, rfl, ?_⟩
    cases d with
    | str s hso =>
      have hs := hso.1
      refine iteF ?_
      have hz : s.length ≤ sizeLine := by rw [sizeLine_eq]; omega
      have en : nameV (.str s) = ((decide ((1 : Int) ≤ (s.length : Int)) && decide ((s.length : Int) ≤ 8)) && s.cps.toList.all letterV) := by
        show nameS s = _
        unfold nameS
        congr 2 <;> (rw [Bool.eq_iff_iff]; simp; try omega)
      refine ⟨_, rfl, s, rfl, hz, _, _, rfl, rfl, _, rfl, ?_⟩
      refine ite2 (fun c1 => ?_) (fun c1 => ?_)
      · refine ⟨_, _, rfl, rfl, _, rfl, ?_⟩
        refine ite2 (fun c2 => ?_) (fun c2 => ?_)
        · have c2' : decide ((s.length : Int) ≤ 8) = false := by
            cases z : decide ((s.length : Int) ≤ 8) with
            | false => rfl
            | true => rw [z] at c2; exact absurd c2 (by decide)
          rw [c2', Bool.and_false, Bool.false_and] at en
          rw [en] at k
          exact k _ (Same.refl _)
        · have c2' : decide ((s.length : Int) ≤ 8) = true := by
            cases z : decide ((s.length : Int) ≤ 8) with
            | true => rfl
            | false => rw [z] at c2; exact absurd rfl c2
          rw [c1, c2', Bool.and_true, Bool.true_and] at en
          refine ⟨_, rfl, s, rfl, fun D hD => ?_⟩
          refine lc_str (x := s) (fun i H1 => Same H H1 ∧ H1 D = some (.lst (((s.cps.toList.take i).filter fun c => !letterV c).map fun c => V.str ⟨#[c]⟩))) ⟨same_new (Same.refl _) hD, by rw [upd_same]; rfl⟩ ?_ ?_
          · rintro i c H1 hc ⟨s1, e1⟩
            refine ⟨rfl, _, rfl, c, _, rfl, rfl, _, rfl, ?_⟩
            rw [abc_mem]
            have next := take_filter_snoc (fun c => !letterV c) hc
            refine ite2 (fun d1 => ?_) (fun d1 => ?_)
            · rw [if_pos d1] at next
              refine ⟨_, rfl, _, e1, ?_, fun b o e => ?_, ?_⟩
              · rw [List.length_map]
                have z1 := List.length_filter_le (fun c => !letterV c) (s.cps.toList.take i)
                rw [List.length_take] at z1
                have z2 : s.cps.toList.length = s.length := rfl
                rw [sizeLine_eq]
                omega
              · rw [upd_ne (ne_of_none e hD)]
                exact s1 b o e
              · rw [upd_same, next, List.map_append]
                rfl
            · rw [if_neg d1] at next
              exact ⟨s1, by rw [next]; exact e1⟩
          · rintro H1 ⟨s1, e1⟩
            rw [List.take_of_length_le (by simp)] at e1
            refine ⟨by decide, fun p hp => ?_⟩
            have e2 : (upd H1 p (.lst [])) D = H1 D := upd_ne (ne_of_none e1 hp)
            rw [e1] at e2
            have okk : ∀ x ∈ (s.cps.toList.filter fun c => !letterV c).map (fun c => (⟨#[c]⟩ : Str)), PyData.strOk x = true := fun x hx => by
              obtain ⟨c, hc, rfl⟩ := List.mem_map.mp hx
              exact strOk_sign hso.2 (List.mem_filter.mp hc).1
            refine ⟨.list (((s.cps.toList.filter fun c => !letterV c).map fun c => (⟨#[c]⟩ : Str)).map PyData.str), .list [], .lst (SqL.of e2) ?_, .lst (SqL.of upd_same) .nil, shaped_strs okk, rfl, ?_⟩
            · have z := dp_strs (K := K) (H := upd H1 p (.lst [])) ((s.cps.toList.filter fun c => !letterV c).map fun c => (⟨#[c]⟩ : Str))
              rw [List.map_map] at z
              exact z
            · have fin_ : PyData.eqv (.list (((s.cps.toList.filter fun c => !letterV c).map fun c => (⟨#[c]⟩ : Str)).map PyData.str)) (.list []) = nameV (.str s) := by
                rw [en]
                cases hf : s.cps.toList.filter (fun c => !letterV c) with
                | nil =>
                  rw [List.filter_eq_nil_iff] at hf
                  symm
                  show s.cps.toList.all letterV = true
                  rw [List.all_eq_true]
                  intro c hc
                  have z := hf c hc
                  cases q : letterV c with
                  | true => rfl
                  | false => rw [q] at z; exact absurd rfl z
                | cons c r =>
                  symm
                  show s.cps.toList.all letterV = false
                  have z : c ∈ s.cps.toList.filter (fun c => !letterV c) := by rw [hf]; exact List.mem_cons_self
                  obtain ⟨z1, z2⟩ := List.mem_filter.mp z
                  cases q : s.cps.toList.all letterV with
                  | false => rfl
                  | true =>
                    rw [List.all_eq_true] at q
                    rw [q c z1] at z2
                    cases z2
              rw [fin_]
              exact k _ (same_new s1 hp)
      · refine ⟨_, rfl, ?_⟩
        refine iteT ?_
        rw [Bool.eq_false_iff.mpr c1] at en
        rw [en] at k
        exact k _ (Same.refl _)
    | _ =>
      refine iteT ?_
      refine iteT ?_
      exact k _ (Same.refl _)
/-! ### _law_is_whole -/
theorem sc41 : FnScope ["_law_thing", "_law_least", "_law_most"] ["_law_thing", "_law_least", "_law_most"] (defScope (top 41)) := ⟨rfl, rfl, rfl, by decide +kernel, rfl, by decide +kernel, by decide +kernel⟩
theorem ok41 {f : Addr} {fd : FuncData} (F : Fun K "_law_is_whole" "_law_is_whole" (top 41) f fd) (B : Blt mg) : FnOk P w K mg base CX0 1 f fd ["_law_thing", "_law_least", "_law_most"] spWithin := by
  refine F.ok sc41 (fun vs H Q E h => ?_) (fun cdv A outer s H vs Q E hr h => ?_)
  · obtain ⟨v, lo, hi, rfl, _⟩ := h
    rfl
  · obtain ⟨v, lo, hi, rfl, d, k⟩ := h
    refine ⟨_, pss_one (ps_ret (pe_and (pt_isi B (pv 0) B.int PyProof.Rows.boot_int) (pe_and (pe_not (pt_isi B (pv 0) B.bool PyProof.Rows.boot_bool)) (pe_one (pe_chain op_le op_le (pv 1) (pv 0) (pv 2)))))), ?_⟩
    refine isi_rd rfl (ans_int d) ⟨_, rfl, ?_⟩
    cases v with
    | int i =>
      refine iteT ?_
      refine isi_rd rfl (ans_bool d) ⟨_, rfl, _, rfl, ?_⟩
      refine iteT ?_
      have e : wholeV (.int i) lo hi = (decide (lo ≤ i) && decide (i ≤ hi)) := rfl
      refine ⟨_, rfl, _, rfl, _, _, rfl, rfl, _, rfl, ?_⟩
      refine ite2 (fun c1 => ?_) (fun c1 => ?_)
      · refine ⟨_, rfl, _, _, rfl, rfl, ?_⟩
        rw [c1, Bool.true_and] at e
        rw [e] at k
        exact k
      · rw [Bool.eq_false_iff.mpr c1, Bool.false_and] at e
        rw [e] at k
        exact k
    | bl b =>
      refine iteT ?_
      refine isi_rd rfl (ans_bool d) ⟨_, rfl, _, rfl, ?_⟩
      refine iteF ?_
      exact k
    | _ =>
      refine iteF ?_
      exact k
end
end K1

set_option Elab.async false
set_option linter.all false
set_option maxRecDepth 100000
set_option maxHeartbeats 4000000
namespace K1
open PySem L2
theorem cut_to {xs : List V} {i : Nat} (h : i ≤ xs.length) : cutV xs none (some (i : Int)) = xs.take i := by
  unfold cutV
  rw [HT.sIx_none, HT.sIx_nat, List.drop_zero, Nat.sub_zero, Nat.min_eq_left h]
theorem names_zero {H : Hp} {v : V} {most : Int} {bar : List Str} : namesAt H v 0 most bar = firstBad H v most bar := by
  unfold namesAt
  rcases firstBad_kind (H := H) (v := v) (most := most) (bar := bar) with ⟨e, xs, hl⟩ | ⟨i, e⟩
  · rw [e, hl]
    show (if (xs.length : Int) < 0 then V.int (-1) else .non) = .non
    rw [if_neg (by omega)]
  · rw [e]
theorem names_list {H : Hp} {v : V} {xs : List V} {lo hi : Int} {bar : List Str} (hl : lstOf H v = some xs) (h1 : lo ≤ 1) : namesAt H v lo hi bar = if (decide (lo ≤ (xs.length : Int)) && decide ((xs.length : Int) ≤ hi)) = true then optV (badFrom bar xs [] 0) else .int (-1) := by
  unfold namesAt firstBad
  rw [hl]
  show (match (if (hi : Int) < (xs.length : Int) then V.int (-1) else optV (badFrom bar xs [] 0)) with | .non => (if (xs.length : Int) < lo then V.int (-1) else .non) | x => x) = _
  by_cases c : (hi : Int) < (xs.length : Int)
  · rw [if_pos c, decide_eq_false (show ¬ (xs.length : Int) ≤ hi by omega), Bool.and_false]
    rfl
  · rw [if_neg c, decide_eq_true (show (xs.length : Int) ≤ hi by omega), Bool.and_true]
    by_cases c2 : lo ≤ (xs.length : Int)
    · rw [decide_eq_true c2]
      show _ = optV (badFrom bar xs [] 0)
      cases badFrom bar xs [] 0 with
      | none =>
        show (if (xs.length : Int) < lo then V.int (-1) else .non) = .non
        rw [if_neg (by omega)]
      | some i => rfl
    · have e : xs = [] := List.length_eq_zero_iff.mp (by omega)
      subst e
      rw [decide_eq_false c2]
      show (if (([] : List V).length : Int) < lo then V.int (-1) else .non) = V.int (-1)
      rw [if_pos (by omega)]
section
variable {P : Program} {w : World} {K : PySem.W.Frag} {mg : Str → Option Value} {base : Heap} {C : Addr}
/-! ### _law_names_fault -/
def spNF : Sp := fun vs H Q _ => ∃ (v : V) (lo hi : Int) (b : Addr) (bar : List Str), vs = [v, .int lo, .int hi, .ref b] ∧ Dat H v ∧ H b = some (.lst (bar.map V.str)) ∧ lo ≤ 1 ∧ hi ≤ 100 ∧ ∀ H', Same H H' → Q (namesAt H v lo hi bar) H'
theorem sc42 : FnScope ["_law_thing", "_law_least", "_law_most", "_law_taken", "_law_at", "_law_name"] ["_law_thing", "_law_least", "_law_most", "_law_taken"] (defScope (top 42)) := ⟨rfl, rfl, rfl, by decide +kernel, rfl, by decide +kernel, by decide +kernel⟩
theorem ok42 {f : Addr} {fd : FuncData} (F : Fun K "_law_names_fault" "_law_names_fault" (top 42) f fd) (B : Blt mg) (C40 : Cal P w K mg base CX0 1 "_law_is_name" ["_law_thing"] spName) : FnOk P w K mg base CX0 2 f fd ["_law_thing", "_law_least", "_law_most", "_law_taken"] spNF := by
  refine F.ok sc42 (fun vs H Q E h => ?_) (fun cdv A outer s H vs Q E hr h => ?_)
  · obtain ⟨v, lo, hi, b, bar, rfl, _⟩ := h
    rfl
  · obtain ⟨v, lo, hi, b, bar, rfl, d, hb, hlo, hhi, k⟩ := h
    refine ⟨_, pss_cons (ps_if (PW.pt (pw_or (pt_not (pt_val (pt_isi B (pv 0) B.list PyProof.Rows.boot_list))) (pw_or1 (pt_not (pt_chain op_le op_le (pv 1) (pe_callB call_len_seq rfl B.len PySem.boot_len (pa_cons (pv 0) pa_nil)) (pv 2)))))) (pss_one (ps_ret (pe_op op_sub pe_int pe_int))) pss_nil)
      (pss_cons (ps_for PassesOwn.never rfl (pi_enum rfl B.enumerate (pa_cons (pv 0) pa_nil)) (pg_tup rfl (pgs_cons (pg_name (i := 4) sc42.nd rfl (Or.inl rfl)) (pgs_cons (pg_name (i := 5) sc42.nd rfl (Or.inl rfl)) pgs_nil)))
        (pss_one (ps_if (PW.pt (pw_or (pt_not (pt_val (pe_cal C40 hr (by decide) pass0 (pa_cons (pv 5) pa_nil)))) (pw_or (pt_cmpR op_in_seq (pv 5) (pe_slice sl_list (pv 0) po_none (po_some (pv 4))) rfl) (pw_or1 (pt_cmpR op_in_seq (pv 5) (pv 3) rfl))))) (pss_one (ps_ret (pv 4))) pss_nil)))
      (pss_one (ps_ret pe_non))), ?_⟩
    refine isi_rd rfl (ans_list d) ⟨_, rfl, ?_⟩
    cases hl : lstOf H v with
    | none =>
      have e : namesAt H v lo hi bar = .int (-1) := by unfold namesAt firstBad; rw [hl]
      rw [e] at k
      refine iteT ?_
      refine iteT ?_
      exact ⟨_, _, rfl, rfl, k _ (Same.refl _)⟩
    | some xs =>
      have e := names_list (bar := bar) (hi := hi) hl hlo
      obtain ⟨a, rfl, ha⟩ := lstOf_some hl
      refine iteF ?_
      rw [e] at k
      refine ⟨_, rfl, _, rfl, a, xs, rfl, .inl (SqL.of ha), _, _, rfl, rfl, _, rfl, ?_⟩
      refine ite2 (fun c1 => ?_) (fun c1 => ?_)
      · refine ⟨_, rfl, _, _, rfl, rfl, _, rfl, ?_⟩
        refine ite2 (fun c2 => ?_) (fun c2 => ?_)
        · have c3 : decide ((xs.length : Int) ≤ hi) = false := by
            cases z : decide ((xs.length : Int) ≤ hi) with
            | false => rfl
            | true => rw [z] at c2; cases c2
          rw [c3, Bool.and_false, if_neg Bool.false_ne_true] at k
          exact ⟨_, _, rfl, rfl, k _ (Same.refl _)⟩
        · have c3 : decide ((xs.length : Int) ≤ hi) = true := by
            cases z : decide ((xs.length : Int) ≤ hi) with
            | true => rfl
            | false => rw [z] at c2; exact absurd rfl c2
          rw [c1, c3, Bool.true_and, if_pos rfl] at k
          have hlen : xs.length ≤ 100 := by have := of_decide_eq_true c3; omega
          have di := d.items ha
          refine ⟨_, rfl, a, xs, rfl, SqL.of ha, ?_⟩
          refine for_enum (fun i σ H1 => ∃ (ss : List Str) (v4 v5 : Option V), σ = [some (.ref a), some (.int lo), some (.int hi), some (.ref b), v4, v5] ∧ Same H H1 ∧ xs.take i = ss.map V.str ∧ ss.length = i ∧ i ≤ xs.length ∧ badFrom bar xs [] 0 = badFrom bar (xs.drop i) ss i)
            ⟨[], none, none, rfl, Same.refl _, rfl, rfl, Nat.zero_le _, rfl⟩ (fun i σ H1 _ ⟨_, _, _, _, s1, _⟩ => SqL.of (s1 _ _ ha)) ?_ ?_
          · rintro i x σ H1 T hx ⟨ss, v4, v5, rfl, s1, ht, hsl, hi', hbad⟩ hT
            refine pair_rd ?_
            have s2 : Same H (upd H1 T (.tup [.int (i : Nat), x])) := same_new s1 hT
            have dx : Dat H x := di x (List.mem_of_getElem? hx)
            rw [drop_at hx] at hbad
            refine ⟨_, rfl, x, rfl, dx.mono s2, fun H3 s3 => ⟨_, rfl, ?_⟩⟩
            have s4 := s2.trans s3
            cases hn : nameV x with
            | false =>
              rw [badFrom_no hn] at hbad
              refine iteT ?_
              refine iteT ?_
              rw [hbad] at k
              exact ⟨_, rfl, k _ s4⟩
            | true =>
              obtain ⟨z, rfl, hz⟩ := nameV_is hn
              refine iteF ?_
              rw [badFrom_str, hz, Bool.true_and] at hbad
              refine ⟨_, rfl, _, rfl, _, rfl, _, rfl, a, xs, rfl, SqL.of (s4 _ _ ha), fun p hp => ?_⟩
              have s5 := same_new (o := .lst (cutV xs none (some (i : Int)))) s4 hp
              have cut := cut_to (xs := xs) (i := i) hi'
              refine ⟨p, ss.map V.str, rfl, .inl (SqL.of (by rw [upd_same, cut, ht])), rfl, flat_str _, _, rfl, ?_⟩
              rw [if_neg (show ¬ (false = true) from Bool.false_ne_true), inV_str]
              cases hc : ss.contains z with
              | true =>
                rw [hc, if_neg (by simp)] at hbad
                refine iteT ?_
                refine iteT ?_
                rw [hbad] at k
                exact ⟨_, rfl, k _ s5⟩
              | false =>
                rw [hc] at hbad
                refine iteF ?_
                refine ⟨_, rfl, _, rfl, b, _, rfl, .inl (SqL.of (s5 _ _ hb)), rfl, flat_str _, _, rfl, ?_⟩
                rw [if_neg (show ¬ (false = true) from Bool.false_ne_true), inV_str]
                cases hc2 : bar.contains z with
                | true =>
                  rw [hc2, if_neg (by simp)] at hbad
                  refine iteT ?_
                  rw [hbad] at k
                  exact ⟨_, rfl, k _ s5⟩
                | false =>
                  rw [hc2, if_pos (by simp)] at hbad
                  refine iteF ?_
                  refine ⟨ss ++ [z], _, _, rfl, s5, ?_, ?_, ?_, hbad⟩
                  · rw [start_drop _ _ _ hx, ht, List.map_append]
                    rfl
                  · rw [List.length_append, hsl]; rfl
                  · exact (List.getElem?_eq_some_iff.mp hx).1
          · rintro σ H1 ⟨ss, v4, v5, rfl, s1, ht, hsl, hi', hbad⟩
            rw [List.drop_eq_nil_of_le (Nat.le_refl _)] at hbad
            rw [hbad] at k
            exact k _ s1
      · refine ⟨_, rfl, ?_⟩
        refine iteT ?_
        rw [Bool.eq_false_iff.mpr c1, Bool.false_and, if_neg Bool.false_ne_true] at k
        exact ⟨_, _, rfl, rfl, k _ (Same.refl _)⟩
/-! ### _law_radices_fault -/
def spRF : Sp := fun vs H Q _ => ∃ (v : V) (th : Int), vs = [.int th, v] ∧ Dat H v ∧ 1 ≤ th ∧ th ≤ 12 ∧ ∀ H', Same H H' → Q (radicesAt H v th) H'
theorem sc44 : FnScope ["_law_pace", "_law_thing", "_law_at", "_law_radix"] ["_law_pace", "_law_thing"] (defScope (top 44)) := ⟨rfl, rfl, rfl, by decide +kernel, rfl, by decide +kernel, by decide +kernel⟩
theorem ok44 {f : Addr} {fd : FuncData} (F : Fun K "_law_radices_fault" "_law_radices_fault" (top 44) f fd) (B : Blt mg) (C41 : Cal P w K mg base CX0 1 "_law_is_whole" ["_law_thing", "_law_least", "_law_most"] spWithin) : FnOk P w K mg base CX0 2 f fd ["_law_pace", "_law_thing"] spRF := by
  refine F.ok sc44 (fun vs H Q E h => ?_) (fun cdv A outer s H vs Q E hr h => ?_)
  · obtain ⟨v, th, rfl, _⟩ := h
    rfl
  · obtain ⟨v, th, rfl, d, t1, t2, k⟩ := h
    refine ⟨_, pss_cons (ps_if (pt_not (pt_val (pt_isi B (pv 1) B.list PyProof.Rows.boot_list))) (pss_one (ps_ret (pe_op op_sub pe_int pe_int))) pss_nil)
      (pss_cons (ps_for PassesOwn.never rfl (pi_enum rfl B.enumerate (pa_cons (pv 1) pa_nil)) (pg_tup rfl (pgs_cons (pg_name (i := 2) sc44.nd rfl (Or.inl rfl)) (pgs_cons (pg_name (i := 3) sc44.nd rfl (Or.inl rfl)) pgs_nil)))
        (pss_cons (ps_if (PW.pt (pw_or (pt_not (pt_val (pe_cal C41 hr (by decide) pass0 (pa_cons (pv 3) (pa_cons pe_int (pa_cons pe_int pa_nil)))))) (pw_or1 (pt_cmpR op_gt (pe_op op_mul (pv 0) (pv 3)) pe_int (nomark _))))) (pss_one (ps_ret (pv 2))) pss_nil)
          (pss_one (ps_set (i := 0) sc44.nd rfl (Or.inl rfl) (pe_op op_mul (pv 0) (pv 3))))))
      (pss_one (ps_ret pe_non))), ?_⟩
    refine isi_rd rfl (ans_list d) ⟨_, rfl, ?_⟩
    cases hl : lstOf H v with
    | none =>
      have e : radicesAt H v th = .int (-1) := by unfold radicesAt; rw [hl]
      rw [e] at k
      refine iteT ?_
      exact ⟨_, _, rfl, rfl, k _ (Same.refl _)⟩
    | some xs =>
      obtain ⟨a, rfl, ha⟩ := lstOf_some hl
      refine iteF ?_
      have e : radicesAt H (.ref a) th = optV (radFrom xs th 0) := by unfold radicesAt; rw [hl]
      rw [e] at k
      have di := d.items ha
      refine ⟨_, rfl, a, xs, rfl, SqL.of ha, ?_⟩
      refine for_enum (fun i σ H1 => ∃ (tot : Int) (v4 v5 : Option V), σ = [some (.int tot), some (.ref a), v4, v5] ∧ Same H H1 ∧ 1 ≤ tot ∧ tot ≤ 12 ∧ radFrom xs th 0 = radFrom (xs.drop i) tot i)
        ⟨th, none, none, rfl, Same.refl _, t1, t2, rfl⟩ (fun i σ H1 _ ⟨_, _, _, _, s1, _⟩ => SqL.of (s1 _ _ ha)) ?_ ?_
      · rintro i x σ H1 T hx ⟨tot, v4, v5, rfl, s1, o1, o2, hbad⟩ hT
        refine pair_rd ?_
        have s2 : Same H (upd H1 T (.tup [.int (i : Nat), x])) := same_new s1 hT
        have dx : Dat H x := di x (List.mem_of_getElem? hx)
        rw [drop_at hx] at hbad
        refine ⟨_, rfl, x, 2, 12, rfl, dx.mono s2, _, rfl, ?_⟩
        cases hw : wholeV x 2 12 with
        | false =>
          refine iteT ?_
          refine iteT ?_
          have out : radFrom (x :: xs.drop (i + 1)) tot i = some i := by
            by_cases ci : intV x = true
            · obtain ⟨j, rfl⟩ := intV_is ci
              rw [radFrom_int]
              have hw' : (decide (2 ≤ j) && decide (j ≤ 12)) = false := hw
              by_cases c2 : j < 2
              · rw [decide_eq_true c2, Bool.true_or, if_pos rfl]
              · have c12 : 12 < j := by
                  rw [decide_eq_true (show 2 ≤ j by omega), Bool.true_and] at hw'
                  have := of_decide_eq_false hw'
                  omega
                have : 1 * j ≤ tot * j := Int.mul_le_mul_of_nonneg_right o1 (by omega)
                rw [decide_eq_true (show (12 : Int) < tot * j by omega), Bool.or_true, if_pos rfl]
            · exact radFrom_no ci
          rw [hbad, out] at k
          exact ⟨_, rfl, k _ s2⟩
        | true =>
          obtain ⟨j, rfl, j2, j12⟩ := whole_ok hw
          rw [radFrom_int, decide_eq_false (show ¬ j < 2 by omega), Bool.false_or] at hbad
          refine iteF ?_
          refine ⟨_, rfl, _, rfl, _, _, rfl, rfl, .inl ⟨by omega, by omega⟩, _, _, rfl, rfl, _, rfl, ?_⟩
          refine ite2 (fun c2 => ?_) (fun c2 => ?_)
          · rw [if_pos c2] at hbad
            rw [hbad] at k
            exact ⟨_, rfl, k _ s2⟩
          · rw [if_neg c2] at hbad
            refine ⟨_, rfl, _, rfl, _, _, rfl, rfl, .inl ⟨by omega, by omega⟩, ?_⟩
            have hi : ¬ 12 < tot * j := fun z => c2 (decide_eq_true z)
            have : 1 * 1 ≤ tot * j := Int.mul_le_mul o1 (by omega) (by decide) (by omega)
            exact ⟨tot * j, _, _, rfl, s2, by omega, by omega, hbad⟩
      · rintro σ H1 ⟨tot, v4, v5, rfl, s1, o1, o2, hbad⟩
        rw [List.drop_eq_nil_of_le (Nat.le_refl _)] at hbad
        rw [hbad] at k
        exact k _ s1
end
end K1

set_option Elab.async false
set_option linter.all false
set_option maxRecDepth 100000
set_option maxHeartbeats 4000000
namespace K1
open PySem L2
/-- isinstance(x[j], T), x a tuple in slot i -/
theorem isi_ix {K : PySem.W.Frag} {σ : St} {H : Hp} {i : Nat} {p : Addr} {ys : List V} {j : Int} {v : V} {T : String} {b : Bool} {Q : VK} (hv : σ[i]? = some (some (.ref p))) (hp : SqT K H p ys) (hj : atI ys j = some v) (a : Ans K H v T b) (q : Q (.bl b) H) :
    tCB (rIsi K) (tCons (tOp (rIxT K) (tVar i) (tC (.int j))) (tCons (tC (.ty T)) tNil)) σ H Q := by
  refine ⟨_, hv, p, ys, j, v, rfl, rfl, hp, hj, ?_⟩
  show rIsi K [v, .ty T] H Q
  exact a.rd q
section
variable {P : Program} {w : World} {K : PySem.W.Frag} {mg : Str → Option Value} {base : Heap} {C : Addr}
/-! ### _law_classes_fault -/
def spCF : Sp := fun vs H Q _ => ∃ (v : V), vs = [v] ∧ Dat H v ∧ ∀ H', Same H H' → Q (classesAt H v) H'
theorem sc43 : FnScope ["_law_thing", "_law_seen", "_law_at", "_law_row"] ["_law_thing"] (defScope (top 43)) := ⟨rfl, rfl, rfl, by decide +kernel, rfl, by decide +kernel, by decide +kernel⟩
theorem ok43 {f : Addr} {fd : FuncData} (F : Fun K "_law_classes_fault" "_law_classes_fault" (top 43) f fd) (B : Blt mg) (C40 : Cal P w K mg base CX0 1 "_law_is_name" ["_law_thing"] spName)
    (C41 : Cal P w K mg base CX0 1 "_law_is_whole" ["_law_thing", "_law_least", "_law_most"] spWithin) (C42 : Cal P w K mg base CX0 2 "_law_names_fault" ["_law_thing", "_law_least", "_law_most", "_law_taken"] spNF) :
    FnOk P w K mg base CX0 3 f fd ["_law_thing"] spCF := by
  refine F.ok sc43 (fun vs H Q E h => ?_) (fun cdv A outer s H vs Q E hr h => ?_)
  · obtain ⟨v, rfl, _⟩ := h
    rfl
  · obtain ⟨v, rfl, d, k⟩ := h
    refine ⟨_, pss_cons (ps_if (PW.pt (pw_or (pt_not (pt_val (pt_isi B (pv 0) B.list PyProof.Rows.boot_list))) (pw_or1 (pt_not (pt_chain op_le op_le pe_int (pe_callB call_len_seq rfl B.len PySem.boot_len (pa_cons (pv 0) pa_nil)) pe_int))))) (pss_one (ps_ret (pe_op op_sub pe_int pe_int))) pss_nil)
      (pss_cons (ps_set (i := 1) sc43.nd rfl (Or.inl rfl) (pe_lst pa_nil))
      (pss_cons (ps_for PassesOwn.never rfl (pi_enum rfl B.enumerate (pa_cons (pv 0) pa_nil)) (pg_tup rfl (pgs_cons (pg_name (i := 2) sc43.nd rfl (Or.inl rfl)) (pgs_cons (pg_name (i := 3) sc43.nd rfl (Or.inl rfl)) pgs_nil)))
        (pss_cons (ps_if (PW.pt (pw_or (pt_not (pt_val (pt_isi B (pv 3) B.tuple PyProof.Rows.boot_tuple))) (pw_or (pt_cmpR op_ne (pe_callB call_len_seq rfl B.len PySem.boot_len (pa_cons (pv 3) pa_nil)) pe_int (nomark _)) (pw_or (pt_not (pt_val (pe_cal C40 hr (by decide) pass0 (pa_cons (pe_ix ix_tup (pv 3) pe_int (fun _ _ => rfl)) pa_nil)))) (pw_or1 (pt_cmpR op_in_seq (pe_ix ix_tup (pv 3) pe_int (fun _ _ => rfl)) (pv 1) rfl)))))) (pss_one (ps_ret (pv 2))) pss_nil)
        (pss_cons (ps_if (PW.pt (pw_or (pt_not (pt_val (pe_cal C41 hr (by decide) pass0 (pa_cons (pe_ix ix_tup (pv 3) pe_int (fun _ _ => rfl)) (pa_cons pe_int (pa_cons pe_int pa_nil)))))) (pw_or1 (pt_cmpR op_notN (pe_cal C42 hr (by decide) pass0 (pa_cons (pe_ix ix_tup (pv 3) pe_int (fun _ _ => rfl)) (pa_cons pe_int (pa_cons pe_int (pa_cons (pe_lst pa_nil) pa_nil))))) pe_non (nomark _))))) (pss_one (ps_ret (pv 2))) pss_nil)
        (pss_cons (ps_if (pt_not (pt_val (pt_isi B (pe_ix ix_tup (pv 3) pe_int (fun _ _ => rfl)) B.bool PyProof.Rows.boot_bool))) (pss_one (ps_ret (pv 2))) pss_nil)
        (pss_one (ps_expr (pe_bm PySem.F.plainAttrs_list PySem.F.slot_list_append PySem.F.type_list_append mt_append (pv 1) (pa_cons (pe_ix ix_tup (pv 3) pe_int (fun _ _ => rfl)) pa_nil))))))))
      (pss_one (ps_ret pe_non)))), ?_⟩
    refine isi_rd rfl (ans_list d) ⟨_, rfl, ?_⟩
    cases hl : lstOf H v with
    | none =>
      have e : classesAt H v = .int (-1) := by unfold classesAt; rw [hl]
      rw [e] at k
      refine iteT ?_
      refine iteT ?_
      exact ⟨_, _, rfl, rfl, k _ (Same.refl _)⟩
    | some xs =>
      obtain ⟨a, rfl, ha⟩ := lstOf_some hl
      refine iteF ?_
      have e : classesAt H (.ref a) = if (decide ((1 : Int) ≤ (xs.length : Int)) && decide ((xs.length : Int) ≤ 6)) = true then optV (clsFrom H xs [] 0) else .int (-1) := by unfold classesAt; rw [hl]
      rw [e] at k
      refine ⟨_, rfl, a, xs, rfl, .inl (SqL.of ha), _, _, rfl, rfl, _, rfl, ?_⟩
      refine ite2 (fun c1 => ?_) (fun c1 => ?_)
      · refine ⟨_, _, rfl, rfl, _, rfl, ?_⟩
        refine ite2 (fun c2 => ?_) (fun c2 => ?_)
        · have c3 : decide ((xs.length : Int) ≤ 6) = false := by
            cases z : decide ((xs.length : Int) ≤ 6) with
            | false => rfl
            | true => rw [z] at c2; cases c2
          rw [c3, Bool.and_false, if_neg Bool.false_ne_true] at k
          exact ⟨_, _, rfl, rfl, k _ (Same.refl _)⟩
        · have c3 : decide ((xs.length : Int) ≤ 6) = true := by
            cases z : decide ((xs.length : Int) ≤ 6) with
            | true => rfl
            | false => rw [z] at c2; exact absurd rfl c2
          rw [c1, c3, Bool.true_and, if_pos rfl] at k
          have di := d.items ha
          have hlen : xs.length ≤ 6 := by have := of_decide_eq_true c3; omega
          refine ⟨by decide, fun D hD => ?_⟩
          have s0 : Same H (upd H D (.lst [])) := same_new (Same.refl _) hD
          refine ⟨_, rfl, a, xs, rfl, SqL.of (s0 _ _ ha), ?_⟩
          refine for_enum (fun i σ H1 => ∃ (ss : List Str) (v4 v5 : Option V), σ = [some (.ref a), some (.ref D), v4, v5] ∧ Same H H1 ∧ H1 D = some (.lst (ss.map V.str)) ∧ ss.length = i ∧ i ≤ xs.length ∧ clsFrom H xs [] 0 = clsFrom H (xs.drop i) ss i)
            ⟨[], none, none, rfl, s0, upd_same, rfl, Nat.zero_le _, rfl⟩ (fun i σ H1 _ ⟨_, _, _, _, s1, _⟩ => SqL.of (s1 _ _ ha)) ?_ ?_
          · rintro i x σ H1 T hx ⟨ss, v4, v5, rfl, s1, hD1, hsl, hi, hbad⟩ hT
            refine pair_rd ?_
            have s2 : Same H (upd H1 T (.tup [.int (i : Nat), x])) := same_new s1 hT
            have dx : Dat H x := di x (List.mem_of_getElem? hx)
            have dx2 := dx.mono s2
            rw [drop_at hx] at hbad
            have hD2 : (upd H1 T (.tup [.int (i : Nat), x])) D = some (.lst (ss.map V.str)) := by rw [upd_ne (ne_of_none hD1 hT)]; exact hD1
            have step : clsFrom H (x :: xs.drop (i + 1)) ss i = if classOk H x ss = true then clsFrom H (xs.drop (i + 1)) (ss ++ [nameOf H x]) (i + 1) else some i := rfl
            rw [step] at hbad
            have no : classOk H x ss = false → ∀ H', Same H H' → Q (.int (i : Nat)) H' := fun z H' s' => by
              rw [z, if_neg Bool.false_ne_true] at hbad
              rw [hbad] at k
              exact k _ s'
            refine isi_rd rfl (ans_tup dx2) ⟨_, rfl, ?_⟩
            cases ht : tupOf (upd H1 T (.tup [.int (i : Nat), x])) x with
            | none =>
              rw [tupOf_same dx s2] at ht
              refine iteT ?_
              refine iteT ?_
              exact ⟨_, rfl, no (classOk_not fun ys e => by rw [ht] at e; cases e) _ s2⟩
            | some ys =>
              rw [tupOf_same dx s2] at ht
              obtain ⟨p, rfl, hp⟩ := tupOf_some ht
              refine iteF ?_
              refine ⟨_, rfl, p, ys, rfl, .inr (SqT.of (s2 _ _ hp)), rfl, _, rfl, ?_⟩
              by_cases c4 : ys.length = 4
              · obtain ⟨n, z, fl, b, rfl⟩ := four c4
                refine iteF ?_
                have ck := classOk_four (seen := ss) ht
                have dt := dx.itemsT hp
                refine ⟨_, rfl, p, _, 0, n, rfl, rfl, SqT.of (s2 _ _ hp), rfl, n, rfl, (dt n (by simp)).mono s2, fun H3 s3 => ⟨_, rfl, ?_⟩⟩
                have s4 := s2.trans s3
                cases hn : nameV n with
                | false =>
                  rw [hn, Bool.false_and, Bool.false_and, Bool.false_and] at ck
                  refine iteT ?_
                  refine iteT ?_
                  exact ⟨_, rfl, no ck _ s4⟩
                | true =>
                  obtain ⟨t, rfl, hz⟩ := nameV_is hn
                  refine iteF ?_
                  refine ⟨_, rfl, p, _, 0, .str t, rfl, rfl, SqT.of (s4 _ _ hp), rfl, _, rfl, D, _, rfl, .inl (SqL.of (s3 _ _ hD2)), rfl, flat_str _, _, rfl, ?_⟩
                  rw [if_neg (show ¬ (false = true) from Bool.false_ne_true), inV_str]
                  rw [hn, show strOf (.str t) = t from rfl, Bool.true_and] at ck
                  cases hc : ss.contains t with
                  | true =>
                    rw [hc, Bool.not_true, Bool.false_and, Bool.false_and] at ck
                    refine iteT ?_
                    exact ⟨_, rfl, no ck _ s4⟩
                  | false =>
                    rw [hc, Bool.not_false, Bool.true_and] at ck
                    refine iteF ?_
                    refine ⟨_, rfl, p, _, 1, z, rfl, rfl, SqT.of (s4 _ _ hp), rfl, z, 1, 8, rfl, (dt z (by simp)).mono s4, _, rfl, ?_⟩
                    cases hw : wholeV z 1 8 with
                    | false =>
                      rw [hw, Bool.false_and] at ck
                      refine iteT ?_
                      refine iteT ?_
                      exact ⟨_, rfl, no ck _ s4⟩
                    | true =>
                      rw [hw, Bool.true_and] at ck
                      refine iteF ?_
                      refine ⟨_, rfl, p, _, 2, fl, rfl, rfl, SqT.of (s4 _ _ hp), rfl, by decide, fun q hq => ?_⟩
                      have s5 := same_new (o := .lst []) s4 hq
                      have df := dt fl (by simp)
                      refine ⟨fl, 0, 3, q, [], rfl, df.mono s5, upd_same, by decide, by decide, fun H6 s6 => ⟨rfl, _, rfl, ?_⟩⟩
                      have s7 := s5.trans s6
                      rw [names_zero, firstBad_same df s5]
                      cases hf : decide (firstBad H fl 3 [] = V.non) with
                      | false =>
                        rw [hf, Bool.false_and] at ck
                        refine iteT ?_
                        exact ⟨_, rfl, no ck _ s7⟩
                      | true =>
                        rw [hf, Bool.true_and] at ck
                        refine iteF ?_
                        refine isi_ix rfl (SqT.of (s7 _ _ hp)) rfl (ans_bool ((dt b (by simp)).mono s7)) ⟨_, rfl, ?_⟩
                        cases hb : isB b with
                        | false =>
                          rw [hb] at ck
                          refine iteT ?_
                          exact ⟨_, rfl, no ck _ s7⟩
                        | true =>
                          rw [hb] at ck
                          refine iteF ?_
                          have hD7 : H6 D = some (.lst (ss.map V.str)) := s6 _ _ (by rw [upd_ne (ne_of_none (s3 _ _ hD2) hq)]; exact s3 _ _ hD2)
                          refine ⟨_, rfl, .inl ⟨rfl, _, SqL.of hD7⟩, _, rfl, p, _, 0, .str t, rfl, rfl, SqT.of (s7 _ _ hp), rfl, D, _, _, rfl, rfl, hD7, ?_, ?_⟩
                          · rw [List.length_map, sizeLine_eq]
                            omega
                          · refine ⟨ss ++ [t], _, _, rfl, fun c o e => ?_, ?_, ?_, (List.getElem?_eq_some_iff.mp hx).1, ?_⟩
                            · rw [upd_ne (ne_of_none e hD)]
                              exact s7 c o e
                            · rw [upd_same, List.map_append]
                              rfl
                            · rw [List.length_append, hsl]; rfl
                            · rw [hbad, ck, if_pos rfl, show nameOf H (.ref p) = t from by unfold nameOf; rw [tupOf_of hp]; rfl]
              · rw [show (!decide (V.int (ys.length : Nat) = V.int 4)) = true from by rw [decide_eq_false (fun z => c4 (by have := V.int.inj z; omega))]; rfl]
                refine iteT ?_
                refine iteT ?_
                exact ⟨_, rfl, no (classOk_not fun zs e => by rw [ht] at e; cases e; exact c4) _ s2⟩
          · rintro σ H1 ⟨ss, v4, v5, rfl, s1, hD1, hsl, hi, hbad⟩
            rw [List.drop_eq_nil_of_le (Nat.le_refl _)] at hbad
            rw [hbad] at k
            exact k _ s1
      · refine ⟨_, rfl, ?_⟩
        refine iteT ?_
        rw [Bool.eq_false_iff.mpr c1, Bool.false_and, if_neg Bool.false_ne_true] at k
        exact ⟨_, _, rfl, rfl, k _ (Same.refl _)⟩
end
end K1

set_option Elab.async false
set_option linter.all false
set_option maxRecDepth 100000
set_option maxHeartbeats 4000000
namespace K1
open PySem L2
theorem dget_of {H : Hp} {a : Addr} {kvs : List (Key × V)} {s : Str} {v : V} (h : H a = some (.dK kvs)) (e : valV kvs (Sum.inr s) = some v) : DGet H a (.str s) (some v) := by
  rw [← e]
  exact DGet.k (k := Sum.inr s) h
/-- a dict with the five parts stands at d -/
structure PartsAt (H : Hp) (d : Addr) (c n l p r : V) : Prop where
  ex : ∃ kvs, H d = some (.dK kvs) ∧ valV kvs (Sum.inr ("classes" : Str)) = some c ∧ valV kvs (Sum.inr ("names" : Str)) = some n ∧ valV kvs (Sum.inr ("loose" : Str)) = some l ∧ valV kvs (Sum.inr ("pace" : Str)) = some p ∧ valV kvs (Sum.inr ("rest" : Str)) = some r
  dc : Dat H c
  dn : Dat H n
  dl : Dat H l
  dp : Dat H p
  dr : Dat H r
theorem PartsAt.mono {H H' : Hp} {d : Addr} {c n l p r : V} (h : PartsAt H d c n l p r) (s : Same H H') : PartsAt H' d c n l p r := by
  obtain ⟨kvs, e, h1⟩ := h.ex
  exact ⟨⟨kvs, s _ _ e, h1⟩, h.dc.mono s, h.dn.mono s, h.dl.mono s, h.dp.mono s, h.dr.mono s⟩
/-- None, or the part and the index as a tuple -/
def Told (o : Option (Str × V)) (H : Hp) (v : V) : Prop := match o with | none => v = .non | some (part, x) => ∃ t, v = .ref t ∧ H t = some (.tup [.str part, x])
section
variable {P : Program} {w : World} {K : PySem.W.Frag} {mg : Str → Option Value} {base : Heap} {C : Addr}
/-! ### _law_fault -/
def spFault : Sp := fun vs H Q _ => ∃ (d : Addr) (c n l p r : V), vs = [.ref d] ∧ PartsAt H d c n l p r ∧ ∀ v H', Same H H' → Told (faultV H c n l p r) H' v → Q v H'
theorem sc45 : FnScope ["_law_parts", "_law_at"] ["_law_parts"] (defScope (top 45)) := ⟨rfl, rfl, rfl, by decide +kernel, rfl, by decide +kernel, by decide +kernel⟩
theorem ok45 {f : Addr} {fd : FuncData} (F : Fun K "_law_fault" "_law_fault" (top 45) f fd) (C43 : Cal P w K mg base CX0 3 "_law_classes_fault" ["_law_thing"] spCF)
    (C42 : Cal P w K mg base CX0 2 "_law_names_fault" ["_law_thing", "_law_least", "_law_most", "_law_taken"] spNF) (C41 : Cal P w K mg base CX0 1 "_law_is_whole" ["_law_thing", "_law_least", "_law_most"] spWithin)
    (C44 : Cal P w K mg base CX0 2 "_law_radices_fault" ["_law_pace", "_law_thing"] spRF) : FnOk P w K mg base CX0 4 f fd ["_law_parts"] spFault := by
  refine F.ok sc45 (fun vs H Q E h => ?_) (fun cdv A outer s H vs Q E hr h => ?_)
  · obtain ⟨d, c, n, l, p, r, rfl, _⟩ := h
    rfl
  · obtain ⟨d, c, n, l, p, r, rfl, ⟨⟨kvs, hd, v1, v2, v3, v4, v5⟩, dc, dn, dl, dp, dr⟩, k⟩ := h
    have hu := hu_of hr
    refine ⟨_, pss_cons (ps_set (i := 1) sc45.nd rfl (Or.inl rfl) (pe_cal C43 hr (by decide) pass0 (pa_cons (pe_dget hu (pv 0) pe_str (fun _ _ => rfl)) pa_nil)))
      (pss_cons (ps_if (pt_cmpR op_notN (pv 1) pe_non (nomark _)) (pss_one (ps_ret (pe_tup (pa_cons pe_str (pa_cons (pv 1) pa_nil))))) pss_nil)
      (pss_cons (ps_set (i := 1) sc45.nd rfl (Or.inl rfl) (pe_cal C42 hr (by decide) pass0 (pa_cons (pe_dget hu (pv 0) pe_str (fun _ _ => rfl)) (pa_cons pe_int (pa_cons pe_int (pa_cons (pe_lst pa_nil) pa_nil))))))
      (pss_cons (ps_if (pt_cmpR op_notN (pv 1) pe_non (nomark _)) (pss_one (ps_ret (pe_tup (pa_cons pe_str (pa_cons (pv 1) pa_nil))))) pss_nil)
      (pss_cons (ps_set (i := 1) sc45.nd rfl (Or.inl rfl) (pe_cal C42 hr (by decide) pass0 (pa_cons (pe_dget hu (pv 0) pe_str (fun _ _ => rfl)) (pa_cons pe_int (pa_cons pe_int (pa_cons (pe_dget hu (pv 0) pe_str (fun _ _ => rfl)) pa_nil))))))
      (pss_cons (ps_if (pt_cmpR op_notN (pv 1) pe_non (nomark _)) (pss_one (ps_ret (pe_tup (pa_cons pe_str (pa_cons (pv 1) pa_nil))))) pss_nil)
      (pss_cons (ps_if (pt_not (pt_val (pe_cal C41 hr (by decide) pass0 (pa_cons (pe_dget hu (pv 0) pe_str (fun _ _ => rfl)) (pa_cons pe_int (pa_cons pe_int pa_nil)))))) (pss_one (ps_ret (pe_tup (pa_cons pe_str (pa_cons (pe_op op_sub pe_int pe_int) pa_nil))))) pss_nil)
      (pss_cons (ps_set (i := 1) sc45.nd rfl (Or.inl rfl) (pe_cal C44 hr (by decide) pass0 (pa_cons (pe_dget hu (pv 0) pe_str (fun _ _ => rfl)) (pa_cons (pe_dget hu (pv 0) pe_str (fun _ _ => rfl)) pa_nil))))
      (pss_one (ps_ret (pe_ifExp (pt_cmpR op_isN (pv 1) pe_non (nomark _)) pe_non (pe_tup (pa_cons pe_str (pa_cons (pv 1) pa_nil)))))))))))))  , ?_⟩
    -- the way out with a tuple
    have out : ∀ {part : Str} {x : V} {H1 : Hp}, Same H H1 → faultV H c n l p r = some (part, x) → ∀ t, H1 t = none → Q (.ref t) (upd H1 t (.tup [.str part, x])) := fun {part x H1} s1 e t ht => by
      refine k _ _ (same_new s1 ht) ?_
      rw [e]
      exact ⟨t, rfl, upd_same⟩
    have two : 2 ≤ sizeLine := by decide
    refine ⟨_, rfl, d, c, rfl, dget_of hd v1, c, rfl, dc, fun H1 s1 => ?_⟩
    refine ⟨_, rfl, rfl, _, rfl, ?_⟩
    by_cases e1 : classesAt H c = .non
    case neg =>
      rw [decide_eq_false e1]
      refine iteT ?_
      exact ⟨_, rfl, two, fun t ht => out s1 (by unfold faultV; rw [if_pos e1]) t ht⟩
    rw [decide_eq_true e1]
    refine iteF ?_
    refine ⟨_, rfl, d, n, rfl, dget_of (s1 _ _ hd) v2, by decide, fun q hq => ?_⟩
    have s2 := same_new (o := .lst []) s1 hq
    refine ⟨n, 1, 8, q, [], rfl, dn.mono s2, upd_same, by decide, by decide, fun H3 s3 => ?_⟩
    rw [namesAt_same dn s2]
    have s4 := s2.trans s3
    refine ⟨_, rfl, rfl, _, rfl, ?_⟩
    by_cases e2 : namesAt H n 1 8 [] = .non
    case neg =>
      rw [decide_eq_false e2]
      refine iteT ?_
      exact ⟨_, rfl, two, fun t ht => out s4 (by unfold faultV; rw [if_neg (by simp [e1]), if_pos e2]) t ht⟩
    rw [decide_eq_true e2]
    refine iteF ?_
    obtain ⟨na, ns, rfl, hna, _, _, _, _⟩ := names_ok e2
    refine ⟨_, rfl, d, l, rfl, dget_of (s4 _ _ hd) v3, _, rfl, d, _, rfl, dget_of (s4 _ _ hd) v2, l, 0, 4, na, ns, rfl, dl.mono s4, s4 _ _ hna, by decide, by decide, fun H5 s5 => ?_⟩
    rw [namesAt_same dl s4]
    have s6 := s4.trans s5
    refine ⟨_, rfl, rfl, _, rfl, ?_⟩
    by_cases e3 : namesAt H l 0 4 ns = .non
    case neg =>
      rw [decide_eq_false e3]
      refine iteT ?_
      exact ⟨_, rfl, two, fun t ht => out s6 (by unfold faultV; rw [strsOf_is hna, if_neg (by simp [e1]), if_neg (by simp [e2]), if_pos e3]) t ht⟩
    rw [decide_eq_true e3]
    refine iteF ?_
    refine ⟨_, rfl, d, p, rfl, dget_of (s6 _ _ hd) v4, p, 1, 12, rfl, dp.mono s6, _, rfl, ?_⟩
    cases e4 : wholeV p 1 12 with
    | false =>
      refine iteT ?_
      exact ⟨_, _, rfl, rfl, two, fun t ht => out s6 (by unfold faultV; rw [strsOf_is hna, if_neg (by simp [e1]), if_neg (by simp [e2]), if_neg (by simp [e3]), if_pos e4]; rfl) t ht⟩
    | true =>
      refine iteF ?_
      obtain ⟨th, rfl, t1, t2⟩ := whole_ok e4
      refine ⟨_, rfl, d, _, rfl, dget_of (s6 _ _ hd) v4, _, rfl, d, r, rfl, dget_of (s6 _ _ hd) v5, r, th, rfl, dr.mono s6, t1, t2, fun H7 s7 => ?_⟩
      rw [radicesAt_same dr s6]
      have s8 := s6.trans s7
      refine ⟨_, rfl, rfl, _, rfl, ?_⟩
      by_cases e5 : radicesAt H r th = .non
      · rw [decide_eq_true e5]
        refine iteT ?_
        refine k _ _ s8 ?_
        have none_ : faultV H c (.ref na) l (.int th) r = none := by
          unfold faultV
          rw [strsOf_is hna, if_neg (by simp [e1]), if_neg (by simp [e2]), if_neg (by simp [e3]), if_neg (by simp [e4]), if_neg (show ¬ radicesAt H r (intOf (.int th)) ≠ .non from by show ¬ radicesAt H r th ≠ .non; simp [e5])]
        rw [none_]
        rfl
      · rw [decide_eq_false e5]
        refine iteF ?_
        exact ⟨_, rfl, two, fun t ht => out s8 (by unfold faultV; rw [strsOf_is hna, if_neg (by simp [e1]), if_neg (by simp [e2]), if_neg (by simp [e3]), if_neg (by simp [e4]), if_pos (show radicesAt H r (intOf (.int th)) ≠ .non from e5)]; rfl) t ht⟩
/-! ### _law_digits -/
def spDig : Sp := fun vs H Q _ => ∃ (c m : Int), vs = [.int c, .int m] ∧ 0 ≤ m ∧ m ≤ 100 ∧ ∀ (q : Addr) (H' : Hp) (ds : List Int), Same H H' → H q = none → H' q = some (.lst (ds.map V.int)) → ds.length = m.toNat → (∀ x ∈ ds, 0 ≤ x ∧ x < 1009) → Q (.ref q) H'
theorem sc39 : FnScope ["_law_cell", "_law_many", "_law_digits_here", "_law_rest", "_law_number", "_law_k"] ["_law_cell", "_law_many"] (defScope (top 39)) := ⟨rfl, rfl, rfl, by decide +kernel, rfl, by decide +kernel, by decide +kernel⟩
theorem ok39 {f : Addr} {fd : FuncData} (F : Fun K "_law_digits" "_law_digits" (top 39) f fd) (B : Blt mg) : FnOk P w K mg base CX0 1 f fd ["_law_cell", "_law_many"] spDig := by
  refine F.ok sc39 (fun vs H Q E h => ?_) (fun cdv A outer s H vs Q E hr h => ?_)
  · obtain ⟨c, m, rfl, _⟩ := h
    rfl
  · obtain ⟨c, m, rfl, m0, m1, k⟩ := h
    refine ⟨_, pss_cons (ps_set (i := 2) sc39.nd rfl (Or.inl rfl) (pe_lst pa_nil))
      (pss_cons (ps_set (i := 3) sc39.nd rfl (Or.inl rfl) pe_int)
      (pss_cons (ps_if (pt_cmpR op_ge (pv 0) (pe_op op_pow pe_int pe_int) (nomark _)) (pss_one (ps_set (i := 3) sc39.nd rfl (Or.inl rfl) (pv 0))) pss_nil)
      (pss_cons (ps_set (i := 4) sc39.nd rfl (Or.inl rfl) (pe_op op_mod (pe_callTy call_int1 rfl B.int PyProof.Rows.boot_int (pa_cons (pv 0) pa_nil)) pe_int))
      (pss_cons (ps_for PassesOwn.never rfl (pi_range1 rfl B.range (pa_cons (pv 1) pa_nil)) (pg_name (i := 5) sc39.nd rfl (Or.inl rfl))
        (pss_cons (ps_set (i := 4) sc39.nd rfl (Or.inl rfl) (pe_op op_mod (pe_callTy call_int1 rfl B.int PyProof.Rows.boot_int (pa_cons (pe_op op_add (pe_op op_add (pe_op op_mul (pv 4) pe_int) (pe_op op_mul pe_int (pv 5))) pe_int) pa_nil)) pe_int))
        (pss_cons (ps_set (i := 4) sc39.nd rfl (Or.inl rfl) (pe_op op_mod (pe_callTy call_int1 rfl B.int PyProof.Rows.boot_int (pa_cons (pe_op op_mul (pv 4) (pe_op op_add (pe_op op_fdiv (pv 4) pe_int) pe_int)) pa_nil)) pe_int))
        (pss_one (ps_if (pt_cmpR op_gt (pv 3) pe_int (nomark _))
          (pss_cons (ps_expr (pe_bm PySem.F.plainAttrs_list PySem.F.slot_list_append PySem.F.type_list_append mt_append (pv 2) (pa_cons (pe_op op_mod (pe_callTy call_int1 rfl B.int PyProof.Rows.boot_int (pa_cons (pv 3) pa_nil)) pe_int) pa_nil)))
            (pss_one (ps_set (i := 3) sc39.nd rfl (Or.inl rfl) (pe_op op_fdiv (pv 3) pe_int))))
          (pss_one (ps_expr (pe_bm PySem.F.plainAttrs_list PySem.F.slot_list_append PySem.F.type_list_append mt_append (pv 2) (pa_cons (pe_op op_mod (pe_callTy call_int1 rfl B.int PyProof.Rows.boot_int (pa_cons (pe_op op_fdiv (pv 4) pe_int) pa_nil)) pe_int) pa_nil)))))))))
      (pss_one (ps_ret (pv 2))))))), ?_⟩
    refine ⟨by decide, fun L hL => ?_⟩
    have s0 : Same H (upd H L (.lst [])) := same_new (Same.refl _) hL
    have big : ∀ z : Int, 0 ≤ z % 2147483647 ∧ z % 2147483647 < 2147483647 := fun z => ⟨Int.emod_nonneg z (by decide), Int.emod_lt_of_pos z (by decide)⟩
    have big2 : ∀ z : Int, 0 ≤ z % 2147483629 ∧ z % 2147483629 < 2147483629 := fun z => ⟨Int.emod_nonneg z (by decide), Int.emod_lt_of_pos z (by decide)⟩
    have small : ∀ z : Int, 0 ≤ z % 1009 ∧ z % 1009 < 1009 := fun z => ⟨Int.emod_nonneg z (by decide), Int.emod_lt_of_pos z (by decide)⟩
    refine ⟨_, rfl, _, _, rfl, rfl, ⟨by decide, by decide, by decide⟩, _, _, rfl, rfl, _, rfl, ?_⟩
    refine ite2 (fun _ => ?_) (fun _ => ?_)
    case' refine_1 => refine ⟨_, rfl, ?_⟩
    all_goals
      refine ⟨_, rfl, .inl ⟨_, rfl, _, _, rfl, rfl, (by show (0 : Int) < 2147483647; decide), ?_⟩⟩
      refine ⟨_, rfl, m, rfl, by omega, by omega, ?_⟩
      refine for_range (n := m.toNat) (fun i σ H1 => ∃ (r nb : Int) (v5 : Option V) (ds : List Int), σ = [some (.int c), some (.int m), some (.ref L), some (.int r), some (.int nb), v5] ∧ Same H H1 ∧ 0 ≤ nb ∧ nb < 2147483647 ∧ H1 L = some (.lst (ds.map V.int)) ∧ ds.length = i ∧ ∀ x ∈ ds, 0 ≤ x ∧ x < 1009)
        ⟨_, _, none, [], rfl, s0, (big _).1, (big _).2, upd_same, rfl, fun x hx => by cases hx⟩ ?_ ?_
      · rintro i σ H1 hi ⟨r, nb, v5, ds, rfl, s1, n0, n1, hds, hlen, hb⟩
        refine ⟨_, rfl, _, _, rfl, rfl, .inl ⟨by omega, by omega⟩, _, rfl, _, _, rfl, rfl, .inl ⟨by decide, by decide⟩, _, _, rfl, rfl, _, _, rfl, rfl, .inl ⟨_, rfl, _, _, rfl, rfl, (by show (0 : Int) < 2147483647; decide), ?_⟩⟩
        have hna := big (nb * 48271 + 30103 * (0 + (i : Int)) + 11)
        refine ⟨_, rfl, _, rfl, _, _, rfl, rfl, ⟨by decide, by decide⟩, _, _, rfl, rfl, _, _, rfl, rfl, .inl ⟨by omega, by omega⟩, .inl ⟨_, rfl, _, _, rfl, rfl, (by show (0 : Int) < 2147483629; decide), ?_⟩⟩
        have hnc := big2 ((nb * 48271 + 30103 * (0 + (i : Int)) + 11) % 2147483647 * ((nb * 48271 + 30103 * (0 + (i : Int)) + 11) % 2147483647 / 1009 + 69621))
        refine ⟨_, rfl, _, _, rfl, rfl, _, rfl, ?_⟩
        have push : ∀ (r' z nc : Int) (v : Option V), 0 ≤ nc ∧ nc < 2147483629 → 0 ≤ z ∧ z < 1009 → ∃ (r nb : Int) (v5 : Option V) (ds' : List Int), [some (.int c), some (.int m), some (.ref L), some (.int r'), some (.int nc), v] = [some (.int c), some (.int m), some (.ref L), some (.int r), some (.int nb), v5] ∧
            Same H (upd H1 L (.lst (ds.map V.int ++ [V.int z]))) ∧ 0 ≤ nb ∧ nb < 2147483647 ∧ (upd H1 L (.lst (ds.map V.int ++ [V.int z]))) L = some (.lst (ds'.map V.int)) ∧ ds'.length = i + 1 ∧ ∀ x ∈ ds', 0 ≤ x ∧ x < 1009 := fun r' z nc v hnc hz => by
          refine ⟨r', nc, v, ds ++ [z], rfl, fun b o e => ?_, hnc.1, by omega, ?_, ?_, fun x hx => ?_⟩
          · rw [upd_ne (ne_of_none e hL)]
            exact s1 b o e
          · rw [upd_same, List.map_append]
            rfl
          · rw [List.length_append, hlen]
            rfl
          · rcases List.mem_append.mp hx with h | h
            · exact hb x h
            · rw [List.mem_singleton.mp h]
              exact hz
        have room : (ds.map V.int).length < sizeLine := by
          rw [List.length_map, sizeLine_eq]
          omega
        refine ite2 (fun _ => ?_) (fun _ => ?_)
        · refine ⟨_, rfl, .inl ⟨rfl, _, SqL.of hds⟩, _, rfl, .inl ⟨_, rfl, _, _, rfl, rfl, (by show (0 : Int) < 1009; decide), L, _, _, rfl, rfl, hds, room, ?_⟩⟩
          refine ⟨_, rfl, _, _, rfl, rfl, ⟨by decide, by decide⟩, ?_⟩
          exact push _ _ _ _ hnc (small _)
        · refine ⟨_, rfl, .inl ⟨rfl, _, SqL.of hds⟩, _, rfl, _, _, rfl, rfl, ⟨by decide, by decide⟩, .inl ⟨_, rfl, _, _, rfl, rfl, (by show (0 : Int) < 1009; decide), L, _, _, rfl, rfl, hds, room, ?_⟩⟩
          exact push _ _ _ _ hnc (small _)
      · rintro σ H1 ⟨r, nb, v5, ds, rfl, s1, n0, n1, hds, hlen, hb⟩
        exact ⟨_, rfl, k L H1 ds s1 hL hds hlen hb⟩
end
end K1

set_option Elab.async false
set_option linter.all false
set_option maxRecDepth 100000
set_option maxHeartbeats 4000000
namespace L2
open PySem PySem.Spec PyProof.Rows
/-- d.update(e), both dicts, two objects -/
def rUpd1 : V → List V → Hp → VK → Prop := fun x vs H Q => ∃ (d o : Addr) (kvs more : List (Key × V)), x = .ref d ∧ vs = [.ref o] ∧ d ≠ o ∧ H d = some (.dK kvs) ∧ H o = some (.dK more) ∧ kvs.length + more.length ≤ sizeLine ∧ Q .non (upd H d (.dK (mergeK kvs more)))
theorem mt_upd1 {X : Cx} : MtR X "dict.update" rUpd1 := by
  intro pins s σ H x xs v us Q I rx r h
  obtain ⟨d, o, kvs, more, rfl, rfl, ne, hd, ho, few, q⟩ := h
  obtain ⟨u, rfl, ru⟩ := vals1 r
  obtain rfl : v = Value.ref d := rx
  obtain rfl : u = Value.ref o := ru
  obtain ⟨z1, y1, vs1, r1, d1⟩ := dk_of I.hok hd
  obtain ⟨z2, y2, vs2, r2, d2⟩ := dk_of I.hok ho
  refine call_meetsIn PySem.F.slot_dict_update d1.typeIs PySem.F.entry_dict_update (PySem.F.args_dict_update_2 _ _) (meets_dict_update (mixKind X.prog X.w) d o ne y2) ⟨vs1, vs2, d1, d2, ?_, fun h' dd _ sb => ?_⟩
  · rw [← r1.length, ← r2.length]
    exact few
  · have there : ∃ z, h'.get? d = some z := by
      obtain ⟨z, _, _, e, _⟩ := dd
      exact ⟨z, e⟩
    have len : (mergeK kvs more).length ≤ sizeLine := Nat.le_trans (length_mergeK more kvs) few
    exact ⟨.non, upd H d (.dK (mergeK kvs more)), d_write I (by rw [hd]; exact True.intro) sb there (dk_new len y1 (KV.merge r2 r1) dd), rfl, q⟩
/-- a statement, a word, the rest -/
def tMid (t u : TS) : TS := fun D σ H => ∃ W : St → Hp → Prop, t { D with nx := W } σ H ∧ ∀ σ1 H1, W σ1 H1 → u D σ1 H1
theorem pss_mid {X : Cx} {st : Stmt} {rest : List Stmt} {t u : TS} (h1 : PS X st t) (h2 : PSs X rest u) : PSs X (st :: rest) (tMid t u) := by
  refine ⟨fun pins s σ H D I ⟨W, a, b⟩ => ?_⟩
  refine wpAny_execs_cons ?_
  refine thn (h1.run pins s σ H { D with nx := W } I a) fun f s1 q => ?_
  cases f with
  | next =>
    obtain ⟨σ1, H1, I1, q⟩ := q
    exact h2.run pins s1 σ1 H1 D I1 (b σ1 H1 q)
  | ret v => exact q
  | brk => exact q
  | cont => exact q
/-- tuple(xs), by values -/
def rTof (K : PySem.W.Frag) : List V → Hp → VK → Prop := fun xs H Q => ∃ p ys, xs = [.ref p] ∧ ((SqL K H p ys ∧ ∀ l, H l = none → Q (.ref l) (upd H l (.tup ys))) ∨ (SqT K H p ys ∧ Q (.ref p) H))
end L2
namespace K1
open PySem L2
theorem dstr {H : Hp} {s : Str} (h : (decide (s.length ≤ 1000) && PyData.strOk s) = true := by decide +kernel) : Dat H (.str s) := by
  rw [Bool.and_eq_true] at h
  exact .str s ⟨of_decide_eq_true h.1, h.2⟩
/-- a new list, a new tuple of data -/
theorem Dat.newL {H : Hp} {p : Addr} {xs : List V} (n : H p = none) (h : ∀ x ∈ xs, Dat H x) : Dat (upd H p (.lst xs)) (.ref p) := .lst upd_same fun x hx => (h x hx).mono (same_new (Same.refl _) n)
theorem Dat.newT {H : Hp} {p : Addr} {xs : List V} (n : H p = none) (h : ∀ x ∈ xs, Dat H x) : Dat (upd H p (.tup xs)) (.ref p) := .tup upd_same fun x hx => (h x hx).mono (same_new (Same.refl _) n)
theorem Dat.new {H : Hp} {p : Addr} {o : HO} {v : V} (n : H p = none) (d : Dat H v) : Dat (upd H p o) v := d.mono (same_new (Same.refl _) n)
/-- a dict is changed into a dict -/
theorem Dat.updD {H : Hp} {a : Addr} {kvs kvs' : List (Key × V)} (e : H a = some (.dK kvs)) {v : V} (d : Dat H v) : Dat (upd H a (.dK kvs')) v := by
  induction d with
  | non => exact .non
  | bl b => exact .bl b
  | int i => exact .int i
  | str z h => exact .str z h
  | lst q _ ih => exact .lst (by rw [upd_ne (ne_of q e (by intro z; cases z))]; exact q) ih
  | tup q _ ih => exact .tup (by rw [upd_ne (ne_of q e (by intro z; cases z))]; exact q) ih
  | @dic b ks q =>
    by_cases h : b = a
    · rw [h]
      exact .dic upd_same
    · exact .dic (by rw [upd_ne h]; exact q)
theorem mem3 {α : Type} {P : α → Prop} {a b c : α} (h1 : P a) (h2 : P b) (h3 : P c) : ∀ x ∈ [a, b, c], P x := fun x hx => by
  simp only [List.mem_cons, List.not_mem_nil, or_false] at hx
  rcases hx with rfl | rfl | rfl <;> assumption
theorem at_mod {xs : List V} {n : Nat} (h : xs.length = n) (hn : 0 < n) (z : Int) : ∃ v, atI xs (z % (n : Int)) = some v ∧ v ∈ xs := by
  have h1 := Int.emod_nonneg z (show (n : Int) ≠ 0 by omega)
  have h2 := Int.emod_lt_of_pos z (show (0 : Int) < (n : Int) by omega)
  obtain ⟨j, e⟩ : ∃ j : Nat, z % (n : Int) = (j : Int) := ⟨(z % (n : Int)).toNat, by omega⟩
  rw [e] at h2 ⊢
  have hj : j < xs.length := by omega
  exact ⟨xs[j], atI_nat (List.getElem?_eq_getElem hj), List.getElem_mem hj⟩
theorem dig_at {ds : List Int} (h : ds.length = 20) (j : Nat) (hj : j < 20) : ∃ x, atI (ds.map V.int) (j : Int) = some (.int x) := by
  have hj' : j < ds.length := by omega
  exact ⟨ds[j], atI_nat (by rw [List.getElem?_map, List.getElem?_eq_getElem hj']; rfl)⟩
theorem cut_mem {xs : List V} {lo hi : Option Int} {x : V} (h : x ∈ cutV xs lo hi) : x ∈ xs := List.mem_of_mem_drop (List.mem_of_mem_take h)
/-! ### the five parts in the dict -/
structure Five (kvs : List (Key × V)) (c n l p r : V) : Prop where
  c : valV kvs (Sum.inr ("classes" : Str)) = some c
  n : valV kvs (Sum.inr ("names" : Str)) = some n
  l : valV kvs (Sum.inr ("loose" : Str)) = some l
  p : valV kvs (Sum.inr ("pace" : Str)) = some p
  r : valV kvs (Sum.inr ("rest" : Str)) = some r
theorem five_c {kvs : List (Key × V)} {c n l p r : V} (f : Five kvs c n l p r) (y : V) : Five (putK kvs (Sum.inr ("classes" : Str)) y) y n l p r :=
  ⟨by rw [valV_put, if_pos rfl], by rw [valV_put, if_neg (by decide +kernel)]; exact f.n, by rw [valV_put, if_neg (by decide +kernel)]; exact f.l, by rw [valV_put, if_neg (by decide +kernel)]; exact f.p, by rw [valV_put, if_neg (by decide +kernel)]; exact f.r⟩
theorem five_n {kvs : List (Key × V)} {c n l p r : V} (f : Five kvs c n l p r) (y : V) : Five (putK kvs (Sum.inr ("names" : Str)) y) c y l p r :=
  ⟨by rw [valV_put, if_neg (by decide +kernel)]; exact f.c, by rw [valV_put, if_pos rfl], by rw [valV_put, if_neg (by decide +kernel)]; exact f.l, by rw [valV_put, if_neg (by decide +kernel)]; exact f.p, by rw [valV_put, if_neg (by decide +kernel)]; exact f.r⟩
theorem five_l {kvs : List (Key × V)} {c n l p r : V} (f : Five kvs c n l p r) (y : V) : Five (putK kvs (Sum.inr ("loose" : Str)) y) c n y p r :=
  ⟨by rw [valV_put, if_neg (by decide +kernel)]; exact f.c, by rw [valV_put, if_neg (by decide +kernel)]; exact f.n, by rw [valV_put, if_pos rfl], by rw [valV_put, if_neg (by decide +kernel)]; exact f.p, by rw [valV_put, if_neg (by decide +kernel)]; exact f.r⟩
theorem five_p {kvs : List (Key × V)} {c n l p r : V} (f : Five kvs c n l p r) (y : V) : Five (putK kvs (Sum.inr ("pace" : Str)) y) c n l y r :=
  ⟨by rw [valV_put, if_neg (by decide +kernel)]; exact f.c, by rw [valV_put, if_neg (by decide +kernel)]; exact f.n, by rw [valV_put, if_neg (by decide +kernel)]; exact f.l, by rw [valV_put, if_pos rfl], by rw [valV_put, if_neg (by decide +kernel)]; exact f.r⟩
theorem five_r {kvs : List (Key × V)} {c n l p r : V} (f : Five kvs c n l p r) (y : V) : Five (putK kvs (Sum.inr ("rest" : Str)) y) c n l p y :=
  ⟨by rw [valV_put, if_neg (by decide +kernel)]; exact f.c, by rw [valV_put, if_neg (by decide +kernel)]; exact f.n, by rw [valV_put, if_neg (by decide +kernel)]; exact f.l, by rw [valV_put, if_neg (by decide +kernel)]; exact f.p, by rw [valV_put, if_pos rfl]⟩
/-- a list of data of few items -/
def LsD (H : Hp) (v : V) : Prop := ∃ a xs, v = .ref a ∧ H a = some (.lst xs) ∧ xs.length ≤ 50
end K1

set_option Elab.async false
set_option linter.all false
set_option maxRecDepth 100000
set_option maxHeartbeats 4000000
namespace K1
open PySem L2
/-! ### expressions that give data, on whatever heap behind the one given -/
def DE (t : TE) (σ : St) (H1 : Hp) : Prop := ∀ H2, Same H1 H2 → ∀ Q : VK, (∀ v H3, Same H2 H3 → Dat H3 v → Q v H3) → t σ H2 Q
def DA (t : TA) (n : Nat) (σ : St) (H1 : Hp) : Prop := ∀ H2, Same H1 H2 → ∀ Q : List V → Hp → Prop, (∀ vs H3, Same H2 H3 → vs.length = n → (∀ v ∈ vs, Dat H3 v) → Q vs H3) → t σ H2 Q
variable {σ : St} {H1 : Hp} {t : TE} {ts : TA} {n : Nat} {K : PySem.W.Frag}
theorem DE.mono {H2 : Hp} (h : DE t σ H1) (s : Same H1 H2) : DE t σ H2 := fun H3 s3 => h H3 (s.trans s3)
theorem de_non : DE (tC .non) σ H1 := fun H2 _ Q k => k _ H2 (Same.refl _) .non
theorem de_int {i : Int} : DE (tC (.int i)) σ H1 := fun H2 _ Q k => k _ H2 (Same.refl _) (.int i)
theorem de_bl {b : Bool} : DE (tC (.bl b)) σ H1 := fun H2 _ Q k => k _ H2 (Same.refl _) (.bl b)
theorem de_str {s : Str} (h : (decide (s.length ≤ 1000) && PyData.strOk s) = true := by decide +kernel) : DE (tC (.str s)) σ H1 := fun H2 _ Q k => k _ H2 (Same.refl _) (dstr h)
theorem de_var {i : Nat} {v : V} (e : σ[i]? = some (some v)) (d : Dat H1 v) : DE (tVar i) σ H1 := fun H2 s Q k => ⟨v, e, k v H2 (Same.refl _) (d.mono s)⟩
theorem da_nil : DA tNil 0 σ H1 := fun H2 _ Q k => k [] H2 (Same.refl _) rfl (fun _ h => by cases h)
theorem da_cons (h : DE t σ H1) (r : DA ts n σ H1) : DA (tCons t ts) (n + 1) σ H1 := fun H2 s Q k =>
  h H2 s _ fun v H3 s3 d => r H3 (s.trans s3) _ fun vs H4 s4 l ds => k (v :: vs) H4 (s3.trans s4) (by rw [List.length_cons, l]) fun x hx => by
    rcases List.mem_cons.mp hx with rfl | hx
    · exact d.mono s4
    · exact ds x hx
theorem de_lst (h : DA ts n σ H1) (few : n ≤ sizeLine) : DE (tLst ts) σ H1 := fun H2 s Q k => h H2 s _ fun vs H3 s3 l ds => ⟨by rw [l]; exact few, fun p np => k _ _ (same_new s3 np) (Dat.newL np ds)⟩
theorem de_tup (h : DA ts n σ H1) (few : n ≤ sizeLine) : DE (tTup ts) σ H1 := fun H2 s Q k => h H2 s _ fun vs H3 s3 l ds => ⟨by rw [l]; exact few, fun p np => k _ _ (same_new s3 np) (Dat.newT np ds)⟩
/-! ### one of some, by a digit -/
abbrev tIdx (K : PySem.W.Frag) (i m : Int) : TE := tOp (rI (fun _ j => 0 < j) fun i j => V.int (i % j)) (tCB (fun xs H Q => (∃ i, xs = [V.int i] ∧ Q (V.int i) H) ∨ ∃ k, xs = [V.bl k] ∧ Q (V.int (if k = true then 1 else 0)) H) (tCons (tOp (rIxL K) (tVar 0) (tC (.int i))) tNil)) (tC (.int m))
structure Dg (σ : St) (H1 : Hp) : Prop where
  ex : ∃ (dg : Addr) (ds : List Int), σ[0]? = some (some (.ref dg)) ∧ H1 dg = some (.lst (ds.map V.int)) ∧ ds.length = 20
theorem Dg.mono {H2 : Hp} (g : Dg σ H1) (s : Same H1 H2) : Dg σ H2 := by
  obtain ⟨dg, ds, e, h, l⟩ := g.ex
  exact ⟨dg, ds, e, s _ _ h, l⟩
theorem ix_read {i m : Int} {Q : VK} (g : Dg σ H1) (j : Nat) (hj : j < 20) (ij : i = (j : Int)) (hm : 0 < m) (q : ∀ z : Int, Q (.int (z % m)) H1) : tIdx K i m σ H1 Q := by
  obtain ⟨dg, ds, e, h, l⟩ := g.ex
  obtain ⟨z, hz⟩ := dig_at l j hj
  subst ij
  exact ⟨_, e, dg, _, _, _, rfl, rfl, SqL.of h, hz, .inl ⟨z, rfl, z, m, rfl, rfl, hm, q z⟩⟩
theorem de_pick {i m : Int} (g : Dg σ H1) (h : DA ts n σ H1) (few : n ≤ sizeLine) (j : Nat) (hj : j < 20) (ij : i = (j : Int)) (mn : m = (n : Int)) (hn : 0 < n) : DE (tOp (rIxL K) (tLst ts) (tIdx K i m)) σ H1 := fun H2 s Q k =>
  h H2 s _ fun vs H3 s3 l ds => ⟨by rw [l]; exact few, fun p np => ix_read ((g.mono (s.trans s3)).mono (same_new (Same.refl _) np)) j hj ij (by omega) fun z => by
    obtain ⟨v, hv, mv⟩ := at_mod l hn z
    subst mn
    exact ⟨p, vs, _, v, rfl, rfl, SqL.of upd_same, hv, k _ _ (same_new s3 np) (Dat.new np (ds v mv))⟩⟩
theorem de_ix {i : Nat} {a : Addr} {xs : List V} {c : Int} {v : V} (e : σ[i]? = some (some (.ref a))) (h : H1 a = some (.lst xs)) (hv : atI xs c = some v) (d : Dat H1 v) : DE (tOp (rIxL K) (tVar i) (tC (.int c))) σ H1 := fun H2 s Q k =>
  ⟨_, e, a, xs, c, v, rfl, rfl, SqL.of (s _ _ h), hv, k _ _ (Same.refl _) (d.mono s)⟩
theorem de_tof {i : Nat} {a : Addr} {xs : List V} (e : σ[i]? = some (some (.ref a))) (h : H1 a = some (.lst xs)) (d : ∀ x ∈ xs, Dat H1 x) : DE (tCB (rTof K) (tCons (tVar i) tNil)) σ H1 := fun H2 s Q k =>
  ⟨_, e, a, xs, rfl, .inl ⟨SqL.of (s _ _ h), fun l nl => k _ _ (same_new (Same.refl _) nl) (Dat.newT nl fun x hx => (d x hx).mono s)⟩⟩
theorem de_rep {i : Nat} {a : Addr} {xs : List V} {c : Int} (e : σ[i]? = some (some (.ref a))) (h : H1 a = some (.lst xs)) (d : ∀ x ∈ xs, Dat H1 x) (c1 : -2 ^ 63 ≤ c) (c2 : c < 2 ^ 63) (few : xs.length * c.toNat ≤ sizeLine) : DE (tOp rRep (tVar i) (tC (.int c))) σ H1 := fun H2 s Q k =>
  ⟨_, e, a, c, xs, rfl, rfl, s _ _ h, c1, c2, few, fun l nl => k _ _ (same_new (Same.refl _) nl) (Dat.newL nl fun x hx => by
    obtain ⟨ys, h1, h2⟩ := List.mem_flatten.mp hx
    rw [(List.mem_replicate.mp h1).2] at h2
    exact (d x h2).mono s)⟩
theorem de_slt {i : Nat} {a b : Addr} {xs ys : List V} {c u : Int} (e : σ[i]? = some (some (.ref a))) (h : H1 a = some (.lst xs)) (hv : atI xs c = some (.ref b)) (hb : H1 b = some (.tup ys)) (d : ∀ x ∈ ys, Dat H1 x) (not : ¬(HT.sIx ys.length 0 none = 0 ∧ HT.sIx ys.length ys.length (some u) = ys.length)) : DE (tSl (rSlT K) (tOp (rIxL K) (tVar i) (tC (.int c))) tNoPart (tPart (tC (.int u)))) σ H1 := fun H2 s Q k =>
  ⟨_, e, a, xs, c, _, rfl, rfl, SqL.of (s _ _ h), hv, u, rfl, b, ys, rfl, SqT.of (s _ _ hb), not, fun l nl => k _ _ (same_new (Same.refl _) nl) (Dat.newT nl fun x hx => (d x (cut_mem hx)).mono s)⟩
theorem dat_lst {a : Addr} {xs : List V} (d : Dat H1 (.ref a)) (h : H1 a = some (.lst xs)) : ∀ x ∈ xs, Dat H1 x := by
  cases d with
  | lst e m => rw [h] at e; cases e; exact m
  | tup e m => rw [h] at e; cases e
  | dic e => rw [h] at e; cases e
theorem dat_tup {a : Addr} {xs : List V} (d : Dat H1 (.ref a)) (h : H1 a = some (.tup xs)) : ∀ x ∈ xs, Dat H1 x := by
  cases d with
  | lst e m => rw [h] at e; cases e
  | tup e m => rw [h] at e; cases e; exact m
  | dic e => rw [h] at e; cases e
/-- parts[name] + [e] -/
theorem de_cat {pa : Addr} {kvs : List (Key × V)} {name : Str} {c : V} (e : σ[3]? = some (some (.ref pa))) (h : H1 pa = some (.dK kvs)) (hv : valV kvs (Sum.inr name) = some c) (ls : LsD H1 c) (d : Dat H1 c) (g : DE t σ H1) : DE (tOp rCat (tDGet (tVar 3) (tC (.str name))) (tLst (tCons t tNil))) σ H1 := fun H2 s Q k => by
  obtain ⟨a, xs, rfl, ha, few⟩ := ls
  refine ⟨_, e, pa, _, rfl, dget_of (s _ _ h) hv, g H2 s _ fun v H3 s3 dv => ⟨by show 1 ≤ sizeLine; decide, fun p np => ?_⟩⟩
  have s4 := same_new (o := .lst [v]) (s.trans s3) np
  refine ⟨a, p, xs, [v], rfl, rfl, s4 _ _ ha, upd_same, ?_, fun l nl => ?_⟩
  · have : 51 ≤ sizeLine := by decide
    rw [List.length_singleton]
    omega
  · refine k _ _ (same_new (same_new s3 np) nl) (Dat.newL nl fun x hx => ?_)
    rcases List.mem_append.mp hx with hx | hx
    · exact (dat_lst d ha x hx).mono s4
    · rw [List.mem_singleton.mp hx]
      exact dv.new np
/-! ### .. and stand at no address of an older heap -/
def NewV (H : Hp) (v : V) : Prop := ∀ a, v = .ref a → H a = none
theorem NewV.of {H H2 : Hp} {p : Addr} (s : Same H H2) (n : H2 p = none) : NewV H (.ref p) := fun a e => by
  cases e
  cases q : H p with
  | none => rfl
  | some o => rw [s _ _ q] at n; cases n
def DN (H : Hp) (t : TE) (σ : St) (H1 : Hp) : Prop := ∀ H2, Same H1 H2 → ∀ Q : VK, (∀ v H3, Same H2 H3 → Dat H3 v → NewV H v → Q v H3) → t σ H2 Q
def DM (H : Hp) (t : TA) (n : Nat) (σ : St) (H1 : Hp) : Prop := ∀ H2, Same H1 H2 → ∀ Q : List V → Hp → Prop, (∀ vs H3, Same H2 H3 → vs.length = n → (∀ v ∈ vs, Dat H3 v ∧ NewV H v) → Q vs H3) → t σ H2 Q
variable {H : Hp}
theorem DN.de (h : DN H t σ H1) : DE t σ H1 := fun H2 s Q k => h H2 s Q fun v H3 s3 d _ => k v H3 s3 d
theorem dn_int {i : Int} : DN H (tC (.int i)) σ H1 := fun H2 _ Q k => k _ H2 (Same.refl _) (.int i) (fun a e => by cases e)
theorem dn_var {i : Nat} {v : V} (e : σ[i]? = some (some v)) (d : Dat H1 v) (n : NewV H v) : DN H (tVar i) σ H1 := fun H2 s Q k => ⟨v, e, k v H2 (Same.refl _) (d.mono s) n⟩
theorem dm_nil : DM H tNil 0 σ H1 := fun H2 _ Q k => k [] H2 (Same.refl _) rfl (fun _ h => by cases h)
theorem dm_cons (h : DN H t σ H1) (r : DM H ts n σ H1) : DM H (tCons t ts) (n + 1) σ H1 := fun H2 s Q k =>
  h H2 s _ fun v H3 s3 d nv => r H3 (s.trans s3) _ fun vs H4 s4 l ds => k (v :: vs) H4 (s3.trans s4) (by rw [List.length_cons, l]) fun x hx => by
    rcases List.mem_cons.mp hx with rfl | hx
    · exact ⟨d.mono s4, nv⟩
    · exact ds x hx
theorem dn_lst (s0 : Same H H1) (h : DA ts n σ H1) (few : n ≤ sizeLine) : DN H (tLst ts) σ H1 := fun H2 s Q k => h H2 s _ fun vs H3 s3 l ds => ⟨by rw [l]; exact few, fun p np => k _ _ (same_new s3 np) (Dat.newL np ds) (NewV.of ((s0.trans s).trans s3) np)⟩
theorem dn_tup (s0 : Same H H1) (h : DA ts n σ H1) (few : n ≤ sizeLine) : DN H (tTup ts) σ H1 := fun H2 s Q k => h H2 s _ fun vs H3 s3 l ds => ⟨by rw [l]; exact few, fun p np => k _ _ (same_new s3 np) (Dat.newT np ds) (NewV.of ((s0.trans s).trans s3) np)⟩
theorem dn_pick {i m : Int} (g : Dg σ H1) (h : DM H ts n σ H1) (few : n ≤ sizeLine) (j : Nat) (hj : j < 20) (ij : i = (j : Int)) (mn : m = (n : Int)) (hn : 0 < n) : DN H (tOp (rIxL K) (tLst ts) (tIdx K i m)) σ H1 := fun H2 s Q k =>
  h H2 s _ fun vs H3 s3 l ds => ⟨by rw [l]; exact few, fun p np => ix_read ((g.mono (s.trans s3)).mono (same_new (Same.refl _) np)) j hj ij (by omega) fun z => by
    obtain ⟨v, hv, mv⟩ := at_mod l hn z
    subst mn
    exact ⟨p, vs, _, v, rfl, rfl, SqL.of upd_same, hv, k _ _ (same_new s3 np) (Dat.new np (ds v mv).1) (ds v mv).2⟩⟩
theorem dn_cat (s0 : Same H H1) {pa : Addr} {kvs : List (Key × V)} {name : Str} {c : V} (e : σ[3]? = some (some (.ref pa))) (h : H1 pa = some (.dK kvs)) (hv : valV kvs (Sum.inr name) = some c) (ls : LsD H1 c) (d : Dat H1 c) (g : DE t σ H1) : DN H (tOp rCat (tDGet (tVar 3) (tC (.str name))) (tLst (tCons t tNil))) σ H1 := fun H2 s Q k => by
  obtain ⟨a, xs, rfl, ha, few⟩ := ls
  refine ⟨_, e, pa, _, rfl, dget_of (s _ _ h) hv, g H2 s _ fun v H3 s3 dv => ⟨by show 1 ≤ sizeLine; decide, fun p np => ?_⟩⟩
  have s4 := same_new (o := .lst [v]) (s.trans s3) np
  refine ⟨a, p, xs, [v], rfl, rfl, s4 _ _ ha, upd_same, ?_, fun l nl => ?_⟩
  · have : 51 ≤ sizeLine := by decide
    rw [List.length_singleton]
    omega
  · refine k _ _ (same_new (same_new s3 np) nl) (Dat.newL nl fun x hx => ?_) (NewV.of (s0.trans s4) nl)
    rcases List.mem_append.mp hx with hx | hx
    · exact (dat_lst d ha x hx).mono s4
    · rw [List.mem_singleton.mp hx]
      exact dv.new np
/-! ### where _law_built stands between its ifs -/
structure Bx (H : Hp) (dg : Addr) (ds : List Int) (thing : V) (ro pa t1 t2 t3 l1 : Addr) (kvs : List (Key × V)) (c n l p r : V) (H1 : Hp) : Prop where
  same : Same H H1
  npa : H pa = none
  hdg : H dg = some (.lst (ds.map V.int))
  len : ds.length = 20
  th : Dat H1 thing
  hro : H1 ro = some (.lst [.ref t1, .ref t2, .ref t3])
  ht1 : H1 t1 = some (.tup [.str "node", .int 1, .ref l1, .bl false])
  dro : Dat H1 (.ref ro)
  hpa : H1 pa = some (.dK kvs)
  five : Five kvs c n l p r
  dc : Dat H1 c
  dn : Dat H1 n
  dl : Dat H1 l
  dp : Dat H1 p
  dr : Dat H1 r
  nth : NewV H thing
  nr : NewV H r
def sg (dg od ro pa : Addr) (way : Int) (thing : V) (v6 v7 : Option V) : St := [some (.ref dg), some (.ref od), some (.ref ro), some (.ref pa), some (.int way), some thing, v6, v7]
def Bt (H : Hp) (dg : Addr) (ds : List Int) (k : Int) (σ : St) (H1 : Hp) : Prop := ∃ (way : Int) (thing : V) (od ro pa t1 t2 t3 l1 : Addr) (kvs : List (Key × V)) (c n l p r : V) (v6 v7 : Option V), σ = sg dg od ro pa way thing v6 v7 ∧ Bx H dg ds thing ro pa t1 t2 t3 l1 kvs c n l p r H1 ∧
  (k ≤ way → kvs.length ≤ 12 ∧ LsD H1 c ∧ LsD H1 n ∧ LsD H1 l ∧ LsD H1 r)
variable {dg : Addr} {ds : List Int} {thing : V} {od ro pa t1 t2 t3 l1 : Addr} {kvs : List (Key × V)} {c n' l p r : V} {way : Int} {v6 v7 : Option V} {D : Ends}
theorem same_upd {H2 : Hp} {a : Addr} {o : HO} (s : Same H H2) (h : H a = none) : Same H (upd H2 a o) := fun b u e => by
  have ne : b ≠ a := fun z => by rw [z, h] at e; cases e
  rw [upd_ne ne]
  exact s _ _ e
theorem Bx.mono {H2 : Hp} (b : Bx H dg ds thing ro pa t1 t2 t3 l1 kvs c n' l p r H1) (s : Same H1 H2) : Bx H dg ds thing ro pa t1 t2 t3 l1 kvs c n' l p r H2 :=
  ⟨b.same.trans s, b.npa, b.hdg, b.len, b.th.mono s, s _ _ b.hro, s _ _ b.ht1, b.dro.mono s, s _ _ b.hpa, b.five, b.dc.mono s, b.dn.mono s, b.dl.mono s, b.dp.mono s, b.dr.mono s, b.nth, b.nr⟩
theorem Bx.dgs (b : Bx H dg ds thing ro pa t1 t2 t3 l1 kvs c n' l p r H1) : Dg (sg dg od ro pa way thing v6 v7) H1 := ⟨dg, ds, rfl, b.same _ _ b.hdg, b.len⟩
/-- parts[name] = e -/
theorem put_rd {name : Str} {k : Int} {G : V → Prop} (b : Bx H dg ds thing ro pa t1 t2 t3 l1 kvs c n' l p r H1) (few : kvs.length ≤ 12) (hw : ¬ k ≤ way) (e : ∀ Q : VK, (∀ v H3, Same H1 H3 → Dat H3 v → G v → Q v H3) → t (sg dg od ro pa way thing v6 v7) H1 Q)
    (hf : ∀ y H3, (∀ v, Dat H1 v → Dat H3 v) → Dat H3 y → G y → ∃ c' n'' l' p' r', Five (putK kvs (Sum.inr name) y) c' n'' l' p' r' ∧ Dat H3 c' ∧ Dat H3 n'' ∧ Dat H3 l' ∧ Dat H3 p' ∧ Dat H3 r' ∧ NewV H r') :
    sDPut (tVar 3) (tC (.str name)) t { D with nx := Bt H dg ds k } (sg dg od ro pa way thing v6 v7) H1 :=
  e _ fun v H3 s3 d gv => by
    have h3 := s3 _ _ b.hpa
    have m : ∀ v', Dat H1 v' → Dat (upd H3 pa (.dK (putK kvs (Sum.inr name) v))) v' := fun _ h => Dat.updD h3 (h.mono s3)
    obtain ⟨c', n'', l', p', r', f, e1, e2, e3, e4, e5, e6⟩ := hf v (upd H3 pa (.dK (putK kvs (Sum.inr name) v))) m (Dat.updD h3 d) gv
    have f2 : kvs.length < sizeLine := by
      have : 13 ≤ sizeLine := by decide
      omega
    refine ⟨_, rfl, pa, _, rfl, .inl ⟨kvs, Sum.inr name, h3, rfl, f2, rfl⟩, way, thing, od, ro, pa, t1, t2, t3, l1, _, c', n'', l', p', r', v6, v7, rfl, ⟨same_upd (b.same.trans s3) b.npa, b.npa, b.hdg, b.len, m _ b.th, ?_, ?_, m _ b.dro, upd_same, f, e1, e2, e3, e4, e5, b.nth, e6⟩, fun h => absurd h hw⟩
    · rw [upd_ne (ne_of (s3 _ _ b.hro) h3 (by intro z; cases z))]
      exact s3 _ _ b.hro
    · rw [upd_ne (ne_of (s3 _ _ b.ht1) h3 (by intro z; cases z))]
      exact s3 _ _ b.ht1
theorem put_c {k : Int} (b : Bx H dg ds thing ro pa t1 t2 t3 l1 kvs c n' l p r H1) (few : kvs.length ≤ 12) (hw : ¬ k ≤ way) (e : DE t (sg dg od ro pa way thing v6 v7) H1) : sDPut (tVar 3) (tC (.str "classes")) t { D with nx := Bt H dg ds k } (sg dg od ro pa way thing v6 v7) H1 :=
  put_rd b few hw (G := fun _ => True) (fun Q k => e H1 (Same.refl _) Q fun v H3 s d => k v H3 s d trivial) fun y H3 m d _ => ⟨y, n', l, p, r, five_c b.five y, d, m _ b.dn, m _ b.dl, m _ b.dp, m _ b.dr, b.nr⟩
theorem put_n {k : Int} (b : Bx H dg ds thing ro pa t1 t2 t3 l1 kvs c n' l p r H1) (few : kvs.length ≤ 12) (hw : ¬ k ≤ way) (e : DE t (sg dg od ro pa way thing v6 v7) H1) : sDPut (tVar 3) (tC (.str "names")) t { D with nx := Bt H dg ds k } (sg dg od ro pa way thing v6 v7) H1 :=
  put_rd b few hw (G := fun _ => True) (fun Q k => e H1 (Same.refl _) Q fun v H3 s d => k v H3 s d trivial) fun y H3 m d _ => ⟨c, y, l, p, r, five_n b.five y, m _ b.dc, d, m _ b.dl, m _ b.dp, m _ b.dr, b.nr⟩
theorem put_l {k : Int} (b : Bx H dg ds thing ro pa t1 t2 t3 l1 kvs c n' l p r H1) (few : kvs.length ≤ 12) (hw : ¬ k ≤ way) (e : DE t (sg dg od ro pa way thing v6 v7) H1) : sDPut (tVar 3) (tC (.str "loose")) t { D with nx := Bt H dg ds k } (sg dg od ro pa way thing v6 v7) H1 :=
  put_rd b few hw (G := fun _ => True) (fun Q k => e H1 (Same.refl _) Q fun v H3 s d => k v H3 s d trivial) fun y H3 m d _ => ⟨c, n', y, p, r, five_l b.five y, m _ b.dc, m _ b.dn, d, m _ b.dp, m _ b.dr, b.nr⟩
theorem put_p {k : Int} (b : Bx H dg ds thing ro pa t1 t2 t3 l1 kvs c n' l p r H1) (few : kvs.length ≤ 12) (hw : ¬ k ≤ way) (e : DE t (sg dg od ro pa way thing v6 v7) H1) : sDPut (tVar 3) (tC (.str "pace")) t { D with nx := Bt H dg ds k } (sg dg od ro pa way thing v6 v7) H1 :=
  put_rd b few hw (G := fun _ => True) (fun Q k => e H1 (Same.refl _) Q fun v H3 s d => k v H3 s d trivial) fun y H3 m d _ => ⟨c, n', l, y, r, five_p b.five y, m _ b.dc, m _ b.dn, m _ b.dl, d, m _ b.dr, b.nr⟩
theorem put_r {k : Int} (b : Bx H dg ds thing ro pa t1 t2 t3 l1 kvs c n' l p r H1) (few : kvs.length ≤ 12) (hw : ¬ k ≤ way) (e : DN H t (sg dg od ro pa way thing v6 v7) H1) : sDPut (tVar 3) (tC (.str "rest")) t { D with nx := Bt H dg ds k } (sg dg od ro pa way thing v6 v7) H1 :=
  put_rd b few hw (G := NewV H) (fun Q k => e H1 (Same.refl _) Q k) fun y H3 m d g => ⟨c, n', l, p, y, five_r b.five y, m _ b.dc, m _ b.dn, m _ b.dl, m _ b.dp, d, g⟩
/-- one of the ifs -/
theorem blk {k k' : Int} {body : TS} (hk : k' = k + 1) (b : Bt H dg ds k σ H1)
    (h : ∀ (thing : V) (od ro pa t1 t2 t3 l1 : Addr) (kvs : List (Key × V)) (c n l p r : V) (v6 v7 : Option V), Bx H dg ds thing ro pa t1 t2 t3 l1 kvs c n l p r H1 → kvs.length ≤ 12 → LsD H1 c → LsD H1 n → LsD H1 l → LsD H1 r → body { D with nx := Bt H dg ds k' } (sg dg od ro pa k thing v6 v7) H1) :
    tIfS (tTest (tOp rEq (tVar 4) (tC (.int k)))) body tNext { D with nx := Bt H dg ds k' } σ H1 := by
  obtain ⟨way, thing, od, ro, pa, t1, t2, t3, l1, kvs, c, n, l, p, r, v6, v7, rfl, b, g⟩ := b
  refine ⟨_, rfl, rfl, _, rfl, ?_⟩
  by_cases e : way = k
  · subst e
    rw [decide_eq_true rfl]
    obtain ⟨f, g1, g2, g3, g4⟩ := g (Int.le_refl _)
    exact h _ _ _ _ _ _ _ _ _ _ _ _ _ _ _ _ b f g1 g2 g3 g4
  · rw [decide_eq_false (by intro z; cases z; exact e rfl)]
    refine iteF ⟨way, thing, od, ro, pa, t1, t2, t3, l1, kvs, c, n, l, p, r, v6, v7, rfl, b, fun h => g (by omega)⟩
end K1

set_option Elab.async false
set_option linter.all false
set_option maxRecDepth 100000
set_option maxHeartbeats 8000000
namespace K1
open PySem L2
section
variable {P : Program} {w : World} {K : PySem.W.Frag} {mg : Str → Option Value} {base : Heap}
theorem none_of {H H1 : Hp} {a : Addr} (s : Same H H1) (h : H1 a = none) : H a = none := by
  cases e : H a with
  | none => rfl
  | some o => rw [s _ _ e] at h; cases h
theorem cut_len {xs : List V} {lo hi : Option Int} : (cutV xs lo hi).length ≤ xs.length := by
  unfold cutV
  rw [List.length_take, List.length_drop]
  omega
theorem ix_mod (n : Nat) (hn : 0 < n) (z : Int) : ∃ j, ixN n (z % (n : Int)) = some j := by
  have h1 := Int.emod_nonneg z (show (n : Int) ≠ 0 by omega)
  have h2 := Int.emod_lt_of_pos z (show (0 : Int) < (n : Int) by omega)
  exact ⟨_, by unfold ixN; rw [if_pos h1, if_pos h2]⟩
theorem mem_set {α : Type} {xs : List α} {j : Nat} {a x : α} (h : x ∈ xs.set j a) : x = a ∨ x ∈ xs := by
  rcases List.mem_or_eq_of_mem_set h with h | h
  · exact .inr h
  · exact .inl h
theorem lsd_mono {H H1 : Hp} {v : V} (h : LsD H v) (s : Same H H1) : LsD H1 v := by
  obtain ⟨a, xs, e, h, f⟩ := h
  exact ⟨a, xs, e, s _ _ h, f⟩
/-! ### _law_built -/
def spBuilt : Sp := fun vs H Q _ => ∃ (dg : Addr) (ds : List Int), vs = [.ref dg] ∧ H dg = some (.lst (ds.map V.int)) ∧ ds.length = 20 ∧ ∀ (d : Addr) (c n l p r : V) (H' : Hp), Same H H' → H d = none → PartsAt H' d c n l p r → NewV H r → Q (.ref d) H'
abbrev buN : List Str := ["_law_digits_here", "_law_odd", "_law_rows", "_law_parts", "_law_way", "_law_thing", "_law_row", "_law_fields"]
theorem sc46 : FnScope buN ["_law_digits_here"] (defScope (top 46)) := ⟨rfl, rfl, rfl, by decide +kernel, rfl, by decide +kernel, by decide +kernel⟩
theorem ok46 {f : Addr} {fd : FuncData} (F : Fun K "_law_built" "_law_built" (top 46) f fd) (B : Blt mg) : FnOk P w K mg base CX0 1 f fd ["_law_digits_here"] spBuilt := by
  refine F.ok sc46 (fun vs H Q E h => ?_) (fun cdv A outer s H vs Q E hr h => ?_)
  · obtain ⟨dg, ds, rfl, _⟩ := h
    rfl
  · obtain ⟨dg, ds, rfl, hdg, hlen, k⟩ := h
    have hu := hu_of hr
    refine ⟨_, pss_mid (ps_set (i := 1) sc46.nd rfl (Or.inl rfl) (pe_lst (pa_cons pe_non (pa_cons pe_bl (pa_cons pe_str (pa_cons pe_str (pa_cons pe_str (pa_cons (pe_lst (pa_cons pe_str pa_nil)) (pa_cons (pe_tup (pa_cons pe_str pa_nil)) (pa_cons pe_int (pa_cons pe_dnewK (pa_cons pe_str (pa_cons pe_bl (pa_cons (pe_op op_sub pe_int pe_int) pa_nil))))))))))))))
      (pss_mid (ps_set (i := 2) sc46.nd rfl (Or.inl rfl) (pe_lst (pa_cons (pe_tup (pa_cons pe_str (pa_cons pe_int (pa_cons (pe_lst (pa_cons pe_str pa_nil)) (pa_cons pe_bl pa_nil))))) (pa_cons (pe_tup (pa_cons pe_str (pa_cons pe_int (pa_cons (pe_lst pa_nil) (pa_cons pe_bl pa_nil))))) (pa_cons (pe_tup (pa_cons pe_str (pa_cons pe_int (pa_cons (pe_lst (pa_cons pe_str (pa_cons pe_str (pa_cons pe_str pa_nil)))) (pa_cons pe_bl pa_nil))))) pa_nil)))))
      (pss_mid (ps_set (i := 3) sc46.nd rfl (Or.inl rfl) (pe_disp (pps_cons pe_str (pe_slice sl_list (pv 2) po_none (po_some (pe_op op_add pe_int (pe_op op_mod (pe_callTy call_int1 rfl B.int PyProof.Rows.boot_int (pa_cons (pe_ix ix_list (pv 0) pe_int (fun _ _ => rfl)) pa_nil)) pe_int)))) (pps_cons pe_str (pe_slice sl_list (pe_lst (pa_cons pe_str (pa_cons pe_str (pa_cons pe_str (pa_cons pe_str pa_nil))))) po_none (po_some (pe_op op_add pe_int (pe_op op_mod (pe_callTy call_int1 rfl B.int PyProof.Rows.boot_int (pa_cons (pe_ix ix_list (pv 0) pe_int (fun _ _ => rfl)) pa_nil)) pe_int)))) pps_nil)) (by rfl) (by rfl) (fun z => by cases z) (by decide)))
      (pss_mid (ps_expr (pe_bm PySem.F.plainAttrs_dict PySem.F.slot_dict_update PySem.F.type_dict_update mt_upd1 (pv 3) (pa_cons (pe_disp (pps_cons pe_str (pe_slice sl_list (pe_lst (pa_cons pe_str (pa_cons pe_str pa_nil))) po_none (po_some (pe_op op_mod (pe_callTy call_int1 rfl B.int PyProof.Rows.boot_int (pa_cons (pe_ix ix_list (pv 0) pe_int (fun _ _ => rfl)) pa_nil)) pe_int))) (pps_cons pe_str (pe_op op_add pe_int (pe_op op_mod (pe_callTy call_int1 rfl B.int PyProof.Rows.boot_int (pa_cons (pe_ix ix_list (pv 0) pe_int (fun _ _ => rfl)) pa_nil)) pe_int)) pps_nil)) (by rfl) (by rfl) (fun z => by cases z) (by decide)) pa_nil)))
      (pss_mid (ps_dput hu (pv 3) pe_str (pe_slice sl_list (pe_lst (pa_cons pe_int (pa_cons pe_int (pa_cons pe_int pa_nil)))) po_none (po_some (pe_op op_mod (pe_callTy call_int1 rfl B.int PyProof.Rows.boot_int (pa_cons (pe_ix ix_list (pv 0) pe_int (fun _ _ => rfl)) pa_nil)) pe_int))) rfl)
      (pss_mid (ps_set (i := 4) sc46.nd rfl (Or.inl rfl) (pe_op op_mod (pe_callTy call_int1 rfl B.int PyProof.Rows.boot_int (pa_cons (pe_ix ix_list (pv 0) pe_int (fun _ _ => rfl)) pa_nil)) pe_int))
      (pss_mid (ps_set (i := 5) sc46.nd rfl (Or.inl rfl) (pe_ix ix_list (pv 1) (pe_op op_mod (pe_callTy call_int1 rfl B.int PyProof.Rows.boot_int (pa_cons (pe_ix ix_list (pv 0) pe_int (fun _ _ => rfl)) pa_nil)) pe_int) (fun _ _ => rfl)))
      (pss_mid (ps_if (pt_cmpR op_eq (pv 4) pe_int (nomark _)) (pss_cons (ps_set (i := 6) sc46.nd rfl (Or.inl rfl) (pe_callTy (r := rLof K) call_list_of rfl B.list PyProof.Rows.boot_list (pa_cons (pe_ix ix_list (pv 2) pe_int (fun _ _ => rfl)) pa_nil))) (pss_cons (ps_asg (pv 5) (pg_sub (pv 6) (pe_op op_mod (pe_callTy call_int1 rfl B.int PyProof.Rows.boot_int (pa_cons (pe_ix ix_list (pv 0) pe_int (fun _ _ => rfl)) pa_nil)) pe_int) set_list)) (pss_one (ps_dput hu (pv 3) pe_str (pe_op op_cat (pe_dget hu (pv 3) pe_str (fun _ _ => rfl)) (pe_lst (pa_cons (pe_callTy (r := rTof K) call_tuple_of rfl B.tuple PyProof.Rows.boot_tuple (pa_cons (pv 6) pa_nil)) pa_nil))) rfl)))) pss_nil)
      (pss_mid (ps_if (pt_cmpR op_eq (pv 4) pe_int (nomark _)) (pss_one (ps_dput hu (pv 3) pe_str (pe_op op_cat (pe_dget hu (pv 3) pe_str (fun _ _ => rfl)) (pe_lst (pa_cons (pe_ix ix_list (pe_lst (pa_cons (pe_ix ix_list (pv 2) pe_int (fun _ _ => rfl)) (pa_cons (pv 5) (pa_cons (pe_slice sl_tup (pe_ix ix_list (pv 2) pe_int (fun _ _ => rfl)) po_none (po_some pe_int)) pa_nil)))) (pe_op op_mod (pe_callTy call_int1 rfl B.int PyProof.Rows.boot_int (pa_cons (pe_ix ix_list (pv 0) pe_int (fun _ _ => rfl)) pa_nil)) pe_int) (fun _ _ => rfl)) pa_nil))) rfl)) pss_nil)
      (pss_mid (ps_if (pt_cmpR op_eq (pv 4) pe_int (nomark _)) (pss_one (ps_dput hu (pv 3) pe_str (pe_ix ix_list (pe_lst (pa_cons (pe_lst pa_nil) (pa_cons (pe_ix ix_list (pv 2) pe_int (fun _ _ => rfl)) (pa_cons (pe_callTy (r := rTof K) call_tuple_of rfl B.tuple PyProof.Rows.boot_tuple (pa_cons (pv 2) pa_nil)) (pa_cons (pe_op op_rep (pv 2) pe_int) (pa_cons (pv 5) pa_nil)))))) (pe_op op_mod (pe_callTy call_int1 rfl B.int PyProof.Rows.boot_int (pa_cons (pe_ix ix_list (pv 0) pe_int (fun _ _ => rfl)) pa_nil)) pe_int) (fun _ _ => rfl)) rfl)) pss_nil)
      (pss_mid (ps_if (pt_cmpR op_eq (pv 4) pe_int (nomark _)) (pss_cons (ps_set (i := 7) sc46.nd rfl (Or.inl rfl) (pe_ix ix_list (pe_lst (pa_cons (pe_lst (pa_cons pe_str (pa_cons pe_str pa_nil))) (pa_cons (pv 5) (pa_cons (pe_lst (pa_cons pe_str (pa_cons pe_str (pa_cons pe_str (pa_cons pe_str pa_nil))))) (pa_cons (pe_lst (pa_cons pe_str (pa_cons (pv 5) pa_nil))) pa_nil))))) (pe_op op_mod (pe_callTy call_int1 rfl B.int PyProof.Rows.boot_int (pa_cons (pe_ix ix_list (pv 0) pe_int (fun _ _ => rfl)) pa_nil)) pe_int) (fun _ _ => rfl))) (pss_one (ps_dput hu (pv 3) pe_str (pe_lst (pa_cons (pe_tup (pa_cons pe_str (pa_cons pe_int (pa_cons (pv 7) (pa_cons pe_bl pa_nil))))) pa_nil)) rfl))) pss_nil)
      (pss_mid (ps_if (pt_cmpR op_eq (pv 4) pe_int (nomark _)) (pss_one (ps_dput hu (pv 3) pe_str (pe_op op_cat (pe_dget hu (pv 3) pe_str (fun _ _ => rfl)) (pe_lst (pa_cons (pe_ix ix_list (pe_lst (pa_cons (pv 5) (pa_cons pe_str pa_nil))) (pe_op op_mod (pe_callTy call_int1 rfl B.int PyProof.Rows.boot_int (pa_cons (pe_ix ix_list (pv 0) pe_int (fun _ _ => rfl)) pa_nil)) pe_int) (fun _ _ => rfl)) pa_nil))) rfl)) pss_nil)
      (pss_mid (ps_if (pt_cmpR op_eq (pv 4) pe_int (nomark _)) (pss_one (ps_dput hu (pv 3) pe_str (pe_ix ix_list (pe_lst (pa_cons (pe_lst pa_nil) (pa_cons (pe_tup (pa_cons pe_str pa_nil)) (pa_cons (pv 5) (pa_cons (pe_lst (pa_cons pe_str (pa_cons pe_str (pa_cons pe_str (pa_cons pe_str (pa_cons pe_str (pa_cons pe_str (pa_cons pe_str (pa_cons pe_str (pa_cons pe_str pa_nil)))))))))) pa_nil))))) (pe_op op_mod (pe_callTy call_int1 rfl B.int PyProof.Rows.boot_int (pa_cons (pe_ix ix_list (pv 0) pe_int (fun _ _ => rfl)) pa_nil)) pe_int) (fun _ _ => rfl)) rfl)) pss_nil)
      (pss_mid (ps_if (pt_cmpR op_eq (pv 4) pe_int (nomark _)) (pss_one (ps_dput hu (pv 3) pe_str (pe_op op_cat (pe_dget hu (pv 3) pe_str (fun _ _ => rfl)) (pe_lst (pa_cons (pe_ix ix_list (pe_lst (pa_cons (pv 5) (pa_cons pe_str (pa_cons pe_str pa_nil)))) (pe_op op_mod (pe_callTy call_int1 rfl B.int PyProof.Rows.boot_int (pa_cons (pe_ix ix_list (pv 0) pe_int (fun _ _ => rfl)) pa_nil)) pe_int) (fun _ _ => rfl)) pa_nil))) rfl)) pss_nil)
      (pss_mid (ps_if (pt_cmpR op_eq (pv 4) pe_int (nomark _)) (pss_one (ps_dput hu (pv 3) pe_str (pe_ix ix_list (pe_lst (pa_cons (pv 5) (pa_cons (pe_tup (pa_cons pe_str pa_nil)) (pa_cons (pe_lst (pa_cons pe_str (pa_cons pe_str (pa_cons pe_str (pa_cons pe_str (pa_cons pe_str pa_nil)))))) pa_nil)))) (pe_op op_mod (pe_callTy call_int1 rfl B.int PyProof.Rows.boot_int (pa_cons (pe_ix ix_list (pv 0) pe_int (fun _ _ => rfl)) pa_nil)) pe_int) (fun _ _ => rfl)) rfl)) pss_nil)
      (pss_mid (ps_if (pt_cmpR op_eq (pv 4) pe_int (nomark _)) (pss_one (ps_dput hu (pv 3) pe_str (pe_ix ix_list (pe_lst (pa_cons (pv 5) (pa_cons pe_int (pa_cons pe_int (pa_cons pe_int pa_nil))))) (pe_op op_mod (pe_callTy call_int1 rfl B.int PyProof.Rows.boot_int (pa_cons (pe_ix ix_list (pv 0) pe_int (fun _ _ => rfl)) pa_nil)) pe_int) (fun _ _ => rfl)) rfl)) pss_nil)
      (pss_mid (ps_if (pt_cmpR op_eq (pv 4) pe_int (nomark _)) (pss_one (ps_dput hu (pv 3) pe_str (pe_op op_cat (pe_dget hu (pv 3) pe_str (fun _ _ => rfl)) (pe_lst (pa_cons (pe_ix ix_list (pe_lst (pa_cons (pv 5) (pa_cons pe_int (pa_cons pe_int (pa_cons pe_int pa_nil))))) (pe_op op_mod (pe_callTy call_int1 rfl B.int PyProof.Rows.boot_int (pa_cons (pe_ix ix_list (pv 0) pe_int (fun _ _ => rfl)) pa_nil)) pe_int) (fun _ _ => rfl)) pa_nil))) rfl)) pss_nil)
      (pss_mid (ps_if (pt_cmpR op_eq (pv 4) pe_int (nomark _)) (pss_one (ps_dput hu (pv 3) pe_str (pe_ix ix_list (pe_lst (pa_cons (pv 5) (pa_cons (pe_tup (pa_cons pe_int pa_nil)) (pa_cons (pe_lst (pa_cons pe_int (pa_cons pe_int (pa_cons pe_int (pa_cons pe_int pa_nil))))) pa_nil)))) (pe_op op_mod (pe_callTy call_int1 rfl B.int PyProof.Rows.boot_int (pa_cons (pe_ix ix_list (pv 0) pe_int (fun _ _ => rfl)) pa_nil)) pe_int) (fun _ _ => rfl)) rfl)) pss_nil)
      (pss_one (ps_ret (pv 3)))))))))))))))))))), ?_⟩
    have g0 : ∀ {ov v1 v2 v3 v4 v5 v6 : Option V}, Dg [some (.ref dg), ov, v1, v2, v3, v4, v5, v6] H := ⟨dg, ds, rfl, hdg, hlen⟩
    -- odd
    refine ⟨fun σ H1 => ∃ (od : Addr) (os : List V), σ = [some (.ref dg), some (.ref od), none, none, none, none, none, none] ∧ Same H H1 ∧ H1 od = some (.lst os) ∧ os.length = 12 ∧ Dat H1 (.ref od) ∧ (∀ x ∈ os, NewV H x), ?_, ?_⟩
    · refine ⟨by decide, fun p1 n1 => ⟨by decide, fun p2 n2 p3 n3 => ⟨_, _, rfl, rfl, (by show 12 ≤ sizeLine; decide), fun od nod => ?_⟩⟩⟩
      have s1 := same_new (o := .lst [.str "a"]) (Same.refl H) n1
      have s2 := same_new (o := .tup [.str "a"]) s1 n2
      have s3 := same_new (o := .dK []) s2 n3
      have d1 := ((Dat.newL n1 (xs := [.str "a"]) (fun x hx => by rw [List.mem_singleton.mp hx]; exact dstr)).new n2 (o := .tup [.str "a"])).new n3 (o := .dK [])
      have d2 := (Dat.newT n2 (xs := [.str "a"]) (fun x hx => by rw [List.mem_singleton.mp hx]; exact dstr)).new n3 (o := .dK [])
      have d3 : Dat (upd (upd (upd H p1 (.lst [.str "a"])) p2 (.tup [.str "a"])) p3 (.dK [])) (.ref p3) := .dic upd_same
      refine ⟨od, [V.non, V.bl true, V.str "", V.str "Ab", V.str "toolongname", V.ref p1, V.ref p2, V.int 7, V.ref p3, V.str "a1", V.bl false, V.int (0 - 1)], rfl, same_new s3 nod, upd_same, rfl, Dat.newL nod fun x hx => ?_, fun x hx => ?_⟩
      rotate_left
      · simp only [List.mem_cons, List.not_mem_nil, or_false] at hx
        rcases hx with rfl | rfl | rfl | rfl | rfl | rfl | rfl | rfl | rfl | rfl | rfl | rfl <;> first | exact NewV.of (Same.refl _) n1 | exact NewV.of s1 n2 | exact NewV.of s2 n3 | exact fun a e => by cases e
      simp only [List.mem_cons, List.not_mem_nil, or_false] at hx
      rcases hx with rfl | rfl | rfl | rfl | rfl | rfl | rfl | rfl | rfl | rfl | rfl | rfl <;> first | exact .non | exact .bl _ | exact .int _ | assumption | exact dstr
    rintro σ H1 ⟨od, os, rfl, s1, hod, olen, dod, nwo⟩
    -- rows
    refine ⟨fun σ H1 => ∃ (od ro t1 t2 t3 l1 : Addr) (os : List V), σ = [some (.ref dg), some (.ref od), some (.ref ro), none, none, none, none, none] ∧ Same H H1 ∧ H1 od = some (.lst os) ∧ os.length = 12 ∧ (∀ x ∈ os, NewV H x) ∧ Dat H1 (.ref od) ∧
        H1 ro = some (.lst [.ref t1, .ref t2, .ref t3]) ∧ H1 t1 = some (.tup [.str "node", .int 1, .ref l1, .bl false]) ∧ Dat H1 (.ref ro), ?_, ?_⟩
    · refine ⟨by decide, fun l1 m1 => ⟨(by show 4 ≤ sizeLine; decide), fun t1 m2 => ⟨by decide, fun l2 m3 => ⟨(by show 4 ≤ sizeLine; decide), fun t2 m4 => ⟨by decide, fun l3 m5 => ⟨(by show 4 ≤ sizeLine; decide), fun t3 m6 => ⟨(by show 3 ≤ sizeLine; decide), fun ro m7 => ?_⟩⟩⟩⟩⟩⟩⟩
      have e1 := same_new (o := .lst [.str "left"]) (Same.refl H1) m1
      have dl1 := Dat.newL m1 (xs := [.str "left"]) (fun x hx => by rw [List.mem_singleton.mp hx]; exact dstr)
      have e2 := same_new (o := .tup [.str "node", .int 1, .ref l1, .bl false]) e1 m2
      have dt1 := Dat.newT m2 (xs := [.str "node", .int 1, .ref l1, .bl false]) (fun x hx => by
        simp only [List.mem_cons, List.not_mem_nil, or_false] at hx
        rcases hx with rfl | rfl | rfl | rfl <;> first | exact .bl _ | exact .int _ | assumption | exact dstr)
      have e3 := same_new (o := .lst []) e2 m3
      have dl2 := Dat.newL m3 (xs := []) (fun x hx => by cases hx)
      have e4 := same_new (o := .tup [.str "pair", .int 8, .ref l2, .bl true]) e3 m4
      have dt2 := Dat.newT m4 (xs := [.str "pair", .int 8, .ref l2, .bl true]) (fun x hx => by
        simp only [List.mem_cons, List.not_mem_nil, or_false] at hx
        rcases hx with rfl | rfl | rfl | rfl <;> first | exact .bl _ | exact .int _ | assumption | exact dstr)
      have e5 := same_new (o := .lst [.str "a", .str "b", .str "c"]) e4 m5
      have dl3 := Dat.newL m5 (xs := [.str "a", .str "b", .str "c"]) (mem3 dstr dstr dstr)
      have e6 := same_new (o := .tup [.str "leaf", .int 3, .ref l3, .bl false]) e5 m6
      have dt3 := Dat.newT m6 (xs := [.str "leaf", .int 3, .ref l3, .bl false]) (fun x hx => by
        simp only [List.mem_cons, List.not_mem_nil, or_false] at hx
        rcases hx with rfl | rfl | rfl | rfl <;> first | exact .bl _ | exact .int _ | assumption | exact dstr)
      have e7 := same_new (o := .lst [.ref t1, .ref t2, .ref t3]) e6 m7
      have q3 := same_new (o := .lst []) (Same.refl _) m3
      have q4 := q3.trans (same_new (o := .tup [.str "pair", .int 8, .ref l2, .bl true]) (Same.refl _) m4)
      have q5 := same_new (o := .lst [.str "a", .str "b", .str "c"]) (Same.refl _) m5
      have q6 := q5.trans (same_new (o := .tup [.str "leaf", .int 3, .ref l3, .bl false]) (Same.refl _) m6)
      have q7 := same_new (o := .lst [.ref t1, .ref t2, .ref t3]) (Same.refl _) m7
      refine ⟨od, ro, t1, t2, t3, l1, os, rfl, s1.trans e7, e7 _ _ hod, olen, nwo, dod.mono e7, upd_same, ?_, Dat.newL m7 (mem3 (dt1.mono (q4.trans q6)) (dt2.mono q6) dt3)⟩
      exact ((q4.trans q6).trans q7) _ _ upd_same
    rintro σ H1 ⟨od, ro, t1, t2, t3, l1, os, rfl, s1, hod, olen, nwo, dod, hro, ht1, dro⟩
    -- parts: classes, names
    refine ⟨fun σ H1 => ∃ (od ro pa t1 t2 t3 l1 : Addr) (os : List V) (kvs : List (Key × V)) (c n : V), σ = [some (.ref dg), some (.ref od), some (.ref ro), some (.ref pa), none, none, none, none] ∧ Same H H1 ∧ H pa = none ∧ H1 od = some (.lst os) ∧ os.length = 12 ∧ (∀ x ∈ os, NewV H x) ∧ Dat H1 (.ref od) ∧
        H1 ro = some (.lst [.ref t1, .ref t2, .ref t3]) ∧ H1 t1 = some (.tup [.str "node", .int 1, .ref l1, .bl false]) ∧ Dat H1 (.ref ro) ∧ H1 pa = some (.dK kvs) ∧ kvs.length ≤ 2 ∧ valV kvs (Sum.inr ("classes" : Str)) = some c ∧ valV kvs (Sum.inr ("names" : Str)) = some n ∧ Dat H1 c ∧ Dat H1 n ∧ LsD H1 c ∧ LsD H1 n, ?_, ?_⟩
    · intro pa npa
      have npa0 := none_of s1 npa
      have e1 := same_new (o := .dK []) (Same.refl H1) npa
      refine ⟨_, rfl, ix_read (g0.mono (s1.trans e1)) 0 (by decide) rfl (by decide : (0 : Int) < 3) fun z => ⟨_, _, rfl, rfl, _, rfl, ro, _, rfl, SqL.of (e1 _ _ hro), fun p1 n1 => ⟨(by show 4 ≤ sizeLine; decide), fun p2 n2 => ?_⟩⟩⟩
      have e2 := same_new (o := .lst (cutV [V.ref t1, V.ref t2, V.ref t3] none (some (1 + z % 3)))) e1 n1
      have e3 := same_new (o := .lst [V.str "x", V.str "y", V.str "z", V.str "abcdefgh"]) e2 n2
      refine ix_read (g0.mono (s1.trans e3)) 1 (by decide) rfl (by decide : (0 : Int) < 4) fun z1 => ⟨_, _, rfl, rfl, _, rfl, p2, _, rfl, SqL.of upd_same, fun p3 n3 => ?_⟩
      have e4 := same_new (o := .lst (cutV [V.str "x", V.str "y", V.str "z", V.str "abcdefgh"] none (some (1 + z1 % 4)))) e3 n3
      have q2 : Same (upd H1 pa (.dK [])) _ := same_new (o := .lst (cutV [V.ref t1, V.ref t2, V.ref t3] none (some (1 + z % 3)))) (Same.refl _) n1
      have q3 := same_new (o := .lst [V.str "x", V.str "y", V.str "z", V.str "abcdefgh"]) q2 n2
      have q4 := same_new (o := .lst (cutV [V.str "x", V.str "y", V.str "z", V.str "abcdefgh"] none (some (1 + z1 % 4)))) q3 n3
      have hpa := q4 _ _ (upd_same (H := H1) (a := pa) (o := .dK []))
      refine ⟨hpa, [(Sum.inr "classes", .ref p1), (Sum.inr "names", .ref p3)], rfl, by show 2 ≤ 15; decide, od, ro, pa, t1, t2, t3, l1, os, _, .ref p1, .ref p3, rfl, same_upd (s1.trans e4) npa0, npa0, ?_, olen, nwo, Dat.updD hpa (dod.mono e4), ?_, ?_, Dat.updD hpa (dro.mono e4), upd_same, length_mergeK _ _, rfl, rfl, Dat.updD hpa ?_, Dat.updD hpa ?_, ⟨p1, cutV [V.ref t1, V.ref t2, V.ref t3] none (some (1 + z % 3)), rfl, ?_, ?_⟩, ⟨p3, cutV [V.str "x", V.str "y", V.str "z", V.str "abcdefgh"] none (some (1 + z1 % 4)), rfl, ?_, ?_⟩⟩
      · rw [upd_ne (ne_of (e4 _ _ hod) hpa (by intro z; cases z))]
        exact e4 _ _ hod
      · rw [upd_ne (ne_of (e4 _ _ hro) hpa (by intro z; cases z))]
        exact e4 _ _ hro
      · rw [upd_ne (ne_of (e4 _ _ ht1) hpa (by intro z; cases z))]
        exact e4 _ _ ht1
      · exact (Dat.newL n1 fun x hx => (dat_lst dro hro x (cut_mem hx)).mono e1).mono ((same_new (Same.refl _) n2).trans (same_new (Same.refl _) n3))
      · refine Dat.newL n3 fun x hx => ?_
        have hx := cut_mem hx
        simp only [List.mem_cons, List.not_mem_nil, or_false] at hx
        rcases hx with rfl | rfl | rfl | rfl <;> exact dstr
      · have h1 := ((same_new (o := .lst [V.str "x", V.str "y", V.str "z", V.str "abcdefgh"]) (Same.refl _) n2).trans (same_new (o := .lst (cutV [V.str "x", V.str "y", V.str "z", V.str "abcdefgh"] none (some (1 + z1 % 4)))) (Same.refl _) n3)) _ _ (upd_same (a := p1))
        rw [upd_ne (ne_of h1 hpa (by intro z; cases z))]
        exact h1
      · exact Nat.le_trans cut_len (by simp only [List.length_cons, List.length_nil]; omega)
      · rw [upd_ne (ne_of (upd_same (a := p3)) hpa (by intro z; cases z))]
        exact upd_same
      · exact Nat.le_trans cut_len (by simp only [List.length_cons, List.length_nil]; omega)
    rintro σ H1 ⟨od, ro, pa, t1, t2, t3, l1, os, kvs, c, n, rfl, s1, npa0, hod, olen, nwo, dod, hro, ht1, dro, hpa, few, vc, vn, dc, dn, lc, ln⟩
    -- loose, pace
    refine ⟨fun σ H1 => ∃ (od ro pa t1 t2 t3 l1 : Addr) (os : List V) (kvs : List (Key × V)) (c n l p : V), σ = [some (.ref dg), some (.ref od), some (.ref ro), some (.ref pa), none, none, none, none] ∧ Same H H1 ∧ H pa = none ∧ H1 od = some (.lst os) ∧ os.length = 12 ∧ (∀ x ∈ os, NewV H x) ∧ Dat H1 (.ref od) ∧
        H1 ro = some (.lst [.ref t1, .ref t2, .ref t3]) ∧ H1 t1 = some (.tup [.str "node", .int 1, .ref l1, .bl false]) ∧ Dat H1 (.ref ro) ∧ H1 pa = some (.dK kvs) ∧ kvs.length ≤ 4 ∧ valV kvs (Sum.inr ("classes" : Str)) = some c ∧ valV kvs (Sum.inr ("names" : Str)) = some n ∧ valV kvs (Sum.inr ("loose" : Str)) = some l ∧ valV kvs (Sum.inr ("pace" : Str)) = some p ∧
        (Dat H1 c ∧ Dat H1 n ∧ Dat H1 l ∧ Dat H1 p) ∧ LsD H1 c ∧ LsD H1 n ∧ LsD H1 l, ?_, ?_⟩
    · refine ⟨_, rfl, .inr (.inr (.inl ⟨rfl, .inl ⟨_, hpa⟩⟩)), fun pl npl => ⟨(by show 2 ≤ sizeLine; decide), fun p1 n1 => ?_⟩⟩
      have e1 := same_new (o := .dK []) (Same.refl H1) npl
      have e2 := same_new (o := .lst [V.str "w", V.str "v"]) e1 n1
      refine ix_read (g0.mono (s1.trans e2)) 2 (by decide) rfl (by decide : (0 : Int) < 3) fun z => ⟨_, rfl, p1, _, rfl, SqL.of upd_same, fun p2 n2 => ?_⟩
      have e3 := same_new (o := .lst (cutV [V.str "w", V.str "v"] none (some (z % 3)))) e2 n2
      refine ix_read (g0.mono (s1.trans e3)) 3 (by decide) rfl (by decide : (0 : Int) < 4) fun z1 => ⟨_, _, rfl, rfl, ?_⟩
      have q2 : Same (upd H1 pl (.dK [])) _ := same_new (o := .lst [V.str "w", V.str "v"]) (Same.refl _) n1
      have q3 := same_new (o := .lst (cutV [V.str "w", V.str "v"] none (some (z % 3)))) q2 n2
      have hpl := q3 _ _ (upd_same (H := H1) (a := pl) (o := .dK []))
      have ne : pa ≠ pl := fun z => by rw [z, npl] at hpa; cases hpa
      refine ⟨hpl, [(Sum.inr "loose", .ref p2), (Sum.inr "pace", .int (1 + z1 % 4))], rfl, by show 2 ≤ 15; decide, ?_⟩
      have h1 : (upd (upd (upd (upd H1 pl (.dK [])) p1 (.lst [V.str "w", V.str "v"])) p2 (.lst (cutV [V.str "w", V.str "v"] none (some (z % 3))))) pl (.dK (mergeK [] [(Sum.inr "loose", .ref p2), (Sum.inr "pace", .int (1 + z1 % 4))]))) pa = some (.dK kvs) := by
        rw [upd_ne ne]
        exact e3 _ _ hpa
      have far : ∀ {a : Addr} {o : HO}, H1 a = some o → o ≠ .dK kvs → (upd (upd (upd (upd (upd H1 pl (.dK [])) p1 (.lst [V.str "w", V.str "v"])) p2 (.lst (cutV [V.str "w", V.str "v"] none (some (z % 3))))) pl (.dK (mergeK [] [(Sum.inr "loose", .ref p2), (Sum.inr "pace", .int (1 + z1 % 4))]))) pa (.dK (putK (putK kvs (Sum.inr "loose") (.ref p2)) (Sum.inr "pace") (.int (1 + z1 % 4))))) a = some o := fun {a o} e no => by
        have n1' : a ≠ pl := fun z => by rw [z, npl] at e; cases e
        rw [upd_ne (ne_of e hpa no), upd_ne n1']
        exact e3 _ _ e
      have dat : ∀ {v : V}, Dat H1 v → Dat (upd (upd (upd (upd (upd H1 pl (.dK [])) p1 (.lst [V.str "w", V.str "v"])) p2 (.lst (cutV [V.str "w", V.str "v"] none (some (z % 3))))) pl (.dK (mergeK [] [(Sum.inr "loose", .ref p2), (Sum.inr "pace", .int (1 + z1 % 4))]))) pa (.dK (putK (putK kvs (Sum.inr "loose") (.ref p2)) (Sum.inr "pace") (.int (1 + z1 % 4))))) v := fun d => Dat.updD h1 (Dat.updD hpl (d.mono e3))
      have ls : ∀ {v : V}, LsD H1 v → LsD (upd (upd (upd (upd (upd H1 pl (.dK [])) p1 (.lst [V.str "w", V.str "v"])) p2 (.lst (cutV [V.str "w", V.str "v"] none (some (z % 3))))) pl (.dK (mergeK [] [(Sum.inr "loose", .ref p2), (Sum.inr "pace", .int (1 + z1 % 4))]))) pa (.dK (putK (putK kvs (Sum.inr "loose") (.ref p2)) (Sum.inr "pace") (.int (1 + z1 % 4))))) v := fun ⟨a, xs, e, h, f⟩ => ⟨a, xs, e, far h (by intro z; cases z), f⟩
      have np2 : p2 ≠ pl := fun z => by rw [z] at n2; rw [q2 _ _ upd_same] at n2; cases n2
      have np3 : p2 ≠ pa := fun z => by rw [z] at n2; rw [e2 _ _ hpa] at n2; cases n2
      refine ⟨pa, pl, kvs, _, rfl, rfl, ne, h1, upd_same, ?_, od, ro, pa, t1, t2, t3, l1, os, _, c, n, .ref p2, .int (1 + z1 % 4), rfl, same_upd (same_upd (s1.trans e3) (none_of s1 npl)) npa0, npa0, far hod (by intro z; cases z), olen, nwo, dat dod, far hro (by intro z; cases z), far ht1 (by intro z; cases z), dat dro, upd_same, ?_, ?_, ?_, ?_, ?_, ⟨dat dc, dat dn, ?_, .int _⟩, ls lc, ls ln, p2, cutV [V.str "w", V.str "v"] none (some (z % 3)), rfl, ?_, ?_⟩
      · have hl : (mergeK [] [(Sum.inr "loose", V.ref p2), (Sum.inr "pace", V.int (1 + z1 % 4))] : List (Key × V)).length ≤ 2 := length_mergeK _ _
        have : 4 ≤ sizeLine := by decide
        exact Nat.le_trans (Nat.add_le_add few hl) this
      · have hl : (mergeK [] [(Sum.inr "loose", V.ref p2), (Sum.inr "pace", V.int (1 + z1 % 4))] : List (Key × V)).length ≤ 2 := length_mergeK _ _
        exact Nat.le_trans (length_mergeK _ _) (Nat.add_le_add few hl)
      · show valV (putK (putK kvs (Sum.inr "loose") (.ref p2)) (Sum.inr "pace") (.int (1 + z1 % 4))) _ = _
        rw [valV_put, if_neg (by decide +kernel), valV_put, if_neg (by decide +kernel)]
        exact vc
      · show valV (putK (putK kvs (Sum.inr "loose") (.ref p2)) (Sum.inr "pace") (.int (1 + z1 % 4))) _ = _
        rw [valV_put, if_neg (by decide +kernel), valV_put, if_neg (by decide +kernel)]
        exact vn
      · show valV (putK (putK kvs (Sum.inr "loose") (.ref p2)) (Sum.inr "pace") (.int (1 + z1 % 4))) _ = _
        rw [valV_put, if_neg (by decide +kernel), valV_put, if_pos rfl]
      · show valV (putK (putK kvs (Sum.inr "loose") (.ref p2)) (Sum.inr "pace") (.int (1 + z1 % 4))) _ = _
        rw [valV_put, if_pos rfl]
      · refine Dat.updD h1 (Dat.updD hpl (Dat.newL n2 fun x hx => ?_))
        have hx := cut_mem hx
        simp only [List.mem_cons, List.not_mem_nil, or_false] at hx
        rcases hx with rfl | rfl <;> exact dstr
      · rw [upd_ne np3, upd_ne np2]
        exact upd_same
      · exact Nat.le_trans cut_len (by simp only [List.length_cons, List.length_nil]; omega)
    rintro σ H1 ⟨od, ro, pa, t1, t2, t3, l1, os, kvs, c, n, l, p, rfl, s1, npa0, hod, olen, nwo, dod, hro, ht1, dro, hpa, few, vc, vn, vl, vp, ⟨dc, dn, dl, dp⟩, lc, ln, ll⟩
    -- rest
    refine ⟨fun σ H1 => ∃ (od ro pa t1 t2 t3 l1 : Addr) (os : List V) (kvs : List (Key × V)) (c n l p r : V), σ = [some (.ref dg), some (.ref od), some (.ref ro), some (.ref pa), none, none, none, none] ∧ Same H H1 ∧ H pa = none ∧ H1 od = some (.lst os) ∧ os.length = 12 ∧ (∀ x ∈ os, NewV H x) ∧ Dat H1 (.ref od) ∧
        H1 ro = some (.lst [.ref t1, .ref t2, .ref t3]) ∧ H1 t1 = some (.tup [.str "node", .int 1, .ref l1, .bl false]) ∧ Dat H1 (.ref ro) ∧ H1 pa = some (.dK kvs) ∧ kvs.length ≤ 5 ∧ Five kvs c n l p r ∧
        (Dat H1 c ∧ Dat H1 n ∧ Dat H1 l ∧ Dat H1 p ∧ Dat H1 r ∧ NewV H r) ∧ LsD H1 c ∧ LsD H1 n ∧ LsD H1 l ∧ LsD H1 r, ?_, ?_⟩
    · refine ⟨(by show 3 ≤ sizeLine; decide), fun p1 n1 => ?_⟩
      have e1 := same_new (o := .lst [V.int 2, V.int 3, V.int 2]) (Same.refl H1) n1
      refine ix_read (g0.mono (s1.trans e1)) 4 (by decide) rfl (by decide : (0 : Int) < 3) fun z => ⟨_, rfl, p1, _, rfl, SqL.of upd_same, fun p2 n2 => ?_⟩
      have e2 := same_new (o := .lst (cutV [V.int 2, V.int 3, V.int 2] none (some (z % 3)))) e1 n2
      have hp := e2 _ _ hpa
      have np2 : p2 ≠ pa := fun z => by rw [z] at n2; rw [e1 _ _ hpa] at n2; cases n2
      have far : ∀ {a : Addr} {o : HO}, H1 a = some o → o ≠ .dK kvs → (upd (upd (upd H1 p1 (.lst [V.int 2, V.int 3, V.int 2])) p2 (.lst (cutV [V.int 2, V.int 3, V.int 2] none (some (z % 3))))) pa (.dK (putK kvs (Sum.inr "rest") (.ref p2)))) a = some o := fun {a o} e no => by
        rw [upd_ne (ne_of e hpa no)]
        exact e2 _ _ e
      have dat : ∀ {v : V}, Dat H1 v → Dat (upd (upd (upd H1 p1 (.lst [V.int 2, V.int 3, V.int 2])) p2 (.lst (cutV [V.int 2, V.int 3, V.int 2] none (some (z % 3))))) pa (.dK (putK kvs (Sum.inr "rest") (.ref p2)))) v := fun d => Dat.updD hp (d.mono e2)
      have ls : ∀ {v : V}, LsD H1 v → LsD (upd (upd (upd H1 p1 (.lst [V.int 2, V.int 3, V.int 2])) p2 (.lst (cutV [V.int 2, V.int 3, V.int 2] none (some (z % 3))))) pa (.dK (putK kvs (Sum.inr "rest") (.ref p2)))) v := fun ⟨a, xs, e, h, f⟩ => ⟨a, xs, e, far h (by intro z; cases z), f⟩
      have f5 : kvs.length < sizeLine := by
        have : 5 ≤ sizeLine := by decide
        omega
      refine ⟨_, rfl, pa, _, rfl, .inl ⟨kvs, Sum.inr "rest", hp, rfl, f5, rfl⟩, od, ro, pa, t1, t2, t3, l1, os, _, c, n, l, p, .ref p2, rfl, same_upd (s1.trans e2) npa0, npa0, far hod (by intro z; cases z), olen, nwo, dat dod, far hro (by intro z; cases z), far ht1 (by intro z; cases z), dat dro, upd_same, ?_, ⟨?_, ?_, ?_, ?_, ?_⟩, ⟨dat dc, dat dn, dat dl, dat dp, ?_, NewV.of (s1.trans e1) n2⟩, ls lc, ls ln, ls ll, p2, cutV [V.int 2, V.int 3, V.int 2] none (some (z % 3)), rfl, ?_, ?_⟩
      · exact Nat.le_trans (length_putK _ _ _) (by omega)
      · rw [valV_put, if_neg (by decide +kernel)]
        exact vc
      · rw [valV_put, if_neg (by decide +kernel)]
        exact vn
      · rw [valV_put, if_neg (by decide +kernel)]
        exact vl
      · rw [valV_put, if_neg (by decide +kernel)]
        exact vp
      · rw [valV_put, if_pos rfl]
      · refine Dat.updD hp (Dat.newL n2 fun x hx => ?_)
        have hx := cut_mem hx
        simp only [List.mem_cons, List.not_mem_nil, or_false] at hx
        rcases hx with rfl | rfl | rfl <;> exact .int _
      · rw [upd_ne np2]
        exact upd_same
      · exact Nat.le_trans cut_len (by simp only [List.length_cons, List.length_nil]; omega)
    rintro σ H1 ⟨od, ro, pa, t1, t2, t3, l1, os, kvs, c, n, l, p, r, rfl, s1, npa0, hod, olen, nwo, dod, hro, ht1, dro, hpa, few, five, ⟨dc, dn, dl, dp, dr, nwr⟩, lc, ln, ll, lr⟩
    -- way
    refine ⟨fun σ H2 => H2 = H1 ∧ ∃ way, σ = [some (.ref dg), some (.ref od), some (.ref ro), some (.ref pa), some (.int way), none, none, none], ix_read (g0.mono s1) 5 (by decide) rfl (by decide : (0 : Int) < 14) fun z => ⟨rfl, _, rfl⟩, ?_⟩
    rintro σ H2 ⟨rfl, way, rfl⟩
    -- thing
    refine ⟨Bt H dg ds 0, ⟨_, rfl, ix_read (g0.mono s1) 6 (by decide) rfl (by decide : (0 : Int) < 12) fun z => ?_⟩, fun σ H1 b => ?_⟩
    · obtain ⟨v, hv, mv⟩ := at_mod olen (by decide) z
      exact ⟨od, os, _, v, rfl, rfl, SqL.of hod, hv, way, v, od, ro, pa, t1, t2, t3, l1, kvs, c, n, l, p, r, none, none, rfl, ⟨s1, npa0, hdg, hlen, dat_lst dod hod v mv, hro, ht1, dro, hpa, five, dc, dn, dl, dp, dr, nwo v mv, nwr⟩, fun _ => ⟨by omega, lc, ln, ll, lr⟩⟩
    clear hod dod olen nwo nwr five lc ln ll lr few hpa npa0 hro ht1 dro dc dn dl dp dr s1
    clear od ro pa t1 t2 t3 l1 os kvs c n l p r way
    refine ⟨Bt H dg ds 1, blk rfl b (fun thing od ro pa t1 t2 t3 l1 kvs c n l p r v6 v7 b few lc ln ll lr => ?_), fun σ H1 b => ?_⟩
    · refine ⟨_, rfl, ro, _, 0, _, rfl, rfl, SqL.of b.hro, rfl, t1, _, rfl, .inr (SqT.of b.ht1), fun q nq => ⟨_, rfl, _, rfl, ix_read (b.mono (same_new (Same.refl _) nq)).dgs 7 (by decide) rfl (by decide : (0 : Int) < 4) fun z => ?_⟩⟩
      obtain ⟨j, hj⟩ := ix_mod 4 (by decide) z
      have s2 := same_upd (o := .lst (List.set [.str "node", .int 1, .ref l1, .bl false] j thing)) (same_new (o := .lst [.str "node", .int 1, .ref l1, .bl false]) (Same.refl H1) nq) nq
      have b' := b.mono s2
      have lc' := lsd_mono lc s2
      refine ⟨q, _, _, j, rfl, rfl, upd_same, hj, put_c (v6 := some (.ref q)) (way := 0) (k := 1) (od := od) (v7 := v7) b' few (by decide) (de_cat rfl b'.hpa b'.five.c lc' b'.dc (de_tof rfl upd_same fun x hx => ?_))⟩
      rcases mem_set hx with rfl | hx
      · exact b.th.mono s2
      · exact ((dat_tup (dat_lst b.dro b.hro _ (List.mem_cons_self ..)) b.ht1) x hx).mono s2
    refine ⟨Bt H dg ds 2, blk rfl b (fun thing od ro pa t1 t2 t3 l1 kvs c n l p r v6 v7 b few lc ln ll lr => put_c b few (by decide) (de_cat rfl b.hpa b.five.c lc b.dc (de_pick b.dgs (da_cons (de_ix rfl b.hro rfl (dat_lst b.dro b.hro _ (List.mem_cons_self ..))) (da_cons (de_var rfl b.th) (da_cons (de_slt rfl b.hro rfl b.ht1 (dat_tup (dat_lst b.dro b.hro _ (List.mem_cons_self ..)) b.ht1) (fun h => absurd h.2 (by show ¬ (HT.sIx 4 4 (some 3) = 4); decide +kernel))) da_nil))) (by decide) 7 (by decide) rfl rfl (by decide)))), fun σ H1 b => ?_⟩
    refine ⟨Bt H dg ds 3, blk rfl b (fun thing od ro pa t1 t2 t3 l1 kvs c n l p r v6 v7 b few lc ln ll lr => put_c b few (by decide) (de_pick b.dgs (da_cons (de_lst da_nil (by decide)) (da_cons (de_ix rfl b.hro rfl (dat_lst b.dro b.hro _ (List.mem_cons_self ..))) (da_cons (de_tof rfl b.hro (dat_lst b.dro b.hro)) (da_cons (de_rep rfl b.hro (dat_lst b.dro b.hro) (by decide) (by decide) (by show 3 * 3 ≤ sizeLine; decide)) (da_cons (de_var rfl b.th) da_nil))))) (by decide) 7 (by decide) rfl rfl (by decide))), fun σ H1 b => ?_⟩
    refine ⟨Bt H dg ds 4, blk rfl b (fun thing od ro pa t1 t2 t3 l1 kvs c n l p r v6 v7 b few lc ln ll lr => ?_), fun σ H1 b => ?_⟩
    · exact (de_pick b.dgs (da_cons (de_lst (da_cons de_str (da_cons de_str da_nil)) (by decide)) (da_cons (de_var rfl b.th) (da_cons (de_lst (da_cons de_str (da_cons de_str (da_cons de_str (da_cons de_str da_nil)))) (by decide)) (da_cons (de_lst (da_cons de_str (da_cons (de_var rfl b.th) da_nil)) (by decide)) da_nil)))) (by decide) 7 (by decide) rfl rfl (by decide)) _ (Same.refl _) _ fun v H2 s2 d => put_c (v7 := some v) (b.mono s2) few (by decide) (de_lst (da_cons (de_tup (da_cons de_str (da_cons de_int (da_cons (de_var rfl d) (da_cons de_bl da_nil)))) (by decide)) da_nil) (by decide))
    refine ⟨Bt H dg ds 5, blk rfl b (fun thing od ro pa t1 t2 t3 l1 kvs c n l p r v6 v7 b few lc ln ll lr => put_n b few (by decide) (de_cat rfl b.hpa b.five.n ln b.dn (de_pick b.dgs (da_cons (de_var rfl b.th) (da_cons de_str da_nil)) (by decide) 7 (by decide) rfl rfl (by decide)))), fun σ H1 b => ?_⟩
    refine ⟨Bt H dg ds 6, blk rfl b (fun thing od ro pa t1 t2 t3 l1 kvs c n l p r v6 v7 b few lc ln ll lr => put_n b few (by decide) (de_pick b.dgs (da_cons (de_lst da_nil (by decide)) (da_cons (de_tup (da_cons de_str da_nil) (by decide)) (da_cons (de_var rfl b.th) (da_cons (de_lst (da_cons de_str (da_cons de_str (da_cons de_str (da_cons de_str (da_cons de_str (da_cons de_str (da_cons de_str (da_cons de_str (da_cons de_str da_nil))))))))) (by decide)) da_nil)))) (by decide) 7 (by decide) rfl rfl (by decide))), fun σ H1 b => ?_⟩
    refine ⟨Bt H dg ds 7, blk rfl b (fun thing od ro pa t1 t2 t3 l1 kvs c n l p r v6 v7 b few lc ln ll lr => put_l b few (by decide) (de_cat rfl b.hpa b.five.l ll b.dl (de_pick b.dgs (da_cons (de_var rfl b.th) (da_cons de_str (da_cons de_str da_nil))) (by decide) 7 (by decide) rfl rfl (by decide)))), fun σ H1 b => ?_⟩
    refine ⟨Bt H dg ds 8, blk rfl b (fun thing od ro pa t1 t2 t3 l1 kvs c n l p r v6 v7 b few lc ln ll lr => put_l b few (by decide) (de_pick b.dgs (da_cons (de_var rfl b.th) (da_cons (de_tup (da_cons de_str da_nil) (by decide)) (da_cons (de_lst (da_cons de_str (da_cons de_str (da_cons de_str (da_cons de_str (da_cons de_str da_nil))))) (by decide)) da_nil))) (by decide) 7 (by decide) rfl rfl (by decide))), fun σ H1 b => ?_⟩
    refine ⟨Bt H dg ds 9, blk rfl b (fun thing od ro pa t1 t2 t3 l1 kvs c n l p r v6 v7 b few lc ln ll lr => put_p b few (by decide) (de_pick b.dgs (da_cons (de_var rfl b.th) (da_cons de_int (da_cons de_int (da_cons de_int da_nil)))) (by decide) 7 (by decide) rfl rfl (by decide))), fun σ H1 b => ?_⟩
    refine ⟨Bt H dg ds 10, blk rfl b (fun thing od ro pa t1 t2 t3 l1 kvs c n l p r v6 v7 b few lc ln ll lr => put_r b few (by decide) (dn_cat b.same rfl b.hpa b.five.r lr b.dr (de_pick b.dgs (da_cons (de_var rfl b.th) (da_cons de_int (da_cons de_int (da_cons de_int da_nil)))) (by decide) 7 (by decide) rfl rfl (by decide)))), fun σ H1 b => ?_⟩
    refine ⟨Bt H dg ds 11, blk rfl b (fun thing od ro pa t1 t2 t3 l1 kvs c n l p r v6 v7 b few lc ln ll lr => put_r b few (by decide) (dn_pick b.dgs (dm_cons (dn_var rfl b.th b.nth) (dm_cons (dn_tup b.same (da_cons de_int da_nil) (by decide)) (dm_cons (dn_lst b.same (da_cons de_int (da_cons de_int (da_cons de_int (da_cons de_int da_nil)))) (by decide)) dm_nil))) (by decide) 7 (by decide) rfl rfl (by decide))), fun σ H1 b => ?_⟩
    obtain ⟨way, thing, od, ro, pa, t1, t2, t3, l1, kvs, c, n, l, p, r, v6, v7, rfl, b, _⟩ := b
    exact ⟨_, rfl, k pa c n l p r H1 b.same b.npa ⟨⟨kvs, b.hpa, b.five.c, b.five.n, b.five.l, b.five.p, b.five.r⟩, b.dc, b.dn, b.dl, b.dp, b.dr⟩ b.nr⟩

end
end K1

set_option Elab.async false
set_option linter.all false
set_option maxRecDepth 100000
set_option maxHeartbeats 4000000
namespace L2
open PySem PySem.Spec PyProof.Rows
section
variable {X : Cx} {CX : CXT} {k n : Nat} {f C : Addr} {fd : FuncData} {ps ks : List Str} {sp : Sp} {E : St → XK} {x : Str} {p pos : Pos} {e : Expr} {es : List Expr} {kws : List Keyword} {t tk : TA} {g : List Value → List Value → List Value} {gV : List V → List V → List V}
/-- C(e, .., k = v, ..): what is raised is wished for at the slots -/
def tMkS (C : Addr) (n m : Nat) (sp : Sp) (gV : List V → List V → List V) (E : St → XK) (t tk : TA) : TE := fun σ H Q => tMakeK C n m sp gV (E σ) t tk σ H Q
theorem pe_mkS (M : Mk X.K C f) (F : FnOk X.prog X.w X.K X.mg X.base CX k f fd ps sp) (hr : Room (k + 1) X.A) (hg : Gl X x) (hm : X.mg x = some (.ref C)) (hb : KBn X.K fd ps (n + 1) ks g gV) (px : ∀ σ, PassesAt CX X σ (E σ)) (ha : PA X (e :: es) t) (hkw : PK X kws tk)
    (hall : (backToKw pos (keywordEach kws X.env)).all (·.1.isSome) = true := by rfl) (hks : (backToKw pos (keywordEach kws X.env)).filterMap (·.1) = ks := by rfl) (hdb : (x == ("__debug__" : Str)) = false := by decide)
    (he : starEach (e :: es) X.env = (false, eval e X.env) :: starEach es X.env := by rfl) (hpl : ((backTo pos (starEach (e :: es) X.env)).any (·.1) || (backToKw pos (keywordEach kws X.env)).any (·.1.isNone)) = false := by rfl) :
    PE X (.Call (.Name x p) (e :: es) kws pos) (tMkS C n ks.length sp gV E t tk) := by
  refine ⟨fun pins s σ H Q I h => wpAny_Call_Name_kw (ld_glob I hg hm (PySem.W.callWith_KW (h₀ := X.base) I.ok.mod.kin M.kp hall (thn (ha.run pos pins s σ H _ I h) fun us s1 ⟨vs, H1, I1, r, q⟩ => ?_) hpl he) hdb)⟩
  refine thn (hkw.run pos pins s1 σ H1 _ I1 q) fun ws s2 ⟨zs, H2, I2, rz, l1, l2, hyp⟩ => ⟨I2.kIn, ?_⟩
  rw [hks]
  have fresh := hyp (s2.heap.objs.size + 1) s2.heap.objs.size (I2.hok.fresh (Nat.le_succ _)) (I2.hok.fresh (Nat.le_refl _)) (Nat.ne_of_lt (Nat.lt_succ_self _))
  have I3 := Inv.made (C := C) I2
  have rv : Vals (V.ref (s2.heap.objs.size + 1) :: vs) (Value.ref (s2.heap.objs.size + 1) :: us) := .cons rfl r
  have len : (Value.ref (s2.heap.objs.size + 1) :: us).length = n + 1 := by
    rw [List.length_cons, ← r.length, l1]
  refine wpAny_call (make_map (f := f) I2.kIn M.makes M.init (beq_iff_eq.mp M.fn) (codeAny_mono (F.run _ X.stack _ _ ⟨Value.ref (s2.heap.objs.size + 1) :: us, ks.zip ws⟩ (g (Value.ref (s2.heap.objs.size + 1) :: us) ws) _ _ (E σ) (hr.make C us (ks.zip ws))
    (I3.env0.make C us (ks.zip ws)) (hb.to _ (Value.ref (s2.heap.objs.size + 1) :: us) ws I3.kIn len (rz.length.symm.trans l2)) (hb.rel rv rz) fresh) fun res st hres => ?_))
  cases res with
  | error e => exact px σ pins _ _ e st I3 hres
  | ok fl =>
    cases fl with
    | ret u =>
      obtain ⟨v, Hv, I4, rl, ev, q4⟩ := I3.after hres
      subst ev
      exact ⟨rl, ⟨V.ref (s2.heap.objs.size + 1), Hv, I4, rfl, q4⟩⟩
    | next => exact False.elim hres
    | brk => exact False.elim hres
    | cont => exact False.elim hres
end
/-- isinstance(e, c), e the exception that the suite holds, with a dict of its own -/
def rIsX (K : PySem.W.Frag) (D a : Addr) (cls : Value) (d : Option Addr) : List V → Hp → VK → Prop := fun xs H Q => ∃ (c : V) (cv : Value) (b : Bool) (dd : Addr) (fs : List (Str × V)), xs = [.ref a, c] ∧ cls = .ref D ∧ d = some dd ∧ H dd = some (.xd fs) ∧ (∀ u, RelV c u → u = cv) ∧ PySem.W.kitOne K (.ref D) cv = some b ∧ Q (.bl b) H
theorem call_isX {X : Cx} {a D : Addr} {oe : Obj} {cls : Value} {d : Option Addr} {pn : List (Addr × Obj)} (C : ExcC X.K D) (hz : Zc cls d oe) (hf : ∃ vs, oe.data = .fields vs) : CallR (X.suite a ((a, oe) :: pn)) (.builtin "isinstance") (rIsX X.K D a cls d) := by
  intro pins s σ H xs us Q I r h
  obtain ⟨c, cv, b, dd, fs, rfl, rfl, rfl, ed, hcv, e, q⟩ := h
  cases r with
  | cons rx rr =>
    cases rr with
    | cons rt rr =>
      cases rr
      cases rx
      obtain rfl := hcv _ rt
      obtain ⟨hget, _⟩ := I.pin (a, oe) (List.mem_append.mpr (.inl List.mem_cons_self))
      obtain ⟨vs, hv⟩ := hf
      obtain ⟨mA, hns, _⟩ : ObjOk X.prog X.w H s.heap dd (.xd fs) := I.hok dd _ ed
      obtain ⟨od, ho, _⟩ := lookIn_ns hns
      have J : PySem.W.InstAt s.heap a oe D (some od) := ⟨hget, hz.1, by unfold PySem.W.notCls; rw [hv] <;> rfl, by rw [hz.2]; exact ho⟩
      obtain ⟨cd, hcd, _⟩ := PySem.W.any_some C.hd
      exact PySem.W.kia_one (PySem.W.kitx_exc (by rw [hcd]; rfl) C.hg C.hk C.hs C.ha C.hn C.ht C.hm) I.kIn J e (fun z => nomatch z) fun tk => ⟨.bl b, H, I.kept (t' := tk) fun _ _ z => z, rfl, q⟩
end L2
namespace K1
open PySem L2
section
variable {P : Program} {w : World} {K : PySem.W.Frag} {mg : Str → Option Value} {base : Heap} {C CP CR : Addr}
abbrev kwP : List Str := ["variables", "weak", "threshold", "radices", "functions"]
theorem kb_pr {f : Addr} {fd : FuncData} (F : Fun K "__init__" "Program.__init__" sPrI f fd) : KBn K fd prP 3 kwP (fun us ws => us ++ ws) (fun vs zs => vs ++ zs) := by
  obtain ⟨oc, od, kV, doc, pm, an, cdv, ct, osl, rfl, lk, hcd⟩ := F.ex
  refine ⟨fun s us ws X l1 l2 => BindsTo.of_looks fun M => PySem.W.Looks.of_pure ?_, fun r1 r2 => r1.append r2⟩
  match us, l1, ws, l2 with
  | [_, _, _], _, [_, _, _, _, _], _ => rfl
/-- the class Program as its makers know it -/
structure Prm (P : Program) (w : World) (K : PySem.W.Frag) (mg : Str → Option Value) (base : Heap) (C CP : Addr) : Prop where
  ex : ∃ (f : Addr) (fd : FuncData), Mk K CP f ∧ FnOk P w K mg base (L2.CX P w) 5 f fd prP (spPrI C CP) ∧ KBn K fd prP 3 kwP (fun us ws => us ++ ws) (fun vs zs => vs ++ zs)
  g : mg "Program" = some (.ref CP)
/-- InvalidProgram where it is caught -/
structure Cgt (K : PySem.W.Frag) (mg : Str → Option Value) (C CR : Addr) : Prop where
  g : mg "InvalidProgram" = some (.ref C)
  gR : mg "RunError" = some (.ref CR)
  ex : PySem.W.exmOne K (.ref C) (.ref CR) = some true
  kit : PySem.W.kitOne K (.ref C) (.ref C) = some true
  xc : ExcC K C
  xf : XfC K C
  n1 : PySem.W.findIn K (.ref C) "part" = some none
  n2 : PySem.W.findIn K (.ref C) "at" = some none
def spMade (C CP : Addr) : Sp := fun vs H Q _ => ∃ (d : Addr) (c n l p r : V), vs = [.ref d] ∧ PartsAt H d c n l p r ∧
  (∀ part at_, faultV H c n l p r = some (part, at_) → ∀ t H', Same H H' → H' t = some (.tup [.str part, at_]) → Q (.ref t) H') ∧
  (faultV H c n l p r = none → ∀ x rows ns ls th ks H', Same H H' → H x = none → Fine H' c n l p r rows ns ls th ks → ProgAt H H' CP x rows ns ls th ks → Q (.ref x) H')
theorem faultV_same {H H' : Hp} {c n l p r : V} (dc : Dat H c) (dn : Dat H n) (dl : Dat H l) (dp : Dat H p) (dr : Dat H r) (s : Same H H') : faultV H' c n l p r = faultV H c n l p r := by
  unfold faultV strsOf
  rw [classesAt_same dc s, namesAt_same dn s, lstOf_same dn s, namesAt_same dl s, radicesAt_same dr s]
theorem Fine.keep {H H' : Hp} {c n l p r : V} {rows : List Row} {ns ls : List Str} {th : Int} {ks : List Int} {x CP dx : Addr} {fs : List (Str × V)} (f : Fine H c n l p r rows ns ls th ks) (hx : H x = some (.ins CP dx fs)) (kp : ∀ b o, H b = some o → b ≠ x → H' b = some o) : Fine H' c n l p r rows ns ls th ks := by
  have kL : ∀ {a : Addr} {xs : List V}, H a = some (.lst xs) → H' a = some (.lst xs) := fun h => kp _ _ h (ne_of h hx (by intro z; cases z))
  have kT : ∀ {a : Addr} {xs : List V}, H a = some (.tup xs) → H' a = some (.tup xs) := fun h => kp _ _ h (ne_of h hx (by intro z; cases z))
  obtain ⟨a, e, n0, xs, h, pr⟩ := f.c
  obtain ⟨b, e2, h2⟩ := f.n
  obtain ⟨b3, e3, h3⟩ := f.l
  obtain ⟨b4, e4, h4⟩ := f.r
  exact ⟨⟨a, e, n0, xs, kL h, pr.mono fun y q z => by
    obtain ⟨q1, fl, z1, z2, z3, z4, z5⟩ := z
    exact ⟨q1, fl, z1, z2, z3, kT z4, kL z5⟩⟩, f.c1, f.c6, f.c3, ⟨b, e2, kL h2⟩, ⟨b3, e3, kL h3⟩, f.p, f.t1, f.t2, ⟨b4, e4, kL h4⟩, f.cOk, f.nOk, f.lOk⟩
theorem prog_base {H H1 Hx : Hp} {CP p : Addr} {rows : List Row} {ns ls : List Str} {th : Int} {ks : List Int} (g : ProgAt H1 Hx CP p rows ns ls th ks) (off : ∀ b, H1 b = none → H b = none) : ProgAt H Hx CP p rows ns ls th ks := by
  obtain ⟨dx, a, b, c, d, f, g, hp, ca, cb, cc, cd, cf, cg⟩ := g
  exact ⟨dx, a, b, c, d, f, g, hp, ca.base off, ⟨off _ cb.1, cb.2⟩, ⟨off _ cc.1, cc.2⟩, ⟨off _ cd.1, cd.2⟩, ⟨off _ cf.1, cf.2⟩, ⟨off _ cg.1, cg.2⟩⟩
theorem sc47 : FnScope ["_law_parts", "error"] ["_law_parts"] (defScope (top 47)) := ⟨rfl, rfl, rfl, by decide +kernel, rfl, by decide +kernel, by decide +kernel⟩
theorem ok47 {f : Addr} {fd : FuncData} (F : Fun K "_law_made" "_law_made" (top 47) f fd) (B : Blt mg) (M : Prm P w K mg base C CP) (T : Cgt K mg C CR) : FnOk P w K mg base CX0 7 f fd ["_law_parts"] (spMade C CP) := by
  refine F.ok sc47 (fun vs H Q E h => ?_) (fun cdv A outer s H vs Q E hr h => ?_)
  · obtain ⟨d, c, n, l, p, r, rfl, _⟩ := h
    rfl
  · obtain ⟨d, c, n, l, p, r, rfl, ⟨⟨kvs, hd, v1, v2, v3, v4, v5⟩, dc, dn, dl, dp, dr⟩, ke, kn⟩ := h
    have hu := hu_of hr
    obtain ⟨fI, fdI, mk, G, kb⟩ := M.ex
    refine ⟨_, pss_one (ps_try_as (i := 1) rfl rfl sc47.nd rfl rfl ⟨rfl, by decide, .inl T.gR⟩ takes0
      (fun W pn xe tk _ => pss_one (ps_ret (pe_mkS mk G hr rfl M.g kb (fun σ => passAt tk σ) (pa_cons (pe_dget hu (pv 0) pe_str (fun _ _ => rfl)) (pa_cons (pe_lst pa_nil) pa_nil))
        (pk_cons (pe_dget hu (pv 0) pe_str (fun _ _ => rfl)) (pk_cons (pe_dget hu (pv 0) pe_str (fun _ _ => rfl)) (pk_cons (pe_dget hu (pv 0) pe_str (fun _ _ => rfl)) (pk_cons (pe_dget hu (pv 0) pe_str (fun _ _ => rfl)) (pk_cons (pe_lst pa_nil) pk_nil))))))))
      (fun a oe cls d pn hz hf => pss_cons (ps_if (pt_not (pt_val (pe_callB (call_isX T.xc hz hf) rfl B.isinstance PyProof.Rows.boot_isinstance (pa_cons (pv 1) (pa_cons (pe_glob (v := .ref C) rfl T.g rfl) pa_nil))))) (pss_one (ps_ret pe_str)) pss_nil)
        (pss_one (ps_ret (pe_tup (pa_cons (pe_xf T.xf T.n1 hz hf (pv 1)) (pa_cons (pe_xf T.xf T.n2 hz hf (pv 1)) pa_nil))))))), ?_⟩
    refine ⟨_, rfl, d, c, rfl, dget_of hd v1, Nat.zero_le _, fun b1 m1 => ?_⟩
    have s1 := same_new (o := .lst []) (Same.refl H) m1
    have h1 := s1 _ _ hd
    refine ⟨_, rfl, d, n, rfl, dget_of h1 v2, _, rfl, d, l, rfl, dget_of h1 v3, _, rfl, d, p, rfl, dget_of h1 v4, _, rfl, d, r, rfl, dget_of h1 v5, Nat.zero_le _, fun b2 m2 => ⟨rfl, rfl, fun x dx nx ndx ne => ?_⟩⟩
    have s2 := same_new (o := .lst []) s1 m2
    have ndx' : (upd (upd H b1 (.lst [])) b2 (.lst [])) dx = none := ndx
    have s3 := same_new (o := .own x) (Same.refl (upd (upd H b1 (.lst [])) b2 (.lst []))) ndx
    have nx' : (upd (upd (upd H b1 (.lst [])) b2 (.lst [])) dx (.own x)) x = none := by
      rw [upd_ne ne.symm]
      exact nx
    have s4 := same_new (o := .ins CP dx []) s3 nx'
    have s5 := s2.trans s4
    refine ⟨x, dx, b1, b2, c, n, l, p, r, rfl, upd_same, dc.mono s5, dn.mono s5, dl.mono s5, dp.mono s5, dr.mono s5, s4 _ _ (same_new (Same.refl _) m2 _ _ upd_same), s4 _ _ upd_same, fun part at_ e => ?_, fun e rows ns ls th ks fine H' pg kp => ⟨rfl, ?_⟩⟩
    · rw [faultV_same dc dn dl dp dr s5] at e
      intro dd H' s' n' e'
      refine ⟨true, T.ex, fun _ a na => ?_, fun z => nomatch z⟩
      refine ⟨_, rfl, .ref C, .ref C, true, dd, _, rfl, rfl, rfl, e', fun u hu => hu, T.kit, ?_⟩
      refine ⟨_, rfl, ?_⟩
      refine iteF ?_
      refine ⟨_, rfl, rfl, rfl, dd, _, _, rfl, e', rfl, _, rfl, rfl, rfl, dd, _, _, rfl, e', rfl, (by show 2 ≤ sizeLine; decide), fun t nt => ?_⟩
      exact ke part at_ e t _ (same_new (s5.trans s') nt) upd_same
    · rw [faultV_same dc dn dl dp dr s5] at e
      refine kn e x rows ns ls th ks H' (fun b o z => kp _ _ (s5 _ _ z) fun q => ?_) (none_of s2 nx) (fine.keep upd_same kp) (prog_base pg fun b => none_of s5)
      rw [q, none_of s2 nx] at z
      cases z
end
end K1

set_option Elab.async false
set_option linter.all false
set_option maxRecDepth 100000
set_option maxHeartbeats 4000000
namespace K1
open PySem L2
/-! ### what is told of a fault -/
def NoI (v : V) : Prop := v = .non ∨ ∃ i, v = .int i
theorem noI_opt (o : Option Nat) : NoI (optV o) := by
  cases o with
  | none => exact .inl rfl
  | some i => exact .inr ⟨_, rfl⟩
theorem noI_names {H : Hp} {v : V} {lo hi : Int} {bar : List Str} : NoI (namesAt H v lo hi bar) := by
  unfold namesAt
  rcases firstBad_kind (H := H) (v := v) (most := hi) (bar := bar) with ⟨e, xs, hl⟩ | ⟨i, e⟩
  · rw [e, hl]
    show NoI (if (xs.length : Int) < lo then .int (-1) else .non)
    by_cases c : (xs.length : Int) < lo
    · rw [if_pos c]
      exact .inr ⟨_, rfl⟩
    · rw [if_neg c]
      exact .inl rfl
  · rw [e]
    exact .inr ⟨_, rfl⟩
theorem noI_classes {H : Hp} {v : V} : NoI (classesAt H v) := by
  unfold classesAt
  cases lstOf H v with
  | none => exact .inr ⟨_, rfl⟩
  | some xs =>
    show NoI (if (decide ((1 : Int) ≤ (xs.length : Int)) && decide ((xs.length : Int) ≤ 6)) = true then optV (clsFrom H xs [] 0) else .int (-1))
    by_cases c : (decide ((1 : Int) ≤ (xs.length : Int)) && decide ((xs.length : Int) ≤ 6)) = true
    · rw [if_pos c]
      exact noI_opt _
    · rw [if_neg c]
      exact .inr ⟨_, rfl⟩
theorem noI_radices {H : Hp} {v : V} {th : Int} : NoI (radicesAt H v th) := by
  unfold radicesAt
  cases lstOf H v with
  | none => exact .inr ⟨_, rfl⟩
  | some xs => exact noI_opt _
theorem NoI.int {v : V} (h : NoI v) (n : v ≠ .non) : ∃ i, v = .int i := by
  rcases h with e | e
  · exact absurd e n
  · exact e
theorem fault_kind {H : Hp} {c n l p r : V} {part : Str} {at_ : V} (h : faultV H c n l p r = some (part, at_)) : PyData.strOk part = true ∧ ∃ i, at_ = .int i := by
  unfold faultV at h
  split at h
  · rename_i q
    cases h
    exact ⟨by decide +kernel, noI_classes.int q⟩
  split at h
  · rename_i q
    cases h
    exact ⟨by decide +kernel, noI_names.int q⟩
  split at h
  · rename_i q
    cases h
    exact ⟨by decide +kernel, noI_names.int q⟩
  split at h
  · cases h
    exact ⟨by decide +kernel, _, rfl⟩
  split at h
  · rename_i q
    cases h
    exact ⟨by decide +kernel, noI_radices.int q⟩
  · cases h
/-! ### a program's parts as data -/
def rowD (r : Row) : PyData := .tuple [.str r.n, .int r.z, .list (r.fs.map PyData.str), .bool r.b]
def clsD (rows : List Row) : PyData := .list (rows.map rowD)
def toldD (g : Pg) : PyData := .list [clsD g.rows, .list (g.ns.map PyData.str), .list (g.ls.map PyData.str), .int g.th, .list (g.ks.map PyData.int)]
structure Nice (g : Pg) : Prop where
  c : ∀ q ∈ g.rows, PyData.strOk q.n = true ∧ ∀ s ∈ q.fs, PyData.strOk s = true
  n : ∀ s ∈ g.ns, PyData.strOk s = true
  l : ∀ s ∈ g.ls, PyData.strOk s = true
theorem canAll_int : ∀ ks : List Int, PyData.canLayAll0 (ks.map PyData.int) = true
  | [] => rfl
  | k :: ks => canAll_int ks
theorem depthAll_int : ∀ ks : List Int, PyData.depthAll (ks.map PyData.int) = 0
  | [] => rfl
  | k :: ks => by
    show max (PyData.depth (.int k)) (PyData.depthAll (ks.map PyData.int)) = 0
    rw [depthAll_int ks]
    rfl
theorem canRow {r : Row} (h : PyData.strOk r.n = true) (hf : ∀ s ∈ r.fs, PyData.strOk s = true) : (rowD r).canLay0 = true := by
  show (PyData.strOk r.n && (true && (PyData.canLayAll0 (r.fs.map PyData.str) && (true && true)))) = true
  rw [h, canAll_str _ hf]
  rfl
theorem depthRow (r : Row) : (rowD r).depth = 2 := by
  show max (PyData.depth (.str r.n)) (max (PyData.depth (.int r.z)) (max (PyData.depthAll (r.fs.map PyData.str) + 1) (max (PyData.depth (.bool r.b)) 0))) + 1 = 2
  rw [depthAll_str]
  rfl
theorem canRows : ∀ rows : List Row, (∀ q ∈ rows, PyData.strOk q.n = true ∧ ∀ s ∈ q.fs, PyData.strOk s = true) → PyData.canLayAll0 (rows.map rowD) = true
  | [], _ => rfl
  | q :: rows, h => by
    show ((rowD q).canLay0 && PyData.canLayAll0 (rows.map rowD)) = true
    rw [canRow (h q List.mem_cons_self).1 (h q List.mem_cons_self).2, canRows rows fun x hx => h x (List.mem_cons_of_mem _ hx)]
    rfl
theorem depthRows : ∀ rows : List Row, PyData.depthAll (rows.map rowD) ≤ 2
  | [] => Nat.zero_le _
  | q :: rows => by
    show max (rowD q).depth (PyData.depthAll (rows.map rowD)) ≤ 2
    rw [depthRow]
    exact Nat.max_le.mpr ⟨Nat.le_refl _, depthRows rows⟩
theorem told_can {g : Pg} (h : Nice g) : (toldD g).canLay0 = true := by
  show (PyData.canLayAll0 (g.rows.map rowD) && (PyData.canLayAll0 (g.ns.map PyData.str) && (PyData.canLayAll0 (g.ls.map PyData.str) && (true && (PyData.canLayAll0 (g.ks.map PyData.int) && true))))) = true
  rw [canRows _ h.c, canAll_str _ h.n, canAll_str _ h.l, canAll_int]
  rfl
theorem told_shaped {g : Pg} (h : Nice g) : SeqAt.shaped (toldD g) = true := by
  unfold SeqAt.shaped
  rw [told_can h, Bool.true_and, decide_eq_true_iff]
  show max (PyData.depthAll (g.rows.map rowD) + 1) (max (PyData.depthAll (g.ns.map PyData.str) + 1) (max (PyData.depthAll (g.ls.map PyData.str) + 1) (max (PyData.depth (.int g.th)) (max (PyData.depthAll (g.ks.map PyData.int) + 1) 0)))) + 1 ≤ 64
  rw [depthAll_str, depthAll_str, depthAll_int, show PyData.depth (.int g.th) = 0 from rfl]
  have := depthRows g.rows
  omega
theorem told_eq {g : Pg} (h : Nice g) : PyData.eqv (toldD g) (toldD g) = true := SeqAt.eqv_refl _ (told_can h)
section
variable {K : PySem.W.Frag} {H0 H : Hp}
theorem dp_ints : ∀ ks : List Int, DpAll K H (ks.map V.int) (ks.map PyData.int)
  | [] => .nil
  | k :: ks => .cons (.int k) (dp_ints ks)
theorem dp_rows : ∀ {xs : List V} {rows : List Row}, Paired (RowAt H0 H) xs rows → DpAll K H xs (rows.map rowD)
  | _, _, .nil => .nil
  | _, _, .cons (b := r) z t => by
    obtain ⟨p, fl, e, _, _, h1, h2⟩ := z
    subst e
    exact .cons (.tup (SqT.of h1) (.cons (.str _) (.cons (.int _) (.cons (.lst (SqL.of h2) (dp_strs r.fs)) (.cons (.bl _) .nil))))) (dp_rows t)
theorem dp_cls {a : Addr} {rows : List Row} (h : ClsN H0 H a rows) : Dp K H (.ref a) (clsD rows) := by
  obtain ⟨_, xs, e, p⟩ := h
  exact .lst (SqL.of e) (dp_rows p)
theorem dp_told {g : Pg} {td a b c d : Addr} {th : V} (ht : H td = some (.lst [.ref a, .ref b, .ref c, th, .ref d])) (ha : ClsN H0 H a g.rows) (hb : H b = some (.lst (g.ns.map V.str))) (hc : H c = some (.lst (g.ls.map V.str))) (e : th = .int g.th) (hd : H d = some (.lst (g.ks.map V.int))) : Dp K H (.ref td) (toldD g) := by
  subst e
  exact .lst (SqL.of ht) (.cons (dp_cls ha) (.cons (.lst (SqL.of hb) (dp_strs _)) (.cons (.lst (SqL.of hc) (dp_strs _)) (.cons (.int _) (.cons (.lst (SqL.of hd) (dp_ints _)) .nil)))))
end
/-! ### (part, at) as data -/
def badD (part : Str) (i : Int) : PyData := .tuple [.str part, .int i]
theorem bad_can {part : Str} {i : Int} (h : PyData.strOk part = true) : (badD part i).canLay0 = true := by
  show (PyData.strOk part && (true && true)) = true
  rw [h]
  rfl
theorem bad_shaped {part : Str} {i : Int} (h : PyData.strOk part = true) : SeqAt.shaped (badD part i) = true := by
  unfold SeqAt.shaped
  rw [bad_can h]
  rfl
theorem dp_bad {K : PySem.W.Frag} {H : Hp} {t : Addr} {part : Str} {i : Int} (h : H t = some (.tup [.str part, .int i])) : Dp K H (.ref t) (badD part i) := .tup (SqT.of h) (.cons (.str _) (.cons (.int _) .nil))
end K1

set_option Elab.async false
set_option linter.all false
set_option maxRecDepth 100000
set_option maxHeartbeats 4000000
namespace K1
open PySem L2
/-! ### how long the parts of a valid program are -/
theorem rad_len : ∀ {ks : List Int} {tot : Int} {i : Nat}, 1 ≤ tot → tot ≤ 12 → radFrom (ks.map V.int) tot i = none → tot + (ks.length : Int) ≤ 12
  | [], tot, i, _, h, _ => by simpa using h
  | k :: ks, tot, i, h1, h2, h => by
    rw [List.map_cons, radFrom_int] at h
    split at h
    · cases h
    · rename_i q
      have a : ¬ k < 2 := fun z => q (by rw [decide_eq_true z]; rfl)
      have b : ¬ (12 : Int) < tot * k := fun z => q (by rw [decide_eq_true z, Bool.or_true])
      have c : tot * 2 ≤ tot * k := Int.mul_le_mul_of_nonneg_left (by omega) (by omega)
      have := rad_len (ks := ks) (tot := tot * k) (i := i + 1) (by omega) (by omega) h
      rw [List.length_cons]
      omega
theorem lst_len {H : Hp} {a : Addr} {xs ys : List V} (h : H a = some (.lst xs)) (g : H a = some (.lst ys)) : xs = ys := by
  rw [h] at g
  cases g
  rfl
theorem fine_len {H : Hp} {c n l p r : V} {rows : List Row} {ns ls : List Str} {th : Int} {ks : List Int} (f : Fine H c n l p r rows ns ls th ks) (e : faultV H c n l p r = none) : 1 ≤ ns.length ∧ ns.length ≤ 8 ∧ ls.length ≤ 4 ∧ ks.length ≤ 12 := by
  obtain ⟨na, rfl, hna⟩ := f.n
  obtain ⟨la, rfl, hla⟩ := f.l
  obtain ⟨ra, rfl, hra⟩ := f.r
  obtain rfl := f.p
  unfold faultV at e
  split at e
  · cases e
  split at e
  · cases e
  split at e
  · cases e
  split at e
  · cases e
  split at e
  · cases e
  rename_i q1 q2 q3 q4 q5
  obtain ⟨a2, ss2, e2, h2, l2, l2', _⟩ := names_ok (Decidable.not_not.mp q2)
  obtain ⟨a3, ss3, e3, h3, l3, l3', _⟩ := names_ok (Decidable.not_not.mp q3)
  cases e2
  cases e3
  have z2 := congrArg List.length (lst_len hna h2)
  have z3 := congrArg List.length (lst_len hla h3)
  rw [List.length_map, List.length_map] at z2 z3
  have z5 := Decidable.not_not.mp q5
  unfold radicesAt at z5
  rw [lstOf_of hra] at z5
  have z6 : radFrom (ks.map V.int) (intOf (.int th)) 0 = none := by
    cases q : radFrom (ks.map V.int) (intOf (.int th)) 0 with
    | none => rfl
    | some i =>
      change optV (radFrom (ks.map V.int) (intOf (.int th)) 0) = .non at z5
      rw [q] at z5
      cases z5
  have z7 := rad_len (tot := th) f.t1 f.t2 z6
  have := f.t1
  omega
theorem Fine.mono {H H' : Hp} {c n l p r : V} {rows : List Row} {ns ls : List Str} {th : Int} {ks : List Int} (f : Fine H c n l p r rows ns ls th ks) (s : Same H H') : Fine H' c n l p r rows ns ls th ks := by
  obtain ⟨a, e, h⟩ := f.c
  obtain ⟨b, e2, h2⟩ := f.n
  obtain ⟨b3, e3, h3⟩ := f.l
  obtain ⟨b4, e4, h4⟩ := f.r
  exact ⟨⟨a, e, h.mono s⟩, f.c1, f.c6, f.c3, ⟨b, e2, s _ _ h2⟩, ⟨b3, e3, s _ _ h3⟩, f.p, f.t1, f.t2, ⟨b4, e4, s _ _ h4⟩, f.cOk, f.nOk, f.lOk⟩
theorem fine_nice {H : Hp} {c n l p r : V} {g : Pg} (f : Fine H c n l p r g.rows g.ns g.ls g.th g.ks) : Nice g :=
  ⟨fun q hq => ⟨strOk_name (f.cOk q hq).1, fun s hs => strOk_name ((f.cOk q hq).2 s hs)⟩, fun s hs => strOk_name (f.nOk s hs), fun s hs => strOk_name (f.lOk s hs)⟩
/-! ### the methods -/
theorem pg_mono {H0 H H' : Hp} {CP x : Addr} {g : Pg} (h : PgAt H0 H CP x g) (s : Same H H') : PgAt H0 H' CP x g := by
  obtain ⟨⟨dx, a, b, c, d, f, i, hp, ca, cb, cc, cd, cf, cg⟩, h6, h3⟩ := h
  exact ⟨⟨dx, a, b, c, d, f, i, s _ _ hp, ca.mono s, ⟨cb.1, s _ _ cb.2⟩, ⟨cc.1, s _ _ cc.2⟩, ⟨cd.1, s _ _ cd.2⟩, ⟨cf.1, s _ _ cf.2⟩, ⟨cg.1, s _ _ cg.2⟩⟩, h6, h3⟩
structure NoM (m : Str) : Prop where
  h1 : ¬ m = "_classes"
  h2 : ¬ m = "_body"
  h3 : ¬ m = "_variables"
  h4 : ¬ m = "_weak"
  h5 : ¬ m = "_threshold"
  h6 : ¬ m = "_radices"
  h7 : ¬ m = "_functions"
section
variable {σ : St} {H0 H : Hp} {CP x : Addr} {g : Pg} {Q : VK} {m : Str} {G : Pg → Hp → Hp → V → Prop}
theorem mtd_rd (e : σ[5]? = some (some (.ref x))) (pg : PgAt H0 H CP x g) (no : NoM m) (k : ∀ v H', Same H H' → G g H H' v → Q v H') : tMeth CP m (spTell CP G) [] E0 (tVar 5) tNil σ H Q := by
  obtain ⟨⟨dx, a, b, c, d, f, i, hp, _⟩, _⟩ := id pg
  exact ⟨_, e, x, dx, _, rfl, hp, pg_no _ _ _ _ _ _ _ no.h1 no.h2 no.h3 no.h4 no.h5 no.h6 no.h7, x, H0, g, rfl, pg, k⟩
/-- all that is told of a program stands in a new list -/
def TellAt (H H' : Hp) (td : Addr) (g : Pg) : Prop := ∃ a b c d : Addr, H td = none ∧ H' td = some (.lst [.ref a, .ref b, .ref c, .int g.th, .ref d]) ∧ ClsN H H' a g.rows ∧ NewL H H' b (g.ns.map V.str) ∧ NewL H H' c (g.ls.map V.str) ∧ NewL H H' d (g.ks.map V.int)
theorem TellAt.mono {H' H2 : Hp} {td : Addr} (h : TellAt H H' td g) (s : Same H' H2) : TellAt H H2 td g := by
  obtain ⟨a, b, c, d, n0, e, ha, hb, hc, hd⟩ := h
  exact ⟨a, b, c, d, n0, s _ _ e, ha.mono s, hb.mono s, hc.mono s, hd.mono s⟩
theorem TellAt.dp {K : PySem.W.Frag} {H' : Hp} {td : Addr} (h : TellAt H H' td g) : Dp K H' (.ref td) (toldD g) := by
  obtain ⟨a, b, c, d, n0, e, ha, hb, hc, hd⟩ := h
  exact dp_told e ha hb.2 hc.2 rfl hd.2
theorem told_rd (e : σ[5]? = some (some (.ref x))) (pg : PgAt H0 H CP x g) (k : ∀ td H', Same H H' → TellAt H H' td g → Q (.ref td) H') :
    tLst (tCons (tMeth CP "classes" (spTell CP gCls) [] E0 (tVar 5) tNil) (tCons (tMeth CP "variables" (spTell CP gVar) [] E0 (tVar 5) tNil) (tCons (tMeth CP "weak" (spTell CP gWk) [] E0 (tVar 5) tNil) (tCons (tMeth CP "threshold" (spTell CP gTh) [] E0 (tVar 5) tNil) (tCons (tMeth CP "radices" (spTell CP gRad) [] E0 (tVar 5) tNil) tNil))))) σ H Q := by
  refine mtd_rd e pg ⟨by decide +kernel, by decide +kernel, by decide +kernel, by decide +kernel, by decide +kernel, by decide +kernel, by decide +kernel⟩ fun v1 H1 s1 g1 => ?_
  refine mtd_rd e (pg_mono pg s1) ⟨by decide +kernel, by decide +kernel, by decide +kernel, by decide +kernel, by decide +kernel, by decide +kernel, by decide +kernel⟩ fun v2 H2 s2 g2 => ?_
  have q2 := s1.trans s2
  refine mtd_rd e (pg_mono pg q2) ⟨by decide +kernel, by decide +kernel, by decide +kernel, by decide +kernel, by decide +kernel, by decide +kernel, by decide +kernel⟩ fun v3 H3 s3 g3 => ?_
  have q3 := q2.trans s3
  refine mtd_rd e (pg_mono pg q3) ⟨by decide +kernel, by decide +kernel, by decide +kernel, by decide +kernel, by decide +kernel, by decide +kernel, by decide +kernel⟩ fun v4 H4 s4 g4 => ?_
  have q4 := q3.trans s4
  refine mtd_rd e (pg_mono pg q4) ⟨by decide +kernel, by decide +kernel, by decide +kernel, by decide +kernel, by decide +kernel, by decide +kernel, by decide +kernel⟩ fun v5 H5 s5 g5 => ?_
  obtain ⟨a, rfl, ha⟩ := g1
  obtain ⟨b, rfl, hb⟩ := g2
  obtain ⟨c, rfl, hc⟩ := g3
  obtain rfl : v4 = .int g.th := g4
  obtain ⟨d, rfl, hd⟩ := g5
  refine ⟨by show 5 ≤ sizeLine; decide, fun td ntd => ?_⟩
  have s6 := same_new (o := .lst [.ref a, .ref b, .ref c, .int g.th, .ref d]) (Same.refl H5) ntd
  refine k td _ ((q4.trans s5).trans s6) ⟨a, b, c, d, none_of (q4.trans s5) ntd, upd_same, ha.mono (((s2.trans s3).trans (s4.trans s5)).trans s6), ?_, ?_, ?_⟩
  · exact (hb.mono (((s3.trans s4).trans s5).trans s6)).base fun b => none_of s1
  · exact (hc.mono ((s4.trans s5).trans s6)).base fun b => none_of q2
  · exact (hd.mono s6).base fun b => none_of q4
end
/-! ### other lists are changed -/
def Kept (H H' : Hp) (four : List Addr) : Prop := ∀ b o, H b = some o → b ∉ four → H' b = some o
section
variable {H0 H H' : Hp} {CP x : Addr} {g : Pg} {four : List Addr}
theorem ClsN.kept {a : Addr} {rows : List Row} (h : ClsN H0 H a rows) (kp : Kept H H' four) (fo : ∀ b ∈ four, H0 b ≠ none) : ClsN H0 H' a rows := by
  obtain ⟨f0, xs, e, p⟩ := h
  refine ⟨f0, xs, kp _ _ e fun z => fo _ z f0, p.mono fun y r z => ?_⟩
  obtain ⟨q, fl, e1, z1, z2, z3, z4⟩ := z
  exact ⟨q, fl, e1, z1, z2, kp _ _ z3 fun z => fo _ z z1, kp _ _ z4 fun z => fo _ z z2⟩
theorem new_kept {a : Addr} {xs : List V} (h : NewL H0 H a xs) (kp : Kept H H' four) (fo : ∀ b ∈ four, H0 b ≠ none) : NewL H0 H' a xs := ⟨h.1, kp _ _ h.2 fun z => fo _ z h.1⟩
theorem pg_kept (h : PgAt H0 H CP x g) (kp : Kept H H' four) (fo : ∀ b ∈ four, H0 b ≠ none) (fl : ∀ b ∈ four, ∃ xs, H b = some (.lst xs)) : PgAt H0 H' CP x g := by
  obtain ⟨⟨dx, a, b, c, d, f, i, hp, ca, cb, cc, cd, cf, cg⟩, h6, h3⟩ := h
  have hx : x ∉ four := fun z => by
    obtain ⟨xs, e⟩ := fl _ z
    rw [hp] at e
    cases e
  exact ⟨⟨dx, a, b, c, d, f, i, kp _ _ hp hx, ca.kept kp fo, new_kept cb kp fo, new_kept cc kp fo, new_kept cd kp fo, new_kept cf kp fo, new_kept cg kp fo⟩, h6, h3⟩
theorem tell_kept {td : Addr} (h : TellAt H0 H td g) (kp : Kept H H' four) (fo : ∀ b ∈ four, H0 b ≠ none) : TellAt H0 H' td g := by
  obtain ⟨a, b, c, d, n0, e, ha, hb, hc, hd⟩ := h
  exact ⟨a, b, c, d, n0, kp _ _ e fun z => fo _ z n0, ha.kept kp fo, new_kept hb kp fo, new_kept hc kp fo, new_kept hd kp fo⟩
theorem Kept.refl : Kept H H four := fun _ _ e _ => e
theorem kept_upd {a : Addr} {o : HO} (k : Kept H H' four) (h : a ∈ four) : Kept H (upd H' a o) four := fun b u e n => by
  have ne : b ≠ a := fun z => by
    rw [z] at n
    exact n h
  rw [upd_ne ne]
  exact k b u e n
end
theorem ints_ne {H : Hp} {ca b : Addr} {zs : List Int} {ss : List Str} (h : H ca = some (.lst (zs.map V.int))) (nz : zs ≠ []) (g : H b = some (.lst (ss.map V.str))) : ca ≠ b := fun e => by
  rw [e] at h
  have q := lst_len h g
  cases zs with
  | nil => exact nz rfl
  | cons z zs =>
    cases ss with
    | nil => cases q
    | cons s ss => cases q
theorem shaped_ints (ks : List Int) : SeqAt.shaped (.list (ks.map PyData.int)) = true := by
  unfold SeqAt.shaped
  rw [show PyData.canLay0 (.list (ks.map PyData.int)) = PyData.canLayAll0 (ks.map PyData.int) from rfl, canAll_int, show PyData.depth (.list (ks.map PyData.int)) = PyData.depthAll (ks.map PyData.int) + 1 from rfl, depthAll_int]
  rfl
end K1

set_option Elab.async false
set_option linter.all false
set_option maxRecDepth 100000
set_option maxHeartbeats 8000000
namespace K1
open PySem L2
/-! ### law -/
structure Mtd (P : Program) (w : World) (K : PySem.W.Frag) (mg : Str → Option Value) (base : Heap) (CP : Addr) (m : Str) (G : Pg → Hp → Hp → V → Prop) : Prop where
  ex : ∃ (f : Addr) (fd : FuncData), Meth K CP m f ∧ FnOk P w K mg base CX0 2 f fd ["self"] (spTell CP G) ∧ Binds K fd ["self"] []
section
variable {X : Cx} {CP : Addr} {m : Str} {G : Pg → Hp → Hp → V → Prop} {j : Nat} {o : Expr} {ta : TE} {pos apos : Pos} {pl : Sem Bool}
theorem pe_mtd (M : Mtd X.prog X.w X.K X.mg X.base CP m G) (c : Cls X.K CP) (hr : Room j X.A) (hj : 2 ≤ j) (he : PE X o ta)
    (hs : eval (.Call (.Attribute o m apos) [] [] pos) X.env = (do let ov ← eval o X.env; standAt apos.atName; let (f, first) ← holding [ov] (getMethod ov m pl); callWith pos f first (backTo pos (starEach [] X.env)) (backToKw pos (keywordEach [] X.env))) := by rfl) :
    PE X (.Call (.Attribute o m apos) [] [] pos) (tMeth CP m (spTell CP G) [] E0 ta tNil) := by
  obtain ⟨f, fd, mt, F, b⟩ := M.ex
  exact pe_meth0 he c mt F (hr.mono hj) b .nil pass0 hs
end
section
variable {P : Program} {w : World} {K : PySem.W.Frag} {mg : Str → Option Value} {base : Heap} {C CP : Addr}
structure Mtds (P : Program) (w : World) (K : PySem.W.Frag) (mg : Str → Option Value) (base : Heap) (CP : Addr) : Prop where
  cl : Cls K CP
  c : Mtd P w K mg base CP "classes" gCls
  b : Mtd P w K mg base CP "body" gNil'
  v : Mtd P w K mg base CP "variables" gVar
  k : Mtd P w K mg base CP "weak" gWk
  t : Mtd P w K mg base CP "threshold" gTh
  r : Mtd P w K mg base CP "radices" gRad
  f : Mtd P w K mg base CP "functions" gNil'
def spLaw (K : PySem.W.Frag) : Sp := fun vs H Q _ => ∃ (a : Addr) (ns : List Int), vs = [.ref a] ∧ SqL K H a (ns.map V.int) ∧ ns.length ≤ 63 ∧ ∀ H', Q (.bl true) H'
abbrev lwN : List Str := ["_law_script", "_law_cells", "_law_cell", "_law_parts", "_law_expected", "_law_program", "_law_told", "_law_row", "_law_again"]
theorem eqv_nil : PyData.eqv (.list []) (.list []) = true := by
  rw [PyData.eqv, PyData.eqvAll]
theorem eqv_some {x : PyData} {xs : List PyData} : PyData.eqv (.list (x :: xs)) (.list []) = false := by
  rw [PyData.eqv, PyData.eqvAll]
theorem cut_ints (ns : List Int) (lo hi : Option Int) : ∃ zs : List Int, cutV (ns.map V.int) lo hi = zs.map V.int := by
  unfold cutV
  rw [← List.map_drop, ← List.map_take]
  exact ⟨_, rfl⟩
theorem fine_dp {K : PySem.W.Frag} {H : Hp} {c n l p r : V} {g : Pg} {q : Addr} (f : Fine H c n l p r g.rows g.ns g.ls g.th g.ks) (h : H q = some (.lst [c, n, l, p, r])) : Dp K H (.ref q) (toldD g) := by
  obtain ⟨a, rfl, ha⟩ := f.c
  obtain ⟨b, rfl, hb⟩ := f.n
  obtain ⟨b3, rfl, h3⟩ := f.l
  obtain ⟨b4, rfl, h4⟩ := f.r
  exact dp_told h ha hb h3 f.p h4
theorem cls_first {H : Hp} {cl : Addr} {rows : List Row} (h : ClsN nul H cl rows) (one : 1 ≤ rows.length) : ∃ (p fl : Addr) (xs : List V) (r : Row), r ∈ rows ∧ H cl = some (.lst (.ref p :: xs)) ∧ H p = some (.tup [.str r.n, .int r.z, .ref fl, .bl r.b]) ∧ H fl = some (.lst (r.fs.map V.str)) := by
  obtain ⟨_, xs, e, pr⟩ := h
  cases pr with
  | nil => exact absurd one (by decide)
  | cons z t =>
    obtain ⟨p, fl, rfl, _, _, h1, h2⟩ := z
    exact ⟨p, fl, _, _, List.mem_cons_self, e, h1, h2⟩
theorem dat_dom {H : Hp} {a : Addr} (d : Dat H (.ref a)) : H a ≠ none := by
  cases d with
  | lst e _ => rw [e]; exact fun z => nomatch z
  | tup e _ => rw [e]; exact fun z => nomatch z
  | dic e => rw [e]; exact fun z => nomatch z
/-- what a list of data held, it holds -/
theorem dat_back {H H' : Hp} {a : Addr} (d : Dat H (.ref a)) (s : Same H H') {o : HO} (h : H' a = some o) : H a = some o := by
  cases q : H a with
  | none => exact absurd q (dat_dom d)
  | some u =>
    rw [s _ _ q] at h
    exact h
theorem four_dom {H H' : Hp} {cl p fl : Addr} {xs : List V} {x y b : V} (d : Dat H (.ref cl)) (s : Same H H') (h : H' cl = some (.lst (.ref p :: xs))) (g : H' p = some (.tup [x, y, .ref fl, b])) : H fl ≠ none := by
  have d2 := dat_lst d (dat_back d s h) _ List.mem_cons_self
  exact dat_dom (dat_tup d2 (dat_back d2 s g) _ (by simp))
theorem sc48 : FnScope lwN ["_law_script"] (defScope (top 48)) := ⟨rfl, rfl, rfl, by decide +kernel, rfl, by decide +kernel, by decide +kernel⟩
theorem ok48 {f : Addr} {fd : FuncData} (F : Fun K "law" "law" (top 48) f fd) (B : Blt mg) (C39 : Cal P w K mg base CX0 1 "_law_digits" ["_law_cell", "_law_many"] spDig) (C46 : Cal P w K mg base CX0 1 "_law_built" ["_law_digits_here"] spBuilt)
    (C45 : Cal P w K mg base CX0 4 "_law_fault" ["_law_parts"] spFault) (C47 : Cal P w K mg base CX0 7 "_law_made" ["_law_parts"] (spMade C CP)) (M : Mtds P w K mg base CP) : FnOk P w K mg base CX0 8 f fd ["_law_script"] (spLaw K) := by
  refine F.ok sc48 (fun vs H Q E h => ?_) (fun cdv A outer s H vs Q E hr h => ?_)
  · obtain ⟨a, ns, rfl, _⟩ := h
    rfl
  · obtain ⟨a, ns, rfl, hS, hn, k⟩ := h
    have hu := hu_of hr
    refine ⟨_, pss_mid (ps_set (i := 1) sc48.nd rfl (Or.inl rfl) (pe_slice sl_list (pv 0) po_none (po_some pe_int)))
      (pss_mid (ps_if (pt_cmpR (op_eqD hr.units) (pv 1) (pe_lst pa_nil) (nomark _)) (pss_one (ps_set (i := 1) sc48.nd rfl (Or.inl rfl) (pe_lst (pa_cons pe_int (pa_cons pe_int pa_nil))))) pss_nil)
      (pss_mid (ps_for PassesOwn.never rfl (pi_list (pv 1)) (pg_name (i := 2) sc48.nd rfl (Or.inl rfl))
        (pss_mid (ps_set (i := 3) sc48.nd rfl (Or.inl rfl) (pe_cal C46 hr (by decide) pass0 (pa_cons (pe_cal C39 hr (by decide) pass0 (pa_cons (pv 2) (pa_cons pe_int pa_nil))) pa_nil)))
        (pss_mid (ps_set (i := 4) sc48.nd rfl (Or.inl rfl) (pe_cal C45 hr (by decide) pass0 (pa_cons (pv 3) pa_nil)))
        (pss_mid (ps_set (i := 5) sc48.nd rfl (Or.inl rfl) (pe_cal C47 hr (by decide) pass0 (pa_cons (pv 3) pa_nil)))
        (pss_mid (ps_if (pt_cmpR op_notN (pv 4) pe_non (nomark _))
          (pss_cons (ps_if (PW.pt (pw_or (pt_cmpR (op_neD hr.units) (pv 5) (pv 4) (nomark _)) (pw_or1 (pt_val (pt_isi B (pe_ix ix_tup (pv 5) pe_int (fun _ _ => rfl)) B.bool PyProof.Rows.boot_bool))))) (pss_one (ps_ret pe_bl)) pss_nil) (pss_one ps_continue)) pss_nil)
        (pss_mid (ps_set (i := 6) sc48.nd rfl (Or.inl rfl) (pe_lst (pa_cons (pe_mtd M.c M.cl hr (by decide) (pv 5)) (pa_cons (pe_mtd M.v M.cl hr (by decide) (pv 5)) (pa_cons (pe_mtd M.k M.cl hr (by decide) (pv 5)) (pa_cons (pe_mtd M.t M.cl hr (by decide) (pv 5)) (pa_cons (pe_mtd M.r M.cl hr (by decide) (pv 5)) pa_nil)))))))
        (pss_mid (ps_if (pt_cmpR (op_neD hr.units) (pv 6) (pe_lst (pa_cons (pe_dget hu (pv 3) pe_str (fun _ _ => rfl)) (pa_cons (pe_dget hu (pv 3) pe_str (fun _ _ => rfl)) (pa_cons (pe_dget hu (pv 3) pe_str (fun _ _ => rfl)) (pa_cons (pe_dget hu (pv 3) pe_str (fun _ _ => rfl)) (pa_cons (pe_dget hu (pv 3) pe_str (fun _ _ => rfl)) pa_nil)))))) (nomark _)) (pss_one (ps_ret pe_bl)) pss_nil)
        (pss_mid (ps_for PassesOwn.never rfl (pi_tup (pe_tup (pa_cons (pe_dget hu (pv 3) pe_str (fun _ _ => rfl)) (pa_cons (pe_dget hu (pv 3) pe_str (fun _ _ => rfl)) (pa_cons (pe_dget hu (pv 3) pe_str (fun _ _ => rfl)) (pa_cons (pe_ix ix_tup (pe_ix ix_list (pe_dget hu (pv 3) pe_str (fun _ _ => rfl)) pe_int (fun _ _ => rfl)) pe_int (fun _ _ => rfl)) pa_nil)))))) (pg_name (i := 7) sc48.nd rfl (Or.inl rfl))
          (pss_one (ps_expr (pe_bm PySem.F.plainAttrs_list PySem.F.slot_list_append PySem.F.type_list_append mt_append (pv 7) (pa_cons pe_str pa_nil)))))
        (pss_mid (ps_set (i := 8) sc48.nd rfl (Or.inl rfl) (pe_lst (pa_cons (pe_mtd M.c M.cl hr (by decide) (pv 5)) (pa_cons (pe_mtd M.v M.cl hr (by decide) (pv 5)) (pa_cons (pe_mtd M.k M.cl hr (by decide) (pv 5)) (pa_cons (pe_mtd M.t M.cl hr (by decide) (pv 5)) (pa_cons (pe_mtd M.r M.cl hr (by decide) (pv 5)) pa_nil)))))))
        (pss_one (ps_if (PW.pt (pw_or (pt_cmpR (op_neD hr.units) (pv 8) (pv 6) (nomark _)) (pw_or (pt_cmpR (op_neD hr.units) (pe_mtd M.f M.cl hr (by decide) (pv 5)) (pe_lst pa_nil) (nomark _)) (pw_or1 (pt_cmpR (op_neD hr.units) (pe_mtd M.b M.cl hr (by decide) (pv 5)) (pe_lst pa_nil) (nomark _)))))) (pss_one (ps_ret pe_bl)) pss_nil)))))))))))
      (pss_one (ps_ret pe_bl)))), ?_⟩
    -- cells
    refine ⟨fun σ H1 => ∃ (ca : Addr) (zs : List Int), σ = [some (.ref a), some (.ref ca), none, none, none, none, none, none, none] ∧ H1 ca = some (.lst (zs.map V.int)), ⟨_, rfl, 6, rfl, a, _, rfl, hS, fun p np => ?_⟩, ?_⟩
    · obtain ⟨zs, e⟩ := cut_ints ns none (some 6)
      refine ⟨p, zs, rfl, ?_⟩
      rw [upd_same, e]
    rintro σ H1 ⟨ca, zs, rfl, hca⟩
    refine ⟨fun σ H1 => ∃ (ca : Addr) (zs : List Int), σ = [some (.ref a), some (.ref ca), none, none, none, none, none, none, none] ∧ H1 ca = some (.lst (zs.map V.int)) ∧ zs ≠ [], ?_, ?_⟩
    · refine ⟨_, rfl, Nat.zero_le _, fun q nq => ?_⟩
      have s1 := same_new (o := .lst []) (Same.refl H1) nq
      refine ⟨.list (zs.map PyData.int), .list [], .lst (SqL.of (s1 _ _ hca)) (dp_ints zs), .lst (SqL.of upd_same) .nil, shaped_ints zs, shaped_ints [], _, rfl, ?_⟩
      cases zs with
      | nil =>
        rw [show PyData.eqv (.list (([] : List Int).map PyData.int)) (.list []) = true from eqv_nil]
        exact iteT ⟨by show 2 ≤ sizeLine; decide, fun p np => ⟨p, [4, 19], rfl, upd_same, by simp⟩⟩
      | cons z zs =>
        rw [show PyData.eqv (.list ((z :: zs).map PyData.int)) (.list []) = false from eqv_some]
        exact iteF ⟨ca, z :: zs, rfl, s1 _ _ hca, by simp⟩
    rintro σ H1 ⟨ca, zs, rfl, hca, nz⟩
    -- the loop
    refine ⟨fun _ _ => True, ⟨_, rfl, ca, rfl, ⟨_, SqL.of hca⟩, for_list (K := K) (a := ca) (xs := zs.map V.int) (fun _ σ H1 => ∃ v2 v3 v4 v5 v6 v7 v8 : Option V, σ = [some (.ref a), some (.ref ca), v2, v3, v4, v5, v6, v7, v8] ∧ H1 ca = some (.lst (zs.map V.int)))
      ⟨none, none, none, none, none, none, none, rfl, hca⟩ (fun _ _ _ _ ⟨_, _, _, _, _, _, _, _, h⟩ => SqL.of h) ?_ (fun _ _ _ => trivial)⟩, fun σ H1 _ => k H1⟩
    rintro i y σ H1 hi ⟨v2, v3, v4, v5, v6, v7, v8, rfl, hca⟩
    obtain ⟨z, rfl⟩ : ∃ z, y = V.int z := by
      rw [List.getElem?_map] at hi
      cases e : zs[i]? with
      | none =>
        rw [e] at hi
        cases hi
      | some z =>
        rw [e] at hi
        exact ⟨z, (Option.some.inj hi).symm⟩
    -- parts
    refine ⟨fun σ H2 => ∃ (d : Addr) (c n l p r : V), σ = [some (.ref a), some (.ref ca), some (.int z), some (.ref d), v4, v5, v6, v7, v8] ∧ H2 ca = some (.lst (zs.map V.int)) ∧ PartsAt H2 d c n l p r ∧ r ≠ .ref ca, ?_, ?_⟩
    · refine ⟨_, rfl, z, 20, rfl, by decide, by decide, fun q H2 ds s2 nq hq hl _ => ⟨q, ds, rfl, hq, hl, fun d c n l p r H3 s3 nd pa nr => ⟨d, c, n, l, p, r, rfl, s3 _ _ (s2 _ _ hca), pa, fun e => ?_⟩⟩⟩
      have := nr _ e
      rw [s2 _ _ hca] at this
      cases this
    rintro σ H2 ⟨d, c, n, l, p, r, rfl, hca, pa, hrc⟩
    clear v2 v3
    -- expected
    refine ⟨fun σ H3 => ∃ e : V, σ = [some (.ref a), some (.ref ca), some (.int z), some (.ref d), some e, v5, v6, v7, v8] ∧ H3 ca = some (.lst (zs.map V.int)) ∧ PartsAt H3 d c n l p r ∧ Told (faultV H3 c n l p r) H3 e, ?_, ?_⟩
    · exact ⟨_, rfl, d, c, n, l, p, r, rfl, pa, fun v H3 s3 t => ⟨v, rfl, s3 _ _ hca, pa.mono s3, by rw [faultV_same pa.dc pa.dn pa.dl pa.dp pa.dr s3]; exact t⟩⟩
    rintro σ H3 ⟨e, rfl, hca, pa3, te⟩
    clear v4
    -- program
    refine ⟨fun σ H4 => H4 ca = some (.lst (zs.map V.int)) ∧ ((∃ (part : Str) (i : Int) (t t2 : Addr), σ = [some (.ref a), some (.ref ca), some (.int z), some (.ref d), some (.ref t), some (.ref t2), v6, v7, v8] ∧ PyData.strOk part = true ∧ H4 t = some (.tup [.str part, .int i]) ∧ H4 t2 = some (.tup [.str part, .int i])) ∨
        ∃ (x : Addr) (g : Pg), σ = [some (.ref a), some (.ref ca), some (.int z), some (.ref d), some .non, some (.ref x), v6, v7, v8] ∧ PartsAt H4 d c n l p r ∧ faultV H4 c n l p r = none ∧ Fine H4 c n l p r g.rows g.ns g.ls g.th g.ks ∧ PgAt H3 H4 CP x g ∧ Same H3 H4), ?_, ?_⟩
    · refine ⟨_, rfl, d, c, n, l, p, r, rfl, pa3, fun part at_ ef t2 H4 s4 h4 => ?_, fun ef x rows ns' ls th ks H4 s4 nx fine pg => ?_⟩
      · rw [ef] at te
        obtain ⟨t, rfl, ht⟩ := te
        obtain ⟨ok, i, rfl⟩ := fault_kind ef
        exact ⟨s4 _ _ hca, .inl ⟨part, i, t, t2, rfl, ok, s4 _ _ ht, h4⟩⟩
      · rw [ef] at te
        obtain rfl : e = .non := te
        exact ⟨s4 _ _ hca, .inr ⟨x, ⟨rows, ns', ls, th, ks⟩, rfl, pa3.mono s4, by rw [faultV_same pa3.dc pa3.dn pa3.dl pa3.dp pa3.dr s4]; exact ef, fine, ⟨pg, fine.c6, fine.c3⟩, s4⟩⟩
    rintro σ H4 ⟨hca, hAB⟩
    clear v5
    -- if expected is not None
    refine ⟨fun σ H5 => H5 = H4 ∧ ∃ (x : Addr) (g : Pg), σ = [some (.ref a), some (.ref ca), some (.int z), some (.ref d), some .non, some (.ref x), v6, v7, v8] ∧ PartsAt H4 d c n l p r ∧ faultV H4 c n l p r = none ∧ Fine H4 c n l p r g.rows g.ns g.ls g.th g.ks ∧ PgAt H3 H4 CP x g ∧ Same H3 H4, ?_, ?_⟩
    · rcases hAB with ⟨part, i, t, t2, rfl, ok, ht, ht2⟩ | ⟨x, g, rfl, h⟩
      · refine ⟨_, rfl, rfl, _, rfl, ?_⟩
        refine iteT ?_
        refine ⟨_, rfl, _, rfl, badD part i, badD part i, dp_bad ht2, dp_bad ht, bad_shaped ok, bad_shaped ok, _, rfl, ?_⟩
        rw [SeqAt.eqv_refl _ (bad_can ok)]
        refine iteF ?_
        refine isi_ix rfl (SqT.of ht2) rfl (ans_bool (.int i)) ⟨_, rfl, ?_⟩
        refine iteF ?_
        exact ⟨_, _, _, _, _, _, _, rfl, hca⟩
      · refine ⟨_, rfl, rfl, _, rfl, ?_⟩
        exact iteF ⟨rfl, x, g, rfl, h⟩
    rintro σ H5 ⟨rfl, x, g, rfl, pa, ef, fine, pg, s34⟩
    clear hAB te e
    have nice := fine_nice fine
    -- told
    refine ⟨fun σ H6 => ∃ td : Addr, σ = [some (.ref a), some (.ref ca), some (.int z), some (.ref d), some .non, some (.ref x), some (.ref td), v7, v8] ∧ Same H5 H6 ∧ TellAt H5 H6 td g, told_rd rfl pg (fun td H6 s6 t => ⟨td, rfl, s6, t⟩), ?_⟩
    rintro σ H6 ⟨td, rfl, s6, tt⟩
    -- told is as handed in
    refine ⟨fun σ H7 => σ = [some (.ref a), some (.ref ca), some (.int z), some (.ref d), some .non, some (.ref x), some (.ref td), v7, v8] ∧ Same H6 H7, ?_, ?_⟩
    · obtain ⟨kvs, hd, w1, w2, w3, w4, w5⟩ := pa.ex
      have hd6 := s6 _ _ hd
      refine ⟨_, rfl, _, rfl, d, c, rfl, dget_of hd6 w1, _, rfl, d, n, rfl, dget_of hd6 w2, _, rfl, d, l, rfl, dget_of hd6 w3, _, rfl, d, p, rfl, dget_of hd6 w4, _, rfl, d, r, rfl, dget_of hd6 w5, (by show 5 ≤ sizeLine; decide), fun q nq => ?_⟩
      have s7 := same_new (o := .lst [c, n, l, p, r]) (Same.refl H6) nq
      refine ⟨toldD g, toldD g, (tt.mono s7).dp, fine_dp (fine.mono (s6.trans s7)) upd_same, told_shaped nice, told_shaped nice, _, rfl, ?_⟩
      rw [told_eq nice]
      exact iteF ⟨rfl, s7⟩
    rintro σ H7 ⟨rfl, s7⟩
    -- the lists that were handed in are changed
    refine ⟨fun σ H9 => ∃ (v7 : Option V) (four : List Addr), σ = [some (.ref a), some (.ref ca), some (.int z), some (.ref d), some .non, some (.ref x), some (.ref td), v7, v8] ∧ Kept H7 H9 four ∧ (∀ b ∈ four, H3 b ≠ none) ∧ (∀ b ∈ four, ∃ xs, H7 b = some (.lst xs)) ∧ ca ∉ four, ?_, ?_⟩
    · have s57 := s6.trans s7
      have s37 := s34.trans s57
      obtain ⟨kvs, hd, w1, w2, w3, w4, w5⟩ := pa.ex
      have hd7 := s57 _ _ hd
      have f7 := fine.mono s57
      have ef7 : faultV H7 c n l p r = none := by
        rw [faultV_same pa.dc pa.dn pa.dl pa.dp pa.dr s57]
        exact ef
      obtain ⟨l1, l8, l4, l12⟩ := fine_len f7 ef7
      obtain ⟨na, rfl, hna⟩ := f7.n
      obtain ⟨la, rfl, hla⟩ := f7.l
      obtain ⟨ra, rfl, hra⟩ := f7.r
      obtain ⟨cl, rfl, hcl⟩ := f7.c
      obtain ⟨p0, fl0, xs0, r0, hr0, hxs, hp0, hf0⟩ := cls_first hcl f7.c1
      have hfl := f7.c3 _ hr0
      have hca7 := s57 _ _ hca
      have dom : ∀ b ∈ [na, la, ra, fl0], H3 b ≠ none := fun b hb => by
        simp only [List.mem_cons, List.not_mem_nil, or_false] at hb
        rcases hb with rfl | rfl | rfl | rfl
        · exact dat_dom pa3.dn
        · exact dat_dom pa3.dl
        · exact dat_dom pa3.dr
        · exact four_dom pa3.dc s37 hxs hp0
      have lists : ∀ b ∈ [na, la, ra, fl0], ∃ ys, H7 b = some (.lst ys) ∧ ys.length ≤ 60 := fun b hb => by
        simp only [List.mem_cons, List.not_mem_nil, or_false] at hb
        rcases hb with rfl | rfl | rfl | rfl
        · exact ⟨_, hna, by rw [List.length_map]; omega⟩
        · exact ⟨_, hla, by rw [List.length_map]; omega⟩
        · exact ⟨_, hra, by rw [List.length_map]; omega⟩
        · exact ⟨_, hf0, by rw [List.length_map]; omega⟩
      have nca : ca ∉ [na, la, ra, fl0] := fun hb => by
        simp only [List.mem_cons, List.not_mem_nil, or_false] at hb
        rcases hb with e | e | e | e
        · exact ints_ne hca7 nz hna e
        · exact ints_ne hca7 nz hla e
        · exact hrc (by rw [e])
        · exact ints_ne hca7 nz hf0 e
      refine ⟨_, rfl, d, _, rfl, dget_of hd7 w2, _, rfl, d, _, rfl, dget_of hd7 w3, _, rfl, d, _, rfl, dget_of hd7 w5, _, rfl, d, _, rfl, dget_of hd7 w1, cl, _, 0, .ref p0, rfl, rfl, SqL.of hxs, atI_nat (j := 0) rfl, p0, _, 2, .ref fl0, rfl, rfl, SqT.of hp0, rfl, (by show 4 ≤ sizeLine; decide), fun tp ntp => ?_⟩
      have s8 := same_new (o := .tup [.ref na, .ref la, .ref ra, .ref fl0]) (Same.refl H7) ntp
      have ntp4 : tp ∉ [na, la, ra, fl0] := fun hb => by
        obtain ⟨ys, e, _⟩ := lists _ hb
        rw [ntp] at e
        cases e
      refine ⟨tp, rfl, ⟨_, SqT.of upd_same⟩, for_tup (K := K) (a := tp) (xs := [.ref na, .ref la, .ref ra, .ref fl0]) (fun j σ H9 => ∃ v7 : Option V, σ = [some (.ref a), some (.ref ca), some (.int z), some (.ref d), some .non, some (.ref x), some (.ref td), v7, v8] ∧ Kept (upd H7 tp (.tup [.ref na, .ref la, .ref ra, .ref fl0])) H9 [na, la, ra, fl0] ∧ ∀ b ∈ [na, la, ra, fl0], ∃ ys, H9 b = some (.lst ys) ∧ ys.length ≤ 60 + j)
        ⟨v7, rfl, Kept.refl, fun b hb => ?_⟩ (fun j σ H9 _ ⟨_, _, kp, _⟩ => SqT.of (kp _ _ upd_same ntp4)) ?_ ?_⟩
      · obtain ⟨ys, e, q⟩ := lists b hb
        exact ⟨ys, s8 _ _ e, q⟩
      · rintro j y σ H9 hj ⟨v7, rfl, kp, bl⟩
        have hy := List.mem_of_getElem? hj
        have hj4 : j < 4 := (List.getElem?_eq_some_iff.mp hj).1
        obtain ⟨b, rfl, hb⟩ : ∃ b, y = .ref b ∧ b ∈ [na, la, ra, fl0] := by
          simp only [List.mem_cons, List.not_mem_nil, or_false] at hy
          rcases hy with rfl | rfl | rfl | rfl
          · exact ⟨na, rfl, by simp⟩
          · exact ⟨la, rfl, by simp⟩
          · exact ⟨ra, rfl, by simp⟩
          · exact ⟨fl0, rfl, by simp⟩
        obtain ⟨ys, e, q⟩ := bl b hb
        have lt : ys.length < sizeLine := by
          have : 100 ≤ sizeLine := by decide
          omega
        refine ⟨_, rfl, .inl ⟨rfl, _, SqL.of e⟩, b, ys, _, rfl, rfl, e, lt, some (.ref b), rfl, kept_upd kp hb, fun b' hb' => ?_⟩
        by_cases eb : b' = b
        · subst eb
          exact ⟨_, upd_same, by rw [List.length_append, List.length_singleton]; omega⟩
        · obtain ⟨ys', e', q'⟩ := bl b' hb'
          exact ⟨ys', by rw [upd_ne eb]; exact e', by omega⟩
      · rintro σ H9 ⟨v7, rfl, kp, _⟩
        exact ⟨v7, _, rfl, fun b o e nb => kp b o (s8 _ _ e) nb, dom, fun b hb => by
          obtain ⟨ys, e, _⟩ := lists b hb
          exact ⟨ys, e⟩, nca⟩
    rintro σ H9 ⟨v7', four, rfl, kp, dom, lists, nca⟩
    have pg9 := pg_kept (pg_mono pg (s6.trans s7)) kp dom lists
    have tt9 := tell_kept (tt.mono s7) kp fun b hb z => dom b hb (none_of s34 z)
    have hca9 := kp _ _ (s7 _ _ (s6 _ _ hca)) nca
    -- again
    refine ⟨fun σ H10 => ∃ td2 : Addr, σ = [some (.ref a), some (.ref ca), some (.int z), some (.ref d), some .non, some (.ref x), some (.ref td), v7', some (.ref td2)] ∧ Same H9 H10 ∧ TellAt H9 H10 td2 g, told_rd rfl pg9 (fun td2 H10 s10 t => ⟨td2, rfl, s10, t⟩), ?_⟩
    rintro σ H10 ⟨td2, rfl, s10, tt2⟩
    refine ⟨_, rfl, _, rfl, toldD g, toldD g, tt2.dp, (tt9.mono s10).dp, told_shaped nice, told_shaped nice, _, rfl, ?_⟩
    rw [told_eq nice]
    refine iteF ?_
    refine mtd_rd rfl (pg_mono pg9 s10) ⟨by decide +kernel, by decide +kernel, by decide +kernel, by decide +kernel, by decide +kernel, by decide +kernel, by decide +kernel⟩ fun v H11 s11 g11 => ?_
    obtain ⟨q1, rfl, hq1⟩ := g11
    refine ⟨Nat.zero_le _, fun q2 nq2 => ?_⟩
    have s12 := same_new (o := .lst []) (Same.refl H11) nq2
    refine ⟨.list [], .list [], .lst (SqL.of (s12 _ _ hq1.2)) .nil, .lst (SqL.of upd_same) .nil, shaped_ints [], shaped_ints [], _, rfl, ?_⟩
    rw [eqv_nil]
    refine iteF ?_
    refine mtd_rd rfl (pg_mono pg9 ((s10.trans s11).trans s12)) ⟨by decide +kernel, by decide +kernel, by decide +kernel, by decide +kernel, by decide +kernel, by decide +kernel, by decide +kernel⟩ fun v H13 s13 g13 => ?_
    obtain ⟨q3, rfl, hq3⟩ := g13
    refine ⟨Nat.zero_le _, fun q4 nq4 => ?_⟩
    have s14 := same_new (o := .lst []) (Same.refl H13) nq4
    refine ⟨.list [], .list [], .lst (SqL.of (s14 _ _ hq3.2)) .nil, .lst (SqL.of upd_same) .nil, shaped_ints [], shaped_ints [], _, rfl, ?_⟩
    rw [eqv_nil]
    refine iteF ?_
    exact ⟨_, _, _, _, _, _, _, rfl, s14 _ _ (s13 _ _ (s12 _ _ (s11 _ _ (s10 _ _ hca9))))⟩
end
end K1

set_option Elab.async false
set_option linter.all false
set_option maxRecDepth 100000
set_option maxHeartbeats 8000000
namespace K1
open PySem L2
theorem fn_up {P : Program} {w : World} {K : PySem.W.Frag} {mg : Str → Option Value} {base : Heap} {CX : CXT} {k j : Nat} {f : Addr} {fd : FuncData} {ps : List Str} {sp : Sp} (F : FnOk P w K mg base CX k f fd ps sp) (h : k ≤ j) : FnOk P w K mg base CX j f fd ps sp := ⟨F.len, fun A outer s H args us vs Q E hr => F.run A outer s H args us vs Q E (hr.mono h)⟩
theorem kit_self {K : PySem.W.Frag} {v : Value} : PySem.W.kitOne K v v = some true := by
  unfold PySem.W.kitOne
  rw [if_pos (beq_iff_eq.mpr rfl)]
/-! ### what the top has written -/
theorem all_facts {P : Program} {w : World} {K : PySem.W.Frag} {h : Heap} {mg : Str → Option Value} {fa : Addr} (X : K.In h) (G : h.Ns mainGlobals mg) (hfa : mg "law" = some (.ref fa))
    {oc1 kV1 dc1 pm1 cd1 ct1 oc2 kV2 dc2 pm2 cd2 ct2 oc3 kV3 dc3 pm3 cd3 ct3 oc21 kV21 dc21 pm21 cd21 ct21 oc22 kV22 dc22 pm22 cd22 ct22 oc25 kV25 dc25 pm25 cd25 ct25 oc26 kV26 dc26 pm26 cd26 ct26 oc27 kV27 dc27 pm27 cd27 ct27 oc28 kV28 dc28 pm28 cd28 ct28 oc29 kV29 dc29 pm29 cd29 ct29 oc30 kV30 dc30 pm30 cd30 ct30 oc32 kV32 dc32 pm32 cd32 ct32 oc33 kV33 dc33 pm33 cd33 ct33 oc34 kV34 dc34 pm34 cd34 ct34 oc35 kV35 dc35 pm35 cd35 ct35 oc36 kV36 dc36 pm36 cd36 ct36 oc39 kV39 dc39 pm39 cd39 ct39 oc40 kV40 dc40 pm40 cd40 ct40 oc41 kV41 dc41 pm41 cd41 ct41 oc42 kV42 dc42 pm42 cd42 ct42 oc43 kV43 dc43 pm43 cd43 ct43 oc44 kV44 dc44 pm44 cd44 ct44 oc45 kV45 dc45 pm45 cd45 ct45 oc46 kV46 dc46 pm46 cd46 ct46 oc47 kV47 dc47 pm47 cd47 ct47 oc48 kV48 dc48 pm48 cd48 ct48 ocI kVI dcI pmI cdI ctI ocS kVS dcS pmS cdS ctS ocU kVU dcU pmU cdU ctU ocP kVP dcP pmP cdP ctP ocm1 kVm1 dcm1 pmm1 cdm1 ctm1 ocm2 kVm2 dcm2 pmm2 cdm2 ctm2 ocm3 kVm3 dcm3 pmm3 cdm3 ctm3 ocm4 kVm4 dcm4 pmm4 cdm4 ctm4 ocm5 kVm5 dcm5 pmm5 cdm5 ctm5 ocm6 kVm6 dcm6 pmm6 cdm6 ctm6 ocm7 kVm7 dcm7 pmm7 cdm7 ctm7 : Value}
    {od1 an1 od2 an2 od3 an3 od21 an21 od22 an22 od25 an25 od26 an26 od27 an27 od28 an28 od29 an29 od30 an30 od32 an32 od33 an33 od34 an34 od35 an35 od36 an36 od39 an39 od40 an40 od41 an41 od42 an42 od43 an43 od44 an44 od45 an45 od46 an46 od47 an47 od48 an48 odI anI odS anS odU anU odP anP odm1 anm1 odm2 anm2 odm3 anm3 odm4 anm4 odm5 anm5 odm6 anm6 odm7 anm7 xdd : Option Addr}
    {sl1 sl2 sl3 sl21 sl22 sl25 sl26 sl27 sl28 sl29 sl30 sl32 sl33 sl34 sl35 sl36 sl39 sl40 sl41 sl42 sl43 sl44 sl45 sl46 sl47 sl48 slI slS slU slP slm1 slm2 slm3 slm4 slm5 slm6 slm7 : Array (Option Value)}
    {f1 f2 f3 f21 f22 f25 f26 f27 f28 f29 f30 f32 f33 f34 f35 f36 f39 f40 f41 f42 f43 f44 f45 f46 f47 f48 C CR CS CU CP fI fS fU fP fm1 fm2 fm3 fm4 fm5 fm6 fm7 xN xR : Addr}
    {xnm xq : Str}
    {xbs xsub : List Value}
    {xsn : List Str}
    {xab : Bool}
    {xcol : Option Bool}
    {x0 x1 x2 x3 x5 : Option Value}
    {tD tS tM : Tok}
    (a1 : PySem.W.nsIn K mainGlobals "is_integer" = some (some (.ref f1)))
    (l1 : K.lookup f1 = some ⟨oc1, od1, .func (PySem.W.fnOf "is_integer" "is_integer" (defArgs (top 1)) (defBody (top 1)) (defScope (top 1)) .none kV1 dc1 pm1 an1 cd1 ct1), sl1⟩)
    (c1 : PySem.W.codeIn K cd1 "is_integer" = true)
    (k1 : PySem.W.keepIn K (.ref f1) = true)
    (a2 : PySem.W.nsIn K mainGlobals "is_within" = some (some (.ref f2)))
    (l2 : K.lookup f2 = some ⟨oc2, od2, .func (PySem.W.fnOf "is_within" "is_within" (defArgs (top 2)) (defBody (top 2)) (defScope (top 2)) .none kV2 dc2 pm2 an2 cd2 ct2), sl2⟩)
    (c2 : PySem.W.codeIn K cd2 "is_within" = true)
    (k2 : PySem.W.keepIn K (.ref f2) = true)
    (a3 : PySem.W.nsIn K mainGlobals "is_name" = some (some (.ref f3)))
    (l3 : K.lookup f3 = some ⟨oc3, od3, .func (PySem.W.fnOf "is_name" "is_name" (defArgs (top 3)) (defBody (top 3)) (defScope (top 3)) .none kV3 dc3 pm3 an3 cd3 ct3), sl3⟩)
    (c3 : PySem.W.codeIn K cd3 "is_name" = true)
    (k3 : PySem.W.keepIn K (.ref f3) = true)
    (a21 : PySem.W.nsIn K mainGlobals "survey" = some (some (.ref f21)))
    (l21 : K.lookup f21 = some ⟨oc21, od21, .func (PySem.W.fnOf "survey" "survey" (defArgs (top 21)) (defBody (top 21)) (defScope (top 21)) .none kV21 dc21 pm21 an21 cd21 ct21), sl21⟩)
    (c21 : PySem.W.codeIn K cd21 "survey" = true)
    (k21 : PySem.W.keepIn K (.ref f21) = true)
    (a22 : PySem.W.nsIn K mainGlobals "copied_block" = some (some (.ref f22)))
    (l22 : K.lookup f22 = some ⟨oc22, od22, .func (PySem.W.fnOf "copied_block" "copied_block" (defArgs (top 22)) (defBody (top 22)) (defScope (top 22)) .none kV22 dc22 pm22 an22 cd22 ct22), sl22⟩)
    (c22 : PySem.W.codeIn K cd22 "copied_block" = true)
    (k22 : PySem.W.keepIn K (.ref f22) = true)
    (a25 : PySem.W.nsIn K mainGlobals "first_bad_name" = some (some (.ref f25)))
    (l25 : K.lookup f25 = some ⟨oc25, od25, .func (PySem.W.fnOf "first_bad_name" "first_bad_name" (defArgs (top 25)) (defBody (top 25)) (defScope (top 25)) .none kV25 dc25 pm25 an25 cd25 ct25), sl25⟩)
    (c25 : PySem.W.codeIn K cd25 "first_bad_name" = true)
    (k25 : PySem.W.keepIn K (.ref f25) = true)
    (a26 : PySem.W.nsIn K mainGlobals "check_names" = some (some (.ref f26)))
    (l26 : K.lookup f26 = some ⟨oc26, od26, .func (PySem.W.fnOf "check_names" "check_names" (defArgs (top 26)) (defBody (top 26)) (defScope (top 26)) .none kV26 dc26 pm26 an26 cd26 ct26), sl26⟩)
    (c26 : PySem.W.codeIn K cd26 "check_names" = true)
    (k26 : PySem.W.keepIn K (.ref f26) = true)
    (a27 : PySem.W.nsIn K mainGlobals "is_class" = some (some (.ref f27)))
    (l27 : K.lookup f27 = some ⟨oc27, od27, .func (PySem.W.fnOf "is_class" "is_class" (defArgs (top 27)) (defBody (top 27)) (defScope (top 27)) .none kV27 dc27 pm27 an27 cd27 ct27), sl27⟩)
    (c27 : PySem.W.codeIn K cd27 "is_class" = true)
    (k27 : PySem.W.keepIn K (.ref f27) = true)
    (a28 : PySem.W.nsIn K mainGlobals "check_classes" = some (some (.ref f28)))
    (l28 : K.lookup f28 = some ⟨oc28, od28, .func (PySem.W.fnOf "check_classes" "check_classes" (defArgs (top 28)) (defBody (top 28)) (defScope (top 28)) .none kV28 dc28 pm28 an28 cd28 ct28), sl28⟩)
    (c28 : PySem.W.codeIn K cd28 "check_classes" = true)
    (k28 : PySem.W.keepIn K (.ref f28) = true)
    (a29 : PySem.W.nsIn K mainGlobals "check_threshold" = some (some (.ref f29)))
    (l29 : K.lookup f29 = some ⟨oc29, od29, .func (PySem.W.fnOf "check_threshold" "check_threshold" (defArgs (top 29)) (defBody (top 29)) (defScope (top 29)) .none kV29 dc29 pm29 an29 cd29 ct29), sl29⟩)
    (c29 : PySem.W.codeIn K cd29 "check_threshold" = true)
    (k29 : PySem.W.keepIn K (.ref f29) = true)
    (a30 : PySem.W.nsIn K mainGlobals "check_radices" = some (some (.ref f30)))
    (l30 : K.lookup f30 = some ⟨oc30, od30, .func (PySem.W.fnOf "check_radices" "check_radices" (defArgs (top 30)) (defBody (top 30)) (defScope (top 30)) .none kV30 dc30 pm30 an30 cd30 ct30), sl30⟩)
    (c30 : PySem.W.codeIn K cd30 "check_radices" = true)
    (k30 : PySem.W.keepIn K (.ref f30) = true)
    (a32 : PySem.W.nsIn K mainGlobals "scope_for" = some (some (.ref f32)))
    (l32 : K.lookup f32 = some ⟨oc32, od32, .func (PySem.W.fnOf "scope_for" "scope_for" (defArgs (top 32)) (defBody (top 32)) (defScope (top 32)) .none kV32 dc32 pm32 an32 cd32 ct32), sl32⟩)
    (c32 : PySem.W.codeIn K cd32 "scope_for" = true)
    (k32 : PySem.W.keepIn K (.ref f32) = true)
    (a33 : PySem.W.nsIn K mainGlobals "check_functions" = some (some (.ref f33)))
    (l33 : K.lookup f33 = some ⟨oc33, od33, .func (PySem.W.fnOf "check_functions" "check_functions" (defArgs (top 33)) (defBody (top 33)) (defScope (top 33)) .none kV33 dc33 pm33 an33 cd33 ct33), sl33⟩)
    (c33 : PySem.W.codeIn K cd33 "check_functions" = true)
    (k33 : PySem.W.keepIn K (.ref f33) = true)
    (a34 : PySem.W.nsIn K mainGlobals "check_body" = some (some (.ref f34)))
    (l34 : K.lookup f34 = some ⟨oc34, od34, .func (PySem.W.fnOf "check_body" "check_body" (defArgs (top 34)) (defBody (top 34)) (defScope (top 34)) .none kV34 dc34 pm34 an34 cd34 ct34), sl34⟩)
    (c34 : PySem.W.codeIn K cd34 "check_body" = true)
    (k34 : PySem.W.keepIn K (.ref f34) = true)
    (a35 : PySem.W.nsIn K mainGlobals "copied_classes" = some (some (.ref f35)))
    (l35 : K.lookup f35 = some ⟨oc35, od35, .func (PySem.W.fnOf "copied_classes" "copied_classes" (defArgs (top 35)) (defBody (top 35)) (defScope (top 35)) .none kV35 dc35 pm35 an35 cd35 ct35), sl35⟩)
    (c35 : PySem.W.codeIn K cd35 "copied_classes" = true)
    (k35 : PySem.W.keepIn K (.ref f35) = true)
    (a36 : PySem.W.nsIn K mainGlobals "copied_functions" = some (some (.ref f36)))
    (l36 : K.lookup f36 = some ⟨oc36, od36, .func (PySem.W.fnOf "copied_functions" "copied_functions" (defArgs (top 36)) (defBody (top 36)) (defScope (top 36)) .none kV36 dc36 pm36 an36 cd36 ct36), sl36⟩)
    (c36 : PySem.W.codeIn K cd36 "copied_functions" = true)
    (k36 : PySem.W.keepIn K (.ref f36) = true)
    (a39 : PySem.W.nsIn K mainGlobals "_law_digits" = some (some (.ref f39)))
    (l39 : K.lookup f39 = some ⟨oc39, od39, .func (PySem.W.fnOf "_law_digits" "_law_digits" (defArgs (top 39)) (defBody (top 39)) (defScope (top 39)) .none kV39 dc39 pm39 an39 cd39 ct39), sl39⟩)
    (c39 : PySem.W.codeIn K cd39 "_law_digits" = true)
    (k39 : PySem.W.keepIn K (.ref f39) = true)
    (a40 : PySem.W.nsIn K mainGlobals "_law_is_name" = some (some (.ref f40)))
    (l40 : K.lookup f40 = some ⟨oc40, od40, .func (PySem.W.fnOf "_law_is_name" "_law_is_name" (defArgs (top 40)) (defBody (top 40)) (defScope (top 40)) .none kV40 dc40 pm40 an40 cd40 ct40), sl40⟩)
    (c40 : PySem.W.codeIn K cd40 "_law_is_name" = true)
    (k40 : PySem.W.keepIn K (.ref f40) = true)
    (a41 : PySem.W.nsIn K mainGlobals "_law_is_whole" = some (some (.ref f41)))
    (l41 : K.lookup f41 = some ⟨oc41, od41, .func (PySem.W.fnOf "_law_is_whole" "_law_is_whole" (defArgs (top 41)) (defBody (top 41)) (defScope (top 41)) .none kV41 dc41 pm41 an41 cd41 ct41), sl41⟩)
    (c41 : PySem.W.codeIn K cd41 "_law_is_whole" = true)
    (k41 : PySem.W.keepIn K (.ref f41) = true)
    (a42 : PySem.W.nsIn K mainGlobals "_law_names_fault" = some (some (.ref f42)))
    (l42 : K.lookup f42 = some ⟨oc42, od42, .func (PySem.W.fnOf "_law_names_fault" "_law_names_fault" (defArgs (top 42)) (defBody (top 42)) (defScope (top 42)) .none kV42 dc42 pm42 an42 cd42 ct42), sl42⟩)
    (c42 : PySem.W.codeIn K cd42 "_law_names_fault" = true)
    (k42 : PySem.W.keepIn K (.ref f42) = true)
    (a43 : PySem.W.nsIn K mainGlobals "_law_classes_fault" = some (some (.ref f43)))
    (l43 : K.lookup f43 = some ⟨oc43, od43, .func (PySem.W.fnOf "_law_classes_fault" "_law_classes_fault" (defArgs (top 43)) (defBody (top 43)) (defScope (top 43)) .none kV43 dc43 pm43 an43 cd43 ct43), sl43⟩)
    (c43 : PySem.W.codeIn K cd43 "_law_classes_fault" = true)
    (k43 : PySem.W.keepIn K (.ref f43) = true)
    (a44 : PySem.W.nsIn K mainGlobals "_law_radices_fault" = some (some (.ref f44)))
    (l44 : K.lookup f44 = some ⟨oc44, od44, .func (PySem.W.fnOf "_law_radices_fault" "_law_radices_fault" (defArgs (top 44)) (defBody (top 44)) (defScope (top 44)) .none kV44 dc44 pm44 an44 cd44 ct44), sl44⟩)
    (c44 : PySem.W.codeIn K cd44 "_law_radices_fault" = true)
    (k44 : PySem.W.keepIn K (.ref f44) = true)
    (a45 : PySem.W.nsIn K mainGlobals "_law_fault" = some (some (.ref f45)))
    (l45 : K.lookup f45 = some ⟨oc45, od45, .func (PySem.W.fnOf "_law_fault" "_law_fault" (defArgs (top 45)) (defBody (top 45)) (defScope (top 45)) .none kV45 dc45 pm45 an45 cd45 ct45), sl45⟩)
    (c45 : PySem.W.codeIn K cd45 "_law_fault" = true)
    (k45 : PySem.W.keepIn K (.ref f45) = true)
    (a46 : PySem.W.nsIn K mainGlobals "_law_built" = some (some (.ref f46)))
    (l46 : K.lookup f46 = some ⟨oc46, od46, .func (PySem.W.fnOf "_law_built" "_law_built" (defArgs (top 46)) (defBody (top 46)) (defScope (top 46)) .none kV46 dc46 pm46 an46 cd46 ct46), sl46⟩)
    (c46 : PySem.W.codeIn K cd46 "_law_built" = true)
    (k46 : PySem.W.keepIn K (.ref f46) = true)
    (a47 : PySem.W.nsIn K mainGlobals "_law_made" = some (some (.ref f47)))
    (l47 : K.lookup f47 = some ⟨oc47, od47, .func (PySem.W.fnOf "_law_made" "_law_made" (defArgs (top 47)) (defBody (top 47)) (defScope (top 47)) .none kV47 dc47 pm47 an47 cd47 ct47), sl47⟩)
    (c47 : PySem.W.codeIn K cd47 "_law_made" = true)
    (k47 : PySem.W.keepIn K (.ref f47) = true)
    (a48 : PySem.W.nsIn K mainGlobals "law" = some (some (.ref f48)))
    (l48 : K.lookup f48 = some ⟨oc48, od48, .func (PySem.W.fnOf "law" "law" (defArgs (top 48)) (defBody (top 48)) (defScope (top 48)) .none kV48 dc48 pm48 an48 cd48 ct48), sl48⟩)
    (c48 : PySem.W.codeIn K cd48 "law" = true)
    (k48 : PySem.W.keepIn K (.ref f48) = true)
    (gC : PySem.W.nsIn K mainGlobals "InvalidProgram" = some (some (.ref C)))
    (gCR : PySem.W.nsIn K mainGlobals "RunError" = some (some (.ref CR)))
    (gCS : PySem.W.nsIn K mainGlobals "Scope" = some (some (.ref CS)))
    (gCU : PySem.W.nsIn K mainGlobals "Survey" = some (some (.ref CU)))
    (gCP : PySem.W.nsIn K mainGlobals "Program" = some (some (.ref CP)))
    (aI : PySem.W.findIn K (.ref C) "__init__" = some (some (.ref fI)))
    (tI : PySem.W.typeIn K (.ref fI) = some (.type "function"))
    (lI : K.lookup fI = some ⟨ocI, odI, .func (PySem.W.fnOf "__init__" "InvalidProgram.__init__" (defArgs sIP) (defBody sIP) (defScope sIP) .none kVI dcI pmI anI cdI ctI), slI⟩)
    (cI : PySem.W.codeIn K cdI "InvalidProgram.__init__" = true)
    (kI : PySem.W.keepIn K (.ref fI) = true)
    (aS : PySem.W.findIn K (.ref CS) "__init__" = some (some (.ref fS)))
    (iS : PySem.W.isFn K (.ref fS) = true)
    (lS : K.lookup fS = some ⟨ocS, odS, .func (PySem.W.fnOf "__init__" "Scope.__init__" (defArgs sScI) (defBody sScI) (defScope sScI) .none kVS dcS pmS anS cdS ctS), slS⟩)
    (cS : PySem.W.codeIn K cdS "Scope.__init__" = true)
    (kS : PySem.W.keepIn K (.ref fS) = true)
    (aU : PySem.W.findIn K (.ref CU) "__init__" = some (some (.ref fU)))
    (iU : PySem.W.isFn K (.ref fU) = true)
    (lU : K.lookup fU = some ⟨ocU, odU, .func (PySem.W.fnOf "__init__" "Survey.__init__" (defArgs sSuI) (defBody sSuI) (defScope sSuI) .none kVU dcU pmU anU cdU ctU), slU⟩)
    (cU : PySem.W.codeIn K cdU "Survey.__init__" = true)
    (kU : PySem.W.keepIn K (.ref fU) = true)
    (aP : PySem.W.findIn K (.ref CP) "__init__" = some (some (.ref fP)))
    (iP : PySem.W.isFn K (.ref fP) = true)
    (lP : K.lookup fP = some ⟨ocP, odP, .func (PySem.W.fnOf "__init__" "Program.__init__" (defArgs sPrI) (defBody sPrI) (defScope sPrI) .none kVP dcP pmP anP cdP ctP), slP⟩)
    (cP : PySem.W.codeIn K cdP "Program.__init__" = true)
    (kP : PySem.W.keepIn K (.ref fP) = true)
    (am1 : PySem.W.findIn K (.ref CP) "classes" = some (some (.ref fm1)))
    (im1 : PySem.W.isFn K (.ref fm1) = true)
    (lm1 : K.lookup fm1 = some ⟨ocm1, odm1, .func (PySem.W.fnOf "classes" "Program.classes" (defArgs (inClass (top 37) 1)) (defBody (inClass (top 37) 1)) (defScope (inClass (top 37) 1)) .none kVm1 dcm1 pmm1 anm1 cdm1 ctm1), slm1⟩)
    (cm1 : PySem.W.codeIn K cdm1 "Program.classes" = true)
    (km1 : PySem.W.keepIn K (.ref fm1) = true)
    (am2 : PySem.W.findIn K (.ref CP) "body" = some (some (.ref fm2)))
    (im2 : PySem.W.isFn K (.ref fm2) = true)
    (lm2 : K.lookup fm2 = some ⟨ocm2, odm2, .func (PySem.W.fnOf "body" "Program.body" (defArgs (inClass (top 37) 2)) (defBody (inClass (top 37) 2)) (defScope (inClass (top 37) 2)) .none kVm2 dcm2 pmm2 anm2 cdm2 ctm2), slm2⟩)
    (cm2 : PySem.W.codeIn K cdm2 "Program.body" = true)
    (km2 : PySem.W.keepIn K (.ref fm2) = true)
    (am3 : PySem.W.findIn K (.ref CP) "variables" = some (some (.ref fm3)))
    (im3 : PySem.W.isFn K (.ref fm3) = true)
    (lm3 : K.lookup fm3 = some ⟨ocm3, odm3, .func (PySem.W.fnOf "variables" "Program.variables" (defArgs (inClass (top 37) 3)) (defBody (inClass (top 37) 3)) (defScope (inClass (top 37) 3)) .none kVm3 dcm3 pmm3 anm3 cdm3 ctm3), slm3⟩)
    (cm3 : PySem.W.codeIn K cdm3 "Program.variables" = true)
    (km3 : PySem.W.keepIn K (.ref fm3) = true)
    (am4 : PySem.W.findIn K (.ref CP) "weak" = some (some (.ref fm4)))
    (im4 : PySem.W.isFn K (.ref fm4) = true)
    (lm4 : K.lookup fm4 = some ⟨ocm4, odm4, .func (PySem.W.fnOf "weak" "Program.weak" (defArgs (inClass (top 37) 4)) (defBody (inClass (top 37) 4)) (defScope (inClass (top 37) 4)) .none kVm4 dcm4 pmm4 anm4 cdm4 ctm4), slm4⟩)
    (cm4 : PySem.W.codeIn K cdm4 "Program.weak" = true)
    (km4 : PySem.W.keepIn K (.ref fm4) = true)
    (am5 : PySem.W.findIn K (.ref CP) "threshold" = some (some (.ref fm5)))
    (im5 : PySem.W.isFn K (.ref fm5) = true)
    (lm5 : K.lookup fm5 = some ⟨ocm5, odm5, .func (PySem.W.fnOf "threshold" "Program.threshold" (defArgs (inClass (top 37) 5)) (defBody (inClass (top 37) 5)) (defScope (inClass (top 37) 5)) .none kVm5 dcm5 pmm5 anm5 cdm5 ctm5), slm5⟩)
    (cm5 : PySem.W.codeIn K cdm5 "Program.threshold" = true)
    (km5 : PySem.W.keepIn K (.ref fm5) = true)
    (am6 : PySem.W.findIn K (.ref CP) "radices" = some (some (.ref fm6)))
    (im6 : PySem.W.isFn K (.ref fm6) = true)
    (lm6 : K.lookup fm6 = some ⟨ocm6, odm6, .func (PySem.W.fnOf "radices" "Program.radices" (defArgs (inClass (top 37) 6)) (defBody (inClass (top 37) 6)) (defScope (inClass (top 37) 6)) .none kVm6 dcm6 pmm6 anm6 cdm6 ctm6), slm6⟩)
    (cm6 : PySem.W.codeIn K cdm6 "Program.radices" = true)
    (km6 : PySem.W.keepIn K (.ref fm6) = true)
    (am7 : PySem.W.findIn K (.ref CP) "functions" = some (some (.ref fm7)))
    (im7 : PySem.W.isFn K (.ref fm7) = true)
    (lm7 : K.lookup fm7 = some ⟨ocm7, odm7, .func (PySem.W.fnOf "functions" "Program.functions" (defArgs (inClass (top 37) 7)) (defBody (inClass (top 37) 7)) (defScope (inClass (top 37) 7)) .none kVm7 dcm7 pmm7 anm7 cdm7 ctm7), slm7⟩)
    (cm7 : PySem.W.codeIn K cdm7 "Program.functions" = true)
    (km7 : PySem.W.keepIn K (.ref fm7) = true)
    (mkCS : PySem.W.makesIn K CS = true)
    (kpCS : PySem.W.keepIn K (.ref CS) = true)
    (pgCS : PySem.W.plainGet K CS Str.empty = true)
    (hdCS : PySem.W.hasDictIn K CS = true)
    (poCS : PySem.W.plainOver K CS = true)
    (saCS : PySem.W.findIn K (.ref CS) "__setattr__" = some (some (.builtin "object.__setattr__")))
    (n1CS : PySem.W.findIn K (.ref CS) "class_names" = some none)
    (n2CS : PySem.W.findIn K (.ref CS) "field_names" = some none)
    (n3CS : PySem.W.findIn K (.ref CS) "variable_names" = some none)
    (n4CS : PySem.W.findIn K (.ref CS) "weak_names" = some none)
    (n5CS : PySem.W.findIn K (.ref CS) "levels" = some none)
    (n6CS : PySem.W.findIn K (.ref CS) "calls" = some none)
    (mkCU : PySem.W.makesIn K CU = true)
    (kpCU : PySem.W.keepIn K (.ref CU) = true)
    (pgCU : PySem.W.plainGet K CU Str.empty = true)
    (hdCU : PySem.W.hasDictIn K CU = true)
    (poCU : PySem.W.plainOver K CU = true)
    (saCU : PySem.W.findIn K (.ref CU) "__setattr__" = some (some (.builtin "object.__setattr__")))
    (n1CU : PySem.W.findIn K (.ref CU) "place" = some none)
    (n2CU : PySem.W.findIn K (.ref CU) "many" = some none)
    (n3CU : PySem.W.findIn K (.ref CU) "depth" = some none)
    (n4CU : PySem.W.findIn K (.ref CU) "buried" = some none)
    (mkCP : PySem.W.makesIn K CP = true)
    (kpCP : PySem.W.keepIn K (.ref CP) = true)
    (pgCP : PySem.W.plainGet K CP Str.empty = true)
    (hdCP : PySem.W.hasDictIn K CP = true)
    (poCP : PySem.W.plainOver K CP = true)
    (saCP : PySem.W.findIn K (.ref CP) "__setattr__" = some (some (.builtin "object.__setattr__")))
    (n1CP : PySem.W.findIn K (.ref CP) "_classes" = some none)
    (n2CP : PySem.W.findIn K (.ref CP) "_body" = some none)
    (n3CP : PySem.W.findIn K (.ref CP) "_variables" = some none)
    (n4CP : PySem.W.findIn K (.ref CP) "_weak" = some none)
    (n5CP : PySem.W.findIn K (.ref CP) "_threshold" = some none)
    (n6CP : PySem.W.findIn K (.ref CP) "_radices" = some none)
    (n7CP : PySem.W.findIn K (.ref CP) "_functions" = some none)
    (xL : K.lookup C = some (excClassObj xnm xq C xN xbs [.ref xR, .type "ArithmeticError", .type "Exception", .type "BaseException", .type "object"] true xsn xsub xab xcol xdd x0 x1 x2 x3 x5 "ArithmeticError.__new__"))
    (saC : PySem.W.findIn K (.ref C) "__setattr__" = some (some (.builtin "object.__setattr__")))
    (exC : PySem.W.subIn K (.ref C) (.type "BaseException") = some true)
    (tyC : PySem.W.typeIn K (.ref C) = some (.type "type"))
    (kpC : PySem.W.keepIn K (.ref C) = true)
    (hdC : PySem.W.hasDictIn K C = true)
    (gaC : PySem.W.findIn K (.ref C) "__getattribute__" = some (some (.builtin "BaseException.__getattribute__")))
    (ggC : PySem.W.findIn K (.ref C) "__getattr__" = some none)
    (haC : PySem.W.findIn K (.ref C) "__class__" = some (some (.builtin "object.__class__")))
    (hnC : PySem.W.specialIn K (.builtin "object.__class__") "__get__" = some (some (.builtin "getset_descriptor.__get__")))
    (htC : PySem.W.takesIn K (.builtin "object.__class__") = some true)
    (hmC : PySem.W.mroIn K C (.type "object") = some true)
    (n1C : PySem.W.findIn K (.ref C) "part" = some none)
    (n2C : PySem.W.findIn K (.ref C) "at" = some none)
    (exR : PySem.W.subIn K (.ref CR) (.type "BaseException") = some true)
    (hdR : PySem.W.hasDictIn K CR = true)
    (tyR : PySem.W.typeIn K (.ref CR) = some (.type "type"))
    (suR : PySem.W.subIn K (.ref C) (.ref CR) = some true)
    (zisinstance : PySem.W.nsIn K mainGlobals "isinstance" = some none)
    (zint : PySem.W.nsIn K mainGlobals "int" = some none)
    (zbool : PySem.W.nsIn K mainGlobals "bool" = some none)
    (zstr : PySem.W.nsIn K mainGlobals "str" = some none)
    (zlist : PySem.W.nsIn K mainGlobals "list" = some none)
    (ztuple : PySem.W.nsIn K mainGlobals "tuple" = some none)
    (zlen : PySem.W.nsIn K mainGlobals "len" = some none)
    (zall : PySem.W.nsIn K mainGlobals "all" = some none)
    (zenumerate : PySem.W.nsIn K mainGlobals "enumerate" = some none)
    (zrange : PySem.W.nsIn K mainGlobals "range" = some none)
    (zmax : PySem.W.nsIn K mainGlobals "max" = some none)
    (vtD : PySem.W.nsIn K mainGlobals "DEEPEST_BLOCK" = some (some (.int 60 tD)))
    (vtS : PySem.W.nsIn K mainGlobals "MOST_STATEMENTS" = some (some (.int 60 tS)))
    (vtM : PySem.W.nsIn K mainGlobals "MOST_MEMORY" = some (some (.int 12 tM)))
    : ∃ fd : FuncData, (∀ (s : Shared) (v : Value), BindsTo s fd ⟨[v], []⟩ [("_law_script", v)]) ∧ ∀ base : Heap, K.In base → base.Ns mainGlobals mg → FnOk P w K mg base CX0 8 fa fd ["_law_script"] (spLaw K) := by
  have e := hfa.symm.trans (PySem.W.mg_of X G a48)
  cases e
  have F1 := fun_mk (st := top 1) l1 c1 k1
  have b1 := F1.binds (ps := ["value"]) fun _ _ _ _ _ _ us hl => match us, hl with | [_], _ => rfl
  have F2 := fun_mk (st := top 2) l2 c2 k2
  have b2 := F2.binds (ps := ["value", "least", "most"]) fun _ _ _ _ _ _ us hl => match us, hl with | [_, _, _], _ => rfl
  have F3 := fun_mk (st := top 3) l3 c3 k3
  have b3 := F3.binds (ps := ["value"]) fun _ _ _ _ _ _ us hl => match us, hl with | [_], _ => rfl
  have F21 := fun_mk (st := top 21) l21 c21 k21
  have b21 := F21.binds (ps := ["body", "scope"]) fun _ _ _ _ _ _ us hl => match us, hl with | [_, _], _ => rfl
  have F22 := fun_mk (st := top 22) l22 c22 k22
  have b22 := F22.binds (ps := ["block"]) fun _ _ _ _ _ _ us hl => match us, hl with | [_], _ => rfl
  have F25 := fun_mk (st := top 25) l25 c25 k25
  have b25 := F25.binds (ps := ["value", "most", "barred"]) fun _ _ _ _ _ _ us hl => match us, hl with | [_, _, _], _ => rfl
  have F26 := fun_mk (st := top 26) l26 c26 k26
  have b26 := F26.binds (ps := ["part", "value", "least", "most", "barred"]) fun _ _ _ _ _ _ us hl => match us, hl with | [_, _, _, _, _], _ => rfl
  have F27 := fun_mk (st := top 27) l27 c27 k27
  have b27 := F27.binds (ps := ["value", "seen"]) fun _ _ _ _ _ _ us hl => match us, hl with | [_, _], _ => rfl
  have F28 := fun_mk (st := top 28) l28 c28 k28
  have b28 := F28.binds (ps := ["classes"]) fun _ _ _ _ _ _ us hl => match us, hl with | [_], _ => rfl
  have F29 := fun_mk (st := top 29) l29 c29 k29
  have b29 := F29.binds (ps := ["threshold"]) fun _ _ _ _ _ _ us hl => match us, hl with | [_], _ => rfl
  have F30 := fun_mk (st := top 30) l30 c30 k30
  have b30 := F30.binds (ps := ["radices", "threshold"]) fun _ _ _ _ _ _ us hl => match us, hl with | [_, _], _ => rfl
  have F32 := fun_mk (st := top 32) l32 c32 k32
  have b32 := F32.binds (ps := ["names", "classes", "weak", "radices", "calls"]) fun _ _ _ _ _ _ us hl => match us, hl with | [_, _, _, _, _], _ => rfl
  have F33 := fun_mk (st := top 33) l33 c33 k33
  have b33 := F33.binds (ps := ["functions", "classes", "weak", "radices"]) fun _ _ _ _ _ _ us hl => match us, hl with | [_, _, _, _], _ => rfl
  have F34 := fun_mk (st := top 34) l34 c34 k34
  have b34 := F34.binds (ps := ["body", "scope", "many"]) fun _ _ _ _ _ _ us hl => match us, hl with | [_, _, _], _ => rfl
  have F35 := fun_mk (st := top 35) l35 c35 k35
  have b35 := F35.binds (ps := ["classes"]) fun _ _ _ _ _ _ us hl => match us, hl with | [_], _ => rfl
  have F36 := fun_mk (st := top 36) l36 c36 k36
  have b36 := F36.binds (ps := ["functions"]) fun _ _ _ _ _ _ us hl => match us, hl with | [_], _ => rfl
  have F39 := fun_mk (st := top 39) l39 c39 k39
  have b39 := F39.binds (ps := ["_law_cell", "_law_many"]) fun _ _ _ _ _ _ us hl => match us, hl with | [_, _], _ => rfl
  have F40 := fun_mk (st := top 40) l40 c40 k40
  have b40 := F40.binds (ps := ["_law_thing"]) fun _ _ _ _ _ _ us hl => match us, hl with | [_], _ => rfl
  have F41 := fun_mk (st := top 41) l41 c41 k41
  have b41 := F41.binds (ps := ["_law_thing", "_law_least", "_law_most"]) fun _ _ _ _ _ _ us hl => match us, hl with | [_, _, _], _ => rfl
  have F42 := fun_mk (st := top 42) l42 c42 k42
  have b42 := F42.binds (ps := ["_law_thing", "_law_least", "_law_most", "_law_taken"]) fun _ _ _ _ _ _ us hl => match us, hl with | [_, _, _, _], _ => rfl
  have F43 := fun_mk (st := top 43) l43 c43 k43
  have b43 := F43.binds (ps := ["_law_thing"]) fun _ _ _ _ _ _ us hl => match us, hl with | [_], _ => rfl
  have F44 := fun_mk (st := top 44) l44 c44 k44
  have b44 := F44.binds (ps := ["_law_pace", "_law_thing"]) fun _ _ _ _ _ _ us hl => match us, hl with | [_, _], _ => rfl
  have F45 := fun_mk (st := top 45) l45 c45 k45
  have b45 := F45.binds (ps := ["_law_parts"]) fun _ _ _ _ _ _ us hl => match us, hl with | [_], _ => rfl
  have F46 := fun_mk (st := top 46) l46 c46 k46
  have b46 := F46.binds (ps := ["_law_digits_here"]) fun _ _ _ _ _ _ us hl => match us, hl with | [_], _ => rfl
  have F47 := fun_mk (st := top 47) l47 c47 k47
  have b47 := F47.binds (ps := ["_law_parts"]) fun _ _ _ _ _ _ us hl => match us, hl with | [_], _ => rfl
  have F48 := fun_mk (st := top 48) l48 c48 k48
  have b48 := F48.binds (ps := ["_law_script"]) fun _ _ _ _ _ _ us hl => match us, hl with | [_], _ => rfl
  have FI := fun_mk (st := sIP) lI cI kI
  have bI := FI.binds (ps := ["self", "part", "at"]) fun _ _ _ _ _ _ us hl => match us, hl with | [_, _, _], _ => rfl
  have FS := fun_mk (st := sScI) lS cS kS
  have bS := FS.binds (ps := ["self", "class_names", "field_names", "variable_names", "weak_names", "levels", "calls"]) fun _ _ _ _ _ _ us hl => match us, hl with | [_, _, _, _, _, _, _], _ => rfl
  have FU := fun_mk (st := sSuI) lU cU kU
  have bU := FU.binds (ps := ["self", "place", "many", "depth", "buried"]) fun _ _ _ _ _ _ us hl => match us, hl with | [_, _, _, _, _], _ => rfl
  have FP := fun_mk (st := sPrI) lP cP kP
  have Fm1 := fun_mk (st := (inClass (top 37) 1)) lm1 cm1 km1
  have bm1 := Fm1.binds (ps := ["self"]) fun _ _ _ _ _ _ us hl => match us, hl with | [_], _ => rfl
  have Fm2 := fun_mk (st := (inClass (top 37) 2)) lm2 cm2 km2
  have bm2 := Fm2.binds (ps := ["self"]) fun _ _ _ _ _ _ us hl => match us, hl with | [_], _ => rfl
  have Fm3 := fun_mk (st := (inClass (top 37) 3)) lm3 cm3 km3
  have bm3 := Fm3.binds (ps := ["self"]) fun _ _ _ _ _ _ us hl => match us, hl with | [_], _ => rfl
  have Fm4 := fun_mk (st := (inClass (top 37) 4)) lm4 cm4 km4
  have bm4 := Fm4.binds (ps := ["self"]) fun _ _ _ _ _ _ us hl => match us, hl with | [_], _ => rfl
  have Fm5 := fun_mk (st := (inClass (top 37) 5)) lm5 cm5 km5
  have bm5 := Fm5.binds (ps := ["self"]) fun _ _ _ _ _ _ us hl => match us, hl with | [_], _ => rfl
  have Fm6 := fun_mk (st := (inClass (top 37) 6)) lm6 cm6 km6
  have bm6 := Fm6.binds (ps := ["self"]) fun _ _ _ _ _ _ us hl => match us, hl with | [_], _ => rfl
  have Fm7 := fun_mk (st := (inClass (top 37) 7)) lm7 cm7 km7
  have bm7 := Fm7.binds (ps := ["self"]) fun _ _ _ _ _ _ us hl => match us, hl with | [_], _ => rfl
  have B : Blt mg := ⟨PySem.W.mg_none_of X G zisinstance, PySem.W.mg_none_of X G zint, PySem.W.mg_none_of X G zbool, PySem.W.mg_none_of X G zstr, PySem.W.mg_none_of X G zlist, PySem.W.mg_none_of X G ztuple, PySem.W.mg_none_of X G zlen, PySem.W.mg_none_of X G zall, PySem.W.mg_none_of X G zenumerate, PySem.W.mg_none_of X G zrange, PySem.W.mg_none_of X G zmax⟩
  have TA : ExA K C := ⟨⟨xnm, xq, xN, xbs, _, xsn, xsub, xab, xcol, xdd, x0, x1, x2, x3, x5, xL, ⟨xR, rfl⟩⟩, saC, exC, tyC, kpC⟩
  have TC : Cgt K mg C CR := ⟨PySem.W.mg_of X G gC, PySem.W.mg_of X G gCR, PySem.W.exm_ref exR hdR tyR suR, kit_self, ⟨gaC, ggC, exC, hdC, haC, hnC, htC, hmC⟩, ⟨gaC, ggC, exC, hdC⟩, n1C, n2C⟩
  have US : NoS K CS := ⟨⟨pgCS, hdCS, poCS, saCS⟩, n1CS, n2CS, n3CS, n4CS, n5CS, n6CS⟩
  have UU : NoU K CU := ⟨⟨pgCU, hdCU, poCU, saCU⟩, n1CU, n2CU, n3CU, n4CU⟩
  have UP : NoP K CP := ⟨⟨pgCP, hdCP, poCP, saCP⟩, n1CP, n2CP, n3CP, n4CP, n5CP, n6CP, n7CP⟩
  refine ⟨PySem.W.fnOf "law" "law" (defArgs (top 48)) (defBody (top 48)) (defScope (top 48)) .none kV48 dc48 pm48 an48 cd48 ct48, fun s v => .of_eq rfl, fun base _ _ => ?_⟩
  have C1 : Cal P w K mg base CX0 1 "is_integer" ["value"] spInteger := ⟨_, _, ok1 F1 B, PySem.W.mg_of X G a1, k1, b1⟩
  have C2 : Cal P w K mg base CX0 2 "is_within" ["value", "least", "most"] spWithin := ⟨_, _, ok2 F2 B C1, PySem.W.mg_of X G a2, k2, b2⟩
  have C3 : Cal P w K mg base CX0 1 "is_name" ["value"] spName := ⟨_, _, ok3 F3 B, PySem.W.mg_of X G a3, k3, b3⟩
  have C25 : Cal P w K mg base CX0 2 "first_bad_name" ["value", "most", "barred"] spFirst := ⟨_, _, ok25 F25 B C3, PySem.W.mg_of X G a25, k25, b25⟩
  have IP : Ipc P w K mg base C := ⟨TA, ⟨fI, _, aI, tI, okIP FI TA n1C n2C, bI⟩, PySem.W.mg_of X G gC⟩
  have C26 : Cal P w K mg base (L2.CX P w) 3 "check_names" ["part", "value", "least", "most", "barred"] (spNames C) := ⟨_, _, ok26 F26 B IP C25, PySem.W.mg_of X G a26, k26, b26⟩
  have C27 : Cal P w K mg base CX0 3 "is_class" ["value", "seen"] spIsClass := ⟨_, _, ok27 F27 B C2 C3 C25, PySem.W.mg_of X G a27, k27, b27⟩
  have C28 : Cal P w K mg base (L2.CX P w) 4 "check_classes" ["classes"] (spClasses C) := ⟨_, _, ok28 F28 B IP C27, PySem.W.mg_of X G a28, k28, b28⟩
  have C29 : Cal P w K mg base (L2.CX P w) 3 "check_threshold" ["threshold"] (spThr C) := ⟨_, _, ok29 F29 (PySem.W.mg_of X G vtM) IP C2, PySem.W.mg_of X G a29, k29, b29⟩
  have C30 : Cal P w K mg base (L2.CX P w) 3 "check_radices" ["radices", "threshold"] (spRad C) := ⟨_, _, ok30 F30 B (PySem.W.mg_of X G vtM) IP C1, PySem.W.mg_of X G a30, k30, b30⟩
  have MS : Mkr P w K mg base CX0 1 "Scope" CS ["self", "class_names", "field_names", "variable_names", "weak_names", "levels", "calls"] (spScI CS) := ⟨_, _, ⟨mkCS, aS, iS, kpCS⟩, okScI FS US, PySem.W.mg_of X G gCS, bS⟩
  have MU : Mkr P w K mg base CX0 1 "Survey" CU ["self", "place", "many", "depth", "buried"] (spSuI CU) := ⟨_, _, ⟨mkCU, aU, iU, kpCU⟩, okSuI FU UU, PySem.W.mg_of X G gCU, bU⟩
  have C32 : Cal P w K mg base CX0 3 "scope_for" ["names", "classes", "weak", "radices", "calls"] spScopeFor := ⟨_, _, ok32 F32 B MS, PySem.W.mg_of X G a32, k32, b32⟩
  have C21 : Cal P w K mg base CX0 3 "survey" ["body", "scope"] (spSurvey CU) := ⟨_, _, ok21 F21 B (PySem.W.mg_of X G vtD) MU, PySem.W.mg_of X G a21, k21, b21⟩
  have C34 : Cal P w K mg base CX0 4 "check_body" ["body", "scope", "many"] (spCheckBody CU) := ⟨_, _, ok34 F34 B (PySem.W.mg_of X G vtS) UU C21, PySem.W.mg_of X G a34, k34, b34⟩
  have C33 : Cal P w K mg base CX0 1 "check_functions" ["functions", "classes", "weak", "radices"] spCheckFns := ⟨_, _, ok33 F33 B, PySem.W.mg_of X G a33, k33, b33⟩
  have C22 : Cal P w K mg base CX0 1 "copied_block" ["block"] spCopyNil := ⟨_, _, ok22 F22 , PySem.W.mg_of X G a22, k22, b22⟩
  have C36 : Cal P w K mg base CX0 1 "copied_functions" ["functions"] spCopyNil := ⟨_, _, ok36 F36 , PySem.W.mg_of X G a36, k36, b36⟩
  have C35 : Cal P w K mg base CX0 1 "copied_classes" ["classes"] spCopyCls := ⟨_, _, ok35 F35 B, PySem.W.mg_of X G a35, k35, b35⟩
  have PR : Prm P w K mg base C CP := ⟨⟨fP, _, ⟨mkCP, aP, iP, kpCP⟩, okPr FP B UP C28 C26 C29 C30 C33 C32 C34 C35 C22 C36, kb_pr FP⟩, PySem.W.mg_of X G gCP⟩
  have C40 : Cal P w K mg base CX0 1 "_law_is_name" ["_law_thing"] spName := ⟨_, _, ok40 F40 B, PySem.W.mg_of X G a40, k40, b40⟩
  have C41 : Cal P w K mg base CX0 1 "_law_is_whole" ["_law_thing", "_law_least", "_law_most"] spWithin := ⟨_, _, ok41 F41 B, PySem.W.mg_of X G a41, k41, b41⟩
  have C42 : Cal P w K mg base CX0 2 "_law_names_fault" ["_law_thing", "_law_least", "_law_most", "_law_taken"] spNF := ⟨_, _, ok42 F42 B C40, PySem.W.mg_of X G a42, k42, b42⟩
  have C43 : Cal P w K mg base CX0 3 "_law_classes_fault" ["_law_thing"] spCF := ⟨_, _, ok43 F43 B C40 C41 C42, PySem.W.mg_of X G a43, k43, b43⟩
  have C44 : Cal P w K mg base CX0 2 "_law_radices_fault" ["_law_pace", "_law_thing"] spRF := ⟨_, _, ok44 F44 B C41, PySem.W.mg_of X G a44, k44, b44⟩
  have C45 : Cal P w K mg base CX0 4 "_law_fault" ["_law_parts"] spFault := ⟨_, _, ok45 F45 C43 C42 C41 C44, PySem.W.mg_of X G a45, k45, b45⟩
  have C39 : Cal P w K mg base CX0 1 "_law_digits" ["_law_cell", "_law_many"] spDig := ⟨_, _, ok39 F39 B, PySem.W.mg_of X G a39, k39, b39⟩
  have C46 : Cal P w K mg base CX0 1 "_law_built" ["_law_digits_here"] spBuilt := ⟨_, _, ok46 F46 B, PySem.W.mg_of X G a46, k46, b46⟩
  have C47 : Cal P w K mg base CX0 7 "_law_made" ["_law_parts"] (spMade C CP) := ⟨_, _, ok47 F47 B PR TC, PySem.W.mg_of X G a47, k47, b47⟩
  have MM : Mtds P w K mg base CP := ⟨UP.cl, ⟨_, _, ⟨am1, im1, km1⟩, okM1 Fm1 UP C35, bm1⟩, ⟨_, _, ⟨am2, im2, km2⟩, okM2 Fm2 UP C22, bm2⟩, ⟨_, _, ⟨am3, im3, km3⟩, fn_up (okM3 Fm3 B UP) (by decide), bm3⟩, ⟨_, _, ⟨am4, im4, km4⟩, fn_up (okM4 Fm4 B UP) (by decide), bm4⟩, ⟨_, _, ⟨am5, im5, km5⟩, fn_up (okM5 Fm5 UP) (by decide), bm5⟩, ⟨_, _, ⟨am6, im6, km6⟩, fn_up (okM6 Fm6 B UP) (by decide), bm6⟩, ⟨_, _, ⟨am7, im7, km7⟩, okM7 Fm7 UP C36, bm7⟩⟩
  exact ok48 F48 B C39 C46 C45 C47 MM
end K1
open PySem PySem.W PyProof.Rows
set_option maxRecDepth 100000 in
set_option maxHeartbeats 0 in
open_top hd for PySem.Challenge.rw_roundheap_k01_heads_of_programs_refused
set_option maxRecDepth 100000 in
set_option maxHeartbeats 0 in
theorem PySem.Challenge.cw_roundheap_k01_heads_of_programs_refused_holds : PySem.Challenge.rw_roundheap_k01_heads_of_programs_refused.Holds := by
  refine hd (L2.walk_of (l := PySem.Challenge.rw_roundheap_k01_heads_of_programs_refused) (n := 63) (k := 8) (x := "_law_script") (CX := fun _ => L2.CX0) (sp := fun _ => K1.spLaw _) rfl (by decide) rfl ⟨rfl, by decide, by decide⟩ (fun w h Y => PySem.W.kIn_of Y) ?F (fun _ _ a ns hl _ hS => ⟨a, ns, rfl, hS, hl, fun _ => rfl⟩) fun _ _ _ _ _ z => z)
  case F =>
    intro w mg fa h KX G hmg
    refine' K1.all_facts KX G hmg ?a1 ?l1 ?c1 ?k1 ?a2 ?l2 ?c2 ?k2 ?a3 ?l3 ?c3 ?k3 ?a21 ?l21 ?c21 ?k21 ?a22 ?l22 ?c22 ?k22 ?a25 ?l25 ?c25 ?k25 ?a26 ?l26 ?c26 ?k26 ?a27 ?l27 ?c27 ?k27 ?a28 ?l28 ?c28 ?k28 ?a29 ?l29 ?c29 ?k29 ?a30 ?l30 ?c30 ?k30 ?a32 ?l32 ?c32 ?k32 ?a33 ?l33 ?c33 ?k33 ?a34 ?l34 ?c34 ?k34 ?a35 ?l35 ?c35 ?k35 ?a36 ?l36 ?c36 ?k36 ?a39 ?l39 ?c39 ?k39 ?a40 ?l40 ?c40 ?k40 ?a41 ?l41 ?c41 ?k41 ?a42 ?l42 ?c42 ?k42 ?a43 ?l43 ?c43 ?k43 ?a44 ?l44 ?c44 ?k44 ?a45 ?l45 ?c45 ?k45 ?a46 ?l46 ?c46 ?k46 ?a47 ?l47 ?c47 ?k47 ?a48 ?l48 ?c48 ?k48 ?gC ?gCR ?gCS ?gCU ?gCP ?aI ?tI ?lI ?cI ?kI ?aS ?iS ?lS ?cS ?kS ?aU ?iU ?lU ?cU ?kU ?aP ?iP ?lP ?cP ?kP ?am1 ?im1 ?lm1 ?cm1 ?km1 ?am2 ?im2 ?lm2 ?cm2 ?km2 ?am3 ?im3 ?lm3 ?cm3 ?km3 ?am4 ?im4 ?lm4 ?cm4 ?km4 ?am5 ?im5 ?lm5 ?cm5 ?km5 ?am6 ?im6 ?lm6 ?cm6 ?km6 ?am7 ?im7 ?lm7 ?cm7 ?km7 ?mkCS ?kpCS ?pgCS ?hdCS ?poCS ?saCS ?n1CS ?n2CS ?n3CS ?n4CS ?n5CS ?n6CS ?mkCU ?kpCU ?pgCU ?hdCU ?poCU ?saCU ?n1CU ?n2CU ?n3CU ?n4CU ?mkCP ?kpCP ?pgCP ?hdCP ?poCP ?saCP ?n1CP ?n2CP ?n3CP ?n4CP ?n5CP ?n6CP ?n7CP ?xL ?saC ?exC ?tyC ?kpC ?hdC ?gaC ?ggC ?haC ?hnC ?htC ?hmC ?n1C ?n2C ?exR ?hdR ?tyR ?suR ?zisinstance ?zint ?zbool ?zstr ?zlist ?ztuple ?zlen ?zall ?zenumerate ?zrange ?zmax ?vtD ?vtS ?vtM
    (case a1 => k_is)
    (case l1 => k_is)
    (case c1 => k_is)
    (case k1 => k_is)
    (case a2 => k_is)
    (case l2 => k_is)
    (case c2 => k_is)
    (case k2 => k_is)
    (case a3 => k_is)
    (case l3 => k_is)
    (case c3 => k_is)
    (case k3 => k_is)
    (case a21 => k_is)
    (case l21 => k_is)
    (case c21 => k_is)
    (case k21 => k_is)
    (case a22 => k_is)
    (case l22 => k_is)
    (case c22 => k_is)
    (case k22 => k_is)
    (case a25 => k_is)
    (case l25 => k_is)
    (case c25 => k_is)
    (case k25 => k_is)
    (case a26 => k_is)
    (case l26 => k_is)
    (case c26 => k_is)
    (case k26 => k_is)
    (case a27 => k_is)
    (case l27 => k_is)
    (case c27 => k_is)
    (case k27 => k_is)
    (case a28 => k_is)
    (case l28 => k_is)
    (case c28 => k_is)
    (case k28 => k_is)
    (case a29 => k_is)
    (case l29 => k_is)
    (case c29 => k_is)
    (case k29 => k_is)
    (case a30 => k_is)
    (case l30 => k_is)
    (case c30 => k_is)
    (case k30 => k_is)
    (case a32 => k_is)
    (case l32 => k_is)
    (case c32 => k_is)
    (case k32 => k_is)
    (case a33 => k_is)
    (case l33 => k_is)
    (case c33 => k_is)
    (case k33 => k_is)
    (case a34 => k_is)
    (case l34 => k_is)
    (case c34 => k_is)
    (case k34 => k_is)
    (case a35 => k_is)
    (case l35 => k_is)
    (case c35 => k_is)
    (case k35 => k_is)
    (case a36 => k_is)
    (case l36 => k_is)
    (case c36 => k_is)
    (case k36 => k_is)
    (case a39 => k_is)
    (case l39 => k_is)
    (case c39 => k_is)
    (case k39 => k_is)
    (case a40 => k_is)
    (case l40 => k_is)
    (case c40 => k_is)
    (case k40 => k_is)
    (case a41 => k_is)
    (case l41 => k_is)
    (case c41 => k_is)
    (case k41 => k_is)
    (case a42 => k_is)
    (case l42 => k_is)
    (case c42 => k_is)
    (case k42 => k_is)
    (case a43 => k_is)
    (case l43 => k_is)
    (case c43 => k_is)
    (case k43 => k_is)
    (case a44 => k_is)
    (case l44 => k_is)
    (case c44 => k_is)
    (case k44 => k_is)
    (case a45 => k_is)
    (case l45 => k_is)
    (case c45 => k_is)
    (case k45 => k_is)
    (case a46 => k_is)
    (case l46 => k_is)
    (case c46 => k_is)
    (case k46 => k_is)
    (case a47 => k_is)
    (case l47 => k_is)
    (case c47 => k_is)
    (case k47 => k_is)
    (case a48 => k_is)
    (case l48 => k_is)
    (case c48 => k_is)
    (case k48 => k_is)
    (case gC => k_is)
    (case gCR => k_is)
    (case gCS => k_is)
    (case gCU => k_is)
    (case gCP => k_is)
    (case aI => k_is)
    (case tI => k_is)
    (case lI => k_is)
    (case cI => k_is)
    (case kI => k_is)
    (case aS => k_is)
    (case iS => k_is)
    (case lS => k_is)
    (case cS => k_is)
    (case kS => k_is)
    (case aU => k_is)
    (case iU => k_is)
    (case lU => k_is)
    (case cU => k_is)
    (case kU => k_is)
    (case aP => k_is)
    (case iP => k_is)
    (case lP => k_is)
    (case cP => k_is)
    (case kP => k_is)
    (case am1 => k_is)
    (case im1 => k_is)
    (case lm1 => k_is)
    (case cm1 => k_is)
    (case km1 => k_is)
    (case am2 => k_is)
    (case im2 => k_is)
    (case lm2 => k_is)
    (case cm2 => k_is)
    (case km2 => k_is)
    (case am3 => k_is)
    (case im3 => k_is)
    (case lm3 => k_is)
    (case cm3 => k_is)
    (case km3 => k_is)
    (case am4 => k_is)
    (case im4 => k_is)
    (case lm4 => k_is)
    (case cm4 => k_is)
    (case km4 => k_is)
    (case am5 => k_is)
    (case im5 => k_is)
    (case lm5 => k_is)
    (case cm5 => k_is)
    (case km5 => k_is)
    (case am6 => k_is)
    (case im6 => k_is)
    (case lm6 => k_is)
    (case cm6 => k_is)
    (case km6 => k_is)
    (case am7 => k_is)
    (case im7 => k_is)
    (case lm7 => k_is)
    (case cm7 => k_is)
    (case km7 => k_is)
    (case mkCS => k_is)
    (case kpCS => k_is)
    (case pgCS => k_is)
    (case hdCS => k_is)
    (case poCS => k_is)
    (case saCS => k_is)
    (case n1CS => k_is)
    (case n2CS => k_is)
    (case n3CS => k_is)
    (case n4CS => k_is)
    (case n5CS => k_is)
    (case n6CS => k_is)
    (case mkCU => k_is)
    (case kpCU => k_is)
    (case pgCU => k_is)
    (case hdCU => k_is)
    (case poCU => k_is)
    (case saCU => k_is)
    (case n1CU => k_is)
    (case n2CU => k_is)
    (case n3CU => k_is)
    (case n4CU => k_is)
    (case mkCP => k_is)
    (case kpCP => k_is)
    (case pgCP => k_is)
    (case hdCP => k_is)
    (case poCP => k_is)
    (case saCP => k_is)
    (case n1CP => k_is)
    (case n2CP => k_is)
    (case n3CP => k_is)
    (case n4CP => k_is)
    (case n5CP => k_is)
    (case n6CP => k_is)
    (case n7CP => k_is)
    (case xL => k_is)
    (case saC => k_is)
    (case exC => k_is)
    (case tyC => k_is)
    (case kpC => k_is)
    (case hdC => k_is)
    (case gaC => k_is)
    (case ggC => k_is)
    (case haC => k_is)
    (case hnC => k_is)
    (case htC => k_is)
    (case hmC => k_is)
    (case n1C => k_is)
    (case n2C => k_is)
    (case exR => k_is)
    (case hdR => k_is)
    (case tyR => k_is)
    (case suR => k_is)
    (case zisinstance => k_is)
    (case zint => k_is)
    (case zbool => k_is)
    (case zstr => k_is)
    (case zlist => k_is)
    (case ztuple => k_is)
    (case zlen => k_is)
    (case zall => k_is)
    (case zenumerate => k_is)
    (case zrange => k_is)
    (case zmax => k_is)
    (case vtD => k_is)
    (case vtS => k_is)
    (case vtM => k_is)
