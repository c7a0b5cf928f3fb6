import PyProof.Rows.All
import Wide.All
import OpenK.AllK
import Wide.FinOn
import HandS.ForMost
import HandS.Exc
import HandS.ExcOwn
import HandS.ExcInit
import HandS.ExcField
import HandS.ExcIs
import HandS.TryOnly
import HandS.WordsExc
import HandS.IsInst
import HandS.CallSlots
import HandS.MakeKwOnly
import HandS.DictComp
import HandS.Flow
import PySem.Challenge.RW_roundheap_k02_statements_refused
import KE.KExcInit
import HandS.Keys
import HandS.More
import HandS.Zip
import HandS.Proxy
import HandS.TupAny
import PyProof.EqKinds
import HandS.TupMul
import KE.KExcIs
import KE.KStateDown
import HandS.Head0
import HandS.Head1
import HandS.Head2
import HandS.HeadEnd
import HandS.HeadHook1
import HandS.HeadHook2
import HandS.HeadHook3
import HandS.HeadHook4
set_option Elab.async false
set_option linter.all false
set_option maxRecDepth 100000
set_option maxHeartbeats 4000000
namespace K1
open PySem L2
/-- the program's top, by places -/
def top (i : Nat) : Stmt := PySem.Challenge.pw_roundheap_k02_statements_refused.main.body.getD i (.Pass ⟨0, 0, 0, 0⟩)
/-! ### data: plain values whose lists, tuples and (empty) dicts are tracked -/
inductive Dat (H : Hp) : V → Prop
  | non : Dat H .non
  | bl (b : Bool) : Dat H (.bl b)
  | int (i : Int) : Dat H (.int i)
  | str (s : Str) (h : s.length ≤ 1000 ∧ PyData.strOk s = true) : Dat H (.str s)
  | lst {a : Addr} {xs : List V} (e : H a = some (.lst xs)) (hx : ∀ x ∈ xs, Dat H x) : Dat H (.ref a)
  | tup {a : Addr} {xs : List V} (e : H a = some (.tup xs)) (hx : ∀ x ∈ xs, Dat H x) : Dat H (.ref a)
  | dic {a : Addr} {kvs : List (Key × V)} (e : H a = some (.dK kvs)) : Dat H (.ref a)
theorem Dat.mono {H H' : Hp} (s : Same H H') {v : V} (d : Dat H v) : Dat H' v := by
  induction d with
  | non => exact .non
  | bl b => exact .bl b
  | int i => exact .int i
  | str z h => exact .str z h
  | lst e _ ih => exact .lst (s _ _ e) ih
  | tup e _ ih => exact .tup (s _ _ e) ih
  | dic e => exact .dic (s _ _ e)
theorem Dat.items {H : Hp} {a : Addr} {xs : List V} (d : Dat H (.ref a)) (e : H a = some (.lst xs)) : ∀ x ∈ xs, Dat H x := by
  cases d with
  | lst e' hx => rw [e'] at e; cases e; exact hx
  | tup e' hx => rw [e'] at e; cases e
  | dic e' => rw [e'] at e; cases e
theorem Dat.itemsT {H : Hp} {a : Addr} {xs : List V} (d : Dat H (.ref a)) (e : H a = some (.tup xs)) : ∀ x ∈ xs, Dat H x := by
  cases d with
  | lst e' hx => rw [e'] at e; cases e
  | tup e' hx => rw [e'] at e; cases e; exact hx
  | dic e' => rw [e'] at e; cases e
/-! ### kinds -/
def isI : V → Bool | .int _ => true | .bl _ => true | _ => false
def isB : V → Bool | .bl _ => true | _ => false
def isS : V → Bool | .str _ => true | _ => false
def lstOf (H : Hp) : V → Option (List V) | .ref a => (match H a with | some (.lst xs) => some xs | _ => none) | _ => none
def tupOf (H : Hp) : V → Option (List V) | .ref a => (match H a with | some (.tup xs) => some xs | _ => none) | _ => none
theorem lstOf_some {H : Hp} {v : V} {xs : List V} (h : lstOf H v = some xs) : ∃ a, v = .ref a ∧ H a = some (.lst xs) := by
  cases v with
  | ref a =>
    refine ⟨a, rfl, ?_⟩
    cases e : H a with
    | none => rw [show lstOf H (.ref a) = (match H a with | some (.lst xs) => some xs | _ => none) from rfl, e] at h; cases h
    | some o =>
      rw [show lstOf H (.ref a) = (match H a with | some (.lst xs) => some xs | _ => none) from rfl, e] at h
      cases o with
      | lst ys => cases h; rfl
      | _ => cases h
  | _ => cases h
theorem tupOf_some {H : Hp} {v : V} {xs : List V} (h : tupOf H v = some xs) : ∃ a, v = .ref a ∧ H a = some (.tup xs) := by
  cases v with
  | ref a =>
    refine ⟨a, rfl, ?_⟩
    cases e : H a with
    | none => rw [show tupOf H (.ref a) = (match H a with | some (.tup xs) => some xs | _ => none) from rfl, e] at h; cases h
    | some o =>
      rw [show tupOf H (.ref a) = (match H a with | some (.tup xs) => some xs | _ => none) from rfl, e] at h
      cases o with
      | tup ys => cases h; rfl
      | _ => cases h
  | _ => cases h
theorem lstOf_of {H : Hp} {a : Addr} {xs : List V} (e : H a = some (.lst xs)) : lstOf H (.ref a) = some xs := by
  show (match H a with | some (.lst xs) => some xs | _ => none) = some xs
  rw [e]
theorem tupOf_of {H : Hp} {a : Addr} {xs : List V} (e : H a = some (.tup xs)) : tupOf H (.ref a) = some xs := by
  show (match H a with | some (.tup xs) => some xs | _ => none) = some xs
  rw [e]
/-- one question of isinstance, answered by the kind -/
structure Ans (K : PySem.W.Frag) (H : Hp) (v : V) (T : String) (b : Bool) : Prop where
  ex : ∃ t : String, TyX K H v (.type t) ∧ kitB t T = some b
theorem Ans.rd {K : PySem.W.Frag} {H : Hp} {v : V} {T : String} {b : Bool} {Q : VK} (a : Ans K H v T b) (q : Q (.bl b) H) : rIsi K [v, .ty T] H Q := by
  obtain ⟨t, ty, e⟩ := a.ex
  exact ⟨v, .ty T, .type t, .type T, b, rfl, .ty T, ty, kit_ty e, q⟩
section
variable {K : PySem.W.Frag} {H : Hp} {v : V}
theorem ans_int (d : Dat H v) : Ans K H v "int" (isI v) := by
  cases d with
  | non => exact ⟨"NoneType", .base .non, (by show kitB "NoneType" "int" = some false; decide +kernel)⟩
  | bl b => exact ⟨"bool", .base (.bl b), (by show kitB "bool" "int" = some true; decide +kernel)⟩
  | int i => exact ⟨"int", .base (.int i), (by show kitB "int" "int" = some true; decide +kernel)⟩
  | str z _ => exact ⟨"str", .base (.str z), (by show kitB "str" "int" = some false; decide +kernel)⟩
  | lst e _ => exact ⟨"list", .base (.lst e), (by show kitB "list" "int" = some false; decide +kernel)⟩
  | tup e _ => exact ⟨"tuple", .base (.tup e), (by show kitB "tuple" "int" = some false; decide +kernel)⟩
  | dic e => exact ⟨"dict", .base (.dK e), (by show kitB "dict" "int" = some false; decide +kernel)⟩
theorem ans_bool (d : Dat H v) : Ans K H v "bool" (isB v) := by
  cases d with
  | non => exact ⟨"NoneType", .base .non, (by show kitB "NoneType" "bool" = some false; decide +kernel)⟩
  | bl b => exact ⟨"bool", .base (.bl b), (by show kitB "bool" "bool" = some true; decide +kernel)⟩
  | int i => exact ⟨"int", .base (.int i), (by show kitB "int" "bool" = some false; decide +kernel)⟩
  | str z _ => exact ⟨"str", .base (.str z), (by show kitB "str" "bool" = some false; decide +kernel)⟩
  | lst e _ => exact ⟨"list", .base (.lst e), (by show kitB "list" "bool" = some false; decide +kernel)⟩
  | tup e _ => exact ⟨"tuple", .base (.tup e), (by show kitB "tuple" "bool" = some false; decide +kernel)⟩
  | dic e => exact ⟨"dict", .base (.dK e), (by show kitB "dict" "bool" = some false; decide +kernel)⟩
theorem ans_str (d : Dat H v) : Ans K H v "str" (isS v) := by
  cases d with
  | non => exact ⟨"NoneType", .base .non, (by show kitB "NoneType" "str" = some false; decide +kernel)⟩
  | bl b => exact ⟨"bool", .base (.bl b), (by show kitB "bool" "str" = some false; decide +kernel)⟩
  | int i => exact ⟨"int", .base (.int i), (by show kitB "int" "str" = some false; decide +kernel)⟩
  | str z _ => exact ⟨"str", .base (.str z), (by show kitB "str" "str" = some true; decide +kernel)⟩
  | lst e _ => exact ⟨"list", .base (.lst e), (by show kitB "list" "str" = some false; decide +kernel)⟩
  | tup e _ => exact ⟨"tuple", .base (.tup e), (by show kitB "tuple" "str" = some false; decide +kernel)⟩
  | dic e => exact ⟨"dict", .base (.dK e), (by show kitB "dict" "str" = some false; decide +kernel)⟩
theorem lstOf_tup {a : Addr} {xs : List V} (e : H a = some (.tup xs)) : lstOf H (.ref a) = none := by
  show (match H a with | some (.lst xs) => some xs | _ => none) = none
  rw [e]
theorem lstOf_dic {a : Addr} {kvs : List (Key × V)} (e : H a = some (.dK kvs)) : lstOf H (.ref a) = none := by
  show (match H a with | some (.lst xs) => some xs | _ => none) = none
  rw [e]
theorem tupOf_lst {a : Addr} {xs : List V} (e : H a = some (.lst xs)) : tupOf H (.ref a) = none := by
  show (match H a with | some (.tup xs) => some xs | _ => none) = none
  rw [e]
theorem tupOf_dic {a : Addr} {kvs : List (Key × V)} (e : H a = some (.dK kvs)) : tupOf H (.ref a) = none := by
  show (match H a with | some (.tup xs) => some xs | _ => none) = none
  rw [e]
theorem ans_list (d : Dat H v) : Ans K H v "list" (lstOf H v).isSome := by
  cases d with
  | non => exact ⟨"NoneType", .base .non, (by show kitB "NoneType" "list" = some false; decide +kernel)⟩
  | bl b => exact ⟨"bool", .base (.bl b), (by show kitB "bool" "list" = some false; decide +kernel)⟩
  | int i => exact ⟨"int", .base (.int i), (by show kitB "int" "list" = some false; decide +kernel)⟩
  | str z _ => exact ⟨"str", .base (.str z), (by show kitB "str" "list" = some false; decide +kernel)⟩
  | lst e _ => rw [lstOf_of e]; exact ⟨"list", .base (.lst e), (by show kitB "list" "list" = some true; decide +kernel)⟩
  | tup e _ => rw [lstOf_tup e]; exact ⟨"tuple", .base (.tup e), (by show kitB "tuple" "list" = some false; decide +kernel)⟩
  | dic e => rw [lstOf_dic e]; exact ⟨"dict", .base (.dK e), (by show kitB "dict" "list" = some false; decide +kernel)⟩
theorem ans_tup (d : Dat H v) : Ans K H v "tuple" (tupOf H v).isSome := by
  cases d with
  | non => exact ⟨"NoneType", .base .non, (by show kitB "NoneType" "tuple" = some false; decide +kernel)⟩
  | bl b => exact ⟨"bool", .base (.bl b), (by show kitB "bool" "tuple" = some false; decide +kernel)⟩
  | int i => exact ⟨"int", .base (.int i), (by show kitB "int" "tuple" = some false; decide +kernel)⟩
  | str z _ => exact ⟨"str", .base (.str z), (by show kitB "str" "tuple" = some false; decide +kernel)⟩
  | lst e _ => rw [tupOf_lst e]; exact ⟨"list", .base (.lst e), (by show kitB "list" "tuple" = some false; decide +kernel)⟩
  | tup e _ => rw [tupOf_of e]; exact ⟨"tuple", .base (.tup e), (by show kitB "tuple" "tuple" = some true; decide +kernel)⟩
  | dic e => rw [tupOf_dic e]; exact ⟨"dict", .base (.dK e), (by show kitB "dict" "tuple" = some false; decide +kernel)⟩
end
/-! ### a def of the module as its callers know it -/
structure Cal (P : Program) (w : World) (K : PySem.W.Frag) (mg : Str → Option Value) (base : Heap) (CX : CXT) (k : Nat) (x : Str) (ps : List Str) (sp : Sp) : Prop where
  ex : ∃ (f : Addr) (fd : FuncData), FnOk P w K mg base CX k f fd ps sp ∧ mg x = some (.ref f) ∧ PySem.W.keepIn K (.ref f) = true ∧ Binds K fd ps []
theorem pe_cal {X : Cx} {CX : CXT} {k j : Nat} {x : Str} {ps : List Str} {sp : Sp} {E : XK} {p pos : Pos} {e : Expr} {es : List Expr} {t : TA} (c : Cal X.prog X.w X.K X.mg X.base CX k x ps sp) (hr : Room j X.A) (hj : k ≤ j) (hx : Passes CX X E) (ha : PA X (e :: es) t)
    (hg : Gl X x := by rfl) (hdb : (x == ("__debug__" : Str)) = false := by decide) (he : starEach (e :: es) X.env = (false, eval e X.env) :: starEach es X.env := by rfl) (hpl : (backTo pos (starEach es X.env)).any (·.1) = false := by rfl) :
    PE X (.Call (.Name x p) (e :: es) [] pos) (tCall sp [] E t) := by
  obtain ⟨f, fd, G, hm, hk, hb⟩ := c.ex
  exact pe_call G (hr.mono hj) hg hm hk hb .nil hx ha hdb he hpl
/-- what the module's names of built-ins are: themselves -/
structure Blt (mg : Str → Option Value) : Prop where
  isinstance : mg "isinstance" = none
  int : mg "int" = none
  bool : mg "bool" = none
  str : mg "str" = none
  list : mg "list" = none
  tuple : mg "tuple" = none
  len : mg "len" = none
  all : mg "all" = none
  enumerate : mg "enumerate" = none
  range : mg "range" = none
  max : mg "max" = none
/-- isinstance(x, T), x in slot i -/
theorem isi_rd {K : PySem.W.Frag} {σ : St} {H : Hp} {i : Nat} {v : V} {T : String} {b : Bool} {Q : VK} (hv : σ[i]? = some (some v)) (a : Ans K H v T b) (q : Q (.bl b) H) : tCB (rIsi K) (tCons (tVar i) (tCons (tC (.ty T)) tNil)) σ H Q := by
  refine ⟨v, hv, ?_⟩
  show rIsi K [v, .ty T] H Q
  exact a.rd q
section
variable {X : Cx}
theorem pt_isi {e : Expr} {te : TE} {n : Str} {T : String} {p p1 pos : Pos} (B : Blt X.mg) (he : PE X e te) (hm : X.mg n = none) (hv : bootBuiltins n = some (.type T)) (hg : Gl X "isinstance" := by rfl) (hgn : Gl X n := by rfl) (hnn : n ≠ "__name__" := by decide) (hd : (n == ("__debug__" : Str)) = false := by decide) (hs1 : starEach [e, .Name n p1] X.env = (false, eval e X.env) :: starEach [.Name n p1] X.env := by rfl) (hs2 : starEach [Expr.Name n p1] X.env = (false, eval (.Name n p1) X.env) :: starEach [] X.env := by rfl) (hpl : (backTo pos (starEach [Expr.Name n p1] X.env)).any (·.1) = false := by rfl) :
    PE X (.Call (.Name "isinstance" p) [e, .Name n p1] [] pos) (tCB (rIsi X.K) (tCons te (tCons (tC (.ty T)) tNil))) :=
  pe_callB call_isi hg B.isinstance PyProof.Rows.boot_isinstance (pa_cons he (pa_cons (pe_bltn hgn hm hv rfl hnn hd) pa_nil hs2) hs1) (by decide) (by decide) hs1 hpl
end
end K1

set_option Elab.async false
set_option linter.all false
set_option maxRecDepth 100000
set_option maxHeartbeats 4000000
namespace K1
open PySem L2
section
variable {P : Program} {w : World} {K : PySem.W.Frag} {mg : Str → Option Value} {base : Heap}
/-! ### is_integer -/
def intV (v : V) : Bool := isI v && !isB v
def spInteger : Sp := fun vs H Q _ => ∃ v, vs = [v] ∧ Dat H v ∧ Q (.bl (intV v)) H
theorem sc1 : FnScope ["value"] ["value"] (defScope (top 1)) := ⟨rfl, rfl, rfl, by decide +kernel, rfl, by decide +kernel, by decide +kernel⟩
theorem ok1 {f : Addr} {fd : FuncData} (F : Fun K "is_integer" "is_integer" (top 1) f fd) (B : Blt mg) : FnOk P w K mg base CX0 1 f fd ["value"] spInteger := by
  refine F.ok sc1 (fun vs H Q E h => ?_) (fun cdv A outer s H vs Q E hr h => ?_)
  · obtain ⟨v, rfl, _⟩ := h
    rfl
  · obtain ⟨v, rfl, d, k⟩ := h
    refine ⟨_, pss_one (ps_ret (pe_and (pt_isi B (pv 0) B.int PyProof.Rows.boot_int) (pe_one (pe_not (pt_isi B (pv 0) B.bool PyProof.Rows.boot_bool))))), ?_⟩
    refine isi_rd rfl (ans_int d) ⟨_, rfl, ?_⟩
    refine ite2 (fun c => ?_) (fun c => ?_)
    · refine isi_rd rfl (ans_bool d) ⟨_, rfl, ?_⟩
      have e : intV v = !isB v := by unfold intV; rw [c, Bool.true_and]
      rw [← e]
      exact k
    · have e : intV v = false := by unfold intV; rw [Bool.eq_false_iff.mpr c, Bool.false_and]
      rw [← e]
      exact k
/-! ### is_within -/
def wholeV (v : V) (lo hi : Int) : Bool := match v with | .int i => decide (lo ≤ i) && decide (i ≤ hi) | _ => false
theorem intV_is {v : V} (h : intV v = true) : ∃ i, v = .int i := by
  cases v with
  | int i => exact ⟨i, rfl⟩
  | _ => cases h
theorem wholeV_not {v : V} {lo hi : Int} (h : ¬ intV v = true) : wholeV v lo hi = false := by
  cases v with
  | int i => exact absurd (show intV (V.int i) = true from rfl) h
  | _ => rfl
def spWithin : Sp := fun vs H Q _ => ∃ (v : V) (lo hi : Int), vs = [v, .int lo, .int hi] ∧ Dat H v ∧ Q (.bl (wholeV v lo hi)) H
theorem sc2 : FnScope ["value", "least", "most"] ["value", "least", "most"] (defScope (top 2)) := ⟨rfl, rfl, rfl, by decide +kernel, rfl, by decide +kernel, by decide +kernel⟩
theorem ok2 {f : Addr} {fd : FuncData} (F : Fun K "is_within" "is_within" (top 2) f fd) (B : Blt mg) (C1 : Cal P w K mg base CX0 1 "is_integer" ["value"] spInteger) : FnOk P w K mg base CX0 2 f fd ["value", "least", "most"] spWithin := by
  refine F.ok sc2 (fun vs H Q E h => ?_) (fun cdv A outer s H vs Q E hr h => ?_)
  · obtain ⟨v, lo, hi, rfl, _⟩ := h
    rfl
  · obtain ⟨v, lo, hi, rfl, d, k⟩ := h
    refine ⟨_, pss_one (ps_ret (pe_and (pe_cal C1 hr (by decide) pass0 (pa_cons (pv 0) pa_nil)) (pe_one (pe_chain op_le op_le (pv 1) (pv 0) (pv 2))))), ?_⟩
    refine ⟨_, rfl, v, rfl, d, _, rfl, ?_⟩
    refine ite2 (fun c => ?_) (fun c => ?_)
    · obtain ⟨i, rfl⟩ := intV_is c
      refine ⟨_, rfl, _, rfl, _, _, rfl, rfl, _, rfl, ?_⟩
      have e : wholeV (.int i) lo hi = (decide (lo ≤ i) && decide (i ≤ hi)) := rfl
      refine ite2 (fun c1 => ?_) (fun c1 => ?_)
      · refine ⟨_, rfl, _, _, rfl, rfl, ?_⟩
        rw [c1, Bool.true_and] at e
        rw [e] at k
        exact k
      · rw [Bool.eq_false_iff.mpr c1, Bool.false_and] at e
        rw [e] at k
        exact k
    · rw [← wholeV_not (lo := lo) (hi := hi) c]
      exact k
/-! ### is_name -/
def letterV (c : Nat) : Bool := decide (97 ≤ c) && decide (c ≤ 122)
def nameS (s : Str) : Bool := (decide (1 ≤ s.length) && decide (s.length ≤ 8)) && s.cps.toList.all letterV
def nameV : V → Bool | .str s => nameS s | _ => false
theorem le_one (a b : Nat) : (!decide (([b] : List Nat) < [a])) = decide (a ≤ b) := by
  rw [Bool.eq_iff_iff]
  simp [List.cons_lt_cons_iff]
theorem start_drop {α : Type} (l : List α) (i : Nat) (x : α) (h : l[i]? = some x) : l.take (i + 1) = l.take i ++ [x] := by
  rw [List.take_add_one, h]
  rfl
/-- a comprehension over a text's signs -/
theorem lc_str {x : Str} {g : TG} {tt : TT} {te : TE} {vs : List Nat} {σ : St} {H1 : Hp} {D : Addr} {Qd : Hp → Prop} (Pv : Nat → Hp → Prop) (h0 : Pv 0 (upd H1 D (.lst [])))
    (hs : ∀ i c H, x.cps.toList[i]? = some c → Pv i H → g (.str ⟨#[c]⟩) (wipe σ vs) H fun σ2 H2 => wipe σ2 vs = wipe σ vs ∧ tt σ2 H2 fun b H3 =>
      if b = true then te σ2 H3 fun y H4 => ∃ acc, H4 D = some (.lst acc) ∧ acc.length < sizeLine ∧ Pv (i + 1) (upd H4 D (.lst (acc ++ [y]))) else Pv (i + 1) H3) (hd : ∀ H, Pv x.cps.size H → Qd H) :
    ∃ W : Nat → Nat → Hp → Prop, (∃ m, W 0 m (upd H1 D (.lst []))) ∧ ∀ i m H, W i m H →
      ((Its x).stop i H ∧ Qd H) ∨ ((Its x).go i H ∧ ∃ Nx : Hp → Prop, (∀ H', Nx H' → ∃ m', m' < m ∧ W (i + 1) m' H') ∧ ∀ v H', (Its x).yld i H v H' → g v (wipe σ vs) H' fun σ2 H2 => wipe σ2 vs = wipe σ vs ∧ tt σ2 H2 fun b H3 =>
        if b = true then te σ2 H3 fun y H4 => ∃ acc, H4 D = some (.lst acc) ∧ acc.length < sizeLine ∧ Nx (upd H4 D (.lst (acc ++ [y]))) else Nx H3) := by
  refine ⟨fun i m H => m + i = x.cps.size ∧ Pv i H, ⟨x.cps.size, by omega, h0⟩, ?_⟩
  rintro i m H ⟨hm, p⟩
  by_cases hlt : i < x.cps.size
  · refine .inr ⟨hlt, Pv (i + 1), fun H' p' => ⟨x.cps.size - (i + 1), by omega, by omega, p'⟩, fun v H' y => ?_⟩
    obtain ⟨e, c, hc, rfl⟩ := y
    subst e
    exact hs i c _ (by rw [Array.getElem?_toList]; exact hc) p
  · have e : i = x.cps.size := by omega
    subst e
    exact .inl ⟨Nat.le_refl _, hd H p⟩
def spName : Sp := fun vs H Q _ => ∃ v, vs = [v] ∧ Dat H v ∧ ∀ H', Same H H' → Q (.bl (nameV v)) H'
theorem sc3 : FnScope ["value", "letter"] ["value"] (defScope (top 3)) := ⟨rfl, rfl, rfl, by decide +kernel, rfl, by decide +kernel, by decide +kernel⟩
theorem ok3 {f : Addr} {fd : FuncData} (F : Fun K "is_name" "is_name" (top 3) f fd) (B : Blt mg) : FnOk P w K mg base CX0 1 f fd ["value"] spName := by
  refine F.ok sc3 (fun vs H Q E h => ?_) (fun cdv A outer s H vs Q E hr h => ?_)
  · obtain ⟨v, rfl, _⟩ := h
    rfl
  · obtain ⟨v, rfl, d, k⟩ := h
    refine ⟨_, pss_cons (ps_if (PW.pt (pw_or (pt_not (pt_val (pt_isi B (pv 0) B.str PyProof.Rows.boot_str))) (pw_or1 (pt_not (pt_chain op_le op_le pe_int (pe_callB call_len_str rfl B.len PySem.boot_len (pa_cons (pv 0) pa_nil)) pe_int))))) (pss_one (ps_ret pe_bl)) pss_nil)
      (pss_one (ps_ret (pe_callB (cr_all rfl) rfl B.all PyProof.Rows.boot_all (pa_cons (pe_lc (own := [("letter", 1)]) (g := gName 1) (tt := tYes) rfl sc3.nd (pi_str (pv 0)) (blkOk_by (N := ["value", "letter"]) (sc := defScope (top 3)) (by decide +kernel))
        (fun _ _ _ _ _ => pg_name (i := 1) sc3.nd rfl (Or.inl rfl)) (fun _ _ _ _ _ => pts_nil) (fun _ _ _ _ _ => pe_chain op_le_str op_le_str pe_str (pv 1) pe_str)) pa_nil)))), ?_⟩
    refine isi_rd rfl (ans_str d) ⟨_, rfl, ?_⟩
    cases d with
    | str s hso =>
      have hs := hso.1
      refine iteF ?_
      have hz : s.length ≤ sizeLine := by rw [sizeLine_eq]; omega
      have en : nameV (.str s) = ((decide ((1 : Int) ≤ (s.length : Int)) && decide ((s.length : Int) ≤ 8)) && s.cps.toList.all letterV) := by
        show nameS s = _
        unfold nameS
        congr 2 <;> (rw [Bool.eq_iff_iff]; simp; try omega)
      refine ⟨_, rfl, s, rfl, hz, _, _, rfl, rfl, _, rfl, ?_⟩
      refine ite2 (fun c1 => ?_) (fun c1 => ?_)
      · refine ⟨_, _, rfl, rfl, _, rfl, ?_⟩
        refine ite2 (fun c2 => ?_) (fun c2 => ?_)
        · have c2' : decide ((s.length : Int) ≤ 8) = false := by
            cases z : decide ((s.length : Int) ≤ 8) with
            | false => rfl
            | true => rw [z] at c2; exact absurd c2 (by decide)
          rw [c2', Bool.and_false, Bool.false_and] at en
          rw [en] at k
          exact k _ (Same.refl _)
        · have c2' : decide ((s.length : Int) ≤ 8) = true := by
            cases z : decide ((s.length : Int) ≤ 8) with
            | true => rfl
            | false => rw [z] at c2; exact absurd rfl c2
          rw [c1, c2', Bool.and_true, Bool.true_and] at en
          refine ⟨_, rfl, s, rfl, fun D hD => ?_⟩
          have low : ∀ c : Nat, letterV c = (!decide (([c] : List Nat) < [97]) && !decide (([122] : List Nat) < [c])) := fun c => by rw [le_one, le_one]; rfl
          refine lc_str (x := s) (fun i H1 => Same H H1 ∧ H1 D = some (.lst ((s.cps.toList.take i).map fun c => V.bl (letterV c)))) ⟨fun b o e => by rw [upd_ne (ne_of_none e hD)]; exact e, by rw [upd_same]; rfl⟩ ?_ ?_
          · rintro i c H1 hc ⟨s1, e1⟩
            refine ⟨rfl, ?_⟩
            unfold tYes
            dsimp only
            rw [if_pos rfl]
            have fin : ∀ b : Bool, b = letterV c → ∃ acc, H1 D = some (.lst acc) ∧ acc.length < sizeLine ∧ (Same H (upd H1 D (.lst (acc ++ [V.bl b]))) ∧ (upd H1 D (.lst (acc ++ [V.bl b]))) D = some (.lst ((s.cps.toList.take (i + 1)).map fun c => V.bl (letterV c)))) := fun b hb => by
              refine ⟨_, e1, ?_, fun b o e => ?_, ?_⟩
              · rw [List.length_map, List.length_take]
                have hl : s.cps.toList.length = s.length := rfl
                rw [sizeLine_eq]; omega
              · rw [upd_ne (ne_of_none e hD)]
                exact s1 b o e
              · rw [upd_same, start_drop _ _ _ hc, List.map_append, hb]
                rfl
            refine ⟨_, rfl, _, _, rfl, rfl, _, rfl, ?_⟩
            refine ite2 (fun d1 => ?_) (fun d1 => ?_)
            · refine ⟨_, _, rfl, rfl, ?_⟩
              refine fin _ ?_
              rw [low, show (!decide (([c] : List Nat) < [97])) = true from d1, Bool.true_and]
              rfl
            · refine fin false ?_
              rw [low, show (!decide (([c] : List Nat) < [97])) = false from Bool.eq_false_iff.mpr d1, Bool.false_and]
          · rintro H1 ⟨s1, e1⟩
            refine ⟨D, s.cps.toList.map letterV, rfl, SqL.of (by rw [e1, List.take_of_length_le (by simp), List.map_map]; rfl), ?_⟩
            rw [en, show s.cps.toList.all letterV = (s.cps.toList.map letterV).all id by rw [List.all_map]; rfl] at k
            exact k _ s1
      · refine ⟨_, rfl, ?_⟩
        refine iteT ?_
        rw [Bool.eq_false_iff.mpr c1] at en
        rw [en] at k
        exact k _ (Same.refl _)
    | _ =>
      refine iteT ?_
      refine iteT ?_
      exact k _ (Same.refl _)
end
end K1

set_option Elab.async false
set_option linter.all false
set_option maxRecDepth 100000
set_option maxHeartbeats 4000000
namespace K1
open PySem L2
/-- for i, x in enumerate(xs) -/
theorem for_enum {K : PySem.W.Frag} {a : Addr} {xs : List V} {g : TG} {tb : TS} {D : Ends} {σ : St} {H : Hp} (Pv : Nat → St → Hp → Prop) (h0 : Pv 0 σ H) (hl : ∀ i σ H, i ≤ xs.length → Pv i σ H → SqL K H a xs)
    (hs : ∀ i x σ H T, xs[i]? = some x → Pv i σ H → H T = none → g (.ref T) σ (upd H T (.tup [.int (i : Nat), x])) fun σ2 H2 => tb { D with nx := Pv (i + 1), ct := Pv (i + 1), bk := D.nx } σ2 H2) (hd : ∀ σ H, Pv xs.length σ H → D.nx σ H) :
    ∃ W : Nat → Nat → St → Hp → Prop, (∃ m, W 0 m σ H) ∧ ∀ i m σ H, W i m σ H →
      ((Ite K a).stop i H ∧ D.nx σ H) ∨ ((Ite K a).go i H ∧ ∃ N : St → Hp → Prop, (∀ σ' H', N σ' H' → ∃ m', m' < m ∧ W (i + 1) m' σ' H') ∧ ∀ x H', (Ite K a).yld i H x H' → g x σ H' fun σ2 H2 => tb { D with nx := N, ct := N, bk := D.nx } σ2 H2) := by
  refine ⟨fun i m σ H => m + i = xs.length ∧ Pv i σ H, ⟨xs.length, by omega, h0⟩, ?_⟩
  rintro i m σ H ⟨hm, p⟩
  have q := hl i σ H (by omega) p
  by_cases hlt : i < xs.length
  · have hx : xs[i]? = some xs[i] := List.getElem?_eq_getElem hlt
    refine .inr ⟨⟨xs, xs[i], q, hx⟩, Pv (i + 1), fun σ' H' p' => ⟨xs.length - (i + 1), by omega, by omega, p'⟩, fun v H' y => ?_⟩
    obtain ⟨T, x, rfl, hT, rfl, hq⟩ := y
    exact hs i x σ H T (hq xs q) p hT
  · have e : i = xs.length := by omega
    subst e
    exact .inl ⟨⟨xs, q, Nat.le_refl _⟩, hd σ H p⟩
/-- a pair is taken apart into two slots -/
theorem pair_rd {K : PySem.W.Frag} {i j : Nat} {T : Addr} {x y : V} {σ : St} {H : Hp} {Q : St → Hp → Prop} (h : Q ((σ.set i (some x)).set j (some y)) (upd H T (.tup [x, y]))) : gTup K 2 (gCons (gName i) (gCons (gName j) gNil)) (.ref T) σ (upd H T (.tup [x, y])) Q := by
  refine ⟨T, [x, y], rfl, SqT.of upd_same, rfl, ?_⟩
  exact ⟨x, [y], rfl, y, [], rfl, rfl, h⟩
theorem same_new {H H1 : Hp} {T : Addr} {o : HO} (s : Same H H1) (h : H1 T = none) : Same H (upd H1 T o) := fun b u e => by
  rw [upd_ne (ne_of_none (s b u e) h)]
  exact s b u e
/-! ### names seen -/
def keysOf (ss : List Str) : List (Key × V) := ss.map fun s => ((Sum.inr s : Key), V.bl true)
theorem keysOf_val (ss : List Str) (s : Str) : (valV (keysOf ss) (Sum.inr s : Key)).isSome = ss.contains s := by
  induction ss with
  | nil => rfl
  | cons a r ih =>
    rw [List.contains_cons]
    by_cases e : a = s
    · subst e
      rw [show keysOf (a :: r) = ((Sum.inr a : Key), V.bl true) :: keysOf r from rfl, valV_pos rfl]
      simp
    · have e1 : valV (keysOf (a :: r)) (Sum.inr s : Key) = valV (keysOf r) (Sum.inr s : Key) := by
        show valV (((Sum.inr a : Key), V.bl true) :: keysOf r) (Sum.inr s : Key) = _
        unfold valV
        rw [List.find?_cons, show decide (((Sum.inr a : Key), V.bl true).1 = (Sum.inr s : Key)) = false from decide_eq_false fun z => e (Sum.inr.inj z)]
      rw [e1, ih, show (s == a) = false from by simpa using fun z => e z.symm, Bool.false_or]
theorem keysOf_put (ss : List Str) (s : Str) (h : ss.contains s = false) : putK (keysOf ss) (Sum.inr s : Key) (V.bl true) = keysOf (ss ++ [s]) := by
  have e : valV (keysOf ss) (Sum.inr s : Key) = none := by
    have z := keysOf_val ss s
    rw [h] at z
    cases q : valV (keysOf ss) (Sum.inr s : Key) with
    | none => rfl
    | some v => rw [q] at z; cases z
  rw [putK_new _ e]
  unfold keysOf
  rw [List.map_append]
  rfl
theorem inV_str (s : Str) (ss : List Str) : inV (.str s) (ss.map V.str) = ss.contains s := by
  unfold inV
  induction ss with
  | nil => rfl
  | cons a r ih =>
    rw [List.map_cons, List.any_cons, ih, List.contains_cons]
    congr 1
    show (a == s) = (s == a)
    rw [Bool.eq_iff_iff, beq_iff_eq, beq_iff_eq]
    exact ⟨Eq.symm, Eq.symm⟩
theorem flat_str (ss : List Str) : (ss.map V.str).all flatV = true := by
  rw [List.all_map, List.all_eq_true]
  intro s _
  rfl
/-! ### first_bad_name -/
def badFrom (bar : List Str) : List V → List Str → Nat → Option Nat
  | [], _, _ => none
  | .str s :: r, seen, i => if (nameS s && !seen.contains s && !bar.contains s) = true then badFrom bar r (seen ++ [s]) (i + 1) else some i
  | _ :: _, _, i => some i
def optV : Option Nat → V | none => .non | some i => .int (i : Nat)
def firstBad (H : Hp) (v : V) (most : Int) (bar : List Str) : V := match lstOf H v with
  | none => .int (-1)
  | some xs => if (most : Int) < (xs.length : Int) then .int (-1) else optV (badFrom bar xs [] 0)
theorem badFrom_no {bar seen : List Str} {v : V} {r : List V} {i : Nat} (h : nameV v = false) : badFrom bar (v :: r) seen i = some i := by
  cases v with
  | str s =>
    have h' : nameS s = false := h
    show (if (nameS s && !seen.contains s && !bar.contains s) = true then _ else some i) = some i
    rw [h', if_neg (by simp)]
  | _ => rfl
theorem badFrom_str {bar seen : List Str} {s : Str} {r : List V} {i : Nat} : badFrom bar (.str s :: r) seen i = if (nameS s && !seen.contains s && !bar.contains s) = true then badFrom bar r (seen ++ [s]) (i + 1) else some i := rfl
theorem nameV_is {v : V} (h : nameV v = true) : ∃ s, v = .str s ∧ nameS s = true := by
  cases v with
  | str s => exact ⟨s, rfl, h⟩
  | _ => cases h
section
variable {P : Program} {w : World} {K : PySem.W.Frag} {mg : Str → Option Value} {base : Heap}
def spFirst : Sp := fun vs H Q _ => ∃ (v : V) (most : Int) (b : Addr) (bar : List Str), vs = [v, .int most, .ref b] ∧ Dat H v ∧ H b = some (.lst (bar.map V.str)) ∧ most ≤ 100 ∧ ∀ H', Same H H' → Q (firstBad H v most bar) H'
theorem sc25 : FnScope ["value", "most", "barred", "seen", "index", "name"] ["value", "most", "barred"] (defScope (top 25)) := ⟨rfl, rfl, rfl, by decide +kernel, rfl, by decide +kernel, by decide +kernel⟩
theorem ok25 {f : Addr} {fd : FuncData} (F : Fun K "first_bad_name" "first_bad_name" (top 25) f fd) (B : Blt mg) (C3 : Cal P w K mg base CX0 1 "is_name" ["value"] spName) : FnOk P w K mg base CX0 2 f fd ["value", "most", "barred"] spFirst := by
  refine F.ok sc25 (fun vs H Q E h => ?_) (fun cdv A outer s H vs Q E hr h => ?_)
  · obtain ⟨v, most, b, bar, rfl, _⟩ := h
    rfl
  · obtain ⟨v, most, b, bar, rfl, d, hb, hm, k⟩ := h
    have hu := hu_of hr
    refine ⟨_, pss_cons (ps_if (PW.pt (pw_or (pt_not (pt_val (pt_isi B (pv 0) B.list PyProof.Rows.boot_list))) (pw_or1 (pt_cmpR op_gt (pe_callB call_len_seq rfl B.len PySem.boot_len (pa_cons (pv 0) pa_nil)) (pv 1) (nomark _))))) (pss_one (ps_ret (pe_un un_neg pe_int))) pss_nil)
      (pss_cons (ps_set (i := 3) sc25.nd rfl (Or.inl rfl) pe_dnewK)
      (pss_cons (ps_for PassesOwn.never rfl (pi_enum rfl B.enumerate (pa_cons (pv 0) pa_nil)) (pg_tup rfl (pgs_cons (pg_name (i := 4) sc25.nd rfl (Or.inl rfl)) (pgs_cons (pg_name (i := 5) sc25.nd rfl (Or.inl rfl)) pgs_nil)))
        (pss_cons (ps_if (PW.pt (pw_or (pt_not (pt_val (pe_cal C3 hr (by decide) pass0 (pa_cons (pv 5) pa_nil)))) (pw_or (pt_cmp (pc_din hu (pv 5) (pv 3))) (pw_or1 (pt_cmpR op_in_seq (pv 5) (pv 2) rfl))))) (pss_one (ps_ret (pv 4))) pss_nil)
          (pss_one (ps_dput hu (pv 3) (pv 5) pe_bl rfl))))
      (pss_one (ps_ret pe_non)))), ?_⟩
    refine isi_rd rfl (ans_list d) ⟨_, rfl, ?_⟩
    cases hl : lstOf H v with
    | none =>
      have e : firstBad H v most bar = .int (-1) := by unfold firstBad; rw [hl]
      rw [e] at k
      refine iteT ?_
      refine iteT ?_
      exact ⟨_, rfl, k _ (Same.refl _)⟩
    | some xs =>
      obtain ⟨a, rfl, ha⟩ := lstOf_some hl
      refine iteF ?_
      refine ⟨_, rfl, a, xs, rfl, .inl (SqL.of ha), _, rfl, _, _, rfl, rfl, _, rfl, ?_⟩
      have e : firstBad H (.ref a) most bar = if (most : Int) < (xs.length : Int) then .int (-1) else optV (badFrom bar xs [] 0) := by unfold firstBad; rw [hl]
      rw [e] at k
      refine ite2 (fun c => ?_) (fun c => ?_)
      · rw [if_pos (of_decide_eq_true c)] at k
        exact ⟨_, rfl, k _ (Same.refl _)⟩
      · rw [if_neg (fun z => c (decide_eq_true z))] at k
        have hlen : xs.length ≤ 100 := by
          have z : ¬ (most : Int) < (xs.length : Int) := fun z => c (decide_eq_true z)
          omega
        have di := d.items ha
        intro D hD
        refine ⟨_, rfl, a, xs, rfl, SqL.of (by rw [upd_ne (ne_of_none ha hD)]; exact ha), ?_⟩
        refine for_enum (fun i σ H1 => ∃ (ss : List Str) (v4 v5 : Option V), σ = [some (.ref a), some (.int most), some (.ref b), some (.ref D), v4, v5] ∧ Same H H1 ∧ H1 D = some (.dK (keysOf ss)) ∧ xs.take i = ss.map V.str ∧ ss.length = i ∧ i ≤ xs.length ∧ badFrom bar xs [] 0 = badFrom bar (xs.drop i) ss i)
          ⟨[], none, none, rfl, fun b o e => by rw [upd_ne (ne_of_none e hD)]; exact e, upd_same, rfl, rfl, Nat.zero_le _, rfl⟩ (fun i σ H1 _ ⟨_, _, _, _, s1, _⟩ => SqL.of (s1 _ _ ha)) ?_ ?_
        · rintro i x σ H1 T hx ⟨ss, v4, v5, rfl, s1, hD1, ht, hsl, hi, hbad⟩ hT
          refine pair_rd ?_
          have s2 : Same H (upd H1 T (.tup [.int (i : Nat), x])) := same_new s1 hT
          have hd2 : Dat (upd H1 T (.tup [.int (i : Nat), x])) x := (di x (List.mem_of_getElem? hx)).mono s2
          have hdr : xs.drop i = x :: xs.drop (i + 1) := by
            obtain ⟨h1, h2⟩ := List.getElem?_eq_some_iff.mp hx
            rw [List.drop_eq_getElem_cons h1, h2]
          rw [hdr] at hbad
          refine ⟨_, rfl, x, rfl, hd2, fun H3 s3 => ⟨_, rfl, ?_⟩⟩
          have s4 := s2.trans s3
          cases hn : nameV x with
          | false =>
            rw [badFrom_no hn] at hbad
            refine iteT ?_
            refine iteT ?_
            rw [hbad] at k
            exact ⟨_, rfl, k _ s4⟩
          | true =>
            obtain ⟨z, rfl, hz⟩ := nameV_is hn
            refine iteF ?_
            have hD3 : H3 D = some (.dK (keysOf ss)) := s3 _ _ (by rw [upd_ne (ne_of_none hD1 hT)]; exact hD1)
            refine ⟨_, rfl, _, rfl, D, _, rfl, DGet.k (k := Sum.inr z) hD3, _, rfl, ?_⟩
            rw [keysOf_val]
            rw [badFrom_str, hz, Bool.true_and] at hbad
            cases hc : ss.contains z with
            | true =>
              rw [hc] at hbad
              refine iteT ?_
              refine iteT ?_
              rw [if_neg (by simp)] at hbad
              rw [hbad] at k
              exact ⟨_, rfl, k _ s4⟩
            | false =>
              rw [hc] at hbad
              refine iteF ?_
              refine ⟨_, rfl, _, rfl, b, _, rfl, .inl (SqL.of (s4 _ _ hb)), rfl, flat_str _, _, rfl, ?_⟩
              rw [if_neg (show ¬ (false = true) from Bool.false_ne_true), inV_str]
              cases hc2 : bar.contains z with
              | true =>
                rw [hc2, if_neg (by simp)] at hbad
                refine iteT ?_
                rw [hbad] at k
                exact ⟨_, rfl, k _ s4⟩
              | false =>
                rw [hc2, if_pos (by simp)] at hbad
                refine iteF ?_
                refine ⟨_, rfl, _, rfl, D, _, rfl, DPut.k (k := Sum.inr z) hD3 (by unfold keysOf; rw [List.length_map, sizeLine_eq]; omega), ?_⟩
                refine ⟨ss ++ [z], _, _, rfl, fun c o e => ?_, ?_, ?_, ?_, ?_, hbad⟩
                · rw [upd_ne (ne_of_none e hD)]
                  exact s4 c o e
                · rw [upd_same, keysOf_put _ _ hc]
                · rw [start_drop _ _ _ hx, ht, List.map_append]
                  rfl
                · rw [List.length_append, hsl]; rfl
                · exact (List.getElem?_eq_some_iff.mp hx).1
        · rintro σ H1 ⟨ss, v4, v5, rfl, s1, hD1, ht, hsl, hi, hbad⟩
          rw [List.drop_eq_nil_of_le (Nat.le_refl _)] at hbad
          rw [hbad] at k
          exact k _ s1
end
end K1

set_option Elab.async false
set_option linter.all false
set_option maxRecDepth 100000
set_option maxHeartbeats 4000000
/-! own exceptions over ArithmeticError with an __init__ of their own -/
namespace PySem
namespace K1X
open PySem.W PySem.Calls PyProof.Rows PySem.HandSPX
abbrev tailA : List Value := [.type "ArithmeticError", .type "Exception", .type "BaseException", .type "object"]
/-- one own class between, then ArithmeticError's line -/
def LineA (bm : List Value) : Prop := ∃ R : Addr, bm = .ref R :: tailA
theorem LineA.has {bm : List Value} (l : LineA bm) (T : String) : bm.contains (.type T) = tailA.contains (.type T) := by
  obtain ⟨R, rfl⟩ := l
  rw [List.contains_cons, show (Value.type T == Value.ref R) = false from rfl, Bool.false_or]
theorem LineA.free {bm : List Value} (l : LineA bm) (self : Value) (C : Addr) : refuseLoop self "__setattr__" (.ref C :: bm) = pure () := by
  obtain ⟨R, rfl⟩ := l
  rw [refuseLoop_ref, refuseLoop_ref]
  exact PySem.F.store_ArithmeticError.passes self
section
open Builtin Builtin.ObjectAttr
variable {pg : Program} {wd : World} {Ar : Around} {Er : Value → Shared → Prop} {Rs : Result → Shared → Prop} {h0 : Heap} {gs : Array GenState} {dr : Drawn} {tk0 : Nat} {oss : OsState}
/-- a store by object.__setattr__ on such an exception comes to the store in its own dict -/
theorem own_store {Kf : Frag} {nm : Str} {tk : Tok} {v : Value} {x C : Addr} {ob : Obj} {odd : Option Obj} {cd : ClassData} {bm : List Value} (X : Kf.In h0) (J : InstAt h0 x ob C odd) (hcd : clsIn Kf C = some cd) (hm : cd.mro = .ref C :: bm) (l : LineA bm)
    (ha : findIn Kf (.ref C) nm = some none)
    (q : ∀ (A2 : Around) (E2 : Value → Shared → Prop) (Q2 : Fin → Shared → Prop), (∀ s2, Rs (.ok (.ret .none)) s2 → Q2 (.done (.ret .none)) s2) → wpAny (model pg wd) A2 (storeInOwnDict (.ref x) (.ref C) (.str nm tk) nm v false) Q2 E2 ⟨h0, gs, dr, tk0, oss⟩) :
    codeAny (model pg wd) Ar (.call (.builtin "object.__setattr__") ⟨[.ref x, .str nm tk, v], []⟩) Rs ⟨h0, gs, dr, tk0, oss⟩ := by
  have ST := PySem.F.store_object
  have one : cd.mro.isEmpty = false := by
    rw [hm]
    rfl
  have obj : cd.mro.contains (.type "object") = true := by
    rw [hm, List.contains_cons, l.has, show (Value.type "object" == Value.ref C) = false from rfl, Bool.false_or]
    decide +kernel
  have below : Looks (model pg wd) h0 (isInstance (.ref x) (.type "object")) true :=
    J.type.andThen (looks_mroIn X (by
      unfold mroIn
      rw [hcd, Option.bind_some, if_neg (by rw [one]; decide), obj]))
  refine codeAny_call_builtin ST.slot.plain ST.entry ?_
  refine @check_slot (model pg wd) _ _ ⟨h0, gs, dr, tk0, oss⟩ "object.__setattr__" "object" "__setattr__" (.ref x) [.str nm tk, v] [] _ ST.kind ST.split below (ST.args (.ref x) (.str nm tk) v) ?_
  have line : Looks (model pg wd) h0 (mroOf (.ref C)) cd.mro := (looks_clsIn X hcd).andThen .now
  have none' : Looks (model pg wd) h0 (storeTaker? none) none := .now
  rw [osa_eq, refuse_eq]
  refine wpAny_bind (wpAny_bind (J.type.at ?_))
  refine wpAny_bind (line.at ?_)
  rw [hm, l.free]
  refine wpAny_pure (wpAny_bind (J.type.at ?_))
  refine wpAny_bind ((looks_findIn X ha).at ?_)
  refine wpAny_bind (none'.at ?_)
  exact q _ _ _ fun _ z => z
theorem put_more {Md : Model} {dx : Addr} {nm : Str} {tk : Tok} {v : Value} {m0 : Str → Option Value} {ns : List Str} {Q : Fin → Shared → Prop} (sp : h0.Ns1 dx m0) (inn : Within m0 ns) (few : ns.length ≤ 1000)
    (q : ∀ h1 tk1, h1.Ns1 dx (fun y => if y = nm then some v else m0 y) → Heap.SameBut dx h0 h1 → Q (.done (.ret .none)) ⟨h1, gs, dr, tk1, oss⟩) :
    wpAny Md Ar (storeInDict dx (.str nm tk) nm v) Q Er ⟨h0, gs, dr, tk0, oss⟩ := by
  unfold storeInDict newKeyGuard
  refine wpAny_bind (wpAny_pure (wpAny_bind ?_))
  refine wpAny_nsSet1 sp fun h1 sp1 sb => ?_
  obtain ⟨oD, esD, epD, hoD, hdD, hcD⟩ := sp1.count (Within.cons nm v inn)
  have small : esD.size ≤ sizeLine + 1 := by
    have z : (nm :: ns).length ≤ 1001 := by rw [List.length_cons]; omega
    rw [sizeLine_eq]
    omega
  refine wpAny_bind (wpAny_lookBehind hoD ?_ ?_)
  · rw [hdD]
    exact pastItsLine_dict small
  · wp_walk
    exact q h1 _ sp1 sb
/-- its first field: the dict is made -/
theorem set_first {Kf : Frag} {nm : Str} {tk : Tok} {v : Value} {x C : Addr} {fv : Array Value} {cd : ClassData} {bm : List Value} (X : Kf.In h0) (hx : h0.get? x = some { cls := .ref C, data := .fields fv }) (hcd : clsIn Kf C = some cd) (hm : cd.mro = .ref C :: bm) (l : LineA bm)
    (hh : cd.hasDict = true) (ha : findIn Kf (.ref C) nm = some none)
    (hq : ∀ h1 tk1 dx, (∀ b o, b ≠ x → h0.get? b = some o → h1.get? b = some o) → h0.objs.size ≤ dx → dx ≠ x → h1.get? x = some { cls := .ref C, dict := some dx, data := .fields fv } →
      h1.Ns1 dx (fun y => if y = nm then some v else none) → Rs (.ok (.ret .none)) ⟨h1, gs, dr, tk1, oss⟩) :
    codeAny (model pg wd) Ar (.call (.builtin "object.__setattr__") ⟨[.ref x, .str nm tk, v], []⟩) Rs ⟨h0, gs, dr, tk0, oss⟩ := by
  have J : InstAt h0 x { cls := .ref C, data := .fields fv } C none := ⟨hx, rfl, rfl, trivial⟩
  have ap : x ≠ h0.objs.size := Nat.ne_of_lt (Heap.lt_size hx)
  refine own_store X J hcd hm l ha fun A2 E2 Q2 hQ => ?_
  have cls : Looks (model pg wd) h0 (classData C) cd := looks_clsIn X hcd
  obtain ⟨n1, n2, n3, n4, n5, n6, n7, n8, n9, n10, n11⟩ := cd
  dsimp only at hh
  subst hh
  unfold storeInOwnDict ownDictForStores
  repeat (first | with_reducible refine store_in_new ?_ ?_ | with_reducible refine wpAny_loadPart_at hx ?_ | with_reducible refine cls.at ?_ | wp_step)
  · exact ⟨_, #[], _,
      ((Heap.get?_update_ne _ _ _ _ ap.symm).trans (Heap.get?_push_at rfl rfl)),
      rfl, fun e he => absurd he (by simp), fun _ => rfl⟩
  · intro h1 tk1 sp1 sb
    have up : (h0.push { cls := .type "dict", data := .dict #[] }).get? x = some { cls := .ref C, data := .fields fv } := Heap.get?_push_of_some _ hx
    refine hQ _ (hq h1 tk1 h0.objs.size (fun b o nb ob => ?_) (Nat.le_refl _) ap.symm ?_ sp1)
    · have nb2 : b ≠ h0.objs.size := Nat.ne_of_lt (Heap.lt_size ob)
      exact (sb.2 b nb2).trans ((Heap.get?_update_ne _ _ _ _ nb).trans (Heap.get?_push_of_some _ ob))
    · exact (sb.2 x ap).trans (Heap.get?_update_self _ up rfl)
/-- a further field -/
theorem set_next {Kf : Frag} {nm : Str} {tk : Tok} {v : Value} {x C dx : Addr} {fv : Array Value} {cd : ClassData} {bm : List Value} {m0 : Str → Option Value} {ns : List Str} (X : Kf.In h0) (hx : h0.get? x = some { cls := .ref C, dict := some dx, data := .fields fv })
    (sp : h0.Ns1 dx m0) (inn : Within m0 ns) (few : ns.length ≤ 1000) (hcd : clsIn Kf C = some cd) (hm : cd.mro = .ref C :: bm) (l : LineA bm) (hh : cd.hasDict = true) (ha : findIn Kf (.ref C) nm = some none)
    (hq : ∀ h1 tk1, (∀ b o, b ≠ dx → h0.get? b = some o → h1.get? b = some o) → h1.Ns1 dx (fun y => if y = nm then some v else m0 y) → Rs (.ok (.ret .none)) ⟨h1, gs, dr, tk1, oss⟩) :
    codeAny (model pg wd) Ar (.call (.builtin "object.__setattr__") ⟨[.ref x, .str nm tk, v], []⟩) Rs ⟨h0, gs, dr, tk0, oss⟩ := by
  obtain ⟨oD, esD, epD, hoD, hdD, _⟩ := sp.count inn
  have J : InstAt h0 x { cls := .ref C, dict := some dx, data := .fields fv } C (some oD) := ⟨hx, rfl, rfl, hoD⟩
  refine own_store X J hcd hm l ha fun A2 E2 Q2 hQ => ?_
  have cls : Looks (model pg wd) h0 (classData C) cd := looks_clsIn X hcd
  obtain ⟨n1, n2, n3, n4, n5, n6, n7, n8, n9, n10, n11⟩ := cd
  dsimp only at hh
  subst hh
  unfold storeInOwnDict ownDictForStores
  repeat (first | with_reducible refine put_more sp inn few ?_ | with_reducible refine wpAny_loadPart_at hx ?_ | with_reducible refine cls.at ?_ | wp_step)
  intro h1 tk1 sp1 sb
  exact hQ _ (hq h1 tk1 (fun b o nb ob => (sb.2 b nb).trans ob) sp1)
end
end K1X
end PySem
namespace L2
open PySem PySem.Spec PyProof.Rows PySem.K1X
/-- what the written part says of such a class -/
structure ExA (K : PySem.W.Frag) (C : Addr) : Prop where
  cls : ∃ nm q N bs bm sn sub ab col dd k0 k1 k2 k3 k5, K.lookup C = some (excClassObj nm q C N bs bm true sn sub ab col dd k0 k1 k2 k3 k5 "ArithmeticError.__new__") ∧ LineA bm
  sa : PySem.W.findIn K (.ref C) "__setattr__" = some (some (.builtin "object.__setattr__"))
  exC : PySem.W.subIn K (.ref C) (.type "BaseException") = some true
  tyC : PySem.W.typeIn K (.ref C) = some (.type "type")
  kC : PySem.W.keepIn K (.ref C) = true
section
variable {X : Cx} {pins : List (Addr × Obj)} {σ : St} {H : Hp} {s : Shared} {a C dx : Addr} {f : Str} {y : V} {u : Value} {fs : List (Str × V)} {Q : Unit → Shared → Prop} {E : Value → Shared → Prop} {A : Around}
/-- self.f = y, the first one -/
theorem ea_first (T : ExA X.K C) (I : Inv X pins σ H s) (e : H a = some (exo a C none)) (no : PySem.W.findIn X.K (.ref C) f = some none) (ry : RelV y u)
    (h : ∀ dx s', H dx = none → dx ≠ a → Inv X pins σ (upd (upd H dx (exd dx [(f, y)])) a (exo a C (some dx))) s' → Q () s') : wpAny (model X.prog X.w) A (setAttr (.ref a) f u) Q E s := by
  obtain ⟨nm, q, N, bs, bm, sn, sub, ab, col, dd, k0, k1, k2, k3, k5, hC, line⟩ := T.cls
  have there : PySem.W.clsIn X.K C = some { name := nm, bases := bs, mro := .ref C :: bm, ns := N, qualname := q, hasDict := true, slotNames := sn, subclasses := sub, abstract := ab, collection := col, hasDel := false } := by
    unfold PySem.W.clsIn
    rw [hC] <;> rfl
  obtain ⟨t1, ho⟩ := exo_at I.hok e
  obtain ⟨hp, g, d, t, os⟩ := s
  refine PySem.W.set_plain I.kIn (ox := { cls := .ref C, dict := none, data := .fields #[.ref t1, .none, .none, .none, .bool false, .none] }) (od := none) ⟨ho, rfl, rfl, trivial⟩ T.sa ?_
  refine set_first I.kIn ho there rfl line rfl no fun h1 tk1 dx kp dn dne hx sp => ?_
  have fresh : H dx = none := I.hok.fresh dn
  have old : ∀ {b : Addr} {o : Obj}, hp.get? b = some o → b ≠ dx := fun {b o} z => Nat.ne_of_lt (Nat.lt_of_lt_of_le (Heap.lt_size z) dn)
  have other : ∀ {b : Addr}, H b = none → b ≠ a := fun {b} n z => by
    rw [z, e] at n
    cases n
  have un : Un X.fs [] H (upd (upd H dx (exd dx [(f, y)])) a (exo a C (some dx))) hp h1 := {
    keep := fun b o z n _ _ => kp b o (other n) z
    slot := fun b o z n _ _ => ⟨o.slots, kp b o (other n) z⟩
    free := fun b o z n _ => by
      rw [upd_ne (other n), upd_ne (old z)]
      exact n
    there := fun b o z _ => by
      by_cases hb : b = a
      · exact ⟨_, by rw [hb]; exact hx⟩
      · exact ⟨o, kp b o hb z⟩
    tups := fun b xs z => by
      rw [upd_ne (at_ne e z exo_tup), upd_ne (ne_of_none z fresh)]
      exact z
    frzs := fun b o v z => by
      rw [upd_ne (at_ne e z exo_frz), upd_ne (ne_of_none z fresh)]
      exact z
    tbls := fun b ps z => ⟨#[], by
      rw [upd_ne (at_ne e z exo_tbl), upd_ne (ne_of_none z fresh), z]
      simp⟩ }
  refine h dx _ fresh dne (I.un (t' := tk1) un fun b o z => ?_)
  by_cases hb : b = a
  · subst hb
    rw [upd_same] at z
    cases z
    exact exo_ok hx
  · rw [upd_ne hb] at z
    by_cases hd : b = dx
    · subst hd
      rw [upd_same] at z
      cases z
      exact exd_ok sp (relO_put (fs := []) ry fun g => True.intro)
    · rw [upd_ne hd] at z
      refine (I.hok b o z).stay (fun c v hc r => kp c v ?_ r) (fun c hc => ?_) (fun c xs hc => ?_)
      · rcases hc with hc | hc
        · rw [hc]
          exact hb
        · exact at_ne e hc exo_own
      · rw [upd_ne (at_ne e hc exo_own), upd_ne (ne_of_none hc fresh)]
        exact hc
      · rw [upd_ne (at_ne e hc exo_tup), upd_ne (ne_of_none hc fresh)]
        exact hc
/-- self.f = y, a further one -/
theorem ea_next (T : ExA X.K C) (I : Inv X pins σ H s) (e : H a = some (exo a C (some dx))) (ed : H dx = some (exd dx fs)) (hl : fs.length ≤ 900) (no : PySem.W.findIn X.K (.ref C) f = some none) (ry : RelV y u)
    (h : ∀ s', Inv X pins σ (upd H dx (exd dx ((f, y) :: fs))) s' → Q () s') : wpAny (model X.prog X.w) A (setAttr (.ref a) f u) Q E s := by
  obtain ⟨nm, q, N, bs, bm, sn, sub, ab, col, dd, k0, k1, k2, k3, k5, hC, line⟩ := T.cls
  have there : PySem.W.clsIn X.K C = some { name := nm, bases := bs, mro := .ref C :: bm, ns := N, qualname := q, hasDict := true, slotNames := sn, subclasses := sub, abstract := ab, collection := col, hasDel := false } := by
    unfold PySem.W.clsIn
    rw [hC] <;> rfl
  obtain ⟨t1, ho⟩ := exo_at I.hok e
  obtain ⟨mA, sp, rel⟩ := exd_at I.hok ed
  have inn := within_of rel
  obtain ⟨hp, g, d, t, os⟩ := s
  obtain ⟨oD, _, _, hoD, _, _⟩ := sp.count inn
  refine PySem.W.set_plain I.kIn (ox := { cls := .ref C, dict := some dx, data := .fields #[.ref t1, .none, .none, .none, .bool false, .none] }) (od := some oD) ⟨ho, rfl, rfl, hoD⟩ T.sa ?_
  refine set_next I.kIn ho sp inn (by rw [List.length_map]; omega) there rfl line rfl no fun h1 tk1 kp sp1 => ?_
  have hd : ∃ o, h1.get? dx = some o := by
    obtain ⟨o, _, _, z, _⟩ := sp1
    exact ⟨o, z⟩
  refine h _ (I.write (t' := tk1) (x := dx) (e := dx) (o := exd dx ((f, y) :: fs)) ?_ (.inl rfl) kp hd (exd_ok sp1 (relO_put ry rel)))
  rw [ed]
  exact True.intro
end
/-- self.f = e within such an __init__ -/
def tEa (K : PySem.W.Frag) (f : Str) (to te : TE) : TS := fun D σ H => te σ H fun y H1 => to σ H1 fun x H2 => ∃ a C : Addr, x = .ref a ∧ ExA K C ∧ PySem.W.findIn K (.ref C) f = some none ∧
  ((H2 a = some (exo a C none) ∧ ∀ dx, H2 dx = none → dx ≠ a → D.nx σ (upd (upd H2 dx (exd dx [(f, y)])) a (exo a C (some dx)))) ∨
    ∃ (dx : Addr) (fs : List (Str × V)), H2 a = some (exo a C (some dx)) ∧ H2 dx = some (exd dx fs) ∧ fs.length ≤ 900 ∧ D.nx σ (upd H2 dx (exd dx ((f, y) :: fs))))
section
variable {X : Cx} {o e : Expr} {es : List Expr} {to te : TE} {ta : TA} {f : Str} {p p' p1 p2 pos : Pos}
theorem ps_ea (ho : PE X o to) (he : PE X e te) (sw : swapsWith e (some (.Attribute o f p')) pos.line X.env = pure false := by rfl) : PS X (.Assign [.Attribute o f p'] e pos) (tEa X.K f to te) := by
  refine ⟨fun pins s σ H D I h => ?_⟩
  refine plainObj_wpAny_Assign_Attribute ?_ sw
  refine thn (he.run pins s σ H _ I h) fun v s1 ⟨y, H1, I1, r1, q1⟩ => ?_
  refine thn (ho.run pins s1 σ H1 _ I1 q1) fun u s2 ⟨x, H2, I2, r2, a, C, ex, T, no, q⟩ => ?_
  subst ex
  obtain rfl : u = Value.ref a := r2
  rcases q with ⟨ea, q⟩ | ⟨dx, fs, ea, ed, hl, q⟩
  · exact ea_first T I2 ea no r1 fun dx s' n ne J => ⟨σ, _, J, q dx n ne⟩
  · exact ea_next T I2 ea ed hl no r1 fun s' J => ⟨σ, _, J, q⟩
/-- C(e, ..) of such a class, to be raised -/
theorem pmk_ea {CX : CXT} {x : Str} {C fI : Addr} {k : Nat} {fd : FuncData} {ps : List Str} {sp : Sp} {ds : List Value} {dvs : List V} (T : ExA X.K C) (iC : PySem.W.findIn X.K (.ref C) "__init__" = some (some (.ref fI))) (tI : PySem.W.typeIn X.K (.ref fI) = some (.type "function"))
    (F1 : FnOk X.prog X.w X.K X.mg X.base CX k fI fd ps sp) (hr : Room (k + 1) X.A) (hb : Binds X.K fd ps ds) (hd : Vals dvs ds) (hx : Passes CX X (fun _ _ _ => False)) (hg : Gl X x) (hm : X.mg x = some (.ref C)) (ha : PA X (e :: es) ta)
    (hdb : (x == ("__debug__" : Str)) = false := by decide) (he : starEach (e :: es) X.env = (false, eval e X.env) :: starEach es X.env := by rfl) (hpl : (backTo pos (starEach es X.env)).any (·.1) = false := by rfl) :
    PMk X (.Call (.Name x p) (e :: es) [] pos) (tMkO C sp dvs ta) := by
  intro pins s σ H Q I h
  obtain ⟨nm, q, N, bs, bm, sn, sub, ab, col, dd, k0, k1, k2, k3, k5, hC, line⟩ := T.cls
  refine wpAny_Call_Name_kw (ld_glob I hg hm ?_ hdb)
  refine PySem.W.callWith_K (h₀ := X.base) I.ok.mod.kin T.kC ?_ he hpl
  refine thn (ha.run pos pins s σ H _ I h) fun us s1 ⟨vs, H1, I1, r1, hz, q1⟩ => ⟨I1.kIn, ?_⟩
  show wpAny _ _ (call (.ref C) us) _ _ _
  obtain ⟨hp, g, dr, tk, os⟩ := s1
  have le1 : hp.objs.size ≤ hp.objs.size + 1 := Nat.le_succ _
  have free : H1 (hp.objs.size + 1) = none := I1.hok.fresh le1
  have ask := q1 (hp.objs.size + 1) free
  have stay : ∀ b o, hp.get? b = some o → ((hp.push (PySem.W.kdv_tup us)).push (PySem.HandSPX.excO C hp.objs.size)).get? b = some o := fun b o z => Heap.get?_push_of_some _ (Heap.get?_push_of_some _ z)
  have got : ((hp.push (PySem.W.kdv_tup us)).push (PySem.HandSPX.excO C hp.objs.size)).get? (hp.objs.size + 1) = some (PySem.HandSPX.excO C hp.objs.size) := by heap_get
  have I2 : Inv X pins σ (upd H1 (hp.objs.size + 1) (exo (hp.objs.size + 1) C none)) ⟨(hp.push (PySem.W.kdv_tup us)).push (PySem.HandSPX.excO C hp.objs.size), g, dr, tk, os⟩ := by
    refine I1.laid (t' := tk) (a := hp.objs.size + 1) (o := exo (hp.objs.size + 1) C none) ?_ le1 (exo_ok got)
    exact stay
  have r2 : Vals (V.ref (hp.objs.size + 1) :: (vs ++ dvs)) (Value.ref (hp.objs.size + 1) :: (us ++ ds)) := .cons rfl (r1.append hd)
  have len : (Value.ref (hp.objs.size + 1) :: us ++ ds).length = ps.length := by
    have z := r2.length
    rw [F1.len _ _ _ _ ask] at z
    exact z.symm
  have few : us.length ≤ sizeLine := by
    rw [← Paired.length r1, sizeLine_eq]
    omega
  refine wpAny_call ?_
  refine PySem.HandSPX.call_own F.excBase_ArithmeticError (fun Y => line.has Y) (I1.kIn _ _ hC) (PySem.W.looks_findIn I1.kIn iC) (fun self => PySem.W.bind_fn I1.kIn self tI) few ?_
  refine codeAny_mono (F1.run _ X.stack _ _ ⟨Value.ref (hp.objs.size + 1) :: us, []⟩ (Value.ref (hp.objs.size + 1) :: (us ++ ds)) _ _ (fun _ _ _ => False) (hr.make C us []) (I2.env0.make C us []) (hb _ (Value.ref (hp.objs.size + 1) :: us) I2.kIn len) r2 ask) fun r s' back => ?_
  cases r with
  | error er => exact hx pins σ _ _ er s' I2 back
  | ok fl =>
    cases fl with
    | ret u =>
      obtain ⟨v, H2, os2, bare2, un2, hok2, rv, ev, d, fs, ea, ed, hd1, q2⟩ := back
      subst ev
      obtain ⟨h2, g2, d2, t2, os'⟩ := s'
      exact ⟨rv, mk_end (raises_own T.exC T.tyC) I1 le1 stay un2 hok2 os2 bare2 ea ed hd1 q2⟩
    | next => exact False.elim back
    | brk => exact False.elim back
    | cont => exact False.elim back
end
end L2

set_option Elab.async false
set_option linter.all false
set_option maxRecDepth 100000
set_option maxHeartbeats 4000000
namespace K1
open PySem L2
theorem lstOf_same {H H' : Hp} {v : V} (d : Dat H v) (s : Same H H') : lstOf H' v = lstOf H v := by
  cases d with
  | lst e _ => rw [lstOf_of e, lstOf_of (s _ _ e)]
  | tup e _ => rw [lstOf_tup e, lstOf_tup (s _ _ e)]
  | dic e => rw [lstOf_dic e, lstOf_dic (s _ _ e)]
  | _ => rfl
theorem tupOf_same {H H' : Hp} {v : V} (d : Dat H v) (s : Same H H') : tupOf H' v = tupOf H v := by
  cases d with
  | lst e _ => rw [tupOf_lst e, tupOf_lst (s _ _ e)]
  | tup e _ => rw [tupOf_of e, tupOf_of (s _ _ e)]
  | dic e => rw [tupOf_dic e, tupOf_dic (s _ _ e)]
  | _ => rfl
theorem firstBad_same {H H' : Hp} {v : V} {most : Int} {bar : List Str} (d : Dat H v) (s : Same H H') : firstBad H' v most bar = firstBad H v most bar := by
  unfold firstBad
  rw [lstOf_same d s]
/-! ### raise InvalidProgram(part, at) -/
/-- what is wished where it leaves -/
def Rz (C : Addr) (H : Hp) (part at_ : V) (E : XK) : Prop := ∀ (d : Addr) (H' : Hp), Same H H' → H d = none → H' d = some (.xd [("at", at_), ("part", part)]) → E (.ref C) (some d) H'
theorem Rz.later {C : Addr} {H H1 : Hp} {part at_ : V} {E : XK} (r : Rz C H part at_ E) (s : Same H H1) : Rz C H1 part at_ E := fun d H' s' n e => r d H' (s.trans s') (s.free n) e
def spIP (C : Addr) : Sp := fun vs H Q _ => ∃ (a : Addr) (p q : V), vs = [.ref a, p, q] ∧ H a = some (exo a C none) ∧
  ∀ (dx : Addr) (H' : Hp), H dx = none → dx ≠ a → H' a = some (exo a C (some dx)) → H' dx = some (exd dx [("at", q), ("part", p)]) → (∀ b o, H b = some o → b ≠ a → H' b = some o) → Q .non H'
abbrev sIP : Stmt := inClass (top 7) 0
section
variable {P : Program} {w : World} {K : PySem.W.Frag} {mg : Str → Option Value} {base : Heap}
theorem scIP : FnScope ["self", "part", "at"] ["self", "part", "at"] (defScope sIP) := ⟨rfl, rfl, rfl, by decide +kernel, rfl, by decide +kernel, by decide +kernel⟩
theorem okIP {f C : Addr} {fd : FuncData} (F : Fun K "__init__" "InvalidProgram.__init__" sIP f fd) (T : ExA K C) (n1 : PySem.W.findIn K (.ref C) "part" = some none) (n2 : PySem.W.findIn K (.ref C) "at" = some none) : FnOk P w K mg base CX0 1 f fd ["self", "part", "at"] (spIP C) := by
  refine F.ok scIP (fun vs H Q E h => ?_) (fun cdv A outer s H vs Q E hr h => ?_)
  · obtain ⟨a, p, q, rfl, _⟩ := h
    rfl
  · obtain ⟨a, p, q, rfl, ha, k⟩ := h
    refine ⟨_, pss_cons (ps_ea (pv 0) (pv 1)) (pss_one (ps_ea (pv 0) (pv 2))), ?_⟩
    refine ⟨_, rfl, _, rfl, a, C, rfl, T, n1, .inl ⟨ha, fun dx hd na => ?_⟩⟩
    refine ⟨_, rfl, _, rfl, a, C, rfl, T, n2, .inr ⟨dx, _, upd_same, by rw [upd_ne na, upd_same], (by show 1 ≤ 900; decide), ?_⟩⟩
    refine k dx _ hd na ?_ upd_same fun b o e nb => ?_
    · rw [upd_ne na.symm, upd_same]
    · rw [upd_ne (ne_of_none e hd), upd_ne nb, upd_ne (ne_of_none e hd)]
      exact e
/-- the class as its raisers know it -/
structure Ipc (P : Program) (w : World) (K : PySem.W.Frag) (mg : Str → Option Value) (base : Heap) (C : Addr) : Prop where
  T : ExA K C
  ex : ∃ (f : Addr) (fd : FuncData), PySem.W.findIn K (.ref C) "__init__" = some (some (.ref f)) ∧ PySem.W.typeIn K (.ref f) = some (.type "function") ∧ FnOk P w K mg base CX0 1 f fd ["self", "part", "at"] (spIP C) ∧ Binds K fd ["self", "part", "at"] []
  g : mg "InvalidProgram" = some (.ref C)
end
section
variable {X : Cx} {W : WX} {C : Addr} {j : Nat} {e1 e2 : Expr} {t1 t2 : TE} {p pos pos2 : Pos}
def tRip (C : Addr) (W : WX) (t1 t2 : TE) : TS := fun _ σ H => tMkO C (spIP C) [] (tCons t1 (tCons t2 tNil)) σ H fun cls d H' => W cls d σ H'
theorem ps_rip (c : Ipc X.prog X.w X.K X.mg X.base C) (hc : X.calm = true) (tk : Takes X W) (hr : Room j X.A) (hj : 2 ≤ j) (h1 : PE X e1 t1) (h2 : PE X e2 t2) (hg : Gl X "InvalidProgram" := by rfl)
    (s1 : starEach [e1, e2] X.env = (false, eval e1 X.env) :: starEach [e2] X.env := by rfl) (s2 : starEach [e2] X.env = (false, eval e2 X.env) :: starEach [] X.env := by rfl) (hpl : (backTo pos (starEach [e2] X.env)).any (·.1) = false := by rfl) :
    PS X (.Raise (some (.Call (.Name "InvalidProgram" p) [e1, e2] [] pos)) none pos2) (tRip C W t1 t2) := by
  obtain ⟨f, fd, iC, tI, G, b⟩ := c.ex
  exact ps_raise hc tk (pmk_ea c.T iC tI G (hr.mono hj) b .nil pass0 hg c.g (pa_cons h1 (pa_cons h2 pa_nil s2) s1) (by decide) s1 hpl)
/-- its reading, behind the two arguments' -/
theorem rip_rd {H : Hp} {p q : V} {E : XK} (h : Rz C H p q E) : ([p, q] : List V).length ≤ 1000 ∧ ∀ a, H a = none → spIP C (.ref a :: ([p, q] ++ [])) (upd H a (exo a C none))
    (fun v H2 => v = .non ∧ ∃ (d : Addr) (fs : List (Str × V)), H2 a = some (exo a C (some d)) ∧ H2 d = some (exd d fs) ∧ H d = none ∧ E (.ref C) (some d) (upd (del H2 a) d (.xd fs))) (fun _ _ _ => False) := by
  refine ⟨(by show 2 ≤ 1000; decide), fun a ha => ⟨a, p, q, rfl, upd_same, fun dx H' n1 n2 e1 e2 kp => ?_⟩⟩
  have n0 : H dx = none := by
    rw [upd_ne n2] at n1
    exact n1
  refine ⟨rfl, dx, _, e1, e2, n0, h dx _ (fun b o z => ?_) n0 upd_same⟩
  rw [upd_ne (ne_of_none z n0), del_ne (ne_of_none z ha)]
  exact kp b o (by rw [upd_ne (ne_of_none z ha)]; exact z) (ne_of_none z ha)
end
/-! ### check_names -/
def namesAt (H : Hp) (v : V) (least most : Int) (bar : List Str) : V := match firstBad H v most bar with
  | .non => (match lstOf H v with | some xs => if (xs.length : Int) < least then .int (-1) else .non | none => .non)
  | x => x
theorem firstBad_kind {H : Hp} {v : V} {most : Int} {bar : List Str} : (firstBad H v most bar = .non ∧ ∃ xs, lstOf H v = some xs) ∨ ∃ i, firstBad H v most bar = .int i := by
  unfold firstBad
  cases h : lstOf H v with
  | none => exact .inr ⟨_, rfl⟩
  | some xs =>
    show ((if (most : Int) < (xs.length : Int) then V.int (-1) else optV (badFrom bar xs [] 0)) = .non ∧ _) ∨ ∃ i, (if (most : Int) < (xs.length : Int) then V.int (-1) else optV (badFrom bar xs [] 0)) = .int i
    by_cases c : (most : Int) < (xs.length : Int)
    · rw [if_pos c]
      exact .inr ⟨_, rfl⟩
    · rw [if_neg c]
      cases badFrom bar xs [] 0 with
      | none => exact .inl ⟨rfl, xs, rfl⟩
      | some i => exact .inr ⟨_, rfl⟩
section
variable {P : Program} {w : World} {K : PySem.W.Frag} {mg : Str → Option Value} {base : Heap} {C : Addr}
def spNames (C : Addr) : Sp := fun vs H Q E => ∃ (part : Str) (v : V) (least most : Int) (b : Addr) (bar : List Str), vs = [.str part, v, .int least, .int most, .ref b] ∧ Dat H v ∧ H b = some (.lst (bar.map V.str)) ∧ most ≤ 100 ∧
  (namesAt H v least most bar = .non → ∀ H', Same H H' → Q .non H') ∧ (namesAt H v least most bar ≠ .non → Rz C H (.str part) (namesAt H v least most bar) E)
theorem sc26 : FnScope ["part", "value", "least", "most", "barred", "at"] ["part", "value", "least", "most", "barred"] (defScope (top 26)) := ⟨rfl, rfl, rfl, by decide +kernel, rfl, by decide +kernel, by decide +kernel⟩
theorem ok26 {f : Addr} {fd : FuncData} (F : Fun K "check_names" "check_names" (top 26) f fd) (B : Blt mg) (IP : Ipc P w K mg base C) (C25 : Cal P w K mg base CX0 2 "first_bad_name" ["value", "most", "barred"] spFirst) : FnOk P w K mg base (L2.CX P w) 3 f fd ["part", "value", "least", "most", "barred"] (spNames C) := by
  refine F.okX sc26 (fun vs H Q E h => ?_) (fun cdv A outer s H vs Q E hr h => ?_)
  · obtain ⟨part, v, least, most, b, bar, rfl, _⟩ := h
    rfl
  · obtain ⟨part, v, least, most, b, bar, rfl, d, hb, hm, kn, ke⟩ := h
    refine ⟨_, pss_cons (ps_set (i := 5) sc26.nd rfl (Or.inl rfl) (pe_cal C25 hr (by decide) pass0 (pa_cons (pv 1) (pa_cons (pv 3) (pa_cons (pv 4) pa_nil)))))
      (pss_cons (ps_if (PW.pt (pw_and (pt_cmpR op_isN (pv 5) pe_non (nomark _)) (pw_and1 (pt_cmpR op_lt (pe_callB call_len_seq rfl B.len PySem.boot_len (pa_cons (pv 1) pa_nil)) (pv 2) (nomark _))))) (pss_one (ps_set (i := 5) sc26.nd rfl (Or.inl rfl) (pe_un un_neg pe_int))) pss_nil)
      (pss_one (ps_if (pt_cmpR op_notN (pv 5) pe_non (nomark _)) (pss_one (ps_rip IP rfl (takes_of rfl rfl rfl rfl) hr (by decide) (pv 0) (pv 5))) pss_nil))), ?_⟩
    refine ⟨_, rfl, _, rfl, _, rfl, v, most, b, bar, rfl, d, hb, hm, fun H1 s1 => ?_⟩
    have fin_ : ∀ (x : V), namesAt H v least most bar = x → (∃ k, V.bl (!decide (x = V.non)) = V.bl k ∧ (if k = true then Rz C H1 (.str part) x E else Q .non H1)) := fun x hx => by
      refine ⟨_, rfl, ?_⟩
      by_cases hn : x = .non
      · subst hn
        refine iteF ?_
        exact kn hx H1 s1
      · rw [show (!decide (x = V.non)) = true from by rw [decide_eq_false hn]; rfl, if_pos rfl]
        rw [hx] at ke
        exact (ke hn).later s1
    refine ⟨_, rfl, rfl, _, rfl, ?_⟩
    rcases firstBad_kind (H := H) (v := v) (most := most) (bar := bar) with ⟨e, xs, hl⟩ | ⟨i, e⟩
    · rw [e]
      refine iteT ?_
      obtain ⟨a, rfl, ha⟩ := lstOf_some hl
      refine ⟨_, rfl, a, xs, rfl, .inl (SqL.of (s1 _ _ ha)), _, rfl, _, _, rfl, rfl, _, rfl, ?_⟩
      have en : namesAt H (.ref a) least most bar = if (xs.length : Int) < least then .int (-1) else .non := by unfold namesAt; rw [e, hl]
      refine ite2 (fun c => ?_) (fun c => ?_)
      · rw [if_pos (of_decide_eq_true c)] at en
        refine ⟨_, rfl, ?_⟩
        refine ⟨_, rfl, rfl, _, rfl, ?_⟩
        refine iteT ?_
        refine ⟨_, rfl, _, rfl, ?_⟩
        refine rip_rd (E := E) ?_
        rw [en] at ke
        exact (ke (by intro z; cases z)).later s1
      · rw [if_neg (fun z => c (decide_eq_true z))] at en
        refine ⟨_, rfl, rfl, _, rfl, ?_⟩
        refine iteF ?_
        exact kn en H1 s1
    · rw [e]
      refine iteF ?_
      have en : namesAt H v least most bar = .int i := by unfold namesAt; rw [e]
      refine ⟨_, rfl, rfl, _, rfl, ?_⟩
      refine iteT ?_
      refine ⟨_, rfl, _, rfl, ?_⟩
      refine rip_rd (E := E) ?_
      rw [en] at ke
      exact (ke (by intro z; cases z)).later s1
end
end K1

set_option Elab.async false
set_option linter.all false
set_option maxRecDepth 100000
set_option maxHeartbeats 4000000
namespace K1
open PySem L2
theorem keys_nil : keysOf [] = [] := rfl
/-! ### is_class -/
def strOf : V → Str | .str s => s | _ => default
def classOk (H : Hp) (v : V) (seen : List Str) : Bool := match tupOf H v with
  | some [n, z, f, b] => ((nameV n && !seen.contains (strOf n)) && wholeV z 1 8) && (decide (firstBad H f 3 [] = .non) && isB b)
  | _ => false
theorem classOk_four {H : Hp} {v n z f b : V} {seen : List Str} (h : tupOf H v = some [n, z, f, b]) : classOk H v seen = (((nameV n && !seen.contains (strOf n)) && wholeV z 1 8) && (decide (firstBad H f 3 [] = .non) && isB b)) := by
  unfold classOk
  rw [h]
theorem classOk_not {H : Hp} {v : V} {seen : List Str} (h : ∀ xs, tupOf H v = some xs → xs.length ≠ 4) : classOk H v seen = false := by
  unfold classOk
  cases e : tupOf H v with
  | none => rfl
  | some xs =>
    have z := h xs e
    match xs with
    | [] => rfl
    | [_] => rfl
    | [_, _] => rfl
    | [_, _, _] => rfl
    | [_, _, _, _] => exact absurd rfl z
    | _ :: _ :: _ :: _ :: _ :: _ => rfl
theorem four {xs : List V} (h : xs.length = 4) : ∃ n z f b, xs = [n, z, f, b] := by
  match xs, h with
  | [n, z, f, b], _ => exact ⟨n, z, f, b, rfl⟩
section
variable {P : Program} {w : World} {K : PySem.W.Frag} {mg : Str → Option Value} {base : Heap} {C : Addr}
def spIsClass : Sp := fun vs H Q _ => ∃ (v : V) (sd : Addr) (seen : List Str), vs = [v, .ref sd] ∧ Dat H v ∧ H sd = some (.dK (keysOf seen)) ∧ ∀ H', Same H H' → Q (.bl (classOk H v seen)) H'
theorem sc27 : FnScope ["value", "seen", "name", "size", "fields", "final"] ["value", "seen"] (defScope (top 27)) := ⟨rfl, rfl, rfl, by decide +kernel, rfl, by decide +kernel, by decide +kernel⟩
theorem ok27 {f : Addr} {fd : FuncData} (F : Fun K "is_class" "is_class" (top 27) f fd) (B : Blt mg) (C2 : Cal P w K mg base CX0 2 "is_within" ["value", "least", "most"] spWithin) (C3 : Cal P w K mg base CX0 1 "is_name" ["value"] spName)
    (C25 : Cal P w K mg base CX0 2 "first_bad_name" ["value", "most", "barred"] spFirst) : FnOk P w K mg base CX0 3 f fd ["value", "seen"] spIsClass := by
  refine F.ok sc27 (fun vs H Q E h => ?_) (fun cdv A outer s H vs Q E hr h => ?_)
  · obtain ⟨v, sd, seen, rfl, _⟩ := h
    rfl
  · obtain ⟨v, sd, seen, rfl, d, hsd, k⟩ := h
    have hu := hu_of hr
    refine ⟨_, pss_cons (ps_if (PW.pt (pw_or (pt_not (pt_val (pt_isi B (pv 0) B.tuple PyProof.Rows.boot_tuple))) (pw_or1 (pt_cmpR op_ne (pe_callB call_len_seq rfl B.len PySem.boot_len (pa_cons (pv 0) pa_nil)) pe_int (nomark _))))) (pss_one (ps_ret pe_bl)) pss_nil)
      (pss_cons (ps_asg (pv 0) (pg_tup rfl (pgs_cons (pg_name (i := 2) sc27.nd rfl (Or.inl rfl)) (pgs_cons (pg_name (i := 3) sc27.nd rfl (Or.inl rfl)) (pgs_cons (pg_name (i := 4) sc27.nd rfl (Or.inl rfl)) (pgs_cons (pg_name (i := 5) sc27.nd rfl (Or.inl rfl)) pgs_nil))))))
      (pss_cons (ps_if (PW.pt (pw_or (pt_not (pt_val (pe_cal C3 hr (by decide) pass0 (pa_cons (pv 2) pa_nil)))) (pw_or (pt_cmp (pc_din hu (pv 2) (pv 1))) (pw_or1 (pt_not (pt_val (pe_cal C2 hr (by decide) pass0 (pa_cons (pv 3) (pa_cons pe_int (pa_cons pe_int pa_nil)))))))))) (pss_one (ps_ret pe_bl)) pss_nil)
      (pss_one (ps_ret (pe_and (pe_cmpR op_isN (pe_cal C25 hr (by decide) pass0 (pa_cons (pv 4) (pa_cons pe_int (pa_cons (pe_lst pa_nil) pa_nil)))) pe_non (nomark _)) (pe_one (pt_isi B (pv 5) B.bool PyProof.Rows.boot_bool))))))), ?_⟩
    refine isi_rd rfl (ans_tup d) ⟨_, rfl, ?_⟩
    cases ht : tupOf H v with
    | none =>
      refine iteT ?_
      refine iteT ?_
      rw [classOk_not (fun xs e => by rw [ht] at e; cases e)] at k
      exact k _ (Same.refl _)
    | some xs =>
      obtain ⟨a, rfl, ha⟩ := tupOf_some ht
      refine iteF ?_
      refine ⟨_, rfl, a, xs, rfl, .inr (SqT.of ha), rfl, _, rfl, ?_⟩
      by_cases c4 : xs.length = 4
      · obtain ⟨n, z, fl, b, rfl⟩ := four c4
        refine iteF ?_
        rw [classOk_four ht] at k
        refine ⟨_, rfl, a, _, rfl, SqT.of ha, rfl, n, _, rfl, z, _, rfl, fl, _, rfl, b, _, rfl, rfl, ?_⟩
        have di := d.itemsT ha
        refine ⟨_, rfl, n, rfl, di n (by simp), fun H1 s1 => ⟨_, rfl, ?_⟩⟩
        cases hn : nameV n with
        | false =>
          rw [hn] at k
          refine iteT ?_
          refine iteT ?_
          exact k _ s1
        | true =>
          obtain ⟨t, rfl, hz⟩ := nameV_is hn
          rw [hn] at k
          refine iteF ?_
          refine ⟨_, rfl, _, rfl, sd, _, rfl, DGet.k (k := Sum.inr t) (s1 _ _ hsd), _, rfl, ?_⟩
          rw [keysOf_val]
          cases hc : seen.contains t with
          | true =>
            rw [show seen.contains (strOf (.str t)) = true from hc] at k
            refine iteT ?_
            refine iteT ?_
            exact k _ s1
          | false =>
            rw [show seen.contains (strOf (.str t)) = false from hc] at k
            refine iteF ?_
            refine ⟨_, rfl, z, 1, 8, rfl, (di z (by simp)).mono s1, _, rfl, ?_⟩
            cases hw : wholeV z 1 8 with
            | false =>
              rw [hw] at k
              refine iteT ?_
              exact k _ s1
            | true =>
              rw [hw] at k
              refine iteF ?_
              refine ⟨_, rfl, by decide, fun p hp => ?_⟩
              have s2 : Same H (upd H1 p (.lst [])) := same_new s1 hp
              have df : Dat H fl := di fl (by simp)
              refine ⟨fl, 3, p, [], rfl, df.mono s2, upd_same, by decide, fun H3 s3 => ⟨rfl, _, rfl, ?_⟩⟩
              rw [firstBad_same df s2]
              refine ite2 (fun c => ?_) (fun c => ?_)
              · refine isi_rd rfl (ans_bool ((di b (by simp)).mono (s2.trans s3))) ?_
                rw [show decide (firstBad H fl 3 [] = V.non) = true from c] at k
                exact k _ (s2.trans s3)
              · rw [show decide (firstBad H fl 3 [] = V.non) = false from Bool.eq_false_iff.mpr c] at k
                exact k _ (s2.trans s3)
      · rw [show (!decide (V.int (xs.length : Nat) = V.int 4)) = true from by rw [decide_eq_false (fun z => c4 (by have := V.int.inj z; omega))]; rfl]
        refine iteT ?_
        rw [classOk_not (fun ys e => by rw [ht] at e; cases e; exact c4)] at k
        exact k _ (Same.refl _)
/-! ### check_classes -/
def nameOf (H : Hp) (v : V) : Str := match tupOf H v with | some (n :: _) => strOf n | _ => default
def clsFrom (H : Hp) : List V → List Str → Nat → Option Nat
  | [], _, _ => none
  | v :: r, seen, i => if classOk H v seen = true then clsFrom H r (seen ++ [nameOf H v]) (i + 1) else some i
def classesAt (H : Hp) (v : V) : V := match lstOf H v with
  | none => .int (-1)
  | some xs => if (decide ((1 : Int) ≤ (xs.length : Int)) && decide ((xs.length : Int) ≤ 6)) = true then optV (clsFrom H xs [] 0) else .int (-1)
theorem classOk_same {H H' : Hp} {v : V} {seen : List Str} (d : Dat H v) (s : Same H H') : classOk H' v seen = classOk H v seen := by
  cases ht : tupOf H v with
  | none => rw [classOk_not (H := H) (fun xs e => by rw [ht] at e; cases e), classOk_not (H := H') (fun xs e => by rw [tupOf_same d s, ht] at e; cases e)]
  | some xs =>
    by_cases c4 : xs.length = 4
    · obtain ⟨n, z, f, b, rfl⟩ := four c4
      obtain ⟨a, rfl, ha⟩ := tupOf_some ht
      rw [classOk_four ht, classOk_four (by rw [tupOf_same d s]; exact ht), firstBad_same (d.itemsT ha f (by simp)) s]
    · rw [classOk_not (H := H) (fun ys e => by rw [ht] at e; cases e; exact c4), classOk_not (H := H') (fun ys e => by rw [tupOf_same d s, ht] at e; cases e; exact c4)]
theorem classOk_is {H : Hp} {v : V} {seen : List Str} (h : classOk H v seen = true) : ∃ (a : Addr) (n : Str) (z f b : V), v = .ref a ∧ H a = some (.tup [.str n, z, f, b]) ∧ nameS n = true ∧ seen.contains n = false ∧ wholeV z 1 8 = true ∧ firstBad H f 3 [] = .non ∧ isB b = true := by
  cases ht : tupOf H v with
  | none =>
    rw [classOk_not (fun xs e => by rw [ht] at e; cases e)] at h
    cases h
  | some xs =>
    by_cases c4 : xs.length = 4
    · obtain ⟨n, z, f, b, rfl⟩ := four c4
      obtain ⟨a, rfl, ha⟩ := tupOf_some ht
      rw [classOk_four ht] at h
      simp only [Bool.and_eq_true] at h
      obtain ⟨⟨⟨h1, h2⟩, h3⟩, h4, h5⟩ := h
      obtain ⟨t, rfl, hz⟩ := nameV_is h1
      refine ⟨a, t, z, f, b, rfl, ha, hz, ?_, h3, of_decide_eq_true h4, h5⟩
      have h2' : (!seen.contains t) = true := h2
      cases q : seen.contains t with
      | false => rfl
      | true => rw [q] at h2'; cases h2'
    · rw [classOk_not (fun ys e => by rw [ht] at e; cases e; exact c4)] at h
      cases h
def spClasses (C : Addr) : Sp := fun vs H Q E => ∃ (v : V), vs = [v] ∧ Dat H v ∧ (classesAt H v = .non → ∀ H', Same H H' → Q .non H') ∧ (classesAt H v ≠ .non → Rz C H (.str "classes") (classesAt H v) E)
theorem sc28 : FnScope ["classes", "seen", "index", "item"] ["classes"] (defScope (top 28)) := ⟨rfl, rfl, rfl, by decide +kernel, rfl, by decide +kernel, by decide +kernel⟩
theorem ok28 {f : Addr} {fd : FuncData} (F : Fun K "check_classes" "check_classes" (top 28) f fd) (B : Blt mg) (IP : Ipc P w K mg base C) (C27 : Cal P w K mg base CX0 3 "is_class" ["value", "seen"] spIsClass) : FnOk P w K mg base (L2.CX P w) 4 f fd ["classes"] (spClasses C) := by
  refine F.okX sc28 (fun vs H Q E h => ?_) (fun cdv A outer s H vs Q E hr h => ?_)
  · obtain ⟨v, rfl, _⟩ := h
    rfl
  · obtain ⟨v, rfl, d, kn, ke⟩ := h
    have hu := hu_of hr
    refine ⟨_, pss_cons (ps_if (PW.pt (pw_or (pt_not (pt_val (pt_isi B (pv 0) B.list PyProof.Rows.boot_list))) (pw_or1 (pt_not (pt_chain op_le op_le pe_int (pe_callB call_len_seq rfl B.len PySem.boot_len (pa_cons (pv 0) pa_nil)) pe_int))))) (pss_one (ps_rip IP rfl (takes_of rfl rfl rfl rfl) hr (by decide) pe_str (pe_un un_neg pe_int))) pss_nil)
      (pss_cons (ps_set (i := 1) sc28.nd rfl (Or.inl rfl) pe_dnewK)
      (pss_one (ps_for (passes_of rfl) rfl (pi_enum rfl B.enumerate (pa_cons (pv 0) pa_nil)) (pg_tup rfl (pgs_cons (pg_name (i := 2) sc28.nd rfl (Or.inl rfl)) (pgs_cons (pg_name (i := 3) sc28.nd rfl (Or.inl rfl)) pgs_nil)))
        (pss_cons (ps_if (pt_not (pt_val (pe_cal C27 hr (by decide) pass0 (pa_cons (pv 3) (pa_cons (pv 1) pa_nil))))) (pss_one (ps_rip IP rfl (takes_of rfl rfl rfl rfl) hr (by decide) pe_str (pv 2))) pss_nil)
          (pss_one (ps_dput hu (pv 1) (pe_ix ix_tup (pv 3) pe_int (fun _ _ => rfl)) pe_bl rfl)))))), ?_⟩
    refine isi_rd rfl (ans_list d) ⟨_, rfl, ?_⟩
    cases hl : lstOf H v with
    | none =>
      have e : classesAt H v = .int (-1) := by unfold classesAt; rw [hl]
      rw [e] at ke
      refine iteT ?_
      refine iteT ?_
      refine ⟨_, rfl, ?_⟩
      exact rip_rd (E := E) (ke (by intro z; cases z))
    | some xs =>
      obtain ⟨a, rfl, ha⟩ := lstOf_some hl
      refine iteF ?_
      refine ⟨_, rfl, a, xs, rfl, .inl (SqL.of ha), _, _, rfl, rfl, _, rfl, ?_⟩
      have e : classesAt H (.ref a) = if (decide ((1 : Int) ≤ (xs.length : Int)) && decide ((xs.length : Int) ≤ 6)) = true then optV (clsFrom H xs [] 0) else .int (-1) := by unfold classesAt; rw [hl]
      refine ite2 (fun c1 => ?_) (fun c1 => ?_)
      · refine ⟨_, _, rfl, rfl, _, rfl, ?_⟩
        refine ite2 (fun c2 => ?_) (fun c2 => ?_)
        · have c3 : decide ((xs.length : Int) ≤ 6) = false := by
            cases z : decide ((xs.length : Int) ≤ 6) with
            | false => rfl
            | true => rw [z] at c2; cases c2
          rw [c3, Bool.and_false, if_neg Bool.false_ne_true] at e
          rw [e] at ke
          exact ⟨_, rfl, rip_rd (E := E) (ke (by intro z; cases z))⟩
        · have c3 : decide ((xs.length : Int) ≤ 6) = true := by
            cases z : decide ((xs.length : Int) ≤ 6) with
            | true => rfl
            | false => rw [z] at c2; exact absurd rfl c2
          rw [c1, c3, Bool.true_and, if_pos rfl] at e
          rw [e] at ke kn
          have di := d.items ha
          have hlen : xs.length ≤ 6 := by have := of_decide_eq_true c3; omega
          intro D hD
          refine ⟨_, rfl, a, xs, rfl, SqL.of (by rw [upd_ne (ne_of_none ha hD)]; exact ha), ?_⟩
          refine for_enum (fun i σ H1 => ∃ (ss : List Str) (v4 v5 : Option V), σ = [some (.ref a), some (.ref D), v4, v5] ∧ Same H H1 ∧ H1 D = some (.dK (keysOf ss)) ∧ ss.length = i ∧ i ≤ xs.length ∧ clsFrom H xs [] 0 = clsFrom H (xs.drop i) ss i)
            ⟨[], none, none, rfl, fun b o e => by rw [upd_ne (ne_of_none e hD)]; exact e, upd_same, rfl, Nat.zero_le _, rfl⟩ (fun i σ H1 _ ⟨_, _, _, _, s1, _⟩ => SqL.of (s1 _ _ ha)) ?_ ?_
          · rintro i x σ H1 T hx ⟨ss, v4, v5, rfl, s1, hD1, hsl, hi, hbad⟩ hT
            refine pair_rd ?_
            have s2 : Same H (upd H1 T (.tup [.int (i : Nat), x])) := same_new s1 hT
            have dx : Dat H x := di x (List.mem_of_getElem? hx)
            have hdr : xs.drop i = x :: xs.drop (i + 1) := by
              obtain ⟨h1, h2⟩ := List.getElem?_eq_some_iff.mp hx
              rw [List.drop_eq_getElem_cons h1, h2]
            rw [hdr] at hbad
            have hD2 : (upd H1 T (.tup [.int (i : Nat), x])) D = some (.dK (keysOf ss)) := by rw [upd_ne (ne_of_none hD1 hT)]; exact hD1
            refine ⟨_, rfl, _, rfl, x, D, ss, rfl, dx.mono s2, hD2, fun H3 s3 => ⟨_, rfl, ?_⟩⟩
            rw [classOk_same dx s2]
            have s4 := s2.trans s3
            cases hk : classOk H x ss with
            | false =>
              refine iteT ?_
              refine ⟨_, rfl, rip_rd (E := E) ?_⟩
              rw [hbad, show clsFrom H (x :: xs.drop (i + 1)) ss i = some i from by show (if classOk H x ss = true then _ else some i) = some i; rw [hk, if_neg Bool.false_ne_true]] at ke
              exact (ke (by intro z; cases z)).later s4
            | true =>
              refine iteF ?_
              obtain ⟨p, n, z, fl, b, rfl, hp, hnm, hc, hw, hf, hb⟩ := classOk_is hk
              have hD3 : H3 D = some (.dK (keysOf ss)) := s3 _ _ hD2
              refine ⟨_, rfl, _, rfl, p, [.str n, z, fl, b], 0, .str n, rfl, rfl, SqT.of (s4 _ _ hp), rfl, D, _, rfl, DPut.k (k := Sum.inr n) hD3 (by unfold keysOf; rw [List.length_map, sizeLine_eq]; omega), ?_⟩
              refine ⟨ss ++ [n], _, _, rfl, fun c o e => ?_, ?_, ?_, (List.getElem?_eq_some_iff.mp hx).1, ?_⟩
              · rw [upd_ne (ne_of_none e hD)]
                exact s4 c o e
              · rw [upd_same, keysOf_put _ _ hc]
              · rw [List.length_append, hsl]; rfl
              · rw [hbad]
                show (if classOk H (.ref p) ss = true then clsFrom H (xs.drop (i + 1)) (ss ++ [nameOf H (.ref p)]) (i + 1) else some i) = _
                rw [hk, if_pos rfl, show nameOf H (.ref p) = n from by unfold nameOf; rw [tupOf_of hp]; rfl]
          · rintro σ H1 ⟨ss, v4, v5, rfl, s1, hD1, hsl, hi, hbad⟩
            rw [List.drop_eq_nil_of_le (Nat.le_refl _)] at hbad
            rw [hbad] at kn
            exact kn rfl _ s1
      · refine ⟨_, rfl, ?_⟩
        refine iteT ?_
        rw [Bool.eq_false_iff.mpr c1, Bool.false_and, if_neg Bool.false_ne_true] at e
        rw [e] at ke
        exact ⟨_, rfl, rip_rd (E := E) (ke (by intro z; cases z))⟩
end
end K1

set_option Elab.async false
set_option linter.all false
set_option maxRecDepth 100000
set_option maxHeartbeats 4000000
namespace K1
open PySem L2
theorem drop_at {xs : List V} {i : Nat} {x : V} (h : xs[i]? = some x) : xs.drop i = x :: xs.drop (i + 1) := by
  obtain ⟨h1, h2⟩ := List.getElem?_eq_some_iff.mp h
  rw [List.drop_eq_getElem_cons h1, h2]
def radFrom : List V → Int → Nat → Option Nat
  | [], _, _ => none
  | .int r :: rest, tot, i => if (decide (r < 2) || decide ((12 : Int) < tot * r)) = true then some i else radFrom rest (tot * r) (i + 1)
  | _ :: _, _, i => some i
theorem radFrom_no {v : V} {r : List V} {tot : Int} {i : Nat} (h : ¬ intV v = true) : radFrom (v :: r) tot i = some i := by
  cases v with
  | int k => exact absurd (show intV (V.int k) = true from rfl) h
  | _ => rfl
theorem radFrom_int {k : Int} {r : List V} {tot : Int} {i : Nat} : radFrom (.int k :: r) tot i = if (decide (k < 2) || decide ((12 : Int) < tot * k)) = true then some i else radFrom r (tot * k) (i + 1) := rfl
def radicesAt (H : Hp) (v : V) (th : Int) : V := match lstOf H v with
  | none => .int (-1)
  | some xs => optV (radFrom xs th 0)
section
variable {P : Program} {w : World} {K : PySem.W.Frag} {mg : Str → Option Value} {base : Heap} {C : Addr}
/-! ### check_threshold -/
def spThr (C : Addr) : Sp := fun vs H Q E => ∃ (v : V), vs = [v] ∧ Dat H v ∧ (wholeV v 1 12 = true → ∀ H', Same H H' → Q .non H') ∧ (wholeV v 1 12 = false → Rz C H (.str "threshold") (.int (-1)) E)
theorem sc29 : FnScope ["threshold"] ["threshold"] (defScope (top 29)) := ⟨rfl, rfl, rfl, by decide +kernel, rfl, by decide +kernel, by decide +kernel⟩
theorem ok29 {f : Addr} {fd : FuncData} {tM : Tok} (F : Fun K "check_threshold" "check_threshold" (top 29) f fd) (hM : mg "MOST_MEMORY" = some (.int 12 tM)) (IP : Ipc P w K mg base C) (C2 : Cal P w K mg base CX0 2 "is_within" ["value", "least", "most"] spWithin) :
    FnOk P w K mg base (L2.CX P w) 3 f fd ["threshold"] (spThr C) := by
  refine F.okX sc29 (fun vs H Q E h => ?_) (fun cdv A outer s H vs Q E hr h => ?_)
  · obtain ⟨v, rfl, _⟩ := h
    rfl
  · obtain ⟨v, rfl, d, kn, ke⟩ := h
    refine ⟨_, pss_one (ps_if (pt_not (pt_val (pe_cal C2 hr (by decide) pass0 (pa_cons (pv 0) (pa_cons pe_int (pa_cons (pe_glob (v := .int 12) rfl hM ⟨_, rfl⟩) pa_nil)))))) (pss_one (ps_rip IP rfl (takes_of rfl rfl rfl rfl) hr (by decide) pe_str (pe_un un_neg pe_int))) pss_nil), ?_⟩
    refine ⟨_, rfl, v, 1, 12, rfl, d, _, rfl, ?_⟩
    cases hw : wholeV v 1 12 with
    | false =>
      refine iteT ?_
      exact ⟨_, rfl, rip_rd (E := E) (ke hw)⟩
    | true =>
      refine iteF ?_
      exact kn hw _ (Same.refl _)
/-! ### check_radices -/
def spRad (C : Addr) : Sp := fun vs H Q E => ∃ (v : V) (th : Int), vs = [v, .int th] ∧ Dat H v ∧ 1 ≤ th ∧ th ≤ 12 ∧ (radicesAt H v th = .non → ∀ H', Same H H' → Q .non H') ∧ (radicesAt H v th ≠ .non → Rz C H (.str "radices") (radicesAt H v th) E)
theorem sc30 : FnScope ["radices", "threshold", "total", "index", "radix"] ["radices", "threshold"] (defScope (top 30)) := ⟨rfl, rfl, rfl, by decide +kernel, rfl, by decide +kernel, by decide +kernel⟩
theorem ok30 {f : Addr} {fd : FuncData} {tM : Tok} (F : Fun K "check_radices" "check_radices" (top 30) f fd) (B : Blt mg) (hM : mg "MOST_MEMORY" = some (.int 12 tM)) (IP : Ipc P w K mg base C) (C1 : Cal P w K mg base CX0 1 "is_integer" ["value"] spInteger) :
    FnOk P w K mg base (L2.CX P w) 3 f fd ["radices", "threshold"] (spRad C) := by
  refine F.okX sc30 (fun vs H Q E h => ?_) (fun cdv A outer s H vs Q E hr h => ?_)
  · obtain ⟨v, th, rfl, _⟩ := h
    rfl
  · obtain ⟨v, th, rfl, d, t1, t2, kn, ke⟩ := h
    refine ⟨_, pss_cons (ps_if (pt_not (pt_val (pt_isi B (pv 0) B.list PyProof.Rows.boot_list))) (pss_one (ps_rip IP rfl (takes_of rfl rfl rfl rfl) hr (by decide) pe_str (pe_un un_neg pe_int))) pss_nil)
      (pss_cons (ps_set (i := 2) sc30.nd rfl (Or.inl rfl) (pv 1))
      (pss_one (ps_for (passes_of rfl) rfl (pi_enum rfl B.enumerate (pa_cons (pv 0) pa_nil)) (pg_tup rfl (pgs_cons (pg_name (i := 3) sc30.nd rfl (Or.inl rfl)) (pgs_cons (pg_name (i := 4) sc30.nd rfl (Or.inl rfl)) pgs_nil)))
        (pss_cons (ps_if (PW.pt (pw_or (pt_not (pt_val (pe_cal C1 hr (by decide) pass0 (pa_cons (pv 4) pa_nil)))) (pw_or (pt_cmpR op_lt (pv 4) pe_int (nomark _)) (pw_or1 (pt_cmpR op_gt (pe_op op_mul (pv 2) (pv 4)) (pe_glob (v := .int 12) rfl hM ⟨_, rfl⟩) (nomark _)))))) (pss_one (ps_rip IP rfl (takes_of rfl rfl rfl rfl) hr (by decide) pe_str (pv 3))) pss_nil)
          (pss_one (ps_aug (i := 2) sc30.nd rfl (Or.inl rfl) (pv 4) iop_mul)))))), ?_⟩
    refine isi_rd rfl (ans_list d) ⟨_, rfl, ?_⟩
    cases hl : lstOf H v with
    | none =>
      have e : radicesAt H v th = .int (-1) := by unfold radicesAt; rw [hl]
      rw [e] at ke
      refine iteT ?_
      exact ⟨_, rfl, rip_rd (E := E) (ke (by intro z; cases z))⟩
    | some xs =>
      obtain ⟨a, rfl, ha⟩ := lstOf_some hl
      refine iteF ?_
      have e : radicesAt H (.ref a) th = optV (radFrom xs th 0) := by unfold radicesAt; rw [hl]
      rw [e] at ke kn
      have di := d.items ha
      refine ⟨_, rfl, ?_⟩
      refine ⟨_, rfl, a, xs, rfl, SqL.of ha, ?_⟩
      refine for_enum (fun i σ H1 => ∃ (tot : Int) (v4 v5 : Option V), σ = [some (.ref a), some (.int th), some (.int tot), v4, v5] ∧ Same H H1 ∧ 1 ≤ tot ∧ tot ≤ 12 ∧ radFrom xs th 0 = radFrom (xs.drop i) tot i)
        ⟨th, none, none, rfl, Same.refl _, t1, t2, rfl⟩ (fun i σ H1 _ ⟨_, _, _, _, s1, _⟩ => SqL.of (s1 _ _ ha)) ?_ ?_
      · rintro i x σ H1 T hx ⟨tot, v4, v5, rfl, s1, o1, o2, hbad⟩ hT
        refine pair_rd ?_
        have s2 : Same H (upd H1 T (.tup [.int (i : Nat), x])) := same_new s1 hT
        have dx : Dat H x := di x (List.mem_of_getElem? hx)
        rw [drop_at hx] at hbad
        have out : radFrom xs th 0 = some i → Rz C (upd H1 T (.tup [.int (i : Nat), x])) (.str "radices") (.int (i : Nat)) E := fun z => by
          rw [z] at ke
          exact (ke (by intro z; cases z)).later s2
        refine ⟨_, rfl, x, rfl, dx.mono s2, _, rfl, ?_⟩
        by_cases ci : intV x = true
        · obtain ⟨k, rfl⟩ := intV_is ci
          rw [radFrom_int] at hbad
          refine iteF ?_
          refine ⟨_, rfl, _, _, rfl, rfl, _, rfl, ?_⟩
          refine ite2 (fun c1 => ?_) (fun c1 => ?_)
          · rw [c1, Bool.true_or, if_pos rfl] at hbad
            refine iteT ?_
            exact ⟨_, rfl, rip_rd (E := E) (out hbad)⟩
          · rw [Bool.eq_false_iff.mpr c1, Bool.false_or] at hbad
            refine ⟨_, rfl, _, rfl, _, _, rfl, rfl, .inl ⟨by omega, by omega⟩, _, _, rfl, rfl, _, rfl, ?_⟩
            refine ite2 (fun c2 => ?_) (fun c2 => ?_)
            · rw [if_pos c2] at hbad
              exact ⟨_, rfl, rip_rd (E := E) (out hbad)⟩
            · rw [if_neg c2] at hbad
              refine ⟨_, rfl, _, rfl, _, _, rfl, rfl, .inl ⟨by omega, by omega⟩, ?_⟩
              have k2 : 2 ≤ k := by
                have z : ¬ k < 2 := fun z => c1 (decide_eq_true z)
                omega
              have hi : ¬ 12 < tot * k := fun z => c2 (decide_eq_true z)
              refine ⟨tot * k, _, _, rfl, s2, ?_, by omega, hbad⟩
              have : 1 * 1 ≤ tot * k := Int.mul_le_mul o1 (by omega) (by decide) (by omega)
              omega
        · rw [radFrom_no ci] at hbad
          rw [Bool.eq_false_iff.mpr ci]
          refine iteT ?_
          refine iteT ?_
          exact ⟨_, rfl, rip_rd (E := E) (out hbad)⟩
      · rintro σ H1 ⟨tot, v4, v5, rfl, s1, o1, o2, hbad⟩
        rw [List.drop_eq_nil_of_le (Nat.le_refl _)] at hbad
        rw [hbad] at kn
        exact kn rfl _ s1
end
end K1

set_option Elab.async false
set_option linter.all false
set_option maxRecDepth 100000
set_option maxHeartbeats 4000000
/-! {k: v for a in xs for b in ys}: a dict comprehension of two clauses without tests -/
namespace L2
open PySem PySem.Spec PyProof.Rows
abbrev dc2 (kx vx t0 j0 t1 j1 : Expr) (sc : Scope) (at_ : Pos) : Expr := .DictComp kx vx [⟨t0, j0, [], 0⟩, ⟨t1, j1, [], 0⟩] sc at_
theorem dc2_outer (kx vx t0 j0 t1 j1 : Expr) (sc : Scope) (at_ : Pos) (it acc : Value) (env : Env) :
    compTurn (dc2 kx vx t0 j0 t1 j1 sc at_) 0 it acc env = (do
      standAt j0.pos
      match ← pyNext it with
      | none => pure (.done .next)
      | some u =>
        letOwnedTupleGo t0 it u
        assign t0 env u
        let y ← eval j1 env
        standAt j1.pos
        let y ← foldedSetIterable j1 env y
        let _ ← runOwn (.compStart (dc2 kx vx t0 j0 t1 j1 sc at_) 1 (← holding [y] (pyIter y)) acc env) env
        again (.compLoop (dc2 kx vx t0 j0 t1 j1 sc at_) 0 it acc env)) := by rfl
theorem dc2_inner (kx vx t0 j0 t1 j1 : Expr) (sc : Scope) (at_ : Pos) (it : Value) (D : Addr) (env : Env) :
    compTurn (dc2 kx vx t0 j0 t1 j1 sc at_) 1 it (.ref D) env = (do
      standAt j1.pos
      match ← pyNext it with
      | none => pure (.done .next)
      | some u =>
        letOwnedTupleGo t1 it u
        assign t1 env u
        (do
          let ku ← eval kx env
          let vu ← holding [ku] (eval vx env)
          standAt { kx.pos with endLine := vx.pos.endLine, endCol := vx.pos.endCol }
          holding [ku, vu] (dictSet D ku vu))
        again (.compLoop (dc2 kx vx t0 j0 t1 j1 sc at_) 1 it (.ref D) env)) := by rfl
section
variable {pg : Program} {wd : World} {Ar : Around} {Rs : Result → Shared → Prop} {s0 : Shared} {kx vx t0 j0 t1 j1 : Expr} {sc : Scope} {at_ : Pos} {it acc : Value} {D : Addr} {env : Env}
/-- what is raised on the way -/
abbrev nby (pg : Program) (wd : World) (Ar : Around) (env : Env) (Rs : Result → Shared → Prop) : Value → Shared → Prop := notedBy (model pg wd) Ar env fun e s' => Rs (.error e) s'
/-- the outer loop, by an invariant and a number that falls -/
theorem dc2_loop0 (fold : ∀ y, foldedSetIterable j1 env y = pure y) (Iv : Nat → Shared → Prop)
    (turn : ∀ n s, Iv n s → wpAny (model pg wd) Ar (pyNext it) (fun r s1 => match r with
      | none => Rs (.ok .next) s1
      | some u => wpAny (model pg wd) Ar (letOwnedTupleGo t0 it u) (fun _ s2 => wpAny (model pg wd) Ar (assign t0 env u) (fun _ s3 =>
          wpAny (model pg wd) Ar (eval j1 env) (fun y s4 => wpAny (model pg wd) Ar (pyIter y) (fun it1 s5 =>
            codeAny (model pg wd) Ar (.compStart (dc2 kx vx t0 j0 t1 j1 sc at_) 1 it1 acc env) (fun r s' => match r with
              | .ok _ => ∃ m, m < n ∧ Iv m s'
              | .error _ => False) s5) (nby pg wd Ar env Rs) s4) (nby pg wd Ar env Rs) s3) (nby pg wd Ar env Rs) s2) (nby pg wd Ar env Rs) s1) (nby pg wd Ar env Rs) s)
    (n : Nat) (h : Iv n s0) : codeAny (model pg wd) Ar (.compLoop (dc2 kx vx t0 j0 t1 j1 sc at_) 0 it acc env) Rs s0 := by
  refine codeAny_loop rfl Iv (fun n s hI => ?_) n h
  show wpAny _ Ar ((compTurn (dc2 kx vx t0 j0 t1 j1 sc at_) 0 it acc env).onRaise (fun x => do noteFrame x env; theTreesLotGoes x)) _ _ s
  refine wpAny_noted ?_
  rw [dc2_outer]
  refine wpAny_bind (wpAny_standAt (wpAny_bind ?_))
  refine wpAny_mono (turn n s hI) (fun r s1 h1 => ?_) fun _ _ z => z
  cases r with
  | none => exact wpAny_pure h1
  | some u =>
    refine wpAny_bind (wpAny_mono h1 (fun _ s2 h2 => ?_) fun _ _ z => z)
    refine wpAny_bind (wpAny_mono h2 (fun _ s3 h3 => ?_) fun _ _ z => z)
    refine wpAny_bind (wpAny_mono h3 (fun y s4 h4 => ?_) fun _ _ z => z)
    refine wpAny_bind (wpAny_standAt (wpAny_bind ?_))
    refine wpAny_of_eq (fold y) (wpAny_bind (wpAny_holding ?_))
    refine wpAny_mono h4 (fun it1 s5 h5 => ?_) fun _ _ z => z
    refine wpAny_bind (wpAny_runOwn ?_)
    rw [Around.mark_none]
    refine codeAny_mono h5 fun r s' hr => ?_
    cases r with
    | error e => exact hr.elim
    | ok f =>
      first
        | exact wpAny_pure ⟨rfl, hr⟩
        | exact wpAny_bind (wpAny_pure (wpAny_pure ⟨rfl, hr⟩))
/-- the inner loop -/
theorem dc2_loop1 (Iv : Nat → Shared → Prop)
    (turn : ∀ n s, Iv n s → wpAny (model pg wd) Ar (pyNext it) (fun r s1 => match r with
      | none => Rs (.ok .next) s1
      | some u => wpAny (model pg wd) Ar (letOwnedTupleGo t1 it u) (fun _ s2 => wpAny (model pg wd) Ar (assign t1 env u) (fun _ s3 =>
          wpAny (model pg wd) Ar (eval kx env) (fun ku s4 => wpAny (model pg wd) Ar (eval vx env) (fun vu s5 =>
            wpAny (model pg wd) Ar (dictSet D ku vu) (fun _ s6 => ∃ m, m < n ∧ Iv m s6) (nby pg wd Ar env Rs) s5) (nby pg wd Ar env Rs) s4) (nby pg wd Ar env Rs) s3) (nby pg wd Ar env Rs) s2) (nby pg wd Ar env Rs) s1) (nby pg wd Ar env Rs) s)
    (n : Nat) (h : Iv n s0) : codeAny (model pg wd) Ar (.compLoop (dc2 kx vx t0 j0 t1 j1 sc at_) 1 it (.ref D) env) Rs s0 := by
  refine codeAny_loop rfl Iv (fun n s hI => ?_) n h
  show wpAny _ Ar ((compTurn (dc2 kx vx t0 j0 t1 j1 sc at_) 1 it (.ref D) env).onRaise (fun x => do noteFrame x env; theTreesLotGoes x)) _ _ s
  refine wpAny_noted ?_
  rw [dc2_inner]
  refine wpAny_bind (wpAny_standAt (wpAny_bind ?_))
  refine wpAny_mono (turn n s hI) (fun r s1 h1 => ?_) fun _ _ z => z
  cases r with
  | none => exact wpAny_pure h1
  | some u =>
    refine wpAny_bind (wpAny_mono h1 (fun _ s2 h2 => ?_) fun _ _ z => z)
    refine wpAny_bind (wpAny_mono h2 (fun _ s3 h3 => ?_) fun _ _ z => z)
    refine wpAny_bind (wpAny_bind (wpAny_mono h3 (fun ku s4 h4 => ?_) fun _ _ z => z))
    refine wpAny_bind (wpAny_holding (wpAny_mono h4 (fun vu s5 h5 => ?_) fun _ _ z => z))
    refine wpAny_bind (wpAny_standAt (wpAny_holding (wpAny_mono h5 (fun _ s6 h6 => ?_) fun _ _ z => z)))
    exact wpAny_pure ⟨rfl, h6⟩
/-- the inner source is made an iterator, or was one -/
theorem dc2_start1 (here : codeAny (model pg wd) Ar (.compLoop (dc2 kx vx t0 j0 t1 j1 sc at_) 1 it acc env) Rs s0)
    (made : wpAny (model pg wd) Ar (pyIter it) (fun it' s' => codeAny (model pg wd) Ar (.compLoop (dc2 kx vx t0 j0 t1 j1 sc at_) 1 it' acc env) Rs s') (nby pg wd Ar env Rs) s0) :
    codeAny (model pg wd) Ar (.compStart (dc2 kx vx t0 j0 t1 j1 sc at_) 1 it acc env) Rs s0 := by
  refine codeAny_of_tree ?_
  show wpAny _ _ ((compStart (dc2 kx vx t0 j0 t1 j1 sc at_) 1 it acc env).onRaise (fun x => do noteFrame x env; standAt theWindowsPlace)) _ _ s0
  refine wpAny_notedAt ?_
  unfold compStart
  show wpAny _ _ (ask >>= _) _ _ s0
  refine wpAny_bind (wpAny_askSetting (wpAny_ite ?_))
  split
  · first
      | exact wpAny_bind (wpAny_pure (wpAny_pure (And.intro rfl here)))
      | exact wpAny_pure (And.intro rfl here)
  · refine wpAny_bind (wpAny_rule ?_)
    first
      | exact wpAny_bind (wpAny_standAt (wpAny_bind (wpAny_mono made (fun it' s' z => wpAny_pure (And.intro rfl z)) fun _ _ z => z)))
      | (show wpAny _ _ (standAt j1.pos >>= _) _ _ s0; exact wpAny_bind (wpAny_standAt (wpAny_bind (wpAny_mono made (fun it' s' z => wpAny_pure (And.intro rfl z)) fun _ _ z => z))))
end
section
variable {X : Cx}
/-- its reading: W tells where the outer walk stands, W1 the inner one -/
def tDc2 (wi : TI) (g : TG) (wi1 : TI) (g1 : TG) (tk tv : TE) (vs vs1 : List Nat) : TE := fun σ H Q => wi σ H fun J H1 => ∀ D, H1 D = none → ∃ W : Nat → Nat → Hp → Prop, (∃ m, W 0 m (upd H1 D (.dK []))) ∧ ∀ i m H, W i m H →
  (J.stop i H ∧ Q (.ref D) H) ∨ (J.go i H ∧ ∃ Nx : Hp → Prop, (∀ H', Nx H' → ∃ m', m' < m ∧ W (i + 1) m' H') ∧ ∀ x H', J.yld i H x H' → g x (wipe σ vs) H' fun σ2 H2 => wipe σ2 vs = wipe σ vs ∧
    wi1 σ2 H2 fun J1 H4 => ∃ W1 : Nat → Nat → Hp → Prop, (∃ m, W1 0 m H4) ∧ ∀ j k H, W1 j k H →
      (J1.stop j H ∧ Nx H) ∨ (J1.go j H ∧ ∃ Nx1 : Hp → Prop, (∀ H', Nx1 H' → ∃ k', k' < k ∧ W1 (j + 1) k' H') ∧ ∀ x H', J1.yld j H x H' → g1 x (wipe σ2 vs1) H' fun σ3 H5 => wipe σ3 vs1 = wipe σ2 vs1 ∧
        tk σ3 H5 fun y H6 => tv σ3 H6 fun z H7 => ∃ kvs q, y = kV q ∧ H7 D = some (.dK kvs) ∧ kvs.length < sizeLine ∧ Nx1 (upd H7 D (.dK (putK kvs q z)))))
/-- a rule within the comprehension's block, whatever the block's frame is -/
abbrev InB (X : Cx) (sc : Scope) (R : Cx → Prop) : Prop := ∀ (s : Shared) (H : Hp) (C : Addr) (cl : List (Str × Addr)) (fp : List Addr), R (X.blk s H sc (compEnvC sc cl C X.env) fp)
theorem dc2_core {pins : List (Addr × Obj)} {s : Shared} {σ : St} {H : Hp} {Q : VK} {kx vx t0 j0 t1 j1 : Expr} {sc : Scope} {own : List (Str × Nat)} {vs1 : List Nat} {at_ pos' : Pos} {wi wi1 : TI} {g g1 : TG} {tk tv : TE} {use : Option (Value → Sem Unit)} {Qf : Value → Shared → Prop}
    (calm : X.calm = true) (nd : X.N.Nodup) (I : Inv X pins σ H s) (hi : PI X t0 j0 wi) (blk : BlkOk X.N X.env.scope sc own) (sub : ∀ i ∈ vs1, i ∈ own.map (·.2))
    (hg : InB X sc fun Y => PG Y t0 g) (hi1 : InB X sc fun Y => PI Y t1 j1 wi1) (hg1 : InB X sc fun Y => PG Y t1 g1) (hk : InB X sc fun Y => PE Y kx tk) (hv : InB X sc fun Y => PE Y vx tv)
    (fold0 : ∀ x, foldedSetIterable j0 X.env x = pure x) (fold1 : ∀ env x, foldedSetIterable j1 env x = pure x) (h : tDc2 wi g wi1 g1 tk tv (own.map (·.2)) vs1 σ H Q)
    (out : ∀ D C s' m H', Inv X pins σ H' s' → Q (.ref D) H' → s'.heap.Ns C m → FpOk X pins H' C → compPost (model X.prog X.w) X.A X.xe use Qf (.ref D) C (.ok .next) s') :
    wpAny (model X.prog X.w) X.A (comprehension (dc2 kx vx t0 j0 t1 j1 sc at_) sc X.env pos' newDict false (eval j0 X.env) use) Qf X.xe s := by
  have seen : ∀ y ∈ sc.names, y.2 = .free → ∃ c, X.env.cells.lookup y.1 = some c := fun y hy e => by
    rcases blk.free y hy e with k | k
    · exact I.ok.has _ (.inl k)
    · exact I.ok.has _ (.inr k)
  refine wpAny_comprehension_free (use := use) rfl fold0 (closure_ok seen) blk.kind (fun y hy e => by rw [blk.uniq y hy, e]) ?_
  refine thn (hi.run pins s σ H _ I h) fun xv s1 hx => thn hx fun itv s2 h2 => ?_
  obtain ⟨it, fp, tn, J, H2, e, I2, T, st2, f2, q⟩ := h2
  subst e
  refine wpAny_newObj_type (newEnv_comp ?_)
  generalize hD : s2.heap.objs.size = D
  have freeD : H2 D = none := I2.hok.fresh (Nat.le_of_eq hD)
  obtain ⟨W, ⟨m0, w0⟩, turn⟩ := q D freeD
  -- behind the new dict
  generalize hs3 : ({ s2 with heap := s2.heap.push { cls := .type "dict", data := .dict #[] } } : Shared) = s3
  have push3 : s3.heap = s2.heap.push { cls := .type "dict", data := .dict #[] } := by rw [← hs3]
  have I3 : Inv X pins σ (upd H2 D (.dK [])) s3 := by
    rw [← hs3]
    refine I2.laid (t' := s2.toks) (fun b o z => Heap.get?_push_of_some _ z) (Nat.le_of_eq hD) ?_
    rw [← hD]
    exact dk_empty s2.heap I2.big
  have below : ∀ b ∈ fp, b < s2.heap.objs.size := fun b hb => by
    obtain ⟨o, z, _⟩ := T.obj _ _ st2 b hb
    exact Heap.lt_size z
  have f3 : ∀ b ∈ fp, FpOk X pins (upd H2 D (.dK [])) b ∧ b < s3.heap.objs.size := fun b hb => by
    have lt := below b hb
    refine ⟨⟨?_, (f2 b hb).2⟩, ?_⟩
    · rw [upd_ne (by rw [← hD]; exact Nat.ne_of_lt lt)]
      exact (f2 b hb).1
    · rw [push3, Heap.size_push]
      exact Nat.lt_succ_of_lt lt
  have st3 : tn 0 s3.heap := T.keep _ _ _ st2 fun b _ o z => by
    rw [push3]
    exact Heap.get?_push_of_some _ z
  have I4 := block_start I3 blk nd f3
  generalize hcl : cellsFrom (s3.heap.objs.size + 1) sc.names (cloFrom X.env.cells sc.names []) = cl at I4
  have rg := hg s3 (upd H2 D (.dK [])) s3.heap.objs.size cl fp
  have ri := hi1 s3 (upd H2 D (.dK [])) s3.heap.objs.size cl fp
  have rg1 := hg1 s3 (upd H2 D (.dK [])) s3.heap.objs.size cl fp
  have rk := hk s3 (upd H2 D (.dK [])) s3.heap.objs.size cl fp
  have rv := hv s3 (upd H2 D (.dK [])) s3.heap.objs.size cl fp
  have nofp : ∀ b ∈ fp, (upd H2 D (.dK [])) b = none := fun b hb => (f3 b hb).1.1
  show codeAny _ _ (.compStart (dc2 kx vx t0 j0 t1 j1 sc at_) 0 (.ref it) (.ref D) (compEnvC sc cl s3.heap.objs.size X.env)) (compPost (model X.prog X.w) X.A X.xe use Qf (.ref D) s3.heap.objs.size)
    { s3 with heap := pushCells (s3.heap.push { cls := .type "dict", data := .dict #[] }) sc.names }
  generalize hce : compEnvC sc cl s3.heap.objs.size X.env = ce at I4 rg ri rg1 rk rv ⊢
  have frame : ce.locals = s3.heap.objs.size := by
    subst hce
    rfl
  generalize hH3 : upd H2 D (.dK []) = H3 at I3 I4 rg ri rg1 rk rv w0 nofp f3
  generalize hs4 : ({ s3 with heap := pushCells (s3.heap.push { cls := .type "dict", data := .dict #[] }) sc.names } : Shared) = s4 at I4 ⊢
  have st4 : tn 0 s4.heap := T.keep _ _ _ st3 fun b _ o z => by
    rw [← hs4]
    exact pushCells_keeps _ _ _ _ (Heap.get?_push_of_some _ z)
  have foot : ∀ {σ' : St} {H' : Hp} {s' : Shared}, Inv (X.blk s3 H3 sc ce fp) [] σ' H' s' → (∀ b ∈ fp, H' b = none) → ∀ b ∈ fp, FpOk (X.blk s3 H3 sc ce fp) [] H' b := fun {σ' H' s'} I' hn b hb =>
    ⟨hn b hb, (I'.ok.exf b hb).1, I'.ok.exfs b hb, .inl hb, fun x c z => (I'.ok.exf b hb).2 x c z, fun p hp => absurd (show p ∈ ([] : List (Addr × Obj)) ++ [] from hp) (by simp)⟩
  have walk : codeAny (model X.prog X.w) X.A (.compLoop (dc2 kx vx t0 j0 t1 j1 sc at_) 0 (.ref it) (.ref D) ce) (compPost (model X.prog X.w) X.A X.xe use Qf (.ref D) s3.heap.objs.size) s4 := by
    refine dc2_loop0 (fold1 ce) (fun n s' => ∃ i H', Inv (X.blk s3 H3 sc ce fp) [] (wipe σ (own.map (·.2))) H' s' ∧ tn i s'.heap ∧ (∀ b ∈ fp, H' b = none) ∧ W i n H') ?_ m0 ⟨0, H3, I4, st4, nofp, w0⟩
    rintro n s5 ⟨i, H5, I5, st5, n5, w5⟩
    rcases turn i n H5 w5 with ⟨stop, qq⟩ | ⟨go, Nx, next, step⟩
    · refine thnF (T.done (X.blk s3 H3 sc ce fp) rfl rfl rfl calm i [] s5 _ H5 (fun _ _ => False) I5 (foot I5 n5) st5 stop) fun r s6 ⟨hr, I6⟩ => ?_
      subst hr
      have I7 : Inv X pins σ H5 s6 := I3.call' (ch := fp) I6.os I6.base I6.hok I6.bare fun b hb => by
        have z := (f3 b hb).1
        exact ⟨z.2.2.2.1, z.2.1, z.2.2.2.2.1, z.2.2.2.2.2⟩
      have noC : H5 s3.heap.objs.size = none := by
        rw [← frame]
        exact I6.free
      obtain ⟨m, hn, _⟩ := I6.loc
      have hn : s6.heap.Ns s3.heap.objs.size m := by
        rw [← frame]
        exact hn
      exact out D s3.heap.objs.size s6 m H5 I7 qq hn (I3.fpOk (Nat.le_refl _) noC)
    · refine thnF (T.item (X.blk s3 H3 sc ce fp) rfl rfl rfl calm i [] s5 _ H5 (fun _ _ => False) I5 (foot I5 n5) st5 go) fun r s6 ⟨u, hr, h6⟩ => ?_
      subst hr
      refine thnF h6 fun _ s7 ⟨x, H7, I7, r7, y7, st7, n7⟩ => ?_
      have P7 := I7.pinned (foot I7 n7) (T.obj _ _ st7)
      refine thnF (rg.run _ s7 _ H7 x u _ P7 r7 (step x H7 y7)) fun _ s8 ⟨σ8, H8, I8, hw8, q8⟩ => ?_
      -- from any slots that know what was known at the turn's start, the turn ends
      have over : ∀ {σ9 : St} {s' : Shared} {H' : Hp}, Inv (X.blk s3 H3 sc ce fp) ([] ++ pinsAt fp s7.heap) σ9 H' s' → (wipe σ (own.map (·.2))).length = σ9.length → (∀ (j : Nat) v, (wipe σ (own.map (·.2)))[j]? = some (some v) → σ9[j]? = some (some v)) → Nx H' →
          ∃ m, m < n ∧ ∃ i H', Inv (X.blk s3 H3 sc ce fp) [] (wipe σ (own.map (·.2))) H' s' ∧ tn i s'.heap ∧ (∀ b ∈ fp, H' b = none) ∧ W i m H' := fun {σ9 s' H'} I' len know nx => by
        obtain ⟨m', lt, w'⟩ := next H' nx
        have still : ∀ b ∈ fp, ∀ o, s7.heap.get? b = some o → s'.heap.get? b = some o ∧ H' b = none := fun b hb o z =>
          let k := I'.pin (b, o) (List.mem_append_right _ (List.mem_append_right _ (mem_pinsAt hb z)))
          ⟨k.1, k.2.1⟩
        refine ⟨m', lt, i + 1, H', (I'.unpinned (pins := [])).weak len know, ?_, fun b hb => ?_, w'⟩
        · exact T.keep _ _ _ st7 fun b hb o z => (still b hb o z).1
        · obtain ⟨o, z, _⟩ := T.obj _ _ st7 b hb
          exact (still b hb o z).2
      have len8 : (wipe σ (own.map (·.2))).length = σ8.length := by rw [← hw8, wipe_length]
      have know9 : ∀ (j : Nat) v, (wipe σ (own.map (·.2)))[j]? = some (some v) → (wipe σ8 vs1)[j]? = some (some v) := fun j v z => by
        rw [← hw8] at z
        obtain ⟨z1, z2⟩ := wipe_some z
        rw [wipe_out fun k => z2 (sub j k)]
        exact z1
      refine thnF (ri.run _ s8 σ8 H8 _ I8 q8) fun xv s10 hx => thnF hx fun itv s11 h11 => ?_
      obtain ⟨it1, fp1, tn1, J1, H11, e1, I11, T1, st11, f11, W1, ⟨m1, w1⟩, turn1⟩ := h11
      subst e1
      have foot1 : ∀ {H' : Hp}, (∀ b ∈ fp1, H' b = none) → ∀ b ∈ fp1, FpOk (X.blk s3 H3 sc ce fp) ([] ++ pinsAt fp s7.heap) H' b := fun hn b hb => ⟨hn b hb, (f11 b hb).2⟩
      have inner : codeAny (model X.prog X.w) X.A (.compLoop (dc2 kx vx t0 j0 t1 j1 sc at_) 1 (.ref it1) (.ref D) ce)
          (fun r s' => match r with
            | .ok _ => ∃ m, m < n ∧ ∃ i H', Inv (X.blk s3 H3 sc ce fp) [] (wipe σ (own.map (·.2))) H' s' ∧ tn i s'.heap ∧ (∀ b ∈ fp, H' b = none) ∧ W i m H'
            | .error _ => False) s11 := by
        refine dc2_loop1 (fun k s' => ∃ j H', Inv (X.blk s3 H3 sc ce fp) ([] ++ pinsAt fp s7.heap) (wipe σ8 vs1) H' s' ∧ tn1 j s'.heap ∧ (∀ b ∈ fp1, H' b = none) ∧ W1 j k H') ?_ m1
          ⟨0, H11, I11.weak (wipe_length _ _) (fun j v z => (wipe_some z).1), st11, fun b hb => (f11 b hb).1, w1⟩
        rintro k s12 ⟨j, H12, I12, st12, n12, w12⟩
        rcases turn1 j k H12 w12 with ⟨stop1, nx1⟩ | ⟨go1, Nx1, next1, step1⟩
        · refine thnF (T1.done (X.blk s3 H3 sc ce fp) rfl rfl rfl calm j _ s12 (wipe σ8 vs1) H12 (fun _ _ => False) I12 (foot1 n12) st12 stop1) fun r s13 ⟨hr, I13⟩ => ?_
          subst hr
          exact over I13 (len8.trans (wipe_length σ8 vs1).symm) know9 nx1
        · refine thnF (T1.item (X.blk s3 H3 sc ce fp) rfl rfl rfl calm j _ s12 (wipe σ8 vs1) H12 (fun _ _ => False) I12 (foot1 n12) st12 go1) fun r s13 ⟨u1, hr, h13⟩ => ?_
          subst hr
          refine thnF h13 fun _ s14 ⟨x1, H14, I14, r14, y14, st14, n14⟩ => ?_
          have P14 := I14.pinned (foot1 n14) (T1.obj _ _ st14)
          refine thnF (rg1.run _ s14 (wipe σ8 vs1) H14 x1 u1 _ P14 r14 (step1 x1 H14 y14)) fun _ s15 ⟨σ15, H15, I15, hw15, q15⟩ => ?_
          have over1 : ∀ {s' : Shared} {H' : Hp}, Inv (X.blk s3 H3 sc ce fp) (([] ++ pinsAt fp s7.heap) ++ pinsAt fp1 s14.heap) σ15 H' s' → Nx1 H' →
              ∃ m, m < k ∧ ∃ j H', Inv (X.blk s3 H3 sc ce fp) ([] ++ pinsAt fp s7.heap) (wipe σ8 vs1) H' s' ∧ tn1 j s'.heap ∧ (∀ b ∈ fp1, H' b = none) ∧ W1 j m H' := fun {s' H'} I' nx => by
            obtain ⟨m', lt, w'⟩ := next1 H' nx
            have still : ∀ b ∈ fp1, ∀ o, s14.heap.get? b = some o → s'.heap.get? b = some o ∧ H' b = none := fun b hb o z =>
              let k := I'.pin (b, o) (List.mem_append_right _ (List.mem_append_right _ (mem_pinsAt hb z)))
              ⟨k.1, k.2.1⟩
            refine ⟨m', lt, j + 1, H', I'.unpinned.weak (by rw [← hw15, wipe_length]) (fun j v z => ?_), ?_, fun b hb => ?_, w'⟩
            · rw [← hw15] at z
              exact (wipe_some z).1
            · exact T1.keep _ _ _ st14 fun b hb o z => (still b hb o z).1
            · obtain ⟨o, z, _⟩ := T1.obj _ _ st14 b hb
              exact (still b hb o z).2
          refine thnF (rk.run _ s15 σ15 H15 _ I15 q15) fun ku s16 ⟨yk, H16, I16, r16, q16⟩ => ?_
          refine thnF (rv.run _ s16 σ15 H16 _ I16 q16) fun vu s17 ⟨yv, H17, I17, r17, kvs, key, ek, hD17, few, nx⟩ => ?_
          subst ek
          exact d_dictSet (X := X.blk s3 H3 sc ce fp) I17 hD17 few r16 r17 fun s18 I18 => over1 I18 nx
      exact dc2_start1 inner (T1.self X.A 0 _ _ _ st11 inner)
  exact codeAny_compStart_dict walk (T.self X.A 0 _ _ _ st4 walk)
/-- y = {..}, y a local -/
theorem ps_setDc2 {i : Nat} {y : Str} {py : Pos} {kx vx t0 j0 t1 j1 : Expr} {sc : Scope} {own : List (Str × Nat)} {vs1 : List Nat} {at_ spos : Pos} {wi wi1 : TI} {g g1 : TG} {tk tv : TE} (calm : X.calm = true) (nd : X.N.Nodup) (hy : X.N[i]? = some y) (hyl : X.env.scope.names.lookup y = some .local)
    (sw : swapsWith (dc2 kx vx t0 j0 t1 j1 sc at_) (some (.Name y py)) spos.line X.env = pure true) (hi : PI X t0 j0 wi) (blk : BlkOk X.N X.env.scope sc own) (sub : ∀ i ∈ vs1, i ∈ own.map (·.2))
    (hg : InB X sc fun Y => PG Y t0 g) (hi1 : InB X sc fun Y => PI Y t1 j1 wi1) (hg1 : InB X sc fun Y => PG Y t1 g1) (hk : InB X sc fun Y => PE Y kx tk) (hv : InB X sc fun Y => PE Y vx tv)
    (fold0 : ∀ x, foldedSetIterable j0 X.env x = pure x := by intro _; rfl) (fold1 : ∀ env x, foldedSetIterable j1 env x = pure x := by intro _ _; rfl) :
    PS X (.Assign [.Name y py] (dc2 kx vx t0 j0 t1 j1 sc at_) spos) (tAsg (tDc2 wi g wi1 g1 tk tv (own.map (·.2)) vs1) (gName i)) := by
  refine ⟨fun pins s σ H D I h => ?_⟩
  rw [exec_Assign_Name_used _ _ _ _ sw]
  refine wpAny_bind (wpAny_standAt (wpAny_bind ?_))
  show wpAny _ X.A (do let _ ← comprehension (dc2 kx vx t0 j0 t1 j1 sc at_) sc X.env (firstIterPos [⟨t0, j0, [], 0⟩, ⟨t1, j1, [], 0⟩] at_) newDict false (eval j0 X.env) (some (assign (.Name y py) X.env))) _ _ s
  have ask : tDc2 wi g wi1 g1 tk tv (own.map (·.2)) vs1 σ H (fun x H1 => gName i x σ H1 D.nx) := h
  refine wpAny_bind (thn (dc2_core (Qf := fun _ s' => SP X pins D .next s') calm nd I hi blk sub hg hi1 hg1 hk hv fold0 fold1 ask fun L C s' m H' I' q hn f => ?_) fun _ s' hq => wpAny_pure (wpAny_pure hq))
  show wpAny _ _ (assign (.Name y py) X.env (.ref L)) _ _ _
  refine wpAny_assign_Name (store_ok2 (v := V.ref L) I' nd hy (.inl hyl) rfl (fun s2 I2 ⟨a, sb, ha⟩ => ?_) (.inr hyl))
  obtain ⟨f0, f1, f2, f3, f4, f5⟩ := f
  have apart : C ≠ a := by
    rcases ha with z | z
    · rw [z]
      exact f1
    · exact fun e => f4 y a z e.symm
  refine ⟨m, hn.sameBut sb apart, fun h3 sb3 => ?_⟩
  exact ⟨_, H', I2.turned (t' := s2.toks) (fun b o hb z => (sb3.2 b hb).trans z) f0 f1 f3 f4 f5, q⟩
theorem sw_dc {kx vx : Expr} {gs : List Comprehension} {sc : Scope} {at_ py : Pos} {y : Str} {l : Nat} {env : Env} (hk : env.scope.kind = .function) (hy : env.scope.names.lookup y = some .local) (hl : (py.line == at_.line) = true)
    (ha : (sc.names.any fun (n, k) => n == y && (k == .local || k == .cell)) = false) : swapsWith (.DictComp kx vx gs sc at_) (some (.Name y py)) l env = pure true := by
  have ky : env.kindOf y = some .local := hy
  have kb : env.blockKind = .function := by
    unfold Env.blockKind
    rw [hk]
    rfl
  unfold swapsWith
  simp only [kb, ky, ha, Expr.pos, hl]
  rfl
end
end L2

set_option Elab.async false
set_option linter.all false
set_option maxRecDepth 100000
set_option maxHeartbeats 4000000
namespace K1
open PySem L2
/-- a class of the module as its makers know it -/
structure Mkr (P : Program) (w : World) (K : PySem.W.Frag) (mg : Str → Option Value) (base : Heap) (CX : CXT) (k : Nat) (x : Str) (C : Addr) (ps : List Str) (sp : Sp) : Prop where
  ex : ∃ (f : Addr) (fd : FuncData), Mk K C f ∧ FnOk P w K mg base CX k f fd ps sp ∧ mg x = some (.ref C) ∧ Binds K fd ps []
theorem pe_mkr {X : Cx} {CX : CXT} {k j : Nat} {x : Str} {C : Addr} {ps : List Str} {sp : Sp} {E : XK} {p pos : Pos} {e : Expr} {es : List Expr} {t : TA} (c : Mkr X.prog X.w X.K X.mg X.base CX k x C ps sp) (hr : Room j X.A) (hj : k + 1 ≤ j) (hx : Passes CX X E) (ha : PA X (e :: es) t)
    (hg : Gl X x := by rfl) (hdb : (x == ("__debug__" : Str)) = false := by decide) (he : starEach (e :: es) X.env = (false, eval e X.env) :: starEach es X.env := by rfl) (hpl : (backTo pos (starEach es X.env)).any (·.1) = false := by rfl) :
    PE X (.Call (.Name x p) (e :: es) [] pos) (tMake C sp [] E t) := by
  obtain ⟨f, fd, M, G, hm, hb⟩ := c.ex
  exact pe_make M G (hr.mono hj) hg hm hb .nil hx ha hdb he hpl
/-- a new instance and its __init__: what stood stands -/
theorem made_same {H H1 : Hp} {x dx C : Addr} (nx : H x = none) (nd : H dx = none) (k : ∀ b o, (upd (upd H dx (.own x)) x (.ins C dx [])) b = some o → b ≠ x → H1 b = some o) : Same H H1 := L2.Same.made nx nd k
section
variable {P : Program} {w : World} {K : PySem.W.Frag} {mg : Str → Option Value} {base : Heap}
/-! ### Scope: nothing of it is read here -/
abbrev sScI : Stmt := inClass (top 14) 0
def spScI (C : Addr) : Sp := fun vs H Q _ => ∃ (p dx : Addr) (a b c d e f : V), vs = [.ref p, a, b, c, d, e, f] ∧ H p = some (.ins C dx []) ∧ ∀ H', (∀ b o, H b = some o → b ≠ p → H' b = some o) → Q .non H'
structure NoS (K : PySem.W.Frag) (C : Addr) : Prop where
  cl : Cls K C
  n1 : NoAttr K C "class_names"
  n2 : NoAttr K C "field_names"
  n3 : NoAttr K C "variable_names"
  n4 : NoAttr K C "weak_names"
  n5 : NoAttr K C "levels"
  n6 : NoAttr K C "calls"
theorem putF_len (f : Str) (v : V) : ∀ fs : List (Str × V), (putF f v fs).length ≤ fs.length + 1
  | [] => Nat.le_refl _
  | (g, x) :: r => by
    show (if g = f then (g, v) :: r else (g, x) :: putF f v r).length ≤ _
    by_cases h : g = f
    · rw [if_pos h]
      simp
    · rw [if_neg h, List.length_cons, List.length_cons]
      have := putF_len f v r
      omega
theorem scSc : FnScope ["self", "class_names", "field_names", "variable_names", "weak_names", "levels", "calls"] ["self", "class_names", "field_names", "variable_names", "weak_names", "levels", "calls"] (defScope sScI) := ⟨rfl, rfl, rfl, by decide +kernel, rfl, by decide +kernel, by decide +kernel⟩
theorem okScI {f C : Addr} {fd : FuncData} (F : Fun K "__init__" "Scope.__init__" sScI f fd) (T : NoS K C) : FnOk P w K mg base CX0 1 f fd ["self", "class_names", "field_names", "variable_names", "weak_names", "levels", "calls"] (spScI C) := by
  refine F.ok scSc (fun vs H Q E h => ?_) (fun cdv A outer s H vs Q E hr h => ?_)
  · obtain ⟨p, dx, a, b, c, d, e, f, rfl, _⟩ := h
    rfl
  · obtain ⟨p, dx, a, b, c, d, e, f, rfl, hp, k⟩ := h
    refine ⟨_, pss_cons (ps_fld (pv 0) (pv 1) rfl) (pss_cons (ps_fld (pv 0) (pv 2) rfl) (pss_cons (ps_fld (pv 0) (pv 3) rfl) (pss_cons (ps_fld (pv 0) (pv 4) rfl) (pss_cons (ps_fld (pv 0) (pv 5) rfl) (pss_one (ps_fld (pv 0) (pv 6) rfl)))))), ?_⟩
    have z0 : ([] : List (Str × V)).length ≤ 0 := Nat.le_refl _
    have z1 := putF_len "class_names" a []
    have z2 := putF_len "field_names" b (putF "class_names" a [])
    have z3 := putF_len "variable_names" c (putF "field_names" b (putF "class_names" a []))
    have z4 := putF_len "weak_names" d (putF "variable_names" c (putF "field_names" b (putF "class_names" a [])))
    have z5 := putF_len "levels" e (putF "weak_names" d (putF "variable_names" c (putF "field_names" b (putF "class_names" a []))))
    refine ⟨_, rfl, _, rfl, p, C, dx, _, rfl, hp, T.cl, T.n1, by omega, ?_⟩
    refine ⟨_, rfl, _, rfl, p, C, dx, _, rfl, upd_same, T.cl, T.n2, by omega, ?_⟩
    refine ⟨_, rfl, _, rfl, p, C, dx, _, rfl, upd_same, T.cl, T.n3, by omega, ?_⟩
    refine ⟨_, rfl, _, rfl, p, C, dx, _, rfl, upd_same, T.cl, T.n4, by omega, ?_⟩
    refine ⟨_, rfl, _, rfl, p, C, dx, _, rfl, upd_same, T.cl, T.n5, by omega, ?_⟩
    refine ⟨_, rfl, _, rfl, p, C, dx, _, rfl, upd_same, T.cl, T.n6, by omega, ?_⟩
    refine k _ fun b o e hb => ?_
    rw [upd_ne hb, upd_ne hb, upd_ne hb, upd_ne hb, upd_ne hb, upd_ne hb]
    exact e
/-! ### Survey -/
abbrev sSuI : Stmt := inClass (top 15) 0
def suF (a b c e : V) : List (Str × V) := putF "buried" e (putF "depth" c (putF "many" b (putF "place" a [])))
theorem su_place (a b c e : V) : (suF a b c e).lookup ("place" : Str) = some a := by
  unfold suF
  rw [lookup_putF, if_neg (by decide +kernel), lookup_putF, if_neg (by decide +kernel), lookup_putF, if_neg (by decide +kernel), lookup_putF, if_pos rfl]
theorem su_many (a b c e : V) : (suF a b c e).lookup ("many" : Str) = some b := by
  unfold suF
  rw [lookup_putF, if_neg (by decide +kernel), lookup_putF, if_neg (by decide +kernel), lookup_putF, if_pos rfl]
def spSuI (C : Addr) : Sp := fun vs H Q _ => ∃ (p dx : Addr) (a b c e : V), vs = [.ref p, a, b, c, e] ∧ H p = some (.ins C dx []) ∧ ∀ H', H' p = some (.ins C dx (suF a b c e)) → (∀ b o, H b = some o → b ≠ p → H' b = some o) → Q .non H'
structure NoU (K : PySem.W.Frag) (C : Addr) : Prop where
  cl : Cls K C
  n1 : NoAttr K C "place"
  n2 : NoAttr K C "many"
  n3 : NoAttr K C "depth"
  n4 : NoAttr K C "buried"
theorem scSu : FnScope ["self", "place", "many", "depth", "buried"] ["self", "place", "many", "depth", "buried"] (defScope sSuI) := ⟨rfl, rfl, rfl, by decide +kernel, rfl, by decide +kernel, by decide +kernel⟩
theorem okSuI {f C : Addr} {fd : FuncData} (F : Fun K "__init__" "Survey.__init__" sSuI f fd) (T : NoU K C) : FnOk P w K mg base CX0 1 f fd ["self", "place", "many", "depth", "buried"] (spSuI C) := by
  refine F.ok scSu (fun vs H Q E h => ?_) (fun cdv A outer s H vs Q E hr h => ?_)
  · obtain ⟨p, dx, a, b, c, ee, rfl, _⟩ := h
    rfl
  · obtain ⟨p, dx, a, b, c, ee, rfl, hp, k⟩ := h
    refine ⟨_, pss_cons (ps_fld (pv 0) (pv 1) rfl) (pss_cons (ps_fld (pv 0) (pv 2) rfl) (pss_cons (ps_fld (pv 0) (pv 3) rfl) (pss_one (ps_fld (pv 0) (pv 4) rfl)))), ?_⟩
    have z1 := putF_len "place" a []
    have z2 := putF_len "many" b (putF "place" a [])
    have z3 := putF_len "depth" c (putF "many" b (putF "place" a []))
    have z0 : ([] : List (Str × V)).length ≤ 0 := Nat.le_refl _
    refine ⟨_, rfl, _, rfl, p, C, dx, _, rfl, hp, T.cl, T.n1, by omega, ?_⟩
    refine ⟨_, rfl, _, rfl, p, C, dx, _, rfl, upd_same, T.cl, T.n2, by omega, ?_⟩
    refine ⟨_, rfl, _, rfl, p, C, dx, _, rfl, upd_same, T.cl, T.n3, by omega, ?_⟩
    refine ⟨_, rfl, _, rfl, p, C, dx, _, rfl, upd_same, T.cl, T.n4, by omega, ?_⟩
    refine k _ upd_same fun b o e hb => ?_
    rw [upd_ne hb, upd_ne hb, upd_ne hb, upd_ne hb]
    exact e
/-! ### scope_for -/
/-- a list of valid classes stands at a -/
def ClsL (H : Hp) (a : Addr) (xs : List V) : Prop := H a = some (.lst xs) ∧ ∀ x ∈ xs, ∃ (p : Addr) (n : Str) (z b : V) (fl : Addr) (fs : List Str), x = .ref p ∧ H p = some (.tup [.str n, z, .ref fl, b]) ∧ H fl = some (.lst (fs.map V.str)) ∧ fs.length ≤ 3
theorem ClsL.mono {H H' : Hp} {a : Addr} {xs : List V} (c : ClsL H a xs) (s : Same H H') : ClsL H' a xs := ⟨s _ _ c.1, fun x hx => by
  obtain ⟨p, n, z, b, fl, fs, e, h1, h2, h3⟩ := c.2 x hx
  exact ⟨p, n, z, b, fl, fs, e, s _ _ h1, s _ _ h2, h3⟩⟩
def spScopeFor : Sp := fun vs H Q _ => ∃ (nm wk cs : V) (a r : Addr) (xs rs : List V), vs = [nm, .ref a, wk, .ref r, cs] ∧ ClsL H a xs ∧ xs.length ≤ 6 ∧ H r = some (.lst rs) ∧ ∀ p H', Same H H' → Q (.ref p) H'
theorem sc32 : FnScope ["names", "classes", "weak", "radices", "calls", "fields", "item", "name"] ["names", "classes", "weak", "radices", "calls"] (defScope (top 32)) := ⟨rfl, rfl, rfl, by decide +kernel, rfl, by decide +kernel, by decide +kernel⟩
theorem length_putK_le (kvs : List (Key × V)) (k : Key) (v : V) : (putK kvs k v).length ≤ kvs.length + 1 := length_putK kvs k v
theorem ok32 {f C : Addr} {fd : FuncData} (F : Fun K "scope_for" "scope_for" (top 32) f fd) (B : Blt mg) (MS : Mkr P w K mg base CX0 1 "Scope" C ["self", "class_names", "field_names", "variable_names", "weak_names", "levels", "calls"] (spScI C)) :
    FnOk P w K mg base CX0 3 f fd ["names", "classes", "weak", "radices", "calls"] spScopeFor := by
  refine F.ok sc32 (fun vs H Q E h => ?_) (fun cdv A outer s H vs Q E hr h => ?_)
  · obtain ⟨nm, wk, cs, a, r, xs, rs, rfl, _⟩ := h
    rfl
  · obtain ⟨nm, wk, cs, a, r, xs, rs, rfl, hC, hlen, hr', k⟩ := h
    refine ⟨_, pss_cons (ps_setDc2 (i := 5) (own := [("item", 6), ("name", 7)]) (vs1 := [7]) (wi1 := iList K (tOp (rIxT K) (tVar 6) (tC (.int 2)))) (g := gName 6) (g1 := gName 7) rfl sc32.nd rfl rfl (sw_dc rfl rfl rfl (by decide +kernel)) (pi_list (pv 1)) (blkOk_by (N := ["names", "classes", "weak", "radices", "calls", "fields", "item", "name"]) (sc := defScope (top 32)) (by decide +kernel)) (by decide)
        (fun _ _ _ _ _ => pg_name (i := 6) sc32.nd rfl (Or.inl rfl)) (fun _ _ _ _ _ => pi_list (pe_ix ix_tup (pv 6) pe_int (fun _ _ => rfl))) (fun _ _ _ _ _ => pg_name (i := 7) sc32.nd rfl (Or.inl rfl)) (fun _ _ _ _ _ => pv 7) (fun _ _ _ _ _ => pe_bl))
      (pss_one (ps_ret (pe_mkr MS hr (by decide) pass0 (pa_cons (pe_lc (own := [("item", 6)]) (te := tOp (rIxT K) (tVar 6) (tC (.int 0))) (g := gName 6) (tt := tYes) rfl sc32.nd (pi_list (pv 1)) (blkOk_by (N := ["names", "classes", "weak", "radices", "calls", "fields", "item", "name"]) (sc := defScope (top 32)) (by decide +kernel))
          (fun _ _ _ _ _ => pg_name (i := 6) sc32.nd rfl (Or.inl rfl)) (fun _ _ _ _ _ => pts_nil) (fun _ _ _ _ _ => pe_ix ix_tup (pv 6) pe_int (fun _ _ => rfl)))
        (pa_cons (pv 5) (pa_cons (pv 0) (pa_cons (pv 2) (pa_cons (pe_callB call_len_seq rfl B.len PySem.boot_len (pa_cons (pv 3) pa_nil)) (pa_cons (pv 4) pa_nil))))))))), ?_⟩
    refine ⟨_, rfl, a, rfl, ⟨_, SqL.of hC.1⟩, fun D hD => ?_⟩
    refine ⟨fun i m H1 => m + i = xs.length ∧ Same H H1 ∧ ∃ kvs : List (Key × V), H1 D = some (.dK kvs) ∧ kvs.length ≤ 3 * i, ⟨xs.length, rfl, fun b o e => by rw [upd_ne (ne_of_none e hD)]; exact e, [], upd_same, Nat.zero_le _⟩, ?_⟩
    rintro i m H1 ⟨hm, s1, kvs, hD1, hk⟩
    have hL := (hC.mono s1)
    by_cases hlt : i < xs.length
    · have hx : xs[i]? = some xs[i] := List.getElem?_eq_getElem hlt
      refine .inr ⟨⟨xs, xs[i], SqL.of hL.1, hx⟩, fun H2 => Same H H2 ∧ ∃ kvs : List (Key × V), H2 D = some (.dK kvs) ∧ kvs.length ≤ 3 * (i + 1), fun H2 ⟨s2, q⟩ => ⟨xs.length - (i + 1), by omega, by omega, s2, q⟩, fun x H2 y => ?_⟩
      obtain ⟨e, y⟩ := y
      subst e
      have hxx := y xs (SqL.of hL.1)
      obtain ⟨p, n, z, b, fl, fs, rfl, hp, hfl, hfs⟩ := hL.2 x (List.mem_of_getElem? hxx)
      refine ⟨rfl, _, rfl, p, _, 2, .ref fl, rfl, rfl, SqT.of hp, rfl, fl, rfl, ⟨_, SqL.of hfl⟩, ?_⟩
      refine ⟨fun j m H2 => m + j = fs.length ∧ Same H H2 ∧ ∃ kvs : List (Key × V), H2 D = some (.dK kvs) ∧ kvs.length ≤ 3 * i + j, ⟨fs.length, rfl, s1, kvs, hD1, by omega⟩, ?_⟩
      rintro j m2 H2 ⟨hm2, s2, kvs2, hD2, hk2⟩
      have hfl2 : H2 fl = some (.lst (fs.map V.str)) := by
        obtain ⟨p', n', z', b', fl', fs', e1, e2, e3, _⟩ := hC.2 (.ref p) (List.mem_of_getElem? hxx)
        cases e1
        have q1 := s1 _ _ e2
        rw [hp] at q1
        cases q1
        have q2 := s1 _ _ e3
        rw [hfl] at q2
        rw [Option.some.inj q2]
        exact s2 _ _ e3
      by_cases hlt2 : j < (fs.map V.str).length
      · have hy : (fs.map V.str)[j]? = some (fs.map V.str)[j] := List.getElem?_eq_getElem hlt2
        rw [List.length_map] at hlt2
        refine .inr ⟨⟨fs.map V.str, _, SqL.of hfl2, hy⟩, fun H3 => Same H H3 ∧ ∃ kvs : List (Key × V), H3 D = some (.dK kvs) ∧ kvs.length ≤ 3 * i + (j + 1), fun H3 ⟨s3, q⟩ => ⟨fs.length - (j + 1), by omega, by omega, s3, q⟩, fun y H3 yy => ?_⟩
        obtain ⟨e, yy⟩ := yy
        subst e
        have hyy := yy _ (SqL.of hfl2)
        rw [List.getElem?_map] at hyy
        obtain ⟨t, ht, rfl⟩ := Option.map_eq_some_iff.mp hyy
        refine ⟨rfl, _, rfl, kvs2, Sum.inr t, rfl, hD2, by rw [sizeLine_eq]; omega, fun b o e => ?_, _, upd_same, ?_⟩
        · rw [upd_ne (ne_of_none e hD)]
          exact s2 b o e
        · have := length_putK_le kvs2 (Sum.inr t) (.bl true)
          omega
      · rw [List.length_map] at hlt2
        refine .inl ⟨⟨fs.map V.str, SqL.of hfl2, by rw [List.length_map]; omega⟩, s2, kvs2, hD2, by omega⟩
    · have e : i = xs.length := by omega
      subst e
      refine .inl ⟨⟨xs, SqL.of hL.1, Nat.le_refl _⟩, ?_⟩
      refine ⟨_, rfl, a, rfl, ⟨_, SqL.of hL.1⟩, fun L hLn => ?_⟩
      refine lc_list (xs := xs) (fun i H2 => Same H H2 ∧ ∃ acc, H2 L = some (.lst acc) ∧ acc.length ≤ i) ⟨same_new s1 hLn, [], upd_same, Nat.le_refl _⟩ (fun i H2 _ ⟨s2, _⟩ => SqL.of (s2 _ _ hC.1)) ?_ ?_
      · rintro j x H2 hx ⟨s2, acc, hacc, hal⟩
        obtain ⟨p, n, z, b, fl, fs, rfl, hp, hfl, hfs⟩ := (hC.mono s2).2 x (List.mem_of_getElem? hx)
        refine ⟨rfl, ?_⟩
        unfold tYes
        dsimp only
        rw [if_pos rfl]
        refine ⟨_, rfl, p, _, 0, .str n, rfl, rfl, SqT.of hp, rfl, acc, hacc, ?_, fun c o e => ?_, _, upd_same, ?_⟩
        · have := (List.getElem?_eq_some_iff.mp hx).1
          rw [sizeLine_eq]
          omega
        · rw [upd_ne (ne_of_none (s1 _ _ e) hLn)]
          exact s2 c o e
        · rw [List.length_append]
          show acc.length + 1 ≤ j + 1
          omega
      · rintro H2 ⟨s2, acc, hacc, hal⟩
        refine ⟨_, rfl, _, rfl, _, rfl, _, rfl, r, rs, rfl, .inl (SqL.of (s2 _ _ hr')), _, rfl, fun x dx nx ndx nex => ?_⟩
        refine ⟨x, dx, _, _, _, _, _, _, rfl, upd_same, fun H3 kp => ⟨rfl, k x H3 (s2.trans (made_same nx ndx kp))⟩⟩
end
end K1

set_option Elab.async false
set_option linter.all false
set_option maxRecDepth 100000
set_option maxHeartbeats 4000000
namespace K1
open PySem L2
section
variable {P : Program} {w : World} {K : PySem.W.Frag} {mg : Str → Option Value} {base : Heap} {C CU : Addr}
theorem ans_isL {H : Hp} {b : Addr} {xs : List V} (e : H b = some (.lst xs)) : Ans K H (.ref b) "list" true := ⟨"list", .base (.lst e), by decide +kernel⟩
/-! ### survey of an empty body -/
def spSurvey (CU : Addr) : Sp := fun vs H Q _ => ∃ (b : Addr) (sc : V), vs = [.ref b, sc] ∧ H b = some (.lst []) ∧ ∀ p dx H', Same H H' → H' p = some (.ins CU dx (suF .non (.int 0) (.int 0) (.bl false))) → Q (.ref p) H'
theorem sc21 : FnScope ["body", "scope", "many", "depth", "buried", "ways", "block", "ahead", "nested", "repeats", "index", "statement", "place", "inner", "part", "start"] ["body", "scope"] (defScope (top 21)) := ⟨rfl, rfl, rfl, by decide +kernel, rfl, by decide +kernel, by decide +kernel⟩
theorem ok21 {f : Addr} {fd : FuncData} {tD : Tok} (F : Fun K "survey" "survey" (top 21) f fd) (B : Blt mg) (hD : mg "DEEPEST_BLOCK" = some (.int 60 tD)) (MU : Mkr P w K mg base CX0 1 "Survey" CU ["self", "place", "many", "depth", "buried"] (spSuI CU)) :
    FnOk P w K mg base CX0 3 f fd ["body", "scope"] (spSurvey CU) := by
  refine F.ok sc21 (fun vs H Q E h => ?_) (fun cdv A outer s H vs Q E hr h => ?_)
  · obtain ⟨b, sc, rfl, _⟩ := h
    rfl
  · obtain ⟨b, sc, rfl, hb, k⟩ := h
    refine ⟨_, pss_cons (ps_set (i := 2) sc21.nd rfl (Or.inl rfl) pe_int) (pss_cons (ps_set (i := 3) sc21.nd rfl (Or.inl rfl) pe_int)
      (pss_cons (ps_set (i := 4) sc21.nd rfl (Or.inl rfl) pe_bl) (pss_cons (ps_set (i := 5) sc21.nd rfl (Or.inl rfl) (pe_lst (pa_cons (pe_tup (pa_cons (pv 0) (pa_cons (pe_tup pa_nil) (pa_cons pe_int (pa_cons pe_int (pa_cons pe_int pa_nil)))))) pa_nil)))
      (pss_cons (ps_while PassesOwn.never (pt_truth (pv 5) (by intro _; rfl))
        (pss_cons (ps_asg (pe_bm0 PySem.F.plainAttrs_list PySem.F.slot_list_pop PySem.F.type_list_pop mt_pop (pv 5)) (pg_tup rfl (pgs_cons (pg_name (i := 6) sc21.nd rfl (Or.inl rfl)) (pgs_cons (pg_name (i := 7) sc21.nd rfl (Or.inl rfl)) (pgs_cons (pg_name (i := 8) sc21.nd rfl (Or.inl rfl)) (pgs_cons (pg_name (i := 9) sc21.nd rfl (Or.inl rfl)) (pgs_cons (pg_name (i := 10) sc21.nd rfl (Or.inl rfl)) pgs_nil)))))))
        (pss_cons (ps_if (pt_cmpR op_gt (pv 8) (pe_glob (v := .int 60) rfl hD ⟨_, rfl⟩) (nomark _)) pss_never pss_nil)
        (pss_cons (ps_if (pt_not (pt_val (pt_isi B (pv 6) B.list PyProof.Rows.boot_list))) pss_never pss_nil)
        (pss_cons (ps_if (pt_cmpR op_eq (pv 10) (pe_callB call_len_seq rfl B.len PySem.boot_len (pa_cons (pv 6) pa_nil)) (nomark _)) (pss_one ps_continue) pss_nil) pss_never)))))
      (pss_one (ps_ret (pe_mkr MU hr (by decide) pass0 (pa_cons pe_non (pa_cons (pv 2) (pa_cons (pv 3) (pa_cons (pv 4) pa_nil))))))))))), ?_⟩
    refine ⟨_, rfl, by decide, fun e he => ?_⟩
    refine ⟨(by show 5 ≤ sizeLine; decide), fun t ht => ?_⟩
    refine ⟨(by show 1 ≤ sizeLine; decide), fun l hl => ?_⟩
    have s0 : Same H (upd H e (.tup [])) := same_new (Same.refl _) he
    have s1 := same_new (o := .tup [.ref b, .ref e, .int 0, .int 0, .int 0]) s0 ht
    have s2 := same_new (o := .lst [.ref t]) s1 hl
    have hl0 : H l = none := s1.free hl
    refine ⟨fun m σ H1 => ∃ (v5 v6 v7 v8 v9 v10 v11 v12 v13 v14 : Option V), σ = [some (.ref b), some sc, some (.int 0), some (.int 0), some (.bl false), some (.ref l), v5, v6, v7, v8, v9, v10, v11, v12, v13, v14] ∧ Same H H1 ∧
        ((m = 1 ∧ H1 l = some (.lst [.ref t]) ∧ H1 t = some (.tup [.ref b, .ref e, .int 0, .int 0, .int 0])) ∨ (m = 0 ∧ H1 l = some (.lst []))),
      ⟨1, none, none, none, none, none, none, none, none, none, none, rfl, s2, .inl ⟨rfl, upd_same, by rw [upd_ne (ne_of_none upd_same hl), upd_same]⟩⟩, ?_⟩
    rintro m σ H1 ⟨v5, v6, v7, v8, v9, v10, v11, v12, v13, v14, rfl, s3, h3⟩
    rcases h3 with ⟨rfl, hl1, ht1⟩ | ⟨rfl, hl1⟩
    · refine ⟨_, rfl, true, .inl ⟨_, SqL.of hl1, rfl⟩, ?_⟩
      refine iteT ?_
      refine ⟨fun σ' H' => ∃ (v5 v6 v7 v8 v9 v10 v11 v12 v13 v14 : Option V), σ' = [some (.ref b), some sc, some (.int 0), some (.int 0), some (.bl false), some (.ref l), v5, v6, v7, v8, v9, v10, v11, v12, v13, v14] ∧ Same H H' ∧ H' l = some (.lst []),
        fun σ' H' ⟨w5, w6, w7, w8, w9, w10, w11, w12, w13, w14, e1, e2, e3⟩ => ⟨0, by decide, w5, w6, w7, w8, w9, w10, w11, w12, w13, w14, e1, e2, .inr ⟨rfl, e3⟩⟩, ?_⟩
      have s4 : Same H (upd H1 l (.lst [])) := fun c o z => by
        rw [upd_ne (ne_of_none z hl0)]
        exact s3 c o z
      have ntl : t ≠ l := fun z => by
        rw [z, hl1] at ht1
        cases ht1
      refine ⟨_, rfl, .inl ⟨rfl, _, SqL.of hl1⟩, l, [.ref t], .ref t, rfl, rfl, hl1, rfl, ?_⟩
      refine ⟨t, _, rfl, SqT.of (by rw [upd_ne ntl]; exact ht1), rfl, .ref b, _, rfl, .ref e, _, rfl, .int 0, _, rfl, .int 0, _, rfl, .int 0, _, rfl, rfl, ?_⟩
      refine ⟨_, rfl, _, _, rfl, rfl, _, rfl, ?_⟩
      refine iteF ?_
      have hb4 : (upd H1 l (.lst [])) b = some (.lst []) := s4 _ _ hb
      refine isi_rd rfl (ans_isL hb4) ⟨_, rfl, ?_⟩
      refine iteF ?_
      refine ⟨_, rfl, _, rfl, b, [], rfl, .inl (SqL.of hb4), rfl, _, rfl, ?_⟩
      refine iteT ?_
      exact ⟨_, _, _, _, _, _, _, _, _, _, rfl, s4, upd_same⟩
    · refine ⟨_, rfl, false, .inl ⟨_, SqL.of hl1, rfl⟩, ?_⟩
      refine iteF ?_
      refine ⟨_, rfl, _, rfl, _, rfl, fun x dx nx ndx nex => ?_⟩
      exact ⟨x, dx, _, _, _, _, rfl, upd_same, fun H3 h3 kp => ⟨rfl, k x dx H3 (s3.trans (made_same nx ndx kp)) h3⟩⟩
end
end K1

set_option Elab.async false
set_option linter.all false
set_option maxRecDepth 100000
set_option maxHeartbeats 4000000
namespace K1
open PySem L2
/-- a class of a program, as data -/
structure Row where
  n : Str
  z : Int
  fs : List Str
  b : Bool
/-- it stands as a tuple whose objects are new since H0 -/
def RowAt (H0 H : Hp) (x : V) (r : Row) : Prop := ∃ (p fl : Addr), x = .ref p ∧ H0 p = none ∧ H0 fl = none ∧ H p = some (.tup [.str r.n, .int r.z, .ref fl, .bl r.b]) ∧ H fl = some (.lst (r.fs.map V.str))
/-- the list of classes -/
def ClsN (H0 H : Hp) (a : Addr) (rows : List Row) : Prop := H0 a = none ∧ ∃ xs, H a = some (.lst xs) ∧ Paired (RowAt H0 H) xs rows
/-- list(xs), by values -/
def rLof (K : PySem.W.Frag) : List V → Hp → VK → Prop := fun xs H Q => ∃ p ys, xs = [.ref p] ∧ (SqL K H p ys ∨ SqT K H p ys) ∧ ∀ l, H l = none → Q (.ref l) (upd H l (.lst ys))
def nul : Hp := fun _ => none
theorem RowAt.mono {H0 H H' : Hp} {x : V} {r : Row} (h : RowAt H0 H x r) (s : Same H H') : RowAt H0 H' x r := by
  obtain ⟨p, fl, e, f1, f2, h1, h2⟩ := h
  exact ⟨p, fl, e, f1, f2, s _ _ h1, s _ _ h2⟩
theorem ClsN.mono {H0 H H' : Hp} {a : Addr} {rows : List Row} (h : ClsN H0 H a rows) (s : Same H H') : ClsN H0 H' a rows := by
  obtain ⟨f0, xs, e, p⟩ := h
  exact ⟨f0, xs, s _ _ e, p.mono fun _ _ z => z.mono s⟩
theorem paired_at {α β : Type} {F : α → β → Prop} : ∀ {l : List α} {m : List β} {i : Nat} {x : α}, Paired F l m → l[i]? = some x → ∃ y, m[i]? = some y ∧ F x y
  | _, _, _, _, .nil, h => by simp at h
  | _, _, 0, x, .cons (b := b) f _, h => by
    have e := Option.some.inj h
    subst e
    exact ⟨b, rfl, f⟩
  | _, _, i + 1, x, .cons _ r, h => by
    have h' : _ := h
    rw [List.getElem?_cons_succ] at h'
    obtain ⟨y, h1, h2⟩ := paired_at r h'
    exact ⟨y, by rw [List.getElem?_cons_succ]; exact h1, h2⟩
theorem take_snoc {α : Type} {l : List α} {i : Nat} {x : α} (h : l[i]? = some x) : l.take (i + 1) = l.take i ++ [x] := start_drop l i x h
theorem ClsN.toL {H0 H : Hp} {a : Addr} {rows : List Row} (h : ClsN H0 H a rows) (h3 : ∀ r ∈ rows, r.fs.length ≤ 3) : ∃ xs, ClsL H a xs ∧ xs.length = rows.length := by
  obtain ⟨f0, xs, e, p⟩ := h
  refine ⟨xs, ⟨e, fun x hx => ?_⟩, p.length⟩
  obtain ⟨i, hi⟩ := List.getElem?_of_mem hx
  obtain ⟨r, hr, q, fl, rfl, _, _, h1, h2⟩ := paired_at p hi
  exact ⟨q, r.n, .int r.z, .bl r.b, fl, r.fs, rfl, h1, h2, h3 r (List.mem_of_getElem? hr)⟩
section
variable {P : Program} {w : World} {K : PySem.W.Frag} {mg : Str → Option Value} {base : Heap} {C CU : Addr}
/-! ### check_body of an empty body -/
def spCheckBody (CU : Addr) : Sp := fun vs H Q _ => ∃ (b : Addr) (sc : V), vs = [.ref b, sc, .int 0] ∧ H b = some (.lst []) ∧ ∀ H', Same H H' → Q .non H'
theorem sc34 : FnScope ["body", "scope", "many", "seen"] ["body", "scope", "many"] (defScope (top 34)) := ⟨rfl, rfl, rfl, by decide +kernel, rfl, by decide +kernel, by decide +kernel⟩
theorem ok34 {f : Addr} {fd : FuncData} {tD : Tok} (F : Fun K "check_body" "check_body" (top 34) f fd) (B : Blt mg) (hD : mg "MOST_STATEMENTS" = some (.int 60 tD)) (U : NoU K CU) (C21 : Cal P w K mg base CX0 3 "survey" ["body", "scope"] (spSurvey CU)) :
    FnOk P w K mg base CX0 4 f fd ["body", "scope", "many"] (spCheckBody CU) := by
  refine F.ok sc34 (fun vs H Q E h => ?_) (fun cdv A outer s H vs Q E hr h => ?_)
  · obtain ⟨b, sc, rfl, _⟩ := h
    rfl
  · obtain ⟨b, sc, rfl, hb, k⟩ := h
    refine ⟨_, pss_cons (ps_set (i := 3) sc34.nd rfl (Or.inl rfl) (pe_cal C21 hr (by decide) pass0 (pa_cons (pv 0) (pa_cons (pv 1) pa_nil))))
      (pss_cons (ps_if (pt_cmpR op_notN (pe_fld (pv 3) rfl) pe_non (nomark _)) pss_never pss_nil)
      (pss_one (ps_if (pt_cmpR op_gt (pe_op op_add (pv 2) (pe_fld (pv 3) rfl)) (pe_glob (v := .int 60) rfl hD ⟨_, rfl⟩) (nomark _)) pss_never pss_nil))), ?_⟩
    refine ⟨_, rfl, _, rfl, b, sc, rfl, hb, fun p dx H1 s1 hp => ?_⟩
    refine ⟨_, rfl, p, CU, dx, _, _, rfl, hp, U.cl, U.n1, su_place _ _ _ _, rfl, _, rfl, ?_⟩
    refine iteF ?_
    refine ⟨_, rfl, _, rfl, p, CU, dx, _, _, rfl, hp, U.cl, U.n2, su_many _ _ _ _, _, _, rfl, rfl, _, _, rfl, rfl, _, rfl, ?_⟩
    refine iteF ?_
    exact k _ s1
/-! ### check_functions of an empty list -/
def spCheckFns : Sp := fun vs H Q _ => ∃ (f : Addr) (a b c : V), vs = [.ref f, a, b, c] ∧ H f = some (.lst []) ∧ ∀ t d H', Same H H' → H' t = some (.tup [.ref d, .int 0]) → Q (.ref t) H'
theorem sc33 : FnScope ["functions", "classes", "weak", "radices", "calls", "many", "index", "item", "name", "parameters", "inner", "body", "result", "seen"] ["functions", "classes", "weak", "radices"] (defScope (top 33)) := ⟨rfl, rfl, rfl, by decide +kernel, rfl, by decide +kernel, by decide +kernel⟩
theorem ok33 {f : Addr} {fd : FuncData} (F : Fun K "check_functions" "check_functions" (top 33) f fd) (B : Blt mg) : FnOk P w K mg base CX0 1 f fd ["functions", "classes", "weak", "radices"] spCheckFns := by
  refine F.ok sc33 (fun vs H Q E h => ?_) (fun cdv A outer s H vs Q E hr h => ?_)
  · obtain ⟨f, a, b, c, rfl, _⟩ := h
    rfl
  · obtain ⟨fa, a, b, c, rfl, hf, k⟩ := h
    refine ⟨_, pss_cons (ps_if (PW.pt (pw_or (pt_not (pt_val (pt_isi B (pv 0) B.list PyProof.Rows.boot_list))) (pw_or1 (pt_cmpR op_gt (pe_callB call_len_seq rfl B.len PySem.boot_len (pa_cons (pv 0) pa_nil)) pe_int (nomark _))))) pss_never pss_nil)
      (pss_cons (ps_set (i := 4) sc33.nd rfl (Or.inl rfl) pe_dnewK)
      (pss_cons (ps_set (i := 5) sc33.nd rfl (Or.inl rfl) pe_int)
      (pss_cons (ps_for PassesOwn.never rfl (pi_enum rfl B.enumerate (pa_cons (pv 0) pa_nil)) (pg_tup rfl (pgs_cons (pg_name (i := 6) sc33.nd rfl (Or.inl rfl)) (pgs_cons (pg_name (i := 7) sc33.nd rfl (Or.inl rfl)) pgs_nil))) pss_never)
      (pss_one (ps_ret (pe_tup (pa_cons (pv 4) (pa_cons (pv 5) pa_nil)))))))), ?_⟩
    refine isi_rd rfl (ans_isL hf) ⟨_, rfl, ?_⟩
    refine iteF ?_
    refine ⟨_, rfl, fa, [], rfl, .inl (SqL.of hf), _, _, rfl, rfl, _, rfl, ?_⟩
    refine iteF ?_
    intro D hD
    refine ⟨_, rfl, fa, [], rfl, SqL.of (by rw [upd_ne (ne_of_none hf hD)]; exact hf), ?_⟩
    refine for_enum (fun i σ H1 => σ = [some (.ref fa), some a, some b, some c, some (.ref D), some (.int 0), none, none, none, none, none, none, none, none] ∧ Same H H1)
      ⟨rfl, same_new (Same.refl _) hD⟩ (fun i σ H1 _ ⟨_, s1⟩ => SqL.of (s1 _ _ hf)) (fun i x σ H1 T hx => by simp at hx) ?_
    rintro σ H1 ⟨rfl, s1⟩
    refine ⟨_, rfl, _, rfl, (by show 2 ≤ sizeLine; decide), fun t ht => ?_⟩
    exact k t D _ (same_new s1 ht) upd_same
/-! ### copies -/
def spCopyNil : Sp := fun vs H Q _ => ∃ (b : Addr), vs = [.ref b] ∧ H b = some (.lst []) ∧ ∀ p H', Same H H' → H p = none → H' p = some (.lst []) → Q (.ref p) H'
theorem sc22 : FnScope ["block", "rows", "statement", "words", "word"] ["block"] (defScope (top 22)) := ⟨rfl, rfl, rfl, by decide +kernel, rfl, by decide +kernel, by decide +kernel⟩
theorem ok22 {f : Addr} {fd : FuncData} (F : Fun K "copied_block" "copied_block" (top 22) f fd) : FnOk P w K mg base CX0 1 f fd ["block"] spCopyNil := by
  refine F.ok sc22 (fun vs H Q E h => ?_) (fun cdv A outer s H vs Q E hr h => ?_)
  · obtain ⟨b, rfl, _⟩ := h
    rfl
  · obtain ⟨b, rfl, hb, k⟩ := h
    refine ⟨_, pss_cons (ps_set (i := 1) sc22.nd rfl (Or.inl rfl) (pe_lst pa_nil)) (pss_cons (ps_for PassesOwn.never rfl (pi_list (pv 0)) (pg_name (i := 2) sc22.nd rfl (Or.inl rfl)) pss_never) (pss_one (ps_ret (pv 1)))), ?_⟩
    refine ⟨by decide, fun l hl => ?_⟩
    have s1 : Same H (upd H l (.lst [])) := same_new (Same.refl _) hl
    refine ⟨_, rfl, b, rfl, ⟨_, SqL.of (s1 _ _ hb)⟩, for_list (xs := []) (fun i σ H1 => σ = [some (.ref b), some (.ref l), none, none, none] ∧ Same H H1 ∧ H1 l = some (.lst [])) ⟨rfl, s1, upd_same⟩ (fun i σ H1 _ ⟨_, s2, _⟩ => SqL.of (s2 _ _ hb)) (fun i x σ H1 hx => by simp at hx) ?_⟩
    rintro σ H1 ⟨rfl, s2, e⟩
    exact ⟨_, rfl, k l H1 s2 hl e⟩
theorem sc36 : FnScope ["functions", "rows", "name", "parameters", "inner", "body", "result"] ["functions"] (defScope (top 36)) := ⟨rfl, rfl, rfl, by decide +kernel, rfl, by decide +kernel, by decide +kernel⟩
theorem ok36 {f : Addr} {fd : FuncData} (F : Fun K "copied_functions" "copied_functions" (top 36) f fd) : FnOk P w K mg base CX0 1 f fd ["functions"] spCopyNil := by
  refine F.ok sc36 (fun vs H Q E h => ?_) (fun cdv A outer s H vs Q E hr h => ?_)
  · obtain ⟨b, rfl, _⟩ := h
    rfl
  · obtain ⟨b, rfl, hb, k⟩ := h
    refine ⟨_, pss_cons (ps_set (i := 1) sc36.nd rfl (Or.inl rfl) (pe_lst pa_nil)) (pss_cons (ps_for PassesOwn.never rfl (pi_list (pv 0)) (pg_tup rfl (pgs_cons (pg_name (i := 2) sc36.nd rfl (Or.inl rfl)) (pgs_cons (pg_name (i := 3) sc36.nd rfl (Or.inl rfl)) (pgs_cons (pg_name (i := 4) sc36.nd rfl (Or.inl rfl)) (pgs_cons (pg_name (i := 5) sc36.nd rfl (Or.inl rfl)) (pgs_cons (pg_name (i := 6) sc36.nd rfl (Or.inl rfl)) pgs_nil)))))) pss_never) (pss_one (ps_ret (pv 1)))), ?_⟩
    refine ⟨by decide, fun l hl => ?_⟩
    have s1 : Same H (upd H l (.lst [])) := same_new (Same.refl _) hl
    refine ⟨_, rfl, b, rfl, ⟨_, SqL.of (s1 _ _ hb)⟩, for_list (xs := []) (fun i σ H1 => σ = [some (.ref b), some (.ref l), none, none, none, none, none] ∧ Same H H1 ∧ H1 l = some (.lst [])) ⟨rfl, s1, upd_same⟩ (fun i σ H1 _ ⟨_, s2, _⟩ => SqL.of (s2 _ _ hb)) (fun i x σ H1 hx => by simp at hx) ?_⟩
    rintro σ H1 ⟨rfl, s2, e⟩
    exact ⟨_, rfl, k l H1 s2 hl e⟩
def spCopyCls : Sp := fun vs H Q _ => ∃ (a : Addr) (H0 : Hp) (rows : List Row), vs = [.ref a] ∧ ClsN H0 H a rows ∧ rows.length ≤ 6 ∧ (∀ r ∈ rows, r.fs.length ≤ 3) ∧ ∀ q H', Same H H' → ClsN H H' q rows → Q (.ref q) H'
theorem sc35 : FnScope ["classes", "name", "size", "fields", "final"] ["classes"] (defScope (top 35)) := ⟨rfl, rfl, rfl, by decide +kernel, rfl, by decide +kernel, by decide +kernel⟩
theorem ok35 {f : Addr} {fd : FuncData} (F : Fun K "copied_classes" "copied_classes" (top 35) f fd) (B : Blt mg) : FnOk P w K mg base CX0 1 f fd ["classes"] spCopyCls := by
  refine F.ok sc35 (fun vs H Q E h => ?_) (fun cdv A outer s H vs Q E hr h => ?_)
  · obtain ⟨a, H0, rows, rfl, _⟩ := h
    rfl
  · obtain ⟨a, H0, rows, rfl, hC, hlen, h3, k⟩ := h
    refine ⟨_, pss_one (ps_ret (pe_lc (own := [("name", 1), ("size", 2), ("fields", 3), ("final", 4)]) (tt := tYes) (g := gTup K 4 (gCons (gName 1) (gCons (gName 2) (gCons (gName 3) (gCons (gName 4) gNil))))) rfl sc35.nd (pi_list (pv 0)) (blkOk_by (N := ["classes", "name", "size", "fields", "final"]) (sc := defScope (top 35)) (by decide +kernel))
      (fun _ _ _ _ _ => pg_tup rfl (pgs_cons (pg_name (i := 1) sc35.nd rfl (Or.inl rfl)) (pgs_cons (pg_name (i := 2) sc35.nd rfl (Or.inl rfl)) (pgs_cons (pg_name (i := 3) sc35.nd rfl (Or.inl rfl)) (pgs_cons (pg_name (i := 4) sc35.nd rfl (Or.inl rfl)) pgs_nil))))) (fun _ _ _ _ _ => pts_nil)
      (fun _ _ _ _ _ => pe_tup (pa_cons (pv 1) (pa_cons (pv 2) (pa_cons (pe_callTy (r := rLof K) call_list_of rfl B.list PyProof.Rows.boot_list (pa_cons (pv 3) pa_nil)) (pa_cons (pv 4) pa_nil))))))), ?_⟩
    obtain ⟨f0, xs, ea, pr⟩ := hC
    refine ⟨_, rfl, a, rfl, ⟨_, SqL.of ea⟩, fun L hL => ?_⟩
    have hxs : xs.length ≤ 6 := by rw [pr.length]; exact hlen
    refine lc_list (xs := xs) (fun i H1 => Same H H1 ∧ ∃ acc, H1 L = some (.lst acc) ∧ acc.length ≤ i ∧ Paired (RowAt (upd H L (.lst [])) H1) acc (rows.take i)) ⟨same_new (Same.refl _) hL, [], upd_same, Nat.le_refl _, .nil⟩ (fun i H1 _ ⟨s1, _⟩ => SqL.of (s1 _ _ ea)) ?_ ?_
    · rintro i x H1 hx ⟨s1, acc, hacc, hal, hpa⟩
      obtain ⟨r, hrr, p, fl, rfl, g1, g2, hp, hfl⟩ := paired_at pr hx
      have hi : i < xs.length := (List.getElem?_eq_some_iff.mp hx).1
      refine ⟨p, _, rfl, SqT.of (s1 _ _ hp), rfl, _, _, rfl, _, _, rfl, _, _, rfl, _, _, rfl, rfl, rfl, ?_⟩
      unfold tYes
      dsimp only
      rw [if_pos rfl]
      refine ⟨_, rfl, _, rfl, _, rfl, fl, _, rfl, .inl (SqL.of (s1 _ _ hfl)), fun l hl => ?_⟩
      refine ⟨_, rfl, (by show 4 ≤ sizeLine; decide), fun t ht => ?_⟩
      have s2 : Same H1 (upd H1 l (.lst (r.fs.map V.str))) := same_new (Same.refl _) hl
      have s3 := same_new (o := .tup [.str r.n, .int r.z, .ref l, .bl r.b]) s2 ht
      have ntl : l ≠ t := ne_of_none upd_same ht
      refine ⟨acc, s3 _ _ hacc, by rw [sizeLine_eq]; omega, fun c o e => ?_, _, upd_same, by rw [List.length_append]; show acc.length + 1 ≤ i + 1; omega, ?_⟩
      · rw [upd_ne (ne_of_none e hL)]
        exact s3 _ _ (s1 _ _ e)
      · rw [take_snoc hrr]
        have kept : ∀ {y : V} {r' : Row}, RowAt (upd H L (.lst [])) H1 y r' → RowAt (upd H L (.lst [])) (upd (upd (upd H1 l (.lst (r.fs.map V.str))) t (.tup [.str r.n, .int r.z, .ref l, .bl r.b])) L (.lst (acc ++ [.ref t]))) y r' := fun {y r'} z => by
          obtain ⟨p', fl', e, z1, z2, z3, z4⟩ := z
          refine ⟨p', fl', e, z1, z2, ?_, ?_⟩
          · rw [upd_ne (ne_of z3 hacc (by intro q; cases q))]
            exact s3 _ _ z3
          · rw [upd_ne (ne_of_none (o := .lst []) upd_same z2).symm]
            exact s3 _ _ z4
        refine (hpa.mono fun _ _ z => kept z).snoc ⟨t, l, rfl, ?_, ?_, ?_, ?_⟩
        · have q : H1 t = none := s2.free ht
          rw [upd_ne (ne_of_none hacc q).symm]
          exact s1.free q
        · rw [upd_ne (ne_of_none hacc hl).symm]
          exact s1.free hl
        · rw [upd_ne (ne_of upd_same (s3 _ _ hacc) (by intro q; cases q)), upd_same]
        · rw [upd_ne (ne_of_none hacc hl).symm, upd_ne ntl, upd_same]
    · rintro H1 ⟨s1, acc, hacc, hal, hpa⟩
      rw [pr.length, List.take_of_length_le (Nat.le_refl _)] at hpa
      refine k L H1 s1 ⟨hL, acc, hacc, hpa.mono fun x r z => ?_⟩
      obtain ⟨p, fl, e, z1, z2, z3, z4⟩ := z
      have off : ∀ {b : Addr}, (upd H L (.lst [])) b = none → H b = none := fun {b} q => by
        by_cases hb : b = L
        · rw [hb]
          exact hL
        · rw [upd_ne hb] at q
          exact q
      exact ⟨p, fl, e, off z1, off z2, z3, z4⟩
end
end K1

set_option Elab.async false
set_option linter.all false
set_option maxRecDepth 100000
set_option maxHeartbeats 4000000
namespace K1
open PySem L2
/-! ### what the checks' silence says -/
theorem badFrom_none {bar : List Str} : ∀ {xs : List V} {seen : List Str} {i : Nat}, badFrom bar xs seen i = none → ∃ ss : List Str, xs = ss.map V.str ∧ ∀ s ∈ ss, nameS s = true
  | [], _, _, _ => ⟨[], rfl, fun _ h => by cases h⟩
  | v :: r, seen, i, h => by
    cases hn : nameV v with
    | false =>
      rw [badFrom_no hn] at h
      cases h
    | true =>
      obtain ⟨s, rfl, hz⟩ := nameV_is hn
      rw [badFrom_str] at h
      by_cases c : (nameS s && !seen.contains s && !bar.contains s) = true
      · rw [if_pos c] at h
        obtain ⟨ss, rfl, ok⟩ := badFrom_none h
        refine ⟨s :: ss, rfl, fun z hz' => ?_⟩
        rcases List.mem_cons.mp hz' with rfl | hz'
        · exact hz
        · exact ok z hz' 
      · rw [if_neg c] at h
        cases h
theorem firstBad_none {H : Hp} {v : V} {most : Int} {bar : List Str} (h : firstBad H v most bar = .non) : ∃ (a : Addr) (ss : List Str), v = .ref a ∧ H a = some (.lst (ss.map V.str)) ∧ (ss.length : Int) ≤ most ∧ ∀ s ∈ ss, nameS s = true := by
  unfold firstBad at h
  cases hl : lstOf H v with
  | none => rw [hl] at h; cases h
  | some xs =>
    rw [hl] at h
    obtain ⟨a, rfl, ha⟩ := lstOf_some hl
    have h' : (if (most : Int) < (xs.length : Int) then V.int (-1) else optV (badFrom bar xs [] 0)) = .non := h
    by_cases c : (most : Int) < (xs.length : Int)
    · rw [if_pos c] at h'
      cases h'
    · rw [if_neg c] at h'
      have h := h'
      cases hb : badFrom bar xs [] 0 with
      | some i => rw [hb] at h; cases h
      | none =>
        obtain ⟨ss, rfl, ok⟩ := badFrom_none hb
        refine ⟨a, ss, rfl, ha, ?_, ok⟩
        rw [List.length_map] at c
        omega
theorem names_ok {H : Hp} {v : V} {lo hi : Int} {bar : List Str} (h : namesAt H v lo hi bar = .non) : ∃ (a : Addr) (ss : List Str), v = .ref a ∧ H a = some (.lst (ss.map V.str)) ∧ lo ≤ (ss.length : Int) ∧ (ss.length : Int) ≤ hi ∧ firstBad H v hi bar = .non ∧ ∀ s ∈ ss, nameS s = true := by
  unfold namesAt at h
  rcases firstBad_kind (H := H) (v := v) (most := hi) (bar := bar) with ⟨e, xs, hl⟩ | ⟨i, e⟩
  · obtain ⟨a, ss, rfl, ha, hle, ok⟩ := firstBad_none e
    refine ⟨a, ss, rfl, ha, ?_, hle, e, ok⟩
    rw [e, lstOf_of ha] at h
    have h' : (if (((ss.map V.str).length : Nat) : Int) < lo then V.int (-1) else V.non) = V.non := h
    by_cases c : (((ss.map V.str).length : Nat) : Int) < lo
    · rw [if_pos c] at h'
      cases h'
    · rw [List.length_map] at c
      omega
  · rw [e] at h
    cases h
theorem whole_ok {v : V} {lo hi : Int} (h : wholeV v lo hi = true) : ∃ i, v = .int i ∧ lo ≤ i ∧ i ≤ hi := by
  cases v with
  | int i =>
    have h' : (decide (lo ≤ i) && decide (i ≤ hi)) = true := h
    rw [Bool.and_eq_true] at h'
    exact ⟨i, rfl, of_decide_eq_true h'.1, of_decide_eq_true h'.2⟩
  | _ => cases h
theorem radFrom_none : ∀ {xs : List V} {tot : Int} {i : Nat}, radFrom xs tot i = none → ∃ ks : List Int, xs = ks.map V.int
  | [], _, _, _ => ⟨[], rfl⟩
  | v :: r, tot, i, h => by
    by_cases c : intV v = true
    · obtain ⟨k, rfl⟩ := intV_is c
      rw [radFrom_int] at h
      by_cases d : (decide (k < 2) || decide ((12 : Int) < tot * k)) = true
      · rw [if_pos d] at h
        cases h
      · rw [if_neg d] at h
        obtain ⟨ks, rfl⟩ := radFrom_none h
        exact ⟨k :: ks, rfl⟩
    · rw [radFrom_no c] at h
      cases h
theorem rad_ok {H : Hp} {v : V} {th : Int} (h : radicesAt H v th = .non) : ∃ (a : Addr) (ks : List Int), v = .ref a ∧ H a = some (.lst (ks.map V.int)) := by
  unfold radicesAt at h
  cases hl : lstOf H v with
  | none => rw [hl] at h; cases h
  | some xs =>
    rw [hl] at h
    obtain ⟨a, rfl, ha⟩ := lstOf_some hl
    have h' : optV (radFrom xs th 0) = .non := h
    cases hb : radFrom xs th 0 with
    | some i => rw [hb] at h'; cases h'
    | none =>
      obtain ⟨ks, rfl⟩ := radFrom_none hb
      exact ⟨a, ks, rfl, ha⟩
theorem clsFrom_none {H : Hp} : ∀ {xs : List V} {seen : List Str} {i : Nat}, clsFrom H xs seen i = none → ∃ rows : List Row, Paired (RowAt nul H) xs rows ∧ ∀ r ∈ rows, r.fs.length ≤ 3 ∧ nameS r.n = true ∧ ∀ s ∈ r.fs, nameS s = true
  | [], _, _, _ => ⟨[], .nil, fun _ h => by cases h⟩
  | v :: r, seen, i, h => by
    have h' : (if classOk H v seen = true then clsFrom H r (seen ++ [nameOf H v]) (i + 1) else some i) = none := h
    by_cases c : classOk H v seen = true
    · rw [if_pos c] at h'
      obtain ⟨rows, pr, h3⟩ := clsFrom_none h'
      obtain ⟨a, n, z, f, b, rfl, ha, hnm, _, hw, hf, hb⟩ := classOk_is c
      obtain ⟨k, rfl, _, _⟩ := whole_ok hw
      obtain ⟨fl, fs, rfl, hfl, hlen, ok⟩ := firstBad_none hf
      cases b with
      | bl b =>
        refine ⟨⟨n, k, fs, b⟩ :: rows, .cons ⟨a, fl, rfl, rfl, rfl, ha, hfl⟩ pr, fun r hr => ?_⟩
        rcases List.mem_cons.mp hr with rfl | hr
        · exact ⟨by show fs.length ≤ 3; omega, hnm, ok⟩
        · exact h3 r hr
      | _ => cases hb
    · rw [if_neg c] at h'
      cases h'
theorem classes_ok {H : Hp} {v : V} (h : classesAt H v = .non) : ∃ (a : Addr) (rows : List Row), v = .ref a ∧ ClsN nul H a rows ∧ 1 ≤ rows.length ∧ rows.length ≤ 6 ∧ ∀ r ∈ rows, r.fs.length ≤ 3 ∧ nameS r.n = true ∧ ∀ s ∈ r.fs, nameS s = true := by
  unfold classesAt at h
  cases hl : lstOf H v with
  | none => rw [hl] at h; cases h
  | some xs =>
    rw [hl] at h
    obtain ⟨a, rfl, ha⟩ := lstOf_some hl
    have h' : (if (decide ((1 : Int) ≤ (xs.length : Int)) && decide ((xs.length : Int) ≤ 6)) = true then optV (clsFrom H xs [] 0) else V.int (-1)) = .non := h
    by_cases c : (decide ((1 : Int) ≤ (xs.length : Int)) && decide ((xs.length : Int) ≤ 6)) = true
    · rw [if_pos c] at h'
      cases hb : clsFrom H xs [] 0 with
      | some i => rw [hb] at h'; cases h'
      | none =>
        obtain ⟨rows, pr, h3⟩ := clsFrom_none hb
        rw [Bool.and_eq_true] at c
        have c1 := of_decide_eq_true c.1
        have c2 := of_decide_eq_true c.2
        have pl := pr.length
        exact ⟨a, rows, rfl, ⟨rfl, xs, ha, pr⟩, by omega, by omega, h3⟩
    · rw [if_neg c] at h'
      cases h'
/-! ### the answers do not change while all stands -/
theorem namesAt_same {H H' : Hp} {v : V} {lo hi : Int} {bar : List Str} (d : Dat H v) (s : Same H H') : namesAt H' v lo hi bar = namesAt H v lo hi bar := by
  unfold namesAt
  rw [firstBad_same d s, lstOf_same d s]
theorem radicesAt_same {H H' : Hp} {v : V} {th : Int} (d : Dat H v) (s : Same H H') : radicesAt H' v th = radicesAt H v th := by
  unfold radicesAt
  rw [lstOf_same d s]
theorem nameOf_same {H H' : Hp} {v : V} (d : Dat H v) (s : Same H H') : nameOf H' v = nameOf H v := by
  unfold nameOf
  rw [tupOf_same d s]
theorem clsFrom_same {H H' : Hp} (s : Same H H') : ∀ {xs : List V} {seen : List Str} {i : Nat}, (∀ x ∈ xs, Dat H x) → clsFrom H' xs seen i = clsFrom H xs seen i
  | [], _, _, _ => rfl
  | v :: r, seen, i, h => by
    have dv := h v List.mem_cons_self
    show (if classOk H' v seen = true then clsFrom H' r (seen ++ [nameOf H' v]) (i + 1) else some i) = (if classOk H v seen = true then clsFrom H r (seen ++ [nameOf H v]) (i + 1) else some i)
    rw [classOk_same dv s, nameOf_same dv s, clsFrom_same s fun x hx => h x (List.mem_cons_of_mem _ hx)]
theorem classesAt_same {H H' : Hp} {v : V} (d : Dat H v) (s : Same H H') : classesAt H' v = classesAt H v := by
  unfold classesAt
  rw [lstOf_same d s]
  cases hl : lstOf H v with
  | none => rfl
  | some xs =>
    obtain ⟨a, rfl, ha⟩ := lstOf_some hl
    show (if _ then optV (clsFrom H' xs [] 0) else _) = (if _ then optV (clsFrom H xs [] 0) else _)
    rw [clsFrom_same s (d.items ha)]
/-! ### the first fault -/
def strsOf (H : Hp) (v : V) : List Str := match lstOf H v with | some xs => xs.map strOf | none => []
def intOf : V → Int | .int i => i | _ => 0
def faultV (H : Hp) (c n l p r : V) : Option (Str × V) :=
  if classesAt H c ≠ .non then some ("classes", classesAt H c)
  else if namesAt H n 1 8 [] ≠ .non then some ("variables", namesAt H n 1 8 [])
  else if namesAt H l 0 4 (strsOf H n) ≠ .non then some ("weak", namesAt H l 0 4 (strsOf H n))
  else if wholeV p 1 12 = false then some ("threshold", .int (-1))
  else if radicesAt H r (intOf p) ≠ .non then some ("radices", radicesAt H r (intOf p))
  else none
theorem strsOf_is {H : Hp} {a : Addr} {ss : List Str} (h : H a = some (.lst (ss.map V.str))) : strsOf H (.ref a) = ss := by
  unfold strsOf
  rw [lstOf_of h]
  show (ss.map V.str).map strOf = ss
  rw [List.map_map]
  exact List.map_id'' (fun _ => rfl) ss
end K1

set_option Elab.async false
set_option linter.all false
set_option maxRecDepth 100000
set_option maxHeartbeats 4000000
namespace K1
open PySem L2
/-! ### Program.__init__ -/
abbrev sPrI : Stmt := inClass (top 37) 0
def pgF (a b c d e f g : V) : List (Str × V) := putF "_functions" g (putF "_radices" f (putF "_threshold" e (putF "_weak" d (putF "_variables" c (putF "_body" b (putF "_classes" a []))))))
structure NoP (K : PySem.W.Frag) (C : Addr) : Prop where
  cl : Cls K C
  n1 : NoAttr K C "_classes"
  n2 : NoAttr K C "_body"
  n3 : NoAttr K C "_variables"
  n4 : NoAttr K C "_weak"
  n5 : NoAttr K C "_threshold"
  n6 : NoAttr K C "_radices"
  n7 : NoAttr K C "_functions"
/-- a program stands at p, its own objects new since H0 -/
def ProgAt (H0 H : Hp) (CP p : Addr) (rows : List Row) (ns ls : List Str) (th : Int) (ks : List Int) : Prop := ∃ (dx a b c d f g : Addr), H p = some (.ins CP dx (pgF (.ref a) (.ref b) (.ref c) (.ref d) (.int th) (.ref f) (.ref g))) ∧ ClsN H0 H a rows ∧
  (H0 b = none ∧ H b = some (.lst [])) ∧ (H0 c = none ∧ H c = some (.lst (ns.map V.str))) ∧ (H0 d = none ∧ H d = some (.lst (ls.map V.str))) ∧ (H0 f = none ∧ H f = some (.lst (ks.map V.int))) ∧ (H0 g = none ∧ H g = some (.lst []))
/-- what is handed in, when nothing is wrong -/
structure Fine (H : Hp) (c n l p r : V) (rows : List Row) (ns ls : List Str) (th : Int) (ks : List Int) : Prop where
  c : ∃ a, c = .ref a ∧ ClsN nul H a rows
  c1 : 1 ≤ rows.length
  c6 : rows.length ≤ 6
  c3 : ∀ q ∈ rows, q.fs.length ≤ 3
  n : ∃ a, n = .ref a ∧ H a = some (.lst (ns.map V.str))
  l : ∃ a, l = .ref a ∧ H a = some (.lst (ls.map V.str))
  p : p = .int th
  t1 : 1 ≤ th
  t2 : th ≤ 12
  r : ∃ a, r = .ref a ∧ H a = some (.lst (ks.map V.int))
  cOk : ∀ q ∈ rows, nameS q.n = true ∧ ∀ s ∈ q.fs, nameS s = true
  nOk : ∀ s ∈ ns, nameS s = true
  lOk : ∀ s ∈ ls, nameS s = true
/-- while the new program's fields are filled: all else stands -/
structure Fil (H Hx : Hp) (CP p dx : Addr) (fs : List (Str × V)) : Prop where
  keep : ∀ b o, H b = some o → b ≠ p → Hx b = some o
  at_ : Hx p = some (.ins CP dx fs)
theorem Fil.new {H Hx Hy : Hp} {CP p dx : Addr} {fs : List (Str × V)} (f : Fil H Hx CP p dx fs) (s : Same Hx Hy) : Fil H Hy CP p dx fs := ⟨fun b o e n => s _ _ (f.keep b o e n), s _ _ f.at_⟩
theorem Fil.set {H Hx : Hp} {CP p dx : Addr} {fs : List (Str × V)} (f : Fil H Hx CP p dx fs) (gs : List (Str × V)) : Fil H (upd Hx p (.ins CP dx gs)) CP p dx gs := ⟨fun b o e n => by
  rw [upd_ne n]
  exact f.keep b o e n, upd_same⟩
theorem Fil.free {H Hx : Hp} {CP p dx b : Addr} {fs : List (Str × V)} (f : Fil H Hx CP p dx fs) (n : Hx b = none) : H b = none := by
  cases q : H b with
  | none => rfl
  | some o =>
    by_cases hb : b = p
    · rw [hb, f.at_] at n
      cases n
    · rw [f.keep b o q hb] at n
      cases n
theorem ClsN.base {H H1 Hx : Hp} {a : Addr} {rows : List Row} (h : ClsN H1 Hx a rows) (off : ∀ b, H1 b = none → H b = none) : ClsN H Hx a rows := by
  obtain ⟨f0, xs, e, p⟩ := h
  refine ⟨off _ f0, xs, e, p.mono fun x r z => ?_⟩
  obtain ⟨q, fl, e1, z1, z2, z3, z4⟩ := z
  exact ⟨q, fl, e1, off _ z1, off _ z2, z3, z4⟩
/-- a change at an object that stood in H -/
theorem ClsN.other {H Hx : Hp} {a p : Addr} {o u : HO} {rows : List Row} (h : ClsN H Hx a rows) (hp : H p = some o) : ClsN H (upd Hx p u) a rows := by
  obtain ⟨f0, xs, e, pr⟩ := h
  refine ⟨f0, xs, by rw [upd_ne (ne_of_none hp f0).symm]; exact e, pr.mono fun x r z => ?_⟩
  obtain ⟨q, fl, e1, z1, z2, z3, z4⟩ := z
  exact ⟨q, fl, e1, z1, z2, by rw [upd_ne (ne_of_none hp z1).symm]; exact z3, by rw [upd_ne (ne_of_none hp z2).symm]; exact z4⟩
/-- a new list -/
def NewL (H Hx : Hp) (a : Addr) (xs : List V) : Prop := H a = none ∧ Hx a = some (.lst xs)
theorem NewL.mono {H Hx Hy : Hp} {a : Addr} {xs : List V} (h : NewL H Hx a xs) (s : Same Hx Hy) : NewL H Hy a xs := ⟨h.1, s _ _ h.2⟩
theorem NewL.other {H Hx : Hp} {a p : Addr} {o u : HO} {xs : List V} (h : NewL H Hx a xs) (hp : H p = some o) : NewL H (upd Hx p u) a xs := ⟨h.1, by rw [upd_ne (ne_of_none hp h.1).symm]; exact h.2⟩
theorem Fil.lst {H Hx : Hp} {CP p dx q : Addr} {fs : List (Str × V)} (f : Fil H Hx CP p dx fs) (xs : List V) (n : Hx q = none) : NewL H (upd Hx q (.lst xs)) q xs := ⟨f.free n, upd_same⟩
def spPrI (C CP : Addr) : Sp := fun vs H Q E => ∃ (p dx bd fn : Addr) (c n l t r : V), vs = [.ref p, c, .ref bd, n, l, t, r, .ref fn] ∧ H p = some (.ins CP dx []) ∧ Dat H c ∧ Dat H n ∧ Dat H l ∧ Dat H t ∧ Dat H r ∧ H bd = some (.lst []) ∧ H fn = some (.lst []) ∧
  (∀ part at_, faultV H c n l t r = some (part, at_) → Rz C H (.str part) at_ E) ∧
  (faultV H c n l t r = none → ∀ rows ns ls th ks, Fine H c n l t r rows ns ls th ks → ∀ H', ProgAt H H' CP p rows ns ls th ks → (∀ b o, H b = some o → b ≠ p → H' b = some o) → Q .non H')
section
variable {P : Program} {w : World} {K : PySem.W.Frag} {mg : Str → Option Value} {base : Heap} {C CP CU : Addr}
abbrev prN : List Str := ["self", "classes", "body", "variables", "weak", "threshold", "radices", "functions", "calls", "many"]
abbrev prP : List Str := ["self", "classes", "body", "variables", "weak", "threshold", "radices", "functions"]
theorem scPr : FnScope prN prP (defScope sPrI) := ⟨rfl, rfl, rfl, by decide +kernel, rfl, by decide +kernel, by decide +kernel⟩
theorem okPr {f : Addr} {fd : FuncData} (F : Fun K "__init__" "Program.__init__" sPrI f fd) (B : Blt mg) (U : NoP K CP)
    (C28 : Cal P w K mg base (L2.CX P w) 4 "check_classes" ["classes"] (spClasses C)) (C26 : Cal P w K mg base (L2.CX P w) 3 "check_names" ["part", "value", "least", "most", "barred"] (spNames C))
    (C29 : Cal P w K mg base (L2.CX P w) 3 "check_threshold" ["threshold"] (spThr C)) (C30 : Cal P w K mg base (L2.CX P w) 3 "check_radices" ["radices", "threshold"] (spRad C))
    (C33 : Cal P w K mg base CX0 1 "check_functions" ["functions", "classes", "weak", "radices"] spCheckFns) (C32 : Cal P w K mg base CX0 3 "scope_for" ["names", "classes", "weak", "radices", "calls"] spScopeFor)
    (C34 : Cal P w K mg base CX0 4 "check_body" ["body", "scope", "many"] (spCheckBody CU)) (C35 : Cal P w K mg base CX0 1 "copied_classes" ["classes"] spCopyCls)
    (C22 : Cal P w K mg base CX0 1 "copied_block" ["block"] spCopyNil) (C36 : Cal P w K mg base CX0 1 "copied_functions" ["functions"] spCopyNil) :
    FnOk P w K mg base (L2.CX P w) 5 f fd prP (spPrI C CP) := by
  refine F.okX scPr (fun vs H Q E h => ?_) (fun cdv A outer s H vs Q E hr h => ?_)
  · obtain ⟨p, dx, bd, fn, c, n, l, t, r, rfl, _⟩ := h
    rfl
  · obtain ⟨p, dx, bd, fn, c, n, l, t, r, rfl, hp, dc, dn, dl, dt, dr, hbd, hfn, ke, kn⟩ := h
    refine ⟨_, pss_cons (ps_expr (pe_cal C28 hr (by decide) (passes_call (E := E) (takes_of rfl rfl rfl rfl) (fun _ _ _ _ h => h)) (pa_cons (pv 1) pa_nil)))
      (pss_cons (ps_expr (pe_cal C26 hr (by decide) (passes_call (E := E) (takes_of rfl rfl rfl rfl) (fun _ _ _ _ h => h)) (pa_cons pe_str (pa_cons (pv 3) (pa_cons pe_int (pa_cons pe_int (pa_cons (pe_lst pa_nil) pa_nil)))))))
      (pss_cons (ps_expr (pe_cal C26 hr (by decide) (passes_call (E := E) (takes_of rfl rfl rfl rfl) (fun _ _ _ _ h => h)) (pa_cons pe_str (pa_cons (pv 4) (pa_cons pe_int (pa_cons pe_int (pa_cons (pv 3) pa_nil)))))))
      (pss_cons (ps_expr (pe_cal C29 hr (by decide) (passes_call (E := E) (takes_of rfl rfl rfl rfl) (fun _ _ _ _ h => h)) (pa_cons (pv 5) pa_nil)))
      (pss_cons (ps_expr (pe_cal C30 hr (by decide) (passes_call (E := E) (takes_of rfl rfl rfl rfl) (fun _ _ _ _ h => h)) (pa_cons (pv 6) (pa_cons (pv 5) pa_nil))))
      (pss_cons (ps_asg (pe_cal C33 hr (by decide) pass0 (pa_cons (pv 7) (pa_cons (pv 1) (pa_cons (pv 4) (pa_cons (pv 6) pa_nil))))) (pg_tup rfl (pgs_cons (pg_name (i := 8) scPr.nd rfl (Or.inl rfl)) (pgs_cons (pg_name (i := 9) scPr.nd rfl (Or.inl rfl)) pgs_nil))))
      (pss_cons (ps_expr (pe_cal C34 hr (by decide) pass0 (pa_cons (pv 2) (pa_cons (pe_cal C32 hr (by decide) pass0 (pa_cons (pv 3) (pa_cons (pv 1) (pa_cons (pv 4) (pa_cons (pv 6) (pa_cons (pv 8) pa_nil)))))) (pa_cons (pv 9) pa_nil)))))
      (pss_cons (ps_fld (pv 0) (pe_cal C35 hr (by decide) pass0 (pa_cons (pv 1) pa_nil)) rfl)
      (pss_cons (ps_fld (pv 0) (pe_cal C22 hr (by decide) pass0 (pa_cons (pv 2) pa_nil)) rfl)
      (pss_cons (ps_fld (pv 0) (pe_callTy (r := rLof K) call_list_of rfl B.list PyProof.Rows.boot_list (pa_cons (pv 3) pa_nil)) rfl)
      (pss_cons (ps_fld (pv 0) (pe_callTy (r := rLof K) call_list_of rfl B.list PyProof.Rows.boot_list (pa_cons (pv 4) pa_nil)) rfl)
      (pss_cons (ps_fld (pv 0) (pv 5) rfl)
      (pss_cons (ps_fld (pv 0) (pe_callTy (r := rLof K) call_list_of rfl B.list PyProof.Rows.boot_list (pa_cons (pv 6) pa_nil)) rfl)
      (pss_one (ps_fld (pv 0) (pe_cal C36 hr (by decide) pass0 (pa_cons (pv 7) pa_nil)) rfl)))))))))))))), ?_⟩
    -- check_classes
    refine ⟨_, rfl, c, rfl, dc, fun e1 H1 s1 => ?_, fun e1 => ke _ _ (by unfold faultV; rw [if_pos e1])⟩
    -- check_names of the variables
    refine ⟨_, rfl, by decide, fun q1 hq1 => ?_⟩
    have s2 := same_new (o := .lst []) s1 hq1
    refine ⟨_, n, 1, 8, q1, [], rfl, dn.mono s2, upd_same, by decide, fun e2 H3 s3 => ?_, fun e2 => ?_⟩
    rotate_left
    · rw [namesAt_same dn s2] at e2 ⊢
      exact (ke _ _ (by unfold faultV; rw [if_neg (by simp [e1]), if_pos e2])).later s2
    rw [namesAt_same dn s2] at e2
    have s4 := s2.trans s3
    obtain ⟨na, ns, rfl, hna, hn1, hn8, _, nOk⟩ := names_ok e2
    -- check_names of the weak ones
    refine ⟨_, rfl, _, rfl, _, l, 0, 4, na, ns, rfl, dl.mono s4, s4 _ _ hna, by decide, fun e3 H5 s5 => ?_, fun e3 => ?_⟩
    rotate_left
    · rw [namesAt_same dl s4] at e3 ⊢
      exact (ke _ _ (by unfold faultV; rw [strsOf_is hna, if_neg (by simp [e1]), if_neg (by simp [e2]), if_pos e3])).later s4
    rw [namesAt_same dl s4] at e3
    have s6 := s4.trans s5
    obtain ⟨la, ls, rfl, hla, _, hl4, _, lOk⟩ := names_ok e3
    -- check_threshold
    refine ⟨_, rfl, t, rfl, dt.mono s6, fun e4 H7 s7 => ?_, fun e4 => ?_⟩
    rotate_left
    · exact (ke _ _ (by unfold faultV; rw [strsOf_is hna, if_neg (by simp [e1]), if_neg (by simp [e2]), if_neg (by simp [e3]), if_pos e4])).later s6
    have s8 := s6.trans s7
    obtain ⟨th, rfl, ht1, ht2⟩ := whole_ok e4
    -- check_radices
    refine ⟨_, rfl, _, rfl, r, th, rfl, dr.mono s8, ht1, ht2, fun e5 H9 s9 => ?_, fun e5 => ?_⟩
    rotate_left
    · rw [radicesAt_same dr s8] at e5 ⊢
      exact (ke _ _ (by unfold faultV; rw [strsOf_is hna, if_neg (by simp [e1]), if_neg (by simp [e2]), if_neg (by simp [e3]), if_neg (by simp [e4]), if_pos (show radicesAt H r (intOf (.int th)) ≠ .non from e5)]; rfl)).later s8
    rw [radicesAt_same dr s8] at e5
    have s10 := s8.trans s9
    obtain ⟨ra, ks, rfl, hra⟩ := rad_ok e5
    obtain ⟨ca, rows, rfl, hca, hc1, hc6, hcA⟩ := classes_ok e1
    have hc3 : ∀ r ∈ rows, r.fs.length ≤ 3 := fun r h => (hcA r h).1
    have none_ : faultV H (.ref ca) (.ref na) (.ref la) (.int th) (.ref ra) = none := by
      unfold faultV
      rw [strsOf_is hna, if_neg (by simp [e1]), if_neg (by simp [e2]), if_neg (by simp [e3]), if_neg (by simp [e4]), if_neg (show ¬ radicesAt H (.ref ra) (intOf (.int th)) ≠ .non from by show ¬ radicesAt H (.ref ra) th ≠ .non; simp [e5])]
    have fine : Fine H (.ref ca) (.ref na) (.ref la) (.int th) (.ref ra) rows ns ls th ks := ⟨⟨ca, rfl, hca⟩, hc1, hc6, hc3, ⟨na, rfl, hna⟩, ⟨la, rfl, hla⟩, rfl, ht1, ht2, ⟨ra, rfl, hra⟩, fun q h => (hcA q h).2, nOk, lOk⟩
    have k := kn none_ rows ns ls th ks fine
    -- check_functions
    refine ⟨_, rfl, _, rfl, _, rfl, _, rfl, fn, _, _, _, rfl, s10 _ _ hfn, fun tp cd H11 s11 htp => ?_⟩
    have s12 := s10.trans s11
    refine ⟨tp, _, rfl, SqT.of htp, rfl, .ref cd, _, rfl, .int 0, _, rfl, rfl, ?_⟩
    -- check_body, scope_for
    obtain ⟨xs, hxs, hxl⟩ := (hca.mono s12).toL hc3
    refine ⟨_, rfl, _, rfl, _, rfl, _, rfl, _, rfl, _, rfl, _, _, _, ca, ra, xs, _, rfl, hxs, by omega, s12 _ _ hra, fun scp H13 s13 => ?_⟩
    have s14 := s12.trans s13
    refine ⟨_, rfl, bd, _, rfl, s14 _ _ hbd, fun H15 s15 => ?_⟩
    have s16 := s14.trans s15
    have f0 : Fil H H15 CP p dx [] := ⟨fun b o e _ => s16 _ _ e, s16 _ _ hp⟩
    have few : ∀ (n : Nat) (fs : List (Str × V)) (k : Str) (v : V), fs.length ≤ n → (putF k v fs).length ≤ n + 1 := fun n fs k v h => Nat.le_trans (putF_len k v fs) (Nat.succ_le_succ h)
    have apart : ∀ {b : Addr} {xs : List V}, H b = some (.lst xs) → b ≠ p := fun {b xs} e => ne_of e hp (by intro z; cases z)
    have g0 : ([] : List (Str × V)).length ≤ 0 := Nat.le_refl _
    -- self._classes
    refine ⟨_, rfl, ca, nul, rows, rfl, hca.mono s16, hc6, hc3, fun q1 H17 s17 hq1 => ?_⟩
    have f1 := f0.new s17
    have k1 : ClsN H H17 q1 rows := hq1.base fun b z => f0.free z
    refine ⟨_, rfl, p, CP, dx, _, rfl, f1.at_, U.cl, U.n1, by omega, ?_⟩
    have f2 := f1.set (putF "_classes" (.ref q1) [])
    have k2 : ClsN H _ q1 rows := k1.other (u := .ins CP dx (putF "_classes" (.ref q1) [])) hp
    have g1 := few 0 [] "_classes" (.ref q1) g0
    -- self._body
    refine ⟨_, rfl, bd, rfl, f2.keep _ _ hbd (apart hbd), fun q2 H18 s18 nq2 hq2 => ?_⟩
    have f3 := f2.new s18
    have b3 : NewL H H18 q2 [] := ⟨f2.free nq2, hq2⟩
    have k3 := k2.mono s18
    refine ⟨_, rfl, p, CP, dx, _, rfl, f3.at_, U.cl, U.n2, by omega, ?_⟩
    have f4 := f3.set (putF "_body" (.ref q2) (putF "_classes" (.ref q1) []))
    have k4 := k3.other (u := .ins CP dx (putF "_body" (.ref q2) (putF "_classes" (.ref q1) []))) hp
    have b4 := b3.other (u := .ins CP dx (putF "_body" (.ref q2) (putF "_classes" (.ref q1) []))) hp
    have g2 := few 1 _ "_body" (.ref q2) g1
    -- self._variables
    refine ⟨_, rfl, na, _, rfl, .inl (SqL.of (f4.keep _ _ hna (apart hna))), fun q3 nq3 => ?_⟩
    have s19 := same_new (o := .lst (ns.map V.str)) (Same.refl _) nq3
    have f5 := f4.new s19
    have c5 := f4.lst (ns.map V.str) nq3
    have k5 := k4.mono s19
    have b5 := b4.mono s19
    refine ⟨_, rfl, p, CP, dx, _, rfl, f5.at_, U.cl, U.n3, by omega, ?_⟩
    have f6 := f5.set (putF "_variables" (.ref q3) (putF "_body" (.ref q2) (putF "_classes" (.ref q1) [])))
    have k6 := k5.other (u := .ins CP dx (putF "_variables" (.ref q3) (putF "_body" (.ref q2) (putF "_classes" (.ref q1) [])))) hp
    have b6 := b5.other (u := .ins CP dx (putF "_variables" (.ref q3) (putF "_body" (.ref q2) (putF "_classes" (.ref q1) [])))) hp
    have c6 := c5.other (u := .ins CP dx (putF "_variables" (.ref q3) (putF "_body" (.ref q2) (putF "_classes" (.ref q1) [])))) hp
    have g3 := few 2 _ "_variables" (.ref q3) g2
    -- self._weak
    refine ⟨_, rfl, la, _, rfl, .inl (SqL.of (f6.keep _ _ hla (apart hla))), fun q4 nq4 => ?_⟩
    have s20 := same_new (o := .lst (ls.map V.str)) (Same.refl _) nq4
    have f7 := f6.new s20
    have d7 := f6.lst (ls.map V.str) nq4
    have k7 := k6.mono s20
    have b7 := b6.mono s20
    have c7 := c6.mono s20
    refine ⟨_, rfl, p, CP, dx, _, rfl, f7.at_, U.cl, U.n4, by omega, ?_⟩
    have f8 := f7.set (putF "_weak" (.ref q4) (putF "_variables" (.ref q3) (putF "_body" (.ref q2) (putF "_classes" (.ref q1) []))))
    have k8 := k7.other (u := .ins CP dx (putF "_weak" (.ref q4) (putF "_variables" (.ref q3) (putF "_body" (.ref q2) (putF "_classes" (.ref q1) []))))) hp
    have b8 := b7.other (u := .ins CP dx (putF "_weak" (.ref q4) (putF "_variables" (.ref q3) (putF "_body" (.ref q2) (putF "_classes" (.ref q1) []))))) hp
    have c8 := c7.other (u := .ins CP dx (putF "_weak" (.ref q4) (putF "_variables" (.ref q3) (putF "_body" (.ref q2) (putF "_classes" (.ref q1) []))))) hp
    have d8 := d7.other (u := .ins CP dx (putF "_weak" (.ref q4) (putF "_variables" (.ref q3) (putF "_body" (.ref q2) (putF "_classes" (.ref q1) []))))) hp
    have g4 := few 3 _ "_weak" (.ref q4) g3
    -- self._threshold
    refine ⟨_, rfl, _, rfl, p, CP, dx, _, rfl, f8.at_, U.cl, U.n5, by omega, ?_⟩
    have f9 := f8.set (putF "_threshold" (.int th) (putF "_weak" (.ref q4) (putF "_variables" (.ref q3) (putF "_body" (.ref q2) (putF "_classes" (.ref q1) [])))))
    have k9 := k8.other (u := .ins CP dx (putF "_threshold" (.int th) (putF "_weak" (.ref q4) (putF "_variables" (.ref q3) (putF "_body" (.ref q2) (putF "_classes" (.ref q1) [])))))) hp
    have b9 := b8.other (u := .ins CP dx (putF "_threshold" (.int th) (putF "_weak" (.ref q4) (putF "_variables" (.ref q3) (putF "_body" (.ref q2) (putF "_classes" (.ref q1) [])))))) hp
    have c9 := c8.other (u := .ins CP dx (putF "_threshold" (.int th) (putF "_weak" (.ref q4) (putF "_variables" (.ref q3) (putF "_body" (.ref q2) (putF "_classes" (.ref q1) [])))))) hp
    have d9 := d8.other (u := .ins CP dx (putF "_threshold" (.int th) (putF "_weak" (.ref q4) (putF "_variables" (.ref q3) (putF "_body" (.ref q2) (putF "_classes" (.ref q1) [])))))) hp
    have g5 := few 4 _ "_threshold" (.int th) g4
    -- self._radices
    refine ⟨_, rfl, ra, _, rfl, .inl (SqL.of (f9.keep _ _ hra (apart hra))), fun q6 nq6 => ?_⟩
    have s21 := same_new (o := .lst (ks.map V.int)) (Same.refl _) nq6
    have f10 := f9.new s21
    have e10 := f9.lst (ks.map V.int) nq6
    have k10 := k9.mono s21
    have b10 := b9.mono s21
    have c10 := c9.mono s21
    have d10 := d9.mono s21
    refine ⟨_, rfl, p, CP, dx, _, rfl, f10.at_, U.cl, U.n6, by omega, ?_⟩
    generalize hfs6 : putF "_radices" (.ref q6) (putF "_threshold" (.int th) (putF "_weak" (.ref q4) (putF "_variables" (.ref q3) (putF "_body" (.ref q2) (putF "_classes" (.ref q1) []))))) = fs6
    have g6 : fs6.length ≤ 6 := by rw [← hfs6]; exact few 5 _ "_radices" (.ref q6) g5
    have f11 := f10.set fs6
    have k11 := k10.other (u := .ins CP dx fs6) hp
    have b11 := b10.other (u := .ins CP dx fs6) hp
    have c11 := c10.other (u := .ins CP dx fs6) hp
    have d11 := d10.other (u := .ins CP dx fs6) hp
    have e11 := e10.other (u := .ins CP dx fs6) hp
    -- self._functions
    refine ⟨_, rfl, fn, rfl, f11.keep _ _ hfn (apart hfn), fun q7 H22 s22 nq7 hq7 => ?_⟩
    have f12 := f11.new s22
    have h12 : NewL H H22 q7 [] := ⟨f11.free nq7, hq7⟩
    refine ⟨_, rfl, p, CP, dx, _, rfl, f12.at_, U.cl, U.n7, by omega, ?_⟩
    have f13 := f12.set (putF "_functions" (.ref q7) fs6)
    refine k _ ⟨dx, q1, q2, q3, q4, q6, q7, ?_, (k11.mono s22).other hp, (b11.mono s22).other hp, (c11.mono s22).other hp, (d11.mono s22).other hp, (e11.mono s22).other hp, h12.other hp⟩ f13.keep
    rw [f13.at_, ← hfs6]
    rfl
end
end K1

set_option Elab.async false
set_option linter.all false
set_option maxRecDepth 100000
set_option maxHeartbeats 4000000
namespace K1
open PySem L2
/-! ### what a program tells -/
theorem pg1 (a b c d e f g : V) : (pgF a b c d e f g).lookup ("_classes" : Str) = some a := by
  unfold pgF
  repeat rw [lookup_putF, if_neg (by decide +kernel)]
  rw [lookup_putF, if_pos rfl]
theorem pg2 (a b c d e f g : V) : (pgF a b c d e f g).lookup ("_body" : Str) = some b := by
  unfold pgF
  rw [lookup_putF, if_neg (by decide +kernel), lookup_putF, if_neg (by decide +kernel), lookup_putF, if_neg (by decide +kernel), lookup_putF, if_neg (by decide +kernel), lookup_putF, if_neg (by decide +kernel), lookup_putF, if_pos rfl]
theorem pg3 (a b c d e f g : V) : (pgF a b c d e f g).lookup ("_variables" : Str) = some c := by
  unfold pgF
  rw [lookup_putF, if_neg (by decide +kernel), lookup_putF, if_neg (by decide +kernel), lookup_putF, if_neg (by decide +kernel), lookup_putF, if_neg (by decide +kernel), lookup_putF, if_pos rfl]
theorem pg4 (a b c d e f g : V) : (pgF a b c d e f g).lookup ("_weak" : Str) = some d := by
  unfold pgF
  rw [lookup_putF, if_neg (by decide +kernel), lookup_putF, if_neg (by decide +kernel), lookup_putF, if_neg (by decide +kernel), lookup_putF, if_pos rfl]
theorem pg5 (a b c d e f g : V) : (pgF a b c d e f g).lookup ("_threshold" : Str) = some e := by
  unfold pgF
  rw [lookup_putF, if_neg (by decide +kernel), lookup_putF, if_neg (by decide +kernel), lookup_putF, if_pos rfl]
theorem pg6 (a b c d e f g : V) : (pgF a b c d e f g).lookup ("_radices" : Str) = some f := by
  unfold pgF
  rw [lookup_putF, if_neg (by decide +kernel), lookup_putF, if_pos rfl]
theorem pg7 (a b c d e f g : V) : (pgF a b c d e f g).lookup ("_functions" : Str) = some g := by
  unfold pgF
  rw [lookup_putF, if_pos rfl]
/-- no method's name is an attribute of the instance -/
theorem pg_no {m : Str} (a b c d e f g : V) (h1 : ¬ m = "_classes") (h2 : ¬ m = "_body") (h3 : ¬ m = "_variables") (h4 : ¬ m = "_weak") (h5 : ¬ m = "_threshold") (h6 : ¬ m = "_radices") (h7 : ¬ m = "_functions") : (pgF a b c d e f g).lookup m = none := by
  unfold pgF
  rw [lookup_putF, if_neg h7, lookup_putF, if_neg h6, lookup_putF, if_neg h5, lookup_putF, if_neg h4, lookup_putF, if_neg h3, lookup_putF, if_neg h2, lookup_putF, if_neg h1]
  rfl
/-- which program stands at p -/
structure Pg where
  rows : List Row
  ns : List Str
  ls : List Str
  th : Int
  ks : List Int
def PgAt (H0 H : Hp) (CP p : Addr) (g : Pg) : Prop := ProgAt H0 H CP p g.rows g.ns g.ls g.th g.ks ∧ g.rows.length ≤ 6 ∧ ∀ r ∈ g.rows, r.fs.length ≤ 3
theorem NewL.base {H H1 Hx : Hp} {a : Addr} {xs : List V} (h : NewL H1 Hx a xs) (off : ∀ b, H1 b = none → H b = none) : NewL H Hx a xs := ⟨off _ h.1, h.2⟩
def spTell (CP : Addr) (G : Pg → Hp → Hp → V → Prop) : Sp := fun vs H Q _ => ∃ (p : Addr) (H0 : Hp) (g : Pg), vs = [.ref p] ∧ PgAt H0 H CP p g ∧ ∀ v H', Same H H' → G g H H' v → Q v H'
def gCls (g : Pg) (H H' : Hp) (v : V) : Prop := ∃ q, v = .ref q ∧ ClsN H H' q g.rows
def gNil' (_ : Pg) (H H' : Hp) (v : V) : Prop := ∃ q, v = .ref q ∧ NewL H H' q []
def gVar (g : Pg) (H H' : Hp) (v : V) : Prop := ∃ q, v = .ref q ∧ NewL H H' q (g.ns.map V.str)
def gWk (g : Pg) (H H' : Hp) (v : V) : Prop := ∃ q, v = .ref q ∧ NewL H H' q (g.ls.map V.str)
def gTh (g : Pg) (_ _ : Hp) (v : V) : Prop := v = .int g.th
def gRad (g : Pg) (H H' : Hp) (v : V) : Prop := ∃ q, v = .ref q ∧ NewL H H' q (g.ks.map V.int)
section
variable {P : Program} {w : World} {K : PySem.W.Frag} {mg : Str → Option Value} {base : Heap} {CP : Addr} {f : Addr} {fd : FuncData}
theorem scM1 : FnScope ["self"] ["self"] (defScope (inClass (top 37) 1)) := ⟨rfl, rfl, rfl, by decide +kernel, rfl, by decide +kernel, by decide +kernel⟩
theorem okM1 (F : Fun K "classes" "Program.classes" (inClass (top 37) 1) f fd) (U : NoP K CP) (C35 : Cal P w K mg base CX0 1 "copied_classes" ["classes"] spCopyCls) : FnOk P w K mg base CX0 2 f fd ["self"] (spTell CP gCls) := by
  refine F.ok scM1 (fun vs H Q E h => ?_) (fun cdv A outer s H vs Q E hr h => ?_)
  · obtain ⟨p, H0, g, rfl, _⟩ := h
    rfl
  · obtain ⟨p, H0, g, rfl, ⟨⟨dx, a, b, c, d, e, i, hp, ha, hb, hc, hd, he, hi⟩, h6, h3⟩, k⟩ := h
    refine ⟨_, pss_one (ps_ret (pe_cal C35 hr (by decide) pass0 (pa_cons (pe_fld (pv 0) rfl) pa_nil))), ?_⟩
    refine ⟨_, rfl, p, CP, dx, _, _, rfl, hp, U.cl, U.n1, pg1 _ _ _ _ _ _ _, ?_⟩
    exact ⟨a, H0, g.rows, rfl, ha, h6, h3, fun q H' s' hq => k _ _ s' ⟨q, rfl, hq⟩⟩
theorem scM2 : FnScope ["self"] ["self"] (defScope (inClass (top 37) 2)) := ⟨rfl, rfl, rfl, by decide +kernel, rfl, by decide +kernel, by decide +kernel⟩
theorem okM2 (F : Fun K "body" "Program.body" (inClass (top 37) 2) f fd) (U : NoP K CP) (C22 : Cal P w K mg base CX0 1 "copied_block" ["block"] spCopyNil) : FnOk P w K mg base CX0 2 f fd ["self"] (spTell CP gNil') := by
  refine F.ok scM2 (fun vs H Q E h => ?_) (fun cdv A outer s H vs Q E hr h => ?_)
  · obtain ⟨p, H0, g, rfl, _⟩ := h
    rfl
  · obtain ⟨p, H0, g, rfl, ⟨⟨dx, a, b, c, d, e, i, hp, ha, hb, hc, hd, he, hi⟩, h6, h3⟩, k⟩ := h
    refine ⟨_, pss_one (ps_ret (pe_cal C22 hr (by decide) pass0 (pa_cons (pe_fld (pv 0) rfl) pa_nil))), ?_⟩
    refine ⟨_, rfl, p, CP, dx, _, _, rfl, hp, U.cl, U.n2, pg2 _ _ _ _ _ _ _, ?_⟩
    exact ⟨b, rfl, hb.2, fun q H' s' hq e => k _ _ s' ⟨q, rfl, hq, e⟩⟩
theorem scM3 : FnScope ["self"] ["self"] (defScope (inClass (top 37) 3)) := ⟨rfl, rfl, rfl, by decide +kernel, rfl, by decide +kernel, by decide +kernel⟩
theorem okM3 (F : Fun K "variables" "Program.variables" (inClass (top 37) 3) f fd) (B : Blt mg) (U : NoP K CP) : FnOk P w K mg base CX0 1 f fd ["self"] (spTell CP gVar) := by
  refine F.ok scM3 (fun vs H Q E h => ?_) (fun cdv A outer s H vs Q E hr h => ?_)
  · obtain ⟨p, H0, g, rfl, _⟩ := h
    rfl
  · obtain ⟨p, H0, g, rfl, ⟨⟨dx, a, b, c, d, e, i, hp, ha, hb, hc, hd, he, hi⟩, h6, h3⟩, k⟩ := h
    refine ⟨_, pss_one (ps_ret (pe_callTy (r := rLof K) call_list_of rfl B.list PyProof.Rows.boot_list (pa_cons (pe_fld (pv 0) rfl) pa_nil))), ?_⟩
    refine ⟨_, rfl, p, CP, dx, _, _, rfl, hp, U.cl, U.n3, pg3 _ _ _ _ _ _ _, ?_⟩
    exact ⟨c, _, rfl, .inl (SqL.of hc.2), fun q hq => k _ _ (same_new (Same.refl _) hq) ⟨q, rfl, hq, upd_same⟩⟩
theorem scM4 : FnScope ["self"] ["self"] (defScope (inClass (top 37) 4)) := ⟨rfl, rfl, rfl, by decide +kernel, rfl, by decide +kernel, by decide +kernel⟩
theorem okM4 (F : Fun K "weak" "Program.weak" (inClass (top 37) 4) f fd) (B : Blt mg) (U : NoP K CP) : FnOk P w K mg base CX0 1 f fd ["self"] (spTell CP gWk) := by
  refine F.ok scM4 (fun vs H Q E h => ?_) (fun cdv A outer s H vs Q E hr h => ?_)
  · obtain ⟨p, H0, g, rfl, _⟩ := h
    rfl
  · obtain ⟨p, H0, g, rfl, ⟨⟨dx, a, b, c, d, e, i, hp, ha, hb, hc, hd, he, hi⟩, h6, h3⟩, k⟩ := h
    refine ⟨_, pss_one (ps_ret (pe_callTy (r := rLof K) call_list_of rfl B.list PyProof.Rows.boot_list (pa_cons (pe_fld (pv 0) rfl) pa_nil))), ?_⟩
    refine ⟨_, rfl, p, CP, dx, _, _, rfl, hp, U.cl, U.n4, pg4 _ _ _ _ _ _ _, ?_⟩
    exact ⟨d, _, rfl, .inl (SqL.of hd.2), fun q hq => k _ _ (same_new (Same.refl _) hq) ⟨q, rfl, hq, upd_same⟩⟩
theorem scM5 : FnScope ["self"] ["self"] (defScope (inClass (top 37) 5)) := ⟨rfl, rfl, rfl, by decide +kernel, rfl, by decide +kernel, by decide +kernel⟩
theorem okM5 (F : Fun K "threshold" "Program.threshold" (inClass (top 37) 5) f fd) (U : NoP K CP) : FnOk P w K mg base CX0 1 f fd ["self"] (spTell CP gTh) := by
  refine F.ok scM5 (fun vs H Q E h => ?_) (fun cdv A outer s H vs Q E hr h => ?_)
  · obtain ⟨p, H0, g, rfl, _⟩ := h
    rfl
  · obtain ⟨p, H0, g, rfl, ⟨⟨dx, a, b, c, d, e, i, hp, ha, hb, hc, hd, he, hi⟩, h6, h3⟩, k⟩ := h
    refine ⟨_, pss_one (ps_ret (pe_fld (pv 0) rfl)), ?_⟩
    exact ⟨_, rfl, p, CP, dx, _, _, rfl, hp, U.cl, U.n5, pg5 _ _ _ _ _ _ _, k _ _ (Same.refl _) rfl⟩
theorem scM6 : FnScope ["self"] ["self"] (defScope (inClass (top 37) 6)) := ⟨rfl, rfl, rfl, by decide +kernel, rfl, by decide +kernel, by decide +kernel⟩
theorem okM6 (F : Fun K "radices" "Program.radices" (inClass (top 37) 6) f fd) (B : Blt mg) (U : NoP K CP) : FnOk P w K mg base CX0 1 f fd ["self"] (spTell CP gRad) := by
  refine F.ok scM6 (fun vs H Q E h => ?_) (fun cdv A outer s H vs Q E hr h => ?_)
  · obtain ⟨p, H0, g, rfl, _⟩ := h
    rfl
  · obtain ⟨p, H0, g, rfl, ⟨⟨dx, a, b, c, d, e, i, hp, ha, hb, hc, hd, he, hi⟩, h6, h3⟩, k⟩ := h
    refine ⟨_, pss_one (ps_ret (pe_callTy (r := rLof K) call_list_of rfl B.list PyProof.Rows.boot_list (pa_cons (pe_fld (pv 0) rfl) pa_nil))), ?_⟩
    refine ⟨_, rfl, p, CP, dx, _, _, rfl, hp, U.cl, U.n6, pg6 _ _ _ _ _ _ _, ?_⟩
    exact ⟨e, _, rfl, .inl (SqL.of he.2), fun q hq => k _ _ (same_new (Same.refl _) hq) ⟨q, rfl, hq, upd_same⟩⟩
theorem scM7 : FnScope ["self"] ["self"] (defScope (inClass (top 37) 7)) := ⟨rfl, rfl, rfl, by decide +kernel, rfl, by decide +kernel, by decide +kernel⟩
theorem okM7 (F : Fun K "functions" "Program.functions" (inClass (top 37) 7) f fd) (U : NoP K CP) (C36 : Cal P w K mg base CX0 1 "copied_functions" ["functions"] spCopyNil) : FnOk P w K mg base CX0 2 f fd ["self"] (spTell CP gNil') := by
  refine F.ok scM7 (fun vs H Q E h => ?_) (fun cdv A outer s H vs Q E hr h => ?_)
  · obtain ⟨p, H0, g, rfl, _⟩ := h
    rfl
  · obtain ⟨p, H0, g, rfl, ⟨⟨dx, a, b, c, d, e, i, hp, ha, hb, hc, hd, he, hi⟩, h6, h3⟩, k⟩ := h
    refine ⟨_, pss_one (ps_ret (pe_cal C36 hr (by decide) pass0 (pa_cons (pe_fld (pv 0) rfl) pa_nil))), ?_⟩
    refine ⟨_, rfl, p, CP, dx, _, _, rfl, hp, U.cl, U.n7, pg7 _ _ _ _ _ _ _, ?_⟩
    exact ⟨i, rfl, hi.2, fun q H' s' hq e => k _ _ s' ⟨q, rfl, hq, e⟩⟩
end
end K1

set_option Elab.async false
set_option linter.all false
set_option maxRecDepth 100000
set_option maxHeartbeats 4000000
namespace L2
open PySem PySem.Spec PyProof.Rows
/-- d.update(e), both dicts, two objects -/
def rUpd1 : V → List V → Hp → VK → Prop := fun x vs H Q => ∃ (d o : Addr) (kvs more : List (Key × V)), x = .ref d ∧ vs = [.ref o] ∧ d ≠ o ∧ H d = some (.dK kvs) ∧ H o = some (.dK more) ∧ kvs.length + more.length ≤ sizeLine ∧ Q .non (upd H d (.dK (mergeK kvs more)))
theorem mt_upd1 {X : Cx} : MtR X "dict.update" rUpd1 := by
  intro pins s σ H x xs v us Q I rx r h
  obtain ⟨d, o, kvs, more, rfl, rfl, ne, hd, ho, few, q⟩ := h
  obtain ⟨u, rfl, ru⟩ := vals1 r
  obtain rfl : v = Value.ref d := rx
  obtain rfl : u = Value.ref o := ru
  obtain ⟨z1, y1, vs1, r1, d1⟩ := dk_of I.hok hd
  obtain ⟨z2, y2, vs2, r2, d2⟩ := dk_of I.hok ho
  refine call_meetsIn PySem.F.slot_dict_update d1.typeIs PySem.F.entry_dict_update (PySem.F.args_dict_update_2 _ _) (meets_dict_update (mixKind X.prog X.w) d o ne y2) ⟨vs1, vs2, d1, d2, ?_, fun h' dd _ sb => ?_⟩
  · rw [← r1.length, ← r2.length]
    exact few
  · have there : ∃ z, h'.get? d = some z := by
      obtain ⟨z, _, _, e, _⟩ := dd
      exact ⟨z, e⟩
    have len : (mergeK kvs more).length ≤ sizeLine := Nat.le_trans (length_mergeK more kvs) few
    exact ⟨.non, upd H d (.dK (mergeK kvs more)), d_write I (by rw [hd]; exact True.intro) sb there (dk_new len y1 (KV.merge r2 r1) dd), rfl, q⟩
/-- a statement, a word, the rest -/
def tMid (t u : TS) : TS := fun D σ H => ∃ W : St → Hp → Prop, t { D with nx := W } σ H ∧ ∀ σ1 H1, W σ1 H1 → u D σ1 H1
theorem pss_mid {X : Cx} {st : Stmt} {rest : List Stmt} {t u : TS} (h1 : PS X st t) (h2 : PSs X rest u) : PSs X (st :: rest) (tMid t u) := by
  refine ⟨fun pins s σ H D I ⟨W, a, b⟩ => ?_⟩
  refine wpAny_execs_cons ?_
  refine thn (h1.run pins s σ H { D with nx := W } I a) fun f s1 q => ?_
  cases f with
  | next =>
    obtain ⟨σ1, H1, I1, q⟩ := q
    exact h2.run pins s1 σ1 H1 D I1 (b σ1 H1 q)
  | ret v => exact q
  | brk => exact q
  | cont => exact q
/-- tuple(xs), by values -/
def rTof (K : PySem.W.Frag) : List V → Hp → VK → Prop := fun xs H Q => ∃ p ys, xs = [.ref p] ∧ ((SqL K H p ys ∧ ∀ l, H l = none → Q (.ref l) (upd H l (.tup ys))) ∨ (SqT K H p ys ∧ Q (.ref p) H))
end L2
namespace K1
open PySem L2
theorem dstr {H : Hp} {s : Str} (h : (decide (s.length ≤ 1000) && PyData.strOk s) = true := by decide +kernel) : Dat H (.str s) := by
  rw [Bool.and_eq_true] at h
  exact .str s ⟨of_decide_eq_true h.1, h.2⟩
/-- a new list, a new tuple of data -/
theorem Dat.newL {H : Hp} {p : Addr} {xs : List V} (n : H p = none) (h : ∀ x ∈ xs, Dat H x) : Dat (upd H p (.lst xs)) (.ref p) := .lst upd_same fun x hx => (h x hx).mono (same_new (Same.refl _) n)
theorem Dat.newT {H : Hp} {p : Addr} {xs : List V} (n : H p = none) (h : ∀ x ∈ xs, Dat H x) : Dat (upd H p (.tup xs)) (.ref p) := .tup upd_same fun x hx => (h x hx).mono (same_new (Same.refl _) n)
theorem Dat.new {H : Hp} {p : Addr} {o : HO} {v : V} (n : H p = none) (d : Dat H v) : Dat (upd H p o) v := d.mono (same_new (Same.refl _) n)
/-- a dict is changed into a dict -/
theorem Dat.updD {H : Hp} {a : Addr} {kvs kvs' : List (Key × V)} (e : H a = some (.dK kvs)) {v : V} (d : Dat H v) : Dat (upd H a (.dK kvs')) v := by
  induction d with
  | non => exact .non
  | bl b => exact .bl b
  | int i => exact .int i
  | str z h => exact .str z h
  | lst q _ ih => exact .lst (by rw [upd_ne (ne_of q e (by intro z; cases z))]; exact q) ih
  | tup q _ ih => exact .tup (by rw [upd_ne (ne_of q e (by intro z; cases z))]; exact q) ih
  | @dic b ks q =>
    by_cases h : b = a
    · rw [h]
      exact .dic upd_same
    · exact .dic (by rw [upd_ne h]; exact q)
theorem mem3 {α : Type} {P : α → Prop} {a b c : α} (h1 : P a) (h2 : P b) (h3 : P c) : ∀ x ∈ [a, b, c], P x := fun x hx => by
  simp only [List.mem_cons, List.not_mem_nil, or_false] at hx
  rcases hx with rfl | rfl | rfl <;> assumption
theorem at_mod {xs : List V} {n : Nat} (h : xs.length = n) (hn : 0 < n) (z : Int) : ∃ v, atI xs (z % (n : Int)) = some v ∧ v ∈ xs := by
  have h1 := Int.emod_nonneg z (show (n : Int) ≠ 0 by omega)
  have h2 := Int.emod_lt_of_pos z (show (0 : Int) < (n : Int) by omega)
  obtain ⟨j, e⟩ : ∃ j : Nat, z % (n : Int) = (j : Int) := ⟨(z % (n : Int)).toNat, by omega⟩
  rw [e] at h2 ⊢
  have hj : j < xs.length := by omega
  exact ⟨xs[j], atI_nat (List.getElem?_eq_getElem hj), List.getElem_mem hj⟩
theorem dig_at {ds : List Int} (h : ds.length = 20) (j : Nat) (hj : j < 20) : ∃ x, atI (ds.map V.int) (j : Int) = some (.int x) := by
  have hj' : j < ds.length := by omega
  exact ⟨ds[j], atI_nat (by rw [List.getElem?_map, List.getElem?_eq_getElem hj']; rfl)⟩
theorem cut_mem {xs : List V} {lo hi : Option Int} {x : V} (h : x ∈ cutV xs lo hi) : x ∈ xs := List.mem_of_mem_drop (List.mem_of_mem_take h)
/-! ### the five parts in the dict -/
structure Five (kvs : List (Key × V)) (c n l p r : V) : Prop where
  c : valV kvs (Sum.inr ("classes" : Str)) = some c
  n : valV kvs (Sum.inr ("names" : Str)) = some n
  l : valV kvs (Sum.inr ("loose" : Str)) = some l
  p : valV kvs (Sum.inr ("pace" : Str)) = some p
  r : valV kvs (Sum.inr ("rest" : Str)) = some r
theorem five_c {kvs : List (Key × V)} {c n l p r : V} (f : Five kvs c n l p r) (y : V) : Five (putK kvs (Sum.inr ("classes" : Str)) y) y n l p r :=
  ⟨by rw [valV_put, if_pos rfl], by rw [valV_put, if_neg (by decide +kernel)]; exact f.n, by rw [valV_put, if_neg (by decide +kernel)]; exact f.l, by rw [valV_put, if_neg (by decide +kernel)]; exact f.p, by rw [valV_put, if_neg (by decide +kernel)]; exact f.r⟩
theorem five_n {kvs : List (Key × V)} {c n l p r : V} (f : Five kvs c n l p r) (y : V) : Five (putK kvs (Sum.inr ("names" : Str)) y) c y l p r :=
  ⟨by rw [valV_put, if_neg (by decide +kernel)]; exact f.c, by rw [valV_put, if_pos rfl], by rw [valV_put, if_neg (by decide +kernel)]; exact f.l, by rw [valV_put, if_neg (by decide +kernel)]; exact f.p, by rw [valV_put, if_neg (by decide +kernel)]; exact f.r⟩
theorem five_l {kvs : List (Key × V)} {c n l p r : V} (f : Five kvs c n l p r) (y : V) : Five (putK kvs (Sum.inr ("loose" : Str)) y) c n y p r :=
  ⟨by rw [valV_put, if_neg (by decide +kernel)]; exact f.c, by rw [valV_put, if_neg (by decide +kernel)]; exact f.n, by rw [valV_put, if_pos rfl], by rw [valV_put, if_neg (by decide +kernel)]; exact f.p, by rw [valV_put, if_neg (by decide +kernel)]; exact f.r⟩
theorem five_p {kvs : List (Key × V)} {c n l p r : V} (f : Five kvs c n l p r) (y : V) : Five (putK kvs (Sum.inr ("pace" : Str)) y) c n l y r :=
  ⟨by rw [valV_put, if_neg (by decide +kernel)]; exact f.c, by rw [valV_put, if_neg (by decide +kernel)]; exact f.n, by rw [valV_put, if_neg (by decide +kernel)]; exact f.l, by rw [valV_put, if_pos rfl], by rw [valV_put, if_neg (by decide +kernel)]; exact f.r⟩
theorem five_r {kvs : List (Key × V)} {c n l p r : V} (f : Five kvs c n l p r) (y : V) : Five (putK kvs (Sum.inr ("rest" : Str)) y) c n l p y :=
  ⟨by rw [valV_put, if_neg (by decide +kernel)]; exact f.c, by rw [valV_put, if_neg (by decide +kernel)]; exact f.n, by rw [valV_put, if_neg (by decide +kernel)]; exact f.l, by rw [valV_put, if_neg (by decide +kernel)]; exact f.p, by rw [valV_put, if_pos rfl]⟩
/-- a list of data of few items -/
def LsD (H : Hp) (v : V) : Prop := ∃ a xs, v = .ref a ∧ H a = some (.lst xs) ∧ xs.length ≤ 50
end K1

set_option Elab.async false
set_option linter.all false
set_option maxRecDepth 100000
set_option maxHeartbeats 4000000
namespace K1
open PySem L2
/-! ### Scope with what it holds -/
def scF (a b c d e f : V) : List (Str × V) := putF "calls" f (putF "levels" e (putF "weak_names" d (putF "variable_names" c (putF "field_names" b (putF "class_names" a [])))))
theorem sc_f1 (a b c d e f : V) : (scF a b c d e f).lookup ("class_names" : Str) = some a := by
  unfold scF
  rw [lookup_putF, if_neg (by decide +kernel), lookup_putF, if_neg (by decide +kernel), lookup_putF, if_neg (by decide +kernel), lookup_putF, if_neg (by decide +kernel), lookup_putF, if_neg (by decide +kernel), lookup_putF, if_pos rfl]
theorem sc_f2 (a b c d e f : V) : (scF a b c d e f).lookup ("field_names" : Str) = some b := by
  unfold scF
  rw [lookup_putF, if_neg (by decide +kernel), lookup_putF, if_neg (by decide +kernel), lookup_putF, if_neg (by decide +kernel), lookup_putF, if_neg (by decide +kernel), lookup_putF, if_pos rfl]
theorem sc_f3 (a b c d e f : V) : (scF a b c d e f).lookup ("variable_names" : Str) = some c := by
  unfold scF
  rw [lookup_putF, if_neg (by decide +kernel), lookup_putF, if_neg (by decide +kernel), lookup_putF, if_neg (by decide +kernel), lookup_putF, if_pos rfl]
theorem sc_f4 (a b c d e f : V) : (scF a b c d e f).lookup ("weak_names" : Str) = some d := by
  unfold scF
  rw [lookup_putF, if_neg (by decide +kernel), lookup_putF, if_neg (by decide +kernel), lookup_putF, if_pos rfl]
theorem sc_f5 (a b c d e f : V) : (scF a b c d e f).lookup ("levels" : Str) = some e := by
  unfold scF
  rw [lookup_putF, if_neg (by decide +kernel), lookup_putF, if_pos rfl]
theorem sc_f6 (a b c d e f : V) : (scF a b c d e f).lookup ("calls" : Str) = some f := by
  unfold scF
  rw [lookup_putF, if_pos rfl]
def spScG (C : Addr) : Sp := fun vs H Q _ => ∃ (p dx : Addr) (a b c d e f : V), vs = [.ref p, a, b, c, d, e, f] ∧ H p = some (.ins C dx []) ∧ ∀ H', H' p = some (.ins C dx (scF a b c d e f)) → (∀ b o, H b = some o → b ≠ p → H' b = some o) → Q .non H'
section
variable {P : Program} {w : World} {K : PySem.W.Frag} {mg : Str → Option Value} {base : Heap}
theorem okScG {f C : Addr} {fd : FuncData} (F : Fun K "__init__" "Scope.__init__" sScI f fd) (T : NoS K C) : FnOk P w K mg base CX0 1 f fd ["self", "class_names", "field_names", "variable_names", "weak_names", "levels", "calls"] (spScG C) := by
  refine F.ok scSc (fun vs H Q E h => ?_) (fun cdv A outer s H vs Q E hr h => ?_)
  · obtain ⟨p, dx, a, b, c, d, e, f, rfl, _⟩ := h
    rfl
  · obtain ⟨p, dx, a, b, c, d, e, f, rfl, hp, k⟩ := h
    refine ⟨_, pss_cons (ps_fld (pv 0) (pv 1) rfl) (pss_cons (ps_fld (pv 0) (pv 2) rfl) (pss_cons (ps_fld (pv 0) (pv 3) rfl) (pss_cons (ps_fld (pv 0) (pv 4) rfl) (pss_cons (ps_fld (pv 0) (pv 5) rfl) (pss_one (ps_fld (pv 0) (pv 6) rfl)))))), ?_⟩
    have z0 : ([] : List (Str × V)).length ≤ 0 := Nat.le_refl _
    have z1 := putF_len "class_names" a []
    have z2 := putF_len "field_names" b (putF "class_names" a [])
    have z3 := putF_len "variable_names" c (putF "field_names" b (putF "class_names" a []))
    have z4 := putF_len "weak_names" d (putF "variable_names" c (putF "field_names" b (putF "class_names" a [])))
    have z5 := putF_len "levels" e (putF "weak_names" d (putF "variable_names" c (putF "field_names" b (putF "class_names" a []))))
    refine ⟨_, rfl, _, rfl, p, C, dx, _, rfl, hp, T.cl, T.n1, by omega, ?_⟩
    refine ⟨_, rfl, _, rfl, p, C, dx, _, rfl, upd_same, T.cl, T.n2, by omega, ?_⟩
    refine ⟨_, rfl, _, rfl, p, C, dx, _, rfl, upd_same, T.cl, T.n3, by omega, ?_⟩
    refine ⟨_, rfl, _, rfl, p, C, dx, _, rfl, upd_same, T.cl, T.n4, by omega, ?_⟩
    refine ⟨_, rfl, _, rfl, p, C, dx, _, rfl, upd_same, T.cl, T.n5, by omega, ?_⟩
    refine ⟨_, rfl, _, rfl, p, C, dx, _, rfl, upd_same, T.cl, T.n6, by omega, ?_⟩
    refine k _ upd_same fun b o e hb => ?_
    rw [upd_ne hb, upd_ne hb, upd_ne hb, upd_ne hb, upd_ne hb, upd_ne hb]
    exact e
end
/-! ### what a scope holds -/
structure Sco where
  cn : List Str
  fn : List Str
  vn : List Str
  wn : List Str
  lv : Int
  cs : List (Str × (Int × Bool × Int))
/-- a dict whose keys are these -/
def KeysAre (H : Hp) (a : Addr) (ns : List Str) : Prop := ∃ kvs : List (Key × V), H a = some (.dK kvs) ∧ ∀ s : Str, (valV kvs (Sum.inr s)).isSome = decide (s ∈ ns)
def CallsAt (H : Hp) (a : Addr) (cs : List (Str × (Int × Bool × Int))) : Prop := ∃ kvs : List (Key × V), H a = some (.dK kvs) ∧ ∀ s : Str, match cs.lookup s with
  | none => valV kvs (Sum.inr s) = none
  | some (m, h, d) => ∃ t, valV kvs (Sum.inr s) = some (.ref t) ∧ H t = some (.tup [.int m, .bl h, .int d])
structure ScAt (H : Hp) (C p : Addr) (sc : Sco) : Prop where
  ex : ∃ dx a b c d f : Addr, H p = some (.ins C dx (scF (.ref a) (.ref b) (.ref c) (.ref d) (.int sc.lv) (.ref f))) ∧ H a = some (.lst (sc.cn.map V.str)) ∧ KeysAre H b sc.fn ∧ H c = some (.lst (sc.vn.map V.str)) ∧ H d = some (.lst (sc.wn.map V.str)) ∧ CallsAt H f sc.cs
theorem KeysAre.mono {H H' : Hp} {a : Addr} {ns : List Str} (h : KeysAre H a ns) (s : Same H H') : KeysAre H' a ns := by
  obtain ⟨kvs, e, k⟩ := h
  exact ⟨kvs, s _ _ e, k⟩
theorem CallsAt.mono {H H' : Hp} {a : Addr} {cs : List (Str × (Int × Bool × Int))} (h : CallsAt H a cs) (s : Same H H') : CallsAt H' a cs := by
  obtain ⟨kvs, e, k⟩ := h
  refine ⟨kvs, s _ _ e, fun z => ?_⟩
  have q := k z
  cases h2 : cs.lookup z with
  | none =>
    rw [h2] at q
    exact q
  | some r =>
    obtain ⟨m, b, d⟩ := r
    rw [h2] at q
    obtain ⟨t, e1, e2⟩ := q
    exact ⟨t, e1, s _ _ e2⟩
theorem ScAt.mono {H H' : Hp} {C p : Addr} {sc : Sco} (h : ScAt H C p sc) (s : Same H H') : ScAt H' C p sc := by
  obtain ⟨dx, a, b, c, d, f, e, h1, h2, h3, h4, h5⟩ := h.ex
  exact ⟨dx, a, b, c, d, f, s _ _ e, s _ _ h1, h2.mono s, s _ _ h3, s _ _ h4, h5.mono s⟩
theorem calls_keys {H : Hp} {a : Addr} {cs : List (Str × (Int × Bool × Int))} (h : CallsAt H a cs) : KeysAre H a (cs.map (·.1)) := by
  obtain ⟨kvs, e, k⟩ := h
  refine ⟨kvs, e, fun s => ?_⟩
  have q := k s
  have look : (cs.lookup s).isSome = decide (s ∈ cs.map (·.1)) := by
    clear k q
    induction cs with
    | nil => rfl
    | cons c cs ih =>
      obtain ⟨n, r⟩ := c
      by_cases z : s = n
      · subst z
        rw [List.lookup_cons_self]
        simp
      · have : (s == n) = false := by simpa using z
        rw [List.lookup_cons, this]
        show (cs.lookup s).isSome = _
        rw [ih]
        simp [z]
  rw [← look]
  cases h2 : cs.lookup s with
  | none =>
    rw [h2] at q
    rw [q] <;> rfl
  | some r =>
    obtain ⟨m, b, d⟩ := r
    rw [h2] at q
    obtain ⟨t, e1, _⟩ := q
    rw [e1] <;> rfl
/-! ### is_one_of -/
def oneV (v : V) (ns : List Str) : Bool := match v with | .str s => decide (s ∈ ns) | _ => false
def NamesAt (H : Hp) (a : Addr) (ns : List Str) : Prop := H a = some (.lst (ns.map V.str)) ∨ KeysAre H a ns
def spOne : Sp := fun vs H Q _ => ∃ (v : V) (a : Addr) (ns : List Str), vs = [v, .ref a] ∧ Dat H v ∧ NamesAt H a ns ∧ Q (.bl (oneV v ns)) H
theorem isS_str {v : V} (h : isS v = true) : ∃ s, v = .str s := by
  cases v with
  | str s => exact ⟨s, rfl⟩
  | _ => cases h
theorem oneV_not {v : V} {ns : List Str} (h : ¬ isS v = true) : oneV v ns = false := by
  cases v with
  | str s => exact absurd rfl h
  | _ => rfl
section
variable {P : Program} {w : World} {K : PySem.W.Frag} {mg : Str → Option Value} {base : Heap}
theorem sc4 : FnScope ["value", "names"] ["value", "names"] (defScope (top 4)) := ⟨rfl, rfl, rfl, by decide +kernel, rfl, by decide +kernel, by decide +kernel⟩
theorem ok4 {f : Addr} {fd : FuncData} (F : Fun K "is_one_of" "is_one_of" (top 4) f fd) (B : Blt mg) : FnOk P w K mg base CX0 1 f fd ["value", "names"] spOne := by
  refine F.ok sc4 (fun vs H Q E h => ?_) (fun cdv A outer s H vs Q E hr h => ?_)
  · obtain ⟨v, a, ns, rfl, _⟩ := h
    rfl
  · obtain ⟨v, a, ns, rfl, d, hn, k⟩ := h
    have hu := hu_of hr
    rcases hn with hn | ⟨kvs, hn, hk⟩
    · refine ⟨_, pss_one (ps_ret (pe_and (pt_isi B (pv 0) B.str PyProof.Rows.boot_str) (pe_one (pe_cmpR op_in_seq (pv 0) (pv 1) rfl)))), ?_⟩
      refine isi_rd rfl (ans_str d) ⟨_, rfl, ?_⟩
      refine ite2 (fun c => ?_) (fun c => ?_)
      · obtain ⟨z, rfl⟩ := isS_str c
        refine ⟨_, rfl, _, rfl, a, _, rfl, .inl (SqL.of hn), rfl, flat_str ns, ?_⟩
        rw [if_neg (show ¬ (false = true) from Bool.false_ne_true), inV_str]
        rw [show ns.contains z = oneV (.str z) ns from (List.contains_eq_mem z ns)]
        exact k
      · rw [oneV_not c] at k
        exact k
    · refine ⟨_, pss_one (ps_ret (pe_and (pt_isi B (pv 0) B.str PyProof.Rows.boot_str) (pe_one (pe_cmp (pc_din hu (pv 0) (pv 1)))))), ?_⟩
      refine isi_rd rfl (ans_str d) ⟨_, rfl, ?_⟩
      refine ite2 (fun c => ?_) (fun c => ?_)
      · obtain ⟨z, rfl⟩ := isS_str c
        refine ⟨_, rfl, _, rfl, a, _, rfl, DGet.k (k := Sum.inr z) hn, ?_⟩
        rw [hk z]
        exact k
      · rw [oneV_not c] at k
        exact k
end
end K1

set_option Elab.async false
set_option linter.all false
set_option maxRecDepth 100000
set_option maxHeartbeats 4000000
namespace K1
open PySem L2
/-! ### fits -/
def mostR : Int := 1000000000000000000000000000000
def fitsV (sc : Sco) (kind : Str) (v : V) : Bool :=
  if kind = "block" then true else if kind = "times" then wholeV v 0 mostR else if kind = "level" then wholeV v 0 sc.lv else if kind = "variable" then oneV v sc.vn else if kind = "weak" then oneV v sc.wn
  else if kind = "class" then oneV v sc.cn else if kind = "field" then oneV v sc.fn else nameV v
def spFits (C : Addr) : Sp := fun vs H Q _ => ∃ (kind : Str) (v : V) (p : Addr) (sc : Sco), vs = [.str kind, v, .ref p] ∧ Dat H v ∧ ScAt H C p sc ∧ ∀ H', Same H H' → Q (.bl (fitsV sc kind v)) H'
section
variable {P : Program} {w : World} {K : PySem.W.Frag} {mg : Str → Option Value} {base : Heap}
theorem sc16 : FnScope ["kind", "value", "scope"] ["kind", "value", "scope"] (defScope (top 16)) := ⟨rfl, rfl, rfl, by decide +kernel, rfl, by decide +kernel, by decide +kernel⟩
theorem ok16 {f C : Addr} {fd : FuncData} {tR : Tok} (F : Fun K "fits" "fits" (top 16) f fd) (T : NoS K C) (hR : mg "MOST_ROUNDS" = some (.int mostR tR)) (C2 : Cal P w K mg base CX0 2 "is_within" ["value", "least", "most"] spWithin)
    (C4 : Cal P w K mg base CX0 1 "is_one_of" ["value", "names"] spOne) (C3 : Cal P w K mg base CX0 1 "is_name" ["value"] spName) : FnOk P w K mg base CX0 3 f fd ["kind", "value", "scope"] (spFits C) := by
  refine F.ok sc16 (fun vs H Q E h => ?_) (fun cdv A outer s H vs Q E hr h => ?_)
  · obtain ⟨kind, v, p, sc, rfl, _⟩ := h
    rfl
  · obtain ⟨kind, v, p, sc, rfl, d, hs, k⟩ := h
    obtain ⟨dx, a1, a2, a3, a4, a6, hp, h1, h2, h3, h4, h6⟩ := hs.ex
    have kk := k
    have k := k H (Same.refl H)
    refine ⟨_, pss_cons (ps_if (pt_cmpR op_eq (pv 0) pe_str (nomark _)) (pss_one (ps_ret pe_bl)) pss_nil)
      (pss_cons (ps_if (pt_cmpR op_eq (pv 0) pe_str (nomark _)) (pss_one (ps_ret (pe_cal C2 hr (by decide) pass0 (pa_cons (pv 1) (pa_cons pe_int (pa_cons (pe_glob (v := .int mostR) rfl hR ⟨_, rfl⟩) pa_nil)))))) pss_nil)
      (pss_cons (ps_if (pt_cmpR op_eq (pv 0) pe_str (nomark _)) (pss_one (ps_ret (pe_cal C2 hr (by decide) pass0 (pa_cons (pv 1) (pa_cons pe_int (pa_cons (pe_fld (pv 2) rfl) pa_nil)))))) pss_nil)
      (pss_cons (ps_if (pt_cmpR op_eq (pv 0) pe_str (nomark _)) (pss_one (ps_ret (pe_cal C4 hr (by decide) pass0 (pa_cons (pv 1) (pa_cons (pe_fld (pv 2) rfl) pa_nil))))) pss_nil)
      (pss_cons (ps_if (pt_cmpR op_eq (pv 0) pe_str (nomark _)) (pss_one (ps_ret (pe_cal C4 hr (by decide) pass0 (pa_cons (pv 1) (pa_cons (pe_fld (pv 2) rfl) pa_nil))))) pss_nil)
      (pss_cons (ps_if (pt_cmpR op_eq (pv 0) pe_str (nomark _)) (pss_one (ps_ret (pe_cal C4 hr (by decide) pass0 (pa_cons (pv 1) (pa_cons (pe_fld (pv 2) rfl) pa_nil))))) pss_nil)
      (pss_cons (ps_if (pt_cmpR op_eq (pv 0) pe_str (nomark _)) (pss_one (ps_ret (pe_cal C4 hr (by decide) pass0 (pa_cons (pv 1) (pa_cons (pe_fld (pv 2) rfl) pa_nil))))) pss_nil)
      (pss_one (ps_ret (pe_cal C3 hr (by decide) pass0 (pa_cons (pv 1) pa_nil)))))))))), ?_⟩
    unfold fitsV at k
    have st : ∀ {x y : Str}, V.str x = V.str y ↔ x = y := fun {x y} => ⟨fun e => by cases e; rfl, fun e => by rw [e]⟩
    refine ⟨_, rfl, rfl, _, rfl, ?_⟩
    refine ite2 (fun c => ?_) (fun c => ?_)
    · rw [if_pos (st.mp (of_decide_eq_true c))] at k
      exact k
    have c1 : ¬ kind = "block" := fun e => c (decide_eq_true (st.mpr e))
    rw [if_neg c1] at k
    refine ⟨_, rfl, rfl, _, rfl, ?_⟩
    refine ite2 (fun c => ?_) (fun c => ?_)
    · rw [if_pos (st.mp (of_decide_eq_true c))] at k
      exact ⟨_, rfl, v, 0, mostR, rfl, d, k⟩
    have c2 : ¬ kind = "times" := fun e => c (decide_eq_true (st.mpr e))
    rw [if_neg c2] at k
    refine ⟨_, rfl, rfl, _, rfl, ?_⟩
    refine ite2 (fun c => ?_) (fun c => ?_)
    · rw [if_pos (st.mp (of_decide_eq_true c))] at k
      exact ⟨_, rfl, _, rfl, p, C, dx, _, _, rfl, hp, T.cl, T.n5, sc_f5 _ _ _ _ _ _, v, 0, sc.lv, rfl, d, k⟩
    have c3 : ¬ kind = "level" := fun e => c (decide_eq_true (st.mpr e))
    rw [if_neg c3] at k
    refine ⟨_, rfl, rfl, _, rfl, ?_⟩
    refine ite2 (fun c => ?_) (fun c => ?_)
    · rw [if_pos (st.mp (of_decide_eq_true c))] at k
      exact ⟨_, rfl, _, rfl, p, C, dx, _, _, rfl, hp, T.cl, T.n3, sc_f3 _ _ _ _ _ _, v, a3, sc.vn, rfl, d, .inl h3, k⟩
    have c4 : ¬ kind = "variable" := fun e => c (decide_eq_true (st.mpr e))
    rw [if_neg c4] at k
    refine ⟨_, rfl, rfl, _, rfl, ?_⟩
    refine ite2 (fun c => ?_) (fun c => ?_)
    · rw [if_pos (st.mp (of_decide_eq_true c))] at k
      exact ⟨_, rfl, _, rfl, p, C, dx, _, _, rfl, hp, T.cl, T.n4, sc_f4 _ _ _ _ _ _, v, a4, sc.wn, rfl, d, .inl h4, k⟩
    have c5 : ¬ kind = "weak" := fun e => c (decide_eq_true (st.mpr e))
    rw [if_neg c5] at k
    refine ⟨_, rfl, rfl, _, rfl, ?_⟩
    refine ite2 (fun c => ?_) (fun c => ?_)
    · rw [if_pos (st.mp (of_decide_eq_true c))] at k
      exact ⟨_, rfl, _, rfl, p, C, dx, _, _, rfl, hp, T.cl, T.n1, sc_f1 _ _ _ _ _ _, v, a1, sc.cn, rfl, d, .inl h1, k⟩
    have c6 : ¬ kind = "class" := fun e => c (decide_eq_true (st.mpr e))
    rw [if_neg c6] at k
    refine ⟨_, rfl, rfl, _, rfl, ?_⟩
    refine ite2 (fun c => ?_) (fun c => ?_)
    · rw [if_pos (st.mp (of_decide_eq_true c))] at k
      exact ⟨_, rfl, _, rfl, p, C, dx, _, _, rfl, hp, T.cl, T.n2, sc_f2 _ _ _ _ _ _, v, a2, sc.fn, rfl, d, .inr h2, k⟩
    have c7 : ¬ kind = "field" := fun e => c (decide_eq_true (st.mpr e))
    rw [if_neg c7] at k
    exact ⟨_, rfl, v, rfl, d, fun H' s => by
      have q := kk H' s
      unfold fitsV at q
      rw [if_neg c1, if_neg c2, if_neg c3, if_neg c4, if_neg c5, if_neg c6, if_neg c7] at q
      exact q⟩
end
end K1

set_option Elab.async false
set_option linter.all false
set_option maxRecDepth 100000
set_option maxHeartbeats 4000000
namespace K1
open PySem L2
/-! ### all([e for x in xs]) -/
theorem all_lc {K : PySem.W.Frag} {σ : St} {H : Hp} {Q : VK} {i : Nat} {a : Addr} {xs : List V} {p : V → Bool} {tl te : TE} {vs : List Nat} (hl : ∀ Q' : VK, Q' (.ref a) H → tl σ H Q') (ha : H a = some (.lst xs)) (few : xs.length < sizeLine)
    (hw : ∀ x, wipe ((wipe σ vs).set i (some x)) vs = wipe σ vs) (he : ∀ x ∈ xs, ∀ H1, Same H H1 → ∀ Q' : VK, (∀ H2, Same H1 H2 → Q' (.bl (p x)) H2) → te ((wipe σ vs).set i (some x)) H1 Q')
    (k : ∀ H1, Same H H1 → Q (.bl (xs.all p)) H1) : tCB (rAll K) (tCons (tLc (iList K tl) (gName i) tYes te vs) tNil) σ H Q := by
  refine hl _ ⟨a, rfl, ⟨_, SqL.of ha⟩, fun D hD => ?_⟩
  have s0 : Same H (upd H D (.lst [])) := same_new (Same.refl _) hD
  refine lc_list (xs := xs) (fun j H1 => Same H H1 ∧ H1 D = some (.lst ((xs.take j).map fun x => V.bl (p x)))) ⟨s0, by rw [upd_same]; rfl⟩ (fun j H1 _ z => SqL.of (z.1 _ _ ha)) ?_ ?_
  · rintro j x H1 hx ⟨s1, e1⟩
    refine ⟨hw x, ?_⟩
    unfold tYes
    dsimp only
    rw [if_pos rfl]
    have hm : x ∈ xs := List.mem_of_getElem? hx
    have hj : j < xs.length := (List.getElem?_eq_some_iff.mp hx).1
    refine he x hm H1 s1 _ fun H2 s2 => ⟨_, s2 _ _ e1, ?_, fun b o e => ?_, ?_⟩
    · rw [List.length_map, List.length_take]
      omega
    · rw [upd_ne (ne_of_none e hD)]
      exact s2 _ _ (s1 b o e)
    · rw [upd_same, take_snoc hx, List.map_append]
      rfl
  · rintro H1 ⟨s1, e1⟩
    refine ⟨D, xs.map p, rfl, SqL.of (by rw [e1, List.take_of_length_le (Nat.le_refl _), List.map_map]; rfl), ?_⟩
    rw [show (xs.map p).all id = xs.all p by rw [List.all_map]; rfl]
    exact k _ s1
/-! ### data as trees -/
mutual
inductive At (H : Hp) : V → PyData → Prop
  | non : At H .non .none
  | bl (b : Bool) : At H (.bl b) (.bool b)
  | int (i : Int) : At H (.int i) (.int i)
  | str (s : Str) (h : s.length ≤ 1000 ∧ PyData.strOk s = true) : At H (.str s) (.str s)
  | lst {a : Addr} {xs : List V} {ds : List PyData} (e : H a = some (.lst xs)) (h : AtAll H xs ds) : At H (.ref a) (.list ds)
  | tup {a : Addr} {xs : List V} {ds : List PyData} (e : H a = some (.tup xs)) (h : AtAll H xs ds) : At H (.ref a) (.tuple ds)
  | dic {a : Addr} {kvs : List (Key × V)} (e : H a = some (.dK kvs)) : At H (.ref a) (.dict [])
inductive AtAll (H : Hp) : List V → List PyData → Prop
  | nil : AtAll H [] []
  | cons {v : V} {vs : List V} {d : PyData} {ds : List PyData} (h : At H v d) (t : AtAll H vs ds) : AtAll H (v :: vs) (d :: ds)
end
mutual
theorem At.mono {H H' : Hp} (s : Same H H') : ∀ {v : V} {d : PyData}, At H v d → At H' v d
  | _, _, .non => .non
  | _, _, .bl b => .bl b
  | _, _, .int i => .int i
  | _, _, .str z h => .str z h
  | _, _, .lst e h => .lst (s _ _ e) (h.mono s)
  | _, _, .tup e h => .tup (s _ _ e) (h.mono s)
  | _, _, .dic e => .dic (s _ _ e)
theorem AtAll.mono {H H' : Hp} (s : Same H H') : ∀ {vs : List V} {ds : List PyData}, AtAll H vs ds → AtAll H' vs ds
  | _, _, .nil => .nil
  | _, _, .cons h t => .cons (h.mono s) (t.mono s)
end
mutual
theorem At.dat {H : Hp} : ∀ {v : V} {d : PyData}, At H v d → Dat H v
  | _, _, .non => .non
  | _, _, .bl b => .bl b
  | _, _, .int i => .int i
  | _, _, .str z h => .str z h
  | _, _, .lst e h => .lst e h.dats
  | _, _, .tup e h => .tup e h.dats
  | _, _, .dic e => .dic e
theorem AtAll.dats {H : Hp} : ∀ {vs : List V} {ds : List PyData}, AtAll H vs ds → ∀ v ∈ vs, Dat H v
  | _, _, .nil => fun _ h => by cases h
  | _, _, .cons h t => fun v hv => by
    rcases List.mem_cons.mp hv with e | hv
    · rw [e]
      exact h.dat
    · exact t.dats v hv
end
theorem AtAll.len {H : Hp} : ∀ {vs : List V} {ds : List PyData}, AtAll H vs ds → vs.length = ds.length
  | _, _, .nil => rfl
  | _, _, .cons _ t => congrArg Nat.succ t.len
theorem AtAll.get {H : Hp} : ∀ {vs : List V} {ds : List PyData} {i : Nat} {v : V}, AtAll H vs ds → vs[i]? = some v → ∃ d, ds[i]? = some d ∧ At H v d
  | _, _, i, v, .nil, h => by simp at h
  | _, _, 0, v, .cons h t, e => by
    cases e
    exact ⟨_, rfl, h⟩
  | _, _, i + 1, v, .cons h t, e => by
    have e' : _ := e
    rw [List.getElem?_cons_succ] at e'
    obtain ⟨d, h1, h2⟩ := t.get e'
    exact ⟨d, by rw [List.getElem?_cons_succ]; exact h1, h2⟩
/-! ### the words of a statement, as trees -/
def oneT (d : PyData) (ns : List Str) : Bool := match d with | .str s => decide (s ∈ ns) | _ => false
def nameT (d : PyData) : Bool := match d with | .str s => nameS s | _ => false
def wholeT (d : PyData) (lo hi : Int) : Bool := match d with | .int i => decide (lo ≤ i) && decide (i ≤ hi) | _ => false
def fitsT (sc : Sco) (kind : Str) (d : PyData) : Bool :=
  if kind = "block" then true else if kind = "times" then wholeT d 0 mostR else if kind = "level" then wholeT d 0 sc.lv else if kind = "variable" then oneT d sc.vn else if kind = "weak" then oneT d sc.wn
  else if kind = "class" then oneT d sc.cn else if kind = "field" then oneT d sc.fn else nameT d
theorem one_at {H : Hp} {v : V} {d : PyData} (h : At H v d) (ns : List Str) : oneV v ns = oneT d ns := by cases h <;> rfl
theorem name_at {H : Hp} {v : V} {d : PyData} (h : At H v d) : nameV v = nameT d := by cases h <;> rfl
theorem whole_at {H : Hp} {v : V} {d : PyData} (h : At H v d) (lo hi : Int) : wholeV v lo hi = wholeT d lo hi := by cases h <;> rfl
theorem fits_at {H : Hp} {v : V} {d : PyData} (h : At H v d) (sc : Sco) (kind : Str) : fitsV sc kind v = fitsT sc kind d := by
  unfold fitsV fitsT
  rw [whole_at h, whole_at h, one_at h, one_at h, one_at h, one_at h, name_at h]
/-! ### fits_call -/
def argsT (d : PyData) (m : Int) (vn : List Str) : Bool := match d with | .list ys => decide ((ys.length : Int) = m) && ys.all fun y => oneT y vn | _ => false
def noneT (d : PyData) : Bool := match d with | .none => true | _ => false
def callR (sc : Sco) (t a : PyData) (rep : Int) (r : Int × Bool × Int) : Bool := ((noneT t || (r.2.1 && oneT t sc.vn)) && argsT a r.1 sc.vn) && decide (rep + r.2.2 ≤ 3)
def callN (sc : Sco) (t n a : PyData) (rep : Int) : Bool := match n with
  | .str s => (match sc.cs.lookup s with
    | none => false
    | some r => callR sc t a rep r)
  | _ => false
def callT (sc : Sco) (ds : List PyData) (rep : Int) : Bool := match ds with
  | [t, n, a] => callN sc t n a rep
  | _ => false
end K1

set_option Elab.async false
set_option linter.all false
set_option maxRecDepth 100000
set_option maxHeartbeats 4000000
namespace K1
open PySem L2
def spCallF (C : Addr) : Sp := fun vs H Q _ => ∃ (t p : Addr) (xs : List V) (ds : List PyData) (sc : Sco) (rep : Int), vs = [.ref t, .ref p, .int rep] ∧ H t = some (.tup xs) ∧ AtAll H xs ds ∧ ScAt H C p sc ∧ (∀ z r, sc.cs.lookup z = some r → r.1 ≤ 100) ∧ ∀ H', Same H H' → Q (.bl (callT sc ds rep)) H'
theorem callT_len {sc : Sco} {ds : List PyData} {rep : Int} (h : ds.length ≠ 3) : callT sc ds rep = false := by
  match ds, h with
  | [], _ => rfl
  | [_], _ => rfl
  | [_, _], _ => rfl
  | [_, _, _], h => exact absurd rfl h
  | _ :: _ :: _ :: _ :: _, _ => rfl
theorem callT_no {sc : Sco} {d0 d1 d2 : PyData} {rep : Int} (h : oneT d1 (sc.cs.map (·.1)) = false) : callT sc [d0, d1, d2] rep = false := by
  cases d1 with
  | str s =>
    have n : sc.cs.lookup s = none := by
      rw [List.lookup_eq_none_iff]
      intro q hq
      have h' : decide (s ∈ sc.cs.map (·.1)) = false := h
      have h2 := of_decide_eq_false h'
      have : ¬ s = q.1 := fun e => h2 (List.mem_map.mpr ⟨q, hq, e.symm⟩)
      simpa using this
    show callN sc d0 (.str s) d2 rep = false
    unfold callN
    dsimp only
    rw [n]
  | _ => rfl
theorem oneT_str {d : PyData} {ns : List Str} (h : oneT d ns = true) : ∃ s, d = .str s ∧ s ∈ ns := by
  cases d with
  | str s => exact ⟨s, rfl, of_decide_eq_true h⟩
  | _ => cases h
theorem look_some {cs : List (Str × (Int × Bool × Int))} {s : Str} (h : s ∈ cs.map (·.1)) : ∃ m b d, cs.lookup s = some (m, b, d) := by
  cases q : cs.lookup s with
  | none =>
    obtain ⟨⟨n, r⟩, hr, e⟩ := List.mem_map.mp h
    have e : n = s := e
    rw [List.lookup_eq_none_iff] at q
    have := q _ hr
    rw [e] at this
    simp at this
  | some r => exact ⟨r.1, r.2.1, r.2.2, rfl⟩
theorem at_str {H : Hp} {v : V} {s : Str} (h : At H v (.str s)) : v = .str s := by
  cases h
  rfl
theorem none_at {H : Hp} {v : V} {d : PyData} (h : At H v d) : noneT d = decide (v = .non) := by
  cases h <;> rfl
theorem fits_var {sc : Sco} {d : PyData} : fitsT sc "variable" d = oneT d sc.vn := by
  unfold fitsT
  rw [if_neg (by decide +kernel), if_neg (by decide +kernel), if_neg (by decide +kernel), if_pos rfl]
theorem fits_varV {sc : Sco} {v : V} : fitsV sc "variable" v = oneV v sc.vn := by
  unfold fitsV
  rw [if_neg (by decide +kernel), if_neg (by decide +kernel), if_neg (by decide +kernel), if_pos rfl]
theorem all_at {H : Hp} {ns : List Str} : ∀ {vs : List V} {ds : List PyData}, AtAll H vs ds → (vs.all fun v => oneV v ns) = ds.all fun d => oneT d ns
  | _, _, .nil => rfl
  | _, _, .cons h t => by
    rw [List.all_cons, List.all_cons, one_at h, all_at t]
theorem at_lst {H : Hp} {v : V} {d : PyData} (h : At H v d) : (∃ (a : Addr) (ys : List V) (es : List PyData), v = .ref a ∧ d = .list es ∧ H a = some (.lst ys) ∧ AtAll H ys es) ∨ (lstOf H v = none ∧ ∀ m vn, argsT d m vn = false) := by
  cases h with
  | lst e t => exact .inl ⟨_, _, _, rfl, rfl, e, t⟩
  | tup e t => exact .inr ⟨lstOf_tup e, fun _ _ => rfl⟩
  | dic e => exact .inr ⟨lstOf_dic e, fun _ _ => rfl⟩
  | _ => exact .inr ⟨rfl, fun _ _ => rfl⟩
abbrev fcN : List Str := ["words", "scope", "repeats", "target", "name", "arguments", "many", "has_result", "depth", "argument"]
section
variable {P : Program} {w : World} {K : PySem.W.Frag} {mg : Str → Option Value} {base : Heap}
theorem sc17 : FnScope fcN ["words", "scope", "repeats"] (defScope (top 17)) := ⟨rfl, rfl, rfl, by decide +kernel, rfl, by decide +kernel, by decide +kernel⟩
theorem ok17 {f C : Addr} {fd : FuncData} {tR : Tok} (F : Fun K "fits_call" "fits_call" (top 17) f fd) (B : Blt mg) (T : NoS K C) (hR : mg "DEEPEST_REPEAT" = some (.int 3 tR)) (C4 : Cal P w K mg base CX0 1 "is_one_of" ["value", "names"] spOne)
    (C16 : Cal P w K mg base CX0 3 "fits" ["kind", "value", "scope"] (spFits C)) : FnOk P w K mg base CX0 4 f fd ["words", "scope", "repeats"] (spCallF C) := by
  refine F.ok sc17 (fun vs H Q E h => ?_) (fun cdv A outer s H vs Q E hr h => ?_)
  · obtain ⟨t, p, xs, ds, sc, rep, rfl, _⟩ := h
    rfl
  · obtain ⟨t, p, xs, ds, sc, rep, rfl, ht, ha, hs, few, k⟩ := h
    have hu := hu_of hr
    obtain ⟨dx, a1, a2, a3, a4, a6, hp, h1, h2, h3, h4, h6⟩ := hs.ex
    refine ⟨_, pss_cons (ps_if (pt_cmpR op_ne (pe_callB call_len_seq rfl B.len PySem.boot_len (pa_cons (pv 0) pa_nil)) pe_int (nomark _)) (pss_one (ps_ret pe_bl)) pss_nil)
      (pss_cons (ps_asg (pv 0) (pg_tup rfl (pgs_cons (pg_name (i := 3) sc17.nd rfl (Or.inl rfl)) (pgs_cons (pg_name (i := 4) sc17.nd rfl (Or.inl rfl)) (pgs_cons (pg_name (i := 5) sc17.nd rfl (Or.inl rfl)) pgs_nil)))))
      (pss_cons (ps_if (pt_not (pt_val (pe_cal C4 hr (by decide) pass0 (pa_cons (pv 4) (pa_cons (pe_fld (pv 1) rfl) pa_nil))))) (pss_one (ps_ret pe_bl)) pss_nil)
      (pss_cons (ps_asg (pe_dget hu (pe_fld (pv 1) rfl) (pv 4) (fun _ _ => rfl)) (pg_tup rfl (pgs_cons (pg_name (i := 6) sc17.nd rfl (Or.inl rfl)) (pgs_cons (pg_name (i := 7) sc17.nd rfl (Or.inl rfl)) (pgs_cons (pg_name (i := 8) sc17.nd rfl (Or.inl rfl)) pgs_nil)))))
      (pss_mid (ps_if (PW.pt (pw_and (pt_cmpR op_notN (pv 3) pe_non (nomark _)) (pw_and1 (pt_not (PW.pt (pw_and (pt_val (pv 7)) (pw_and1 (pt_val (pe_cal C16 hr (by decide) pass0 (pa_cons pe_str (pa_cons (pv 3) (pa_cons (pv 1) pa_nil)))))))))))) (pss_one (ps_ret pe_bl)) pss_nil)
      (pss_mid (ps_if (PW.pt (pw_or (pt_not (pt_val (pt_isi B (pv 5) B.list PyProof.Rows.boot_list))) (pw_or1 (pt_cmpR op_ne (pe_callB call_len_seq rfl B.len PySem.boot_len (pa_cons (pv 5) pa_nil)) (pv 6) (nomark _))))) (pss_one (ps_ret pe_bl)) pss_nil)
      (pss_mid (ps_if (pt_not (pt_val (pe_callB (cr_all rfl) rfl B.all PyProof.Rows.boot_all (pa_cons (pe_lc (own := [("argument", 9)]) (g := gName 9) (tt := tYes) rfl sc17.nd (pi_list (pv 5)) (blkOk_by (N := fcN) (sc := defScope (top 17)) (by decide +kernel))
        (fun _ _ _ _ _ => pg_name (i := 9) sc17.nd rfl (Or.inl rfl)) (fun _ _ _ _ _ => pts_nil) (fun _ _ _ _ _ => pe_cal C16 hr (by decide) pass0 (pa_cons pe_str (pa_cons (pv 9) (pa_cons (pv 1) pa_nil))))) pa_nil)))) (pss_one (ps_ret pe_bl)) pss_nil)
      (pss_one (ps_ret (pe_cmpR op_le (pe_op op_add (pv 2) (pv 8)) (pe_glob (v := .int 3) rfl hR ⟨_, rfl⟩) (nomark _))))))))))  , ?_⟩
    have same := Same.refl H
    refine ⟨_, rfl, t, xs, rfl, .inr (SqT.of ht), rfl, _, rfl, ?_⟩
    refine ite2 (fun c => ?_) (fun c => ?_)
    · have n3 : ds.length ≠ 3 := fun e => by
        rw [ha.len, e] at c
        exact absurd c (by decide)
      rw [callT_len n3] at k
      exact k H same
    have x3 : xs.length = 3 := by
      cases z : decide (V.int (xs.length : Int) = V.int 3) with
      | true =>
        have e := of_decide_eq_true z
        injection e with e
        omega
      | false => rw [z] at c; exact absurd rfl c
    match xs, x3, ds, ha with
    | [x0, x1, x2], _, _, .cons (d := d0) at0 (.cons (d := d1) at1 (.cons (d := d2) at2 .nil)) =>
    refine ⟨_, rfl, t, [x0, x1, x2], rfl, SqT.of ht, rfl, x0, [x1, x2], rfl, x1, [x2], rfl, x2, [], rfl, rfl, ?_⟩
    refine ⟨_, rfl, _, rfl, p, C, dx, _, _, rfl, hp, T.cl, T.n6, sc_f6 _ _ _ _ _ _, x1, a6, sc.cs.map (·.1), rfl, at1.dat, .inr (calls_keys h6), _, rfl, ?_⟩
    rw [one_at at1]
    cases e1 : oneT d1 (sc.cs.map (·.1)) with
    | false =>
      refine iteT ?_
      rw [callT_no e1] at k
      exact k H same
    | true =>
    refine iteF ?_
    obtain ⟨z, rfl, hz⟩ := oneT_str e1
    obtain rfl := at_str at1
    obtain ⟨m, b, dp, hl⟩ := look_some hz
    obtain ⟨kvs, hk, hv⟩ := id h6
    have hv := hv z
    rw [hl] at hv
    obtain ⟨tt, hv, htt⟩ := hv
    refine ⟨_, rfl, p, C, dx, _, _, rfl, hp, T.cl, T.n6, sc_f6 _ _ _ _ _ _, _, rfl, a6, .ref tt, rfl, ?_, tt, _, rfl, SqT.of htt, rfl, _, _, rfl, _, _, rfl, _, _, rfl, rfl, ?_⟩
    · rw [← hv]
      exact DGet.k (k := Sum.inr z) hk
    have kc : callT sc [d0, .str z, d2] rep = callR sc d0 d2 rep (m, b, dp) := by
      show callN sc d0 (.str z) d2 rep = _
      unfold callN
      dsimp only
      rw [hl]
    rw [kc] at k
    have hl0 := hl
    clear kc hl hv hk htt
    -- the target
    refine ⟨fun σ H1 => σ = [some (.ref t), some (.ref p), some (.int rep), some x0, some (.str z), some x2, some (.int m), some (.bl b), some (.int dp), none] ∧ Same H H1 ∧ (noneT d0 || (b && oneT d0 sc.vn)) = true, ?_, ?_⟩
    · refine ⟨_, rfl, rfl, _, rfl, ?_⟩
      by_cases hx : x0 = .non
      · rw [decide_eq_true hx]
        refine iteF ?_
        refine iteF ⟨rfl, same, ?_⟩
        rw [none_at at0, decide_eq_true hx]
        rfl
      · have n0 : noneT d0 = false := by rw [none_at at0, decide_eq_false hx]
        rw [decide_eq_false hx]
        refine iteT ?_
        refine ⟨_, rfl, b, rfl, ?_⟩
        cases b with
        | false =>
          refine iteF ?_
          refine iteT ?_
          have q := k H same
          unfold callR at q
          rw [n0] at q
          exact q
        | true =>
          refine iteT ?_
          refine ⟨_, rfl, _, rfl, "variable", x0, p, sc, rfl, at0.dat, hs, fun H1 s1 => ?_⟩
          refine ⟨_, rfl, ?_⟩
          rw [fits_at at0, fits_var]
          cases e0 : oneT d0 sc.vn with
          | false =>
            refine iteT ?_
            have q := k H1 s1
            unfold callR at q
            rw [n0, e0] at q
            exact q
          | true =>
            refine iteF ⟨rfl, s1, ?_⟩
            rw [Bool.and_self, Bool.or_true]
    rintro σ H1 ⟨rfl, s1, et⟩
    have k : ∀ H2, Same H H2 → Q (.bl (argsT d2 m sc.vn && decide (rep + dp ≤ 3))) H2 := fun H2 s2 => by
      have q := k H2 s2
      unfold callR at q
      dsimp only at q
      rw [et, Bool.true_and] at q
      exact q
    -- the arguments
    refine ⟨fun σ H2 => σ = [some (.ref t), some (.ref p), some (.int rep), some x0, some (.str z), some x2, some (.int m), some (.bl b), some (.int dp), none] ∧ H2 = H1 ∧ ∃ (a : Addr) (ys : List V) (es : List PyData), x2 = .ref a ∧ d2 = .list es ∧ H a = some (.lst ys) ∧ AtAll H ys es ∧ (ys.length : Int) = m, ?_, ?_⟩
    · refine isi_rd rfl (ans_list (at2.dat.mono s1)) ⟨_, rfl, ?_⟩
      rcases at_lst at2 with ⟨a, ys, es, rfl, rfl, hy, hys⟩ | ⟨hn, hno⟩
      · rw [lstOf_of (s1 _ _ hy)]
        refine iteF ?_
        refine ⟨_, rfl, a, ys, rfl, .inl (SqL.of (s1 _ _ hy)), _, rfl, rfl, _, rfl, ?_⟩
        refine ite2 (fun c => ?_) (fun c => ?_)
        · have ne : ¬ ((es.length : Int) = m) := fun e => by
            rw [hys.len, decide_eq_true (show V.int (es.length : Int) = V.int m by rw [e])] at c
            cases c
          have q := k H1 s1
          unfold argsT at q
          dsimp only at q
          rw [decide_eq_false ne] at q
          exact q
        · refine ⟨rfl, rfl, a, ys, es, rfl, rfl, hy, hys, ?_⟩
          cases z : decide (V.int (ys.length : Int) = V.int m) with
          | true =>
            have e := of_decide_eq_true z
            injection e
          | false => rw [z] at c; exact absurd rfl c
      · have hn1 : lstOf H1 x2 = none := by rw [lstOf_same at2.dat s1]; exact hn
        rw [hn1]
        refine iteT ?_
        refine iteT ?_
        have q := k H1 s1
        rw [hno, Bool.false_and] at q
        exact q
    rintro σ H2 ⟨rfl, rfl, a, ys, es, rfl, rfl, hy, hys, hm⟩
    have k : ∀ H3, Same H H3 → Q (.bl ((es.all fun d => oneT d sc.vn) && decide (rep + dp ≤ 3))) H3 := fun H3 s3 => by
      have q := k H3 s3
      unfold argsT at q
      dsimp only at q
      rw [decide_eq_true (show (es.length : Int) = m by rw [← hys.len]; exact hm), Bool.true_and] at q
      exact q
    have lt : ys.length < sizeLine := by
      have := few _ _ hl0
      have z : 101 ≤ sizeLine := by decide
      dsimp only at this
      omega
    -- all of them
    refine ⟨fun σ H3 => (∃ v9, σ = [some (.ref t), some (.ref p), some (.int rep), some x0, some (.str z), some (.ref a), some (.int m), some (.bl b), some (.int dp), v9]) ∧ Same H H3 ∧ (es.all fun d => oneT d sc.vn) = true, ?_, ?_⟩
    · refine all_lc (p := fun v => oneV v sc.vn) (fun Q' q => ⟨_, rfl, q⟩) (s1 _ _ hy) lt (fun x => rfl) (fun x hx H3 s3 Q' q => ?_) (fun H3 s3 => ?_)
      · refine ⟨_, rfl, _, rfl, "variable", x, p, sc, rfl, (hys.dats x hx).mono (s1.trans s3), hs.mono (s1.trans s3), fun H4 s4 => ?_⟩
        rw [fits_varV]
        exact q H4 s4
      · refine ⟨_, rfl, ?_⟩
        rw [all_at hys]
        cases ea : es.all fun d => oneT d sc.vn with
        | false =>
          refine iteT ?_
          have q := k H3 (s1.trans s3)
          rw [ea, Bool.false_and] at q
          exact q
        | true => exact iteF ⟨⟨none, rfl⟩, s1.trans s3, rfl⟩
    rintro σ H3 ⟨⟨v9, rfl⟩, s3, ea⟩
    refine ⟨_, rfl, _, rfl, _, _, rfl, rfl, _, _, rfl, rfl, ?_⟩
    have q := k H3 s3
    rw [ea, Bool.true_and] at q
    exact q
end
end K1

set_option Elab.async false
set_option linter.all false
set_option maxRecDepth 100000
set_option maxHeartbeats 4000000
namespace L2
open PySem PySem.Spec PyProof.Rows
/-- d[k], d a dict of the top with text keys -/
theorem ix_kd {X : Cx} {d : Addr} {es : Array DictEntry} {n : Nat} (D : KDict X.K X.w d es n) : IxR X (fun x y H Q => ∃ (z : Str) (u0 : Value) (v0 : V), x = .ref d ∧ y = .str z ∧ PySem.W.nsIn X.K d z = some (some u0) ∧ RelV v0 u0 ∧ Q v0 H) := by
  intro value slice pins s σ H x y v u Q I rx ry h hs
  have g := op_item_kd D pins s σ H x y v u Q I rx ry h
  obtain ⟨z, u0, v0, rfl, rfl, e, r, q⟩ := h
  cases rx
  exact tail_any (kd_type D I) PySem.F.slot_dict_getitem.lookup g hs
end L2
namespace K1
open PySem L2
/-! ### all([e for x, y in zip(xs, ys)]), two tuples -/
theorem all_zip {K : PySem.W.Frag} {σ : St} {H : Hp} {Q : VK} {i j : Nat} {a b : Addr} {xs ys : List V} {p : V → V → Bool} {ta : TA} {te : TE} {vs : List Nat} (hl : ∀ Q' : List V → Hp → Prop, Q' [.ref a, .ref b] H → ta σ H Q') (ha : ∀ H1, Same H H1 → SqT K H1 a xs) (hb : ∀ H1, Same H H1 → SqT K H1 b ys) (len : xs.length = ys.length)
    (few : xs.length < sizeLine) (hw : ∀ x y, wipe (((wipe σ vs).set i (some x)).set j (some y)) vs = wipe σ vs)
    (he : ∀ (k : Nat) (x y : V), xs[k]? = some x → ys[k]? = some y → ∀ H1, Same H H1 → ∀ Q' : VK, (∀ H2, Same H1 H2 → Q' (.bl (p x y)) H2) → te (((wipe σ vs).set i (some x)).set j (some y)) H1 Q')
    (k : ∀ H1, Same H H1 → Q (.bl ((xs.zip ys).all fun q => p q.1 q.2)) H1) :
    tCB (rAll K) (tCons (tLc (RZ.iZipA K ta) (gTup K 2 (gCons (gName i) (gCons (gName j) gNil))) tYes te vs) tNil) σ H Q := by
  refine hl _ ⟨a, b, xs, ys, rfl, .inr ⟨ha H (Same.refl H), hb H (Same.refl H), fun D hD => ?_⟩⟩
  have s0 : Same H (upd H D (.lst [])) := same_new (Same.refl _) hD
  have lz : (xs.zip ys).length = xs.length := by rw [List.length_zip]; omega
  refine ⟨fun n m H1 => m + n = xs.length ∧ Same H H1 ∧ H1 D = some (.lst (((xs.zip ys).take n).map fun q => V.bl (p q.1 q.2))), ⟨xs.length, by omega, s0, by rw [upd_same]; rfl⟩, ?_⟩
  rintro n m H1 ⟨hm, s1, e1⟩
  by_cases hlt : n < xs.length
  · have hx : xs[n]? = some xs[n] := List.getElem?_eq_getElem hlt
    have hy : ys[n]? = some (ys[n]'(by omega)) := List.getElem?_eq_getElem (by omega)
    have hz : (xs.zip ys)[n]? = some (xs[n], ys[n]'(by omega)) := by
      rw [List.getElem?_eq_getElem (by omega), List.getElem_zip]
    refine .inr ⟨⟨xs, ys, _, _, ha H1 s1, hb H1 s1, hx, hy⟩, fun H2 => Same H H2 ∧ H2 D = some (.lst (((xs.zip ys).take (n + 1)).map fun q => V.bl (p q.1 q.2))), fun H2 h2 => ⟨xs.length - (n + 1), by omega, by omega, h2⟩, fun v H2 y => ?_⟩
    obtain ⟨T, x, y, rfl, hT, rfl, q1, q2⟩ := y
    have ex := q1 xs (ha H1 s1)
    have ey := q2 ys (hb H1 s1)
    have s2 : Same H1 (upd H1 T (.tup [x, y])) := same_new (Same.refl _) hT
    refine pair_rd ⟨hw x y, ?_⟩
    unfold tYes
    dsimp only
    rw [if_pos rfl]
    refine he n x y ex ey _ (s1.trans s2) _ fun H3 s3 => ⟨_, s3 _ _ (s2 _ _ e1), ?_, fun b o e => ?_, ?_⟩
    · rw [List.length_map, List.length_take]
      omega
    · rw [upd_ne (ne_of_none e hD)]
      exact s3 _ _ (s2 _ _ (s1 b o e))
    · have ez : (xs.zip ys)[n]? = some (x, y) := by
        rw [hx] at ex
        rw [hy] at ey
        rw [hz, Option.some.inj ex, Option.some.inj ey]
      rw [upd_same, take_snoc ez, List.map_append]
      rfl
  · have en : n = xs.length := by omega
    subst en
    refine .inl ⟨⟨xs, ys, ha H1 s1, hb H1 s1, .inl (Nat.le_refl _)⟩, ?_⟩
    refine ⟨D, (xs.zip ys).map fun q => p q.1 q.2, rfl, SqL.of (by rw [e1, List.take_of_length_le (by omega), List.map_map]; rfl), ?_⟩
    rw [show ((xs.zip ys).map fun q => p q.1 q.2).all id = (xs.zip ys).all fun q => p q.1 q.2 by rw [List.all_map]; rfl]
    exact k _ s1
end K1

set_option Elab.async false
set_option linter.all false
set_option maxRecDepth 100000
set_option maxHeartbeats 4000000
namespace K1
open PySem L2
/-! ### fits_form -/
def forms : List (Str × List Str) := [("new", ["variable", "class"]), ("copy", ["variable", "variable"]), ("clear", ["variable"]), ("load", ["variable", "variable", "field"]), ("store", ["variable", "field", "variable"]), ("wipe", ["variable", "field"]), ("tag", ["variable", "name"]), ("emit", ["variable"]),
  ("weak", ["weak", "variable"]), ("get", ["variable", "weak"]), ("collect", ["level"]), ("ifnil", ["variable", "block", "block"]), ("ifsame", ["variable", "variable", "block", "block"]), ("repeat", ["times", "block"])]
structure Frm (w : World) (K : PySem.W.Frag) (mg : Str → Option Value) (fa : Addr) : Prop where
  g : mg "FORMS" = some (.ref fa)
  kd : ∃ es n, KDict K w fa es n
  has : ∀ s ws, forms.lookup s = some ws → ∃ t, PySem.W.nsIn K fa s = some (some (.ref t)) ∧ ∀ H, SqT K H t (ws.map V.str)
  no : ∀ s, forms.lookup s = none → PySem.W.nsIn K fa s = some none
theorem look_mem {α : Type} {s : Str} {r : α} : ∀ {cs : List (Str × α)}, cs.lookup s = some r → (s, r) ∈ cs
  | [], h => by cases h
  | (n, x) :: cs, h => by
    rw [List.lookup_cons] at h
    split at h
    · rename_i z
      cases h
      rw [show s = n by simpa using z]
      exact List.mem_cons_self
    · exact List.mem_cons_of_mem _ (look_mem h)
theorem forms_few {s : Str} {ws : List Str} (h : forms.lookup s = some ws) : ws.length ≤ 4 ∧ ws ≠ [] := by
  have : ∀ q ∈ forms, q.2.length ≤ 4 ∧ q.2 ≠ [] := by decide +kernel
  exact this (s, ws) (look_mem h)
theorem at_tup {H : Hp} {v : V} {d : PyData} (h : At H v d) : (∃ (a : Addr) (ys : List V) (es : List PyData), v = .ref a ∧ d = .tuple es ∧ H a = some (.tup ys) ∧ AtAll H ys es) ∨ (tupOf H v = none ∧ ∀ es, d ≠ .tuple es) := by
  cases h with
  | lst e t => exact .inr ⟨tupOf_lst e, fun _ z => by cases z⟩
  | tup e t => exact .inl ⟨_, _, _, rfl, rfl, e, t⟩
  | dic e => exact .inr ⟨tupOf_dic e, fun _ z => by cases z⟩
  | _ => exact .inr ⟨rfl, fun _ z => by cases z⟩
def kindsT (sc : Sco) (ws : List Str) (ds : List PyData) : Bool := decide (ds.length = ws.length) && (ws.zip ds).all fun q => fitsT sc q.1 q.2
def wordsT (sc : Sco) (s : Str) (ds : List PyData) (rep : Int) : Bool :=
  if s = "call" then callT sc ds rep else match forms.lookup s with
    | none => false
    | some ws => (decide (ds.length = ws.length) && !(decide (s = "repeat") && decide (rep = 3))) && (ws.zip ds).all fun q => fitsT sc q.1 q.2
def formT (sc : Sco) (d : PyData) (rep : Int) : Bool := match d with
  | .tuple (.str s :: ds) => wordsT sc s ds rep
  | _ => false
def spForm (C : Addr) : Sp := fun vs H Q _ => ∃ (v : V) (p : Addr) (d : PyData) (sc : Sco) (rep : Int), vs = [v, .ref p, .int rep] ∧ At H v d ∧ ScAt H C p sc ∧ (∀ z r, sc.cs.lookup z = some r → r.1 ≤ 100) ∧ ∀ H', Same H H' → Q (.bl (formT sc d rep)) H'
theorem form_not {sc : Sco} {d : PyData} {rep : Int} (h : ∀ es, d ≠ .tuple es) : formT sc d rep = false := by
  unfold formT
  split
  · exact absurd rfl (h _)
  · rfl
theorem form_str {sc : Sco} {e : PyData} {es : List PyData} {rep : Int} (h : ∀ z, e ≠ .str z) : formT sc (.tuple (e :: es)) rep = false := by
  unfold formT
  split
  · rename_i q
    cases q
    exact absurd rfl (h _)
  · rfl
theorem isS_at {H : Hp} {v : V} {d : PyData} (h : At H v d) : (isS v = true ∧ ∃ z, v = .str z ∧ d = .str z) ∨ (isS v = false ∧ ∀ z, d ≠ .str z) := by
  cases h with
  | str s _ => exact .inl ⟨rfl, s, rfl, rfl⟩
  | _ => exact .inr ⟨rfl, fun _ z => by cases z⟩
theorem sIx_one {n d : Nat} (h : 1 ≤ n) : HT.sIx n d (some 1) = 1 := by
  show (if (1 : Int) < 0 then ((1 : Int) + (n : Int)).toNat else min (1 : Int).toNat n) = 1
  rw [if_neg (by decide)]
  show min 1 n = 1
  omega
theorem cut_tail {y : V} {ys : List V} : cutV (y :: ys) (some 1) none = ys := by
  unfold cutV
  have e1 : HT.sIx (y :: ys).length 0 (some 1) = 1 := sIx_one (by rw [List.length_cons]; omega)
  have e2 : HT.sIx (y :: ys).length (y :: ys).length none = ys.length + 1 := rfl
  rw [e1, e2]
  show List.take (ys.length + 1 - 1) ys = ys
  simp
theorem zip_fits {H : Hp} {sc : Sco} : ∀ {vs : List V} {ds : List PyData}, AtAll H vs ds → ∀ ws : List Str, (((ws.map V.str).zip vs).all fun q => match q.1 with | .str kd => fitsV sc kd q.2 | _ => false) = (ws.zip ds).all fun q => fitsT sc q.1 q.2
  | _, _, .nil, ws => by cases ws <;> rfl
  | _, _, .cons h t, [] => rfl
  | _, _, .cons (v := v) (d := d) h t, k :: ws => by
    rw [List.map_cons, List.zip_cons_cons, List.zip_cons_cons, List.all_cons, List.all_cons, zip_fits t ws]
    show (fitsV sc k v && _) = (fitsT sc k d && _)
    rw [fits_at h]
abbrev ffN : List Str := ["statement", "scope", "repeats", "word", "words", "kinds", "kind", "value"]
section
variable {P : Program} {w : World} {K : PySem.W.Frag} {mg : Str → Option Value} {base : Heap}
theorem sc18 : FnScope ffN ["statement", "scope", "repeats"] (defScope (top 18)) := ⟨rfl, rfl, rfl, by decide +kernel, rfl, by decide +kernel, by decide +kernel⟩
theorem ok18 {f C fa : Addr} {fd : FuncData} {tR : Tok} (F : Fun K "fits_form" "fits_form" (top 18) f fd) (B : Blt mg) (zz : mg "zip" = none) (FM : Frm w K mg fa) (hR : mg "DEEPEST_REPEAT" = some (.int 3 tR)) (C17 : Cal P w K mg base CX0 4 "fits_call" ["words", "scope", "repeats"] (spCallF C))
    (C16 : Cal P w K mg base CX0 3 "fits" ["kind", "value", "scope"] (spFits C)) : FnOk P w K mg base CX0 5 f fd ["statement", "scope", "repeats"] (spForm C) := by
  refine F.ok sc18 (fun vs H Q E h => ?_) (fun cdv A outer s H vs Q E hr h => ?_)
  · obtain ⟨v, p, d, sc, rep, rfl, _⟩ := h
    rfl
  · obtain ⟨v, p, d, sc, rep, rfl, hd, hs, few, k⟩ := h
    have hu := hu_of hr
    obtain ⟨es, n, kd⟩ := FM.kd
    refine ⟨_, pss_mid (ps_if (PW.pt (pw_or (pt_not (pt_val (pt_isi B (pv 0) B.tuple PyProof.Rows.boot_tuple))) (pw_or1 (pt_cmpR op_eq (pe_callB call_len_seq rfl B.len PySem.boot_len (pa_cons (pv 0) pa_nil)) pe_int (nomark _))))) (pss_one (ps_ret pe_bl)) pss_nil)
      (pss_mid (ps_set (i := 3) sc18.nd rfl (Or.inl rfl) (pe_ix ix_tup (pv 0) pe_int (fun _ _ => rfl)))
      (pss_mid (ps_set (i := 4) sc18.nd rfl (Or.inl rfl) (pe_slice sl_tup (pv 0) (po_some pe_int) po_none))
      (pss_mid (ps_if (pt_not (pt_val (pt_isi B (pv 3) B.str PyProof.Rows.boot_str))) (pss_one (ps_ret pe_bl)) pss_nil)
      (pss_mid (ps_if (pt_cmpR op_eq (pv 3) pe_str (nomark _)) (pss_one (ps_ret (pe_cal C17 hr (by decide) pass0 (pa_cons (pv 4) (pa_cons (pv 1) (pa_cons (pv 2) pa_nil)))))) pss_nil)
      (pss_mid (ps_if (pt_cmpR (op_notIn_kd kd) (pv 3) (pe_glob (v := .ref fa) rfl FM.g rfl) rfl) (pss_one (ps_ret pe_bl)) pss_nil)
      (pss_mid (ps_set (i := 5) sc18.nd rfl (Or.inl rfl) (pe_ix (ix_kd kd) (pe_glob (v := .ref fa) rfl FM.g rfl) (pv 3) (fun _ _ => rfl)))
      (pss_mid (ps_if (pt_cmpR op_ne (pe_callB call_len_seq rfl B.len PySem.boot_len (pa_cons (pv 4) pa_nil)) (pe_callB call_len_seq rfl B.len PySem.boot_len (pa_cons (pv 5) pa_nil)) (nomark _)) (pss_one (ps_ret pe_bl)) pss_nil)
      (pss_mid (ps_if (PW.pt (pw_and (pt_cmpR op_eq (pv 3) pe_str (nomark _)) (pw_and1 (pt_cmpR op_eq (pv 2) (pe_glob (v := .int 3) rfl hR ⟨_, rfl⟩) (nomark _))))) (pss_one (ps_ret pe_bl)) pss_nil)
      (pss_one (ps_ret (pe_callB (cr_all rfl) rfl B.all PyProof.Rows.boot_all (pa_cons (pe_lc (own := [("kind", 6), ("value", 7)]) (g := gTup K 2 (gCons (gName 6) (gCons (gName 7) gNil))) (tt := tYes) rfl sc18.nd (RZ.pi_zipA rfl zz (pa_cons (pv 5) (pa_cons (pv 4) pa_nil))) (blkOk_by (N := ffN) (sc := defScope (top 18)) (by decide +kernel))
        (fun _ _ _ _ _ => pg_tup rfl (pgs_cons (pg_name (i := 6) sc18.nd rfl (Or.inl rfl)) (pgs_cons (pg_name (i := 7) sc18.nd rfl (Or.inl rfl)) pgs_nil))) (fun _ _ _ _ _ => pts_nil) (fun _ _ _ _ _ => pe_cal C16 hr (by decide) pass0 (pa_cons (pv 6) (pa_cons (pv 7) (pa_cons (pv 1) pa_nil))))) pa_nil))))))))))))  , ?_⟩
    have no : ∀ H1, Same H H1 → formT sc d rep = false → Q (.bl false) H1 := fun H1 s1 e => by
      have q := k H1 s1
      rw [e] at q
      exact q
    -- a tuple of some words
    refine ⟨fun σ H1 => σ = [some v, some (.ref p), some (.int rep), none, none, none, none, none] ∧ H1 = H ∧ ∃ (a : Addr) (y : V) (ys : List V) (e : PyData) (es : List PyData), v = .ref a ∧ d = .tuple (e :: es) ∧ H a = some (.tup (y :: ys)) ∧ At H y e ∧ AtAll H ys es, ?_, ?_⟩
    · refine isi_rd rfl (ans_tup hd.dat) ⟨_, rfl, ?_⟩
      rcases at_tup hd with ⟨a, ys, es', rfl, rfl, hy, hys⟩ | ⟨hn, hno⟩
      · rw [tupOf_of hy]
        refine iteF ?_
        refine ⟨_, rfl, a, ys, rfl, .inr (SqT.of hy), rfl, _, rfl, ?_⟩
        cases hys with
        | nil => exact iteT (no H (Same.refl H) rfl)
        | cons h1 t1 =>
          refine ite2 (fun c => ?_) (fun c => ?_)
          · have e := of_decide_eq_true c
            injection e with e
            rw [List.length_cons] at e
            omega
          · exact ⟨rfl, rfl, a, _, _, _, _, rfl, rfl, hy, h1, t1⟩
      · rw [hn]
        refine iteT ?_
        exact iteT (no H (Same.refl H) (form_not hno))
    rintro σ H1 ⟨rfl, rfl, a, y, ys, e, es, rfl, rfl, hy, h1, t1⟩
    -- word, words
    refine ⟨fun σ H2 => σ = [some (.ref a), some (.ref p), some (.int rep), some y, none, none, none, none] ∧ H2 = H1, ⟨_, rfl, a, _, 0, y, rfl, rfl, SqT.of hy, atI_nat (j := 0) rfl, rfl, rfl⟩, ?_⟩
    rintro σ H2 ⟨rfl, rfl⟩
    refine ⟨fun σ H3 => ∃ q, σ = [some (.ref a), some (.ref p), some (.int rep), some y, some (.ref q), none, none, none] ∧ Same H2 H3 ∧ H3 q = some (.tup ys), ?_, ?_⟩
    · refine ⟨_, rfl, 1, rfl, a, _, rfl, SqT.of hy, ?_, fun q nq => ⟨q, rfl, same_new (Same.refl _) nq, ?_⟩⟩
      · rintro ⟨z, _⟩
        rw [sIx_one (by rw [List.length_cons]; omega)] at z
        cases z
      · rw [upd_same, cut_tail]
    rintro σ H3 ⟨q, rfl, s3, hq⟩
    -- a text
    refine ⟨fun σ H4 => σ = [some (.ref a), some (.ref p), some (.int rep), some y, some (.ref q), none, none, none] ∧ H4 = H3 ∧ ∃ z, y = .str z ∧ e = .str z, ?_, ?_⟩
    · refine isi_rd rfl (ans_str (h1.dat.mono s3)) ⟨_, rfl, ?_⟩
      rcases isS_at h1 with ⟨e1, z, e2, e3⟩ | ⟨e1, e2⟩
      · rw [e1]
        exact iteF ⟨rfl, rfl, z, e2, e3⟩
      · rw [e1]
        exact iteT (no H3 s3 (form_str e2))
    rintro σ H4 ⟨rfl, rfl, z, rfl, rfl⟩
    have k : ∀ H', Same H4 H' → Q (.bl (wordsT sc z es rep)) H' := fun H' s' => k H' (s3.trans s')
    have hs4 := hs.mono s3
    have t4 := t1.mono s3
    clear no
    have st : ∀ {x y : Str}, V.str x = V.str y ↔ x = y := fun {x y} => ⟨fun e => by cases e; rfl, fun e => by rw [e]⟩
    -- a call
    refine ⟨fun σ H5 => σ = [some (.ref a), some (.ref p), some (.int rep), some (.str z), some (.ref q), none, none, none] ∧ H5 = H4 ∧ z ≠ "call", ?_, ?_⟩
    · refine ⟨_, rfl, rfl, _, rfl, ?_⟩
      refine ite2 (fun c => ?_) (fun c => ?_)
      · have ez := st.mp (of_decide_eq_true c)
        refine ⟨_, rfl, _, rfl, _, rfl, q, p, ys, es, sc, rep, rfl, hq, t4, hs4, few, fun H' s' => ?_⟩
        have w1 := k H' s'
        unfold wordsT at w1
        rw [if_pos ez] at w1
        exact w1
      · exact ⟨rfl, rfl, fun e => c (decide_eq_true (st.mpr e))⟩
    rintro σ H5 ⟨rfl, rfl, nc⟩
    unfold wordsT at k
    rw [if_neg nc] at k
    -- a form
    refine ⟨fun σ H6 => σ = [some (.ref a), some (.ref p), some (.int rep), some (.str z), some (.ref q), none, none, none] ∧ H6 = H5 ∧ ∃ ws, forms.lookup z = some ws, ?_, ?_⟩
    · cases hf : forms.lookup z with
      | none =>
        refine ⟨_, rfl, z, none, rfl, rfl, FM.no z hf, _, rfl, ?_⟩
        refine iteT ?_
        have w1 := k H5 (Same.refl _)
        rw [hf] at w1
        exact w1
      | some ws =>
        obtain ⟨t, ht, _⟩ := FM.has z ws hf
        refine ⟨_, rfl, z, _, rfl, rfl, ht, _, rfl, ?_⟩
        exact iteF ⟨rfl, rfl, ws, rfl⟩
    rintro σ H6 ⟨rfl, rfl, ws, hf⟩
    rw [hf] at k
    obtain ⟨t, ht, hw⟩ := FM.has z ws hf
    obtain ⟨w4, wn⟩ := forms_few hf
    have k : ∀ H', Same H6 H' → Q (.bl ((decide (es.length = ws.length) && !(decide (z = "repeat") && decide (rep = 3))) && (ws.zip es).all fun q => fitsT sc q.1 q.2)) H' := k
    -- kinds
    refine ⟨fun σ H7 => σ = [some (.ref a), some (.ref p), some (.int rep), some (.str z), some (.ref q), some (.ref t), none, none] ∧ H7 = H6, ⟨_, rfl, z, .ref t, .ref t, rfl, rfl, ht, rfl, rfl, rfl⟩, ?_⟩
    rintro σ H7 ⟨rfl, rfl⟩
    -- as many
    refine ⟨fun σ H8 => σ = [some (.ref a), some (.ref p), some (.int rep), some (.str z), some (.ref q), some (.ref t), none, none] ∧ H8 = H7 ∧ es.length = ws.length, ?_, ?_⟩
    · refine ⟨_, rfl, q, ys, rfl, .inr (SqT.of hq), _, rfl, t, _, rfl, .inr (hw H7), rfl, _, rfl, ?_⟩
      rw [List.length_map, t4.len]
      refine ite2 (fun c => ?_) (fun c => ?_)
      · have ne : ¬ es.length = ws.length := fun e => by
          rw [e, decide_eq_true rfl] at c
          cases c
        have w1 := k H7 (Same.refl _)
        rw [decide_eq_false ne, Bool.false_and, Bool.false_and] at w1
        exact w1
      · refine ⟨rfl, rfl, ?_⟩
        cases zz : decide (V.int (es.length : Int) = V.int (ws.length : Int)) with
        | true =>
          have e := of_decide_eq_true zz
          injection e with e
          omega
        | false => rw [zz] at c; exact absurd rfl c
    rintro σ H8 ⟨rfl, rfl, el⟩
    rw [decide_eq_true el, Bool.true_and] at k
    -- repeats
    refine ⟨fun σ H9 => σ = [some (.ref a), some (.ref p), some (.int rep), some (.str z), some (.ref q), some (.ref t), none, none] ∧ H9 = H8 ∧ (decide (z = "repeat") && decide (rep = 3)) = false, ?_, ?_⟩
    · refine ⟨_, rfl, rfl, _, rfl, ?_⟩
      by_cases er : z = "repeat"
      · rw [decide_eq_true (st.mpr er)]
        refine iteT ?_
        refine ⟨_, rfl, rfl, _, rfl, ?_⟩
        by_cases e3 : rep = 3
        · rw [decide_eq_true (show V.int rep = V.int 3 by rw [e3])]
          refine iteT ?_
          have w1 := k H8 (Same.refl _)
          rw [decide_eq_true er, decide_eq_true e3] at w1
          exact w1
        · rw [decide_eq_false (show ¬ V.int rep = V.int 3 from fun e => by injection e with e; exact e3 e)]
          refine iteF ⟨rfl, rfl, ?_⟩
          rw [decide_eq_false e3, Bool.and_false]
      · rw [decide_eq_false (fun e => er (st.mp e))]
        refine iteF ?_
        refine iteF ⟨rfl, rfl, ?_⟩
        rw [decide_eq_false er, Bool.false_and]
    rintro σ H9 ⟨rfl, rfl, en⟩
    rw [en, Bool.not_false, Bool.true_and] at k
    -- each word is of its kind
    refine all_zip (p := fun x v => match x with | .str kd => fitsV sc kd v | _ => false) (fun Q' w1 => ⟨_, rfl, _, rfl, w1⟩) (fun H1 _ => hw H1) (fun H1 s1 => SqT.of (s1 _ _ hq)) (by rw [List.length_map, t4.len, el]) (by rw [List.length_map]; exact Nat.lt_of_le_of_lt w4 (by decide)) (fun x y => rfl) (fun i x y hx hy H1 s1 Q' w1 => ?_) (fun H1 s1 => ?_)
    · rw [List.getElem?_map] at hx
      cases e : ws[i]? with
      | none =>
        rw [e] at hx
        cases hx
      | some kd =>
        rw [e] at hx
        cases hx
        obtain ⟨d1, _, ad⟩ := t4.get hy
        exact ⟨_, rfl, _, rfl, _, rfl, kd, y, p, sc, rfl, (ad.mono s1).dat, hs4.mono s1, fun H2 s2 => w1 H2 s2⟩
    · rw [zip_fits t4 ws]
      exact k H1 s1
end
end K1

set_option Elab.async false
set_option linter.all false
set_option maxRecDepth 100000
set_option maxHeartbeats 4000000
namespace K1
open PySem L2
/-! ### depth_of -/
def callDp (sc : Sco) (es : List PyData) : Int := match es with
  | [_, n, _] => (match n with
    | .str s => (match sc.cs.lookup s with
      | some r => r.2.2
      | none => 0)
    | _ => 0)
  | _ => 0
def depthT (sc : Sco) (s : Str) (es : List PyData) (rep : Int) : Int := if s = "repeat" then rep + 1 else if s = "call" then rep + callDp sc es else rep
theorem callT_is {sc : Sco} {es : List PyData} {rep : Int} (h : callT sc es rep = true) : ∃ t z a m b dp, es = [t, .str z, a] ∧ sc.cs.lookup z = some (m, b, dp) := by
  match es, h with
  | [], h => cases h
  | [_], h => cases h
  | [_, _], h => cases h
  | [t, n, a], h =>
    have h : callN sc t n a rep = true := h
    cases n with
    | str z =>
      unfold callN at h
      dsimp only at h
      cases q : sc.cs.lookup z with
      | none =>
        rw [q] at h
        cases h
      | some r => exact ⟨t, z, a, r.1, r.2.1, r.2.2, rfl, q⟩
    | _ => cases h
  | _ :: _ :: _ :: _ :: _, h => cases h
def spDepth (C : Addr) : Sp := fun vs H Q _ => ∃ (a p : Addr) (s : Str) (ys : List V) (es : List PyData) (sc : Sco) (rep : Int), vs = [.ref a, .ref p, .int rep] ∧ H a = some (.tup (.str s :: ys)) ∧ AtAll H ys es ∧ ScAt H C p sc ∧ wordsT sc s es rep = true ∧ Q (.int (depthT sc s es rep)) H
section
variable {P : Program} {w : World} {K : PySem.W.Frag} {mg : Str → Option Value} {base : Heap}
theorem str_iff {x y : Str} : V.str x = V.str y ↔ x = y := ⟨fun e => by cases e; rfl, fun e => by rw [e]⟩
theorem sc19 : FnScope ["statement", "scope", "repeats"] ["statement", "scope", "repeats"] (defScope (top 19)) := ⟨rfl, rfl, rfl, by decide +kernel, rfl, by decide +kernel, by decide +kernel⟩
theorem ok19 {f C : Addr} {fd : FuncData} (F : Fun K "depth_of" "depth_of" (top 19) f fd) (T : NoS K C) : FnOk P w K mg base CX0 1 f fd ["statement", "scope", "repeats"] (spDepth C) := by
  refine F.ok sc19 (fun vs H Q E h => ?_) (fun cdv A outer s H vs Q E hr h => ?_)
  · obtain ⟨a, p, s, ys, es, sc, rep, rfl, _⟩ := h
    rfl
  · obtain ⟨a, p, z, ys, es, sc, rep, rfl, ha, hys, hs, ok, k⟩ := h
    have hu := hu_of hr
    obtain ⟨dx, a1, a2, a3, a4, a6, hp, h1, h2, h3, h4, h6⟩ := hs.ex
    refine ⟨_, pss_mid (ps_if (pt_cmpR op_eq (pe_ix ix_tup (pv 0) pe_int (fun _ _ => rfl)) pe_str (nomark _)) (pss_one (ps_ret (pe_op op_add (pv 2) pe_int))) pss_nil)
      (pss_mid (ps_if (pt_cmpR op_eq (pe_ix ix_tup (pv 0) pe_int (fun _ _ => rfl)) pe_str (nomark _)) (pss_one (ps_ret (pe_op op_add (pv 2) (pe_ix ix_tup (pe_dget hu (pe_fld (pv 1) rfl) (pe_ix ix_tup (pv 0) pe_int (fun _ _ => rfl)) (fun _ _ => rfl)) pe_int (fun _ _ => rfl))))) pss_nil)
      (pss_one (ps_ret (pv 2)))), ?_⟩
    unfold depthT at k
    refine ⟨fun σ H1 => σ = [some (.ref a), some (.ref p), some (.int rep)] ∧ H1 = H ∧ z ≠ "repeat", ?_, ?_⟩
    · refine ⟨_, rfl, a, _, 0, _, rfl, rfl, SqT.of ha, atI_nat (j := 0) rfl, rfl, _, rfl, ?_⟩
      refine ite2 (fun c => ?_) (fun c => ?_)
      · rw [if_pos (str_iff.mp (of_decide_eq_true c))] at k
        exact ⟨_, rfl, _, _, rfl, rfl, k⟩
      · exact ⟨rfl, rfl, fun e => c (decide_eq_true (str_iff.mpr e))⟩
    rintro σ H1 ⟨rfl, rfl, n1⟩
    rw [if_neg n1] at k
    refine ⟨fun σ H2 => σ = [some (.ref a), some (.ref p), some (.int rep)] ∧ H2 = H1 ∧ z ≠ "call", ?_, ?_⟩
    · refine ⟨_, rfl, a, _, 0, _, rfl, rfl, SqT.of ha, atI_nat (j := 0) rfl, rfl, _, rfl, ?_⟩
      refine ite2 (fun c => ?_) (fun c => ?_)
      · have ez := str_iff.mp (of_decide_eq_true c)
        rw [if_pos ez] at k
        unfold wordsT at ok
        rw [if_pos ez] at ok
        obtain ⟨t, nm, ar, m, b, dp, rfl, hl⟩ := callT_is ok
        match ys, hys with
        | [x0, x1, x2], .cons at0 (.cons at1 (.cons at2 .nil)) =>
        obtain rfl := at_str at1
        obtain ⟨kvs, hk, hv⟩ := id h6
        have hv := hv nm
        rw [hl] at hv
        obtain ⟨tt, hv, htt⟩ := hv
        refine ⟨_, rfl, _, rfl, p, C, dx, _, _, rfl, hp, T.cl, T.n6, sc_f6 _ _ _ _ _ _, _, rfl, a, _, 2, .str nm, rfl, rfl, SqT.of ha, rfl, a6, .ref tt, rfl, ?_, tt, _, 2, .int dp, rfl, rfl, SqT.of htt, rfl, _, _, rfl, rfl, ?_⟩
        · rw [← hv]
          exact DGet.k (k := Sum.inr nm) hk
        · have e : callDp sc [t, .str nm, ar] = dp := by
            unfold callDp
            dsimp only
            rw [hl]
          rw [e] at k
          exact k
      · exact ⟨rfl, rfl, fun e => c (decide_eq_true (str_iff.mpr e))⟩
    rintro σ H2 ⟨rfl, rfl, n2⟩
    rw [if_neg n2] at k
    exact ⟨_, rfl, k⟩
theorem none_of' {H H1 : Hp} {a : Addr} (s : Same H H1) (h : H1 a = none) : H a = none := by
  cases e : H a with
  | none => rfl
  | some o => rw [s _ _ e] at h; cases h
/-! ### blocks_of -/
def blkV {α : Type} (s : Str) (ys : List α) : List (α × List Int) :=
  if s = "repeat" then (match ys with
    | [_, b] => [(b, [])]
    | _ => [])
  else if s = "ifnil" then (match ys with
    | [_, a, b] => [(b, [1]), (a, [0])]
    | _ => [])
  else if s = "ifsame" then (match ys with
    | [_, _, a, b] => [(b, [1]), (a, [0])]
    | _ => [])
  else []
def BlkAt (H0 H : Hp) (pp : List Int) (t : V) (q : V × List Int) : Prop := ∃ (u pl : Addr), t = .ref u ∧ H0 u = none ∧ H u = some (.tup [q.1, .ref pl]) ∧ H pl = some (.tup ((pp ++ q.2).map V.int))
def spBlocks : Sp := fun vs H Q _ => ∃ (a pl : Addr) (s : Str) (ys : List V) (pp : List Int), vs = [.ref a, .ref pl] ∧ H a = some (.tup (.str s :: ys)) ∧ H pl = some (.tup (pp.map V.int)) ∧ pp ≠ [] ∧ pp.length ≤ 1000 ∧ (∀ ws, forms.lookup s = some ws → ys.length = ws.length) ∧
  ∀ (q : Addr) (H' : Hp) (ts : List V), Same H H' → H q = none → H' q = some (.lst ts) → Paired (BlkAt H H' pp) ts (blkV s ys) → Q (.ref q) H'
theorem one_blk {H0 H : Hp} {pp : List Int} {z : Str} {ys : List V} {pl u : Addr} {b : V} (e : blkV z ys = [(b, [])]) (n : H0 u = none) (h : H u = some (.tup [b, .ref pl])) (hp : H pl = some (.tup (pp.map V.int))) : Paired (BlkAt H0 H pp) [.ref u] (blkV z ys) := by
  rw [e]
  exact .cons ⟨u, pl, rfl, n, h, by rw [List.append_nil]; exact hp⟩ .nil
theorem two_rd {σ : St} {H : Hp} {Q : VK} {a pl : Addr} {z : Str} {ys : List V} {pp : List Int} {b0 a0 : V} (e0 : σ[0]? = some (some (.ref a))) (e1 : σ[1]? = some (some (.ref pl))) (ha : H a = some (.tup (.str z :: ys))) (hpl : H pl = some (.tup (pp.map V.int))) (np : pp ≠ []) (pf : pp.length ≤ 1000)
    (hb : atI (V.str z :: ys) (-1) = some b0) (hc : atI (V.str z :: ys) (-2) = some a0) (eb : blkV z ys = [(b0, [1]), (a0, [0])]) (k : ∀ (q : Addr) (H' : Hp) (ts : List V), Same H H' → H q = none → H' q = some (.lst ts) → Paired (BlkAt H H' pp) ts (blkV z ys) → Q (.ref q) H') :
    tLst (tCons (tTup (tCons (tOp (rIxT K) (tVar 0) (tUn (rU fun i => V.int (-i)) (tC (V.int 1)))) (tCons (tOp (rCatT K) (tVar 1) (tTup (tCons (tC (V.int 1)) tNil))) tNil))) (tCons (tTup (tCons (tOp (rIxT K) (tVar 0) (tUn (rU fun i => V.int (-i)) (tC (V.int 2)))) (tCons (tOp (rCatT K) (tVar 1) (tTup (tCons (tC (V.int 0)) tNil))) tNil))) tNil)) σ H Q := by
  have big : 1001 ≤ sizeLine := by decide
  have nmap : pp.map V.int ≠ [] := fun e => np (List.map_eq_nil_iff.mp e)
  refine ⟨_, e0, 1, rfl, a, _, _, b0, rfl, rfl, SqT.of ha, hb, _, e1, by show 1 ≤ sizeLine; decide, fun t1 n1 => ?_⟩
  have s1 := same_new (o := .tup [.int 1]) (Same.refl H) n1
  refine ⟨pl, t1, _, _, rfl, rfl, SqT.of (s1 _ _ hpl), SqT.of upd_same, nmap, by rw [List.length_map, List.length_singleton]; omega, fun z => (by cases z), fun _ p1 m1 => ?_⟩
  have s2 := same_new (o := .tup (pp.map V.int ++ [.int 1])) s1 m1
  refine ⟨by show 2 ≤ sizeLine; decide, fun u1 v1 => ?_⟩
  have s3 := same_new (o := .tup [b0, .ref p1]) s2 v1
  refine ⟨_, e0, 2, rfl, a, _, _, a0, rfl, rfl, SqT.of (s3 _ _ ha), hc, _, e1, by show 1 ≤ sizeLine; decide, fun t2 n2 => ?_⟩
  have s4 := same_new (o := .tup [.int 0]) s3 n2
  refine ⟨pl, t2, _, _, rfl, rfl, SqT.of (s4 _ _ hpl), SqT.of upd_same, nmap, by rw [List.length_map, List.length_singleton]; omega, fun z => (by cases z), fun _ p2 m2 => ?_⟩
  have s5 := same_new (o := .tup (pp.map V.int ++ [.int 0])) s4 m2
  refine ⟨by show 2 ≤ sizeLine; decide, fun u2 v2 => ?_⟩
  have s6 := same_new (o := .tup [a0, .ref p2]) s5 v2
  refine ⟨by show 2 ≤ sizeLine; decide, fun q nq => ?_⟩
  have s7 := same_new (o := .lst [.ref u1, .ref u2]) s6 nq
  have f3 : Same _ _ := ((((same_new (o := .tup [.int 0]) (Same.refl _) n2).trans (same_new (o := .tup (pp.map V.int ++ [.int 0])) (Same.refl _) m2)).trans (same_new (o := .tup [a0, .ref p2]) (Same.refl _) v2)).trans (same_new (o := .lst [.ref u1, .ref u2]) (Same.refl _) nq))
  refine k q _ [.ref u1, .ref u2] s7 (none_of' s6 nq) upd_same ?_
  rw [eb]
  refine .cons ⟨u1, p1, rfl, none_of' s2 v1, f3 _ _ upd_same, ?_⟩ (.cons ⟨u2, p2, rfl, none_of' s5 v2, ?_, ?_⟩ .nil)
  · rw [List.map_append]
    exact f3 _ _ (same_new (o := .tup [b0, .ref p1]) (Same.refl _) v1 _ _ upd_same)
  · exact same_new (o := .lst [.ref u1, .ref u2]) (Same.refl _) nq _ _ upd_same
  · rw [List.map_append]
    exact ((same_new (o := .tup [a0, .ref p2]) (Same.refl _) v2).trans (same_new (o := .lst [.ref u1, .ref u2]) (Same.refl _) nq)) _ _ upd_same
theorem sc20 : FnScope ["statement", "place"] ["statement", "place"] (defScope (top 20)) := ⟨rfl, rfl, rfl, by decide +kernel, rfl, by decide +kernel, by decide +kernel⟩
theorem ok20 {f : Addr} {fd : FuncData} (F : Fun K "blocks_of" "blocks_of" (top 20) f fd) : FnOk P w K mg base CX0 1 f fd ["statement", "place"] spBlocks := by
  refine F.ok sc20 (fun vs H Q E h => ?_) (fun cdv A outer s H vs Q E hr h => ?_)
  · obtain ⟨a, pl, z, ys, pp, rfl, _⟩ := h
    rfl
  · obtain ⟨a, pl, z, ys, pp, rfl, ha, hpl, np, pf, hw, k⟩ := h
    refine ⟨_, pss_mid (ps_if (pt_cmpR op_eq (pe_ix ix_tup (pv 0) pe_int (fun _ _ => rfl)) pe_str (nomark _)) (pss_one (ps_ret (pe_lst (pa_cons (pe_tup (pa_cons (pe_ix ix_tup (pv 0) pe_int (fun _ _ => rfl)) (pa_cons (pv 1) pa_nil))) pa_nil)))) pss_nil)
      (pss_mid (ps_if (PW.pt (pw_or (pt_cmpR op_eq (pe_ix ix_tup (pv 0) pe_int (fun _ _ => rfl)) pe_str (nomark _)) (pw_or1 (pt_cmpR op_eq (pe_ix ix_tup (pv 0) pe_int (fun _ _ => rfl)) pe_str (nomark _)))))
        (pss_one (ps_ret (pe_lst (pa_cons (pe_tup (pa_cons (pe_ix ix_tup (pv 0) (pe_un un_neg pe_int) (fun _ _ => rfl)) (pa_cons (pe_op op_catT (pv 1) (pe_tup (pa_cons pe_int pa_nil))) pa_nil))) (pa_cons (pe_tup (pa_cons (pe_ix ix_tup (pv 0) (pe_un un_neg pe_int) (fun _ _ => rfl)) (pa_cons (pe_op op_catT (pv 1) (pe_tup (pa_cons pe_int pa_nil))) pa_nil))) pa_nil))))) pss_nil)
      (pss_one (ps_ret (pe_lst pa_nil)))), ?_⟩
    refine ⟨fun σ H1 => σ = [some (.ref a), some (.ref pl)] ∧ H1 = H ∧ z ≠ "repeat", ?_, ?_⟩
    · refine ⟨_, rfl, a, _, 0, _, rfl, rfl, SqT.of ha, atI_nat (j := 0) rfl, rfl, _, rfl, ?_⟩
      refine ite2 (fun c => ?_) (fun c => ?_)
      · have ez := str_iff.mp (of_decide_eq_true c)
        have l2 := hw ["times", "block"] (by rw [ez]; decide +kernel)
        match ys, l2 with
        | [y0, y1], _ =>
        refine ⟨_, rfl, a, _, 2, y1, rfl, rfl, SqT.of ha, rfl, _, rfl, by show 2 ≤ sizeLine; decide, fun u nu => ⟨by show 1 ≤ sizeLine; decide, fun q nq => ?_⟩⟩
        have s1 := same_new (o := .tup [y1, .ref pl]) (Same.refl H) nu
        have s2 := same_new (o := .lst [.ref u]) s1 nq
        refine k q _ [.ref u] s2 (none_of' s1 nq) upd_same (one_blk (pl := pl) (b := y1) ?_ nu (same_new (o := .lst [.ref u]) (Same.refl _) nq _ _ upd_same) (s2 _ _ hpl))
        unfold blkV
        rw [if_pos ez]
      · exact ⟨rfl, rfl, fun e => c (decide_eq_true (str_iff.mpr e))⟩
    rintro σ H1 ⟨rfl, rfl, n1⟩
    refine ⟨fun σ H2 => σ = [some (.ref a), some (.ref pl)] ∧ H2 = H1 ∧ z ≠ "ifnil" ∧ z ≠ "ifsame", ?_, ?_⟩
    · refine ⟨_, rfl, a, _, 0, _, rfl, rfl, SqT.of ha, atI_nat (j := 0) rfl, rfl, _, rfl, ?_⟩
      refine ite2 (fun c => ?_) (fun c => ?_)
      · have ez := str_iff.mp (of_decide_eq_true c)
        have l3 := hw ["variable", "block", "block"] (by rw [ez]; decide +kernel)
        match ys, l3 with
        | [y0, y1, y2], _ =>
        refine iteT ?_
        refine two_rd (b0 := y2) (a0 := y1) rfl rfl ha hpl np pf rfl rfl ?_ k
        unfold blkV
        rw [if_neg n1, if_pos ez]
      · refine ⟨_, rfl, a, _, 0, _, rfl, rfl, SqT.of ha, atI_nat (j := 0) rfl, rfl, _, rfl, ?_⟩
        refine ite2 (fun c2 => ?_) (fun c2 => ?_)
        · have ez := str_iff.mp (of_decide_eq_true c2)
          have l4 := hw ["variable", "variable", "block", "block"] (by rw [ez]; decide +kernel)
          match ys, l4 with
          | [y0, y1, y2, y3], _ =>
          refine two_rd (b0 := y3) (a0 := y2) rfl rfl ha hpl np pf rfl rfl ?_ k
          unfold blkV
          rw [if_neg n1, if_neg (fun e => c (decide_eq_true (str_iff.mpr e))), if_pos ez]
        · exact ⟨rfl, rfl, fun e => c (decide_eq_true (str_iff.mpr e)), fun e => c2 (decide_eq_true (str_iff.mpr e))⟩
    rintro σ H2 ⟨rfl, rfl, n2, n3⟩
    refine ⟨Nat.zero_le _, fun q nq => k q _ [] (same_new (Same.refl _) nq) nq upd_same ?_⟩
    unfold blkV
    rw [if_neg n1, if_neg n2, if_neg n3]
    exact .nil
end
end K1

set_option Elab.async false
set_option linter.all false
set_option maxRecDepth 100000
set_option maxHeartbeats 4000000
namespace K1
open PySem L2
/-! ### survey, as a run over trees -/
structure Fr where
  blk : PyData
  ahead : List Int
  nested : Nat
  rep : Int
  index : Nat
abbrev Sv : Type := Option (List Int) × Int × Int
inductive Nxt where
  | fin (r : Sv)
  | go (ws : List Fr) (many depth : Int)
/-- the frames of a statement's blocks, the first one on top -/
def pushT (s : Str) (es : List PyData) (place : List Int) (nested : Nat) (rep : Int) : List Fr := ((blkV s es).map fun q => (⟨q.1, place ++ q.2, nested + 1, if s = "repeat" then rep + 1 else rep, 0⟩ : Fr)).reverse
def wordsStep (sc : Sco) (w : Fr) (r : List Fr) (many depth : Int) (s : Str) (es : List PyData) : Nxt :=
  if wordsT sc s es w.rep = true then
    .go (pushT s es (w.ahead ++ [(w.index : Int)]) w.nested w.rep ++ { w with index := w.index + 1 } :: r) (many + 1) (if depthT sc s es w.rep > depth then depthT sc s es w.rep else depth)
  else .fin (some (w.ahead ++ [(w.index : Int)]), many, depth)
def stStep (sc : Sco) (w : Fr) (r : List Fr) (many depth : Int) (d : PyData) : Nxt := match d with
  | .tuple (.str s :: es) => wordsStep sc w r many depth s es
  | _ => .fin (some (w.ahead ++ [(w.index : Int)]), many, depth)
def stepT (sc : Sco) (w : Fr) (r : List Fr) (many depth : Int) : Nxt :=
  if w.nested > 60 then .go r (many + 61) depth
  else match w.blk with
    | .list ds => (match ds[w.index]? with
      | none => .go r many depth
      | some d => stStep sc w r many depth d)
    | _ => .fin (some w.ahead, many, depth)
def runT (sc : Sco) : Nat → List Fr → Int → Int → Option Sv
  | _, [], many, depth => some (none, many, depth)
  | 0, _ :: _, _, _ => none
  | n + 1, w :: r, many, depth => match stepT sc w r many depth with
    | .fin x => some x
    | .go ws many depth => runT sc n ws many depth
theorem runT_nil {sc : Sco} {n : Nat} {many depth : Int} : runT sc n [] many depth = some (none, many, depth) := by
  cases n <;> rfl
theorem runT_fin {sc : Sco} {m : Nat} {w : Fr} {r : List Fr} {many depth : Int} {x res : Sv} (h : runT sc (m + 1) (w :: r) many depth = some res) (e : stepT sc w r many depth = .fin x) : res = x := by
  unfold runT at h
  rw [e] at h
  exact (Option.some.inj h).symm
theorem runT_go {sc : Sco} {m : Nat} {w : Fr} {r ws : List Fr} {many depth many' depth' : Int} {res : Sv} (h : runT sc (m + 1) (w :: r) many depth = some res) (e : stepT sc w r many depth = .go ws many' depth') : runT sc m ws many' depth' = some res := by
  unfold runT at h
  rw [e] at h
  exact h
theorem step_deep {sc : Sco} {w : Fr} {r : List Fr} {many depth : Int} (h : w.nested > 60) : stepT sc w r many depth = .go r (many + 61) depth := by
  unfold stepT
  rw [if_pos h]
theorem step_not {sc : Sco} {w : Fr} {r : List Fr} {many depth : Int} (h : ¬ w.nested > 60) (n : ∀ ds, w.blk ≠ .list ds) : stepT sc w r many depth = .fin (some w.ahead, many, depth) := by
  unfold stepT
  rw [if_neg h]
  split
  · rename_i e
    exact absurd e (n _)
  · rfl
theorem step_end {sc : Sco} {w : Fr} {r : List Fr} {many depth : Int} {ds : List PyData} (h : ¬ w.nested > 60) (e : w.blk = .list ds) (n : ds[w.index]? = none) : stepT sc w r many depth = .go r many depth := by
  unfold stepT
  rw [if_neg h, e]
  show (match ds[w.index]? with | none => Nxt.go r many depth | some d => stStep sc w r many depth d) = _
  rw [n]
theorem step_st {sc : Sco} {w : Fr} {r : List Fr} {many depth : Int} {ds : List PyData} {d : PyData} (h : ¬ w.nested > 60) (e : w.blk = .list ds) (n : ds[w.index]? = some d) : stepT sc w r many depth = stStep sc w r many depth d := by
  unfold stepT
  rw [if_neg h, e]
  show (match ds[w.index]? with | none => Nxt.go r many depth | some d => stStep sc w r many depth d) = _
  rw [n]
theorem st_bad {sc : Sco} {w : Fr} {r : List Fr} {many depth : Int} {d : PyData} (h : formT sc d w.rep = false) : stStep sc w r many depth d = .fin (some (w.ahead ++ [(w.index : Int)]), many, depth) := by
  unfold stStep
  split
  · rename_i s es
    have h : wordsT sc s es w.rep = false := h
    unfold wordsStep
    rw [if_neg (by rw [h]; exact Bool.false_ne_true)]
  · rfl
theorem st_good {sc : Sco} {w : Fr} {d : PyData} (h : formT sc d w.rep = true) : ∃ s es, d = .tuple (.str s :: es) ∧ wordsT sc s es w.rep = true := by
  unfold formT at h
  split at h
  · exact ⟨_, _, rfl, h⟩
  · cases h
theorem at_lst2 {H : Hp} {v : V} {d : PyData} (h : At H v d) : (∃ (a : Addr) (ys : List V) (es : List PyData), v = .ref a ∧ d = .list es ∧ H a = some (.lst ys) ∧ AtAll H ys es) ∨ (lstOf H v = none ∧ ∀ es, d ≠ .list es) := by
  cases h with
  | lst e t => exact .inl ⟨_, _, _, rfl, rfl, e, t⟩
  | tup e t => exact .inr ⟨lstOf_tup e, fun _ z => by cases z⟩
  | dic e => exact .inr ⟨lstOf_dic e, fun _ z => by cases z⟩
  | _ => exact .inr ⟨rfl, fun _ z => by cases z⟩
theorem paired_snoc {α β : Type} {F : α → β → Prop} : ∀ {l : List α} {m : List β} {b : β}, Paired F l (m ++ [b]) → ∃ l' a, l = l' ++ [a] ∧ Paired F l' m ∧ F a b
  | _, [], b, h => by
    cases h with
    | cons f t =>
      cases t
      exact ⟨[], _, rfl, .nil, f⟩
  | _, c :: m, b, h => by
    cases h with
    | cons f t =>
      obtain ⟨l', a, e, p, q⟩ := paired_snoc t
      exact ⟨_ :: l', a, by rw [e]; rfl, .cons f p, q⟩
theorem paired_app {α β : Type} {F : α → β → Prop} : ∀ {l l' : List α} {m m' : List β}, Paired F l m → Paired F l' m' → Paired F (l ++ l') (m ++ m')
  | _, _, _, _, .nil, h => h
  | _, _, _, _, .cons f t, h => .cons f (paired_app t h)
theorem blk_at {H : Hp} {s : Str} {ys : List V} {es : List PyData} (h : AtAll H ys es) : Paired (fun q q' => At H q.1 q'.1 ∧ q.2 = q'.2) (blkV s ys) (blkV s es) := by
  unfold blkV
  by_cases h1 : s = "repeat"
  · rw [if_pos h1, if_pos h1]
    match ys, es, h with
    | _, _, .nil => exact .nil
    | _, _, .cons _ .nil => exact .nil
    | _, _, .cons _ (.cons h2 .nil) => exact .cons ⟨h2, rfl⟩ .nil
    | _, _, .cons _ (.cons _ (.cons _ _)) => exact .nil
  rw [if_neg h1, if_neg h1]
  by_cases h2 : s = "ifnil"
  · rw [if_pos h2, if_pos h2]
    match ys, es, h with
    | _, _, .nil => exact .nil
    | _, _, .cons _ .nil => exact .nil
    | _, _, .cons _ (.cons _ .nil) => exact .nil
    | _, _, .cons _ (.cons a (.cons b .nil)) => exact .cons ⟨b, rfl⟩ (.cons ⟨a, rfl⟩ .nil)
    | _, _, .cons _ (.cons _ (.cons _ (.cons _ _))) => exact .nil
  rw [if_neg h2, if_neg h2]
  by_cases h3 : s = "ifsame"
  · rw [if_pos h3, if_pos h3]
    match ys, es, h with
    | _, _, .nil => exact .nil
    | _, _, .cons _ .nil => exact .nil
    | _, _, .cons _ (.cons _ .nil) => exact .nil
    | _, _, .cons _ (.cons _ (.cons _ .nil)) => exact .nil
    | _, _, .cons _ (.cons _ (.cons a (.cons b .nil))) => exact .cons ⟨b, rfl⟩ (.cons ⟨a, rfl⟩ .nil)
    | _, _, .cons _ (.cons _ (.cons _ (.cons _ (.cons _ _)))) => exact .nil
  rw [if_neg h3, if_neg h3]
  exact .nil
theorem blk_few {α : Type} {s : Str} {ys : List α} : (blkV s ys).length ≤ 2 ∧ ∀ q ∈ blkV s ys, q.2.length ≤ 1 := by
  unfold blkV
  split
  · split
    · exact ⟨by simp, fun q hq => by rw [List.mem_singleton.mp hq]; simp⟩
    · exact ⟨by simp, fun q hq => by cases hq⟩
  split
  · split
    · exact ⟨by simp, fun q hq => by
        simp only [List.mem_cons, List.not_mem_nil, or_false] at hq
        rcases hq with rfl | rfl <;> simp⟩
    · exact ⟨by simp, fun q hq => by cases hq⟩
  split
  · split
    · exact ⟨by simp, fun q hq => by
        simp only [List.mem_cons, List.not_mem_nil, or_false] at hq
        rcases hq with rfl | rfl <;> simp⟩
    · exact ⟨by simp, fun q hq => by cases hq⟩
  exact ⟨by simp, fun q hq => by cases hq⟩
theorem same_updL {H H2 : Hp} {a : Addr} {o : HO} (s : Same H H2) (h : H a = none) : Same H (upd H2 a o) := fun b u e => by
  have ne : b ≠ a := fun z => by rw [z, h] at e; cases e
  rw [upd_ne ne]
  exact s _ _ e
/-! ### where it stands -/
def FrAt (H0 H : Hp) (v : V) (w : Fr) : Prop := ∃ (u pl : Addr) (bv : V), v = .ref u ∧ H u = some (.tup [bv, .ref pl, .int w.nested, .int w.rep, .int w.index]) ∧ At H0 bv w.blk ∧ H pl = some (.tup (w.ahead.map V.int)) ∧ w.ahead.length ≤ 2 * w.nested ∧ w.nested ≤ 61 ∧ ∀ ds, w.blk = .list ds → w.index ≤ ds.length
theorem FrAt.mono {H0 H H' : Hp} {v : V} {w : Fr} (h : FrAt H0 H v w) (s : Same H H') : FrAt H0 H' v w := by
  obtain ⟨u, pl, bv, e, h1, h2, h3, h4⟩ := h
  exact ⟨u, pl, bv, e, s _ _ h1, h2, s _ _ h3, h4⟩
theorem FrAt.upd {H0 H : Hp} {v : V} {w : Fr} {l : Addr} {xs ys : List V} (h : FrAt H0 H v w) (hl : H l = some (.lst xs)) : FrAt H0 (L2.upd H l (.lst ys)) v w := by
  obtain ⟨u, pl, bv, e, h1, h2, h3, h4⟩ := h
  refine ⟨u, pl, bv, e, ?_, h2, ?_, h4⟩
  · rw [upd_ne (ne_of h1 hl (by intro z; cases z))]
    exact h1
  · rw [upd_ne (ne_of h3 hl (by intro z; cases z))]
    exact h3
def PlaceV (H : Hp) (v : V) (o : Option (List Int)) : Prop := match o with
  | none => v = .non
  | some l => ∃ t, v = .ref t ∧ H t = some (.tup (l.map V.int))
def SuAt (H : Hp) (CU x : Addr) (r : Sv) : Prop := ∃ (dx : Addr) (pv : V) (bu : Bool), H x = some (.ins CU dx (suF pv (.int r.2.1) (.int r.2.2) (.bl bu))) ∧ PlaceV H pv r.1 ∧ ∀ l, r.1 = some l → l.length ≤ 200
def spSv (C CU : Addr) : Sp := fun vs H Q _ => ∃ (b : V) (d : PyData) (p : Addr) (sc : Sco) (n : Nat) (res : Sv), vs = [b, .ref p] ∧ At H b d ∧ ScAt H C p sc ∧ (∀ z r, sc.cs.lookup z = some r → r.1 ≤ 100) ∧ n ≤ 100000 ∧ runT sc n [⟨d, [], 0, 0, 0⟩] 0 0 = some res ∧
  ∀ x H', Same H H' → H x = none → SuAt H' CU x res → Q (.ref x) H'
end K1

set_option Elab.async false
set_option linter.all false
set_option maxRecDepth 100000
set_option maxHeartbeats 8000000
namespace K1
open PySem L2
theorem words_len {sc : Sco} {s : Str} {es : List PyData} {rep : Int} {ws : List Str} (h : wordsT sc s es rep = true) (e : forms.lookup s = some ws) : es.length = ws.length := by
  unfold wordsT at h
  split at h
  · rename_i z
    rw [z, show forms.lookup ("call" : Str) = none by decide +kernel] at e
    cases e
  · rw [e] at h
    have h : ((decide (es.length = ws.length) && !(decide (s = "repeat") && decide (rep = 3))) && (ws.zip es).all fun q => fitsT sc q.1 q.2) = true := h
    rw [Bool.and_eq_true, Bool.and_eq_true] at h
    exact of_decide_eq_true h.1.1
abbrev svN : List Str := ["body", "scope", "many", "depth", "buried", "ways", "block", "ahead", "nested", "repeats", "index", "statement", "place", "inner", "part", "start"]
section
variable {P : Program} {w : World} {K : PySem.W.Frag} {mg : Str → Option Value} {base : Heap}
theorem okSv {f C CU : Addr} {fd : FuncData} {tD tS : Tok} (F : Fun K "survey" "survey" (top 21) f fd) (B : Blt mg) (T : NoS K C) (hD : mg "DEEPEST_BLOCK" = some (.int 60 tD)) (hS : mg "MOST_STATEMENTS" = some (.int 60 tS)) (MU : Mkr P w K mg base CX0 1 "Survey" CU ["self", "place", "many", "depth", "buried"] (spSuI CU))
    (C18 : Cal P w K mg base CX0 5 "fits_form" ["statement", "scope", "repeats"] (spForm C)) (C19 : Cal P w K mg base CX0 1 "depth_of" ["statement", "scope", "repeats"] (spDepth C)) (C20 : Cal P w K mg base CX0 1 "blocks_of" ["statement", "place"] spBlocks) :
    FnOk P w K mg base CX0 6 f fd ["body", "scope"] (spSv C CU) := by
  refine F.ok sc21 (fun vs H Q E h => ?_) (fun cdv A outer s H vs Q E hr h => ?_)
  · obtain ⟨b, d, p, sc, n, res, rfl, _⟩ := h
    rfl
  · obtain ⟨b, d, p, sc, n, res, rfl, hb, hs, few, hn, hrun, k⟩ := h
    refine ⟨_, pss_cons (ps_set (i := 2) sc21.nd rfl (Or.inl rfl) pe_int) (pss_cons (ps_set (i := 3) sc21.nd rfl (Or.inl rfl) pe_int)
      (pss_cons (ps_set (i := 4) sc21.nd rfl (Or.inl rfl) pe_bl) (pss_cons (ps_set (i := 5) sc21.nd rfl (Or.inl rfl) (pe_lst (pa_cons (pe_tup (pa_cons (pv 0) (pa_cons (pe_tup pa_nil) (pa_cons pe_int (pa_cons pe_int (pa_cons pe_int pa_nil)))))) pa_nil)))
      (pss_cons (ps_while PassesOwn.never (pt_truth (pv 5) (by intro _; rfl))
        (pss_mid (ps_asg (pe_bm0 PySem.F.plainAttrs_list PySem.F.slot_list_pop PySem.F.type_list_pop mt_pop (pv 5)) (pg_tup rfl (pgs_cons (pg_name (i := 6) sc21.nd rfl (Or.inl rfl)) (pgs_cons (pg_name (i := 7) sc21.nd rfl (Or.inl rfl)) (pgs_cons (pg_name (i := 8) sc21.nd rfl (Or.inl rfl)) (pgs_cons (pg_name (i := 9) sc21.nd rfl (Or.inl rfl)) (pgs_cons (pg_name (i := 10) sc21.nd rfl (Or.inl rfl)) pgs_nil)))))))
        (pss_mid (ps_if (pt_cmpR op_gt (pv 8) (pe_glob (v := .int 60) rfl hD ⟨_, rfl⟩) (nomark _)) (pss_cons (ps_aug (i := 2) sc21.nd rfl (Or.inl rfl) (pe_op op_add (pe_glob (v := .int 60) rfl hS ⟨_, rfl⟩) pe_int) iop_add) (pss_cons (ps_set (i := 4) sc21.nd rfl (Or.inl rfl) pe_bl) (pss_one ps_continue))) pss_nil)
        (pss_mid (ps_if (pt_not (pt_val (pt_isi B (pv 6) B.list PyProof.Rows.boot_list))) (pss_one (ps_ret (pe_mkr MU hr (by decide) pass0 (pa_cons (pv 7) (pa_cons (pv 2) (pa_cons (pv 3) (pa_cons (pv 4) pa_nil))))))) pss_nil)
        (pss_mid (ps_if (pt_cmpR op_eq (pv 10) (pe_callB call_len_seq rfl B.len PySem.boot_len (pa_cons (pv 6) pa_nil)) (nomark _)) (pss_one ps_continue) pss_nil)
        (pss_mid (ps_set (i := 11) sc21.nd rfl (Or.inl rfl) (pe_ix ix_list (pv 6) (pv 10) (fun _ _ => rfl)))
        (pss_mid (ps_set (i := 12) sc21.nd rfl (Or.inl rfl) (pe_op op_catA (pv 7) (pe_tup (pa_cons (pv 10) pa_nil))))
        (pss_mid (ps_if (pt_not (pt_val (pe_cal C18 hr (by decide) pass0 (pa_cons (pv 11) (pa_cons (pv 1) (pa_cons (pv 9) pa_nil)))))) (pss_one (ps_ret (pe_mkr MU hr (by decide) pass0 (pa_cons (pv 12) (pa_cons (pv 2) (pa_cons (pv 3) (pa_cons (pv 4) pa_nil))))))) pss_nil)
        (pss_mid (ps_aug (i := 2) sc21.nd rfl (Or.inl rfl) pe_int iop_add)
        (pss_mid (ps_set (i := 3) sc21.nd rfl (Or.inl rfl) (pe_callB (call_max2 rfl) rfl B.max PyProof.Rows.boot_max (pa_cons (pv 3) (pa_cons (pe_cal C19 hr (by decide) pass0 (pa_cons (pv 11) (pa_cons (pv 1) (pa_cons (pv 9) pa_nil)))) pa_nil))))
        (pss_mid (ps_expr (pe_bm PySem.F.plainAttrs_list PySem.F.slot_list_append PySem.F.type_list_append mt_append (pv 5) (pa_cons (pe_tup (pa_cons (pv 6) (pa_cons (pv 7) (pa_cons (pv 8) (pa_cons (pv 9) (pa_cons (pe_op op_add (pv 10) pe_int) pa_nil)))))) pa_nil)))
        (pss_mid (ps_set (i := 13) sc21.nd rfl (Or.inl rfl) (pe_ifExp (pt_cmpR op_eq (pe_ix ix_tup (pv 11) pe_int (fun _ _ => rfl)) pe_str (nomark _)) (pe_op op_add (pv 9) pe_int) (pv 9)))
        (pss_one (ps_for PassesOwn.never rfl (pi_list (pe_cal C20 hr (by decide) pass0 (pa_cons (pv 11) (pa_cons (pv 12) pa_nil)))) (pg_tup rfl (pgs_cons (pg_name (i := 14) sc21.nd rfl (Or.inl rfl)) (pgs_cons (pg_name (i := 15) sc21.nd rfl (Or.inl rfl)) pgs_nil)))
          (pss_one (ps_expr (pe_bm PySem.F.plainAttrs_list PySem.F.slot_list_append PySem.F.type_list_append mt_append (pv 5) (pa_cons (pe_tup (pa_cons (pv 14) (pa_cons (pv 15) (pa_cons (pe_op op_add (pv 8) pe_int) (pa_cons (pv 13) (pa_cons pe_int pa_nil)))))) pa_nil))))))))))))))))))
      (pss_one (ps_ret (pe_mkr MU hr (by decide) pass0 (pa_cons pe_non (pa_cons (pv 2) (pa_cons (pv 3) (pa_cons (pv 4) pa_nil))))))))))), ?_⟩
    refine ⟨_, rfl, Nat.zero_le _, fun e he => ⟨(by show 5 ≤ sizeLine; decide), fun t ht => ⟨(by show 1 ≤ sizeLine; decide), fun l hl => ?_⟩⟩⟩
    have s0 : Same H (upd H e (.tup [])) := same_new (Same.refl _) he
    have s1 := same_new (o := .tup [b, .ref e, .int 0, .int 0, .int 0]) s0 ht
    have s2 := same_new (o := .lst [.ref t]) s1 hl
    have hl0 : H l = none := none_of' s1 hl
    have big : 400000 ≤ sizeLine := by decide
    refine ⟨fun m σ H1 => ∃ (ws : List Fr) (many depth : Int) (bu : Bool) (vs : List V) (v5 v6 v7 v8 v9 v10 v11 v12 v13 v14 : Option V), σ = [some b, some (.ref p), some (.int many), some (.int depth), some (.bl bu), some (.ref l), v5, v6, v7, v8, v9, v10, v11, v12, v13, v14] ∧ Same H H1 ∧ H1 l = some (.lst vs) ∧ Paired (FrAt H H1) vs ws.reverse ∧ runT sc m ws many depth = some res ∧ ws.length + 3 * m ≤ 3 * n + 1,
      ⟨n, [⟨d, [], 0, 0, 0⟩], 0, 0, false, [.ref t], none, none, none, none, none, none, none, none, none, none, rfl, s2, upd_same, .cons ⟨t, e, b, rfl, same_new (o := .lst [.ref t]) (Same.refl _) hl _ _ upd_same, hb, ((same_new (o := .tup [b, .ref e, .int 0, .int 0, .int 0]) (Same.refl _) ht).trans (same_new (o := .lst [.ref t]) (Same.refl _) hl)) _ _ upd_same, Nat.le_refl _, Nat.zero_le _, fun ds _ => Nat.zero_le _⟩ .nil, hrun, by rw [List.length_singleton]; omega⟩, ?_⟩
    rintro m σ H1 ⟨ws, many, depth, bu, vs, v5, v6, v7, v8, v9, v10, v11, v12, v13, v14, rfl, s3, hl1, hst, hrn, hbd⟩
    cases ws with
    | nil =>
      have ev : vs = [] := by
        cases hst
        rfl
      subst ev
      refine ⟨_, rfl, false, .inl ⟨_, SqL.of hl1, rfl⟩, ?_⟩
      refine iteF ?_
      rw [runT_nil] at hrn
      cases hrn
      refine ⟨_, rfl, _, rfl, _, rfl, fun x dx nx ndx nex => ?_⟩
      refine ⟨x, dx, _, _, _, _, rfl, upd_same, fun H3 h3 kp => ⟨rfl, k x H3 (s3.trans (made_same nx ndx kp)) (none_of' s3 nx) ⟨dx, .non, _, h3, rfl, fun l e => by cases e⟩⟩⟩
    | cons w r =>
      rw [List.reverse_cons] at hst
      obtain ⟨vs', v, rfl, hst2, hfr⟩ := paired_snoc hst
      obtain ⟨u, pl, bv, rfl, hu1, hbv, hpl, ha2, hn61, hix⟩ := hfr
      cases m with
      | zero => cases hrn
      | succ m =>
      refine ⟨_, rfl, true, .inl ⟨_, SqL.of hl1, by simp⟩, ?_⟩
      refine iteT ?_
      refine ⟨fun σ' H' => ∃ (ws : List Fr) (many depth : Int) (bu : Bool) (vs : List V) (v5 v6 v7 v8 v9 v10 v11 v12 v13 v14 : Option V), σ' = [some b, some (.ref p), some (.int many), some (.int depth), some (.bl bu), some (.ref l), v5, v6, v7, v8, v9, v10, v11, v12, v13, v14] ∧ Same H H' ∧ H' l = some (.lst vs) ∧ Paired (FrAt H H') vs ws.reverse ∧ runT sc m ws many depth = some res ∧ ws.length + 3 * m ≤ 3 * n + 1,
        fun σ' H' h => ⟨m, Nat.lt_succ_self _, h⟩, ?_⟩
      -- pop
      have s4 : Same H (upd H1 l (.lst vs')) := same_updL s3 hl0
      have ul : (upd H1 l (.lst vs')) u = H1 u := upd_ne (ne_of hu1 hl1 (by intro z; cases z))
      have pll : (upd H1 l (.lst vs')) pl = H1 pl := upd_ne (ne_of hpl hl1 (by intro z; cases z))
      have hst4 : Paired (FrAt H (upd H1 l (.lst vs'))) vs' r.reverse := hst2.mono fun _ _ z => z.upd hl1
      rw [List.length_cons] at hbd
      refine ⟨fun σ H2 => σ = [some b, some (.ref p), some (.int many), some (.int depth), some (.bl bu), some (.ref l), some bv, some (.ref pl), some (.int w.nested), some (.int w.rep), some (.int w.index), v10, v11, v12, v13, v14] ∧ H2 = upd H1 l (.lst vs'), ?_, ?_⟩
      · refine ⟨_, rfl, .inl ⟨rfl, _, SqL.of hl1⟩, l, _, .ref u, rfl, rfl, hl1, by simp, ?_⟩
        rw [List.dropLast_concat]
        exact ⟨u, _, rfl, SqT.of (by rw [ul]; exact hu1), rfl, bv, _, rfl, .ref pl, _, rfl, _, _, rfl, _, _, rfl, _, _, rfl, rfl, rfl, rfl⟩
      rintro σ H2 ⟨rfl, rfl⟩
      -- too deep
      refine ⟨fun σ H2 => σ = [some b, some (.ref p), some (.int many), some (.int depth), some (.bl bu), some (.ref l), some bv, some (.ref pl), some (.int w.nested), some (.int w.rep), some (.int w.index), v10, v11, v12, v13, v14] ∧ H2 = upd H1 l (.lst vs') ∧ ¬ w.nested > 60, ?_, ?_⟩
      · refine ⟨_, rfl, _, _, rfl, rfl, _, rfl, ?_⟩
        refine ite2 (fun c => ?_) (fun c => ?_)
        · have c' : w.nested > 60 := by
            have := of_decide_eq_true c
            omega
          refine ⟨_, rfl, _, _, rfl, rfl, _, _, rfl, rfl, ?_⟩
          exact ⟨r, many + 61, depth, true, vs', _, _, _, _, _, _, _, _, _, _, rfl, s4, upd_same, hst4, runT_go hrn (step_deep c'), by omega⟩
        · exact ⟨rfl, rfl, fun z => c (decide_eq_true (by omega))⟩
      rintro σ H2 ⟨rfl, rfl, nd⟩
      -- a list
      refine ⟨fun σ H2 => σ = [some b, some (.ref p), some (.int many), some (.int depth), some (.bl bu), some (.ref l), some bv, some (.ref pl), some (.int w.nested), some (.int w.rep), some (.int w.index), v10, v11, v12, v13, v14] ∧ H2 = upd H1 l (.lst vs') ∧ ∃ (a : Addr) (ys : List V) (ds : List PyData), bv = .ref a ∧ w.blk = .list ds ∧ H a = some (.lst ys) ∧ AtAll H ys ds, ?_, ?_⟩
      · refine isi_rd rfl (ans_list (hbv.dat.mono s4)) ⟨_, rfl, ?_⟩
        rw [lstOf_same hbv.dat s4]
        rcases at_lst2 hbv with ⟨a, ys, ds, e1, e2, hy, hys⟩ | ⟨hn1, hno⟩
        · rw [e1, lstOf_of hy]
          exact iteF ⟨rfl, rfl, a, ys, ds, rfl, e2, hy, hys⟩
        · rw [hn1]
          refine iteT ?_
          have er := runT_fin hrn (step_not nd hno)
          subst er
          refine ⟨_, rfl, _, rfl, _, rfl, _, rfl, fun x dx nx ndx nex => ?_⟩
          refine ⟨x, dx, _, _, _, _, rfl, upd_same, fun H3 h3 kp => ?_⟩
          have sm := made_same nx ndx kp
          exact ⟨rfl, k x H3 (s4.trans sm) (none_of' s4 nx) ⟨dx, .ref pl, _, h3, ⟨pl, rfl, sm _ _ (by rw [pll]; exact hpl)⟩, fun l e => by cases e; omega⟩⟩
      rintro σ H2 ⟨rfl, rfl, a, ys, ds, rfl, ew, hy, hys⟩
      have hy4 := s4 _ _ hy
      have hixd := hix ds ew
      -- its end
      refine ⟨fun σ H2 => σ = [some b, some (.ref p), some (.int many), some (.int depth), some (.bl bu), some (.ref l), some (.ref a), some (.ref pl), some (.int w.nested), some (.int w.rep), some (.int w.index), v10, v11, v12, v13, v14] ∧ H2 = upd H1 l (.lst vs') ∧ w.index < ds.length, ?_, ?_⟩
      · refine ⟨_, rfl, _, rfl, a, ys, rfl, .inl (SqL.of hy4), rfl, _, rfl, ?_⟩
        rw [hys.len]
        refine ite2 (fun c => ?_) (fun c => ?_)
        · have e := of_decide_eq_true c
          injection e with e
          exact ⟨r, many, depth, bu, vs', _, _, _, _, _, _, _, _, _, _, rfl, s4, upd_same, hst4, runT_go hrn (step_end nd ew (List.getElem?_eq_none (by omega))), by omega⟩
        · refine ⟨rfl, rfl, ?_⟩
          have : ¬ w.index = ds.length := fun z => by
            rw [z, decide_eq_true rfl] at c
            exact c rfl
          omega
      rintro σ H2 ⟨rfl, rfl, hlt⟩
      -- statement
      obtain ⟨x, hx⟩ : ∃ x, ys[w.index]? = some x := ⟨ys[w.index]'(by rw [hys.len]; exact hlt), List.getElem?_eq_getElem _⟩
      obtain ⟨dd, hdd, had⟩ := hys.get hx
      refine ⟨fun σ H2 => σ = [some b, some (.ref p), some (.int many), some (.int depth), some (.bl bu), some (.ref l), some (.ref a), some (.ref pl), some (.int w.nested), some (.int w.rep), some (.int w.index), some x, v11, v12, v13, v14] ∧ H2 = upd H1 l (.lst vs'), ⟨_, rfl, _, rfl, a, ys, _, x, rfl, rfl, SqL.of hy4, atI_nat hx, rfl, rfl⟩, ?_⟩
      rintro σ H2 ⟨rfl, rfl⟩
      -- place
      refine ⟨fun σ H2 => ∃ pq : Addr, σ = [some b, some (.ref p), some (.int many), some (.int depth), some (.bl bu), some (.ref l), some (.ref a), some (.ref pl), some (.int w.nested), some (.int w.rep), some (.int w.index), some x, some (.ref pq), v12, v13, v14] ∧ Same (upd H1 l (.lst vs')) H2 ∧ H2 pq = some (.tup ((w.ahead ++ [(w.index : Int)]).map V.int)), ?_, ?_⟩
      · refine ⟨_, rfl, _, rfl, (by show 1 ≤ sizeLine; decide), fun t2 nt2 => ?_⟩
        have s5 := same_new (o := .tup [.int w.index]) (Same.refl (upd H1 l (.lst vs'))) nt2
        refine ⟨pl, t2, _, _, rfl, rfl, SqT.of (s5 _ _ (by rw [pll]; exact hpl)), SqT.of upd_same, by rw [List.length_map, List.length_singleton]; omega, fun z => ?_, fun _ z => (by cases z), fun _ _ q nq => ?_⟩
        · have z : w.ahead = [] := List.map_eq_nil_iff.mp z
          exact ⟨t2, rfl, s5, by rw [upd_same, z]; rfl⟩
        · exact ⟨q, rfl, same_new s5 nq, by rw [upd_same, List.map_append]; rfl⟩
      rintro σ H2 ⟨pq, rfl, s5, hpq⟩
      have s45 := s4.trans s5
      -- fits_form
      refine ⟨fun σ H3 => σ = [some b, some (.ref p), some (.int many), some (.int depth), some (.bl bu), some (.ref l), some (.ref a), some (.ref pl), some (.int w.nested), some (.int w.rep), some (.int w.index), some x, some (.ref pq), v12, v13, v14] ∧ Same H2 H3 ∧ formT sc dd w.rep = true, ?_, ?_⟩
      · refine ⟨_, rfl, _, rfl, _, rfl, x, p, dd, sc, w.rep, rfl, had.mono s45, hs.mono s45, few, fun H3 s6 => ⟨_, rfl, ?_⟩⟩
        cases ef : formT sc dd w.rep with
        | true => exact iteF ⟨rfl, s6, rfl⟩
        | false =>
          refine iteT ?_
          have er := runT_fin hrn ((step_st nd ew hdd).trans (st_bad ef))
          subst er
          refine ⟨_, rfl, _, rfl, _, rfl, _, rfl, fun x2 dx nx ndx nex => ?_⟩
          refine ⟨x2, dx, _, _, _, _, rfl, upd_same, fun H4 h4 kp => ?_⟩
          have sm := made_same nx ndx kp
          exact ⟨rfl, k x2 H4 ((s45.trans s6).trans sm) (none_of' (s45.trans s6) nx) ⟨dx, .ref pq, _, h4, ⟨pq, rfl, sm _ _ (s6 _ _ hpq)⟩, fun l e => by cases e; rw [List.length_append, List.length_singleton]; omega⟩⟩
      rintro σ H3 ⟨rfl, s6, ef⟩
      obtain ⟨z, es, rfl, wok⟩ := st_good ef
      have est : stepT sc w r many depth = .go (pushT z es (w.ahead ++ [(w.index : Int)]) w.nested w.rep ++ { w with index := w.index + 1 } :: r) (many + 1) (if depthT sc z es w.rep > depth then depthT sc z es w.rep else depth) := by
        rw [step_st nd ew hdd]
        show wordsStep sc w r many depth z es = _
        unfold wordsStep
        rw [if_pos wok]
      have hrn := runT_go hrn est
      -- the statement is a tuple
      rcases at_tup had with ⟨sa, xs, es', rfl, ee, hsa, hsx⟩ | ⟨_, hno⟩
      case inr => exact absurd rfl (hno _)
      cases ee
      cases hsx with
      | cons hz hys2 =>
      obtain rfl := at_str hz
      rename_i xs2 _ 
      have s456 := s45.trans s6
      have hsa3 := s456 _ _ hsa
      -- many
      refine ⟨fun σ H4 => σ = [some b, some (.ref p), some (.int (many + 1)), some (.int depth), some (.bl bu), some (.ref l), some (.ref a), some (.ref pl), some (.int w.nested), some (.int w.rep), some (.int w.index), some (.ref sa), some (.ref pq), v12, v13, v14] ∧ H4 = H3, ⟨_, rfl, _, _, rfl, rfl, rfl, rfl⟩, ?_⟩
      rintro σ H4 ⟨rfl, rfl⟩
      -- depth
      refine ⟨fun σ H5 => σ = [some b, some (.ref p), some (.int (many + 1)), some (.int (if depthT sc z es w.rep > depth then depthT sc z es w.rep else depth)), some (.bl bu), some (.ref l), some (.ref a), some (.ref pl), some (.int w.nested), some (.int w.rep), some (.int w.index), some (.ref sa), some (.ref pq), v12, v13, v14] ∧ H5 = H4, ⟨_, rfl, _, rfl, _, rfl, _, rfl, sa, p, z, _, es, sc, w.rep, rfl, hsa3, hys2.mono s456, hs.mono s456, wok, _, _, rfl, rfl, rfl⟩, ?_⟩
      rintro σ H5 ⟨rfl, rfl⟩
      generalize (if depthT sc z es w.rep > depth then depthT sc z es w.rep else depth) = depth' at hrn ⊢
      have hl5 : H5 l = some (.lst vs') := (s5.trans s6) _ _ upd_same
      have hst5 : Paired (FrAt H H5) vs' r.reverse := hst4.mono fun _ _ z => z.mono (s5.trans s6)
      have lv : vs'.length = r.length := by rw [hst2.length, List.length_reverse]
      -- the same block goes on
      refine ⟨fun σ H6 => ∃ t3 : Addr, σ = [some b, some (.ref p), some (.int (many + 1)), some (.int depth'), some (.bl bu), some (.ref l), some (.ref a), some (.ref pl), some (.int w.nested), some (.int w.rep), some (.int w.index), some (.ref sa), some (.ref pq), v12, v13, v14] ∧ Same H H6 ∧ H6 l = some (.lst (vs' ++ [.ref t3])) ∧ Paired (FrAt H H6) (vs' ++ [.ref t3]) (r.reverse ++ [{ w with index := w.index + 1 }]) ∧ H6 pq = some (.tup ((w.ahead ++ [(w.index : Int)]).map V.int)), ?_, ?_⟩
      · refine ⟨_, rfl, .inl ⟨rfl, _, SqL.of hl5⟩, _, rfl, _, rfl, _, rfl, _, rfl, _, rfl, _, _, rfl, rfl, (by show 5 ≤ sizeLine; decide), fun t3 nt3 => ?_⟩
        have s7 := same_new (o := .tup [.ref a, .ref pl, .int w.nested, .int w.rep, .int (w.index + 1)]) (Same.refl H5) nt3
        have hl6 := s7 _ _ hl5
        have ntl : t3 ≠ l := fun z => by rw [z, hl5] at nt3; cases nt3
        refine ⟨l, vs', _, rfl, rfl, hl6, by omega, t3, rfl, same_updL (s456.trans s7) hl0, upd_same, paired_app (hst5.mono fun _ _ z => (z.mono s7).upd hl6) (.cons ⟨t3, pl, .ref a, rfl, ?_, hbv, ?_, ha2, hn61, fun ds' e => ?_⟩ .nil), ?_⟩
        · rw [upd_ne ntl, upd_same]
          rfl
        · rw [upd_ne (ne_of (s7 _ _ ((s5.trans s6) _ _ (by rw [pll]; exact hpl))) hl6 (by intro z; cases z))]
          exact s7 _ _ ((s5.trans s6) _ _ (by rw [pll]; exact hpl))
        · have e : w.blk = .list ds' := e
          rw [ew] at e
          cases e
          exact hlt
        · have hp6 := s7 _ _ (s6 _ _ hpq)
          rw [upd_ne (ne_of hp6 hl6 (by intro z; cases z))]
          exact hp6
      rintro σ H6 ⟨t3, rfl, s7, hl6, hst6, hpq6⟩
      have hsa6 := s7 _ _ hsa
      -- inner
      refine ⟨fun σ H7 => σ = [some b, some (.ref p), some (.int (many + 1)), some (.int depth'), some (.bl bu), some (.ref l), some (.ref a), some (.ref pl), some (.int w.nested), some (.int w.rep), some (.int w.index), some (.ref sa), some (.ref pq), some (.int (if z = "repeat" then w.rep + 1 else w.rep)), v13, v14] ∧ H7 = H6, ?_, ?_⟩
      · refine ⟨_, rfl, sa, _, 0, _, rfl, rfl, SqT.of hsa6, atI_nat (j := 0) rfl, rfl, _, rfl, ?_⟩
        refine ite2 (fun c => ?_) (fun c => ?_)
        · rw [if_pos (str_iff.mp (of_decide_eq_true c))]
          exact ⟨_, rfl, _, _, rfl, rfl, rfl, rfl⟩
        · rw [if_neg (fun e => c (decide_eq_true (str_iff.mpr e)))]
          exact ⟨_, rfl, rfl, rfl⟩
      rintro σ H7 ⟨rfl, rfl⟩
      -- its blocks
      have plen : (w.ahead ++ [(w.index : Int)]).length ≤ 2 * w.nested + 1 := by
        rw [List.length_append, List.length_singleton]
        omega
      refine ⟨_, rfl, _, rfl, sa, pq, z, _, w.ahead ++ [(w.index : Int)], rfl, hsa6, hpq6, by simp, by omega, fun wl hwl => by rw [hys2.len]; exact words_len wok hwl, fun q H8 ts s8 nq hq hpr => ?_⟩
      have hat := blk_at (s := z) hys2
      have few2 : (blkV z es).length ≤ 2 := blk_few.1
      have lts : ts.length = (blkV z es).length := by rw [hpr.length, hat.length]
      have s78 := s7.trans s8
      have nql : q ≠ l := fun e => by rw [e, hl6] at nq; cases nq
      refine ⟨q, rfl, ⟨_, SqL.of hq⟩, for_list (K := K) (a := q) (xs := ts) (fun j σ H9 => ∃ (vs2 : List V) (v13 v14 : Option V), σ = [some b, some (.ref p), some (.int (many + 1)), some (.int depth'), some (.bl bu), some (.ref l), some (.ref a), some (.ref pl), some (.int w.nested), some (.int w.rep), some (.int w.index), some (.ref sa), some (.ref pq), some (.int (if z = "repeat" then w.rep + 1 else w.rep)), v13, v14] ∧
        Same H H9 ∧ H9 l = some (.lst vs2) ∧ Paired (FrAt H H9) vs2 (r.reverse ++ [{ w with index := w.index + 1 }] ++ ((blkV z es).take j).map fun q => (⟨q.1, (w.ahead ++ [(w.index : Int)]) ++ q.2, w.nested + 1, if z = "repeat" then w.rep + 1 else w.rep, 0⟩ : Fr)) ∧ (∀ c o, H8 c = some o → c ≠ l → H9 c = some o))
        ⟨_, v13, v14, rfl, s78, s8 _ _ hl6, by rw [List.take_zero, List.map_nil, List.append_nil]; exact hst6.mono fun _ _ z => z.mono s8, fun _ _ e _ => e⟩ (fun j σ H9 _ ⟨_, _, _, _, _, _, _, kp⟩ => SqL.of (kp _ _ hq nql)) ?_ ?_⟩
      · rintro j y σ H9 hj ⟨vs2, v13, v14, rfl, s9, hl9, hst9, kp⟩
        have hjl : j < ts.length := (List.getElem?_eq_some_iff.mp hj).1
        obtain ⟨⟨b0, sfx⟩, hb0, u2, pl2, rfl, nu2, hu2, hpl2⟩ := paired_at hpr hj
        obtain ⟨⟨bd, sfx'⟩, hbd, hab, rfl⟩ := paired_at hat hb0
        have nul : u2 ≠ l := fun e => by rw [e, hl6] at nu2; cases nu2
        have npl : pl2 ≠ l := ne_of hpl2 (s8 _ _ hl6) (by intro z; cases z)
        have lv2 : vs2.length = r.length + 1 + j := by
          rw [hst9.length, List.length_append, List.length_append, List.length_reverse, List.length_singleton, List.length_map, List.length_take]
          omega
        refine ⟨u2, _, rfl, SqT.of (kp _ _ hu2 nul), rfl, b0, _, rfl, .ref pl2, _, rfl, rfl, ?_⟩
        refine ⟨_, rfl, .inl ⟨rfl, _, SqL.of hl9⟩, _, rfl, _, rfl, _, rfl, _, _, rfl, rfl, _, rfl, (by show 5 ≤ sizeLine; decide), fun t4 nt4 => ?_⟩
        have s10 := same_new (o := .tup [b0, .ref pl2, .int (w.nested + 1), .int (if z = "repeat" then w.rep + 1 else w.rep), .int 0]) (Same.refl H9) nt4
        have hl10 := s10 _ _ hl9
        have ntl : t4 ≠ l := fun e => by rw [e, hl9] at nt4; cases nt4
        refine ⟨l, vs2, _, rfl, rfl, hl10, by omega, _, _, _, rfl, same_updL (s9.trans s10) hl0, upd_same, ?_, fun c o e nc => ?_⟩
        · rw [take_snoc hbd, List.map_append, ← List.append_assoc]
          refine paired_app (hst9.mono fun _ _ z => (z.mono s10).upd hl10) (.cons ⟨t4, pl2, b0, rfl, ?_, hab, ?_, ?_, ?_, fun ds' _ => Nat.zero_le _⟩ .nil)
          · rw [upd_ne ntl, upd_same]
            rfl
          · rw [upd_ne npl]
            exact s10 _ _ (kp _ _ hpl2 npl)
          · have := blk_few.2 _ (List.mem_of_getElem? hbd)
            show (w.ahead ++ [(w.index : Int)] ++ sfx).length ≤ 2 * (w.nested + 1)
            rw [List.length_append]
            have : sfx.length ≤ 1 := this
            omega
          · show w.nested + 1 ≤ 61
            omega
        · rw [upd_ne nc]
          exact s10 _ _ (kp c o e nc)
      · rintro σ H9 ⟨vs2, v13, v14, rfl, s9, hl9, hst9, kp⟩
        refine ⟨_, _, _, bu, vs2, _, _, _, _, _, _, _, _, _, _, rfl, s9, hl9, ?_, hrn, ?_⟩
        · rw [lts, List.take_of_length_le (Nat.le_refl _)] at hst9
          unfold pushT
          rw [List.reverse_append, List.reverse_cons, List.reverse_reverse]
          exact hst9
        · unfold pushT
          rw [List.length_append, List.length_reverse, List.length_map, List.length_cons]
          omega
end
end K1

set_option Elab.async false
set_option linter.all false
set_option maxRecDepth 100000
set_option maxHeartbeats 8000000
namespace K1
open PySem L2
/-! ### what is new since a heap -/
def off (H0 H : Hp) : Hp := fun a => match H0 a with
  | none => H a
  | some _ => none
theorem off_of {H0 H : Hp} {a : Addr} {o : HO} (n : H0 a = none) (h : H a = some o) : off H0 H a = some o := by
  unfold off
  rw [n]
  exact h
theorem off_at {H0 H : Hp} {a : Addr} {o : HO} (h : off H0 H a = some o) : H0 a = none ∧ H a = some o := by
  unfold off at h
  cases q : H0 a with
  | none =>
    rw [q] at h
    exact ⟨rfl, h⟩
  | some u =>
    rw [q] at h
    cases h
theorem off_mono {H0 H H' : Hp} (s : Same H H') : Same (off H0 H) (off H0 H') := fun b o e => by
  obtain ⟨n, h⟩ := off_at e
  exact off_of n (s _ _ h)
theorem off_sub {H0 H : Hp} : Same (off H0 H) H := fun b o e => (off_at e).2
theorem off_base {H0 H1 H : Hp} (s : Same H0 H1) : Same (off H1 H) (off H0 H) := fun b o e => by
  obtain ⟨n, h⟩ := off_at e
  exact off_of (none_of' s n) h
theorem off_dom {H0 H1 H : Hp} (s : ∀ a, H1 a = none → H0 a = none) : Same (off H1 H) (off H0 H) := fun b o e => by
  obtain ⟨n, h⟩ := off_at e
  exact off_of (s _ n) h
theorem dom_upd {H H1 : Hp} {l : Addr} {o u : HO} (s : Same H H1) (h : H1 l = some u) : ∀ a, H1 a = none → upd H l o a = none := fun a n => by
  rw [upd_ne (fun e => by rw [e, h] at n; cases n)]
  exact none_of' s n
theorem off_upd {H0 H : Hp} {l : Addr} {o u : HO} (h : H0 l = some u) : Same (off H0 H) (off H0 (upd H l o)) := fun b z e => by
  obtain ⟨n, q⟩ := off_at e
  refine off_of n ?_
  rw [upd_ne (fun y => by rw [y, h] at n; cases n)]
  exact q
/-! ### copied_block -/
def scaT (d : PyData) : Bool := match d with
  | .none | .bool _ | .int _ | .str _ => true
  | _ => false
def cpW (f : PyData → Bool) (s : Str) (d : PyData) : Bool := match d with
  | .list ds => if s = "call" then ds.all scaT else f d
  | _ => scaT d
def cpS (f : PyData → Bool) (d : PyData) : Bool := match d with
  | .tuple (.str s :: ds) => decide (ds.length ≤ 900) && ds.all (cpW f s)
  | _ => false
/-- what copied_block can copy, so deep -/
def cpB : Nat → PyData → Bool
  | 0, _ => false
  | k + 1, d => match d with
    | .list ds => decide (ds.length ≤ 900) && ds.all (cpS (cpB k))
    | _ => false
theorem cpB_is {k : Nat} {ds : List PyData} (h : cpB (k + 1) (.list ds) = true) : ds.length ≤ 900 ∧ ∀ d ∈ ds, cpS (cpB k) d = true := by
  have h : (decide (ds.length ≤ 900) && ds.all (cpS (cpB k))) = true := h
  rw [Bool.and_eq_true, List.all_eq_true] at h
  exact ⟨of_decide_eq_true h.1, h.2⟩
theorem cpS_is {f : PyData → Bool} {d : PyData} (h : cpS f d = true) : ∃ s ds, d = .tuple (.str s :: ds) ∧ ds.length ≤ 900 ∧ ∀ e ∈ ds, cpW f s e = true := by
  unfold cpS at h
  split at h
  · rw [Bool.and_eq_true, List.all_eq_true] at h
    exact ⟨_, _, rfl, of_decide_eq_true h.1, h.2⟩
  · cases h
theorem at_sca {H H' : Hp} {v : V} {d : PyData} (h : At H v d) (s : scaT d = true) : At H' v d := by
  cases h with
  | non => exact .non
  | bl b => exact .bl b
  | int i => exact .int i
  | str z q => exact .str z q
  | _ => cases s
theorem at_scas {H H' : Hp} : ∀ {vs : List V} {ds : List PyData}, AtAll H vs ds → (∀ d ∈ ds, scaT d = true) → AtAll H' vs ds
  | _, _, .nil, _ => .nil
  | _, _, .cons h t, s => .cons (at_sca h (s _ List.mem_cons_self)) (at_scas t fun d hd => s d (List.mem_cons_of_mem _ hd))
theorem at_app {H : Hp} : ∀ {vs vs' : List V} {ds ds' : List PyData}, AtAll H vs ds → AtAll H vs' ds' → AtAll H (vs ++ vs') (ds ++ ds')
  | _, _, _, _, .nil, h => h
  | _, _, _, _, .cons h t, h' => .cons h (at_app t h')
def spCopy (k : Nat) : Sp := fun vs H Q _ => ∃ (b : Addr) (ds : List PyData), vs = [.ref b] ∧ At H (.ref b) (.list ds) ∧ cpB k (.list ds) = true ∧ ∀ q H', Same H H' → At (off H H') (.ref q) (.list ds) → Q (.ref q) H'
abbrev cpN : List Str := ["block", "rows", "statement", "words", "word"]
section
variable {P : Program} {w : World} {K : PySem.W.Frag} {mg : Str → Option Value} {base : Heap}
theorem scCp : FnScope cpN ["block"] (defScope (top 22)) := ⟨rfl, rfl, rfl, by decide +kernel, rfl, by decide +kernel, by decide +kernel⟩
theorem ok22c {f : Addr} {fd : FuncData} (F : Fun K "copied_block" "copied_block" (top 22) f fd) (B : Blt mg) (g : mg "copied_block" = some (.ref f)) (bd : Binds K fd ["block"] []) : ∀ k, FnOk P w K mg base CX0 (k + 1) f fd ["block"] (spCopy k)
  | 0 => by
    refine F.ok scCp (fun vs H Q E h => ?_) (fun cdv A outer s H vs Q E hr h => ?_)
    · obtain ⟨b, ds, rfl, _⟩ := h
      rfl
    · obtain ⟨b, ds, rfl, _, z, _⟩ := h
      cases z
  | k + 1 => by
    have Crec : Cal P w K mg base CX0 (k + 1) "copied_block" ["block"] (spCopy k) := ⟨f, fd, ok22c F B g bd k, g, F.kp, bd⟩
    refine F.ok scCp (fun vs H Q E h => ?_) (fun cdv A outer s H vs Q E hr h => ?_)
    · obtain ⟨b, ds, rfl, _⟩ := h
      rfl
    · obtain ⟨b, ds, rfl, hb, hcp, k'⟩ := h
      refine ⟨_, pss_cons (ps_set (i := 1) scCp.nd rfl (Or.inl rfl) (pe_lst pa_nil)) (pss_mid (ps_for PassesOwn.never rfl (pi_list (pv 0)) (pg_name (i := 2) scCp.nd rfl (Or.inl rfl))
          (pss_cons (ps_set (i := 3) scCp.nd rfl (Or.inl rfl) (pe_lst pa_nil)) (pss_mid (ps_for PassesOwn.never rfl (pi_tup (pv 2)) (pg_name (i := 4) scCp.nd rfl (Or.inl rfl))
            (pss_one (ps_if (pt_val (pt_isi B (pv 4) B.list PyProof.Rows.boot_list))
              (pss_one (ps_expr (pe_bm PySem.F.plainAttrs_list PySem.F.slot_list_append PySem.F.type_list_append mt_append (pv 3) (pa_cons (pe_ifExp (pt_cmpR op_eq (pe_ix ix_tup (pv 2) pe_int (fun _ _ => rfl)) pe_str (nomark _)) (pe_callTy (r := rLof K) call_list_of rfl B.list PyProof.Rows.boot_list (pa_cons (pv 4) pa_nil)) (pe_cal Crec hr (Nat.le_refl _) pass0 (pa_cons (pv 4) pa_nil))) pa_nil))))
              (pss_one (ps_expr (pe_bm PySem.F.plainAttrs_list PySem.F.slot_list_append PySem.F.type_list_append mt_append (pv 3) (pa_cons (pv 4) pa_nil)))))))
          (pss_one (ps_expr (pe_bm PySem.F.plainAttrs_list PySem.F.slot_list_append PySem.F.type_list_append mt_append (pv 1) (pa_cons (pe_callTy (r := rTof K) call_tuple_of rfl B.tuple PyProof.Rows.boot_tuple (pa_cons (pv 3) pa_nil)) pa_nil)))))))
        (pss_one (ps_ret (pv 1)))), ?_⟩
      cases hb with
      | @lst _ xs _ hbl hxs =>
      obtain ⟨l900, hall⟩ := cpB_is hcp
      have big : 1000 ≤ sizeLine := by decide
      refine ⟨Nat.zero_le _, fun ro nro => ?_⟩
      have s1 := same_new (o := .lst []) (Same.refl H) nro
      have hro0 : (upd H ro (.lst [])) ro = some (.lst []) := upd_same
      generalize hHr : upd H ro (.lst []) = Hr at s1 hro0 ⊢
      -- the rows
      refine ⟨fun σ H1 => ∃ (v2 v3 v4 : Option V) (vs : List V), σ = [some (.ref b), some (.ref ro), v2, v3, v4] ∧ Same H H1 ∧ H1 ro = some (.lst vs) ∧ AtAll (off Hr H1) vs ds, ?_, ?_⟩
      · refine ⟨_, rfl, b, rfl, ⟨_, SqL.of (s1 _ _ hbl)⟩, for_list (K := K) (a := b) (xs := xs) (fun i σ H1 => ∃ (v2 v3 v4 : Option V) (vs : List V), σ = [some (.ref b), some (.ref ro), v2, v3, v4] ∧ Same H H1 ∧ H1 ro = some (.lst vs) ∧ AtAll (off Hr H1) vs (ds.take i))
          ⟨none, none, none, [], rfl, s1, hro0, .nil⟩ (fun i σ H1 _ ⟨_, _, _, _, _, s2, _⟩ => SqL.of (s2 _ _ hbl)) ?_ ?_⟩
        · rintro i y σ H1 hi ⟨v2, v3, v4, vs, rfl, s2, hr1, hvs⟩
          obtain ⟨d, hd, had⟩ := hxs.get hi
          obtain ⟨z, es, rfl, l9, hes⟩ := cpS_is (hall d (List.mem_of_getElem? hd))
          cases had with
          | @tup sa ws _ hsa hws =>
          have domR : ∀ a, H1 a = none → Hr a = none := by
            rw [← hHr]
            exact dom_upd s2 hr1
          refine ⟨Nat.zero_le _, fun wl nwl => ?_⟩
          have hw0 : (upd H1 wl (.lst [])) wl = some (.lst []) := upd_same
          have s3 : Same H1 (upd H1 wl (.lst [])) := same_new (Same.refl _) nwl
          generalize hHw : upd H1 wl (.lst []) = Hw at s3 hw0 ⊢
          have hsa3 : ∀ {H2 : Hp}, Same H1 H2 → H2 sa = some (.tup ws) := fun s' => s' _ _ (s2 _ _ hsa)
          have lws : ws.length = es.length + 1 := by rw [hws.len, List.length_cons]
          refine ⟨fun σ H2 => ∃ (v4 : Option V) (us : List V), σ = [some (.ref b), some (.ref ro), some (.ref sa), some (.ref wl), v4] ∧ Same H1 H2 ∧ H2 wl = some (.lst us) ∧ AtAll (off Hw H2) us (.str z :: es), ?_, ?_⟩
          · refine ⟨_, rfl, sa, rfl, ⟨_, SqT.of (hsa3 s3)⟩, for_tup (K := K) (a := sa) (xs := ws) (fun j σ H2 => ∃ (v4 : Option V) (us : List V), σ = [some (.ref b), some (.ref ro), some (.ref sa), some (.ref wl), v4] ∧ Same H1 H2 ∧ H2 wl = some (.lst us) ∧ AtAll (off Hw H2) us ((.str z :: es).take j))
              ⟨v4, [], rfl, s3, hw0, .nil⟩ (fun j σ H2 _ ⟨_, _, _, s4, _⟩ => SqT.of (hsa3 s4)) ?_ ?_⟩
            · rintro j y σ H2 hj ⟨v4, us, rfl, s4, hwl, hus⟩
              have s24 := s2.trans s4
              have hjl : j < ws.length := (List.getElem?_eq_some_iff.mp hj).1
              have lus : us.length ≤ 901 := by
                rw [hus.len, List.length_take, List.length_cons]
                omega
              have domW : ∀ a, H2 a = none → Hw a = none := by
                rw [← hHw]
                exact dom_upd s4 hwl
              obtain ⟨dj, hdj, haj⟩ := hws.get hj
              -- one more word
              have more : ∀ {H3 : Hp} {v : V}, Same H2 H3 → At (off Hw H3) v dj → ∃ (v4 : Option V) (us' : List V), [some (.ref b), some (.ref ro), some (.ref sa), some (.ref wl), some y] = [some (.ref b), some (.ref ro), some (.ref sa), some (.ref wl), v4] ∧ Same H1 (upd H3 wl (.lst (us ++ [v]))) ∧ (upd H3 wl (.lst (us ++ [v]))) wl = some (.lst us') ∧ AtAll (off Hw (upd H3 wl (.lst (us ++ [v])))) us' ((.str z :: es).take (j + 1)) := fun {H3 v} s5 hv => by
                refine ⟨_, _, rfl, same_updL (s4.trans s5) nwl, upd_same, ?_⟩
                rw [take_snoc hdj]
                exact at_app ((hus.mono (off_mono s5)).mono (off_upd hw0)) (.cons (hv.mono (off_upd hw0)) .nil)
              refine isi_rd rfl (ans_list (haj.dat.mono s24)) ⟨_, rfl, ?_⟩
              rw [lstOf_same haj.dat s24]
              rcases at_lst2 haj with ⟨a, ys, es2, rfl, rfl, hy, hys⟩ | ⟨hn1, hno⟩
              · rw [lstOf_of hy]
                refine iteT ?_
                have hcw : cpW (cpB k) z (.list es2) = true := by
                  cases j with
                  | zero => cases hdj
                  | succ j => exact hes _ (List.mem_of_getElem? (by rw [List.getElem?_cons_succ] at hdj; exact hdj))
                unfold cpW at hcw
                dsimp only at hcw
                have hws0 : ∃ x0 xs0, ws = x0 :: xs0 ∧ x0 = .str z := by
                  cases hws with
                  | cons h0 t0 => exact ⟨_, _, rfl, at_str h0⟩
                obtain ⟨x0, xs0, ew0, rfl⟩ := hws0
                refine ⟨_, rfl, .inl ⟨rfl, _, SqL.of hwl⟩, ?_⟩
                refine ⟨_, rfl, sa, ws, 0, .str z, rfl, rfl, SqT.of (hsa3 s4), by rw [ew0]; exact atI_nat (j := 0) rfl, rfl, _, rfl, ?_⟩
                refine ite2 (fun c => ?_) (fun c => ?_)
                · have ez := str_iff.mp (of_decide_eq_true c)
                  rw [if_pos ez, List.all_eq_true] at hcw
                  refine ⟨_, rfl, a, ys, rfl, .inl (SqL.of (s24 _ _ hy)), fun l2 nl2 => ?_⟩
                  have s5 := same_new (o := .lst ys) (Same.refl H2) nl2
                  refine ⟨wl, us, _, rfl, rfl, s5 _ _ hwl, by omega, more s5 (.lst (off_of (domW _ nl2) upd_same) (at_scas hys hcw))⟩
                · have ez : ¬ z = "call" := fun e => c (decide_eq_true (str_iff.mpr e))
                  rw [if_neg ez] at hcw
                  refine ⟨_, rfl, a, es2, rfl, (At.lst hy hys).mono s24, hcw, fun q H3 s5 hq => ?_⟩
                  exact ⟨wl, us, _, rfl, rfl, s5 _ _ hwl, by omega, more s5 (hq.mono (off_dom domW))⟩
              · rw [hn1]
                refine iteF ?_
                have hsc : scaT dj = true := by
                  cases j with
                  | zero =>
                    cases hdj
                    rfl
                  | succ j =>
                    have hcw := hes _ (List.mem_of_getElem? (by rw [List.getElem?_cons_succ] at hdj; exact hdj))
                    unfold cpW at hcw
                    split at hcw
                    · exact absurd rfl (hno _)
                    · exact hcw
                exact ⟨_, rfl, .inl ⟨rfl, _, SqL.of hwl⟩, _, rfl, wl, us, _, rfl, rfl, hwl, by omega, more (Same.refl _) (at_sca haj hsc)⟩
            · rintro σ H2 ⟨v4, us, rfl, s4, hwl, hus⟩
              rw [List.take_of_length_le (by rw [hws.len]; exact Nat.le_refl _)] at hus
              exact ⟨v4, us, rfl, s4, hwl, hus⟩
          rintro σ H2 ⟨v4, us, rfl, s4, hwl, hus⟩
          -- the statement's copy
          have hr2 := s4 _ _ hr1
          have domW : ∀ a, Hw a = none → Hr a = none := fun a n => domR a (none_of' s3 n)
          have domW2 : ∀ a, H2 a = none → Hw a = none := by
            rw [← hHw]
            exact dom_upd s4 hwl
          refine ⟨_, rfl, .inl ⟨rfl, _, SqL.of hr2⟩, _, rfl, wl, us, rfl, .inl ⟨SqL.of hwl, fun tq ntq => ?_⟩⟩
          have s5 := same_new (o := .tup us) (Same.refl H2) ntq
          have hr3 := s5 _ _ hr2
          have il : i < xs.length := (List.getElem?_eq_some_iff.mp hi).1
          have lvs : vs.length ≤ 900 := by
            rw [hvs.len, List.length_take]
            omega
          refine ⟨ro, vs, _, rfl, rfl, hr3, by omega, _, _, _, _, rfl, same_updL ((s2.trans s4).trans s5) nro, upd_same, ?_⟩
          rw [take_snoc hd]
          refine at_app (((hvs.mono (off_mono s4)).mono (off_mono s5)).mono (off_upd hro0)) (.cons (At.mono (off_upd hro0) (.tup (off_of (domW _ (domW2 _ ntq)) upd_same) ((hus.mono (off_mono s5)).mono (off_dom domW)))) .nil)
        · rintro σ H1 ⟨v2, v3, v4, vs, rfl, s2, hr1, hvs⟩
          rw [List.take_of_length_le (by rw [hxs.len]; exact Nat.le_refl _)] at hvs
          exact ⟨v2, v3, v4, vs, rfl, s2, hr1, hvs⟩
      rintro σ H1 ⟨v2, v3, v4, vs, rfl, s2, hr1, hvs⟩
      exact ⟨_, rfl, k' ro H1 s2 (.lst (off_of nro hr1) (hvs.mono (off_base (by rw [← hHr]; exact same_new (Same.refl _) nro))))⟩
end
end K1

set_option Elab.async false
set_option linter.all false
set_option maxRecDepth 100000
set_option maxHeartbeats 8000000
namespace K1
open PySem L2
/-! ### scope_for, with what it holds -/
def scoOf (rows : List Row) (vn wn : List Str) (lv : Int) (cs : List (Str × (Int × Bool × Int))) : Sco := ⟨rows.map (·.n), rows.flatMap (·.fs), vn, wn, lv, cs⟩
def spSF (C : Addr) : Sp := fun vs H Q _ => ∃ (nm a wk r cs : Addr) (rows : List Row) (vn wn : List Str) (rs : List V) (cl : List (Str × (Int × Bool × Int))), vs = [.ref nm, .ref a, .ref wk, .ref r, .ref cs] ∧ ClsN nul H a rows ∧ rows.length ≤ 6 ∧ (∀ q ∈ rows, q.fs.length ≤ 3) ∧ H nm = some (.lst (vn.map V.str)) ∧ H wk = some (.lst (wn.map V.str)) ∧ H r = some (.lst rs) ∧ CallsAt H cs cl ∧
  ∀ p H', Same H H' → H p = none → ScAt H' C p (scoOf rows vn wn rs.length cl) → Q (.ref p) H'
/-- the keys of a dict that is being filled -/
def FK (kvs : List (Key × V)) (ns : List Str) : Prop := ∀ s : Str, (valV kvs (Sum.inr s)).isSome = decide (s ∈ ns)
theorem fk_nil : FK [] [] := fun s => rfl
theorem fk_put {kvs : List (Key × V)} {ns : List Str} (h : FK kvs ns) (t : Str) (v : V) : FK (putK kvs (Sum.inr t) v) (ns ++ [t]) := fun s => by
  rw [valV_put]
  by_cases e : s = t
  · rw [if_pos (by rw [e]), e]
    simp
  · rw [if_neg (fun z => e (by cases z; rfl)), h s]
    simp [e]
theorem flat_take {rows : List Row} {i : Nat} {q : Row} (h : rows[i]? = some q) : (rows.take (i + 1)).flatMap (·.fs) = (rows.take i).flatMap (·.fs) ++ q.fs := by
  rw [take_snoc h, List.flatMap_append]
  simp
section
variable {P : Program} {w : World} {K : PySem.W.Frag} {mg : Str → Option Value} {base : Heap}
theorem okSF {f C : Addr} {fd : FuncData} (F : Fun K "scope_for" "scope_for" (top 32) f fd) (B : Blt mg) (MS : Mkr P w K mg base CX0 1 "Scope" C ["self", "class_names", "field_names", "variable_names", "weak_names", "levels", "calls"] (spScG C)) :
    FnOk P w K mg base CX0 3 f fd ["names", "classes", "weak", "radices", "calls"] (spSF C) := by
  refine F.ok sc32 (fun vs H Q E h => ?_) (fun cdv A outer s H vs Q E hr h => ?_)
  · obtain ⟨nm, a, wk, r, cs, rows, vn, wn, rs, cl, rfl, _⟩ := h
    rfl
  · obtain ⟨nm, a, wk, r, cs, rows, vn, wn, rs, cl, rfl, ⟨_, xs, hxs, hpr⟩, r6, r3, hnm, hwk, hr', hcs, k⟩ := h
    refine ⟨_, pss_cons (ps_setDc2 (i := 5) (own := [("item", 6), ("name", 7)]) (vs1 := [7]) (wi1 := iList K (tOp (rIxT K) (tVar 6) (tC (.int 2)))) (g := gName 6) (g1 := gName 7) rfl sc32.nd rfl rfl (sw_dc rfl rfl rfl (by decide +kernel)) (pi_list (pv 1)) (blkOk_by (N := ["names", "classes", "weak", "radices", "calls", "fields", "item", "name"]) (sc := defScope (top 32)) (by decide +kernel)) (by decide)
        (fun _ _ _ _ _ => pg_name (i := 6) sc32.nd rfl (Or.inl rfl)) (fun _ _ _ _ _ => pi_list (pe_ix ix_tup (pv 6) pe_int (fun _ _ => rfl))) (fun _ _ _ _ _ => pg_name (i := 7) sc32.nd rfl (Or.inl rfl)) (fun _ _ _ _ _ => pv 7) (fun _ _ _ _ _ => pe_bl))
      (pss_one (ps_ret (pe_mkr MS hr (by decide) pass0 (pa_cons (pe_lc (own := [("item", 6)]) (te := tOp (rIxT K) (tVar 6) (tC (.int 0))) (g := gName 6) (tt := tYes) rfl sc32.nd (pi_list (pv 1)) (blkOk_by (N := ["names", "classes", "weak", "radices", "calls", "fields", "item", "name"]) (sc := defScope (top 32)) (by decide +kernel))
          (fun _ _ _ _ _ => pg_name (i := 6) sc32.nd rfl (Or.inl rfl)) (fun _ _ _ _ _ => pts_nil) (fun _ _ _ _ _ => pe_ix ix_tup (pv 6) pe_int (fun _ _ => rfl)))
        (pa_cons (pv 5) (pa_cons (pv 0) (pa_cons (pv 2) (pa_cons (pe_callB call_len_seq rfl B.len PySem.boot_len (pa_cons (pv 3) pa_nil)) (pa_cons (pv 4) pa_nil))))))))), ?_⟩
    have lx : xs.length = rows.length := hpr.length
    refine ⟨_, rfl, a, rfl, ⟨_, SqL.of hxs⟩, fun D hD => ?_⟩
    refine ⟨fun i m H1 => m + i = xs.length ∧ Same H H1 ∧ ∃ kvs : List (Key × V), H1 D = some (.dK kvs) ∧ kvs.length ≤ 3 * i ∧ FK kvs ((rows.take i).flatMap (·.fs)), ⟨xs.length, rfl, fun b o e => by rw [upd_ne (ne_of_none e hD)]; exact e, [], upd_same, Nat.zero_le _, fk_nil⟩, ?_⟩
    rintro i m H1 ⟨hm, s1, kvs, hD1, hk, fk⟩
    by_cases hlt : i < xs.length
    · have hx : xs[i]? = some xs[i] := List.getElem?_eq_getElem hlt
      refine .inr ⟨⟨xs, xs[i], SqL.of (s1 _ _ hxs), hx⟩, fun H2 => Same H H2 ∧ ∃ kvs : List (Key × V), H2 D = some (.dK kvs) ∧ kvs.length ≤ 3 * (i + 1) ∧ FK kvs ((rows.take (i + 1)).flatMap (·.fs)), fun H2 ⟨s2, q⟩ => ⟨xs.length - (i + 1), by omega, by omega, s2, q⟩, fun x H2 y => ?_⟩
      obtain ⟨e, y⟩ := y
      subst e
      have hxx := y xs (SqL.of (s1 _ _ hxs))
      obtain ⟨q, hq, p, fl, rfl, _, _, hp, hfl⟩ := paired_at hpr hxx
      have hfs := r3 q (List.mem_of_getElem? hq)
      refine ⟨rfl, _, rfl, p, _, 2, .ref fl, rfl, rfl, SqT.of (s1 _ _ hp), rfl, fl, rfl, ⟨_, SqL.of (s1 _ _ hfl)⟩, ?_⟩
      refine ⟨fun j m H2 => m + j = q.fs.length ∧ Same H H2 ∧ ∃ kvs : List (Key × V), H2 D = some (.dK kvs) ∧ kvs.length ≤ 3 * i + j ∧ FK kvs ((rows.take i).flatMap (·.fs) ++ q.fs.take j), ⟨q.fs.length, rfl, s1, kvs, hD1, by omega, by rw [List.take_zero, List.append_nil]; exact fk⟩, ?_⟩
      rintro j m2 H2 ⟨hm2, s2, kvs2, hD2, hk2, fk2⟩
      have hfl2 := s2 _ _ hfl
      by_cases hlt2 : j < (q.fs.map V.str).length
      · have hy : (q.fs.map V.str)[j]? = some (q.fs.map V.str)[j] := List.getElem?_eq_getElem hlt2
        rw [List.length_map] at hlt2
        refine .inr ⟨⟨q.fs.map V.str, _, SqL.of hfl2, hy⟩, fun H3 => Same H H3 ∧ ∃ kvs : List (Key × V), H3 D = some (.dK kvs) ∧ kvs.length ≤ 3 * i + (j + 1) ∧ FK kvs ((rows.take i).flatMap (·.fs) ++ q.fs.take (j + 1)), fun H3 ⟨s3, q'⟩ => ⟨q.fs.length - (j + 1), by omega, by omega, s3, q'⟩, fun y H3 yy => ?_⟩
        obtain ⟨e, yy⟩ := yy
        subst e
        have hyy := yy _ (SqL.of hfl2)
        rw [List.getElem?_map] at hyy
        obtain ⟨t, ht, rfl⟩ := Option.map_eq_some_iff.mp hyy
        refine ⟨rfl, _, rfl, kvs2, Sum.inr t, rfl, hD2, by rw [sizeLine_eq]; omega, fun b o e => ?_, _, upd_same, ?_, ?_⟩
        · rw [upd_ne (ne_of_none e hD)]
          exact s2 b o e
        · have := length_putK_le kvs2 (Sum.inr t) (.bl true)
          omega
        · rw [take_snoc ht, ← List.append_assoc]
          exact fk_put fk2 t _
      · rw [List.length_map] at hlt2
        refine .inl ⟨⟨q.fs.map V.str, SqL.of hfl2, by rw [List.length_map]; omega⟩, s2, kvs2, hD2, by omega, ?_⟩
        have etk : q.fs.take j = q.fs := List.take_of_length_le (by omega)
        rw [etk] at fk2
        rw [flat_take hq]
        exact fk2
    · have e : i = xs.length := by omega
      subst e
      refine .inl ⟨⟨xs, SqL.of (s1 _ _ hxs), Nat.le_refl _⟩, ?_⟩
      rw [List.take_of_length_le (by omega)] at fk
      refine ⟨_, rfl, a, rfl, ⟨_, SqL.of (s1 _ _ hxs)⟩, fun L hLn => ?_⟩
      refine lc_list (xs := xs) (fun i H2 => Same H1 H2 ∧ H2 L = some (.lst ((rows.take i).map fun q => V.str q.n))) ⟨same_new (Same.refl _) hLn, upd_same⟩ (fun i H2 _ ⟨s2, _⟩ => SqL.of (s2 _ _ (s1 _ _ hxs))) ?_ ?_
      · rintro j x H2 hx ⟨s2, hacc⟩
        obtain ⟨q, hq, p, fl, rfl, _, _, hp, hfl⟩ := paired_at hpr hx
        refine ⟨rfl, ?_⟩
        unfold tYes
        dsimp only
        rw [if_pos rfl]
        refine ⟨_, rfl, p, _, 0, .str q.n, rfl, rfl, SqT.of (s2 _ _ (s1 _ _ hp)), rfl, _, hacc, ?_, fun c o e => ?_, ?_⟩
        · rw [List.length_map, List.length_take, sizeLine_eq]
          omega
        · rw [upd_ne (ne_of_none e hLn)]
          exact s2 c o e
        · rw [upd_same, take_snoc hq, List.map_append]
          rfl
      · rintro H2 ⟨s2, hacc⟩
        have s12 := s1.trans s2
        rw [List.take_of_length_le (by omega)] at hacc
        refine ⟨_, rfl, _, rfl, _, rfl, _, rfl, r, rs, rfl, .inl (SqL.of (s12 _ _ hr')), _, rfl, fun x dx nx ndx nex => ?_⟩
        refine ⟨x, dx, _, _, _, _, _, _, rfl, upd_same, fun H3 h3 kp => ⟨rfl, ?_⟩⟩
        have sm := made_same nx ndx kp
        refine k x H3 (s12.trans sm) (none_of' s12 nx) ⟨dx, L, D, nm, wk, cs, h3, ?_, ⟨kvs, (s2.trans sm) _ _ hD1, fk⟩, (s12.trans sm) _ _ hnm, (s12.trans sm) _ _ hwk, hcs.mono (s12.trans sm)⟩
        rw [sm _ _ hacc]
        show some (HO.lst (rows.map fun q => V.str q.n)) = some (HO.lst ((rows.map (·.n)).map V.str))
        rw [List.map_map]
        rfl
end
end K1

set_option Elab.async false
set_option linter.all false
set_option maxRecDepth 100000
set_option maxHeartbeats 8000000
namespace K1
open PySem L2
/-! ### is_head -/
def badT (bar : List Str) : List PyData → List Str → Nat → Option Nat
  | [], _, _ => none
  | .str s :: r, seen, i => if (nameS s && !seen.contains s && !bar.contains s) = true then badT bar r (seen ++ [s]) (i + 1) else some i
  | _ :: _, _, i => some i
theorem bad_at {H : Hp} {bar : List Str} : ∀ {vs : List V} {ds : List PyData} {seen : List Str} {i : Nat}, AtAll H vs ds → badFrom bar vs seen i = badT bar ds seen i
  | _, _, _, _, .nil => rfl
  | _, _, seen, i, .cons (v := v) (vs := vs) (d := d) (ds := ds) h t => by
    cases h with
    | str s q =>
      show (if (nameS s && !seen.contains s && !bar.contains s) = true then badFrom bar vs (seen ++ [s]) (i + 1) else some i) = (if (nameS s && !seen.contains s && !bar.contains s) = true then badT bar ds (seen ++ [s]) (i + 1) else some i)
      rw [bad_at t]
    | _ => rfl
def strsT (ds : List PyData) : List Str := ds.filterMap fun d => match d with
  | .str s => some s
  | _ => none
theorem badT_none {bar : List Str} : ∀ {ds : List PyData} {seen : List Str} {i : Nat}, badT bar ds seen i = none → ds = (strsT ds).map PyData.str
  | [], _, _, _ => rfl
  | .str s :: r, seen, i, h => by
    have h : (if (nameS s && !seen.contains s && !bar.contains s) = true then badT bar r (seen ++ [s]) (i + 1) else some i) = none := h
    split at h
    · show PyData.str s :: r = PyData.str s :: (strsT r).map PyData.str
      rw [← badT_none h]
    · cases h
  | .none :: _, _, _, h => by cases h
  | .bool _ :: _, _, _, h => by cases h
  | .int _ :: _, _, _, h => by cases h
  | .list _ :: _, _, _, h => by cases h
  | .tuple _ :: _, _, _, h => by cases h
  | .dict _ :: _, _, _, h => by cases h
theorem at_strs {H : Hp} : ∀ {vs : List V} {ss : List Str}, AtAll H vs (ss.map PyData.str) → vs = ss.map V.str
  | _, [], .nil => rfl
  | _, s :: ss, .cons h t => by rw [at_str h, at_strs t] <;> rfl
def headN (ps : List PyData) (wn : List Str) (r : PyData) : Bool := (decide (ps.length ≤ 8) && (badT wn ps [] 0).isNone) && (noneT r || oneT r (strsT ps))
def headW (cs : List (Str × (Int × Bool × Int))) (wn : List Str) (n p i r : PyData) : Bool := (nameT n && !oneT n (cs.map (·.1))) && match p with
  | .list ps => (match i with
    | .list is => headN (ps ++ is) wn r
    | _ => false)
  | _ => false
def headT (cs : List (Str × (Int × Bool × Int))) (wn : List Str) (d : PyData) : Bool := match d with
  | .tuple es => (match es with
    | [n, p, i, _, r] => headW cs wn n p i r
    | _ => false)
  | _ => false
theorem headT_not {cs : List (Str × (Int × Bool × Int))} {wn : List Str} {d : PyData} (h : ∀ es, d ≠ .tuple es) : headT cs wn d = false := by
  unfold headT
  split
  · exact absurd rfl (h _)
  · rfl
theorem headT_len {cs : List (Str × (Int × Bool × Int))} {wn : List Str} {es : List PyData} (h : es.length ≠ 5) : headT cs wn (.tuple es) = false := by
  match es, h with
  | [], _ => rfl
  | [_], _ => rfl
  | [_, _], _ => rfl
  | [_, _, _], _ => rfl
  | [_, _, _, _], _ => rfl
  | [_, _, _, _, _], h => exact absurd rfl h
  | _ :: _ :: _ :: _ :: _ :: _ :: _, _ => rfl
def spHead : Sp := fun vs H Q _ => ∃ (v : V) (d : PyData) (sd wk : Addr) (cs : List (Str × (Int × Bool × Int))) (wn : List Str), vs = [v, .ref sd, .ref wk] ∧ At H v d ∧ CallsAt H sd cs ∧ H wk = some (.lst (wn.map V.str)) ∧ (∀ es, d = .tuple es → ∀ ys, PyData.list ys ∈ es → ys.length ≤ 1000) ∧ ∀ H', Same H H' → Q (.bl (headT cs wn d)) H'
theorem nameT_str {d : PyData} (h : nameT d = true) : ∃ s, d = .str s := by
  cases d with
  | str s => exact ⟨s, rfl⟩
  | _ => cases h
abbrev ihN : List Str := ["value", "seen", "weak", "name", "parameters", "inner", "_", "result"]
section
variable {P : Program} {w : World} {K : PySem.W.Frag} {mg : Str → Option Value} {base : Heap}
theorem sc31 : FnScope ihN ["value", "seen", "weak"] (defScope (top 31)) := ⟨rfl, rfl, rfl, by decide +kernel, rfl, by decide +kernel, by decide +kernel⟩
theorem ok31 {f : Addr} {fd : FuncData} (F : Fun K "is_head" "is_head" (top 31) f fd) (B : Blt mg) (C3 : Cal P w K mg base CX0 1 "is_name" ["value"] spName) (C4 : Cal P w K mg base CX0 1 "is_one_of" ["value", "names"] spOne) (C25 : Cal P w K mg base CX0 2 "first_bad_name" ["value", "most", "barred"] spFirst) :
    FnOk P w K mg base CX0 3 f fd ["value", "seen", "weak"] spHead := by
  refine F.ok sc31 (fun vs H Q E h => ?_) (fun cdv A outer s H vs Q E hr h => ?_)
  · obtain ⟨v, d, sd, wk, cs, wn, rfl, _⟩ := h
    rfl
  · obtain ⟨v, d, sd, wk, cs, wn, rfl, hd, hcs, hwk, few, k⟩ := h
    have hu := hu_of hr
    refine ⟨_, pss_mid (ps_if (PW.pt (pw_or (pt_not (pt_val (pt_isi B (pv 0) B.tuple PyProof.Rows.boot_tuple))) (pw_or1 (pt_cmpR op_ne (pe_callB call_len_seq rfl B.len PySem.boot_len (pa_cons (pv 0) pa_nil)) pe_int (nomark _))))) (pss_one (ps_ret pe_bl)) pss_nil)
      (pss_mid (ps_asg (pv 0) (pg_tup rfl (pgs_cons (pg_name (i := 3) sc31.nd rfl (Or.inl rfl)) (pgs_cons (pg_name (i := 4) sc31.nd rfl (Or.inl rfl)) (pgs_cons (pg_name (i := 5) sc31.nd rfl (Or.inl rfl)) (pgs_cons (pg_name (i := 6) sc31.nd rfl (Or.inl rfl)) (pgs_cons (pg_name (i := 7) sc31.nd rfl (Or.inl rfl)) pgs_nil)))))))
      (pss_mid (ps_if (PW.pt (pw_or (pt_not (pt_val (pe_cal C3 hr (by decide) pass0 (pa_cons (pv 3) pa_nil)))) (pw_or1 (pt_cmp (pc_din hu (pv 3) (pv 1)))))) (pss_one (ps_ret pe_bl)) pss_nil)
      (pss_mid (ps_if (PW.pt (pw_or (pt_not (pt_val (pt_isi B (pv 4) B.list PyProof.Rows.boot_list))) (pw_or1 (pt_not (pt_val (pt_isi B (pv 5) B.list PyProof.Rows.boot_list)))))) (pss_one (ps_ret pe_bl)) pss_nil)
      (pss_mid (ps_if (pt_cmpR op_notN (pe_cal C25 hr (by decide) pass0 (pa_cons (pe_op op_cat (pv 4) (pv 5)) (pa_cons pe_int (pa_cons (pv 2) pa_nil)))) pe_non (nomark _)) (pss_one (ps_ret pe_bl)) pss_nil)
      (pss_one (ps_ret (pe_or (pe_cmpR op_isN (pv 7) pe_non (nomark _)) (pe_one (pe_cal C4 hr (by decide) pass0 (pa_cons (pv 7) (pa_cons (pe_op op_cat (pv 4) (pv 5)) pa_nil))))))))))), ?_⟩
    have big : 2001 ≤ sizeLine := by decide
    have no : ∀ H1, Same H H1 → headT cs wn d = false → Q (.bl false) H1 := fun H1 s1 e => by
      have q := k H1 s1
      rw [e] at q
      exact q
    -- a tuple of five
    refine ⟨fun σ H1 => σ = [some v, some (.ref sd), some (.ref wk), none, none, none, none, none] ∧ H1 = H ∧ ∃ (a : Addr) (ys : List V) (es : List PyData), v = .ref a ∧ d = .tuple es ∧ H a = some (.tup ys) ∧ AtAll H ys es ∧ ys.length = 5, ?_, ?_⟩
    · refine isi_rd rfl (ans_tup hd.dat) ⟨_, rfl, ?_⟩
      rcases at_tup hd with ⟨a, ys, es, rfl, rfl, hy, hys⟩ | ⟨hn, hno⟩
      · rw [tupOf_of hy]
        refine iteF ?_
        refine ⟨_, rfl, a, ys, rfl, .inr (SqT.of hy), rfl, _, rfl, ?_⟩
        refine ite2 (fun c => ?_) (fun c => ?_)
        · refine no H (Same.refl H) (headT_len fun e => ?_)
          rw [hys.len, e] at c
          exact absurd c (by decide)
        · refine ⟨rfl, rfl, a, ys, es, rfl, rfl, hy, hys, ?_⟩
          cases z : decide (V.int (ys.length : Int) = V.int 5) with
          | true =>
            have e := of_decide_eq_true z
            injection e with e
            omega
          | false => rw [z] at c; exact absurd rfl c
      · rw [hn]
        refine iteT ?_
        exact iteT (no H (Same.refl H) (headT_not hno))
    rintro σ H1 ⟨rfl, rfl, a, ys, es, rfl, rfl, hy, hys, l5⟩
    have few := few es rfl
    match ys, l5, es, hys with
    | [x0, x1, x2, x3, x4], _, _, .cons (d := d0) a0 (.cons (d := d1) a1 (.cons (d := d2) a2 (.cons (d := d3) a3 (.cons (d := d4) a4 .nil)))) =>
    have k : ∀ H', Same H1 H' → Q (.bl (headW cs wn d0 d1 d2 d4)) H' := k
    have no : ∀ H', Same H1 H' → headW cs wn d0 d1 d2 d4 = false → Q (.bl false) H' := no
    refine ⟨fun σ H2 => σ = [some (.ref a), some (.ref sd), some (.ref wk), some x0, some x1, some x2, some x3, some x4] ∧ H2 = H1, ⟨_, rfl, a, _, rfl, SqT.of hy, rfl, x0, _, rfl, x1, _, rfl, x2, _, rfl, x3, _, rfl, x4, _, rfl, rfl, rfl, rfl⟩, ?_⟩
    rintro σ H2 ⟨rfl, rfl⟩
    -- its name
    refine ⟨fun σ H3 => σ = [some (.ref a), some (.ref sd), some (.ref wk), some x0, some x1, some x2, some x3, some x4] ∧ Same H2 H3 ∧ (nameT d0 && !oneT d0 (cs.map (·.1))) = true, ?_, ?_⟩
    · refine ⟨_, rfl, x0, rfl, a0.dat, fun H3 s3 => ⟨_, rfl, ?_⟩⟩
      rw [name_at a0]
      cases e0 : nameT d0 with
      | false =>
        refine iteT ?_
        refine iteT (no H3 s3 ?_)
        unfold headW
        rw [e0] <;> rfl
      | true =>
        refine iteF ?_
        obtain ⟨z, rfl⟩ := nameT_str e0
        obtain rfl := at_str a0
        obtain ⟨kvs, hk, hv⟩ := calls_keys (hcs.mono s3)
        refine ⟨_, rfl, _, rfl, sd, _, rfl, DGet.k (k := Sum.inr z) hk, _, rfl, ?_⟩
        rw [hv z]
        have e1 : oneT (.str z) (cs.map (·.1)) = decide (z ∈ cs.map (·.1)) := rfl
        rw [e1]
        cases e2 : decide (z ∈ cs.map (·.1)) with
        | true =>
          refine iteT (no H3 s3 ?_)
          unfold headW
          rw [e1, e2, Bool.not_true, Bool.and_false, Bool.false_and]
        | false => exact iteF ⟨rfl, s3, rfl⟩
    rintro σ H3 ⟨rfl, s3, e0⟩
    -- its lists
    refine ⟨fun σ H4 => σ = [some (.ref a), some (.ref sd), some (.ref wk), some x0, some x1, some x2, some x3, some x4] ∧ H4 = H3 ∧ ∃ (p1 p2 : Addr) (u1 u2 : List V) (ps is : List PyData), x1 = .ref p1 ∧ x2 = .ref p2 ∧ d1 = .list ps ∧ d2 = .list is ∧ H2 p1 = some (.lst u1) ∧ H2 p2 = some (.lst u2) ∧ AtAll H2 u1 ps ∧ AtAll H2 u2 is, ?_, ?_⟩
    · refine isi_rd rfl (ans_list (a1.dat.mono s3)) ⟨_, rfl, ?_⟩
      rw [lstOf_same a1.dat s3]
      rcases at_lst2 a1 with ⟨p1, u1, ps, rfl, rfl, h1, hu1⟩ | ⟨hn1, hno1⟩
      · rw [lstOf_of h1]
        refine iteF ?_
        refine isi_rd rfl (ans_list (a2.dat.mono s3)) ⟨_, rfl, ?_⟩
        rw [lstOf_same a2.dat s3]
        rcases at_lst2 a2 with ⟨p2, u2, is, rfl, rfl, h2, hu2⟩ | ⟨hn2, hno2⟩
        · rw [lstOf_of h2]
          exact iteF ⟨rfl, rfl, p1, p2, u1, u2, ps, is, rfl, rfl, rfl, rfl, h1, h2, hu1, hu2⟩
        · rw [hn2]
          refine iteT (no H3 s3 ?_)
          unfold headW
          rw [e0, Bool.true_and]
          dsimp only
          split
          · exact absurd rfl (hno2 _)
          · rfl
      · rw [hn1]
        refine iteT ?_
        refine iteT (no H3 s3 ?_)
        unfold headW
        rw [e0, Bool.true_and]
        split
        · exact absurd rfl (hno1 _)
        · rfl
    rintro σ H4 ⟨rfl, rfl, p1, p2, u1, u2, ps, is, rfl, rfl, rfl, rfl, h1, h2, hu1, hu2⟩
    have k : ∀ H', Same H2 H' → Q (.bl (headN (ps ++ is) wn d4)) H' := fun H' s' => by
      have q := k H' s'
      unfold headW at q
      rw [e0, Bool.true_and] at q
      exact q
    have l1 : ps.length ≤ 1000 := few ps (by simp)
    have l2 : is.length ≤ 1000 := few is (by simp)
    have hap := at_app hu1 hu2
    -- their names
    refine ⟨fun σ H5 => σ = [some (.ref a), some (.ref sd), some (.ref wk), some x0, some (.ref p1), some (.ref p2), some x3, some x4] ∧ Same H2 H5 ∧ (decide ((ps ++ is).length ≤ 8) && (badT wn (ps ++ is) [] 0).isNone) = true, ?_, ?_⟩
    · refine ⟨_, rfl, _, rfl, p1, p2, u1, u2, rfl, rfl, s3 _ _ h1, s3 _ _ h2, by rw [hu1.len, hu2.len]; omega, fun q nq => ?_⟩
      have s4 := same_new (o := .lst (u1 ++ u2)) s3 nq
      refine ⟨_, rfl, .ref q, 8, wk, wn, rfl, .lst upd_same ((hap.mono s4).dats), s4 _ _ hwk, by decide, fun H5 s5 => ?_⟩
      have ef : firstBad (upd H4 q (.lst (u1 ++ u2))) (.ref q) 8 wn = if (8 : Int) < ((ps ++ is).length : Int) then .int (-1) else optV (badT wn (ps ++ is) [] 0) := by
        unfold firstBad
        rw [lstOf_of upd_same]
        show (if (8 : Int) < ((u1 ++ u2).length : Int) then V.int (-1) else optV (badFrom wn (u1 ++ u2) [] 0)) = _
        rw [bad_at hap, hap.len]
      rw [ef]
      refine ⟨rfl, _, rfl, ?_⟩
      by_cases c8 : (8 : Int) < ((ps ++ is).length : Int)
      · rw [if_pos c8]
        refine iteT ?_
        have q1 := k H5 (s4.trans s5)
        unfold headN at q1
        rw [decide_eq_false (by omega), Bool.false_and, Bool.false_and] at q1
        exact q1
      · rw [if_neg c8]
        have e8 : decide ((ps ++ is).length ≤ 8) = true := decide_eq_true (by omega)
        cases eb : badT wn (ps ++ is) [] 0 with
        | none => exact iteF ⟨rfl, s4.trans s5, by rw [e8] <;> rfl⟩
        | some i =>
          refine iteT ?_
          have q1 := k H5 (s4.trans s5)
          unfold headN at q1
          rw [eb] at q1
          rw [e8] at q1
          exact q1
    rintro σ H5 ⟨rfl, s5, en⟩
    have k : ∀ H', Same H2 H' → Q (.bl (noneT d4 || oneT d4 (strsT (ps ++ is)))) H' := fun H' s' => by
      have q := k H' s'
      unfold headN at q
      rw [en, Bool.true_and] at q
      exact q
    rw [Bool.and_eq_true, Option.isNone_iff_eq_none] at en
    have es' := badT_none en.2
    have hus : u1 ++ u2 = (strsT (ps ++ is)).map V.str := at_strs (by rw [← es']; exact hap)
    -- its result
    refine ⟨_, rfl, rfl, _, rfl, ?_⟩
    rw [← none_at a4]
    cases e4 : noneT d4 with
    | true =>
      refine iteT ?_
      have q := k H5 s5
      rw [e4, Bool.true_or] at q
      exact q
    | false =>
      refine iteF ?_
      refine ⟨_, rfl, _, rfl, _, rfl, p1, p2, u1, u2, rfl, rfl, s5 _ _ h1, s5 _ _ h2, by rw [hu1.len, hu2.len]; omega, fun q nq => ?_⟩
      have s6 := same_new (o := .lst (u1 ++ u2)) s5 nq
      refine ⟨x4, q, strsT (ps ++ is), rfl, a4.dat.mono s6, .inl (by rw [upd_same, hus]), ?_⟩
      have q1 := k _ s6
      rw [e4, Bool.false_or, ← one_at a4] at q1
      exact q1
end
end K1

set_option Elab.async false
set_option linter.all false
set_option maxRecDepth 100000
set_option maxHeartbeats 8000000
namespace K1
open PySem L2
/-! ### check_functions -/
theorem su_depth (a b c e : V) : (suF a b c e).lookup ("depth" : Str) = some c := by
  unfold suF
  rw [lookup_putF, if_neg (by decide +kernel), lookup_putF, if_pos rfl]
abbrev Cl : Type := List (Str × (Int × Bool × Int))
inductive FRes where
  | bad (l : List Int)
  | ok (cs : Cl) (many : Int)
structure Env where
  rows : List Row
  wn : List Str
  lv : Int
def funR (e : Env) (n : Nat) (cs : Cl) (nm : Str) (ps is : List PyData) (b : PyData) : Option Sv := runT (scoOf e.rows (strsT (ps ++ is)) e.wn e.lv cs) n [⟨b, [], 0, 0, 0⟩] 0 0
def noteT (cs : Cl) (nm : Str) (ps : List PyData) (r : PyData) (dp : Int) : Cl := cs ++ [(nm, ((ps.length : Int), !noneT r, dp))]
def partsT (d : PyData) : Option (Str × List PyData × List PyData × PyData × PyData) := match d with
  | .tuple es => (match es with
    | [n, p, i, b, r] => (match n with
      | .str nm => (match p with
        | .list ps => (match i with
          | .list is => some (nm, ps, is, b, r)
          | _ => none)
        | _ => none)
      | _ => none)
    | _ => none)
  | _ => none
def funT (e : Env) (n : Nat) : List PyData → Nat → Cl → Int → Option FRes
  | [], _, cs, many => some (.ok cs many)
  | d :: r, i, cs, many => if headT cs e.wn d = true then (match partsT d with
    | some (nm, ps, is, b, res) => (match funR e n cs nm ps is b with
      | some (some pl, _, _) => some (.bad ((i : Int) :: pl))
      | some (none, m, dp) => funT e n r (i + 1) (noteT cs nm ps res dp) (many + m)
      | none => none)
    | none => none) else some (.bad [(i : Int)])
theorem head_parts {cs : Cl} {wn : List Str} {d : PyData} (h : headT cs wn d = true) : ∃ nm ps is b r, d = .tuple [.str nm, .list ps, .list is, b, r] ∧ partsT d = some (nm, ps, is, b, r) ∧ oneT (.str nm) (cs.map (·.1)) = false ∧ (ps ++ is).length ≤ 8 ∧ badT wn (ps ++ is) [] 0 = none := by
  unfold headT at h
  split at h
  case h_2 => cases h
  split at h
  case h_2 => cases h
  rename_i n p i b r
  unfold headW at h
  rw [Bool.and_eq_true, Bool.and_eq_true] at h
  obtain ⟨⟨h1, h2⟩, h3⟩ := h
  obtain ⟨nm, rfl⟩ := nameT_str h1
  split at h3
  case h_2 => cases h3
  split at h3
  case h_2 => cases h3
  rename_i ps _ is
  unfold headN at h3
  rw [Bool.and_eq_true, Bool.and_eq_true] at h3
  refine ⟨nm, ps, is, b, r, rfl, rfl, by simpa using h2, of_decide_eq_true h3.1.1, ?_⟩
  exact Option.isNone_iff_eq_none.mp h3.1.2
theorem lookup_snoc {s n : Str} {r : Int × Bool × Int} : ∀ {cs : Cl}, (cs ++ [(n, r)]).lookup s = (match cs.lookup s with | some x => some x | none => if s = n then some r else none)
  | [] => by
    show ([(n, r)] : Cl).lookup s = _
    rw [List.lookup_cons]
    by_cases e : s = n
    · subst e
      simp
    · rw [show (s == n) = false by simpa using e]
      show none = (if s = n then some r else none)
      rw [if_neg e]
  | (m, x) :: cs => by
    rw [List.cons_append, List.lookup_cons, List.lookup_cons]
    cases s == m with
    | true => rfl
    | false => exact lookup_snoc
theorem calls_put {H : Hp} {a t : Addr} {cs : Cl} {kvs : List (Key × V)} {n : Str} {m : Int} {b : Bool} {d : Int} (h : H a = some (.dK kvs)) (k : ∀ s : Str, match cs.lookup s with | none => valV kvs (Sum.inr s) = none | some (m, h, d) => ∃ t, valV kvs (Sum.inr s) = some (.ref t) ∧ H t = some (.tup [.int m, .bl h, .int d]))
    (nn : cs.lookup n = none) (ht : H t = some (.tup [.int m, .bl b, .int d])) : CallsAt (upd H a (.dK (putK kvs (Sum.inr n) (.ref t)))) a (cs ++ [(n, (m, b, d))]) := by
  have keep : ∀ {c : Addr} {xs : List V}, H c = some (.tup xs) → (upd H a (.dK (putK kvs (Sum.inr n) (.ref t)))) c = some (.tup xs) := fun e => by
    rw [upd_ne (ne_of e h (by intro z; cases z))]
    exact e
  refine ⟨_, upd_same, fun s => ?_⟩
  rw [lookup_snoc, valV_put]
  have q := k s
  by_cases e : s = n
  · subst e
    rw [nn]
    dsimp only
    rw [if_pos rfl, if_pos rfl]
    exact ⟨t, rfl, keep ht⟩
  · have en : ¬ (Sum.inr s : Key) = Sum.inr n := fun z => e (by cases z; rfl)
    cases hl : cs.lookup s with
    | none =>
      rw [hl] at q
      dsimp only
      rw [if_neg e, if_neg en]
      exact q
    | some x =>
      obtain ⟨m', b', d'⟩ := x
      rw [hl] at q
      obtain ⟨t', e1, e2⟩ := q
      dsimp only
      rw [if_neg en]
      exact ⟨t', e1, keep e2⟩
def spCFn (C : Addr) : Sp := fun vs H Q E => ∃ (v : V) (d : PyData) (ca wk rd : Addr) (en : Env) (rs : List V) (n : Nat), vs = [v, .ref ca, .ref wk, .ref rd] ∧ At H v d ∧ ClsN nul H ca en.rows ∧ en.rows.length ≤ 6 ∧ (∀ q ∈ en.rows, q.fs.length ≤ 3) ∧ H wk = some (.lst (en.wn.map V.str)) ∧ H rd = some (.lst rs) ∧ (rs.length : Int) = en.lv ∧ n ≤ 100000 ∧
  (match d with
  | .list ds => if ds.length ≤ 4 then (∀ q ∈ ds, ∀ es, q = .tuple es → ∀ ys, PyData.list ys ∈ es → ys.length ≤ 1000) ∧ (match funT en n ds 0 [] 0 with
      | some (.bad l) => ∀ t H1, Same H H1 → H1 t = some (.tup (l.map V.int)) → Rz C H1 (.str "functions") (.ref t) E
      | some (.ok cs many) => ∀ t cf H', Same H H' → H' t = some (.tup [.ref cf, .int many]) → CallsAt H' cf cs → (∀ z r, cs.lookup z = some r → r.1 ≤ 100) → Q (.ref t) H'
      | none => False)
    else Rz C H (.str "functions") (.int (-1)) E
  | _ => Rz C H (.str "functions") (.int (-1)) E)
section
variable {P : Program} {w : World} {K : PySem.W.Frag} {mg : Str → Option Value} {base : Heap}
theorem ok33c {f C CS CU : Addr} {fd : FuncData} (F : Fun K "check_functions" "check_functions" (top 33) f fd) (B : Blt mg) (IP : Ipc P w K mg base C) (UU : NoU K CU) (C31 : Cal P w K mg base CX0 3 "is_head" ["value", "seen", "weak"] spHead)
    (C21 : Cal P w K mg base CX0 6 "survey" ["body", "scope"] (spSv CS CU)) (C32 : Cal P w K mg base CX0 3 "scope_for" ["names", "classes", "weak", "radices", "calls"] (spSF CS)) : FnOk P w K mg base (L2.CX P w) 7 f fd ["functions", "classes", "weak", "radices"] (spCFn C) := by
  refine F.okX sc33 (fun vs H Q E h => ?_) (fun cdv A outer s H vs Q E hr h => ?_)
  · obtain ⟨v, d, ca, wk, rd, en, rs, n, rfl, _⟩ := h
    rfl
  · obtain ⟨v, d, ca, wk, rd, en, rs, n, rfl, hd, hca, r6, r3, hwk, hrd, hlv, hn, k⟩ := h
    have hu := hu_of hr
    refine ⟨_, pss_mid (ps_if (PW.pt (pw_or (pt_not (pt_val (pt_isi B (pv 0) B.list PyProof.Rows.boot_list))) (pw_or1 (pt_cmpR op_gt (pe_callB call_len_seq rfl B.len PySem.boot_len (pa_cons (pv 0) pa_nil)) pe_int (nomark _))))) (pss_one (ps_rip IP rfl (takes_of rfl rfl rfl rfl) hr (by decide) pe_str (pe_un un_neg pe_int))) pss_nil)
      (pss_cons (ps_set (i := 4) sc33.nd rfl (Or.inl rfl) pe_dnewK)
      (pss_cons (ps_set (i := 5) sc33.nd rfl (Or.inl rfl) pe_int)
      (pss_cons (ps_for (passes_of rfl) rfl (pi_enum rfl B.enumerate (pa_cons (pv 0) pa_nil)) (pg_tup rfl (pgs_cons (pg_name (i := 6) sc33.nd rfl (Or.inl rfl)) (pgs_cons (pg_name (i := 7) sc33.nd rfl (Or.inl rfl)) pgs_nil)))
        (pss_mid (ps_if (pt_not (pt_val (pe_cal C31 hr (by decide) pass0 (pa_cons (pv 7) (pa_cons (pv 4) (pa_cons (pv 2) pa_nil)))))) (pss_one (ps_rip IP rfl (takes_of rfl rfl rfl rfl) hr (by decide) pe_str (pe_tup (pa_cons (pv 6) pa_nil)))) pss_nil)
        (pss_mid (ps_asg (pv 7) (pg_tup rfl (pgs_cons (pg_name (i := 8) sc33.nd rfl (Or.inl rfl)) (pgs_cons (pg_name (i := 9) sc33.nd rfl (Or.inl rfl)) (pgs_cons (pg_name (i := 10) sc33.nd rfl (Or.inl rfl)) (pgs_cons (pg_name (i := 11) sc33.nd rfl (Or.inl rfl)) (pgs_cons (pg_name (i := 12) sc33.nd rfl (Or.inl rfl)) pgs_nil)))))))
        (pss_mid (ps_set (i := 13) sc33.nd rfl (Or.inl rfl) (pe_cal C21 hr (by decide) pass0 (pa_cons (pv 11) (pa_cons (pe_cal C32 hr (by decide) pass0 (pa_cons (pe_op op_cat (pv 9) (pv 10)) (pa_cons (pv 1) (pa_cons (pv 2) (pa_cons (pv 3) (pa_cons (pv 4) pa_nil)))))) pa_nil))))
        (pss_mid (ps_if (pt_cmpR op_notN (pe_fld (pv 13) rfl) pe_non (nomark _)) (pss_one (ps_rip IP rfl (takes_of rfl rfl rfl rfl) hr (by decide) pe_str (pe_op op_catA (pe_tup (pa_cons (pv 6) pa_nil)) (pe_fld (pv 13) rfl)))) pss_nil)
        (pss_mid (ps_dput hu (pv 4) (pv 8) (pe_tup (pa_cons (pe_callB call_len_seq rfl B.len PySem.boot_len (pa_cons (pv 9) pa_nil)) (pa_cons (pe_cmpR op_notN (pv 12) pe_non (nomark _)) (pa_cons (pe_fld (pv 13) rfl) pa_nil)))) rfl)
        (pss_one (ps_aug (i := 5) sc33.nd rfl (Or.inl rfl) (pe_fld (pv 13) rfl) iop_add))))))))
      (pss_one (ps_ret (pe_tup (pa_cons (pv 4) (pa_cons (pv 5) pa_nil)))))))), ?_⟩
    have big : 100000 ≤ sizeLine := by decide
    -- a list of at most four
    refine ⟨fun σ H1 => σ = [some v, some (.ref ca), some (.ref wk), some (.ref rd), none, none, none, none, none, none, none, none, none, none] ∧ H1 = H ∧ ∃ (a : Addr) (ys : List V) (ds : List PyData), v = .ref a ∧ d = .list ds ∧ H a = some (.lst ys) ∧ AtAll H ys ds ∧ ds.length ≤ 4, ?_, ?_⟩
    · refine isi_rd rfl (ans_list hd.dat) ⟨_, rfl, ?_⟩
      rcases at_lst2 hd with ⟨a, ys, ds, rfl, rfl, hy, hys⟩ | ⟨hn1, hno⟩
      · rw [lstOf_of hy]
        refine iteF ?_
        refine ⟨_, rfl, a, ys, rfl, .inl (SqL.of hy), _, _, rfl, rfl, _, rfl, ?_⟩
        refine ite2 (fun c => ?_) (fun c => ?_)
        · have gt : ¬ ds.length ≤ 4 := by
            have := of_decide_eq_true c
            rw [hys.len] at this
            omega
          dsimp only at k
          rw [if_neg gt] at k
          exact ⟨_, rfl, rip_rd (E := E) k⟩
        · refine ⟨rfl, rfl, a, ys, ds, rfl, rfl, hy, hys, ?_⟩
          have : ¬ (4 : Int) < (ys.length : Int) := fun z => c (decide_eq_true z)
          rw [hys.len] at this
          omega
      · rw [hn1]
        refine iteT ?_
        refine iteT ?_
        have kz : Rz C H (.str "functions") (.int (-1)) E := by
          split at k
          · exact absurd rfl (hno _)
          · exact k
        exact ⟨_, rfl, rip_rd (E := E) kz⟩
    rintro σ H1 ⟨rfl, rfl, a, ys, ds, rfl, rfl, hy, hys, l4⟩
    dsimp only at k
    rw [if_pos l4] at k
    obtain ⟨few, k⟩ := k
    intro D hD
    have sD := same_new (o := .dK []) (Same.refl H1) hD
    refine ⟨_, rfl, a, ys, rfl, SqL.of (sD _ _ hy), ?_⟩
    refine for_enum (fun i σ H2 => ∃ (cs : Cl) (many : Int) (kvs : List (Key × V)) (v6 v7 v8 v9 v10 v11 v12 v13 : Option V), σ = [some (.ref a), some (.ref ca), some (.ref wk), some (.ref rd), some (.ref D), some (.int many), v6, v7, v8, v9, v10, v11, v12, v13] ∧ Same H1 H2 ∧ H2 D = some (.dK kvs) ∧
        (∀ s : Str, match cs.lookup s with | none => valV kvs (Sum.inr s) = none | some (m, h, d) => ∃ t, valV kvs (Sum.inr s) = some (.ref t) ∧ H2 t = some (.tup [.int m, .bl h, .int d])) ∧ (∀ z r, cs.lookup z = some r → r.1 ≤ 100) ∧ kvs.length ≤ i ∧ i ≤ 4 ∧ funT en n ds 0 [] 0 = funT en n (ds.drop i) i cs many)
      ⟨[], 0, [], none, none, none, none, none, none, none, none, rfl, sD, upd_same, fun s => rfl, fun z r e => by (cases e), Nat.le_refl _, Nat.zero_le _, rfl⟩ (fun i σ H2 _ ⟨_, _, _, _, _, _, _, _, _, _, _, _, s2, _⟩ => SqL.of (s2 _ _ hy)) ?_ ?_
    · rintro i x σ H2 T hx ⟨cs, many, kvs, v6, v7, v8, v9, v10, v11, v12, v13, rfl, s2, hD2, hkv, small, lk, i4, erun⟩ hT
      refine pair_rd ?_
      obtain ⟨di, hdi, hai⟩ := hys.get hx
      have ild : i < ds.length := (List.getElem?_eq_some_iff.mp hdi).1
      have edrop : ds.drop i = di :: ds.drop (i + 1) := by
        rw [List.drop_eq_getElem_cons ild]
        rw [List.getElem?_eq_getElem ild] at hdi
        rw [Option.some.inj hdi]
      rw [edrop] at erun
      have s3 := same_new (o := .tup [.int (i : Nat), x]) s2 hT
      have s23 := same_new (o := .tup [.int (i : Nat), x]) (Same.refl H2) hT
      have hcs3 : CallsAt (upd H2 T (.tup [.int (i : Nat), x])) D cs := CallsAt.mono ⟨kvs, hD2, hkv⟩ s23
      -- is_head
      refine ⟨fun σ H4 => σ = [some (.ref a), some (.ref ca), some (.ref wk), some (.ref rd), some (.ref D), some (.int many), some (.int (i : Nat)), some x, v8, v9, v10, v11, v12, v13] ∧ Same (upd H2 T (.tup [.int (i : Nat), x])) H4 ∧ headT cs en.wn di = true, ?_, ?_⟩
      · refine ⟨_, rfl, _, rfl, _, rfl, x, di, D, wk, cs, en.wn, rfl, hai.mono s3, hcs3, s3 _ _ hwk, few di (List.mem_of_getElem? hdi), fun H4 s4 => ⟨_, rfl, ?_⟩⟩
        cases eh : headT cs en.wn di with
        | true => exact iteF ⟨rfl, s4, rfl⟩
        | false =>
          refine iteT ?_
          have eb : funT en n ds 0 [] 0 = some (.bad [(i : Int)]) := by
            rw [erun]
            unfold funT
            rw [if_neg (by rw [eh]; exact Bool.false_ne_true)]
          rw [eb] at k
          exact ⟨_, rfl, (by show 1 ≤ sizeLine; decide), fun t nt => rip_rd (E := E) (k t _ (same_new (s3.trans s4) nt) upd_same)⟩
      rintro σ H4 ⟨rfl, s4, eh⟩
      obtain ⟨nm, ps, is, b, r, rfl, epa, en1, en8, enb⟩ := head_parts eh
      rcases at_tup hai with ⟨xa, xw, es0, rfl, ee, hxa, hxw⟩ | ⟨_, hno⟩
      case inr => exact absurd rfl (hno _)
      cases ee
      match xw, hxw with
      | [x0, x1, x2, x3, x4], .cons a0 (.cons a1 (.cons a2 (.cons a3 (.cons a4 .nil)))) =>
      obtain rfl := at_str a0
      have s34 := s3.trans s4
      refine ⟨fun σ H5 => σ = [some (.ref a), some (.ref ca), some (.ref wk), some (.ref rd), some (.ref D), some (.int many), some (.int (i : Nat)), some (.ref xa), some (.str nm), some x1, some x2, some x3, some x4, v13] ∧ H5 = H4, ⟨_, rfl, xa, _, rfl, SqT.of (s34 _ _ hxa), rfl, _, _, rfl, x1, _, rfl, x2, _, rfl, x3, _, rfl, x4, _, rfl, rfl, rfl, rfl⟩, ?_⟩
      rintro σ H5 ⟨rfl, rfl⟩
      rcases at_lst2 a1 with ⟨p1, u1, ps', rfl, ee, h1, hu1⟩ | ⟨_, hno⟩
      case inr => exact absurd rfl (hno _)
      cases ee
      rcases at_lst2 a2 with ⟨p2, u2, is', rfl, ee, h2, hu2⟩ | ⟨_, hno⟩
      case inr => exact absurd rfl (hno _)
      cases ee
      have hap := at_app hu1 hu2
      have es' := badT_none enb
      have hus : u1 ++ u2 = (strsT (ps ++ is)).map V.str := at_strs (by rw [← es']; exact hap)
      have lu : u1.length + u2.length ≤ 8 := by
        rw [hu1.len, hu2.len, ← List.length_append]
        exact en8
      have hcs5 : CallsAt H5 D cs := hcs3.mono s4
      have estep : funT en n ds 0 [] 0 = (match funR en n cs nm ps is b with
          | some (some pl, _, _) => some (FRes.bad ((i : Int) :: pl))
          | some (none, m, dp) => funT en n (ds.drop (i + 1)) (i + 1) (noteT cs nm ps r dp) (many + m)
          | none => none) := by
        rw [erun]
        show (if headT cs en.wn (.tuple [.str nm, .list ps, .list is, b, r]) = true then _ else _) = _
        rw [if_pos eh, epa]
      obtain ⟨res, hres⟩ : ∃ res, funR en n cs nm ps is b = some res := by
        cases q : funR en n cs nm ps is b with
        | some res => exact ⟨res, rfl⟩
        | none =>
          rw [q] at estep
          rw [estep] at k
          exact False.elim k
      -- seen
      refine ⟨fun σ H6 => ∃ sx : Addr, σ = [some (.ref a), some (.ref ca), some (.ref wk), some (.ref rd), some (.ref D), some (.int many), some (.int (i : Nat)), some (.ref xa), some (.str nm), some (.ref p1), some (.ref p2), some x3, some x4, some (.ref sx)] ∧ Same H5 H6 ∧ SuAt H6 CU sx res, ?_, ?_⟩
      · refine ⟨_, rfl, _, rfl, _, rfl, p1, p2, u1, u2, rfl, rfl, s34 _ _ h1, s34 _ _ h2, by omega, fun q nq => ?_⟩
        have s6 := same_new (o := .lst (u1 ++ u2)) (Same.refl H5) nq
        have s06 := s34.trans s6
        refine ⟨_, rfl, _, rfl, _, rfl, _, rfl, q, ca, wk, rd, D, en.rows, strsT (ps ++ is), en.wn, rs, cs, rfl, hca.mono s06, r6, r3, by rw [upd_same, hus], s06 _ _ hwk, s06 _ _ hrd, hcs5.mono s6, fun p H7 s7 np hsc => ?_⟩
        refine ⟨x3, b, p, _, n, res, rfl, a3.mono (s06.trans s7), hsc, small, hn, ?_, fun sx H8 s8 nx su => ⟨sx, rfl, (s6.trans s7).trans s8, su⟩⟩
        rw [hlv]
        exact hres
      rintro σ H6 ⟨sx, rfl, s6, dx, pv6, bu, hsx, hpv, hpl⟩
      obtain ⟨pl, m, dp⟩ := res
      rw [hres] at estep
      have s06 := s34.trans s6
      -- its place
      refine ⟨fun σ H7 => σ = [some (.ref a), some (.ref ca), some (.ref wk), some (.ref rd), some (.ref D), some (.int many), some (.int (i : Nat)), some (.ref xa), some (.str nm), some (.ref p1), some (.ref p2), some x3, some x4, some (.ref sx)] ∧ H7 = H6 ∧ pl = none, ?_, ?_⟩
      · cases pl with
        | none =>
          have ep : pv6 = .non := hpv
          subst ep
          refine ⟨_, rfl, sx, CU, dx, _, _, rfl, hsx, UU.cl, UU.n1, su_place _ _ _ _, rfl, _, rfl, ?_⟩
          exact iteF ⟨rfl, rfl, rfl⟩
        | some l =>
          obtain ⟨t0, rfl, ht0⟩ : ∃ t0, pv6 = .ref t0 ∧ H6 t0 = some (.tup (l.map V.int)) := hpv
          refine ⟨_, rfl, sx, CU, dx, _, _, rfl, hsx, UU.cl, UU.n1, su_place _ _ _ _, rfl, _, rfl, ?_⟩
          refine iteT ?_
          have estep : funT en n ds 0 [] 0 = some (FRes.bad ((i : Int) :: l)) := estep
          rw [estep] at k
          refine ⟨_, rfl, (by show 1 ≤ sizeLine; decide), fun t nt => ?_⟩
          have s7 := same_new (o := .tup [.int (i : Nat)]) s06 nt
          have s67 := same_new (o := .tup [.int (i : Nat)]) (Same.refl H6) nt
          refine ⟨_, rfl, sx, CU, dx, _, _, rfl, s67 _ _ hsx, UU.cl, UU.n1, su_place _ _ _ _, t, t0, _, _, rfl, rfl, SqT.of upd_same, SqT.of (s67 _ _ ht0), ?_, fun z => (by cases z), fun _ z => ?_, fun _ _ q nq => ?_⟩
          · have := hpl l rfl
            rw [List.length_map, List.length_singleton]
            omega
          · have z : l = [] := List.map_eq_nil_iff.mp z
            exact rip_rd (E := E) (k t _ s7 (by rw [upd_same, z]; rfl))
          · exact rip_rd (E := E) (k q _ (same_new s7 nq) (by rw [upd_same]; rfl))
      rintro σ H7 ⟨rfl, rfl, rfl⟩
      have estep : funT en n ds 0 [] 0 = funT en n (ds.drop (i + 1)) (i + 1) (noteT cs nm ps r dp) (many + m) := estep
      have hD7 := s6 _ _ (s4 _ _ (s23 _ _ hD2))
      have s27 := (s23.trans s4).trans s6
      have hkv7 : ∀ s : Str, match cs.lookup s with | none => valV kvs (Sum.inr s) = none | some (m, h, d) => ∃ t, valV kvs (Sum.inr s) = some (.ref t) ∧ H7 t = some (.tup [.int m, .bl h, .int d]) := fun z => by
        have q := hkv z
        cases hl : cs.lookup z with
        | none =>
          rw [hl] at q
          exact q
        | some y =>
          obtain ⟨m', b', d'⟩ := y
          rw [hl] at q
          obtain ⟨t', e1, e2⟩ := q
          exact ⟨t', e1, s27 _ _ e2⟩
      have nl : cs.lookup nm = none := by
        rw [List.lookup_eq_none_iff]
        intro q hq
        have en1 : decide (nm ∈ cs.map (·.1)) = false := en1
        have h2 := of_decide_eq_false en1
        have : ¬ nm = q.1 := fun e => h2 (List.mem_map.mpr ⟨q, hq, e.symm⟩)
        simpa using this
      -- calls
      refine ⟨fun σ H8 => ∃ kvs' : List (Key × V), σ = [some (.ref a), some (.ref ca), some (.ref wk), some (.ref rd), some (.ref D), some (.int many), some (.int (i : Nat)), some (.ref xa), some (.str nm), some (.ref p1), some (.ref p2), some x3, some x4, some (.ref sx)] ∧ Same H1 H8 ∧ H8 sx = some (.ins CU dx (suF pv6 (.int m) (.int dp) (.bl bu))) ∧ H8 D = some (.dK kvs') ∧
        (∀ s : Str, match (noteT cs nm ps r dp).lookup s with | none => valV kvs' (Sum.inr s) = none | some (m, h, d) => ∃ t, valV kvs' (Sum.inr s) = some (.ref t) ∧ H8 t = some (.tup [.int m, .bl h, .int d])) ∧ kvs'.length ≤ i + 1, ?_, ?_⟩
      · refine ⟨_, rfl, p1, u1, rfl, .inl (SqL.of (s06 _ _ h1)), _, rfl, rfl, _, rfl, sx, CU, dx, _, _, rfl, hsx, UU.cl, UU.n3, su_depth _ _ _ _, (by show 3 ≤ sizeLine; decide), fun t nt => ?_⟩
        have s8 := same_new (o := .tup [.int (u1.length : Int), .bl (!decide (x4 = .non)), .int dp]) (Same.refl H7) nt
        have hD8 := s8 _ _ hD7
        refine ⟨_, rfl, _, rfl, D, _, rfl, .inl ⟨kvs, Sum.inr nm, hD8, rfl, by omega, rfl⟩, _, rfl, same_updL (s06.trans s8) hD, ?_, upd_same, ?_, ?_⟩
        · rw [upd_ne (ne_of (s8 _ _ hsx) hD8 (by intro z; cases z))]
          exact s8 _ _ hsx
        · have hkv8 : ∀ s : Str, match cs.lookup s with | none => valV kvs (Sum.inr s) = none | some (m, h, d) => ∃ t', valV kvs (Sum.inr s) = some (.ref t') ∧ (upd H7 t (.tup [.int (u1.length : Int), .bl (!decide (x4 = .non)), .int dp])) t' = some (.tup [.int m, .bl h, .int d]) := fun z => by
            have q := hkv7 z
            cases hl : cs.lookup z with
            | none =>
              rw [hl] at q
              exact q
            | some y =>
              obtain ⟨m', b', d'⟩ := y
              rw [hl] at q
              obtain ⟨t', e1, e2⟩ := q
              exact ⟨t', e1, s8 _ _ e2⟩
          obtain ⟨kvs2, e2, q2⟩ := calls_put (n := nm) (m := (ps.length : Int)) (b := !noneT r) (d := dp) hD8 hkv8 nl (t := t) (by rw [upd_same, hu1.len, none_at a4])
          rw [upd_same] at e2
          cases e2
          exact q2
        · exact Nat.le_trans (length_putK _ _ _) (by omega)
      rintro σ H8 ⟨kvs', rfl, s8, hsx8, hD8, hkv8, lk'⟩
      refine ⟨_, rfl, _, rfl, sx, CU, dx, _, _, rfl, hsx8, UU.cl, UU.n2, su_many _ _ _ _, _, _, rfl, rfl, ?_⟩
      refine ⟨noteT cs nm ps r dp, many + m, kvs', _, _, _, _, _, _, _, _, rfl, s8, hD8, hkv8, fun z y e => ?_, lk', by omega, estep⟩
      unfold noteT at e
      rw [lookup_snoc] at e
      cases hl : cs.lookup z with
      | some y' =>
        rw [hl] at e
        cases e
        exact small z _ hl
      | none =>
        rw [hl] at e
        dsimp only at e
        split at e
        · cases e
          have : ps.length ≤ 8 := by
            rw [List.length_append] at en8
            omega
          show (ps.length : Int) ≤ 100
          omega
        · cases e
    · rintro σ H2 ⟨cs, many, kvs, v6, v7, v8, v9, v10, v11, v12, v13, rfl, s2, hD2, hkv, small, lk, i4, erun⟩
      have edn : ds.drop ys.length = [] := List.drop_eq_nil_of_le (by rw [hys.len]; exact Nat.le_refl _)
      rw [edn] at erun
      have erun : funT en n ds 0 [] 0 = some (.ok cs many) := erun
      rw [erun] at k
      refine ⟨_, rfl, _, rfl, (by show 2 ≤ sizeLine; decide), fun t nt => ?_⟩
      have s3 := same_new (o := .tup [.ref D, .int many]) (Same.refl H2) nt
      exact k t D _ (s2.trans s3) upd_same (CallsAt.mono ⟨kvs, hD2, hkv⟩ s3) small
end
end K1

set_option Elab.async false
set_option linter.all false
set_option maxRecDepth 100000
set_option maxHeartbeats 8000000
namespace K1
open PySem L2
theorem at_five {H : Hp} {xs : List V} {d0 d1 d2 d3 d4 : PyData} (h : AtAll H xs [d0, d1, d2, d3, d4]) : ∃ x0 x1 x2 x3 x4, xs = [x0, x1, x2, x3, x4] ∧ At H x0 d0 ∧ At H x1 d1 ∧ At H x2 d2 ∧ At H x3 d3 ∧ At H x4 d4 := by
  cases h with
  | cons a0 t0 =>
    cases t0 with
    | cons a1 t1 =>
      cases t1 with
      | cons a2 t2 =>
        cases t2 with
        | cons a3 t3 =>
          cases t3 with
          | cons a4 t4 =>
            cases t4
            exact ⟨_, _, _, _, _, rfl, a0, a1, a2, a3, a4⟩
section
variable {P : Program} {w : World} {K : PySem.W.Frag} {mg : Str → Option Value} {base : Heap}
/-! ### check_body -/
def spCB (C CS : Addr) : Sp := fun vs H Q E => ∃ (b : V) (d : PyData) (p : Addr) (sc : Sco) (n : Nat) (many : Int) (pl : Option (List Int)) (m dp : Int), vs = [b, .ref p, .int many] ∧ At H b d ∧ ScAt H CS p sc ∧ (∀ z r, sc.cs.lookup z = some r → r.1 ≤ 100) ∧ n ≤ 100000 ∧ runT sc n [⟨d, [], 0, 0, 0⟩] 0 0 = some (pl, m, dp) ∧
  (match pl with
  | some l => ∀ t H1, Same H H1 → H1 t = some (.tup (l.map V.int)) → Rz C H1 (.str "body") (.ref t) E
  | none => if 60 < many + m then Rz C H (.str "body") (.int (-1)) E else ∀ H', Same H H' → Q .non H')
theorem ok34c {f C CS CU : Addr} {fd : FuncData} {tS : Tok} (F : Fun K "check_body" "check_body" (top 34) f fd) (B : Blt mg) (hS : mg "MOST_STATEMENTS" = some (.int 60 tS)) (IP : Ipc P w K mg base C) (U : NoU K CU) (C21 : Cal P w K mg base CX0 6 "survey" ["body", "scope"] (spSv CS CU)) :
    FnOk P w K mg base (L2.CX P w) 7 f fd ["body", "scope", "many"] (spCB C CS) := by
  refine F.okX sc34 (fun vs H Q E h => ?_) (fun cdv A outer s H vs Q E hr h => ?_)
  · obtain ⟨b, d, p, sc, n, many, pl, m, dp, rfl, _⟩ := h
    rfl
  · obtain ⟨b, d, p, sc, n, many, pl, m, dp, rfl, hd, hsc, small, hn, hrun, k⟩ := h
    refine ⟨_, pss_cons (ps_set (i := 3) sc34.nd rfl (Or.inl rfl) (pe_cal C21 hr (by decide) pass0 (pa_cons (pv 0) (pa_cons (pv 1) pa_nil))))
      (pss_mid (ps_if (pt_cmpR op_notN (pe_fld (pv 3) rfl) pe_non (nomark _)) (pss_one (ps_rip IP rfl (takes_of rfl rfl rfl rfl) hr (by decide) pe_str (pe_fld (pv 3) rfl))) pss_nil)
      (pss_one (ps_if (pt_cmpR op_gt (pe_op op_add (pv 2) (pe_fld (pv 3) rfl)) (pe_glob (v := .int 60) rfl hS ⟨_, rfl⟩) (nomark _)) (pss_one (ps_rip IP rfl (takes_of rfl rfl rfl rfl) hr (by decide) pe_str (pe_un un_neg pe_int))) pss_nil))), ?_⟩
    refine ⟨_, rfl, _, rfl, b, d, p, sc, n, _, rfl, hd, hsc, small, hn, hrun, fun x H1 s1 nx su => ?_⟩
    obtain ⟨dx, pv6, bu, hsx, hpv, _⟩ := su
    refine ⟨fun σ H2 => σ = [some b, some (.ref p), some (.int many), some (.ref x)] ∧ H2 = H1 ∧ pl = none, ?_, ?_⟩
    · cases pl with
      | none =>
        have ep : pv6 = .non := hpv
        subst ep
        refine ⟨_, rfl, x, CU, dx, _, _, rfl, hsx, U.cl, U.n1, su_place _ _ _ _, rfl, _, rfl, ?_⟩
        exact iteF ⟨rfl, rfl, rfl⟩
      | some l =>
        obtain ⟨t0, rfl, ht0⟩ : ∃ t0, pv6 = .ref t0 ∧ H1 t0 = some (.tup (l.map V.int)) := hpv
        refine ⟨_, rfl, x, CU, dx, _, _, rfl, hsx, U.cl, U.n1, su_place _ _ _ _, rfl, _, rfl, ?_⟩
        refine iteT ?_
        exact ⟨_, rfl, x, CU, dx, _, _, rfl, hsx, U.cl, U.n1, su_place _ _ _ _, rip_rd (E := E) (k t0 H1 s1 ht0)⟩
    rintro σ H2 ⟨rfl, rfl, rfl⟩
    refine ⟨_, rfl, _, rfl, x, CU, dx, _, _, rfl, hsx, U.cl, U.n2, su_many _ _ _ _, _, _, rfl, rfl, _, _, rfl, rfl, _, rfl, ?_⟩
    dsimp only at k
    refine ite2 (fun c => ?_) (fun c => ?_)
    · have c' : 60 < many + m := of_decide_eq_true c
      rw [if_pos c'] at k
      exact ⟨_, rfl, rip_rd (E := E) (k.later s1)⟩
    · have c' : ¬ 60 < many + m := fun z => c (decide_eq_true z)
      rw [if_neg c'] at k
      exact k H2 s1
/-! ### copied_functions -/
def cpF (k : Nat) (d : PyData) : Bool := match d with
  | .tuple es => (match es with
    | [n, p, i, b, r] => (scaT n && scaT r) && ((match p with
      | .list ps => ps.all scaT
      | _ => false) && ((match i with
      | .list is => is.all scaT
      | _ => false) && cpB k b))
    | _ => false)
  | _ => false
theorem cpF_is {k : Nat} {d : PyData} (h : cpF k d = true) : ∃ n ps is bs r, d = .tuple [n, .list ps, .list is, .list bs, r] ∧ scaT n = true ∧ scaT r = true ∧ (∀ e ∈ ps, scaT e = true) ∧ (∀ e ∈ is, scaT e = true) ∧ cpB k (.list bs) = true := by
  unfold cpF at h
  split at h
  case h_2 => cases h
  split at h
  case h_2 => cases h
  rename_i n p i b r
  rw [Bool.and_eq_true, Bool.and_eq_true, Bool.and_eq_true, Bool.and_eq_true] at h
  obtain ⟨⟨h1, h2⟩, h3, h4, h5⟩ := h
  split at h3
  case h_2 => cases h3
  split at h4
  case h_2 => cases h4
  rw [List.all_eq_true] at h3 h4
  cases k with
  | zero => cases h5
  | succ k =>
    cases b with
    | list bs => exact ⟨_, _, _, _, _, rfl, h1, h2, h3, h4, h5⟩
    | _ => cases h5
def spCpF (k : Nat) : Sp := fun vs H Q _ => ∃ (a : Addr) (ds : List PyData), vs = [.ref a] ∧ At H (.ref a) (.list ds) ∧ ds.length ≤ 900 ∧ (∀ d ∈ ds, cpF k d = true) ∧ ∀ q H', Same H H' → At (off H H') (.ref q) (.list ds) → Q (.ref q) H'
theorem ok36c {f : Addr} {fd : FuncData} {k : Nat} (F : Fun K "copied_functions" "copied_functions" (top 36) f fd) (B : Blt mg) (C22 : Cal P w K mg base CX0 (k + 1) "copied_block" ["block"] (spCopy k)) : FnOk P w K mg base CX0 (k + 2) f fd ["functions"] (spCpF k) := by
  refine F.ok sc36 (fun vs H Q E h => ?_) (fun cdv A outer s H vs Q E hr h => ?_)
  · obtain ⟨b, ds, rfl, _⟩ := h
    rfl
  · obtain ⟨b, ds, rfl, hb, l900, hcp, k'⟩ := h
    refine ⟨_, pss_cons (ps_set (i := 1) sc36.nd rfl (Or.inl rfl) (pe_lst pa_nil)) (pss_mid (ps_for PassesOwn.never rfl (pi_list (pv 0)) (pg_tup rfl (pgs_cons (pg_name (i := 2) sc36.nd rfl (Or.inl rfl)) (pgs_cons (pg_name (i := 3) sc36.nd rfl (Or.inl rfl)) (pgs_cons (pg_name (i := 4) sc36.nd rfl (Or.inl rfl)) (pgs_cons (pg_name (i := 5) sc36.nd rfl (Or.inl rfl)) (pgs_cons (pg_name (i := 6) sc36.nd rfl (Or.inl rfl)) pgs_nil))))))
        (pss_one (ps_expr (pe_bm PySem.F.plainAttrs_list PySem.F.slot_list_append PySem.F.type_list_append mt_append (pv 1) (pa_cons (pe_tup (pa_cons (pv 2) (pa_cons (pe_callTy (r := rLof K) call_list_of rfl B.list PyProof.Rows.boot_list (pa_cons (pv 3) pa_nil)) (pa_cons (pe_callTy (r := rLof K) call_list_of rfl B.list PyProof.Rows.boot_list (pa_cons (pv 4) pa_nil)) (pa_cons (pe_cal C22 hr (Nat.le_refl _) pass0 (pa_cons (pv 5) pa_nil)) (pa_cons (pv 6) pa_nil)))))) pa_nil)))))
      (pss_one (ps_ret (pv 1)))), ?_⟩
    cases hb with
    | @lst _ xs _ hbl hxs =>
    have big : 1000 ≤ sizeLine := by decide
    refine ⟨Nat.zero_le _, fun ro nro => ?_⟩
    have s1 := same_new (o := .lst []) (Same.refl H) nro
    have hro0 : (upd H ro (.lst [])) ro = some (.lst []) := upd_same
    generalize hHr : upd H ro (.lst []) = Hr at s1 hro0 ⊢
    refine ⟨fun σ H1 => ∃ (v2 v3 v4 v5 v6 : Option V) (vs : List V), σ = [some (.ref b), some (.ref ro), v2, v3, v4, v5, v6] ∧ Same H H1 ∧ H1 ro = some (.lst vs) ∧ AtAll (off Hr H1) vs ds, ?_, ?_⟩
    · refine ⟨_, rfl, b, rfl, ⟨_, SqL.of (s1 _ _ hbl)⟩, for_list (K := K) (a := b) (xs := xs) (fun i σ H1 => ∃ (v2 v3 v4 v5 v6 : Option V) (vs : List V), σ = [some (.ref b), some (.ref ro), v2, v3, v4, v5, v6] ∧ Same H H1 ∧ H1 ro = some (.lst vs) ∧ AtAll (off Hr H1) vs (ds.take i))
        ⟨none, none, none, none, none, [], rfl, s1, hro0, .nil⟩ (fun i σ H1 _ ⟨_, _, _, _, _, _, _, s2, _⟩ => SqL.of (s2 _ _ hbl)) ?_ ?_⟩
      · rintro i y σ H1 hi ⟨v2, v3, v4, v5, v6, vs, rfl, s2, hr1, hvs⟩
        obtain ⟨d, hd, had⟩ := hxs.get hi
        obtain ⟨n, ps, is, bs, r, rfl, e1, e2, e3, e4, e5⟩ := cpF_is (hcp d (List.mem_of_getElem? hd))
        rcases at_tup had with ⟨ta, xw, es0, rfl, ee, hta, hxw⟩ | ⟨_, hno⟩
        case inr => exact absurd rfl (hno _)
        cases ee
        obtain ⟨x0, x1, x2, x3, x4, rfl, a0, a1, a2, a3, a4⟩ := at_five hxw
        rcases at_lst2 a1 with ⟨p1, u1, ps', rfl, ee, h1, hu1⟩ | ⟨_, hno⟩
        case inr => exact absurd rfl (hno _)
        cases ee
        rcases at_lst2 a2 with ⟨p2, u2, is', rfl, ee, h2, hu2⟩ | ⟨_, hno⟩
        case inr => exact absurd rfl (hno _)
        cases ee
        rcases at_lst2 a3 with ⟨p3, u3, bs', rfl, ee, h3, hu3⟩ | ⟨_, hno⟩
        case inr => exact absurd rfl (hno _)
        cases ee
        have domR : ∀ a, H1 a = none → Hr a = none := by
          rw [← hHr]
          exact dom_upd s2 hr1
        have il : i < xs.length := (List.getElem?_eq_some_iff.mp hi).1
        have lvs : vs.length ≤ 900 := by
          rw [hvs.len, List.length_take]
          omega
        refine ⟨ta, _, rfl, SqT.of (s2 _ _ hta), rfl, x0, _, rfl, _, _, rfl, _, _, rfl, _, _, rfl, x4, _, rfl, rfl, ?_⟩
        refine ⟨_, rfl, .inl ⟨rfl, _, SqL.of hr1⟩, _, rfl, _, rfl, p1, u1, rfl, .inl (SqL.of (s2 _ _ h1)), fun q1 nq1 => ?_⟩
        have s3 := same_new (o := .lst u1) (Same.refl H1) nq1
        refine ⟨_, rfl, p2, u2, rfl, .inl (SqL.of (s3 _ _ (s2 _ _ h2))), fun q2 nq2 => ?_⟩
        have s4 := same_new (o := .lst u2) s3 nq2
        have s04 := s2.trans s4
        refine ⟨_, rfl, p3, bs, rfl, (At.lst h3 hu3).mono s04, e5, fun q3 H3 s5 hq3 => ?_⟩
        have s15 := s4.trans s5
        refine ⟨_, rfl, (by show 5 ≤ sizeLine; decide), fun tq ntq => ?_⟩
        have s6 := same_new (o := .tup [x0, .ref q1, .ref q2, .ref q3, x4]) s15 ntq
        have hr4 := s6 _ _ hr1
        refine ⟨ro, vs, _, rfl, rfl, hr4, by omega, _, _, _, _, _, _, rfl, same_updL (s2.trans s6) nro, upd_same, ?_⟩
        rw [take_snoc hd]
        have n1 : Hr q1 = none := domR _ nq1
        have n2 : Hr q2 = none := domR _ (none_of' s3 nq2)
        have n3 : Hr tq = none := domR _ (none_of' s15 ntq)
        have f56 : Same (upd (upd H1 q1 (.lst u1)) q2 (.lst u2)) (upd H3 tq (.tup [x0, .ref q1, .ref q2, .ref q3, x4])) := same_new s5 ntq
        have f46 : Same (upd H1 q1 (.lst u1)) (upd H3 tq (.tup [x0, .ref q1, .ref q2, .ref q3, x4])) := (same_new (o := .lst u2) (Same.refl _) nq2).trans f56
        refine at_app ((hvs.mono (off_mono s6)).mono (off_upd hro0)) (.cons (At.mono (off_upd hro0) (.tup (off_of n3 upd_same) (.cons (at_sca a0 e1) (.cons (.lst (off_of n1 (f46 _ _ upd_same)) (at_scas hu1 e3)) (.cons (.lst (off_of n2 (f56 _ _ upd_same)) (at_scas hu2 e4)) (.cons ?_ (.cons (at_sca a4 e2) .nil))))))) .nil)
        refine (hq3.mono (off_mono (same_new (Same.refl _) ntq))).mono (off_dom fun a n => domR a (none_of' s4 n))
      · rintro σ H1 ⟨v2, v3, v4, v5, v6, vs, rfl, s2, hr1, hvs⟩
        rw [List.take_of_length_le (by rw [hxs.len]; exact Nat.le_refl _)] at hvs
        exact ⟨v2, v3, v4, v5, v6, vs, rfl, s2, hr1, hvs⟩
    rintro σ H1 ⟨v2, v3, v4, v5, v6, vs, rfl, s2, hr1, hvs⟩
    exact ⟨_, rfl, k' ro H1 s2 (.lst (off_of nro hr1) (hvs.mono (off_base (by rw [← hHr]; exact same_new (Same.refl _) nro))))⟩
end
end K1

set_option Elab.async false
set_option linter.all false
set_option maxRecDepth 100000
set_option maxHeartbeats 8000000
namespace K1
open PySem L2
/-! ### Program.__init__, any body, any functions -/
def AtNew (H Hx : Hp) (v : V) (d : PyData) : Prop := At (off H Hx) v d
theorem AtNew.mono {H Hx Hy : Hp} {v : V} {d : PyData} (h : AtNew H Hx v d) (s : Same Hx Hy) : AtNew H Hy v d := At.mono (off_mono s) h
theorem AtNew.other {H Hx : Hp} {v : V} {d : PyData} {p : Addr} {o u : HO} (h : AtNew H Hx v d) (hp : H p = some o) : AtNew H (upd Hx p u) v d := At.mono (off_upd hp) h
mutual
theorem At.keepP {H Hx : Hp} {p CP dx : Addr} {fs : List (Str × V)} (hp : H p = some (.ins CP dx fs)) (kp : ∀ b o, H b = some o → b ≠ p → Hx b = some o) : ∀ {v : V} {d : PyData}, At H v d → At Hx v d
  | _, _, .non => .non
  | _, _, .bl b => .bl b
  | _, _, .int i => .int i
  | _, _, .str z h => .str z h
  | _, _, .lst e h => .lst (kp _ _ e (ne_of e hp (by intro z; cases z))) (h.keepP hp kp)
  | _, _, .tup e h => .tup (kp _ _ e (ne_of e hp (by intro z; cases z))) (h.keepP hp kp)
  | _, _, .dic e => .dic (kp _ _ e (ne_of e hp (by intro z; cases z)))
theorem AtAll.keepP {H Hx : Hp} {p CP dx : Addr} {fs : List (Str × V)} (hp : H p = some (.ins CP dx fs)) (kp : ∀ b o, H b = some o → b ≠ p → Hx b = some o) : ∀ {vs : List V} {ds : List PyData}, AtAll H vs ds → AtAll Hx vs ds
  | _, _, .nil => .nil
  | _, _, .cons h t => .cons (h.keepP hp kp) (t.keepP hp kp)
end
/-- a program stands at p, all that is its own new since H0 -/
def Prog2 (H0 H : Hp) (CP p : Addr) (rows : List Row) (ns ls : List Str) (th : Int) (ks : List Int) (bs fs : List PyData) : Prop := ∃ (dx a b c d f g : Addr), H p = some (.ins CP dx (pgF (.ref a) (.ref b) (.ref c) (.ref d) (.int th) (.ref f) (.ref g))) ∧ ClsN H0 H a rows ∧
  AtNew H0 H (.ref b) (.list bs) ∧ (H0 c = none ∧ H c = some (.lst (ns.map V.str))) ∧ (H0 d = none ∧ H d = some (.lst (ls.map V.str))) ∧ (H0 f = none ∧ H f = some (.lst (ks.map V.int))) ∧ AtNew H0 H (.ref g) (.list fs)
/-- what follows the heads -/
def Rest (C CP p : Addr) (kk nf : Nat) (H : Hp) (Q : VK) (E : XK) (bd fd : PyData) (rows : List Row) (ns ls : List Str) (th : Int) (ks : List Int) : Prop :=
  ((∀ ds, fd = .list ds → ¬ ds.length ≤ 4) → Rz C H (.str "functions") (.int (-1)) E) ∧
  ∀ ds, fd = .list ds → ds.length ≤ 4 → (∀ q ∈ ds, ∀ es, q = .tuple es → ∀ ys, PyData.list ys ∈ es → ys.length ≤ 1000) ∧
    ((∃ l, funT ⟨rows, ls, ks.length⟩ nf ds 0 [] 0 = some (.bad l) ∧ ∀ t H1, Same H H1 → H1 t = some (.tup (l.map V.int)) → Rz C H1 (.str "functions") (.ref t) E) ∨
     ∃ cs many pl m dp, funT ⟨rows, ls, ks.length⟩ nf ds 0 [] 0 = some (.ok cs many) ∧ runT (scoOf rows ns ls ks.length cs) nf [⟨bd, [], 0, 0, 0⟩] 0 0 = some (pl, m, dp) ∧
      (match pl with
      | some l => ∀ t H1, Same H H1 → H1 t = some (.tup (l.map V.int)) → Rz C H1 (.str "body") (.ref t) E
      | none => if 60 < many + m then Rz C H (.str "body") (.int (-1)) E else
          ∃ bs, bd = .list bs ∧ cpB kk bd = true ∧ (∀ d ∈ ds, cpF kk d = true) ∧ ∀ H', Prog2 H H' CP p rows ns ls th ks bs ds → (∀ b o, H b = some o → b ≠ p → H' b = some o) → Q .non H'))
def spPr2 (C CP : Addr) (kk : Nat) : Sp := fun vs H Q E => ∃ (p dx : Addr) (c b n l t r f : V) (bd fd : PyData) (nf : Nat), vs = [.ref p, c, b, n, l, t, r, f] ∧ H p = some (.ins CP dx []) ∧ Dat H c ∧ Dat H n ∧ Dat H l ∧ Dat H t ∧ Dat H r ∧ At H b bd ∧ At H f fd ∧ nf ≤ 100000 ∧
  (∀ part at_, faultV H c n l t r = some (part, at_) → Rz C H (.str part) at_ E) ∧
  (faultV H c n l t r = none → ∀ rows ns ls th ks, Fine H c n l t r rows ns ls th ks → Rest C CP p kk nf H Q E bd fd rows ns ls th ks)
section
variable {P : Program} {w : World} {K : PySem.W.Frag} {mg : Str → Option Value} {base : Heap} {C CP CS CU : Addr} {kk : Nat}
theorem okPr2 {f : Addr} {fd : FuncData} {N : Nat} (hN : 7 ≤ N) (hkk : kk + 2 ≤ N) (F : Fun K "__init__" "Program.__init__" sPrI f fd) (B : Blt mg) (U : NoP K CP)
    (C28 : Cal P w K mg base (L2.CX P w) 4 "check_classes" ["classes"] (spClasses C)) (C26 : Cal P w K mg base (L2.CX P w) 3 "check_names" ["part", "value", "least", "most", "barred"] (spNames C))
    (C29 : Cal P w K mg base (L2.CX P w) 3 "check_threshold" ["threshold"] (spThr C)) (C30 : Cal P w K mg base (L2.CX P w) 3 "check_radices" ["radices", "threshold"] (spRad C))
    (C33 : Cal P w K mg base (L2.CX P w) 7 "check_functions" ["functions", "classes", "weak", "radices"] (spCFn C)) (C32 : Cal P w K mg base CX0 3 "scope_for" ["names", "classes", "weak", "radices", "calls"] (spSF CS))
    (C34 : Cal P w K mg base (L2.CX P w) 7 "check_body" ["body", "scope", "many"] (spCB C CS)) (C35 : Cal P w K mg base CX0 1 "copied_classes" ["classes"] spCopyCls)
    (C22 : Cal P w K mg base CX0 (kk + 1) "copied_block" ["block"] (spCopy kk)) (C36 : Cal P w K mg base CX0 (kk + 2) "copied_functions" ["functions"] (spCpF kk)) :
    FnOk P w K mg base (L2.CX P w) (N + 1) f fd prP (spPr2 C CP kk) := by
  refine F.okX scPr (fun vs H Q E h => ?_) (fun cdv A outer s H vs Q E hr h => ?_)
  · obtain ⟨p, dx, c, b, n, l, t, r, f, bd, fd, nf, rfl, _⟩ := h
    rfl
  · obtain ⟨p, dx, c, b, n, l, t, r, f, bd, fdT, nf, rfl, hp, dc, dn, dl, dt, dr, hb, hf, hnf, ke, kn⟩ := h
    refine ⟨_, pss_cons (ps_expr (pe_cal C28 hr (by omega) (passes_call (E := E) (takes_of rfl rfl rfl rfl) (fun _ _ _ _ h => h)) (pa_cons (pv 1) pa_nil)))
      (pss_cons (ps_expr (pe_cal C26 hr (by omega) (passes_call (E := E) (takes_of rfl rfl rfl rfl) (fun _ _ _ _ h => h)) (pa_cons pe_str (pa_cons (pv 3) (pa_cons pe_int (pa_cons pe_int (pa_cons (pe_lst pa_nil) pa_nil)))))))
      (pss_cons (ps_expr (pe_cal C26 hr (by omega) (passes_call (E := E) (takes_of rfl rfl rfl rfl) (fun _ _ _ _ h => h)) (pa_cons pe_str (pa_cons (pv 4) (pa_cons pe_int (pa_cons pe_int (pa_cons (pv 3) pa_nil)))))))
      (pss_cons (ps_expr (pe_cal C29 hr (by omega) (passes_call (E := E) (takes_of rfl rfl rfl rfl) (fun _ _ _ _ h => h)) (pa_cons (pv 5) pa_nil)))
      (pss_cons (ps_expr (pe_cal C30 hr (by omega) (passes_call (E := E) (takes_of rfl rfl rfl rfl) (fun _ _ _ _ h => h)) (pa_cons (pv 6) (pa_cons (pv 5) pa_nil))))
      (pss_cons (ps_asg (pe_cal C33 hr (by omega) (passes_call (E := E) (takes_of rfl rfl rfl rfl) (fun _ _ _ _ h => h)) (pa_cons (pv 7) (pa_cons (pv 1) (pa_cons (pv 4) (pa_cons (pv 6) pa_nil))))) (pg_tup rfl (pgs_cons (pg_name (i := 8) scPr.nd rfl (Or.inl rfl)) (pgs_cons (pg_name (i := 9) scPr.nd rfl (Or.inl rfl)) pgs_nil))))
      (pss_cons (ps_expr (pe_cal C34 hr (by omega) (passes_call (E := E) (takes_of rfl rfl rfl rfl) (fun _ _ _ _ h => h)) (pa_cons (pv 2) (pa_cons (pe_cal C32 hr (by omega) pass0 (pa_cons (pv 3) (pa_cons (pv 1) (pa_cons (pv 4) (pa_cons (pv 6) (pa_cons (pv 8) pa_nil)))))) (pa_cons (pv 9) pa_nil)))))
      (pss_cons (ps_fld (pv 0) (pe_cal C35 hr (by omega) pass0 (pa_cons (pv 1) pa_nil)) rfl)
      (pss_cons (ps_fld (pv 0) (pe_cal C22 hr (by omega) pass0 (pa_cons (pv 2) pa_nil)) rfl)
      (pss_cons (ps_fld (pv 0) (pe_callTy (r := rLof K) call_list_of rfl B.list PyProof.Rows.boot_list (pa_cons (pv 3) pa_nil)) rfl)
      (pss_cons (ps_fld (pv 0) (pe_callTy (r := rLof K) call_list_of rfl B.list PyProof.Rows.boot_list (pa_cons (pv 4) pa_nil)) rfl)
      (pss_cons (ps_fld (pv 0) (pv 5) rfl)
      (pss_cons (ps_fld (pv 0) (pe_callTy (r := rLof K) call_list_of rfl B.list PyProof.Rows.boot_list (pa_cons (pv 6) pa_nil)) rfl)
      (pss_one (ps_fld (pv 0) (pe_cal C36 hr (by omega) pass0 (pa_cons (pv 7) pa_nil)) rfl)))))))))))))), ?_⟩
    -- check_classes
    refine ⟨_, rfl, c, rfl, dc, fun e1 H1 s1 => ?_, fun e1 => ke _ _ (by unfold faultV; rw [if_pos e1])⟩
    -- check_names of the variables
    refine ⟨_, rfl, by decide, fun q1 hq1 => ?_⟩
    have s2 := same_new (o := .lst []) s1 hq1
    refine ⟨_, n, 1, 8, q1, [], rfl, dn.mono s2, upd_same, by decide, fun e2 H3 s3 => ?_, fun e2 => ?_⟩
    rotate_left
    · rw [namesAt_same dn s2] at e2 ⊢
      exact (ke _ _ (by unfold faultV; rw [if_neg (by simp [e1]), if_pos e2])).later s2
    rw [namesAt_same dn s2] at e2
    have s4 := s2.trans s3
    obtain ⟨na, ns, rfl, hna, hn1, hn8, _, nOk⟩ := names_ok e2
    -- check_names of the weak ones
    refine ⟨_, rfl, _, rfl, _, l, 0, 4, na, ns, rfl, dl.mono s4, s4 _ _ hna, by decide, fun e3 H5 s5 => ?_, fun e3 => ?_⟩
    rotate_left
    · rw [namesAt_same dl s4] at e3 ⊢
      exact (ke _ _ (by unfold faultV; rw [strsOf_is hna, if_neg (by simp [e1]), if_neg (by simp [e2]), if_pos e3])).later s4
    rw [namesAt_same dl s4] at e3
    have s6 := s4.trans s5
    obtain ⟨la, ls, rfl, hla, _, hl4, _, lOk⟩ := names_ok e3
    -- check_threshold
    refine ⟨_, rfl, t, rfl, dt.mono s6, fun e4 H7 s7 => ?_, fun e4 => ?_⟩
    rotate_left
    · exact (ke _ _ (by unfold faultV; rw [strsOf_is hna, if_neg (by simp [e1]), if_neg (by simp [e2]), if_neg (by simp [e3]), if_pos e4])).later s6
    have s8 := s6.trans s7
    obtain ⟨th, rfl, ht1, ht2⟩ := whole_ok e4
    -- check_radices
    refine ⟨_, rfl, _, rfl, r, th, rfl, dr.mono s8, ht1, ht2, fun e5 H9 s9 => ?_, fun e5 => ?_⟩
    rotate_left
    · rw [radicesAt_same dr s8] at e5 ⊢
      exact (ke _ _ (by unfold faultV; rw [strsOf_is hna, if_neg (by simp [e1]), if_neg (by simp [e2]), if_neg (by simp [e3]), if_neg (by simp [e4]), if_pos (show radicesAt H r (intOf (.int th)) ≠ .non from e5)]; rfl)).later s8
    rw [radicesAt_same dr s8] at e5
    have s10 := s8.trans s9
    obtain ⟨ra, ks, rfl, hra⟩ := rad_ok e5
    obtain ⟨ca, rows, rfl, hca, hc1, hc6, hcA⟩ := classes_ok e1
    have hc3 : ∀ r ∈ rows, r.fs.length ≤ 3 := fun r h => (hcA r h).1
    have none_ : faultV H (.ref ca) (.ref na) (.ref la) (.int th) (.ref ra) = none := by
      unfold faultV
      rw [strsOf_is hna, if_neg (by simp [e1]), if_neg (by simp [e2]), if_neg (by simp [e3]), if_neg (by simp [e4]), if_neg (show ¬ radicesAt H (.ref ra) (intOf (.int th)) ≠ .non from by show ¬ radicesAt H (.ref ra) th ≠ .non; simp [e5])]
    have fine : Fine H (.ref ca) (.ref na) (.ref la) (.int th) (.ref ra) rows ns ls th ks := ⟨⟨ca, rfl, hca⟩, hc1, hc6, hc3, ⟨na, rfl, hna⟩, ⟨la, rfl, hla⟩, rfl, ht1, ht2, ⟨ra, rfl, hra⟩, fun q h => (hcA q h).2, nOk, lOk⟩
    have k := kn none_ rows ns ls th ks fine
    obtain ⟨kz, kd⟩ := k
    -- check_functions
    refine ⟨_, rfl, _, rfl, _, rfl, _, rfl, f, fdT, ca, la, ra, ⟨rows, ls, ks.length⟩, ks.map V.int, nf, rfl, hf.mono s10, hca.mono s10, hc6, hc3, s10 _ _ hla, s10 _ _ hra, by rw [List.length_map], hnf, ?_⟩
    by_cases hfl : ∃ ds, fdT = .list ds ∧ ds.length ≤ 4
    case neg =>
      have kz2 : Rz C H9 (.str "functions") (.int (-1)) E := (kz fun ds e l4 => hfl ⟨ds, e, l4⟩).later s10
      split
      · rename_i ds
        rw [if_neg fun l4 => hfl ⟨ds, rfl, l4⟩]
        exact kz2
      · exact kz2
    obtain ⟨ds, rfl, l4⟩ := hfl
    obtain ⟨fewd, kd⟩ := kd ds rfl l4
    dsimp only
    rw [if_pos l4]
    refine ⟨fewd, ?_⟩
    rcases kd with ⟨lb, efun, kb⟩ | ⟨cs, many, plb, m, dp, efun, erun, kb⟩
    · rw [efun]
      exact fun t H1 s' ht => kb t H1 (s10.trans s') ht
    rw [efun]
    intro tp cd H11 s11 htp hcd small
    have s12 := s10.trans s11
    refine ⟨tp, _, rfl, SqT.of htp, rfl, .ref cd, _, rfl, .int many, _, rfl, rfl, ?_⟩
    -- check_body, scope_for
    refine ⟨_, rfl, _, rfl, _, rfl, _, rfl, _, rfl, _, rfl, na, ca, la, ra, cd, rows, ns, ls, ks.map V.int, cs, rfl, hca.mono s12, hc6, hc3, s12 _ _ hna, s12 _ _ hla, s12 _ _ hra, hcd, fun scp H13 s13 nscp hscp => ?_⟩
    have s14 := s12.trans s13
    rw [List.length_map] at hscp
    refine ⟨_, rfl, b, bd, scp, _, nf, many, plb, m, dp, rfl, hb.mono s14, hscp, small, hnf, erun, ?_⟩
    cases plb with
    | some lb => exact fun t H1 s' ht => kb t H1 (s14.trans s') ht
    | none =>
    dsimp only at kb ⊢
    by_cases c60 : 60 < many + m
    · rw [if_pos c60] at kb ⊢
      exact kb.later s14
    rw [if_neg c60] at kb ⊢
    obtain ⟨bs, rfl, hcb, hcf, k⟩ := kb
    intro H15 s15
    have s16 := s14.trans s15
    rcases at_lst2 hb with ⟨bda, _, _, rfl, _, hbd, _⟩ | ⟨_, hno⟩
    case inr => exact absurd rfl (hno _)
    rcases at_lst2 hf with ⟨fna, _, _, rfl, _, hfn, _⟩ | ⟨_, hno⟩
    case inr => exact absurd rfl (hno _)
    have f0 : Fil H H15 CP p dx [] := ⟨fun b o e _ => s16 _ _ e, s16 _ _ hp⟩
    have few : ∀ (n : Nat) (fs : List (Str × V)) (k : Str) (v : V), fs.length ≤ n → (putF k v fs).length ≤ n + 1 := fun n fs k v h => Nat.le_trans (putF_len k v fs) (Nat.succ_le_succ h)
    have apart : ∀ {b : Addr} {xs : List V}, H b = some (.lst xs) → b ≠ p := fun {b xs} e => ne_of e hp (by intro z; cases z)
    have g0 : ([] : List (Str × V)).length ≤ 0 := Nat.le_refl _
    -- self._classes
    refine ⟨_, rfl, ca, nul, rows, rfl, hca.mono s16, hc6, hc3, fun q1 H17 s17 hq1 => ?_⟩
    have f1 := f0.new s17
    have k1 : ClsN H H17 q1 rows := hq1.base fun b z => f0.free z
    refine ⟨_, rfl, p, CP, dx, _, rfl, f1.at_, U.cl, U.n1, by omega, ?_⟩
    have f2 := f1.set (putF "_classes" (.ref q1) [])
    have k2 : ClsN H _ q1 rows := k1.other (u := .ins CP dx (putF "_classes" (.ref q1) [])) hp
    have g1 := few 0 [] "_classes" (.ref q1) g0
    -- self._body
    refine ⟨_, rfl, bda, bs, rfl, hb.keepP hp f2.keep, hcb, fun q2 H18 s18 hq2 => ?_⟩
    have f3 := f2.new s18
    have b3 : AtNew H H18 (.ref q2) (.list bs) := At.mono (off_dom fun _ n => f2.free n) hq2
    have k3 := k2.mono s18
    refine ⟨_, rfl, p, CP, dx, _, rfl, f3.at_, U.cl, U.n2, by omega, ?_⟩
    have f4 := f3.set (putF "_body" (.ref q2) (putF "_classes" (.ref q1) []))
    have k4 := k3.other (u := .ins CP dx (putF "_body" (.ref q2) (putF "_classes" (.ref q1) []))) hp
    have b4 := b3.other (u := .ins CP dx (putF "_body" (.ref q2) (putF "_classes" (.ref q1) []))) hp
    have g2 := few 1 _ "_body" (.ref q2) g1
    -- self._variables
    refine ⟨_, rfl, na, _, rfl, .inl (SqL.of (f4.keep _ _ hna (apart hna))), fun q3 nq3 => ?_⟩
    have s19 := same_new (o := .lst (ns.map V.str)) (Same.refl _) nq3
    have f5 := f4.new s19
    have c5 := f4.lst (ns.map V.str) nq3
    have k5 := k4.mono s19
    have b5 := b4.mono s19
    refine ⟨_, rfl, p, CP, dx, _, rfl, f5.at_, U.cl, U.n3, by omega, ?_⟩
    have f6 := f5.set (putF "_variables" (.ref q3) (putF "_body" (.ref q2) (putF "_classes" (.ref q1) [])))
    have k6 := k5.other (u := .ins CP dx (putF "_variables" (.ref q3) (putF "_body" (.ref q2) (putF "_classes" (.ref q1) [])))) hp
    have b6 := b5.other (u := .ins CP dx (putF "_variables" (.ref q3) (putF "_body" (.ref q2) (putF "_classes" (.ref q1) [])))) hp
    have c6 := c5.other (u := .ins CP dx (putF "_variables" (.ref q3) (putF "_body" (.ref q2) (putF "_classes" (.ref q1) [])))) hp
    have g3 := few 2 _ "_variables" (.ref q3) g2
    -- self._weak
    refine ⟨_, rfl, la, _, rfl, .inl (SqL.of (f6.keep _ _ hla (apart hla))), fun q4 nq4 => ?_⟩
    have s20 := same_new (o := .lst (ls.map V.str)) (Same.refl _) nq4
    have f7 := f6.new s20
    have d7 := f6.lst (ls.map V.str) nq4
    have k7 := k6.mono s20
    have b7 := b6.mono s20
    have c7 := c6.mono s20
    refine ⟨_, rfl, p, CP, dx, _, rfl, f7.at_, U.cl, U.n4, by omega, ?_⟩
    have f8 := f7.set (putF "_weak" (.ref q4) (putF "_variables" (.ref q3) (putF "_body" (.ref q2) (putF "_classes" (.ref q1) []))))
    have k8 := k7.other (u := .ins CP dx (putF "_weak" (.ref q4) (putF "_variables" (.ref q3) (putF "_body" (.ref q2) (putF "_classes" (.ref q1) []))))) hp
    have b8 := b7.other (u := .ins CP dx (putF "_weak" (.ref q4) (putF "_variables" (.ref q3) (putF "_body" (.ref q2) (putF "_classes" (.ref q1) []))))) hp
    have c8 := c7.other (u := .ins CP dx (putF "_weak" (.ref q4) (putF "_variables" (.ref q3) (putF "_body" (.ref q2) (putF "_classes" (.ref q1) []))))) hp
    have d8 := d7.other (u := .ins CP dx (putF "_weak" (.ref q4) (putF "_variables" (.ref q3) (putF "_body" (.ref q2) (putF "_classes" (.ref q1) []))))) hp
    have g4 := few 3 _ "_weak" (.ref q4) g3
    -- self._threshold
    refine ⟨_, rfl, _, rfl, p, CP, dx, _, rfl, f8.at_, U.cl, U.n5, by omega, ?_⟩
    have f9 := f8.set (putF "_threshold" (.int th) (putF "_weak" (.ref q4) (putF "_variables" (.ref q3) (putF "_body" (.ref q2) (putF "_classes" (.ref q1) [])))))
    have k9 := k8.other (u := .ins CP dx (putF "_threshold" (.int th) (putF "_weak" (.ref q4) (putF "_variables" (.ref q3) (putF "_body" (.ref q2) (putF "_classes" (.ref q1) [])))))) hp
    have b9 := b8.other (u := .ins CP dx (putF "_threshold" (.int th) (putF "_weak" (.ref q4) (putF "_variables" (.ref q3) (putF "_body" (.ref q2) (putF "_classes" (.ref q1) [])))))) hp
    have c9 := c8.other (u := .ins CP dx (putF "_threshold" (.int th) (putF "_weak" (.ref q4) (putF "_variables" (.ref q3) (putF "_body" (.ref q2) (putF "_classes" (.ref q1) [])))))) hp
    have d9 := d8.other (u := .ins CP dx (putF "_threshold" (.int th) (putF "_weak" (.ref q4) (putF "_variables" (.ref q3) (putF "_body" (.ref q2) (putF "_classes" (.ref q1) [])))))) hp
    have g5 := few 4 _ "_threshold" (.int th) g4
    -- self._radices
    refine ⟨_, rfl, ra, _, rfl, .inl (SqL.of (f9.keep _ _ hra (apart hra))), fun q6 nq6 => ?_⟩
    have s21 := same_new (o := .lst (ks.map V.int)) (Same.refl _) nq6
    have f10 := f9.new s21
    have e10 := f9.lst (ks.map V.int) nq6
    have k10 := k9.mono s21
    have b10 := b9.mono s21
    have c10 := c9.mono s21
    have d10 := d9.mono s21
    refine ⟨_, rfl, p, CP, dx, _, rfl, f10.at_, U.cl, U.n6, by omega, ?_⟩
    generalize hfs6 : putF "_radices" (.ref q6) (putF "_threshold" (.int th) (putF "_weak" (.ref q4) (putF "_variables" (.ref q3) (putF "_body" (.ref q2) (putF "_classes" (.ref q1) []))))) = fs6
    have g6 : fs6.length ≤ 6 := by rw [← hfs6]; exact few 5 _ "_radices" (.ref q6) g5
    have f11 := f10.set fs6
    have k11 := k10.other (u := .ins CP dx fs6) hp
    have b11 := b10.other (u := .ins CP dx fs6) hp
    have c11 := c10.other (u := .ins CP dx fs6) hp
    have d11 := d10.other (u := .ins CP dx fs6) hp
    have e11 := e10.other (u := .ins CP dx fs6) hp
    -- self._functions
    refine ⟨_, rfl, fna, ds, rfl, hf.keepP hp f11.keep, by omega, hcf, fun q7 H22 s22 hq7 => ?_⟩
    have f12 := f11.new s22
    have h12 : AtNew H H22 (.ref q7) (.list ds) := At.mono (off_dom fun _ n => f11.free n) hq7
    refine ⟨_, rfl, p, CP, dx, _, rfl, f12.at_, U.cl, U.n7, by omega, ?_⟩
    have f13 := f12.set (putF "_functions" (.ref q7) fs6)
    refine k _ ⟨dx, q1, q2, q3, q4, q6, q7, ?_, (k11.mono s22).other hp, (b11.mono s22).other hp, (c11.mono s22).other hp, (d11.mono s22).other hp, (e11.mono s22).other hp, h12.other hp⟩ f13.keep
    rw [f13.at_, ← hfs6]
    rfl
end
end K1

set_option Elab.async false
set_option linter.all false
set_option maxRecDepth 100000
set_option maxHeartbeats 8000000
namespace PySem.SeqAt
open Sem (wp)
theorem dct_eq_str (l : Addr) (dd : Option Addr) (es : Array DictEntry) (n : Nat) (sl : Array (Option Value)) (b : Str) (u : Tok) :
    Meets (Builtin.«dict.__eq__» ⟨[.ref l, .str b u], []⟩) (fun _ R s => s.heap.get? l = some { cls := .type "dict", dict := dd, data := .dict es n, slots := sl } ∧ R (.ok (.ret .notImplemented)) s) :=
  .of_wp fun prog w A R s h => by
    obtain ⟨hp, g, d, tk, os⟩ := s
    obtain ⟨hl, h⟩ := h
    have f1 := F.sub_str_dict
    wp_walk using wpAny_loadPart' hl
    exact ⟨_, rfl, h⟩
theorem str_eq_dct (l : Addr) (dd : Option Addr) (es : Array DictEntry) (n : Nat) (sl : Array (Option Value)) (b : Str) (u : Tok) :
    Meets (Builtin.«str.__eq__» ⟨[.str b u, .ref l], []⟩) (fun _ R s => s.heap.get? l = some { cls := .type "dict", dict := dd, data := .dict es n, slots := sl } ∧ R (.ok (.ret .notImplemented)) s) :=
  .of_wp fun prog w A R s h => by
    obtain ⟨hp, g, d, tk, os⟩ := s
    obtain ⟨hl, h⟩ := h
    wp_walk using wpAny_loadPart' hl, wpAny_load hl
    exact ⟨_, rfl, h⟩
theorem dct_eq_lst (l : Addr) (dd : Option Addr) (es : Array DictEntry) (n : Nat) (sl : Array (Option Value)) (k : Addr) (items : Array Value) (m : Nat) (dk : Option Addr) (sk : Array (Option Value)) :
    Meets (Builtin.«dict.__eq__» ⟨[.ref l, .ref k], []⟩) (fun _ R s => (s.heap.get? l = some { cls := .type "dict", dict := dd, data := .dict es n, slots := sl } ∧ s.heap.get? k = some { cls := .type "list", dict := dk, data := .seq items m, slots := sk }) ∧ R (.ok (.ret .notImplemented)) s) :=
  .of_wp fun prog w A R s h => by
    obtain ⟨hp, g, d, tk, os⟩ := s
    obtain ⟨⟨hl, hk⟩, h⟩ := h
    have f1 := F.sub_list_dict
    wp_walk using wpAny_loadPart' hl, wpAny_loadPart' hk, wpAny_load hl, wpAny_load hk
    exact ⟨_, rfl, h⟩
theorem lst_eq_dct (l : Addr) (dd : Option Addr) (es : Array DictEntry) (n : Nat) (sl : Array (Option Value)) (k : Addr) (items : Array Value) (m : Nat) (dk : Option Addr) (sk : Array (Option Value)) :
    Meets (Builtin.«list.__eq__» ⟨[.ref k, .ref l], []⟩) (fun _ R s => (s.heap.get? l = some { cls := .type "dict", dict := dd, data := .dict es n, slots := sl } ∧ s.heap.get? k = some { cls := .type "list", dict := dk, data := .seq items m, slots := sk }) ∧ R (.ok (.ret .notImplemented)) s) :=
  .of_wp fun prog w A R s h => by
    obtain ⟨hp, g, d, tk, os⟩ := s
    obtain ⟨⟨hl, hk⟩, h⟩ := h
    have f1 := F.sub_dict_list
    wp_walk using wpAny_loadPart' hl, wpAny_loadPart' hk, wpAny_load hl, wpAny_load hk
    exact ⟨_, rfl, h⟩
end PySem.SeqAt

set_option Elab.async false
set_option linter.all false
set_option maxRecDepth 100000
set_option maxHeartbeats 8000000
namespace PySem.SeqAt
open AutoSeq1 (wpAny_loadPart')
open MeetsSeq
section
variable {A : Around} {s : Shared}
theorem RcAt.dct_str {l : Addr} {dd : Option Addr} {es : Array DictEntry} {n : Nat} {sl : Array (Option Value)} (b : Str) (u : Tok) (ho : s.heap.get? l = some { cls := .type "dict", dict := dd, data := .dict es n, slots := sl }) (hu : A.units < cLine) : RcAt A s (.ref l) (.str b u) false := fun prog w E Q h =>
  rc_eq_decline_or (k := false) ⟨_, ho, rfl⟩ (typeIs_str s b u) (by decide) F.sub_str_dict F.slot_dict_eq F.slot_str_eq_refl
    (fun _ hq => call_meets F.slot_dict_eq ⟨_, ho, rfl⟩ F.entry_dict_eq (F.args_dict_eq_2 _ _) (dct_eq_str l dd es n sl b u) ⟨ho, hq⟩)
    (fun _ hq => call_meets F.slot_str_eq_refl (typeIs_str s b u) F.entry_str_eq (F.args_str_eq_2 _ _) (str_eq_dct l dd es n sl b u) ⟨ho, hq⟩)
    (fun _ hq => wpAny_of_eq (rfl : isSame (.ref l) (.str b u) = pure false) hq) (.inr hu) h
theorem RcAt.dct_lst {l : Addr} {dd : Option Addr} {es : Array DictEntry} {n : Nat} {sl : Array (Option Value)} {k : Addr} {items : Array Value} (ho : s.heap.get? l = some { cls := .type "dict", dict := dd, data := .dict es n, slots := sl }) (hk : s.heap.IsList k items) (hu : A.units < cLine) : RcAt A s (.ref l) (.ref k) false := fun prog w E Q h => by
  obtain ⟨⟨cls, dk, data, sk⟩, hk, hc, m, hd⟩ := id hk
  simp only at hc hd
  subst hc hd
  have ne : l ≠ k := fun z => by
    rw [z, hk] at ho
    exact absurd (Value.type.inj (congrArg Obj.cls (Option.some.inj ho))) (by decide)
  exact rc_eq_decline_or (k := false) ⟨_, ho, rfl⟩ ⟨_, hk, rfl⟩ (by decide) F.sub_list_dict F.slot_dict_eq F.slot_list_eq_refl
    (fun _ hq => call_meets F.slot_dict_eq ⟨_, ho, rfl⟩ F.entry_dict_eq (F.args_dict_eq_2 _ _) (dct_eq_lst l dd es n sl k items m dk sk) ⟨⟨ho, hk⟩, hq⟩)
    (fun _ hq => call_meets F.slot_list_eq_refl ⟨_, hk, rfl⟩ F.entry_list_eq (F.args_list_eq_2 _ _) (lst_eq_dct l dd es n sl k items m dk sk) ⟨⟨ho, hk⟩, hq⟩)
    (fun _ hq => wpAny_isSame_ref_other' ne ho hk (fun z => absurd (Value.type.inj z) (by decide)) hq) (.inr hu) h
end
end PySem.SeqAt
namespace L2
open PySem PySem.Spec PyProof.Rows
section
variable {X : Cx}
def rEqM (K : PySem.W.Frag) : V → V → Hp → VK → Prop := fun x y H Q => rEqD K x y H Q ∨ ∃ (d : Addr) (kvs : List (Key × V)), x = .ref d ∧ H d = some (.dK kvs) ∧ ((∃ z, y = .str z) ∨ ∃ l ys, y = .ref l ∧ H l = some (.lst ys)) ∧ Q (.bl false) H
theorem op_eqM (hu : X.A.units + 64 < cLine) : OpR X (compareOp .Eq) (rEqM X.K) := by
  intro pins s σ H x y v u Q I rx ry h
  rcases h with h | ⟨d, kvs, rfl, hd, hy, q⟩
  · exact op_eqD hu pins s σ H x y v u Q I rx ry h
  obtain rfl : v = Value.ref d := rx
  obtain ⟨_, _, va, _, od, es, ep, ho, ⟨e1, e2, e3⟩, e4, _⟩ := (show ObjOk X.prog X.w H s.heap d (.dK kvs) from I.hok d _ hd)
  have hd' : s.heap.get? d = some { cls := .type "dict", dict := none, data := .dict es ep, slots := #[] } := by
    rw [ho]
    obtain ⟨c1, c2, c3, c4⟩ := od
    simp only at e1 e2 e3 e4
    subst e1 e2 e3 e4
    rfl
  have hu' : X.A.units < cLine := by omega
  rcases hy with ⟨z, rfl⟩ | ⟨l, ys, rfl, hl⟩
  · obtain ⟨t, rfl⟩ := ry
    exact SeqAt.RcAt.dct_str z t hd' hu' _ _ _ _ ⟨.bl _, H, I, rfl, q⟩
  · obtain rfl : u = Value.ref l := ry
    obtain ⟨_, its, n, _, hl'⟩ := (show ObjOk X.prog X.w H s.heap l (.lst ys) from I.hok l _ hl)
    exact SeqAt.RcAt.dct_lst hd' ⟨_, hl', rfl, n, rfl⟩ hu' _ _ _ _ ⟨.bl _, H, I, rfl, q⟩
end
end L2

set_option Elab.async false
set_option linter.all false
set_option maxRecDepth 100000
set_option maxHeartbeats 8000000
namespace K1
open PySem L2
/-! ### a text so many times -/
def repS (x : Str) (k : Int) : Str := ⟨(List.replicate k.toNat x.cps).foldl (· ++ ·) #[]⟩
def rRepS : V → V → Hp → VK → Prop := fun x y H Q => ∃ (z : Str) (k : Int), x = .str z ∧ y = .int k ∧ 2 ≤ k ∧ k ≤ 1000 ∧ z.length ≠ 0 ∧ z.length ≤ 1000 ∧ (repS z k).length ≤ sizeLine ∧ Q (.str (repS z k)) H
theorem op_repS {X : Cx} : OpR X (binaryOp .Mult) rRepS := by
  intro pins s σ H x y v u Q I rx ry h
  obtain ⟨z, k, rfl, rfl, k2, k3, z0, z1, few, q⟩ := h
  obtain ⟨t, rfl⟩ := rx
  obtain ⟨t', rfl⟩ := ry
  have c1 : ¬ k < 1 := by omega
  have c2 : (k == 1 || z.length == 0) = false := by
    rw [Bool.or_eq_false_iff]
    exact ⟨by rw [beq_eq_false_iff_ne]; omega, by rw [beq_eq_false_iff_ne]; exact z0⟩
  refine P.mul_str ?_ (fun _ _ => ?_) (fun _ _ => ?_) ?_
  · rw [decide_eq_false (show ¬ k < -(2 ^ 63 : Int) by omega), decide_eq_false (show ¬ k ≥ 2 ^ 63 by omega)]
    rfl
  · have h1 : (1000 : Int) ≤ (2 ^ 63 - 1) / k := by
      rw [Int.le_ediv_iff_mul_le (by omega)]
      omega
    omega
  · unfold Builtin.Str.tooLong
    rw [decide_eq_false]
    have e1 : z.length * k.toNat ≤ 1000 * 1000 := Nat.mul_le_mul z1 (by omega)
    have e2 : 1000 * 1000 ≤ sizeLine := by decide
    omega
  · rw [if_neg c1, if_neg (by rw [c2]; exact Bool.false_ne_true)]
    exact ⟨few, .str (repS z k), H, I.tok _, ⟨_, rfl⟩, q⟩
/-! ### written data -/
def DL (t : TE) (d : PyData) (σ : St) (H1 : Hp) : Prop := ∀ H2, Same H1 H2 → ∀ Q : VK, (∀ v H3, Same H2 H3 → At (off H2 H3) v d → Q v H3) → t σ H2 Q
def DLs (ts : TA) (ds : List PyData) (σ : St) (H1 : Hp) : Prop := ∀ H2, Same H1 H2 → ∀ Q : List V → Hp → Prop, (∀ vs H3, Same H2 H3 → AtAll (off H2 H3) vs ds → Q vs H3) → ts σ H2 Q
section
variable {σ : St} {H1 : Hp} {t : TE} {ts : TA} {d : PyData} {ds : List PyData}
theorem dl_non : DL (tC .non) .none σ H1 := fun H2 _ Q k => k _ H2 (Same.refl _) .non
theorem dl_int {i : Int} : DL (tC (.int i)) (.int i) σ H1 := fun H2 _ Q k => k _ H2 (Same.refl _) (.int i)
theorem dl_bl {b : Bool} : DL (tC (.bl b)) (.bool b) σ H1 := fun H2 _ Q k => k _ H2 (Same.refl _) (.bl b)
theorem dl_str {s : Str} (h : (decide (s.length ≤ 1000) && PyData.strOk s) = true := by decide +kernel) : DL (tC (.str s)) (.str s) σ H1 := fun H2 _ Q k => by
  rw [Bool.and_eq_true] at h
  exact k _ H2 (Same.refl _) (.str s ⟨of_decide_eq_true h.1, h.2⟩)
theorem dl_nil : DLs tNil [] σ H1 := fun H2 _ Q k => k [] H2 (Same.refl _) .nil
theorem dl_cons (h : DL t d σ H1) (r : DLs ts ds σ H1) : DLs (tCons t ts) (d :: ds) σ H1 := fun H2 s Q k =>
  h H2 s _ fun v H3 s3 a => r H3 (s.trans s3) _ fun vs H4 s4 as => k (v :: vs) H4 (s3.trans s4) (.cons (a.mono (off_mono s4)) (as.mono (off_base s3)))
theorem off_new {H H3 : Hp} {p : Addr} {o : HO} (s : Same H H3) (n : H3 p = none) : off H (upd H3 p o) p = some o := off_of (none_of' s n) upd_same
theorem dl_lst (h : DLs ts ds σ H1) (few : ds.length ≤ sizeLine) : DL (tLst ts) (.list ds) σ H1 := fun H2 s Q k => h H2 s _ fun vs H3 s3 a => ⟨by rw [a.len]; exact few, fun p np => k _ _ (same_new s3 np) (.lst (off_new s3 np) (a.mono (off_mono (same_new (Same.refl _) np))))⟩
theorem dl_tup (h : DLs ts ds σ H1) (few : ds.length ≤ sizeLine) : DL (tTup ts) (.tuple ds) σ H1 := fun H2 s Q k => h H2 s _ fun vs H3 s3 a => ⟨by rw [a.len]; exact few, fun p np => k _ _ (same_new s3 np) (.tup (off_new s3 np) (a.mono (off_mono (same_new (Same.refl _) np))))⟩
theorem lst_new (h : DLs ts ds σ H1) (few : ds.length ≤ sizeLine) {Q : VK} (k : ∀ l vs H3, Same H1 H3 → AtAll (off H1 H3) vs ds → H3 l = none → Q (.ref l) (upd H3 l (.lst vs))) : tLst ts σ H1 Q := h H1 (Same.refl _) _ fun vs H3 s3 a => ⟨by rw [a.len]; exact few, fun l nl => k l vs H3 s3 a nl⟩
theorem one_arg (h : DL t d σ H1) {Q : List V → Hp → Prop} (k : ∀ v H3, Same H1 H3 → At (off H1 H3) v d → Q [v] H3) : tCons t tNil σ H1 Q := h H1 (Same.refl _) _ fun v H3 s3 a => k v H3 s3 a
theorem dl_dic : DL tDNewK (.dict []) σ H1 := fun H2 s Q k p np => k _ _ (same_new (Same.refl _) np) (.dic (off_new (Same.refl _) np))
end
/-! ### trees beside a list that is changed -/
def hide (l : Addr) (H : Hp) : Hp := fun a => if a = l then none else H a
theorem hide_ne {l a : Addr} {H : Hp} (h : a ≠ l) : hide l H a = H a := if_neg h
theorem hide_upd {l : Addr} {H : Hp} {o : HO} : hide l (upd H l o) = hide l H := by
  funext a
  unfold hide
  by_cases e : a = l
  · rw [if_pos e, if_pos e]
  · rw [if_neg e, if_neg e, upd_ne e]
theorem hide_sub {l : Addr} {H : Hp} : Same (hide l H) H := fun a o e => by
  unfold hide at e
  split at e
  · cases e
  · exact e
theorem hide_mono {l : Addr} {H H' : Hp} (s : Same H H') : Same (hide l H) (hide l H') := fun a o e => by
  unfold hide at e ⊢
  split at e
  · cases e
  · rename_i n
    rw [if_neg n]
    exact s _ _ e
theorem hide_off {l : Addr} {H H' : Hp} {o : HO} (h : H l = some o) : Same (off H H') (hide l H') := fun a u e => by
  obtain ⟨e1, e2⟩ := off_at e
  rw [hide_ne (fun z => by rw [z, h] at e1; cases e1)]
  exact e2
theorem hide_of {l : Addr} {H H' : Hp} (h : H l = none) (s : Same H H') : Same H (hide l H') := fun a u e => by
  rw [hide_ne (fun z => by rw [z, h] at e; cases e)]
  exact s _ _ e
theorem AtAll.append {H : Hp} {vs ws : List V} {ds es : List PyData} (h : AtAll H vs ds) (r : AtAll H ws es) : AtAll H (vs ++ ws) (ds ++ es) := at_app h r
theorem AtAll.take {H : Hp} : ∀ {vs : List V} {ds : List PyData} (n : Nat), AtAll H vs ds → AtAll H (vs.take n) (ds.take n)
  | _, _, 0, _ => .nil
  | _, _, n + 1, .nil => .nil
  | _, _, n + 1, .cons h t => .cons h (AtAll.take n t)
theorem AtAll.drop {H : Hp} : ∀ {vs : List V} {ds : List PyData} (n : Nat), AtAll H vs ds → AtAll H (vs.drop n) (ds.drop n)
  | _, _, 0, h => h
  | _, _, n + 1, .nil => .nil
  | _, _, n + 1, .cons h t => AtAll.drop n t
theorem AtAll.set {H : Hp} : ∀ {vs : List V} {ds : List PyData} {v : V} {d : PyData} (n : Nat), AtAll H vs ds → At H v d → AtAll H (vs.set n v) (ds.set n d)
  | _, _, _, _, _, .nil, _ => .nil
  | _, _, _, _, 0, .cons h t, a => .cons a t
  | _, _, _, _, n + 1, .cons h t, a => .cons h (AtAll.set n t a)
theorem AtAll.at {H : Hp} : ∀ {vs : List V} {ds : List PyData} {n : Nat} {d : PyData}, AtAll H vs ds → ds[n]? = some d → ∃ v, vs[n]? = some v ∧ At H v d
  | _, _, _, _, .nil, h => by simp at h
  | _, _, 0, _, .cons h t, e => by
    simp only [List.getElem?_cons_zero, Option.some.injEq] at e
    exact ⟨_, rfl, e ▸ h⟩
  | _, _, n + 1, _, .cons h t, e => by
    simp only [List.getElem?_cons_succ] at e ⊢
    exact AtAll.at t e
/-! ### slices -/
theorem sIx_pos {n d : Nat} {k : Int} (h0 : 0 ≤ k) (h : k ≤ n) : HT.sIx n d (some k) = k.toNat := by
  show (if k < 0 then (k + (n : Int)).toNat else min k.toNat n) = k.toNat
  rw [if_neg (by omega)]
  omega
theorem sIx_min {n d : Nat} {k : Int} (h0 : 0 ≤ k) : HT.sIx n d (some k) = min k.toNat n := by
  show (if k < 0 then (k + (n : Int)).toNat else min k.toNat n) = min k.toNat n
  rw [if_neg (by omega)]
theorem cut_to {xs : List V} {k : Int} (h0 : 0 ≤ k) : cutV xs none (some k) = xs.take k.toNat := by
  unfold cutV
  rw [sIx_min h0, show HT.sIx xs.length 0 none = 0 from rfl, List.drop_zero, Nat.sub_zero]
  by_cases c : k.toNat ≤ xs.length
  · rw [Nat.min_eq_left c]
  · rw [Nat.min_eq_right (by omega), List.take_of_length_le (Nat.le_refl _), List.take_of_length_le (by omega)]
theorem cut_from {xs : List V} {k : Int} (h0 : 0 ≤ k) : cutV xs (some k) none = xs.drop k.toNat := by
  unfold cutV
  rw [sIx_min h0, show HT.sIx xs.length xs.length none = xs.length from rfl]
  by_cases c : k.toNat ≤ xs.length
  · rw [Nat.min_eq_left c, List.take_of_length_le (by rw [List.length_drop]; exact Nat.le_refl _)]
  · rw [Nat.min_eq_right (by omega), Nat.sub_self, List.take_zero, List.drop_eq_nil_of_le (by omega)]
/-! ### trees without dicts are what == looks at -/
mutual
def noDic : PyData → Bool
  | .dict _ => false
  | .list ds => noDics ds
  | .tuple ds => noDics ds
  | _ => true
def noDics : List PyData → Bool
  | [] => true
  | d :: ds => noDic d && noDics ds
end
mutual
theorem At.dp {K : PySem.W.Frag} {H : Hp} : ∀ {v : V} {d : PyData}, At H v d → noDic d = true → Dp K H v d
  | _, _, .non, _ => .non
  | _, _, .bl b, _ => .bl b
  | _, _, .int i, _ => .int i
  | _, _, .str z _, _ => .str z
  | _, _, .lst e h, n => .lst (SqL.of e) (AtAll.dps h (by rw [noDic] at n; exact n))
  | _, _, .tup e h, n => .tup (SqT.of e) (AtAll.dps h (by rw [noDic] at n; exact n))
  | _, _, .dic e, n => by rw [noDic] at n; cases n
theorem AtAll.dps {K : PySem.W.Frag} {H : Hp} : ∀ {vs : List V} {ds : List PyData}, AtAll H vs ds → noDics ds = true → DpAll K H vs ds
  | _, _, .nil, _ => .nil
  | _, _, .cons h t, n => by
    rw [noDics, Bool.and_eq_true] at n
    exact .cons (At.dp h n.1) (AtAll.dps t n.2)
end
end K1

set_option Elab.async false
set_option linter.all false
set_option maxRecDepth 100000
set_option maxHeartbeats 8000000
namespace K1
open PySem L2
/-! ### expressions that give trees, on whatever heap behind the one given; some objects are hidden: no tree has them -/
def hid (L : List Addr) (H : Hp) : Hp := fun a => if a ∈ L then none else H a
def Live (L : List Addr) (H : Hp) : Prop := ∀ l ∈ L, H l ≠ none
theorem live_nil {H : Hp} : Live [] H := fun l h => by cases h
theorem Live.mono {L : List Addr} {H H' : Hp} (h : Live L H) (s : Same H H') : Live L H' := fun l m e => by
  have := h l m
  cases q : H l with
  | none => exact this q
  | some o => rw [s _ _ q] at e; cases e
theorem hid_ne {L : List Addr} {H : Hp} {a : Addr} (h : a ∉ L) : hid L H a = H a := if_neg h
theorem hid_nil {H : Hp} : hid [] H = H := by
  funext a
  exact hid_ne (by simp)
theorem hid_sub {L : List Addr} {H : Hp} : Same (hid L H) H := fun a o e => by
  unfold hid at e
  split at e
  · cases e
  · exact e
theorem hid_mono {L : List Addr} {H H' : Hp} (s : Same H H') : Same (hid L H) (hid L H') := fun a o e => by
  unfold hid at e ⊢
  split at e
  · cases e
  · rename_i n
    rw [if_neg n]
    exact s _ _ e
theorem hid_new {L : List Addr} {H : Hp} {p : Addr} {o : HO} (lv : Live L H) (n : H p = none) : hid L (upd H p o) p = some o := by
  rw [hid_ne (fun m => lv p m n), upd_same]
theorem hid_upd {l : Addr} {L : List Addr} {H : Hp} {o : HO} (m : l ∈ L) : hid L (upd H l o) = hid L H := by
  funext a
  unfold hid
  by_cases e : a ∈ L
  · rw [if_pos e, if_pos e]
  · rw [if_neg e, if_neg e, upd_ne (fun z => e (by rw [z]; exact m))]
theorem hid_off {L : List Addr} {H H' : Hp} (lv : Live L H) : Same (off H H') (hid L H') := fun a u e => by
  obtain ⟨e1, e2⟩ := off_at e
  rw [hid_ne (fun m => lv a m e1)]
  exact e2
/-- what stood when the hidden ones were not there yet -/
theorem hid_of {L : List Addr} {H H' : Hp} (h : ∀ l ∈ L, H l = none) (s : Same H H') : Same H (hid L H') := fun a u e => by
  rw [hid_ne (fun m => by rw [h a m] at e; cases e)]
  exact s _ _ e
def DT (L : List Addr) (t : TE) (d : PyData) (σ : St) (H1 : Hp) : Prop := ∀ H2, Same H1 H2 → ∀ Q : VK, (∀ v H3, Same H2 H3 → At (hid L H3) v d → Q v H3) → t σ H2 Q
def DTs (L : List Addr) (ts : TA) (ds : List PyData) (σ : St) (H1 : Hp) : Prop := ∀ H2, Same H1 H2 → ∀ Q : List V → Hp → Prop, (∀ vs H3, Same H2 H3 → AtAll (hid L H3) vs ds → Q vs H3) → ts σ H2 Q
def VE (t : TE) (v : V) (σ : St) (H1 : Hp) : Prop := ∀ H2, Same H1 H2 → ∀ Q : VK, Q v H2 → t σ H2 Q
/-- tests -/
def BE (t : TT) (b : Bool) (σ : St) (H1 : Hp) : Prop := ∀ H2, Same H1 H2 → ∀ Q : Bool → Hp → Prop, (∀ H3, Same H2 H3 → Q b H3) → t σ H2 Q
section
variable {L : List Addr} {σ : St} {H1 : Hp} {t u : TE} {ts : TA} {d e : PyData} {ds es : List PyData} {K : PySem.W.Frag} {v : V} {i j : Int}
theorem VE.mono {H2 : Hp} (h : VE t v σ H1) (s : Same H1 H2) : VE t v σ H2 := fun H3 s3 => h H3 (s.trans s3)
theorem DT.mono {H2 : Hp} (h : DT L t d σ H1) (s : Same H1 H2) : DT L t d σ H2 := fun H3 s3 => h H3 (s.trans s3)
theorem ve_int : VE (tC (.int i)) (.int i) σ H1 := fun H2 _ Q q => q
theorem ve_c : VE (tC v) v σ H1 := fun H2 _ Q q => q
theorem ve_var {s : Nat} (e : σ[s]? = some (some v)) : VE (tVar s) v σ H1 := fun H2 _ Q q => ⟨v, e, q⟩
abbrev tDg (K : PySem.W.Frag) (s : Nat) (i : Int) : TE := tCB (fun xs H Q => (∃ i, xs = [V.int i] ∧ Q (V.int i) H) ∨ ∃ k, xs = [V.bl k] ∧ Q (V.int (if k = true then 1 else 0)) H) (tCons (tOp (rIxL K) (tVar s) (tC (.int i))) tNil)
theorem ve_dg {s j : Nat} {z : Int} {dg : Addr} {xs : List Int} (e : σ[s]? = some (some (.ref dg))) (h : H1 dg = some (.lst (xs.map V.int))) (hj : xs[j]? = some z) (ij : i = (j : Int)) : VE (tDg K s i) (.int z) σ H1 := fun H2 s2 Q q => by
  subst ij
  exact ⟨_, e, dg, _, _, _, rfl, rfl, SqL.of (s2 _ _ h), atI_nat (by rw [List.getElem?_map, hj]; rfl), .inl ⟨z, rfl, q⟩⟩
theorem dg_get {xs : List Int} {n : Nat} (h : xs.length = n) (j : Nat) (hj : j < n) : xs[j]? = some (xs.getD j 0) := by
  rw [List.getD_eq_getElem?_getD, List.getElem?_eq_getElem (by omega)]
  rfl
theorem ve_mod (h : VE t (.int i) σ H1) (r : VE u (.int j) σ H1) (p : 0 < j) : VE (tOp (rI (fun _ j => 0 < j) fun i j => V.int (i % j)) t u) (.int (i % j)) σ H1 := fun H2 s Q q => h H2 s _ (r H2 s _ ⟨i, j, rfl, rfl, p, q⟩)
theorem ve_add (h : VE t (.int i) σ H1) (r : VE u (.int j) σ H1) : VE (tOp (rI0 fun i j => V.int (i + j)) t u) (.int (i + j)) σ H1 := fun H2 s Q q => h H2 s _ (r H2 s _ ⟨i, j, rfl, rfl, q⟩)
theorem ve_sub (h : VE t (.int i) σ H1) (r : VE u (.int j) σ H1) : VE (tOp (rI0 fun i j => V.int (i - j)) t u) (.int (i - j)) σ H1 := fun H2 s Q q => h H2 s _ (r H2 s _ ⟨i, j, rfl, rfl, q⟩)
/-- len(x), x in a slot -/
theorem ve_len {s : Nat} {a : Addr} {xs : List V} (e : σ[s]? = some (some (.ref a))) (h : H1 a = some (.lst xs)) : VE (tCB (fun xs H Q => ∃ p ys, xs = [V.ref p] ∧ (SqL K H p ys ∨ SqT K H p ys) ∧ Q (V.int (ys.length : Nat)) H) (tCons (tVar s) tNil)) (.int (xs.length : Nat)) σ H1 := fun H2 s2 Q q => ⟨_, e, a, xs, rfl, .inl (SqL.of (s2 _ _ h)), q⟩
theorem dt_v (h : VE t v σ H1) (a : ∀ H2, Same H1 H2 → At (hid L H2) v d) : DT L t d σ H1 := fun H2 s Q k => h H2 s _ (k v H2 (Same.refl _) (a H2 s))
theorem dt_var {s : Nat} (e : σ[s]? = some (some v)) (a : At (hid L H1) v d) : DT L (tVar s) d σ H1 := dt_v (ve_var e) fun H2 s => a.mono (hid_mono s)
theorem dt_int (h : VE t (.int i) σ H1) : DT L t (.int i) σ H1 := dt_v h fun _ _ => .int i
theorem dt_l (h : DL t d σ H1) (lv : Live L H1) : DT L t d σ H1 := fun H2 s Q k => h H2 s _ fun v H3 s3 a => k v H3 s3 (a.mono (hid_off (lv.mono s)))
theorem dt_nil : DTs L tNil [] σ H1 := fun H2 _ Q k => k [] H2 (Same.refl _) .nil
theorem dt_cons (h : DT L t d σ H1) (r : DTs L ts ds σ H1) : DTs L (tCons t ts) (d :: ds) σ H1 := fun H2 s Q k =>
  h H2 s _ fun v H3 s3 a => r H3 (s.trans s3) _ fun vs H4 s4 as => k (v :: vs) H4 (s3.trans s4) (.cons (a.mono (hid_mono s4)) as)
theorem dt_lst (lv : Live L H1) (h : DTs L ts ds σ H1) (few : ds.length ≤ sizeLine) : DT L (tLst ts) (.list ds) σ H1 := fun H2 s Q k => h H2 s _ fun vs H3 s3 a => ⟨by rw [a.len]; exact few, fun p np => k _ _ (same_new s3 np) (.lst (hid_new (lv.mono (s.trans s3)) np) (a.mono (hid_mono (same_new (Same.refl _) np))))⟩
theorem dt_tup (lv : Live L H1) (h : DTs L ts ds σ H1) (few : ds.length ≤ sizeLine) : DT L (tTup ts) (.tuple ds) σ H1 := fun H2 s Q k => h H2 s _ fun vs H3 s3 a => ⟨by rw [a.len]; exact few, fun p np => k _ _ (same_new s3 np) (.tup (hid_new (lv.mono (s.trans s3)) np) (a.mono (hid_mono (same_new (Same.refl _) np))))⟩
theorem at_l {H : Hp} (h : At H v (.list ds)) : ∃ a xs, v = .ref a ∧ H a = some (.lst xs) ∧ AtAll H xs ds := by
  cases h with
  | lst e t => exact ⟨_, _, rfl, e, t⟩
theorem at_t {H : Hp} (h : At H v (.tuple ds)) : ∃ a xs, v = .ref a ∧ H a = some (.tup xs) ∧ AtAll H xs ds := by
  cases h with
  | tup e t => exact ⟨_, _, rfl, e, t⟩
theorem dt_ixL {n : Nat} (h : DT L t (.list ds) σ H1) (r : VE u (.int i) σ H1) (hn : ds[n]? = some d) (e : i = (n : Int)) : DT L (tOp (rIxL K) t u) d σ H1 := fun H2 s Q k => h H2 s _ fun v H3 s3 a => r H3 (s.trans s3) _ (by
    obtain ⟨p, xs, rfl, hp, as⟩ := at_l a
    obtain ⟨y, hy, ay⟩ := as.at hn
    subst e
    exact ⟨p, xs, _, y, rfl, rfl, SqL.of (hid_sub _ _ hp), atI_nat hy, k y H3 s3 ay⟩)
theorem dt_ixT {n : Nat} (h : DT L t (.tuple ds) σ H1) (r : VE u (.int i) σ H1) (hn : ds[n]? = some d) (e : i = (n : Int)) : DT L (tOp (rIxT K) t u) d σ H1 := fun H2 s Q k => h H2 s _ fun v H3 s3 a => r H3 (s.trans s3) _ (by
    obtain ⟨p, xs, rfl, hp, as⟩ := at_t a
    obtain ⟨y, hy, ay⟩ := as.at hn
    subst e
    exact ⟨p, xs, _, y, rfl, rfl, SqT.of (hid_sub _ _ hp), atI_nat hy, k y H3 s3 ay⟩)
theorem dt_cat (lv : Live L H1) (h : DT L t (.list ds) σ H1) (r : DT L u (.list es) σ H1) (few : ds.length + es.length ≤ sizeLine) : DT L (tOp rCat t u) (.list (ds ++ es)) σ H1 := fun H2 s Q k => h H2 s _ fun v H3 s3 a => r H3 (s.trans s3) _ fun w H4 s4 b => by
  obtain ⟨p, xs, rfl, hp, as⟩ := at_l (a.mono (hid_mono s4))
  obtain ⟨q, ys, rfl, hq, bs⟩ := at_l b
  refine ⟨p, q, xs, ys, rfl, rfl, hid_sub _ _ hp, hid_sub _ _ hq, by rw [as.len, bs.len]; exact few, fun l nl => ?_⟩
  have s5 := same_new (o := .lst (xs ++ ys)) (Same.refl H4) nl
  exact k _ _ ((s3.trans s4).trans s5) (.lst (hid_new (lv.mono ((s.trans s3).trans s4)) nl) ((as.append bs).mono (hid_mono s5)))
theorem dt_listT (lv : Live L H1) (h : DT L t (.tuple ds) σ H1) : DT L (tCB (rLof K) (tCons t tNil)) (.list ds) σ H1 := fun H2 s Q k => h H2 s _ fun v H3 s3 a => by
  obtain ⟨p, xs, rfl, hp, as⟩ := at_t a
  refine ⟨p, xs, rfl, .inr (SqT.of (hid_sub _ _ hp)), fun l nl => ?_⟩
  have s4 := same_new (o := .lst xs) (Same.refl H3) nl
  exact k _ _ (s3.trans s4) (.lst (hid_new (lv.mono (s.trans s3)) nl) (as.mono (hid_mono s4)))
theorem dt_tupL (lv : Live L H1) (h : DT L t (.list ds) σ H1) : DT L (tCB (rTof K) (tCons t tNil)) (.tuple ds) σ H1 := fun H2 s Q k => h H2 s _ fun v H3 s3 a => by
  obtain ⟨p, xs, rfl, hp, as⟩ := at_l a
  refine ⟨p, xs, rfl, .inl ⟨SqL.of (hid_sub _ _ hp), fun l nl => ?_⟩⟩
  have s4 := same_new (o := .tup xs) (Same.refl H3) nl
  exact k _ _ (s3.trans s4) (.tup (hid_new (lv.mono (s.trans s3)) nl) (as.mono (hid_mono s4)))
theorem dt_to (lv : Live L H1) (h : DT L t (.list ds) σ H1) (r : VE u (.int i) σ H1) (p : 0 ≤ i) : DT L (tSl (rSlL K) t tNoPart (tPart u)) (.list (ds.take i.toNat)) σ H1 := fun H2 s Q k => h H2 s _ fun v H3 s3 a => r H3 (s.trans s3) _ (by
    obtain ⟨q, xs, rfl, hq, as⟩ := at_l a
    refine ⟨i, rfl, q, xs, rfl, SqL.of (hid_sub _ _ hq), fun l nl => ?_⟩
    have s4 := same_new (o := .lst (cutV xs none (some i))) (Same.refl H3) nl
    refine k _ _ (s3.trans s4) (.lst (hid_new (lv.mono (s.trans s3)) nl) ?_)
    rw [cut_to p]
    exact (as.mono (hid_mono (same_new (Same.refl _) nl))).take _)
theorem dt_from (lv : Live L H1) (h : DT L t (.list ds) σ H1) (r : VE u (.int i) σ H1) (p : 0 ≤ i) : DT L (tSl (rSlL K) t (tPart u) tNoPart) (.list (ds.drop i.toNat)) σ H1 := fun H2 s Q k => h H2 s _ fun v H3 s3 a => r H3 (s.trans s3) _ (by
    obtain ⟨q, xs, rfl, hq, as⟩ := at_l a
    refine ⟨i, rfl, q, xs, rfl, SqL.of (hid_sub _ _ hq), fun l nl => ?_⟩
    have s4 := same_new (o := .lst (cutV xs (some i) none)) (Same.refl H3) nl
    refine k _ _ (s3.trans s4) (.lst (hid_new (lv.mono (s.trans s3)) nl) ?_)
    rw [cut_from p]
    exact (as.mono (hid_mono (same_new (Same.refl _) nl))).drop _)
theorem dt_rep (lv : Live L H1) (h : DT L t (.list ds) σ H1) (c1 : 0 ≤ i) (c2 : i < 2 ^ 63) (few : ds.length * i.toNat ≤ sizeLine) : DT L (tOp rRep t (tC (.int i))) (.list (List.replicate i.toNat ds).flatten) σ H1 := fun H2 s Q k => h H2 s _ fun v H3 s3 a => by
    obtain ⟨q, xs, rfl, hq, as⟩ := at_l a
    refine ⟨q, i, xs, rfl, rfl, hid_sub _ _ hq, by omega, c2, by rw [as.len]; exact few, fun l nl => ?_⟩
    have s4 := same_new (o := .lst (List.replicate i.toNat xs).flatten) (Same.refl H3) nl
    refine k _ _ (s3.trans s4) (.lst (hid_new (lv.mono (s.trans s3)) nl) ?_)
    have as4 := as.mono (hid_mono (L := L) (same_new (o := .lst (List.replicate i.toNat xs).flatten) (Same.refl _) nl))
    have : ∀ n : Nat, AtAll (hid L (upd H3 l (.lst (List.replicate i.toNat xs).flatten))) (List.replicate n xs).flatten (List.replicate n ds).flatten := fun n => by
      induction n with
      | zero => exact .nil
      | succ n ih =>
        rw [List.replicate_succ, List.replicate_succ, List.flatten_cons, List.flatten_cons]
        exact as4.append ih
    exact this _
/-- x == y, x != y -/
theorem be_eq (h : DT [] t d σ H1) (r : DT [] u e σ H1) (nd : noDic d = true) (ne : noDic e = true) (sd : SeqAt.shaped d = true) (se : SeqAt.shaped e = true) : BE (tTest (tOp (rEqD K) t u)) (PyData.eqv d e) σ H1 := fun H2 s Q k => h H2 s _ fun v H3 s3 a => r H3 (s.trans s3) _ fun w H4 s4 b => by
  rw [hid_nil] at a b
  exact ⟨d, e, (a.mono s4).dp nd, b.dp ne, sd, se, _, rfl, k H4 (s3.trans s4)⟩
theorem be_ne (h : DT [] t d σ H1) (r : DT [] u e σ H1) (nd : noDic d = true) (ne : noDic e = true) (sd : SeqAt.shaped d = true) (se : SeqAt.shaped e = true) : BE (tTest (tOp (rNeD K) t u)) (!PyData.eqv d e) σ H1 := fun H2 s Q k => h H2 s _ fun v H3 s3 a => r H3 (s.trans s3) _ fun w H4 s4 b => by
  rw [hid_nil] at a b
  exact ⟨d, e, (a.mono s4).dp nd, b.dp ne, sd, se, _, rfl, k H4 (s3.trans s4)⟩
/-! ### a list of the def's own that is changed -/
def LA (H : Hp) (l : Addr) (ds : List PyData) (H1 : Hp) : Prop := H l = none ∧ Same H H1 ∧ ∃ vs, H1 l = some (.lst vs) ∧ AtAll (hid [l] H1) vs ds
theorem LA.live {H : Hp} {l : Addr} (h : LA H l ds H1) : Live [l] H1 := fun a m => by
  rw [List.mem_singleton] at m
  obtain ⟨_, _, vs, e, _⟩ := h
  rw [m, e]
  exact fun z => nomatch z
theorem LA.first {H H3 : Hp} {l : Addr} {vs : List V} (s : Same H H3) (a : AtAll H3 vs ds) (n : H3 l = none) : LA H l ds (upd H3 l (.lst vs)) :=
  ⟨none_of' s n, same_new s n, vs, upd_same, by rw [hid_upd (by simp)]; exact a.mono (hid_of (fun b m => by rw [List.mem_singleton.mp m]; exact n) (Same.refl _))⟩
theorem LA.push {H H3 : Hp} {l : Addr} {v : V} {vs : List V} (h : LA H l ds H1) (hl : H1 l = some (.lst vs)) (s : Same H1 H3) (a : At (hid [l] H3) v d) : LA H l (ds ++ [d]) (upd H3 l (.lst (vs ++ [v]))) := by
  obtain ⟨h0, s1, ws, e, as⟩ := h
  rw [hl] at e
  cases e
  refine ⟨h0, same_updL (s1.trans s) h0, vs ++ [v], upd_same, ?_⟩
  rw [hid_upd (by simp)]
  exact (as.mono (hid_mono s)).append (.cons a .nil)
theorem LA.set {H H3 : Hp} {l : Addr} {v : V} {vs : List V} (n : Nat) (h : LA H l ds H1) (hl : H1 l = some (.lst vs)) (s : Same H1 H3) (a : At (hid [l] H3) v d) : LA H l (ds.set n d) (upd H3 l (.lst (vs.set n v))) := by
  obtain ⟨h0, s1, ws, e, as⟩ := h
  rw [hl] at e
  cases e
  refine ⟨h0, same_updL (s1.trans s) h0, vs.set n v, upd_same, ?_⟩
  rw [hid_upd (by simp)]
  exact (as.mono (hid_mono s)).set n a
theorem LA.later {H H3 : Hp} {l : Addr} (h : LA H l ds H1) (s : Same H1 H3) : LA H l ds H3 := by
  obtain ⟨h0, s1, vs, e, as⟩ := h
  exact ⟨h0, s1.trans s, vs, s _ _ e, as.mono (hid_mono s)⟩
theorem LA.tree {H : Hp} {l : Addr} (h : LA H l ds H1) : At H1 (.ref l) (.list ds) := by
  obtain ⟨h0, s1, vs, e, as⟩ := h
  exact .lst e (as.mono hid_sub)
theorem LA.old {H : Hp} {l : Addr} (h : LA H l ds H1) (a : At H v d) : At (hid [l] H1) v d := a.mono (hid_of (fun b m => by rw [List.mem_singleton.mp m]; exact h.1) h.2.1)
/-- an item of it -/
theorem dt_la {H : Hp} {l : Addr} {s n : Nat} (e : σ[s]? = some (some (.ref l))) (h : LA H l ds H1) (hn : ds[n]? = some d) (ij : i = (n : Int)) : DT [l] (tOp (rIxL K) (tVar s) (tC (.int i))) d σ H1 := fun H2 s2 Q k => by
  obtain ⟨h0, s1, vs, e1, as⟩ := h.later s2
  obtain ⟨y, hy, ay⟩ := as.at hn
  subst ij
  exact ⟨_, e, l, vs, _, y, rfl, rfl, SqL.of e1, atI_nat hy, k y H2 (Same.refl _) ay⟩
/-! ### tests -/
theorem be_int (h : VE t (.int i) σ H1) (r : VE u (.int j) σ H1) : BE (tTest (tOp rEq t u)) (decide (i = j)) σ H1 := fun H2 s Q k => h H2 s _ (r H2 s _ ⟨rfl, _, rfl, by
  rw [show decide (V.int i = V.int j) = decide (i = j) from by
    by_cases c : i = j
    · rw [c, decide_eq_true rfl, decide_eq_true rfl]
    · rw [decide_eq_false c, decide_eq_false (fun z => c (V.int.inj z))]]
  exact k H2 (Same.refl _)⟩)
theorem be_lt (h : VE t (.int i) σ H1) (r : VE u (.int j) σ H1) : BE (tTest (tOp (rI0 fun i j => .bl (decide (i < j))) t u)) (decide (i < j)) σ H1 := fun H2 s Q k => h H2 s _ (r H2 s _ ⟨i, j, rfl, rfl, _, rfl, k H2 (Same.refl _)⟩)
theorem be_le (h : VE t (.int i) σ H1) (r : VE u (.int j) σ H1) : BE (tTest (tOp (rI0 fun i j => .bl (decide (i ≤ j))) t u)) (decide (i ≤ j)) σ H1 := fun H2 s Q k => h H2 s _ (r H2 s _ ⟨i, j, rfl, rfl, _, rfl, k H2 (Same.refl _)⟩)
theorem be_gt (h : VE t (.int i) σ H1) (r : VE u (.int j) σ H1) : BE (tTest (tOp (rI0 fun i j => .bl (decide (j < i))) t u)) (decide (j < i)) σ H1 := fun H2 s Q k => h H2 s _ (r H2 s _ ⟨i, j, rfl, rfl, _, rfl, k H2 (Same.refl _)⟩)
theorem be_ge (h : VE t (.int i) σ H1) (r : VE u (.int j) σ H1) : BE (tTest (tOp (rI0 fun i j => .bl (decide (j ≤ i))) t u)) (decide (j ≤ i)) σ H1 := fun H2 s Q k => h H2 s _ (r H2 s _ ⟨i, j, rfl, rfl, _, rfl, k H2 (Same.refl _)⟩)
theorem be_two {p q : Int} (h : VE t (.int i) σ H1) : BE (tTest (tOp (rIn K false) t (tTup (tCons (tC (.int p)) (tCons (tC (.int q)) tNil))))) (decide (i = p) || decide (i = q)) σ H1 := fun H2 s Q k => h H2 s _ ⟨by show 2 ≤ sizeLine; decide, fun l nl => ⟨l, _, rfl, .inr (SqT.of upd_same), rfl, rfl, _, rfl, by
  rw [if_neg (show ¬ (false = true) from Bool.false_ne_true), show inV (.int i) [.int p, .int q] = (decide (i = p) || decide (i = q)) from by
    unfold inV
    simp only [List.any_cons, List.any_nil, Bool.or_false]
    show ((p == i) || (q == i)) = _
    rw [show (p == i) = decide (i = p) from decide_eq_decide.mpr ⟨Eq.symm, Eq.symm⟩, show (q == i) = decide (i = q) from decide_eq_decide.mpr ⟨Eq.symm, Eq.symm⟩]]
  exact k _ (same_new (Same.refl _) nl)⟩⟩
def eqM (d e : PyData) : Bool := match d with
  | .dict _ => false
  | _ => PyData.eqv d e
theorem be_eqM (h : DT [] t d σ H1) (r : DT [] u e σ H1) (nd : (∀ k, d ≠ .dict k) → noDic d = true ∧ SeqAt.shaped d = true) (ne : noDic e = true) (se : SeqAt.shaped e = true) (ek : (∃ z, e = .str z) ∨ ∃ es, e = .list es) : BE (tTest (tOp (rEqM K) t u)) (eqM d e) σ H1 := fun H2 s Q k => h H2 s _ fun v H3 s3 a => r H3 (s.trans s3) _ fun w H4 s4 b => by
  rw [hid_nil] at a b
  have a4 := a.mono s4
  cases d with
  | dict kv =>
    cases a4 with
    | dic e1 =>
      refine .inr ⟨_, _, rfl, e1, ?_, _, rfl, k H4 (s3.trans s4)⟩
      rcases ek with ⟨z, rfl⟩ | ⟨es, rfl⟩
      · cases b with
        | str _ _ => exact .inl ⟨_, rfl⟩
      · obtain ⟨l, ys, rfl, hl, _⟩ := at_l b
        exact .inr ⟨l, ys, rfl, hl⟩
  | _ => exact .inl ⟨_, e, a4.dp (nd fun k z => by cases z).1, b.dp ne, (nd fun k z => by cases z).2, se, _, rfl, k H4 (s3.trans s4)⟩
theorem be_and {ta tb : TT} {b c : Bool} (h : BE ta b σ H1) (r : b = true → BE tb c σ H1) : BE (tAnd ta tb) (b && c) σ H1 := fun H2 s Q k => h H2 s _ fun H3 s3 => by
  cases b with
  | true => exact r rfl H3 (s.trans s3) Q fun H4 s4 => k H4 (s3.trans s4)
  | false => exact k H3 s3
theorem be_or {ta tb : TT} {b c : Bool} (h : BE ta b σ H1) (r : b = false → BE tb c σ H1) : BE (tOr ta tb) (b || c) σ H1 := fun H2 s Q k => h H2 s _ fun H3 s3 => by
  cases b with
  | false => exact r rfl H3 (s.trans s3) Q fun H4 s4 => k H4 (s3.trans s4)
  | true => exact k H3 s3
theorem be_not {ta : TT} {b : Bool} (h : BE ta b σ H1) : BE (tNot ta) (!b) σ H1 := fun H2 s Q k => h H2 s _ fun H3 s3 => k H3 s3
theorem if_be {c : TT} {b : Bool} {x y : TS} {D : Ends} (h : BE c b σ H1) (k : ∀ H3, Same H1 H3 → (b = true → x D σ H3) ∧ (b = false → y D σ H3)) : tIfS c x y D σ H1 := h H1 (Same.refl _) _ fun H3 s3 => by
  cases b with
  | true => exact (k H3 s3).1 rfl
  | false => exact (k H3 s3).2 rfl
theorem set_v {s : Nat} {D : Ends} (h : VE t v σ H1) (k : D.nx (σ.set s (some v)) H1) : tAsg t (gName s) D σ H1 := h H1 (Same.refl _) _ k
theorem set_dt {s : Nat} {D : Ends} (h : DT L t d σ H1) (k : ∀ v H3, Same H1 H3 → At (hid L H3) v d → D.nx (σ.set s (some v)) H3) : tAsg t (gName s) D σ H1 := h H1 (Same.refl _) _ k
/-- l[e] = t, l a list of the def's own -/
theorem set_la {H : Hp} {l : Addr} {s n : Nat} {D : Ends} (la : LA H l ds H1) (e1 : σ[s]? = some (some (.ref l))) (hi : VE u (.int i) σ H1) (ij : i = (n : Int)) (hn : n < ds.length) (h : DT [l] t d σ H1) (k : ∀ H3, LA H l (ds.set n d) H3 → Same (hid [l] H1) (hid [l] H3) → D.nx σ H3) : tAsg t (gSub (tVar s) u rSetL) D σ H1 := h H1 (Same.refl _) _ fun v H3 s3 a => ⟨_, e1, hi H3 s3 _ (by
  obtain ⟨_, _, vs, hl, as⟩ := la.later s3
  subst ij
  refine ⟨l, vs, _, n, rfl, rfl, hl, ?_, k _ ((la.later s3).set n hl (Same.refl _) a) ?_⟩
  · unfold ixN
    rw [if_pos (by omega), if_pos (by rw [as.len]; omega)]
    rfl
  · rw [hid_upd (by simp)]
    exact hid_mono s3)⟩
theorem getD_some {α : Type} {l : List α} {n : Nat} {x : α} (h : n < l.length) : l[n]? = some (l.getD n x) := by
  rw [List.getD_eq_getElem?_getD, List.getElem?_eq_getElem h]
  rfl
/-- l[i], x = e1, e2: l a list of the def's own -/
theorem asg_la2 {H : Hp} {l : Addr} {s n j : Nat} {D : Ends} {ta tb : TE} (la : LA H l ds H1) (e1 : σ[s]? = some (some (.ref l))) (ij : i = (n : Int)) (hn : n < ds.length) (h : DT [l] ta d σ H1) (r : DT [l] tb e σ H1) (k : ∀ v H3, LA H l (ds.set n d) H3 → At (hid [l] H3) v e → Same (hid [l] H1) (hid [l] H3) → D.nx (σ.set j (some v)) H3) :
    tAsg (tTup (tCons ta (tCons tb tNil))) (gTup K 2 (gCons (gSub (tVar s) (tC (.int i)) rSetL) (gCons (gName j) gNil))) D σ H1 := h H1 (Same.refl _) _ fun v H3 s3 a => r H3 s3 _ fun w H4 s4 b => ⟨by show 2 ≤ sizeLine; decide, fun p np => ⟨p, [v, w], rfl, SqT.of upd_same, rfl, v, [w], rfl, _, e1, by
  have s5 := same_new (o := .tup [v, w]) (Same.refl H4) np
  have la5 := la.later ((s3.trans s4).trans s5)
  obtain ⟨_, _, vs, hl, as⟩ := id la5
  subst ij
  refine ⟨l, vs, _, n, rfl, rfl, hl, ?_, w, [], rfl, rfl, k w _ (la5.set n hl (Same.refl _) (a.mono (hid_mono (s4.trans s5)))) ?_ ?_⟩
  · unfold ixN
    rw [if_pos (by omega), if_pos (by rw [as.len]; omega)]
    rfl
  · rw [hid_upd (by simp)]
    exact b.mono (hid_mono s5)
  · rw [hid_upd (by simp)]
    exact hid_mono ((s3.trans s4).trans s5)⟩⟩
/-- len(l[i]) -/
theorem dt_laLen {H : Hp} {l : Addr} {s n : Nat} {xs : List PyData} (e1 : σ[s]? = some (some (.ref l))) (h : LA H l ds H1) (hn : ds[n]? = some (.list xs)) (ij : i = (n : Int)) : DT [l] (tCB (fun xs H Q => ∃ p ys, xs = [V.ref p] ∧ (SqL K H p ys ∨ SqT K H p ys) ∧ Q (V.int (ys.length : Nat)) H) (tCons (tOp (rIxL K) (tVar s) (tC (.int i))) tNil)) (.int (xs.length : Nat)) σ H1 := fun H2 s2 Q k =>
  dt_la e1 h hn ij H2 s2 _ fun v H3 s3 a => by
    obtain ⟨p, ys, rfl, hp, as⟩ := at_l a
    exact ⟨p, ys, rfl, .inl (SqL.of (hid_sub _ _ hp)), k _ H3 s3 (by rw [as.len]; exact .int _)⟩
/-- l[i] * k, a text -/
theorem dt_laS {H : Hp} {l : Addr} {s n : Nat} {z : Str} {c : Int} (e1 : σ[s]? = some (some (.ref l))) (h : LA H l ds H1) (hn : ds[n]? = some (.str z)) (ij : i = (n : Int)) (c2 : 2 ≤ c) (c3 : c ≤ 1000) (z0 : z.length ≠ 0) (z1 : z.length ≤ 1000) (few : (repS z c).length ≤ 1000) (ok : PyData.strOk (repS z c) = true) : DT [l] (tOp rRepS (tOp (rIxL K) (tVar s) (tC (.int i))) (tC (.int c))) (.str (repS z c)) σ H1 := fun H2 s2 Q k =>
  dt_la e1 h hn ij H2 s2 _ fun v H3 s3 a => by
    cases a with
    | str _ _ => exact ⟨z, c, rfl, rfl, c2, c3, z0, z1, Nat.le_trans few (by decide), k _ H3 s3 (.str _ ⟨few, ok⟩)⟩
end
end K1

set_option Elab.async false
set_option linter.all false
set_option maxRecDepth 100000
set_option maxHeartbeats 4000000
namespace K1
open PySem L2
section
variable {P : Program} {w : World} {K : PySem.W.Frag} {mg : Str → Option Value} {base : Heap}
def spDig : Sp := fun vs H Q _ => ∃ (c m : Int), vs = [.int c, .int m] ∧ 0 ≤ m ∧ m ≤ 100 ∧ ∀ (q : Addr) (H' : Hp) (ds : List Int), Same H H' → H q = none → H' q = some (.lst (ds.map V.int)) → ds.length = m.toNat → (∀ x ∈ ds, 0 ≤ x ∧ x < 1009) → Q (.ref q) H'
theorem sc39 : FnScope ["_law_cell", "_law_many", "_law_digits_here", "_law_rest", "_law_number", "_law_k"] ["_law_cell", "_law_many"] (defScope (top 39)) := ⟨rfl, rfl, rfl, by decide +kernel, rfl, by decide +kernel, by decide +kernel⟩
theorem ok39 {f : Addr} {fd : FuncData} (F : Fun K "_law_digits" "_law_digits" (top 39) f fd) (B : Blt mg) : FnOk P w K mg base CX0 1 f fd ["_law_cell", "_law_many"] spDig := by
  refine F.ok sc39 (fun vs H Q E h => ?_) (fun cdv A outer s H vs Q E hr h => ?_)
  · obtain ⟨c, m, rfl, _⟩ := h
    rfl
  · obtain ⟨c, m, rfl, m0, m1, k⟩ := h
    refine ⟨_, pss_cons (ps_set (i := 2) sc39.nd rfl (Or.inl rfl) (pe_lst pa_nil))
      (pss_cons (ps_set (i := 3) sc39.nd rfl (Or.inl rfl) pe_int)
      (pss_cons (ps_if (pt_cmpR op_ge (pv 0) (pe_op op_pow pe_int pe_int) (nomark _)) (pss_one (ps_set (i := 3) sc39.nd rfl (Or.inl rfl) (pv 0))) pss_nil)
      (pss_cons (ps_set (i := 4) sc39.nd rfl (Or.inl rfl) (pe_op op_mod (pe_callTy call_int1 rfl B.int PyProof.Rows.boot_int (pa_cons (pv 0) pa_nil)) pe_int))
      (pss_cons (ps_for PassesOwn.never rfl (pi_range1 rfl B.range (pa_cons (pv 1) pa_nil)) (pg_name (i := 5) sc39.nd rfl (Or.inl rfl))
        (pss_cons (ps_set (i := 4) sc39.nd rfl (Or.inl rfl) (pe_op op_mod (pe_callTy call_int1 rfl B.int PyProof.Rows.boot_int (pa_cons (pe_op op_add (pe_op op_add (pe_op op_mul (pv 4) pe_int) (pe_op op_mul pe_int (pv 5))) pe_int) pa_nil)) pe_int))
        (pss_cons (ps_set (i := 4) sc39.nd rfl (Or.inl rfl) (pe_op op_mod (pe_callTy call_int1 rfl B.int PyProof.Rows.boot_int (pa_cons (pe_op op_mul (pv 4) (pe_op op_add (pe_op op_fdiv (pv 4) pe_int) pe_int)) pa_nil)) pe_int))
        (pss_one (ps_if (pt_cmpR op_gt (pv 3) pe_int (nomark _))
          (pss_cons (ps_expr (pe_bm PySem.F.plainAttrs_list PySem.F.slot_list_append PySem.F.type_list_append mt_append (pv 2) (pa_cons (pe_op op_mod (pe_callTy call_int1 rfl B.int PyProof.Rows.boot_int (pa_cons (pv 3) pa_nil)) pe_int) pa_nil)))
            (pss_one (ps_set (i := 3) sc39.nd rfl (Or.inl rfl) (pe_op op_fdiv (pv 3) pe_int))))
          (pss_one (ps_expr (pe_bm PySem.F.plainAttrs_list PySem.F.slot_list_append PySem.F.type_list_append mt_append (pv 2) (pa_cons (pe_op op_mod (pe_callTy call_int1 rfl B.int PyProof.Rows.boot_int (pa_cons (pe_op op_fdiv (pv 4) pe_int) pa_nil)) pe_int) pa_nil)))))))))
      (pss_one (ps_ret (pv 2))))))), ?_⟩
    refine ⟨by decide, fun L hL => ?_⟩
    have s0 : Same H (upd H L (.lst [])) := same_new (Same.refl _) hL
    have big : ∀ z : Int, 0 ≤ z % 2147483647 ∧ z % 2147483647 < 2147483647 := fun z => ⟨Int.emod_nonneg z (by decide), Int.emod_lt_of_pos z (by decide)⟩
    have big2 : ∀ z : Int, 0 ≤ z % 2147483629 ∧ z % 2147483629 < 2147483629 := fun z => ⟨Int.emod_nonneg z (by decide), Int.emod_lt_of_pos z (by decide)⟩
    have small : ∀ z : Int, 0 ≤ z % 1009 ∧ z % 1009 < 1009 := fun z => ⟨Int.emod_nonneg z (by decide), Int.emod_lt_of_pos z (by decide)⟩
    refine ⟨_, rfl, _, _, rfl, rfl, ⟨by decide, by decide, by decide⟩, _, _, rfl, rfl, _, rfl, ?_⟩
    refine ite2 (fun _ => ?_) (fun _ => ?_)
    case' refine_1 => refine ⟨_, rfl, ?_⟩
    all_goals
      refine ⟨_, rfl, .inl ⟨_, rfl, _, _, rfl, rfl, (by show (0 : Int) < 2147483647; decide), ?_⟩⟩
      refine ⟨_, rfl, m, rfl, by omega, by omega, ?_⟩
      refine for_range (n := m.toNat) (fun i σ H1 => ∃ (r nb : Int) (v5 : Option V) (ds : List Int), σ = [some (.int c), some (.int m), some (.ref L), some (.int r), some (.int nb), v5] ∧ Same H H1 ∧ 0 ≤ nb ∧ nb < 2147483647 ∧ H1 L = some (.lst (ds.map V.int)) ∧ ds.length = i ∧ ∀ x ∈ ds, 0 ≤ x ∧ x < 1009)
        ⟨_, _, none, [], rfl, s0, (big _).1, (big _).2, upd_same, rfl, fun x hx => by cases hx⟩ ?_ ?_
      · rintro i σ H1 hi ⟨r, nb, v5, ds, rfl, s1, n0, n1, hds, hlen, hb⟩
        refine ⟨_, rfl, _, _, rfl, rfl, .inl ⟨by omega, by omega⟩, _, rfl, _, _, rfl, rfl, .inl ⟨by decide, by decide⟩, _, _, rfl, rfl, _, _, rfl, rfl, .inl ⟨_, rfl, _, _, rfl, rfl, (by show (0 : Int) < 2147483647; decide), ?_⟩⟩
        have hna := big (nb * 48271 + 30103 * (0 + (i : Int)) + 11)
        refine ⟨_, rfl, _, rfl, _, _, rfl, rfl, ⟨by decide, by decide⟩, _, _, rfl, rfl, _, _, rfl, rfl, .inl ⟨by omega, by omega⟩, .inl ⟨_, rfl, _, _, rfl, rfl, (by show (0 : Int) < 2147483629; decide), ?_⟩⟩
        have hnc := big2 ((nb * 48271 + 30103 * (0 + (i : Int)) + 11) % 2147483647 * ((nb * 48271 + 30103 * (0 + (i : Int)) + 11) % 2147483647 / 1009 + 69621))
        refine ⟨_, rfl, _, _, rfl, rfl, _, rfl, ?_⟩
        have push : ∀ (r' z nc : Int) (v : Option V), 0 ≤ nc ∧ nc < 2147483629 → 0 ≤ z ∧ z < 1009 → ∃ (r nb : Int) (v5 : Option V) (ds' : List Int), [some (.int c), some (.int m), some (.ref L), some (.int r'), some (.int nc), v] = [some (.int c), some (.int m), some (.ref L), some (.int r), some (.int nb), v5] ∧
            Same H (upd H1 L (.lst (ds.map V.int ++ [V.int z]))) ∧ 0 ≤ nb ∧ nb < 2147483647 ∧ (upd H1 L (.lst (ds.map V.int ++ [V.int z]))) L = some (.lst (ds'.map V.int)) ∧ ds'.length = i + 1 ∧ ∀ x ∈ ds', 0 ≤ x ∧ x < 1009 := fun r' z nc v hnc hz => by
          refine ⟨r', nc, v, ds ++ [z], rfl, fun b o e => ?_, hnc.1, by omega, ?_, ?_, fun x hx => ?_⟩
          · rw [upd_ne (ne_of_none e hL)]
            exact s1 b o e
          · rw [upd_same, List.map_append]
            rfl
          · rw [List.length_append, hlen]
            rfl
          · rcases List.mem_append.mp hx with h | h
            · exact hb x h
            · rw [List.mem_singleton.mp h]
              exact hz
        have room : (ds.map V.int).length < sizeLine := by
          rw [List.length_map, sizeLine_eq]
          omega
        refine ite2 (fun _ => ?_) (fun _ => ?_)
        · refine ⟨_, rfl, .inl ⟨rfl, _, SqL.of hds⟩, _, rfl, .inl ⟨_, rfl, _, _, rfl, rfl, (by show (0 : Int) < 1009; decide), L, _, _, rfl, rfl, hds, room, ?_⟩⟩
          refine ⟨_, rfl, _, _, rfl, rfl, ⟨by decide, by decide⟩, ?_⟩
          exact push _ _ _ _ hnc (small _)
        · refine ⟨_, rfl, .inl ⟨rfl, _, SqL.of hds⟩, _, rfl, _, _, rfl, rfl, ⟨by decide, by decide⟩, .inl ⟨_, rfl, _, _, rfl, rfl, (by show (0 : Int) < 1009; decide), L, _, _, rfl, rfl, hds, room, ?_⟩⟩
          exact push _ _ _ _ hnc (small _)
      · rintro σ H1 ⟨r, nb, v5, ds, rfl, s1, n0, n1, hds, hlen, hb⟩
        exact ⟨_, rfl, k L H1 ds s1 hL hds hlen hb⟩
end
end K1

set_option Elab.async false
set_option linter.all false
set_option maxRecDepth 100000
set_option maxHeartbeats 8000000
namespace K1
open PySem L2
/-! ### a program's parts as trees -/
def rowD (r : Row) : PyData := .tuple [.str r.n, .int r.z, .list (r.fs.map PyData.str), .bool r.b]
def clsD (rows : List Row) : PyData := .list (rows.map rowD)
theorem strs_at {H : Hp} {v : V} {ss : List Str} (h : At H v (.list (ss.map PyData.str))) : ∃ a, v = .ref a ∧ H a = some (.lst (ss.map V.str)) := by
  obtain ⟨a, xs, rfl, ha, as⟩ := at_l h
  exact ⟨a, rfl, by rw [ha, at_strs as]⟩
theorem at_ints {H : Hp} : ∀ {vs : List V} {ks : List Int}, AtAll H vs (ks.map PyData.int) → vs = ks.map V.int
  | _, [], .nil => rfl
  | _, k :: ks, .cons h t => by
    cases h
    rw [at_ints t]
    rfl
theorem ints_atL {H : Hp} {v : V} {ks : List Int} (h : At H v (.list (ks.map PyData.int))) : ∃ a, v = .ref a ∧ H a = some (.lst (ks.map V.int)) := by
  obtain ⟨a, xs, rfl, ha, as⟩ := at_l h
  exact ⟨a, rfl, by rw [ha, at_ints as]⟩
theorem row_at {H : Hp} {v : V} {r : Row} (h : At H v (rowD r)) : ∃ p fl, v = .ref p ∧ H p = some (.tup [.str r.n, .int r.z, .ref fl, .bl r.b]) ∧ H fl = some (.lst (r.fs.map V.str)) := by
  obtain ⟨p, ys, rfl, hp, bs⟩ := at_t h
  cases bs with
  | cons g1 bs =>
  cases bs with
  | cons g2 bs =>
  cases bs with
  | cons g3 bs =>
  cases bs with
  | cons g4 bs =>
  cases bs
  obtain rfl := at_str g1
  cases g2
  obtain ⟨q, rfl, hq⟩ := strs_at g3
  cases g4
  exact ⟨p, q, rfl, hp, hq⟩
def rowsOk : List Row → List Str → Bool
  | [], _ => true
  | q :: r, seen => (((nameS q.n && !seen.contains q.n) && (decide (1 ≤ q.z) && decide (q.z ≤ 8))) && (decide (q.fs.length ≤ 3) && decide (badFrom [] (q.fs.map V.str) [] 0 = none))) && rowsOk r (seen ++ [q.n])
structure Parts (rows : List Row) (ns ls : List Str) (th : Int) (ks : List Int) : Prop where
  c : ((decide (1 ≤ rows.length) && decide (rows.length ≤ 6)) && rowsOk rows []) = true
  n : ((decide (1 ≤ ns.length) && decide (ns.length ≤ 8)) && decide (badFrom [] (ns.map V.str) [] 0 = none)) = true
  l : (decide (ls.length ≤ 4) && decide (badFrom ns (ls.map V.str) [] 0 = none)) = true
  t : (decide (1 ≤ th) && decide (th ≤ 12)) = true
  r : radFrom (ks.map V.int) th 0 = none
theorem bad_none {H : Hp} {a : Addr} {ss bar : List Str} {most : Int} (h : H a = some (.lst (ss.map V.str))) (few : (ss.length : Int) ≤ most) (e : badFrom bar (ss.map V.str) [] 0 = none) : firstBad H (.ref a) most bar = .non := by
  unfold firstBad
  rw [lstOf_of h]
  dsimp only
  rw [if_neg (by rw [List.length_map]; omega), e]
  rfl
theorem clsG {H : Hp} : ∀ {xs : List V} {rows : List Row} {seen : List Str} {i : Nat}, AtAll H xs (rows.map rowD) → rowsOk rows seen = true → clsFrom H xs seen i = none
  | _, [], _, _, .nil, _ => rfl
  | _, q :: r, seen, i, .cons h t, ok => by
    obtain ⟨p, fl, rfl, hp, hf⟩ := row_at h
    have ok : ((((nameS q.n && !seen.contains q.n) && (decide (1 ≤ q.z) && decide (q.z ≤ 8))) && (decide (q.fs.length ≤ 3) && decide (badFrom [] (q.fs.map V.str) [] 0 = none))) && rowsOk r (seen ++ [q.n])) = true := ok
    simp only [Bool.and_eq_true, decide_eq_true_eq] at ok
    obtain ⟨⟨⟨⟨o1, o2⟩, o3, o4⟩, o5, o6⟩, o7⟩ := ok
    have fb := bad_none (most := 3) hf (by omega) o6
    have co : classOk H (.ref p) seen = true := by
      rw [classOk_four (tupOf_of hp), fb]
      show (((nameS q.n && !seen.contains q.n) && (decide (1 ≤ q.z) && decide (q.z ≤ 8))) && (decide (V.non = V.non) && true)) = true
      rw [o1, o2, decide_eq_true o3, decide_eq_true o4]
      rfl
    show (if classOk H (.ref p) seen = true then clsFrom H _ (seen ++ [nameOf H (.ref p)]) (i + 1) else some i) = none
    rw [if_pos co, show nameOf H (.ref p) = q.n from by unfold nameOf; rw [tupOf_of hp]; rfl]
    exact clsG t o7
theorem names_none {H : Hp} {a : Addr} {ss bar : List Str} {least most : Int} (h : H a = some (.lst (ss.map V.str))) (few : (ss.length : Int) ≤ most) (many : least ≤ (ss.length : Int)) (e : badFrom bar (ss.map V.str) [] 0 = none) : namesAt H (.ref a) least most bar = .non := by
  unfold namesAt
  rw [bad_none h few e, lstOf_of h]
  dsimp only
  rw [if_neg (by rw [List.length_map]; omega)]
section
variable {H : Hp} {c n l r : V} {rows rows' : List Row} {ns ls ns' ls' : List Str} {th th' : Int} {ks ks' : List Int}
theorem faultG (hc : At H c (clsD rows)) (hn : At H n (.list (ns.map PyData.str))) (hl : At H l (.list (ls.map PyData.str))) (hr : At H r (.list (ks.map PyData.int))) (ok : Parts rows ns ls th ks) : faultV H c n l (.int th) r = none := by
  obtain ⟨a, xs, rfl, ha, as⟩ := at_l hc
  obtain ⟨b, rfl, hb⟩ := strs_at hn
  obtain ⟨b3, rfl, h3⟩ := strs_at hl
  obtain ⟨b4, rfl, h4⟩ := ints_atL hr
  obtain ⟨k1, k2, k3, k4, k5⟩ := ok
  rw [Bool.and_eq_true] at k1 k2 k3 k4
  obtain ⟨k1, k1'⟩ := k1
  obtain ⟨k2, k2'⟩ := k2
  rw [Bool.and_eq_true] at k1 k2
  have c1 : classesAt H (.ref a) = .non := by
    unfold classesAt
    rw [lstOf_of ha]
    dsimp only
    have e := as.len
    rw [List.length_map] at e
    have u1 := of_decide_eq_true k1.1
    have u2 := of_decide_eq_true k1.2
    rw [if_pos (by rw [e, decide_eq_true (by omega), decide_eq_true (by omega)]; rfl), clsG as k1']
    rfl
  have v1 := of_decide_eq_true k2.1
  have v2 := of_decide_eq_true k2.2
  have v3 := of_decide_eq_true k3.1
  have c2 := names_none (least := 1) (most := 8) hb (by omega) (by omega) (of_decide_eq_true k2')
  have c3 := names_none (least := 0) (most := 4) (bar := ns) h3 (by omega) (by omega) (of_decide_eq_true k3.2)
  have c5 : radicesAt H (.ref b4) th = .non := by
    unfold radicesAt
    rw [lstOf_of h4]
    dsimp only
    rw [k5]
    rfl
  have c4 : wholeV (.int th) 1 12 = true := by
    show (decide ((1 : Int) ≤ th) && decide (th ≤ 12)) = true
    rw [k4.1, k4.2]
    rfl
  unfold faultV
  rw [strsOf_is hb, if_neg (by rw [c1]; simp), if_neg (by rw [c2]; simp), if_neg (by rw [c3]; simp), if_neg (by rw [c4]; simp), if_neg (by show ¬ radicesAt H (.ref b4) th ≠ .non; rw [c5]; simp)]
theorem strs_inj : ∀ {xs ys : List Str}, xs.map V.str = ys.map V.str → xs = ys
  | [], [], _ => rfl
  | [], _ :: _, h => by cases h
  | _ :: _, [], h => by cases h
  | x :: xs, y :: ys, h => by
    rw [List.map_cons, List.map_cons, List.cons.injEq] at h
    rw [V.str.inj h.1, strs_inj h.2]
theorem ints_inj : ∀ {xs ys : List Int}, xs.map V.int = ys.map V.int → xs = ys
  | [], [], _ => rfl
  | [], _ :: _, h => by cases h
  | _ :: _, [], h => by cases h
  | x :: xs, y :: ys, h => by
    rw [List.map_cons, List.map_cons, List.cons.injEq] at h
    rw [V.int.inj h.1, ints_inj h.2]
theorem rows_eq : ∀ {xs : List V} {rows rows' : List Row}, AtAll H xs (rows.map rowD) → Paired (RowAt nul H) xs rows' → rows' = rows
  | _, [], _, .nil, .nil => rfl
  | _, q :: r, _, .cons h t, .cons (b := q') z pr => by
    obtain ⟨p, fl, rfl, hp, hf⟩ := row_at h
    obtain ⟨p', fl', e1, _, _, g1, g2⟩ := z
    cases e1
    obtain ⟨rn, rz, rfs, rb⟩ := q
    obtain ⟨rn', rz', rfs', rb'⟩ := q'
    simp only at g1 g2 hp hf
    rw [hp] at g1
    simp only [Option.some.injEq, HO.tup.injEq, List.cons.injEq, V.str.injEq, V.int.injEq, V.ref.injEq, V.bl.injEq, and_true] at g1
    obtain ⟨e1, e2, e3, e4⟩ := g1
    subst e1 e2 e3 e4
    rw [hf] at g2
    simp only [Option.some.injEq, HO.lst.injEq] at g2
    rw [rows_eq t pr, strs_inj g2]
theorem fineG (f : Fine H c n l (.int th) r rows' ns' ls' th' ks') (hc : At H c (clsD rows)) (hn : At H n (.list (ns.map PyData.str))) (hl : At H l (.list (ls.map PyData.str))) (hr : At H r (.list (ks.map PyData.int))) :
    rows' = rows ∧ ns' = ns ∧ ls' = ls ∧ th' = th ∧ ks' = ks := by
  obtain ⟨a, xs, rfl, ha, as⟩ := at_l hc
  obtain ⟨b, rfl, hb⟩ := strs_at hn
  obtain ⟨b3, rfl, h3⟩ := strs_at hl
  obtain ⟨b4, rfl, h4⟩ := ints_atL hr
  refine ⟨?_, ?_, ?_, ?_, ?_⟩
  · obtain ⟨a', e, _, ys, e2, pr⟩ := f.c
    cases e
    rw [ha] at e2
    cases e2
    exact rows_eq as pr
  · obtain ⟨a', e, h'⟩ := f.n
    cases e
    rw [hb] at h'
    exact (strs_inj (HO.lst.inj (Option.some.inj h'))).symm
  · obtain ⟨a', e, h'⟩ := f.l
    cases e
    rw [h3] at h'
    exact (strs_inj (HO.lst.inj (Option.some.inj h'))).symm
  · exact (V.int.inj f.p).symm
  · obtain ⟨a', e, h'⟩ := f.r
    cases e
    rw [h4] at h'
    exact (ints_inj (HO.lst.inj (Option.some.inj h'))).symm
end
/-! ### what becomes of a program -/
inductive PRes where
  | bad (part : Str) (d : PyData)
  | ok
def shortT (d : PyData) : Bool := match d with
  | .list ds => ds.all fun q => match q with
    | .tuple es => es.all fun e => match e with
      | .list ys => decide (ys.length ≤ 1000)
      | _ => true
    | _ => true
  | _ => true
theorem short_is {ds : List PyData} (h : shortT (.list ds) = true) : ∀ q ∈ ds, ∀ es, q = .tuple es → ∀ ys, PyData.list ys ∈ es → ys.length ≤ 1000 := fun q hq es e ys hy => by
  subst e
  have h := List.all_eq_true.mp (show (ds.all fun q => match q with
    | .tuple es => es.all fun e => match e with
      | .list ys => decide (ys.length ≤ 1000)
      | _ => true
    | _ => true) = true from h) _ hq
  have h := List.all_eq_true.mp (show (es.all fun e => match e with
      | .list ys => decide (ys.length ≤ 1000)
      | _ => true) = true from h) _ hy
  exact of_decide_eq_true h
def envOf (rows : List Row) (ls : List Str) (ks : List Int) : Env := ⟨rows, ls, (ks.length : Nat)⟩
def isL (d : PyData) : Bool := match d with | .list _ => true | _ => false
def bodyT (kk n : Nat) (rows : List Row) (ns ls : List Str) (ks : List Int) (b : PyData) (ds : List PyData) (cs : Cl) (many : Int) : Option PRes := match runT (scoOf rows ns ls (ks.length : Nat) cs) n [⟨b, [], 0, 0, 0⟩] 0 0 with
  | some (some l, _, _) => some (.bad "body" (.tuple (l.map PyData.int)))
  | some (none, m, _) => if 60 < many + m then some (.bad "body" (.int (-1))) else if ((isL b && cpB kk b) && ds.all (cpF kk)) = true then some .ok else none
  | none => none
def progT (kk n : Nat) (rows : List Row) (ns ls : List Str) (ks : List Int) (b f : PyData) : Option PRes := match f with
  | .list ds => if ds.length ≤ 4 then (match funT (envOf rows ls ks) n ds 0 [] 0 with
    | some (.bad l) => some (.bad "functions" (.tuple (l.map PyData.int)))
    | some (.ok cs many) => bodyT kk n rows ns ls ks b ds cs many
    | none => none) else some (.bad "functions" (.int (-1)))
  | _ => some (.bad "functions" (.int (-1)))
theorem ints_at {H : Hp} {t : Addr} {l : List Int} (h : H t = some (.tup (l.map V.int))) : At H (.ref t) (.tuple (l.map PyData.int)) := by
  refine .tup h ?_
  clear h
  induction l with
  | nil => exact .nil
  | cons i l ih => exact .cons (.int i) ih
theorem rest_rd {C CP p : Addr} {kk n : Nat} {H : Hp} {Q : VK} {E : XK} {bd fd : PyData} {rows : List Row} {ns ls : List Str} {th : Int} {ks : List Int} {res : PRes} (em : progT kk n rows ns ls ks bd fd = some res) (sh : shortT fd = true)
    (hbad : ∀ part b, res = .bad part b → (part = "functions" ∨ part = "body") → ∀ x H1, Same H H1 → At H1 x b → Rz C H1 (.str part) x E)
    (hok : res = .ok → ∀ bs ds, bd = .list bs → fd = .list ds → ∀ H', Prog2 H H' CP p rows ns ls th ks bs ds → (∀ b o, H b = some o → b ≠ p → H' b = some o) → Q .non H') : Rest C CP p kk n H Q E bd fd rows ns ls th ks := by
  refine ⟨fun hno => ?_, fun ds ed h4 => ⟨short_is (by rw [ed] at sh; exact sh), ?_⟩⟩
  · refine hbad _ _ ?_ (.inl rfl) _ H (Same.refl H) (.int (-1))
    unfold progT at em
    split at em
    · rename_i ds
      rw [if_neg (hno ds rfl)] at em
      exact (Option.some.inj em).symm
    · exact (Option.some.inj em).symm
  · subst ed
    unfold progT at em
    dsimp only at em
    rw [if_pos h4] at em
    cases hf : funT (envOf rows ls ks) n ds 0 [] 0 with
    | none => rw [hf] at em; cases em
    | some fr =>
      rw [hf] at em
      cases fr with
      | bad l => exact .inl ⟨l, hf, fun t2 H1' s1' ht2 => hbad _ _ (Option.some.inj em).symm (.inl rfl) _ H1' s1' (ints_at ht2)⟩
      | ok cs many =>
        dsimp only at em
        unfold bodyT at em
        cases hr : runT (scoOf rows ns ls (ks.length : Nat) cs) n [⟨bd, [], 0, 0, 0⟩] 0 0 with
        | none => rw [hr] at em; cases em
        | some x =>
          obtain ⟨pl, m, dp⟩ := x
          rw [hr] at em
          refine .inr ⟨cs, many, pl, m, dp, hf, hr, ?_⟩
          cases pl with
          | some l => exact fun t H1' s1' ht => hbad _ _ (Option.some.inj em).symm (.inr rfl) _ H1' s1' (ints_at ht)
          | none =>
            dsimp only at em ⊢
            by_cases c : 60 < many + m
            · rw [if_pos c] at em ⊢
              exact hbad _ _ (Option.some.inj em).symm (.inr rfl) _ H (Same.refl H) (.int (-1))
            · rw [if_neg c] at em ⊢
              split at em
              · rename_i c2
                rw [Bool.and_eq_true, Bool.and_eq_true, List.all_eq_true] at c2
                obtain ⟨⟨q1, q2⟩, q3⟩ := c2
                cases bd with
                | list bs => exact ⟨bs, rfl, q2, q3, fun H' pg kp => hok (Option.some.inj em).symm bs ds rfl rfl H' pg kp⟩
                | _ => cases q1
              · cases em
end K1

set_option Elab.async false
set_option linter.all false
set_option maxRecDepth 100000
set_option maxHeartbeats 8000000
namespace L2
open PySem PySem.Spec PyProof.Rows
theorem tuple_mul1 (l : Addr) (items : Array Value) (n : Nat) (dd : Option Addr) (sl : Array (Option Value)) (u : Tok) :
    Meets (Builtin.«tuple.__mul__» ⟨[.ref l, .int 1 u], []⟩) (fun _ R s => s.heap.get? l = some { cls := .type "tuple", dict := dd, data := .seq items n, slots := sl } ∧
      R (.ok (.ret (Value.ref l))) s) :=
  .of_wp fun prog w A R s h => by
    obtain ⟨hp, g, d, tk, os⟩ := s
    obtain ⟨hl, h⟩ := h
    have f1 := AutoSeq1.idx_int
    wp_walk using wpAny_loadPart' hl
    have c1 : (items.isEmpty || (1 : Int) == 1) = true := by rw [show ((1 : Int) == 1) = true from rfl, Bool.or_true]
    repeat (first
      | (refine wpAny_ite_true (decide_eq_true (by rw [c1])) ?_; wp_walk using wpAny_loadPart' hl))
    exact ⟨_, rfl, h⟩
theorem tuple_mul0 (l : Addr) (items : Array Value) (n : Nat) (dd : Option Addr) (sl : Array (Option Value)) (u : Tok) (he : items.isEmpty = false) :
    Meets (Builtin.«tuple.__mul__» ⟨[.ref l, .int 0 u], []⟩) (fun _ R s => s.heap.get? l = some { cls := .type "tuple", dict := dd, data := .seq items n, slots := sl } ∧
      R (.ok (.ret (Value.ref s.heap.objs.size))) { s with heap := s.heap.push { cls := Value.type "tuple", data := Data.seq #[] }, toks := s.toks }) :=
  .of_wp fun prog w A R s h => by
    obtain ⟨hp, g, d, tk, os⟩ := s
    obtain ⟨hl, h⟩ := h
    have f1 := AutoSeq1.idx_int
    wp_walk using wpAny_loadPart' hl
    have c1 : (items.isEmpty || (0 : Int) == 1) = false := by rw [he]; rfl
    repeat (first
      | (refine wpAny_ite_false (decide_eq_false (by rw [c1]; exact Bool.false_ne_true)) ?_; wp_walk using wpAny_loadPart' hl))
    exact ⟨_, rfl, h⟩
def rRepTA (K : PySem.W.Frag) : R2 := fun x y H Q => ∃ l k xs, x = .ref l ∧ y = .int k ∧ SqT K H l xs ∧ xs ≠ [] ∧ 0 ≤ k ∧ k ≤ 1000 ∧ xs.length ≤ 1000 ∧ (k = 1 → Q (.ref l) H) ∧ (k ≠ 1 → ∀ p, H p = none → Q (.ref p) (upd H p (.tup (List.replicate k.toNat xs).flatten)))
section
variable {X : Cx}
theorem op_repTA : OpR X (binaryOp .Mult) (rRepTA X.K) := by
  intro pins s σ H x y v u Q I rx ry h
  obtain ⟨l, k, xs, rfl, rfl, hT, hne, h1, h2, hz, q1, q2⟩ := h
  by_cases k2 : 2 ≤ k
  · exact op_repT pins s σ H _ _ v u Q I rx ry ⟨l, k, xs, rfl, rfl, hT, hne, k2, h2, hz, q2 (by omega)⟩
  cases rx
  obtain ⟨t, rfl⟩ := ry
  obtain ⟨its, r, ⟨⟨cls, dd, data, sl⟩, ho, hc, n, hd⟩, hs⟩ := I.tuple hT
  simp only at hc hd
  subst hc hd
  have hle : its.length = xs.length := r.length.symm
  have hn : its ≠ [] := fun e => hne (by
    rw [e] at hle
    exact List.eq_nil_of_length_eq_zero hle.symm)
  have hi : its.toArray.isEmpty = false := by
    cases its with
    | nil => exact absurd rfl hn
    | cons a b => rfl
  by_cases k1 : k = 1
  · subst k1
    refine wpAny_binaryOp_repeat_ref (T := "tuple") (U := "int") (by decide) ⟨_, ho, rfl⟩ (fun s' => typeIs_int s' 1 t) noFill_tuple_mul F.fills_int_mul F.slot_int_rmul repeat_tuple F.slot_int_index.lookup
      (call_meets F.slot_int_rmul (typeIs_int s 1 t) F.entry_int_rmul (F.args_int_rmul_2 _ _) (int_rmul_tuple 1 t l its.toArray n dd sl)
        ⟨ho, rfl, ⟨_, ho, rfl⟩, call_meets F.slot_tuple_mul ⟨_, ho, rfl⟩ F.entry_tuple_mul (F.args_tuple_mul_2 _ _) (tuple_mul1 l its.toArray n dd sl t) ⟨ho, ?_⟩⟩)
    exact ⟨.ref l, H, I, rfl, q1 rfl⟩
  · have k0 : k = 0 := by omega
    subst k0
    refine wpAny_binaryOp_repeat_ref (T := "tuple") (U := "int") (by decide) ⟨_, ho, rfl⟩ (fun s' => typeIs_int s' 0 t) noFill_tuple_mul F.fills_int_mul F.slot_int_rmul repeat_tuple F.slot_int_index.lookup
      (call_meets F.slot_int_rmul (typeIs_int s 0 t) F.entry_int_rmul (F.args_int_rmul_2 _ _) (int_rmul_tuple 0 t l its.toArray n dd sl)
        ⟨ho, rfl, ⟨_, ho, rfl⟩, call_meets F.slot_tuple_mul ⟨_, ho, rfl⟩ F.entry_tuple_mul (F.args_tuple_mul_2 _ _) (tuple_mul0 l its.toArray n dd sl t hi) ⟨ho, ?_⟩⟩)
    refine ⟨.ref s.heap.objs.size, _, I.laid (t' := s.toks) (o := .tup []) (fun b ob q => Heap.get?_push_of_some _ q) (Nat.le_refl _) ?_, rfl, q2 (by decide) _ (I.hok.fresh (Nat.le_refl _))⟩
    exact ⟨Nat.zero_le _, [], .nil, IsTup.new _ _⟩
end
end L2
namespace K1
open PySem L2
section
variable {L : List Addr} {σ : St} {H1 : Hp} {t u : TE} {d e : PyData} {ds es : List PyData} {K : PySem.W.Frag} {v : V} {i j : Int}
/-- a tuple so many times -/
theorem dt_repT (lv : Live L H1) (h : DT L t (.tuple ds) σ H1) (r : VE u (.int i) σ H1) (ne : ds ≠ []) (c1 : 0 ≤ i) (c2 : i ≤ 1000) (few : ds.length ≤ 1000) : DT L (tOp (rRepTA K) t u) (.tuple (List.replicate i.toNat ds).flatten) σ H1 := fun H2 s Q k => h H2 s _ fun v H3 s3 a => r H3 (s.trans s3) _ (by
    obtain ⟨q, xs, rfl, hq, as⟩ := at_t a
    have hl := as.len
    refine ⟨q, i, xs, rfl, rfl, SqT.of (hid_sub _ _ hq), (fun z => by rw [z] at hl; exact ne (List.eq_nil_of_length_eq_zero hl.symm)), c1, c2, by omega, fun e => ?_, fun _ l nl => ?_⟩
    · subst e
      refine k _ _ s3 ?_
      show At _ _ (.tuple (List.replicate 1 ds).flatten)
      rw [List.replicate_one, List.flatten_singleton]
      exact a
    have s4 := same_new (o := .tup (List.replicate i.toNat xs).flatten) (Same.refl H3) nl
    refine k _ _ (s3.trans s4) (.tup (hid_new (lv.mono (s.trans s3)) nl) ?_)
    have as4 := as.mono (hid_mono (L := L) (same_new (o := .tup (List.replicate i.toNat xs).flatten) (Same.refl _) nl))
    have : ∀ n : Nat, AtAll (hid L (upd H3 l (.tup (List.replicate i.toNat xs).flatten))) (List.replicate n xs).flatten (List.replicate n ds).flatten := fun n => by
      induction n with
      | zero => exact .nil
      | succ n ih =>
        rw [List.replicate_succ, List.replicate_succ, List.flatten_cons, List.flatten_cons]
        exact as4.append ih
    exact this _)
/-- a list so many times -/
theorem dt_repL (lv : Live L H1) (h : DT L t (.list ds) σ H1) (r : VE u (.int i) σ H1) (c1 : 0 ≤ i) (c2 : i < 2 ^ 63) (few : ds.length * i.toNat ≤ sizeLine) : DT L (tOp rRep t u) (.list (List.replicate i.toNat ds).flatten) σ H1 := fun H2 s Q k => h H2 s _ fun v H3 s3 a => r H3 (s.trans s3) _ (by
    obtain ⟨q, xs, rfl, hq, as⟩ := at_l a
    refine ⟨q, i, xs, rfl, rfl, hid_sub _ _ hq, by omega, c2, by rw [as.len]; exact few, fun l nl => ?_⟩
    have s4 := same_new (o := .lst (List.replicate i.toNat xs).flatten) (Same.refl H3) nl
    refine k _ _ (s3.trans s4) (.lst (hid_new (lv.mono (s.trans s3)) nl) ?_)
    have as4 := as.mono (hid_mono (L := L) (same_new (o := .lst (List.replicate i.toNat xs).flatten) (Same.refl _) nl))
    have : ∀ n : Nat, AtAll (hid L (upd H3 l (.lst (List.replicate i.toNat xs).flatten))) (List.replicate n xs).flatten (List.replicate n ds).flatten := fun n => by
      induction n with
      | zero => exact .nil
      | succ n ih =>
        rw [List.replicate_succ, List.replicate_succ, List.flatten_cons, List.flatten_cons]
        exact as4.append ih
    exact this _)
/-- t1 + t2 of tuples -/
theorem dt_catT (lv : Live L H1) (h : DT L t (.tuple ds) σ H1) (r : DT L u (.tuple es) σ H1) (few : ds.length + es.length ≤ sizeLine) : DT L (tOp (rCatA K) t u) (.tuple (ds ++ es)) σ H1 := fun H2 s Q k => h H2 s _ fun v H3 s3 a => r H3 (s.trans s3) _ fun w H4 s4 b => by
  obtain ⟨p, xs, rfl, hp, as⟩ := at_t (a.mono (hid_mono s4))
  obtain ⟨q, ys, rfl, hq, bs⟩ := at_t b
  refine ⟨p, q, xs, ys, rfl, rfl, SqT.of (hid_sub _ _ hp), SqT.of (hid_sub _ _ hq), by rw [as.len, bs.len]; exact few, fun e => ?_, fun _ e => ?_, fun _ _ l nl => ?_⟩
  · have e2 : ds = [] := List.eq_nil_of_length_eq_zero (by rw [← as.len, e]; rfl)
    exact k _ _ (s3.trans s4) (by rw [e2, List.nil_append]; exact b)
  · have e2 : es = [] := List.eq_nil_of_length_eq_zero (by rw [← bs.len, e]; rfl)
    exact k _ _ (s3.trans s4) (by rw [e2, List.append_nil]; exact a.mono (hid_mono s4))
  · have s5 := same_new (o := .tup (xs ++ ys)) (Same.refl H4) nl
    exact k _ _ ((s3.trans s4).trans s5) (.tup (hid_new (lv.mono ((s.trans s3).trans s4)) nl) ((as.append bs).mono (hid_mono s5)))
/-- a if c else b -/
theorem dt_if {c : TT} {b : Bool} (h : BE c b σ H1) (r1 : b = true → DT L t d σ H1) (r2 : b = false → DT L u d σ H1) : DT L (tIf c t u) d σ H1 := fun H2 s Q k => h H2 s _ fun H3 s3 => by
  cases b with
  | true => exact r1 rfl H3 (s.trans s3) _ fun v H4 s4 a => k v H4 (s3.trans s4) a
  | false => exact r2 rfl H3 (s.trans s3) _ fun v H4 s4 a => k v H4 (s3.trans s4) a
end
end K1

set_option Elab.async false
set_option linter.all false
set_option maxRecDepth 100000
set_option maxHeartbeats 4000000
namespace K1
open PySem L2
/-! ### what survey says of frames, one behind the other -/
section
variable {sc : Sco} {fs gs : List Fr} {K K' M M' : Nat} {pl : List Int}
def RunsL (sc : Sco) (fs : List Fr) (K M : Nat) : Prop := ∃ (k m : Nat) (g : Int → Int), k ≤ K ∧ m ≤ M ∧ ∀ n r many depth, runT sc (n + k) (fs ++ r) many depth = runT sc n r (many + (m : Int)) (g depth)
def FailsL (sc : Sco) (fs : List Fr) (K : Nat) (pl : List Int) : Prop := ∃ k : Nat, k ≤ K ∧ ∀ n r many depth, ∃ m d, runT sc (n + k) (fs ++ r) many depth = some (some pl, m, d)
theorem RunsL.nil : RunsL sc [] 0 0 := ⟨0, 0, id, Nat.le_refl _, Nat.le_refl _, fun n r many depth => by
  rw [Nat.add_zero, List.nil_append]
  show _ = runT sc n r (many + 0) depth
  rw [Int.add_zero]⟩
theorem RunsL.le (h : RunsL sc fs K M) (h1 : K ≤ K') (h2 : M ≤ M') : RunsL sc fs K' M' := by
  obtain ⟨k, m, g, a, b, c⟩ := h
  exact ⟨k, m, g, by omega, by omega, c⟩
theorem FailsL.le (h : FailsL sc fs K pl) (h1 : K ≤ K') : FailsL sc fs K' pl := by
  obtain ⟨k, a, c⟩ := h
  exact ⟨k, by omega, c⟩
theorem RunsL.app (h : RunsL sc fs K M) (h' : RunsL sc gs K' M') : RunsL sc (fs ++ gs) (K + K') (M + M') := by
  obtain ⟨k, m, g, a, b, c⟩ := h
  obtain ⟨k', m', g', a', b', c'⟩ := h'
  refine ⟨k' + k, m + m', fun d => g' (g d), by omega, by omega, fun n r many depth => ?_⟩
  rw [List.append_assoc, ← Nat.add_assoc, c, c']
  congr 1
  omega
theorem FailsL.right (h : RunsL sc fs K M) (h' : FailsL sc gs K' pl) : FailsL sc (fs ++ gs) (K + K') pl := by
  obtain ⟨k, m, g, a, b, c⟩ := h
  obtain ⟨k', a', c'⟩ := h'
  refine ⟨k' + k, by omega, fun n r many depth => ?_⟩
  obtain ⟨x, y, e⟩ := c' n r (many + (m : Int)) (g depth)
  exact ⟨x, y, by rw [List.append_assoc, ← Nat.add_assoc, c, e]⟩
theorem FailsL.left (h : FailsL sc fs K pl) : FailsL sc (fs ++ gs) K pl := by
  obtain ⟨k, a, c⟩ := h
  refine ⟨k, a, fun n r many depth => ?_⟩
  rw [List.append_assoc]
  exact c n (gs ++ r) many depth
/-! one statement -/
variable {ds : List PyData} {a : List Int} {nd i : Nat} {rep : Int} {s : Str} {es : List PyData}
theorem step_stI {st : PyData} {r : List Fr} {many depth : Int} (hn : nd ≤ 60) (hi : ds[i]? = some st) : stepT sc ⟨.list ds, a, nd, rep, i⟩ r many depth = stStep sc ⟨.list ds, a, nd, rep, i⟩ r many depth st := by
  unfold stepT
  dsimp only
  rw [if_neg (by omega), hi]
theorem runs_end (hn : nd ≤ 60) (hi : ds[i]? = none) : RunsL sc [⟨.list ds, a, nd, rep, i⟩] 1 0 := ⟨1, 0, id, Nat.le_refl _, Nat.le_refl _, fun n r many depth => by
  have e : stepT sc ⟨.list ds, a, nd, rep, i⟩ r many depth = .go r many depth := by
    unfold stepT
    dsimp only
    rw [if_neg (by omega), hi]
  show (match stepT sc ⟨.list ds, a, nd, rep, i⟩ r many depth with | .fin x => some x | .go ws many depth => runT sc n ws many depth) = runT sc n r (many + 0) depth
  rw [e, Int.add_zero]⟩
theorem runs_st (hn : nd ≤ 60) (hi : ds[i]? = some (.tuple (.str s :: es))) (hw : wordsT sc s es rep = true) (h : RunsL sc (pushT s es (a ++ [(i : Int)]) nd rep ++ [⟨.list ds, a, nd, rep, i + 1⟩]) K M) : RunsL sc [⟨.list ds, a, nd, rep, i⟩] (K + 1) (M + 1) := by
  obtain ⟨k, m, g, b, c, d⟩ := h
  refine ⟨k + 1, m + 1, fun x => g (if depthT sc s es rep > x then depthT sc s es rep else x), by omega, by omega, fun n r many depth => ?_⟩
  show (match stepT sc ⟨.list ds, a, nd, rep, i⟩ r many depth with | .fin x => some x | .go ws many depth => runT sc (n + k) ws many depth) = _
  rw [step_stI hn hi]
  show (match wordsStep sc ⟨.list ds, a, nd, rep, i⟩ r many depth s es with | .fin x => some x | .go ws many depth => runT sc (n + k) ws many depth) = _
  unfold wordsStep
  dsimp only
  rw [if_pos hw]
  dsimp only
  have := d n r (many + 1) (if depthT sc s es rep > depth then depthT sc s es rep else depth)
  rw [List.append_assoc] at this
  rw [show pushT s es (a ++ [(i : Int)]) nd rep ++ ⟨.list ds, a, nd, rep, i + 1⟩ :: r = pushT s es (a ++ [(i : Int)]) nd rep ++ ([⟨.list ds, a, nd, rep, i + 1⟩] ++ r) from rfl, this]
  congr 1
  omega
theorem fails_st (hn : nd ≤ 60) (hi : ds[i]? = some (.tuple (.str s :: es))) (hw : wordsT sc s es rep = true) (h : FailsL sc (pushT s es (a ++ [(i : Int)]) nd rep ++ [⟨.list ds, a, nd, rep, i + 1⟩]) K pl) : FailsL sc [⟨.list ds, a, nd, rep, i⟩] (K + 1) pl := by
  obtain ⟨k, b, d⟩ := h
  refine ⟨k + 1, by omega, fun n r many depth => ?_⟩
  show ∃ m d, (match stepT sc ⟨.list ds, a, nd, rep, i⟩ r many depth with | .fin x => some x | .go ws many depth => runT sc (n + k) ws many depth) = some (some pl, m, d)
  rw [step_stI hn hi]
  show ∃ m d, (match wordsStep sc ⟨.list ds, a, nd, rep, i⟩ r many depth s es with | .fin x => some x | .go ws many depth => runT sc (n + k) ws many depth) = some (some pl, m, d)
  unfold wordsStep
  dsimp only
  rw [if_pos hw]
  dsimp only
  have := d n r (many + 1) (if depthT sc s es rep > depth then depthT sc s es rep else depth)
  rw [List.append_assoc] at this
  exact this
theorem fails_here {st : PyData} (hn : nd ≤ 60) (hi : ds[i]? = some st) (hf : formT sc st rep = false) : FailsL sc [⟨.list ds, a, nd, rep, i⟩] 1 (a ++ [(i : Int)]) := by
  refine ⟨1, Nat.le_refl _, fun n r many depth => ⟨many, depth, ?_⟩⟩
  have e : stStep sc ⟨.list ds, a, nd, rep, i⟩ r many depth st = .fin (some (a ++ [(i : Int)]), many, depth) := by
    unfold stStep
    split
    · rename_i s es
      unfold wordsStep
      rw [if_neg]
      intro z
      have : formT sc (.tuple (.str s :: es)) rep = true := z
      rw [hf] at this
      cases this
    · rfl
  show (match stepT sc ⟨.list ds, a, nd, rep, i⟩ r many depth with | .fin x => some x | .go ws many depth => runT sc n ws many depth) = _
  rw [step_stI hn hi, e]
theorem fails_blk {b : PyData} (hn : nd ≤ 60) (hb : ∀ ds, b ≠ .list ds) : FailsL sc [⟨b, a, nd, rep, 0⟩] 1 a := by
  refine ⟨1, Nat.le_refl _, fun n r many depth => ⟨many, depth, ?_⟩⟩
  show (match stepT sc ⟨b, a, nd, rep, 0⟩ r many depth with | .fin x => some x | .go ws many depth => runT sc n ws many depth) = _
  rw [step_not (w := ⟨b, a, nd, rep, 0⟩) (by show ¬ nd > 60; omega) hb]
/-! simple statements: valid, without blocks -/
def Simple (sc : Sco) (st : PyData) : Prop := ∃ s es, st = .tuple (.str s :: es) ∧ blkV s es = [] ∧ ∀ rep, wordsT sc s es rep = true
theorem push_nil {place : List Int} (h : blkV s es = []) : pushT s es place nd rep = [] := by
  unfold pushT
  rw [h]
  rfl
theorem runs_simple {st : PyData} (hn : nd ≤ 60) (hi : ds[i]? = some st) (hs : Simple sc st) (h : RunsL sc [⟨.list ds, a, nd, rep, i + 1⟩] K M) : RunsL sc [⟨.list ds, a, nd, rep, i⟩] (K + 1) (M + 1) := by
  obtain ⟨s, es, rfl, hb, hw⟩ := hs
  refine runs_st hn hi (hw rep) ?_
  rw [push_nil hb]
  exact h
theorem fails_simple {st : PyData} (hn : nd ≤ 60) (hi : ds[i]? = some st) (hs : Simple sc st) (h : FailsL sc [⟨.list ds, a, nd, rep, i + 1⟩] K pl) : FailsL sc [⟨.list ds, a, nd, rep, i⟩] (K + 1) pl := by
  obtain ⟨s, es, rfl, hb, hw⟩ := hs
  refine fails_st hn hi (hw rep) ?_
  rw [push_nil hb]
  exact h
theorem at_mid {α : Type} {xs ys : List α} {y : α} : (xs ++ y :: ys)[xs.length]? = some y := by
  rw [List.getElem?_append_right (Nat.le_refl _), Nat.sub_self]
  rfl
theorem runs_simples : ∀ (pre xs : List PyData) (post : List PyData) (hs : ∀ d ∈ xs, Simple sc d) (hn : nd ≤ 60) (h : RunsL sc [⟨.list (pre ++ xs ++ post), a, nd, rep, pre.length + xs.length⟩] K M), RunsL sc [⟨.list (pre ++ xs ++ post), a, nd, rep, pre.length⟩] (K + xs.length) (M + xs.length)
  | pre, [], post, _, _, h => h
  | pre, x :: xs, post, hs, hn, h => by
    have e : pre ++ (x :: xs) ++ post = (pre ++ [x]) ++ xs ++ post := by simp
    have l : pre.length + (x :: xs).length = (pre ++ [x]).length + xs.length := by simp; omega
    rw [l, e] at h
    have ih := runs_simples (pre ++ [x]) xs post (fun d m => hs d (List.mem_cons_of_mem _ m)) hn h
    rw [List.length_append, List.length_singleton, ← e] at ih
    refine (runs_simple (st := x) hn ?_ (hs x List.mem_cons_self) ih).le (by rw [List.length_cons]; omega) (by rw [List.length_cons]; omega)
    rw [List.append_assoc]
    exact at_mid
theorem fails_simples : ∀ (pre xs : List PyData) (post : List PyData) (hs : ∀ d ∈ xs, Simple sc d) (hn : nd ≤ 60) (h : FailsL sc [⟨.list (pre ++ xs ++ post), a, nd, rep, pre.length + xs.length⟩] K pl), FailsL sc [⟨.list (pre ++ xs ++ post), a, nd, rep, pre.length⟩] (K + xs.length) pl
  | pre, [], post, _, _, h => h
  | pre, x :: xs, post, hs, hn, h => by
    have e : pre ++ (x :: xs) ++ post = (pre ++ [x]) ++ xs ++ post := by simp
    have l : pre.length + (x :: xs).length = (pre ++ [x]).length + xs.length := by simp; omega
    rw [l, e] at h
    have ih := fails_simples (pre ++ [x]) xs post (fun d m => hs d (List.mem_cons_of_mem _ m)) hn h
    rw [List.length_append, List.length_singleton, ← e] at ih
    refine (fails_simple (st := x) hn ?_ (hs x List.mem_cons_self) ih).le (by rw [List.length_cons]; omega)
    rw [List.append_assoc]
    exact at_mid
/-! a block of simple statements and one more -/
variable {pre post : List PyData}
theorem runs_block (hp : ∀ d ∈ pre, Simple sc d) (hq : ∀ d ∈ post, Simple sc d) (hn : nd ≤ 60) (hw : wordsT sc s es rep = true) (h : RunsL sc (pushT s es (a ++ [(pre.length : Int)]) nd rep) K M) :
    RunsL sc [⟨.list (pre ++ .tuple (.str s :: es) :: post), a, nd, rep, 0⟩] (K + pre.length + post.length + 2) (M + pre.length + post.length + 1) := by
  have e0 : pre ++ .tuple (.str s :: es) :: post = [] ++ pre ++ (.tuple (.str s :: es) :: post) := by simp
  have e1 : pre ++ .tuple (.str s :: es) :: post = (pre ++ [.tuple (.str s :: es)]) ++ post ++ [] := by simp
  have z : RunsL sc [⟨.list (pre ++ .tuple (.str s :: es) :: post), a, nd, rep, pre.length + 1 + post.length⟩] 1 0 := runs_end hn (by
    rw [List.getElem?_eq_none]
    rw [List.length_append, List.length_cons]
    omega)
  have z1 : RunsL sc [⟨.list (pre ++ .tuple (.str s :: es) :: post), a, nd, rep, pre.length + 1⟩] (1 + post.length) (0 + post.length) := by
    have l : pre.length + 1 = (pre ++ [PyData.tuple (.str s :: es)]).length := by simp
    rw [l, e1] at z ⊢
    exact runs_simples (pre ++ [.tuple (.str s :: es)]) post [] hq hn z
  have z2 := runs_st hn (at_mid (xs := pre) (ys := post)) hw (h.app z1)
  rw [e0] at z2 ⊢
  have z3 := runs_simples [] pre (.tuple (.str s :: es) :: post) hp hn (by rw [List.length_nil, Nat.zero_add]; exact z2)
  exact z3.le (by omega) (by omega)
theorem fails_block (hp : ∀ d ∈ pre, Simple sc d) (hn : nd ≤ 60) (hw : wordsT sc s es rep = true) (h : FailsL sc (pushT s es (a ++ [(pre.length : Int)]) nd rep) K pl) :
    FailsL sc [⟨.list (pre ++ .tuple (.str s :: es) :: post), a, nd, rep, 0⟩] (K + pre.length + 1) pl := by
  have e0 : pre ++ .tuple (.str s :: es) :: post = [] ++ pre ++ (.tuple (.str s :: es) :: post) := by simp
  have z2 := fails_st hn (at_mid (xs := pre) (ys := post)) hw (h.left (gs := [⟨.list (pre ++ .tuple (.str s :: es) :: post), a, nd, rep, pre.length + 1⟩]))
  rw [e0] at z2 ⊢
  have z3 := fails_simples [] pre (.tuple (.str s :: es) :: post) hp hn (by rw [List.length_nil, Nat.zero_add]; exact z2)
  exact z3.le (by omega)
theorem fails_block_here {st : PyData} (hp : ∀ d ∈ pre, Simple sc d) (hn : nd ≤ 60) (hf : formT sc st rep = false) :
    FailsL sc [⟨.list (pre ++ st :: post), a, nd, rep, 0⟩] (pre.length + 1) (a ++ [(pre.length : Int)]) := by
  have e0 : pre ++ st :: post = [] ++ pre ++ (st :: post) := by simp
  have z2 := fails_here (a := a) hn (at_mid (xs := pre) (ys := post) (y := st)) hf
  rw [e0] at z2 ⊢
  have z3 := fails_simples [] pre (st :: post) hp hn (by rw [List.length_nil, Nat.zero_add]; exact z2)
  exact z3.le (by omega)
end
end K1

set_option Elab.async false
set_option linter.all false
set_option maxRecDepth 100000
set_option maxHeartbeats 4000000
namespace K1
open PySem L2
/-! ### the blocks of the law -/
def rows2 : List Row := [⟨"node", 1, ["left"], false⟩]
def ns2 : List Str := ["x", "y"]
def ls2 : List Str := ["w"]
def scB (cs : Cl) : Sco := scoOf rows2 ns2 ls2 (1 : Nat) cs
structure CsOk (cs : Cl) : Prop where
  build : cs.lookup ("build" : Str) = some (2, true, 0)
  mute : cs.lookup ("mute" : Str) = some (0, false, 0)
  none : cs.lookup ("none" : Str) = none
def dgN (ds : List Int) (j m : Nat) : Nat := (ds.getD j 0 % (m : Int)).toNat
theorem dgN_lt (ds : List Int) (j : Nat) {m : Nat} (h : 0 < m) : dgN ds j m < m := by
  have h1 := Int.emod_nonneg (ds.getD j 0) (show (m : Int) ≠ 0 by omega)
  have h2 := Int.emod_lt_of_pos (ds.getD j 0) (show (0 : Int) < (m : Int) by omega)
  unfold dgN
  omega
def xyD (a : Nat) : PyData := [PyData.str "x", .str "y"].getD a .none
def simpsL (a b : Nat) : List PyData := [.tuple [.str "new", xyD a, .str "node"], .tuple [.str "copy", xyD a, xyD b], .tuple [.str "clear", xyD a], .tuple [.str "load", xyD a, xyD b, .str "left"], .tuple [.str "store", xyD a, .str "left", xyD b], .tuple [.str "wipe", xyD a, .str "left"], .tuple [.str "tag", xyD a, .str "red"], .tuple [.str "emit", xyD a], .tuple [.str "weak", .str "w", xyD a], .tuple [.str "get", xyD a, .str "w"], .tuple [.str "collect", .int (b : Nat)]]
def simpN (k a b : Nat) : PyData := (simpsL a b).getD k .none
def simpT (e : List Int) : PyData := simpN (dgN e 0 11) (dgN e 1 2) (dgN e 2 2)
theorem words_cs {cs : Cl} {s : Str} {es : List PyData} {rep : Int} (h : s ≠ "call") (h2 : s ≠ "repeat") : wordsT (scB cs) s es rep = wordsT (scB []) s es 0 := by
  unfold wordsT
  rw [if_neg h, if_neg h]
  cases forms.lookup s with
  | none => rfl
  | some ws =>
    dsimp only
    rw [show decide (s = "repeat") = false from decide_eq_false h2, Bool.false_and, Bool.false_and]
    rfl
theorem words_not {cs : Cl} {s : Str} {es : List PyData} {rep : Int} (h : s ≠ "call") (h2 : wordsT (scB []) s es 0 = false) : wordsT (scB cs) s es rep = false := by
  unfold wordsT at h2 ⊢
  rw [if_neg h] at h2 ⊢
  cases e : forms.lookup s with
  | none => rfl
  | some ws =>
    rw [e] at h2
    dsimp only at h2 ⊢
    have e2 : ((ws.zip es).all fun q => fitsT (scB cs) q.1 q.2) = (ws.zip es).all fun q => fitsT (scB []) q.1 q.2 := rfl
    rw [e2]
    cases q : (ws.zip es).all fun q => fitsT (scB []) q.1 q.2 with
    | false => rw [Bool.and_false]
    | true =>
      rw [q, Bool.and_true, show decide ((0 : Int) = 3) = false from rfl, Bool.and_false, Bool.not_false, Bool.and_true] at h2
      rw [h2]
      rfl
def simpB (st : PyData) : Bool := match st with
  | .tuple (.str s :: es) => (blkV s es).isEmpty && (decide (s ≠ "call") && (decide (s ≠ "repeat") && wordsT (scB []) s es 0))
  | _ => false
theorem simpB_is {cs : Cl} {st : PyData} (h : simpB st = true) : Simple (scB cs) st := by
  unfold simpB at h
  split at h
  · rename_i s es
    rw [Bool.and_eq_true, Bool.and_eq_true, Bool.and_eq_true] at h
    obtain ⟨h1, h2, h3, h4⟩ := h
    refine ⟨s, es, rfl, List.isEmpty_iff.mp h1, fun rep => ?_⟩
    rw [words_cs (of_decide_eq_true h2) (of_decide_eq_true h3)]
    exact h4
  · cases h
theorem simp_all : ∀ a < 2, ∀ b < 2, ∀ k < 11, simpB (simpN k a b) = true ∧ cpS (cpB 0) (simpN k a b) = true := by decide +kernel
theorem simpT_ok (e : List Int) : simpB (simpT e) = true ∧ cpS (cpB 0) (simpT e) = true := simp_all _ (dgN_lt e 1 (by decide)) _ (dgN_lt e 2 (by decide)) _ (dgN_lt e 0 (by decide))
def preT (ds : List Int) : List PyData := (List.range (1 + dgN ds 0 3)).map fun k => simpT ((ds.drop (2 + 3 * k)).take 3)
def spotT (ds : List Int) : Nat := dgN ds 1 (1 + dgN ds 0 3 + 1)
theorem pre_len (ds : List Int) : (preT ds).length = 1 + dgN ds 0 3 := by
  unfold preT
  rw [List.length_map, List.length_range]
theorem spot_le (ds : List Int) : spotT ds ≤ (preT ds).length := by
  rw [pre_len]
  have := dgN_lt ds 1 (show 0 < 1 + dgN ds 0 3 + 1 by omega)
  unfold spotT
  omega
theorem pre_few (ds : List Int) : (preT ds).length ≤ 3 := by
  rw [pre_len]
  have := dgN_lt ds 0 (show 0 < 3 by decide)
  omega
theorem pre_ok {ds : List Int} : ∀ d ∈ preT ds, simpB d = true ∧ cpS (cpB 0) d = true := fun d h => by
  unfold preT at h
  obtain ⟨k, _, rfl⟩ := List.mem_map.mp h
  exact simpT_ok _
/-- a statement in between -/
def putT (ds : List Int) (st : PyData) : List PyData := (preT ds).take (spotT ds) ++ [st] ++ (preT ds).drop (spotT ds)
def callD2 (ds : List Int) : PyData := .tuple [.str "call", [PyData.str "x", .none].getD (dgN ds 15 2) .none, .str "build", .list [.str "y", .str "x"]]
def leafT (ds : List Int) (bad : Option (PyData × List Int)) : List PyData × List Int := match bad with
  | none => (putT ds (callD2 ds), [])
  | some (st, rest) => (putT ds st, (spotT ds : Int) :: rest)
def rotT (n : Nat) (ds : List Int) : List Int := ds.drop n ++ ds.take n
def timesD (ds : List Int) : PyData := [PyData.int 0, .int 3, .int (10 ^ 30)].getD (dgN ds 14 3) .none
/-- the statement with the inner block, and what stands behind its spot -/
def wayT (ds : List Int) (inner rest : List PyData) : PyData × List Int :=
  if dgN ds 13 4 = 0 then (.tuple [.str "repeat", timesD ds, .list inner], [])
  else if dgN ds 13 4 = 1 then (.tuple [.str "ifnil", .str "x", .list inner, .list rest], [0])
  else if dgN ds 13 4 = 2 then (.tuple [.str "ifnil", .str "y", .list rest, .list inner], [1])
  else (.tuple [.str "ifsame", .str "x", .str "y", .list rest, .list inner], [1])
def nodeT (ds : List Int) (q : List PyData × List Int) (rest : List PyData) : List PyData × List Int :=
  (putT ds (wayT ds q.1 rest).1, (spotT ds : Int) :: ((wayT ds q.1 rest).2 ++ q.2))
def blkT : Nat → List Int → Option (PyData × List Int) → List PyData × List Int
  | 0, ds, bad => leafT ds bad
  | dep + 1, ds, bad => if 0 < dgN ds 11 4 then nodeT ds (blkT dep (rotT 12 ds) bad) (leafT (rotT 17 ds) none).1 else leafT ds bad
/-! ### valid ones -/
section
variable {cs : Cl} {a : List Int} {nd : Nat} {rep : Int} {ds : List Int} {s : Str} {es : List PyData} {K M : Nat} {pl : List Int}
theorem put_form (st : PyData) : ∃ pre post, putT ds st = pre ++ st :: post ∧ pre.length = spotT ds ∧ pre.length + post.length ≤ 3 ∧ (∀ d ∈ pre, simpB d = true ∧ cpS (cpB 0) d = true) ∧ ∀ d ∈ post, simpB d = true ∧ cpS (cpB 0) d = true := by
  refine ⟨(preT ds).take (spotT ds), (preT ds).drop (spotT ds), ?_, ?_, ?_, fun d h => pre_ok d (List.mem_of_mem_take h), fun d h => pre_ok d (List.mem_of_mem_drop h)⟩
  · unfold putT
    rw [List.append_assoc]
    rfl
  · rw [List.length_take]
    have := spot_le ds
    omega
  · rw [← List.length_append, List.take_append_drop]
    exact pre_few ds
theorem runs_put (hn : nd ≤ 60) (hw : wordsT (scB cs) s es rep = true) (h : RunsL (scB cs) (pushT s es (a ++ [(spotT ds : Int)]) nd rep) K M) : RunsL (scB cs) [⟨.list (putT ds (.tuple (.str s :: es))), a, nd, rep, 0⟩] (K + 5) (M + 4) := by
  obtain ⟨pre, post, e, e1, e2, e3, e4⟩ := put_form (ds := ds) (.tuple (.str s :: es))
  rw [← e1] at h
  rw [e]
  exact (runs_block (fun d m => simpB_is (e3 d m).1) (fun d m => simpB_is (e4 d m).1) hn hw h).le (by omega) (by omega)
theorem fails_put (hn : nd ≤ 60) (hw : wordsT (scB cs) s es rep = true) (h : FailsL (scB cs) (pushT s es (a ++ [(spotT ds : Int)]) nd rep) K pl) : FailsL (scB cs) [⟨.list (putT ds (.tuple (.str s :: es))), a, nd, rep, 0⟩] (K + 4) pl := by
  obtain ⟨pre, post, e, e1, e2, e3, e4⟩ := put_form (ds := ds) (.tuple (.str s :: es))
  rw [← e1] at h
  rw [e]
  exact (fails_block (fun d m => simpB_is (e3 d m).1) hn hw h).le (by omega)
theorem fails_put_here {st : PyData} (hn : nd ≤ 60) (hf : formT (scB cs) st rep = false) : FailsL (scB cs) [⟨.list (putT ds st), a, nd, rep, 0⟩] 4 (a ++ [(spotT ds : Int)]) := by
  obtain ⟨pre, post, e, e1, e2, e3, e4⟩ := put_form (ds := ds) st
  rw [← e1, e]
  exact (fails_block_here (fun d m => simpB_is (e3 d m).1) hn hf).le (by omega)
theorem call_words (ok : CsOk cs) (hr : rep ≤ 3) : wordsT (scB cs) "call" [[PyData.str "x", .none].getD (dgN ds 15 2) .none, .str "build", .list [.str "y", .str "x"]] rep = true := by
  have lt := dgN_lt ds 15 (show 0 < 2 by decide)
  have e : ∀ t, noneT t = true ∨ oneT t ns2 = true → wordsT (scB cs) "call" [t, .str "build", .list [.str "y", .str "x"]] rep = true := fun t h => by
    show callN (scB cs) t (.str "build") (.list [.str "y", .str "x"]) rep = true
    unfold callN
    dsimp only
    rw [show (scB cs).cs = cs from rfl, ok.build]
    show callR (scB cs) t (.list [.str "y", .str "x"]) rep (2, true, 0) = true
    unfold callR
    rw [Bool.and_eq_true, Bool.and_eq_true]
    refine ⟨⟨?_, ?_⟩, decide_eq_true (by show rep + 0 ≤ 3; omega)⟩
    · rcases h with h | h
      · rw [h]; rfl
      · rw [show oneT t (scB cs).vn = true from h]
        exact Bool.or_true _
    · show argsT (.list [.str "y", .str "x"]) 2 ns2 = true
      decide +kernel
  match dgN ds 15 2, lt with
  | 0, _ => exact e _ (.inr (by decide +kernel))
  | 1, _ => exact e _ (.inl rfl)
theorem runs_leaf (ok : CsOk cs) (hn : nd ≤ 60) (hr : rep ≤ 3) : RunsL (scB cs) [⟨.list (leafT ds none).1, a, nd, rep, 0⟩] 5 4 := by
  have := runs_put (ds := ds) (a := a) hn (call_words (ds := ds) ok hr) (K := 0) (M := 0) (by
    rw [push_nil rfl]
    exact RunsL.nil)
  exact this
theorem way_ok (hr : rep ≤ 2) (hn : nd ≤ 59) {inner rest : List PyData} :
    ∃ s es, (wayT ds inner rest).1 = .tuple (.str s :: es) ∧ wordsT (scB cs) s es rep = true ∧ ∃ rep', rep' ≤ rep + 1 ∧
      ((pushT s es (a ++ [(spotT ds : Int)]) nd rep = [⟨.list inner, a ++ [(spotT ds : Int)] ++ (wayT ds inner rest).2, nd + 1, rep', 0⟩]) ∨
       (∃ p, pushT s es (a ++ [(spotT ds : Int)]) nd rep = [⟨.list inner, a ++ [(spotT ds : Int)] ++ (wayT ds inner rest).2, nd + 1, rep', 0⟩, ⟨.list rest, p, nd + 1, rep', 0⟩]) ∨
       ∃ p, pushT s es (a ++ [(spotT ds : Int)]) nd rep = [⟨.list rest, p, nd + 1, rep', 0⟩, ⟨.list inner, a ++ [(spotT ds : Int)] ++ (wayT ds inner rest).2, nd + 1, rep', 0⟩]) := by
  unfold wayT
  have lt := dgN_lt ds 13 (show 0 < 4 by decide)
  have fits : ∀ {cs : Cl} {s : Str} {es : List PyData}, s ≠ "call" → s ≠ "repeat" → wordsT (scB []) s es 0 = true → wordsT (scB cs) s es rep = true := fun h1 h2 h3 => by rw [words_cs h1 h2]; exact h3
  match dgN ds 13 4, lt with
  | 0, _ =>
    refine ⟨"repeat", [timesD ds, .list inner], rfl, ?_, rep + 1, Int.le_refl _, .inl ?_⟩
    · have l3 := dgN_lt ds 14 (show 0 < 3 by decide)
      unfold wordsT
      rw [if_neg (by decide)]
      have fl : forms.lookup ("repeat" : Str) = some (["times", "block"] : List Str) := by decide +kernel
      rw [fl]
      dsimp only
      rw [show decide (rep = 3) = false from decide_eq_false (by omega), Bool.and_false]
      unfold timesD
      match dgN ds 14 3, l3 with
      | 0, _ => kernel_rfl
      | 1, _ => kernel_rfl
      | 2, _ => kernel_rfl
    · show pushT "repeat" [timesD ds, .list inner] (a ++ [(spotT ds : Int)]) nd rep = [⟨.list inner, a ++ [(spotT ds : Int)] ++ [], nd + 1, rep + 1, 0⟩]
      rfl
  | 1, _ => exact ⟨"ifnil", [.str "x", .list inner, .list rest], rfl, fits (by decide) (by decide) (by kernel_rfl), rep, by omega, .inr (.inl ⟨a ++ [(spotT ds : Int)] ++ [1], rfl⟩)⟩
  | 2, _ => exact ⟨"ifnil", [.str "y", .list rest, .list inner], rfl, fits (by decide) (by decide) (by kernel_rfl), rep, by omega, .inr (.inr ⟨a ++ [(spotT ds : Int)] ++ [0], rfl⟩)⟩
  | 3, _ => exact ⟨"ifsame", [.str "x", .str "y", .list rest, .list inner], rfl, fits (by decide) (by decide) (by kernel_rfl), rep, by omega, .inr (.inr ⟨a ++ [(spotT ds : Int)] ++ [0], rfl⟩)⟩
theorem runs_blk (ok : CsOk cs) : ∀ (dep : Nat) (ds : List Int) (a : List Int) (nd : Nat) (rep : Int), nd + dep ≤ 60 → rep + dep ≤ 3 → RunsL (scB cs) [⟨.list (blkT dep ds none).1, a, nd, rep, 0⟩] (5 + 10 * dep) (4 + 8 * dep)
  | 0, ds, a, nd, rep, hn, hr => runs_leaf ok (by omega) (by omega)
  | dep + 1, ds, a, nd, rep, hn, hr => by
    unfold blkT
    split
    · unfold nodeT
      dsimp only
      obtain ⟨s, es, e1, hw, rep', r1, hp⟩ := way_ok (cs := cs) (ds := ds) (a := a) (rep := rep) (nd := nd) (by omega) (by omega) (inner := (blkT dep (rotT 12 ds) none).1) (rest := (leafT (rotT 17 ds) none).1)
      rw [e1]
      have ih := fun a => runs_blk ok dep (rotT 12 ds) a (nd + 1) rep' (by omega) (by omega)
      have lf := fun a => runs_leaf (ds := rotT 17 ds) (a := a) (nd := nd + 1) (rep := rep') ok (by omega) (by omega)
      rcases hp with hp | ⟨p, hp⟩ | ⟨p, hp⟩
      · exact (runs_put (by omega) hw (by rw [hp]; exact ih _)).le (by omega) (by omega)
      · exact (runs_put (by omega) hw (by rw [hp]; exact (ih _).app (lf _))).le (by omega) (by omega)
      · exact (runs_put (by omega) hw (by rw [hp]; exact (lf _).app (ih _))).le (by omega) (by omega)
    · exact (runs_leaf ok (by omega) (by omega)).le (by omega) (by omega)
/-! ### invalid ones -/
/-- a statement that is refused, wherever it stands in a block -/
def Badly (st : PyData) (rest : List Int) : Prop := ∀ (cs : Cl), CsOk cs → ∀ (ds a : List Int) (nd : Nat) (rep : Int), nd ≤ 59 → rep ≤ 2 → FailsL (scB cs) [⟨.list (putT ds st), a, nd, rep, 0⟩] 10 (a ++ ((spotT ds : Int) :: rest))
theorem fails_blk2 (ok : CsOk cs) {st : PyData} {rest : List Int} (hb : Badly st rest) : ∀ (dep : Nat) (ds : List Int) (a : List Int) (nd : Nat) (rep : Int), nd + dep ≤ 59 → rep + dep ≤ 2 → FailsL (scB cs) [⟨.list (blkT dep ds (some (st, rest))).1, a, nd, rep, 0⟩] (10 + 9 * dep) (a ++ (blkT dep ds (some (st, rest))).2)
  | 0, ds, a, nd, rep, hn, hr => hb cs ok ds a nd rep (by omega) (by omega)
  | dep + 1, ds, a, nd, rep, hn, hr => by
    unfold blkT
    split
    · unfold nodeT
      dsimp only
      obtain ⟨s, es, e1, hw, rep', r1, hp⟩ := way_ok (cs := cs) (ds := ds) (a := a) (rep := rep) (nd := nd) (by omega) (by omega) (inner := (blkT dep (rotT 12 ds) (some (st, rest))).1) (rest := (leafT (rotT 17 ds) none).1)
      rw [e1]
      have ih := fun a => fails_blk2 ok hb dep (rotT 12 ds) a (nd + 1) rep' (by omega) (by omega)
      have lf := fun a => runs_leaf (ds := rotT 17 ds) (a := a) (nd := nd + 1) (rep := rep') ok (by omega) (by omega)
      have z := ih (a ++ [(spotT ds : Int)] ++ (wayT ds (blkT dep (rotT 12 ds) (some (st, rest))).1 (leafT (rotT 17 ds) none).1).2)
      have ep : ∀ x y : List Int, a ++ [(spotT ds : Int)] ++ x ++ y = a ++ ((spotT ds : Int) :: (x ++ y)) := fun x y => by simp
      rw [ep] at z
      rcases hp with hp | ⟨p, hp⟩ | ⟨p, hp⟩
      · exact (fails_put (by omega) hw (by rw [hp]; exact z)).le (by omega)
      · exact (fails_put (by omega) hw (by rw [hp]; exact z.left (gs := [_]))).le (by omega)
      · exact (fails_put (by omega) hw (by rw [hp]; exact FailsL.right (lf p) z)).le (by omega)
    · exact (hb cs ok ds a nd rep (by omega) (by omega)).le (by omega)
end
end K1

set_option Elab.async false
set_option linter.all false
set_option maxRecDepth 100000
set_option maxHeartbeats 4000000
namespace K1
open PySem L2
/-! ### invalid statements -/
def badL : List PyData := [.none, .tuple [], .list [], .tuple [.str "new", .str "x"], .tuple [.str "new", .str "x", .str "leaf"], .tuple [.str "new", .str "q", .str "node"], .tuple [.str "copy", .str "x", .none], .tuple [.str "clear"],
  .tuple [.str "load", .str "x", .str "y", .str "right"], .tuple [.str "store", .str "x", .str "y", .str "left"], .tuple [.str "wipe", .str "x", .int 0], .tuple [.str "tag", .str "x", .str "Red"],
  .tuple [.str "emit", .str "w"], .tuple [.str "weak", .str "x", .str "x"], .tuple [.str "get", .str "w", .str "x"], .tuple [.str "collect", .int 2], .tuple [.str "collect", .bool true], .str "emit",
  .tuple [.str "repeat", .int (0 - 1), .list []], .tuple [.str "repeat", .int (10 ^ 30 + 1), .list []], .tuple [.str "repeat", .bool true, .list []], .tuple [.str "repeat", .int 2],
  .tuple [.str "ifnil", .str "x", .list []], .tuple [.str "ifnil", .str "q", .list [], .list []], .tuple [.str "ifsame", .str "x", .list [], .list []], .tuple [.str "ifsame", .str "x", .str "q", .list [], .list []],
  .tuple [.str "call", .str "x", .str "none", .list []], .tuple [.str "call", .str "x", .str "build", .list [.str "x"]], .tuple [.str "call", .str "q", .str "build", .list [.str "x", .str "y"]],
  .tuple [.str "call", .none, .str "build", .tuple [.str "x", .str "y"]], .tuple [.str "call", .str "x", .str "mute", .list []], .tuple [.str "sleep", .str "x"], .tuple [.int 5, .str "x"],
  .tuple [.str "emit", .list [.str "x"]], .tuple [.str "new", .str "x", .dict []], .tuple [.str "call", .str "x", .list [.str "build"], .list []], .tuple [.str "repeat", .str "3", .list []],
  .list [.str "emit", .str "x"], .tuple [.str "clear", .str "x", .str "y"]]
def badB (st : PyData) : Bool := match st with
  | .tuple (.str s :: es) => decide (s ≠ "call") && !wordsT (scB []) s es 0
  | _ => true
section
variable {cs : Cl} {rep : Int}
theorem badB_is {st : PyData} (h : badB st = true) : formT (scB cs) st rep = false := by
  unfold badB at h
  split at h
  · rename_i s es
    rw [Bool.and_eq_true] at h
    obtain ⟨h1, h2⟩ := h
    refine words_not (of_decide_eq_true h1) ?_
    cases q : wordsT (scB []) s es 0 with
    | false => rfl
    | true => rw [q] at h2; cases h2
  · unfold formT
    split
    · rename_i s es hno
      exact absurd rfl (hno s es)
    · rfl
theorem bad_all : ∀ k < 39, badB (badL.getD k .none) = true ∨ k = 26 ∨ k = 27 ∨ k = 28 ∨ k = 29 ∨ k = 30 ∨ k = 35 := by decide +kernel
theorem bad_form (ok : CsOk cs) {k : Nat} (hk : k < 39) : formT (scB cs) (badL.getD k .none) rep = false := by
  rcases bad_all k hk with h | rfl | rfl | rfl | rfl | rfl | rfl
  · exact badB_is h
  · show callN (scB cs) (.str "x") (.str "none") (.list []) rep = false
    unfold callN
    dsimp only
    rw [show (scB cs).cs = cs from rfl, ok.none]
  · show callN (scB cs) (.str "x") (.str "build") (.list [.str "x"]) rep = false
    unfold callN
    dsimp only
    rw [show (scB cs).cs = cs from rfl, ok.build]
    rfl
  · show callN (scB cs) (.str "q") (.str "build") (.list [.str "x", .str "y"]) rep = false
    unfold callN
    dsimp only
    rw [show (scB cs).cs = cs from rfl, ok.build]
    rfl
  · show callN (scB cs) .none (.str "build") (.tuple [.str "x", .str "y"]) rep = false
    unfold callN
    dsimp only
    rw [show (scB cs).cs = cs from rfl, ok.build]
    rfl
  · show callN (scB cs) (.str "x") (.str "mute") (.list []) rep = false
    unfold callN
    dsimp only
    rw [show (scB cs).cs = cs from rfl, ok.mute]
    rfl
  · rfl
theorem badly_form {k : Nat} (hk : k < 39) : Badly (badL.getD k .none) [] := fun cs ok ds a nd rep hn hr => (fails_put_here (by omega) (bad_form ok hk)).le (by omega)
/-! invalid blocks within -/
def thL : List PyData := [.none, .tuple [.str "emit", .str "x"], .tuple [], .str "emit", .dict [], .int 5]
theorem th_not {k : Nat} (hk : k < 6) (ds : List PyData) : thL.getD k .none ≠ .list ds := by
  match k, hk with
  | 0, _ | 1, _ | 2, _ | 3, _ | 4, _ | 5, _ => exact fun z => by cases z
def innL (t : PyData) : List (PyData × List Int) := [(.tuple [.str "repeat", .int 2, t], []), (.tuple [.str "ifnil", .str "x", t, .list []], [0]), (.tuple [.str "ifnil", .str "x", .list [], t], [1]), (.tuple [.str "ifsame", .str "x", .str "y", .list [], t], [1])]
theorem badly_inner {t : PyData} (ht : ∀ ds, t ≠ .list ds) {j : Nat} (hj : j < 4) : Badly ((innL t).getD j (.none, [])).1 ((innL t).getD j (.none, [])).2 := fun cs ok ds a nd rep hn hr => by
  have fits : ∀ {s : Str} {es : List PyData}, s ≠ "call" → s ≠ "repeat" → wordsT (scB []) s es 0 = true → wordsT (scB cs) s es rep = true := fun h1 h2 h3 => by rw [words_cs h1 h2]; exact h3
  have e1 : ∀ x : Int, a ++ [(spotT ds : Int)] ++ [x] = a ++ ((spotT ds : Int) :: [x]) := fun x => by simp
  have nilR : ∀ p : List Int, RunsL (scB cs) [⟨.list [], p, nd + 1, rep, 0⟩] 1 0 := fun p => runs_end (by omega) rfl
  match j, hj with
  | 0, _ =>
    refine (fails_put (s := "repeat") (es := [.int 2, t]) (by omega) ?_ (K := 1) ?_).le (by omega)
    · unfold wordsT
      rw [if_neg (by decide)]
      have fl : forms.lookup ("repeat" : Str) = some (["times", "block"] : List Str) := by decide +kernel
      rw [fl]
      dsimp only
      rw [show decide (rep = 3) = false from decide_eq_false (by omega), Bool.and_false]
      kernel_rfl
    · have e : pushT "repeat" [.int 2, t] (a ++ [(spotT ds : Int)]) nd rep = [⟨t, a ++ [(spotT ds : Int)] ++ [], nd + 1, rep + 1, 0⟩] := rfl
      rw [e]
      show FailsL (scB cs) [⟨t, a ++ [(spotT ds : Int)] ++ [], nd + 1, rep + 1, 0⟩] 1 (a ++ [(spotT ds : Int)])
      rw [List.append_nil]
      exact fails_blk (by omega) ht
  | 1, _ =>
    refine (fails_put (s := "ifnil") (es := [.str "x", t, .list []]) (by omega) (fits (by decide) (by decide) (by kernel_rfl)) (K := 1) ?_).le (by omega)
    have z := fails_blk (sc := scB cs) (a := a ++ [(spotT ds : Int)] ++ [0]) (nd := nd + 1) (rep := rep) (b := t) (by omega) ht
    have z := z.left (gs := [⟨.list [], a ++ [(spotT ds : Int)] ++ [1], nd + 1, rep, 0⟩])
    have e : pushT "ifnil" [.str "x", t, .list []] (a ++ [(spotT ds : Int)]) nd rep = [⟨t, a ++ [(spotT ds : Int)] ++ [0], nd + 1, rep, 0⟩] ++ [⟨.list [], a ++ [(spotT ds : Int)] ++ [1], nd + 1, rep, 0⟩] := rfl
    rw [e]
    show FailsL (scB cs) _ 1 (a ++ ((spotT ds : Int) :: [0]))
    rw [← e1 0]
    exact z
  | 2, _ =>
    refine (fails_put (s := "ifnil") (es := [.str "x", .list [], t]) (by omega) (fits (by decide) (by decide) (by kernel_rfl)) (K := 2) ?_).le (by omega)
    have z := FailsL.right (nilR (a ++ [(spotT ds : Int)] ++ [0])) (fails_blk (sc := scB cs) (a := a ++ [(spotT ds : Int)] ++ [1]) (nd := nd + 1) (rep := rep) (b := t) (by omega) ht)
    have e : pushT "ifnil" [.str "x", .list [], t] (a ++ [(spotT ds : Int)]) nd rep = [⟨.list [], a ++ [(spotT ds : Int)] ++ [0], nd + 1, rep, 0⟩] ++ [⟨t, a ++ [(spotT ds : Int)] ++ [1], nd + 1, rep, 0⟩] := rfl
    rw [e]
    show FailsL (scB cs) _ 2 (a ++ ((spotT ds : Int) :: [1]))
    rw [← e1 1]
    exact z
  | 3, _ =>
    refine (fails_put (s := "ifsame") (es := [.str "x", .str "y", .list [], t]) (by omega) (fits (by decide) (by decide) (by kernel_rfl)) (K := 2) ?_).le (by omega)
    have z := FailsL.right (nilR (a ++ [(spotT ds : Int)] ++ [0])) (fails_blk (sc := scB cs) (a := a ++ [(spotT ds : Int)] ++ [1]) (nd := nd + 1) (rep := rep) (b := t) (by omega) ht)
    have e : pushT "ifsame" [.str "x", .str "y", .list [], t] (a ++ [(spotT ds : Int)]) nd rep = [⟨.list [], a ++ [(spotT ds : Int)] ++ [0], nd + 1, rep, 0⟩] ++ [⟨t, a ++ [(spotT ds : Int)] ++ [1], nd + 1, rep, 0⟩] := rfl
    rw [e]
    show FailsL (scB cs) _ 2 (a ++ ((spotT ds : Int) :: [1]))
    rw [← e1 1]
    exact z
/-! ### the program of a body and an inner function -/
def fuel : Nat := 100
def headsT2 (inner : PyData) : PyData := .list [.tuple [.str "build", .list [.str "x", .str "y"], .list [], .list [.tuple [.str "emit", .str "x"]], .str "x"], .tuple [.str "mute", .list [], .list [], .list [], .none], .tuple [.str "inner", .list [.str "x", .str "y"], .list [], inner, .none]]
def prog2 (b inner : PyData) : Option PRes := progT 3 fuel rows2 ns2 ls2 [2] b (headsT2 inner)
def cs0 : Cl := [("build", (2, true, 0)), ("mute", (0, false, 0))]
theorem cs0_ok : CsOk cs0 := ⟨rfl, rfl, rfl⟩
def cs1 (dp : Int) : Cl := cs0 ++ [(("inner" : Str), ((2 : Int), false, dp))]
theorem cs1_ok (dp : Int) : CsOk (cs1 dp) := ⟨rfl, rfl, rfl⟩
def FineB (b : PyData) : Prop := ∀ cs, CsOk cs → RunsL (scB cs) [⟨b, [], 0, 0, 0⟩] 60 25
def BadB (b : PyData) (pl : List Int) : Prop := ∀ cs, CsOk cs → FailsL (scB cs) [⟨b, [], 0, 0, 0⟩] 60 pl
theorem fine_run {b : PyData} (h : FineB b) (ok : CsOk cs) : ∃ (m : Nat) (d : Int), m ≤ 25 ∧ runT (scB cs) fuel [⟨b, [], 0, 0, 0⟩] 0 0 = some (none, (m : Int), d) := by
  obtain ⟨k, m, g, h1, h2, h3⟩ := h cs ok
  refine ⟨m, g 0, h2, ?_⟩
  have := h3 (fuel - k) [] 0 0
  rw [show fuel - k + k = fuel from by unfold fuel; omega, runT_nil, Int.zero_add] at this
  exact this
theorem bad_run {b : PyData} {pl : List Int} (h : BadB b pl) (ok : CsOk cs) : ∃ m d, runT (scB cs) fuel [⟨b, [], 0, 0, 0⟩] 0 0 = some (some pl, m, d) := by
  obtain ⟨k, h1, h3⟩ := h cs ok
  obtain ⟨m, d, e⟩ := h3 (fuel - k) [] 0 0
  rw [show fuel - k + k = fuel from by unfold fuel; omega] at e
  exact ⟨m, d, e⟩
theorem heads_run (b inner : PyData) : prog2 b inner = (match funT (envOf rows2 ls2 [2]) fuel [.tuple [.str "inner", .list [.str "x", .str "y"], .list [], inner, .none]] 2 cs0 1 with
    | some (.bad l) => some (.bad "functions" (.tuple (l.map PyData.int)))
    | some (.ok cs many) => bodyT 3 fuel rows2 ns2 ls2 [2] b [.tuple [.str "build", .list [.str "x", .str "y"], .list [], .list [.tuple [.str "emit", .str "x"]], .str "x"], .tuple [.str "mute", .list [], .list [], .list [], .none], .tuple [.str "inner", .list [.str "x", .str "y"], .list [], inner, .none]] cs many
    | none => none) := by kernel_rfl
theorem inner_run (inner : PyData) : funT (envOf rows2 ls2 [2]) fuel [.tuple [.str "inner", .list [.str "x", .str "y"], .list [], inner, .none]] 2 cs0 1 = (match runT (scB cs0) fuel [⟨inner, [], 0, 0, 0⟩] 0 0 with
    | some (some pl, _, _) => some (.bad ((2 : Int) :: pl))
    | some (none, m, dp) => some (.ok (cs1 dp) (1 + m))
    | none => none) := by kernel_rfl
theorem prog_fn {b inner : PyData} {pl : List Int} (h : BadB inner pl) : prog2 b inner = some (.bad "functions" (.tuple (((2 : Int) :: pl).map PyData.int))) := by
  obtain ⟨m, d, e⟩ := bad_run h cs0_ok
  rw [heads_run, inner_run, e]
theorem prog_body {b inner : PyData} {pl : List Int} (hi : FineB inner) (h : BadB b pl) : prog2 b inner = some (.bad "body" (.tuple (pl.map PyData.int))) := by
  obtain ⟨m, d, _, e⟩ := fine_run hi cs0_ok
  rw [heads_run, inner_run, e]
  dsimp only
  obtain ⟨m', d', e'⟩ := bad_run h (cs1_ok d)
  unfold bodyT
  rw [show scoOf rows2 ns2 ls2 (([2] : List Int).length : Nat) (cs1 d) = scB (cs1 d) from rfl, e']
theorem prog_ok {bs is : List PyData} (hi : FineB (.list is)) (h : FineB (.list bs)) (c1 : cpB 3 (.list bs) = true) (c2 : cpB 3 (.list is) = true) : prog2 (.list bs) (.list is) = some .ok := by
  obtain ⟨m, d, l1, e⟩ := fine_run hi cs0_ok
  rw [heads_run, inner_run, e]
  dsimp only
  obtain ⟨m', d', l2, e'⟩ := fine_run h (cs1_ok d)
  unfold bodyT
  rw [show scoOf rows2 ns2 ls2 (([2] : List Int).length : Nat) (cs1 d) = scB (cs1 d) from rfl, e']
  dsimp only
  rw [if_neg (by omega), if_pos]
  rw [show isL (.list bs) = true from rfl, c1, Bool.true_and, Bool.true_and, List.all_cons, List.all_cons, List.all_cons, List.all_nil]
  have f3 : cpF 3 (.tuple [.str "inner", .list [.str "x", .str "y"], .list [], .list is, .none]) = cpB 3 (.list is) := by kernel_rfl
  rw [f3, c2]
  kernel_rfl
/-! what is made of digits -/
theorem fine_blk (ds : List Int) : FineB (.list (blkT 2 ds none).1) := fun cs ok => (runs_blk ok 2 ds [] 0 0 (by decide) (by decide)).le (by decide) (by decide)
theorem bad_blk {st : PyData} {rest : List Int} (hb : Badly st rest) (ds : List Int) : BadB (.list (blkT 2 ds (some (st, rest))).1) (blkT 2 ds (some (st, rest))).2 := fun cs ok => (fails_blk2 ok hb 2 ds [] 0 0 (by decide) (by decide)).le (by decide)
theorem bad_thing {t : PyData} (ht : ∀ ds, t ≠ .list ds) : BadB t [] := fun cs ok => (fails_blk (by decide) ht).le (by decide)
theorem fine_nil : FineB (.list []) := fun cs ok => (runs_end (by decide) rfl).le (by decide) (by decide)
end
end K1

set_option Elab.async false
set_option linter.all false
set_option maxRecDepth 100000
set_option maxHeartbeats 8000000
namespace K1
open PySem L2
/-! ### what can be copied -/
theorem cpW_mono {f g : PyData → Bool} (h : ∀ d, f d = true → g d = true) {s : Str} {e : PyData} (c : cpW f s e = true) : cpW g s e = true := by
  unfold cpW at c ⊢
  split at c
  · by_cases e : s = "call"
    · rw [if_pos e] at c ⊢
      exact c
    · rw [if_neg e] at c ⊢
      exact h _ c
  · exact c
theorem cpS_mono {f g : PyData → Bool} (h : ∀ d, f d = true → g d = true) {st : PyData} (c : cpS f st = true) : cpS g st = true := by
  obtain ⟨s, ds, rfl, h1, h2⟩ := cpS_is c
  show (decide (ds.length ≤ 900) && ds.all (cpW g s)) = true
  rw [decide_eq_true h1, Bool.true_and, List.all_eq_true]
  exact fun e he => cpW_mono h (h2 e he)
theorem cpB_mono : ∀ k d, cpB k d = true → cpB (k + 1) d = true
  | 0, d, h => by cases h
  | k + 1, d, h => by
    cases d with
    | list ds =>
      obtain ⟨h1, h2⟩ := cpB_is h
      show (decide (ds.length ≤ 900) && ds.all (cpS (cpB (k + 1)))) = true
      rw [decide_eq_true h1, Bool.true_and, List.all_eq_true]
      exact fun e he => cpS_mono (cpB_mono k) (h2 e he)
    | _ => cases h
theorem cpB_up {d : PyData} : ∀ {k j : Nat}, k ≤ j → cpB k d = true → cpB j d = true
  | k, 0, h, c => by
    rw [Nat.le_zero.mp h] at c
    exact c
  | k, j + 1, h, c => by
    by_cases e : k = j + 1
    · rw [← e]
      exact c
    · exact cpB_mono j d (cpB_up (by omega) c)
theorem cp_put {ds : List Int} {st : PyData} {k : Nat} (h : cpS (cpB k) st = true) : cpB (k + 1) (.list (putT ds st)) = true := by
  obtain ⟨pre, post, e, e1, e2, e3, e4⟩ := put_form (ds := ds) st
  rw [e]
  show (decide ((pre ++ st :: post).length ≤ 900) && (pre ++ st :: post).all (cpS (cpB k))) = true
  rw [decide_eq_true (by rw [List.length_append, List.length_cons]; omega), Bool.true_and, List.all_eq_true]
  intro d hd
  have up : ∀ d, cpS (cpB 0) d = true → cpS (cpB k) d = true := fun d c => cpS_mono (fun d z => by cases z) c
  rw [List.mem_append, List.mem_cons] at hd
  rcases hd with hd | rfl | hd
  · exact up d (e3 d hd).2
  · exact h
  · exact up d (e4 d hd).2
theorem cp_leaf (ds : List Int) : cpB 1 (.list (leafT ds none).1) = true := by
  refine cp_put (k := 0) ?_
  unfold callD2
  have lt := dgN_lt ds 15 (show 0 < 2 by decide)
  match dgN ds 15 2, lt with
  | 0, _ => decide +kernel
  | 1, _ => decide +kernel
theorem cp_blk : ∀ (dep : Nat) (ds : List Int), cpB (dep + 1) (.list (blkT dep ds none).1) = true
  | 0, ds => cp_leaf ds
  | dep + 1, ds => by
    unfold blkT
    split
    · unfold nodeT
      dsimp only
      refine cp_put ?_
      have h1 := cp_blk dep (rotT 12 ds)
      have h2 : cpB (dep + 1) (.list (leafT (rotT 17 ds) none).1) = true := cpB_up (by omega) (cp_leaf _)
      generalize (blkT dep (rotT 12 ds) none).1 = x at h1
      generalize (leafT (rotT 17 ds) none).1 = y at h2
      have w : ∀ (s : Str) (es : List PyData), es.length ≤ 900 → s ≠ "call" → (∀ e ∈ es, scaT e = true ∨ (∃ z, e = .list z ∧ cpB (dep + 1) e = true)) → (∀ e ∈ es, scaT e = true → ∀ z, e ≠ .list z) → cpS (cpB (dep + 1)) (.tuple (.str s :: es)) = true := fun s es l hs h _ => by
        show (decide (es.length ≤ 900) && es.all (cpW (cpB (dep + 1)) s)) = true
        rw [decide_eq_true l, Bool.true_and, List.all_eq_true]
        intro e he
        rcases h e he with c | ⟨z, rfl, c⟩
        · cases e with
          | list z => cases c
          | _ => exact c
        · show (if s = "call" then z.all scaT else cpB (dep + 1) (.list z)) = true
          rw [if_neg hs]
          exact c
      have sca : ∀ (e : PyData), scaT e = true → ∀ z, e ≠ .list z := fun e c z q => by rw [q] at c; cases c
      have tm : scaT (timesD ds) = true := by
        have l3 := dgN_lt ds 14 (show 0 < 3 by decide)
        unfold timesD
        match dgN ds 14 3, l3 with
        | 0, _ | 1, _ | 2, _ => rfl
      unfold wayT
      split
      · refine w _ _ (by show 2 ≤ 900; decide) (by decide) (fun e he => ?_) (fun e _ => sca e)
        simp only [List.mem_cons, List.not_mem_nil, or_false] at he
        rcases he with rfl | rfl
        · exact .inl tm
        · exact .inr ⟨_, rfl, h1⟩
      split
      · refine w _ _ (by show 3 ≤ 900; decide) (by decide) (fun e he => ?_) (fun e _ => sca e)
        simp only [List.mem_cons, List.not_mem_nil, or_false] at he
        rcases he with rfl | rfl | rfl
        · exact .inl rfl
        · exact .inr ⟨_, rfl, h1⟩
        · exact .inr ⟨_, rfl, h2⟩
      split
      · refine w _ _ (by show 3 ≤ 900; decide) (by decide) (fun e he => ?_) (fun e _ => sca e)
        simp only [List.mem_cons, List.not_mem_nil, or_false] at he
        rcases he with rfl | rfl | rfl
        · exact .inl rfl
        · exact .inr ⟨_, rfl, h2⟩
        · exact .inr ⟨_, rfl, h1⟩
      · refine w _ _ (by show 4 ≤ 900; decide) (by decide) (fun e he => ?_) (fun e _ => sca e)
        simp only [List.mem_cons, List.not_mem_nil, or_false] at he
        rcases he with rfl | rfl | rfl | rfl
        · exact .inl rfl
        · exact .inl rfl
        · exact .inr ⟨_, rfl, h2⟩
        · exact .inr ⟨_, rfl, h1⟩
    · exact cpB_up (by omega) (cp_leaf ds)
/-! ### the law's own defs -/
section
variable {σ : St} {H1 : Hp} {t u : TE} {i j : Int} {K : PySem.W.Frag}
theorem ve_pow (h : VE t (.int i) σ H1) (r : VE u (.int j) σ H1) (p : CPow i j) : VE (tOp (rI CPow fun i j => V.int (i ^ j.toNat)) t u) (.int (i ^ j.toNat)) σ H1 := fun H2 s Q q => h H2 s _ (r H2 s _ ⟨i, j, rfl, rfl, p, q⟩)
theorem dgN_eq (ds : List Int) (j : Nat) {m : Nat} (h : 0 < m) : ds.getD j 0 % (m : Int) = (dgN ds j m : Int) := by
  have h1 := Int.emod_nonneg (ds.getD j 0) (show (m : Int) ≠ 0 by omega)
  unfold dgN
  omega
theorem ve_lenT {s : Nat} {v : V} {ds : List PyData} (e : σ[s]? = some (some v)) (a : At H1 v (.list ds)) : VE (tCB (fun xs H Q => ∃ p ys, xs = [V.ref p] ∧ (SqL K H p ys ∨ SqT K H p ys) ∧ Q (V.int (ys.length : Nat)) H) (tCons (tVar s) tNil)) (.int (ds.length : Nat)) σ H1 := by
  obtain ⟨p, xs, rfl, hp, as⟩ := at_l a
  rw [← as.len]
  exact ve_len e hp
end
/-- a statement and what stands behind its place -/
def pairD (q : PyData × List Int) : PyData := .tuple [q.1, .tuple (q.2.map PyData.int)]
section
variable {P : Program} {w : World} {K : PySem.W.Frag} {mg : Str → Option Value} {base : Heap} {f : Addr} {fd : FuncData}
def spSimple : Sp := fun vs H Q _ => ∃ (dg : Addr) (ds : List Int), vs = [.ref dg] ∧ H dg = some (.lst (ds.map V.int)) ∧ 3 ≤ ds.length ∧ ∀ v H', Same H H' → At H' v (simpT ds) → Q v H'
theorem sc40 : FnScope ["_law_digits_here", "_law_one", "_law_other", "_law_some"] ["_law_digits_here"] (defScope (top 40)) := ⟨rfl, rfl, rfl, by decide +kernel, rfl, by decide +kernel, by decide +kernel⟩
theorem ok40 (F : Fun K "_law_simple" "_law_simple" (top 40) f fd) (B : Blt mg) : FnOk P w K mg base CX0 1 f fd ["_law_digits_here"] spSimple := by
  refine F.ok sc40 (fun vs H Q E h => ?_) (fun cdv A outer s H vs Q E hr h => ?_)
  · obtain ⟨dg, ds, rfl, _⟩ := h
    rfl
  · obtain ⟨dg, ds, rfl, hdg, hlen, k⟩ := h
    refine ⟨_, (pss_mid (ps_par (i := 1) (j := 2) (by rfl) sc40.nd rfl rfl (by decide) rfl rfl (pa_cons (pe_ix ix_list (pe_lst (pa_cons pe_str (pa_cons pe_str pa_nil))) (pe_op op_mod (pe_callTy call_int1 rfl B.int PyProof.Rows.boot_int (pa_cons (pe_ix ix_list (pv 0) pe_int (fun _ _ => rfl)) pa_nil)) pe_int) (fun _ _ => rfl)) (pa_cons (pe_ix ix_list (pe_lst (pa_cons pe_str (pa_cons pe_str pa_nil))) (pe_op op_mod (pe_callTy call_int1 rfl B.int PyProof.Rows.boot_int (pa_cons (pe_ix ix_list (pv 0) pe_int (fun _ _ => rfl)) pa_nil)) pe_int) (fun _ _ => rfl)) pa_nil)) (by rfl))
      (pss_mid (ps_set (i := 3) sc40.nd rfl (Or.inl rfl) (pe_lst (pa_cons (pe_tup (pa_cons pe_str (pa_cons (pv 1) (pa_cons pe_str pa_nil)))) (pa_cons (pe_tup (pa_cons pe_str (pa_cons (pv 1) (pa_cons (pv 2) pa_nil)))) (pa_cons (pe_tup (pa_cons pe_str (pa_cons (pv 1) pa_nil))) (pa_cons (pe_tup (pa_cons pe_str (pa_cons (pv 1) (pa_cons (pv 2) (pa_cons pe_str pa_nil))))) pa_nil))))))
      (pss_mid (ps_set (i := 3) sc40.nd rfl (Or.inl rfl) (pe_op op_cat (pv 3) (pe_lst (pa_cons (pe_tup (pa_cons pe_str (pa_cons (pv 1) (pa_cons pe_str (pa_cons (pv 2) pa_nil))))) (pa_cons (pe_tup (pa_cons pe_str (pa_cons (pv 1) (pa_cons pe_str pa_nil)))) (pa_cons (pe_tup (pa_cons pe_str (pa_cons (pv 1) (pa_cons pe_str pa_nil)))) (pa_cons (pe_tup (pa_cons pe_str (pa_cons (pv 1) pa_nil))) pa_nil)))))))
      (pss_one (ps_ret (pe_ix ix_list (pe_op op_cat (pv 3) (pe_lst (pa_cons (pe_tup (pa_cons pe_str (pa_cons pe_str (pa_cons (pv 1) pa_nil)))) (pa_cons (pe_tup (pa_cons pe_str (pa_cons (pv 1) (pa_cons pe_str pa_nil)))) (pa_cons (pe_tup (pa_cons pe_str (pa_cons (pe_op op_mod (pe_callTy call_int1 rfl B.int PyProof.Rows.boot_int (pa_cons (pe_ix ix_list (pv 0) pe_int (fun _ _ => rfl)) pa_nil)) pe_int) pa_nil))) pa_nil))))) (pe_op op_mod (pe_callTy call_int1 rfl B.int PyProof.Rows.boot_int (pa_cons (pe_ix ix_list (pv 0) pe_int (fun _ _ => rfl)) pa_nil)) pe_int) (fun _ _ => rfl))))))), ?_⟩
    have get : ∀ j, j < 3 → ds[j]? = some (ds.getD j 0) := fun j hj => by
      rw [List.getD_eq_getElem?_getD, List.getElem?_eq_getElem (by omega)]
      rfl
    have g0 := get 0 (by decide)
    have g1 := get 1 (by decide)
    have g2 := get 2 (by decide)
    have l0 := dgN_lt ds 0 (show 0 < 11 by decide)
    have l1 := dgN_lt ds 1 (show 0 < 2 by decide)
    have l2 := dgN_lt ds 2 (show 0 < 2 by decide)
    have q0 := dgN_eq ds 0 (show 0 < 11 by decide)
    have q1 := dgN_eq ds 1 (show 0 < 2 by decide)
    have q2 := dgN_eq ds 2 (show 0 < 2 by decide)
    have k : ∀ v H', Same H H' → At H' v (simpN (dgN ds 0 11) (dgN ds 1 2) (dgN ds 2 2)) → Q v H' := k
    generalize dgN ds 0 11 = n0 at l0 q0 k
    generalize dgN ds 1 2 = n1 at l1 q1 k
    generalize dgN ds 2 2 = n2 at l2 q2 k
    refine ⟨fun σ H2 => ∃ v w : V, σ = [some (.ref dg), some v, some w, none] ∧ Same H H2 ∧ At H2 v (xyD n1) ∧ At H2 w (xyD n2), ?_, ?_⟩
    · refine (dt_cons (L := []) (dt_ixL (n := n1) (ds := [PyData.str "x", .str "y"]) (dt_l (dl_lst (dl_cons dl_str (dl_cons dl_str dl_nil)) (by decide)) live_nil) (ve_mod (ve_dg (j := 1) rfl hdg g1 rfl) ve_int (by decide)) (getD_some (x := PyData.none) (by show n1 < 2; exact l1)) q1) (dt_cons (dt_ixL (n := n2) (ds := [PyData.str "x", .str "y"]) (dt_l (dl_lst (dl_cons dl_str (dl_cons dl_str dl_nil)) (by decide)) live_nil) (ve_mod (ve_dg (j := 2) rfl hdg g2 rfl) ve_int (by decide)) (getD_some (x := PyData.none) (by show n2 < 2; exact l2)) q2) dt_nil)) H (Same.refl _) _ fun vs H2 s2 av => ?_
      rw [hid_nil] at av
      cases av with
      | cons a1 av =>
      cases av with
      | cons a2 av =>
      cases av
      exact ⟨_, _, rfl, _, _, rfl, s2, a1, a2⟩
    rintro σ H1 ⟨v1, v2, rfl, s1, ao, aq⟩
    have ho : At (hid [] H1) v1 (xyD n1) := by rw [hid_nil]; exact ao
    have hq : At (hid [] H1) v2 (xyD n2) := by rw [hid_nil]; exact aq
    refine ⟨fun σ H2 => ∃ v : V, σ = [some (.ref dg), some v1, some v2, some v] ∧ Same H1 H2 ∧ At H2 v (.list ((simpsL n1 n2).take 4)), ?_, ?_⟩
    · exact set_dt (L := []) (d := .list ((simpsL n1 n2).take 4)) (dt_lst live_nil (dt_cons (dt_tup live_nil (dt_cons (dt_l dl_str live_nil) (dt_cons (dt_var rfl ho) (dt_cons (dt_l dl_str live_nil) dt_nil))) (by show 3 ≤ sizeLine; decide)) (dt_cons (dt_tup live_nil (dt_cons (dt_l dl_str live_nil) (dt_cons (dt_var rfl ho) (dt_cons (dt_var rfl hq) dt_nil))) (by show 3 ≤ sizeLine; decide)) (dt_cons (dt_tup live_nil (dt_cons (dt_l dl_str live_nil) (dt_cons (dt_var rfl ho) dt_nil)) (by show 2 ≤ sizeLine; decide)) (dt_cons (dt_tup live_nil (dt_cons (dt_l dl_str live_nil) (dt_cons (dt_var rfl ho) (dt_cons (dt_var rfl hq) (dt_cons (dt_l dl_str live_nil) dt_nil)))) (by show 4 ≤ sizeLine; decide)) dt_nil)))) (by show 4 ≤ sizeLine; decide)) fun v H2 s2 a => ⟨v, rfl, s2, by rw [hid_nil] at a; exact a⟩
    rintro σ H2 ⟨v3, rfl, s2, a3⟩
    have ho : At (hid [] H2) v1 (xyD n1) := by rw [hid_nil]; exact ao.mono s2
    have hq : At (hid [] H2) v2 (xyD n2) := by rw [hid_nil]; exact aq.mono s2
    refine ⟨fun σ H3 => ∃ v : V, σ = [some (.ref dg), some v1, some v2, some v] ∧ Same H2 H3 ∧ At H3 v (.list ((simpsL n1 n2).take 8)), ?_, ?_⟩
    · exact set_dt (L := []) (d := .list ((simpsL n1 n2).take 8)) (dt_cat (ds := (simpsL n1 n2).take 4) live_nil (dt_var rfl (by rw [hid_nil]; exact a3)) (dt_lst live_nil (dt_cons (dt_tup live_nil (dt_cons (dt_l dl_str live_nil) (dt_cons (dt_var rfl ho) (dt_cons (dt_l dl_str live_nil) (dt_cons (dt_var rfl hq) dt_nil)))) (by show 4 ≤ sizeLine; decide)) (dt_cons (dt_tup live_nil (dt_cons (dt_l dl_str live_nil) (dt_cons (dt_var rfl ho) (dt_cons (dt_l dl_str live_nil) dt_nil))) (by show 3 ≤ sizeLine; decide)) (dt_cons (dt_tup live_nil (dt_cons (dt_l dl_str live_nil) (dt_cons (dt_var rfl ho) (dt_cons (dt_l dl_str live_nil) dt_nil))) (by show 3 ≤ sizeLine; decide)) (dt_cons (dt_tup live_nil (dt_cons (dt_l dl_str live_nil) (dt_cons (dt_var rfl ho) dt_nil)) (by show 2 ≤ sizeLine; decide)) dt_nil)))) (by show 4 ≤ sizeLine; decide)) (by show 4 + 4 ≤ sizeLine; decide)) fun v H2 s2 a => ⟨v, rfl, s2, by rw [hid_nil] at a; exact a⟩
    rintro σ H3 ⟨v4, rfl, s3, a4⟩
    have ho : At (hid [] H3) v1 (xyD n1) := by rw [hid_nil]; exact (ao.mono s2).mono s3
    have hq : At (hid [] H3) v2 (xyD n2) := by rw [hid_nil]; exact (aq.mono s2).mono s3
    have s03 := s1.trans (s2.trans s3)
    have hdg2 := s03 _ _ hdg
    refine (dt_ixL (L := []) (n := n0) (ds := simpsL n1 n2) (d := simpN n0 n1 n2) (dt_cat (ds := (simpsL n1 n2).take 8) (es := (simpsL n1 n2).drop 8) live_nil (dt_var rfl (by rw [hid_nil]; exact a4)) (by
      have e : (simpsL n1 n2).drop 8 = [.tuple [.str "weak", .str "w", xyD n1], .tuple [.str "get", xyD n1, .str "w"], .tuple [.str "collect", .int (ds.getD 2 0 % 2)]] := by
        rw [show ds.getD 2 0 % 2 = (n2 : Int) from q2]
        rfl
      rw [e]
      exact (dt_lst live_nil (dt_cons (dt_tup live_nil (dt_cons (dt_l dl_str live_nil) (dt_cons (dt_l dl_str live_nil) (dt_cons (dt_var rfl ho) dt_nil))) (by show 3 ≤ sizeLine; decide)) (dt_cons (dt_tup live_nil (dt_cons (dt_l dl_str live_nil) (dt_cons (dt_var rfl ho) (dt_cons (dt_l dl_str live_nil) dt_nil))) (by show 3 ≤ sizeLine; decide)) (dt_cons (dt_tup live_nil (dt_cons (dt_l dl_str live_nil) (dt_cons (dt_int (ve_mod (ve_dg (j := 2) rfl hdg2 g2 rfl) ve_int (by decide))) dt_nil)) (by show 2 ≤ sizeLine; decide)) dt_nil))) (by show 3 ≤ sizeLine; decide))) (by show 8 + 3 ≤ sizeLine; decide)) (ve_mod (ve_dg (j := 0) rfl hdg2 g0 rfl) ve_int (by decide)) (getD_some (x := PyData.none) (by show n0 < 11; exact l0)) q0) H3 (Same.refl _) _ fun v H4 s4 a => ?_
    rw [hid_nil] at a
    exact k v H4 (s03.trans s4) a
def spBad : Sp := fun vs H Q _ => ∃ (dg : Addr) (ds : List Int), vs = [.ref dg] ∧ H dg = some (.lst (ds.map V.int)) ∧ 2 ≤ ds.length ∧ ∀ v H', Same H H' → At H' v (badL.getD (dgN ds 0 39) .none) → Q v H'
theorem sc41 : FnScope ["_law_digits_here", "_law_some"] ["_law_digits_here"] (defScope (top 41)) := ⟨rfl, rfl, rfl, by decide +kernel, rfl, by decide +kernel, by decide +kernel⟩
theorem ok41 (F : Fun K "_law_bad" "_law_bad" (top 41) f fd) (B : Blt mg) : FnOk P w K mg base CX0 1 f fd ["_law_digits_here"] spBad := by
  refine F.ok sc41 (fun vs H Q E h => ?_) (fun cdv A outer s H vs Q E hr h => ?_)
  · obtain ⟨dg, ds, rfl, _⟩ := h
    rfl
  · obtain ⟨dg, ds, rfl, hdg, hlen, k⟩ := h
    refine ⟨_, (pss_mid (ps_set (i := 1) sc41.nd rfl (Or.inl rfl) (pe_lst (pa_cons pe_non (pa_cons (pe_tup pa_nil) (pa_cons (pe_lst pa_nil) (pa_cons (pe_tup (pa_cons pe_str (pa_cons pe_str pa_nil))) (pa_cons (pe_tup (pa_cons pe_str (pa_cons pe_str (pa_cons pe_str pa_nil)))) (pa_cons (pe_tup (pa_cons pe_str (pa_cons pe_str (pa_cons pe_str pa_nil)))) (pa_cons (pe_tup (pa_cons pe_str (pa_cons pe_str (pa_cons pe_non pa_nil)))) (pa_cons (pe_tup (pa_cons pe_str pa_nil)) pa_nil))))))))))
      (pss_mid (ps_set (i := 1) sc41.nd rfl (Or.inl rfl) (pe_op op_cat (pv 1) (pe_lst (pa_cons (pe_tup (pa_cons pe_str (pa_cons pe_str (pa_cons pe_str (pa_cons pe_str pa_nil))))) (pa_cons (pe_tup (pa_cons pe_str (pa_cons pe_str (pa_cons pe_str (pa_cons pe_str pa_nil))))) (pa_cons (pe_tup (pa_cons pe_str (pa_cons pe_str (pa_cons pe_int pa_nil)))) (pa_cons (pe_tup (pa_cons pe_str (pa_cons pe_str (pa_cons pe_str pa_nil)))) pa_nil)))))))
      (pss_mid (ps_set (i := 1) sc41.nd rfl (Or.inl rfl) (pe_op op_cat (pv 1) (pe_lst (pa_cons (pe_tup (pa_cons pe_str (pa_cons pe_str pa_nil))) (pa_cons (pe_tup (pa_cons pe_str (pa_cons pe_str (pa_cons pe_str pa_nil)))) (pa_cons (pe_tup (pa_cons pe_str (pa_cons pe_str (pa_cons pe_str pa_nil)))) (pa_cons (pe_tup (pa_cons pe_str (pa_cons pe_int pa_nil))) (pa_cons (pe_tup (pa_cons pe_str (pa_cons pe_bl pa_nil))) (pa_cons pe_str pa_nil)))))))))
      (pss_mid (ps_set (i := 1) sc41.nd rfl (Or.inl rfl) (pe_op op_cat (pv 1) (pe_lst (pa_cons (pe_tup (pa_cons pe_str (pa_cons (pe_op op_sub pe_int pe_int) (pa_cons (pe_lst pa_nil) pa_nil)))) (pa_cons (pe_tup (pa_cons pe_str (pa_cons (pe_op op_add (pe_op op_pow pe_int pe_int) pe_int) (pa_cons (pe_lst pa_nil) pa_nil)))) (pa_cons (pe_tup (pa_cons pe_str (pa_cons pe_bl (pa_cons (pe_lst pa_nil) pa_nil)))) (pa_cons (pe_tup (pa_cons pe_str (pa_cons pe_int pa_nil))) pa_nil)))))))
      (pss_mid (ps_set (i := 1) sc41.nd rfl (Or.inl rfl) (pe_op op_cat (pv 1) (pe_lst (pa_cons (pe_tup (pa_cons pe_str (pa_cons pe_str (pa_cons (pe_lst pa_nil) pa_nil)))) (pa_cons (pe_tup (pa_cons pe_str (pa_cons pe_str (pa_cons (pe_lst pa_nil) (pa_cons (pe_lst pa_nil) pa_nil))))) (pa_cons (pe_tup (pa_cons pe_str (pa_cons pe_str (pa_cons (pe_lst pa_nil) (pa_cons (pe_lst pa_nil) pa_nil))))) (pa_cons (pe_tup (pa_cons pe_str (pa_cons pe_str (pa_cons pe_str (pa_cons (pe_lst pa_nil) (pa_cons (pe_lst pa_nil) pa_nil)))))) pa_nil)))))))
      (pss_mid (ps_set (i := 1) sc41.nd rfl (Or.inl rfl) (pe_op op_cat (pv 1) (pe_lst (pa_cons (pe_tup (pa_cons pe_str (pa_cons pe_str (pa_cons pe_str (pa_cons (pe_lst pa_nil) pa_nil))))) (pa_cons (pe_tup (pa_cons pe_str (pa_cons pe_str (pa_cons pe_str (pa_cons (pe_lst (pa_cons pe_str pa_nil)) pa_nil))))) (pa_cons (pe_tup (pa_cons pe_str (pa_cons pe_str (pa_cons pe_str (pa_cons (pe_lst (pa_cons pe_str (pa_cons pe_str pa_nil))) pa_nil))))) pa_nil))))))
      (pss_mid (ps_set (i := 1) sc41.nd rfl (Or.inl rfl) (pe_op op_cat (pv 1) (pe_lst (pa_cons (pe_tup (pa_cons pe_str (pa_cons pe_non (pa_cons pe_str (pa_cons (pe_tup (pa_cons pe_str (pa_cons pe_str pa_nil))) pa_nil))))) (pa_cons (pe_tup (pa_cons pe_str (pa_cons pe_str (pa_cons pe_str (pa_cons (pe_lst pa_nil) pa_nil))))) (pa_cons (pe_tup (pa_cons pe_str (pa_cons pe_str pa_nil))) (pa_cons (pe_tup (pa_cons pe_int (pa_cons pe_str pa_nil))) pa_nil)))))))
      (pss_mid (ps_set (i := 1) sc41.nd rfl (Or.inl rfl) (pe_op op_cat (pv 1) (pe_lst (pa_cons (pe_tup (pa_cons pe_str (pa_cons (pe_lst (pa_cons pe_str pa_nil)) pa_nil))) (pa_cons (pe_tup (pa_cons pe_str (pa_cons pe_str (pa_cons pe_dnewK pa_nil)))) (pa_cons (pe_tup (pa_cons pe_str (pa_cons pe_str (pa_cons (pe_lst (pa_cons pe_str pa_nil)) (pa_cons (pe_lst pa_nil) pa_nil))))) (pa_cons (pe_tup (pa_cons pe_str (pa_cons pe_str (pa_cons (pe_lst pa_nil) pa_nil)))) pa_nil)))))))
      (pss_mid (ps_set (i := 1) sc41.nd rfl (Or.inl rfl) (pe_op op_cat (pv 1) (pe_lst (pa_cons (pe_lst (pa_cons pe_str (pa_cons pe_str pa_nil))) (pa_cons (pe_tup (pa_cons pe_str (pa_cons pe_str (pa_cons pe_str pa_nil)))) pa_nil)))))
      (pss_one (ps_ret (pe_ix ix_list (pv 1) (pe_op op_mod (pe_callTy call_int1 rfl B.int PyProof.Rows.boot_int (pa_cons (pe_ix ix_list (pv 0) pe_int (fun _ _ => rfl)) pa_nil)) (pe_callB call_len_seq rfl B.len PySem.boot_len (pa_cons (pv 1) pa_nil))) (fun _ _ => rfl))))))))))))), ?_⟩
    have g0 : ds[0]? = some (ds.getD 0 0) := by
      rw [List.getD_eq_getElem?_getD, List.getElem?_eq_getElem (by omega)]
      rfl
    have l0 := dgN_lt ds 0 (show 0 < 39 by decide)
    have q0 := dgN_eq ds 0 (show 0 < 39 by decide)
    generalize dgN ds 0 39 = n0 at l0 q0 k
    refine ⟨fun σ H2 => ∃ v : V, σ = [some (.ref dg), some v] ∧ Same H H2 ∧ At H2 v (.list (badL.take 8)), ?_, ?_⟩
    · exact set_dt (L := []) (d := .list (badL.take 8)) (dt_l (dl_lst (dl_cons dl_non (dl_cons (dl_tup dl_nil (by show 0 ≤ sizeLine; decide)) (dl_cons (dl_lst dl_nil (by show 0 ≤ sizeLine; decide)) (dl_cons (dl_tup (dl_cons dl_str (dl_cons dl_str dl_nil)) (by show 2 ≤ sizeLine; decide)) (dl_cons (dl_tup (dl_cons dl_str (dl_cons dl_str (dl_cons dl_str dl_nil))) (by show 3 ≤ sizeLine; decide)) (dl_cons (dl_tup (dl_cons dl_str (dl_cons dl_str (dl_cons dl_str dl_nil))) (by show 3 ≤ sizeLine; decide)) (dl_cons (dl_tup (dl_cons dl_str (dl_cons dl_str (dl_cons dl_non dl_nil))) (by show 3 ≤ sizeLine; decide)) (dl_cons (dl_tup (dl_cons dl_str dl_nil) (by show 1 ≤ sizeLine; decide)) dl_nil)))))))) (by show 8 ≤ sizeLine; decide)) live_nil) fun v H2 s2 a => ⟨v, rfl, s2, by rw [hid_nil] at a; exact a⟩
    rintro σ H0 ⟨v0, rfl, s0, a0⟩
    refine ⟨fun σ H2 => ∃ v : V, σ = [some (.ref dg), some v] ∧ Same H H2 ∧ At H2 v (.list (badL.take 12)), ?_, ?_⟩
    · exact set_dt (L := []) (d := .list (badL.take 12)) (dt_cat (ds := badL.take 8) live_nil (dt_var rfl (by rw [hid_nil]; exact a0)) (dt_l (dl_lst (dl_cons (dl_tup (dl_cons dl_str (dl_cons dl_str (dl_cons dl_str (dl_cons dl_str dl_nil)))) (by show 4 ≤ sizeLine; decide)) (dl_cons (dl_tup (dl_cons dl_str (dl_cons dl_str (dl_cons dl_str (dl_cons dl_str dl_nil)))) (by show 4 ≤ sizeLine; decide)) (dl_cons (dl_tup (dl_cons dl_str (dl_cons dl_str (dl_cons dl_int dl_nil))) (by show 3 ≤ sizeLine; decide)) (dl_cons (dl_tup (dl_cons dl_str (dl_cons dl_str (dl_cons dl_str dl_nil))) (by show 3 ≤ sizeLine; decide)) dl_nil)))) (by show 4 ≤ sizeLine; decide)) live_nil) (by show 8 + 4 ≤ sizeLine; decide)) fun v Hz sz a => ⟨v, rfl, s0.trans sz, by rw [hid_nil] at a; exact a⟩
    rintro σ H1 ⟨v1, rfl, s1, a1⟩
    refine ⟨fun σ H2 => ∃ v : V, σ = [some (.ref dg), some v] ∧ Same H H2 ∧ At H2 v (.list (badL.take 18)), ?_, ?_⟩
    · exact set_dt (L := []) (d := .list (badL.take 18)) (dt_cat (ds := badL.take 12) live_nil (dt_var rfl (by rw [hid_nil]; exact a1)) (dt_l (dl_lst (dl_cons (dl_tup (dl_cons dl_str (dl_cons dl_str dl_nil)) (by show 2 ≤ sizeLine; decide)) (dl_cons (dl_tup (dl_cons dl_str (dl_cons dl_str (dl_cons dl_str dl_nil))) (by show 3 ≤ sizeLine; decide)) (dl_cons (dl_tup (dl_cons dl_str (dl_cons dl_str (dl_cons dl_str dl_nil))) (by show 3 ≤ sizeLine; decide)) (dl_cons (dl_tup (dl_cons dl_str (dl_cons dl_int dl_nil)) (by show 2 ≤ sizeLine; decide)) (dl_cons (dl_tup (dl_cons dl_str (dl_cons dl_bl dl_nil)) (by show 2 ≤ sizeLine; decide)) (dl_cons dl_str dl_nil)))))) (by show 6 ≤ sizeLine; decide)) live_nil) (by show 12 + 6 ≤ sizeLine; decide)) fun v Hz sz a => ⟨v, rfl, s1.trans sz, by rw [hid_nil] at a; exact a⟩
    rintro σ H2 ⟨v2, rfl, s2, a2⟩
    refine ⟨fun σ H2 => ∃ v : V, σ = [some (.ref dg), some v] ∧ Same H H2 ∧ At H2 v (.list (badL.take 22)), ?_, ?_⟩
    · exact set_dt (L := []) (d := .list (badL.take 22)) (dt_cat (ds := badL.take 18) live_nil (dt_var rfl (by rw [hid_nil]; exact a2)) (dt_lst live_nil (dt_cons (dt_tup live_nil (dt_cons (dt_l dl_str live_nil) (dt_cons (dt_int (ve_sub ve_int ve_int)) (dt_cons (dt_l (dl_lst dl_nil (by show 0 ≤ sizeLine; decide)) live_nil) dt_nil))) (by show 3 ≤ sizeLine; decide)) (dt_cons (dt_tup live_nil (dt_cons (dt_l dl_str live_nil) (dt_cons (dt_int (ve_add (ve_pow ve_int ve_int ⟨by decide, by decide, by decide⟩) ve_int)) (dt_cons (dt_l (dl_lst dl_nil (by show 0 ≤ sizeLine; decide)) live_nil) dt_nil))) (by show 3 ≤ sizeLine; decide)) (dt_cons (dt_l (dl_tup (dl_cons dl_str (dl_cons dl_bl (dl_cons (dl_lst dl_nil (by show 0 ≤ sizeLine; decide)) dl_nil))) (by show 3 ≤ sizeLine; decide)) live_nil) (dt_cons (dt_l (dl_tup (dl_cons dl_str (dl_cons dl_int dl_nil)) (by show 2 ≤ sizeLine; decide)) live_nil) dt_nil)))) (by show 4 ≤ sizeLine; decide)) (by show 18 + 4 ≤ sizeLine; decide)) fun v Hz sz a => ⟨v, rfl, s2.trans sz, by rw [hid_nil] at a; exact a⟩
    rintro σ H3 ⟨v3, rfl, s3, a3⟩
    refine ⟨fun σ H2 => ∃ v : V, σ = [some (.ref dg), some v] ∧ Same H H2 ∧ At H2 v (.list (badL.take 26)), ?_, ?_⟩
    · exact set_dt (L := []) (d := .list (badL.take 26)) (dt_cat (ds := badL.take 22) live_nil (dt_var rfl (by rw [hid_nil]; exact a3)) (dt_l (dl_lst (dl_cons (dl_tup (dl_cons dl_str (dl_cons dl_str (dl_cons (dl_lst dl_nil (by show 0 ≤ sizeLine; decide)) dl_nil))) (by show 3 ≤ sizeLine; decide)) (dl_cons (dl_tup (dl_cons dl_str (dl_cons dl_str (dl_cons (dl_lst dl_nil (by show 0 ≤ sizeLine; decide)) (dl_cons (dl_lst dl_nil (by show 0 ≤ sizeLine; decide)) dl_nil)))) (by show 4 ≤ sizeLine; decide)) (dl_cons (dl_tup (dl_cons dl_str (dl_cons dl_str (dl_cons (dl_lst dl_nil (by show 0 ≤ sizeLine; decide)) (dl_cons (dl_lst dl_nil (by show 0 ≤ sizeLine; decide)) dl_nil)))) (by show 4 ≤ sizeLine; decide)) (dl_cons (dl_tup (dl_cons dl_str (dl_cons dl_str (dl_cons dl_str (dl_cons (dl_lst dl_nil (by show 0 ≤ sizeLine; decide)) (dl_cons (dl_lst dl_nil (by show 0 ≤ sizeLine; decide)) dl_nil))))) (by show 5 ≤ sizeLine; decide)) dl_nil)))) (by show 4 ≤ sizeLine; decide)) live_nil) (by show 22 + 4 ≤ sizeLine; decide)) fun v Hz sz a => ⟨v, rfl, s3.trans sz, by rw [hid_nil] at a; exact a⟩
    rintro σ H4 ⟨v4, rfl, s4, a4⟩
    refine ⟨fun σ H2 => ∃ v : V, σ = [some (.ref dg), some v] ∧ Same H H2 ∧ At H2 v (.list (badL.take 29)), ?_, ?_⟩
    · exact set_dt (L := []) (d := .list (badL.take 29)) (dt_cat (ds := badL.take 26) live_nil (dt_var rfl (by rw [hid_nil]; exact a4)) (dt_l (dl_lst (dl_cons (dl_tup (dl_cons dl_str (dl_cons dl_str (dl_cons dl_str (dl_cons (dl_lst dl_nil (by show 0 ≤ sizeLine; decide)) dl_nil)))) (by show 4 ≤ sizeLine; decide)) (dl_cons (dl_tup (dl_cons dl_str (dl_cons dl_str (dl_cons dl_str (dl_cons (dl_lst (dl_cons dl_str dl_nil) (by show 1 ≤ sizeLine; decide)) dl_nil)))) (by show 4 ≤ sizeLine; decide)) (dl_cons (dl_tup (dl_cons dl_str (dl_cons dl_str (dl_cons dl_str (dl_cons (dl_lst (dl_cons dl_str (dl_cons dl_str dl_nil)) (by show 2 ≤ sizeLine; decide)) dl_nil)))) (by show 4 ≤ sizeLine; decide)) dl_nil))) (by show 3 ≤ sizeLine; decide)) live_nil) (by show 26 + 3 ≤ sizeLine; decide)) fun v Hz sz a => ⟨v, rfl, s4.trans sz, by rw [hid_nil] at a; exact a⟩
    rintro σ H5 ⟨v5, rfl, s5, a5⟩
    refine ⟨fun σ H2 => ∃ v : V, σ = [some (.ref dg), some v] ∧ Same H H2 ∧ At H2 v (.list (badL.take 33)), ?_, ?_⟩
    · exact set_dt (L := []) (d := .list (badL.take 33)) (dt_cat (ds := badL.take 29) live_nil (dt_var rfl (by rw [hid_nil]; exact a5)) (dt_l (dl_lst (dl_cons (dl_tup (dl_cons dl_str (dl_cons dl_non (dl_cons dl_str (dl_cons (dl_tup (dl_cons dl_str (dl_cons dl_str dl_nil)) (by show 2 ≤ sizeLine; decide)) dl_nil)))) (by show 4 ≤ sizeLine; decide)) (dl_cons (dl_tup (dl_cons dl_str (dl_cons dl_str (dl_cons dl_str (dl_cons (dl_lst dl_nil (by show 0 ≤ sizeLine; decide)) dl_nil)))) (by show 4 ≤ sizeLine; decide)) (dl_cons (dl_tup (dl_cons dl_str (dl_cons dl_str dl_nil)) (by show 2 ≤ sizeLine; decide)) (dl_cons (dl_tup (dl_cons dl_int (dl_cons dl_str dl_nil)) (by show 2 ≤ sizeLine; decide)) dl_nil)))) (by show 4 ≤ sizeLine; decide)) live_nil) (by show 29 + 4 ≤ sizeLine; decide)) fun v Hz sz a => ⟨v, rfl, s5.trans sz, by rw [hid_nil] at a; exact a⟩
    rintro σ H6 ⟨v6, rfl, s6, a6⟩
    refine ⟨fun σ H2 => ∃ v : V, σ = [some (.ref dg), some v] ∧ Same H H2 ∧ At H2 v (.list (badL.take 37)), ?_, ?_⟩
    · exact set_dt (L := []) (d := .list (badL.take 37)) (dt_cat (ds := badL.take 33) live_nil (dt_var rfl (by rw [hid_nil]; exact a6)) (dt_l (dl_lst (dl_cons (dl_tup (dl_cons dl_str (dl_cons (dl_lst (dl_cons dl_str dl_nil) (by show 1 ≤ sizeLine; decide)) dl_nil)) (by show 2 ≤ sizeLine; decide)) (dl_cons (dl_tup (dl_cons dl_str (dl_cons dl_str (dl_cons dl_dic dl_nil))) (by show 3 ≤ sizeLine; decide)) (dl_cons (dl_tup (dl_cons dl_str (dl_cons dl_str (dl_cons (dl_lst (dl_cons dl_str dl_nil) (by show 1 ≤ sizeLine; decide)) (dl_cons (dl_lst dl_nil (by show 0 ≤ sizeLine; decide)) dl_nil)))) (by show 4 ≤ sizeLine; decide)) (dl_cons (dl_tup (dl_cons dl_str (dl_cons dl_str (dl_cons (dl_lst dl_nil (by show 0 ≤ sizeLine; decide)) dl_nil))) (by show 3 ≤ sizeLine; decide)) dl_nil)))) (by show 4 ≤ sizeLine; decide)) live_nil) (by show 33 + 4 ≤ sizeLine; decide)) fun v Hz sz a => ⟨v, rfl, s6.trans sz, by rw [hid_nil] at a; exact a⟩
    rintro σ H7 ⟨v7, rfl, s7, a7⟩
    refine ⟨fun σ H2 => ∃ v : V, σ = [some (.ref dg), some v] ∧ Same H H2 ∧ At H2 v (.list (badL.take 39)), ?_, ?_⟩
    · exact set_dt (L := []) (d := .list (badL.take 39)) (dt_cat (ds := badL.take 37) live_nil (dt_var rfl (by rw [hid_nil]; exact a7)) (dt_l (dl_lst (dl_cons (dl_lst (dl_cons dl_str (dl_cons dl_str dl_nil)) (by show 2 ≤ sizeLine; decide)) (dl_cons (dl_tup (dl_cons dl_str (dl_cons dl_str (dl_cons dl_str dl_nil))) (by show 3 ≤ sizeLine; decide)) dl_nil)) (by show 2 ≤ sizeLine; decide)) live_nil) (by show 37 + 2 ≤ sizeLine; decide)) fun v Hz sz a => ⟨v, rfl, s7.trans sz, by rw [hid_nil] at a; exact a⟩
    rintro σ H8 ⟨v8, rfl, s8, a8⟩
    refine (dt_ixL (L := []) (n := n0) (ds := badL) (d := badL.getD n0 .none) (dt_var rfl (by rw [hid_nil]; exact a8)) (ve_mod (ve_dg (j := 0) rfl (s8 _ _ hdg) g0 rfl) (ve_lenT rfl a8) (by show (0 : Int) < 39; decide)) (getD_some (x := PyData.none) (by show n0 < 39; exact l0)) q0) H8 (Same.refl _) _ fun v H4 s4 a => ?_
    rw [hid_nil] at a
    exact k v H4 (s8.trans s4) a
def spInner : Sp := fun vs H Q _ => ∃ (dg : Addr) (ds : List Int), vs = [.ref dg] ∧ H dg = some (.lst (ds.map V.int)) ∧ 2 ≤ ds.length ∧ ∀ v H', Same H H' → At H' v (pairD ((innL (thL.getD (dgN ds 0 6) .none)).getD (dgN ds 1 4) (.none, []))) → Q v H'
theorem sc42 : FnScope ["_law_digits_here", "_law_thing", "_law_some"] ["_law_digits_here"] (defScope (top 42)) := ⟨rfl, rfl, rfl, by decide +kernel, rfl, by decide +kernel, by decide +kernel⟩
theorem ok42 (F : Fun K "_law_bad_inner" "_law_bad_inner" (top 42) f fd) (B : Blt mg) : FnOk P w K mg base CX0 1 f fd ["_law_digits_here"] spInner := by
  refine F.ok sc42 (fun vs H Q E h => ?_) (fun cdv A outer s H vs Q E hr h => ?_)
  · obtain ⟨dg, ds, rfl, _⟩ := h
    rfl
  · obtain ⟨dg, ds, rfl, hdg, hlen, k⟩ := h
    refine ⟨_, (pss_mid (ps_set (i := 1) sc42.nd rfl (Or.inl rfl) (pe_ix ix_list (pe_lst (pa_cons pe_non (pa_cons (pe_tup (pa_cons pe_str (pa_cons pe_str pa_nil))) (pa_cons (pe_tup pa_nil) (pa_cons pe_str (pa_cons pe_dnewK (pa_cons pe_int pa_nil))))))) (pe_op op_mod (pe_callTy call_int1 rfl B.int PyProof.Rows.boot_int (pa_cons (pe_ix ix_list (pv 0) pe_int (fun _ _ => rfl)) pa_nil)) pe_int) (fun _ _ => rfl)))
      (pss_mid (ps_set (i := 2) sc42.nd rfl (Or.inl rfl) (pe_lst (pa_cons (pe_tup (pa_cons (pe_tup (pa_cons pe_str (pa_cons pe_int (pa_cons (pv 1) pa_nil)))) (pa_cons (pe_tup pa_nil) pa_nil))) (pa_cons (pe_tup (pa_cons (pe_tup (pa_cons pe_str (pa_cons pe_str (pa_cons (pv 1) (pa_cons (pe_lst pa_nil) pa_nil))))) (pa_cons (pe_tup (pa_cons pe_int pa_nil)) pa_nil))) (pa_cons (pe_tup (pa_cons (pe_tup (pa_cons pe_str (pa_cons pe_str (pa_cons (pe_lst pa_nil) (pa_cons (pv 1) pa_nil))))) (pa_cons (pe_tup (pa_cons pe_int pa_nil)) pa_nil))) pa_nil)))))
      (pss_one (ps_ret (pe_ix ix_list (pe_op op_cat (pv 2) (pe_lst (pa_cons (pe_tup (pa_cons (pe_tup (pa_cons pe_str (pa_cons pe_str (pa_cons pe_str (pa_cons (pe_lst pa_nil) (pa_cons (pv 1) pa_nil)))))) (pa_cons (pe_tup (pa_cons pe_int pa_nil)) pa_nil))) pa_nil))) (pe_op op_mod (pe_callTy call_int1 rfl B.int PyProof.Rows.boot_int (pa_cons (pe_ix ix_list (pv 0) pe_int (fun _ _ => rfl)) pa_nil)) pe_int) (fun _ _ => rfl)))))), ?_⟩
    have get : ∀ j, j < 2 → ds[j]? = some (ds.getD j 0) := fun j hj => by
      rw [List.getD_eq_getElem?_getD, List.getElem?_eq_getElem (by omega)]
      rfl
    have g0 := get 0 (by decide)
    have g1 := get 1 (by decide)
    have l0 := dgN_lt ds 0 (show 0 < 6 by decide)
    have l1 := dgN_lt ds 1 (show 0 < 4 by decide)
    have q0 := dgN_eq ds 0 (show 0 < 6 by decide)
    have q1 := dgN_eq ds 1 (show 0 < 4 by decide)
    generalize dgN ds 0 6 = n0 at l0 q0 k
    generalize dgN ds 1 4 = n1 at l1 q1 k
    refine ⟨fun σ H2 => ∃ v : V, σ = [some (.ref dg), some v, none] ∧ Same H H2 ∧ At H2 v (thL.getD n0 .none), ?_, ?_⟩
    · exact set_dt (L := []) (dt_ixL (n := n0) (ds := thL) (dt_l (dl_lst (dl_cons dl_non (dl_cons (dl_tup (dl_cons dl_str (dl_cons dl_str dl_nil)) (by show 2 ≤ sizeLine; decide)) (dl_cons (dl_tup dl_nil (by show 0 ≤ sizeLine; decide)) (dl_cons dl_str (dl_cons dl_dic (dl_cons dl_int dl_nil)))))) (by show 6 ≤ sizeLine; decide)) live_nil) (ve_mod (ve_dg (j := 0) rfl hdg g0 rfl) ve_int (by decide)) (getD_some (x := PyData.none) (by show n0 < 6; exact l0)) q0) fun v H2 s2 a => ⟨v, rfl, s2, by rw [hid_nil] at a; exact a⟩
    rintro σ H1 ⟨v1, rfl, s1, a1⟩
    generalize thL.getD n0 .none = th at a1 k
    have ht : At (hid [] H1) v1 th := by rw [hid_nil]; exact a1
    refine ⟨fun σ H2 => ∃ v : V, σ = [some (.ref dg), some v1, some v] ∧ Same H1 H2 ∧ At H2 v (.list (((innL th).map pairD).take 3)), ?_, ?_⟩
    · exact set_dt (L := []) (d := .list (((innL th).map pairD).take 3)) (dt_lst live_nil (dt_cons (dt_tup live_nil (dt_cons (dt_tup live_nil (dt_cons (dt_l dl_str live_nil) (dt_cons (dt_l dl_int live_nil) (dt_cons (dt_var rfl ht) dt_nil))) (by show 3 ≤ sizeLine; decide)) (dt_cons (dt_l (dl_tup dl_nil (by show 0 ≤ sizeLine; decide)) live_nil) dt_nil)) (by show 2 ≤ sizeLine; decide)) (dt_cons (dt_tup live_nil (dt_cons (dt_tup live_nil (dt_cons (dt_l dl_str live_nil) (dt_cons (dt_l dl_str live_nil) (dt_cons (dt_var rfl ht) (dt_cons (dt_l (dl_lst dl_nil (by show 0 ≤ sizeLine; decide)) live_nil) dt_nil)))) (by show 4 ≤ sizeLine; decide)) (dt_cons (dt_l (dl_tup (dl_cons dl_int dl_nil) (by show 1 ≤ sizeLine; decide)) live_nil) dt_nil)) (by show 2 ≤ sizeLine; decide)) (dt_cons (dt_tup live_nil (dt_cons (dt_tup live_nil (dt_cons (dt_l dl_str live_nil) (dt_cons (dt_l dl_str live_nil) (dt_cons (dt_l (dl_lst dl_nil (by show 0 ≤ sizeLine; decide)) live_nil) (dt_cons (dt_var rfl ht) dt_nil)))) (by show 4 ≤ sizeLine; decide)) (dt_cons (dt_l (dl_tup (dl_cons dl_int dl_nil) (by show 1 ≤ sizeLine; decide)) live_nil) dt_nil)) (by show 2 ≤ sizeLine; decide)) dt_nil))) (by show 3 ≤ sizeLine; decide)) fun v H2 s2 a => ⟨v, rfl, s2, by rw [hid_nil] at a; exact a⟩
    rintro σ H2 ⟨v2, rfl, s2, a2⟩
    have ht : At (hid [] H2) v1 th := by rw [hid_nil]; exact a1.mono s2
    refine (dt_ixL (L := []) (n := n1) (ds := (innL th).map pairD) (d := pairD ((innL th).getD n1 (.none, []))) (dt_cat (ds := ((innL th).map pairD).take 3) (es := ((innL th).map pairD).drop 3) live_nil (dt_var rfl (by rw [hid_nil]; exact a2)) (dt_lst live_nil (dt_cons (dt_tup live_nil (dt_cons (dt_tup live_nil (dt_cons (dt_l dl_str live_nil) (dt_cons (dt_l dl_str live_nil) (dt_cons (dt_l dl_str live_nil) (dt_cons (dt_l (dl_lst dl_nil (by show 0 ≤ sizeLine; decide)) live_nil) (dt_cons (dt_var rfl ht) dt_nil))))) (by show 5 ≤ sizeLine; decide)) (dt_cons (dt_l (dl_tup (dl_cons dl_int dl_nil) (by show 1 ≤ sizeLine; decide)) live_nil) dt_nil)) (by show 2 ≤ sizeLine; decide)) dt_nil) (by show 1 ≤ sizeLine; decide)) (by show 3 + 1 ≤ sizeLine; decide)) (ve_mod (ve_dg (j := 1) rfl (s2 _ _ (s1 _ _ hdg)) g1 rfl) ve_int (by decide)) (by
      match n1, l1 with
      | 0, _ | 1, _ | 2, _ | 3, _ => rfl) q1) H2 (Same.refl _) _ fun v H4 s4 a => ?_
    rw [hid_nil] at a
    exact k v H4 (s1.trans (s2.trans s4)) a
end
end K1

set_option Elab.async false
set_option linter.all false
set_option maxRecDepth 100000
set_option maxHeartbeats 8000000
namespace K1
open PySem L2
/-! ### new lists of digits -/
def IT (t : TE) (xs : List Int) (σ : St) (H1 : Hp) : Prop := ∀ H2, Same H1 H2 → ∀ Q : VK, (∀ p H3, Same H2 H3 → H3 p = some (.lst (xs.map V.int)) → Q (.ref p) H3) → t σ H2 Q
section
variable {σ : St} {H1 : Hp} {t u tl th : TE} {i j : Int} {K : PySem.W.Frag} {ds xs ys : List Int} {s : Nat} {dg : Addr}
theorem it_cut (e : σ[s]? = some (some (.ref dg))) (h : H1 dg = some (.lst (ds.map V.int))) (hl : VE tl (.int i) σ H1) (hh : VE th (.int j) σ H1) (i0 : 0 ≤ i) (ij : i ≤ j) (jn : j.toNat ≤ ds.length) : IT (tSl (rSlL K) (tVar s) (tPart tl) (tPart th)) ((ds.drop i.toNat).take (j - i).toNat) σ H1 := fun H2 s2 Q k =>
  ⟨_, e, hl H2 s2 _ ⟨i, rfl, hh H2 s2 _ ⟨j, rfl, dg, _, rfl, SqL.of (s2 _ _ h), fun p np => k p _ (same_new (Same.refl _) np) (by
    rw [upd_same]
    unfold cutV
    rw [sIx_min i0, sIx_min (by omega), List.length_map, Nat.min_eq_left jn, Nat.min_eq_left (show i.toNat ≤ ds.length by omega), ← List.map_drop, ← List.map_take, show (j - i).toNat = j.toNat - i.toNat by omega])⟩⟩⟩
theorem it_from (e : σ[s]? = some (some (.ref dg))) (h : H1 dg = some (.lst (ds.map V.int))) (hl : VE tl (.int i) σ H1) (i0 : 0 ≤ i) : IT (tSl (rSlL K) (tVar s) (tPart tl) tNoPart) (ds.drop i.toNat) σ H1 := fun H2 s2 Q k =>
  ⟨_, e, hl H2 s2 _ ⟨i, rfl, dg, _, rfl, SqL.of (s2 _ _ h), fun p np => k p _ (same_new (Same.refl _) np) (by
    rw [upd_same, cut_from i0, ← List.map_drop])⟩⟩
theorem it_to (e : σ[s]? = some (some (.ref dg))) (h : H1 dg = some (.lst (ds.map V.int))) (hl : VE tl (.int i) σ H1) (i0 : 0 ≤ i) : IT (tSl (rSlL K) (tVar s) tNoPart (tPart tl)) (ds.take i.toNat) σ H1 := fun H2 s2 Q k =>
  ⟨_, e, hl H2 s2 _ ⟨i, rfl, dg, _, rfl, SqL.of (s2 _ _ h), fun p np => k p _ (same_new (Same.refl _) np) (by
    rw [upd_same, cut_to i0, ← List.map_take])⟩⟩
theorem it_cat (h : IT t xs σ H1) (r : IT u ys σ H1) (few : xs.length + ys.length ≤ sizeLine) : IT (tOp rCat t u) (xs ++ ys) σ H1 := fun H2 s Q k => h H2 s _ fun p H3 s3 hp => r H3 (s.trans s3) _ fun q H4 s4 hq =>
  ⟨p, q, _, _, rfl, rfl, s4 _ _ hp, hq, by rw [List.length_map, List.length_map]; exact few, fun l nl => k l _ ((s3.trans s4).trans (same_new (Same.refl _) nl)) (by rw [upd_same, List.map_append])⟩
theorem ve_mul (h : VE t (.int i) σ H1) (r : VE u (.int j) σ H1) (p : CMul i j) : VE (tOp (rI CMul fun i j => V.int (i * j)) t u) (.int (i * j)) σ H1 := fun H2 s Q q => h H2 s _ (r H2 s _ ⟨i, j, rfl, rfl, p, q⟩)
theorem be_isN {v : V} (h : VE t v σ H1) : BE (tTest (tOp (fun x y H Q => y = V.non ∧ Q (V.bl (decide (x = V.non))) H) t (tC .non))) (decide (v = .non)) σ H1 := fun H2 s Q k => h H2 s _ ⟨rfl, _, rfl, k H2 (Same.refl _)⟩
theorem dt_put {vb : V} {st : PyData} {ts : TE} (few : 100000 ≤ sizeLine) (e6 : σ[6]? = some (some vb)) (ab : At H1 vb (.list (preT ds))) (e4 : σ[4]? = some (some (.int (spotT ds : Nat)))) (hst : DT [] ts st σ H1) : DT [] (tOp rCat (tOp rCat (tSl (rSlL K) (tVar 6) tNoPart (tPart (tVar 4))) (tLst (tCons ts tNil))) (tSl (rSlL K) (tVar 6) (tPart (tVar 4)) tNoPart)) (.list (putT ds st)) σ H1 := by
  have l3 := pre_few ds
  have T : DT [] (tVar 6) (.list (preT ds)) σ H1 := dt_var e6 (by rw [hid_nil]; exact ab)
  exact dt_cat live_nil (dt_cat live_nil (dt_to (i := (spotT ds : Nat)) live_nil T (ve_var e4) (by omega)) (dt_lst live_nil (dt_cons hst dt_nil) (by show 1 ≤ sizeLine; omega)) (by rw [List.length_take]; show _ + 1 ≤ sizeLine; omega)) (dt_from (i := (spotT ds : Nat)) live_nil T (ve_var e4) (by omega)) (by rw [List.length_append, List.length_take, List.length_drop]; show _ + 1 + _ ≤ sizeLine; omega)
end
/-! flat tuples hold no list of the def's own -/
def flatB (d : PyData) : Bool := match d with
  | .tuple es => es.all scaT
  | _ => false
theorem flat_all : ∀ a < 2, ∀ b < 2, ∀ k < 11, flatB (simpN k a b) = true := by decide +kernel
theorem flat_hid {H : Hp} {D : Addr} {xs : List V} {v : V} {d : PyData} (h : At H v d) (f : flatB d = true) (hD : H D = some (.lst xs)) : At (hid [D] H) v d := by
  unfold flatB at f
  split at f
  · obtain ⟨p, ys, rfl, hp, as⟩ := at_t h
    have ne : p ∉ [D] := fun m => by
      rw [List.mem_singleton.mp m, hD] at hp
      cases hp
    exact .tup (by rw [hid_ne ne]; exact hp) (at_scas as (List.all_eq_true.mp f))
  · cases f
theorem simp_flat (e : List Int) : flatB (simpT e) = true := flat_all _ (dgN_lt e 1 (by decide)) _ (dgN_lt e 2 (by decide)) _ (dgN_lt e 0 (by decide))
/-! ### _law_block -/
def resD (q : List PyData × List Int) : PyData := .tuple [.list q.1, .tuple (q.2.map PyData.int)]
def BadV (H : Hp) (v : V) (bad : Option (PyData × List Int)) : Prop := match bad with
  | none => v = .non
  | some q => At H v (pairD q) ∧ q.2.length ≤ 10
theorem BadV.mono {H H' : Hp} {v : V} {bad : Option (PyData × List Int)} (h : BadV H v bad) (s : Same H H') : BadV H' v bad := by
  cases bad with
  | none => exact h
  | some q => exact ⟨h.1.mono s, h.2⟩
def spBlk (k : Nat) : Sp := fun vs H Q _ => ∃ (dg : Addr) (ds : List Int) (dep : Nat) (bv : V) (bad : Option (PyData × List Int)), vs = [.ref dg, .int (dep : Nat), bv] ∧ dep < k ∧ k ≤ 100 ∧ H dg = some (.lst (ds.map V.int)) ∧ ds.length = 40 ∧ BadV H bv bad ∧ ∀ v H', Same H H' → At H' v (resD (blkT dep ds bad)) → Q v H'
theorem rot_len {n : Nat} {ds : List Int} (h : n ≤ ds.length) : (rotT n ds).length = ds.length := by
  unfold rotT
  rw [List.length_append, List.length_drop, List.length_take]
  omega
theorem leaf_path {ds : List Int} {bad : Option (PyData × List Int)} (h : ∀ q, bad = some q → q.2.length ≤ 10) : (leafT ds bad).2.length ≤ 11 := by
  cases bad with
  | none => exact Nat.zero_le _
  | some q =>
    show q.2.length + 1 ≤ 11
    have := h q rfl
    omega
theorem blk_path {bad : Option (PyData × List Int)} (h : ∀ q, bad = some q → q.2.length ≤ 10) : ∀ (dep : Nat) (ds : List Int), (blkT dep ds bad).2.length ≤ 11 + 2 * dep
  | 0, ds => leaf_path h
  | dep + 1, ds => by
    unfold blkT
    split
    · have ih := blk_path h dep (rotT 12 ds)
      show ((wayT ds _ _).2 ++ (blkT dep (rotT 12 ds) bad).2).length + 1 ≤ _
      rw [List.length_append]
      have : ∀ x y, (wayT ds x y).2.length ≤ 1 := fun x y => by
        unfold wayT
        split
        · exact Nat.zero_le _
        split
        · exact Nat.le_refl _
        split <;> exact Nat.le_refl _
      have := this (blkT dep (rotT 12 ds) bad).1 (leafT (rotT 17 ds) none).1
      omega
    · have := leaf_path (ds := ds) h
      omega
theorem blk_leaf {dep : Nat} {ds : List Int} {bad : Option (PyData × List Int)} (h : (decide ((0 : Int) < (dep : Nat)) && decide (0 < ds.getD 11 0 % 4)) = false) : blkT dep ds bad = leafT ds bad := by
  cases dep with
  | zero => rfl
  | succ dep =>
    unfold blkT
    rw [if_neg]
    intro c
    rw [decide_eq_true (by omega), Bool.true_and] at h
    have := dgN_eq ds 11 (show 0 < 4 by decide)
    have h := of_decide_eq_false h
    rw [show ds.getD 11 0 % 4 = (dgN ds 11 4 : Int) from this] at h
    omega
theorem blk_node {dep : Nat} {ds : List Int} {bad : Option (PyData × List Int)} (h : 0 < ds.getD 11 0 % 4) : blkT (dep + 1) ds bad = nodeT ds (blkT dep (rotT 12 ds) bad) (leafT (rotT 17 ds) none).1 := by
  have := dgN_eq ds 11 (show 0 < 4 by decide)
  rw [show ds.getD 11 0 % 4 = (dgN ds 11 4 : Int) from this] at h
  exact if_pos (by omega)
section
variable {P : Program} {w : World} {K : PySem.W.Frag} {mg : Str → Option Value} {base : Heap} {f : Addr} {fd : FuncData}
abbrev psBlk : List Str := ["_law_digits_here", "_law_depth", "_law_bad_here"]
theorem sc43 : FnScope ["_law_digits_here", "_law_depth", "_law_bad_here", "_law_many", "_law_spot", "_law_k", "_law_block_here", "_law_inner", "_law_path", "_law_rest", "_law_unused", "_law_way", "_law_statement", "_law_call"] ["_law_digits_here", "_law_depth", "_law_bad_here"] (defScope (top 43)) := ⟨rfl, rfl, rfl, by decide +kernel, rfl, by decide +kernel, by decide +kernel⟩
theorem ok43 (F : Fun K "_law_block" "_law_block" (top 43) f fd) (B : Blt mg) (g : mg "_law_block" = some (.ref f)) (bd : Binds K fd psBlk []) (C40 : Cal P w K mg base CX0 1 "_law_simple" ["_law_digits_here"] spSimple) : ∀ k, FnOk P w K mg base CX0 (k + 1) f fd psBlk (spBlk k)
  | 0 => by
    refine F.ok sc43 (fun vs H Q E h => ?_) (fun cdv A outer s H vs Q E hr h => ?_)
    · obtain ⟨dg, ds, dep, bv, bad, rfl, _⟩ := h
      rfl
    · obtain ⟨dg, ds, dep, bv, bad, rfl, lt, _⟩ := h
      exact absurd lt (Nat.not_lt_zero _)
  | k + 1 => by
    have C43 : Cal P w K mg base CX0 (k + 1) "_law_block" psBlk (spBlk k) := ⟨_, _, ok43 F B g bd C40 k, g, F.kp, bd⟩
    refine F.ok sc43 (fun vs H Q E h => ?_) (fun cdv A outer s H vs Q E hr h => ?_)
    · obtain ⟨dg, ds, dep, bv, bad, rfl, _⟩ := h
      rfl
    · obtain ⟨dg, ds, dep, bv, bad, rfl, lt, lk, hdg, hlen, hbad, kk⟩ := h
      refine ⟨_, (pss_mid (ps_set (i := 3) sc43.nd rfl (Or.inl rfl) (pe_op op_add pe_int (pe_op op_mod (pe_callTy call_int1 rfl B.int PyProof.Rows.boot_int (pa_cons (pe_ix ix_list (pv 0) pe_int (fun _ _ => rfl)) pa_nil)) pe_int)))
      (pss_mid (ps_set (i := 4) sc43.nd rfl (Or.inl rfl) (pe_op op_mod (pe_callTy call_int1 rfl B.int PyProof.Rows.boot_int (pa_cons (pe_ix ix_list (pv 0) pe_int (fun _ _ => rfl)) pa_nil)) (pe_op op_add (pv 3) pe_int)))
      (pss_mid (ps_setLc (i := 6) (y := "_law_block_here") rfl sc43.nd rfl rfl (by rfl) (own := [("_law_k", 5)]) (g := gName 5) (te := tCall spSimple [] E0 (tCons (tSl (rSlL K) (tVar 0) (tPart (tOp (rI0 fun i j => V.int (i + j)) (tC (.int 2)) (tOp (rI CMul fun i j => V.int (i * j)) (tC (.int 3)) (tVar 5)))) (tPart (tOp (rI0 fun i j => V.int (i + j)) (tC (.int 5)) (tOp (rI CMul fun i j => V.int (i * j)) (tC (.int 3)) (tVar 5))))) tNil)) (tt := tYes) (pi_range1 rfl B.range (pa_cons (pv 3) pa_nil)) (blkOk_by (N := ["_law_digits_here", "_law_depth", "_law_bad_here", "_law_many", "_law_spot", "_law_k", "_law_block_here", "_law_inner", "_law_path", "_law_rest", "_law_unused", "_law_way", "_law_statement", "_law_call"]) (sc := defScope (top 43)) (by decide +kernel))
        (fun _ _ _ _ _ => pg_name (i := 5) sc43.nd rfl (Or.inl rfl)) (fun _ _ _ _ _ => pts_nil) (fun _ _ _ _ _ => pe_cal C40 hr (by omega) pass0 (pa_cons (pe_slice sl_list (pv 0) (po_some (pe_op op_add pe_int (pe_op op_mul pe_int (pv 5)))) (po_some (pe_op op_add pe_int (pe_op op_mul pe_int (pv 5))))) pa_nil)))
      (pss_mid (ps_if (PW.pt (pw_and (pt_cmpR op_gt (pv 1) pe_int (nomark _)) (pw_and1 (pt_cmpR op_gt (pe_op op_mod (pe_callTy call_int1 rfl B.int PyProof.Rows.boot_int (pa_cons (pe_ix ix_list (pv 0) pe_int (fun _ _ => rfl)) pa_nil)) pe_int) pe_int (nomark _))))) (pss_mid (ps_asg (pe_cal C43 hr (Nat.le_refl _) pass0 (pa_cons (pe_op op_cat (pe_slice sl_list (pv 0) (po_some pe_int) po_none) (pe_slice sl_list (pv 0) po_none (po_some pe_int))) (pa_cons (pe_op op_sub (pv 1) pe_int) (pa_cons (pv 2) pa_nil)))) (pg_tup rfl (pgs_cons (pg_name (i := 7) sc43.nd rfl (Or.inl rfl)) (pgs_cons (pg_name (i := 8) sc43.nd rfl (Or.inl rfl)) pgs_nil))))
      (pss_mid (ps_asg (pe_cal C43 hr (Nat.le_refl _) pass0 (pa_cons (pe_op op_cat (pe_slice sl_list (pv 0) (po_some pe_int) po_none) (pe_slice sl_list (pv 0) po_none (po_some pe_int))) (pa_cons pe_int (pa_cons pe_non pa_nil)))) (pg_tup rfl (pgs_cons (pg_name (i := 9) sc43.nd rfl (Or.inl rfl)) (pgs_cons (pg_name (i := 10) sc43.nd rfl (Or.inl rfl)) pgs_nil))))
      (pss_mid (ps_set (i := 11) sc43.nd rfl (Or.inl rfl) (pe_op op_mod (pe_callTy call_int1 rfl B.int PyProof.Rows.boot_int (pa_cons (pe_ix ix_list (pv 0) pe_int (fun _ _ => rfl)) pa_nil)) pe_int))
      (pss_mid (ps_if (pt_cmpR op_eq (pv 11) pe_int (nomark _)) (pss_one (ps_par (i := 12) (j := 8) (by rfl) sc43.nd rfl rfl (by decide) rfl rfl (pa_cons (pe_tup (pa_cons pe_str (pa_cons (pe_ix ix_list (pe_lst (pa_cons pe_int (pa_cons pe_int (pa_cons (pe_op op_pow pe_int pe_int) pa_nil)))) (pe_op op_mod (pe_callTy call_int1 rfl B.int PyProof.Rows.boot_int (pa_cons (pe_ix ix_list (pv 0) pe_int (fun _ _ => rfl)) pa_nil)) pe_int) (fun _ _ => rfl)) (pa_cons (pv 7) pa_nil)))) (pa_cons (pe_op op_catA (pe_tup (pa_cons (pv 4) pa_nil)) (pv 8)) pa_nil)) (by rfl))) (pss_one (ps_if (pt_cmpR op_eq (pv 11) pe_int (nomark _)) (pss_one (ps_par (i := 12) (j := 8) (by rfl) sc43.nd rfl rfl (by decide) rfl rfl (pa_cons (pe_tup (pa_cons pe_str (pa_cons pe_str (pa_cons (pv 7) (pa_cons (pv 9) pa_nil))))) (pa_cons (pe_op op_catA (pe_tup (pa_cons (pv 4) (pa_cons pe_int pa_nil))) (pv 8)) pa_nil)) (by rfl))) (pss_one (ps_if (pt_cmpR op_eq (pv 11) pe_int (nomark _)) (pss_one (ps_par (i := 12) (j := 8) (by rfl) sc43.nd rfl rfl (by decide) rfl rfl (pa_cons (pe_tup (pa_cons pe_str (pa_cons pe_str (pa_cons (pv 9) (pa_cons (pv 7) pa_nil))))) (pa_cons (pe_op op_catA (pe_tup (pa_cons (pv 4) (pa_cons pe_int pa_nil))) (pv 8)) pa_nil)) (by rfl))) (pss_one (ps_par (i := 12) (j := 8) (by rfl) sc43.nd rfl rfl (by decide) rfl rfl (pa_cons (pe_tup (pa_cons pe_str (pa_cons pe_str (pa_cons pe_str (pa_cons (pv 9) (pa_cons (pv 7) pa_nil)))))) (pa_cons (pe_op op_catA (pe_tup (pa_cons (pv 4) (pa_cons pe_int pa_nil))) (pv 8)) pa_nil)) (by rfl))))))))
      (pss_one (ps_ret (pe_tup (pa_cons (pe_op op_cat (pe_op op_cat (pe_slice sl_list (pv 6) po_none (po_some (pv 4))) (pe_lst (pa_cons (pv 12) pa_nil))) (pe_slice sl_list (pv 6) (po_some (pv 4)) po_none)) (pa_cons (pv 8) pa_nil))))))))) pss_nil)
      (pss_mid (ps_if (pt_cmpR op_isN (pv 2) pe_non (nomark _)) (pss_mid (ps_set (i := 13) sc43.nd rfl (Or.inl rfl) (pe_tup (pa_cons pe_str (pa_cons (pe_ix ix_list (pe_lst (pa_cons pe_str (pa_cons pe_non pa_nil))) (pe_op op_mod (pe_callTy call_int1 rfl B.int PyProof.Rows.boot_int (pa_cons (pe_ix ix_list (pv 0) pe_int (fun _ _ => rfl)) pa_nil)) pe_int) (fun _ _ => rfl)) (pa_cons pe_str (pa_cons (pe_lst (pa_cons pe_str (pa_cons pe_str pa_nil))) pa_nil))))))
      (pss_one (ps_ret (pe_tup (pa_cons (pe_op op_cat (pe_op op_cat (pe_slice sl_list (pv 6) po_none (po_some (pv 4))) (pe_lst (pa_cons (pv 13) pa_nil))) (pe_slice sl_list (pv 6) (po_some (pv 4)) po_none)) (pa_cons (pe_tup pa_nil) pa_nil)))))) pss_nil)
      (pss_mid (ps_asg (pv 2) (pg_tup rfl (pgs_cons (pg_name (i := 12) sc43.nd rfl (Or.inl rfl)) (pgs_cons (pg_name (i := 9) sc43.nd rfl (Or.inl rfl)) pgs_nil))))
      (pss_one (ps_ret (pe_tup (pa_cons (pe_op op_cat (pe_op op_cat (pe_slice sl_list (pv 6) po_none (po_some (pv 4))) (pe_lst (pa_cons (pv 12) pa_nil))) (pe_slice sl_list (pv 6) (po_some (pv 4)) po_none)) (pa_cons (pe_op op_catA (pe_tup (pa_cons (pv 4) pa_nil)) (pv 9)) pa_nil))))))))))), ?_⟩
      have few : 100000 ≤ sizeLine := by decide
      have get : ∀ j, j < 40 → ds[j]? = some (ds.getD j 0) := fun j hj => by
        rw [List.getD_eq_getElem?_getD, List.getElem?_eq_getElem (by omega)]
        rfl
      have hq10 : ∀ q, bad = some q → q.2.length ≤ 10 := fun q e => by
        rw [e] at hbad
        exact hbad.2
      -- many, spot
      have e3 : (1 : Int) + ds.getD 0 0 % 3 = ((1 + dgN ds 0 3 : Nat) : Int) := by
        have := dgN_eq ds 0 (show 0 < 3 by decide)
        rw [show ds.getD 0 0 % 3 = (dgN ds 0 3 : Int) from this]
        omega
      have e4 : ds.getD 1 0 % (((1 + dgN ds 0 3 : Nat) : Int) + 1) = (spotT ds : Nat) := by
        have := dgN_eq ds 1 (show 0 < 1 + dgN ds 0 3 + 1 by omega)
        exact this
      have l0 := dgN_lt ds 0 (show 0 < 3 by decide)
      refine ⟨fun σ H1 => σ = [some (.ref dg), some (.int (dep : Nat)), some bv, some (.int (1 + ds.getD 0 0 % 3)), none, none, none, none, none, none, none, none, none, none] ∧ H1 = H, set_v (ve_add ve_int (ve_mod (ve_dg (j := 0) rfl hdg (get 0 (by decide)) rfl) ve_int (by decide))) ⟨rfl, rfl⟩, ?_⟩
      rintro σ H1 ⟨rfl, rfl⟩
      rw [e3]
      refine ⟨fun σ H2 => σ = [some (.ref dg), some (.int (dep : Nat)), some bv, some (.int (1 + dgN ds 0 3 : Nat)), some (.int (ds.getD 1 0 % (((1 + dgN ds 0 3 : Nat) : Int) + 1))), none, none, none, none, none, none, none, none, none] ∧ H2 = H1, set_v (ve_mod (ve_dg (j := 1) rfl hdg (get 1 (by decide)) rfl) (ve_add (ve_var rfl) ve_int) (by omega)) ⟨rfl, rfl⟩, ?_⟩
      rintro σ H1 ⟨rfl, rfl⟩
      rw [e4]
      -- the simple ones
      refine ⟨fun σ H2 => ∃ vb : V, σ = [some (.ref dg), some (.int (dep : Nat)), some bv, some (.int (1 + dgN ds 0 3 : Nat)), some (.int (spotT ds : Nat)), none, some vb, none, none, none, none, none, none, none] ∧ Same H1 H2 ∧ At H2 vb (.list (preT ds)), ?_, ?_⟩
      · refine ⟨_, rfl, _, rfl, by omega, by omega, fun D nD => lc_range (n := 1 + dgN ds 0 3) (fun i H2 => LA H1 D ((preT ds).take i) H2) (LA.first (Same.refl _) .nil nD) ?_ ?_⟩
        · intro i H2 hi la
          obtain ⟨n0, s2, vs, hl, as⟩ := id la
          refine ⟨rfl, ?_⟩
          unfold tYes
          dsimp only
          rw [if_pos rfl]
          have hd2 := s2 _ _ hdg
          have hk : (0 : Int) + (i : Int) = (i : Int) := Int.zero_add _
          have cm : CMul 3 ((0 : Int) + (i : Int)) := .inl (by decide)
          refine it_cut (K := K) (s := 0) (dg := dg) (ds := ds) (i := 2 + 3 * ((0 : Int) + (i : Int))) (j := 5 + 3 * ((0 : Int) + (i : Int))) rfl hd2 (ve_add ve_int (ve_mul ve_int (ve_var rfl) cm)) (ve_add ve_int (ve_mul ve_int (ve_var rfl) cm)) (by omega) (by omega) (by omega) H2 (Same.refl _) _ fun p H3 s3 hp => ?_
          have ex : (ds.drop (2 + 3 * ((0 : Int) + (i : Int))).toNat).take (5 + 3 * ((0 : Int) + (i : Int)) - (2 + 3 * ((0 : Int) + (i : Int)))).toNat = (ds.drop (2 + 3 * i)).take 3 := by
            rw [show (2 + 3 * ((0 : Int) + (i : Int))).toNat = 2 + 3 * i by omega, show (5 + 3 * ((0 : Int) + (i : Int)) - (2 + 3 * ((0 : Int) + (i : Int)))).toNat = 3 by omega]
          rw [ex] at hp
          refine ⟨p, _, rfl, hp, by rw [List.length_take, List.length_drop]; omega, fun v H4 s4 av => ?_⟩
          have s24 := s3.trans s4
          have hl4 := s24 _ _ hl
          have l3 := pre_few ds
          have hv : vs.length ≤ 3 := by
            rw [as.len, List.length_take]
            omega
          refine ⟨vs, hl4, by omega, ?_⟩
          have hi' : (preT ds)[i]? = some (simpT ((ds.drop (2 + 3 * i)).take 3)) := by
            unfold preT
            rw [List.getElem?_map, List.getElem?_range hi]
            rfl
          rw [take_snoc hi']
          exact LA.push la hl s24 (flat_hid av (simp_flat _) hl4)
        · rintro H2 ⟨n0, s2, vs, hl, as⟩
          refine ⟨.ref D, rfl, s2, .lst hl ?_⟩
          have := as.mono hid_sub
          rw [List.take_of_length_le (by rw [pre_len]; exact Nat.le_refl _)] at this
          exact this
      rintro σ H2 ⟨vb, rfl, s2, ab⟩
      have hdg2 := s2 _ _ hdg
      have hbad2 := hbad.mono s2
      -- a block within
      refine ⟨fun σ H3 => σ = [some (.ref dg), some (.int (dep : Nat)), some bv, some (.int (1 + dgN ds 0 3 : Nat)), some (.int (spotT ds : Nat)), none, some vb, none, none, none, none, none, none, none] ∧ Same H2 H3 ∧ blkT dep ds bad = leafT ds bad, if_be (be_and (be_gt (ve_var rfl) ve_int) fun _ => be_gt (ve_mod (ve_dg (j := 11) rfl hdg2 (get 11 (by decide)) rfl) ve_int (by decide)) ve_int) fun H3 s3 => ⟨fun c => ?_, fun c => ⟨rfl, s3, blk_leaf c⟩⟩, ?_⟩
      · rw [Bool.and_eq_true] at c
        obtain ⟨c1, c2⟩ := c
        have c1 := of_decide_eq_true c1
        have c2 := of_decide_eq_true c2
        obtain ⟨dep, rfl⟩ : ∃ d, dep = d + 1 := ⟨dep - 1, by omega⟩
        rw [blk_node c2] at kk
        have hdg3 := s3 _ _ hdg2
        have hp := blk_path hq10 dep (rotT 12 ds)
        -- inner
        refine ⟨fun σ H4 => ∃ (vi vp : V), σ = [some (.ref dg), some (.int (dep + 1 : Nat)), some bv, some (.int (1 + dgN ds 0 3 : Nat)), some (.int (spotT ds : Nat)), none, some vb, some vi, some vp, none, none, none, none, none] ∧ Same H3 H4 ∧ At H4 vi (.list (blkT dep (rotT 12 ds) bad).1) ∧ At H4 vp (.tuple ((blkT dep (rotT 12 ds) bad).2.map PyData.int)), ?_, ?_⟩
        · have vd : VE (tOp (rI0 fun i j => V.int (i - j)) (tVar 1) (tC (.int 1))) (.int (dep : Nat)) [some (.ref dg), some (.int (dep + 1 : Nat)), some bv, some (.int (1 + dgN ds 0 3 : Nat)), some (.int (spotT ds : Nat)), none, some vb, none, none, none, none, none, none, none] H3 := by
            have z := ve_sub (ve_var (s := 1) (v := .int (dep + 1 : Nat)) (σ := [some (.ref dg), some (.int (dep + 1 : Nat)), some bv, some (.int (1 + dgN ds 0 3 : Nat)), some (.int (spotT ds : Nat)), none, some vb, none, none, none, none, none, none, none]) (H1 := H3) rfl) (ve_int (i := 1))
            rw [show ((dep + 1 : Nat) : Int) - 1 = (dep : Nat) by omega] at z
            exact z
          refine it_cat (it_from (K := K) rfl hdg3 (ve_int (i := 12)) (by decide)) (it_to (K := K) rfl hdg3 (ve_int (i := 12)) (by decide)) (by rw [List.length_drop, List.length_take]; omega) H3 (Same.refl _) _ fun p H4 s4 hp4 => ?_
          refine vd H4 s4 _ ⟨_, rfl, ?_⟩
          refine ⟨p, rotT 12 ds, dep, bv, bad, rfl, by omega, by omega, hp4, by rw [rot_len (by omega), hlen], (hbad2.mono s3).mono s4, fun v H5 s5 av => ?_⟩
          obtain ⟨t, xs, rfl, ht, as⟩ := at_t av
          cases as with
          | cons a1 as =>
          cases as with
          | cons a2 as =>
          cases as
          exact ⟨t, _, rfl, SqT.of ht, rfl, _, _, rfl, _, _, rfl, rfl, _, _, rfl, s4.trans s5, a1, a2⟩
        rintro σ H4 ⟨vi, vp, rfl, s4, ai, ap⟩
        have hdg4 := s4 _ _ hdg3
        -- rest
        refine ⟨fun σ H5 => ∃ (vr vu : V), σ = [some (.ref dg), some (.int (dep + 1 : Nat)), some bv, some (.int (1 + dgN ds 0 3 : Nat)), some (.int (spotT ds : Nat)), none, some vb, some vi, some vp, some vr, some vu, none, none, none] ∧ Same H4 H5 ∧ At H5 vr (.list (leafT (rotT 17 ds) none).1), ?_, ?_⟩
        · refine it_cat (it_from (K := K) rfl hdg4 (ve_int (i := 17)) (by decide)) (it_to (K := K) rfl hdg4 (ve_int (i := 17)) (by decide)) (by rw [List.length_drop, List.length_take]; omega) H4 (Same.refl _) _ fun p H5 s5 hp5 => ?_
          refine ⟨p, rotT 17 ds, 0, .non, none, rfl, by omega, by omega, hp5, by rw [rot_len (by omega), hlen], rfl, fun v H6 s6 av => ?_⟩
          obtain ⟨t, xs, rfl, ht, as⟩ := at_t av
          cases as with
          | cons a1 as =>
          cases as with
          | cons a2 as =>
          cases as
          exact ⟨t, _, rfl, SqT.of ht, rfl, _, _, rfl, _, _, rfl, rfl, _, _, rfl, s5.trans s6, a1⟩
        rintro σ H5 ⟨vr, vu, rfl, s5, ar⟩
        have hdg5 := s5 _ _ hdg4
        have ai := ai.mono s5
        have ap := ap.mono s5
        have l13 := dgN_lt ds 13 (show 0 < 4 by decide)
        have q13 : ds.getD 13 0 % 4 = (dgN ds 13 4 : Int) := dgN_eq ds 13 (show 0 < 4 by decide)
        have l14 := dgN_lt ds 14 (show 0 < 3 by decide)
        have q14 : ds.getD 14 0 % 3 = (dgN ds 14 3 : Int) := dgN_eq ds 14 (show 0 < 3 by decide)
        -- way
        refine ⟨fun σ H6 => σ = [some (.ref dg), some (.int (dep + 1 : Nat)), some bv, some (.int (1 + dgN ds 0 3 : Nat)), some (.int (spotT ds : Nat)), none, some vb, some vi, some vp, some vr, some vu, some (.int (ds.getD 13 0 % 4)), none, none] ∧ H6 = H5, set_v (ve_mod (ve_dg (j := 13) rfl hdg5 (get 13 (by decide)) rfl) ve_int (by decide)) ⟨rfl, rfl⟩, ?_⟩
        rintro σ H6 ⟨rfl, rfl⟩
        rw [q13]
        generalize hI : blkT dep (rotT 12 ds) bad = qi at ai ap hp kk
        generalize hR : (leafT (rotT 17 ds) none).1 = qr at ar kk
        obtain ⟨ib, ip⟩ := qi
        dsimp only at ai ap hp
        -- the statement
        refine ⟨fun σ H7 => ∃ (vs vq : V), σ = [some (.ref dg), some (.int (dep + 1 : Nat)), some bv, some (.int (1 + dgN ds 0 3 : Nat)), some (.int (spotT ds : Nat)), none, some vb, some vi, some vq, some vr, some vu, some (.int (dgN ds 13 4 : Nat)), some vs, none] ∧ Same H6 H7 ∧ At H7 vs (wayT ds ib qr).1 ∧ At H7 vq (.tuple (((spotT ds : Int) :: ((wayT ds ib qr).2 ++ ip)).map PyData.int)), ?_, ?_⟩
        · have path : ∀ (x : List Int) (ts : TA) (σ : St) (H7 : Hp), x.length ≤ 1 → σ[8]? = some (some vp) → Same H6 H7 → DTs [] ts (((spotT ds : Int) :: x).map PyData.int) σ H7 → DT [] (tOp (rCatA K) (tTup ts) (tVar 8)) (.tuple (((spotT ds : Int) :: (x ++ ip)).map PyData.int)) σ H7 := fun x ts σ H7 hx e8 s7 h => by
            have z := dt_catT (K := K) (L := []) live_nil (dt_tup live_nil h (by rw [List.length_map, List.length_cons]; omega)) (dt_var (L := []) e8 (by rw [hid_nil]; exact ap.mono s7)) (by rw [List.length_map, List.length_map, List.length_cons]; omega)
            rw [← List.map_append, List.cons_append] at z
            exact z
          have fin : ∀ {σ : St} {H7 : Hp} {ta tb : TE} {d e : PyData} {D : Ends}, (wayT ds ib qr).1 = d → .tuple (((spotT ds : Int) :: ((wayT ds ib qr).2 ++ ip)).map PyData.int) = e → DT [] ta d σ H7 → DT [] tb e σ H7 → σ = [some (.ref dg), some (.int (dep + 1 : Nat)), some bv, some (.int (1 + dgN ds 0 3 : Nat)), some (.int (spotT ds : Nat)), none, some vb, some vi, some vp, some vr, some vu, some (.int (dgN ds 13 4 : Nat)), none, none] → Same H6 H7 → (∀ (vs vq : V) (H8 : Hp), Same H6 H8 → At H8 vs (wayT ds ib qr).1 → At H8 vq (.tuple (((spotT ds : Int) :: ((wayT ds ib qr).2 ++ ip)).map PyData.int)) → D.nx [some (.ref dg), some (.int (dep + 1 : Nat)), some bv, some (.int (1 + dgN ds 0 3 : Nat)), some (.int (spotT ds : Nat)), none, some vb, some vi, some vq, some vr, some vu, some (.int (dgN ds 13 4 : Nat)), some vs, none] H8) → tPar 12 8 (tCons ta (tCons tb tNil)) D σ H7 := fun e1 e2 h1 h2 es s7 hD => by
            refine (dt_cons h1 (dt_cons h2 dt_nil)) _ (Same.refl _) _ fun vs H8 s8 av => ?_
            rw [hid_nil] at av
            cases av with
            | cons a1 av =>
            cases av with
            | cons a2 av =>
            cases av
            subst es
            exact ⟨_, _, rfl, hD _ _ _ (s7.trans s8) (by rw [e1]; exact a1) (by rw [e2]; exact a2)⟩
          have hD : ∀ (vs vq : V) (H8 : Hp), Same H6 H8 → At H8 vs (wayT ds ib qr).1 → At H8 vq (.tuple (((spotT ds : Int) :: ((wayT ds ib qr).2 ++ ip)).map PyData.int)) → ∃ (vs' vq' : V), [some (.ref dg), some (.int (dep + 1 : Nat)), some bv, some (.int (1 + dgN ds 0 3 : Nat)), some (.int (spotT ds : Nat)), none, some vb, some vi, some vq, some vr, some vu, some (.int (dgN ds 13 4 : Nat)), some vs, none] = [some (.ref dg), some (.int (dep + 1 : Nat)), some bv, some (.int (1 + dgN ds 0 3 : Nat)), some (.int (spotT ds : Nat)), none, some vb, some vi, some vq', some vr, some vu, some (.int (dgN ds 13 4 : Nat)), some vs', none] ∧ Same H6 H8 ∧ At H8 vs' (wayT ds ib qr).1 ∧ At H8 vq' (.tuple (((spotT ds : Int) :: ((wayT ds ib qr).2 ++ ip)).map PyData.int)) := fun vs vq H8 s8 a1 a2 => ⟨vs, vq, rfl, s8, a1, a2⟩
          refine if_be (be_int (ve_var rfl) ve_int) fun H7 sa0 => ⟨fun c => ?_, fun c => ?_⟩
          · have s7 : Same H6 H7 := sa0
            have c0 : dgN ds 13 4 = 0 := by
              have := of_decide_eq_true c
              omega
            have ew : wayT ds ib qr = (.tuple [.str "repeat", timesD ds, .list ib], []) := by
              unfold wayT
              rw [if_pos c0]
            exact fin (d := .tuple [.str "repeat", timesD ds, .list ib]) (by rw [ew]) (by rw [ew]) (dt_tup live_nil (dt_cons (dt_l dl_str live_nil) (dt_cons (dt_ixL (n := dgN ds 14 3) (ds := [PyData.int 0, .int 3, .int (10 ^ 30)]) (dt_lst live_nil (dt_cons (dt_l dl_int live_nil) (dt_cons (dt_l dl_int live_nil) (dt_cons (dt_int (ve_pow ve_int ve_int ⟨by decide, by decide, by decide⟩)) dt_nil))) (by show 3 ≤ sizeLine; omega)) (ve_mod (ve_dg (j := 14) rfl (s7 _ _ hdg5) (get 14 (by decide)) rfl) ve_int (by decide)) (getD_some (x := PyData.none) (by show _ < 3; exact l14)) q14) (dt_cons (dt_var rfl (by rw [hid_nil]; exact ai.mono s7)) dt_nil))) (by show 3 ≤ sizeLine; omega)) (path [] _ _ _ (by decide) rfl s7 (dt_cons (dt_int (ve_var rfl)) dt_nil)) rfl s7 hD
          have n0 : ¬ dgN ds 13 4 = 0 := by
            have := of_decide_eq_false c
            omega
          have sb0 : Same H6 H7 := sa0
          refine if_be (be_int (ve_var rfl) ve_int) fun H7 sa1 => ⟨fun c => ?_, fun c => ?_⟩
          · have s7 : Same H6 H7 := sb0.trans sa1
            have c0 : dgN ds 13 4 = 1 := by
              have := of_decide_eq_true c
              omega
            have ew : wayT ds ib qr = (.tuple [.str "ifnil", .str "x", .list ib, .list qr], [0]) := by
              unfold wayT
              rw [if_neg n0, if_pos c0]
            exact fin (d := .tuple [.str "ifnil", .str "x", .list ib, .list qr]) (by rw [ew]) (by rw [ew]) (dt_tup live_nil (dt_cons (dt_l dl_str live_nil) (dt_cons (dt_l dl_str live_nil) (dt_cons (dt_var rfl (by rw [hid_nil]; exact ai.mono s7)) (dt_cons (dt_var rfl (by rw [hid_nil]; exact ar.mono s7)) dt_nil)))) (by show 4 ≤ sizeLine; omega)) (path [0] _ _ _ (by decide) rfl s7 (dt_cons (dt_int (ve_var rfl)) (dt_cons (dt_int ve_int) dt_nil))) rfl s7 hD
          have n1 : ¬ dgN ds 13 4 = 1 := by
            have := of_decide_eq_false c
            omega
          have sb1 : Same H6 H7 := sb0.trans sa1
          refine if_be (be_int (ve_var rfl) ve_int) fun H7 sa2 => ⟨fun c => ?_, fun c => ?_⟩
          · have s7 : Same H6 H7 := sb1.trans sa2
            have c0 : dgN ds 13 4 = 2 := by
              have := of_decide_eq_true c
              omega
            have ew : wayT ds ib qr = (.tuple [.str "ifnil", .str "y", .list qr, .list ib], [1]) := by
              unfold wayT
              rw [if_neg n0, if_neg n1, if_pos c0]
            exact fin (d := .tuple [.str "ifnil", .str "y", .list qr, .list ib]) (by rw [ew]) (by rw [ew]) (dt_tup live_nil (dt_cons (dt_l dl_str live_nil) (dt_cons (dt_l dl_str live_nil) (dt_cons (dt_var rfl (by rw [hid_nil]; exact ar.mono s7)) (dt_cons (dt_var rfl (by rw [hid_nil]; exact ai.mono s7)) dt_nil)))) (by show 4 ≤ sizeLine; omega)) (path [1] _ _ _ (by decide) rfl s7 (dt_cons (dt_int (ve_var rfl)) (dt_cons (dt_int ve_int) dt_nil))) rfl s7 hD
          have n2 : ¬ dgN ds 13 4 = 2 := by
            have := of_decide_eq_false c
            omega
          have sb2 : Same H6 H7 := sb1.trans sa2
          have s7 := sb2
          have ew : wayT ds ib qr = (.tuple [.str "ifsame", .str "x", .str "y", .list qr, .list ib], [1]) := by
            unfold wayT
            rw [if_neg n0, if_neg n1, if_neg n2]
          exact fin (d := .tuple [.str "ifsame", .str "x", .str "y", .list qr, .list ib]) (by rw [ew]) (by rw [ew]) (dt_tup live_nil (dt_cons (dt_l dl_str live_nil) (dt_cons (dt_l dl_str live_nil) (dt_cons (dt_l dl_str live_nil) (dt_cons (dt_var rfl (by rw [hid_nil]; exact ar.mono s7)) (dt_cons (dt_var rfl (by rw [hid_nil]; exact ai.mono s7)) dt_nil))))) (by show 5 ≤ sizeLine; omega)) (path [1] _ _ _ (by decide) rfl s7 (dt_cons (dt_int (ve_var rfl)) (dt_cons (dt_int ve_int) dt_nil))) rfl s7 hD
        rintro σ H7 ⟨vs, vq, rfl, s7, as, aq⟩
        refine dt_tup (L := []) live_nil (dt_cons (dt_put (ds := ds) few rfl (ab.mono (s3.trans (s4.trans (s5.trans s7)))) rfl (dt_var rfl (by rw [hid_nil]; exact as))) (dt_cons (dt_var rfl (by rw [hid_nil]; exact aq)) dt_nil)) (by show 2 ≤ sizeLine; omega) H7 (Same.refl _) _ fun v H8 s8 av => ?_
        rw [hid_nil] at av
        exact kk v H8 (s2.trans (s3.trans (s4.trans (s5.trans (s7.trans s8))))) av
      rintro σ H3 ⟨rfl, s3, eb⟩
      rw [eb] at kk
      have hdg3 := s3 _ _ hdg2
      have hbad3 := hbad2.mono s3
      have ab3 := ab.mono s3
      have s03 := s2.trans s3
      -- bad or none
      have l15 := dgN_lt ds 15 (show 0 < 2 by decide)
      have q15 : ds.getD 15 0 % 2 = (dgN ds 15 2 : Int) := dgN_eq ds 15 (show 0 < 2 by decide)
      cases bad with
      | none =>
        have hb0 : bv = .non := hbad
        subst hb0
        refine ⟨fun _ _ => False, if_be (be_isN (ve_var rfl)) fun H4 s4 => ⟨fun c => ?_, fun c => ?_⟩, fun _ _ h => h.elim⟩
        · have ab4 := ab3.mono s4
          refine ⟨fun σ H5 => ∃ v : V, σ = [some (.ref dg), some (.int (dep : Nat)), some .non, some (.int (1 + dgN ds 0 3 : Nat)), some (.int (spotT ds : Nat)), none, some vb, none, none, none, none, none, none, some v] ∧ Same H4 H5 ∧ At H5 v (callD2 ds), ?_, ?_⟩
          · exact set_dt (L := []) (d := callD2 ds) (dt_tup live_nil (dt_cons (dt_l dl_str live_nil) (dt_cons (dt_ixL (n := dgN ds 15 2) (ds := [PyData.str "x", .none]) (dt_l (dl_lst (dl_cons dl_str (dl_cons dl_non dl_nil)) (by show 2 ≤ sizeLine; omega)) live_nil) (ve_mod (ve_dg (j := 15) rfl (s4 _ _ hdg3) (get 15 (by decide)) rfl) ve_int (by decide)) (getD_some (x := PyData.none) (by show _ < 2; exact l15)) q15) (dt_cons (dt_l dl_str live_nil) (dt_cons (dt_l (d := .list [.str "y", .str "x"]) (dl_lst (dl_cons dl_str (dl_cons dl_str dl_nil)) (by show 2 ≤ sizeLine; omega)) live_nil) dt_nil)))) (by show 4 ≤ sizeLine; omega)) fun v H5 s5 a => ⟨v, rfl, s5, by rw [hid_nil] at a; exact a⟩
          rintro σ H5 ⟨vc, rfl, s5, ac⟩
          refine dt_tup (L := []) live_nil (dt_cons (dt_put (ds := ds) few rfl (ab4.mono s5) rfl (dt_var rfl (by rw [hid_nil]; exact ac))) (dt_cons (dt_l (d := .tuple []) (dl_tup dl_nil (by show 0 ≤ sizeLine; omega)) live_nil) dt_nil)) (by show 2 ≤ sizeLine; omega) H5 (Same.refl _) _ fun v H8 s8 av => ?_
          rw [hid_nil] at av
          exact kk v H8 (s03.trans (s4.trans (s5.trans s8))) av
        · cases c
      | some q =>
        obtain ⟨t, xs, hv, ht, as⟩ := at_t hbad3.1
        subst hv
        have lq := hbad3.2
        refine ⟨fun σ H4 => σ = [some (.ref dg), some (.int (dep : Nat)), some (.ref t), some (.int (1 + dgN ds 0 3 : Nat)), some (.int (spotT ds : Nat)), none, some vb, none, none, none, none, none, none, none] ∧ Same H3 H4, if_be (be_isN (ve_var rfl)) fun H4 s4 => ⟨fun c => ?_, fun c => ⟨rfl, s4⟩⟩, ?_⟩
        · cases c
        rintro σ H4 ⟨rfl, s4⟩
        cases as with
        | cons a1 as =>
        cases as with
        | cons a2 as =>
        cases as
        rename_i x1 x2
        refine ⟨fun σ H5 => σ = [some (.ref dg), some (.int (dep : Nat)), some (.ref t), some (.int (1 + dgN ds 0 3 : Nat)), some (.int (spotT ds : Nat)), none, some vb, none, none, some x2, none, none, some x1, none] ∧ H5 = H4, ⟨_, rfl, t, _, rfl, SqT.of (s4 _ _ ht), rfl, _, _, rfl, _, _, rfl, rfl, rfl, rfl⟩, ?_⟩
        rintro σ H5 ⟨rfl, rfl⟩
        have z := dt_catT (K := K) (L := []) (σ := [some (.ref dg), some (.int (dep : Nat)), some (.ref t), some (.int (1 + dgN ds 0 3 : Nat)), some (.int (spotT ds : Nat)), none, some vb, none, none, some x2, none, none, some x1, none]) (H1 := H5) live_nil (dt_tup live_nil (dt_cons (dt_int (ve_var (s := 4) (v := .int (spotT ds : Nat)) rfl)) dt_nil) (by show 1 ≤ sizeLine; omega)) (dt_var (L := []) (s := 9) rfl (by rw [hid_nil]; exact a2.mono s4)) (by rw [List.length_map]; show 1 + _ ≤ sizeLine; omega)
        refine dt_tup (L := []) live_nil (dt_cons (dt_put (ds := ds) few rfl (ab3.mono s4) rfl (dt_var rfl (by rw [hid_nil]; exact a1.mono s4))) (dt_cons z dt_nil)) (by show 2 ≤ sizeLine; omega) H5 (Same.refl _) _ fun v H8 s8 av => ?_
        rw [hid_nil] at av
        exact kk v H8 (s03.trans (s4.trans s8)) av
end
end K1

set_option Elab.async false
set_option linter.all false
set_option maxRecDepth 100000
set_option maxHeartbeats 8000000
namespace L2
open PySem PySem.Spec PyProof.Rows
section
variable {X : Cx} {CX : CXT} {k n : Nat} {f C : Addr} {fd : FuncData} {ps ks : List Str} {sp : Sp} {E : St → XK} {x : Str} {p pos : Pos} {e : Expr} {es : List Expr} {kws : List Keyword} {t tk : TA} {g : List Value → List Value → List Value} {gV : List V → List V → List V}
/-- C(e, .., k = v, ..): what is raised is wished for at the slots -/
def tMkS (C : Addr) (n m : Nat) (sp : Sp) (gV : List V → List V → List V) (E : St → XK) (t tk : TA) : TE := fun σ H Q => tMakeK C n m sp gV (E σ) t tk σ H Q
theorem pe_mkS (M : Mk X.K C f) (F : FnOk X.prog X.w X.K X.mg X.base CX k f fd ps sp) (hr : Room (k + 1) X.A) (hg : Gl X x) (hm : X.mg x = some (.ref C)) (hb : KBn X.K fd ps (n + 1) ks g gV) (px : ∀ σ, PassesAt CX X σ (E σ)) (ha : PA X (e :: es) t) (hkw : PK X kws tk)
    (hall : (backToKw pos (keywordEach kws X.env)).all (·.1.isSome) = true := by rfl) (hks : (backToKw pos (keywordEach kws X.env)).filterMap (·.1) = ks := by rfl) (hdb : (x == ("__debug__" : Str)) = false := by decide)
    (he : starEach (e :: es) X.env = (false, eval e X.env) :: starEach es X.env := by rfl) (hpl : ((backTo pos (starEach (e :: es) X.env)).any (·.1) || (backToKw pos (keywordEach kws X.env)).any (·.1.isNone)) = false := by rfl) :
    PE X (.Call (.Name x p) (e :: es) kws pos) (tMkS C n ks.length sp gV E t tk) := by
  refine ⟨fun pins s σ H Q I h => wpAny_Call_Name_kw (ld_glob I hg hm (PySem.W.callWith_KW (h₀ := X.base) I.ok.mod.kin M.kp hall (thn (ha.run pos pins s σ H _ I h) fun us s1 ⟨vs, H1, I1, r, q⟩ => ?_) hpl he) hdb)⟩
  refine thn (hkw.run pos pins s1 σ H1 _ I1 q) fun ws s2 ⟨zs, H2, I2, rz, l1, l2, hyp⟩ => ⟨I2.kIn, ?_⟩
  rw [hks]
  have fresh := hyp (s2.heap.objs.size + 1) s2.heap.objs.size (I2.hok.fresh (Nat.le_succ _)) (I2.hok.fresh (Nat.le_refl _)) (Nat.ne_of_lt (Nat.lt_succ_self _))
  have I3 := Inv.made (C := C) I2
  have rv : Vals (V.ref (s2.heap.objs.size + 1) :: vs) (Value.ref (s2.heap.objs.size + 1) :: us) := .cons rfl r
  have len : (Value.ref (s2.heap.objs.size + 1) :: us).length = n + 1 := by
    rw [List.length_cons, ← r.length, l1]
  refine wpAny_call (make_map (f := f) I2.kIn M.makes M.init (beq_iff_eq.mp M.fn) (codeAny_mono (F.run _ X.stack _ _ ⟨Value.ref (s2.heap.objs.size + 1) :: us, ks.zip ws⟩ (g (Value.ref (s2.heap.objs.size + 1) :: us) ws) _ _ (E σ) (hr.make C us (ks.zip ws))
    (I3.env0.make C us (ks.zip ws)) (hb.to _ (Value.ref (s2.heap.objs.size + 1) :: us) ws I3.kIn len (rz.length.symm.trans l2)) (hb.rel rv rz) fresh) fun res st hres => ?_))
  cases res with
  | error e => exact px σ pins _ _ e st I3 hres
  | ok fl =>
    cases fl with
    | ret u =>
      obtain ⟨v, Hv, I4, rl, ev, q4⟩ := I3.after hres
      subst ev
      exact ⟨rl, ⟨V.ref (s2.heap.objs.size + 1), Hv, I4, rfl, q4⟩⟩
    | next => exact False.elim hres
    | brk => exact False.elim hres
    | cont => exact False.elim hres
end
end L2
namespace K1
open PySem L2
section
variable {P : Program} {w : World} {K : PySem.W.Frag} {mg : Str → Option Value} {base : Heap} {C CP : Addr}
abbrev kwP : List Str := ["variables", "weak", "threshold", "radices", "functions"]
theorem kb_pr {f : Addr} {fd : FuncData} (F : Fun K "__init__" "Program.__init__" sPrI f fd) : KBn K fd prP 3 kwP (fun us ws => us ++ ws) (fun vs zs => vs ++ zs) := by
  obtain ⟨oc, od, kV, doc, pm, an, cdv, ct, osl, rfl, lk, hcd⟩ := F.ex
  refine ⟨fun s us ws X l1 l2 => BindsTo.of_looks fun M => PySem.W.Looks.of_pure ?_, fun r1 r2 => r1.append r2⟩
  match us, l1, ws, l2 with
  | [_, _, _], _, [_, _, _, _, _], _ => rfl
/-- the class Program as its makers know it -/
structure PrmN (P : Program) (w : World) (K : PySem.W.Frag) (mg : Str → Option Value) (base : Heap) (C CP : Addr) (kk N : Nat) : Prop where
  ex : ∃ (f : Addr) (fd : FuncData), Mk K CP f ∧ FnOk P w K mg base (L2.CX P w) (N + 1) f fd prP (spPr2 C CP kk) ∧ KBn K fd prP 3 kwP (fun us ws => us ++ ws) (fun vs zs => vs ++ zs)
  g : mg "Program" = some (.ref CP)
/-- InvalidProgram where it is caught -/
structure CgtA (K : PySem.W.Frag) (mg : Str → Option Value) (C : Addr) : Prop where
  g : mg "InvalidProgram" = some (.ref C)
  ex : PySem.W.exmOne K (.ref C) (.ref C) = some true
  xf : XfC K C
  n1 : PySem.W.findIn K (.ref C) "part" = some none
  n2 : PySem.W.findIn K (.ref C) "at" = some none
theorem mkd_rd {n m : Nat} {sp : Sp} {gV : List V → List V → List V} {E : St → XK} {t tk : TA} {σ : St} {H : Hp} {D : Ends} {CC : Addr} (h : t σ H fun vs H1 => tk σ H1 fun zs H2 => vs.length = n ∧ zs.length = m ∧ ∀ x dx, H2 x = none → H2 dx = none → dx ≠ x →
    sp (gV (.ref x :: vs) zs) (upd (upd H2 dx (.own x)) x (.ins CC dx [])) (fun v H3 => v = .non ∧ D.nx σ H3) (E σ)) : tDrop (tMkS CC n m sp gV E t tk) D σ H := h
theorem Prog2.off {H H1 Hx : Hp} {p : Addr} {rows : List Row} {ns ls : List Str} {th : Int} {ks : List Int} {bs fs : List PyData} (g : Prog2 H1 Hx CP p rows ns ls th ks bs fs) (of : ∀ b, H1 b = none → H b = none) : Prog2 H Hx CP p rows ns ls th ks bs fs := by
  obtain ⟨dx, a, b, c, d, f, g, hp, ca, cb, cc, cd, cf, cg⟩ := g
  exact ⟨dx, a, b, c, d, f, g, hp, ca.base of, At.mono (off_dom of) cb, ⟨of _ cc.1, cc.2⟩, ⟨of _ cd.1, cd.2⟩, ⟨of _ cf.1, cf.2⟩, At.mono (off_dom of) cg⟩
theorem mk_rd {n m : Nat} {sp : Sp} {gV : List V → List V → List V} {E : St → XK} {t tk : TA} {σ : St} {H : Hp} {D : Ends} {CC : Addr} (h : t σ H fun vs H1 => tk σ H1 fun zs H2 => vs.length = n ∧ zs.length = m ∧ ∀ x dx, H2 x = none → H2 dx = none → dx ≠ x →
    sp (gV (.ref x :: vs) zs) (upd (upd H2 dx (.own x)) x (.ins CC dx [])) (fun v H3 => v = .non ∧ D.rt (.ref x) H3) (E σ)) : tRet (tMkS CC n m sp gV E t tk) D σ H := h
/-! ### _law_made -/
theorem parts2 : Parts rows2 ns2 ls2 1 [2] := ⟨by decide +kernel, by decide +kernel, by decide +kernel, by decide, by decide +kernel⟩
def spMade2 (CP : Addr) : Sp := fun vs H Q _ => ∃ (b i : V) (bd id : PyData) (res : PRes), vs = [b, i] ∧ At H b bd ∧ At H i id ∧ shortT (headsT2 id) = true ∧ prog2 bd id = some res ∧
  (match res with
  | .bad part d => ∀ x H', Same H H' → At H' x (.tuple [.str part, d]) → Q x H'
  | .ok => ∀ bs hs p H', bd = .list bs → headsT2 id = .list hs → Same H H' → H p = none → Prog2 H H' CP p rows2 ns2 ls2 1 [2] bs hs → Q (.ref p) H')
theorem sc44 : FnScope ["_law_body", "_law_inner", "_law_heads", "error"] ["_law_body", "_law_inner"] (defScope (top 44)) := ⟨rfl, rfl, rfl, by decide +kernel, rfl, by decide +kernel, by decide +kernel⟩
theorem ok44 {f : Addr} {fd : FuncData} {N : Nat} (F : Fun K "_law_made" "_law_made" (top 44) f fd) (M : PrmN P w K mg base C CP 3 N) (T : CgtA K mg C) : FnOk P w K mg base CX0 (N + 3) f fd ["_law_body", "_law_inner"] (spMade2 CP) := by
  refine F.ok sc44 (fun vs H Q E h => ?_) (fun cdv A outer s H vs Q E hr h => ?_)
  · obtain ⟨b, i, bd, id, res, rfl, _⟩ := h
    rfl
  · obtain ⟨b, iv, bd, id, res, rfl, hb0, hi0, sh, em, k⟩ := h
    obtain ⟨fI, fdI, mk, G, kb⟩ := M.ex
    refine ⟨_, pss_mid (ps_set (i := 2) sc44.nd rfl (Or.inl rfl) (pe_lst (pa_cons (pe_tup (pa_cons pe_str (pa_cons (pe_lst (pa_cons pe_str (pa_cons pe_str pa_nil))) (pa_cons (pe_lst pa_nil) (pa_cons (pe_lst (pa_cons (pe_tup (pa_cons pe_str (pa_cons pe_str pa_nil))) pa_nil)) (pa_cons pe_str pa_nil)))))) (pa_cons (pe_tup (pa_cons pe_str (pa_cons (pe_lst pa_nil) (pa_cons (pe_lst pa_nil) (pa_cons (pe_lst pa_nil) (pa_cons pe_non pa_nil)))))) pa_nil))))
      (pss_mid (ps_expr (pe_bm PySem.F.plainAttrs_list PySem.F.slot_list_append PySem.F.type_list_append mt_append (pv 2) (pa_cons (pe_tup (pa_cons pe_str (pa_cons (pe_lst (pa_cons pe_str (pa_cons pe_str pa_nil))) (pa_cons (pe_lst pa_nil) (pa_cons (pv 1) (pa_cons pe_non pa_nil)))))) pa_nil)))
      (pss_one (ps_try_as (i := 3) rfl rfl sc44.nd rfl rfl ⟨rfl, by decide, .inl T.g⟩ takes0
      (fun W pn xe tk _ => pss_one (ps_ret (pe_mkS mk G hr rfl M.g kb (fun σ => passAt tk σ) (pa_cons (pe_lst (pa_cons (pe_tup (pa_cons pe_str (pa_cons pe_int (pa_cons (pe_lst (pa_cons pe_str pa_nil)) (pa_cons pe_bl pa_nil))))) pa_nil)) (pa_cons (pv 0) pa_nil))
        (pk_cons (pe_lst (pa_cons pe_str (pa_cons pe_str pa_nil))) (pk_cons (pe_lst (pa_cons pe_str pa_nil)) (pk_cons pe_int (pk_cons (pe_lst (pa_cons pe_int pa_nil)) (pk_cons (pv 2) pk_nil))))))))
      (fun a oe cls d pn hz hf => pss_one (ps_ret (pe_tup (pa_cons (pe_xf T.xf T.n1 hz hf (pv 3)) (pa_cons (pe_xf T.xf T.n2 hz hf (pv 3)) pa_nil)))))))), ?_⟩
    -- heads
    refine ⟨fun σ H1 => ∃ l : Addr, σ = [some b, some iv, some (.ref l), none] ∧ LA H l [.tuple [.str "build", .list [.str "x", .str "y"], .list [], .list [.tuple [.str "emit", .str "x"]], .str "x"], .tuple [.str "mute", .list [], .list [], .list [], .none]] H1, ?_, ?_⟩
    · unfold tAsg
      refine (dt_cons (L := []) (dt_l (dl_tup (dl_cons dl_str (dl_cons (dl_lst (dl_cons dl_str (dl_cons dl_str dl_nil)) (by show 2 ≤ sizeLine; decide)) (dl_cons (dl_lst dl_nil (by show 0 ≤ sizeLine; decide)) (dl_cons (dl_lst (dl_cons (dl_tup (dl_cons dl_str (dl_cons dl_str dl_nil)) (by show 2 ≤ sizeLine; decide)) dl_nil) (by show 1 ≤ sizeLine; decide)) (dl_cons dl_str dl_nil))))) (by show 5 ≤ sizeLine; decide)) live_nil) (dt_cons (dt_l (dl_tup (dl_cons dl_str (dl_cons (dl_lst dl_nil (by show 0 ≤ sizeLine; decide)) (dl_cons (dl_lst dl_nil (by show 0 ≤ sizeLine; decide)) (dl_cons (dl_lst dl_nil (by show 0 ≤ sizeLine; decide)) (dl_cons dl_non dl_nil))))) (by show 5 ≤ sizeLine; decide)) live_nil) dt_nil)) H (Same.refl _) _ fun vs H5 s5 av => ⟨by rw [av.len]; show 2 ≤ sizeLine; decide, fun p np => ⟨p, rfl, LA.first s5 (by rw [hid_nil] at av; exact av) np⟩⟩
    rintro σ H1 ⟨l, rfl, la⟩
    refine ⟨fun σ H2 => σ = [some b, some iv, some (.ref l), none] ∧ Same H H2 ∧ At H2 (.ref l) (headsT2 id), ?_, ?_⟩
    · obtain ⟨n0, s1, vs, hl, as⟩ := _root_.id la
      have lv := la.live
      have hi : At (hid [l] H1) iv id := hi0.mono (hid_of (fun b m => by rw [List.mem_singleton.mp m]; exact n0) s1)
      refine ⟨_, rfl, .inl ⟨rfl, _, SqL.of hl⟩, ?_⟩
      refine (dt_cons (L := [l]) (d := .tuple [.str "inner", .list [.str "x", .str "y"], .list [], id, .none]) (dt_tup lv (dt_cons (dt_l dl_str lv) (dt_cons (dt_l (dl_lst (dl_cons dl_str (dl_cons dl_str dl_nil)) (by show 2 ≤ sizeLine; decide)) lv) (dt_cons (dt_l (dl_lst dl_nil (by show 0 ≤ sizeLine; decide)) lv) (dt_cons (dt_var rfl hi) (dt_cons (dt_l dl_non lv) dt_nil))))) (by show 5 ≤ sizeLine; decide)) dt_nil) H1 (Same.refl _) _ fun us H6 s6 au => ?_
      cases au with
      | cons a1 au =>
      cases au
      have la6 := LA.push la hl s6 a1
      refine ⟨l, vs, _, rfl, rfl, s6 _ _ hl, by rw [as.len]; show 2 < sizeLine; decide, rfl, la6.2.1, ?_⟩
      obtain ⟨_, _, ws, hw, aw⟩ := la6
      exact .lst hw (aw.mono hid_sub)
    rintro σ HH ⟨rfl, sH, hf⟩
    have hb := hb0.mono sH
    refine mk_rd ((dt_cons (dt_l (d := clsD rows2) (dl_lst (dl_cons (dl_tup (dl_cons dl_str (dl_cons dl_int (dl_cons (dl_lst (dl_cons dl_str dl_nil) (by decide)) (dl_cons dl_bl dl_nil)))) (by decide)) dl_nil) (by decide)) live_nil) (dt_cons (dt_var rfl (by rw [hid_nil]; exact hb)) dt_nil)) HH (Same.refl _) _ fun vs H1 s1 a1 => ?_)
    refine (dt_cons (dt_l (d := .list (ns2.map PyData.str)) (dl_lst (dl_cons dl_str (dl_cons dl_str dl_nil)) (by decide)) live_nil) (dt_cons (dt_l (d := .list (ls2.map PyData.str)) (dl_lst (dl_cons dl_str dl_nil) (by decide)) live_nil) (dt_cons (dt_l dl_int live_nil) (dt_cons (dt_l (d := .list (([2] : List Int).map PyData.int)) (dl_lst (dl_cons dl_int dl_nil) (by decide)) live_nil) (dt_cons (dt_var rfl (by rw [hid_nil]; exact hf.mono s1)) dt_nil))))) H1 (Same.refl _) _ fun zs H2 s2 a2 => ?_
    rw [hid_nil] at a1 a2
    refine ⟨a1.len, a2.len, fun x dx nx ndx ne => ?_⟩
    have s02 := s1.trans s2
    have ndx' : H2 dx = none := ndx
    have s3 := same_new (o := .own x) (Same.refl H2) ndx
    have nx' : (upd H2 dx (.own x)) x = none := by
      rw [upd_ne ne.symm]
      exact nx
    have s4 := same_new (o := .ins CP dx []) s3 nx'
    have b1 := a1.mono (s2.trans s4)
    have b2 := a2.mono s4
    cases b1 with
    | cons hc b1 =>
    cases b1 with
    | cons hbb b1 =>
    cases b1
    cases b2 with
    | cons hnn b2 =>
    cases b2 with
    | cons hl b2 =>
    cases b2 with
    | cons ht b2 =>
    cases b2 with
    | cons hrr b2 =>
    cases b2 with
    | cons hff b2 =>
    cases b2
    cases ht
    have ef := faultG hc hnn hl hrr parts2
    refine ⟨x, dx, _, _, _, _, _, _, _, bd, headsT2 id, fuel, rfl, upd_same, hc.dat, hnn.dat, hl.dat, .int 1, hrr.dat, hbb, hff, by decide, fun part at_ e => ?_, fun _ rows ns ls th ks fine => ?_⟩
    · rw [ef] at e
      cases e
    obtain ⟨rfl, rfl, rfl, rfl, rfl⟩ := fineG fine hc hnn hl hrr
    have s0 := sH.trans (s02.trans s4)
    have two : (2 : Nat) ≤ sizeLine := by decide
    refine rest_rd em sh (fun part b e hp y H1' s1' ay => ?_) fun e bs ds eb ed H' pg kp => ?_
    · subst e
      have fs : part.length ≤ 1000 ∧ PyData.strOk part = true := by
        rcases hp with rfl | rfl
        · exact ⟨by decide +kernel, by decide +kernel⟩
        · exact ⟨by decide +kernel, by decide +kernel⟩
      intro dd H' s' n' e'
      refine ⟨true, T.ex, fun _ a na => ?_, fun z => nomatch z⟩
      exact ⟨_, rfl, rfl, rfl, dd, _, _, rfl, e', rfl, _, rfl, rfl, rfl, dd, _, _, rfl, e', rfl, two, fun t nt => k _ _ (same_new ((s0.trans s1').trans s') nt) (.tup upd_same (.cons (.str _ fs) (.cons ((ay.mono s').mono (same_new (Same.refl _) nt)) .nil)))⟩
    · subst e
      have nxH : H x = none := none_of' (sH.trans s02) nx
      exact ⟨rfl, k bs ds x H' eb ed (fun b o z => kp b o (s0 _ _ z) (fun q => by rw [q, nxH] at z; cases z)) nxH (pg.off fun b hb => none_of' s0 hb)⟩
end
end K1

set_option Elab.async false
set_option linter.all false
set_option maxRecDepth 100000
set_option maxHeartbeats 8000000
namespace K1
open PySem L2
/-! ### trees that == looks at -/
def OkD (n : Nat) (d : PyData) : Prop := noDic d = true ∧ PyData.canLay0 d = true ∧ PyData.depth d ≤ n
def OkDs (n : Nat) (ds : List PyData) : Prop := noDics ds = true ∧ PyData.canLayAll0 ds = true ∧ PyData.depthAll ds ≤ n
theorem OkDs.of {n : Nat} : ∀ {ds : List PyData}, (∀ d ∈ ds, OkD n d) → OkDs n ds
  | [], _ => ⟨rfl, rfl, Nat.zero_le _⟩
  | d :: ds, h => by
    obtain ⟨a1, a2, a3⟩ := h d List.mem_cons_self
    obtain ⟨b1, b2, b3⟩ := OkDs.of fun e m => h e (List.mem_cons_of_mem _ m)
    refine ⟨?_, ?_, ?_⟩
    · show (noDic d && noDics ds) = true
      rw [a1, b1]
      rfl
    · show (PyData.canLay0 d && PyData.canLayAll0 ds) = true
      rw [a2, b2]
      rfl
    · show max (PyData.depth d) (PyData.depthAll ds) ≤ n
      omega
theorem OkD.list {n : Nat} {ds : List PyData} (h : ∀ d ∈ ds, OkD n d) : OkD (n + 1) (.list ds) := by
  obtain ⟨a, b, c⟩ := OkDs.of h
  exact ⟨a, b, Nat.succ_le_succ c⟩
theorem OkD.tup {n : Nat} {ds : List PyData} (h : ∀ d ∈ ds, OkD n d) : OkD (n + 1) (.tuple ds) := by
  obtain ⟨a, b, c⟩ := OkDs.of h
  exact ⟨a, b, Nat.succ_le_succ c⟩
theorem OkD.up {n m : Nat} {d : PyData} (h : OkD n d) (le : n ≤ m) : OkD m d := ⟨h.1, h.2.1, Nat.le_trans h.2.2 le⟩
theorem OkD.int {n : Nat} (i : Int) : OkD n (.int i) := ⟨rfl, rfl, Nat.zero_le _⟩
theorem OkD.str {n : Nat} {s : Str} (h : PyData.strOk s = true) : OkD n (.str s) := ⟨rfl, h, Nat.zero_le _⟩
theorem OkD.non {n : Nat} : OkD n .none := ⟨rfl, rfl, Nat.zero_le _⟩
theorem OkD.ints {n : Nat} (l : List Int) : OkD (n + 1) (.tuple (l.map PyData.int)) := OkD.tup fun d m => by
  obtain ⟨i, _, rfl⟩ := List.mem_map.mp m
  exact OkD.int i
theorem OkD.facts {d : PyData} (h : OkD 64 d) : noDic d = true ∧ SeqAt.shaped d = true ∧ PyData.eqv d d = true := by
  obtain ⟨a, b, c⟩ := h
  refine ⟨a, ?_, SeqAt.eqv_refl _ b⟩
  unfold SeqAt.shaped
  rw [b, Bool.true_and]
  exact decide_eq_true c
def okB0 (n : Nat) (d : PyData) : Bool := noDic d && (PyData.canLay0 d && decide (PyData.depth d ≤ n))
theorem okB0_is {n : Nat} {d : PyData} (h : okB0 n d = true) : OkD n d := by
  unfold okB0 at h
  rw [Bool.and_eq_true, Bool.and_eq_true] at h
  exact ⟨h.1, h.2.1, of_decide_eq_true h.2.2⟩
theorem simp_okD : ∀ a < 2, ∀ b < 2, ∀ k < 11, okB0 1 (simpN k a b) = true := by decide +kernel
theorem simpT_okD (e : List Int) : OkD 1 (simpT e) := okB0_is (simp_okD _ (dgN_lt e 1 (by decide)) _ (dgN_lt e 2 (by decide)) _ (dgN_lt e 0 (by decide)))
theorem put_okD {ds : List Int} {st : PyData} {n : Nat} (h : OkD (n + 1) st) : OkD (n + 2) (.list (putT ds st)) := OkD.list fun d m => by
  have pr : ∀ d ∈ preT ds, OkD (n + 1) d := fun d m => by
    unfold preT at m
    obtain ⟨k, _, rfl⟩ := List.mem_map.mp m
    exact (simpT_okD _).up (by omega)
  unfold putT at m
  rw [List.append_assoc, List.mem_append, List.mem_append, List.mem_singleton] at m
  rcases m with m | rfl | m
  · exact pr d (List.mem_of_mem_take m)
  · exact h
  · exact pr d (List.mem_of_mem_drop m)
theorem strok {s : Str} (h : PyData.strOk s = true := by decide +kernel) : PyData.strOk s = true := h
theorem leaf_okD (ds : List Int) : OkD 3 (.list (leafT ds none).1) := put_okD (n := 1) (by
  unfold callD2
  have lt := dgN_lt ds 15 (show 0 < 2 by decide)
  match dgN ds 15 2, lt with
  | 0, _ => exact okB0_is (by decide +kernel)
  | 1, _ => exact okB0_is (by decide +kernel))
theorem blk_okD : ∀ (dep : Nat) (ds : List Int), OkD (3 + 2 * dep) (.list (blkT dep ds none).1)
  | 0, ds => leaf_okD ds
  | dep + 1, ds => by
    unfold blkT
    split
    · unfold nodeT
      dsimp only
      have h1 := blk_okD dep (rotT 12 ds)
      have h2 : OkD (3 + 2 * dep) (.list (leafT (rotT 17 ds) none).1) := (leaf_okD _).up (by omega)
      generalize (blkT dep (rotT 12 ds) none).1 = x at h1
      generalize (leafT (rotT 17 ds) none).1 = y at h2
      have tm : OkD (3 + 2 * dep) (timesD ds) := by
        have l3 := dgN_lt ds 14 (show 0 < 3 by decide)
        unfold timesD
        match dgN ds 14 3, l3 with
        | 0, _ => exact OkD.int _
        | 1, _ => exact OkD.int _
        | 2, _ => exact OkD.int _
      have go : OkD (3 + 2 * dep + 1) (wayT ds x y).1 := by
        have s1 : OkD (3 + 2 * dep) (.str "x") := OkD.str (by decide +kernel)
        have s2 : OkD (3 + 2 * dep) (.str "y") := OkD.str (by decide +kernel)
        have s3 : OkD (3 + 2 * dep) (.str "repeat") := OkD.str (by decide +kernel)
        have s4 : OkD (3 + 2 * dep) (.str "ifnil") := OkD.str (by decide +kernel)
        have s5 : OkD (3 + 2 * dep) (.str "ifsame") := OkD.str (by decide +kernel)
        unfold wayT
        split
        · refine OkD.tup fun d m => ?_
          simp only [List.mem_cons, List.not_mem_nil, or_false] at m
          rcases m with rfl | rfl | rfl
          · exact s3
          · exact tm
          · exact h1
        split
        · refine OkD.tup fun d m => ?_
          simp only [List.mem_cons, List.not_mem_nil, or_false] at m
          rcases m with rfl | rfl | rfl | rfl
          · exact s4
          · exact s1
          · exact h1
          · exact h2
        split
        · refine OkD.tup fun d m => ?_
          simp only [List.mem_cons, List.not_mem_nil, or_false] at m
          rcases m with rfl | rfl | rfl | rfl
          · exact s4
          · exact s2
          · exact h2
          · exact h1
        · refine OkD.tup fun d m => ?_
          simp only [List.mem_cons, List.not_mem_nil, or_false] at m
          rcases m with rfl | rfl | rfl | rfl | rfl
          · exact s5
          · exact s1
          · exact s2
          · exact h2
          · exact h1
      exact (put_okD (n := 3 + 2 * dep) go).up (by omega)
    · exact (leaf_okD ds).up (by omega)
/-! ### the first statement of a valid block, alone -/
section
variable {cs : Cl} {a : List Int} {nd : Nat} {rep : Int} {ds : List Int} {s : Str} {es : List PyData} {K M : Nat}
theorem runs_put1 (hn : nd ≤ 60) (hw : wordsT (scB cs) s es rep = true) (h : ∀ p, RunsL (scB cs) (pushT s es (a ++ [p]) nd rep) K M) : RunsL (scB cs) [⟨.list ((putT ds (.tuple (.str s :: es))).take 1), a, nd, rep, 0⟩] (K + 5) (M + 4) := by
  obtain ⟨pre, post, e, e1, e2, e3, e4⟩ := put_form (ds := ds) (.tuple (.str s :: es))
  rw [e]
  cases pre with
  | nil =>
    have z := runs_block (pre := []) (post := []) (a := a) (fun d m => by cases m) (fun d m => by cases m) hn hw (h _)
    exact z.le (by show K + 0 + 0 + 2 ≤ K + 5; omega) (by show M + 0 + 0 + 1 ≤ M + 4; omega)
  | cons x xs =>
    show RunsL (scB cs) [⟨.list [x], a, nd, rep, 0⟩] (K + 5) (M + 4)
    exact (runs_simple hn rfl (simpB_is (e3 x List.mem_cons_self).1) (runs_end hn rfl)).le (by omega) (by omega)
theorem runs_leaf1 (ok : CsOk cs) (hn : nd ≤ 60) (hr : rep ≤ 3) : RunsL (scB cs) [⟨.list ((leafT ds none).1.take 1), a, nd, rep, 0⟩] 5 4 := by
  have := runs_put1 (ds := ds) (a := a) hn (call_words (ds := ds) ok hr) (K := 0) (M := 0) (fun p => by
    rw [push_nil rfl]
    exact RunsL.nil)
  exact this
end
theorem way_ok1 {cs : Cl} {rep : Int} {nd : Nat} {ds : List Int} (hr : rep ≤ 2) (hn : nd ≤ 59) {inner rest : List PyData} :
    ∃ s es, (wayT ds inner rest).1 = .tuple (.str s :: es) ∧ wordsT (scB cs) s es rep = true ∧ ∃ rep', rep' ≤ rep + 1 ∧ ∀ a : List Int,
      ((∃ p, pushT s es a nd rep = [⟨.list inner, p, nd + 1, rep', 0⟩]) ∨ (∃ p q, pushT s es a nd rep = [⟨.list inner, p, nd + 1, rep', 0⟩, ⟨.list rest, q, nd + 1, rep', 0⟩]) ∨ ∃ p q, pushT s es a nd rep = [⟨.list rest, q, nd + 1, rep', 0⟩, ⟨.list inner, p, nd + 1, rep', 0⟩]) := by
  unfold wayT
  have lt := dgN_lt ds 13 (show 0 < 4 by decide)
  have fits : ∀ {cs : Cl} {s : Str} {es : List PyData}, s ≠ "call" → s ≠ "repeat" → wordsT (scB []) s es 0 = true → wordsT (scB cs) s es rep = true := fun h1 h2 h3 => by rw [words_cs h1 h2]; exact h3
  match dgN ds 13 4, lt with
  | 0, _ =>
    refine ⟨"repeat", [timesD ds, .list inner], rfl, ?_, rep + 1, Int.le_refl _, fun a => .inl ⟨_, rfl⟩⟩
    have l3 := dgN_lt ds 14 (show 0 < 3 by decide)
    unfold wordsT
    rw [if_neg (by decide)]
    have fl : forms.lookup ("repeat" : Str) = some (["times", "block"] : List Str) := by decide +kernel
    rw [fl]
    dsimp only
    rw [show decide (rep = 3) = false from decide_eq_false (by omega), Bool.and_false]
    unfold timesD
    match dgN ds 14 3, l3 with
    | 0, _ => kernel_rfl
    | 1, _ => kernel_rfl
    | 2, _ => kernel_rfl
  | 1, _ => exact ⟨"ifnil", [.str "x", .list inner, .list rest], rfl, fits (by decide) (by decide) (by kernel_rfl), rep, by omega, fun a => .inr (.inl ⟨_, _, rfl⟩)⟩
  | 2, _ => exact ⟨"ifnil", [.str "y", .list rest, .list inner], rfl, fits (by decide) (by decide) (by kernel_rfl), rep, by omega, fun a => .inr (.inr ⟨_, _, rfl⟩)⟩
  | 3, _ => exact ⟨"ifsame", [.str "x", .str "y", .list rest, .list inner], rfl, fits (by decide) (by decide) (by kernel_rfl), rep, by omega, fun a => .inr (.inr ⟨_, _, rfl⟩)⟩
theorem fine_take (ds : List Int) : FineB (.list ((blkT 2 ds none).1.take 1)) := fun cs ok => by
  unfold blkT
  split
  · unfold nodeT
    dsimp only
    obtain ⟨s, es, e1, hw, rep', r1, hp⟩ := way_ok1 (cs := cs) (ds := ds) (rep := 0) (nd := 0) (by decide) (by decide) (inner := (blkT 1 (rotT 12 ds) none).1) (rest := (leafT (rotT 17 ds) none).1)
    rw [e1]
    have ih := fun a => runs_blk ok 1 (rotT 12 ds) a 1 rep' (by decide) (by omega)
    have lf := fun a => runs_leaf (ds := rotT 17 ds) (a := a) (nd := 1) (rep := rep') ok (by decide) (by omega)
    refine (runs_put1 (K := 20) (M := 16) (by decide) hw fun p => ?_).le (by decide) (by decide)
    rcases hp ([] ++ [p]) with ⟨u, hp⟩ | ⟨u, v, hp⟩ | ⟨u, v, hp⟩
    · rw [hp]; exact (ih u).le (by decide) (by decide)
    · rw [hp]; exact ((ih u).app (lf v)).le (by decide) (by decide)
    · rw [hp]; exact ((lf v).app (ih u)).le (by decide) (by decide)
  · exact (runs_leaf1 ok (by decide) (by decide)).le (by decide) (by decide)
theorem cp_take {k n : Nat} {ds : List PyData} (h : cpB (k + 1) (.list ds) = true) : cpB (k + 1) (.list (ds.take n)) = true := by
  obtain ⟨h1, h2⟩ := cpB_is h
  show (decide ((ds.take n).length ≤ 900) && (ds.take n).all (cpS (cpB k))) = true
  rw [decide_eq_true (by rw [List.length_take]; omega), Bool.true_and, List.all_eq_true]
  exact fun e he => h2 e (List.mem_of_mem_take he)
/-! ### Program.functions -/
def spFns (CP : Addr) : Sp := fun vs H Q _ => ∃ (p : Addr) (H0 : Hp) (rows : List Row) (ns ls : List Str) (th : Int) (ks : List Int) (bs fs : List PyData), vs = [.ref p] ∧ Prog2 H0 H CP p rows ns ls th ks bs fs ∧ fs.length ≤ 900 ∧ (∀ d ∈ fs, cpF 3 d = true) ∧ ∀ q H', Same H H' → At (off H H') (.ref q) (.list fs) → Q (.ref q) H'
structure Mtd2 (P : Program) (w : World) (K : PySem.W.Frag) (mg : Str → Option Value) (base : Heap) (CP : Addr) : Prop where
  ex : ∃ (f : Addr) (fd : FuncData), Meth K CP "functions" f ∧ FnOk P w K mg base CX0 6 f fd ["self"] (spFns CP) ∧ Binds K fd ["self"] []
section
variable {X : Cx} {CP : Addr} {j : Nat} {o : Expr} {ta : TE} {pos apos : Pos} {pl : Sem Bool}
theorem pe_mtd2 (M : Mtd2 X.prog X.w X.K X.mg X.base CP) (c : Cls X.K CP) (hr : Room j X.A) (hj : 6 ≤ j) (he : PE X o ta)
    (hs : eval (.Call (.Attribute o "functions" apos) [] [] pos) X.env = (do let ov ← eval o X.env; standAt apos.atName; let (f, first) ← holding [ov] (getMethod ov "functions" pl); callWith pos f first (backTo pos (starEach [] X.env)) (backToKw pos (keywordEach [] X.env))) := by rfl) :
    PE X (.Call (.Attribute o "functions" apos) [] [] pos) (tMeth CP "functions" (spFns CP) [] E0 ta tNil) := by
  obtain ⟨f, fd, mt, F, b⟩ := M.ex
  exact pe_meth0 he c mt F (hr.mono hj) b .nil pass0 hs
end
def spBody (CP : Addr) : Sp := fun vs H Q _ => ∃ (p : Addr) (H0 : Hp) (rows : List Row) (ns ls : List Str) (th : Int) (ks : List Int) (bs fs : List PyData), vs = [.ref p] ∧ Prog2 H0 H CP p rows ns ls th ks bs fs ∧ cpB 3 (.list bs) = true ∧ ∀ q H', Same H H' → At (off H H') (.ref q) (.list bs) → Q (.ref q) H'
structure MtdB (P : Program) (w : World) (K : PySem.W.Frag) (mg : Str → Option Value) (base : Heap) (CP : Addr) : Prop where
  ex : ∃ (f : Addr) (fd : FuncData), Meth K CP "body" f ∧ FnOk P w K mg base CX0 5 f fd ["self"] (spBody CP) ∧ Binds K fd ["self"] []
section
variable {X : Cx} {CP : Addr} {j : Nat} {o : Expr} {ta : TE} {pos apos : Pos} {pl : Sem Bool}
theorem pe_mtdB (M : MtdB X.prog X.w X.K X.mg X.base CP) (c : Cls X.K CP) (hr : Room j X.A) (hj : 5 ≤ j) (he : PE X o ta)
    (hs : eval (.Call (.Attribute o "body" apos) [] [] pos) X.env = (do let ov ← eval o X.env; standAt apos.atName; let (f, first) ← holding [ov] (getMethod ov "body" pl); callWith pos f first (backTo pos (starEach [] X.env)) (backToKw pos (keywordEach [] X.env))) := by rfl) :
    PE X (.Call (.Attribute o "body" apos) [] [] pos) (tMeth CP "body" (spBody CP) [] E0 ta tNil) := by
  obtain ⟨f, fd, mt, F, b⟩ := M.ex
  exact pe_meth0 he c mt F (hr.mono hj) b .nil pass0 hs
end
section
variable {P : Program} {w : World} {K : PySem.W.Frag} {mg : Str → Option Value} {base : Heap} {C CP : Addr} {f : Addr} {fd : FuncData}
theorem okM7c (F : Fun K "functions" "Program.functions" (inClass (top 37) 7) f fd) (U : NoP K CP) (C36 : Cal P w K mg base CX0 5 "copied_functions" ["functions"] (spCpF 3)) : FnOk P w K mg base CX0 6 f fd ["self"] (spFns CP) := by
  refine F.ok scM7 (fun vs H Q E h => ?_) (fun cdv A outer s H vs Q E hr h => ?_)
  · obtain ⟨p, H0, rows, ns, ls, th, ks, bs, fs, rfl, _⟩ := h
    rfl
  · obtain ⟨p, H0, rows, ns, ls, th, ks, bs, fs, rfl, ⟨dx, a, b, c, d, e, i, hp, ha, hb, hc, hd, he, hi⟩, h9, hcp, k⟩ := h
    refine ⟨_, pss_one (ps_ret (pe_cal C36 hr (by decide) pass0 (pa_cons (pe_fld (pv 0) rfl) pa_nil))), ?_⟩
    refine ⟨_, rfl, p, CP, dx, _, _, rfl, hp, U.cl, U.n7, pg7 _ _ _ _ _ _ _, ?_⟩
    exact ⟨i, fs, rfl, At.mono off_sub hi, h9, hcp, fun q H' s' a' => k q H' s' a'⟩
theorem okM2c (F : Fun K "body" "Program.body" (inClass (top 37) 2) f fd) (U : NoP K CP) (C22 : Cal P w K mg base CX0 4 "copied_block" ["block"] (spCopy 3)) : FnOk P w K mg base CX0 5 f fd ["self"] (spBody CP) := by
  refine F.ok scM2 (fun vs H Q E h => ?_) (fun cdv A outer s H vs Q E hr h => ?_)
  · obtain ⟨p, H0, rows, ns, ls, th, ks, bs, fs, rfl, _⟩ := h
    rfl
  · obtain ⟨p, H0, rows, ns, ls, th, ks, bs, fs, rfl, ⟨dx, a, b, c, d, e, i, hp, ha, hb, hc, hd, he, hi⟩, hcp, k⟩ := h
    refine ⟨_, pss_one (ps_ret (pe_cal C22 hr (by decide) pass0 (pa_cons (pe_fld (pv 0) rfl) pa_nil))), ?_⟩
    refine ⟨_, rfl, p, CP, dx, _, _, rfl, hp, U.cl, U.n2, pg2 _ _ _ _ _ _ _, ?_⟩
    exact ⟨b, bs, rfl, At.mono off_sub hb, hcp, fun q H' s' a' => k q H' s' a'⟩
/-- isinstance of an own class: itself -/
structure Isi (K : PySem.W.Frag) (CP : Addr) : Prop where
  cl : Cls K CP
  ha : PySem.W.findIn K (.ref CP) "__class__" = some (some (.builtin "object.__class__"))
  hn : PySem.W.specialIn K (.builtin "object.__class__") "__get__" = some (some (.builtin "getset_descriptor.__get__"))
  ht : PySem.W.takesIn K (.builtin "object.__class__") = some true
  hm : PySem.W.mroIn K CP (.type "object") = some true
  kit : PySem.W.kitOne K (.ref CP) (.ref CP) = some true
variable {L : List Addr} {σ : St} {H1 : Hp} {t u : TE} {d e : PyData}
theorem pg_fns (a b c d e f g : V) : (pgF a b c d e f g).lookup ("functions" : Str) = none := by
  unfold pgF
  rw [lookup_putF, if_neg (by decide +kernel), lookup_putF, if_neg (by decide +kernel), lookup_putF, if_neg (by decide +kernel), lookup_putF, if_neg (by decide +kernel), lookup_putF, if_neg (by decide +kernel), lookup_putF, if_neg (by decide +kernel), lookup_putF, if_neg (by decide +kernel)]
  rfl
theorem Prog2.later {H0 H H' : Hp} {p : Addr} {rows : List Row} {ns ls : List Str} {th : Int} {ks : List Int} {bs fs : List PyData} (g : Prog2 H0 H CP p rows ns ls th ks bs fs) (s : Same H H') : Prog2 H0 H' CP p rows ns ls th ks bs fs := by
  obtain ⟨dx, a, b, c, d, f, g, hp, ca, cb, cc, cd, cf, cg⟩ := g
  exact ⟨dx, a, b, c, d, f, g, s _ _ hp, ca.mono s, cb.mono s, ⟨cc.1, s _ _ cc.2⟩, ⟨cd.1, s _ _ cd.2⟩, ⟨cf.1, s _ _ cf.2⟩, cg.mono s⟩
theorem fns_rd {s : Nat} {p : Addr} {H0 : Hp} {rows : List Row} {ns ls : List Str} {th : Int} {ks : List Int} {bs fs : List PyData} (e : σ[s]? = some (some (.ref p))) (pg : Prog2 H0 H1 CP p rows ns ls th ks bs fs) (h9 : fs.length ≤ 900) (hcp : ∀ d ∈ fs, cpF 3 d = true) {Q : VK} (k : ∀ q H3, Same H1 H3 → At (off H1 H3) (.ref q) (.list fs) → Q (.ref q) H3) : tMeth CP "functions" (spFns CP) [] E0 (tVar s) tNil σ H1 Q := by
  obtain ⟨dx, a, b, c, d, f, g, hp, r⟩ := id pg
  exact ⟨_, e, p, dx, _, rfl, hp, pg_fns _ _ _ _ _ _ _, p, H0, rows, ns, ls, th, ks, bs, fs, rfl, pg, h9, hcp, k⟩
theorem dt_fns {s : Nat} {p : Addr} {H0 : Hp} {rows : List Row} {ns ls : List Str} {th : Int} {ks : List Int} {bs fs : List PyData} (e : σ[s]? = some (some (.ref p))) (pg : Prog2 H0 H1 CP p rows ns ls th ks bs fs) (h9 : fs.length ≤ 900) (hcp : ∀ d ∈ fs, cpF 3 d = true) : DT [] (tMeth CP "functions" (spFns CP) [] E0 (tVar s) tNil) (.list fs) σ H1 := fun H2 s2 Q k => fns_rd e (pg.later s2) h9 hcp fun q H3 s3 a => k _ H3 s3 (by rw [hid_nil]; exact a.mono off_sub)
theorem be_isi {s : Nat} {p dx : Addr} {fs : List (Str × V)} (I : Isi K CP) (e : σ[s]? = some (some (.ref p))) (hp : H1 p = some (.ins CP dx fs)) : BE (tB (tCB (rIsi K) (tCons (tVar s) (tCons (tC (.ref CP)) tNil)))) true σ H1 := fun H2 s2 Q k => ⟨_, e, .ref p, .ref CP, .ref CP, .ref CP, true, rfl, .own CP, .base (.ins (s2 _ _ hp) I.cl I.ha I.hn I.ht I.hm), I.kit, _, rfl, k H2 (Same.refl _)⟩
theorem pg_bdy (a b c d e f g : V) : (pgF a b c d e f g).lookup ("body" : Str) = none := by
  unfold pgF
  rw [lookup_putF, if_neg (by decide +kernel), lookup_putF, if_neg (by decide +kernel), lookup_putF, if_neg (by decide +kernel), lookup_putF, if_neg (by decide +kernel), lookup_putF, if_neg (by decide +kernel), lookup_putF, if_neg (by decide +kernel), lookup_putF, if_neg (by decide +kernel)]
  rfl
theorem dt_bdy {s : Nat} {p : Addr} {H0 : Hp} {rows : List Row} {ns ls : List Str} {th : Int} {ks : List Int} {bs fs : List PyData} (e : σ[s]? = some (some (.ref p))) (pg : Prog2 H0 H1 CP p rows ns ls th ks bs fs) (hcp : cpB 3 (.list bs) = true) : DT [] (tMeth CP "body" (spBody CP) [] E0 (tVar s) tNil) (.list bs) σ H1 := fun H2 s2 Q k => by
  obtain ⟨dx, a, b, c, d, f, g, hp, r⟩ := id (pg.later s2)
  exact ⟨_, e, p, dx, _, rfl, hp, pg_bdy _ _ _ _ _ _ _, p, H0, rows, ns, ls, th, ks, bs, fs, rfl, pg.later s2, hcp, fun q H3 s3 a3 => k _ H3 s3 (by rw [hid_nil]; exact a3.mono off_sub)⟩
theorem dt_made2 {bd id : PyData} {part : Str} {dd : PyData} (hb : DT [] t bd σ H1) (hi : DT [] u id σ H1) (sh : shortT (headsT2 id) = true) (em : prog2 bd id = some (.bad part dd)) : DT [] (tCall (spMade2 CP) [] E0 (tCons t (tCons u tNil))) (.tuple [.str part, dd]) σ H1 := fun H2 s Q k => hb H2 s _ fun v H3 s3 a => hi H3 (s.trans s3) _ fun x H4 s4 b => by
  rw [hid_nil] at a b
  exact ⟨v, x, bd, id, .bad part dd, rfl, a.mono s4, b, sh, em, fun y H5 s5 a5 => k y H5 ((s3.trans s4).trans s5) (by rw [hid_nil]; exact a5)⟩
theorem short2 {id : PyData} (h : ∀ ys, id = .list ys → ys.length ≤ 1000) : shortT (headsT2 id) = true := by
  have few : ∀ n : Nat, n ≤ 1000 → decide (n ≤ 1000) = true := fun n h => decide_eq_true h
  cases id with
  | list ys =>
    have h' := decide_eq_true (h ys rfl)
    unfold shortT headsT2
    simp only [List.all_cons, List.all_nil, Bool.and_true, Bool.true_and, List.length_cons, List.length_nil, h']
    decide
  | _ => kernel_rfl
end
end K1

set_option Elab.async false
set_option linter.all false
set_option maxRecDepth 100000
set_option maxHeartbeats 8000000
namespace K1
open PySem L2
def partE (part : Str) (l : List Int) : PyData := .tuple [.str part, .tuple (l.map PyData.int)]
theorem partE_ok {part : Str} (h : PyData.strOk part = true) (l : List Int) : noDic (partE part l) = true ∧ SeqAt.shaped (partE part l) = true ∧ PyData.eqv (partE part l) (partE part l) = true :=
  OkD.facts (OkD.up (n := 2) (OkD.tup fun d m => by
    simp only [List.mem_cons, List.not_mem_nil, or_false] at m
    rcases m with rfl | rfl
    · exact OkD.str h
    · exact OkD.ints l) (by decide))
theorem sB : PyData.strOk "body" = true := by decide +kernel
theorem sF : PyData.strOk "functions" = true := by decide +kernel
def badQ (ds : List Int) : PyData × List Int := if 0 < dgN ds 35 4 then (badL.getD (dgN (ds.drop 30) 0 39) .none, []) else (innL (thL.getD (dgN (ds.drop 30) 0 6) .none)).getD (dgN (ds.drop 30) 1 4) (.none, [])
theorem badQ_ok (ds : List Int) : Badly (badQ ds).1 (badQ ds).2 ∧ (badQ ds).2.length ≤ 10 := by
  unfold badQ
  split
  · exact ⟨badly_form (dgN_lt _ 0 (by decide)), Nat.zero_le _⟩
  · have lt := dgN_lt (ds.drop 30) 1 (show 0 < 4 by decide)
    refine ⟨badly_inner (th_not (dgN_lt _ 0 (by decide))) lt, ?_⟩
    match dgN (ds.drop 30) 1 4, lt with
    | 0, _ => exact Nat.zero_le _
    | 1, _ | 2, _ | 3, _ => exact (by decide : (1 : Nat) ≤ 10)
theorem put_len (ds : List Int) (st : PyData) : (putT ds st).length ≤ 4 := by
  obtain ⟨pre, post, e, e1, e2, _⟩ := put_form (ds := ds) st
  rw [e, List.length_append, List.length_cons]
  omega
theorem leaf_len (ds : List Int) (bad : Option (PyData × List Int)) : (leafT ds bad).1.length ≤ 4 := by
  cases bad with
  | none => exact put_len _ _
  | some q => exact put_len _ _
theorem blk_len : ∀ (dep : Nat) (ds : List Int) (bad : Option (PyData × List Int)), (blkT dep ds bad).1.length ≤ 4
  | 0, ds, bad => leaf_len ds bad
  | dep + 1, ds, bad => by
    unfold blkT
    split
    · exact put_len _ _
    · exact leaf_len ds bad
def th2L : List PyData := [.none, .tuple [.str "emit", .str "x"], .str "emit", .dict [], .int 5]
theorem th2_not {k : Nat} (hk : k < 5) (ds : List PyData) : th2L.getD k .none ≠ .list ds := by
  match k, hk with
  | 0, _ | 1, _ | 2, _ | 3, _ | 4, _ => exact fun z => by cases z
theorem eqv_nil : PyData.eqv (.list []) (.list []) = true := by
  rw [PyData.eqv, PyData.eqvAll]
theorem eqv_some {x : PyData} {xs : List PyData} : PyData.eqv (.list (x :: xs)) (.list []) = false := by
  rw [PyData.eqv, PyData.eqvAll]
theorem shaped_ints (ks : List Int) : SeqAt.shaped (.list (ks.map PyData.int)) = true := (OkD.facts (OkD.up (n := 1) (OkD.list fun d m => by
  obtain ⟨i, _, rfl⟩ := List.mem_map.mp m
  exact OkD.int i) (by decide))).2.1
theorem dp_ints {K : PySem.W.Frag} {H : Hp} : ∀ ks : List Int, DpAll K H (ks.map V.int) (ks.map PyData.int)
  | [] => .nil
  | k :: ks => .cons (.int k) (dp_ints ks)
theorem cut_ints (ns : List Int) (lo hi : Option Int) : ∃ zs : List Int, cutV (ns.map V.int) lo hi = zs.map V.int := by
  unfold cutV
  rw [← List.map_drop, ← List.map_take]
  exact ⟨_, rfl⟩
section
variable {σ : St} {H1 : Hp} {K : PySem.W.Frag} {s : Nat} {dg : Addr} {ds : List Int}
theorem dt_bad (e : σ[s]? = some (some (.ref dg))) (h : H1 dg = some (.lst (ds.map V.int))) (hl : ds.length = 40) : DT [] (tCall spBad [] E0 (tCons (tSl (rSlL K) (tVar s) (tPart (tC (.int 30))) tNoPart) tNil)) (badL.getD (dgN (ds.drop 30) 0 39) .none) σ H1 := fun H2 s2 Q k =>
  it_from (i := 30) e h ve_int (by decide) H2 s2 _ fun p H3 s3 hp => ⟨p, ds.drop 30, rfl, hp, by rw [List.length_drop, hl]; decide, fun v H4 s4 a => k v H4 (s3.trans s4) (by rw [hid_nil]; exact a)⟩
theorem dt_inn (e : σ[s]? = some (some (.ref dg))) (h : H1 dg = some (.lst (ds.map V.int))) (hl : ds.length = 40) : DT [] (tCall spInner [] E0 (tCons (tSl (rSlL K) (tVar s) (tPart (tC (.int 30))) tNoPart) tNil)) (pairD ((innL (thL.getD (dgN (ds.drop 30) 0 6) .none)).getD (dgN (ds.drop 30) 1 4) (.none, []))) σ H1 := fun H2 s2 Q k =>
  it_from (i := 30) e h ve_int (by decide) H2 s2 _ fun p H3 s3 hp => ⟨p, ds.drop 30, rfl, hp, by rw [List.length_drop, hl]; decide, fun v H4 s4 a => k v H4 (s3.trans s4) (by rw [hid_nil]; exact a)⟩
end
def headsL (inner : PyData) : List PyData := [.tuple [.str "build", .list [.str "x", .str "y"], .list [], .list [.tuple [.str "emit", .str "x"]], .str "x"], .tuple [.str "mute", .list [], .list [], .list [], .none], .tuple [.str "inner", .list [.str "x", .str "y"], .list [], inner, .none]]
theorem headsL_cp {is : List PyData} (h : cpB 3 (.list is) = true) : ∀ d ∈ headsL (.list is), cpF 3 d = true := fun d m => by
  unfold headsL at m
  simp only [List.mem_cons, List.not_mem_nil, or_false] at m
  rcases m with rfl | rfl | rfl
  · decide +kernel
  · decide +kernel
  · have f3 : cpF 3 (.tuple [.str "inner", .list [.str "x", .str "y"], .list [], .list is, .none]) = cpB 3 (.list is) := by kernel_rfl
    rw [f3]
    exact h
def spLaw (K : PySem.W.Frag) : Sp := fun vs H Q _ => ∃ (a : Addr) (ns : List Int), vs = [.ref a] ∧ SqL K H a (ns.map V.int) ∧ ∀ H1, Q (.bl true) H1
section
variable {P : Program} {w : World} {K : PySem.W.Frag} {mg : Str → Option Value} {base : Heap} {C CP : Addr} {f : Addr} {fd : FuncData}
theorem sc45 : FnScope ["_law_script", "_law_cells", "_law_cell", "_law_digits_here", "_law_valid", "_law_unused", "_law_program", "_law_bad_here", "_law_block_here", "_law_path", "_law_expected", "_law_thing"] ["_law_script"] (defScope (top 45)) := ⟨rfl, rfl, rfl, by decide +kernel, rfl, by decide +kernel, by decide +kernel⟩
theorem ok45 (F : Fun K "law" "law" (top 45) f fd) (B : Blt mg) (gP : mg "Program" = some (.ref CP)) (cl : Cls K CP) (I : Isi K CP) (C39 : Cal P w K mg base CX0 1 "_law_digits" ["_law_cell", "_law_many"] spDig) (C41 : Cal P w K mg base CX0 1 "_law_bad" ["_law_digits_here"] spBad) (C42 : Cal P w K mg base CX0 1 "_law_bad_inner" ["_law_digits_here"] spInner)
    (C43 : Cal P w K mg base CX0 4 "_law_block" psBlk (spBlk 3)) (C44 : Cal P w K mg base CX0 10 "_law_made" ["_law_body", "_law_inner"] (spMade2 CP)) (M : Mtd2 P w K mg base CP) (MB : MtdB P w K mg base CP) : FnOk P w K mg base CX0 11 f fd ["_law_script"] (spLaw K) := by
  refine F.ok sc45 (fun vs H Q E h => ?_) (fun cdv A outer s H vs Q E hr h => ?_)
  · obtain ⟨a, ns, rfl, _⟩ := h
    rfl
  · obtain ⟨a, ns, rfl, hS, k⟩ := h
    refine ⟨_, (pss_mid (ps_set (i := 1) sc45.nd rfl (Or.inl rfl) (pe_slice sl_list (pv 0) po_none (po_some pe_int)))
      (pss_mid (ps_if (pt_cmpR (op_eqD hr.units) (pv 1) (pe_lst pa_nil) (nomark _)) (pss_one (ps_set (i := 1) sc45.nd rfl (Or.inl rfl) (pe_lst (pa_cons pe_int (pa_cons pe_int pa_nil))))) pss_nil)
      (pss_mid (ps_for PassesOwn.never rfl (pi_list (pv 1)) (pg_name (i := 2) sc45.nd rfl (Or.inl rfl))
        (pss_mid (ps_set (i := 3) sc45.nd rfl (Or.inl rfl) (pe_cal C39 hr (by decide) pass0 (pa_cons (pv 2) (pa_cons pe_int pa_nil))))
      (pss_mid (ps_asg (pe_cal C43 hr (by decide) pass0 (pa_cons (pv 3) (pa_cons pe_int (pa_cons pe_non pa_nil)))) (pg_tup rfl (pgs_cons (pg_name (i := 4) sc45.nd rfl (Or.inl rfl)) (pgs_cons (pg_name (i := 5) sc45.nd rfl (Or.inl rfl)) pgs_nil))))
      (pss_mid (ps_set (i := 6) sc45.nd rfl (Or.inl rfl) (pe_cal C44 hr (by decide) pass0 (pa_cons (pv 4) (pa_cons (pe_slice sl_list (pv 4) po_none (po_some pe_int)) pa_nil))))
      (pss_mid (ps_if (PW.pt (pw_or (pt_not (pt_val (pe_callB call_isi rfl B.isinstance PyProof.Rows.boot_isinstance (pa_cons (pv 6) (pa_cons (pe_glob (v := .ref CP) rfl gP rfl) pa_nil))))) (pw_or (pt_cmpR (op_neD hr.units) (pe_mtdB MB cl hr (by decide) (pv 6)) (pv 4) (nomark _)) (pw_or1 (pt_cmpR (op_neD hr.units) (pe_ix ix_tup (pe_ix ix_list (pe_mtd2 M cl hr (by decide) (pv 6)) pe_int (fun _ _ => rfl)) pe_int (fun _ _ => rfl)) (pe_slice sl_list (pv 4) po_none (po_some pe_int)) (nomark _)))))) (pss_one (ps_ret pe_bl)) pss_nil)
      (pss_mid (ps_set (i := 7) sc45.nd rfl (Or.inl rfl) (pe_ifExp (pt_cmpR op_gt (pe_op op_mod (pe_callTy call_int1 rfl B.int PyProof.Rows.boot_int (pa_cons (pe_ix ix_list (pv 3) pe_int (fun _ _ => rfl)) pa_nil)) pe_int) pe_int (nomark _)) (pe_tup (pa_cons (pe_cal C41 hr (by decide) pass0 (pa_cons (pe_slice sl_list (pv 3) (po_some pe_int) po_none) pa_nil)) (pa_cons (pe_tup pa_nil) pa_nil))) (pe_cal C42 hr (by decide) pass0 (pa_cons (pe_slice sl_list (pv 3) (po_some pe_int) po_none) pa_nil))))
      (pss_mid (ps_asg (pe_cal C43 hr (by decide) pass0 (pa_cons (pv 3) (pa_cons pe_int (pa_cons (pv 7) pa_nil)))) (pg_tup rfl (pgs_cons (pg_name (i := 8) sc45.nd rfl (Or.inl rfl)) (pgs_cons (pg_name (i := 9) sc45.nd rfl (Or.inl rfl)) pgs_nil))))
      (pss_mid (ps_if (pt_cmpR (op_neD hr.units) (pe_cal C44 hr (by decide) pass0 (pa_cons (pv 8) (pa_cons (pe_lst pa_nil) pa_nil))) (pe_tup (pa_cons pe_str (pa_cons (pv 9) pa_nil))) (nomark _)) (pss_one (ps_ret pe_bl)) pss_nil)
      (pss_mid (ps_set (i := 10) sc45.nd rfl (Or.inl rfl) (pe_tup (pa_cons pe_str (pa_cons (pe_op op_catA (pe_tup (pa_cons pe_int pa_nil)) (pv 9)) pa_nil))))
      (pss_mid (ps_if (PW.pt (pw_or (pt_cmpR (op_neD hr.units) (pe_cal C44 hr (by decide) pass0 (pa_cons (pv 4) (pa_cons (pv 8) pa_nil))) (pv 10) (nomark _)) (pw_or1 (pt_cmpR (op_neD hr.units) (pe_cal C44 hr (by decide) pass0 (pa_cons (pv 8) (pa_cons (pv 8) pa_nil))) (pv 10) (nomark _))))) (pss_one (ps_ret pe_bl)) pss_nil)
      (pss_mid (ps_set (i := 11) sc45.nd rfl (Or.inl rfl) (pe_ix ix_list (pe_lst (pa_cons pe_non (pa_cons (pe_tup (pa_cons pe_str (pa_cons pe_str pa_nil))) (pa_cons pe_str (pa_cons pe_dnewK (pa_cons pe_int pa_nil)))))) (pe_op op_mod (pe_callTy call_int1 rfl B.int PyProof.Rows.boot_int (pa_cons (pe_ix ix_list (pv 3) pe_int (fun _ _ => rfl)) pa_nil)) pe_int) (fun _ _ => rfl)))
      (pss_one (ps_if (PW.pt (pw_or (pt_cmpR (op_neD hr.units) (pe_cal C44 hr (by decide) pass0 (pa_cons (pv 11) (pa_cons (pe_lst pa_nil) pa_nil))) (pe_tup (pa_cons pe_str (pa_cons (pe_tup pa_nil) pa_nil))) (nomark _)) (pw_or1 (pt_cmpR (op_neD hr.units) (pe_cal C44 hr (by decide) pass0 (pa_cons (pe_lst pa_nil) (pa_cons (pv 11) pa_nil))) (pe_tup (pa_cons pe_str (pa_cons (pe_tup (pa_cons pe_int pa_nil)) pa_nil))) (nomark _))))) (pss_one (ps_ret pe_bl)) pss_nil)))))))))))))
      (pss_one (ps_ret pe_bl))))), ?_⟩
    have few : 100000 ≤ sizeLine := by decide
    -- cells
    refine ⟨fun σ H1 => ∃ (ca : Addr) (zs : List Int), σ = [some (.ref a), some (.ref ca), none, none, none, none, none, none, none, none, none, none] ∧ H1 ca = some (.lst (zs.map V.int)), ⟨_, rfl, 6, rfl, a, _, rfl, hS, fun p np => ?_⟩, ?_⟩
    · obtain ⟨zs, e⟩ := cut_ints ns none (some 6)
      refine ⟨p, zs, rfl, ?_⟩
      rw [upd_same, e]
    rintro σ H1 ⟨ca, zs, rfl, hca⟩
    refine ⟨fun σ H1 => ∃ (ca : Addr) (zs : List Int), σ = [some (.ref a), some (.ref ca), none, none, none, none, none, none, none, none, none, none] ∧ H1 ca = some (.lst (zs.map V.int)), ?_, ?_⟩
    · refine ⟨_, rfl, Nat.zero_le _, fun q nq => ?_⟩
      have s1 := same_new (o := .lst []) (Same.refl H1) nq
      refine ⟨.list (zs.map PyData.int), .list [], .lst (SqL.of (s1 _ _ hca)) (dp_ints zs), .lst (SqL.of upd_same) .nil, shaped_ints zs, shaped_ints [], _, rfl, ?_⟩
      cases zs with
      | nil =>
        rw [show PyData.eqv (.list (([] : List Int).map PyData.int)) (.list []) = true from eqv_nil]
        exact iteT ⟨by show 2 ≤ sizeLine; decide, fun p np => ⟨p, [4, 19], rfl, upd_same⟩⟩
      | cons z zs =>
        rw [show PyData.eqv (.list ((z :: zs).map PyData.int)) (.list []) = false from eqv_some]
        exact iteF ⟨ca, z :: zs, rfl, s1 _ _ hca⟩
    rintro σ H1 ⟨ca, zs, rfl, hca⟩
    -- the loop
    refine ⟨fun _ _ => True, ⟨_, rfl, ca, rfl, ⟨_, SqL.of hca⟩, for_list (K := K) (a := ca) (xs := zs.map V.int) (fun _ σ H1 => ∃ v2 v3 v4 v5 v6 v7 v8 v9 v10 v11 : Option V, σ = [some (.ref a), some (.ref ca), v2, v3, v4, v5, v6, v7, v8, v9, v10, v11] ∧ H1 ca = some (.lst (zs.map V.int)))
      ⟨none, none, none, none, none, none, none, none, none, none, rfl, hca⟩ (fun _ _ _ _ ⟨_, _, _, _, _, _, _, _, _, _, _, h⟩ => SqL.of h) ?_ (fun _ _ _ => trivial)⟩, fun σ H1 _ => k H1⟩
    rintro i y σ H1 hi ⟨v2, v3, v4, v5, v6, v7, v8, v9, v10, v11, rfl, hca⟩
    obtain ⟨z, rfl⟩ : ∃ z, y = V.int z := by
      rw [List.getElem?_map] at hi
      cases e : zs[i]? with
      | none =>
        rw [e] at hi
        cases hi
      | some z =>
        rw [e] at hi
        exact ⟨z, (Option.some.inj hi).symm⟩
    -- digits
    refine ⟨fun σ H2 => ∃ (dg : Addr) (ds : List Int), σ = [some (.ref a), some (.ref ca), some (.int z), some (.ref dg), v4, v5, v6, v7, v8, v9, v10, v11] ∧ Same H1 H2 ∧ H2 dg = some (.lst (ds.map V.int)) ∧ ds.length = 40, ⟨_, rfl, z, 40, rfl, by decide, by decide, fun q H2 ds s2 nq hq hl _ => ⟨q, ds, rfl, s2, hq, hl⟩⟩, ?_⟩
    rintro σ H2 ⟨dg, ds, rfl, s2, hdg, hlen⟩
    have get : ∀ j, j < 40 → ds[j]? = some (ds.getD j 0) := fun j hj => by
      rw [List.getD_eq_getElem?_getD, List.getElem?_eq_getElem (by omega)]
      rfl
    -- a valid block
    refine ⟨fun σ H3 => ∃ (vv vu : V), σ = [some (.ref a), some (.ref ca), some (.int z), some (.ref dg), some vv, some vu, v6, v7, v8, v9, v10, v11] ∧ Same H2 H3 ∧ At H3 vv (.list (blkT 2 ds none).1), ?_, ?_⟩
    · refine ⟨_, rfl, dg, ds, 2, .non, none, rfl, by decide, by decide, hdg, hlen, rfl, fun v H3 s3 av => ?_⟩
      obtain ⟨t, xs, rfl, ht, as⟩ := at_t av
      cases as with
      | cons a1 as =>
      cases as with
      | cons a2 as =>
      cases as
      exact ⟨t, _, rfl, SqT.of ht, rfl, _, _, rfl, _, _, rfl, rfl, _, _, rfl, s3, a1⟩
    rintro σ H3 ⟨vv, vu, rfl, s3, av⟩
    have hdg3 := s3 _ _ hdg
    have fb := fine_blk ds
    have ft := fine_take ds
    have cb := cp_blk 2 ds
    have ct := cp_take (n := 1) cb
    obtain ⟨o1, o2, o3⟩ := OkD.facts ((blk_okD 2 ds).up (by decide))
    have okt : OkD 64 (.list ((blkT 2 ds none).1.take 1)) := by
      have h := blk_okD 2 ds
      refine OkD.up (n := 7) (OkD.list fun d m => ?_) (by decide)
      have m := List.mem_of_mem_take m
      have hall : ∀ (l : List PyData), OkDs 6 l → ∀ d ∈ l, OkD 6 d := fun l => by
        induction l with
        | nil => exact fun _ d m => by cases m
        | cons x l ih =>
          rintro ⟨h1, h2, h3⟩ d m
          have h1 : (noDic x && noDics l) = true := h1
          have h2 : (PyData.canLay0 x && PyData.canLayAll0 l) = true := h2
          have h3 : max (PyData.depth x) (PyData.depthAll l) ≤ 6 := h3
          rw [Bool.and_eq_true] at h1 h2
          rcases List.mem_cons.mp m with rfl | m
          · exact ⟨h1.1, h2.1, by omega⟩
          · exact ih ⟨h1.2, h2.2, by omega⟩ d m
      exact hall _ ⟨h.1, h.2.1, by
        have h3 : PyData.depthAll (blkT 2 ds none).1 + 1 ≤ 7 := h.2.2
        omega⟩ d m
    obtain ⟨t1, t2, t3⟩ := OkD.facts okt
    have lb := blk_len 2 ds none
    generalize (blkT 2 ds none).1 = bs at av fb ft cb ct o1 o2 o3 t1 t2 t3 lb
    have po := prog_ok ft fb cb ct
    have hq := badQ_ok ds
    -- the program
    refine ⟨fun σ H4 => ∃ (x : Addr) (H0 : Hp), σ = [some (.ref a), some (.ref ca), some (.int z), some (.ref dg), some vv, some vu, some (.ref x), v7, v8, v9, v10, v11] ∧ Same H3 H4 ∧ Prog2 H0 H4 CP x rows2 ns2 ls2 1 [2] bs (headsL (.list (bs.take 1))), ?_, ?_⟩
    · refine ⟨_, rfl, ?_⟩
      refine dt_to (K := K) (L := []) (i := 1) (ds := bs) live_nil (dt_var (s := 4) (v := vv) rfl (by rw [hid_nil]; exact av)) ve_int (by decide) H3 (Same.refl _) _ fun vt H4 s4 at4 => ?_
      rw [hid_nil] at at4
      refine ⟨vv, vt, .list bs, .list (bs.take 1), .ok, rfl, av.mono s4, at4, short2 (fun ys e => by cases e; rw [List.length_take]; omega), po, fun bs' hs p H5 e1 e2 s5 np pg => ?_⟩
      cases e1
      cases e2
      exact ⟨p, H4, rfl, s4.trans s5, pg⟩
    rintro σ H4 ⟨x, H0, rfl, s4, pg⟩
    obtain ⟨xdx, _, _, _, _, _, _, hx, _⟩ := id pg
    have av4 := av.mono s4
    have hcp := headsL_cp ct
    -- what it says
    refine ⟨fun σ H5 => σ = [some (.ref a), some (.ref ca), some (.int z), some (.ref dg), some vv, some vu, some (.ref x), v7, v8, v9, v10, v11] ∧ Same H4 H5, if_be (be_or (be_not (be_isi I rfl hx)) fun _ => be_or (be_ne (dt_bdy rfl pg cb) (dt_var rfl (by rw [hid_nil]; exact av4)) o1 o1 o2 o2) fun _ => be_ne (dt_ixT (n := 3) (d := .list (bs.take 1)) (dt_ixL (n := 2) (dt_fns rfl pg (by show 3 ≤ 900; decide) hcp) ve_int rfl rfl) ve_int rfl rfl) (dt_to (i := 1) live_nil (dt_var (s := 4) rfl (by rw [hid_nil]; exact av4)) ve_int (by decide)) t1 t1 t2 t2) fun H5 s5 => ⟨fun c => ?_, fun _ => ⟨rfl, s5⟩⟩, ?_⟩
    · rw [o3] at c
      rw [show PyData.eqv (.list (bs.take 1)) (.list (bs.take (1 : Int).toNat)) = true from t3] at c
      cases c
    rintro σ H5 ⟨rfl, s5⟩
    have hdg5 := s5 _ _ (s4 _ _ hdg3)
    have av5 := av4.mono s5
    -- the invalid one
    have q35 : ds.getD 35 0 % 4 = (dgN ds 35 4 : Int) := dgN_eq ds 35 (by decide)
    refine ⟨fun σ H6 => ∃ vq : V, σ = [some (.ref a), some (.ref ca), some (.int z), some (.ref dg), some vv, some vu, some (.ref x), some vq, v8, v9, v10, v11] ∧ Same H5 H6 ∧ At H6 vq (pairD (badQ ds)), ?_, ?_⟩
    · refine set_dt (L := []) (d := pairD (badQ ds)) (dt_if (be_gt (ve_mod (ve_dg (j := 35) rfl hdg5 (get 35 (by decide)) rfl) ve_int (by decide)) ve_int) (fun c => ?_) (fun c => ?_)) fun v H6 s6 av => ⟨v, rfl, s6, by rw [hid_nil] at av; exact av⟩
      · have c := of_decide_eq_true c
        have eq : badQ ds = (badL.getD (dgN (ds.drop 30) 0 39) .none, []) := if_pos (by omega)
        rw [eq]
        exact dt_tup live_nil (dt_cons (dt_bad rfl hdg5 hlen) (dt_cons (dt_l (d := .tuple []) (dl_tup dl_nil (by decide)) live_nil) dt_nil)) (by show 2 ≤ sizeLine; omega)
      · have c := of_decide_eq_false c
        have eq : badQ ds = (innL (thL.getD (dgN (ds.drop 30) 0 6) .none)).getD (dgN (ds.drop 30) 1 4) (.none, []) := if_neg (by omega)
        rw [eq]
        exact dt_inn rfl hdg5 hlen
    rintro σ H6 ⟨vq, rfl, s6, aq⟩
    have hdg6 := s6 _ _ hdg5
    have bb := bad_blk hq.1 ds
    have lb2 := blk_len 2 ds (some (badQ ds))
    have lp := blk_path (bad := some (badQ ds)) (fun q e => by cases e; exact hq.2) 2 ds
    -- the block with it
    refine ⟨fun σ H7 => ∃ (vb vp : V), σ = [some (.ref a), some (.ref ca), some (.int z), some (.ref dg), some vv, some vu, some (.ref x), some vq, some vb, some vp, v10, v11] ∧ Same H6 H7 ∧ At H7 vb (.list (blkT 2 ds (some (badQ ds))).1) ∧ At H7 vp (.tuple ((blkT 2 ds (some (badQ ds))).2.map PyData.int)), ?_, ?_⟩
    · refine ⟨_, rfl, _, rfl, dg, ds, 2, vq, some (badQ ds), rfl, by decide, by decide, hdg6, hlen, ⟨aq, hq.2⟩, fun v H3 s3 av => ?_⟩
      obtain ⟨t, xs, rfl, ht, as⟩ := at_t av
      cases as with
      | cons a1 as =>
      cases as with
      | cons a2 as =>
      cases as
      exact ⟨t, _, rfl, SqT.of ht, rfl, _, _, rfl, _, _, rfl, rfl, _, _, rfl, s3, a1, a2⟩
    rintro σ H7 ⟨vb, vp, rfl, s7, ab, ap⟩
    generalize hb : blkT 2 ds (some (badQ ds)) = qb at ab ap bb lb2 lp
    obtain ⟨bb1, pl⟩ := qb
    dsimp only at ab ap bb lb2 lp
    have s57 := s6.trans s7
    have av7 := av5.mono s57
    have nilT : ∀ {σ : St} {H1 : Hp}, DT [] (tLst tNil) (.list []) σ H1 := dt_l (dl_lst dl_nil (by decide)) live_nil
    obtain ⟨x1, x2, x3⟩ := partE_ok sB pl
    obtain ⟨y1, y2, y3⟩ := partE_ok sF (2 :: pl)
    have shN : shortT (headsT2 (.list [])) = true := short2 fun ys e => by cases e; decide
    have shB : shortT (headsT2 (.list bb1)) = true := short2 fun ys e => by cases e; omega
    -- in the body
    refine ⟨fun σ H8 => σ = [some (.ref a), some (.ref ca), some (.int z), some (.ref dg), some vv, some vu, some (.ref x), some vq, some vb, some vp, v10, v11] ∧ Same H7 H8, if_be (be_ne (dt_made2 (dt_var rfl (by rw [hid_nil]; exact ab)) nilT shN (prog_body fine_nil bb)) (e := partE "body" pl) (dt_tup live_nil (dt_cons (dt_l dl_str live_nil) (dt_cons (dt_var rfl (by rw [hid_nil]; exact ap)) dt_nil)) (by show 2 ≤ sizeLine; omega)) x1 x1 x2 x2) fun H8 s8 => ⟨fun c => ?_, fun _ => ⟨rfl, s8⟩⟩, ?_⟩
    · rw [show PyData.eqv (.tuple [.str "body", .tuple (pl.map PyData.int)]) (partE "body" pl) = true from x3] at c
      cases c
    rintro σ H8 ⟨rfl, s8⟩
    -- expected
    refine ⟨fun σ H9 => ∃ ve : V, σ = [some (.ref a), some (.ref ca), some (.int z), some (.ref dg), some vv, some vu, some (.ref x), some vq, some vb, some vp, some ve, v11] ∧ Same H8 H9 ∧ At H9 ve (partE "functions" (2 :: pl)), ?_, ?_⟩
    · have zc := dt_catT (K := K) (L := []) (σ := [some (.ref a), some (.ref ca), some (.int z), some (.ref dg), some vv, some vu, some (.ref x), some vq, some vb, some vp, v10, v11]) (H1 := H8) live_nil (dt_tup live_nil (dt_cons (dt_int (ve_int (i := 2))) dt_nil) (by show 1 ≤ sizeLine; omega)) (dt_var (L := []) (s := 9) rfl (by rw [hid_nil]; exact ap.mono s8)) (by rw [List.length_map]; show 1 + _ ≤ sizeLine; omega)
      exact set_dt (L := []) (d := partE "functions" (2 :: pl)) (dt_tup live_nil (dt_cons (dt_l dl_str live_nil) (dt_cons zc dt_nil)) (by show 2 ≤ sizeLine; omega)) fun v H9 s9 av => ⟨v, rfl, s9, by rw [hid_nil] at av; exact av⟩
    rintro σ H9 ⟨ve, rfl, s9, ae⟩
    have s79 := s8.trans s9
    have ab9 := ab.mono s79
    have TB : DT [] (tVar 8) (.list bb1) [some (.ref a), some (.ref ca), some (.int z), some (.ref dg), some vv, some vu, some (.ref x), some vq, some vb, some vp, some ve, v11] H9 := dt_var rfl (by rw [hid_nil]; exact ab9)
    have TE9 : DT [] (tVar 10) (partE "functions" (2 :: pl)) [some (.ref a), some (.ref ca), some (.int z), some (.ref dg), some vv, some vu, some (.ref x), some vq, some vb, some vp, some ve, v11] H9 := dt_var rfl (by rw [hid_nil]; exact ae)
    -- in the function
    refine ⟨fun σ H10 => σ = [some (.ref a), some (.ref ca), some (.int z), some (.ref dg), some vv, some vu, some (.ref x), some vq, some vb, some vp, some ve, v11] ∧ Same H9 H10, if_be (be_or (be_ne (dt_made2 (dt_var (s := 4) (d := .list bs) rfl (by rw [hid_nil]; exact av7.mono s79)) TB shB (prog_fn bb)) TE9 y1 y1 y2 y2) fun _ => be_ne (dt_made2 TB TB shB (prog_fn bb)) TE9 y1 y1 y2 y2) fun H10 s10 => ⟨fun c => ?_, fun _ => ⟨rfl, s10⟩⟩, ?_⟩
    · rw [show PyData.eqv (.tuple [.str "functions", .tuple (((2 : Int) :: pl).map PyData.int)]) (partE "functions" (2 :: pl)) = true from y3] at c
      cases c
    rintro σ H10 ⟨rfl, s10⟩
    have s510 := s57.trans (s79.trans s10)
    have hdg10 := s510 _ _ hdg5
    -- no lists
    have l36 := dgN_lt ds 36 (show 0 < 5 by decide)
    have q36 : ds.getD 36 0 % 5 = (dgN ds 36 5 : Int) := dgN_eq ds 36 (by decide)
    have th := th2_not l36
    refine ⟨fun σ H11 => ∃ vt : V, σ = [some (.ref a), some (.ref ca), some (.int z), some (.ref dg), some vv, some vu, some (.ref x), some vq, some vb, some vp, some ve, some vt] ∧ Same H10 H11 ∧ At H11 vt (th2L.getD (dgN ds 36 5) .none), ?_, ?_⟩
    · exact set_dt (L := []) (dt_ixL (n := dgN ds 36 5) (ds := th2L) (dt_l (dl_lst (dl_cons dl_non (dl_cons (dl_tup (dl_cons dl_str (dl_cons dl_str dl_nil)) (by decide)) (dl_cons dl_str (dl_cons dl_dic (dl_cons dl_int dl_nil))))) (by decide)) live_nil) (ve_mod (ve_dg (j := 36) rfl hdg10 (get 36 (by decide)) rfl) ve_int (by decide)) (getD_some (x := PyData.none) (by show _ < 5; exact l36)) q36) fun v H11 s11 av => ⟨v, rfl, s11, by rw [hid_nil] at av; exact av⟩
    rintro σ H11 ⟨vt, rfl, s11, at11⟩
    generalize th2L.getD (dgN ds 36 5) .none = th2 at at11 th
    obtain ⟨u1, u2, u3⟩ := partE_ok sB []
    obtain ⟨w1, w2, w3⟩ := partE_ok sF [2]
    have TT11 : DT [] (tVar 11) th2 [some (.ref a), some (.ref ca), some (.int z), some (.ref dg), some vv, some vu, some (.ref x), some vq, some vb, some vp, some ve, some vt] H11 := dt_var rfl (by rw [hid_nil]; exact at11)
    have shT : shortT (headsT2 th2) = true := short2 fun ys e => absurd e (th ys)
    refine if_be (be_or (be_ne (dt_made2 TT11 nilT shN (prog_body fine_nil (bad_thing th))) (e := partE "body" []) (dt_tup live_nil (dt_cons (dt_l dl_str live_nil) (dt_cons (dt_l (d := .tuple []) (dl_tup dl_nil (by decide)) live_nil) dt_nil)) (by show 2 ≤ sizeLine; omega)) u1 u1 u2 u2) fun _ => be_ne (dt_made2 nilT TT11 shT (prog_fn (bad_thing th))) (e := partE "functions" [2]) (dt_tup live_nil (dt_cons (dt_l dl_str live_nil) (dt_cons (dt_l (d := .tuple [.int 2]) (dl_tup (dl_cons dl_int dl_nil) (by decide)) live_nil) dt_nil)) (by show 2 ≤ sizeLine; omega)) w1 w1 w2 w2) fun H12 s12 => ⟨fun c => ?_, fun _ => ?_⟩
    · rw [show PyData.eqv (.tuple [.str "body", .tuple (([] : List Int).map PyData.int)]) (partE "body" []) = true from u3, show PyData.eqv (.tuple [.str "functions", .tuple (((2 : Int) :: []).map PyData.int)]) (partE "functions" [2]) = true from w3] at c
      cases c
    · exact ⟨_, _, _, _, _, _, _, _, _, _, rfl, s12 _ _ (s11 _ _ (s510 _ _ (s5 _ _ (s4 _ _ (s3 _ _ (s2 _ _ hca))))))⟩
end
end K1

set_option Elab.async false
set_option linter.all false
set_option maxRecDepth 100000
set_option maxHeartbeats 0
namespace K1
open PySem PySem.Spec PyProof.Rows L2
/-! ### the head by facts -/
/-- an own exception class over ArithmeticError, one own class between -/
def excIA (K : PySem.W.Frag) (C : Addr) : Bool := match K.lookup C with
  | some ⟨.type t, _, .cls cd, sl⟩ => (match cd.mro, sl.toList with
    | [.ref C', .ref _, .type "ArithmeticError", .type "Exception", .type "BaseException", .type "object"], [_, _, _, _, some (.builtin n), _] => decide (t = "type") && (decide (C' = C) && (decide (n = "ArithmeticError.__new__") && (!cd.hasDel && cd.hasDict)))
    | _, _ => false)
  | _ => false
def hfn : List He.DefD := [
  ⟨("is_integer", none), "is_integer", "is_integer", defArgs (top 1), defBody (top 1), defScope (top 1), [], []⟩,
  ⟨("is_within", none), "is_within", "is_within", defArgs (top 2), defBody (top 2), defScope (top 2), [], []⟩,
  ⟨("is_name", none), "is_name", "is_name", defArgs (top 3), defBody (top 3), defScope (top 3), [], []⟩,
  ⟨("is_one_of", none), "is_one_of", "is_one_of", defArgs (top 4), defBody (top 4), defScope (top 4), [], []⟩,
  ⟨("fits", none), "fits", "fits", defArgs (top 16), defBody (top 16), defScope (top 16), [], []⟩,
  ⟨("fits_call", none), "fits_call", "fits_call", defArgs (top 17), defBody (top 17), defScope (top 17), [], []⟩,
  ⟨("fits_form", none), "fits_form", "fits_form", defArgs (top 18), defBody (top 18), defScope (top 18), [], []⟩,
  ⟨("depth_of", none), "depth_of", "depth_of", defArgs (top 19), defBody (top 19), defScope (top 19), [], []⟩,
  ⟨("blocks_of", none), "blocks_of", "blocks_of", defArgs (top 20), defBody (top 20), defScope (top 20), [], []⟩,
  ⟨("survey", none), "survey", "survey", defArgs (top 21), defBody (top 21), defScope (top 21), [], []⟩,
  ⟨("copied_block", none), "copied_block", "copied_block", defArgs (top 22), defBody (top 22), defScope (top 22), [], []⟩,
  ⟨("first_bad_name", none), "first_bad_name", "first_bad_name", defArgs (top 25), defBody (top 25), defScope (top 25), [], []⟩,
  ⟨("check_names", none), "check_names", "check_names", defArgs (top 26), defBody (top 26), defScope (top 26), [], []⟩,
  ⟨("is_class", none), "is_class", "is_class", defArgs (top 27), defBody (top 27), defScope (top 27), [], []⟩,
  ⟨("check_classes", none), "check_classes", "check_classes", defArgs (top 28), defBody (top 28), defScope (top 28), [], []⟩,
  ⟨("check_threshold", none), "check_threshold", "check_threshold", defArgs (top 29), defBody (top 29), defScope (top 29), [], []⟩,
  ⟨("check_radices", none), "check_radices", "check_radices", defArgs (top 30), defBody (top 30), defScope (top 30), [], []⟩,
  ⟨("is_head", none), "is_head", "is_head", defArgs (top 31), defBody (top 31), defScope (top 31), [], []⟩,
  ⟨("scope_for", none), "scope_for", "scope_for", defArgs (top 32), defBody (top 32), defScope (top 32), [], []⟩,
  ⟨("check_functions", none), "check_functions", "check_functions", defArgs (top 33), defBody (top 33), defScope (top 33), [], []⟩,
  ⟨("check_body", none), "check_body", "check_body", defArgs (top 34), defBody (top 34), defScope (top 34), [], []⟩,
  ⟨("copied_classes", none), "copied_classes", "copied_classes", defArgs (top 35), defBody (top 35), defScope (top 35), [], []⟩,
  ⟨("copied_functions", none), "copied_functions", "copied_functions", defArgs (top 36), defBody (top 36), defScope (top 36), [], []⟩,
  ⟨("_law_digits", none), "_law_digits", "_law_digits", defArgs (top 39), defBody (top 39), defScope (top 39), [], []⟩,
  ⟨("_law_simple", none), "_law_simple", "_law_simple", defArgs (top 40), defBody (top 40), defScope (top 40), [], []⟩,
  ⟨("_law_bad", none), "_law_bad", "_law_bad", defArgs (top 41), defBody (top 41), defScope (top 41), [], []⟩,
  ⟨("_law_bad_inner", none), "_law_bad_inner", "_law_bad_inner", defArgs (top 42), defBody (top 42), defScope (top 42), [], []⟩,
  ⟨("_law_block", none), "_law_block", "_law_block", defArgs (top 43), defBody (top 43), defScope (top 43), [], []⟩,
  ⟨("_law_made", none), "_law_made", "_law_made", defArgs (top 44), defBody (top 44), defScope (top 44), [], []⟩,
  ⟨("law", none), "law", "law", defArgs (top 45), defBody (top 45), defScope (top 45), [], []⟩,
  ⟨("InvalidProgram", some "__init__"), "__init__", "InvalidProgram.__init__", defArgs (inClass (top 7) 0), defBody (inClass (top 7) 0), defScope (inClass (top 7) 0), [], []⟩,
  ⟨("Scope", some "__init__"), "__init__", "Scope.__init__", defArgs (inClass (top 14) 0), defBody (inClass (top 14) 0), defScope (inClass (top 14) 0), [], []⟩,
  ⟨("Survey", some "__init__"), "__init__", "Survey.__init__", defArgs (inClass (top 15) 0), defBody (inClass (top 15) 0), defScope (inClass (top 15) 0), [], []⟩,
  ⟨("Program", some "__init__"), "__init__", "Program.__init__", defArgs (inClass (top 37) 0), defBody (inClass (top 37) 0), defScope (inClass (top 37) 0), [], []⟩,
  ⟨("Program", some "classes"), "classes", "Program.classes", defArgs (inClass (top 37) 1), defBody (inClass (top 37) 1), defScope (inClass (top 37) 1), [], []⟩,
  ⟨("Program", some "body"), "body", "Program.body", defArgs (inClass (top 37) 2), defBody (inClass (top 37) 2), defScope (inClass (top 37) 2), [], []⟩,
  ⟨("Program", some "variables"), "variables", "Program.variables", defArgs (inClass (top 37) 3), defBody (inClass (top 37) 3), defScope (inClass (top 37) 3), [], []⟩,
  ⟨("Program", some "weak"), "weak", "Program.weak", defArgs (inClass (top 37) 4), defBody (inClass (top 37) 4), defScope (inClass (top 37) 4), [], []⟩,
  ⟨("Program", some "threshold"), "threshold", "Program.threshold", defArgs (inClass (top 37) 5), defBody (inClass (top 37) 5), defScope (inClass (top 37) 5), [], []⟩,
  ⟨("Program", some "radices"), "radices", "Program.radices", defArgs (inClass (top 37) 6), defBody (inClass (top 37) 6), defScope (inClass (top 37) 6), [], []⟩,
  ⟨("Program", some "functions"), "functions", "Program.functions", defArgs (inClass (top 37) 7), defBody (inClass (top 37) 7), defScope (inClass (top 37) 7), [], []⟩]
def hfa0 : List He.Fa := [.glo "is_integer", .glo "is_within", .glo "is_name", .glo "is_one_of", .glo "fits", .glo "fits_call", .glo "fits_form", .glo "depth_of", .glo "blocks_of", .glo "survey", .glo "copied_block", .glo "first_bad_name", .glo "check_names", .glo "is_class", .glo "check_classes", .glo "check_threshold", .glo "check_radices", .glo "is_head", .glo "scope_for", .glo "check_functions", .glo "check_body", .glo "copied_classes", .glo "copied_functions", .glo "_law_digits", .glo "_law_simple", .glo "_law_bad", .glo "_law_bad_inner", .glo "_law_block", .glo "_law_made", .glo "law", .glo "RunError", .glo "InvalidProgram", .glo "Scope", .glo "Survey", .glo "Program", .glo "FORMS", .free "isinstance", .free "int", .free "bool", .free "str", .free "list", .free "tuple"]
def hfa1 : List He.Fa := [.free "len", .free "all", .free "enumerate", .free "range", .free "max", .free "zip", .int "MOST_STATEMENTS" 60, .int "DEEPEST_BLOCK" 60, .int "DEEPEST_REPEAT" 3, .int "MOST_MEMORY" 12, .int "MOST_ROUNDS" 1000000000000000000000000000000, .cls "Scope", .mkr "Scope", .noat "Scope" "class_names", .noat "Scope" "field_names", .noat "Scope" "variable_names", .noat "Scope" "weak_names", .noat "Scope" "levels", .noat "Scope" "calls", .cls "Survey", .mkr "Survey", .noat "Survey" "place", .noat "Survey" "many", .noat "Survey" "depth", .noat "Survey" "buried", .cls "Program", .mkr "Program", .noat "Program" "_classes", .noat "Program" "_body", .noat "Program" "_variables", .noat "Program" "_weak", .noat "Program" "_threshold", .noat "Program" "_radices", .noat "Program" "_functions", .meth "Program" "classes", .meth "Program" "body", .meth "Program" "variables", .meth "Program" "weak", .meth "Program" "threshold", .meth "Program" "radices", .meth "Program" "functions"]
def hfa2 : List He.Fa := [.exm "InvalidProgram" "InvalidProgram" true, .keep "InvalidProgram", .noat "InvalidProgram" "part", .noat "InvalidProgram" "at", .noat "InvalidProgram" "__getattr__", .meth "InvalidProgram" "__init__"]
def hfa : List He.Fa := hfa0 ++ hfa1 ++ hfa2
/-- the words of each form stand in the table as tuples -/
def formsB (K : PySem.W.Frag) : Bool := forms.all fun q => match PySem.W.nsIn K (He.ga K "FORMS") q.1 with
  | some (some (.ref t)) => (match K.lookup t with
    | some ⟨.type c, _, .seq its _, _⟩ => decide (c = "tuple") && (decide (its.size ≤ sizeLine) && He.relAll (q.2.map V.str) its.toList)
    | _ => false)
  | _ => false
/-- the other keys are none of it -/
def hts : List He.Tab := [((fun K => He.ga K "FORMS"), forms.map (·.1))]
/-- what isinstance asks of the class Program -/
def isiB (K : PySem.W.Frag) : Bool := decide (PySem.W.findIn K (.ref (He.ga K "Program")) "__class__" = some (some (.builtin "object.__class__"))) && (decide (PySem.W.specialIn K (.builtin "object.__class__") "__get__" = some (some (.builtin "getset_descriptor.__get__"))) && (decide (PySem.W.takesIn K (.builtin "object.__class__") = some true) && (decide (PySem.W.mroIn K (He.ga K "Program") (.type "object") = some true) && decide (PySem.W.kitOne K (.ref (He.ga K "Program")) (.ref (He.ga K "Program")) = some true))))
def exB (K : PySem.W.Frag) : Bool := excIA K (He.ga K "InvalidProgram") && (formsB K && (decide (PySem.W.findIn K (.ref (He.ga K "InvalidProgram")) "__setattr__" = some (some (.builtin "object.__setattr__"))) && (decide (PySem.W.findIn K (.ref (He.ga K "InvalidProgram")) "__getattribute__" = some (some (.builtin "BaseException.__getattribute__"))) && (decide (PySem.W.subIn K (.ref (He.ga K "InvalidProgram")) (.type "BaseException") = some true) && (decide (PySem.W.typeIn K (.ref (He.ga K "InvalidProgram")) = some (.type "type")) && (PySem.W.hasDictIn K (He.ga K "InvalidProgram") && isiB K))))))
abbrev Rw : PySem.W.OpenRow := PySem.W.OpenLaw.row PySem.Challenge.rw_roundheap_k02_statements_refused
abbrev hhk : PySem.W.Hook := He.hookX 6 hfa hfn hts [] exB
def hob (s : PySem.W.SharedT) : He.AlX := He.obsX 6 hfa hfn hts [] exB (HandSHeadRun.getT s)
theorem hob_eq (s : PySem.W.SharedT) : hob s = hhk.obs s.abs := He.obsX_eq (HandSHeadRun.getT_eq s)
def hnm1 : List Str := ["is_integer", "is_within", "is_name", "is_one_of", "fits", "fits_call", "fits_form", "depth_of", "blocks_of", "survey", "copied_block", "first_bad_name", "check_names", "is_class", "check_classes", "check_threshold", "check_radices", "is_head", "scope_for", "check_functions"]
def hnm2 : List Str := ["check_body", "copied_classes", "copied_functions", "RunError", "InvalidProgram", "MOST_ROUNDS", "MOST_STATEMENTS", "DEEPEST_BLOCK", "DEEPEST_REPEAT", "FORMS", "Scope", "Survey", "MOST_MEMORY", "Program", "_law_digits", "_law_simple", "_law_bad", "_law_bad_inner", "_law_block", "_law_made"]
def hnm : List Str := hnm1 ++ hnm2
theorem hrun (w : World) : HandSHeadRun.RunEq Rw (PySem.W.view Rw.prog [45]) hhk hob 4000 hnm w := PySem.W.byRow2 "special-get-raises" (P := fun w => HandSHeadRun.RunEq Rw (PySem.W.view Rw.prog [45]) hhk hob 4000 hnm w) (fun w os => by kernel_rfl) (fun w os => by kernel_rfl) w
end K1

set_option Elab.async false
set_option linter.all false
set_option maxRecDepth 100000
set_option maxHeartbeats 4000000
namespace K1
open PySem PySem.Spec PyProof.Rows L2 PySem.K1X
/-! ### from the head's facts to what the texts ask -/
section
variable {w : World} {K : PySem.W.Frag} {mg : Str → Option Value} {h : Heap}
theorem keys_none {P : Params} {s : Str} : ∀ {l : List DictEntry} {ks : List Str}, l.map He.keyOf = He.keysIn P ks → s ∉ ks → l.find? (·.key.isStr s) = none ∧ l.any (·.refKey) = false
  | [], _, _, _ => ⟨rfl, rfl⟩
  | e :: r, [], z, _ => by cases z
  | e :: r, k :: ks, z, n => by
    have h1 : He.keyOf e :: r.map He.keyOf = some (k, PyData.keyHash P k) :: He.keysIn P ks := z
    injection h1 with h2 h3
    obtain ⟨i1, i2⟩ := keys_none h3 (fun m => n (List.mem_cons_of_mem _ m))
    unfold He.keyOf at h2
    split at h2
    · rename_i x t q
      have h4 := Option.some.inj h2
      obtain ⟨h5, _⟩ := Prod.mk.inj h4
      subst h5
      have ne : x ≠ s := fun z => n (by rw [z]; exact List.mem_cons_self)
      have e1 : e.key.isStr s = false := by
        rw [q]
        show (x == s) = false
        rw [beq_eq_false_iff_ne]
        exact ne
      have e2 : e.refKey = false := by
        unfold DictEntry.refKey
        rw [q]
      exact ⟨by rw [List.find?_cons_of_neg (by rw [e1]; exact Bool.false_ne_true)]; exact i1, by rw [List.any_cons, e2, i2]; rfl⟩
    · cases h2
theorem no_key {P : Params} {a : Addr} {ks : List Str} {s : Str} (h : He.dicW K a = some (He.keysIn P ks)) (n : s ∉ ks) : PySem.W.nsIn K a s = some none := by
  unfold He.dicW at h
  split at h
  · rename_i c es m sl q
    split at h
    · have z := Option.some.inj h
      obtain ⟨i1, i2⟩ := keys_none z n
      unfold PySem.W.nsIn
      rw [q]
      dsimp only
      rw [i1]
      dsimp only
      rw [i2, if_neg Bool.false_ne_true]
    · cases h
  · cases h
theorem lookup_key {α : Type} {s : Str} : ∀ {cs : List (Str × α)}, cs.lookup s = none → s ∉ cs.map (·.1)
  | [], _ => by simp
  | (n, x) :: cs, h => by
    rw [List.lookup_cons] at h
    split at h
    · cases h
    · rename_i e
      rw [List.map_cons, List.mem_cons]
      rintro (z | z)
      · rw [z] at e
        simp at e
      · exact lookup_key h z
theorem forms_of (hf : formsB K = true) : ∀ s ws, forms.lookup s = some ws → ∃ t, PySem.W.nsIn K (He.ga K "FORMS") s = some (some (.ref t)) ∧ ∀ H, SqT K H t (ws.map V.str) := fun s ws hl => by
  have := List.all_eq_true.mp hf _ (look_mem hl)
  dsimp only at this
  split at this
  · rename_i t e
    refine ⟨t, e, fun H => ?_⟩
    split at this
    · rename_i c dd its m sl q
      rw [Bool.and_eq_true, Bool.and_eq_true] at this
      obtain ⟨c1, c2, c3⟩ := this
      have c1 := of_decide_eq_true c1
      have c2 := of_decide_eq_true c2
      subst c1
      exact .inr ⟨_, its, m, q, rfl, rfl, c2, He.relAll_ok c3⟩
    · cases this
  · cases this
theorem excIA_is {C : Addr} (h : excIA K C = true) : ∃ nm q N bs bm sn sub ab col dd k0 k1 k2 k3 k5, K.lookup C = some (excClassObj nm q C N bs bm true sn sub ab col dd k0 k1 k2 k3 k5 "ArithmeticError.__new__") ∧ LineA bm := by
  unfold excIA at h
  split at h
  · rename_i t dd cd sl ho
    split at h
    · rename_i C' R k0 k1 k2 k3 n k5 hm hs
      simp only [Bool.and_eq_true, decide_eq_true_eq, Bool.not_eq_true'] at h
      obtain ⟨rfl, rfl, rfl, hdel, hdc⟩ := h
      obtain ⟨nm, bs, mro, ns, qn, hd, sn, sub, ab, col, del⟩ := cd
      dsimp only at hm hdel hdc
      subst hm hdel hdc
      have hsl : sl = #[k0, k1, k2, k3, some (.builtin "ArithmeticError.__new__"), k5] := by
        obtain ⟨l⟩ := sl
        simp only at hs
        rw [hs]
      subst hsl
      exact ⟨nm, qn, ns, bs, _, sn, sub, ab, col, dd, k0, k1, k2, k3, k5, ho, R, rfl⟩
    · cases h
  · cases h
theorem fun_of {x q : Str} {st : Stmt} {f : Addr} {fd : FuncData} (F : FunD K x q (defArgs st) (defBody st) (defScope st) [] [] f fd) : Fun K x q st f fd := by
  obtain ⟨oc, od, dV, kV, doc, pm, an, cdv, ct, osl, e, lk, hcd, hD, _⟩ := F.ex
  rcases hD with ⟨_, rfl⟩ | ⟨z, _⟩
  · exact ⟨⟨oc, od, kV, doc, pm, an, cdv, ct, osl, e, lk, hcd⟩, F.kp⟩
  · exact absurd rfl z
end
end K1

set_option Elab.async false
set_option linter.all false
set_option maxRecDepth 100000
set_option maxHeartbeats 8000000
namespace K1
open PySem PySem.Spec PyProof.Rows L2 PySem.K1X
theorem tab0 {w : World} {K : PySem.W.Frag} (c : He.SaysT hfa hfn hts w K) : He.dicW K (He.ga K "FORMS") = some (He.keysIn w.params (forms.map (·.1))) := by
  have e : hts.map (fun t => He.dicW K (t.1 K)) = hts.map fun t => some (He.keysIn w.params t.2) := congrArg (fun z : He.AlT => z.2) c
  exact (List.cons.inj e).1
theorem facts {P : Program} {w : World} {K : PySem.W.Frag} {h : Heap} {mg : Str → Option Value} {f : Addr} (X : K.In h) (G : h.Ns mainGlobals mg) (hfm : mg ("law" : Str) = some (.ref f)) (c : He.SaysX hfa hfn hts [] exB w h K) :
    ∃ fd : FuncData, (∀ (s : Shared) (v : Value), BindsTo s fd ⟨[v], []⟩ [("_law_script", v)]) ∧ ∀ base : Heap, K.In base → base.Ns mainGlobals mg → FnOk P w K mg base CX0 11 f fd ["_law_script"] (spLaw K) := by
  have cd : He.SaysD hfa hfn K := c.t.d
  have e := hfm.symm.trans (He.glo_ok X G (cd.fact 29 (f := .glo "law") rfl))
  cases e
  obtain ⟨fd0, D0⟩ := cd.def_ 0 rfl
  have F0 : Fun K "is_integer" "is_integer" (top 1) (He.fAd K ("is_integer", none)) fd0 := fun_of D0
  have b0 : Binds K fd0 ["value"] [] := D0.bindsN fun _ _ _ _ _ _ us hl => match us, hl with | [_], _ => rfl
  obtain ⟨fd1, D1⟩ := cd.def_ 1 rfl
  have F1 : Fun K "is_within" "is_within" (top 2) (He.fAd K ("is_within", none)) fd1 := fun_of D1
  have b1 : Binds K fd1 ["value", "least", "most"] [] := D1.bindsN fun _ _ _ _ _ _ us hl => match us, hl with | [_, _, _], _ => rfl
  obtain ⟨fd2, D2⟩ := cd.def_ 2 rfl
  have F2 : Fun K "is_name" "is_name" (top 3) (He.fAd K ("is_name", none)) fd2 := fun_of D2
  have b2 : Binds K fd2 ["value"] [] := D2.bindsN fun _ _ _ _ _ _ us hl => match us, hl with | [_], _ => rfl
  obtain ⟨fd3, D3⟩ := cd.def_ 3 rfl
  have F3 : Fun K "is_one_of" "is_one_of" (top 4) (He.fAd K ("is_one_of", none)) fd3 := fun_of D3
  have b3 : Binds K fd3 ["value", "names"] [] := D3.bindsN fun _ _ _ _ _ _ us hl => match us, hl with | [_, _], _ => rfl
  obtain ⟨fd4, D4⟩ := cd.def_ 4 rfl
  have F4 : Fun K "fits" "fits" (top 16) (He.fAd K ("fits", none)) fd4 := fun_of D4
  have b4 : Binds K fd4 ["kind", "value", "scope"] [] := D4.bindsN fun _ _ _ _ _ _ us hl => match us, hl with | [_, _, _], _ => rfl
  obtain ⟨fd5, D5⟩ := cd.def_ 5 rfl
  have F5 : Fun K "fits_call" "fits_call" (top 17) (He.fAd K ("fits_call", none)) fd5 := fun_of D5
  have b5 : Binds K fd5 ["words", "scope", "repeats"] [] := D5.bindsN fun _ _ _ _ _ _ us hl => match us, hl with | [_, _, _], _ => rfl
  obtain ⟨fd6, D6⟩ := cd.def_ 6 rfl
  have F6 : Fun K "fits_form" "fits_form" (top 18) (He.fAd K ("fits_form", none)) fd6 := fun_of D6
  have b6 : Binds K fd6 ["statement", "scope", "repeats"] [] := D6.bindsN fun _ _ _ _ _ _ us hl => match us, hl with | [_, _, _], _ => rfl
  obtain ⟨fd7, D7⟩ := cd.def_ 7 rfl
  have F7 : Fun K "depth_of" "depth_of" (top 19) (He.fAd K ("depth_of", none)) fd7 := fun_of D7
  have b7 : Binds K fd7 ["statement", "scope", "repeats"] [] := D7.bindsN fun _ _ _ _ _ _ us hl => match us, hl with | [_, _, _], _ => rfl
  obtain ⟨fd8, D8⟩ := cd.def_ 8 rfl
  have F8 : Fun K "blocks_of" "blocks_of" (top 20) (He.fAd K ("blocks_of", none)) fd8 := fun_of D8
  have b8 : Binds K fd8 ["statement", "place"] [] := D8.bindsN fun _ _ _ _ _ _ us hl => match us, hl with | [_, _], _ => rfl
  obtain ⟨fd9, D9⟩ := cd.def_ 9 rfl
  have F9 : Fun K "survey" "survey" (top 21) (He.fAd K ("survey", none)) fd9 := fun_of D9
  have b9 : Binds K fd9 ["body", "scope"] [] := D9.bindsN fun _ _ _ _ _ _ us hl => match us, hl with | [_, _], _ => rfl
  obtain ⟨fd10, D10⟩ := cd.def_ 10 rfl
  have F10 : Fun K "copied_block" "copied_block" (top 22) (He.fAd K ("copied_block", none)) fd10 := fun_of D10
  have b10 : Binds K fd10 ["block"] [] := D10.bindsN fun _ _ _ _ _ _ us hl => match us, hl with | [_], _ => rfl
  obtain ⟨fd11, D11⟩ := cd.def_ 11 rfl
  have F11 : Fun K "first_bad_name" "first_bad_name" (top 25) (He.fAd K ("first_bad_name", none)) fd11 := fun_of D11
  have b11 : Binds K fd11 ["value", "most", "barred"] [] := D11.bindsN fun _ _ _ _ _ _ us hl => match us, hl with | [_, _, _], _ => rfl
  obtain ⟨fd12, D12⟩ := cd.def_ 12 rfl
  have F12 : Fun K "check_names" "check_names" (top 26) (He.fAd K ("check_names", none)) fd12 := fun_of D12
  have b12 : Binds K fd12 ["part", "value", "least", "most", "barred"] [] := D12.bindsN fun _ _ _ _ _ _ us hl => match us, hl with | [_, _, _, _, _], _ => rfl
  obtain ⟨fd13, D13⟩ := cd.def_ 13 rfl
  have F13 : Fun K "is_class" "is_class" (top 27) (He.fAd K ("is_class", none)) fd13 := fun_of D13
  have b13 : Binds K fd13 ["value", "seen"] [] := D13.bindsN fun _ _ _ _ _ _ us hl => match us, hl with | [_, _], _ => rfl
  obtain ⟨fd14, D14⟩ := cd.def_ 14 rfl
  have F14 : Fun K "check_classes" "check_classes" (top 28) (He.fAd K ("check_classes", none)) fd14 := fun_of D14
  have b14 : Binds K fd14 ["classes"] [] := D14.bindsN fun _ _ _ _ _ _ us hl => match us, hl with | [_], _ => rfl
  obtain ⟨fd15, D15⟩ := cd.def_ 15 rfl
  have F15 : Fun K "check_threshold" "check_threshold" (top 29) (He.fAd K ("check_threshold", none)) fd15 := fun_of D15
  have b15 : Binds K fd15 ["threshold"] [] := D15.bindsN fun _ _ _ _ _ _ us hl => match us, hl with | [_], _ => rfl
  obtain ⟨fd16, D16⟩ := cd.def_ 16 rfl
  have F16 : Fun K "check_radices" "check_radices" (top 30) (He.fAd K ("check_radices", none)) fd16 := fun_of D16
  have b16 : Binds K fd16 ["radices", "threshold"] [] := D16.bindsN fun _ _ _ _ _ _ us hl => match us, hl with | [_, _], _ => rfl
  obtain ⟨fd17, D17⟩ := cd.def_ 17 rfl
  have F17 : Fun K "is_head" "is_head" (top 31) (He.fAd K ("is_head", none)) fd17 := fun_of D17
  have b17 : Binds K fd17 ["value", "seen", "weak"] [] := D17.bindsN fun _ _ _ _ _ _ us hl => match us, hl with | [_, _, _], _ => rfl
  obtain ⟨fd18, D18⟩ := cd.def_ 18 rfl
  have F18 : Fun K "scope_for" "scope_for" (top 32) (He.fAd K ("scope_for", none)) fd18 := fun_of D18
  have b18 : Binds K fd18 ["names", "classes", "weak", "radices", "calls"] [] := D18.bindsN fun _ _ _ _ _ _ us hl => match us, hl with | [_, _, _, _, _], _ => rfl
  obtain ⟨fd19, D19⟩ := cd.def_ 19 rfl
  have F19 : Fun K "check_functions" "check_functions" (top 33) (He.fAd K ("check_functions", none)) fd19 := fun_of D19
  have b19 : Binds K fd19 ["functions", "classes", "weak", "radices"] [] := D19.bindsN fun _ _ _ _ _ _ us hl => match us, hl with | [_, _, _, _], _ => rfl
  obtain ⟨fd20, D20⟩ := cd.def_ 20 rfl
  have F20 : Fun K "check_body" "check_body" (top 34) (He.fAd K ("check_body", none)) fd20 := fun_of D20
  have b20 : Binds K fd20 ["body", "scope", "many"] [] := D20.bindsN fun _ _ _ _ _ _ us hl => match us, hl with | [_, _, _], _ => rfl
  obtain ⟨fd21, D21⟩ := cd.def_ 21 rfl
  have F21 : Fun K "copied_classes" "copied_classes" (top 35) (He.fAd K ("copied_classes", none)) fd21 := fun_of D21
  have b21 : Binds K fd21 ["classes"] [] := D21.bindsN fun _ _ _ _ _ _ us hl => match us, hl with | [_], _ => rfl
  obtain ⟨fd22, D22⟩ := cd.def_ 22 rfl
  have F22 : Fun K "copied_functions" "copied_functions" (top 36) (He.fAd K ("copied_functions", none)) fd22 := fun_of D22
  have b22 : Binds K fd22 ["functions"] [] := D22.bindsN fun _ _ _ _ _ _ us hl => match us, hl with | [_], _ => rfl
  obtain ⟨fd23, D23⟩ := cd.def_ 23 rfl
  have F23 : Fun K "_law_digits" "_law_digits" (top 39) (He.fAd K ("_law_digits", none)) fd23 := fun_of D23
  have b23 : Binds K fd23 ["_law_cell", "_law_many"] [] := D23.bindsN fun _ _ _ _ _ _ us hl => match us, hl with | [_, _], _ => rfl
  obtain ⟨fd24, D24⟩ := cd.def_ 24 rfl
  have F24 : Fun K "_law_simple" "_law_simple" (top 40) (He.fAd K ("_law_simple", none)) fd24 := fun_of D24
  have b24 : Binds K fd24 ["_law_digits_here"] [] := D24.bindsN fun _ _ _ _ _ _ us hl => match us, hl with | [_], _ => rfl
  obtain ⟨fd25, D25⟩ := cd.def_ 25 rfl
  have F25 : Fun K "_law_bad" "_law_bad" (top 41) (He.fAd K ("_law_bad", none)) fd25 := fun_of D25
  have b25 : Binds K fd25 ["_law_digits_here"] [] := D25.bindsN fun _ _ _ _ _ _ us hl => match us, hl with | [_], _ => rfl
  obtain ⟨fd26, D26⟩ := cd.def_ 26 rfl
  have F26 : Fun K "_law_bad_inner" "_law_bad_inner" (top 42) (He.fAd K ("_law_bad_inner", none)) fd26 := fun_of D26
  have b26 : Binds K fd26 ["_law_digits_here"] [] := D26.bindsN fun _ _ _ _ _ _ us hl => match us, hl with | [_], _ => rfl
  obtain ⟨fd27, D27⟩ := cd.def_ 27 rfl
  have F27 : Fun K "_law_block" "_law_block" (top 43) (He.fAd K ("_law_block", none)) fd27 := fun_of D27
  have b27 : Binds K fd27 ["_law_digits_here", "_law_depth", "_law_bad_here"] [] := D27.bindsN fun _ _ _ _ _ _ us hl => match us, hl with | [_, _, _], _ => rfl
  obtain ⟨fd28, D28⟩ := cd.def_ 28 rfl
  have F28 : Fun K "_law_made" "_law_made" (top 44) (He.fAd K ("_law_made", none)) fd28 := fun_of D28
  have b28 : Binds K fd28 ["_law_body", "_law_inner"] [] := D28.bindsN fun _ _ _ _ _ _ us hl => match us, hl with | [_, _], _ => rfl
  obtain ⟨fd29, D29⟩ := cd.def_ 29 rfl
  have F29 : Fun K "law" "law" (top 45) (He.fAd K ("law", none)) fd29 := fun_of D29
  have b29 : Binds K fd29 ["_law_script"] [] := D29.bindsN fun _ _ _ _ _ _ us hl => match us, hl with | [_], _ => rfl
  obtain ⟨fd30, D30⟩ := cd.def_ 30 rfl
  have F30 : Fun K "__init__" "InvalidProgram.__init__" sIP (He.fAd K ("InvalidProgram", some "__init__")) fd30 := fun_of D30
  have b30 : Binds K fd30 ["self", "part", "at"] [] := D30.bindsN fun _ _ _ _ _ _ us hl => match us, hl with | [_, _, _], _ => rfl
  obtain ⟨fd31, D31⟩ := cd.def_ 31 rfl
  have F31 : Fun K "__init__" "Scope.__init__" sScI (He.fAd K ("Scope", some "__init__")) fd31 := fun_of D31
  have b31 : Binds K fd31 ["self", "class_names", "field_names", "variable_names", "weak_names", "levels", "calls"] [] := D31.bindsN fun _ _ _ _ _ _ us hl => match us, hl with | [_, _, _, _, _, _, _], _ => rfl
  obtain ⟨fd32, D32⟩ := cd.def_ 32 rfl
  have F32 : Fun K "__init__" "Survey.__init__" sSuI (He.fAd K ("Survey", some "__init__")) fd32 := fun_of D32
  have b32 : Binds K fd32 ["self", "place", "many", "depth", "buried"] [] := D32.bindsN fun _ _ _ _ _ _ us hl => match us, hl with | [_, _, _, _, _], _ => rfl
  obtain ⟨fd33, D33⟩ := cd.def_ 33 rfl
  have F33 : Fun K "__init__" "Program.__init__" sPrI (He.fAd K ("Program", some "__init__")) fd33 := fun_of D33
  obtain ⟨fd40, D40⟩ := cd.def_ 40 rfl
  have F40 : Fun K "functions" "Program.functions" (inClass (top 37) 7) (He.fAd K ("Program", some "functions")) fd40 := fun_of D40
  have b40 : Binds K fd40 ["self"] [] := D40.bindsN fun _ _ _ _ _ _ us hl => match us, hl with | [_], _ => rfl
  obtain ⟨fd35, D35⟩ := cd.def_ 35 rfl
  have F35 : Fun K "body" "Program.body" (inClass (top 37) 2) (He.fAd K ("Program", some "body")) fd35 := fun_of D35
  have b35 : Binds K fd35 ["self"] [] := D35.bindsN fun _ _ _ _ _ _ us hl => match us, hl with | [_], _ => rfl
  have zisinstance := He.free_ok X G (cd.fact 36 (f := .free "isinstance") rfl)
  have zint := He.free_ok X G (cd.fact 37 (f := .free "int") rfl)
  have zbool := He.free_ok X G (cd.fact 38 (f := .free "bool") rfl)
  have zstr := He.free_ok X G (cd.fact 39 (f := .free "str") rfl)
  have zlist := He.free_ok X G (cd.fact 40 (f := .free "list") rfl)
  have ztuple := He.free_ok X G (cd.fact 41 (f := .free "tuple") rfl)
  have zlen := He.free_ok X G (cd.fact 42 (f := .free "len") rfl)
  have zall := He.free_ok X G (cd.fact 43 (f := .free "all") rfl)
  have zenumerate := He.free_ok X G (cd.fact 44 (f := .free "enumerate") rfl)
  have zrange := He.free_ok X G (cd.fact 45 (f := .free "range") rfl)
  have zmax := He.free_ok X G (cd.fact 46 (f := .free "max") rfl)
  have zzip := He.free_ok X G (cd.fact 47 (f := .free "zip") rfl)
  have B : Blt mg := ⟨zisinstance, zint, zbool, zstr, zlist, ztuple, zlen, zall, zenumerate, zrange, zmax⟩
  obtain ⟨t0, i0⟩ := He.int_ok X G (cd.fact 48 (f := .int "MOST_STATEMENTS" 60) rfl)
  obtain ⟨t1, i1⟩ := He.int_ok X G (cd.fact 49 (f := .int "DEEPEST_BLOCK" 60) rfl)
  obtain ⟨t2, i2⟩ := He.int_ok X G (cd.fact 50 (f := .int "DEEPEST_REPEAT" 3) rfl)
  obtain ⟨t3, i3⟩ := He.int_ok X G (cd.fact 51 (f := .int "MOST_MEMORY" 12) rfl)
  obtain ⟨t4, i4⟩ := He.int_ok X G (cd.fact 52 (f := .int "MOST_ROUNDS" 1000000000000000000000000000000) rfl)
  have US : NoS K (He.ga K "Scope") := ⟨He.cls_ok (cd.fact 53 (f := .cls "Scope") rfl), He.noat_ok (cd.fact 55 (f := .noat "Scope" "class_names") rfl), He.noat_ok (cd.fact 56 (f := .noat "Scope" "field_names") rfl), He.noat_ok (cd.fact 57 (f := .noat "Scope" "variable_names") rfl), He.noat_ok (cd.fact 58 (f := .noat "Scope" "weak_names") rfl), He.noat_ok (cd.fact 59 (f := .noat "Scope" "levels") rfl), He.noat_ok (cd.fact 60 (f := .noat "Scope" "calls") rfl)⟩
  have UU : NoU K (He.ga K "Survey") := ⟨He.cls_ok (cd.fact 61 (f := .cls "Survey") rfl), He.noat_ok (cd.fact 63 (f := .noat "Survey" "place") rfl), He.noat_ok (cd.fact 64 (f := .noat "Survey" "many") rfl), He.noat_ok (cd.fact 65 (f := .noat "Survey" "depth") rfl), He.noat_ok (cd.fact 66 (f := .noat "Survey" "buried") rfl)⟩
  have UP : NoP K (He.ga K "Program") := ⟨He.cls_ok (cd.fact 67 (f := .cls "Program") rfl), He.noat_ok (cd.fact 69 (f := .noat "Program" "_classes") rfl), He.noat_ok (cd.fact 70 (f := .noat "Program" "_body") rfl), He.noat_ok (cd.fact 71 (f := .noat "Program" "_variables") rfl), He.noat_ok (cd.fact 72 (f := .noat "Program" "_weak") rfl), He.noat_ok (cd.fact 73 (f := .noat "Program" "_threshold") rfl), He.noat_ok (cd.fact 74 (f := .noat "Program" "_radices") rfl), He.noat_ok (cd.fact 75 (f := .noat "Program" "_functions") rfl)⟩
  have gC := He.glo_ok X G (cd.fact 31 (f := .glo "InvalidProgram") rfl)
  have gP := He.glo_ok X G (cd.fact 34 (f := .glo "Program") rfl)
  have n1 := He.noat_ok (cd.fact 85 (f := .noat "InvalidProgram" "part") rfl)
  have n2 := He.noat_ok (cd.fact 86 (f := .noat "InvalidProgram" "at") rfl)
  have n3 := He.noat_ok (cd.fact 87 (f := .noat "InvalidProgram" "__getattr__") rfl)
  have mI := He.meth_ok (cd.fact 88 (f := .meth "InvalidProgram" "__init__") rfl)
  obtain ⟨x1, x2⟩ := He.ba c.more
  obtain ⟨xf, x2⟩ := He.ba x2
  obtain ⟨xsa, x2⟩ := He.ba x2
  obtain ⟨xga, x2⟩ := He.ba x2
  obtain ⟨xsu, x2⟩ := He.ba x2
  obtain ⟨xty, x2⟩ := He.ba x2
  obtain ⟨xhd, x2⟩ := He.ba x2
  obtain ⟨y1, x2⟩ := He.ba x2
  obtain ⟨y2, x2⟩ := He.ba x2
  obtain ⟨y3, x2⟩ := He.ba x2
  obtain ⟨y4, y5⟩ := He.ba x2
  have TA : ExA K (He.ga K "InvalidProgram") := ⟨excIA_is x1, of_decide_eq_true xsa, of_decide_eq_true xsu, of_decide_eq_true xty, He.keep_ok (cd.fact 84 (f := .keep "InvalidProgram") rfl)⟩
  have TC : CgtA K mg (He.ga K "InvalidProgram") := ⟨gC, He.exm_ok (cd.fact 83 (f := .exm "InvalidProgram" "InvalidProgram" true) rfl), ⟨of_decide_eq_true xga, n3, of_decide_eq_true xsu, xhd⟩, n1, n2⟩
  have IS : Isi K (He.ga K "Program") := ⟨UP.cl, of_decide_eq_true y1, of_decide_eq_true y2, of_decide_eq_true y3, of_decide_eq_true y4, of_decide_eq_true y5⟩
  have FM : Frm w K mg (He.ga K "FORMS") := ⟨He.glo_ok X G (cd.fact 35 (f := .glo "FORMS") rfl), c.t.tab 0 rfl, forms_of xf, fun s hs => no_key (tab0 c.t) (lookup_key hs)⟩
  have bA := FunD.bindsA (ps := ["_law_script"]) D29 fun _ _ _ _ _ _ us hl => match us, hl with | [_], _ => rfl
  refine ⟨fd29, fun s v => bA s [v] rfl, fun base _ _ => ?_⟩
  have C1 : Cal P w K mg base CX0 1 "is_integer" ["value"] spInteger := ⟨_, _, ok1 F0 B, He.glo_ok X G (cd.fact 0 (f := .glo "is_integer") rfl), D0.kp, b0⟩
  have C2 : Cal P w K mg base CX0 2 "is_within" ["value", "least", "most"] spWithin := ⟨_, _, ok2 F1 B C1, He.glo_ok X G (cd.fact 1 (f := .glo "is_within") rfl), D1.kp, b1⟩
  have C3 : Cal P w K mg base CX0 1 "is_name" ["value"] spName := ⟨_, _, ok3 F2 B, He.glo_ok X G (cd.fact 2 (f := .glo "is_name") rfl), D2.kp, b2⟩
  have C4 : Cal P w K mg base CX0 1 "is_one_of" ["value", "names"] spOne := ⟨_, _, ok4 F3 B, He.glo_ok X G (cd.fact 3 (f := .glo "is_one_of") rfl), D3.kp, b3⟩
  have C25 : Cal P w K mg base CX0 2 "first_bad_name" ["value", "most", "barred"] spFirst := ⟨_, _, ok25 F11 B C3, He.glo_ok X G (cd.fact 11 (f := .glo "first_bad_name") rfl), D11.kp, b11⟩
  have IP : Ipc P w K mg base (He.ga K "InvalidProgram") := ⟨TA, ⟨_, _, mI.at_, beq_iff_eq.mp mI.fn, okIP F30 TA n1 n2, b30⟩, gC⟩
  have C26 : Cal P w K mg base (L2.CX P w) 3 "check_names" ["part", "value", "least", "most", "barred"] (spNames (He.ga K "InvalidProgram")) := ⟨_, _, ok26 F12 B IP C25, He.glo_ok X G (cd.fact 12 (f := .glo "check_names") rfl), D12.kp, b12⟩
  have C27 : Cal P w K mg base CX0 3 "is_class" ["value", "seen"] spIsClass := ⟨_, _, ok27 F13 B C2 C3 C25, He.glo_ok X G (cd.fact 13 (f := .glo "is_class") rfl), D13.kp, b13⟩
  have C28 : Cal P w K mg base (L2.CX P w) 4 "check_classes" ["classes"] (spClasses (He.ga K "InvalidProgram")) := ⟨_, _, ok28 F14 B IP C27, He.glo_ok X G (cd.fact 14 (f := .glo "check_classes") rfl), D14.kp, b14⟩
  have C29 : Cal P w K mg base (L2.CX P w) 3 "check_threshold" ["threshold"] (spThr (He.ga K "InvalidProgram")) := ⟨_, _, ok29 F15 i3 IP C2, He.glo_ok X G (cd.fact 15 (f := .glo "check_threshold") rfl), D15.kp, b15⟩
  have C30 : Cal P w K mg base (L2.CX P w) 3 "check_radices" ["radices", "threshold"] (spRad (He.ga K "InvalidProgram")) := ⟨_, _, ok30 F16 B i3 IP C1, He.glo_ok X G (cd.fact 16 (f := .glo "check_radices") rfl), D16.kp, b16⟩
  have MS : Mkr P w K mg base CX0 1 "Scope" (He.ga K "Scope") ["self", "class_names", "field_names", "variable_names", "weak_names", "levels", "calls"] (spScG (He.ga K "Scope")) := ⟨_, _, He.mkr_ok (cd.fact 54 (f := .mkr "Scope") rfl), okScG F31 US, He.glo_ok X G (cd.fact 32 (f := .glo "Scope") rfl), b31⟩
  have MU : Mkr P w K mg base CX0 1 "Survey" (He.ga K "Survey") ["self", "place", "many", "depth", "buried"] (spSuI (He.ga K "Survey")) := ⟨_, _, He.mkr_ok (cd.fact 62 (f := .mkr "Survey") rfl), okSuI F32 UU, He.glo_ok X G (cd.fact 33 (f := .glo "Survey") rfl), b32⟩
  have C16 : Cal P w K mg base CX0 3 "fits" ["kind", "value", "scope"] (spFits (He.ga K "Scope")) := ⟨_, _, ok16 F4 US i4 C2 C4 C3, He.glo_ok X G (cd.fact 4 (f := .glo "fits") rfl), D4.kp, b4⟩
  have C17 : Cal P w K mg base CX0 4 "fits_call" ["words", "scope", "repeats"] (spCallF (He.ga K "Scope")) := ⟨_, _, ok17 F5 B US i2 C4 C16, He.glo_ok X G (cd.fact 5 (f := .glo "fits_call") rfl), D5.kp, b5⟩
  have C18 : Cal P w K mg base CX0 5 "fits_form" ["statement", "scope", "repeats"] (spForm (He.ga K "Scope")) := ⟨_, _, ok18 F6 B zzip FM i2 C17 C16, He.glo_ok X G (cd.fact 6 (f := .glo "fits_form") rfl), D6.kp, b6⟩
  have C19 : Cal P w K mg base CX0 1 "depth_of" ["statement", "scope", "repeats"] (spDepth (He.ga K "Scope")) := ⟨_, _, ok19 F7 US, He.glo_ok X G (cd.fact 7 (f := .glo "depth_of") rfl), D7.kp, b7⟩
  have C20 : Cal P w K mg base CX0 1 "blocks_of" ["statement", "place"] spBlocks := ⟨_, _, ok20 F8, He.glo_ok X G (cd.fact 8 (f := .glo "blocks_of") rfl), D8.kp, b8⟩
  have C21 : Cal P w K mg base CX0 6 "survey" ["body", "scope"] (spSv (He.ga K "Scope") (He.ga K "Survey")) := ⟨_, _, okSv F9 B US i1 i0 MU C18 C19 C20, He.glo_ok X G (cd.fact 9 (f := .glo "survey") rfl), D9.kp, b9⟩
  have C22 : Cal P w K mg base CX0 4 "copied_block" ["block"] (spCopy 3) := ⟨_, _, ok22c F10 B (He.glo_ok X G (cd.fact 10 (f := .glo "copied_block") rfl)) b10 3, He.glo_ok X G (cd.fact 10 (f := .glo "copied_block") rfl), D10.kp, b10⟩
  have C31 : Cal P w K mg base CX0 3 "is_head" ["value", "seen", "weak"] spHead := ⟨_, _, ok31 F17 B C3 C4 C25, He.glo_ok X G (cd.fact 17 (f := .glo "is_head") rfl), D17.kp, b17⟩
  have C32 : Cal P w K mg base CX0 3 "scope_for" ["names", "classes", "weak", "radices", "calls"] (spSF (He.ga K "Scope")) := ⟨_, _, okSF F18 B MS, He.glo_ok X G (cd.fact 18 (f := .glo "scope_for") rfl), D18.kp, b18⟩
  have C33 : Cal P w K mg base (L2.CX P w) 7 "check_functions" ["functions", "classes", "weak", "radices"] (spCFn (He.ga K "InvalidProgram")) := ⟨_, _, ok33c F19 B IP UU C31 C21 C32, He.glo_ok X G (cd.fact 19 (f := .glo "check_functions") rfl), D19.kp, b19⟩
  have C34 : Cal P w K mg base (L2.CX P w) 7 "check_body" ["body", "scope", "many"] (spCB (He.ga K "InvalidProgram") (He.ga K "Scope")) := ⟨_, _, ok34c F20 B i0 IP UU C21, He.glo_ok X G (cd.fact 20 (f := .glo "check_body") rfl), D20.kp, b20⟩
  have C35 : Cal P w K mg base CX0 1 "copied_classes" ["classes"] spCopyCls := ⟨_, _, ok35 F21 B, He.glo_ok X G (cd.fact 21 (f := .glo "copied_classes") rfl), D21.kp, b21⟩
  have C36 : Cal P w K mg base CX0 5 "copied_functions" ["functions"] (spCpF 3) := ⟨_, _, ok36c F22 B C22, He.glo_ok X G (cd.fact 22 (f := .glo "copied_functions") rfl), D22.kp, b22⟩
  have PR : PrmN P w K mg base (He.ga K "InvalidProgram") (He.ga K "Program") 3 7 := ⟨⟨_, _, He.mkr_ok (cd.fact 68 (f := .mkr "Program") rfl), okPr2 (by decide) (by decide) F33 B UP C28 C26 C29 C30 C33 C32 C34 C35 C22 C36, kb_pr F33⟩, gP⟩
  have M : Mtd2 P w K mg base (He.ga K "Program") := ⟨_, _, He.meth_ok (cd.fact 82 (f := .meth "Program" "functions") rfl), okM7c F40 UP C36, b40⟩
  have C39 : Cal P w K mg base CX0 1 "_law_digits" ["_law_cell", "_law_many"] spDig := ⟨_, _, ok39 F23 B, He.glo_ok X G (cd.fact 23 (f := .glo "_law_digits") rfl), D23.kp, b23⟩
  have MB : MtdB P w K mg base (He.ga K "Program") := ⟨_, _, He.meth_ok (cd.fact 77 (f := .meth "Program" "body") rfl), okM2c F35 UP C22, b35⟩
  have C40 : Cal P w K mg base CX0 1 "_law_simple" ["_law_digits_here"] spSimple := ⟨_, _, ok40 F24 B, He.glo_ok X G (cd.fact 24 (f := .glo "_law_simple") rfl), D24.kp, b24⟩
  have C41 : Cal P w K mg base CX0 1 "_law_bad" ["_law_digits_here"] spBad := ⟨_, _, ok41 F25 B, He.glo_ok X G (cd.fact 25 (f := .glo "_law_bad") rfl), D25.kp, b25⟩
  have C42 : Cal P w K mg base CX0 1 "_law_bad_inner" ["_law_digits_here"] spInner := ⟨_, _, ok42 F26 B, He.glo_ok X G (cd.fact 26 (f := .glo "_law_bad_inner") rfl), D26.kp, b26⟩
  have C43 : Cal P w K mg base CX0 4 "_law_block" psBlk (spBlk 3) := ⟨_, _, ok43 F27 B (He.glo_ok X G (cd.fact 27 (f := .glo "_law_block") rfl)) b27 C40 3, He.glo_ok X G (cd.fact 27 (f := .glo "_law_block") rfl), D27.kp, b27⟩
  have C44 : Cal P w K mg base CX0 10 "_law_made" ["_law_body", "_law_inner"] (spMade2 (He.ga K "Program")) := ⟨_, _, ok44 F28 PR TC, He.glo_ok X G (cd.fact 28 (f := .glo "_law_made") rfl), D28.kp, b28⟩
  exact ok45 F29 B gP UP.cl IS C39 C41 C42 C43 C44 M MB
end K1
open PySem PySem.W PySem.Calls PyProof.Rows
set_option maxRecDepth 100000 in
set_option maxHeartbeats 0 in
theorem PySem.Challenge.cw_roundheap_k02_statements_refused_holds : PySem.Challenge.rw_roundheap_k02_statements_refused.Holds := by
  w_on; o_law
  refine HandSHeadRun.head_any (r := OpenLaw.row PySem.Challenge.rw_roundheap_k02_statements_refused) (q := view (OpenLaw.row PySem.Challenge.rw_roundheap_k02_statements_refused).prog [45]) (H := K1.hhk) (ob := K1.hob) (M := 4000) (loose := K1.hnm) (d := HandSHeadRun.topDef (OpenLaw.row PySem.Challenge.rw_roundheap_k02_statements_refused).prog 45) (kwd := []) K1.hob_eq
    (by kernel_rfl) (fun s => by kernel_rfl) K1.hrun (by kernel_rfl) (by kernel_rfl) (by kernel_rfl) (by rfl) (by first | assumption | decide +kernel) (by decide +kernel) ⟨rfl, rfl, rfl, rfl, rfl, by decide +kernel⟩ ?hw ?hc
  case hw => w_witness2
  case hc =>
    refine L2.walk_ofE (l := PySem.Challenge.rw_roundheap_k02_statements_refused) (n := 63) (k := 11) (x := "_law_script") (CX := L2.CX0) rfl (by decide) (by kernel_rfl) ⟨rfl, by decide, by decide⟩ ?F (fun _ _ _ _ z => z)
    intro w mg fa h Y G hmg0
    obtain ⟨K, KX, c⟩ := Y
    have hmg : mg ("law" : PySem.Str) = some (.ref fa) := by
      have e : (HandSHeadRun.topDef (OpenLaw.row PySem.Challenge.rw_roundheap_k02_statements_refused).prog 45).name = ("law" : PySem.Str) := by kernel_rfl
      rw [← e]
      exact hmg0
    obtain ⟨fd, hb, hF⟩ := K1.facts (P := (PySem.Challenge.rw_roundheap_k02_statements_refused).prog) (w := w) KX G hmg c
    exact ⟨K, fd, K1.spLaw K, KX, hb, fun H a ns hl _ hS => ⟨a, ns, rfl, hS, fun _ => rfl⟩, hF⟩
