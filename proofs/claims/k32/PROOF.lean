import PyProof.Rows.All
import PySem.Challenge.RW_roundheap_k32_words_told
import KE.KStateDown
import HandS.More
import HandS.Head0
import HandS.Head1
import HandS.Head2
import HandS.Head3
import HandS.HeadEnd
import HandS.HeadHook1
import HandS.HeadHook2
import HandS.HeadHook3
import HandS.HeadHook4
import Wide.All
import OpenK.AllK
import Wide.FinOn
import HandS.ForMost
import HandS.Exc
import HandS.ExcOwn
import HandS.ExcInit
import HandS.ExcField
import HandS.ExcIs
import HandS.TryOnly
import HandS.WordsExc
import HandS.IsInst
import HandS.CallSlots
import HandS.MakeKwOnly
import HandS.DictComp
import HandS.Flow
import HandS.OwnEq
import HandS.Style
import PyProof.InstEq
import KE.KExcInit
import HandS.Keys
import HandS.Zip
import HandS.Proxy
import HandS.TupAny
import PyProof.EqKinds
import HandS.NoneIn
namespace K1
open PySem
/-- the program's top, by places -/
def top (i : Nat) : Stmt := PySem.Challenge.pw_roundheap_k32_words_told.main.body.getD i (.Pass ⟨0, 0, 0, 0⟩)
end K1

set_option Elab.async false
set_option linter.all false
set_option maxRecDepth 100000
set_option maxHeartbeats 0
namespace K1
open PySem PySem.Spec PyProof.Rows L2
/-! ### the head by facts -/
def hfn0 : List He.DefD := [
  ⟨("leaf_row", none), "leaf_row", "leaf_row", defArgs (top 3), defBody (top 3), defScope (top 3), [], []⟩,
  ⟨("repeated", none), "repeated", "repeated", defArgs (top 4), defBody (top 4), defScope (top 4), [], []⟩,
  ⟨("parts_of", none), "parts_of", "parts_of", defArgs (top 5), defBody (top 5), defScope (top 5), [], []⟩,
  ⟨("begins_of", none), "begins_of", "begins_of", defArgs (top 6), defBody (top 6), defScope (top 6), [], []⟩,
  ⟨("joined", none), "joined", "joined", defArgs (top 7), defBody (top 7), defScope (top 7), [], []⟩,
  ⟨("part_index", none), "part_index", "part_index", defArgs (top 8), defBody (top 8), defScope (top 8), [], []⟩,
  ⟨("entry_at", none), "entry_at", "entry_at", defArgs (top 9), defBody (top 9), defScope (top 9), [], []⟩,
  ⟨("has_entry", none), "has_entry", "has_entry", defArgs (top 10), defBody (top 10), defScope (top 10), [], []⟩,
  ⟨("cut_row", none), "cut_row", "cut_row", defArgs (top 11), defBody (top 11), defScope (top 11), [], []⟩,
  ⟨("between_parts", none), "between_parts", "between_parts", defArgs (top 12), defBody (top 12), defScope (top 12), [], []⟩,
  ⟨("cut_rounds", none), "cut_rounds", "cut_rounds", defArgs (top 13), defBody (top 13), defScope (top 13), [], []⟩,
  ⟨("listed", none), "listed", "listed", defArgs (top 14), defBody (top 14), defScope (top 14), [], []⟩]
def hfn1 : List He.DefD := [
  ⟨("listed_rounds", none), "listed_rounds", "listed_rounds", defArgs (top 15), defBody (top 15), defScope (top 15), [], []⟩,
  ⟨("settled", none), "settled", "settled", defArgs (top 17), defBody (top 17), defScope (top 17), [], []⟩,
  ⟨("is_leaf", none), "is_leaf", "is_leaf", defArgs (top 26), defBody (top 26), defScope (top 26), [], []⟩,
  ⟨("listed_side", none), "listed_side", "listed_side", defArgs (top 27), defBody (top 27), defScope (top 27), [], []⟩,
  ⟨("same_entries", none), "same_entries", "same_entries", defArgs (top 28), defBody (top 28), defScope (top 28), [], []⟩,
  ⟨("agreed", none), "agreed", "agreed", defArgs (top 29), defBody (top 29), defScope (top 29), [], []⟩,
  ⟨("is_integer", none), "is_integer", "is_integer", defArgs (top 31), defBody (top 31), defScope (top 31), [], []⟩,
  ⟨("is_within", none), "is_within", "is_within", defArgs (top 32), defBody (top 32), defScope (top 32), [], []⟩,
  ⟨("is_count", none), "is_count", "is_count", defArgs (top 33), defBody (top 33), defScope (top 33), [], []⟩,
  ⟨("is_word", none), "is_word", "is_word", defArgs (top 34), defBody (top 34), defScope (top 34), [], []⟩,
  ⟨("is_name", none), "is_name", "is_name", defArgs (top 35), defBody (top 35), defScope (top 35), [], []⟩,
  ⟨("is_pair", none), "is_pair", "is_pair", defArgs (top 46), defBody (top 46), defScope (top 46), [], []⟩]
def hfn2 : List He.DefD := [
  ⟨("is_entry", none), "is_entry", "is_entry", defArgs (top 47), defBody (top 47), defScope (top 47), [], []⟩,
  ⟨("are_entries", none), "are_entries", "are_entries", defArgs (top 48), defBody (top 48), defScope (top 48), [], []⟩,
  ⟨("making_of", none), "making_of", "making_of", defArgs (top 49), defBody (top 49), defScope (top 49), [], []⟩,
  ⟨("check_index", none), "check_index", "check_index", defArgs (top 50), defBody (top 50), defScope (top 50), [], []⟩,
  ⟨("are_same", none), "are_same", "are_same", defArgs (top 52), defBody (top 52), defScope (top 52), [], []⟩,
  ⟨("_law_cell", none), "_law_cell", "_law_cell", defArgs (top 54), defBody (top 54), defScope (top 54), [], []⟩,
  ⟨("_law_digits", none), "_law_digits", "_law_digits", defArgs (top 55), defBody (top 55), defScope (top 55), [], []⟩,
  ⟨("_law_entry", none), "_law_entry", "_law_entry", defArgs (top 56), defBody (top 56), defScope (top 56), [], []⟩,
  ⟨("_law_row", none), "_law_row", "_law_row", defArgs (top 57), defBody (top 57), defScope (top 57), [], []⟩,
  ⟨("_law_built", none), "_law_built", "_law_built", defArgs (top 58), defBody (top 58), defScope (top 58), [], []⟩,
  ⟨("_law_parts_right", none), "_law_parts_right", "_law_parts_right", defArgs (top 59), defBody (top 59), defScope (top 59), [], []⟩,
  ⟨("law", none), "law", "law", defArgs (top 60), defBody (top 60), defScope (top 60), [], []⟩]
def hfn3 : List He.DefD := [
  ⟨("Row", some "__init__"), "__init__", "Row.__init__", defArgs (inClass (top 2) 0), defBody (inClass (top 2) 0), defScope (inClass (top 2) 0), [], []⟩,
  ⟨("Making", some "__init__"), "__init__", "Making.__init__", defArgs (inClass (top 45) 0), defBody (inClass (top 45) 0), defScope (inClass (top 45) 0), [], []⟩,
  ⟨("Word", some "__init__"), "__init__", "Word.__init__", defArgs (inClass (top 51) 0), defBody (inClass (top 51) 0), defScope (inClass (top 51) 0), [], []⟩,
  ⟨("Word", some "length"), "length", "Word.length", defArgs (inClass (top 51) 1), defBody (inClass (top 51) 1), defScope (inClass (top 51) 1), [], []⟩,
  ⟨("Word", some "cut"), "cut", "Word.cut", defArgs (inClass (top 51) 2), defBody (inClass (top 51) 2), defScope (inClass (top 51) 2), [], []⟩,
  ⟨("Word", some "entries"), "entries", "Word.entries", defArgs (inClass (top 51) 3), defBody (inClass (top 51) 3), defScope (inClass (top 51) 3), [], []⟩,
  ⟨("Word", some "__add__"), "__add__", "Word.__add__", defArgs (inClass (top 51) 4), defBody (inClass (top 51) 4), defScope (inClass (top 51) 4), [], []⟩,
  ⟨("Word", some "__mul__"), "__mul__", "Word.__mul__", defArgs (inClass (top 51) 5), defBody (inClass (top 51) 5), defScope (inClass (top 51) 5), [], []⟩,
  ⟨("Word", some "__getitem__"), "__getitem__", "Word.__getitem__", defArgs (inClass (top 51) 6), defBody (inClass (top 51) 6), defScope (inClass (top 51) 6), [], []⟩,
  ⟨("Word", some "__bool__"), "__bool__", "Word.__bool__", defArgs (inClass (top 51) 8), defBody (inClass (top 51) 8), defScope (inClass (top 51) 8), [], []⟩,
  ⟨("Word", some "__contains__"), "__contains__", "Word.__contains__", defArgs (inClass (top 51) 9), defBody (inClass (top 51) 9), defScope (inClass (top 51) 9), [], []⟩,
  ⟨("Word", some "__eq__"), "__eq__", "Word.__eq__", defArgs (inClass (top 51) 10), defBody (inClass (top 51) 10), defScope (inClass (top 51) 10), [], []⟩]
def hfn : List He.DefD := hfn0 ++ hfn1 ++ hfn2 ++ hfn3
def hfa0 : List He.Fa := [.glo "leaf_row", .glo "repeated", .glo "parts_of", .glo "begins_of", .glo "joined", .glo "part_index", .glo "entry_at", .glo "has_entry", .glo "cut_row", .glo "between_parts", .glo "cut_rounds", .glo "listed", .glo "listed_rounds", .glo "settled", .glo "is_leaf", .glo "listed_side", .glo "same_entries", .glo "agreed", .glo "is_integer", .glo "is_within", .glo "is_count", .glo "is_word", .glo "is_name", .glo "is_pair", .glo "is_entry", .glo "are_entries", .glo "making_of", .glo "check_index"]
def hfa1 : List He.Fa := [.glo "are_same", .glo "_law_cell", .glo "_law_digits", .glo "_law_entry", .glo "_law_row", .glo "_law_built", .glo "_law_parts_right", .glo "law", .glo "Row", .glo "Making", .glo "Word", .free "isinstance", .free "int", .free "bool", .free "str", .free "list", .free "tuple", .free "len", .free "all", .free "enumerate", .free "range", .free "max", .free "min", .free "sorted", .free "zip", .free "divmod", .int "DEEPEST" 6, .int "MOST_PIECES" 1000]
def hfa2 : List He.Fa := [.int "MOST_LISTED" 1000, .cls "Row", .mkr "Row", .noat "Row" "leaf", .noat "Row" "base", .noat "Row" "times", .noat "Row" "parts", .noat "Row" "begins", .noat "Row" "extent", .cls "Making", .mkr "Making", .noat "Making" "content", .noat "Making" "depth", .noat "Making" "pieces", .cls "Word", .mkr "Word", .noat "Word" "_row", .noat "Word" "_depth", .noat "Word" "_pieces", .meth "Word" "length", .meth "Word" "cut", .meth "Word" "entries", .meth "Word" "__add__", .meth "Word" "__mul__", .meth "Word" "__getitem__", .meth "Word" "__bool__", .meth "Word" "__contains__", .meth "Word" "__eq__"]
def hfa : List He.Fa := hfa0 ++ hfa1 ++ hfa2
def hts : List He.Tab := []
def exB (K : PySem.W.Frag) : Bool := decide (PySem.W.findIn K (.ref (He.ga K "Word")) "__ne__" = some (some (.builtin "object.__ne__"))) && (PySem.W.selfFirst K (He.ga K "Word") && (decide (PySem.W.findIn K (.ref (He.ga K "Word")) "__rmul__" = some none) && (decide (PySem.W.findIn K (.ref (He.ga K "Row")) "__eq__" = some (some (.builtin "object.__eq__"))) && (decide (PySem.W.mroIn K (He.ga K "Row") (.type "object") = some true) && (decide (PySem.W.specialIn K (.builtin "object.__class__") "__get__" = some (some (.builtin "getset_descriptor.__get__"))) && (decide (PySem.W.takesIn K (.builtin "object.__class__") = some true) && (decide (PySem.W.findIn K (.ref (He.ga K "Word")) "__class__" = some (some (.builtin "object.__class__"))) && (decide (PySem.W.mroIn K (He.ga K "Word") (.type "object") = some true) && (decide (PySem.W.kitOne K (.ref (He.ga K "Word")) (.ref (He.ga K "Word")) = some true) && (decide (PySem.W.kitOne K (.type "list") (.ref (He.ga K "Word")) = some false) && (decide (PySem.W.findIn K (.ref (He.ga K "Making")) "__class__" = some (some (.builtin "object.__class__"))) && (decide (PySem.W.mroIn K (He.ga K "Making") (.type "object") = some true) && (decide (PySem.W.kitOne K (.ref (He.ga K "Making")) (.ref (He.ga K "Making")) = some true) && (decide (PySem.W.kitOne K (.type "list") (.ref (He.ga K "Making")) = some false) && (PySem.W.fnIn K (He.fAd K ("Word", some "__add__")) && (PySem.W.fnIn K (He.fAd K ("Word", some "__mul__")) && (PySem.W.fnIn K (He.fAd K ("Word", some "__getitem__")) && (PySem.W.fnIn K (He.fAd K ("Word", some "__bool__")) && (PySem.W.fnIn K (He.fAd K ("Word", some "__contains__")))))))))))))))))))))
abbrev RwH : PySem.W.OpenRow := PySem.W.OpenLaw.row PySem.Challenge.rw_roundheap_k32_words_told
abbrev hhk : PySem.W.Hook := He.hookX 4 hfa hfn hts [] exB
def hob (s : PySem.W.SharedT) : He.AlX := He.obsX 4 hfa hfn hts [] exB (HandSHeadRun.getT s)
theorem hob_eq (s : PySem.W.SharedT) : hob s = hhk.obs s.abs := He.obsX_eq (HandSHeadRun.getT_eq s)
def hnm0 : List Str := ["gcd", "Row", "leaf_row", "repeated", "parts_of", "begins_of", "joined", "part_index", "entry_at", "has_entry", "cut_row", "between_parts", "cut_rounds", "listed", "listed_rounds"]
def hnm1 : List Str := ["settled", "rooted", "needed", "is_lower", "lesson", "splits_left", "first_piece", "advanced", "split_task", "is_leaf", "listed_side", "same_entries", "agreed", "is_integer", "is_within"]
def hnm2 : List Str := ["is_count", "is_word", "is_name", "RunError", "InvalidNumber", "InvalidArgument", "LimitExceeded", "DEEPEST", "MOST_PIECES", "MOST_LISTED", "Making", "is_pair", "is_entry", "are_entries", "making_of"]
def hnm3 : List Str := ["check_index", "Word", "are_same", "_law_cell", "_law_digits", "_law_entry", "_law_row", "_law_built", "_law_parts_right"]
def hnm : List Str := hnm0 ++ hnm1 ++ hnm2 ++ hnm3
noncomputable section
open HandSHeadRun
def runW (w : World) := wholeF (fun p => stepQ (denQ tabQ) p w) fenceQ 8000 RwH.prog
abbrev qW : Program := PySem.W.view RwH.prog [0, 60]
def HP3 (w : World) : Prop := (runW w).map (fun x => hob x.2) = some (hhk.val w)
theorem hrun3 (w : World) : HP3 w := PySem.W.byRow2 "special-get-raises" (P := HP3) (fun w => by unfold HP3; kernel_rfl) (fun w => by unfold HP3; kernel_rfl) w
def HP1 (w : World) : Prop := (runW w).map (fun x => looksF RwH.prog x.1.heap x.2.abs) = some (true)
theorem hrun1 (w : World) : HP1 w := PySem.W.byRow2 "special-get-raises" (P := HP1) (fun w => by unfold HP1; kernel_rfl) (fun w => by unfold HP1; kernel_rfl) w
def HP2 (w : World) : Prop := (runW w).map (fun x => seenQ qW hnm (importedModules RwH.prog.main.body) (fun s => PySem.W.xlAt qW [] s && PySem.W.recOk RwH.toRowW.records s) x.2.abs) = some (PySem.W.openGood qW hnm)
theorem hrun2 (w : World) : HP2 w := PySem.W.byRow2 "special-get-raises" (P := HP2) (fun w => by unfold HP2; kernel_rfl) (fun w => by unfold HP2; kernel_rfl) w
theorem three {α β γ δ : Type} {X : Option δ} {f : δ → α} {g : δ → β} {h : δ → γ} {a : α} {b : β} {c : γ} (h1 : X.map f = some a) (h2 : X.map g = some b) (h3 : X.map h = some c) : X.map (fun x => (f x, g x, h x)) = some (a, b, c) := by
  cases X with
  | none => cases h1
  | some x => cases h1; cases h2; cases h3; rfl
theorem hrun (w : World) : RunEqI RwH (PySem.W.view RwH.prog [0, 60]) hhk hob 8000 hnm w := three (hrun1 w) (hrun2 w) (hrun3 w)
end
end K1

set_option Elab.async false
set_option linter.all false
namespace W1
variable {α : Type}
/-! ### stretches of a list -/
def sl (xs : List α) (a b : Nat) : List α := (xs.drop a).take (b - a)
theorem sl_len {xs : List α} {a b : Nat} (h : b ≤ xs.length) : (sl xs a b).length = b - a := by
  unfold sl; rw [List.length_take, List.length_drop]; omega
theorem sl_self {xs : List α} {a : Nat} : sl xs a a = [] := by unfold sl; rw [Nat.sub_self, List.take_zero]
theorem sl_all {xs : List α} : sl xs 0 xs.length = xs := by unfold sl; rw [List.drop_zero, Nat.sub_zero, List.take_length]
theorem sl_get {xs : List α} {a b i : Nat} : (sl xs a b)[i]? = if i < b - a then xs[a + i]? else none := by
  unfold sl
  rw [List.getElem?_take]
  split
  · rw [List.getElem?_drop]
  · rfl
theorem sl_app {xs : List α} {a b c : Nat} (h1 : a ≤ b) (h2 : b ≤ c) (hb : b ≤ xs.length) : sl xs a b ++ sl xs b c = sl xs a c := by
  apply List.ext_getElem?
  intro i
  rw [List.getElem?_append, sl_len hb, sl_get, sl_get, sl_get]
  by_cases e : i < b - a
  · rw [if_pos e, if_pos e, if_pos (by omega)]
  · rw [if_neg e]
    rw [show b + (i - (b - a)) = a + i by omega]
    by_cases k : i < c - a
    · rw [if_pos k, if_pos (by omega)]
    · rw [if_neg k, if_neg (by omega)]
theorem sl_sl {xs : List α} {a b c d : Nat} (h : a + d ≤ b) : sl (sl xs a b) c d = sl xs (a + c) (a + d) := by
  apply List.ext_getElem?
  intro i
  rw [sl_get, sl_get, sl_get]
  by_cases k : i < d - c
  · rw [if_pos k, if_pos (by omega), if_pos (by omega), Nat.add_assoc]
  · rw [if_neg k, if_neg (by omega)]
theorem sl_left {xs ys : List α} {a b : Nat} (h : b ≤ xs.length) : sl (xs ++ ys) a b = sl xs a b := by
  apply List.ext_getElem?
  intro i
  rw [sl_get, sl_get]
  by_cases k : i < b - a
  · rw [if_pos k, if_pos k, List.getElem?_append_left (by omega)]
  · rw [if_neg k, if_neg k]
theorem sl_right {xs ys : List α} {a b : Nat} (h : xs.length ≤ a) : sl (xs ++ ys) a b = sl ys (a - xs.length) (b - xs.length) := by
  apply List.ext_getElem?
  intro i
  rw [sl_get, sl_get]
  by_cases k : i < b - a
  · rw [if_pos k, if_pos (by omega), List.getElem?_append_right (by omega), show a + i - xs.length = a - xs.length + i by omega]
  · rw [if_neg k, if_neg (by omega)]
/-! ### a list so many times -/
def rpt (n : Nat) (xs : List α) : List α := (List.replicate n xs).flatten
theorem rpt_zero {xs : List α} : rpt 0 xs = [] := rfl
theorem rpt_succ {n : Nat} {xs : List α} : rpt (n + 1) xs = xs ++ rpt n xs := by
  unfold rpt; rw [List.replicate_succ, List.flatten_cons]
theorem rpt_one {xs : List α} : rpt 1 xs = xs := by rw [rpt_succ, rpt_zero, List.append_nil]
theorem rpt_nil {n : Nat} : rpt n ([] : List α) = [] := by
  induction n with
  | zero => rfl
  | succ n ih => rw [rpt_succ, ih]; rfl
theorem rpt_len {n : Nat} {xs : List α} : (rpt n xs).length = n * xs.length := by
  induction n with
  | zero => rw [rpt_zero, Nat.zero_mul]; rfl
  | succ n ih => rw [rpt_succ, List.length_append, ih, Nat.succ_mul, Nat.add_comm]
theorem rpt_add {n m : Nat} {xs : List α} : rpt (n + m) xs = rpt n xs ++ rpt m xs := by
  induction n with
  | zero => rw [Nat.zero_add, rpt_zero, List.nil_append]
  | succ n ih => rw [Nat.succ_add, rpt_succ, ih, rpt_succ, List.append_assoc]
theorem rpt_rpt {n m : Nat} {xs : List α} : rpt n (rpt m xs) = rpt (n * m) xs := by
  induction n with
  | zero => rw [Nat.zero_mul]; rfl
  | succ n ih => rw [rpt_succ, ih, Nat.succ_mul, Nat.add_comm, rpt_add]
theorem rpt_get {n : Nat} {xs : List α} {i : Nat} (h : i < n * xs.length) : (rpt n xs)[i]? = xs[i % xs.length]? := by
  induction n generalizing i with
  | zero => rw [Nat.zero_mul] at h; omega
  | succ n ih =>
    rw [rpt_succ]
    by_cases c : i < xs.length
    · rw [List.getElem?_append_left c, Nat.mod_eq_of_lt c]
    · rw [List.getElem?_append_right (by omega), ih (by rw [Nat.succ_mul] at h; omega)]
      rw [← Nat.mod_eq_sub_mod (by omega)]
theorem rpt_app_left {n m : Nat} {xs : List α} {a b : Nat} (h : b ≤ n * xs.length) (le : n ≤ m) : sl (rpt m xs) a b = sl (rpt n xs) a b := by
  obtain ⟨k, rfl⟩ := Nat.exists_eq_add_of_le le
  rw [rpt_add, sl_left (by rw [rpt_len]; exact h)]
/-- a stretch that begins in round k -/
theorem rpt_from {n k : Nat} {xs : List α} {a b : Nat} (hk : k ≤ n) (h : k * xs.length ≤ a) : sl (rpt n xs) a b = sl (rpt (n - k) xs) (a - k * xs.length) (b - k * xs.length) := by
  obtain ⟨m, rfl⟩ := Nat.exists_eq_add_of_le hk
  rw [rpt_add, sl_right (by rw [rpt_len]; exact h), rpt_len, Nat.add_sub_cancel_left]
/-- within one round -/
theorem rpt_in {n k : Nat} {xs : List α} {a b : Nat} (hk : k < n) (h : k * xs.length ≤ a) (h2 : b ≤ k * xs.length + xs.length) : sl (rpt n xs) a b = sl xs (a - k * xs.length) (b - k * xs.length) := by
  rw [rpt_from (Nat.le_of_lt hk) h]
  obtain ⟨m, e⟩ := Nat.exists_eq_add_of_le (show 1 ≤ n - k by omega)
  rw [e, rpt_add, rpt_one, sl_left (by omega)]
/-- whole rounds -/
theorem rpt_whole {n k m : Nat} {xs : List α} (h : k + m ≤ n) : sl (rpt n xs) (k * xs.length) ((k + m) * xs.length) = rpt m xs := by
  rw [rpt_from (by omega) (Nat.le_refl _), Nat.sub_self, show (k + m) * xs.length - k * xs.length = m * xs.length by rw [Nat.add_mul]; omega]
  obtain ⟨j, e⟩ := Nat.exists_eq_add_of_le (show m ≤ n - k by omega)
  rw [e, rpt_add, sl_left (by rw [rpt_len]; exact Nat.le_refl _), ← rpt_len, sl_all]
/-! ### rows -/
inductive Rw (α : Type) where
  | leaf (es : List α) | rep (b : Rw α) (n : Nat) | cat (ps : List (Rw α))
mutual
def den : Rw α → List α
  | .leaf es => es
  | .rep b n => rpt n (den b)
  | .cat ps => dens ps
def dens : List (Rw α) → List α
  | [] => []
  | p :: ps => den p ++ dens ps
end
def ext (r : Rw α) : Nat := (den r).length
def exts (ps : List (Rw α)) : Nat := (dens ps).length
def isCat : Rw α → Bool | .cat _ => true | _ => false
def isRep : Rw α → Bool | .rep _ _ => true | _ => false
def isLf : Rw α → Bool | .leaf _ => true | _ => false
mutual
def good : Rw α → Prop
  | .leaf _ => True
  | .rep b n => 2 ≤ n ∧ 1 ≤ ext b ∧ isRep b = false ∧ good b
  | .cat ps => 2 ≤ ps.length ∧ goods ps
def goods : List (Rw α) → Prop
  | [] => True
  | p :: ps => 1 ≤ ext p ∧ isCat p = false ∧ good p ∧ goods ps
end
mutual
def dep : Rw α → Nat
  | .leaf _ => 0
  | .rep b _ => dep b + 1
  | .cat ps => deps ps + 1
def deps : List (Rw α) → Nat
  | [] => 0
  | p :: ps => max (dep p) (deps ps)
end
/-- how deep the parts are -/
def pd : Rw α → Nat
  | .cat ps => deps ps
  | r => dep r
theorem dep_pd (r : Rw α) : dep r ≤ pd r + 1 := by cases r <;> simp [dep, pd]
theorem pd_dep (r : Rw α) : pd r ≤ dep r := by cases r <;> simp [dep, pd]
theorem pd_not {r : Rw α} (h : isCat r = false) : pd r = dep r := by cases r <;> simp_all [isCat, dep, pd]
theorem dens_app : ∀ (ps qs : List (Rw α)), dens (ps ++ qs) = dens ps ++ dens qs
  | [], qs => rfl
  | p :: ps, qs => by rw [List.cons_append, dens, dens, dens_app ps qs, List.append_assoc]
theorem exts_cons {p : Rw α} {ps : List (Rw α)} : exts (p :: ps) = ext p + exts ps := by
  unfold exts ext; rw [dens, List.length_append]
theorem exts_app {ps qs : List (Rw α)} : exts (ps ++ qs) = exts ps + exts qs := by
  unfold exts; rw [dens_app, List.length_append]
theorem goods_app : ∀ {ps qs : List (Rw α)}, goods (ps ++ qs) ↔ goods ps ∧ goods qs
  | [], qs => by rw [List.nil_append]; unfold goods; simp
  | p :: ps, qs => by
    rw [List.cons_append, goods, goods, goods_app]
    constructor
    · rintro ⟨a, b, c, d, e⟩; exact ⟨⟨a, b, c, d⟩, e⟩
    · rintro ⟨⟨a, b, c, d⟩, e⟩; exact ⟨a, b, c, d, e⟩
theorem deps_app : ∀ {ps qs : List (Rw α)}, deps (ps ++ qs) = max (deps ps) (deps qs)
  | [], qs => by rw [List.nil_append, deps, Nat.zero_max]
  | p :: ps, qs => by rw [List.cons_append, deps, deps, deps_app, Nat.max_assoc]
theorem goods_mem : ∀ {ps : List (Rw α)} {p : Rw α}, goods ps → p ∈ ps → 1 ≤ ext p ∧ isCat p = false ∧ good p
  | [], p, _, m => by cases m
  | q :: ps, p, g, m => by
    rw [goods] at g
    obtain ⟨a, b, c, d⟩ := g
    rcases List.mem_cons.mp m with rfl | m
    · exact ⟨a, b, c⟩
    · exact goods_mem d m
theorem deps_mem : ∀ {ps : List (Rw α)} {p : Rw α}, p ∈ ps → dep p ≤ deps ps
  | [], p, m => by cases m
  | q :: ps, p, m => by
    rw [deps]
    rcases List.mem_cons.mp m with rfl | m
    · exact Nat.le_max_left _ _
    · exact Nat.le_trans (deps_mem m) (Nat.le_max_right _ _)
theorem deps_le : ∀ {ps : List (Rw α)} {n : Nat}, (∀ p ∈ ps, dep p ≤ n) → deps ps ≤ n
  | [], n, _ => Nat.zero_le _
  | p :: ps, n, h => by
    rw [deps]
    exact Nat.max_le.mpr ⟨h p (List.mem_cons_self ..), deps_le fun q m => h q (List.mem_cons_of_mem _ m)⟩
theorem goods_len : ∀ {ps : List (Rw α)}, goods ps → ps.length ≤ exts ps
  | [], _ => Nat.zero_le _
  | p :: ps, g => by
    rw [goods] at g
    have := goods_len g.2.2.2
    rw [exts_cons, List.length_cons]
    omega
def partsOf : Rw α → List (Rw α)
  | .cat ps => ps
  | r => [r]
theorem den_parts (r : Rw α) : dens (partsOf r) = den r := by
  cases r <;> simp [partsOf, dens, den]
theorem pd_parts (r : Rw α) : deps (partsOf r) = pd r := by
  cases r <;> simp [partsOf, deps, pd]
theorem parts_pos {r : Rw α} (g : good r) : 1 ≤ (partsOf r).length := by
  cases r with
  | cat ps => rw [good] at g; show 1 ≤ ps.length; omega
  | _ => exact Nat.le_refl _
theorem goods_parts {r : Rw α} (g : good r) (h : 1 ≤ ext r) : goods (partsOf r) := by
  cases r with
  | cat ps => rw [good] at g; exact g.2
  | leaf es => show goods [_]; rw [goods]; exact ⟨h, rfl, g, by rw [goods]; trivial⟩
  | rep b n => show goods [_]; rw [goods]; exact ⟨h, rfl, g, by rw [goods]; trivial⟩
/-! ### what the makers make -/
def joinR (a b : Rw α) : Rw α := if ext a = 0 then b else if ext b = 0 then a else .cat (partsOf a ++ partsOf b)
theorem ext_nil {r : Rw α} (h : ext r = 0) : den r = [] := List.length_eq_zero_iff.mp h
theorem joinR_den {a b : Rw α} : den (joinR a b) = den a ++ den b := by
  unfold joinR
  split
  · rename_i h; rw [ext_nil h, List.nil_append]
  · split
    · rename_i h; rw [ext_nil h, List.append_nil]
    · rw [den, dens_app, den_parts, den_parts]
theorem joinR_good {a b : Rw α} (ga : good a) (gb : good b) : good (joinR a b) := by
  unfold joinR
  split
  · exact gb
  · split
    · exact ga
    · rw [good]
      have := parts_pos ga
      have := parts_pos gb
      exact ⟨by rw [List.length_append]; omega, goods_app.mpr ⟨goods_parts ga (by omega), goods_parts gb (by omega)⟩⟩
theorem joinR_pd {a b : Rw α} : pd (joinR a b) ≤ max (pd a) (pd b) := by
  unfold joinR
  split
  · exact Nat.le_max_right _ _
  · split
    · exact Nat.le_max_left _ _
    · show deps _ ≤ _
      rw [deps_app, pd_parts, pd_parts]
      exact Nat.le_refl _
def repR (r : Rw α) (n : Nat) : Rw α := if n = 0 ∨ ext r = 0 then .leaf [] else if n = 1 then r else match r with
  | .rep b m => .rep b (m * n)
  | r => .rep r n
theorem repR_den {r : Rw α} {n : Nat} : den (repR r n) = rpt n (den r) := by
  unfold repR
  split
  · rename_i h
    rcases h with rfl | h
    · rfl
    · rw [ext_nil h, rpt_nil]; rfl
  · split
    · rename_i h; rw [h, rpt_one]
    · split
      · rw [den, den, rpt_rpt, Nat.mul_comm]
      · rw [den]
theorem repR_good {r : Rw α} {n : Nat} (g : good r) : good (repR r n) := by
  unfold repR
  split
  · trivial
  · rename_i h
    split
    · exact g
    · split
      · rename_i b m
        rw [good] at g ⊢
        refine ⟨?_, g.2⟩
        have h1 := g.1
        calc 2 ≤ m := h1
          _ = m * 1 := (Nat.mul_one m).symm
          _ ≤ m * n := Nat.mul_le_mul_left m (by omega)
      · rename_i q
        rw [good]
        refine ⟨by omega, by omega, ?_, g⟩
        cases r with
        | rep b m => exact (q b m rfl).elim
        | _ => rfl
theorem repR_dep {r : Rw α} {n : Nat} : dep (repR r n) ≤ dep r + 1 := by
  unfold repR
  split
  · exact Nat.zero_le _
  · split
    · omega
    · split
      · rw [dep, dep]; omega
      · rw [dep]; exact Nat.le_refl _
theorem repR_not {r : Rw α} {n : Nat} (h : isCat r = false) : pd (repR r n) ≤ dep r + 1 := Nat.le_trans (pd_dep _) repR_dep
/-! ### where parts begin -/
def begs : Nat → List (Rw α) → List Nat
  | _, [] => []
  | s, p :: ps => s :: begs (s + ext p) ps
theorem begs_len : ∀ (s : Nat) (ps : List (Rw α)), (begs s ps).length = ps.length
  | _, [] => rfl
  | s, p :: ps => by rw [begs, List.length_cons, begs_len, List.length_cons]
theorem begs_get : ∀ (s : Nat) (ps : List (Rw α)) (i : Nat), i < ps.length → (begs s ps)[i]? = some (s + exts (ps.take i))
  | _, [], i, h => by simp at h
  | s, p :: ps, 0, h => by rw [begs]; rfl
  | s, p :: ps, i + 1, h => by
    rw [begs, List.getElem?_cons_succ, begs_get _ ps i (by simpa using h), List.take_succ_cons, exts_cons, Nat.add_assoc]
theorem begs_app : ∀ (s : Nat) (ps qs : List (Rw α)), begs s (ps ++ qs) = begs s ps ++ begs (s + exts ps) qs
  | s, [], qs => rfl
  | s, p :: ps, qs => by rw [List.cons_append, begs, begs, begs_app, List.cons_append, exts_cons, Nat.add_assoc]
theorem begs_shift : ∀ (s t : Nat) (ps : List (Rw α)), begs (s + t) ps = (begs t ps).map (s + ·)
  | s, t, [] => rfl
  | s, t, p :: ps => by rw [begs, begs, List.map_cons, Nat.add_assoc, begs_shift]
/-- the parts up to the place i and the one there -/
theorem take_at : ∀ {ps : List (Rw α)} {i : Nat} {p : Rw α}, ps[i]? = some p → ps = ps.take i ++ p :: ps.drop (i + 1)
  | [], i, p, h => by simp at h
  | q :: ps, 0, p, h => by simp at h; subst h; rfl
  | q :: ps, i + 1, p, h => by
    rw [List.take_succ_cons, List.drop_succ_cons, List.cons_append, ← take_at (by simpa using h)]
theorem exts_at {ps : List (Rw α)} {i : Nat} {p : Rw α} (h : ps[i]? = some p) : exts (ps.take (i + 1)) = exts (ps.take i) + ext p := by
  rw [List.take_add_one, h, exts_app]
  show _ + exts [p] = _
  rw [exts_cons]
  rfl
theorem exts_mono {ps : List (Rw α)} {i j : Nat} (h : i ≤ j) : exts (ps.take i) ≤ exts (ps.take j) := by
  obtain ⟨k, rfl⟩ := Nat.exists_eq_add_of_le h
  rw [List.take_add, exts_app]
  omega
/-- a stretch within one part -/
theorem cat_in {ps : List (Rw α)} {i : Nat} {p : Rw α} {a b : Nat} (h : ps[i]? = some p) (h1 : exts (ps.take i) ≤ a) (h2 : b ≤ exts (ps.take i) + ext p) : sl (dens ps) a b = sl (den p) (a - exts (ps.take i)) (b - exts (ps.take i)) := by
  have e := congrArg (fun z => sl (dens z) a b) (take_at h)
  rw [e, dens_app, dens, sl_right (by exact h1), sl_left (by show b - exts (ps.take i) ≤ ext p; omega)]
  rfl
/-- whole parts -/
theorem cat_whole {ps : List (Rw α)} {i j : Nat} (h : i ≤ j) (hj : j ≤ ps.length) : sl (dens ps) (exts (ps.take i)) (exts (ps.take j)) = dens ((ps.take j).drop i) := by
  have e1 : ps = ps.take j ++ ps.drop j := (List.take_append_drop j ps).symm
  have e2 : ps.take j = ps.take i ++ (ps.take j).drop i := by
    have := (List.take_append_drop i (ps.take j)).symm
    rw [List.take_take, Nat.min_eq_left h] at this
    exact this
  have e := congrArg (fun z => sl (dens z) (exts (ps.take i)) (exts (ps.take j))) e1
  rw [e, dens_app, sl_left (by exact Nat.le_refl _)]
  have e3 := congrArg (fun z => sl (dens z) (exts (ps.take i)) (exts (ps.take j))) e2
  rw [e3, dens_app, sl_right (by exact Nat.le_refl _)]
  show sl _ (exts (ps.take i) - exts (ps.take i)) (exts (ps.take j) - exts (ps.take i)) = _
  rw [Nat.sub_self]
  have e4 : exts (ps.take j) - exts (ps.take i) = (dens ((ps.take j).drop i)).length := by
    have := congrArg exts e2
    rw [exts_app] at this
    show _ = exts _
    omega
  rw [e4, sl_all]
end W1

set_option Elab.async false
set_option linter.all false
set_option maxRecDepth 100000
set_option maxHeartbeats 8000000
namespace L2
open PySem PySem.Spec PyProof.Rows
/-! ### own == and != with whatever answer -/
section
variable {M : Model} {prog : Program} {w : World} {A : Around} {E : Value → Shared → Prop} {s : Shared} {K : PySem.W.Frag} {x C f : Addr} {ox : Obj} {od : Option Obj} {b tb : Value}
theorem ifBound_objNe {args : List Value} {Q : Option Value → Shared → Prop} (X : K.In s.heap) (I : PySem.W.InstAt s.heap x ox C od) (hs : PySem.W.findIn K (.ref C) "__ne__" = some (some (.builtin "object.__ne__")))
    (h : wpAny M A (call (.builtin "object.__ne__") (.ref x :: args)) (fun v => Q (some v)) E s) : wpAny M A (callSpecialIfBound? (.ref x) "__ne__" args) Q E s := by
  simp only [callSpecialIfBound?, bindSpecialIfBound?]
  refine wpAny_holding (wpAny_bind (wpAny_bind (wpAny_bind (I.type.here ((PySem.W.looks_findIn X hs).here ?_)))))
  refine wpAny_bind (wpAny_askSetting (wpAny_ite ?_))
  have fin : wpAny M A (call (.builtin "object.__ne__") ([.ref x] ++ args) >>= fun v => pure (some v)) Q E s := wpAny_bind (wpAny_mono h (fun v s' h' => wpAny_pure h') fun _ _ h' => h')
  split
  · exact wpAny_bind (wpAny_of_eq (F.cmp_object.ne.bind _) (wpAny_pure (by exact fin)))
  · exact wpAny_tryCatch (wpAny_bind (wpAny_of_eq (F.cmp_object.ne.bind _) (wpAny_pure (by exact fin))))
/-- object.__ne__ by the own __eq__ -/
theorem objNe_entry {Q : Fin → Shared → Prop} (hu : A.units < cLine) (X : K.In s.heap) (I : PySem.W.InstAt s.heap x ox C od) (hs : PySem.W.findIn K (.ref C) "__eq__" = some (some (.ref f))) (hf : PySem.W.isFn K (.ref f) = true)
    (h : wpAny M A (call (.ref f) [.ref x, b]) (fun v s' => ∃ r, v = .bool r ∧ Q (.done (.ret (.bool (!r)))) s') E s) : wpAny M A (Builtin.«object.__ne__» ⟨[.ref x, b], []⟩) Q E s := by
  unfold Builtin.«object.__ne__»
  repeat (first
    | with_reducible refine wpAny_cRoomFor hu ?_
    | (refine wpAny_bind (m := callSpecialIfBound? (.ref x) (Str.ofString "__eq__") [b])
        (PySem.W.ifBound_K X I hs hf (wpAny_mono h (fun v s' hv => by
          obtain ⟨r, rfl, hq⟩ := hv
          repeat (first | exact hq | exact wpAny_pure hq | exact wpAny_truthy_bool hq | (refine wpAny_bind (m := truthy (.bool _)) (wpAny_truthy_bool ?_)) | wp_step)) fun _ _ e => e)))
    | wp_step)
theorem ne_K {Q : Value → Shared → Prop} (hu : A.units + 1 < cLine) (X : K.In s.heap) (I : PySem.W.InstAt s.heap x ox C od) (hb : PySem.W.Looks (model prog w) s.heap (typeOf b) tb) (hn : PySem.W.notFirst K C tb = true)
    (hne : PySem.W.findIn K (.ref C) "__ne__" = some (some (.builtin "object.__ne__"))) (hm : PySem.W.mroIn K C (.type "object") = some true)
    (hs : PySem.W.findIn K (.ref C) "__eq__" = some (some (.ref f))) (hf : PySem.W.isFn K (.ref f) = true)
    (h : wpAny (model prog w) A.in1 (call (.ref f) [.ref x, b]) (fun v s' => ∃ r, v = .bool r ∧ Q (.bool (!r)) s') E s) : wpAny (model prog w) A (richCompare .NotEq (.ref x) b) Q E s := by
  have one : wpAny (model prog w) A (tryCompare (.ref x) (cmpInfo .NotEq).2.1 b) (fun r s' => ∃ v, r = some v ∧ Q v s') E s := by
    unfold tryCompare
    refine wpAny_bind (ifBound_objNe X I hne (wpAny_call (codeAny_call_builtin F.cmp_object.ne.plain F.cmpEntry_ne (PySem.W.check_slot F.cmpKind_ne F.cmpSplit_ne (I.type.andThen (PySem.W.looks_mroIn X hm)) (F.cmpArgs_ne _ _) (objNe_entry (A := A.in1) (by show A.units + 1 < cLine; exact hu) X I hs hf (wpAny_mono h (fun v s' hv => ?_) fun _ _ e => e))))))
    obtain ⟨r, rfl, hq⟩ := hv
    exact ⟨r, rfl, wpAny_pure ⟨_, rfl, hq⟩⟩
  unfold richCompare
  simp only [oneThing_ref]
  refine wpAny_holding (wpAny_bind (wpAny_cRoomFor (by omega) ?_))
  refine wpAny_bind (I.type.here (wpAny_bind (hb.here ?_)))
  split
  · rename_i q
    have e : PySem.W.subIn K tb (.ref C) = some false := by
      rcases Bool.or_eq_true_iff.mp hn with e | e
      · rw [beq_iff_eq.mp e] at q; simp at q
      · exact beq_iff_eq.mp e
    refine wpAny_bind ((PySem.W.looks_subIn X e).here ?_)
    simp only [Bool.false_eq_true, if_false]
    refine wpAny_bind (wpAny_mono one (fun r s' z => ?_) fun _ _ e => e)
    obtain ⟨v, rfl, hq⟩ := z
    exact wpAny_pure hq
  · refine wpAny_bind (wpAny_pure ?_)
    simp only [Bool.false_eq_true, if_false]
    refine wpAny_bind (wpAny_mono one (fun r s' z => ?_) fun _ _ e => e)
    obtain ⟨v, rfl, hq⟩ := z
    exact wpAny_pure hq
end
/-- what may stand on the right: an instance of the class, a dict, a list -/
inductive RightV (C : Addr) (H : Hp) : V → Prop
  | ins {q dx : Addr} {fs : List (Str × V)} (e : H q = some (.ins C dx fs)) : RightV C H (.ref q)
  | dic {q : Addr} {kvs : List (Key × V)} (e : H q = some (.dK kvs)) : RightV C H (.ref q)
  | lst {q : Addr} {xs : List V} (e : H q = some (.lst xs)) : RightV C H (.ref q)
theorem sub_dict {K : PySem.W.Frag} {C : Addr} : PySem.W.subIn K (.type "dict") (.ref C) = some false := by
  have e : fastBuiltinMro "dict" = some [.type "dict", .type "object"] := by decide +kernel
  show (fastBuiltinMro "dict").map (·.contains (.ref C)) = some false
  rw [e]
  first
    | rfl
    | simp
theorem sub_list {K : PySem.W.Frag} {C : Addr} : PySem.W.subIn K (.type "list") (.ref C) = some false := by
  have e : fastBuiltinMro "list" = some [.type "list", .type "object"] := by decide +kernel
  show (fastBuiltinMro "list").map (·.contains (.ref C)) = some false
  rw [e]
  first
    | rfl
    | simp
section
variable {X : Cx} {pins : List (Addr × Obj)} {σ : St} {H : Hp} {s : Shared}
theorem right_is {C : Addr} {y : V} {u : Value} (I : Inv X pins σ H s) (r : RightV C H y) (ry : RelV y u) : ∃ tb, PySem.W.Looks (model X.prog X.w) s.heap (typeOf u) tb ∧ PySem.W.notFirst X.K C tb = true := by
  cases r with
  | ins e =>
    cases ry
    obtain ⟨m, J, _⟩ := ins_get I.hok e
    obtain ⟨od, J, _⟩ := J.look
    exact ⟨_, J.type, by simp [PySem.W.notFirst]⟩
  | dic e =>
    obtain rfl : u = Value.ref _ := ry
    obtain ⟨_, _, va, _, od, es, ep, ho, ⟨e1, e2, e3⟩, e4, _⟩ := (show ObjOk X.prog X.w H s.heap _ (.dK _) from I.hok _ _ e)
    refine ⟨.type "dict", fun A Q E s' k q => wpAny_typeOf_ref (k _ _ ho) (by rw [e1]; exact q), ?_⟩
    unfold PySem.W.notFirst
    rw [sub_dict]
    simp
  | lst e =>
    obtain rfl : u = Value.ref _ := ry
    obtain ⟨_, its, n, _, hl'⟩ := (show ObjOk X.prog X.w H s.heap _ (.lst _) from I.hok _ _ e)
    refine ⟨.type "list", fun A Q E s' k q => wpAny_typeOf_ref (k _ _ hl') q, ?_⟩
    unfold PySem.W.notFirst
    rw [sub_list]
    simp
/-- the own == as its callers know it -/
structure OwnE (P : Program) (w : World) (K : PySem.W.Frag) (mg : Str → Option Value) (base : Heap) (CX : CXT) (k : Nat) (C : Addr) (ps : List Str) (sp : Sp) : Prop where
  ex : ∃ (f : Addr) (fd : FuncData), FnOk P w K mg base CX k f fd ps sp ∧ PySem.W.findIn K (.ref C) "__eq__" = some (some (.ref f)) ∧ PySem.W.isFn K (.ref f) = true ∧ Binds K fd ps []
  ne : PySem.W.findIn K (.ref C) "__ne__" = some (some (.builtin "object.__ne__"))
  mro : PySem.W.mroIn K C (.type "object") = some true
def rOwnE (C : Addr) (sp : Sp) (E : XK) (neg : Bool) : R2 := fun x y H Q => ∃ p dx fs, x = .ref p ∧ H p = some (.ins C dx fs) ∧ RightV C H y ∧ sp [x, y] H (fun v H' => ∃ r : Bool, v = .bl r ∧ Q (.bl (neg != r)) H') E
theorem own_call {CX : CXT} {k : Nat} {f p : Addr} {fd : FuncData} {ps : List Str} {sp : Sp} {E : XK} {y : V} {u : Value} {Q : VK} {A : Around} (F : FnOk X.prog X.w X.K X.mg X.base CX k f fd ps sp) (hb : Binds X.K fd ps []) (hx : Passes CX X E) (sb : Sub X k A) (I : Inv X pins σ H s) (ry : RelV y u)
    (h : sp [.ref p, y] H Q E) : wpAny (model X.prog X.w) A (call (.ref f) [.ref p, u]) (fun v s' => ∃ z H', Inv X pins σ H' s' ∧ RelV z v ∧ Q z H') X.xe s := by
  have e0 : Env0 X.prog X.w X.K X.mg X.base A X.stack s H := by
    have e := I.env0
    exact ⟨by rw [sb.fr]; exact e.frames, e.mod, e.bs, e.bsz, e.funs, e.frf, e.hok, e.bare⟩
  have hl := F.len _ _ _ _ h
  have r2 : Vals [V.ref p, y] [Value.ref p, u] := .cons rfl (.cons ry .nil)
  refine wpAny_call (codeAny_mono (F.run A X.stack s H ⟨[.ref p, u], []⟩ [.ref p, u] [.ref p, y] _ E sb.room e0 (by
    have := hb s [.ref p, u] I.kIn (by simpa using hl)
    simpa using this) r2 h) fun r s' hq => ?_)
  cases r with
  | error e => exact hx pins σ H s e s' I hq
  | ok fl =>
    cases fl with
    | ret w =>
      obtain ⟨z, H', I', rz, q⟩ := I.after hq
      exact ⟨z, H', I', rz, q⟩
    | next => exact False.elim hq
    | brk => exact False.elim hq
    | cont => exact False.elim hq
theorem op_eqOwn {CX : CXT} {k : Nat} {C : Addr} {ps : List Str} {sp : Sp} {E : XK} (O : OwnE X.prog X.w X.K X.mg X.base CX k C ps sp) (hr : Room k X.A) (hx : Passes CX X E) : OpR X (compareOp .Eq) (rOwnE C sp E false) := by
  intro pins s σ H x y v u Q I rx ry h
  obtain ⟨p, dx, fs, rfl, hp, rt, h⟩ := h
  obtain ⟨f, fd, F, hs, hf, hb⟩ := O.ex
  obtain rfl : v = Value.ref p := rx
  obtain ⟨m, J, _⟩ := ins_get I.hok hp
  obtain ⟨od, J, _⟩ := J.look
  obtain ⟨tb, l, n⟩ := right_is I rt ry
  obtain ⟨m, hF⟩ := I.fr
  show wpAny (model X.prog X.w) X.A (richCompare .Eq (.ref p) u) (EP X pins σ Q) X.xe s
  refine PySem.W.cmp_K (op := .Eq) hr.units0 hF I.ok.mod.kin J l n hs hf (wpAny_mono (own_call F hb hx ⟨hr, rfl⟩ I ry h) (fun v s' q => ?_) fun _ _ e => e)
  obtain ⟨z, H', I', rz, r, rfl, q⟩ := q
  cases rz
  exact ⟨.bl r, H', I', rfl, by rw [Bool.false_bne] at q; exact q⟩
theorem op_neOwn {CX : CXT} {k : Nat} {C : Addr} {ps : List Str} {sp : Sp} {E : XK} (O : OwnE X.prog X.w X.K X.mg X.base CX k C ps sp) (hr : Room (k + 1) X.A) (hx : Passes CX X E) : OpR X (compareOp .NotEq) (rOwnE C sp E true) := by
  intro pins s σ H x y v u Q I rx ry h
  obtain ⟨p, dx, fs, rfl, hp, rt, h⟩ := h
  obtain ⟨f, fd, F, hs, hf, hb⟩ := O.ex
  obtain rfl : v = Value.ref p := rx
  obtain ⟨m, J, _⟩ := ins_get I.hok hp
  obtain ⟨od, J, _⟩ := J.look
  obtain ⟨tb, l, n⟩ := right_is I rt ry
  have hu := hu_of hr
  show wpAny (model X.prog X.w) X.A (richCompare .NotEq (.ref p) u) (EP X pins σ Q) X.xe s
  refine ne_K (by omega) I.kIn J l n O.ne O.mro hs hf (wpAny_mono (own_call F hb hx ⟨hr.in1, rfl⟩ I ry h) (fun v s' q => ?_) fun _ _ e => e)
  obtain ⟨z, H', I', rz, r, rfl, q⟩ := q
  cases rz
  exact ⟨r, rfl, .bl (!r), H', I', rfl, by rw [Bool.true_bne] at q; exact q⟩
/-- None in a list of tuples -/
def rNonT (K : PySem.W.Frag) : R2 := fun x y H Q => ∃ p xs, x = .non ∧ y = .ref p ∧ SqL K H p xs ∧ (∀ z ∈ xs, ∃ t ys, z = .ref t ∧ SqT K H t ys) ∧ Q (.bl false) H
theorem op_nonInT (hu : X.A.units + 64 < cLine) : OpR X (compareOp .In) (rNonT X.K) := by
  intro pins s σ H x y v u Q I rx ry h
  obtain ⟨p, xs, rfl, rfl, hq, f, q⟩ := h
  cases rx
  cases ry
  obtain ⟨its, rv, hl, _⟩ := I.list hq
  have hu1 : X.A.in1.units < cLine := by show X.A.units + 1 < cLine; omega
  refine SeqAt.in_listAt (fun _ => false) hl.isList (fun z hz => ?_) ⟨.bl _, H, I, rfl, ?_⟩
  · obtain ⟨i, hi, rfl⟩ := List.getElem_of_mem (show z ∈ its by simpa using hz)
    have k1 : i < xs.length := by rw [rv.length]; exact hi
    obtain ⟨t, ys, e, ht⟩ := f _ (List.getElem_mem k1)
    obtain ⟨u', hu', ru⟩ := rv.get (List.getElem?_eq_getElem k1)
    rw [List.getElem?_eq_getElem hi] at hu'
    rw [Option.some.inj hu']
    rw [e] at ru
    cases ru
    obtain ⟨_, _, h2, _⟩ := I.tuple ht
    exact SeqAt.EqAt.tuple_none h2 hu1
  · rw [show its.toArray.any (fun _ => false) = false by simp]
    exact q
end

/-! ### other operators of one's own -/
/-- a method as the operators of its class know it -/
structure OwnM (P : Program) (w : World) (K : PySem.W.Frag) (mg : Str → Option Value) (base : Heap) (CX : CXT) (k : Nat) (C : Addr) (m : Str) (ps : List Str) (sp : Sp) : Prop where
  ex : ∃ (f : Addr) (fd : FuncData), FnOk P w K mg base CX k f fd ps sp ∧ PySem.W.findIn K (.ref C) m = some (some (.ref f)) ∧ PySem.W.isFn K (.ref f) = true ∧ PySem.W.fnIn K f = true ∧ Binds K fd ps []
def rOwn (C : Addr) (sp : Sp) (E : XK) : R2 := fun x y H Q => ∃ p dx fs, x = .ref p ∧ H p = some (.ins C dx fs) ∧ sp [x, y] H Q E
/-- x + y of one class -/
def rOwn2 (C : Addr) (sp : Sp) (E : XK) : R2 := fun x y H Q => ∃ p dx fs q dx' fs', x = .ref p ∧ H p = some (.ins C dx fs) ∧ y = .ref q ∧ H q = some (.ins C dx' fs') ∧ sp [x, y] H Q E
section
variable {X : Cx} {CX : CXT} {k : Nat} {C : Addr} {ps : List Str} {sp : Sp} {E : XK}
theorem back_ok {pins : List (Addr × Obj)} {σ : St} {H' : Hp} {s' : Shared} {z : V} {v : Value} {Q : VK} (I' : Inv X pins σ H' s') (rz : RelV z v) (q : Q z H') : PySem.W.CmpBack (EP X pins σ Q) v s' := by
  have e : EP X pins σ Q v s' := ⟨z, H', I', rz, q⟩
  cases z with
  | non => cases rz; exact e
  | bl b => cases rz; exact e
  | int i => obtain ⟨t, rfl⟩ := rz; exact e
  | str i => obtain ⟨t, rfl⟩ := rz; exact e
  | byt i => obtain ⟨t, rfl⟩ := rz; exact e
  | flt i => obtain ⟨t, rfl⟩ := rz; exact e
  | ref a => cases rz; exact e
  | ty n => cases rz; exact e
theorem op_addOwn (O : OwnM X.prog X.w X.K X.mg X.base CX k C "__add__" ps sp) (hc : PySem.W.selfFirst X.K C = true) (hr : Room k X.A) (hx : Passes CX X E) : OpR X (binaryOp .Add) (rOwn2 C sp E) := by
  intro pins s σ H x y v u Q I rx ry h
  obtain ⟨p, dx, fs, q, dx', fs', rfl, hp, rfl, hq, h⟩ := h
  obtain ⟨f, fd, F, hs, hf, _, hb⟩ := O.ex
  obtain rfl : v = Value.ref p := rx
  have ru : RelV (.ref q) u := ry
  obtain rfl : u = Value.ref q := ry
  obtain ⟨m, J, _⟩ := ins_get I.hok hp
  obtain ⟨od, J, _⟩ := J.look
  obtain ⟨m', J', _⟩ := ins_get I.hok hq
  obtain ⟨od', J', _⟩ := J'.look
  obtain ⟨m, hF⟩ := I.fr
  refine PySem.W.binop_K (op := .Add) hF I.ok.mod.kin J J'.type hc hs hf (wpAny_mono (own_call F hb hx ⟨hr, rfl⟩ I ru h) (fun v s' z => ?_) fun _ _ e => e)
  obtain ⟨z, H', I', rz, q⟩ := z
  exact back_ok I' rz q
/-- item by an own __getitem__ -/
theorem pe_ixOwn {a b : Expr} {ta tb : TE} {pos : Pos} (O : OwnM X.prog X.w X.K X.mg X.base CX k C "__getitem__" ps sp) (hr : Room (k + 1) X.A) (hx : Passes CX X E) (ha : PE X a ta) (hb' : PE X b tb)
    (hsl : ∀ o i, subscripted b true o i = runValue (.builtin "lifetime.subscript" ⟨[o, i], []⟩) := by intro _ _; with_unfolding_all rfl) : PE X (.Subscript a b pos) (tOp (rOwn C sp E) ta tb) := by
  refine ⟨fun pins s σ H Q I h => ?_⟩
  refine Subscript_ (binT ha hb' I h fun v u s2 x y H2 I2 rx ry q => ?_)
  obtain ⟨p, dx, fs, rfl, hp, h2⟩ := q
  obtain ⟨f, fd, F, hs, hf, hfn, hb⟩ := O.ex
  obtain rfl : v = Value.ref p := rx
  obtain ⟨m, J, _⟩ := ins_get I2.hok hp
  obtain ⟨od, J, _⟩ := J.look
  obtain ⟨m, hF⟩ := I2.fr
  exact PySem.W.sub_K hF I2.ok.mod.kin J hs hfn hf (own_call F hb hx ⟨hr.in1, rfl⟩ I2 ry h2) (hsl _ _)
/-- x in an object with an own __contains__ that answers with a bool -/
def rOwnIn (C : Addr) (sp : Sp) (E : XK) : R2 := fun x y H Q => ∃ p dx fs, y = .ref p ∧ H p = some (.ins C dx fs) ∧ sp [y, x] H (fun v H' => ∃ b : Bool, v = .bl b ∧ Q (.bl b) H') E
theorem own_callX {f p : Addr} {fd : FuncData} {pins : List (Addr × Obj)} {σ : St} {H : Hp} {s : Shared} {y : V} {u : Value} {Q : VK} (F : FnOk X.prog X.w X.K X.mg X.base CX k f fd ps sp) (hb : Binds X.K fd ps []) (hx : Passes CX X E) (hr : Room k X.A) (I : Inv X pins σ H s) (ry : RelV y u)
    (h : sp [.ref p, y] H Q E) : wpAny (model X.prog X.w) X.A (call (.ref f) [.ref p, u]) (EP X pins σ Q) X.xe s := wpAny_mono (own_call F hb hx ⟨hr, rfl⟩ I ry h) (fun v s' q => q) fun _ _ e => e
theorem op_inOwn (O : OwnM X.prog X.w X.K X.mg X.base CX k C "__contains__" ps sp) (hr : Room k X.A) (hx : Passes CX X E) : OpR X (compareOp .In) (rOwnIn C sp E) := by
  intro pins s σ H x y v u Q I rx ry h
  obtain ⟨p, dx, fs, rfl, hp, h⟩ := h
  obtain ⟨f, fd, F, hs, hf, _, hb⟩ := O.ex
  obtain rfl : u = Value.ref p := ry
  obtain ⟨m, J, _⟩ := ins_get I.hok hp
  obtain ⟨od, J, _⟩ := J.look
  obtain ⟨m, hF⟩ := I.fr
  refine PySem.W.in_K hF I.ok.mod.kin J hs hf (wpAny_mono (own_call F hb hx ⟨hr, rfl⟩ I rx h) (fun v s' z => ?_) fun _ _ e => e)
  obtain ⟨z, H', I', rz, b, rfl, q⟩ := z
  cases rz
  exact wpAny_truthy_bool ⟨.bl b, H', I', rfl, q⟩
end
end L2

set_option Elab.async false
set_option linter.all false
set_option maxRecDepth 100000
set_option maxHeartbeats 4000000
namespace L2
open PySem PySem.Spec PyProof.Rows
/-! ### dicts whose keys are tuples of texts and None -/
abbrev OKey := Option Str
def okIs : OKey → Value → Bool
  | none, v => v == .none
  | some x, v => Value.isStrOf x v
def okH (w : World) : OKey → Int
  | none => 0xFCA86420
  | some x => hashStr w x
def okV : OKey → V
  | none => .non
  | some x => .str x
theorem okIs_shape : ∀ {k : OKey} {v : Value}, okIs k v = true → (k = none ∧ v = .none) ∨ ∃ x t, k = some x ∧ v = .str x t
  | none, v, h => .inl ⟨rfl, by
    cases v <;> first | rfl | exact (nomatch (show False by simp [okIs] at h))⟩
  | some x, v, h => by
    obtain ⟨t, e⟩ := Value.isStrOf_shape (x := x) (v := v) h
    exact .inr ⟨x, t, rfl, e⟩
theorem hash_none {prog : Program} {w : World} {A : Around} {E : Value → Shared → Prop} {s : Shared} {Q : Int → Shared → Prop} (h : Q 0xFCA86420 { s with toks := s.toks + 1 }) : wpAny (model prog w) A (pyHash .none) Q E s := by
  obtain ⟨hp, g, d, tk, os⟩ := s
  have hT : Shared.TypeIs ⟨hp, g, d, tk, os⟩ .none "NoneType" := rfl
  show wpAny _ _ (pyHashByItsType .none) _ _ _
  unfold pyHashByItsType
  have hv : [Value.none].any Value.onHeap = false := rfl
  refine wpAny_bind ?_
  rw [cRoomFor, if_neg (by rw [hv]; exact Bool.false_ne_true)]; refine wpAny_pure ?_
  refine wpAny_bind (wpAny_specialOf hT F.slot_NoneType_hash.lookup ?_)
  show wpAny _ _ (if (some (Value.builtin "NoneType.__hash__") == some Value.none) = true then _ else _) Q E _
  rw [if_neg (by rw [beq_builtin_none]; exact Bool.false_ne_true)]
  refine wpAny_bind (wpAny_specialOf hT F.slot_NoneType_hash.lookup ?_)
  refine wpAny_bind (wpAny_callSpecialIfBoundUnlessNone?_slot hT F.slot_NoneType_hash
    (wpAny_call_entry F.slot_NoneType_hash hT F.entry_NoneType_hash
      (show wpAny _ _ (do ret (← mkInt 0xFCA86420)) _ _ _ from wpAny_ret_mkInt ?_) (F.args_NoneType_hash_1 _)))
  show wpAny _ _ (if (decide (-(2 : Int) ^ 63 ≤ 0xFCA86420) && decide ((0xFCA86420 : Int) < 2 ^ 63)) = true then _ else _) Q E _
  rw [if_pos (by decide)]
  exact wpAny_pure h
def optKind (prog : Program) (w : World) : PySem.KeyKind prog w OKey where
  is := okIs
  hash := okH w
  inj := fun v a b ha hb => by
    rcases okIs_shape ha with ⟨rfl, rfl⟩ | ⟨x, t, rfl, rfl⟩
    · rcases okIs_shape hb with ⟨rfl, e⟩ | ⟨y, u, rfl, e⟩
      · rfl
      · exact nomatch e
    · rcases okIs_shape hb with ⟨rfl, e⟩ | ⟨y, u, rfl, e⟩
      · exact nomatch e
      · injection e with e1 _; rw [e1]
  byValue := fun k v h => by
    rcases okIs_shape h with ⟨rfl, rfl⟩ | ⟨x, t, rfl, rfl⟩ <;> rfl
  pyHash := fun hv h => by
    rcases okIs_shape hv with ⟨rfl, rfl⟩ | ⟨x, t, rfl, rfl⟩
    · exact hash_none h
    · exact wpAny_pyHash_str h
  eqBool := fun hu hv h => by
    rcases okIs_shape hu with ⟨rfl, rfl⟩ | ⟨x, t, rfl, rfl⟩
    · rcases okIs_shape hv with ⟨rfl, rfl⟩ | ⟨y, u, rfl, rfl⟩
      · exact SeqAt.EqAt.same .none _ _ _ _ h
      · exact SeqAt.EqAt.none_str y u _ _ _ _ h
    · rcases okIs_shape hv with ⟨rfl, rfl⟩ | ⟨y, u, rfl, rfl⟩
      · exact SeqAt.EqAt.str_none x t _ _ _ _ h
      · rw [show decide ((some x : OKey) = some y) = decide (x = y) from decide_eq_decide.mpr ⟨Option.some.inj, fun e => by rw [e]⟩] at h
        exact wpAny_eqBool_str h
  «strs» := fun k x t v h => by
    rcases okIs_shape h with ⟨rfl, e⟩ | ⟨y, u, rfl, e⟩
    · exact nomatch e
    · injection e with e1 _
      subst e1
      cases v <;> rfl

def oDic (P : Program) (w : World) (a : Addr) (xs : List (List OKey × Addr × Value)) : HO := .ext fun h => (a == sysModules) = false ∧ ∃ o es ep, h.get? a = some o ∧ o.ExactDict ∧ o.data = .dict es ep ∧ es.toList = xs.map (entryOfKey (tupleKind (optKind P w))) ∧ (xs.map (·.1)).Nodup
/-- a dict with such keys: which they are -/
structure OD (P : Program) (w : World) (H : Hp) (a : Addr) (ks : List (List OKey)) : Prop where
  ex : ∃ xs, H a = some (oDic P w a xs) ∧ xs.map (·.1) = ks ∧ xs.length ≤ sizeLine ∧ ∀ x ∈ xs, H x.2.1 = some (.tup (x.1.map okV))
theorem okV_is {P : Program} {w : World} {k : OKey} {u : Value} (r : RelV (okV k) u) : (optKind P w).is k u = true := by
  cases k with
  | none => obtain rfl : u = Value.none := r; rfl
  | some x => obtain ⟨t, e⟩ := (show ∃ t, u = Value.str x t from r); subst e; show Value.isStrOf x (.str x t) = true; simp [Value.isStrOf]
theorem o_items {P : Program} {w : World} : ∀ {ks : List OKey} {us : List Value}, Vals (ks.map okV) us → ItemsAre (optKind P w) ks us
  | [], _, r => by rw [List.map_nil] at r; cases r; exact .nil
  | k :: ks, _, r => by
    rw [List.map_cons] at r
    cases r with
    | cons h t => exact .cons (okV_is h) (o_items t)
theorem o_key {P : Program} {w : World} {H : Hp} {h : Heap} {a : Addr} {ks : List OKey} (ok : HOk P w H h) (e : H a = some (.tup (ks.map okV))) : (tupleKind (optKind P w)).is h ks a := by
  obtain ⟨_, its, r, o, h1, h2, n, h3⟩ := (show ObjOk P w H h a (.tup (ks.map okV)) from ok a _ e)
  exact ⟨o, its.toArray, n, h1, h2, h3, by simpa using o_items r⟩
theorem o_dic {P : Program} {w : World} {H : Hp} {h : Heap} {a : Addr} {xs : List (List OKey × Addr × Value)} (ok : HOk P w H h) (e : H a = some (oDic P w a xs)) (hk : ∀ x ∈ xs, H x.2.1 = some (.tup (x.1.map okV))) : (a == sysModules) = false ∧ h.DictOfH (tupleKind (optKind P w)) a xs := by
  obtain ⟨⟨hd, o, es, ep, h1, h2, h3, h4, h5⟩, _⟩ := (show ObjOk P w H h a (oDic P w a xs) from ok a _ e)
  exact ⟨hd, o, es, ep, h1, h2, h3, h4, fun x hx => o_key ok (hk x hx), h5⟩
theorem o_stay {P : Program} {w : World} {a : Addr} {xs : List (List OKey × Addr × Value)} {H : Hp} {h : Heap} (hd : (a == sysModules) = false) (d : h.DictOfH (tupleKind (optKind P w)) a xs) : ObjOk P w H h a (oDic P w a xs) := by
  obtain ⟨o, es, ep, h1, h2, h3, h4, _, h5⟩ := d
  refine ⟨⟨hd, o, es, ep, h1, h2, h3, h4, h5⟩, ⟨o, h1⟩, ?_⟩
  rintro g1 g2 ⟨hd, o, es, ep, h1, h2, h3, h4, h5⟩ k
  exact ⟨hd, o, es, ep, k _ h1, h2, h3, h4, h5⟩
theorem atKey_mem {κ : Type} [DecidableEq κ] {xs : List (κ × Addr × Value)} {k : κ} : (atKey xs k).isSome = true ↔ k ∈ xs.map (·.1) := by
  unfold atKey
  rw [Option.isSome_map]
  induction xs with
  | nil => simp
  | cons x xs ih =>
    rw [List.find?_cons]
    by_cases c : x.1 = k
    · rw [decide_eq_true c]
      simp [c]
    · rw [decide_eq_false c]
      dsimp only
      rw [ih, List.map_cons, List.mem_cons]
      exact ⟨.inr, fun z => z.resolve_left fun e => c e.symm⟩
section
variable {X : Cx} {pos pos' : Pos} {i o value : Expr} {ty td tv : TE}
theorem pe_dnewO : PE X (.Dict [] [] pos) (fun _ H Q => ∀ p, H p = none → Q (.ref p) (upd H p (oDic X.prog X.w p []))) := ⟨fun pins s σ H Q I h =>
  wpAny_Dict_empty ⟨.ref s.heap.objs.size, _, I.laid (a := s.heap.objs.size) (o := oDic X.prog X.w s.heap.objs.size []) (t' := s.toks) (fun _ _ q => Heap.get?_push_of_some _ q) (Nat.le_refl _) (o_stay (by
    have := I.big
    rw [beq_eq_false_iff_ne]
    exact fun e => by rw [e] at this; exact absurd this (Nat.lt_irrefl _)) (Heap.DictOfH.new s.heap)), rfl, h _ (I.hok.fresh (Nat.le_refl _))⟩⟩
theorem od_new {P : Program} {w : World} {H : Hp} {p : Addr} (h : H p = some (oDic P w p [])) : OD P w H p [] := ⟨[], h, rfl, Nat.zero_le _, fun x hx => nomatch hx⟩
theorem OD.mono {P : Program} {w : World} {H H' : Hp} {a : Addr} {ks : List (List OKey)} (d : OD P w H a ks) (s : Same H H') : OD P w H' a ks := by
  obtain ⟨xs, e, k, l, h⟩ := d.ex
  exact ⟨xs, s _ _ e, k, l, fun x hx => s _ _ (h x hx)⟩
def tONotIn (P : Program) (w : World) (ty td : TE) : TE := fun σ H Q => ty σ H fun y H1 => td σ H1 fun x H2 => ∃ (a b : Addr) (ks : List (List OKey)) (k : List OKey), x = .ref a ∧ y = .ref b ∧ OD P w H2 a ks ∧ H2 b = some (.tup (k.map okV)) ∧ ∀ c : Bool, (c = true ↔ k ∈ ks) → Q (.bl (!c)) H2
theorem pc_onotin (hu : X.A.units + 1 < cLine) (hi : PE X i ty) (ho : PE X o td) : PC X .NotIn i o (tONotIn X.prog X.w ty td) := by
  refine ⟨fun pins s σ H Q I h => ?_⟩
  refine thn (hi.run pins s σ H _ I h) fun iv s1 ⟨y, H1, I1, ry, q1⟩ => thn (ho.run pins s1 σ H1 _ I1 q1) fun u s2 ⟨x, H2, I2, rx, a, b, ks, k, ex, ey, d, eb, q2⟩ => ?_
  subst ex ey
  obtain rfl : u = Value.ref a := rx
  obtain rfl : iv = Value.ref b := ry
  obtain ⟨xs, e, rfl, l, hk⟩ := d.ex
  obtain ⟨hd, dd⟩ := o_dic I2.hok e hk
  refine wpAny_notIn_heap (tupleKind_room_in1 hu) (o_key I2.hok eb) hd dd ?_
  exact ⟨.bl _, H2, I2.tok _, rfl, q2 _ (atKey_mem (xs := xs) (k := k))⟩
/-- d[y] = v, y not in d -/
def sOPut (P : Program) (w : World) (td ty tv : TE) : TS := fun D σ H => tv σ H fun v H1 => td σ H1 fun x H2 => ty σ H2 fun y H3 => ∃ (a b : Addr) (ks : List (List OKey)) (k : List OKey), x = .ref a ∧ y = .ref b ∧ OD P w H3 a ks ∧ ks.length < sizeLine ∧ k ∉ ks ∧ H3 b = some (.tup (k.map okV)) ∧
  ∀ o, OD P w (upd H3 a o) a (ks ++ [k]) → D.nx σ (upd H3 a o)
theorem ps_oput (hu : X.A.units + 1 < cLine) (ho : PE X o td) (hi : PE X i ty) (hv : PE X value tv) (hs : swapsWith value (some (.Subscript o i pos')) pos.line X.env = pure false) :
    PS X (.Assign [.Subscript o i pos'] value pos) (sOPut X.prog X.w td ty tv) := by
  refine ⟨fun pins s σ H D I h => ?_⟩
  refine wpAny_Assign_Subscript (thn (hv.run pins s σ H _ I h) fun r s1 ⟨v, H1, I1, rv, q1⟩ => thn (ho.run pins s1 σ H1 _ I1 q1) fun u s2 ⟨x, H2, I2, rx, q2⟩ => thn (hi.run pins s2 σ H2 _ I2 q2) fun iv s3 ⟨y, H3, I3, ry, a, b, ks, k, ex, ey, d, few, nk, eb, q3⟩ => ?_) hs
  subst ex ey
  obtain rfl : u = Value.ref a := rx
  obtain rfl : iv = Value.ref b := ry
  obtain ⟨xs, e, rfl, l, hk⟩ := d.ex
  obtain ⟨hd, dd⟩ := o_dic I3.hok e hk
  refine wpAny_setItem_heap (hsz := l) (tupleKind_room_in1 hu) (o_key I3.hok eb) dd fun h' dd' hs => ?_
  have hn : atKey xs k = none := by
    have z := atKey_mem (xs := xs) (k := k)
    cases q : atKey xs k with
    | none => rfl
    | some p =>
      rw [q] at z
      exact (nk (z.mp rfl)).elim
  rw [storedH_new hn] at dd'
  have he : ∃ q, h'.get? a = some q := let ⟨q, _, _, hq, _⟩ := dd'; ⟨q, hq⟩
  have ob := o_stay (H := upd H3 a (oDic X.prog X.w a (xs ++ [(k, b, r)]))) hd dd'
  refine ⟨σ, _, d_write I3 (by rw [e]; exact True.intro) hs he ob, q3 _ ⟨xs ++ [(k, b, r)], upd_same, by rw [List.map_append]; rfl, ?_, fun x hx => ?_⟩⟩
  · rw [List.length_append]
    rw [List.length_map] at few
    exact few
  · rw [upd_ne]
    · rcases List.mem_append.mp hx with m | m
      · exact hk x m
      · rw [List.mem_singleton] at m
        subst m
        exact eb
    · rcases List.mem_append.mp hx with m | m
      · exact ne_of (hk x m) e (fun z => nomatch z)
      · rw [List.mem_singleton] at m
        subst m
        exact ne_of eb e (fun z => nomatch z)
end
end L2

set_option Elab.async false
set_option linter.all false
set_option maxRecDepth 100000
set_option maxHeartbeats 4000000
namespace L2
open PySem PySem.Spec PyProof.Rows
/-! ### == of two instances whose class says nothing of it; of tuples with such -/
section
variable {M : Model} {A : Around} {E : Value → Shared → Prop} {s : Shared} {K : PySem.W.Frag} {x y C : Addr} {ox oy : Obj} {od od' : Option Obj}
theorem ifBound_objEq {args : List Value} {Q : Option Value → Shared → Prop} (X : K.In s.heap) (I : PySem.W.InstAt s.heap x ox C od) (hs : PySem.W.findIn K (.ref C) "__eq__" = some (some (.builtin "object.__eq__")))
    (h : wpAny M A (call (.builtin "object.__eq__") (.ref x :: args)) (fun v => Q (some v)) E s) : wpAny M A (callSpecialIfBound? (.ref x) "__eq__" args) Q E s := by
  simp only [callSpecialIfBound?, bindSpecialIfBound?]
  refine wpAny_holding (wpAny_bind (wpAny_bind (wpAny_bind (I.type.here ((PySem.W.looks_findIn X hs).here ?_)))))
  refine wpAny_bind (wpAny_askSetting (wpAny_ite ?_))
  have fin : wpAny M A (call (.builtin "object.__eq__") ([.ref x] ++ args) >>= fun v => pure (some v)) Q E s := wpAny_bind (wpAny_mono h (fun v s' h' => wpAny_pure h') fun _ _ h' => h')
  split
  · exact wpAny_bind (wpAny_of_eq (F.cmp_object.eq.bind _) (wpAny_pure (by exact fin)))
  · exact wpAny_tryCatch (wpAny_bind (wpAny_of_eq (F.cmp_object.eq.bind _) (wpAny_pure (by exact fin))))
end
section
variable {prog : Program} {w : World} {A : Around} {E : Value → Shared → Prop} {s : Shared} {K : PySem.W.Frag} {x y C : Addr} {ox oy : Obj} {od od' : Option Obj}
theorem try_objEq {Q : Option Value → Shared → Prop} (X : K.In s.heap) (I : PySem.W.InstAt s.heap x ox C od) (J : PySem.W.InstAt s.heap y oy C od') (hxy : x ≠ y) (hs : PySem.W.findIn K (.ref C) "__eq__" = some (some (.builtin "object.__eq__"))) (hm : PySem.W.mroIn K C (.type "object") = some true)
    (q : Q none s) : wpAny (model prog w) A (tryCompare (.ref x) "__eq__" (.ref y)) Q E s := by
  unfold tryCompare
  refine wpAny_bind (ifBound_objEq X I hs (wpAny_call (codeAny_call_builtin F.cmp_object.eq.plain F.cmpEntry_eq (PySem.W.check_slot F.cmpKind_eq F.cmpSplit_eq (I.type.andThen (PySem.W.looks_mroIn X hm)) (F.cmpArgs_eq _ _) (objEq_entry_other hxy I.at_ J.at_ (by rw [I.cls]; exact fun e => nomatch e) ?_)))))
  exact wpAny_pure q
theorem rc_inst (X : K.In s.heap) (I : PySem.W.InstAt s.heap x ox C od) (J : PySem.W.InstAt s.heap y oy C od') (hxy : x ≠ y) (hs : PySem.W.findIn K (.ref C) "__eq__" = some (some (.builtin "object.__eq__"))) (hm : PySem.W.mroIn K C (.type "object") = some true)
    (hu : A.units < cLine) : SeqAt.RcAt A s (.ref x) (.ref y) false := fun prog w E Q q => by
  unfold richCompare
  simp only [oneThing_ref]
  refine wpAny_holding (wpAny_bind (wpAny_cRoomFor (by omega) ?_))
  refine wpAny_bind (I.type.here (wpAny_bind (J.type.here ?_)))
  simp only [bne_self_eq_false, Bool.false_eq_true, if_false]
  refine wpAny_bind (wpAny_pure ?_)
  simp only [Bool.false_eq_true, if_false]
  refine wpAny_bind (try_objEq X I J hxy hs hm ?_)
  dsimp only
  refine wpAny_bind (try_objEq X J I (fun e => hxy e.symm) hs hm ?_)
  dsimp only
  refine wpAny_bind (wpAny_rule ?_)
  exact wpAny_bind (wpAny_isSame_ref_other hxy I.at_ J.at_ (by rw [I.cls]; exact fun e => nomatch e) (wpAny_pure q))
end
/-- what the written part says of a class whose objects are equal to themselves alone -/
structure IdEq (K : PySem.W.Frag) (C : Addr) : Prop where
  eq : PySem.W.findIn K (.ref C) "__eq__" = some (some (.builtin "object.__eq__"))
  mro : PySem.W.mroIn K C (.type "object") = some true
def rEqSide (C : Addr) : R2 := fun x y H Q => ∃ (t u p q dp dq : Addr) (fp fq : List (Str × V)) (i j : Int) (b c : Bool), x = .ref t ∧ y = .ref u ∧ H t = some (.tup [.ref p, .int i, .bl b]) ∧ H u = some (.tup [.ref q, .int j, .bl c]) ∧ H p = some (.ins C dp fp) ∧ H q = some (.ins C dq fq) ∧
  Q (.bl (decide (p = q) && (decide (i = j) && decide (b = c)))) H
theorem op_eqSide {X : Cx} {C : Addr} (Y : IdEq X.K C) (hu : X.A.units + 1 < cLine) : OpR X (compareOp .Eq) (rEqSide C) := by
  intro pins s σ H x y v u Q I rx ry h
  obtain ⟨t, u', p, q, dp, dq, fp, fq, i, j, b, c, rfl, rfl, ht, hu', hp, hq, k⟩ := h
  obtain rfl : v = Value.ref t := rx
  obtain rfl : u = Value.ref u' := ry
  obtain ⟨its, r1, h1, _⟩ := I.tuple (SqT.of ht)
  obtain ⟨its2, r2, h2, _⟩ := I.tuple (SqT.of hu')
  obtain ⟨m, J, _⟩ := ins_get I.hok hp
  obtain ⟨od, J, _⟩ := J.look
  obtain ⟨m', J', _⟩ := ins_get I.hok hq
  obtain ⟨od', J', _⟩ := J'.look
  cases r1 with
  | cons a1 r1 => cases r1 with
    | cons a2 r1 => cases r1 with
      | cons a3 r1 => cases r1 with
        | nil => cases r2 with
          | cons b1 r2 => cases r2 with
            | cons b2 r2 => cases r2 with
              | cons b3 r2 => cases r2 with
                | nil =>
                  rename_i v1 v2 v3 w1 w2 w3
                  obtain rfl : v1 = Value.ref p := a1
                  obtain ⟨ti, rfl⟩ : ∃ t, v2 = Value.int i t := a2
                  obtain rfl : v3 = Value.bool b := a3
                  obtain rfl : w1 = Value.ref q := b1
                  obtain ⟨tj, rfl⟩ : ∃ t, w2 = Value.int j t := b2
                  obtain rfl : w3 = Value.bool c := b3
                  have hu1 : X.A.in1.units < cLine := by show X.A.units + 1 < cLine; exact hu
                  refine SeqAt.eq_tupleAt (e := fun n => match n with | 0 => decide (p = q) | 1 => decide (i = j) | _ => decide (b = c)) h1 h2 (by omega) (fun n n1 n2 => ?_) ?_
                  · match n, n1, n2 with
                    | 0, _, _ =>
                      show SeqAt.EqAt _ _ (.ref p) (.ref q) (decide (p = q))
                      by_cases e : p = q
                      · subst e
                        rw [decide_eq_true rfl]
                        exact SeqAt.EqAt.same _
                      · rw [decide_eq_false e]
                        exact SeqAt.EqAt.of_refs e (rc_inst I.kIn J J' e Y.eq Y.mro hu1)
                    | 1, _, _ =>
                      show SeqAt.EqAt _ _ (.int i ti) (.int j tj) (decide (i = j))
                      intro prog w E Q hq
                      refine wpAny_eqBool_int ?_
                      rw [show (i == j) = decide (i = j) from rfl]
                      exact hq
                    | 2, _, _ =>
                      show SeqAt.EqAt _ _ (.bool b) (.bool c) (decide (b = c))
                      by_cases e : b = c
                      · subst e
                        rw [decide_eq_true rfl]
                        exact SeqAt.EqAt.same _
                      · rw [decide_eq_false e]
                        have := SeqAt.EqAt.bool_bool (A := X.A.in1) (s := s) b c
                        rw [show (b == c) = false from by simpa using e] at this
                        exact this
                  · refine ⟨.bl _, H, I, rfl, ?_⟩
                    have e : ((List.range (min (#[Value.ref p, .int i ti, .bool b] : Array Value).size (#[Value.ref q, .int j tj, .bool c] : Array Value).size)).all (fun n => match n with | 0 => decide (p = q) | 1 => decide (i = j) | _ => decide (b = c)) && (#[Value.ref p, .int i ti, .bool b] : Array Value).size == (#[Value.ref q, .int j tj, .bool c] : Array Value).size) = (decide (p = q) && (decide (i = j) && decide (b = c))) := by
                      show (([0, 1, 2] : List Nat).all _ && true) = _
                      simp [List.all_cons]
                    first
                      | (rw [e]; exact k)
                      | (have k2 := k; rw [← e] at k2; exact k2)
end L2

set_option Elab.async false
set_option linter.all false
set_option maxRecDepth 100000
set_option maxHeartbeats 4000000
namespace L2
open PySem PySem.Spec PyProof.Rows
/-! ### x * n by an own __mul__, n an int -/
theorem sub_int {K : PySem.W.Frag} {C : Addr} : PySem.W.subIn K (.type "int") (.ref C) = some false := by
  have e : fastBuiltinMro "int" = some [.type "int", .type "object"] := by decide +kernel
  show (fastBuiltinMro "int").map (·.contains (.ref C)) = some false
  rw [e]
  first
    | rfl
    | simp
theorem fills_int {M : Model} {h : Heap} {K : PySem.W.Frag} (X : K.In h) : PySem.W.Looks M h (fillsNumberSlot (.type "int") "mul") true := by
  have e1 : PySem.W.findIn K (.type "int") (PySem.dunder "mul") = some (some (.builtin "int.__mul__")) := by
    show fastLookup "int" _ = _
    decide +kernel
  have e2 : PySem.W.findIn K (.type "int") (PySem.dunderR "mul") = some (some (.builtin "int.__rmul__")) := by
    show fastLookup "int" _ = _
    decide +kernel
  intro A Q E s k q
  unfold fillsNumberSlot
  refine wpAny_bind (PySem.W.looks_findIn X e1 A _ E s k ?_)
  refine wpAny_bind (PySem.W.looks_findIn X e2 A _ E s k ?_)
  refine wpAny_pure ?_
  have : ((some (Value.builtin "int.__mul__")).isSome && !isSeqSlot (some (.builtin "int.__mul__")) || (some (Value.builtin "int.__rmul__")).isSome && !isSeqSlot (some (.builtin "int.__rmul__"))) = true := by decide +kernel
  rw [this]
  exact q
section
variable {prog : Program} {w : World} {A : Around} {E : Value → Shared → Prop} {s : Shared} {K : PySem.W.Frag} {x C L f : Addr} {h₀ : Heap} {m : Str → Option Value} {ox : Obj} {od : Option Obj}
theorem inPy_K {M : Model} {h : Heap} (X : K.In h) (hs : PySem.W.findIn K (.ref C) (PySem.dunder "mul") = some (some (.ref f))) (hr : PySem.W.findIn K (.ref C) (PySem.dunderR "mul") = some none) : PySem.W.Looks M h (numberSlotInPython (.ref C) "mul") true := by
  intro A Q E s k q
  unfold numberSlotInPython
  refine wpAny_bind (PySem.W.looks_findIn X hs A _ E s k ?_)
  refine wpAny_bind (wpAny_pure ?_)
  refine wpAny_bind (PySem.W.looks_findIn X hr A _ E s k ?_)
  refine wpAny_bind (wpAny_pure ?_)
  rw [if_pos (show (true || false) = true from rfl)]
  exact wpAny_pure q
theorem binop_KI {n : Int} {t : Tok} {Q : Value → Shared → Prop} (F : PyProof.Rows.Fr h₀ L s.heap m) (X₀ : K.In h₀) (I : PySem.W.InstAt s.heap x ox C od) (hc : PySem.W.selfFirst K C = true)
    (hs : PySem.W.findIn K (.ref C) (PySem.dunder "mul") = some (some (.ref f))) (hr : PySem.W.findIn K (.ref C) (PySem.dunderR "mul") = some none) (hf : PySem.W.isFn K (.ref f) = true)
    (h : wpAny (model prog w) A (call (.ref f) [.ref x, .int n t]) (PySem.W.CmpBack Q) E s) : wpAny (model prog w) A (binaryOp .Mult (.ref x) (.int n t)) Q E s := by
  have X := X₀.keeps F.keep
  obtain ⟨cd, hcd, hm⟩ := PySem.W.any_some hc
  obtain ⟨rest, hm⟩ : ∃ rest, cd.mro = .ref C :: rest := by
    cases q : cd.mro with
    | nil => rw [q] at hm; cases hm
    | cons a r => rw [q] at hm; exact ⟨r, by rw [List.head?_cons] at hm; cases (beq_iff_eq.mp hm); rfl⟩
  unfold binaryOp
  refine wpAny_holding (wpAny_bind ?_)
  unfold binaryOp1
  refine wpAny_bind (I.type.here (wpAny_bind (wpAny_pure (wpAny_bind ((PySem.W.fills_K X hcd hm hs).here ?_)))))
  rw [if_neg (show ¬ ((Value.ref C == Value.type "int") = true) from by simp)]
  refine wpAny_bind ((fills_int X).here ?_)
  dsimp only
  simp only [Bool.and_self, if_true, Bool.true_and]
  refine wpAny_bind ((PySem.W.looks_subIn X sub_int).here ?_)
  simp only [Bool.false_eq_true, if_false, Bool.not_false, if_true]
  refine wpAny_bind ((inPy_K X hs hr).here ?_)
  simp only [if_true]
  have e3 : numberSlotInPython (.type "int") "mul" = pure false := rfl
  rw [e3]
  refine wpAny_bind (wpAny_pure ?_)
  simp only [Bool.not_false, if_true]
  have e2 : PySem.W.findIn K (.type "int") (PySem.dunderR "mul") = some (some (.builtin "int.__rmul__")) := by
    show fastLookup "int" _ = _
    decide +kernel
  refine wpAny_bind ((PySem.W.looks_findIn X e2).here ?_)
  refine wpAny_bind (m := tryMethod (.ref x) _ _) ?_
  unfold tryMethod
  refine wpAny_bind (PySem.W.special_fn X I hs (beq_iff_eq.mp hf) (wpAny_mono h (fun v s' hv => ?_) fun _ _ e => e))
  cases v <;> first | exact hv.elim | exact wpAny_pure (wpAny_pure (wpAny_pure hv))
end
section
variable {X : Cx} {CX : CXT} {k : Nat} {C : Addr} {ps : List Str} {sp : Sp} {E : XK}
/-- x * n -/
def rOwnI (C : Addr) (sp : Sp) (E : XK) : R2 := fun x y H Q => ∃ p dx fs n, x = .ref p ∧ H p = some (.ins C dx fs) ∧ y = .int n ∧ sp [x, y] H Q E
theorem op_mulOwn (O : OwnM X.prog X.w X.K X.mg X.base CX k C "__mul__" ps sp) (hc : PySem.W.selfFirst X.K C = true) (hn : PySem.W.findIn X.K (.ref C) "__rmul__" = some none) (hr : Room k X.A) (hx : Passes CX X E) : OpR X (binaryOp .Mult) (rOwnI C sp E) := by
  intro pins s σ H x y v u Q I rx ry h
  obtain ⟨p, dx, fs, n, rfl, hp, rfl, h⟩ := h
  obtain ⟨f, fd, F, hs, hf, _, hb⟩ := O.ex
  obtain rfl : v = Value.ref p := rx
  have ru : RelV (.int n) u := ry
  obtain ⟨t, rfl⟩ : ∃ t, u = Value.int n t := ry
  obtain ⟨m, J, _⟩ := ins_get I.hok hp
  obtain ⟨od, J, _⟩ := J.look
  obtain ⟨m, hF⟩ := I.fr
  refine binop_KI hF I.ok.mod.kin J hc hs hn hf (wpAny_mono (own_call F hb hx ⟨hr, rfl⟩ I ru h) (fun v s' z => ?_) fun _ _ e => e)
  obtain ⟨z, H', I', rz, q⟩ := z
  exact back_ok I' rz q
/-- bool(x) by an own __bool__ -/
def rOwnB (C : Addr) (sp : Sp) (E : XK) : List V → Hp → VK → Prop := fun xs H Q => ∃ p dx fs, xs = [.ref p] ∧ H p = some (.ins C dx fs) ∧ sp xs H (fun v H' => ∃ b : Bool, v = .bl b ∧ Q (.bl b) H') E
theorem own_call1 {CX : CXT} {k : Nat} {f p : Addr} {fd : FuncData} {ps : List Str} {sp : Sp} {E : XK} {Q : VK} {A : Around} {pins : List (Addr × Obj)} {σ : St} {H : Hp} {s : Shared} (F : FnOk X.prog X.w X.K X.mg X.base CX k f fd ps sp) (hb : Binds X.K fd ps []) (hx : Passes CX X E) (sb : Sub X k A) (I : Inv X pins σ H s)
    (h : sp [.ref p] H Q E) : wpAny (model X.prog X.w) A (call (.ref f) [.ref p]) (fun v s' => ∃ z H', Inv X pins σ H' s' ∧ RelV z v ∧ Q z H') X.xe s := by
  have e0 : Env0 X.prog X.w X.K X.mg X.base A X.stack s H := by
    have e := I.env0
    exact ⟨by rw [sb.fr]; exact e.frames, e.mod, e.bs, e.bsz, e.funs, e.frf, e.hok, e.bare⟩
  have hl := F.len _ _ _ _ h
  have r2 : Vals [V.ref p] [Value.ref p] := .cons rfl .nil
  refine wpAny_call (codeAny_mono (F.run A X.stack s H ⟨[.ref p], []⟩ [.ref p] [.ref p] _ E sb.room e0 (by
    have := hb s [.ref p] I.kIn (by simpa using hl)
    simpa using this) r2 h) fun r s' hq => ?_)
  cases r with
  | error e => exact hx pins σ H s e s' I hq
  | ok fl =>
    cases fl with
    | ret w =>
      obtain ⟨z, H', I', rz, q⟩ := I.after hq
      exact ⟨z, H', I', rz, q⟩
    | next => exact False.elim hq
    | brk => exact False.elim hq
    | cont => exact False.elim hq
theorem meets_bool_any {prog : Program} {w : World} (x : Value) :
    MeetsIn prog w (Builtin.«bool.__new__» ⟨[.type "bool", x], []⟩) (fun A R s => wpAny (model prog w) A.in1 (truthy x) (fun b s' => R (.ok (.ret (.bool b))) s') (fun e s' => R (.error e) s') s) :=
  .of_wp fun A R s hs => by
    obtain ⟨hp, g, d, tk, os⟩ := s
    have f1 := F.conv_sub_bool
    repeat (any_goals (first | assumption | (with_reducible refine wpAny_bind (wpAny_mono hs (fun b s' q => ?_) fun _ _ z => z)) | wp_step))
    all_goals exact ⟨_, rfl, q⟩
theorem call_boolOwn (O : OwnM X.prog X.w X.K X.mg X.base CX k C "__bool__" ps sp) (hr : Room (k + 2) X.A) (hx : Passes CX X E) : CallR X (.type "bool") (rOwnB C sp E) := by
  intro pins s σ H xs us Q I r h
  obtain ⟨p, dx, fs, rfl, hp, h⟩ := h
  obtain ⟨f, fd, F, hs, hf, _, hb⟩ := O.ex
  obtain rfl := Vals.ref1 r
  obtain ⟨m, J, _⟩ := ins_get I.hok hp
  obtain ⟨od, J, _⟩ := J.look
  obtain ⟨m, hF⟩ := I.fr
  refine callType_newIn PySem.F.called_bool PySem.F.newNe_bool (PySem.F.typeCall_bool_1 _) (PySem.F.newCall_bool_1 _) (fun obj => PySem.F.args_object_init_2 obj _) PySem.F.entry_bool_new (meets_bool_any _) ?_
  show wpAny _ _ (truthy (.ref p)) _ _ _
  refine PySem.W.truthy_K hF I.ok.mod.kin J hs hf (wpAny_mono (own_call1 F hb hx ⟨hr.in1.in1, rfl⟩ I h) (fun v s' z => ?_) fun _ _ e => e)
  obtain ⟨z, H', I', rz, b, rfl, q⟩ := z
  obtain rfl : v = .bool b := rz
  exact ⟨PySem.typeIs_bool _ _, .bl b, H', I', rfl, q⟩
end
end L2

set_option Elab.async false
set_option linter.all false
set_option maxRecDepth 100000
set_option maxHeartbeats 8000000
/-! from K4A -/
namespace K1
open PySem L2
/-! ### data: plain values whose lists, tuples and (empty) dicts are tracked -/
inductive Dat (H : Hp) : V → Prop
  | non : Dat H .non
  | bl (b : Bool) : Dat H (.bl b)
  | int (i : Int) : Dat H (.int i)
  | str (s : Str) (h : s.length ≤ 1000 ∧ PyData.strOk s = true) : Dat H (.str s)
  | lst {a : Addr} {xs : List V} (e : H a = some (.lst xs)) (hx : ∀ x ∈ xs, Dat H x) : Dat H (.ref a)
  | tup {a : Addr} {xs : List V} (e : H a = some (.tup xs)) (hx : ∀ x ∈ xs, Dat H x) : Dat H (.ref a)
  | dic {a : Addr} {kvs : List (Key × V)} (e : H a = some (.dK kvs)) : Dat H (.ref a)
theorem Dat.mono {H H' : Hp} (s : Same H H') {v : V} (d : Dat H v) : Dat H' v := by
  induction d with
  | non => exact .non
  | bl b => exact .bl b
  | int i => exact .int i
  | str z h => exact .str z h
  | lst e _ ih => exact .lst (s _ _ e) ih
  | tup e _ ih => exact .tup (s _ _ e) ih
  | dic e => exact .dic (s _ _ e)
theorem Dat.items {H : Hp} {a : Addr} {xs : List V} (d : Dat H (.ref a)) (e : H a = some (.lst xs)) : ∀ x ∈ xs, Dat H x := by
  cases d with
  | lst e' hx => rw [e'] at e; cases e; exact hx
  | tup e' hx => rw [e'] at e; cases e
  | dic e' => rw [e'] at e; cases e
theorem Dat.itemsT {H : Hp} {a : Addr} {xs : List V} (d : Dat H (.ref a)) (e : H a = some (.tup xs)) : ∀ x ∈ xs, Dat H x := by
  cases d with
  | lst e' hx => rw [e'] at e; cases e
  | tup e' hx => rw [e'] at e; cases e; exact hx
  | dic e' => rw [e'] at e; cases e
/-! ### kinds -/
def isI : V → Bool | .int _ => true | .bl _ => true | _ => false
def isB : V → Bool | .bl _ => true | _ => false
def isS : V → Bool | .str _ => true | _ => false
def lstOf (H : Hp) : V → Option (List V) | .ref a => (match H a with | some (.lst xs) => some xs | _ => none) | _ => none
def tupOf (H : Hp) : V → Option (List V) | .ref a => (match H a with | some (.tup xs) => some xs | _ => none) | _ => none
theorem lstOf_some {H : Hp} {v : V} {xs : List V} (h : lstOf H v = some xs) : ∃ a, v = .ref a ∧ H a = some (.lst xs) := by
  cases v with
  | ref a =>
    refine ⟨a, rfl, ?_⟩
    cases e : H a with
    | none => rw [show lstOf H (.ref a) = (match H a with | some (.lst xs) => some xs | _ => none) from rfl, e] at h; cases h
    | some o =>
      rw [show lstOf H (.ref a) = (match H a with | some (.lst xs) => some xs | _ => none) from rfl, e] at h
      cases o with
      | lst ys => cases h; rfl
      | _ => cases h
  | _ => cases h
theorem tupOf_some {H : Hp} {v : V} {xs : List V} (h : tupOf H v = some xs) : ∃ a, v = .ref a ∧ H a = some (.tup xs) := by
  cases v with
  | ref a =>
    refine ⟨a, rfl, ?_⟩
    cases e : H a with
    | none => rw [show tupOf H (.ref a) = (match H a with | some (.tup xs) => some xs | _ => none) from rfl, e] at h; cases h
    | some o =>
      rw [show tupOf H (.ref a) = (match H a with | some (.tup xs) => some xs | _ => none) from rfl, e] at h
      cases o with
      | tup ys => cases h; rfl
      | _ => cases h
  | _ => cases h
theorem lstOf_of {H : Hp} {a : Addr} {xs : List V} (e : H a = some (.lst xs)) : lstOf H (.ref a) = some xs := by
  show (match H a with | some (.lst xs) => some xs | _ => none) = some xs
  rw [e]
theorem tupOf_of {H : Hp} {a : Addr} {xs : List V} (e : H a = some (.tup xs)) : tupOf H (.ref a) = some xs := by
  show (match H a with | some (.tup xs) => some xs | _ => none) = some xs
  rw [e]
/-- one question of isinstance, answered by the kind -/
structure Ans (K : PySem.W.Frag) (H : Hp) (v : V) (T : String) (b : Bool) : Prop where
  ex : ∃ t : String, TyX K H v (.type t) ∧ kitB t T = some b
theorem Ans.rd {K : PySem.W.Frag} {H : Hp} {v : V} {T : String} {b : Bool} {Q : VK} (a : Ans K H v T b) (q : Q (.bl b) H) : rIsi K [v, .ty T] H Q := by
  obtain ⟨t, ty, e⟩ := a.ex
  exact ⟨v, .ty T, .type t, .type T, b, rfl, .ty T, ty, kit_ty e, q⟩
section
variable {K : PySem.W.Frag} {H : Hp} {v : V}
theorem ans_int (d : Dat H v) : Ans K H v "int" (isI v) := by
  cases d with
  | non => exact ⟨"NoneType", .base .non, (by show kitB "NoneType" "int" = some false; decide +kernel)⟩
  | bl b => exact ⟨"bool", .base (.bl b), (by show kitB "bool" "int" = some true; decide +kernel)⟩
  | int i => exact ⟨"int", .base (.int i), (by show kitB "int" "int" = some true; decide +kernel)⟩
  | str z _ => exact ⟨"str", .base (.str z), (by show kitB "str" "int" = some false; decide +kernel)⟩
  | lst e _ => exact ⟨"list", .base (.lst e), (by show kitB "list" "int" = some false; decide +kernel)⟩
  | tup e _ => exact ⟨"tuple", .base (.tup e), (by show kitB "tuple" "int" = some false; decide +kernel)⟩
  | dic e => exact ⟨"dict", .base (.dK e), (by show kitB "dict" "int" = some false; decide +kernel)⟩
theorem ans_bool (d : Dat H v) : Ans K H v "bool" (isB v) := by
  cases d with
  | non => exact ⟨"NoneType", .base .non, (by show kitB "NoneType" "bool" = some false; decide +kernel)⟩
  | bl b => exact ⟨"bool", .base (.bl b), (by show kitB "bool" "bool" = some true; decide +kernel)⟩
  | int i => exact ⟨"int", .base (.int i), (by show kitB "int" "bool" = some false; decide +kernel)⟩
  | str z _ => exact ⟨"str", .base (.str z), (by show kitB "str" "bool" = some false; decide +kernel)⟩
  | lst e _ => exact ⟨"list", .base (.lst e), (by show kitB "list" "bool" = some false; decide +kernel)⟩
  | tup e _ => exact ⟨"tuple", .base (.tup e), (by show kitB "tuple" "bool" = some false; decide +kernel)⟩
  | dic e => exact ⟨"dict", .base (.dK e), (by show kitB "dict" "bool" = some false; decide +kernel)⟩
theorem ans_str (d : Dat H v) : Ans K H v "str" (isS v) := by
  cases d with
  | non => exact ⟨"NoneType", .base .non, (by show kitB "NoneType" "str" = some false; decide +kernel)⟩
  | bl b => exact ⟨"bool", .base (.bl b), (by show kitB "bool" "str" = some false; decide +kernel)⟩
  | int i => exact ⟨"int", .base (.int i), (by show kitB "int" "str" = some false; decide +kernel)⟩
  | str z _ => exact ⟨"str", .base (.str z), (by show kitB "str" "str" = some true; decide +kernel)⟩
  | lst e _ => exact ⟨"list", .base (.lst e), (by show kitB "list" "str" = some false; decide +kernel)⟩
  | tup e _ => exact ⟨"tuple", .base (.tup e), (by show kitB "tuple" "str" = some false; decide +kernel)⟩
  | dic e => exact ⟨"dict", .base (.dK e), (by show kitB "dict" "str" = some false; decide +kernel)⟩
theorem lstOf_tup {a : Addr} {xs : List V} (e : H a = some (.tup xs)) : lstOf H (.ref a) = none := by
  show (match H a with | some (.lst xs) => some xs | _ => none) = none
  rw [e]
theorem lstOf_dic {a : Addr} {kvs : List (Key × V)} (e : H a = some (.dK kvs)) : lstOf H (.ref a) = none := by
  show (match H a with | some (.lst xs) => some xs | _ => none) = none
  rw [e]
theorem tupOf_lst {a : Addr} {xs : List V} (e : H a = some (.lst xs)) : tupOf H (.ref a) = none := by
  show (match H a with | some (.tup xs) => some xs | _ => none) = none
  rw [e]
theorem tupOf_dic {a : Addr} {kvs : List (Key × V)} (e : H a = some (.dK kvs)) : tupOf H (.ref a) = none := by
  show (match H a with | some (.tup xs) => some xs | _ => none) = none
  rw [e]
theorem ans_list (d : Dat H v) : Ans K H v "list" (lstOf H v).isSome := by
  cases d with
  | non => exact ⟨"NoneType", .base .non, (by show kitB "NoneType" "list" = some false; decide +kernel)⟩
  | bl b => exact ⟨"bool", .base (.bl b), (by show kitB "bool" "list" = some false; decide +kernel)⟩
  | int i => exact ⟨"int", .base (.int i), (by show kitB "int" "list" = some false; decide +kernel)⟩
  | str z _ => exact ⟨"str", .base (.str z), (by show kitB "str" "list" = some false; decide +kernel)⟩
  | lst e _ => rw [lstOf_of e]; exact ⟨"list", .base (.lst e), (by show kitB "list" "list" = some true; decide +kernel)⟩
  | tup e _ => rw [lstOf_tup e]; exact ⟨"tuple", .base (.tup e), (by show kitB "tuple" "list" = some false; decide +kernel)⟩
  | dic e => rw [lstOf_dic e]; exact ⟨"dict", .base (.dK e), (by show kitB "dict" "list" = some false; decide +kernel)⟩
theorem ans_tup (d : Dat H v) : Ans K H v "tuple" (tupOf H v).isSome := by
  cases d with
  | non => exact ⟨"NoneType", .base .non, (by show kitB "NoneType" "tuple" = some false; decide +kernel)⟩
  | bl b => exact ⟨"bool", .base (.bl b), (by show kitB "bool" "tuple" = some false; decide +kernel)⟩
  | int i => exact ⟨"int", .base (.int i), (by show kitB "int" "tuple" = some false; decide +kernel)⟩
  | str z _ => exact ⟨"str", .base (.str z), (by show kitB "str" "tuple" = some false; decide +kernel)⟩
  | lst e _ => rw [tupOf_lst e]; exact ⟨"list", .base (.lst e), (by show kitB "list" "tuple" = some false; decide +kernel)⟩
  | tup e _ => rw [tupOf_of e]; exact ⟨"tuple", .base (.tup e), (by show kitB "tuple" "tuple" = some true; decide +kernel)⟩
  | dic e => rw [tupOf_dic e]; exact ⟨"dict", .base (.dK e), (by show kitB "dict" "tuple" = some false; decide +kernel)⟩
end
/-! ### a def of the module as its callers know it -/
structure Cal (P : Program) (w : World) (K : PySem.W.Frag) (mg : Str → Option Value) (base : Heap) (CX : CXT) (k : Nat) (x : Str) (ps : List Str) (sp : Sp) : Prop where
  ex : ∃ (f : Addr) (fd : FuncData), FnOk P w K mg base CX k f fd ps sp ∧ mg x = some (.ref f) ∧ PySem.W.keepIn K (.ref f) = true ∧ Binds K fd ps []
theorem pe_cal {X : Cx} {CX : CXT} {k j : Nat} {x : Str} {ps : List Str} {sp : Sp} {E : XK} {p pos : Pos} {e : Expr} {es : List Expr} {t : TA} (c : Cal X.prog X.w X.K X.mg X.base CX k x ps sp) (hr : Room j X.A) (hj : k ≤ j) (hx : Passes CX X E) (ha : PA X (e :: es) t)
    (hg : Gl X x := by rfl) (hdb : (x == ("__debug__" : Str)) = false := by decide) (he : starEach (e :: es) X.env = (false, eval e X.env) :: starEach es X.env := by rfl) (hpl : (backTo pos (starEach es X.env)).any (·.1) = false := by rfl) :
    PE X (.Call (.Name x p) (e :: es) [] pos) (tCall sp [] E t) := by
  obtain ⟨f, fd, G, hm, hk, hb⟩ := c.ex
  exact pe_call G (hr.mono hj) hg hm hk hb .nil hx ha hdb he hpl
/-- what the module's names of built-ins are: themselves -/
structure Blt (mg : Str → Option Value) : Prop where
  isinstance : mg "isinstance" = none
  int : mg "int" = none
  bool : mg "bool" = none
  str : mg "str" = none
  list : mg "list" = none
  tuple : mg "tuple" = none
  len : mg "len" = none
  all : mg "all" = none
  enumerate : mg "enumerate" = none
  range : mg "range" = none
  max : mg "max" = none
/-- isinstance(x, T), x in slot i -/
theorem isi_rd {K : PySem.W.Frag} {σ : St} {H : Hp} {i : Nat} {v : V} {T : String} {b : Bool} {Q : VK} (hv : σ[i]? = some (some v)) (a : Ans K H v T b) (q : Q (.bl b) H) : tCB (rIsi K) (tCons (tVar i) (tCons (tC (.ty T)) tNil)) σ H Q := by
  refine ⟨v, hv, ?_⟩
  show rIsi K [v, .ty T] H Q
  exact a.rd q
section
variable {X : Cx}
theorem pt_isi {e : Expr} {te : TE} {n : Str} {T : String} {p p1 pos : Pos} (B : Blt X.mg) (he : PE X e te) (hm : X.mg n = none) (hv : bootBuiltins n = some (.type T)) (hg : Gl X "isinstance" := by rfl) (hgn : Gl X n := by rfl) (hnn : n ≠ "__name__" := by decide) (hd : (n == ("__debug__" : Str)) = false := by decide) (hs1 : starEach [e, .Name n p1] X.env = (false, eval e X.env) :: starEach [.Name n p1] X.env := by rfl) (hs2 : starEach [Expr.Name n p1] X.env = (false, eval (.Name n p1) X.env) :: starEach [] X.env := by rfl) (hpl : (backTo pos (starEach [Expr.Name n p1] X.env)).any (·.1) = false := by rfl) :
    PE X (.Call (.Name "isinstance" p) [e, .Name n p1] [] pos) (tCB (rIsi X.K) (tCons te (tCons (tC (.ty T)) tNil))) :=
  pe_callB call_isi hg B.isinstance PyProof.Rows.boot_isinstance (pa_cons he (pa_cons (pe_bltn hgn hm hv rfl hnn hd) pa_nil hs2) hs1) (by decide) (by decide) hs1 hpl
end
end K1

/-! from K4B -/
namespace K1
open PySem L2
section
variable {P : Program} {w : World} {K : PySem.W.Frag} {mg : Str → Option Value} {base : Heap}
/-! ### is_integer -/
def intV (v : V) : Bool := isI v && !isB v
def spInteger : Sp := fun vs H Q _ => ∃ v, vs = [v] ∧ Dat H v ∧ Q (.bl (intV v)) H
/-! ### is_within -/
def wholeV (v : V) (lo hi : Int) : Bool := match v with | .int i => decide (lo ≤ i) && decide (i ≤ hi) | _ => false
theorem intV_is {v : V} (h : intV v = true) : ∃ i, v = .int i := by
  cases v with
  | int i => exact ⟨i, rfl⟩
  | _ => cases h
theorem wholeV_not {v : V} {lo hi : Int} (h : ¬ intV v = true) : wholeV v lo hi = false := by
  cases v with
  | int i => exact absurd (show intV (V.int i) = true from rfl) h
  | _ => rfl
def spWithin : Sp := fun vs H Q _ => ∃ (v : V) (lo hi : Int), vs = [v, .int lo, .int hi] ∧ Dat H v ∧ Q (.bl (wholeV v lo hi)) H
/-! ### is_name -/
def letterV (c : Nat) : Bool := decide (97 ≤ c) && decide (c ≤ 122)
def nameS (s : Str) : Bool := (decide (1 ≤ s.length) && decide (s.length ≤ 8)) && s.cps.toList.all letterV
def nameV : V → Bool | .str s => nameS s | _ => false
theorem le_one (a b : Nat) : (!decide (([b] : List Nat) < [a])) = decide (a ≤ b) := by
  rw [Bool.eq_iff_iff]
  simp [List.cons_lt_cons_iff]
theorem start_drop {α : Type} (l : List α) (i : Nat) (x : α) (h : l[i]? = some x) : l.take (i + 1) = l.take i ++ [x] := by
  rw [List.take_add_one, h]
  rfl
/-- a comprehension over a text's signs -/
theorem lc_str {x : Str} {g : TG} {tt : TT} {te : TE} {vs : List Nat} {σ : St} {H1 : Hp} {D : Addr} {Qd : Hp → Prop} (Pv : Nat → Hp → Prop) (h0 : Pv 0 (upd H1 D (.lst [])))
    (hs : ∀ i c H, x.cps.toList[i]? = some c → Pv i H → g (.str ⟨#[c]⟩) (wipe σ vs) H fun σ2 H2 => wipe σ2 vs = wipe σ vs ∧ tt σ2 H2 fun b H3 =>
      if b = true then te σ2 H3 fun y H4 => ∃ acc, H4 D = some (.lst acc) ∧ acc.length < sizeLine ∧ Pv (i + 1) (upd H4 D (.lst (acc ++ [y]))) else Pv (i + 1) H3) (hd : ∀ H, Pv x.cps.size H → Qd H) :
    ∃ W : Nat → Nat → Hp → Prop, (∃ m, W 0 m (upd H1 D (.lst []))) ∧ ∀ i m H, W i m H →
      ((Its x).stop i H ∧ Qd H) ∨ ((Its x).go i H ∧ ∃ Nx : Hp → Prop, (∀ H', Nx H' → ∃ m', m' < m ∧ W (i + 1) m' H') ∧ ∀ v H', (Its x).yld i H v H' → g v (wipe σ vs) H' fun σ2 H2 => wipe σ2 vs = wipe σ vs ∧ tt σ2 H2 fun b H3 =>
        if b = true then te σ2 H3 fun y H4 => ∃ acc, H4 D = some (.lst acc) ∧ acc.length < sizeLine ∧ Nx (upd H4 D (.lst (acc ++ [y]))) else Nx H3) := by
  refine ⟨fun i m H => m + i = x.cps.size ∧ Pv i H, ⟨x.cps.size, by omega, h0⟩, ?_⟩
  rintro i m H ⟨hm, p⟩
  by_cases hlt : i < x.cps.size
  · refine .inr ⟨hlt, Pv (i + 1), fun H' p' => ⟨x.cps.size - (i + 1), by omega, by omega, p'⟩, fun v H' y => ?_⟩
    obtain ⟨e, c, hc, rfl⟩ := y
    subst e
    exact hs i c _ (by rw [Array.getElem?_toList]; exact hc) p
  · have e : i = x.cps.size := by omega
    subst e
    exact .inl ⟨Nat.le_refl _, hd H p⟩
def spName : Sp := fun vs H Q _ => ∃ v, vs = [v] ∧ Dat H v ∧ ∀ H', Same H H' → Q (.bl (nameV v)) H'
end
end K1

/-! from K4C -/
namespace K1
open PySem L2
/-- for i, x in enumerate(xs) -/
theorem for_enum {K : PySem.W.Frag} {a : Addr} {xs : List V} {g : TG} {tb : TS} {D : Ends} {σ : St} {H : Hp} (Pv : Nat → St → Hp → Prop) (h0 : Pv 0 σ H) (hl : ∀ i σ H, i ≤ xs.length → Pv i σ H → SqL K H a xs)
    (hs : ∀ i x σ H T, xs[i]? = some x → Pv i σ H → H T = none → g (.ref T) σ (upd H T (.tup [.int (i : Nat), x])) fun σ2 H2 => tb { D with nx := Pv (i + 1), ct := Pv (i + 1), bk := D.nx } σ2 H2) (hd : ∀ σ H, Pv xs.length σ H → D.nx σ H) :
    ∃ W : Nat → Nat → St → Hp → Prop, (∃ m, W 0 m σ H) ∧ ∀ i m σ H, W i m σ H →
      ((Ite K a).stop i H ∧ D.nx σ H) ∨ ((Ite K a).go i H ∧ ∃ N : St → Hp → Prop, (∀ σ' H', N σ' H' → ∃ m', m' < m ∧ W (i + 1) m' σ' H') ∧ ∀ x H', (Ite K a).yld i H x H' → g x σ H' fun σ2 H2 => tb { D with nx := N, ct := N, bk := D.nx } σ2 H2) := by
  refine ⟨fun i m σ H => m + i = xs.length ∧ Pv i σ H, ⟨xs.length, by omega, h0⟩, ?_⟩
  rintro i m σ H ⟨hm, p⟩
  have q := hl i σ H (by omega) p
  by_cases hlt : i < xs.length
  · have hx : xs[i]? = some xs[i] := List.getElem?_eq_getElem hlt
    refine .inr ⟨⟨xs, xs[i], q, hx⟩, Pv (i + 1), fun σ' H' p' => ⟨xs.length - (i + 1), by omega, by omega, p'⟩, fun v H' y => ?_⟩
    obtain ⟨T, x, rfl, hT, rfl, hq⟩ := y
    exact hs i x σ H T (hq xs q) p hT
  · have e : i = xs.length := by omega
    subst e
    exact .inl ⟨⟨xs, q, Nat.le_refl _⟩, hd σ H p⟩
/-- a pair is taken apart into two slots -/
theorem pair_rd {K : PySem.W.Frag} {i j : Nat} {T : Addr} {x y : V} {σ : St} {H : Hp} {Q : St → Hp → Prop} (h : Q ((σ.set i (some x)).set j (some y)) (upd H T (.tup [x, y]))) : gTup K 2 (gCons (gName i) (gCons (gName j) gNil)) (.ref T) σ (upd H T (.tup [x, y])) Q := by
  refine ⟨T, [x, y], rfl, SqT.of upd_same, rfl, ?_⟩
  exact ⟨x, [y], rfl, y, [], rfl, rfl, h⟩
theorem same_new {H H1 : Hp} {T : Addr} {o : HO} (s : Same H H1) (h : H1 T = none) : Same H (upd H1 T o) := fun b u e => by
  rw [upd_ne (ne_of_none (s b u e) h)]
  exact s b u e
/-! ### names seen -/
def keysOf (ss : List Str) : List (Key × V) := ss.map fun s => ((Sum.inr s : Key), V.bl true)
theorem keysOf_val (ss : List Str) (s : Str) : (valV (keysOf ss) (Sum.inr s : Key)).isSome = ss.contains s := by
  induction ss with
  | nil => rfl
  | cons a r ih =>
    rw [List.contains_cons]
    by_cases e : a = s
    · subst e
      rw [show keysOf (a :: r) = ((Sum.inr a : Key), V.bl true) :: keysOf r from rfl, valV_pos rfl]
      simp
    · have e1 : valV (keysOf (a :: r)) (Sum.inr s : Key) = valV (keysOf r) (Sum.inr s : Key) := by
        show valV (((Sum.inr a : Key), V.bl true) :: keysOf r) (Sum.inr s : Key) = _
        unfold valV
        rw [List.find?_cons, show decide (((Sum.inr a : Key), V.bl true).1 = (Sum.inr s : Key)) = false from decide_eq_false fun z => e (Sum.inr.inj z)]
      rw [e1, ih, show (s == a) = false from by simpa using fun z => e z.symm, Bool.false_or]
theorem keysOf_put (ss : List Str) (s : Str) (h : ss.contains s = false) : putK (keysOf ss) (Sum.inr s : Key) (V.bl true) = keysOf (ss ++ [s]) := by
  have e : valV (keysOf ss) (Sum.inr s : Key) = none := by
    have z := keysOf_val ss s
    rw [h] at z
    cases q : valV (keysOf ss) (Sum.inr s : Key) with
    | none => rfl
    | some v => rw [q] at z; cases z
  rw [putK_new _ e]
  unfold keysOf
  rw [List.map_append]
  rfl
theorem inV_str (s : Str) (ss : List Str) : inV (.str s) (ss.map V.str) = ss.contains s := by
  unfold inV
  induction ss with
  | nil => rfl
  | cons a r ih =>
    rw [List.map_cons, List.any_cons, ih, List.contains_cons]
    congr 1
    show (a == s) = (s == a)
    rw [Bool.eq_iff_iff, beq_iff_eq, beq_iff_eq]
    exact ⟨Eq.symm, Eq.symm⟩
theorem flat_str (ss : List Str) : (ss.map V.str).all flatV = true := by
  rw [List.all_map, List.all_eq_true]
  intro s _
  rfl
/-! ### first_bad_name -/
def badFrom (bar : List Str) : List V → List Str → Nat → Option Nat
  | [], _, _ => none
  | .str s :: r, seen, i => if (nameS s && !seen.contains s && !bar.contains s) = true then badFrom bar r (seen ++ [s]) (i + 1) else some i
  | _ :: _, _, i => some i
def optV : Option Nat → V | none => .non | some i => .int (i : Nat)
def firstBad (H : Hp) (v : V) (most : Int) (bar : List Str) : V := match lstOf H v with
  | none => .int (-1)
  | some xs => if (most : Int) < (xs.length : Int) then .int (-1) else optV (badFrom bar xs [] 0)
theorem badFrom_no {bar seen : List Str} {v : V} {r : List V} {i : Nat} (h : nameV v = false) : badFrom bar (v :: r) seen i = some i := by
  cases v with
  | str s =>
    have h' : nameS s = false := h
    show (if (nameS s && !seen.contains s && !bar.contains s) = true then _ else some i) = some i
    rw [h', if_neg (by simp)]
  | _ => rfl
theorem badFrom_str {bar seen : List Str} {s : Str} {r : List V} {i : Nat} : badFrom bar (.str s :: r) seen i = if (nameS s && !seen.contains s && !bar.contains s) = true then badFrom bar r (seen ++ [s]) (i + 1) else some i := rfl
theorem nameV_is {v : V} (h : nameV v = true) : ∃ s, v = .str s ∧ nameS s = true := by
  cases v with
  | str s => exact ⟨s, rfl, h⟩
  | _ => cases h
section
variable {P : Program} {w : World} {K : PySem.W.Frag} {mg : Str → Option Value} {base : Heap}
def spFirst : Sp := fun vs H Q _ => ∃ (v : V) (most : Int) (b : Addr) (bar : List Str), vs = [v, .int most, .ref b] ∧ Dat H v ∧ H b = some (.lst (bar.map V.str)) ∧ most ≤ 100 ∧ ∀ H', Same H H' → Q (firstBad H v most bar) H'
end
end K1

/-! from K4X -/
/-! own exceptions over ArithmeticError with an __init__ of their own -/
namespace PySem
namespace K1X
open PySem.W PySem.Calls PyProof.Rows PySem.HandSPX
abbrev tailA : List Value := [.type "ArithmeticError", .type "Exception", .type "BaseException", .type "object"]
/-- one own class between, then ArithmeticError's line -/
def LineA (bm : List Value) : Prop := ∃ R : Addr, bm = .ref R :: tailA
theorem LineA.has {bm : List Value} (l : LineA bm) (T : String) : bm.contains (.type T) = tailA.contains (.type T) := by
  obtain ⟨R, rfl⟩ := l
  rw [List.contains_cons, show (Value.type T == Value.ref R) = false from rfl, Bool.false_or]
theorem LineA.free {bm : List Value} (l : LineA bm) (self : Value) (C : Addr) : refuseLoop self "__setattr__" (.ref C :: bm) = pure () := by
  obtain ⟨R, rfl⟩ := l
  rw [refuseLoop_ref, refuseLoop_ref]
  exact PySem.F.store_ArithmeticError.passes self
section
open Builtin Builtin.ObjectAttr
variable {pg : Program} {wd : World} {Ar : Around} {Er : Value → Shared → Prop} {Rs : Result → Shared → Prop} {h0 : Heap} {gs : Array GenState} {dr : Drawn} {tk0 : Nat} {oss : OsState}
/-- a store by object.__setattr__ on such an exception comes to the store in its own dict -/
theorem own_store {Kf : Frag} {nm : Str} {tk : Tok} {v : Value} {x C : Addr} {ob : Obj} {odd : Option Obj} {cd : ClassData} {bm : List Value} (X : Kf.In h0) (J : InstAt h0 x ob C odd) (hcd : clsIn Kf C = some cd) (hm : cd.mro = .ref C :: bm) (l : LineA bm)
    (ha : findIn Kf (.ref C) nm = some none)
    (q : ∀ (A2 : Around) (E2 : Value → Shared → Prop) (Q2 : Fin → Shared → Prop), (∀ s2, Rs (.ok (.ret .none)) s2 → Q2 (.done (.ret .none)) s2) → wpAny (model pg wd) A2 (storeInOwnDict (.ref x) (.ref C) (.str nm tk) nm v false) Q2 E2 ⟨h0, gs, dr, tk0, oss⟩) :
    codeAny (model pg wd) Ar (.call (.builtin "object.__setattr__") ⟨[.ref x, .str nm tk, v], []⟩) Rs ⟨h0, gs, dr, tk0, oss⟩ := by
  have ST := PySem.F.store_object
  have one : cd.mro.isEmpty = false := by
    rw [hm]
    rfl
  have obj : cd.mro.contains (.type "object") = true := by
    rw [hm, List.contains_cons, l.has, show (Value.type "object" == Value.ref C) = false from rfl, Bool.false_or]
    decide +kernel
  have below : Looks (model pg wd) h0 (isInstance (.ref x) (.type "object")) true :=
    J.type.andThen (looks_mroIn X (by
      unfold mroIn
      rw [hcd, Option.bind_some, if_neg (by rw [one]; decide), obj]))
  refine codeAny_call_builtin ST.slot.plain ST.entry ?_
  refine @check_slot (model pg wd) _ _ ⟨h0, gs, dr, tk0, oss⟩ "object.__setattr__" "object" "__setattr__" (.ref x) [.str nm tk, v] [] _ ST.kind ST.split below (ST.args (.ref x) (.str nm tk) v) ?_
  have line : Looks (model pg wd) h0 (mroOf (.ref C)) cd.mro := (looks_clsIn X hcd).andThen .now
  have none' : Looks (model pg wd) h0 (storeTaker? none) none := .now
  rw [osa_eq, refuse_eq]
  refine wpAny_bind (wpAny_bind (J.type.at ?_))
  refine wpAny_bind (line.at ?_)
  rw [hm, l.free]
  refine wpAny_pure (wpAny_bind (J.type.at ?_))
  refine wpAny_bind ((looks_findIn X ha).at ?_)
  refine wpAny_bind (none'.at ?_)
  exact q _ _ _ fun _ z => z
theorem put_more {Md : Model} {dx : Addr} {nm : Str} {tk : Tok} {v : Value} {m0 : Str → Option Value} {ns : List Str} {Q : Fin → Shared → Prop} (sp : h0.Ns1 dx m0) (inn : Within m0 ns) (few : ns.length ≤ 1000)
    (q : ∀ h1 tk1, h1.Ns1 dx (fun y => if y = nm then some v else m0 y) → Heap.SameBut dx h0 h1 → Q (.done (.ret .none)) ⟨h1, gs, dr, tk1, oss⟩) :
    wpAny Md Ar (storeInDict dx (.str nm tk) nm v) Q Er ⟨h0, gs, dr, tk0, oss⟩ := by
  unfold storeInDict newKeyGuard
  refine wpAny_bind (wpAny_pure (wpAny_bind ?_))
  refine wpAny_nsSet1 sp fun h1 sp1 sb => ?_
  obtain ⟨oD, esD, epD, hoD, hdD, hcD⟩ := sp1.count (Within.cons nm v inn)
  have small : esD.size ≤ sizeLine + 1 := by
    have z : (nm :: ns).length ≤ 1001 := by rw [List.length_cons]; omega
    rw [sizeLine_eq]
    omega
  refine wpAny_bind (wpAny_lookBehind hoD ?_ ?_)
  · rw [hdD]
    exact pastItsLine_dict small
  · wp_walk
    exact q h1 _ sp1 sb
/-- its first field: the dict is made -/
theorem set_first {Kf : Frag} {nm : Str} {tk : Tok} {v : Value} {x C : Addr} {fv : Array Value} {cd : ClassData} {bm : List Value} (X : Kf.In h0) (hx : h0.get? x = some { cls := .ref C, data := .fields fv }) (hcd : clsIn Kf C = some cd) (hm : cd.mro = .ref C :: bm) (l : LineA bm)
    (hh : cd.hasDict = true) (ha : findIn Kf (.ref C) nm = some none)
    (hq : ∀ h1 tk1 dx, (∀ b o, b ≠ x → h0.get? b = some o → h1.get? b = some o) → h0.objs.size ≤ dx → dx ≠ x → h1.get? x = some { cls := .ref C, dict := some dx, data := .fields fv } →
      h1.Ns1 dx (fun y => if y = nm then some v else none) → Rs (.ok (.ret .none)) ⟨h1, gs, dr, tk1, oss⟩) :
    codeAny (model pg wd) Ar (.call (.builtin "object.__setattr__") ⟨[.ref x, .str nm tk, v], []⟩) Rs ⟨h0, gs, dr, tk0, oss⟩ := by
  have J : InstAt h0 x { cls := .ref C, data := .fields fv } C none := ⟨hx, rfl, rfl, trivial⟩
  have ap : x ≠ h0.objs.size := Nat.ne_of_lt (Heap.lt_size hx)
  refine own_store X J hcd hm l ha fun A2 E2 Q2 hQ => ?_
  have cls : Looks (model pg wd) h0 (classData C) cd := looks_clsIn X hcd
  obtain ⟨n1, n2, n3, n4, n5, n6, n7, n8, n9, n10, n11⟩ := cd
  dsimp only at hh
  subst hh
  unfold storeInOwnDict ownDictForStores
  repeat (first | with_reducible refine store_in_new ?_ ?_ | with_reducible refine wpAny_loadPart_at hx ?_ | with_reducible refine cls.at ?_ | wp_step)
  · exact ⟨_, #[], _,
      ((Heap.get?_update_ne _ _ _ _ ap.symm).trans (Heap.get?_push_at rfl rfl)),
      rfl, fun e he => absurd he (by simp), fun _ => rfl⟩
  · intro h1 tk1 sp1 sb
    have up : (h0.push { cls := .type "dict", data := .dict #[] }).get? x = some { cls := .ref C, data := .fields fv } := Heap.get?_push_of_some _ hx
    refine hQ _ (hq h1 tk1 h0.objs.size (fun b o nb ob => ?_) (Nat.le_refl _) ap.symm ?_ sp1)
    · have nb2 : b ≠ h0.objs.size := Nat.ne_of_lt (Heap.lt_size ob)
      exact (sb.2 b nb2).trans ((Heap.get?_update_ne _ _ _ _ nb).trans (Heap.get?_push_of_some _ ob))
    · exact (sb.2 x ap).trans (Heap.get?_update_self _ up rfl)
/-- a further field -/
theorem set_next {Kf : Frag} {nm : Str} {tk : Tok} {v : Value} {x C dx : Addr} {fv : Array Value} {cd : ClassData} {bm : List Value} {m0 : Str → Option Value} {ns : List Str} (X : Kf.In h0) (hx : h0.get? x = some { cls := .ref C, dict := some dx, data := .fields fv })
    (sp : h0.Ns1 dx m0) (inn : Within m0 ns) (few : ns.length ≤ 1000) (hcd : clsIn Kf C = some cd) (hm : cd.mro = .ref C :: bm) (l : LineA bm) (hh : cd.hasDict = true) (ha : findIn Kf (.ref C) nm = some none)
    (hq : ∀ h1 tk1, (∀ b o, b ≠ dx → h0.get? b = some o → h1.get? b = some o) → h1.Ns1 dx (fun y => if y = nm then some v else m0 y) → Rs (.ok (.ret .none)) ⟨h1, gs, dr, tk1, oss⟩) :
    codeAny (model pg wd) Ar (.call (.builtin "object.__setattr__") ⟨[.ref x, .str nm tk, v], []⟩) Rs ⟨h0, gs, dr, tk0, oss⟩ := by
  obtain ⟨oD, esD, epD, hoD, hdD, _⟩ := sp.count inn
  have J : InstAt h0 x { cls := .ref C, dict := some dx, data := .fields fv } C (some oD) := ⟨hx, rfl, rfl, hoD⟩
  refine own_store X J hcd hm l ha fun A2 E2 Q2 hQ => ?_
  have cls : Looks (model pg wd) h0 (classData C) cd := looks_clsIn X hcd
  obtain ⟨n1, n2, n3, n4, n5, n6, n7, n8, n9, n10, n11⟩ := cd
  dsimp only at hh
  subst hh
  unfold storeInOwnDict ownDictForStores
  repeat (first | with_reducible refine put_more sp inn few ?_ | with_reducible refine wpAny_loadPart_at hx ?_ | with_reducible refine cls.at ?_ | wp_step)
  intro h1 tk1 sp1 sb
  exact hQ _ (hq h1 tk1 (fun b o nb ob => (sb.2 b nb).trans ob) sp1)
end
end K1X
end PySem
namespace L2
open PySem PySem.Spec PyProof.Rows PySem.K1X
/-- what the written part says of such a class -/
structure ExA (K : PySem.W.Frag) (C : Addr) : Prop where
  cls : ∃ nm q N bs bm sn sub ab col dd k0 k1 k2 k3 k5, K.lookup C = some (excClassObj nm q C N bs bm true sn sub ab col dd k0 k1 k2 k3 k5 "ArithmeticError.__new__") ∧ LineA bm
  sa : PySem.W.findIn K (.ref C) "__setattr__" = some (some (.builtin "object.__setattr__"))
  exC : PySem.W.subIn K (.ref C) (.type "BaseException") = some true
  tyC : PySem.W.typeIn K (.ref C) = some (.type "type")
  kC : PySem.W.keepIn K (.ref C) = true
section
variable {X : Cx} {pins : List (Addr × Obj)} {σ : St} {H : Hp} {s : Shared} {a C dx : Addr} {f : Str} {y : V} {u : Value} {fs : List (Str × V)} {Q : Unit → Shared → Prop} {E : Value → Shared → Prop} {A : Around}
/-- self.f = y, the first one -/
theorem ea_first (T : ExA X.K C) (I : Inv X pins σ H s) (e : H a = some (exo a C none)) (no : PySem.W.findIn X.K (.ref C) f = some none) (ry : RelV y u)
    (h : ∀ dx s', H dx = none → dx ≠ a → Inv X pins σ (upd (upd H dx (exd dx [(f, y)])) a (exo a C (some dx))) s' → Q () s') : wpAny (model X.prog X.w) A (setAttr (.ref a) f u) Q E s := by
  obtain ⟨nm, q, N, bs, bm, sn, sub, ab, col, dd, k0, k1, k2, k3, k5, hC, line⟩ := T.cls
  have there : PySem.W.clsIn X.K C = some { name := nm, bases := bs, mro := .ref C :: bm, ns := N, qualname := q, hasDict := true, slotNames := sn, subclasses := sub, abstract := ab, collection := col, hasDel := false } := by
    unfold PySem.W.clsIn
    rw [hC] <;> rfl
  obtain ⟨t1, ho⟩ := exo_at I.hok e
  obtain ⟨hp, g, d, t, os⟩ := s
  refine PySem.W.set_plain I.kIn (ox := { cls := .ref C, dict := none, data := .fields #[.ref t1, .none, .none, .none, .bool false, .none] }) (od := none) ⟨ho, rfl, rfl, trivial⟩ T.sa ?_
  refine set_first I.kIn ho there rfl line rfl no fun h1 tk1 dx kp dn dne hx sp => ?_
  have fresh : H dx = none := I.hok.fresh dn
  have old : ∀ {b : Addr} {o : Obj}, hp.get? b = some o → b ≠ dx := fun {b o} z => Nat.ne_of_lt (Nat.lt_of_lt_of_le (Heap.lt_size z) dn)
  have other : ∀ {b : Addr}, H b = none → b ≠ a := fun {b} n z => by
    rw [z, e] at n
    cases n
  have un : Un X.fs [] H (upd (upd H dx (exd dx [(f, y)])) a (exo a C (some dx))) hp h1 := {
    keep := fun b o z n _ _ => kp b o (other n) z
    slot := fun b o z n _ _ => ⟨o.slots, kp b o (other n) z⟩
    free := fun b o z n _ => by
      rw [upd_ne (other n), upd_ne (old z)]
      exact n
    there := fun b o z _ => by
      by_cases hb : b = a
      · exact ⟨_, by rw [hb]; exact hx⟩
      · exact ⟨o, kp b o hb z⟩
    tups := fun b xs z => by
      rw [upd_ne (at_ne e z exo_tup), upd_ne (ne_of_none z fresh)]
      exact z
    frzs := fun b o v z => by
      rw [upd_ne (at_ne e z exo_frz), upd_ne (ne_of_none z fresh)]
      exact z
    tbls := fun b ps z => ⟨#[], by
      rw [upd_ne (at_ne e z exo_tbl), upd_ne (ne_of_none z fresh), z]
      simp⟩ }
  refine h dx _ fresh dne (I.un (t' := tk1) un fun b o z => ?_)
  by_cases hb : b = a
  · subst hb
    rw [upd_same] at z
    cases z
    exact exo_ok hx
  · rw [upd_ne hb] at z
    by_cases hd : b = dx
    · subst hd
      rw [upd_same] at z
      cases z
      exact exd_ok sp (relO_put (fs := []) ry fun g => True.intro)
    · rw [upd_ne hd] at z
      refine (I.hok b o z).stay (fun c v hc r => kp c v ?_ r) (fun c hc => ?_) (fun c xs hc => ?_)
      · rcases hc with hc | hc
        · rw [hc]
          exact hb
        · exact at_ne e hc exo_own
      · rw [upd_ne (at_ne e hc exo_own), upd_ne (ne_of_none hc fresh)]
        exact hc
      · rw [upd_ne (at_ne e hc exo_tup), upd_ne (ne_of_none hc fresh)]
        exact hc
/-- self.f = y, a further one -/
theorem ea_next (T : ExA X.K C) (I : Inv X pins σ H s) (e : H a = some (exo a C (some dx))) (ed : H dx = some (exd dx fs)) (hl : fs.length ≤ 900) (no : PySem.W.findIn X.K (.ref C) f = some none) (ry : RelV y u)
    (h : ∀ s', Inv X pins σ (upd H dx (exd dx ((f, y) :: fs))) s' → Q () s') : wpAny (model X.prog X.w) A (setAttr (.ref a) f u) Q E s := by
  obtain ⟨nm, q, N, bs, bm, sn, sub, ab, col, dd, k0, k1, k2, k3, k5, hC, line⟩ := T.cls
  have there : PySem.W.clsIn X.K C = some { name := nm, bases := bs, mro := .ref C :: bm, ns := N, qualname := q, hasDict := true, slotNames := sn, subclasses := sub, abstract := ab, collection := col, hasDel := false } := by
    unfold PySem.W.clsIn
    rw [hC] <;> rfl
  obtain ⟨t1, ho⟩ := exo_at I.hok e
  obtain ⟨mA, sp, rel⟩ := exd_at I.hok ed
  have inn := within_of rel
  obtain ⟨hp, g, d, t, os⟩ := s
  obtain ⟨oD, _, _, hoD, _, _⟩ := sp.count inn
  refine PySem.W.set_plain I.kIn (ox := { cls := .ref C, dict := some dx, data := .fields #[.ref t1, .none, .none, .none, .bool false, .none] }) (od := some oD) ⟨ho, rfl, rfl, hoD⟩ T.sa ?_
  refine set_next I.kIn ho sp inn (by rw [List.length_map]; omega) there rfl line rfl no fun h1 tk1 kp sp1 => ?_
  have hd : ∃ o, h1.get? dx = some o := by
    obtain ⟨o, _, _, z, _⟩ := sp1
    exact ⟨o, z⟩
  refine h _ (I.write (t' := tk1) (x := dx) (e := dx) (o := exd dx ((f, y) :: fs)) ?_ (.inl rfl) kp hd (exd_ok sp1 (relO_put ry rel)))
  rw [ed]
  exact True.intro
end
/-- self.f = e within such an __init__ -/
def tEa (K : PySem.W.Frag) (f : Str) (to te : TE) : TS := fun D σ H => te σ H fun y H1 => to σ H1 fun x H2 => ∃ a C : Addr, x = .ref a ∧ ExA K C ∧ PySem.W.findIn K (.ref C) f = some none ∧
  ((H2 a = some (exo a C none) ∧ ∀ dx, H2 dx = none → dx ≠ a → D.nx σ (upd (upd H2 dx (exd dx [(f, y)])) a (exo a C (some dx)))) ∨
    ∃ (dx : Addr) (fs : List (Str × V)), H2 a = some (exo a C (some dx)) ∧ H2 dx = some (exd dx fs) ∧ fs.length ≤ 900 ∧ D.nx σ (upd H2 dx (exd dx ((f, y) :: fs))))
section
variable {X : Cx} {o e : Expr} {es : List Expr} {to te : TE} {ta : TA} {f : Str} {p p' p1 p2 pos : Pos}
theorem ps_ea (ho : PE X o to) (he : PE X e te) (sw : swapsWith e (some (.Attribute o f p')) pos.line X.env = pure false := by rfl) : PS X (.Assign [.Attribute o f p'] e pos) (tEa X.K f to te) := by
  refine ⟨fun pins s σ H D I h => ?_⟩
  refine plainObj_wpAny_Assign_Attribute ?_ sw
  refine thn (he.run pins s σ H _ I h) fun v s1 ⟨y, H1, I1, r1, q1⟩ => ?_
  refine thn (ho.run pins s1 σ H1 _ I1 q1) fun u s2 ⟨x, H2, I2, r2, a, C, ex, T, no, q⟩ => ?_
  subst ex
  obtain rfl : u = Value.ref a := r2
  rcases q with ⟨ea, q⟩ | ⟨dx, fs, ea, ed, hl, q⟩
  · exact ea_first T I2 ea no r1 fun dx s' n ne J => ⟨σ, _, J, q dx n ne⟩
  · exact ea_next T I2 ea ed hl no r1 fun s' J => ⟨σ, _, J, q⟩
/-- C(e, ..) of such a class, to be raised -/
theorem pmk_ea {CX : CXT} {x : Str} {C fI : Addr} {k : Nat} {fd : FuncData} {ps : List Str} {sp : Sp} {ds : List Value} {dvs : List V} (T : ExA X.K C) (iC : PySem.W.findIn X.K (.ref C) "__init__" = some (some (.ref fI))) (tI : PySem.W.typeIn X.K (.ref fI) = some (.type "function"))
    (F1 : FnOk X.prog X.w X.K X.mg X.base CX k fI fd ps sp) (hr : Room (k + 1) X.A) (hb : Binds X.K fd ps ds) (hd : Vals dvs ds) (hx : Passes CX X (fun _ _ _ => False)) (hg : Gl X x) (hm : X.mg x = some (.ref C)) (ha : PA X (e :: es) ta)
    (hdb : (x == ("__debug__" : Str)) = false := by decide) (he : starEach (e :: es) X.env = (false, eval e X.env) :: starEach es X.env := by rfl) (hpl : (backTo pos (starEach es X.env)).any (·.1) = false := by rfl) :
    PMk X (.Call (.Name x p) (e :: es) [] pos) (tMkO C sp dvs ta) := by
  intro pins s σ H Q I h
  obtain ⟨nm, q, N, bs, bm, sn, sub, ab, col, dd, k0, k1, k2, k3, k5, hC, line⟩ := T.cls
  refine wpAny_Call_Name_kw (ld_glob I hg hm ?_ hdb)
  refine PySem.W.callWith_K (h₀ := X.base) I.ok.mod.kin T.kC ?_ he hpl
  refine thn (ha.run pos pins s σ H _ I h) fun us s1 ⟨vs, H1, I1, r1, hz, q1⟩ => ⟨I1.kIn, ?_⟩
  show wpAny _ _ (call (.ref C) us) _ _ _
  obtain ⟨hp, g, dr, tk, os⟩ := s1
  have le1 : hp.objs.size ≤ hp.objs.size + 1 := Nat.le_succ _
  have free : H1 (hp.objs.size + 1) = none := I1.hok.fresh le1
  have ask := q1 (hp.objs.size + 1) free
  have stay : ∀ b o, hp.get? b = some o → ((hp.push (PySem.W.kdv_tup us)).push (PySem.HandSPX.excO C hp.objs.size)).get? b = some o := fun b o z => Heap.get?_push_of_some _ (Heap.get?_push_of_some _ z)
  have got : ((hp.push (PySem.W.kdv_tup us)).push (PySem.HandSPX.excO C hp.objs.size)).get? (hp.objs.size + 1) = some (PySem.HandSPX.excO C hp.objs.size) := by heap_get
  have I2 : Inv X pins σ (upd H1 (hp.objs.size + 1) (exo (hp.objs.size + 1) C none)) ⟨(hp.push (PySem.W.kdv_tup us)).push (PySem.HandSPX.excO C hp.objs.size), g, dr, tk, os⟩ := by
    refine I1.laid (t' := tk) (a := hp.objs.size + 1) (o := exo (hp.objs.size + 1) C none) ?_ le1 (exo_ok got)
    exact stay
  have r2 : Vals (V.ref (hp.objs.size + 1) :: (vs ++ dvs)) (Value.ref (hp.objs.size + 1) :: (us ++ ds)) := .cons rfl (r1.append hd)
  have len : (Value.ref (hp.objs.size + 1) :: us ++ ds).length = ps.length := by
    have z := r2.length
    rw [F1.len _ _ _ _ ask] at z
    exact z.symm
  have few : us.length ≤ sizeLine := by
    rw [← Paired.length r1, sizeLine_eq]
    omega
  refine wpAny_call ?_
  refine PySem.HandSPX.call_own F.excBase_ArithmeticError (fun Y => line.has Y) (I1.kIn _ _ hC) (PySem.W.looks_findIn I1.kIn iC) (fun self => PySem.W.bind_fn I1.kIn self tI) few ?_
  refine codeAny_mono (F1.run _ X.stack _ _ ⟨Value.ref (hp.objs.size + 1) :: us, []⟩ (Value.ref (hp.objs.size + 1) :: (us ++ ds)) _ _ (fun _ _ _ => False) (hr.make C us []) (I2.env0.make C us []) (hb _ (Value.ref (hp.objs.size + 1) :: us) I2.kIn len) r2 ask) fun r s' back => ?_
  cases r with
  | error er => exact hx pins σ _ _ er s' I2 back
  | ok fl =>
    cases fl with
    | ret u =>
      obtain ⟨v, H2, os2, bare2, un2, hok2, rv, ev, d, fs, ea, ed, hd1, q2⟩ := back
      subst ev
      obtain ⟨h2, g2, d2, t2, os'⟩ := s'
      exact ⟨rv, mk_end (raises_own T.exC T.tyC) I1 le1 stay un2 hok2 os2 bare2 ea ed hd1 q2⟩
    | next => exact False.elim back
    | brk => exact False.elim back
    | cont => exact False.elim back
end
end L2

/-! from K4D -/
namespace K1
open PySem L2
theorem lstOf_same {H H' : Hp} {v : V} (d : Dat H v) (s : Same H H') : lstOf H' v = lstOf H v := by
  cases d with
  | lst e _ => rw [lstOf_of e, lstOf_of (s _ _ e)]
  | tup e _ => rw [lstOf_tup e, lstOf_tup (s _ _ e)]
  | dic e => rw [lstOf_dic e, lstOf_dic (s _ _ e)]
  | _ => rfl
theorem tupOf_same {H H' : Hp} {v : V} (d : Dat H v) (s : Same H H') : tupOf H' v = tupOf H v := by
  cases d with
  | lst e _ => rw [tupOf_lst e, tupOf_lst (s _ _ e)]
  | tup e _ => rw [tupOf_of e, tupOf_of (s _ _ e)]
  | dic e => rw [tupOf_dic e, tupOf_dic (s _ _ e)]
  | _ => rfl
theorem firstBad_same {H H' : Hp} {v : V} {most : Int} {bar : List Str} (d : Dat H v) (s : Same H H') : firstBad H' v most bar = firstBad H v most bar := by
  unfold firstBad
  rw [lstOf_same d s]
/-! ### raise InvalidProgram(part, at) -/
/-- what is wished where it leaves -/
def Rz (C : Addr) (H : Hp) (part at_ : V) (E : XK) : Prop := ∀ (d : Addr) (H' : Hp), Same H H' → H d = none → H' d = some (.xd [("at", at_), ("part", part)]) → E (.ref C) (some d) H'
theorem Rz.later {C : Addr} {H H1 : Hp} {part at_ : V} {E : XK} (r : Rz C H part at_ E) (s : Same H H1) : Rz C H1 part at_ E := fun d H' s' n e => r d H' (s.trans s') (s.free n) e
def spIP (C : Addr) : Sp := fun vs H Q _ => ∃ (a : Addr) (p q : V), vs = [.ref a, p, q] ∧ H a = some (exo a C none) ∧
  ∀ (dx : Addr) (H' : Hp), H dx = none → dx ≠ a → H' a = some (exo a C (some dx)) → H' dx = some (exd dx [("at", q), ("part", p)]) → (∀ b o, H b = some o → b ≠ a → H' b = some o) → Q .non H'
section
variable {P : Program} {w : World} {K : PySem.W.Frag} {mg : Str → Option Value} {base : Heap}
/-- the class as its raisers know it -/
structure Ipc (P : Program) (w : World) (K : PySem.W.Frag) (mg : Str → Option Value) (base : Heap) (C : Addr) : Prop where
  T : ExA K C
  ex : ∃ (f : Addr) (fd : FuncData), PySem.W.findIn K (.ref C) "__init__" = some (some (.ref f)) ∧ PySem.W.typeIn K (.ref f) = some (.type "function") ∧ FnOk P w K mg base CX0 1 f fd ["self", "part", "at"] (spIP C) ∧ Binds K fd ["self", "part", "at"] []
  g : mg "InvalidProgram" = some (.ref C)
end
section
variable {X : Cx} {W : WX} {C : Addr} {j : Nat} {e1 e2 : Expr} {t1 t2 : TE} {p pos pos2 : Pos}
def tRip (C : Addr) (W : WX) (t1 t2 : TE) : TS := fun _ σ H => tMkO C (spIP C) [] (tCons t1 (tCons t2 tNil)) σ H fun cls d H' => W cls d σ H'
theorem ps_rip (c : Ipc X.prog X.w X.K X.mg X.base C) (hc : X.calm = true) (tk : Takes X W) (hr : Room j X.A) (hj : 2 ≤ j) (h1 : PE X e1 t1) (h2 : PE X e2 t2) (hg : Gl X "InvalidProgram" := by rfl)
    (s1 : starEach [e1, e2] X.env = (false, eval e1 X.env) :: starEach [e2] X.env := by rfl) (s2 : starEach [e2] X.env = (false, eval e2 X.env) :: starEach [] X.env := by rfl) (hpl : (backTo pos (starEach [e2] X.env)).any (·.1) = false := by rfl) :
    PS X (.Raise (some (.Call (.Name "InvalidProgram" p) [e1, e2] [] pos)) none pos2) (tRip C W t1 t2) := by
  obtain ⟨f, fd, iC, tI, G, b⟩ := c.ex
  exact ps_raise hc tk (pmk_ea c.T iC tI G (hr.mono hj) b .nil pass0 hg c.g (pa_cons h1 (pa_cons h2 pa_nil s2) s1) (by decide) s1 hpl)
/-- its reading, behind the two arguments' -/
theorem rip_rd {H : Hp} {p q : V} {E : XK} (h : Rz C H p q E) : ([p, q] : List V).length ≤ 1000 ∧ ∀ a, H a = none → spIP C (.ref a :: ([p, q] ++ [])) (upd H a (exo a C none))
    (fun v H2 => v = .non ∧ ∃ (d : Addr) (fs : List (Str × V)), H2 a = some (exo a C (some d)) ∧ H2 d = some (exd d fs) ∧ H d = none ∧ E (.ref C) (some d) (upd (del H2 a) d (.xd fs))) (fun _ _ _ => False) := by
  refine ⟨(by show 2 ≤ 1000; decide), fun a ha => ⟨a, p, q, rfl, upd_same, fun dx H' n1 n2 e1 e2 kp => ?_⟩⟩
  have n0 : H dx = none := by
    rw [upd_ne n2] at n1
    exact n1
  refine ⟨rfl, dx, _, e1, e2, n0, h dx _ (fun b o z => ?_) n0 upd_same⟩
  rw [upd_ne (ne_of_none z n0), del_ne (ne_of_none z ha)]
  exact kp b o (by rw [upd_ne (ne_of_none z ha)]; exact z) (ne_of_none z ha)
end
/-! ### check_names -/
def namesAt (H : Hp) (v : V) (least most : Int) (bar : List Str) : V := match firstBad H v most bar with
  | .non => (match lstOf H v with | some xs => if (xs.length : Int) < least then .int (-1) else .non | none => .non)
  | x => x
theorem firstBad_kind {H : Hp} {v : V} {most : Int} {bar : List Str} : (firstBad H v most bar = .non ∧ ∃ xs, lstOf H v = some xs) ∨ ∃ i, firstBad H v most bar = .int i := by
  unfold firstBad
  cases h : lstOf H v with
  | none => exact .inr ⟨_, rfl⟩
  | some xs =>
    show ((if (most : Int) < (xs.length : Int) then V.int (-1) else optV (badFrom bar xs [] 0)) = .non ∧ _) ∨ ∃ i, (if (most : Int) < (xs.length : Int) then V.int (-1) else optV (badFrom bar xs [] 0)) = .int i
    by_cases c : (most : Int) < (xs.length : Int)
    · rw [if_pos c]
      exact .inr ⟨_, rfl⟩
    · rw [if_neg c]
      cases badFrom bar xs [] 0 with
      | none => exact .inl ⟨rfl, xs, rfl⟩
      | some i => exact .inr ⟨_, rfl⟩
section
variable {P : Program} {w : World} {K : PySem.W.Frag} {mg : Str → Option Value} {base : Heap} {C : Addr}
def spNames (C : Addr) : Sp := fun vs H Q E => ∃ (part : Str) (v : V) (least most : Int) (b : Addr) (bar : List Str), vs = [.str part, v, .int least, .int most, .ref b] ∧ Dat H v ∧ H b = some (.lst (bar.map V.str)) ∧ most ≤ 100 ∧
  (namesAt H v least most bar = .non → ∀ H', Same H H' → Q .non H') ∧ (namesAt H v least most bar ≠ .non → Rz C H (.str part) (namesAt H v least most bar) E)
end
end K1

/-! from K4E -/
namespace K1
open PySem L2
theorem keys_nil : keysOf [] = [] := rfl
/-! ### is_class -/
def strOf : V → Str | .str s => s | _ => default
def classOk (H : Hp) (v : V) (seen : List Str) : Bool := match tupOf H v with
  | some [n, z, f, b] => ((nameV n && !seen.contains (strOf n)) && wholeV z 1 8) && (decide (firstBad H f 3 [] = .non) && isB b)
  | _ => false
theorem classOk_four {H : Hp} {v n z f b : V} {seen : List Str} (h : tupOf H v = some [n, z, f, b]) : classOk H v seen = (((nameV n && !seen.contains (strOf n)) && wholeV z 1 8) && (decide (firstBad H f 3 [] = .non) && isB b)) := by
  unfold classOk
  rw [h]
theorem classOk_not {H : Hp} {v : V} {seen : List Str} (h : ∀ xs, tupOf H v = some xs → xs.length ≠ 4) : classOk H v seen = false := by
  unfold classOk
  cases e : tupOf H v with
  | none => rfl
  | some xs =>
    have z := h xs e
    match xs with
    | [] => rfl
    | [_] => rfl
    | [_, _] => rfl
    | [_, _, _] => rfl
    | [_, _, _, _] => exact absurd rfl z
    | _ :: _ :: _ :: _ :: _ :: _ => rfl
theorem four {xs : List V} (h : xs.length = 4) : ∃ n z f b, xs = [n, z, f, b] := by
  match xs, h with
  | [n, z, f, b], _ => exact ⟨n, z, f, b, rfl⟩
section
variable {P : Program} {w : World} {K : PySem.W.Frag} {mg : Str → Option Value} {base : Heap} {C : Addr}
def spIsClass : Sp := fun vs H Q _ => ∃ (v : V) (sd : Addr) (seen : List Str), vs = [v, .ref sd] ∧ Dat H v ∧ H sd = some (.dK (keysOf seen)) ∧ ∀ H', Same H H' → Q (.bl (classOk H v seen)) H'
/-! ### check_classes -/
def nameOf (H : Hp) (v : V) : Str := match tupOf H v with | some (n :: _) => strOf n | _ => default
def clsFrom (H : Hp) : List V → List Str → Nat → Option Nat
  | [], _, _ => none
  | v :: r, seen, i => if classOk H v seen = true then clsFrom H r (seen ++ [nameOf H v]) (i + 1) else some i
def classesAt (H : Hp) (v : V) : V := match lstOf H v with
  | none => .int (-1)
  | some xs => if (decide ((1 : Int) ≤ (xs.length : Int)) && decide ((xs.length : Int) ≤ 6)) = true then optV (clsFrom H xs [] 0) else .int (-1)
theorem classOk_same {H H' : Hp} {v : V} {seen : List Str} (d : Dat H v) (s : Same H H') : classOk H' v seen = classOk H v seen := by
  cases ht : tupOf H v with
  | none => rw [classOk_not (H := H) (fun xs e => by rw [ht] at e; cases e), classOk_not (H := H') (fun xs e => by rw [tupOf_same d s, ht] at e; cases e)]
  | some xs =>
    by_cases c4 : xs.length = 4
    · obtain ⟨n, z, f, b, rfl⟩ := four c4
      obtain ⟨a, rfl, ha⟩ := tupOf_some ht
      rw [classOk_four ht, classOk_four (by rw [tupOf_same d s]; exact ht), firstBad_same (d.itemsT ha f (by simp)) s]
    · rw [classOk_not (H := H) (fun ys e => by rw [ht] at e; cases e; exact c4), classOk_not (H := H') (fun ys e => by rw [tupOf_same d s, ht] at e; cases e; exact c4)]
theorem classOk_is {H : Hp} {v : V} {seen : List Str} (h : classOk H v seen = true) : ∃ (a : Addr) (n : Str) (z f b : V), v = .ref a ∧ H a = some (.tup [.str n, z, f, b]) ∧ nameS n = true ∧ seen.contains n = false ∧ wholeV z 1 8 = true ∧ firstBad H f 3 [] = .non ∧ isB b = true := by
  cases ht : tupOf H v with
  | none =>
    rw [classOk_not (fun xs e => by rw [ht] at e; cases e)] at h
    cases h
  | some xs =>
    by_cases c4 : xs.length = 4
    · obtain ⟨n, z, f, b, rfl⟩ := four c4
      obtain ⟨a, rfl, ha⟩ := tupOf_some ht
      rw [classOk_four ht] at h
      simp only [Bool.and_eq_true] at h
      obtain ⟨⟨⟨h1, h2⟩, h3⟩, h4, h5⟩ := h
      obtain ⟨t, rfl, hz⟩ := nameV_is h1
      refine ⟨a, t, z, f, b, rfl, ha, hz, ?_, h3, of_decide_eq_true h4, h5⟩
      have h2' : (!seen.contains t) = true := h2
      cases q : seen.contains t with
      | false => rfl
      | true => rw [q] at h2'; cases h2'
    · rw [classOk_not (fun ys e => by rw [ht] at e; cases e; exact c4)] at h
      cases h
def spClasses (C : Addr) : Sp := fun vs H Q E => ∃ (v : V), vs = [v] ∧ Dat H v ∧ (classesAt H v = .non → ∀ H', Same H H' → Q .non H') ∧ (classesAt H v ≠ .non → Rz C H (.str "classes") (classesAt H v) E)
end
end K1

/-! from K4F -/
namespace K1
open PySem L2
theorem drop_at {xs : List V} {i : Nat} {x : V} (h : xs[i]? = some x) : xs.drop i = x :: xs.drop (i + 1) := by
  obtain ⟨h1, h2⟩ := List.getElem?_eq_some_iff.mp h
  rw [List.drop_eq_getElem_cons h1, h2]
def radFrom : List V → Int → Nat → Option Nat
  | [], _, _ => none
  | .int r :: rest, tot, i => if (decide (r < 2) || decide ((12 : Int) < tot * r)) = true then some i else radFrom rest (tot * r) (i + 1)
  | _ :: _, _, i => some i
theorem radFrom_no {v : V} {r : List V} {tot : Int} {i : Nat} (h : ¬ intV v = true) : radFrom (v :: r) tot i = some i := by
  cases v with
  | int k => exact absurd (show intV (V.int k) = true from rfl) h
  | _ => rfl
theorem radFrom_int {k : Int} {r : List V} {tot : Int} {i : Nat} : radFrom (.int k :: r) tot i = if (decide (k < 2) || decide ((12 : Int) < tot * k)) = true then some i else radFrom r (tot * k) (i + 1) := rfl
def radicesAt (H : Hp) (v : V) (th : Int) : V := match lstOf H v with
  | none => .int (-1)
  | some xs => optV (radFrom xs th 0)
section
variable {P : Program} {w : World} {K : PySem.W.Frag} {mg : Str → Option Value} {base : Heap} {C : Addr}
/-! ### check_threshold -/
def spThr (C : Addr) : Sp := fun vs H Q E => ∃ (v : V), vs = [v] ∧ Dat H v ∧ (wholeV v 1 12 = true → ∀ H', Same H H' → Q .non H') ∧ (wholeV v 1 12 = false → Rz C H (.str "threshold") (.int (-1)) E)
/-! ### check_radices -/
def spRad (C : Addr) : Sp := fun vs H Q E => ∃ (v : V) (th : Int), vs = [v, .int th] ∧ Dat H v ∧ 1 ≤ th ∧ th ≤ 12 ∧ (radicesAt H v th = .non → ∀ H', Same H H' → Q .non H') ∧ (radicesAt H v th ≠ .non → Rz C H (.str "radices") (radicesAt H v th) E)
end
end K1

/-! from K4G -/
/-! {k: v for a in xs for b in ys}: a dict comprehension of two clauses without tests -/
namespace L2
open PySem PySem.Spec PyProof.Rows
abbrev dc2 (kx vx t0 j0 t1 j1 : Expr) (sc : Scope) (at_ : Pos) : Expr := .DictComp kx vx [⟨t0, j0, [], 0⟩, ⟨t1, j1, [], 0⟩] sc at_
theorem dc2_outer (kx vx t0 j0 t1 j1 : Expr) (sc : Scope) (at_ : Pos) (it acc : Value) (env : Env) :
    compTurn (dc2 kx vx t0 j0 t1 j1 sc at_) 0 it acc env = (do
      standAt j0.pos
      match ← pyNext it with
      | none => pure (.done .next)
      | some u =>
        letOwnedTupleGo t0 it u
        assign t0 env u
        let y ← eval j1 env
        standAt j1.pos
        let y ← foldedSetIterable j1 env y
        let _ ← runOwn (.compStart (dc2 kx vx t0 j0 t1 j1 sc at_) 1 (← holding [y] (pyIter y)) acc env) env
        again (.compLoop (dc2 kx vx t0 j0 t1 j1 sc at_) 0 it acc env)) := by rfl
theorem dc2_inner (kx vx t0 j0 t1 j1 : Expr) (sc : Scope) (at_ : Pos) (it : Value) (D : Addr) (env : Env) :
    compTurn (dc2 kx vx t0 j0 t1 j1 sc at_) 1 it (.ref D) env = (do
      standAt j1.pos
      match ← pyNext it with
      | none => pure (.done .next)
      | some u =>
        letOwnedTupleGo t1 it u
        assign t1 env u
        (do
          let ku ← eval kx env
          let vu ← holding [ku] (eval vx env)
          standAt { kx.pos with endLine := vx.pos.endLine, endCol := vx.pos.endCol }
          holding [ku, vu] (dictSet D ku vu))
        again (.compLoop (dc2 kx vx t0 j0 t1 j1 sc at_) 1 it (.ref D) env)) := by rfl
section
variable {pg : Program} {wd : World} {Ar : Around} {Rs : Result → Shared → Prop} {s0 : Shared} {kx vx t0 j0 t1 j1 : Expr} {sc : Scope} {at_ : Pos} {it acc : Value} {D : Addr} {env : Env}
/-- what is raised on the way -/
abbrev nby (pg : Program) (wd : World) (Ar : Around) (env : Env) (Rs : Result → Shared → Prop) : Value → Shared → Prop := notedBy (model pg wd) Ar env fun e s' => Rs (.error e) s'
/-- the outer loop, by an invariant and a number that falls -/
theorem dc2_loop0 (fold : ∀ y, foldedSetIterable j1 env y = pure y) (Iv : Nat → Shared → Prop)
    (turn : ∀ n s, Iv n s → wpAny (model pg wd) Ar (pyNext it) (fun r s1 => match r with
      | none => Rs (.ok .next) s1
      | some u => wpAny (model pg wd) Ar (letOwnedTupleGo t0 it u) (fun _ s2 => wpAny (model pg wd) Ar (assign t0 env u) (fun _ s3 =>
          wpAny (model pg wd) Ar (eval j1 env) (fun y s4 => wpAny (model pg wd) Ar (pyIter y) (fun it1 s5 =>
            codeAny (model pg wd) Ar (.compStart (dc2 kx vx t0 j0 t1 j1 sc at_) 1 it1 acc env) (fun r s' => match r with
              | .ok _ => ∃ m, m < n ∧ Iv m s'
              | .error _ => False) s5) (nby pg wd Ar env Rs) s4) (nby pg wd Ar env Rs) s3) (nby pg wd Ar env Rs) s2) (nby pg wd Ar env Rs) s1) (nby pg wd Ar env Rs) s)
    (n : Nat) (h : Iv n s0) : codeAny (model pg wd) Ar (.compLoop (dc2 kx vx t0 j0 t1 j1 sc at_) 0 it acc env) Rs s0 := by
  refine codeAny_loop rfl Iv (fun n s hI => ?_) n h
  show wpAny _ Ar ((compTurn (dc2 kx vx t0 j0 t1 j1 sc at_) 0 it acc env).onRaise (fun x => do noteFrame x env; theTreesLotGoes x)) _ _ s
  refine wpAny_noted ?_
  rw [dc2_outer]
  refine wpAny_bind (wpAny_standAt (wpAny_bind ?_))
  refine wpAny_mono (turn n s hI) (fun r s1 h1 => ?_) fun _ _ z => z
  cases r with
  | none => exact wpAny_pure h1
  | some u =>
    refine wpAny_bind (wpAny_mono h1 (fun _ s2 h2 => ?_) fun _ _ z => z)
    refine wpAny_bind (wpAny_mono h2 (fun _ s3 h3 => ?_) fun _ _ z => z)
    refine wpAny_bind (wpAny_mono h3 (fun y s4 h4 => ?_) fun _ _ z => z)
    refine wpAny_bind (wpAny_standAt (wpAny_bind ?_))
    refine wpAny_of_eq (fold y) (wpAny_bind (wpAny_holding ?_))
    refine wpAny_mono h4 (fun it1 s5 h5 => ?_) fun _ _ z => z
    refine wpAny_bind (wpAny_runOwn ?_)
    rw [Around.mark_none]
    refine codeAny_mono h5 fun r s' hr => ?_
    cases r with
    | error e => exact hr.elim
    | ok f =>
      first
        | exact wpAny_pure ⟨rfl, hr⟩
        | exact wpAny_bind (wpAny_pure (wpAny_pure ⟨rfl, hr⟩))
/-- the inner loop -/
theorem dc2_loop1 (Iv : Nat → Shared → Prop)
    (turn : ∀ n s, Iv n s → wpAny (model pg wd) Ar (pyNext it) (fun r s1 => match r with
      | none => Rs (.ok .next) s1
      | some u => wpAny (model pg wd) Ar (letOwnedTupleGo t1 it u) (fun _ s2 => wpAny (model pg wd) Ar (assign t1 env u) (fun _ s3 =>
          wpAny (model pg wd) Ar (eval kx env) (fun ku s4 => wpAny (model pg wd) Ar (eval vx env) (fun vu s5 =>
            wpAny (model pg wd) Ar (dictSet D ku vu) (fun _ s6 => ∃ m, m < n ∧ Iv m s6) (nby pg wd Ar env Rs) s5) (nby pg wd Ar env Rs) s4) (nby pg wd Ar env Rs) s3) (nby pg wd Ar env Rs) s2) (nby pg wd Ar env Rs) s1) (nby pg wd Ar env Rs) s)
    (n : Nat) (h : Iv n s0) : codeAny (model pg wd) Ar (.compLoop (dc2 kx vx t0 j0 t1 j1 sc at_) 1 it (.ref D) env) Rs s0 := by
  refine codeAny_loop rfl Iv (fun n s hI => ?_) n h
  show wpAny _ Ar ((compTurn (dc2 kx vx t0 j0 t1 j1 sc at_) 1 it (.ref D) env).onRaise (fun x => do noteFrame x env; theTreesLotGoes x)) _ _ s
  refine wpAny_noted ?_
  rw [dc2_inner]
  refine wpAny_bind (wpAny_standAt (wpAny_bind ?_))
  refine wpAny_mono (turn n s hI) (fun r s1 h1 => ?_) fun _ _ z => z
  cases r with
  | none => exact wpAny_pure h1
  | some u =>
    refine wpAny_bind (wpAny_mono h1 (fun _ s2 h2 => ?_) fun _ _ z => z)
    refine wpAny_bind (wpAny_mono h2 (fun _ s3 h3 => ?_) fun _ _ z => z)
    refine wpAny_bind (wpAny_bind (wpAny_mono h3 (fun ku s4 h4 => ?_) fun _ _ z => z))
    refine wpAny_bind (wpAny_holding (wpAny_mono h4 (fun vu s5 h5 => ?_) fun _ _ z => z))
    refine wpAny_bind (wpAny_standAt (wpAny_holding (wpAny_mono h5 (fun _ s6 h6 => ?_) fun _ _ z => z)))
    exact wpAny_pure ⟨rfl, h6⟩
/-- the inner source is made an iterator, or was one -/
theorem dc2_start1 (here : codeAny (model pg wd) Ar (.compLoop (dc2 kx vx t0 j0 t1 j1 sc at_) 1 it acc env) Rs s0)
    (made : wpAny (model pg wd) Ar (pyIter it) (fun it' s' => codeAny (model pg wd) Ar (.compLoop (dc2 kx vx t0 j0 t1 j1 sc at_) 1 it' acc env) Rs s') (nby pg wd Ar env Rs) s0) :
    codeAny (model pg wd) Ar (.compStart (dc2 kx vx t0 j0 t1 j1 sc at_) 1 it acc env) Rs s0 := by
  refine codeAny_of_tree ?_
  show wpAny _ _ ((compStart (dc2 kx vx t0 j0 t1 j1 sc at_) 1 it acc env).onRaise (fun x => do noteFrame x env; standAt theWindowsPlace)) _ _ s0
  refine wpAny_notedAt ?_
  unfold compStart
  show wpAny _ _ (ask >>= _) _ _ s0
  refine wpAny_bind (wpAny_askSetting (wpAny_ite ?_))
  split
  · first
      | exact wpAny_bind (wpAny_pure (wpAny_pure (And.intro rfl here)))
      | exact wpAny_pure (And.intro rfl here)
  · refine wpAny_bind (wpAny_rule ?_)
    first
      | exact wpAny_bind (wpAny_standAt (wpAny_bind (wpAny_mono made (fun it' s' z => wpAny_pure (And.intro rfl z)) fun _ _ z => z)))
      | (show wpAny _ _ (standAt j1.pos >>= _) _ _ s0; exact wpAny_bind (wpAny_standAt (wpAny_bind (wpAny_mono made (fun it' s' z => wpAny_pure (And.intro rfl z)) fun _ _ z => z))))
end
section
variable {X : Cx}
/-- its reading: W tells where the outer walk stands, W1 the inner one -/
def tDc2 (wi : TI) (g : TG) (wi1 : TI) (g1 : TG) (tk tv : TE) (vs vs1 : List Nat) : TE := fun σ H Q => wi σ H fun J H1 => ∀ D, H1 D = none → ∃ W : Nat → Nat → Hp → Prop, (∃ m, W 0 m (upd H1 D (.dK []))) ∧ ∀ i m H, W i m H →
  (J.stop i H ∧ Q (.ref D) H) ∨ (J.go i H ∧ ∃ Nx : Hp → Prop, (∀ H', Nx H' → ∃ m', m' < m ∧ W (i + 1) m' H') ∧ ∀ x H', J.yld i H x H' → g x (wipe σ vs) H' fun σ2 H2 => wipe σ2 vs = wipe σ vs ∧
    wi1 σ2 H2 fun J1 H4 => ∃ W1 : Nat → Nat → Hp → Prop, (∃ m, W1 0 m H4) ∧ ∀ j k H, W1 j k H →
      (J1.stop j H ∧ Nx H) ∨ (J1.go j H ∧ ∃ Nx1 : Hp → Prop, (∀ H', Nx1 H' → ∃ k', k' < k ∧ W1 (j + 1) k' H') ∧ ∀ x H', J1.yld j H x H' → g1 x (wipe σ2 vs1) H' fun σ3 H5 => wipe σ3 vs1 = wipe σ2 vs1 ∧
        tk σ3 H5 fun y H6 => tv σ3 H6 fun z H7 => ∃ kvs q, y = kV q ∧ H7 D = some (.dK kvs) ∧ kvs.length < sizeLine ∧ Nx1 (upd H7 D (.dK (putK kvs q z)))))
/-- a rule within the comprehension's block, whatever the block's frame is -/
abbrev InB (X : Cx) (sc : Scope) (R : Cx → Prop) : Prop := ∀ (s : Shared) (H : Hp) (C : Addr) (cl : List (Str × Addr)) (fp : List Addr), R (X.blk s H sc (compEnvC sc cl C X.env) fp)
theorem dc2_core {pins : List (Addr × Obj)} {s : Shared} {σ : St} {H : Hp} {Q : VK} {kx vx t0 j0 t1 j1 : Expr} {sc : Scope} {own : List (Str × Nat)} {vs1 : List Nat} {at_ pos' : Pos} {wi wi1 : TI} {g g1 : TG} {tk tv : TE} {use : Option (Value → Sem Unit)} {Qf : Value → Shared → Prop}
    (calm : X.calm = true) (nd : X.N.Nodup) (I : Inv X pins σ H s) (hi : PI X t0 j0 wi) (blk : BlkOk X.N X.env.scope sc own) (sub : ∀ i ∈ vs1, i ∈ own.map (·.2))
    (hg : InB X sc fun Y => PG Y t0 g) (hi1 : InB X sc fun Y => PI Y t1 j1 wi1) (hg1 : InB X sc fun Y => PG Y t1 g1) (hk : InB X sc fun Y => PE Y kx tk) (hv : InB X sc fun Y => PE Y vx tv)
    (fold0 : ∀ x, foldedSetIterable j0 X.env x = pure x) (fold1 : ∀ env x, foldedSetIterable j1 env x = pure x) (h : tDc2 wi g wi1 g1 tk tv (own.map (·.2)) vs1 σ H Q)
    (out : ∀ D C s' m H', Inv X pins σ H' s' → Q (.ref D) H' → s'.heap.Ns C m → FpOk X pins H' C → compPost (model X.prog X.w) X.A X.xe use Qf (.ref D) C (.ok .next) s') :
    wpAny (model X.prog X.w) X.A (comprehension (dc2 kx vx t0 j0 t1 j1 sc at_) sc X.env pos' newDict false (eval j0 X.env) use) Qf X.xe s := by
  have seen : ∀ y ∈ sc.names, y.2 = .free → ∃ c, X.env.cells.lookup y.1 = some c := fun y hy e => by
    rcases blk.free y hy e with k | k
    · exact I.ok.has _ (.inl k)
    · exact I.ok.has _ (.inr k)
  refine wpAny_comprehension_free (use := use) rfl fold0 (closure_ok seen) blk.kind (fun y hy e => by rw [blk.uniq y hy, e]) ?_
  refine thn (hi.run pins s σ H _ I h) fun xv s1 hx => thn hx fun itv s2 h2 => ?_
  obtain ⟨it, fp, tn, J, H2, e, I2, T, st2, f2, q⟩ := h2
  subst e
  refine wpAny_newObj_type (newEnv_comp ?_)
  generalize hD : s2.heap.objs.size = D
  have freeD : H2 D = none := I2.hok.fresh (Nat.le_of_eq hD)
  obtain ⟨W, ⟨m0, w0⟩, turn⟩ := q D freeD
  -- behind the new dict
  generalize hs3 : ({ s2 with heap := s2.heap.push { cls := .type "dict", data := .dict #[] } } : Shared) = s3
  have push3 : s3.heap = s2.heap.push { cls := .type "dict", data := .dict #[] } := by rw [← hs3]
  have I3 : Inv X pins σ (upd H2 D (.dK [])) s3 := by
    rw [← hs3]
    refine I2.laid (t' := s2.toks) (fun b o z => Heap.get?_push_of_some _ z) (Nat.le_of_eq hD) ?_
    rw [← hD]
    exact dk_empty s2.heap I2.big
  have below : ∀ b ∈ fp, b < s2.heap.objs.size := fun b hb => by
    obtain ⟨o, z, _⟩ := T.obj _ _ st2 b hb
    exact Heap.lt_size z
  have f3 : ∀ b ∈ fp, FpOk X pins (upd H2 D (.dK [])) b ∧ b < s3.heap.objs.size := fun b hb => by
    have lt := below b hb
    refine ⟨⟨?_, (f2 b hb).2⟩, ?_⟩
    · rw [upd_ne (by rw [← hD]; exact Nat.ne_of_lt lt)]
      exact (f2 b hb).1
    · rw [push3, Heap.size_push]
      exact Nat.lt_succ_of_lt lt
  have st3 : tn 0 s3.heap := T.keep _ _ _ st2 fun b _ o z => by
    rw [push3]
    exact Heap.get?_push_of_some _ z
  have I4 := block_start I3 blk nd f3
  generalize hcl : cellsFrom (s3.heap.objs.size + 1) sc.names (cloFrom X.env.cells sc.names []) = cl at I4
  have rg := hg s3 (upd H2 D (.dK [])) s3.heap.objs.size cl fp
  have ri := hi1 s3 (upd H2 D (.dK [])) s3.heap.objs.size cl fp
  have rg1 := hg1 s3 (upd H2 D (.dK [])) s3.heap.objs.size cl fp
  have rk := hk s3 (upd H2 D (.dK [])) s3.heap.objs.size cl fp
  have rv := hv s3 (upd H2 D (.dK [])) s3.heap.objs.size cl fp
  have nofp : ∀ b ∈ fp, (upd H2 D (.dK [])) b = none := fun b hb => (f3 b hb).1.1
  show codeAny _ _ (.compStart (dc2 kx vx t0 j0 t1 j1 sc at_) 0 (.ref it) (.ref D) (compEnvC sc cl s3.heap.objs.size X.env)) (compPost (model X.prog X.w) X.A X.xe use Qf (.ref D) s3.heap.objs.size)
    { s3 with heap := pushCells (s3.heap.push { cls := .type "dict", data := .dict #[] }) sc.names }
  generalize hce : compEnvC sc cl s3.heap.objs.size X.env = ce at I4 rg ri rg1 rk rv ⊢
  have frame : ce.locals = s3.heap.objs.size := by
    subst hce
    rfl
  generalize hH3 : upd H2 D (.dK []) = H3 at I3 I4 rg ri rg1 rk rv w0 nofp f3
  generalize hs4 : ({ s3 with heap := pushCells (s3.heap.push { cls := .type "dict", data := .dict #[] }) sc.names } : Shared) = s4 at I4 ⊢
  have st4 : tn 0 s4.heap := T.keep _ _ _ st3 fun b _ o z => by
    rw [← hs4]
    exact pushCells_keeps _ _ _ _ (Heap.get?_push_of_some _ z)
  have foot : ∀ {σ' : St} {H' : Hp} {s' : Shared}, Inv (X.blk s3 H3 sc ce fp) [] σ' H' s' → (∀ b ∈ fp, H' b = none) → ∀ b ∈ fp, FpOk (X.blk s3 H3 sc ce fp) [] H' b := fun {σ' H' s'} I' hn b hb =>
    ⟨hn b hb, (I'.ok.exf b hb).1, I'.ok.exfs b hb, .inl hb, fun x c z => (I'.ok.exf b hb).2 x c z, fun p hp => absurd (show p ∈ ([] : List (Addr × Obj)) ++ [] from hp) (by simp)⟩
  have walk : codeAny (model X.prog X.w) X.A (.compLoop (dc2 kx vx t0 j0 t1 j1 sc at_) 0 (.ref it) (.ref D) ce) (compPost (model X.prog X.w) X.A X.xe use Qf (.ref D) s3.heap.objs.size) s4 := by
    refine dc2_loop0 (fold1 ce) (fun n s' => ∃ i H', Inv (X.blk s3 H3 sc ce fp) [] (wipe σ (own.map (·.2))) H' s' ∧ tn i s'.heap ∧ (∀ b ∈ fp, H' b = none) ∧ W i n H') ?_ m0 ⟨0, H3, I4, st4, nofp, w0⟩
    rintro n s5 ⟨i, H5, I5, st5, n5, w5⟩
    rcases turn i n H5 w5 with ⟨stop, qq⟩ | ⟨go, Nx, next, step⟩
    · refine thnF (T.done (X.blk s3 H3 sc ce fp) rfl rfl rfl calm i [] s5 _ H5 (fun _ _ => False) I5 (foot I5 n5) st5 stop) fun r s6 ⟨hr, I6⟩ => ?_
      subst hr
      have I7 : Inv X pins σ H5 s6 := I3.call' (ch := fp) I6.os I6.base I6.hok I6.bare fun b hb => by
        have z := (f3 b hb).1
        exact ⟨z.2.2.2.1, z.2.1, z.2.2.2.2.1, z.2.2.2.2.2⟩
      have noC : H5 s3.heap.objs.size = none := by
        rw [← frame]
        exact I6.free
      obtain ⟨m, hn, _⟩ := I6.loc
      have hn : s6.heap.Ns s3.heap.objs.size m := by
        rw [← frame]
        exact hn
      exact out D s3.heap.objs.size s6 m H5 I7 qq hn (I3.fpOk (Nat.le_refl _) noC)
    · refine thnF (T.item (X.blk s3 H3 sc ce fp) rfl rfl rfl calm i [] s5 _ H5 (fun _ _ => False) I5 (foot I5 n5) st5 go) fun r s6 ⟨u, hr, h6⟩ => ?_
      subst hr
      refine thnF h6 fun _ s7 ⟨x, H7, I7, r7, y7, st7, n7⟩ => ?_
      have P7 := I7.pinned (foot I7 n7) (T.obj _ _ st7)
      refine thnF (rg.run _ s7 _ H7 x u _ P7 r7 (step x H7 y7)) fun _ s8 ⟨σ8, H8, I8, hw8, q8⟩ => ?_
      -- from any slots that know what was known at the turn's start, the turn ends
      have over : ∀ {σ9 : St} {s' : Shared} {H' : Hp}, Inv (X.blk s3 H3 sc ce fp) ([] ++ pinsAt fp s7.heap) σ9 H' s' → (wipe σ (own.map (·.2))).length = σ9.length → (∀ (j : Nat) v, (wipe σ (own.map (·.2)))[j]? = some (some v) → σ9[j]? = some (some v)) → Nx H' →
          ∃ m, m < n ∧ ∃ i H', Inv (X.blk s3 H3 sc ce fp) [] (wipe σ (own.map (·.2))) H' s' ∧ tn i s'.heap ∧ (∀ b ∈ fp, H' b = none) ∧ W i m H' := fun {σ9 s' H'} I' len know nx => by
        obtain ⟨m', lt, w'⟩ := next H' nx
        have still : ∀ b ∈ fp, ∀ o, s7.heap.get? b = some o → s'.heap.get? b = some o ∧ H' b = none := fun b hb o z =>
          let k := I'.pin (b, o) (List.mem_append_right _ (List.mem_append_right _ (mem_pinsAt hb z)))
          ⟨k.1, k.2.1⟩
        refine ⟨m', lt, i + 1, H', (I'.unpinned (pins := [])).weak len know, ?_, fun b hb => ?_, w'⟩
        · exact T.keep _ _ _ st7 fun b hb o z => (still b hb o z).1
        · obtain ⟨o, z, _⟩ := T.obj _ _ st7 b hb
          exact (still b hb o z).2
      have len8 : (wipe σ (own.map (·.2))).length = σ8.length := by rw [← hw8, wipe_length]
      have know9 : ∀ (j : Nat) v, (wipe σ (own.map (·.2)))[j]? = some (some v) → (wipe σ8 vs1)[j]? = some (some v) := fun j v z => by
        rw [← hw8] at z
        obtain ⟨z1, z2⟩ := wipe_some z
        rw [wipe_out fun k => z2 (sub j k)]
        exact z1
      refine thnF (ri.run _ s8 σ8 H8 _ I8 q8) fun xv s10 hx => thnF hx fun itv s11 h11 => ?_
      obtain ⟨it1, fp1, tn1, J1, H11, e1, I11, T1, st11, f11, W1, ⟨m1, w1⟩, turn1⟩ := h11
      subst e1
      have foot1 : ∀ {H' : Hp}, (∀ b ∈ fp1, H' b = none) → ∀ b ∈ fp1, FpOk (X.blk s3 H3 sc ce fp) ([] ++ pinsAt fp s7.heap) H' b := fun hn b hb => ⟨hn b hb, (f11 b hb).2⟩
      have inner : codeAny (model X.prog X.w) X.A (.compLoop (dc2 kx vx t0 j0 t1 j1 sc at_) 1 (.ref it1) (.ref D) ce)
          (fun r s' => match r with
            | .ok _ => ∃ m, m < n ∧ ∃ i H', Inv (X.blk s3 H3 sc ce fp) [] (wipe σ (own.map (·.2))) H' s' ∧ tn i s'.heap ∧ (∀ b ∈ fp, H' b = none) ∧ W i m H'
            | .error _ => False) s11 := by
        refine dc2_loop1 (fun k s' => ∃ j H', Inv (X.blk s3 H3 sc ce fp) ([] ++ pinsAt fp s7.heap) (wipe σ8 vs1) H' s' ∧ tn1 j s'.heap ∧ (∀ b ∈ fp1, H' b = none) ∧ W1 j k H') ?_ m1
          ⟨0, H11, I11.weak (wipe_length _ _) (fun j v z => (wipe_some z).1), st11, fun b hb => (f11 b hb).1, w1⟩
        rintro k s12 ⟨j, H12, I12, st12, n12, w12⟩
        rcases turn1 j k H12 w12 with ⟨stop1, nx1⟩ | ⟨go1, Nx1, next1, step1⟩
        · refine thnF (T1.done (X.blk s3 H3 sc ce fp) rfl rfl rfl calm j _ s12 (wipe σ8 vs1) H12 (fun _ _ => False) I12 (foot1 n12) st12 stop1) fun r s13 ⟨hr, I13⟩ => ?_
          subst hr
          exact over I13 (len8.trans (wipe_length σ8 vs1).symm) know9 nx1
        · refine thnF (T1.item (X.blk s3 H3 sc ce fp) rfl rfl rfl calm j _ s12 (wipe σ8 vs1) H12 (fun _ _ => False) I12 (foot1 n12) st12 go1) fun r s13 ⟨u1, hr, h13⟩ => ?_
          subst hr
          refine thnF h13 fun _ s14 ⟨x1, H14, I14, r14, y14, st14, n14⟩ => ?_
          have P14 := I14.pinned (foot1 n14) (T1.obj _ _ st14)
          refine thnF (rg1.run _ s14 (wipe σ8 vs1) H14 x1 u1 _ P14 r14 (step1 x1 H14 y14)) fun _ s15 ⟨σ15, H15, I15, hw15, q15⟩ => ?_
          have over1 : ∀ {s' : Shared} {H' : Hp}, Inv (X.blk s3 H3 sc ce fp) (([] ++ pinsAt fp s7.heap) ++ pinsAt fp1 s14.heap) σ15 H' s' → Nx1 H' →
              ∃ m, m < k ∧ ∃ j H', Inv (X.blk s3 H3 sc ce fp) ([] ++ pinsAt fp s7.heap) (wipe σ8 vs1) H' s' ∧ tn1 j s'.heap ∧ (∀ b ∈ fp1, H' b = none) ∧ W1 j m H' := fun {s' H'} I' nx => by
            obtain ⟨m', lt, w'⟩ := next1 H' nx
            have still : ∀ b ∈ fp1, ∀ o, s14.heap.get? b = some o → s'.heap.get? b = some o ∧ H' b = none := fun b hb o z =>
              let k := I'.pin (b, o) (List.mem_append_right _ (List.mem_append_right _ (mem_pinsAt hb z)))
              ⟨k.1, k.2.1⟩
            refine ⟨m', lt, j + 1, H', I'.unpinned.weak (by rw [← hw15, wipe_length]) (fun j v z => ?_), ?_, fun b hb => ?_, w'⟩
            · rw [← hw15] at z
              exact (wipe_some z).1
            · exact T1.keep _ _ _ st14 fun b hb o z => (still b hb o z).1
            · obtain ⟨o, z, _⟩ := T1.obj _ _ st14 b hb
              exact (still b hb o z).2
          refine thnF (rk.run _ s15 σ15 H15 _ I15 q15) fun ku s16 ⟨yk, H16, I16, r16, q16⟩ => ?_
          refine thnF (rv.run _ s16 σ15 H16 _ I16 q16) fun vu s17 ⟨yv, H17, I17, r17, kvs, key, ek, hD17, few, nx⟩ => ?_
          subst ek
          exact d_dictSet (X := X.blk s3 H3 sc ce fp) I17 hD17 few r16 r17 fun s18 I18 => over1 I18 nx
      exact dc2_start1 inner (T1.self X.A 0 _ _ _ st11 inner)
  exact codeAny_compStart_dict walk (T.self X.A 0 _ _ _ st4 walk)
/-- y = {..}, y a local -/
theorem ps_setDc2 {i : Nat} {y : Str} {py : Pos} {kx vx t0 j0 t1 j1 : Expr} {sc : Scope} {own : List (Str × Nat)} {vs1 : List Nat} {at_ spos : Pos} {wi wi1 : TI} {g g1 : TG} {tk tv : TE} (calm : X.calm = true) (nd : X.N.Nodup) (hy : X.N[i]? = some y) (hyl : X.env.scope.names.lookup y = some .local)
    (sw : swapsWith (dc2 kx vx t0 j0 t1 j1 sc at_) (some (.Name y py)) spos.line X.env = pure true) (hi : PI X t0 j0 wi) (blk : BlkOk X.N X.env.scope sc own) (sub : ∀ i ∈ vs1, i ∈ own.map (·.2))
    (hg : InB X sc fun Y => PG Y t0 g) (hi1 : InB X sc fun Y => PI Y t1 j1 wi1) (hg1 : InB X sc fun Y => PG Y t1 g1) (hk : InB X sc fun Y => PE Y kx tk) (hv : InB X sc fun Y => PE Y vx tv)
    (fold0 : ∀ x, foldedSetIterable j0 X.env x = pure x := by intro _; rfl) (fold1 : ∀ env x, foldedSetIterable j1 env x = pure x := by intro _ _; rfl) :
    PS X (.Assign [.Name y py] (dc2 kx vx t0 j0 t1 j1 sc at_) spos) (tAsg (tDc2 wi g wi1 g1 tk tv (own.map (·.2)) vs1) (gName i)) := by
  refine ⟨fun pins s σ H D I h => ?_⟩
  rw [exec_Assign_Name_used _ _ _ _ sw]
  refine wpAny_bind (wpAny_standAt (wpAny_bind ?_))
  show wpAny _ X.A (do let _ ← comprehension (dc2 kx vx t0 j0 t1 j1 sc at_) sc X.env (firstIterPos [⟨t0, j0, [], 0⟩, ⟨t1, j1, [], 0⟩] at_) newDict false (eval j0 X.env) (some (assign (.Name y py) X.env))) _ _ s
  have ask : tDc2 wi g wi1 g1 tk tv (own.map (·.2)) vs1 σ H (fun x H1 => gName i x σ H1 D.nx) := h
  refine wpAny_bind (thn (dc2_core (Qf := fun _ s' => SP X pins D .next s') calm nd I hi blk sub hg hi1 hg1 hk hv fold0 fold1 ask fun L C s' m H' I' q hn f => ?_) fun _ s' hq => wpAny_pure (wpAny_pure hq))
  show wpAny _ _ (assign (.Name y py) X.env (.ref L)) _ _ _
  refine wpAny_assign_Name (store_ok2 (v := V.ref L) I' nd hy (.inl hyl) rfl (fun s2 I2 ⟨a, sb, ha⟩ => ?_) (.inr hyl))
  obtain ⟨f0, f1, f2, f3, f4, f5⟩ := f
  have apart : C ≠ a := by
    rcases ha with z | z
    · rw [z]
      exact f1
    · exact fun e => f4 y a z e.symm
  refine ⟨m, hn.sameBut sb apart, fun h3 sb3 => ?_⟩
  exact ⟨_, H', I2.turned (t' := s2.toks) (fun b o hb z => (sb3.2 b hb).trans z) f0 f1 f3 f4 f5, q⟩
theorem sw_dc {kx vx : Expr} {gs : List Comprehension} {sc : Scope} {at_ py : Pos} {y : Str} {l : Nat} {env : Env} (hk : env.scope.kind = .function) (hy : env.scope.names.lookup y = some .local) (hl : (py.line == at_.line) = true)
    (ha : (sc.names.any fun (n, k) => n == y && (k == .local || k == .cell)) = false) : swapsWith (.DictComp kx vx gs sc at_) (some (.Name y py)) l env = pure true := by
  have ky : env.kindOf y = some .local := hy
  have kb : env.blockKind = .function := by
    unfold Env.blockKind
    rw [hk]
    rfl
  unfold swapsWith
  simp only [kb, ky, ha, Expr.pos, hl]
  rfl
end
end L2

/-! from K4H -/
namespace K1
open PySem L2
/-- a class of the module as its makers know it -/
structure Mkr (P : Program) (w : World) (K : PySem.W.Frag) (mg : Str → Option Value) (base : Heap) (CX : CXT) (k : Nat) (x : Str) (C : Addr) (ps : List Str) (sp : Sp) : Prop where
  ex : ∃ (f : Addr) (fd : FuncData), Mk K C f ∧ FnOk P w K mg base CX k f fd ps sp ∧ mg x = some (.ref C) ∧ Binds K fd ps []
theorem pe_mkr {X : Cx} {CX : CXT} {k j : Nat} {x : Str} {C : Addr} {ps : List Str} {sp : Sp} {E : XK} {p pos : Pos} {e : Expr} {es : List Expr} {t : TA} (c : Mkr X.prog X.w X.K X.mg X.base CX k x C ps sp) (hr : Room j X.A) (hj : k + 1 ≤ j) (hx : Passes CX X E) (ha : PA X (e :: es) t)
    (hg : Gl X x := by rfl) (hdb : (x == ("__debug__" : Str)) = false := by decide) (he : starEach (e :: es) X.env = (false, eval e X.env) :: starEach es X.env := by rfl) (hpl : (backTo pos (starEach es X.env)).any (·.1) = false := by rfl) :
    PE X (.Call (.Name x p) (e :: es) [] pos) (tMake C sp [] E t) := by
  obtain ⟨f, fd, M, G, hm, hb⟩ := c.ex
  exact pe_make M G (hr.mono hj) hg hm hb .nil hx ha hdb he hpl
/-- a new instance and its __init__: what stood stands -/
theorem made_same {H H1 : Hp} {x dx C : Addr} (nx : H x = none) (nd : H dx = none) (k : ∀ b o, (upd (upd H dx (.own x)) x (.ins C dx [])) b = some o → b ≠ x → H1 b = some o) : Same H H1 := L2.Same.made nx nd k
section
variable {P : Program} {w : World} {K : PySem.W.Frag} {mg : Str → Option Value} {base : Heap}
/-! ### Scope: nothing of it is read here -/
def spScI (C : Addr) : Sp := fun vs H Q _ => ∃ (p dx : Addr) (a b c d e f : V), vs = [.ref p, a, b, c, d, e, f] ∧ H p = some (.ins C dx []) ∧ ∀ H', (∀ b o, H b = some o → b ≠ p → H' b = some o) → Q .non H'
structure NoS (K : PySem.W.Frag) (C : Addr) : Prop where
  cl : Cls K C
  n1 : NoAttr K C "class_names"
  n2 : NoAttr K C "field_names"
  n3 : NoAttr K C "variable_names"
  n4 : NoAttr K C "weak_names"
  n5 : NoAttr K C "levels"
  n6 : NoAttr K C "calls"
theorem putF_len (f : Str) (v : V) : ∀ fs : List (Str × V), (putF f v fs).length ≤ fs.length + 1
  | [] => Nat.le_refl _
  | (g, x) :: r => by
    show (if g = f then (g, v) :: r else (g, x) :: putF f v r).length ≤ _
    by_cases h : g = f
    · rw [if_pos h]
      simp
    · rw [if_neg h, List.length_cons, List.length_cons]
      have := putF_len f v r
      omega
/-! ### Survey -/
def suF (a b c e : V) : List (Str × V) := putF "buried" e (putF "depth" c (putF "many" b (putF "place" a [])))
theorem su_place (a b c e : V) : (suF a b c e).lookup ("place" : Str) = some a := by
  unfold suF
  rw [lookup_putF, if_neg (by decide +kernel), lookup_putF, if_neg (by decide +kernel), lookup_putF, if_neg (by decide +kernel), lookup_putF, if_pos rfl]
theorem su_many (a b c e : V) : (suF a b c e).lookup ("many" : Str) = some b := by
  unfold suF
  rw [lookup_putF, if_neg (by decide +kernel), lookup_putF, if_neg (by decide +kernel), lookup_putF, if_pos rfl]
def spSuI (C : Addr) : Sp := fun vs H Q _ => ∃ (p dx : Addr) (a b c e : V), vs = [.ref p, a, b, c, e] ∧ H p = some (.ins C dx []) ∧ ∀ H', H' p = some (.ins C dx (suF a b c e)) → (∀ b o, H b = some o → b ≠ p → H' b = some o) → Q .non H'
structure NoU (K : PySem.W.Frag) (C : Addr) : Prop where
  cl : Cls K C
  n1 : NoAttr K C "place"
  n2 : NoAttr K C "many"
  n3 : NoAttr K C "depth"
  n4 : NoAttr K C "buried"
/-! ### scope_for -/
/-- a list of valid classes stands at a -/
def ClsL (H : Hp) (a : Addr) (xs : List V) : Prop := H a = some (.lst xs) ∧ ∀ x ∈ xs, ∃ (p : Addr) (n : Str) (z b : V) (fl : Addr) (fs : List Str), x = .ref p ∧ H p = some (.tup [.str n, z, .ref fl, b]) ∧ H fl = some (.lst (fs.map V.str)) ∧ fs.length ≤ 3
theorem ClsL.mono {H H' : Hp} {a : Addr} {xs : List V} (c : ClsL H a xs) (s : Same H H') : ClsL H' a xs := ⟨s _ _ c.1, fun x hx => by
  obtain ⟨p, n, z, b, fl, fs, e, h1, h2, h3⟩ := c.2 x hx
  exact ⟨p, n, z, b, fl, fs, e, s _ _ h1, s _ _ h2, h3⟩⟩
def spScopeFor : Sp := fun vs H Q _ => ∃ (nm wk cs : V) (a r : Addr) (xs rs : List V), vs = [nm, .ref a, wk, .ref r, cs] ∧ ClsL H a xs ∧ xs.length ≤ 6 ∧ H r = some (.lst rs) ∧ ∀ p H', Same H H' → Q (.ref p) H'
theorem length_putK_le (kvs : List (Key × V)) (k : Key) (v : V) : (putK kvs k v).length ≤ kvs.length + 1 := length_putK kvs k v
end
end K1

/-! from K4I -/
namespace K1
open PySem L2
section
variable {P : Program} {w : World} {K : PySem.W.Frag} {mg : Str → Option Value} {base : Heap} {C CU : Addr}
theorem ans_isL {H : Hp} {b : Addr} {xs : List V} (e : H b = some (.lst xs)) : Ans K H (.ref b) "list" true := ⟨"list", .base (.lst e), by decide +kernel⟩
/-! ### survey of an empty body -/
def spSurvey (CU : Addr) : Sp := fun vs H Q _ => ∃ (b : Addr) (sc : V), vs = [.ref b, sc] ∧ H b = some (.lst []) ∧ ∀ p dx H', Same H H' → H' p = some (.ins CU dx (suF .non (.int 0) (.int 0) (.bl false))) → Q (.ref p) H'
end
end K1

/-! from K4J -/
namespace K1
open PySem L2
/-- a class of a program, as data -/
structure Row where
  n : Str
  z : Int
  fs : List Str
  b : Bool
/-- it stands as a tuple whose objects are new since H0 -/
def RowAt (H0 H : Hp) (x : V) (r : Row) : Prop := ∃ (p fl : Addr), x = .ref p ∧ H0 p = none ∧ H0 fl = none ∧ H p = some (.tup [.str r.n, .int r.z, .ref fl, .bl r.b]) ∧ H fl = some (.lst (r.fs.map V.str))
/-- the list of classes -/
def ClsN (H0 H : Hp) (a : Addr) (rows : List Row) : Prop := H0 a = none ∧ ∃ xs, H a = some (.lst xs) ∧ Paired (RowAt H0 H) xs rows
/-- list(xs), by values -/
def rLof (K : PySem.W.Frag) : List V → Hp → VK → Prop := fun xs H Q => ∃ p ys, xs = [.ref p] ∧ (SqL K H p ys ∨ SqT K H p ys) ∧ ∀ l, H l = none → Q (.ref l) (upd H l (.lst ys))
def nul : Hp := fun _ => none
theorem RowAt.mono {H0 H H' : Hp} {x : V} {r : Row} (h : RowAt H0 H x r) (s : Same H H') : RowAt H0 H' x r := by
  obtain ⟨p, fl, e, f1, f2, h1, h2⟩ := h
  exact ⟨p, fl, e, f1, f2, s _ _ h1, s _ _ h2⟩
theorem ClsN.mono {H0 H H' : Hp} {a : Addr} {rows : List Row} (h : ClsN H0 H a rows) (s : Same H H') : ClsN H0 H' a rows := by
  obtain ⟨f0, xs, e, p⟩ := h
  exact ⟨f0, xs, s _ _ e, p.mono fun _ _ z => z.mono s⟩
theorem paired_at {α β : Type} {F : α → β → Prop} : ∀ {l : List α} {m : List β} {i : Nat} {x : α}, Paired F l m → l[i]? = some x → ∃ y, m[i]? = some y ∧ F x y
  | _, _, _, _, .nil, h => by simp at h
  | _, _, 0, x, .cons (b := b) f _, h => by
    have e := Option.some.inj h
    subst e
    exact ⟨b, rfl, f⟩
  | _, _, i + 1, x, .cons _ r, h => by
    have h' : _ := h
    rw [List.getElem?_cons_succ] at h'
    obtain ⟨y, h1, h2⟩ := paired_at r h'
    exact ⟨y, by rw [List.getElem?_cons_succ]; exact h1, h2⟩
theorem take_snoc {α : Type} {l : List α} {i : Nat} {x : α} (h : l[i]? = some x) : l.take (i + 1) = l.take i ++ [x] := start_drop l i x h
theorem ClsN.toL {H0 H : Hp} {a : Addr} {rows : List Row} (h : ClsN H0 H a rows) (h3 : ∀ r ∈ rows, r.fs.length ≤ 3) : ∃ xs, ClsL H a xs ∧ xs.length = rows.length := by
  obtain ⟨f0, xs, e, p⟩ := h
  refine ⟨xs, ⟨e, fun x hx => ?_⟩, p.length⟩
  obtain ⟨i, hi⟩ := List.getElem?_of_mem hx
  obtain ⟨r, hr, q, fl, rfl, _, _, h1, h2⟩ := paired_at p hi
  exact ⟨q, r.n, .int r.z, .bl r.b, fl, r.fs, rfl, h1, h2, h3 r (List.mem_of_getElem? hr)⟩
section
variable {P : Program} {w : World} {K : PySem.W.Frag} {mg : Str → Option Value} {base : Heap} {C CU : Addr}
/-! ### check_body of an empty body -/
def spCheckBody (CU : Addr) : Sp := fun vs H Q _ => ∃ (b : Addr) (sc : V), vs = [.ref b, sc, .int 0] ∧ H b = some (.lst []) ∧ ∀ H', Same H H' → Q .non H'
/-! ### check_functions of an empty list -/
def spCheckFns : Sp := fun vs H Q _ => ∃ (f : Addr) (a b c : V), vs = [.ref f, a, b, c] ∧ H f = some (.lst []) ∧ ∀ t d H', Same H H' → H' t = some (.tup [.ref d, .int 0]) → Q (.ref t) H'
/-! ### copies -/
def spCopyNil : Sp := fun vs H Q _ => ∃ (b : Addr), vs = [.ref b] ∧ H b = some (.lst []) ∧ ∀ p H', Same H H' → H p = none → H' p = some (.lst []) → Q (.ref p) H'
def spCopyCls : Sp := fun vs H Q _ => ∃ (a : Addr) (H0 : Hp) (rows : List Row), vs = [.ref a] ∧ ClsN H0 H a rows ∧ rows.length ≤ 6 ∧ (∀ r ∈ rows, r.fs.length ≤ 3) ∧ ∀ q H', Same H H' → ClsN H H' q rows → Q (.ref q) H'
end
end K1

/-! from K4K -/
namespace K1
open PySem L2
/-! ### what the checks' silence says -/
theorem badFrom_none {bar : List Str} : ∀ {xs : List V} {seen : List Str} {i : Nat}, badFrom bar xs seen i = none → ∃ ss : List Str, xs = ss.map V.str ∧ ∀ s ∈ ss, nameS s = true
  | [], _, _, _ => ⟨[], rfl, fun _ h => by cases h⟩
  | v :: r, seen, i, h => by
    cases hn : nameV v with
    | false =>
      rw [badFrom_no hn] at h
      cases h
    | true =>
      obtain ⟨s, rfl, hz⟩ := nameV_is hn
      rw [badFrom_str] at h
      by_cases c : (nameS s && !seen.contains s && !bar.contains s) = true
      · rw [if_pos c] at h
        obtain ⟨ss, rfl, ok⟩ := badFrom_none h
        refine ⟨s :: ss, rfl, fun z hz' => ?_⟩
        rcases List.mem_cons.mp hz' with rfl | hz'
        · exact hz
        · exact ok z hz' 
      · rw [if_neg c] at h
        cases h
theorem firstBad_none {H : Hp} {v : V} {most : Int} {bar : List Str} (h : firstBad H v most bar = .non) : ∃ (a : Addr) (ss : List Str), v = .ref a ∧ H a = some (.lst (ss.map V.str)) ∧ (ss.length : Int) ≤ most ∧ ∀ s ∈ ss, nameS s = true := by
  unfold firstBad at h
  cases hl : lstOf H v with
  | none => rw [hl] at h; cases h
  | some xs =>
    rw [hl] at h
    obtain ⟨a, rfl, ha⟩ := lstOf_some hl
    have h' : (if (most : Int) < (xs.length : Int) then V.int (-1) else optV (badFrom bar xs [] 0)) = .non := h
    by_cases c : (most : Int) < (xs.length : Int)
    · rw [if_pos c] at h'
      cases h'
    · rw [if_neg c] at h'
      have h := h'
      cases hb : badFrom bar xs [] 0 with
      | some i => rw [hb] at h; cases h
      | none =>
        obtain ⟨ss, rfl, ok⟩ := badFrom_none hb
        refine ⟨a, ss, rfl, ha, ?_, ok⟩
        rw [List.length_map] at c
        omega
theorem names_ok {H : Hp} {v : V} {lo hi : Int} {bar : List Str} (h : namesAt H v lo hi bar = .non) : ∃ (a : Addr) (ss : List Str), v = .ref a ∧ H a = some (.lst (ss.map V.str)) ∧ lo ≤ (ss.length : Int) ∧ (ss.length : Int) ≤ hi ∧ firstBad H v hi bar = .non ∧ ∀ s ∈ ss, nameS s = true := by
  unfold namesAt at h
  rcases firstBad_kind (H := H) (v := v) (most := hi) (bar := bar) with ⟨e, xs, hl⟩ | ⟨i, e⟩
  · obtain ⟨a, ss, rfl, ha, hle, ok⟩ := firstBad_none e
    refine ⟨a, ss, rfl, ha, ?_, hle, e, ok⟩
    rw [e, lstOf_of ha] at h
    have h' : (if (((ss.map V.str).length : Nat) : Int) < lo then V.int (-1) else V.non) = V.non := h
    by_cases c : (((ss.map V.str).length : Nat) : Int) < lo
    · rw [if_pos c] at h'
      cases h'
    · rw [List.length_map] at c
      omega
  · rw [e] at h
    cases h
theorem whole_ok {v : V} {lo hi : Int} (h : wholeV v lo hi = true) : ∃ i, v = .int i ∧ lo ≤ i ∧ i ≤ hi := by
  cases v with
  | int i =>
    have h' : (decide (lo ≤ i) && decide (i ≤ hi)) = true := h
    rw [Bool.and_eq_true] at h'
    exact ⟨i, rfl, of_decide_eq_true h'.1, of_decide_eq_true h'.2⟩
  | _ => cases h
theorem radFrom_none : ∀ {xs : List V} {tot : Int} {i : Nat}, radFrom xs tot i = none → ∃ ks : List Int, xs = ks.map V.int
  | [], _, _, _ => ⟨[], rfl⟩
  | v :: r, tot, i, h => by
    by_cases c : intV v = true
    · obtain ⟨k, rfl⟩ := intV_is c
      rw [radFrom_int] at h
      by_cases d : (decide (k < 2) || decide ((12 : Int) < tot * k)) = true
      · rw [if_pos d] at h
        cases h
      · rw [if_neg d] at h
        obtain ⟨ks, rfl⟩ := radFrom_none h
        exact ⟨k :: ks, rfl⟩
    · rw [radFrom_no c] at h
      cases h
theorem rad_ok {H : Hp} {v : V} {th : Int} (h : radicesAt H v th = .non) : ∃ (a : Addr) (ks : List Int), v = .ref a ∧ H a = some (.lst (ks.map V.int)) := by
  unfold radicesAt at h
  cases hl : lstOf H v with
  | none => rw [hl] at h; cases h
  | some xs =>
    rw [hl] at h
    obtain ⟨a, rfl, ha⟩ := lstOf_some hl
    have h' : optV (radFrom xs th 0) = .non := h
    cases hb : radFrom xs th 0 with
    | some i => rw [hb] at h'; cases h'
    | none =>
      obtain ⟨ks, rfl⟩ := radFrom_none hb
      exact ⟨a, ks, rfl, ha⟩
theorem clsFrom_none {H : Hp} : ∀ {xs : List V} {seen : List Str} {i : Nat}, clsFrom H xs seen i = none → ∃ rows : List Row, Paired (RowAt nul H) xs rows ∧ ∀ r ∈ rows, r.fs.length ≤ 3 ∧ nameS r.n = true ∧ ∀ s ∈ r.fs, nameS s = true
  | [], _, _, _ => ⟨[], .nil, fun _ h => by cases h⟩
  | v :: r, seen, i, h => by
    have h' : (if classOk H v seen = true then clsFrom H r (seen ++ [nameOf H v]) (i + 1) else some i) = none := h
    by_cases c : classOk H v seen = true
    · rw [if_pos c] at h'
      obtain ⟨rows, pr, h3⟩ := clsFrom_none h'
      obtain ⟨a, n, z, f, b, rfl, ha, hnm, _, hw, hf, hb⟩ := classOk_is c
      obtain ⟨k, rfl, _, _⟩ := whole_ok hw
      obtain ⟨fl, fs, rfl, hfl, hlen, ok⟩ := firstBad_none hf
      cases b with
      | bl b =>
        refine ⟨⟨n, k, fs, b⟩ :: rows, .cons ⟨a, fl, rfl, rfl, rfl, ha, hfl⟩ pr, fun r hr => ?_⟩
        rcases List.mem_cons.mp hr with rfl | hr
        · exact ⟨by show fs.length ≤ 3; omega, hnm, ok⟩
        · exact h3 r hr
      | _ => cases hb
    · rw [if_neg c] at h'
      cases h'
theorem classes_ok {H : Hp} {v : V} (h : classesAt H v = .non) : ∃ (a : Addr) (rows : List Row), v = .ref a ∧ ClsN nul H a rows ∧ 1 ≤ rows.length ∧ rows.length ≤ 6 ∧ ∀ r ∈ rows, r.fs.length ≤ 3 ∧ nameS r.n = true ∧ ∀ s ∈ r.fs, nameS s = true := by
  unfold classesAt at h
  cases hl : lstOf H v with
  | none => rw [hl] at h; cases h
  | some xs =>
    rw [hl] at h
    obtain ⟨a, rfl, ha⟩ := lstOf_some hl
    have h' : (if (decide ((1 : Int) ≤ (xs.length : Int)) && decide ((xs.length : Int) ≤ 6)) = true then optV (clsFrom H xs [] 0) else V.int (-1)) = .non := h
    by_cases c : (decide ((1 : Int) ≤ (xs.length : Int)) && decide ((xs.length : Int) ≤ 6)) = true
    · rw [if_pos c] at h'
      cases hb : clsFrom H xs [] 0 with
      | some i => rw [hb] at h'; cases h'
      | none =>
        obtain ⟨rows, pr, h3⟩ := clsFrom_none hb
        rw [Bool.and_eq_true] at c
        have c1 := of_decide_eq_true c.1
        have c2 := of_decide_eq_true c.2
        have pl := pr.length
        exact ⟨a, rows, rfl, ⟨rfl, xs, ha, pr⟩, by omega, by omega, h3⟩
    · rw [if_neg c] at h'
      cases h'
/-! ### the answers do not change while all stands -/
theorem namesAt_same {H H' : Hp} {v : V} {lo hi : Int} {bar : List Str} (d : Dat H v) (s : Same H H') : namesAt H' v lo hi bar = namesAt H v lo hi bar := by
  unfold namesAt
  rw [firstBad_same d s, lstOf_same d s]
theorem radicesAt_same {H H' : Hp} {v : V} {th : Int} (d : Dat H v) (s : Same H H') : radicesAt H' v th = radicesAt H v th := by
  unfold radicesAt
  rw [lstOf_same d s]
theorem nameOf_same {H H' : Hp} {v : V} (d : Dat H v) (s : Same H H') : nameOf H' v = nameOf H v := by
  unfold nameOf
  rw [tupOf_same d s]
theorem clsFrom_same {H H' : Hp} (s : Same H H') : ∀ {xs : List V} {seen : List Str} {i : Nat}, (∀ x ∈ xs, Dat H x) → clsFrom H' xs seen i = clsFrom H xs seen i
  | [], _, _, _ => rfl
  | v :: r, seen, i, h => by
    have dv := h v List.mem_cons_self
    show (if classOk H' v seen = true then clsFrom H' r (seen ++ [nameOf H' v]) (i + 1) else some i) = (if classOk H v seen = true then clsFrom H r (seen ++ [nameOf H v]) (i + 1) else some i)
    rw [classOk_same dv s, nameOf_same dv s, clsFrom_same s fun x hx => h x (List.mem_cons_of_mem _ hx)]
theorem classesAt_same {H H' : Hp} {v : V} (d : Dat H v) (s : Same H H') : classesAt H' v = classesAt H v := by
  unfold classesAt
  rw [lstOf_same d s]
  cases hl : lstOf H v with
  | none => rfl
  | some xs =>
    obtain ⟨a, rfl, ha⟩ := lstOf_some hl
    show (if _ then optV (clsFrom H' xs [] 0) else _) = (if _ then optV (clsFrom H xs [] 0) else _)
    rw [clsFrom_same s (d.items ha)]
/-! ### the first fault -/
def strsOf (H : Hp) (v : V) : List Str := match lstOf H v with | some xs => xs.map strOf | none => []
def intOf : V → Int | .int i => i | _ => 0
def faultV (H : Hp) (c n l p r : V) : Option (Str × V) :=
  if classesAt H c ≠ .non then some ("classes", classesAt H c)
  else if namesAt H n 1 8 [] ≠ .non then some ("variables", namesAt H n 1 8 [])
  else if namesAt H l 0 4 (strsOf H n) ≠ .non then some ("weak", namesAt H l 0 4 (strsOf H n))
  else if wholeV p 1 12 = false then some ("threshold", .int (-1))
  else if radicesAt H r (intOf p) ≠ .non then some ("radices", radicesAt H r (intOf p))
  else none
theorem strsOf_is {H : Hp} {a : Addr} {ss : List Str} (h : H a = some (.lst (ss.map V.str))) : strsOf H (.ref a) = ss := by
  unfold strsOf
  rw [lstOf_of h]
  show (ss.map V.str).map strOf = ss
  rw [List.map_map]
  exact List.map_id'' (fun _ => rfl) ss
end K1

/-! from K4L -/
namespace K1
open PySem L2
/-! ### Program.__init__ -/
def pgF (a b c d e f g : V) : List (Str × V) := putF "_functions" g (putF "_radices" f (putF "_threshold" e (putF "_weak" d (putF "_variables" c (putF "_body" b (putF "_classes" a []))))))
structure NoP (K : PySem.W.Frag) (C : Addr) : Prop where
  cl : Cls K C
  n1 : NoAttr K C "_classes"
  n2 : NoAttr K C "_body"
  n3 : NoAttr K C "_variables"
  n4 : NoAttr K C "_weak"
  n5 : NoAttr K C "_threshold"
  n6 : NoAttr K C "_radices"
  n7 : NoAttr K C "_functions"
/-- a program stands at p, its own objects new since H0 -/
def ProgAt (H0 H : Hp) (CP p : Addr) (rows : List Row) (ns ls : List Str) (th : Int) (ks : List Int) : Prop := ∃ (dx a b c d f g : Addr), H p = some (.ins CP dx (pgF (.ref a) (.ref b) (.ref c) (.ref d) (.int th) (.ref f) (.ref g))) ∧ ClsN H0 H a rows ∧
  (H0 b = none ∧ H b = some (.lst [])) ∧ (H0 c = none ∧ H c = some (.lst (ns.map V.str))) ∧ (H0 d = none ∧ H d = some (.lst (ls.map V.str))) ∧ (H0 f = none ∧ H f = some (.lst (ks.map V.int))) ∧ (H0 g = none ∧ H g = some (.lst []))
/-- what is handed in, when nothing is wrong -/
structure Fine (H : Hp) (c n l p r : V) (rows : List Row) (ns ls : List Str) (th : Int) (ks : List Int) : Prop where
  c : ∃ a, c = .ref a ∧ ClsN nul H a rows
  c1 : 1 ≤ rows.length
  c6 : rows.length ≤ 6
  c3 : ∀ q ∈ rows, q.fs.length ≤ 3
  n : ∃ a, n = .ref a ∧ H a = some (.lst (ns.map V.str))
  l : ∃ a, l = .ref a ∧ H a = some (.lst (ls.map V.str))
  p : p = .int th
  t1 : 1 ≤ th
  t2 : th ≤ 12
  r : ∃ a, r = .ref a ∧ H a = some (.lst (ks.map V.int))
  cOk : ∀ q ∈ rows, nameS q.n = true ∧ ∀ s ∈ q.fs, nameS s = true
  nOk : ∀ s ∈ ns, nameS s = true
  lOk : ∀ s ∈ ls, nameS s = true
/-- while the new program's fields are filled: all else stands -/
structure Fil (H Hx : Hp) (CP p dx : Addr) (fs : List (Str × V)) : Prop where
  keep : ∀ b o, H b = some o → b ≠ p → Hx b = some o
  at_ : Hx p = some (.ins CP dx fs)
theorem Fil.new {H Hx Hy : Hp} {CP p dx : Addr} {fs : List (Str × V)} (f : Fil H Hx CP p dx fs) (s : Same Hx Hy) : Fil H Hy CP p dx fs := ⟨fun b o e n => s _ _ (f.keep b o e n), s _ _ f.at_⟩
theorem Fil.set {H Hx : Hp} {CP p dx : Addr} {fs : List (Str × V)} (f : Fil H Hx CP p dx fs) (gs : List (Str × V)) : Fil H (upd Hx p (.ins CP dx gs)) CP p dx gs := ⟨fun b o e n => by
  rw [upd_ne n]
  exact f.keep b o e n, upd_same⟩
theorem Fil.free {H Hx : Hp} {CP p dx b : Addr} {fs : List (Str × V)} (f : Fil H Hx CP p dx fs) (n : Hx b = none) : H b = none := by
  cases q : H b with
  | none => rfl
  | some o =>
    by_cases hb : b = p
    · rw [hb, f.at_] at n
      cases n
    · rw [f.keep b o q hb] at n
      cases n
theorem ClsN.base {H H1 Hx : Hp} {a : Addr} {rows : List Row} (h : ClsN H1 Hx a rows) (off : ∀ b, H1 b = none → H b = none) : ClsN H Hx a rows := by
  obtain ⟨f0, xs, e, p⟩ := h
  refine ⟨off _ f0, xs, e, p.mono fun x r z => ?_⟩
  obtain ⟨q, fl, e1, z1, z2, z3, z4⟩ := z
  exact ⟨q, fl, e1, off _ z1, off _ z2, z3, z4⟩
/-- a change at an object that stood in H -/
theorem ClsN.other {H Hx : Hp} {a p : Addr} {o u : HO} {rows : List Row} (h : ClsN H Hx a rows) (hp : H p = some o) : ClsN H (upd Hx p u) a rows := by
  obtain ⟨f0, xs, e, pr⟩ := h
  refine ⟨f0, xs, by rw [upd_ne (ne_of_none hp f0).symm]; exact e, pr.mono fun x r z => ?_⟩
  obtain ⟨q, fl, e1, z1, z2, z3, z4⟩ := z
  exact ⟨q, fl, e1, z1, z2, by rw [upd_ne (ne_of_none hp z1).symm]; exact z3, by rw [upd_ne (ne_of_none hp z2).symm]; exact z4⟩
/-- a new list -/
def NewL (H Hx : Hp) (a : Addr) (xs : List V) : Prop := H a = none ∧ Hx a = some (.lst xs)
theorem NewL.mono {H Hx Hy : Hp} {a : Addr} {xs : List V} (h : NewL H Hx a xs) (s : Same Hx Hy) : NewL H Hy a xs := ⟨h.1, s _ _ h.2⟩
theorem NewL.other {H Hx : Hp} {a p : Addr} {o u : HO} {xs : List V} (h : NewL H Hx a xs) (hp : H p = some o) : NewL H (upd Hx p u) a xs := ⟨h.1, by rw [upd_ne (ne_of_none hp h.1).symm]; exact h.2⟩
theorem Fil.lst {H Hx : Hp} {CP p dx q : Addr} {fs : List (Str × V)} (f : Fil H Hx CP p dx fs) (xs : List V) (n : Hx q = none) : NewL H (upd Hx q (.lst xs)) q xs := ⟨f.free n, upd_same⟩
def spPrI (C CP : Addr) : Sp := fun vs H Q E => ∃ (p dx bd fn : Addr) (c n l t r : V), vs = [.ref p, c, .ref bd, n, l, t, r, .ref fn] ∧ H p = some (.ins CP dx []) ∧ Dat H c ∧ Dat H n ∧ Dat H l ∧ Dat H t ∧ Dat H r ∧ H bd = some (.lst []) ∧ H fn = some (.lst []) ∧
  (∀ part at_, faultV H c n l t r = some (part, at_) → Rz C H (.str part) at_ E) ∧
  (faultV H c n l t r = none → ∀ rows ns ls th ks, Fine H c n l t r rows ns ls th ks → ∀ H', ProgAt H H' CP p rows ns ls th ks → (∀ b o, H b = some o → b ≠ p → H' b = some o) → Q .non H')
section
variable {P : Program} {w : World} {K : PySem.W.Frag} {mg : Str → Option Value} {base : Heap} {C CP CU : Addr}
abbrev prN : List Str := ["self", "classes", "body", "variables", "weak", "threshold", "radices", "functions", "calls", "many"]
abbrev prP : List Str := ["self", "classes", "body", "variables", "weak", "threshold", "radices", "functions"]
end
end K1

/-! from K4M -/
namespace K1
open PySem L2
/-! ### what a program tells -/
theorem pg1 (a b c d e f g : V) : (pgF a b c d e f g).lookup ("_classes" : Str) = some a := by
  unfold pgF
  repeat rw [lookup_putF, if_neg (by decide +kernel)]
  rw [lookup_putF, if_pos rfl]
theorem pg2 (a b c d e f g : V) : (pgF a b c d e f g).lookup ("_body" : Str) = some b := by
  unfold pgF
  rw [lookup_putF, if_neg (by decide +kernel), lookup_putF, if_neg (by decide +kernel), lookup_putF, if_neg (by decide +kernel), lookup_putF, if_neg (by decide +kernel), lookup_putF, if_neg (by decide +kernel), lookup_putF, if_pos rfl]
theorem pg3 (a b c d e f g : V) : (pgF a b c d e f g).lookup ("_variables" : Str) = some c := by
  unfold pgF
  rw [lookup_putF, if_neg (by decide +kernel), lookup_putF, if_neg (by decide +kernel), lookup_putF, if_neg (by decide +kernel), lookup_putF, if_neg (by decide +kernel), lookup_putF, if_pos rfl]
theorem pg4 (a b c d e f g : V) : (pgF a b c d e f g).lookup ("_weak" : Str) = some d := by
  unfold pgF
  rw [lookup_putF, if_neg (by decide +kernel), lookup_putF, if_neg (by decide +kernel), lookup_putF, if_neg (by decide +kernel), lookup_putF, if_pos rfl]
theorem pg5 (a b c d e f g : V) : (pgF a b c d e f g).lookup ("_threshold" : Str) = some e := by
  unfold pgF
  rw [lookup_putF, if_neg (by decide +kernel), lookup_putF, if_neg (by decide +kernel), lookup_putF, if_pos rfl]
theorem pg6 (a b c d e f g : V) : (pgF a b c d e f g).lookup ("_radices" : Str) = some f := by
  unfold pgF
  rw [lookup_putF, if_neg (by decide +kernel), lookup_putF, if_pos rfl]
theorem pg7 (a b c d e f g : V) : (pgF a b c d e f g).lookup ("_functions" : Str) = some g := by
  unfold pgF
  rw [lookup_putF, if_pos rfl]
/-- no method's name is an attribute of the instance -/
theorem pg_no {m : Str} (a b c d e f g : V) (h1 : ¬ m = "_classes") (h2 : ¬ m = "_body") (h3 : ¬ m = "_variables") (h4 : ¬ m = "_weak") (h5 : ¬ m = "_threshold") (h6 : ¬ m = "_radices") (h7 : ¬ m = "_functions") : (pgF a b c d e f g).lookup m = none := by
  unfold pgF
  rw [lookup_putF, if_neg h7, lookup_putF, if_neg h6, lookup_putF, if_neg h5, lookup_putF, if_neg h4, lookup_putF, if_neg h3, lookup_putF, if_neg h2, lookup_putF, if_neg h1]
  rfl
/-- which program stands at p -/
structure Pg where
  rows : List Row
  ns : List Str
  ls : List Str
  th : Int
  ks : List Int
def PgAt (H0 H : Hp) (CP p : Addr) (g : Pg) : Prop := ProgAt H0 H CP p g.rows g.ns g.ls g.th g.ks ∧ g.rows.length ≤ 6 ∧ ∀ r ∈ g.rows, r.fs.length ≤ 3
theorem NewL.base {H H1 Hx : Hp} {a : Addr} {xs : List V} (h : NewL H1 Hx a xs) (off : ∀ b, H1 b = none → H b = none) : NewL H Hx a xs := ⟨off _ h.1, h.2⟩
def spTell (CP : Addr) (G : Pg → Hp → Hp → V → Prop) : Sp := fun vs H Q _ => ∃ (p : Addr) (H0 : Hp) (g : Pg), vs = [.ref p] ∧ PgAt H0 H CP p g ∧ ∀ v H', Same H H' → G g H H' v → Q v H'
def gCls (g : Pg) (H H' : Hp) (v : V) : Prop := ∃ q, v = .ref q ∧ ClsN H H' q g.rows
def gNil' (_ : Pg) (H H' : Hp) (v : V) : Prop := ∃ q, v = .ref q ∧ NewL H H' q []
def gVar (g : Pg) (H H' : Hp) (v : V) : Prop := ∃ q, v = .ref q ∧ NewL H H' q (g.ns.map V.str)
def gWk (g : Pg) (H H' : Hp) (v : V) : Prop := ∃ q, v = .ref q ∧ NewL H H' q (g.ls.map V.str)
def gTh (g : Pg) (_ _ : Hp) (v : V) : Prop := v = .int g.th
def gRad (g : Pg) (H H' : Hp) (v : V) : Prop := ∃ q, v = .ref q ∧ NewL H H' q (g.ks.map V.int)
section
variable {P : Program} {w : World} {K : PySem.W.Frag} {mg : Str → Option Value} {base : Heap} {CP : Addr} {f : Addr} {fd : FuncData}
end
end K1

/-! from K4R -/
namespace L2
open PySem PySem.Spec PyProof.Rows
/-- d.update(e), both dicts, two objects -/
def rUpd1 : V → List V → Hp → VK → Prop := fun x vs H Q => ∃ (d o : Addr) (kvs more : List (Key × V)), x = .ref d ∧ vs = [.ref o] ∧ d ≠ o ∧ H d = some (.dK kvs) ∧ H o = some (.dK more) ∧ kvs.length + more.length ≤ sizeLine ∧ Q .non (upd H d (.dK (mergeK kvs more)))
theorem mt_upd1 {X : Cx} : MtR X "dict.update" rUpd1 := by
  intro pins s σ H x xs v us Q I rx r h
  obtain ⟨d, o, kvs, more, rfl, rfl, ne, hd, ho, few, q⟩ := h
  obtain ⟨u, rfl, ru⟩ := vals1 r
  obtain rfl : v = Value.ref d := rx
  obtain rfl : u = Value.ref o := ru
  obtain ⟨z1, y1, vs1, r1, d1⟩ := dk_of I.hok hd
  obtain ⟨z2, y2, vs2, r2, d2⟩ := dk_of I.hok ho
  refine call_meetsIn PySem.F.slot_dict_update d1.typeIs PySem.F.entry_dict_update (PySem.F.args_dict_update_2 _ _) (meets_dict_update (mixKind X.prog X.w) d o ne y2) ⟨vs1, vs2, d1, d2, ?_, fun h' dd _ sb => ?_⟩
  · rw [← r1.length, ← r2.length]
    exact few
  · have there : ∃ z, h'.get? d = some z := by
      obtain ⟨z, _, _, e, _⟩ := dd
      exact ⟨z, e⟩
    have len : (mergeK kvs more).length ≤ sizeLine := Nat.le_trans (length_mergeK more kvs) few
    exact ⟨.non, upd H d (.dK (mergeK kvs more)), d_write I (by rw [hd]; exact True.intro) sb there (dk_new len y1 (KV.merge r2 r1) dd), rfl, q⟩
/-- a statement, a word, the rest -/
def tMid (t u : TS) : TS := fun D σ H => ∃ W : St → Hp → Prop, t { D with nx := W } σ H ∧ ∀ σ1 H1, W σ1 H1 → u D σ1 H1
theorem pss_mid {X : Cx} {st : Stmt} {rest : List Stmt} {t u : TS} (h1 : PS X st t) (h2 : PSs X rest u) : PSs X (st :: rest) (tMid t u) := by
  refine ⟨fun pins s σ H D I ⟨W, a, b⟩ => ?_⟩
  refine wpAny_execs_cons ?_
  refine thn (h1.run pins s σ H { D with nx := W } I a) fun f s1 q => ?_
  cases f with
  | next =>
    obtain ⟨σ1, H1, I1, q⟩ := q
    exact h2.run pins s1 σ1 H1 D I1 (b σ1 H1 q)
  | ret v => exact q
  | brk => exact q
  | cont => exact q
/-- tuple(xs), by values -/
def rTof (K : PySem.W.Frag) : List V → Hp → VK → Prop := fun xs H Q => ∃ p ys, xs = [.ref p] ∧ ((SqL K H p ys ∧ ∀ l, H l = none → Q (.ref l) (upd H l (.tup ys))) ∨ (SqT K H p ys ∧ Q (.ref p) H))
end L2
namespace K1
open PySem L2
theorem dstr {H : Hp} {s : Str} (h : (decide (s.length ≤ 1000) && PyData.strOk s) = true := by decide +kernel) : Dat H (.str s) := by
  rw [Bool.and_eq_true] at h
  exact .str s ⟨of_decide_eq_true h.1, h.2⟩
/-- a new list, a new tuple of data -/
theorem Dat.newL {H : Hp} {p : Addr} {xs : List V} (n : H p = none) (h : ∀ x ∈ xs, Dat H x) : Dat (upd H p (.lst xs)) (.ref p) := .lst upd_same fun x hx => (h x hx).mono (same_new (Same.refl _) n)
theorem Dat.newT {H : Hp} {p : Addr} {xs : List V} (n : H p = none) (h : ∀ x ∈ xs, Dat H x) : Dat (upd H p (.tup xs)) (.ref p) := .tup upd_same fun x hx => (h x hx).mono (same_new (Same.refl _) n)
theorem Dat.new {H : Hp} {p : Addr} {o : HO} {v : V} (n : H p = none) (d : Dat H v) : Dat (upd H p o) v := d.mono (same_new (Same.refl _) n)
/-- a dict is changed into a dict -/
theorem Dat.updD {H : Hp} {a : Addr} {kvs kvs' : List (Key × V)} (e : H a = some (.dK kvs)) {v : V} (d : Dat H v) : Dat (upd H a (.dK kvs')) v := by
  induction d with
  | non => exact .non
  | bl b => exact .bl b
  | int i => exact .int i
  | str z h => exact .str z h
  | lst q _ ih => exact .lst (by rw [upd_ne (ne_of q e (by intro z; cases z))]; exact q) ih
  | tup q _ ih => exact .tup (by rw [upd_ne (ne_of q e (by intro z; cases z))]; exact q) ih
  | @dic b ks q =>
    by_cases h : b = a
    · rw [h]
      exact .dic upd_same
    · exact .dic (by rw [upd_ne h]; exact q)
theorem mem3 {α : Type} {P : α → Prop} {a b c : α} (h1 : P a) (h2 : P b) (h3 : P c) : ∀ x ∈ [a, b, c], P x := fun x hx => by
  simp only [List.mem_cons, List.not_mem_nil, or_false] at hx
  rcases hx with rfl | rfl | rfl <;> assumption
theorem at_mod {xs : List V} {n : Nat} (h : xs.length = n) (hn : 0 < n) (z : Int) : ∃ v, atI xs (z % (n : Int)) = some v ∧ v ∈ xs := by
  have h1 := Int.emod_nonneg z (show (n : Int) ≠ 0 by omega)
  have h2 := Int.emod_lt_of_pos z (show (0 : Int) < (n : Int) by omega)
  obtain ⟨j, e⟩ : ∃ j : Nat, z % (n : Int) = (j : Int) := ⟨(z % (n : Int)).toNat, by omega⟩
  rw [e] at h2 ⊢
  have hj : j < xs.length := by omega
  exact ⟨xs[j], atI_nat (List.getElem?_eq_getElem hj), List.getElem_mem hj⟩
theorem dig_at {ds : List Int} (h : ds.length = 20) (j : Nat) (hj : j < 20) : ∃ x, atI (ds.map V.int) (j : Int) = some (.int x) := by
  have hj' : j < ds.length := by omega
  exact ⟨ds[j], atI_nat (by rw [List.getElem?_map, List.getElem?_eq_getElem hj']; rfl)⟩
theorem cut_mem {xs : List V} {lo hi : Option Int} {x : V} (h : x ∈ cutV xs lo hi) : x ∈ xs := List.mem_of_mem_drop (List.mem_of_mem_take h)
/-! ### the five parts in the dict -/
structure Five (kvs : List (Key × V)) (c n l p r : V) : Prop where
  c : valV kvs (Sum.inr ("classes" : Str)) = some c
  n : valV kvs (Sum.inr ("names" : Str)) = some n
  l : valV kvs (Sum.inr ("loose" : Str)) = some l
  p : valV kvs (Sum.inr ("pace" : Str)) = some p
  r : valV kvs (Sum.inr ("rest" : Str)) = some r
theorem five_c {kvs : List (Key × V)} {c n l p r : V} (f : Five kvs c n l p r) (y : V) : Five (putK kvs (Sum.inr ("classes" : Str)) y) y n l p r :=
  ⟨by rw [valV_put, if_pos rfl], by rw [valV_put, if_neg (by decide +kernel)]; exact f.n, by rw [valV_put, if_neg (by decide +kernel)]; exact f.l, by rw [valV_put, if_neg (by decide +kernel)]; exact f.p, by rw [valV_put, if_neg (by decide +kernel)]; exact f.r⟩
theorem five_n {kvs : List (Key × V)} {c n l p r : V} (f : Five kvs c n l p r) (y : V) : Five (putK kvs (Sum.inr ("names" : Str)) y) c y l p r :=
  ⟨by rw [valV_put, if_neg (by decide +kernel)]; exact f.c, by rw [valV_put, if_pos rfl], by rw [valV_put, if_neg (by decide +kernel)]; exact f.l, by rw [valV_put, if_neg (by decide +kernel)]; exact f.p, by rw [valV_put, if_neg (by decide +kernel)]; exact f.r⟩
theorem five_l {kvs : List (Key × V)} {c n l p r : V} (f : Five kvs c n l p r) (y : V) : Five (putK kvs (Sum.inr ("loose" : Str)) y) c n y p r :=
  ⟨by rw [valV_put, if_neg (by decide +kernel)]; exact f.c, by rw [valV_put, if_neg (by decide +kernel)]; exact f.n, by rw [valV_put, if_pos rfl], by rw [valV_put, if_neg (by decide +kernel)]; exact f.p, by rw [valV_put, if_neg (by decide +kernel)]; exact f.r⟩
theorem five_p {kvs : List (Key × V)} {c n l p r : V} (f : Five kvs c n l p r) (y : V) : Five (putK kvs (Sum.inr ("pace" : Str)) y) c n l y r :=
  ⟨by rw [valV_put, if_neg (by decide +kernel)]; exact f.c, by rw [valV_put, if_neg (by decide +kernel)]; exact f.n, by rw [valV_put, if_neg (by decide +kernel)]; exact f.l, by rw [valV_put, if_pos rfl], by rw [valV_put, if_neg (by decide +kernel)]; exact f.r⟩
theorem five_r {kvs : List (Key × V)} {c n l p r : V} (f : Five kvs c n l p r) (y : V) : Five (putK kvs (Sum.inr ("rest" : Str)) y) c n l p y :=
  ⟨by rw [valV_put, if_neg (by decide +kernel)]; exact f.c, by rw [valV_put, if_neg (by decide +kernel)]; exact f.n, by rw [valV_put, if_neg (by decide +kernel)]; exact f.l, by rw [valV_put, if_neg (by decide +kernel)]; exact f.p, by rw [valV_put, if_pos rfl]⟩
/-- a list of data of few items -/
def LsD (H : Hp) (v : V) : Prop := ∃ a xs, v = .ref a ∧ H a = some (.lst xs) ∧ xs.length ≤ 50
end K1

/-! from K4N -/
namespace K1
open PySem L2
/-! ### Scope with what it holds -/
def scF (a b c d e f : V) : List (Str × V) := putF "calls" f (putF "levels" e (putF "weak_names" d (putF "variable_names" c (putF "field_names" b (putF "class_names" a [])))))
theorem sc_f1 (a b c d e f : V) : (scF a b c d e f).lookup ("class_names" : Str) = some a := by
  unfold scF
  rw [lookup_putF, if_neg (by decide +kernel), lookup_putF, if_neg (by decide +kernel), lookup_putF, if_neg (by decide +kernel), lookup_putF, if_neg (by decide +kernel), lookup_putF, if_neg (by decide +kernel), lookup_putF, if_pos rfl]
theorem sc_f2 (a b c d e f : V) : (scF a b c d e f).lookup ("field_names" : Str) = some b := by
  unfold scF
  rw [lookup_putF, if_neg (by decide +kernel), lookup_putF, if_neg (by decide +kernel), lookup_putF, if_neg (by decide +kernel), lookup_putF, if_neg (by decide +kernel), lookup_putF, if_pos rfl]
theorem sc_f3 (a b c d e f : V) : (scF a b c d e f).lookup ("variable_names" : Str) = some c := by
  unfold scF
  rw [lookup_putF, if_neg (by decide +kernel), lookup_putF, if_neg (by decide +kernel), lookup_putF, if_neg (by decide +kernel), lookup_putF, if_pos rfl]
theorem sc_f4 (a b c d e f : V) : (scF a b c d e f).lookup ("weak_names" : Str) = some d := by
  unfold scF
  rw [lookup_putF, if_neg (by decide +kernel), lookup_putF, if_neg (by decide +kernel), lookup_putF, if_pos rfl]
theorem sc_f5 (a b c d e f : V) : (scF a b c d e f).lookup ("levels" : Str) = some e := by
  unfold scF
  rw [lookup_putF, if_neg (by decide +kernel), lookup_putF, if_pos rfl]
theorem sc_f6 (a b c d e f : V) : (scF a b c d e f).lookup ("calls" : Str) = some f := by
  unfold scF
  rw [lookup_putF, if_pos rfl]
def spScG (C : Addr) : Sp := fun vs H Q _ => ∃ (p dx : Addr) (a b c d e f : V), vs = [.ref p, a, b, c, d, e, f] ∧ H p = some (.ins C dx []) ∧ ∀ H', H' p = some (.ins C dx (scF a b c d e f)) → (∀ b o, H b = some o → b ≠ p → H' b = some o) → Q .non H'
section
variable {P : Program} {w : World} {K : PySem.W.Frag} {mg : Str → Option Value} {base : Heap}
end
/-! ### what a scope holds -/
structure Sco where
  cn : List Str
  fn : List Str
  vn : List Str
  wn : List Str
  lv : Int
  cs : List (Str × (Int × Bool × Int))
/-- a dict whose keys are these -/
def KeysAre (H : Hp) (a : Addr) (ns : List Str) : Prop := ∃ kvs : List (Key × V), H a = some (.dK kvs) ∧ ∀ s : Str, (valV kvs (Sum.inr s)).isSome = decide (s ∈ ns)
def CallsAt (H : Hp) (a : Addr) (cs : List (Str × (Int × Bool × Int))) : Prop := ∃ kvs : List (Key × V), H a = some (.dK kvs) ∧ ∀ s : Str, match cs.lookup s with
  | none => valV kvs (Sum.inr s) = none
  | some (m, h, d) => ∃ t, valV kvs (Sum.inr s) = some (.ref t) ∧ H t = some (.tup [.int m, .bl h, .int d])
structure ScAt (H : Hp) (C p : Addr) (sc : Sco) : Prop where
  ex : ∃ dx a b c d f : Addr, H p = some (.ins C dx (scF (.ref a) (.ref b) (.ref c) (.ref d) (.int sc.lv) (.ref f))) ∧ H a = some (.lst (sc.cn.map V.str)) ∧ KeysAre H b sc.fn ∧ H c = some (.lst (sc.vn.map V.str)) ∧ H d = some (.lst (sc.wn.map V.str)) ∧ CallsAt H f sc.cs
theorem KeysAre.mono {H H' : Hp} {a : Addr} {ns : List Str} (h : KeysAre H a ns) (s : Same H H') : KeysAre H' a ns := by
  obtain ⟨kvs, e, k⟩ := h
  exact ⟨kvs, s _ _ e, k⟩
theorem CallsAt.mono {H H' : Hp} {a : Addr} {cs : List (Str × (Int × Bool × Int))} (h : CallsAt H a cs) (s : Same H H') : CallsAt H' a cs := by
  obtain ⟨kvs, e, k⟩ := h
  refine ⟨kvs, s _ _ e, fun z => ?_⟩
  have q := k z
  cases h2 : cs.lookup z with
  | none =>
    rw [h2] at q
    exact q
  | some r =>
    obtain ⟨m, b, d⟩ := r
    rw [h2] at q
    obtain ⟨t, e1, e2⟩ := q
    exact ⟨t, e1, s _ _ e2⟩
theorem ScAt.mono {H H' : Hp} {C p : Addr} {sc : Sco} (h : ScAt H C p sc) (s : Same H H') : ScAt H' C p sc := by
  obtain ⟨dx, a, b, c, d, f, e, h1, h2, h3, h4, h5⟩ := h.ex
  exact ⟨dx, a, b, c, d, f, s _ _ e, s _ _ h1, h2.mono s, s _ _ h3, s _ _ h4, h5.mono s⟩
theorem calls_keys {H : Hp} {a : Addr} {cs : List (Str × (Int × Bool × Int))} (h : CallsAt H a cs) : KeysAre H a (cs.map (·.1)) := by
  obtain ⟨kvs, e, k⟩ := h
  refine ⟨kvs, e, fun s => ?_⟩
  have q := k s
  have look : (cs.lookup s).isSome = decide (s ∈ cs.map (·.1)) := by
    clear k q
    induction cs with
    | nil => rfl
    | cons c cs ih =>
      obtain ⟨n, r⟩ := c
      by_cases z : s = n
      · subst z
        rw [List.lookup_cons_self]
        simp
      · have : (s == n) = false := by simpa using z
        rw [List.lookup_cons, this]
        show (cs.lookup s).isSome = _
        rw [ih]
        simp [z]
  rw [← look]
  cases h2 : cs.lookup s with
  | none =>
    rw [h2] at q
    rw [q] <;> rfl
  | some r =>
    obtain ⟨m, b, d⟩ := r
    rw [h2] at q
    obtain ⟨t, e1, _⟩ := q
    rw [e1] <;> rfl
/-! ### is_one_of -/
def oneV (v : V) (ns : List Str) : Bool := match v with | .str s => decide (s ∈ ns) | _ => false
def NamesAt (H : Hp) (a : Addr) (ns : List Str) : Prop := H a = some (.lst (ns.map V.str)) ∨ KeysAre H a ns
def spOne : Sp := fun vs H Q _ => ∃ (v : V) (a : Addr) (ns : List Str), vs = [v, .ref a] ∧ Dat H v ∧ NamesAt H a ns ∧ Q (.bl (oneV v ns)) H
theorem isS_str {v : V} (h : isS v = true) : ∃ s, v = .str s := by
  cases v with
  | str s => exact ⟨s, rfl⟩
  | _ => cases h
theorem oneV_not {v : V} {ns : List Str} (h : ¬ isS v = true) : oneV v ns = false := by
  cases v with
  | str s => exact absurd rfl h
  | _ => rfl
section
variable {P : Program} {w : World} {K : PySem.W.Frag} {mg : Str → Option Value} {base : Heap}
end
end K1

/-! from K4O -/
namespace K1
open PySem L2
/-! ### fits -/
def mostR : Int := 1000000000000000000000000000000
def fitsV (sc : Sco) (kind : Str) (v : V) : Bool :=
  if kind = "block" then true else if kind = "times" then wholeV v 0 mostR else if kind = "level" then wholeV v 0 sc.lv else if kind = "variable" then oneV v sc.vn else if kind = "weak" then oneV v sc.wn
  else if kind = "class" then oneV v sc.cn else if kind = "field" then oneV v sc.fn else nameV v
def spFits (C : Addr) : Sp := fun vs H Q _ => ∃ (kind : Str) (v : V) (p : Addr) (sc : Sco), vs = [.str kind, v, .ref p] ∧ Dat H v ∧ ScAt H C p sc ∧ ∀ H', Same H H' → Q (.bl (fitsV sc kind v)) H'
section
variable {P : Program} {w : World} {K : PySem.W.Frag} {mg : Str → Option Value} {base : Heap}
end
end K1

/-! from K4P -/
namespace K1
open PySem L2
/-! ### all([e for x in xs]) -/
theorem all_lc {K : PySem.W.Frag} {σ : St} {H : Hp} {Q : VK} {i : Nat} {a : Addr} {xs : List V} {p : V → Bool} {tl te : TE} {vs : List Nat} (hl : ∀ Q' : VK, Q' (.ref a) H → tl σ H Q') (ha : H a = some (.lst xs)) (few : xs.length < sizeLine)
    (hw : ∀ x, wipe ((wipe σ vs).set i (some x)) vs = wipe σ vs) (he : ∀ x ∈ xs, ∀ H1, Same H H1 → ∀ Q' : VK, (∀ H2, Same H1 H2 → Q' (.bl (p x)) H2) → te ((wipe σ vs).set i (some x)) H1 Q')
    (k : ∀ H1, Same H H1 → Q (.bl (xs.all p)) H1) : tCB (rAll K) (tCons (tLc (iList K tl) (gName i) tYes te vs) tNil) σ H Q := by
  refine hl _ ⟨a, rfl, ⟨_, SqL.of ha⟩, fun D hD => ?_⟩
  have s0 : Same H (upd H D (.lst [])) := same_new (Same.refl _) hD
  refine lc_list (xs := xs) (fun j H1 => Same H H1 ∧ H1 D = some (.lst ((xs.take j).map fun x => V.bl (p x)))) ⟨s0, by rw [upd_same]; rfl⟩ (fun j H1 _ z => SqL.of (z.1 _ _ ha)) ?_ ?_
  · rintro j x H1 hx ⟨s1, e1⟩
    refine ⟨hw x, ?_⟩
    unfold tYes
    dsimp only
    rw [if_pos rfl]
    have hm : x ∈ xs := List.mem_of_getElem? hx
    have hj : j < xs.length := (List.getElem?_eq_some_iff.mp hx).1
    refine he x hm H1 s1 _ fun H2 s2 => ⟨_, s2 _ _ e1, ?_, fun b o e => ?_, ?_⟩
    · rw [List.length_map, List.length_take]
      omega
    · rw [upd_ne (ne_of_none e hD)]
      exact s2 _ _ (s1 b o e)
    · rw [upd_same, take_snoc hx, List.map_append]
      rfl
  · rintro H1 ⟨s1, e1⟩
    refine ⟨D, xs.map p, rfl, SqL.of (by rw [e1, List.take_of_length_le (Nat.le_refl _), List.map_map]; rfl), ?_⟩
    rw [show (xs.map p).all id = xs.all p by rw [List.all_map]; rfl]
    exact k _ s1
/-! ### data as trees -/
mutual
inductive At (H : Hp) : V → PyData → Prop
  | non : At H .non .none
  | bl (b : Bool) : At H (.bl b) (.bool b)
  | int (i : Int) : At H (.int i) (.int i)
  | str (s : Str) (h : s.length ≤ 1000 ∧ PyData.strOk s = true) : At H (.str s) (.str s)
  | lst {a : Addr} {xs : List V} {ds : List PyData} (e : H a = some (.lst xs)) (h : AtAll H xs ds) : At H (.ref a) (.list ds)
  | tup {a : Addr} {xs : List V} {ds : List PyData} (e : H a = some (.tup xs)) (h : AtAll H xs ds) : At H (.ref a) (.tuple ds)
  | dic {a : Addr} {kvs : List (Key × V)} (e : H a = some (.dK kvs)) : At H (.ref a) (.dict [])
inductive AtAll (H : Hp) : List V → List PyData → Prop
  | nil : AtAll H [] []
  | cons {v : V} {vs : List V} {d : PyData} {ds : List PyData} (h : At H v d) (t : AtAll H vs ds) : AtAll H (v :: vs) (d :: ds)
end
mutual
theorem At.mono {H H' : Hp} (s : Same H H') : ∀ {v : V} {d : PyData}, At H v d → At H' v d
  | _, _, .non => .non
  | _, _, .bl b => .bl b
  | _, _, .int i => .int i
  | _, _, .str z h => .str z h
  | _, _, .lst e h => .lst (s _ _ e) (h.mono s)
  | _, _, .tup e h => .tup (s _ _ e) (h.mono s)
  | _, _, .dic e => .dic (s _ _ e)
theorem AtAll.mono {H H' : Hp} (s : Same H H') : ∀ {vs : List V} {ds : List PyData}, AtAll H vs ds → AtAll H' vs ds
  | _, _, .nil => .nil
  | _, _, .cons h t => .cons (h.mono s) (t.mono s)
end
mutual
theorem At.dat {H : Hp} : ∀ {v : V} {d : PyData}, At H v d → Dat H v
  | _, _, .non => .non
  | _, _, .bl b => .bl b
  | _, _, .int i => .int i
  | _, _, .str z h => .str z h
  | _, _, .lst e h => .lst e h.dats
  | _, _, .tup e h => .tup e h.dats
  | _, _, .dic e => .dic e
theorem AtAll.dats {H : Hp} : ∀ {vs : List V} {ds : List PyData}, AtAll H vs ds → ∀ v ∈ vs, Dat H v
  | _, _, .nil => fun _ h => by cases h
  | _, _, .cons h t => fun v hv => by
    rcases List.mem_cons.mp hv with e | hv
    · rw [e]
      exact h.dat
    · exact t.dats v hv
end
theorem AtAll.len {H : Hp} : ∀ {vs : List V} {ds : List PyData}, AtAll H vs ds → vs.length = ds.length
  | _, _, .nil => rfl
  | _, _, .cons _ t => congrArg Nat.succ t.len
theorem AtAll.get {H : Hp} : ∀ {vs : List V} {ds : List PyData} {i : Nat} {v : V}, AtAll H vs ds → vs[i]? = some v → ∃ d, ds[i]? = some d ∧ At H v d
  | _, _, i, v, .nil, h => by simp at h
  | _, _, 0, v, .cons h t, e => by
    cases e
    exact ⟨_, rfl, h⟩
  | _, _, i + 1, v, .cons h t, e => by
    have e' : _ := e
    rw [List.getElem?_cons_succ] at e'
    obtain ⟨d, h1, h2⟩ := t.get e'
    exact ⟨d, by rw [List.getElem?_cons_succ]; exact h1, h2⟩
/-! ### the words of a statement, as trees -/
def oneT (d : PyData) (ns : List Str) : Bool := match d with | .str s => decide (s ∈ ns) | _ => false
def nameT (d : PyData) : Bool := match d with | .str s => nameS s | _ => false
def wholeT (d : PyData) (lo hi : Int) : Bool := match d with | .int i => decide (lo ≤ i) && decide (i ≤ hi) | _ => false
def fitsT (sc : Sco) (kind : Str) (d : PyData) : Bool :=
  if kind = "block" then true else if kind = "times" then wholeT d 0 mostR else if kind = "level" then wholeT d 0 sc.lv else if kind = "variable" then oneT d sc.vn else if kind = "weak" then oneT d sc.wn
  else if kind = "class" then oneT d sc.cn else if kind = "field" then oneT d sc.fn else nameT d
theorem one_at {H : Hp} {v : V} {d : PyData} (h : At H v d) (ns : List Str) : oneV v ns = oneT d ns := by cases h <;> rfl
theorem name_at {H : Hp} {v : V} {d : PyData} (h : At H v d) : nameV v = nameT d := by cases h <;> rfl
theorem whole_at {H : Hp} {v : V} {d : PyData} (h : At H v d) (lo hi : Int) : wholeV v lo hi = wholeT d lo hi := by cases h <;> rfl
theorem fits_at {H : Hp} {v : V} {d : PyData} (h : At H v d) (sc : Sco) (kind : Str) : fitsV sc kind v = fitsT sc kind d := by
  unfold fitsV fitsT
  rw [whole_at h, whole_at h, one_at h, one_at h, one_at h, one_at h, name_at h]
/-! ### fits_call -/
def argsT (d : PyData) (m : Int) (vn : List Str) : Bool := match d with | .list ys => decide ((ys.length : Int) = m) && ys.all fun y => oneT y vn | _ => false
def noneT (d : PyData) : Bool := match d with | .none => true | _ => false
def callR (sc : Sco) (t a : PyData) (rep : Int) (r : Int × Bool × Int) : Bool := ((noneT t || (r.2.1 && oneT t sc.vn)) && argsT a r.1 sc.vn) && decide (rep + r.2.2 ≤ 3)
def callN (sc : Sco) (t n a : PyData) (rep : Int) : Bool := match n with
  | .str s => (match sc.cs.lookup s with
    | none => false
    | some r => callR sc t a rep r)
  | _ => false
def callT (sc : Sco) (ds : List PyData) (rep : Int) : Bool := match ds with
  | [t, n, a] => callN sc t n a rep
  | _ => false
end K1

/-! from K4Q -/
namespace K1
open PySem L2
def spCallF (C : Addr) : Sp := fun vs H Q _ => ∃ (t p : Addr) (xs : List V) (ds : List PyData) (sc : Sco) (rep : Int), vs = [.ref t, .ref p, .int rep] ∧ H t = some (.tup xs) ∧ AtAll H xs ds ∧ ScAt H C p sc ∧ (∀ z r, sc.cs.lookup z = some r → r.1 ≤ 100) ∧ ∀ H', Same H H' → Q (.bl (callT sc ds rep)) H'
theorem callT_len {sc : Sco} {ds : List PyData} {rep : Int} (h : ds.length ≠ 3) : callT sc ds rep = false := by
  match ds, h with
  | [], _ => rfl
  | [_], _ => rfl
  | [_, _], _ => rfl
  | [_, _, _], h => exact absurd rfl h
  | _ :: _ :: _ :: _ :: _, _ => rfl
theorem callT_no {sc : Sco} {d0 d1 d2 : PyData} {rep : Int} (h : oneT d1 (sc.cs.map (·.1)) = false) : callT sc [d0, d1, d2] rep = false := by
  cases d1 with
  | str s =>
    have n : sc.cs.lookup s = none := by
      rw [List.lookup_eq_none_iff]
      intro q hq
      have h' : decide (s ∈ sc.cs.map (·.1)) = false := h
      have h2 := of_decide_eq_false h'
      have : ¬ s = q.1 := fun e => h2 (List.mem_map.mpr ⟨q, hq, e.symm⟩)
      simpa using this
    show callN sc d0 (.str s) d2 rep = false
    unfold callN
    dsimp only
    rw [n]
  | _ => rfl
theorem oneT_str {d : PyData} {ns : List Str} (h : oneT d ns = true) : ∃ s, d = .str s ∧ s ∈ ns := by
  cases d with
  | str s => exact ⟨s, rfl, of_decide_eq_true h⟩
  | _ => cases h
theorem look_some {cs : List (Str × (Int × Bool × Int))} {s : Str} (h : s ∈ cs.map (·.1)) : ∃ m b d, cs.lookup s = some (m, b, d) := by
  cases q : cs.lookup s with
  | none =>
    obtain ⟨⟨n, r⟩, hr, e⟩ := List.mem_map.mp h
    have e : n = s := e
    rw [List.lookup_eq_none_iff] at q
    have := q _ hr
    rw [e] at this
    simp at this
  | some r => exact ⟨r.1, r.2.1, r.2.2, rfl⟩
theorem at_str {H : Hp} {v : V} {s : Str} (h : At H v (.str s)) : v = .str s := by
  cases h
  rfl
theorem none_at {H : Hp} {v : V} {d : PyData} (h : At H v d) : noneT d = decide (v = .non) := by
  cases h <;> rfl
theorem fits_var {sc : Sco} {d : PyData} : fitsT sc "variable" d = oneT d sc.vn := by
  unfold fitsT
  rw [if_neg (by decide +kernel), if_neg (by decide +kernel), if_neg (by decide +kernel), if_pos rfl]
theorem fits_varV {sc : Sco} {v : V} : fitsV sc "variable" v = oneV v sc.vn := by
  unfold fitsV
  rw [if_neg (by decide +kernel), if_neg (by decide +kernel), if_neg (by decide +kernel), if_pos rfl]
theorem all_at {H : Hp} {ns : List Str} : ∀ {vs : List V} {ds : List PyData}, AtAll H vs ds → (vs.all fun v => oneV v ns) = ds.all fun d => oneT d ns
  | _, _, .nil => rfl
  | _, _, .cons h t => by
    rw [List.all_cons, List.all_cons, one_at h, all_at t]
theorem at_lst {H : Hp} {v : V} {d : PyData} (h : At H v d) : (∃ (a : Addr) (ys : List V) (es : List PyData), v = .ref a ∧ d = .list es ∧ H a = some (.lst ys) ∧ AtAll H ys es) ∨ (lstOf H v = none ∧ ∀ m vn, argsT d m vn = false) := by
  cases h with
  | lst e t => exact .inl ⟨_, _, _, rfl, rfl, e, t⟩
  | tup e t => exact .inr ⟨lstOf_tup e, fun _ _ => rfl⟩
  | dic e => exact .inr ⟨lstOf_dic e, fun _ _ => rfl⟩
  | _ => exact .inr ⟨rfl, fun _ _ => rfl⟩
abbrev fcN : List Str := ["words", "scope", "repeats", "target", "name", "arguments", "many", "has_result", "depth", "argument"]
section
variable {P : Program} {w : World} {K : PySem.W.Frag} {mg : Str → Option Value} {base : Heap}
end
end K1

/-! from K4T -/
namespace L2
open PySem PySem.Spec PyProof.Rows
end L2
namespace K1
open PySem L2
/-! ### all([e for x, y in zip(xs, ys)]), two tuples -/
theorem all_zip {K : PySem.W.Frag} {σ : St} {H : Hp} {Q : VK} {i j : Nat} {a b : Addr} {xs ys : List V} {p : V → V → Bool} {ta : TA} {te : TE} {vs : List Nat} (hl : ∀ Q' : List V → Hp → Prop, Q' [.ref a, .ref b] H → ta σ H Q') (ha : ∀ H1, Same H H1 → SqT K H1 a xs) (hb : ∀ H1, Same H H1 → SqT K H1 b ys) (len : xs.length = ys.length)
    (few : xs.length < sizeLine) (hw : ∀ x y, wipe (((wipe σ vs).set i (some x)).set j (some y)) vs = wipe σ vs)
    (he : ∀ (k : Nat) (x y : V), xs[k]? = some x → ys[k]? = some y → ∀ H1, Same H H1 → ∀ Q' : VK, (∀ H2, Same H1 H2 → Q' (.bl (p x y)) H2) → te (((wipe σ vs).set i (some x)).set j (some y)) H1 Q')
    (k : ∀ H1, Same H H1 → Q (.bl ((xs.zip ys).all fun q => p q.1 q.2)) H1) :
    tCB (rAll K) (tCons (tLc (RZ.iZipA K ta) (gTup K 2 (gCons (gName i) (gCons (gName j) gNil))) tYes te vs) tNil) σ H Q := by
  refine hl _ ⟨a, b, xs, ys, rfl, .inr ⟨ha H (Same.refl H), hb H (Same.refl H), fun D hD => ?_⟩⟩
  have s0 : Same H (upd H D (.lst [])) := same_new (Same.refl _) hD
  have lz : (xs.zip ys).length = xs.length := by rw [List.length_zip]; omega
  refine ⟨fun n m H1 => m + n = xs.length ∧ Same H H1 ∧ H1 D = some (.lst (((xs.zip ys).take n).map fun q => V.bl (p q.1 q.2))), ⟨xs.length, by omega, s0, by rw [upd_same]; rfl⟩, ?_⟩
  rintro n m H1 ⟨hm, s1, e1⟩
  by_cases hlt : n < xs.length
  · have hx : xs[n]? = some xs[n] := List.getElem?_eq_getElem hlt
    have hy : ys[n]? = some (ys[n]'(by omega)) := List.getElem?_eq_getElem (by omega)
    have hz : (xs.zip ys)[n]? = some (xs[n], ys[n]'(by omega)) := by
      rw [List.getElem?_eq_getElem (by omega), List.getElem_zip]
    refine .inr ⟨⟨xs, ys, _, _, ha H1 s1, hb H1 s1, hx, hy⟩, fun H2 => Same H H2 ∧ H2 D = some (.lst (((xs.zip ys).take (n + 1)).map fun q => V.bl (p q.1 q.2))), fun H2 h2 => ⟨xs.length - (n + 1), by omega, by omega, h2⟩, fun v H2 y => ?_⟩
    obtain ⟨T, x, y, rfl, hT, rfl, q1, q2⟩ := y
    have ex := q1 xs (ha H1 s1)
    have ey := q2 ys (hb H1 s1)
    have s2 : Same H1 (upd H1 T (.tup [x, y])) := same_new (Same.refl _) hT
    refine pair_rd ⟨hw x y, ?_⟩
    unfold tYes
    dsimp only
    rw [if_pos rfl]
    refine he n x y ex ey _ (s1.trans s2) _ fun H3 s3 => ⟨_, s3 _ _ (s2 _ _ e1), ?_, fun b o e => ?_, ?_⟩
    · rw [List.length_map, List.length_take]
      omega
    · rw [upd_ne (ne_of_none e hD)]
      exact s3 _ _ (s2 _ _ (s1 b o e))
    · have ez : (xs.zip ys)[n]? = some (x, y) := by
        rw [hx] at ex
        rw [hy] at ey
        rw [hz, Option.some.inj ex, Option.some.inj ey]
      rw [upd_same, take_snoc ez, List.map_append]
      rfl
  · have en : n = xs.length := by omega
    subst en
    refine .inl ⟨⟨xs, ys, ha H1 s1, hb H1 s1, .inl (Nat.le_refl _)⟩, ?_⟩
    refine ⟨D, (xs.zip ys).map fun q => p q.1 q.2, rfl, SqL.of (by rw [e1, List.take_of_length_le (by omega), List.map_map]; rfl), ?_⟩
    rw [show ((xs.zip ys).map fun q => p q.1 q.2).all id = (xs.zip ys).all fun q => p q.1 q.2 by rw [List.all_map]; rfl]
    exact k _ s1
end K1

/-! from K4U -/
namespace K1
open PySem L2
/-! ### fits_form -/
def forms : List (Str × List Str) := [("new", ["variable", "class"]), ("copy", ["variable", "variable"]), ("clear", ["variable"]), ("load", ["variable", "variable", "field"]), ("store", ["variable", "field", "variable"]), ("wipe", ["variable", "field"]), ("tag", ["variable", "name"]), ("emit", ["variable"]),
  ("weak", ["weak", "variable"]), ("get", ["variable", "weak"]), ("collect", ["level"]), ("ifnil", ["variable", "block", "block"]), ("ifsame", ["variable", "variable", "block", "block"]), ("repeat", ["times", "block"])]
structure Frm (w : World) (K : PySem.W.Frag) (mg : Str → Option Value) (fa : Addr) : Prop where
  g : mg "FORMS" = some (.ref fa)
  kd : ∃ es n, KDict K w fa es n
  has : ∀ s ws, forms.lookup s = some ws → ∃ t, PySem.W.nsIn K fa s = some (some (.ref t)) ∧ ∀ H, SqT K H t (ws.map V.str)
  no : ∀ s, forms.lookup s = none → PySem.W.nsIn K fa s = some none
theorem look_mem {α : Type} {s : Str} {r : α} : ∀ {cs : List (Str × α)}, cs.lookup s = some r → (s, r) ∈ cs
  | [], h => by cases h
  | (n, x) :: cs, h => by
    rw [List.lookup_cons] at h
    split at h
    · rename_i z
      cases h
      rw [show s = n by simpa using z]
      exact List.mem_cons_self
    · exact List.mem_cons_of_mem _ (look_mem h)
theorem forms_few {s : Str} {ws : List Str} (h : forms.lookup s = some ws) : ws.length ≤ 4 ∧ ws ≠ [] := by
  have : ∀ q ∈ forms, q.2.length ≤ 4 ∧ q.2 ≠ [] := by decide +kernel
  exact this (s, ws) (look_mem h)
theorem at_tup {H : Hp} {v : V} {d : PyData} (h : At H v d) : (∃ (a : Addr) (ys : List V) (es : List PyData), v = .ref a ∧ d = .tuple es ∧ H a = some (.tup ys) ∧ AtAll H ys es) ∨ (tupOf H v = none ∧ ∀ es, d ≠ .tuple es) := by
  cases h with
  | lst e t => exact .inr ⟨tupOf_lst e, fun _ z => by cases z⟩
  | tup e t => exact .inl ⟨_, _, _, rfl, rfl, e, t⟩
  | dic e => exact .inr ⟨tupOf_dic e, fun _ z => by cases z⟩
  | _ => exact .inr ⟨rfl, fun _ z => by cases z⟩
def kindsT (sc : Sco) (ws : List Str) (ds : List PyData) : Bool := decide (ds.length = ws.length) && (ws.zip ds).all fun q => fitsT sc q.1 q.2
def wordsT (sc : Sco) (s : Str) (ds : List PyData) (rep : Int) : Bool :=
  if s = "call" then callT sc ds rep else match forms.lookup s with
    | none => false
    | some ws => (decide (ds.length = ws.length) && !(decide (s = "repeat") && decide (rep = 3))) && (ws.zip ds).all fun q => fitsT sc q.1 q.2
def formT (sc : Sco) (d : PyData) (rep : Int) : Bool := match d with
  | .tuple (.str s :: ds) => wordsT sc s ds rep
  | _ => false
def spForm (C : Addr) : Sp := fun vs H Q _ => ∃ (v : V) (p : Addr) (d : PyData) (sc : Sco) (rep : Int), vs = [v, .ref p, .int rep] ∧ At H v d ∧ ScAt H C p sc ∧ (∀ z r, sc.cs.lookup z = some r → r.1 ≤ 100) ∧ ∀ H', Same H H' → Q (.bl (formT sc d rep)) H'
theorem form_not {sc : Sco} {d : PyData} {rep : Int} (h : ∀ es, d ≠ .tuple es) : formT sc d rep = false := by
  unfold formT
  split
  · exact absurd rfl (h _)
  · rfl
theorem form_str {sc : Sco} {e : PyData} {es : List PyData} {rep : Int} (h : ∀ z, e ≠ .str z) : formT sc (.tuple (e :: es)) rep = false := by
  unfold formT
  split
  · rename_i q
    cases q
    exact absurd rfl (h _)
  · rfl
theorem isS_at {H : Hp} {v : V} {d : PyData} (h : At H v d) : (isS v = true ∧ ∃ z, v = .str z ∧ d = .str z) ∨ (isS v = false ∧ ∀ z, d ≠ .str z) := by
  cases h with
  | str s _ => exact .inl ⟨rfl, s, rfl, rfl⟩
  | _ => exact .inr ⟨rfl, fun _ z => by cases z⟩
theorem sIx_one {n d : Nat} (h : 1 ≤ n) : HT.sIx n d (some 1) = 1 := by
  show (if (1 : Int) < 0 then ((1 : Int) + (n : Int)).toNat else min (1 : Int).toNat n) = 1
  rw [if_neg (by decide)]
  show min 1 n = 1
  omega
theorem cut_tail {y : V} {ys : List V} : cutV (y :: ys) (some 1) none = ys := by
  unfold cutV
  have e1 : HT.sIx (y :: ys).length 0 (some 1) = 1 := sIx_one (by rw [List.length_cons]; omega)
  have e2 : HT.sIx (y :: ys).length (y :: ys).length none = ys.length + 1 := rfl
  rw [e1, e2]
  show List.take (ys.length + 1 - 1) ys = ys
  simp
theorem zip_fits {H : Hp} {sc : Sco} : ∀ {vs : List V} {ds : List PyData}, AtAll H vs ds → ∀ ws : List Str, (((ws.map V.str).zip vs).all fun q => match q.1 with | .str kd => fitsV sc kd q.2 | _ => false) = (ws.zip ds).all fun q => fitsT sc q.1 q.2
  | _, _, .nil, ws => by cases ws <;> rfl
  | _, _, .cons h t, [] => rfl
  | _, _, .cons (v := v) (d := d) h t, k :: ws => by
    rw [List.map_cons, List.zip_cons_cons, List.zip_cons_cons, List.all_cons, List.all_cons, zip_fits t ws]
    show (fitsV sc k v && _) = (fitsT sc k d && _)
    rw [fits_at h]
abbrev ffN : List Str := ["statement", "scope", "repeats", "word", "words", "kinds", "kind", "value"]
section
variable {P : Program} {w : World} {K : PySem.W.Frag} {mg : Str → Option Value} {base : Heap}
end
end K1

/-! from K4V -/
namespace K1
open PySem L2
/-! ### depth_of -/
def callDp (sc : Sco) (es : List PyData) : Int := match es with
  | [_, n, _] => (match n with
    | .str s => (match sc.cs.lookup s with
      | some r => r.2.2
      | none => 0)
    | _ => 0)
  | _ => 0
def depthT (sc : Sco) (s : Str) (es : List PyData) (rep : Int) : Int := if s = "repeat" then rep + 1 else if s = "call" then rep + callDp sc es else rep
theorem callT_is {sc : Sco} {es : List PyData} {rep : Int} (h : callT sc es rep = true) : ∃ t z a m b dp, es = [t, .str z, a] ∧ sc.cs.lookup z = some (m, b, dp) := by
  match es, h with
  | [], h => cases h
  | [_], h => cases h
  | [_, _], h => cases h
  | [t, n, a], h =>
    have h : callN sc t n a rep = true := h
    cases n with
    | str z =>
      unfold callN at h
      dsimp only at h
      cases q : sc.cs.lookup z with
      | none =>
        rw [q] at h
        cases h
      | some r => exact ⟨t, z, a, r.1, r.2.1, r.2.2, rfl, q⟩
    | _ => cases h
  | _ :: _ :: _ :: _ :: _, h => cases h
def spDepth (C : Addr) : Sp := fun vs H Q _ => ∃ (a p : Addr) (s : Str) (ys : List V) (es : List PyData) (sc : Sco) (rep : Int), vs = [.ref a, .ref p, .int rep] ∧ H a = some (.tup (.str s :: ys)) ∧ AtAll H ys es ∧ ScAt H C p sc ∧ wordsT sc s es rep = true ∧ Q (.int (depthT sc s es rep)) H
section
variable {P : Program} {w : World} {K : PySem.W.Frag} {mg : Str → Option Value} {base : Heap}
theorem str_iff {x y : Str} : V.str x = V.str y ↔ x = y := ⟨fun e => by cases e; rfl, fun e => by rw [e]⟩
theorem none_of' {H H1 : Hp} {a : Addr} (s : Same H H1) (h : H1 a = none) : H a = none := by
  cases e : H a with
  | none => rfl
  | some o => rw [s _ _ e] at h; cases h
/-! ### blocks_of -/
def blkV {α : Type} (s : Str) (ys : List α) : List (α × List Int) :=
  if s = "repeat" then (match ys with
    | [_, b] => [(b, [])]
    | _ => [])
  else if s = "ifnil" then (match ys with
    | [_, a, b] => [(b, [1]), (a, [0])]
    | _ => [])
  else if s = "ifsame" then (match ys with
    | [_, _, a, b] => [(b, [1]), (a, [0])]
    | _ => [])
  else []
def BlkAt (H0 H : Hp) (pp : List Int) (t : V) (q : V × List Int) : Prop := ∃ (u pl : Addr), t = .ref u ∧ H0 u = none ∧ H u = some (.tup [q.1, .ref pl]) ∧ H pl = some (.tup ((pp ++ q.2).map V.int))
def spBlocks : Sp := fun vs H Q _ => ∃ (a pl : Addr) (s : Str) (ys : List V) (pp : List Int), vs = [.ref a, .ref pl] ∧ H a = some (.tup (.str s :: ys)) ∧ H pl = some (.tup (pp.map V.int)) ∧ pp ≠ [] ∧ pp.length ≤ 1000 ∧ (∀ ws, forms.lookup s = some ws → ys.length = ws.length) ∧
  ∀ (q : Addr) (H' : Hp) (ts : List V), Same H H' → H q = none → H' q = some (.lst ts) → Paired (BlkAt H H' pp) ts (blkV s ys) → Q (.ref q) H'
theorem one_blk {H0 H : Hp} {pp : List Int} {z : Str} {ys : List V} {pl u : Addr} {b : V} (e : blkV z ys = [(b, [])]) (n : H0 u = none) (h : H u = some (.tup [b, .ref pl])) (hp : H pl = some (.tup (pp.map V.int))) : Paired (BlkAt H0 H pp) [.ref u] (blkV z ys) := by
  rw [e]
  exact .cons ⟨u, pl, rfl, n, h, by rw [List.append_nil]; exact hp⟩ .nil
theorem two_rd {σ : St} {H : Hp} {Q : VK} {a pl : Addr} {z : Str} {ys : List V} {pp : List Int} {b0 a0 : V} (e0 : σ[0]? = some (some (.ref a))) (e1 : σ[1]? = some (some (.ref pl))) (ha : H a = some (.tup (.str z :: ys))) (hpl : H pl = some (.tup (pp.map V.int))) (np : pp ≠ []) (pf : pp.length ≤ 1000)
    (hb : atI (V.str z :: ys) (-1) = some b0) (hc : atI (V.str z :: ys) (-2) = some a0) (eb : blkV z ys = [(b0, [1]), (a0, [0])]) (k : ∀ (q : Addr) (H' : Hp) (ts : List V), Same H H' → H q = none → H' q = some (.lst ts) → Paired (BlkAt H H' pp) ts (blkV z ys) → Q (.ref q) H') :
    tLst (tCons (tTup (tCons (tOp (rIxT K) (tVar 0) (tUn (rU fun i => V.int (-i)) (tC (V.int 1)))) (tCons (tOp (rCatT K) (tVar 1) (tTup (tCons (tC (V.int 1)) tNil))) tNil))) (tCons (tTup (tCons (tOp (rIxT K) (tVar 0) (tUn (rU fun i => V.int (-i)) (tC (V.int 2)))) (tCons (tOp (rCatT K) (tVar 1) (tTup (tCons (tC (V.int 0)) tNil))) tNil))) tNil)) σ H Q := by
  have big : 1001 ≤ sizeLine := by decide
  have nmap : pp.map V.int ≠ [] := fun e => np (List.map_eq_nil_iff.mp e)
  refine ⟨_, e0, 1, rfl, a, _, _, b0, rfl, rfl, SqT.of ha, hb, _, e1, by show 1 ≤ sizeLine; decide, fun t1 n1 => ?_⟩
  have s1 := same_new (o := .tup [.int 1]) (Same.refl H) n1
  refine ⟨pl, t1, _, _, rfl, rfl, SqT.of (s1 _ _ hpl), SqT.of upd_same, nmap, by rw [List.length_map, List.length_singleton]; omega, fun z => (by cases z), fun _ p1 m1 => ?_⟩
  have s2 := same_new (o := .tup (pp.map V.int ++ [.int 1])) s1 m1
  refine ⟨by show 2 ≤ sizeLine; decide, fun u1 v1 => ?_⟩
  have s3 := same_new (o := .tup [b0, .ref p1]) s2 v1
  refine ⟨_, e0, 2, rfl, a, _, _, a0, rfl, rfl, SqT.of (s3 _ _ ha), hc, _, e1, by show 1 ≤ sizeLine; decide, fun t2 n2 => ?_⟩
  have s4 := same_new (o := .tup [.int 0]) s3 n2
  refine ⟨pl, t2, _, _, rfl, rfl, SqT.of (s4 _ _ hpl), SqT.of upd_same, nmap, by rw [List.length_map, List.length_singleton]; omega, fun z => (by cases z), fun _ p2 m2 => ?_⟩
  have s5 := same_new (o := .tup (pp.map V.int ++ [.int 0])) s4 m2
  refine ⟨by show 2 ≤ sizeLine; decide, fun u2 v2 => ?_⟩
  have s6 := same_new (o := .tup [a0, .ref p2]) s5 v2
  refine ⟨by show 2 ≤ sizeLine; decide, fun q nq => ?_⟩
  have s7 := same_new (o := .lst [.ref u1, .ref u2]) s6 nq
  have f3 : Same _ _ := ((((same_new (o := .tup [.int 0]) (Same.refl _) n2).trans (same_new (o := .tup (pp.map V.int ++ [.int 0])) (Same.refl _) m2)).trans (same_new (o := .tup [a0, .ref p2]) (Same.refl _) v2)).trans (same_new (o := .lst [.ref u1, .ref u2]) (Same.refl _) nq))
  refine k q _ [.ref u1, .ref u2] s7 (none_of' s6 nq) upd_same ?_
  rw [eb]
  refine .cons ⟨u1, p1, rfl, none_of' s2 v1, f3 _ _ upd_same, ?_⟩ (.cons ⟨u2, p2, rfl, none_of' s5 v2, ?_, ?_⟩ .nil)
  · rw [List.map_append]
    exact f3 _ _ (same_new (o := .tup [b0, .ref p1]) (Same.refl _) v1 _ _ upd_same)
  · exact same_new (o := .lst [.ref u1, .ref u2]) (Same.refl _) nq _ _ upd_same
  · rw [List.map_append]
    exact ((same_new (o := .tup [a0, .ref p2]) (Same.refl _) v2).trans (same_new (o := .lst [.ref u1, .ref u2]) (Same.refl _) nq)) _ _ upd_same
end
end K1

/-! from K4W -/
namespace K1
open PySem L2
/-! ### survey, as a run over trees -/
structure Fr where
  blk : PyData
  ahead : List Int
  nested : Nat
  rep : Int
  index : Nat
abbrev Sv : Type := Option (List Int) × Int × Int
inductive Nxt where
  | fin (r : Sv)
  | go (ws : List Fr) (many depth : Int)
theorem st_good {sc : Sco} {w : Fr} {d : PyData} (h : formT sc d w.rep = true) : ∃ s es, d = .tuple (.str s :: es) ∧ wordsT sc s es w.rep = true := by
  unfold formT at h
  split at h
  · exact ⟨_, _, rfl, h⟩
  · cases h
theorem at_lst2 {H : Hp} {v : V} {d : PyData} (h : At H v d) : (∃ (a : Addr) (ys : List V) (es : List PyData), v = .ref a ∧ d = .list es ∧ H a = some (.lst ys) ∧ AtAll H ys es) ∨ (lstOf H v = none ∧ ∀ es, d ≠ .list es) := by
  cases h with
  | lst e t => exact .inl ⟨_, _, _, rfl, rfl, e, t⟩
  | tup e t => exact .inr ⟨lstOf_tup e, fun _ z => by cases z⟩
  | dic e => exact .inr ⟨lstOf_dic e, fun _ z => by cases z⟩
  | _ => exact .inr ⟨rfl, fun _ z => by cases z⟩
theorem paired_snoc {α β : Type} {F : α → β → Prop} : ∀ {l : List α} {m : List β} {b : β}, Paired F l (m ++ [b]) → ∃ l' a, l = l' ++ [a] ∧ Paired F l' m ∧ F a b
  | _, [], b, h => by
    cases h with
    | cons f t =>
      cases t
      exact ⟨[], _, rfl, .nil, f⟩
  | _, c :: m, b, h => by
    cases h with
    | cons f t =>
      obtain ⟨l', a, e, p, q⟩ := paired_snoc t
      exact ⟨_ :: l', a, by rw [e]; rfl, .cons f p, q⟩
theorem paired_app {α β : Type} {F : α → β → Prop} : ∀ {l l' : List α} {m m' : List β}, Paired F l m → Paired F l' m' → Paired F (l ++ l') (m ++ m')
  | _, _, _, _, .nil, h => h
  | _, _, _, _, .cons f t, h => .cons f (paired_app t h)
theorem blk_at {H : Hp} {s : Str} {ys : List V} {es : List PyData} (h : AtAll H ys es) : Paired (fun q q' => At H q.1 q'.1 ∧ q.2 = q'.2) (blkV s ys) (blkV s es) := by
  unfold blkV
  by_cases h1 : s = "repeat"
  · rw [if_pos h1, if_pos h1]
    match ys, es, h with
    | _, _, .nil => exact .nil
    | _, _, .cons _ .nil => exact .nil
    | _, _, .cons _ (.cons h2 .nil) => exact .cons ⟨h2, rfl⟩ .nil
    | _, _, .cons _ (.cons _ (.cons _ _)) => exact .nil
  rw [if_neg h1, if_neg h1]
  by_cases h2 : s = "ifnil"
  · rw [if_pos h2, if_pos h2]
    match ys, es, h with
    | _, _, .nil => exact .nil
    | _, _, .cons _ .nil => exact .nil
    | _, _, .cons _ (.cons _ .nil) => exact .nil
    | _, _, .cons _ (.cons a (.cons b .nil)) => exact .cons ⟨b, rfl⟩ (.cons ⟨a, rfl⟩ .nil)
    | _, _, .cons _ (.cons _ (.cons _ (.cons _ _))) => exact .nil
  rw [if_neg h2, if_neg h2]
  by_cases h3 : s = "ifsame"
  · rw [if_pos h3, if_pos h3]
    match ys, es, h with
    | _, _, .nil => exact .nil
    | _, _, .cons _ .nil => exact .nil
    | _, _, .cons _ (.cons _ .nil) => exact .nil
    | _, _, .cons _ (.cons _ (.cons _ .nil)) => exact .nil
    | _, _, .cons _ (.cons _ (.cons a (.cons b .nil))) => exact .cons ⟨b, rfl⟩ (.cons ⟨a, rfl⟩ .nil)
    | _, _, .cons _ (.cons _ (.cons _ (.cons _ (.cons _ _)))) => exact .nil
  rw [if_neg h3, if_neg h3]
  exact .nil
theorem blk_few {α : Type} {s : Str} {ys : List α} : (blkV s ys).length ≤ 2 ∧ ∀ q ∈ blkV s ys, q.2.length ≤ 1 := by
  unfold blkV
  split
  · split
    · exact ⟨by simp, fun q hq => by rw [List.mem_singleton.mp hq]; simp⟩
    · exact ⟨by simp, fun q hq => by cases hq⟩
  split
  · split
    · exact ⟨by simp, fun q hq => by
        simp only [List.mem_cons, List.not_mem_nil, or_false] at hq
        rcases hq with rfl | rfl <;> simp⟩
    · exact ⟨by simp, fun q hq => by cases hq⟩
  split
  · split
    · exact ⟨by simp, fun q hq => by
        simp only [List.mem_cons, List.not_mem_nil, or_false] at hq
        rcases hq with rfl | rfl <;> simp⟩
    · exact ⟨by simp, fun q hq => by cases hq⟩
  exact ⟨by simp, fun q hq => by cases hq⟩
theorem same_updL {H H2 : Hp} {a : Addr} {o : HO} (s : Same H H2) (h : H a = none) : Same H (upd H2 a o) := fun b u e => by
  have ne : b ≠ a := fun z => by rw [z, h] at e; cases e
  rw [upd_ne ne]
  exact s _ _ e
/-! ### where it stands -/
def FrAt (H0 H : Hp) (v : V) (w : Fr) : Prop := ∃ (u pl : Addr) (bv : V), v = .ref u ∧ H u = some (.tup [bv, .ref pl, .int w.nested, .int w.rep, .int w.index]) ∧ At H0 bv w.blk ∧ H pl = some (.tup (w.ahead.map V.int)) ∧ w.ahead.length ≤ 2 * w.nested ∧ w.nested ≤ 61 ∧ ∀ ds, w.blk = .list ds → w.index ≤ ds.length
theorem FrAt.mono {H0 H H' : Hp} {v : V} {w : Fr} (h : FrAt H0 H v w) (s : Same H H') : FrAt H0 H' v w := by
  obtain ⟨u, pl, bv, e, h1, h2, h3, h4⟩ := h
  exact ⟨u, pl, bv, e, s _ _ h1, h2, s _ _ h3, h4⟩
theorem FrAt.upd {H0 H : Hp} {v : V} {w : Fr} {l : Addr} {xs ys : List V} (h : FrAt H0 H v w) (hl : H l = some (.lst xs)) : FrAt H0 (L2.upd H l (.lst ys)) v w := by
  obtain ⟨u, pl, bv, e, h1, h2, h3, h4⟩ := h
  refine ⟨u, pl, bv, e, ?_, h2, ?_, h4⟩
  · rw [upd_ne (ne_of h1 hl (by intro z; cases z))]
    exact h1
  · rw [upd_ne (ne_of h3 hl (by intro z; cases z))]
    exact h3
def PlaceV (H : Hp) (v : V) (o : Option (List Int)) : Prop := match o with
  | none => v = .non
  | some l => ∃ t, v = .ref t ∧ H t = some (.tup (l.map V.int))
def SuAt (H : Hp) (CU x : Addr) (r : Sv) : Prop := ∃ (dx : Addr) (pv : V) (bu : Bool), H x = some (.ins CU dx (suF pv (.int r.2.1) (.int r.2.2) (.bl bu))) ∧ PlaceV H pv r.1 ∧ ∀ l, r.1 = some l → l.length ≤ 200
end K1

/-! from K4Y -/
namespace K1
open PySem L2
theorem words_len {sc : Sco} {s : Str} {es : List PyData} {rep : Int} {ws : List Str} (h : wordsT sc s es rep = true) (e : forms.lookup s = some ws) : es.length = ws.length := by
  unfold wordsT at h
  split at h
  · rename_i z
    rw [z, show forms.lookup ("call" : Str) = none by decide +kernel] at e
    cases e
  · rw [e] at h
    have h : ((decide (es.length = ws.length) && !(decide (s = "repeat") && decide (rep = 3))) && (ws.zip es).all fun q => fitsT sc q.1 q.2) = true := h
    rw [Bool.and_eq_true, Bool.and_eq_true] at h
    exact of_decide_eq_true h.1.1
abbrev svN : List Str := ["body", "scope", "many", "depth", "buried", "ways", "block", "ahead", "nested", "repeats", "index", "statement", "place", "inner", "part", "start"]
section
variable {P : Program} {w : World} {K : PySem.W.Frag} {mg : Str → Option Value} {base : Heap}
end
end K1

/-! from K4Z -/
namespace K1
open PySem L2
/-! ### what is new since a heap -/
def off (H0 H : Hp) : Hp := fun a => match H0 a with
  | none => H a
  | some _ => none
theorem off_of {H0 H : Hp} {a : Addr} {o : HO} (n : H0 a = none) (h : H a = some o) : off H0 H a = some o := by
  unfold off
  rw [n]
  exact h
theorem off_at {H0 H : Hp} {a : Addr} {o : HO} (h : off H0 H a = some o) : H0 a = none ∧ H a = some o := by
  unfold off at h
  cases q : H0 a with
  | none =>
    rw [q] at h
    exact ⟨rfl, h⟩
  | some u =>
    rw [q] at h
    cases h
theorem off_mono {H0 H H' : Hp} (s : Same H H') : Same (off H0 H) (off H0 H') := fun b o e => by
  obtain ⟨n, h⟩ := off_at e
  exact off_of n (s _ _ h)
theorem off_sub {H0 H : Hp} : Same (off H0 H) H := fun b o e => (off_at e).2
theorem off_base {H0 H1 H : Hp} (s : Same H0 H1) : Same (off H1 H) (off H0 H) := fun b o e => by
  obtain ⟨n, h⟩ := off_at e
  exact off_of (none_of' s n) h
theorem off_dom {H0 H1 H : Hp} (s : ∀ a, H1 a = none → H0 a = none) : Same (off H1 H) (off H0 H) := fun b o e => by
  obtain ⟨n, h⟩ := off_at e
  exact off_of (s _ n) h
theorem dom_upd {H H1 : Hp} {l : Addr} {o u : HO} (s : Same H H1) (h : H1 l = some u) : ∀ a, H1 a = none → upd H l o a = none := fun a n => by
  rw [upd_ne (fun e => by rw [e, h] at n; cases n)]
  exact none_of' s n
theorem off_upd {H0 H : Hp} {l : Addr} {o u : HO} (h : H0 l = some u) : Same (off H0 H) (off H0 (upd H l o)) := fun b z e => by
  obtain ⟨n, q⟩ := off_at e
  refine off_of n ?_
  rw [upd_ne (fun y => by rw [y, h] at n; cases n)]
  exact q
/-! ### copied_block -/
def scaT (d : PyData) : Bool := match d with
  | .none | .bool _ | .int _ | .str _ => true
  | _ => false
def cpW (f : PyData → Bool) (s : Str) (d : PyData) : Bool := match d with
  | .list ds => if s = "call" then ds.all scaT else f d
  | _ => scaT d
def cpS (f : PyData → Bool) (d : PyData) : Bool := match d with
  | .tuple (.str s :: ds) => decide (ds.length ≤ 900) && ds.all (cpW f s)
  | _ => false
/-- what copied_block can copy, so deep -/
def cpB : Nat → PyData → Bool
  | 0, _ => false
  | k + 1, d => match d with
    | .list ds => decide (ds.length ≤ 900) && ds.all (cpS (cpB k))
    | _ => false
theorem cpB_is {k : Nat} {ds : List PyData} (h : cpB (k + 1) (.list ds) = true) : ds.length ≤ 900 ∧ ∀ d ∈ ds, cpS (cpB k) d = true := by
  have h : (decide (ds.length ≤ 900) && ds.all (cpS (cpB k))) = true := h
  rw [Bool.and_eq_true, List.all_eq_true] at h
  exact ⟨of_decide_eq_true h.1, h.2⟩
theorem cpS_is {f : PyData → Bool} {d : PyData} (h : cpS f d = true) : ∃ s ds, d = .tuple (.str s :: ds) ∧ ds.length ≤ 900 ∧ ∀ e ∈ ds, cpW f s e = true := by
  unfold cpS at h
  split at h
  · rw [Bool.and_eq_true, List.all_eq_true] at h
    exact ⟨_, _, rfl, of_decide_eq_true h.1, h.2⟩
  · cases h
theorem at_sca {H H' : Hp} {v : V} {d : PyData} (h : At H v d) (s : scaT d = true) : At H' v d := by
  cases h with
  | non => exact .non
  | bl b => exact .bl b
  | int i => exact .int i
  | str z q => exact .str z q
  | _ => cases s
theorem at_scas {H H' : Hp} : ∀ {vs : List V} {ds : List PyData}, AtAll H vs ds → (∀ d ∈ ds, scaT d = true) → AtAll H' vs ds
  | _, _, .nil, _ => .nil
  | _, _, .cons h t, s => .cons (at_sca h (s _ List.mem_cons_self)) (at_scas t fun d hd => s d (List.mem_cons_of_mem _ hd))
theorem at_app {H : Hp} : ∀ {vs vs' : List V} {ds ds' : List PyData}, AtAll H vs ds → AtAll H vs' ds' → AtAll H (vs ++ vs') (ds ++ ds')
  | _, _, _, _, .nil, h => h
  | _, _, _, _, .cons h t, h' => .cons h (at_app t h')
def spCopy (k : Nat) : Sp := fun vs H Q _ => ∃ (b : Addr) (ds : List PyData), vs = [.ref b] ∧ At H (.ref b) (.list ds) ∧ cpB k (.list ds) = true ∧ ∀ q H', Same H H' → At (off H H') (.ref q) (.list ds) → Q (.ref q) H'
abbrev cpN : List Str := ["block", "rows", "statement", "words", "word"]
section
variable {P : Program} {w : World} {K : PySem.W.Frag} {mg : Str → Option Value} {base : Heap}
end
end K1

/-! from L4A -/
namespace K1
open PySem L2
/-! ### scope_for, with what it holds -/
def scoOf (rows : List Row) (vn wn : List Str) (lv : Int) (cs : List (Str × (Int × Bool × Int))) : Sco := ⟨rows.map (·.n), rows.flatMap (·.fs), vn, wn, lv, cs⟩
def spSF (C : Addr) : Sp := fun vs H Q _ => ∃ (nm a wk r cs : Addr) (rows : List Row) (vn wn : List Str) (rs : List V) (cl : List (Str × (Int × Bool × Int))), vs = [.ref nm, .ref a, .ref wk, .ref r, .ref cs] ∧ ClsN nul H a rows ∧ rows.length ≤ 6 ∧ (∀ q ∈ rows, q.fs.length ≤ 3) ∧ H nm = some (.lst (vn.map V.str)) ∧ H wk = some (.lst (wn.map V.str)) ∧ H r = some (.lst rs) ∧ CallsAt H cs cl ∧
  ∀ p H', Same H H' → H p = none → ScAt H' C p (scoOf rows vn wn rs.length cl) → Q (.ref p) H'
/-- the keys of a dict that is being filled -/
def FK (kvs : List (Key × V)) (ns : List Str) : Prop := ∀ s : Str, (valV kvs (Sum.inr s)).isSome = decide (s ∈ ns)
theorem fk_nil : FK [] [] := fun s => rfl
theorem fk_put {kvs : List (Key × V)} {ns : List Str} (h : FK kvs ns) (t : Str) (v : V) : FK (putK kvs (Sum.inr t) v) (ns ++ [t]) := fun s => by
  rw [valV_put]
  by_cases e : s = t
  · rw [if_pos (by rw [e]), e]
    simp
  · rw [if_neg (fun z => e (by cases z; rfl)), h s]
    simp [e]
theorem flat_take {rows : List Row} {i : Nat} {q : Row} (h : rows[i]? = some q) : (rows.take (i + 1)).flatMap (·.fs) = (rows.take i).flatMap (·.fs) ++ q.fs := by
  rw [take_snoc h, List.flatMap_append]
  simp
section
variable {P : Program} {w : World} {K : PySem.W.Frag} {mg : Str → Option Value} {base : Heap}
end
end K1

/-! from L4B -/
namespace K1
open PySem L2
/-! ### is_head -/
def badT (bar : List Str) : List PyData → List Str → Nat → Option Nat
  | [], _, _ => none
  | .str s :: r, seen, i => if (nameS s && !seen.contains s && !bar.contains s) = true then badT bar r (seen ++ [s]) (i + 1) else some i
  | _ :: _, _, i => some i
theorem bad_at {H : Hp} {bar : List Str} : ∀ {vs : List V} {ds : List PyData} {seen : List Str} {i : Nat}, AtAll H vs ds → badFrom bar vs seen i = badT bar ds seen i
  | _, _, _, _, .nil => rfl
  | _, _, seen, i, .cons (v := v) (vs := vs) (d := d) (ds := ds) h t => by
    cases h with
    | str s q =>
      show (if (nameS s && !seen.contains s && !bar.contains s) = true then badFrom bar vs (seen ++ [s]) (i + 1) else some i) = (if (nameS s && !seen.contains s && !bar.contains s) = true then badT bar ds (seen ++ [s]) (i + 1) else some i)
      rw [bad_at t]
    | _ => rfl
def strsT (ds : List PyData) : List Str := ds.filterMap fun d => match d with
  | .str s => some s
  | _ => none
theorem badT_none {bar : List Str} : ∀ {ds : List PyData} {seen : List Str} {i : Nat}, badT bar ds seen i = none → ds = (strsT ds).map PyData.str
  | [], _, _, _ => rfl
  | .str s :: r, seen, i, h => by
    have h : (if (nameS s && !seen.contains s && !bar.contains s) = true then badT bar r (seen ++ [s]) (i + 1) else some i) = none := h
    split at h
    · show PyData.str s :: r = PyData.str s :: (strsT r).map PyData.str
      rw [← badT_none h]
    · cases h
  | .none :: _, _, _, h => by cases h
  | .bool _ :: _, _, _, h => by cases h
  | .int _ :: _, _, _, h => by cases h
  | .list _ :: _, _, _, h => by cases h
  | .tuple _ :: _, _, _, h => by cases h
  | .dict _ :: _, _, _, h => by cases h
theorem at_strs {H : Hp} : ∀ {vs : List V} {ss : List Str}, AtAll H vs (ss.map PyData.str) → vs = ss.map V.str
  | _, [], .nil => rfl
  | _, s :: ss, .cons h t => by rw [at_str h, at_strs t] <;> rfl
def headN (ps : List PyData) (wn : List Str) (r : PyData) : Bool := (decide (ps.length ≤ 8) && (badT wn ps [] 0).isNone) && (noneT r || oneT r (strsT ps))
def headW (cs : List (Str × (Int × Bool × Int))) (wn : List Str) (n p i r : PyData) : Bool := (nameT n && !oneT n (cs.map (·.1))) && match p with
  | .list ps => (match i with
    | .list is => headN (ps ++ is) wn r
    | _ => false)
  | _ => false
def headT (cs : List (Str × (Int × Bool × Int))) (wn : List Str) (d : PyData) : Bool := match d with
  | .tuple es => (match es with
    | [n, p, i, _, r] => headW cs wn n p i r
    | _ => false)
  | _ => false
theorem headT_not {cs : List (Str × (Int × Bool × Int))} {wn : List Str} {d : PyData} (h : ∀ es, d ≠ .tuple es) : headT cs wn d = false := by
  unfold headT
  split
  · exact absurd rfl (h _)
  · rfl
theorem headT_len {cs : List (Str × (Int × Bool × Int))} {wn : List Str} {es : List PyData} (h : es.length ≠ 5) : headT cs wn (.tuple es) = false := by
  match es, h with
  | [], _ => rfl
  | [_], _ => rfl
  | [_, _], _ => rfl
  | [_, _, _], _ => rfl
  | [_, _, _, _], _ => rfl
  | [_, _, _, _, _], h => exact absurd rfl h
  | _ :: _ :: _ :: _ :: _ :: _ :: _, _ => rfl
def spHead : Sp := fun vs H Q _ => ∃ (v : V) (d : PyData) (sd wk : Addr) (cs : List (Str × (Int × Bool × Int))) (wn : List Str), vs = [v, .ref sd, .ref wk] ∧ At H v d ∧ CallsAt H sd cs ∧ H wk = some (.lst (wn.map V.str)) ∧ (∀ es, d = .tuple es → ∀ ys, PyData.list ys ∈ es → ys.length ≤ 1000) ∧ ∀ H', Same H H' → Q (.bl (headT cs wn d)) H'
theorem nameT_str {d : PyData} (h : nameT d = true) : ∃ s, d = .str s := by
  cases d with
  | str s => exact ⟨s, rfl⟩
  | _ => cases h
abbrev ihN : List Str := ["value", "seen", "weak", "name", "parameters", "inner", "_", "result"]
section
variable {P : Program} {w : World} {K : PySem.W.Frag} {mg : Str → Option Value} {base : Heap}
end
end K1

/-! from L4C -/
namespace K1
open PySem L2
/-! ### check_functions -/
theorem su_depth (a b c e : V) : (suF a b c e).lookup ("depth" : Str) = some c := by
  unfold suF
  rw [lookup_putF, if_neg (by decide +kernel), lookup_putF, if_pos rfl]
abbrev Cl : Type := List (Str × (Int × Bool × Int))
inductive FRes where
  | bad (l : List Int)
  | ok (cs : Cl) (many : Int)
structure Env where
  rows : List Row
  wn : List Str
  lv : Int
def noteT (cs : Cl) (nm : Str) (ps : List PyData) (r : PyData) (dp : Int) : Cl := cs ++ [(nm, ((ps.length : Int), !noneT r, dp))]
def partsT (d : PyData) : Option (Str × List PyData × List PyData × PyData × PyData) := match d with
  | .tuple es => (match es with
    | [n, p, i, b, r] => (match n with
      | .str nm => (match p with
        | .list ps => (match i with
          | .list is => some (nm, ps, is, b, r)
          | _ => none)
        | _ => none)
      | _ => none)
    | _ => none)
  | _ => none
theorem head_parts {cs : Cl} {wn : List Str} {d : PyData} (h : headT cs wn d = true) : ∃ nm ps is b r, d = .tuple [.str nm, .list ps, .list is, b, r] ∧ partsT d = some (nm, ps, is, b, r) ∧ oneT (.str nm) (cs.map (·.1)) = false ∧ (ps ++ is).length ≤ 8 ∧ badT wn (ps ++ is) [] 0 = none := by
  unfold headT at h
  split at h
  case h_2 => cases h
  split at h
  case h_2 => cases h
  rename_i n p i b r
  unfold headW at h
  rw [Bool.and_eq_true, Bool.and_eq_true] at h
  obtain ⟨⟨h1, h2⟩, h3⟩ := h
  obtain ⟨nm, rfl⟩ := nameT_str h1
  split at h3
  case h_2 => cases h3
  split at h3
  case h_2 => cases h3
  rename_i ps _ is
  unfold headN at h3
  rw [Bool.and_eq_true, Bool.and_eq_true] at h3
  refine ⟨nm, ps, is, b, r, rfl, rfl, by simpa using h2, of_decide_eq_true h3.1.1, ?_⟩
  exact Option.isNone_iff_eq_none.mp h3.1.2
theorem lookup_snoc {s n : Str} {r : Int × Bool × Int} : ∀ {cs : Cl}, (cs ++ [(n, r)]).lookup s = (match cs.lookup s with | some x => some x | none => if s = n then some r else none)
  | [] => by
    show ([(n, r)] : Cl).lookup s = _
    rw [List.lookup_cons]
    by_cases e : s = n
    · subst e
      simp
    · rw [show (s == n) = false by simpa using e]
      show none = (if s = n then some r else none)
      rw [if_neg e]
  | (m, x) :: cs => by
    rw [List.cons_append, List.lookup_cons, List.lookup_cons]
    cases s == m with
    | true => rfl
    | false => exact lookup_snoc
theorem calls_put {H : Hp} {a t : Addr} {cs : Cl} {kvs : List (Key × V)} {n : Str} {m : Int} {b : Bool} {d : Int} (h : H a = some (.dK kvs)) (k : ∀ s : Str, match cs.lookup s with | none => valV kvs (Sum.inr s) = none | some (m, h, d) => ∃ t, valV kvs (Sum.inr s) = some (.ref t) ∧ H t = some (.tup [.int m, .bl h, .int d]))
    (nn : cs.lookup n = none) (ht : H t = some (.tup [.int m, .bl b, .int d])) : CallsAt (upd H a (.dK (putK kvs (Sum.inr n) (.ref t)))) a (cs ++ [(n, (m, b, d))]) := by
  have keep : ∀ {c : Addr} {xs : List V}, H c = some (.tup xs) → (upd H a (.dK (putK kvs (Sum.inr n) (.ref t)))) c = some (.tup xs) := fun e => by
    rw [upd_ne (ne_of e h (by intro z; cases z))]
    exact e
  refine ⟨_, upd_same, fun s => ?_⟩
  rw [lookup_snoc, valV_put]
  have q := k s
  by_cases e : s = n
  · subst e
    rw [nn]
    dsimp only
    rw [if_pos rfl, if_pos rfl]
    exact ⟨t, rfl, keep ht⟩
  · have en : ¬ (Sum.inr s : Key) = Sum.inr n := fun z => e (by cases z; rfl)
    cases hl : cs.lookup s with
    | none =>
      rw [hl] at q
      dsimp only
      rw [if_neg e, if_neg en]
      exact q
    | some x =>
      obtain ⟨m', b', d'⟩ := x
      rw [hl] at q
      obtain ⟨t', e1, e2⟩ := q
      dsimp only
      rw [if_neg en]
      exact ⟨t', e1, keep e2⟩
section
variable {P : Program} {w : World} {K : PySem.W.Frag} {mg : Str → Option Value} {base : Heap}
end
end K1

/-! from L4D -/
namespace K1
open PySem L2
theorem at_five {H : Hp} {xs : List V} {d0 d1 d2 d3 d4 : PyData} (h : AtAll H xs [d0, d1, d2, d3, d4]) : ∃ x0 x1 x2 x3 x4, xs = [x0, x1, x2, x3, x4] ∧ At H x0 d0 ∧ At H x1 d1 ∧ At H x2 d2 ∧ At H x3 d3 ∧ At H x4 d4 := by
  cases h with
  | cons a0 t0 =>
    cases t0 with
    | cons a1 t1 =>
      cases t1 with
      | cons a2 t2 =>
        cases t2 with
        | cons a3 t3 =>
          cases t3 with
          | cons a4 t4 =>
            cases t4
            exact ⟨_, _, _, _, _, rfl, a0, a1, a2, a3, a4⟩
section
variable {P : Program} {w : World} {K : PySem.W.Frag} {mg : Str → Option Value} {base : Heap}
/-! ### check_body -/
/-! ### copied_functions -/
def cpF (k : Nat) (d : PyData) : Bool := match d with
  | .tuple es => (match es with
    | [n, p, i, b, r] => (scaT n && scaT r) && ((match p with
      | .list ps => ps.all scaT
      | _ => false) && ((match i with
      | .list is => is.all scaT
      | _ => false) && cpB k b))
    | _ => false)
  | _ => false
theorem cpF_is {k : Nat} {d : PyData} (h : cpF k d = true) : ∃ n ps is bs r, d = .tuple [n, .list ps, .list is, .list bs, r] ∧ scaT n = true ∧ scaT r = true ∧ (∀ e ∈ ps, scaT e = true) ∧ (∀ e ∈ is, scaT e = true) ∧ cpB k (.list bs) = true := by
  unfold cpF at h
  split at h
  case h_2 => cases h
  split at h
  case h_2 => cases h
  rename_i n p i b r
  rw [Bool.and_eq_true, Bool.and_eq_true, Bool.and_eq_true, Bool.and_eq_true] at h
  obtain ⟨⟨h1, h2⟩, h3, h4, h5⟩ := h
  split at h3
  case h_2 => cases h3
  split at h4
  case h_2 => cases h4
  rw [List.all_eq_true] at h3 h4
  cases k with
  | zero => cases h5
  | succ k =>
    cases b with
    | list bs => exact ⟨_, _, _, _, _, rfl, h1, h2, h3, h4, h5⟩
    | _ => cases h5
def spCpF (k : Nat) : Sp := fun vs H Q _ => ∃ (a : Addr) (ds : List PyData), vs = [.ref a] ∧ At H (.ref a) (.list ds) ∧ ds.length ≤ 900 ∧ (∀ d ∈ ds, cpF k d = true) ∧ ∀ q H', Same H H' → At (off H H') (.ref q) (.list ds) → Q (.ref q) H'
end
end K1

/-! from L4E -/
namespace K1
open PySem L2
/-! ### Program.__init__, any body, any functions -/
def AtNew (H Hx : Hp) (v : V) (d : PyData) : Prop := At (off H Hx) v d
theorem AtNew.mono {H Hx Hy : Hp} {v : V} {d : PyData} (h : AtNew H Hx v d) (s : Same Hx Hy) : AtNew H Hy v d := At.mono (off_mono s) h
theorem AtNew.other {H Hx : Hp} {v : V} {d : PyData} {p : Addr} {o u : HO} (h : AtNew H Hx v d) (hp : H p = some o) : AtNew H (upd Hx p u) v d := At.mono (off_upd hp) h
mutual
theorem At.keepP {H Hx : Hp} {p CP dx : Addr} {fs : List (Str × V)} (hp : H p = some (.ins CP dx fs)) (kp : ∀ b o, H b = some o → b ≠ p → Hx b = some o) : ∀ {v : V} {d : PyData}, At H v d → At Hx v d
  | _, _, .non => .non
  | _, _, .bl b => .bl b
  | _, _, .int i => .int i
  | _, _, .str z h => .str z h
  | _, _, .lst e h => .lst (kp _ _ e (ne_of e hp (by intro z; cases z))) (h.keepP hp kp)
  | _, _, .tup e h => .tup (kp _ _ e (ne_of e hp (by intro z; cases z))) (h.keepP hp kp)
  | _, _, .dic e => .dic (kp _ _ e (ne_of e hp (by intro z; cases z)))
theorem AtAll.keepP {H Hx : Hp} {p CP dx : Addr} {fs : List (Str × V)} (hp : H p = some (.ins CP dx fs)) (kp : ∀ b o, H b = some o → b ≠ p → Hx b = some o) : ∀ {vs : List V} {ds : List PyData}, AtAll H vs ds → AtAll Hx vs ds
  | _, _, .nil => .nil
  | _, _, .cons h t => .cons (h.keepP hp kp) (t.keepP hp kp)
end
/-- a program stands at p, all that is its own new since H0 -/
def Prog2 (H0 H : Hp) (CP p : Addr) (rows : List Row) (ns ls : List Str) (th : Int) (ks : List Int) (bs fs : List PyData) : Prop := ∃ (dx a b c d f g : Addr), H p = some (.ins CP dx (pgF (.ref a) (.ref b) (.ref c) (.ref d) (.int th) (.ref f) (.ref g))) ∧ ClsN H0 H a rows ∧
  AtNew H0 H (.ref b) (.list bs) ∧ (H0 c = none ∧ H c = some (.lst (ns.map V.str))) ∧ (H0 d = none ∧ H d = some (.lst (ls.map V.str))) ∧ (H0 f = none ∧ H f = some (.lst (ks.map V.int))) ∧ AtNew H0 H (.ref g) (.list fs)
section
variable {P : Program} {w : World} {K : PySem.W.Frag} {mg : Str → Option Value} {base : Heap} {C CP CS CU : Addr} {kk : Nat}
end
end K1

/-! from L4F -/
namespace PySem.SeqAt
open Sem (wp)
theorem dct_eq_str (l : Addr) (dd : Option Addr) (es : Array DictEntry) (n : Nat) (sl : Array (Option Value)) (b : Str) (u : Tok) :
    Meets (Builtin.«dict.__eq__» ⟨[.ref l, .str b u], []⟩) (fun _ R s => s.heap.get? l = some { cls := .type "dict", dict := dd, data := .dict es n, slots := sl } ∧ R (.ok (.ret .notImplemented)) s) :=
  .of_wp fun prog w A R s h => by
    obtain ⟨hp, g, d, tk, os⟩ := s
    obtain ⟨hl, h⟩ := h
    have f1 := F.sub_str_dict
    wp_walk using wpAny_loadPart' hl
    exact ⟨_, rfl, h⟩
theorem str_eq_dct (l : Addr) (dd : Option Addr) (es : Array DictEntry) (n : Nat) (sl : Array (Option Value)) (b : Str) (u : Tok) :
    Meets (Builtin.«str.__eq__» ⟨[.str b u, .ref l], []⟩) (fun _ R s => s.heap.get? l = some { cls := .type "dict", dict := dd, data := .dict es n, slots := sl } ∧ R (.ok (.ret .notImplemented)) s) :=
  .of_wp fun prog w A R s h => by
    obtain ⟨hp, g, d, tk, os⟩ := s
    obtain ⟨hl, h⟩ := h
    wp_walk using wpAny_loadPart' hl, wpAny_load hl
    exact ⟨_, rfl, h⟩
theorem dct_eq_lst (l : Addr) (dd : Option Addr) (es : Array DictEntry) (n : Nat) (sl : Array (Option Value)) (k : Addr) (items : Array Value) (m : Nat) (dk : Option Addr) (sk : Array (Option Value)) :
    Meets (Builtin.«dict.__eq__» ⟨[.ref l, .ref k], []⟩) (fun _ R s => (s.heap.get? l = some { cls := .type "dict", dict := dd, data := .dict es n, slots := sl } ∧ s.heap.get? k = some { cls := .type "list", dict := dk, data := .seq items m, slots := sk }) ∧ R (.ok (.ret .notImplemented)) s) :=
  .of_wp fun prog w A R s h => by
    obtain ⟨hp, g, d, tk, os⟩ := s
    obtain ⟨⟨hl, hk⟩, h⟩ := h
    have f1 := F.sub_list_dict
    wp_walk using wpAny_loadPart' hl, wpAny_loadPart' hk, wpAny_load hl, wpAny_load hk
    exact ⟨_, rfl, h⟩
theorem lst_eq_dct (l : Addr) (dd : Option Addr) (es : Array DictEntry) (n : Nat) (sl : Array (Option Value)) (k : Addr) (items : Array Value) (m : Nat) (dk : Option Addr) (sk : Array (Option Value)) :
    Meets (Builtin.«list.__eq__» ⟨[.ref k, .ref l], []⟩) (fun _ R s => (s.heap.get? l = some { cls := .type "dict", dict := dd, data := .dict es n, slots := sl } ∧ s.heap.get? k = some { cls := .type "list", dict := dk, data := .seq items m, slots := sk }) ∧ R (.ok (.ret .notImplemented)) s) :=
  .of_wp fun prog w A R s h => by
    obtain ⟨hp, g, d, tk, os⟩ := s
    obtain ⟨⟨hl, hk⟩, h⟩ := h
    have f1 := F.sub_dict_list
    wp_walk using wpAny_loadPart' hl, wpAny_loadPart' hk, wpAny_load hl, wpAny_load hk
    exact ⟨_, rfl, h⟩
end PySem.SeqAt

/-! from L4G -/
namespace PySem.SeqAt
open AutoSeq1 (wpAny_loadPart')
open MeetsSeq
section
variable {A : Around} {s : Shared}
theorem RcAt.dct_str {l : Addr} {dd : Option Addr} {es : Array DictEntry} {n : Nat} {sl : Array (Option Value)} (b : Str) (u : Tok) (ho : s.heap.get? l = some { cls := .type "dict", dict := dd, data := .dict es n, slots := sl }) (hu : A.units < cLine) : RcAt A s (.ref l) (.str b u) false := fun prog w E Q h =>
  rc_eq_decline_or (k := false) ⟨_, ho, rfl⟩ (typeIs_str s b u) (by decide) F.sub_str_dict F.slot_dict_eq F.slot_str_eq_refl
    (fun _ hq => call_meets F.slot_dict_eq ⟨_, ho, rfl⟩ F.entry_dict_eq (F.args_dict_eq_2 _ _) (dct_eq_str l dd es n sl b u) ⟨ho, hq⟩)
    (fun _ hq => call_meets F.slot_str_eq_refl (typeIs_str s b u) F.entry_str_eq (F.args_str_eq_2 _ _) (str_eq_dct l dd es n sl b u) ⟨ho, hq⟩)
    (fun _ hq => wpAny_of_eq (rfl : isSame (.ref l) (.str b u) = pure false) hq) (.inr hu) h
theorem RcAt.dct_lst {l : Addr} {dd : Option Addr} {es : Array DictEntry} {n : Nat} {sl : Array (Option Value)} {k : Addr} {items : Array Value} (ho : s.heap.get? l = some { cls := .type "dict", dict := dd, data := .dict es n, slots := sl }) (hk : s.heap.IsList k items) (hu : A.units < cLine) : RcAt A s (.ref l) (.ref k) false := fun prog w E Q h => by
  obtain ⟨⟨cls, dk, data, sk⟩, hk, hc, m, hd⟩ := id hk
  simp only at hc hd
  subst hc hd
  have ne : l ≠ k := fun z => by
    rw [z, hk] at ho
    exact absurd (Value.type.inj (congrArg Obj.cls (Option.some.inj ho))) (by decide)
  exact rc_eq_decline_or (k := false) ⟨_, ho, rfl⟩ ⟨_, hk, rfl⟩ (by decide) F.sub_list_dict F.slot_dict_eq F.slot_list_eq_refl
    (fun _ hq => call_meets F.slot_dict_eq ⟨_, ho, rfl⟩ F.entry_dict_eq (F.args_dict_eq_2 _ _) (dct_eq_lst l dd es n sl k items m dk sk) ⟨⟨ho, hk⟩, hq⟩)
    (fun _ hq => call_meets F.slot_list_eq_refl ⟨_, hk, rfl⟩ F.entry_list_eq (F.args_list_eq_2 _ _) (lst_eq_dct l dd es n sl k items m dk sk) ⟨⟨ho, hk⟩, hq⟩)
    (fun _ hq => wpAny_isSame_ref_other' ne ho hk (fun z => absurd (Value.type.inj z) (by decide)) hq) (.inr hu) h
end
end PySem.SeqAt
namespace L2
open PySem PySem.Spec PyProof.Rows
section
variable {X : Cx}
def rEqM (K : PySem.W.Frag) : V → V → Hp → VK → Prop := fun x y H Q => rEqD K x y H Q ∨ ∃ (d : Addr) (kvs : List (Key × V)), x = .ref d ∧ H d = some (.dK kvs) ∧ ((∃ z, y = .str z) ∨ ∃ l ys, y = .ref l ∧ H l = some (.lst ys)) ∧ Q (.bl false) H
theorem op_eqM (hu : X.A.units + 64 < cLine) : OpR X (compareOp .Eq) (rEqM X.K) := by
  intro pins s σ H x y v u Q I rx ry h
  rcases h with h | ⟨d, kvs, rfl, hd, hy, q⟩
  · exact op_eqD hu pins s σ H x y v u Q I rx ry h
  obtain rfl : v = Value.ref d := rx
  obtain ⟨_, _, va, _, od, es, ep, ho, ⟨e1, e2, e3⟩, e4, _⟩ := (show ObjOk X.prog X.w H s.heap d (.dK kvs) from I.hok d _ hd)
  have hd' : s.heap.get? d = some { cls := .type "dict", dict := none, data := .dict es ep, slots := #[] } := by
    rw [ho]
    obtain ⟨c1, c2, c3, c4⟩ := od
    simp only at e1 e2 e3 e4
    subst e1 e2 e3 e4
    rfl
  have hu' : X.A.units < cLine := by omega
  rcases hy with ⟨z, rfl⟩ | ⟨l, ys, rfl, hl⟩
  · obtain ⟨t, rfl⟩ := ry
    exact SeqAt.RcAt.dct_str z t hd' hu' _ _ _ _ ⟨.bl _, H, I, rfl, q⟩
  · obtain rfl : u = Value.ref l := ry
    obtain ⟨_, its, n, _, hl'⟩ := (show ObjOk X.prog X.w H s.heap l (.lst ys) from I.hok l _ hl)
    exact SeqAt.RcAt.dct_lst hd' ⟨_, hl', rfl, n, rfl⟩ hu' _ _ _ _ ⟨.bl _, H, I, rfl, q⟩
end
end L2

/-! from L5A -/
namespace K1
open PySem L2
/-! ### a text so many times -/
def repS (x : Str) (k : Int) : Str := ⟨(List.replicate k.toNat x.cps).foldl (· ++ ·) #[]⟩
def rRepS : V → V → Hp → VK → Prop := fun x y H Q => ∃ (z : Str) (k : Int), x = .str z ∧ y = .int k ∧ 2 ≤ k ∧ k ≤ 1000 ∧ z.length ≠ 0 ∧ z.length ≤ 1000 ∧ (repS z k).length ≤ sizeLine ∧ Q (.str (repS z k)) H
theorem op_repS {X : Cx} : OpR X (binaryOp .Mult) rRepS := by
  intro pins s σ H x y v u Q I rx ry h
  obtain ⟨z, k, rfl, rfl, k2, k3, z0, z1, few, q⟩ := h
  obtain ⟨t, rfl⟩ := rx
  obtain ⟨t', rfl⟩ := ry
  have c1 : ¬ k < 1 := by omega
  have c2 : (k == 1 || z.length == 0) = false := by
    rw [Bool.or_eq_false_iff]
    exact ⟨by rw [beq_eq_false_iff_ne]; omega, by rw [beq_eq_false_iff_ne]; exact z0⟩
  refine P.mul_str ?_ (fun _ _ => ?_) (fun _ _ => ?_) ?_
  · rw [decide_eq_false (show ¬ k < -(2 ^ 63 : Int) by omega), decide_eq_false (show ¬ k ≥ 2 ^ 63 by omega)]
    rfl
  · have h1 : (1000 : Int) ≤ (2 ^ 63 - 1) / k := by
      rw [Int.le_ediv_iff_mul_le (by omega)]
      omega
    omega
  · unfold Builtin.Str.tooLong
    rw [decide_eq_false]
    have e1 : z.length * k.toNat ≤ 1000 * 1000 := Nat.mul_le_mul z1 (by omega)
    have e2 : 1000 * 1000 ≤ sizeLine := by decide
    omega
  · rw [if_neg c1, if_neg (by rw [c2]; exact Bool.false_ne_true)]
    exact ⟨few, .str (repS z k), H, I.tok _, ⟨_, rfl⟩, q⟩
/-! ### written data -/
def DL (t : TE) (d : PyData) (σ : St) (H1 : Hp) : Prop := ∀ H2, Same H1 H2 → ∀ Q : VK, (∀ v H3, Same H2 H3 → At (off H2 H3) v d → Q v H3) → t σ H2 Q
def DLs (ts : TA) (ds : List PyData) (σ : St) (H1 : Hp) : Prop := ∀ H2, Same H1 H2 → ∀ Q : List V → Hp → Prop, (∀ vs H3, Same H2 H3 → AtAll (off H2 H3) vs ds → Q vs H3) → ts σ H2 Q
section
variable {σ : St} {H1 : Hp} {t : TE} {ts : TA} {d : PyData} {ds : List PyData}
theorem dl_non : DL (tC .non) .none σ H1 := fun H2 _ Q k => k _ H2 (Same.refl _) .non
theorem dl_int {i : Int} : DL (tC (.int i)) (.int i) σ H1 := fun H2 _ Q k => k _ H2 (Same.refl _) (.int i)
theorem dl_bl {b : Bool} : DL (tC (.bl b)) (.bool b) σ H1 := fun H2 _ Q k => k _ H2 (Same.refl _) (.bl b)
theorem dl_str {s : Str} (h : (decide (s.length ≤ 1000) && PyData.strOk s) = true := by decide +kernel) : DL (tC (.str s)) (.str s) σ H1 := fun H2 _ Q k => by
  rw [Bool.and_eq_true] at h
  exact k _ H2 (Same.refl _) (.str s ⟨of_decide_eq_true h.1, h.2⟩)
theorem dl_nil : DLs tNil [] σ H1 := fun H2 _ Q k => k [] H2 (Same.refl _) .nil
theorem dl_cons (h : DL t d σ H1) (r : DLs ts ds σ H1) : DLs (tCons t ts) (d :: ds) σ H1 := fun H2 s Q k =>
  h H2 s _ fun v H3 s3 a => r H3 (s.trans s3) _ fun vs H4 s4 as => k (v :: vs) H4 (s3.trans s4) (.cons (a.mono (off_mono s4)) (as.mono (off_base s3)))
theorem off_new {H H3 : Hp} {p : Addr} {o : HO} (s : Same H H3) (n : H3 p = none) : off H (upd H3 p o) p = some o := off_of (none_of' s n) upd_same
theorem dl_lst (h : DLs ts ds σ H1) (few : ds.length ≤ sizeLine) : DL (tLst ts) (.list ds) σ H1 := fun H2 s Q k => h H2 s _ fun vs H3 s3 a => ⟨by rw [a.len]; exact few, fun p np => k _ _ (same_new s3 np) (.lst (off_new s3 np) (a.mono (off_mono (same_new (Same.refl _) np))))⟩
theorem dl_tup (h : DLs ts ds σ H1) (few : ds.length ≤ sizeLine) : DL (tTup ts) (.tuple ds) σ H1 := fun H2 s Q k => h H2 s _ fun vs H3 s3 a => ⟨by rw [a.len]; exact few, fun p np => k _ _ (same_new s3 np) (.tup (off_new s3 np) (a.mono (off_mono (same_new (Same.refl _) np))))⟩
theorem lst_new (h : DLs ts ds σ H1) (few : ds.length ≤ sizeLine) {Q : VK} (k : ∀ l vs H3, Same H1 H3 → AtAll (off H1 H3) vs ds → H3 l = none → Q (.ref l) (upd H3 l (.lst vs))) : tLst ts σ H1 Q := h H1 (Same.refl _) _ fun vs H3 s3 a => ⟨by rw [a.len]; exact few, fun l nl => k l vs H3 s3 a nl⟩
theorem one_arg (h : DL t d σ H1) {Q : List V → Hp → Prop} (k : ∀ v H3, Same H1 H3 → At (off H1 H3) v d → Q [v] H3) : tCons t tNil σ H1 Q := h H1 (Same.refl _) _ fun v H3 s3 a => k v H3 s3 a
theorem dl_dic : DL tDNewK (.dict []) σ H1 := fun H2 s Q k p np => k _ _ (same_new (Same.refl _) np) (.dic (off_new (Same.refl _) np))
end
/-! ### trees beside a list that is changed -/
def hide (l : Addr) (H : Hp) : Hp := fun a => if a = l then none else H a
theorem hide_ne {l a : Addr} {H : Hp} (h : a ≠ l) : hide l H a = H a := if_neg h
theorem hide_upd {l : Addr} {H : Hp} {o : HO} : hide l (upd H l o) = hide l H := by
  funext a
  unfold hide
  by_cases e : a = l
  · rw [if_pos e, if_pos e]
  · rw [if_neg e, if_neg e, upd_ne e]
theorem hide_sub {l : Addr} {H : Hp} : Same (hide l H) H := fun a o e => by
  unfold hide at e
  split at e
  · cases e
  · exact e
theorem hide_mono {l : Addr} {H H' : Hp} (s : Same H H') : Same (hide l H) (hide l H') := fun a o e => by
  unfold hide at e ⊢
  split at e
  · cases e
  · rename_i n
    rw [if_neg n]
    exact s _ _ e
theorem hide_off {l : Addr} {H H' : Hp} {o : HO} (h : H l = some o) : Same (off H H') (hide l H') := fun a u e => by
  obtain ⟨e1, e2⟩ := off_at e
  rw [hide_ne (fun z => by rw [z, h] at e1; cases e1)]
  exact e2
theorem hide_of {l : Addr} {H H' : Hp} (h : H l = none) (s : Same H H') : Same H (hide l H') := fun a u e => by
  rw [hide_ne (fun z => by rw [z, h] at e; cases e)]
  exact s _ _ e
theorem AtAll.append {H : Hp} {vs ws : List V} {ds es : List PyData} (h : AtAll H vs ds) (r : AtAll H ws es) : AtAll H (vs ++ ws) (ds ++ es) := at_app h r
theorem AtAll.take {H : Hp} : ∀ {vs : List V} {ds : List PyData} (n : Nat), AtAll H vs ds → AtAll H (vs.take n) (ds.take n)
  | _, _, 0, _ => .nil
  | _, _, n + 1, .nil => .nil
  | _, _, n + 1, .cons h t => .cons h (AtAll.take n t)
theorem AtAll.drop {H : Hp} : ∀ {vs : List V} {ds : List PyData} (n : Nat), AtAll H vs ds → AtAll H (vs.drop n) (ds.drop n)
  | _, _, 0, h => h
  | _, _, n + 1, .nil => .nil
  | _, _, n + 1, .cons h t => AtAll.drop n t
theorem AtAll.set {H : Hp} : ∀ {vs : List V} {ds : List PyData} {v : V} {d : PyData} (n : Nat), AtAll H vs ds → At H v d → AtAll H (vs.set n v) (ds.set n d)
  | _, _, _, _, _, .nil, _ => .nil
  | _, _, _, _, 0, .cons h t, a => .cons a t
  | _, _, _, _, n + 1, .cons h t, a => .cons h (AtAll.set n t a)
theorem AtAll.at {H : Hp} : ∀ {vs : List V} {ds : List PyData} {n : Nat} {d : PyData}, AtAll H vs ds → ds[n]? = some d → ∃ v, vs[n]? = some v ∧ At H v d
  | _, _, _, _, .nil, h => by simp at h
  | _, _, 0, _, .cons h t, e => by
    simp only [List.getElem?_cons_zero, Option.some.injEq] at e
    exact ⟨_, rfl, e ▸ h⟩
  | _, _, n + 1, _, .cons h t, e => by
    simp only [List.getElem?_cons_succ] at e ⊢
    exact AtAll.at t e
/-! ### slices -/
theorem sIx_pos {n d : Nat} {k : Int} (h0 : 0 ≤ k) (h : k ≤ n) : HT.sIx n d (some k) = k.toNat := by
  show (if k < 0 then (k + (n : Int)).toNat else min k.toNat n) = k.toNat
  rw [if_neg (by omega)]
  omega
theorem sIx_min {n d : Nat} {k : Int} (h0 : 0 ≤ k) : HT.sIx n d (some k) = min k.toNat n := by
  show (if k < 0 then (k + (n : Int)).toNat else min k.toNat n) = min k.toNat n
  rw [if_neg (by omega)]
theorem cut_to {xs : List V} {k : Int} (h0 : 0 ≤ k) : cutV xs none (some k) = xs.take k.toNat := by
  unfold cutV
  rw [sIx_min h0, show HT.sIx xs.length 0 none = 0 from rfl, List.drop_zero, Nat.sub_zero]
  by_cases c : k.toNat ≤ xs.length
  · rw [Nat.min_eq_left c]
  · rw [Nat.min_eq_right (by omega), List.take_of_length_le (Nat.le_refl _), List.take_of_length_le (by omega)]
theorem cut_from {xs : List V} {k : Int} (h0 : 0 ≤ k) : cutV xs (some k) none = xs.drop k.toNat := by
  unfold cutV
  rw [sIx_min h0, show HT.sIx xs.length xs.length none = xs.length from rfl]
  by_cases c : k.toNat ≤ xs.length
  · rw [Nat.min_eq_left c, List.take_of_length_le (by rw [List.length_drop]; exact Nat.le_refl _)]
  · rw [Nat.min_eq_right (by omega), Nat.sub_self, List.take_zero, List.drop_eq_nil_of_le (by omega)]
/-! ### trees without dicts are what == looks at -/
mutual
def noDic : PyData → Bool
  | .dict _ => false
  | .list ds => noDics ds
  | .tuple ds => noDics ds
  | _ => true
def noDics : List PyData → Bool
  | [] => true
  | d :: ds => noDic d && noDics ds
end
mutual
theorem At.dp {K : PySem.W.Frag} {H : Hp} : ∀ {v : V} {d : PyData}, At H v d → noDic d = true → Dp K H v d
  | _, _, .non, _ => .non
  | _, _, .bl b, _ => .bl b
  | _, _, .int i, _ => .int i
  | _, _, .str z _, _ => .str z
  | _, _, .lst e h, n => .lst (SqL.of e) (AtAll.dps h (by rw [noDic] at n; exact n))
  | _, _, .tup e h, n => .tup (SqT.of e) (AtAll.dps h (by rw [noDic] at n; exact n))
  | _, _, .dic e, n => by rw [noDic] at n; cases n
theorem AtAll.dps {K : PySem.W.Frag} {H : Hp} : ∀ {vs : List V} {ds : List PyData}, AtAll H vs ds → noDics ds = true → DpAll K H vs ds
  | _, _, .nil, _ => .nil
  | _, _, .cons h t, n => by
    rw [noDics, Bool.and_eq_true] at n
    exact .cons (At.dp h n.1) (AtAll.dps t n.2)
end
end K1

/-! from L5B -/
namespace K1
open PySem L2
/-! ### expressions that give trees, on whatever heap behind the one given; some objects are hidden: no tree has them -/
def hid (L : List Addr) (H : Hp) : Hp := fun a => if a ∈ L then none else H a
def Live (L : List Addr) (H : Hp) : Prop := ∀ l ∈ L, H l ≠ none
theorem live_nil {H : Hp} : Live [] H := fun l h => by cases h
theorem Live.mono {L : List Addr} {H H' : Hp} (h : Live L H) (s : Same H H') : Live L H' := fun l m e => by
  have := h l m
  cases q : H l with
  | none => exact this q
  | some o => rw [s _ _ q] at e; cases e
theorem hid_ne {L : List Addr} {H : Hp} {a : Addr} (h : a ∉ L) : hid L H a = H a := if_neg h
theorem hid_nil {H : Hp} : hid [] H = H := by
  funext a
  exact hid_ne (by simp)
theorem hid_sub {L : List Addr} {H : Hp} : Same (hid L H) H := fun a o e => by
  unfold hid at e
  split at e
  · cases e
  · exact e
theorem hid_mono {L : List Addr} {H H' : Hp} (s : Same H H') : Same (hid L H) (hid L H') := fun a o e => by
  unfold hid at e ⊢
  split at e
  · cases e
  · rename_i n
    rw [if_neg n]
    exact s _ _ e
theorem hid_new {L : List Addr} {H : Hp} {p : Addr} {o : HO} (lv : Live L H) (n : H p = none) : hid L (upd H p o) p = some o := by
  rw [hid_ne (fun m => lv p m n), upd_same]
theorem hid_upd {l : Addr} {L : List Addr} {H : Hp} {o : HO} (m : l ∈ L) : hid L (upd H l o) = hid L H := by
  funext a
  unfold hid
  by_cases e : a ∈ L
  · rw [if_pos e, if_pos e]
  · rw [if_neg e, if_neg e, upd_ne (fun z => e (by rw [z]; exact m))]
theorem hid_off {L : List Addr} {H H' : Hp} (lv : Live L H) : Same (off H H') (hid L H') := fun a u e => by
  obtain ⟨e1, e2⟩ := off_at e
  rw [hid_ne (fun m => lv a m e1)]
  exact e2
/-- what stood when the hidden ones were not there yet -/
theorem hid_of {L : List Addr} {H H' : Hp} (h : ∀ l ∈ L, H l = none) (s : Same H H') : Same H (hid L H') := fun a u e => by
  rw [hid_ne (fun m => by rw [h a m] at e; cases e)]
  exact s _ _ e
def DT (L : List Addr) (t : TE) (d : PyData) (σ : St) (H1 : Hp) : Prop := ∀ H2, Same H1 H2 → ∀ Q : VK, (∀ v H3, Same H2 H3 → At (hid L H3) v d → Q v H3) → t σ H2 Q
def DTs (L : List Addr) (ts : TA) (ds : List PyData) (σ : St) (H1 : Hp) : Prop := ∀ H2, Same H1 H2 → ∀ Q : List V → Hp → Prop, (∀ vs H3, Same H2 H3 → AtAll (hid L H3) vs ds → Q vs H3) → ts σ H2 Q
def VE (t : TE) (v : V) (σ : St) (H1 : Hp) : Prop := ∀ H2, Same H1 H2 → ∀ Q : VK, Q v H2 → t σ H2 Q
/-- tests -/
def BE (t : TT) (b : Bool) (σ : St) (H1 : Hp) : Prop := ∀ H2, Same H1 H2 → ∀ Q : Bool → Hp → Prop, (∀ H3, Same H2 H3 → Q b H3) → t σ H2 Q
section
variable {L : List Addr} {σ : St} {H1 : Hp} {t u : TE} {ts : TA} {d e : PyData} {ds es : List PyData} {K : PySem.W.Frag} {v : V} {i j : Int}
theorem VE.mono {H2 : Hp} (h : VE t v σ H1) (s : Same H1 H2) : VE t v σ H2 := fun H3 s3 => h H3 (s.trans s3)
theorem DT.mono {H2 : Hp} (h : DT L t d σ H1) (s : Same H1 H2) : DT L t d σ H2 := fun H3 s3 => h H3 (s.trans s3)
theorem ve_int : VE (tC (.int i)) (.int i) σ H1 := fun H2 _ Q q => q
theorem ve_c : VE (tC v) v σ H1 := fun H2 _ Q q => q
theorem ve_var {s : Nat} (e : σ[s]? = some (some v)) : VE (tVar s) v σ H1 := fun H2 _ Q q => ⟨v, e, q⟩
abbrev tDg (K : PySem.W.Frag) (s : Nat) (i : Int) : TE := tCB (fun xs H Q => (∃ i, xs = [V.int i] ∧ Q (V.int i) H) ∨ ∃ k, xs = [V.bl k] ∧ Q (V.int (if k = true then 1 else 0)) H) (tCons (tOp (rIxL K) (tVar s) (tC (.int i))) tNil)
theorem ve_dg {s j : Nat} {z : Int} {dg : Addr} {xs : List Int} (e : σ[s]? = some (some (.ref dg))) (h : H1 dg = some (.lst (xs.map V.int))) (hj : xs[j]? = some z) (ij : i = (j : Int)) : VE (tDg K s i) (.int z) σ H1 := fun H2 s2 Q q => by
  subst ij
  exact ⟨_, e, dg, _, _, _, rfl, rfl, SqL.of (s2 _ _ h), atI_nat (by rw [List.getElem?_map, hj]; rfl), .inl ⟨z, rfl, q⟩⟩
theorem dg_get {xs : List Int} {n : Nat} (h : xs.length = n) (j : Nat) (hj : j < n) : xs[j]? = some (xs.getD j 0) := by
  rw [List.getD_eq_getElem?_getD, List.getElem?_eq_getElem (by omega)]
  rfl
theorem ve_mod (h : VE t (.int i) σ H1) (r : VE u (.int j) σ H1) (p : 0 < j) : VE (tOp (rI (fun _ j => 0 < j) fun i j => V.int (i % j)) t u) (.int (i % j)) σ H1 := fun H2 s Q q => h H2 s _ (r H2 s _ ⟨i, j, rfl, rfl, p, q⟩)
theorem ve_add (h : VE t (.int i) σ H1) (r : VE u (.int j) σ H1) : VE (tOp (rI0 fun i j => V.int (i + j)) t u) (.int (i + j)) σ H1 := fun H2 s Q q => h H2 s _ (r H2 s _ ⟨i, j, rfl, rfl, q⟩)
theorem ve_sub (h : VE t (.int i) σ H1) (r : VE u (.int j) σ H1) : VE (tOp (rI0 fun i j => V.int (i - j)) t u) (.int (i - j)) σ H1 := fun H2 s Q q => h H2 s _ (r H2 s _ ⟨i, j, rfl, rfl, q⟩)
/-- len(x), x in a slot -/
theorem ve_len {s : Nat} {a : Addr} {xs : List V} (e : σ[s]? = some (some (.ref a))) (h : H1 a = some (.lst xs)) : VE (tCB (fun xs H Q => ∃ p ys, xs = [V.ref p] ∧ (SqL K H p ys ∨ SqT K H p ys) ∧ Q (V.int (ys.length : Nat)) H) (tCons (tVar s) tNil)) (.int (xs.length : Nat)) σ H1 := fun H2 s2 Q q => ⟨_, e, a, xs, rfl, .inl (SqL.of (s2 _ _ h)), q⟩
theorem dt_v (h : VE t v σ H1) (a : ∀ H2, Same H1 H2 → At (hid L H2) v d) : DT L t d σ H1 := fun H2 s Q k => h H2 s _ (k v H2 (Same.refl _) (a H2 s))
theorem dt_var {s : Nat} (e : σ[s]? = some (some v)) (a : At (hid L H1) v d) : DT L (tVar s) d σ H1 := dt_v (ve_var e) fun H2 s => a.mono (hid_mono s)
theorem dt_int (h : VE t (.int i) σ H1) : DT L t (.int i) σ H1 := dt_v h fun _ _ => .int i
theorem dt_l (h : DL t d σ H1) (lv : Live L H1) : DT L t d σ H1 := fun H2 s Q k => h H2 s _ fun v H3 s3 a => k v H3 s3 (a.mono (hid_off (lv.mono s)))
theorem dt_nil : DTs L tNil [] σ H1 := fun H2 _ Q k => k [] H2 (Same.refl _) .nil
theorem dt_cons (h : DT L t d σ H1) (r : DTs L ts ds σ H1) : DTs L (tCons t ts) (d :: ds) σ H1 := fun H2 s Q k =>
  h H2 s _ fun v H3 s3 a => r H3 (s.trans s3) _ fun vs H4 s4 as => k (v :: vs) H4 (s3.trans s4) (.cons (a.mono (hid_mono s4)) as)
theorem dt_lst (lv : Live L H1) (h : DTs L ts ds σ H1) (few : ds.length ≤ sizeLine) : DT L (tLst ts) (.list ds) σ H1 := fun H2 s Q k => h H2 s _ fun vs H3 s3 a => ⟨by rw [a.len]; exact few, fun p np => k _ _ (same_new s3 np) (.lst (hid_new (lv.mono (s.trans s3)) np) (a.mono (hid_mono (same_new (Same.refl _) np))))⟩
theorem dt_tup (lv : Live L H1) (h : DTs L ts ds σ H1) (few : ds.length ≤ sizeLine) : DT L (tTup ts) (.tuple ds) σ H1 := fun H2 s Q k => h H2 s _ fun vs H3 s3 a => ⟨by rw [a.len]; exact few, fun p np => k _ _ (same_new s3 np) (.tup (hid_new (lv.mono (s.trans s3)) np) (a.mono (hid_mono (same_new (Same.refl _) np))))⟩
theorem at_l {H : Hp} (h : At H v (.list ds)) : ∃ a xs, v = .ref a ∧ H a = some (.lst xs) ∧ AtAll H xs ds := by
  cases h with
  | lst e t => exact ⟨_, _, rfl, e, t⟩
theorem at_t {H : Hp} (h : At H v (.tuple ds)) : ∃ a xs, v = .ref a ∧ H a = some (.tup xs) ∧ AtAll H xs ds := by
  cases h with
  | tup e t => exact ⟨_, _, rfl, e, t⟩
theorem dt_ixL {n : Nat} (h : DT L t (.list ds) σ H1) (r : VE u (.int i) σ H1) (hn : ds[n]? = some d) (e : i = (n : Int)) : DT L (tOp (rIxL K) t u) d σ H1 := fun H2 s Q k => h H2 s _ fun v H3 s3 a => r H3 (s.trans s3) _ (by
    obtain ⟨p, xs, rfl, hp, as⟩ := at_l a
    obtain ⟨y, hy, ay⟩ := as.at hn
    subst e
    exact ⟨p, xs, _, y, rfl, rfl, SqL.of (hid_sub _ _ hp), atI_nat hy, k y H3 s3 ay⟩)
theorem dt_ixT {n : Nat} (h : DT L t (.tuple ds) σ H1) (r : VE u (.int i) σ H1) (hn : ds[n]? = some d) (e : i = (n : Int)) : DT L (tOp (rIxT K) t u) d σ H1 := fun H2 s Q k => h H2 s _ fun v H3 s3 a => r H3 (s.trans s3) _ (by
    obtain ⟨p, xs, rfl, hp, as⟩ := at_t a
    obtain ⟨y, hy, ay⟩ := as.at hn
    subst e
    exact ⟨p, xs, _, y, rfl, rfl, SqT.of (hid_sub _ _ hp), atI_nat hy, k y H3 s3 ay⟩)
theorem dt_cat (lv : Live L H1) (h : DT L t (.list ds) σ H1) (r : DT L u (.list es) σ H1) (few : ds.length + es.length ≤ sizeLine) : DT L (tOp rCat t u) (.list (ds ++ es)) σ H1 := fun H2 s Q k => h H2 s _ fun v H3 s3 a => r H3 (s.trans s3) _ fun w H4 s4 b => by
  obtain ⟨p, xs, rfl, hp, as⟩ := at_l (a.mono (hid_mono s4))
  obtain ⟨q, ys, rfl, hq, bs⟩ := at_l b
  refine ⟨p, q, xs, ys, rfl, rfl, hid_sub _ _ hp, hid_sub _ _ hq, by rw [as.len, bs.len]; exact few, fun l nl => ?_⟩
  have s5 := same_new (o := .lst (xs ++ ys)) (Same.refl H4) nl
  exact k _ _ ((s3.trans s4).trans s5) (.lst (hid_new (lv.mono ((s.trans s3).trans s4)) nl) ((as.append bs).mono (hid_mono s5)))
theorem dt_listT (lv : Live L H1) (h : DT L t (.tuple ds) σ H1) : DT L (tCB (rLof K) (tCons t tNil)) (.list ds) σ H1 := fun H2 s Q k => h H2 s _ fun v H3 s3 a => by
  obtain ⟨p, xs, rfl, hp, as⟩ := at_t a
  refine ⟨p, xs, rfl, .inr (SqT.of (hid_sub _ _ hp)), fun l nl => ?_⟩
  have s4 := same_new (o := .lst xs) (Same.refl H3) nl
  exact k _ _ (s3.trans s4) (.lst (hid_new (lv.mono (s.trans s3)) nl) (as.mono (hid_mono s4)))
theorem dt_tupL (lv : Live L H1) (h : DT L t (.list ds) σ H1) : DT L (tCB (rTof K) (tCons t tNil)) (.tuple ds) σ H1 := fun H2 s Q k => h H2 s _ fun v H3 s3 a => by
  obtain ⟨p, xs, rfl, hp, as⟩ := at_l a
  refine ⟨p, xs, rfl, .inl ⟨SqL.of (hid_sub _ _ hp), fun l nl => ?_⟩⟩
  have s4 := same_new (o := .tup xs) (Same.refl H3) nl
  exact k _ _ (s3.trans s4) (.tup (hid_new (lv.mono (s.trans s3)) nl) (as.mono (hid_mono s4)))
theorem dt_to (lv : Live L H1) (h : DT L t (.list ds) σ H1) (r : VE u (.int i) σ H1) (p : 0 ≤ i) : DT L (tSl (rSlL K) t tNoPart (tPart u)) (.list (ds.take i.toNat)) σ H1 := fun H2 s Q k => h H2 s _ fun v H3 s3 a => r H3 (s.trans s3) _ (by
    obtain ⟨q, xs, rfl, hq, as⟩ := at_l a
    refine ⟨i, rfl, q, xs, rfl, SqL.of (hid_sub _ _ hq), fun l nl => ?_⟩
    have s4 := same_new (o := .lst (cutV xs none (some i))) (Same.refl H3) nl
    refine k _ _ (s3.trans s4) (.lst (hid_new (lv.mono (s.trans s3)) nl) ?_)
    rw [cut_to p]
    exact (as.mono (hid_mono (same_new (Same.refl _) nl))).take _)
theorem dt_from (lv : Live L H1) (h : DT L t (.list ds) σ H1) (r : VE u (.int i) σ H1) (p : 0 ≤ i) : DT L (tSl (rSlL K) t (tPart u) tNoPart) (.list (ds.drop i.toNat)) σ H1 := fun H2 s Q k => h H2 s _ fun v H3 s3 a => r H3 (s.trans s3) _ (by
    obtain ⟨q, xs, rfl, hq, as⟩ := at_l a
    refine ⟨i, rfl, q, xs, rfl, SqL.of (hid_sub _ _ hq), fun l nl => ?_⟩
    have s4 := same_new (o := .lst (cutV xs (some i) none)) (Same.refl H3) nl
    refine k _ _ (s3.trans s4) (.lst (hid_new (lv.mono (s.trans s3)) nl) ?_)
    rw [cut_from p]
    exact (as.mono (hid_mono (same_new (Same.refl _) nl))).drop _)
theorem dt_rep (lv : Live L H1) (h : DT L t (.list ds) σ H1) (c1 : 0 ≤ i) (c2 : i < 2 ^ 63) (few : ds.length * i.toNat ≤ sizeLine) : DT L (tOp rRep t (tC (.int i))) (.list (List.replicate i.toNat ds).flatten) σ H1 := fun H2 s Q k => h H2 s _ fun v H3 s3 a => by
    obtain ⟨q, xs, rfl, hq, as⟩ := at_l a
    refine ⟨q, i, xs, rfl, rfl, hid_sub _ _ hq, by omega, c2, by rw [as.len]; exact few, fun l nl => ?_⟩
    have s4 := same_new (o := .lst (List.replicate i.toNat xs).flatten) (Same.refl H3) nl
    refine k _ _ (s3.trans s4) (.lst (hid_new (lv.mono (s.trans s3)) nl) ?_)
    have as4 := as.mono (hid_mono (L := L) (same_new (o := .lst (List.replicate i.toNat xs).flatten) (Same.refl _) nl))
    have : ∀ n : Nat, AtAll (hid L (upd H3 l (.lst (List.replicate i.toNat xs).flatten))) (List.replicate n xs).flatten (List.replicate n ds).flatten := fun n => by
      induction n with
      | zero => exact .nil
      | succ n ih =>
        rw [List.replicate_succ, List.replicate_succ, List.flatten_cons, List.flatten_cons]
        exact as4.append ih
    exact this _
/-- x == y, x != y -/
theorem be_eq (h : DT [] t d σ H1) (r : DT [] u e σ H1) (nd : noDic d = true) (ne : noDic e = true) (sd : SeqAt.shaped d = true) (se : SeqAt.shaped e = true) : BE (tTest (tOp (rEqD K) t u)) (PyData.eqv d e) σ H1 := fun H2 s Q k => h H2 s _ fun v H3 s3 a => r H3 (s.trans s3) _ fun w H4 s4 b => by
  rw [hid_nil] at a b
  exact ⟨d, e, (a.mono s4).dp nd, b.dp ne, sd, se, _, rfl, k H4 (s3.trans s4)⟩
theorem be_ne (h : DT [] t d σ H1) (r : DT [] u e σ H1) (nd : noDic d = true) (ne : noDic e = true) (sd : SeqAt.shaped d = true) (se : SeqAt.shaped e = true) : BE (tTest (tOp (rNeD K) t u)) (!PyData.eqv d e) σ H1 := fun H2 s Q k => h H2 s _ fun v H3 s3 a => r H3 (s.trans s3) _ fun w H4 s4 b => by
  rw [hid_nil] at a b
  exact ⟨d, e, (a.mono s4).dp nd, b.dp ne, sd, se, _, rfl, k H4 (s3.trans s4)⟩
/-! ### a list of the def's own that is changed -/
def LA (H : Hp) (l : Addr) (ds : List PyData) (H1 : Hp) : Prop := H l = none ∧ Same H H1 ∧ ∃ vs, H1 l = some (.lst vs) ∧ AtAll (hid [l] H1) vs ds
theorem LA.live {H : Hp} {l : Addr} (h : LA H l ds H1) : Live [l] H1 := fun a m => by
  rw [List.mem_singleton] at m
  obtain ⟨_, _, vs, e, _⟩ := h
  rw [m, e]
  exact fun z => nomatch z
theorem LA.first {H H3 : Hp} {l : Addr} {vs : List V} (s : Same H H3) (a : AtAll H3 vs ds) (n : H3 l = none) : LA H l ds (upd H3 l (.lst vs)) :=
  ⟨none_of' s n, same_new s n, vs, upd_same, by rw [hid_upd (by simp)]; exact a.mono (hid_of (fun b m => by rw [List.mem_singleton.mp m]; exact n) (Same.refl _))⟩
theorem LA.push {H H3 : Hp} {l : Addr} {v : V} {vs : List V} (h : LA H l ds H1) (hl : H1 l = some (.lst vs)) (s : Same H1 H3) (a : At (hid [l] H3) v d) : LA H l (ds ++ [d]) (upd H3 l (.lst (vs ++ [v]))) := by
  obtain ⟨h0, s1, ws, e, as⟩ := h
  rw [hl] at e
  cases e
  refine ⟨h0, same_updL (s1.trans s) h0, vs ++ [v], upd_same, ?_⟩
  rw [hid_upd (by simp)]
  exact (as.mono (hid_mono s)).append (.cons a .nil)
theorem LA.set {H H3 : Hp} {l : Addr} {v : V} {vs : List V} (n : Nat) (h : LA H l ds H1) (hl : H1 l = some (.lst vs)) (s : Same H1 H3) (a : At (hid [l] H3) v d) : LA H l (ds.set n d) (upd H3 l (.lst (vs.set n v))) := by
  obtain ⟨h0, s1, ws, e, as⟩ := h
  rw [hl] at e
  cases e
  refine ⟨h0, same_updL (s1.trans s) h0, vs.set n v, upd_same, ?_⟩
  rw [hid_upd (by simp)]
  exact (as.mono (hid_mono s)).set n a
theorem LA.later {H H3 : Hp} {l : Addr} (h : LA H l ds H1) (s : Same H1 H3) : LA H l ds H3 := by
  obtain ⟨h0, s1, vs, e, as⟩ := h
  exact ⟨h0, s1.trans s, vs, s _ _ e, as.mono (hid_mono s)⟩
theorem LA.tree {H : Hp} {l : Addr} (h : LA H l ds H1) : At H1 (.ref l) (.list ds) := by
  obtain ⟨h0, s1, vs, e, as⟩ := h
  exact .lst e (as.mono hid_sub)
theorem LA.old {H : Hp} {l : Addr} (h : LA H l ds H1) (a : At H v d) : At (hid [l] H1) v d := a.mono (hid_of (fun b m => by rw [List.mem_singleton.mp m]; exact h.1) h.2.1)
/-- an item of it -/
theorem dt_la {H : Hp} {l : Addr} {s n : Nat} (e : σ[s]? = some (some (.ref l))) (h : LA H l ds H1) (hn : ds[n]? = some d) (ij : i = (n : Int)) : DT [l] (tOp (rIxL K) (tVar s) (tC (.int i))) d σ H1 := fun H2 s2 Q k => by
  obtain ⟨h0, s1, vs, e1, as⟩ := h.later s2
  obtain ⟨y, hy, ay⟩ := as.at hn
  subst ij
  exact ⟨_, e, l, vs, _, y, rfl, rfl, SqL.of e1, atI_nat hy, k y H2 (Same.refl _) ay⟩
/-! ### tests -/
theorem be_int (h : VE t (.int i) σ H1) (r : VE u (.int j) σ H1) : BE (tTest (tOp rEq t u)) (decide (i = j)) σ H1 := fun H2 s Q k => h H2 s _ (r H2 s _ ⟨rfl, _, rfl, by
  rw [show decide (V.int i = V.int j) = decide (i = j) from by
    by_cases c : i = j
    · rw [c, decide_eq_true rfl, decide_eq_true rfl]
    · rw [decide_eq_false c, decide_eq_false (fun z => c (V.int.inj z))]]
  exact k H2 (Same.refl _)⟩)
theorem be_lt (h : VE t (.int i) σ H1) (r : VE u (.int j) σ H1) : BE (tTest (tOp (rI0 fun i j => .bl (decide (i < j))) t u)) (decide (i < j)) σ H1 := fun H2 s Q k => h H2 s _ (r H2 s _ ⟨i, j, rfl, rfl, _, rfl, k H2 (Same.refl _)⟩)
theorem be_le (h : VE t (.int i) σ H1) (r : VE u (.int j) σ H1) : BE (tTest (tOp (rI0 fun i j => .bl (decide (i ≤ j))) t u)) (decide (i ≤ j)) σ H1 := fun H2 s Q k => h H2 s _ (r H2 s _ ⟨i, j, rfl, rfl, _, rfl, k H2 (Same.refl _)⟩)
theorem be_gt (h : VE t (.int i) σ H1) (r : VE u (.int j) σ H1) : BE (tTest (tOp (rI0 fun i j => .bl (decide (j < i))) t u)) (decide (j < i)) σ H1 := fun H2 s Q k => h H2 s _ (r H2 s _ ⟨i, j, rfl, rfl, _, rfl, k H2 (Same.refl _)⟩)
theorem be_ge (h : VE t (.int i) σ H1) (r : VE u (.int j) σ H1) : BE (tTest (tOp (rI0 fun i j => .bl (decide (j ≤ i))) t u)) (decide (j ≤ i)) σ H1 := fun H2 s Q k => h H2 s _ (r H2 s _ ⟨i, j, rfl, rfl, _, rfl, k H2 (Same.refl _)⟩)
theorem be_two {p q : Int} (h : VE t (.int i) σ H1) : BE (tTest (tOp (rIn K false) t (tTup (tCons (tC (.int p)) (tCons (tC (.int q)) tNil))))) (decide (i = p) || decide (i = q)) σ H1 := fun H2 s Q k => h H2 s _ ⟨by show 2 ≤ sizeLine; decide, fun l nl => ⟨l, _, rfl, .inr (SqT.of upd_same), rfl, rfl, _, rfl, by
  rw [if_neg (show ¬ (false = true) from Bool.false_ne_true), show inV (.int i) [.int p, .int q] = (decide (i = p) || decide (i = q)) from by
    unfold inV
    simp only [List.any_cons, List.any_nil, Bool.or_false]
    show ((p == i) || (q == i)) = _
    rw [show (p == i) = decide (i = p) from decide_eq_decide.mpr ⟨Eq.symm, Eq.symm⟩, show (q == i) = decide (i = q) from decide_eq_decide.mpr ⟨Eq.symm, Eq.symm⟩]]
  exact k _ (same_new (Same.refl _) nl)⟩⟩
def eqM (d e : PyData) : Bool := match d with
  | .dict _ => false
  | _ => PyData.eqv d e
theorem be_eqM (h : DT [] t d σ H1) (r : DT [] u e σ H1) (nd : (∀ k, d ≠ .dict k) → noDic d = true ∧ SeqAt.shaped d = true) (ne : noDic e = true) (se : SeqAt.shaped e = true) (ek : (∃ z, e = .str z) ∨ ∃ es, e = .list es) : BE (tTest (tOp (rEqM K) t u)) (eqM d e) σ H1 := fun H2 s Q k => h H2 s _ fun v H3 s3 a => r H3 (s.trans s3) _ fun w H4 s4 b => by
  rw [hid_nil] at a b
  have a4 := a.mono s4
  cases d with
  | dict kv =>
    cases a4 with
    | dic e1 =>
      refine .inr ⟨_, _, rfl, e1, ?_, _, rfl, k H4 (s3.trans s4)⟩
      rcases ek with ⟨z, rfl⟩ | ⟨es, rfl⟩
      · cases b with
        | str _ _ => exact .inl ⟨_, rfl⟩
      · obtain ⟨l, ys, rfl, hl, _⟩ := at_l b
        exact .inr ⟨l, ys, rfl, hl⟩
  | _ => exact .inl ⟨_, e, a4.dp (nd fun k z => by cases z).1, b.dp ne, (nd fun k z => by cases z).2, se, _, rfl, k H4 (s3.trans s4)⟩
theorem be_and {ta tb : TT} {b c : Bool} (h : BE ta b σ H1) (r : b = true → BE tb c σ H1) : BE (tAnd ta tb) (b && c) σ H1 := fun H2 s Q k => h H2 s _ fun H3 s3 => by
  cases b with
  | true => exact r rfl H3 (s.trans s3) Q fun H4 s4 => k H4 (s3.trans s4)
  | false => exact k H3 s3
theorem be_or {ta tb : TT} {b c : Bool} (h : BE ta b σ H1) (r : b = false → BE tb c σ H1) : BE (tOr ta tb) (b || c) σ H1 := fun H2 s Q k => h H2 s _ fun H3 s3 => by
  cases b with
  | false => exact r rfl H3 (s.trans s3) Q fun H4 s4 => k H4 (s3.trans s4)
  | true => exact k H3 s3
theorem be_not {ta : TT} {b : Bool} (h : BE ta b σ H1) : BE (tNot ta) (!b) σ H1 := fun H2 s Q k => h H2 s _ fun H3 s3 => k H3 s3
theorem if_be {c : TT} {b : Bool} {x y : TS} {D : Ends} (h : BE c b σ H1) (k : ∀ H3, Same H1 H3 → (b = true → x D σ H3) ∧ (b = false → y D σ H3)) : tIfS c x y D σ H1 := h H1 (Same.refl _) _ fun H3 s3 => by
  cases b with
  | true => exact (k H3 s3).1 rfl
  | false => exact (k H3 s3).2 rfl
theorem set_v {s : Nat} {D : Ends} (h : VE t v σ H1) (k : D.nx (σ.set s (some v)) H1) : tAsg t (gName s) D σ H1 := h H1 (Same.refl _) _ k
theorem set_dt {s : Nat} {D : Ends} (h : DT L t d σ H1) (k : ∀ v H3, Same H1 H3 → At (hid L H3) v d → D.nx (σ.set s (some v)) H3) : tAsg t (gName s) D σ H1 := h H1 (Same.refl _) _ k
/-- l[e] = t, l a list of the def's own -/
theorem set_la {H : Hp} {l : Addr} {s n : Nat} {D : Ends} (la : LA H l ds H1) (e1 : σ[s]? = some (some (.ref l))) (hi : VE u (.int i) σ H1) (ij : i = (n : Int)) (hn : n < ds.length) (h : DT [l] t d σ H1) (k : ∀ H3, LA H l (ds.set n d) H3 → Same (hid [l] H1) (hid [l] H3) → D.nx σ H3) : tAsg t (gSub (tVar s) u rSetL) D σ H1 := h H1 (Same.refl _) _ fun v H3 s3 a => ⟨_, e1, hi H3 s3 _ (by
  obtain ⟨_, _, vs, hl, as⟩ := la.later s3
  subst ij
  refine ⟨l, vs, _, n, rfl, rfl, hl, ?_, k _ ((la.later s3).set n hl (Same.refl _) a) ?_⟩
  · unfold ixN
    rw [if_pos (by omega), if_pos (by rw [as.len]; omega)]
    rfl
  · rw [hid_upd (by simp)]
    exact hid_mono s3)⟩
theorem getD_some {α : Type} {l : List α} {n : Nat} {x : α} (h : n < l.length) : l[n]? = some (l.getD n x) := by
  rw [List.getD_eq_getElem?_getD, List.getElem?_eq_getElem h]
  rfl
/-- l[i], x = e1, e2: l a list of the def's own -/
theorem asg_la2 {H : Hp} {l : Addr} {s n j : Nat} {D : Ends} {ta tb : TE} (la : LA H l ds H1) (e1 : σ[s]? = some (some (.ref l))) (ij : i = (n : Int)) (hn : n < ds.length) (h : DT [l] ta d σ H1) (r : DT [l] tb e σ H1) (k : ∀ v H3, LA H l (ds.set n d) H3 → At (hid [l] H3) v e → Same (hid [l] H1) (hid [l] H3) → D.nx (σ.set j (some v)) H3) :
    tAsg (tTup (tCons ta (tCons tb tNil))) (gTup K 2 (gCons (gSub (tVar s) (tC (.int i)) rSetL) (gCons (gName j) gNil))) D σ H1 := h H1 (Same.refl _) _ fun v H3 s3 a => r H3 s3 _ fun w H4 s4 b => ⟨by show 2 ≤ sizeLine; decide, fun p np => ⟨p, [v, w], rfl, SqT.of upd_same, rfl, v, [w], rfl, _, e1, by
  have s5 := same_new (o := .tup [v, w]) (Same.refl H4) np
  have la5 := la.later ((s3.trans s4).trans s5)
  obtain ⟨_, _, vs, hl, as⟩ := id la5
  subst ij
  refine ⟨l, vs, _, n, rfl, rfl, hl, ?_, w, [], rfl, rfl, k w _ (la5.set n hl (Same.refl _) (a.mono (hid_mono (s4.trans s5)))) ?_ ?_⟩
  · unfold ixN
    rw [if_pos (by omega), if_pos (by rw [as.len]; omega)]
    rfl
  · rw [hid_upd (by simp)]
    exact b.mono (hid_mono s5)
  · rw [hid_upd (by simp)]
    exact hid_mono ((s3.trans s4).trans s5)⟩⟩
/-- len(l[i]) -/
theorem dt_laLen {H : Hp} {l : Addr} {s n : Nat} {xs : List PyData} (e1 : σ[s]? = some (some (.ref l))) (h : LA H l ds H1) (hn : ds[n]? = some (.list xs)) (ij : i = (n : Int)) : DT [l] (tCB (fun xs H Q => ∃ p ys, xs = [V.ref p] ∧ (SqL K H p ys ∨ SqT K H p ys) ∧ Q (V.int (ys.length : Nat)) H) (tCons (tOp (rIxL K) (tVar s) (tC (.int i))) tNil)) (.int (xs.length : Nat)) σ H1 := fun H2 s2 Q k =>
  dt_la e1 h hn ij H2 s2 _ fun v H3 s3 a => by
    obtain ⟨p, ys, rfl, hp, as⟩ := at_l a
    exact ⟨p, ys, rfl, .inl (SqL.of (hid_sub _ _ hp)), k _ H3 s3 (by rw [as.len]; exact .int _)⟩
/-- l[i] * k, a text -/
theorem dt_laS {H : Hp} {l : Addr} {s n : Nat} {z : Str} {c : Int} (e1 : σ[s]? = some (some (.ref l))) (h : LA H l ds H1) (hn : ds[n]? = some (.str z)) (ij : i = (n : Int)) (c2 : 2 ≤ c) (c3 : c ≤ 1000) (z0 : z.length ≠ 0) (z1 : z.length ≤ 1000) (few : (repS z c).length ≤ 1000) (ok : PyData.strOk (repS z c) = true) : DT [l] (tOp rRepS (tOp (rIxL K) (tVar s) (tC (.int i))) (tC (.int c))) (.str (repS z c)) σ H1 := fun H2 s2 Q k =>
  dt_la e1 h hn ij H2 s2 _ fun v H3 s3 a => by
    cases a with
    | str _ _ => exact ⟨z, c, rfl, rfl, c2, c3, z0, z1, Nat.le_trans few (by decide), k _ H3 s3 (.str _ ⟨few, ok⟩)⟩
end
end K1


set_option Elab.async false
set_option linter.all false
set_option maxRecDepth 100000
set_option maxHeartbeats 8000000
namespace K1
open PySem L2
/-- what is never come to -/
theorem ps_dead {X : Cx} {s : Stmt} : PS X s (fun _ _ _ => False) := ⟨fun _ _ _ _ _ _ h => h.elim⟩
theorem pss_dead {X : Cx} {s : List Stmt} : PSs X s (fun _ _ _ => False) := ⟨fun _ _ _ _ _ _ h => h.elim⟩
theorem pe_dead {X : Cx} {e : Expr} : PE X e (fun _ _ _ => False) := ⟨fun _ _ _ _ _ _ h => h.elim⟩
section
variable {P : Program} {w : World} {K : PySem.W.Frag} {mg : Str → Option Value} {base : Heap}
theorem sc1 : FnScope ["value"] ["value"] (defScope (top 31)) := ⟨rfl, rfl, rfl, by decide +kernel, rfl, by decide +kernel, by decide +kernel⟩
theorem ok1 {f : Addr} {fd : FuncData} (F : Fun K "is_integer" "is_integer" (top 31) f fd) (B : Blt mg) : FnOk P w K mg base CX0 1 f fd ["value"] spInteger := by
  refine F.ok sc1 (fun vs H Q E h => ?_) (fun cdv A outer s H vs Q E hr h => ?_)
  · obtain ⟨v, rfl, _⟩ := h
    rfl
  · obtain ⟨v, rfl, d, k⟩ := h
    refine ⟨_, pss_one (ps_ret (pe_and (pt_isi B (pv 0) B.int PyProof.Rows.boot_int) (pe_one (pe_not (pt_isi B (pv 0) B.bool PyProof.Rows.boot_bool))))), ?_⟩
    refine isi_rd rfl (ans_int d) ⟨_, rfl, ?_⟩
    refine ite2 (fun c => ?_) (fun c => ?_)
    · refine isi_rd rfl (ans_bool d) ⟨_, rfl, ?_⟩
      have e : intV v = !isB v := by unfold intV; rw [c, Bool.true_and]
      rw [← e]
      exact k
    · have e : intV v = false := by unfold intV; rw [Bool.eq_false_iff.mpr c, Bool.false_and]
      rw [← e]
      exact k
theorem sc2 : FnScope ["value", "least", "most"] ["value", "least", "most"] (defScope (top 32)) := ⟨rfl, rfl, rfl, by decide +kernel, rfl, by decide +kernel, by decide +kernel⟩
theorem ok2 {f : Addr} {fd : FuncData} (F : Fun K "is_within" "is_within" (top 32) f fd) (B : Blt mg) (C1 : Cal P w K mg base CX0 1 "is_integer" ["value"] spInteger) : FnOk P w K mg base CX0 2 f fd ["value", "least", "most"] spWithin := by
  refine F.ok sc2 (fun vs H Q E h => ?_) (fun cdv A outer s H vs Q E hr h => ?_)
  · obtain ⟨v, lo, hi, rfl, _⟩ := h
    rfl
  · obtain ⟨v, lo, hi, rfl, d, k⟩ := h
    refine ⟨_, pss_one (ps_ret (pe_and (pe_cal C1 hr (by decide) pass0 (pa_cons (pv 0) pa_nil)) (pe_one (pe_chain op_le op_le (pv 1) (pv 0) (pv 2))))), ?_⟩
    refine ⟨_, rfl, v, rfl, d, _, rfl, ?_⟩
    refine ite2 (fun c => ?_) (fun c => ?_)
    · obtain ⟨i, rfl⟩ := intV_is c
      refine ⟨_, rfl, _, rfl, _, _, rfl, rfl, _, rfl, ?_⟩
      have e : wholeV (.int i) lo hi = (decide (lo ≤ i) && decide (i ≤ hi)) := rfl
      refine ite2 (fun c1 => ?_) (fun c1 => ?_)
      · refine ⟨_, rfl, _, _, rfl, rfl, ?_⟩
        rw [c1, Bool.true_and] at e
        rw [e] at k
        exact k
      · rw [Bool.eq_false_iff.mpr c1, Bool.false_and] at e
        rw [e] at k
        exact k
    · rw [← wholeV_not (lo := lo) (hi := hi) c]
      exact k
theorem sc3 : FnScope ["value", "letter"] ["value"] (defScope (top 35)) := ⟨rfl, rfl, rfl, by decide +kernel, rfl, by decide +kernel, by decide +kernel⟩
theorem ok3 {f : Addr} {fd : FuncData} (F : Fun K "is_name" "is_name" (top 35) f fd) (B : Blt mg) : FnOk P w K mg base CX0 1 f fd ["value"] spName := by
  refine F.ok sc3 (fun vs H Q E h => ?_) (fun cdv A outer s H vs Q E hr h => ?_)
  · obtain ⟨v, rfl, _⟩ := h
    rfl
  · obtain ⟨v, rfl, d, k⟩ := h
    refine ⟨_, pss_cons (ps_if (PW.pt (pw_or (pt_not (pt_val (pt_isi B (pv 0) B.str PyProof.Rows.boot_str))) (pw_or1 (pt_not (pt_chain op_le op_le pe_int (pe_callB call_len_str rfl B.len PySem.boot_len (pa_cons (pv 0) pa_nil)) pe_int))))) (pss_one (ps_ret pe_bl)) pss_nil)
      (pss_one (ps_ret (pe_callB (cr_all rfl) rfl B.all PyProof.Rows.boot_all (pa_cons (pe_lc (own := [("letter", 1)]) (g := gName 1) (tt := tYes) rfl sc3.nd (pi_str (pv 0)) (blkOk_by (N := ["value", "letter"]) (sc := defScope (top 35)) (by decide +kernel))
        (fun _ _ _ _ _ => pg_name (i := 1) sc3.nd rfl (Or.inl rfl)) (fun _ _ _ _ _ => pts_nil) (fun _ _ _ _ _ => pe_chain op_le_str op_le_str pe_str (pv 1) pe_str)) pa_nil)))), ?_⟩
    refine isi_rd rfl (ans_str d) ⟨_, rfl, ?_⟩
    cases d with
    | str s hso =>
      have hs := hso.1
      refine iteF ?_
      have hz : s.length ≤ sizeLine := by rw [sizeLine_eq]; omega
      have en : nameV (.str s) = ((decide ((1 : Int) ≤ (s.length : Int)) && decide ((s.length : Int) ≤ 8)) && s.cps.toList.all letterV) := by
        show nameS s = _
        unfold nameS
        congr 2 <;> (rw [Bool.eq_iff_iff]; simp; try omega)
      refine ⟨_, rfl, s, rfl, hz, _, _, rfl, rfl, _, rfl, ?_⟩
      refine ite2 (fun c1 => ?_) (fun c1 => ?_)
      · refine ⟨_, _, rfl, rfl, _, rfl, ?_⟩
        refine ite2 (fun c2 => ?_) (fun c2 => ?_)
        · have c2' : decide ((s.length : Int) ≤ 8) = false := by
            cases z : decide ((s.length : Int) ≤ 8) with
            | false => rfl
            | true => rw [z] at c2; exact absurd c2 (by decide)
          rw [c2', Bool.and_false, Bool.false_and] at en
          rw [en] at k
          exact k _ (Same.refl _)
        · have c2' : decide ((s.length : Int) ≤ 8) = true := by
            cases z : decide ((s.length : Int) ≤ 8) with
            | true => rfl
            | false => rw [z] at c2; exact absurd rfl c2
          rw [c1, c2', Bool.and_true, Bool.true_and] at en
          refine ⟨_, rfl, s, rfl, fun D hD => ?_⟩
          have low : ∀ c : Nat, letterV c = (!decide (([c] : List Nat) < [97]) && !decide (([122] : List Nat) < [c])) := fun c => by rw [le_one, le_one]; rfl
          refine lc_str (x := s) (fun i H1 => Same H H1 ∧ H1 D = some (.lst ((s.cps.toList.take i).map fun c => V.bl (letterV c)))) ⟨fun b o e => by rw [upd_ne (ne_of_none e hD)]; exact e, by rw [upd_same]; rfl⟩ ?_ ?_
          · rintro i c H1 hc ⟨s1, e1⟩
            refine ⟨rfl, ?_⟩
            unfold tYes
            dsimp only
            rw [if_pos rfl]
            have fin : ∀ b : Bool, b = letterV c → ∃ acc, H1 D = some (.lst acc) ∧ acc.length < sizeLine ∧ (Same H (upd H1 D (.lst (acc ++ [V.bl b]))) ∧ (upd H1 D (.lst (acc ++ [V.bl b]))) D = some (.lst ((s.cps.toList.take (i + 1)).map fun c => V.bl (letterV c)))) := fun b hb => by
              refine ⟨_, e1, ?_, fun b o e => ?_, ?_⟩
              · rw [List.length_map, List.length_take]
                have hl : s.cps.toList.length = s.length := rfl
                rw [sizeLine_eq]; omega
              · rw [upd_ne (ne_of_none e hD)]
                exact s1 b o e
              · rw [upd_same, start_drop _ _ _ hc, List.map_append, hb]
                rfl
            refine ⟨_, rfl, _, _, rfl, rfl, _, rfl, ?_⟩
            refine ite2 (fun d1 => ?_) (fun d1 => ?_)
            · refine ⟨_, _, rfl, rfl, ?_⟩
              refine fin _ ?_
              rw [low, show (!decide (([c] : List Nat) < [97])) = true from d1, Bool.true_and]
              rfl
            · refine fin false ?_
              rw [low, show (!decide (([c] : List Nat) < [97])) = false from Bool.eq_false_iff.mpr d1, Bool.false_and]
          · rintro H1 ⟨s1, e1⟩
            refine ⟨D, s.cps.toList.map letterV, rfl, SqL.of (by rw [e1, List.take_of_length_le (by simp), List.map_map]; rfl), ?_⟩
            rw [en, show s.cps.toList.all letterV = (s.cps.toList.map letterV).all id by rw [List.all_map]; rfl] at k
            exact k _ s1
      · refine ⟨_, rfl, ?_⟩
        refine iteT ?_
        rw [Bool.eq_false_iff.mpr c1] at en
        rw [en] at k
        exact k _ (Same.refl _)
    | _ =>
      refine iteT ?_
      refine iteT ?_
      exact k _ (Same.refl _)
def spDig : Sp := fun vs H Q _ => ∃ (c m : Int), vs = [.int c, .int m] ∧ 0 ≤ m ∧ m ≤ 100 ∧ ∀ (q : Addr) (H' : Hp) (ds : List Int), Same H H' → H q = none → H' q = some (.lst (ds.map V.int)) → ds.length = m.toNat → (∀ x ∈ ds, 0 ≤ x ∧ x < 1009) → Q (.ref q) H'
theorem sc39 : FnScope ["_law_cell_here", "_law_many", "_law_digits_here", "_law_rest", "_law_number", "_law_k"] ["_law_cell_here", "_law_many"] (defScope (top 55)) := ⟨rfl, rfl, rfl, by decide +kernel, rfl, by decide +kernel, by decide +kernel⟩
theorem ok39 {f : Addr} {fd : FuncData} (F : Fun K "_law_digits" "_law_digits" (top 55) f fd) (B : Blt mg) : FnOk P w K mg base CX0 1 f fd ["_law_cell_here", "_law_many"] spDig := by
  refine F.ok sc39 (fun vs H Q E h => ?_) (fun cdv A outer s H vs Q E hr h => ?_)
  · obtain ⟨c, m, rfl, _⟩ := h
    rfl
  · obtain ⟨c, m, rfl, m0, m1, k⟩ := h
    refine ⟨_, pss_cons (ps_set (i := 2) sc39.nd rfl (Or.inl rfl) (pe_lst pa_nil))
      (pss_cons (ps_set (i := 3) sc39.nd rfl (Or.inl rfl) pe_int)
      (pss_cons (ps_if (pt_cmpR op_ge (pv 0) (pe_op op_pow pe_int pe_int) (nomark _)) (pss_one (ps_set (i := 3) sc39.nd rfl (Or.inl rfl) (pv 0))) pss_nil)
      (pss_cons (ps_set (i := 4) sc39.nd rfl (Or.inl rfl) (pe_op op_mod (pe_callTy call_int1 rfl B.int PyProof.Rows.boot_int (pa_cons (pv 0) pa_nil)) pe_int))
      (pss_cons (ps_for PassesOwn.never rfl (pi_range1 rfl B.range (pa_cons (pv 1) pa_nil)) (pg_name (i := 5) sc39.nd rfl (Or.inl rfl))
        (pss_cons (ps_set (i := 4) sc39.nd rfl (Or.inl rfl) (pe_op op_mod (pe_callTy call_int1 rfl B.int PyProof.Rows.boot_int (pa_cons (pe_op op_add (pe_op op_add (pe_op op_mul (pv 4) pe_int) (pe_op op_mul pe_int (pv 5))) pe_int) pa_nil)) pe_int))
        (pss_cons (ps_set (i := 4) sc39.nd rfl (Or.inl rfl) (pe_op op_mod (pe_callTy call_int1 rfl B.int PyProof.Rows.boot_int (pa_cons (pe_op op_mul (pv 4) (pe_op op_add (pe_op op_fdiv (pv 4) pe_int) pe_int)) pa_nil)) pe_int))
        (pss_one (ps_if (pt_cmpR op_gt (pv 3) pe_int (nomark _))
          (pss_cons (ps_expr (pe_bm PySem.F.plainAttrs_list PySem.F.slot_list_append PySem.F.type_list_append mt_append (pv 2) (pa_cons (pe_op op_mod (pe_callTy call_int1 rfl B.int PyProof.Rows.boot_int (pa_cons (pv 3) pa_nil)) pe_int) pa_nil)))
            (pss_one (ps_set (i := 3) sc39.nd rfl (Or.inl rfl) (pe_op op_fdiv (pv 3) pe_int))))
          (pss_one (ps_expr (pe_bm PySem.F.plainAttrs_list PySem.F.slot_list_append PySem.F.type_list_append mt_append (pv 2) (pa_cons (pe_op op_mod (pe_callTy call_int1 rfl B.int PyProof.Rows.boot_int (pa_cons (pe_op op_fdiv (pv 4) pe_int) pa_nil)) pe_int) pa_nil)))))))))
      (pss_one (ps_ret (pv 2))))))), ?_⟩
    refine ⟨by decide, fun L hL => ?_⟩
    have s0 : Same H (upd H L (.lst [])) := same_new (Same.refl _) hL
    have big : ∀ z : Int, 0 ≤ z % 2147483647 ∧ z % 2147483647 < 2147483647 := fun z => ⟨Int.emod_nonneg z (by decide), Int.emod_lt_of_pos z (by decide)⟩
    have big2 : ∀ z : Int, 0 ≤ z % 2147483629 ∧ z % 2147483629 < 2147483629 := fun z => ⟨Int.emod_nonneg z (by decide), Int.emod_lt_of_pos z (by decide)⟩
    have small : ∀ z : Int, 0 ≤ z % 1009 ∧ z % 1009 < 1009 := fun z => ⟨Int.emod_nonneg z (by decide), Int.emod_lt_of_pos z (by decide)⟩
    refine ⟨_, rfl, _, _, rfl, rfl, ⟨by decide, by decide, by decide⟩, _, _, rfl, rfl, _, rfl, ?_⟩
    refine ite2 (fun _ => ?_) (fun _ => ?_)
    case' refine_1 => refine ⟨_, rfl, ?_⟩
    all_goals
      refine ⟨_, rfl, .inl ⟨_, rfl, _, _, rfl, rfl, (by show (0 : Int) < 2147483647; decide), ?_⟩⟩
      refine ⟨_, rfl, m, rfl, by omega, by omega, ?_⟩
      refine for_range (n := m.toNat) (fun i σ H1 => ∃ (r nb : Int) (v5 : Option V) (ds : List Int), σ = [some (.int c), some (.int m), some (.ref L), some (.int r), some (.int nb), v5] ∧ Same H H1 ∧ 0 ≤ nb ∧ nb < 2147483647 ∧ H1 L = some (.lst (ds.map V.int)) ∧ ds.length = i ∧ ∀ x ∈ ds, 0 ≤ x ∧ x < 1009)
        ⟨_, _, none, [], rfl, s0, (big _).1, (big _).2, upd_same, rfl, fun x hx => by cases hx⟩ ?_ ?_
      · rintro i σ H1 hi ⟨r, nb, v5, ds, rfl, s1, n0, n1, hds, hlen, hb⟩
        refine ⟨_, rfl, _, _, rfl, rfl, .inl ⟨by omega, by omega⟩, _, rfl, _, _, rfl, rfl, .inl ⟨by decide, by decide⟩, _, _, rfl, rfl, _, _, rfl, rfl, .inl ⟨_, rfl, _, _, rfl, rfl, (by show (0 : Int) < 2147483647; decide), ?_⟩⟩
        have hna := big (nb * 48271 + 30103 * (0 + (i : Int)) + 11)
        refine ⟨_, rfl, _, rfl, _, _, rfl, rfl, ⟨by decide, by decide⟩, _, _, rfl, rfl, _, _, rfl, rfl, .inl ⟨by omega, by omega⟩, .inl ⟨_, rfl, _, _, rfl, rfl, (by show (0 : Int) < 2147483629; decide), ?_⟩⟩
        have hnc := big2 ((nb * 48271 + 30103 * (0 + (i : Int)) + 11) % 2147483647 * ((nb * 48271 + 30103 * (0 + (i : Int)) + 11) % 2147483647 / 1009 + 69621))
        refine ⟨_, rfl, _, _, rfl, rfl, _, rfl, ?_⟩
        have push : ∀ (r' z nc : Int) (v : Option V), 0 ≤ nc ∧ nc < 2147483629 → 0 ≤ z ∧ z < 1009 → ∃ (r nb : Int) (v5 : Option V) (ds' : List Int), [some (.int c), some (.int m), some (.ref L), some (.int r'), some (.int nc), v] = [some (.int c), some (.int m), some (.ref L), some (.int r), some (.int nb), v5] ∧
            Same H (upd H1 L (.lst (ds.map V.int ++ [V.int z]))) ∧ 0 ≤ nb ∧ nb < 2147483647 ∧ (upd H1 L (.lst (ds.map V.int ++ [V.int z]))) L = some (.lst (ds'.map V.int)) ∧ ds'.length = i + 1 ∧ ∀ x ∈ ds', 0 ≤ x ∧ x < 1009 := fun r' z nc v hnc hz => by
          refine ⟨r', nc, v, ds ++ [z], rfl, fun b o e => ?_, hnc.1, by omega, ?_, ?_, fun x hx => ?_⟩
          · rw [upd_ne (ne_of_none e hL)]
            exact s1 b o e
          · rw [upd_same, List.map_append]
            rfl
          · rw [List.length_append, hlen]
            rfl
          · rcases List.mem_append.mp hx with h | h
            · exact hb x h
            · rw [List.mem_singleton.mp h]
              exact hz
        have room : (ds.map V.int).length < sizeLine := by
          rw [List.length_map, sizeLine_eq]
          omega
        refine ite2 (fun _ => ?_) (fun _ => ?_)
        · refine ⟨_, rfl, .inl ⟨rfl, _, SqL.of hds⟩, _, rfl, .inl ⟨_, rfl, _, _, rfl, rfl, (by show (0 : Int) < 1009; decide), L, _, _, rfl, rfl, hds, room, ?_⟩⟩
          refine ⟨_, rfl, _, _, rfl, rfl, ⟨by decide, by decide⟩, ?_⟩
          exact push _ _ _ _ hnc (small _)
        · refine ⟨_, rfl, .inl ⟨rfl, _, SqL.of hds⟩, _, rfl, _, _, rfl, rfl, ⟨by decide, by decide⟩, .inl ⟨_, rfl, _, _, rfl, rfl, (by show (0 : Int) < 1009; decide), L, _, _, rfl, rfl, hds, room, ?_⟩⟩
          exact push _ _ _ _ hnc (small _)
      · rintro σ H1 ⟨r, nb, v5, ds, rfl, s1, n0, n1, hds, hlen, hb⟩
        exact ⟨_, rfl, k L H1 ds s1 hL hds hlen hb⟩
end
end K1

set_option Elab.async false
set_option linter.all false
set_option maxRecDepth 100000
set_option maxHeartbeats 4000000
namespace K1
open PySem L2 W1
abbrev RwD := Rw PyData
/-! ### rows as objects -/
structure Fl (fs : List (Str × V)) (l b p q : V) (ti ex : Int) : Prop where
  leaf : fs.lookup ("leaf" : Str) = some l
  base : fs.lookup ("base" : Str) = some b
  times : fs.lookup ("times" : Str) = some (.int ti)
  parts : fs.lookup ("parts" : Str) = some p
  begins : fs.lookup ("begins" : Str) = some q
  extent : fs.lookup ("extent" : Str) = some (.int ex)
def nV (n : Nat) : V := .int (n : Nat)
mutual
def RwAt (C : Addr) (H : Hp) : RwD → V → Prop
  | .leaf es, v => ∃ (a dx : Addr) (fs : List (Str × V)) (t p q : Addr) (vs : List V), v = .ref a ∧ H a = some (.ins C dx fs) ∧ Fl fs (.ref t) .non (.ref p) (.ref q) 1 (es.length : Nat) ∧ H t = some (.tup vs) ∧ AtAll H vs es ∧ H p = some (.tup []) ∧ H q = some (.tup [])
  | .rep b n, v => ∃ (a dx : Addr) (fs : List (Str × V)) (p q : Addr) (bv : V), v = .ref a ∧ H a = some (.ins C dx fs) ∧ Fl fs .non bv (.ref p) (.ref q) (n : Nat) (ext (.rep b n) : Nat) ∧ RwAt C H b bv ∧ H p = some (.tup []) ∧ H q = some (.tup [])
  | .cat ps, v => ∃ (a dx : Addr) (fs : List (Str × V)) (p q : Addr) (vs : List V), v = .ref a ∧ H a = some (.ins C dx fs) ∧ Fl fs .non .non (.ref p) (.ref q) 1 (exts ps : Nat) ∧ H p = some (.tup vs) ∧ RwsAt C H ps vs ∧ H q = some (.tup ((begs 0 ps).map nV))
def RwsAt (C : Addr) (H : Hp) : List RwD → List V → Prop
  | [], vs => vs = []
  | p :: ps, vs => ∃ v ws, vs = v :: ws ∧ RwAt C H p v ∧ RwsAt C H ps ws
end
mutual
theorem RwAt.mono {C : Addr} {H H' : Hp} (s : Same H H') : ∀ {r : RwD} {v : V}, RwAt C H r v → RwAt C H' r v
  | .leaf es, v, h => by
    rw [RwAt] at h ⊢
    obtain ⟨a, dx, fs, t, p, q, vs, e, ha, f, ht, hs, hp, hq⟩ := h
    exact ⟨a, dx, fs, t, p, q, vs, e, s _ _ ha, f, s _ _ ht, hs.mono s, s _ _ hp, s _ _ hq⟩
  | .rep b n, v, h => by
    rw [RwAt] at h ⊢
    obtain ⟨a, dx, fs, p, q, bv, e, ha, f, hb, hp, hq⟩ := h
    exact ⟨a, dx, fs, p, q, bv, e, s _ _ ha, f, RwAt.mono s hb, s _ _ hp, s _ _ hq⟩
  | .cat ps, v, h => by
    rw [RwAt] at h ⊢
    obtain ⟨a, dx, fs, p, q, vs, e, ha, f, hp, hs, hq⟩ := h
    exact ⟨a, dx, fs, p, q, vs, e, s _ _ ha, f, s _ _ hp, RwsAt.mono s hs, s _ _ hq⟩
theorem RwsAt.mono {C : Addr} {H H' : Hp} (s : Same H H') : ∀ {ps : List RwD} {vs : List V}, RwsAt C H ps vs → RwsAt C H' ps vs
  | [], vs, h => by
    rw [RwsAt] at h ⊢
    exact h
  | p :: ps, vs, h => by
    rw [RwsAt] at h ⊢
    obtain ⟨v, ws, e, h1, h2⟩ := h
    exact ⟨v, ws, e, RwAt.mono s h1, RwsAt.mono s h2⟩
end
/-- what each row has -/
theorem RwAt.any {C : Addr} {H : Hp} {r : RwD} {v : V} (h : RwAt C H r v) : ∃ (a dx : Addr) (fs : List (Str × V)) (l b : V) (p q : Addr) (vs ws : List V) (ti : Int), v = .ref a ∧ H a = some (.ins C dx fs) ∧ Fl fs l b (.ref p) (.ref q) ti (ext r : Nat) ∧ H p = some (.tup vs) ∧ H q = some (.tup ws) := by
  cases r with
  | leaf es =>
    rw [RwAt] at h
    obtain ⟨a, dx, fs, t, p, q, vs, e, ha, f, ht, hs, hp, hq⟩ := h
    exact ⟨a, dx, fs, _, _, p, q, _, _, _, e, ha, f, hp, hq⟩
  | rep b n =>
    rw [RwAt] at h
    obtain ⟨a, dx, fs, p, q, bv, e, ha, f, hb, hp, hq⟩ := h
    exact ⟨a, dx, fs, _, _, p, q, _, _, _, e, ha, f, hp, hq⟩
  | cat ps =>
    rw [RwAt] at h
    obtain ⟨a, dx, fs, p, q, vs, e, ha, f, hp, hs, hq⟩ := h
    exact ⟨a, dx, fs, _, _, p, q, _, _, _, e, ha, f, hp, hq⟩
theorem RwsAt.len {C : Addr} {H : Hp} : ∀ {ps : List RwD} {vs : List V}, RwsAt C H ps vs → vs.length = ps.length
  | [], vs, h => by rw [RwsAt] at h; rw [h]; rfl
  | p :: ps, vs, h => by
    rw [RwsAt] at h
    obtain ⟨v, ws, rfl, _, h2⟩ := h
    rw [List.length_cons, List.length_cons, RwsAt.len h2]
theorem RwsAt.at {C : Addr} {H : Hp} : ∀ {ps : List RwD} {vs : List V} {i : Nat} {p : RwD}, RwsAt C H ps vs → ps[i]? = some p → ∃ v, vs[i]? = some v ∧ RwAt C H p v
  | [], vs, i, p, h, e => by simp at e
  | q :: ps, vs, 0, p, h, e => by
    rw [RwsAt] at h
    obtain ⟨v, ws, rfl, h1, _⟩ := h
    simp at e
    subst e
    exact ⟨v, rfl, h1⟩
  | q :: ps, vs, i + 1, p, h, e => by
    rw [RwsAt] at h
    obtain ⟨v, ws, rfl, _, h2⟩ := h
    rw [List.getElem?_cons_succ] at e
    obtain ⟨y, e1, e2⟩ := RwsAt.at h2 e
    exact ⟨y, by rw [List.getElem?_cons_succ]; exact e1, e2⟩
theorem RwsAt.app {C : Addr} {H : Hp} : ∀ {ps qs : List RwD} {vs ws : List V}, RwsAt C H ps vs → RwsAt C H qs ws → RwsAt C H (ps ++ qs) (vs ++ ws)
  | [], qs, vs, ws, h, k => by rw [RwsAt] at h; rw [h]; exact k
  | p :: ps, qs, vs, ws, h, k => by
    rw [RwsAt] at h
    obtain ⟨v, us, rfl, h1, h2⟩ := h
    rw [List.cons_append, List.cons_append, RwsAt]
    exact ⟨v, us ++ ws, rfl, h1, RwsAt.app h2 k⟩
theorem RwsAt.take {C : Addr} {H : Hp} : ∀ {ps : List RwD} {vs : List V} (n : Nat), RwsAt C H ps vs → RwsAt C H (ps.take n) (vs.take n)
  | _, vs, 0, h => by rw [List.take_zero, List.take_zero, RwsAt]
  | [], vs, n + 1, h => by rw [RwsAt] at h; rw [h]; simp [RwsAt]
  | p :: ps, vs, n + 1, h => by
    rw [RwsAt] at h
    obtain ⟨v, us, rfl, h1, h2⟩ := h
    rw [List.take_succ_cons, List.take_succ_cons, RwsAt]
    exact ⟨v, _, rfl, h1, RwsAt.take n h2⟩
theorem RwsAt.drop {C : Addr} {H : Hp} : ∀ {ps : List RwD} {vs : List V} (n : Nat), RwsAt C H ps vs → RwsAt C H (ps.drop n) (vs.drop n)
  | _, vs, 0, h => h
  | [], vs, n + 1, h => by rw [RwsAt] at h; rw [h]; simp [RwsAt]
  | p :: ps, vs, n + 1, h => by
    rw [RwsAt] at h
    obtain ⟨v, us, rfl, h1, h2⟩ := h
    exact RwsAt.drop n h2
/-! ### Row(..) -/
abbrev sRwI : Stmt := inClass (top 2) 0
abbrev rwP : List Str := ["self", "leaf", "base", "times", "parts", "begins", "extent"]
def rwF (a b c d e f : V) : List (Str × V) := putF "extent" f (putF "begins" e (putF "parts" d (putF "times" c (putF "base" b (putF "leaf" a [])))))
theorem rwF_fl (l b p q : V) (ti ex : Int) : Fl (rwF l b (.int ti) p q (.int ex)) l b p q ti ex := by
  unfold rwF
  refine ⟨?_, ?_, ?_, ?_, ?_, ?_⟩
  · rw [lookup_putF, if_neg (by decide +kernel), lookup_putF, if_neg (by decide +kernel), lookup_putF, if_neg (by decide +kernel), lookup_putF, if_neg (by decide +kernel), lookup_putF, if_neg (by decide +kernel), lookup_putF, if_pos rfl]
  · rw [lookup_putF, if_neg (by decide +kernel), lookup_putF, if_neg (by decide +kernel), lookup_putF, if_neg (by decide +kernel), lookup_putF, if_neg (by decide +kernel), lookup_putF, if_pos rfl]
  · rw [lookup_putF, if_neg (by decide +kernel), lookup_putF, if_neg (by decide +kernel), lookup_putF, if_neg (by decide +kernel), lookup_putF, if_pos rfl]
  · rw [lookup_putF, if_neg (by decide +kernel), lookup_putF, if_neg (by decide +kernel), lookup_putF, if_pos rfl]
  · rw [lookup_putF, if_neg (by decide +kernel), lookup_putF, if_pos rfl]
  · rw [lookup_putF, if_pos rfl]
structure NoR (K : PySem.W.Frag) (C : Addr) : Prop where
  cl : Cls K C
  n1 : NoAttr K C "leaf"
  n2 : NoAttr K C "base"
  n3 : NoAttr K C "times"
  n4 : NoAttr K C "parts"
  n5 : NoAttr K C "begins"
  n6 : NoAttr K C "extent"
section
variable {P : Program} {w : World} {K : PySem.W.Frag} {mg : Str → Option Value} {base : Heap}
def spRwI (C : Addr) : Sp := fun vs H Q _ => ∃ (p dx : Addr) (a b c d e f : V), vs = [.ref p, a, b, c, d, e, f] ∧ H p = some (.ins C dx []) ∧ ∀ H', H' p = some (.ins C dx (rwF a b c d e f)) → (∀ b o, H b = some o → b ≠ p → H' b = some o) → Q .non H'
theorem scRw : FnScope rwP rwP (defScope sRwI) := ⟨rfl, rfl, rfl, by decide +kernel, rfl, by decide +kernel, by decide +kernel⟩
theorem okRwI {f C : Addr} {fd : FuncData} (F : Fun K "__init__" "Row.__init__" sRwI f fd) (T : NoR K C) : FnOk P w K mg base CX0 1 f fd rwP (spRwI C) := by
  refine F.ok scRw (fun vs H Q E h => ?_) (fun cdv A outer s H vs Q E hr h => ?_)
  · obtain ⟨p, dx, a, b, c, d, e, f, rfl, _⟩ := h
    rfl
  · obtain ⟨p, dx, a, b, c, d, e, f, rfl, hp, k⟩ := h
    refine ⟨_, pss_cons (ps_fld (pv 0) (pv 1) rfl) (pss_cons (ps_fld (pv 0) (pv 2) rfl) (pss_cons (ps_fld (pv 0) (pv 3) rfl) (pss_cons (ps_fld (pv 0) (pv 4) rfl) (pss_cons (ps_fld (pv 0) (pv 5) rfl) (pss_one (ps_fld (pv 0) (pv 6) rfl)))))), ?_⟩
    have z0 : ([] : List (Str × V)).length ≤ 0 := Nat.le_refl _
    have z1 := putF_len "leaf" a []
    have z2 := putF_len "base" b (putF "leaf" a [])
    have z3 := putF_len "times" c (putF "base" b (putF "leaf" a []))
    have z4 := putF_len "parts" d (putF "times" c (putF "base" b (putF "leaf" a [])))
    have z5 := putF_len "begins" e (putF "parts" d (putF "times" c (putF "base" b (putF "leaf" a []))))
    refine ⟨_, rfl, _, rfl, p, C, dx, _, rfl, hp, T.cl, T.n1, by omega, ?_⟩
    refine ⟨_, rfl, _, rfl, p, C, dx, _, rfl, upd_same, T.cl, T.n2, by omega, ?_⟩
    refine ⟨_, rfl, _, rfl, p, C, dx, _, rfl, upd_same, T.cl, T.n3, by omega, ?_⟩
    refine ⟨_, rfl, _, rfl, p, C, dx, _, rfl, upd_same, T.cl, T.n4, by omega, ?_⟩
    refine ⟨_, rfl, _, rfl, p, C, dx, _, rfl, upd_same, T.cl, T.n5, by omega, ?_⟩
    refine ⟨_, rfl, _, rfl, p, C, dx, _, rfl, upd_same, T.cl, T.n6, by omega, ?_⟩
    refine k _ upd_same fun b o e hb => ?_
    rw [upd_ne hb, upd_ne hb, upd_ne hb, upd_ne hb, upd_ne hb, upd_ne hb]
    exact e
end
/-- a row's field -/
theorem fld_rd {K : PySem.W.Frag} {C : Addr} {t : TE} {σ : St} {H : Hp} {Q : VK} {n : Str} {x : V} : True := trivial
end K1

set_option Elab.async false
set_option linter.all false
set_option maxRecDepth 100000
set_option maxHeartbeats 4000000
namespace K1
open PySem L2 W1
/-- what a row has, by its kind -/
theorem RwAt.flds {C : Addr} {H : Hp} {r : RwD} {v : V} (h : RwAt C H r v) : ∃ (a dx : Addr) (fs : List (Str × V)) (l b : V) (p q : Addr) (vs : List V) (ti : Int), v = .ref a ∧ H a = some (.ins C dx fs) ∧ Fl fs l b (.ref p) (.ref q) ti (ext r : Nat) ∧ H p = some (.tup vs) ∧ (isRep r = false → b = .non) ∧
    (isLf r = false → l = .non) ∧ (isCat r = false → vs = []) ∧ (∀ es, r = .leaf es → ∃ t xs, l = .ref t ∧ H t = some (.tup xs) ∧ AtAll H xs es) ∧ (∀ b0 n, r = .rep b0 n → ti = (n : Nat) ∧ b ≠ .non ∧ RwAt C H b0 b) ∧ (∀ ps, r = .cat ps → RwsAt C H ps vs ∧ H q = some (.tup ((begs 0 ps).map nV))) := by
  cases r with
  | leaf es =>
    rw [RwAt] at h
    obtain ⟨a, dx, fs, t, p, q, vs, e, ha, f, ht, hs, hp, hq⟩ := h
    exact ⟨a, dx, fs, _, _, p, q, [], _, e, ha, f, hp, fun _ => rfl, fun z => (nomatch z), fun _ => rfl, fun es' z => by cases z; exact ⟨t, vs, rfl, ht, hs⟩, fun _ _ z => (nomatch z), fun _ z => (nomatch z)⟩
  | rep b n =>
    rw [RwAt] at h
    obtain ⟨a, dx, fs, p, q, bv, e, ha, f, hb, hp, hq⟩ := h
    exact ⟨a, dx, fs, _, _, p, q, [], _, e, ha, f, hp, fun z => (nomatch z), fun _ => rfl, fun _ => rfl, fun es' z => (nomatch z), fun b0 n0 z => (by
      injection z with z1 z2
      subst z1 z2
      refine ⟨rfl, ?_, hb⟩
      obtain ⟨a', _, _, _, _, _, _, _, _, _, e', _⟩ := hb.any
      rw [e']
      exact fun z => nomatch z), fun _ z => (nomatch z)⟩
  | cat ps =>
    rw [RwAt] at h
    obtain ⟨a, dx, fs, p, q, vs, e, ha, f, hp, hs, hq⟩ := h
    exact ⟨a, dx, fs, _, _, p, q, vs, _, e, ha, f, hp, fun _ => rfl, fun _ => rfl, fun z => (nomatch z), fun es' z => (nomatch z), fun _ _ z => (nomatch z), fun _ z => by cases z; exact ⟨hs, hq⟩⟩
structure Bl2 (mg : Str → Option Value) : Prop extends Blt mg where
  min : mg "min" = none
  divmod : mg "divmod" = none
  zip : mg "zip" = none
  sorted : mg "sorted" = none
theorem ins_lk {K : PySem.W.Frag} {C a dx : Addr} {fs : List (Str × V)} {f : Str} {v : V} {s : Nat} {σ : St} {H1 : Hp} (e : σ[s]? = some (some (.ref a))) (h : H1 a = some (.ins C dx fs)) (c : Cls K C) (n : NoAttr K C f) (l : fs.lookup f = some v) : VE (tFld K (tVar s) f) v σ H1 :=
  fun H2 s2 Q q => ⟨_, e, a, C, dx, fs, v, rfl, s2 _ _ h, c, n, l, q⟩
/-- a new row -/
theorem mk_rd {C : Addr} {H1 : Hp} {a b c d e f : V} {Q : VK} {E : XK} (k : ∀ x dx H3, Same H1 H3 → H3 x = some (.ins C dx (rwF a b c d e f)) → Q (.ref x) H3) :
    ∀ x dx, H1 x = none → H1 dx = none → dx ≠ x → spRwI C (.ref x :: ([a, b, c, d, e, f] ++ [])) (upd (upd H1 dx (.own x)) x (.ins C dx [])) (fun v H2 => v = .non ∧ Q (.ref x) H2) E :=
  fun x dx nx ndx ne => ⟨x, dx, a, b, c, d, e, f, rfl, upd_same, fun H3 h3 kp => ⟨rfl, k x dx H3 (made_same nx ndx kp) h3⟩⟩
section
variable {P : Program} {w : World} {K : PySem.W.Frag} {mg : Str → Option Value} {base : Heap} {C : Addr}
/-! ### leaf_row -/
def spLf (C : Addr) : Sp := fun vs H Q _ => ∃ (e : Addr) (xs : List V) (es : List PyData), vs = [.ref e] ∧ (H e = some (.lst xs) ∨ H e = some (.tup xs)) ∧ AtAll H xs es ∧ es.length ≤ sizeLine ∧ ∀ v H', Same H H' → RwAt C H' (.leaf es) v → Q v H'
theorem sc_leaf_row : FnScope ["entries", "leaf"] ["entries"] (defScope (top 3)) := ⟨rfl, rfl, rfl, by decide +kernel, rfl, by decide +kernel, by decide +kernel⟩
theorem ok_leaf_row {f : Addr} {fd : FuncData} (F : Fun K "leaf_row" "leaf_row" (top 3) f fd) (B : Bl2 mg) (T : NoR K C) (MR : Mkr P w K mg base CX0 1 "Row" C rwP (spRwI C)) : FnOk P w K mg base CX0 3 f fd ["entries"] (spLf C) := by
  refine F.ok sc_leaf_row (fun vs H Q E h => ?_) (fun cdv A outer s H vs Q E hr h => ?_)
  · obtain ⟨e, xs, es, rfl, _⟩ := h
    rfl
  · obtain ⟨e, xs, es, rfl, he, as, few, k⟩ := h
    refine ⟨_, (pss_cons (ps_set (i := 1) sc_leaf_row.nd rfl (Or.inl rfl) (pe_callTy (r := rTof K) call_tuple_of rfl B.tuple PyProof.Rows.boot_tuple (pa_cons (pv 0) pa_nil)))
      (pss_one (ps_ret (pe_mkr MR hr (by omega) pass0 (pa_cons (pv 1) (pa_cons pe_non (pa_cons pe_int (pa_cons (pe_tup pa_nil) (pa_cons (pe_tup pa_nil) (pa_cons (pe_callB call_len_seq rfl B.len PySem.boot_len (pa_cons (pv 1) pa_nil)) pa_nil)))))))))), ?_⟩
    have fin : ∀ (t : Addr) (H1 : Hp), Same H H1 → H1 t = some (.tup xs) → tMake C (spRwI C) [] E (tCons (tVar 1) (tCons (tC .non) (tCons (tC (.int 1)) (tCons (tTup tNil) (tCons (tTup tNil) (tCons (tCB (fun xs H Q => ∃ p ys, xs = [V.ref p] ∧ (SqL K H p ys ∨ SqT K H p ys) ∧ Q (V.int (ys.length : Nat)) H) (tCons (tVar 1) tNil)) tNil)))))) [some (.ref e), some (.ref t)] H1 Q := by
      intro t H1 s1 ht
      refine ⟨_, rfl, ?_⟩
      refine ⟨Nat.zero_le _, fun p np => ⟨Nat.zero_le _, fun q nq => ?_⟩⟩
      have s2 := same_new (o := .tup []) (Same.refl H1) np
      have s3 := same_new (o := .tup []) s2 nq
      refine ⟨_, rfl, t, _, rfl, .inr (SqT.of (s3 _ _ ht)), ?_⟩
      refine mk_rd fun x dx H3 s4 hx => k _ _ ((s1.trans s3).trans s4) ?_
      rw [RwAt]
      refine ⟨x, dx, _, t, p, q, xs, rfl, hx, ?_, s4 _ _ (s3 _ _ ht), as.mono ((s1.trans s3).trans s4), s4 _ _ ?_, s4 _ _ upd_same⟩
      · rw [as.len]
        exact rwF_fl _ _ _ _ _ _
      · rw [upd_ne (ne_of_none upd_same nq)]
        exact upd_same
    rcases he with he | he
    · refine ⟨_, rfl, e, xs, rfl, .inl ⟨SqL.of he, fun t nt => ?_⟩⟩
      exact fin t _ (same_new (Same.refl _) nt) upd_same
    · refine ⟨_, rfl, e, xs, rfl, .inr ⟨SqT.of he, ?_⟩⟩
      exact fin e H (Same.refl _) he
/-! ### repeated -/
theorem BE.mono {t : TT} {b : Bool} {σ : St} {H1 H2 : Hp} (h : BE t b σ H1) (s : Same H1 H2) : BE t b σ H2 := fun H3 s3 => h H3 (s.trans s3)
theorem be_zero {u : TE} {i : Int} {σ : St} {H1 : Hp} (h : VE u (.int i) σ H1) : BE (tTest (tOp rEq u (tC (.int 0)))) (decide (i = 0)) σ H1 := be_int h ve_int
theorem be_notN {u : TE} {v : V} {σ : St} {H1 : Hp} (h : VE u v σ H1) : BE (tTest (tOp (fun x y H Q => y = .non ∧ Q (.bl (!decide (x = .non))) H) u (tC .non))) (!decide (v = .non)) σ H1 := fun H2 s Q k => h H2 s _ ⟨rfl, _, rfl, k H2 (Same.refl _)⟩
theorem be_isN {u : TE} {v : V} {σ : St} {H1 : Hp} (h : VE u v σ H1) : BE (tTest (tOp (fun x y H Q => y = .non ∧ Q (.bl (decide (x = .non))) H) u (tC .non))) (decide (v = .non)) σ H1 := fun H2 s Q k => h H2 s _ ⟨rfl, _, rfl, k H2 (Same.refl _)⟩
def spRp (C : Addr) (ok : RwD → Prop) : Sp := fun vs H Q _ => ∃ (v : V) (r : RwD) (n : Nat), vs = [v, nV n] ∧ RwAt C H r v ∧ good r ∧ ok r ∧ ext r * n ≤ 100000 ∧ ext r ≤ 100000 ∧ n ≤ 100000 ∧ ∀ v' H', Same H H' → RwAt C H' (repR r n) v' → Q v' H'
theorem sc_repeated : FnScope ["row", "times"] ["row", "times"] (defScope (top 4)) := ⟨rfl, rfl, rfl, by decide +kernel, rfl, by decide +kernel, by decide +kernel⟩
def spNv : Sp := fun _ _ _ _ => False
theorem ok_repeated0 {k : Nat} {ok ok' : RwD → Prop} {f : Addr} {fd : FuncData} (F : Fun K "repeated" "repeated" (top 4) f fd) (T : NoR K C) (MR : Mkr P w K mg base CX0 1 "Row" C rwP (spRwI C)) (CLf : Cal P w K mg base CX0 3 "leaf_row" ["entries"] (spLf C)) (hk : 3 ≤ k)
    (CRp : Cal P w K mg base CX0 k "repeated" ["row", "times"] (spRp C ok')) (hok : ∀ b n, ok (.rep b n) → good (.rep b n) → ok' b) : FnOk P w K mg base CX0 (k + 1) f fd ["row", "times"] (spRp C ok) := by
  refine F.ok sc_repeated (fun vs H Q E h => ?_) (fun cdv A outer s H vs Q E hr h => ?_)
  · obtain ⟨v, r, n, rfl, _⟩ := h
    rfl
  · obtain ⟨v, r, n, rfl, hv, g, ho, few, fe, fn, k⟩ := h
    refine ⟨_, (pss_cons (ps_if (PW.pt (pw_or (pt_cmpR op_eq (pv 1) pe_int (nomark _)) (pw_or1 (pt_cmpR op_eq (pe_fld (pv 0) rfl) pe_int (nomark _))))) (pss_one (ps_ret (pe_cal CLf hr (by omega) pass0 (pa_cons (pe_tup pa_nil) pa_nil)))) pss_nil)
      (pss_cons (ps_if (pt_cmpR op_eq (pv 1) pe_int (nomark _)) (pss_one (ps_ret (pv 0))) pss_nil)
      (pss_cons (ps_if (pt_cmpR op_notN (pe_fld (pv 0) rfl) pe_non (nomark _)) (pss_one (ps_ret (pe_cal CRp hr (by omega) pass0 (pa_cons (pe_fld (pv 0) rfl) (pa_cons (pe_op op_mul (pe_fld (pv 0) rfl) (pv 1)) pa_nil))))) pss_nil)
      (pss_one (ps_ret (pe_mkr MR hr (by omega) pass0 (pa_cons pe_non (pa_cons (pv 0) (pa_cons (pv 1) (pa_cons (pe_tup pa_nil) (pa_cons (pe_tup pa_nil) (pa_cons (pe_op op_mul (pe_fld (pv 0) rfl) (pv 1)) pa_nil)))))))))))), ?_⟩
    obtain ⟨a, dx, fs, l, b, p, q, vs, ti, rfl, ha, fl, hp, hb, hl, hc, _, hrep, _⟩ := hv.flds
    have ve := ins_lk (σ := [some (.ref a), some (nV n)]) (s := 0) rfl ha T.cl T.n6 fl.extent
    have vb := ins_lk (σ := [some (.ref a), some (nV n)]) (s := 0) rfl ha T.cl T.n2 fl.base
    have vn : VE (tVar 1) (nV n) [some (.ref a), some (nV n)] H := ve_var rfl
    refine if_be (be_or (be_zero vn) fun _ => be_zero ve) fun H3 s3 => ⟨fun e => ?_, fun e => ?_⟩
    · refine ⟨Nat.zero_le _, fun t nt => ⟨t, [], [], rfl, .inr upd_same, .nil, Nat.zero_le _, fun v' H' s' h' => k v' H' (s3.trans ((same_new (Same.refl _) nt).trans s')) ?_⟩⟩
      unfold repR
      rw [if_pos ?_]
      · exact h'
      · rw [Bool.or_eq_true] at e
        rcases e with e | e
        · have := of_decide_eq_true e
          exact .inl (by omega)
        · have := of_decide_eq_true e
          exact .inr (by omega)
    · rw [Bool.or_eq_false_iff] at e
      have e1 := of_decide_eq_false e.1
      have e2 := of_decide_eq_false e.2
      refine if_be (BE.mono (be_int vn ve_int) s3) fun H4 s4 => ⟨fun e => ?_, fun e => ?_⟩
      · have e3 : n = 1 := by have := of_decide_eq_true e; omega
        refine ⟨_, rfl, k _ H4 (s3.trans s4) ?_⟩
        unfold repR
        rw [if_neg (by omega), if_pos e3]
        exact hv.mono (s3.trans s4)
      · have e3 : n ≠ 1 := by
          have := of_decide_eq_false e
          intro z
          subst z
          exact this rfl
        have s5 := s3.trans s4
        refine if_be (BE.mono (be_notN vb) s5) fun H5 s6 => ⟨fun e => ?_, fun e => ?_⟩
        · have bn : b ≠ .non := by
            rw [Bool.not_eq_true'] at e
            exact of_decide_eq_false e
          have s7 := s5.trans s6
          cases r with
          | leaf es => exact (bn (hb rfl)).elim
          | cat ps => exact (bn (hb rfl)).elim
          | rep b0 m =>
            obtain ⟨rfl, _, hb0⟩ := hrep b0 m rfl
            have g' := g
            rw [good] at g'
            obtain ⟨g1, g2, g3, g4⟩ := g'
            refine ⟨_, rfl, a, C, dx, fs, b, rfl, s7 _ _ ha, T.cl, T.n2, fl.base, ?_⟩
            have fits : ext b0 * (m * n) ≤ 100000 := by
              have e : ext (.rep b0 m) = m * ext b0 := rpt_len
              rw [e] at few
              rw [← Nat.mul_assoc, Nat.mul_comm (ext b0) m]
              exact few
            have mn : m * n ≤ ext b0 * (m * n) := Nat.le_mul_of_pos_left _ g2
            have e0 : ext b0 ≤ ext b0 * (m * n) := Nat.le_mul_of_pos_right _ (Nat.mul_pos (by omega) (by omega))
            refine ⟨_, rfl, a, C, dx, fs, _, rfl, s7 _ _ ha, T.cl, T.n3, fl.times, _, rfl, (m : Nat), (n : Nat), rfl, rfl, .inl ⟨by omega, ?_⟩, b, b0, m * n, ?_, hb0.mono s7, g4, hok b0 m ho g, fits, by omega, by omega, fun v' H' s' h' => k v' H' (s7.trans s') ?_⟩
            · have : m ≤ m * n := Nat.le_mul_of_pos_right _ (by omega)
              omega
            · show [b, V.int ((m : Int) * (n : Int))] = [b, V.int ((m * n : Nat) : Int)]
              rw [Int.natCast_mul]
            · have z1 : repR b0 (m * n) = .rep b0 (m * n) := by
                unfold repR
                have : 2 ≤ m * n := Nat.le_trans g1 (Nat.le_mul_of_pos_right _ (by omega))
                rw [if_neg (by omega), if_neg (by omega)]
                cases b0 with
                | rep b1 m1 => cases g3
                | _ => rfl
              have z2 : repR (.rep b0 m) n = .rep b0 (m * n) := by
                unfold repR
                rw [if_neg (by omega), if_neg e3]
              rw [z2, ← z1]
              exact h'
        · have bn : b = .non := by
            rw [Bool.not_eq_false'] at e
            exact of_decide_eq_true e
          have s7 := s5.trans s6
          refine ⟨_, rfl, _, rfl, Nat.zero_le _, fun t1 n1 => ⟨Nat.zero_le _, fun t2 n2 => ?_⟩⟩
          have u1 := same_new (o := .tup []) (Same.refl H5) n1
          have u2 := same_new (o := .tup []) u1 n2
          refine ⟨_, rfl, a, C, dx, fs, _, rfl, u2 _ _ (s7 _ _ ha), T.cl, T.n6, fl.extent, _, rfl, (ext r : Nat), (n : Nat), rfl, rfl, .inl ⟨by omega, by omega⟩, ?_⟩
          refine mk_rd fun x dx' H6 s8 hx => k _ _ ((s7.trans u2).trans s8) ?_
          have nr : isRep r = false := by
            cases r with
            | rep b0 m => exact ((hrep b0 m rfl).2.1 bn).elim
            | _ => rfl
          have z2 : repR r n = .rep r n := by
            unfold repR
            rw [if_neg (by omega), if_neg e3]
            cases r with
            | rep b1 m1 => cases nr
            | _ => rfl
          rw [z2, RwAt]
          refine ⟨x, dx', _, t1, t2, _, rfl, hx, ?_, hv.mono ((s7.trans u2).trans s8), s8 _ _ ?_, s8 _ _ upd_same⟩
          · have e : ((ext (.rep r n) : Nat) : Int) = (ext r : Nat) * (n : Nat) := by
              have : ext (.rep r n) = n * ext r := rpt_len
              rw [this, Nat.mul_comm, Int.natCast_mul]
            rw [e]
            exact rwF_fl _ _ _ _ _ _
          · rw [upd_ne (ne_of_none upd_same n2)]
            exact upd_same
theorem fn_vac {k : Nat} {f : Addr} {fd : FuncData} {ps : List Str} {sp : Sp} (h : ∀ vs H Q E, ¬ sp vs H Q E) : FnOk P w K mg base CX0 k f fd ps sp :=
  ⟨fun vs H Q E z => (h _ _ _ _ z).elim, fun _ _ _ _ _ _ _ _ _ _ _ _ _ z => (h _ _ _ _ z).elim⟩
theorem ok_repeated {f : Addr} {fd : FuncData} (F : Fun K "repeated" "repeated" (top 4) f fd) (T : NoR K C) (MR : Mkr P w K mg base CX0 1 "Row" C rwP (spRwI C)) (CLf : Cal P w K mg base CX0 3 "leaf_row" ["entries"] (spLf C))
    (g : mg "repeated" = some (.ref f)) (bd : Binds K fd ["row", "times"] []) : FnOk P w K mg base CX0 5 f fd ["row", "times"] (spRp C fun _ => True) := by
  have c0 : Cal P w K mg base CX0 3 "repeated" ["row", "times"] (spRp C fun _ => False) := ⟨f, fd, fn_vac (fun vs H Q E z => by
    obtain ⟨_, _, _, _, _, _, z, _⟩ := z
    exact z), g, F.kp, bd⟩
  have f1 := ok_repeated0 (ok := fun r => isRep r = false) F T MR CLf (Nat.le_refl 3) c0 (fun b n z => by cases z)
  have c1 : Cal P w K mg base CX0 4 "repeated" ["row", "times"] (spRp C fun r => isRep r = false) := ⟨f, fd, f1, g, F.kp, bd⟩
  exact ok_repeated0 (ok := fun _ => True) F T MR CLf (by decide) c1 (fun b n _ g => by rw [good] at g; exact g.2.2.1)
/-! ### parts_of, begins_of -/
def spPo (C : Addr) : Sp := fun vs H Q _ => ∃ (v : V) (r : RwD), vs = [v] ∧ RwAt C H r v ∧ good r ∧ ∀ t us H', Same H H' → H' t = some (.tup us) → RwsAt C H' (partsOf r) us → Q (.ref t) H'
def spBo (C : Addr) : Sp := fun vs H Q _ => ∃ (v : V) (r : RwD), vs = [v] ∧ RwAt C H r v ∧ good r ∧ ∀ t H', Same H H' → H' t = some (.tup ((begs 0 (partsOf r)).map nV)) → Q (.ref t) H'
theorem cat_ne {r : RwD} {H : Hp} {vs : List V} (g : good r) (hc : isCat r = false → vs = []) (hcat : ∀ ps, r = .cat ps → RwsAt C H ps vs) : (!vs.isEmpty) = isCat r := by
  cases r with
  | cat ps =>
    have := (hcat ps rfl).len
    rw [good] at g
    cases vs with
    | nil => rw [List.length_nil] at this; omega
    | cons v vs => rfl
  | leaf es => rw [hc rfl]; rfl
  | rep b n => rw [hc rfl]; rfl
theorem sc_parts_of : FnScope ["row"] ["row"] (defScope (top 5)) := ⟨rfl, rfl, rfl, by decide +kernel, rfl, by decide +kernel, by decide +kernel⟩
theorem ok_parts_of {f : Addr} {fd : FuncData} (F : Fun K "parts_of" "parts_of" (top 5) f fd) (T : NoR K C) : FnOk P w K mg base CX0 1 f fd ["row"] (spPo C) := by
  refine F.ok sc_parts_of (fun vs H Q E h => ?_) (fun cdv A outer s H vs Q E hr h => ?_)
  · obtain ⟨v, r, rfl, _⟩ := h
    rfl
  · obtain ⟨v, r, rfl, hv, g, k⟩ := h
    refine ⟨_, (pss_one (ps_ret (pe_ifExp (pt_truth (pe_fld (pv 0) rfl) (fun _ => rfl)) (pe_fld (pv 0) rfl) (pe_tup (pa_cons (pv 0) pa_nil))))), ?_⟩
    obtain ⟨a, dx, fs, l, b, p, q, vs, ti, rfl, ha, fl, hp, hb, hl, hc, _, hrep, hcat⟩ := hv.flds
    have e := cat_ne g hc fun ps z => (hcat ps z).1
    refine ⟨_, rfl, a, C, dx, fs, _, rfl, ha, T.cl, T.n4, fl.parts, _, .inr (.inl ⟨vs, SqT.of hp, rfl⟩), ?_⟩
    rw [e]
    cases hk : isCat r with
    | true =>
      rw [if_pos rfl]
      refine ⟨_, rfl, a, C, dx, fs, _, rfl, ha, T.cl, T.n4, fl.parts, k p vs H (Same.refl _) hp ?_⟩
      cases r with
      | cat ps => exact (hcat ps rfl).1
      | _ => cases hk
    | false =>
      rw [if_neg Bool.false_ne_true]
      refine ⟨_, rfl, ?_⟩
      refine ⟨by show 1 ≤ sizeLine; decide, fun t nt => k t _ _ (same_new (Same.refl _) nt) upd_same ?_⟩
      have z := hv.mono (same_new (o := .tup [.ref a]) (Same.refl _) nt)
      cases r with
      | cat ps => cases hk
      | leaf es =>
        show RwsAt C _ [_] _
        rw [RwsAt]
        exact ⟨_, [], rfl, z, by rw [RwsAt]⟩
      | rep b n =>
        show RwsAt C _ [_] _
        rw [RwsAt]
        exact ⟨_, [], rfl, z, by rw [RwsAt]⟩
theorem sc_begins_of : FnScope ["row"] ["row"] (defScope (top 6)) := ⟨rfl, rfl, rfl, by decide +kernel, rfl, by decide +kernel, by decide +kernel⟩
theorem ok_begins_of {f : Addr} {fd : FuncData} (F : Fun K "begins_of" "begins_of" (top 6) f fd) (T : NoR K C) : FnOk P w K mg base CX0 1 f fd ["row"] (spBo C) := by
  refine F.ok sc_begins_of (fun vs H Q E h => ?_) (fun cdv A outer s H vs Q E hr h => ?_)
  · obtain ⟨v, r, rfl, _⟩ := h
    rfl
  · obtain ⟨v, r, rfl, hv, g, k⟩ := h
    refine ⟨_, (pss_one (ps_ret (pe_ifExp (pt_truth (pe_fld (pv 0) rfl) (fun _ => rfl)) (pe_fld (pv 0) rfl) (pe_tup (pa_cons pe_int pa_nil))))), ?_⟩
    obtain ⟨a, dx, fs, l, b, p, q, vs, ti, rfl, ha, fl, hp, hb, hl, hc, _, hrep, hcat⟩ := hv.flds
    have e := cat_ne g hc fun ps z => (hcat ps z).1
    refine ⟨_, rfl, a, C, dx, fs, _, rfl, ha, T.cl, T.n4, fl.parts, _, .inr (.inl ⟨vs, SqT.of hp, rfl⟩), ?_⟩
    rw [e]
    cases hk : isCat r with
    | true =>
      rw [if_pos rfl]
      refine ⟨_, rfl, a, C, dx, fs, _, rfl, ha, T.cl, T.n5, fl.begins, k q H (Same.refl _) ?_⟩
      cases r with
      | cat ps => exact (hcat ps rfl).2
      | _ => cases hk
    | false =>
      rw [if_neg Bool.false_ne_true]
      refine ⟨by show 1 ≤ sizeLine; decide, fun t nt => k t _ (same_new (Same.refl _) nt) ?_⟩
      rw [upd_same]
      cases r with
      | cat ps => cases hk
      | leaf es => rfl
      | rep b n => rfl
end

end K1

set_option Elab.async false
set_option linter.all false
set_option maxRecDepth 100000
set_option maxHeartbeats 4000000
namespace K1
open PySem L2 W1
/-- a field of a row in a slot -/
structure RwS (K : PySem.W.Frag) (C : Addr) (σ : St) (i : Nat) (r : RwD) (H : Hp) : Prop where
  ex : ∃ v, σ[i]? = some (some v) ∧ RwAt C H r v
theorem ve_ext {K : PySem.W.Frag} {C : Addr} {σ : St} {i : Nat} {r : RwD} {H : Hp} {v : V} (T : NoR K C) (e : σ[i]? = some (some v)) (h : RwAt C H r v) : VE (tFld K (tVar i) "extent") (nV (ext r)) σ H := by
  obtain ⟨a, dx, fs, l, b, p, q, vs, ti, rfl, ha, fl, _⟩ := h.flds
  exact ins_lk e ha T.cl T.n6 fl.extent
theorem be_nil {K : PySem.W.Frag} {C : Addr} {σ : St} {i : Nat} {r : RwD} {H : Hp} {v : V} (T : NoR K C) (e : σ[i]? = some (some v)) (h : RwAt C H r v) : BE (tTest (tOp rEq (tFld K (tVar i) "extent") (tC (.int 0)))) (decide (((ext r : Nat) : Int) = 0)) σ H := be_zero (ve_ext T e h)
section
variable {P : Program} {w : World} {K : PySem.W.Frag} {mg : Str → Option Value} {base : Heap} {C : Addr}
/-! ### joined -/
def spJn (C : Addr) : Sp := fun vs H Q _ => ∃ (v u : V) (r t : RwD), vs = [v, u] ∧ RwAt C H r v ∧ RwAt C H t u ∧ good r ∧ good t ∧ ext r + ext t ≤ 100000 ∧ ∀ v' H', Same H H' → RwAt C H' (joinR r t) v' → Q v' H'
theorem parts_few {r : RwD} (g : good r) (h : 1 ≤ ext r) : (partsOf r).length ≤ ext r := by
  have := goods_len (goods_parts g h)
  unfold exts at this
  rw [den_parts] at this
  exact this
theorem nV_add (a b : Nat) : V.int (((a : Nat) : Int) + ((b : Nat) : Int)) = nV (a + b) := by
  unfold nV
  rw [Int.natCast_add]
theorem sc_joined : FnScope ["one", "other", "begin", "begins"] ["one", "other"] (defScope (top 7)) := ⟨rfl, rfl, rfl, by decide +kernel, rfl, by decide +kernel, by decide +kernel⟩
theorem ok_joined {f : Addr} {fd : FuncData} (F : Fun K "joined" "joined" (top 7) f fd) (B : Bl2 mg) (T : NoR K C) (MR : Mkr P w K mg base CX0 1 "Row" C rwP (spRwI C)) (CPo : Cal P w K mg base CX0 1 "parts_of" ["row"] (spPo C)) (CBo : Cal P w K mg base CX0 1 "begins_of" ["row"] (spBo C)) : FnOk P w K mg base CX0 3 f fd ["one", "other"] (spJn C) := by
  refine F.ok sc_joined (fun vs H Q E h => ?_) (fun cdv A outer s H vs Q E hr h => ?_)
  · obtain ⟨v, u, r, t, rfl, _⟩ := h
    rfl
  · obtain ⟨v, u, r, t, rfl, hv, hu, g, g', few, k⟩ := h
    refine ⟨_, (pss_cons (ps_if (pt_cmpR op_eq (pe_fld (pv 0) rfl) pe_int (nomark _)) (pss_one (ps_ret (pv 1))) pss_nil)
      (pss_cons (ps_if (pt_cmpR op_eq (pe_fld (pv 1) rfl) pe_int (nomark _)) (pss_one (ps_ret (pv 0))) pss_nil)
      (pss_cons (ps_set (i := 3) sc_joined.nd rfl (Or.inl rfl) (pe_op op_catA (pe_cal CBo hr (by omega) pass0 (pa_cons (pv 0) pa_nil)) (pe_callTy (r := rTof K) call_tuple_of rfl B.tuple PyProof.Rows.boot_tuple (pa_cons (pe_lc (own := [("begin", 2)]) (g := gName 2) (te := tOp (rI0 fun i j => V.int (i + j)) (tFld K (tVar 0) "extent") (tVar 2)) (tt := tYes) rfl sc_joined.nd (pi_tup (pe_cal CBo hr (by decide) pass0 (pa_cons (pv 1) pa_nil))) (blkOk_by (N := ["one", "other", "begin", "begins"]) (sc := defScope (top 7)) (by decide +kernel)) (fun _ _ _ _ _ => pg_name (i := 2) sc_joined.nd rfl (Or.inl rfl)) (fun _ _ _ _ _ => pts_nil) (fun _ _ _ _ _ => pe_op op_add (pe_fld (pv 0) rfl) (pv 2))) pa_nil))))
      (pss_one (ps_ret (pe_mkr MR hr (by omega) pass0 (pa_cons pe_non (pa_cons pe_non (pa_cons pe_int (pa_cons (pe_op op_catA (pe_cal CPo hr (by omega) pass0 (pa_cons (pv 0) pa_nil)) (pe_cal CPo hr (by omega) pass0 (pa_cons (pv 1) pa_nil))) (pa_cons (pv 3) (pa_cons (pe_op op_add (pe_fld (pv 0) rfl) (pe_fld (pv 1) rfl)) pa_nil)))))))))))), ?_⟩
    have big : 100000 ≤ sizeLine := by decide
    refine if_be (be_nil T (i := 0) rfl hv) fun H3 s3 => ⟨fun e => ?_, fun e => ?_⟩
    · have e := of_decide_eq_true e
      refine ⟨_, rfl, k _ H3 s3 ?_⟩
      unfold joinR
      rw [if_pos (by omega)]
      exact hu.mono s3
    have e := of_decide_eq_false e
    refine if_be (be_nil T (i := 1) rfl (hu.mono s3)) fun H4 s4 => ⟨fun e => ?_, fun e => ?_⟩
    · have e := of_decide_eq_true e
      refine ⟨_, rfl, k _ H4 (s3.trans s4) ?_⟩
      unfold joinR
      rw [if_neg (by omega), if_pos (by omega)]
      exact hv.mono (s3.trans s4)
    have e' := of_decide_eq_false e
    have s5 := s3.trans s4
    have p1 := parts_few g (by omega)
    have p2 := parts_few g' (by omega)
    have n1 := parts_pos g
    have n2 := parts_pos g'
    refine ⟨_, rfl, v, r, rfl, hv.mono s5, g, fun t1 H5 s6 h1 => ?_⟩
    have s7 := s5.trans s6
    refine ⟨_, rfl, u, t, rfl, hu.mono s7, g', fun t2 H6 s8 h2 => ?_⟩
    have s9 := s7.trans s8
    refine ⟨t2, rfl, ⟨_, SqT.of h2⟩, fun L nL => ?_⟩
    have sL := same_new (o := .lst []) (Same.refl H6) nL
    refine lc_tup (fun i H' => Same H6 H' ∧ H' L = some (.lst (((begs 0 (partsOf t)).take i).map fun b => nV (ext r + b)))) ⟨sL, by rw [upd_same]; rfl⟩ (fun i H' _ z => SqT.of (z.1 _ _ h2)) (fun i x H' hx z => ?_) (fun H' z => ?_)
    · rw [List.getElem?_map] at hx
      obtain ⟨b, hb, rfl⟩ := Option.map_eq_some_iff.mp hx
      refine ⟨rfl, ?_⟩
      obtain ⟨a, dx, fs, _, _, _, _, _, _, rfl, ha, fl, _⟩ := (hv.mono (s9.trans z.1)).flds
      refine ⟨_, rfl, a, C, dx, fs, _, rfl, ha, T.cl, T.n6, fl.extent, _, rfl, (ext r : Nat), (b : Nat), rfl, rfl, _, z.2, ?_, ?_⟩
      · rw [List.length_map, List.length_take, begs_len]
        omega
      · refine ⟨?_, ?_⟩
        · exact same_updL z.1 nL
        · rw [upd_same, List.take_add_one, hb, List.map_append]
          show some (HO.lst (_ ++ [V.int (((ext r : Nat) : Int) + ((b : Nat) : Int))])) = _
          rw [nV_add]
          rfl
    · obtain ⟨z1, z2⟩ := z
      have ef : ((begs 0 (partsOf t)).map nV).length = (partsOf t).length := by rw [List.length_map, begs_len]
      rw [ef, ← begs_len 0 (partsOf t), List.take_length] at z2
      refine ⟨L, _, rfl, .inl ⟨SqL.of z2, fun t3 n3 => ?_⟩⟩
      have s10 := same_new (o := .tup ((begs 0 (partsOf t)).map fun b => nV (ext r + b))) z1 n3
      have c1 : ((begs 0 (partsOf r)).map nV) ≠ [] := fun z => by
        have := congrArg List.length z
        rw [List.length_map, begs_len, List.length_nil] at this
        omega
      have c2 : ((begs 0 (partsOf t)).map fun b => nV (ext r + b)) ≠ [] := fun z => by
        have := congrArg List.length z
        rw [List.length_map, begs_len, List.length_nil] at this
        omega
      refine ⟨t1, t3, _, _, rfl, rfl, SqT.of (s10 _ _ (s8 _ _ h1)), SqT.of upd_same, ?_, fun z => (c1 z).elim, fun _ z => (c2 z).elim, fun _ _ t4 n4 => ?_⟩
      · rw [List.length_map, List.length_map, begs_len, begs_len]
        omega
      have s11 := same_new (o := .tup (((begs 0 (partsOf r)).map nV) ++ ((begs 0 (partsOf t)).map fun b => nV (ext r + b)))) s10 n4
      have s12 := s9.trans s11
      refine ⟨_, rfl, v, r, rfl, hv.mono s12, g, fun t5 us H7 s13 h5 r5 => ?_⟩
      refine ⟨_, rfl, u, t, rfl, hu.mono (s12.trans s13), g', fun t6 ws H8 s14 h6 r6 => ?_⟩
      have l5 := r5.len
      have l6 := r6.len
      refine ⟨t5, t6, us, ws, rfl, rfl, SqT.of (s14 _ _ h5), SqT.of h6, by omega, fun z => by rw [z, List.length_nil] at l5; omega, fun _ z => by rw [z, List.length_nil] at l6; omega, fun _ _ t7 n7 => ?_⟩
      have s15 := same_new (o := .tup (us ++ ws)) (Same.refl H8) n7
      have s16 := (s12.trans (s13.trans s14)).trans s15
      obtain ⟨a, dx, fs, _, _, _, _, _, _, ea, ha, fl, _⟩ := (hv.mono s16).flds
      obtain ⟨a', dx', fs', _, _, _, _, _, _, ea', ha', fl', _⟩ := (hu.mono s16).flds
      refine ⟨_, rfl, _, rfl, a, C, dx, fs, _, ea, ha, T.cl, T.n6, fl.extent, _, rfl, a', C, dx', fs', _, ea', ha', T.cl, T.n6, fl'.extent, (ext r : Nat), (ext t : Nat), rfl, rfl, ?_⟩
      refine mk_rd fun x dx H9 s17 hx => k _ _ (s16.trans s17) ?_
      unfold joinR
      rw [if_neg (by omega), if_neg (by omega), RwAt]
      refine ⟨x, dx, _, t7, t4, us ++ ws, rfl, hx, ?_, s17 _ _ upd_same, (((r5.mono s14).app r6).mono s15).mono s17, ?_⟩
      · have e : ((exts (partsOf r ++ partsOf t) : Nat) : Int) = (ext r : Nat) + (ext t : Nat) := by
          rw [exts_app, Int.natCast_add]
          unfold exts
          rw [den_parts, den_parts]
          rfl
        rw [e]
        exact rwF_fl _ _ _ _ _ _
      · refine s17 _ _ (s15 _ _ (s14 _ _ (s13 _ _ ?_)))
        rw [upd_same, begs_app, List.map_append, Nat.zero_add]
        have : begs (exts (partsOf r)) (partsOf t) = (begs 0 (partsOf t)).map (ext r + ·) := by
          have := begs_shift (ext r) 0 (partsOf t)
          rw [Nat.add_zero] at this
          rw [← this]
          unfold exts
          rw [den_parts]
          rfl
        rw [this, List.map_map]
        rfl
end

end K1

set_option Elab.async false
set_option linter.all false
set_option maxRecDepth 100000
set_option maxHeartbeats 4000000
namespace K1
open PySem L2 W1
/-! ### while by a measure, the test's answer known -/
theorem while_be {c : TT} {tb : TS} {D : Ends} {σ : St} {H : Hp} (Pv : Nat → St → Hp → Prop) (m0 : Nat) (h0 : Pv m0 σ H)
    (hs : ∀ m σ H, Pv m σ H → ∃ b, BE c b σ H ∧ (b = true → ∀ H3, Same H H3 → tb { D with nx := fun σ' H' => ∃ m', m' < m ∧ Pv m' σ' H', ct := fun σ' H' => ∃ m', m' < m ∧ Pv m' σ' H', bk := D.nx } σ H3) ∧ (b = false → ∀ H3, Same H H3 → D.nx σ H3)) : tWhile c tb D σ H := by
  refine ⟨Pv, ⟨m0, h0⟩, fun m σ H p => ?_⟩
  obtain ⟨b, hb, ht, hf⟩ := hs m σ H p
  refine hb H (Same.refl _) _ fun H3 s3 => ?_
  cases b with
  | true => exact ⟨fun σ' H' => ∃ m', m' < m ∧ Pv m' σ' H', fun _ _ z => z, ht rfl H3 s3⟩
  | false => exact hf rfl H3 s3
theorem ve_fdiv {σ : St} {H1 : Hp} {t u : TE} {i j : Int} (h : VE t (.int i) σ H1) (r : VE u (.int j) σ H1) (p : CDiv i j) : VE (tOp (rI CDiv fun i j => V.int (i / j)) t u) (.int (i / j)) σ H1 := fun H2 s Q q => h H2 s _ (r H2 s _ ⟨i, j, rfl, rfl, p, q⟩)
theorem ve_mul {σ : St} {H1 : Hp} {t u : TE} {i j : Int} (h : VE t (.int i) σ H1) (r : VE u (.int j) σ H1) (p : CMul i j) : VE (tOp (rI CMul fun i j => V.int (i * j)) t u) (.int (i * j)) σ H1 := fun H2 s Q q => h H2 s _ (r H2 s _ ⟨i, j, rfl, rfl, p, q⟩)
theorem VE.to {σ : St} {H1 : Hp} {t : TE} {i : Int} {n : Nat} (h : VE t (.int i) σ H1) (e : i = (n : Nat)) : VE t (nV n) σ H1 := by
  subst e
  exact h
theorem ve_ixT {K : PySem.W.Frag} {σ : St} {H1 : Hp} {t u : TE} {q : Addr} {xs : List V} {n : Nat} {v : V} (h : VE t (.ref q) σ H1) (hq : H1 q = some (.tup xs)) (r : VE u (nV n) σ H1) (e : xs[n]? = some v) : VE (tOp (rIxT K) t u) v σ H1 :=
  fun H2 s Q k => h H2 s _ (r H2 s _ ⟨q, xs, _, v, rfl, rfl, SqT.of (s _ _ hq), atI_nat e, k⟩)
theorem ve_ixL {K : PySem.W.Frag} {σ : St} {H1 : Hp} {t u : TE} {q : Addr} {xs : List V} {n : Nat} {v : V} (h : VE t (.ref q) σ H1) (hq : H1 q = some (.lst xs)) (r : VE u (nV n) σ H1) (e : xs[n]? = some v) : VE (tOp (rIxL K) t u) v σ H1 :=
  fun H2 s Q k => h H2 s _ (r H2 s _ ⟨q, xs, _, v, rfl, rfl, SqL.of (s _ _ hq), atI_nat e, k⟩)
theorem be_true {σ : St} {H : Hp} : BE (tB (tC (.bl true))) true σ H := fun H2 s Q k => ⟨true, rfl, k H2 (Same.refl _)⟩
section
variable {P : Program} {w : World} {K : PySem.W.Frag} {mg : Str → Option Value} {base : Heap} {C : Addr}
theorem ins_fld {H : Hp} {r : RwD} {v : V} (h : RwAt C H r v) : ∃ a, v = .ref a := by
  obtain ⟨a, _, _, _, _, _, _, _, _, e, _⟩ := h.flds
  exact ⟨a, e⟩
/-! ### part_index -/
def spPi (C : Addr) : Sp := fun vs H Q _ => ∃ (v : V) (ps : List RwD) (at_ : Nat), vs = [v, nV at_] ∧ RwAt C H (.cat ps) v ∧ 1 ≤ ps.length ∧ ps.length ≤ 100000 ∧
  ∀ i, i < ps.length → exts (ps.take i) ≤ at_ → (i + 1 < ps.length → at_ < exts (ps.take (i + 1))) → ∀ H', Same H H' → Q (nV i) H'
theorem sc_part_index : FnScope ["row", "at", "low", "high", "middle"] ["row", "at"] (defScope (top 8)) := ⟨rfl, rfl, rfl, by decide +kernel, rfl, by decide +kernel, by decide +kernel⟩
theorem ok_part_index {f : Addr} {fd : FuncData} (F : Fun K "part_index" "part_index" (top 8) f fd) (B : Bl2 mg) (T : NoR K C) : FnOk P w K mg base CX0 1 f fd ["row", "at"] (spPi C) := by
  refine F.ok sc_part_index (fun vs H Q E h => ?_) (fun cdv A outer s H vs Q E hr h => ?_)
  · obtain ⟨v, ps, at_, rfl, _⟩ := h
    rfl
  · obtain ⟨v, ps, at_, rfl, hv, n1, n2, k⟩ := h
    refine ⟨_, (pss_cons (ps_set (i := 2) sc_part_index.nd rfl (Or.inl rfl) pe_int)
      (pss_cons (ps_set (i := 3) sc_part_index.nd rfl (Or.inl rfl) (pe_op op_sub (pe_callB call_len_seq rfl B.len PySem.boot_len (pa_cons (pe_fld (pv 0) rfl) pa_nil)) pe_int))
      (pss_cons (ps_while PassesOwn.never (pt_cmpR op_lt (pv 2) (pv 3) (nomark _))
        (pss_cons (ps_set (i := 4) sc_part_index.nd rfl (Or.inl rfl) (pe_op op_fdiv (pe_op op_add (pe_op op_add (pv 2) (pv 3)) pe_int) pe_int))
      (pss_one (ps_if (pt_cmpR op_le (pe_ix ix_tup (pe_fld (pv 0) rfl) (pv 4) (fun _ _ => rfl)) (pv 1) (nomark _)) (pss_one (ps_set (i := 2) sc_part_index.nd rfl (Or.inl rfl) (pv 4))) (pss_one (ps_set (i := 3) sc_part_index.nd rfl (Or.inl rfl) (pe_op op_sub (pv 4) pe_int)))))))
      (pss_one (ps_ret (pv 2)))))), ?_⟩
    obtain ⟨a, dx, fs, l, b, p, q, vs, ti, rfl, ha, fl, hp, hb, hl, hc, _, hrep, hcat⟩ := hv.flds
    obtain ⟨hs, hq⟩ := hcat ps rfl
    have lq : ((begs 0 ps).map nV).length = ps.length := by rw [List.length_map, begs_len]
    refine ⟨_, rfl, a, C, dx, fs, _, rfl, ha, T.cl, T.n5, fl.begins, q, _, rfl, .inr (SqT.of hq), _, _, rfl, rfl, ?_⟩
    refine while_be (fun m σ H' => ∃ (lo hi : Nat) (v4 : Option V), σ = [some (.ref a), some (nV at_), some (nV lo), some (nV hi), v4] ∧ Same H H' ∧ m = hi - lo ∧ lo ≤ hi ∧ hi < ps.length ∧ exts (ps.take lo) ≤ at_ ∧ (hi + 1 < ps.length → at_ < exts (ps.take (hi + 1)))) (ps.length - 1) ⟨0, ps.length - 1, none, ?_, Same.refl _, rfl, Nat.zero_le _, by omega, by rw [List.take_zero]; exact Nat.zero_le _, fun z => by omega⟩ ?_
    · rw [lq]
      show [some (V.ref a), some (nV at_), some (V.int 0), some (V.int (((ps.length : Nat) : Int) - 1)), none] = _
      have e : ((ps.length : Nat) : Int) - 1 = ((ps.length - 1 : Nat) : Int) := by omega
      rw [e]
      rfl
    rintro m σ H1 ⟨lo, hi, v4, rfl, s1, rfl, le, lt, l1, l2⟩
    refine ⟨_, be_lt (i := (lo : Nat)) (j := (hi : Nat)) (ve_var rfl) (ve_var rfl), fun e H3 s3 => ?_, fun e H3 s3 => ?_⟩
    · have e := of_decide_eq_true e
      have s2 := s1.trans s3
      obtain ⟨mid, hm⟩ : ∃ mid : Nat, mid = (lo + hi + 1) / 2 := ⟨_, rfl⟩
      have hm1 : lo < mid := by omega
      have hm2 : mid ≤ hi := by omega
      have em : (((lo : Nat) : Int) + ((hi : Nat) : Int) + 1) / 2 = ((mid : Nat) : Int) := by omega
      have hbm := begs_get 0 ps mid (by omega)
      rw [Nat.zero_add] at hbm
      refine set_v (s := 4) (VE.to (ve_fdiv (ve_add (ve_add (ve_var (v := nV lo) rfl) (ve_var (v := nV hi) rfl)) ve_int) ve_int ⟨by decide, by decide⟩) em) ?_
      have vb := ins_lk (σ := [some (.ref a), some (nV at_), some (nV lo), some (nV hi), some (nV mid)]) (s := 0) rfl (s2 _ _ ha) T.cl T.n5 fl.begins
      refine if_be (be_le (i := (exts (ps.take mid) : Nat)) (j := (at_ : Nat)) (ve_ixT vb (s2 _ _ hq) (ve_var rfl) (by rw [List.getElem?_map, hbm]; rfl)) (ve_var rfl)) fun H4 s4 => ⟨fun c => ?_, fun c => ?_⟩
      · have c := of_decide_eq_true c
        exact ⟨_, rfl, hi - mid, by omega, mid, hi, some (nV mid), rfl, s2.trans s4, rfl, hm2, lt, by omega, l2⟩
      · have c := of_decide_eq_false c
        refine set_v (s := 3) (VE.to (n := mid - 1) (ve_sub (ve_var (v := nV mid) rfl) ve_int) (by omega)) ?_
        refine ⟨mid - 1 - lo, by omega, lo, mid - 1, some (nV mid), rfl, s2.trans s4, rfl, by omega, by omega, l1, fun _ => ?_⟩
        rw [show mid - 1 + 1 = mid by omega]
        omega
    · have e := of_decide_eq_false e
      have : lo = hi := by omega
      subst this
      exact ⟨_, rfl, k lo lt l1 l2 H3 (s1.trans s3)⟩
end

end K1

set_option Elab.async false
set_option linter.all false
set_option maxRecDepth 100000
set_option maxHeartbeats 4000000
namespace K1
open PySem L2 W1
/-! ### stretches of repeated lists -/
section
variable {α : Type} {xs : List α}
theorem rpt_any {n m a b : Nat} (h1 : b ≤ n * xs.length) (h2 : b ≤ m * xs.length) : sl (rpt n xs) a b = sl (rpt m xs) a b := by
  rcases Nat.le_total n m with h | h
  · exact (rpt_app_left h1 h).symm
  · exact rpt_app_left h2 h
theorem cyc_one {N k a b : Nat} (hk : k < N) (h : k * xs.length ≤ a) (h2 : b ≤ k * xs.length + xs.length) : sl xs (a - k * xs.length) (b - k * xs.length) = sl (rpt N xs) a b := (rpt_in hk h h2).symm
theorem cyc_three {N k t r a b : Nat} (h : k * xs.length ≤ a) (h2 : a ≤ k * xs.length + xs.length) (hr : r ≤ xs.length) (hb : b = k * xs.length + xs.length + t * xs.length + r) (hN : k + 2 + t ≤ N) :
    sl xs (a - k * xs.length) xs.length ++ rpt t xs ++ sl xs 0 r = sl (rpt N xs) a b := by
  have e1 : sl xs (a - k * xs.length) xs.length = sl (rpt N xs) a ((k + 1) * xs.length) := by
    rw [rpt_in (k := k) (by omega) h (by rw [Nat.succ_mul]; exact Nat.le_refl _)]
    rw [Nat.succ_mul, Nat.add_sub_cancel_left]
  have e2 : rpt t xs = sl (rpt N xs) ((k + 1) * xs.length) ((k + 1 + t) * xs.length) := (rpt_whole (by omega)).symm
  have e4 : (k + 1 + t) * xs.length = k * xs.length + xs.length + t * xs.length := by rw [Nat.add_mul, Nat.add_mul, Nat.one_mul]
  have e3 : sl xs 0 r = sl (rpt N xs) ((k + 1 + t) * xs.length) b := by
    rw [rpt_in (k := k + 1 + t) (by omega) (Nat.le_refl _) (by omega), Nat.sub_self, hb, e4, Nat.add_sub_cancel_left]
  have e5 : (k + 1) * xs.length = k * xs.length + xs.length := Nat.succ_mul _ _
  have e6 : (k + 2 + t) * xs.length ≤ N * xs.length := Nat.mul_le_mul_right _ hN
  have e7 : (k + 2 + t) * xs.length = k * xs.length + 2 * xs.length + t * xs.length := by rw [Nat.add_mul, Nat.add_mul]
  rw [e1, e2, sl_app (by omega) (by omega) (by rw [rpt_len]; omega), e3, sl_app (by omega) (by omega) (by rw [rpt_len]; omega)]
theorem sl_mem {a b : Nat} {x : α} (h : x ∈ sl xs a b) : x ∈ xs := by
  unfold sl at h
  exact List.mem_of_mem_drop (List.mem_of_mem_take h)
theorem rpt_mem {n : Nat} {x : α} (h : x ∈ rpt n xs) : x ∈ xs := by
  induction n with
  | zero => cases h
  | succ n ih =>
    rw [rpt_succ, List.mem_append] at h
    exact h.elim id ih
end
theorem den_mem {ps : List RwD} {p : RwD} (m : p ∈ ps) {d : PyData} (h : d ∈ den p) : d ∈ dens ps := by
  induction ps with
  | nil => cases m
  | cons q ps ih =>
    rw [dens, List.mem_append]
    rcases List.mem_cons.mp m with rfl | m
    · exact .inl h
    · exact .inr (ih m)
theorem rep_mem {b : RwD} {n : Nat} (hn : 1 ≤ n) {d : PyData} (h : d ∈ den b) : d ∈ den (.rep b n) := by
  rw [den]
  obtain ⟨m, rfl⟩ := Nat.exists_eq_add_of_le hn
  rw [rpt_add, rpt_one]
  exact List.mem_append.mpr (.inl h)
theorem sl_nil {α : Type} {xs : List α} {a b : Nat} (h : b ≤ a) : sl xs a b = [] := by
  unfold sl
  rw [show b - a = 0 by omega, List.take_zero]
theorem cat_step {ps : List RwD} {i i0 j0 : Nat} {p : RwD} (h : ps[i]? = some p) (h1 : exts (ps.take i) ≤ j0) (h2 : i0 ≤ exts (ps.take (i + 1))) :
    sl (dens ps) i0 (min j0 (exts (ps.take i))) ++ sl (den p) (i0 - exts (ps.take i)) (min (j0 - exts (ps.take i)) (ext p)) = sl (dens ps) i0 (min j0 (exts (ps.take (i + 1)))) := by
  have e := exts_at h
  have l1 : exts (ps.take (i + 1)) ≤ (dens ps).length := by
    have := exts_mono (ps := ps) (show i + 1 ≤ max (i + 1) ps.length from Nat.le_max_left _ _)
    rw [List.take_of_length_le (i := max (i + 1) ps.length) (Nat.le_max_right _ _)] at this
    exact this
  rw [Nat.min_eq_right h1]
  by_cases c : i0 ≤ exts (ps.take i)
  · have z := cat_in (a := exts (ps.take i)) (b := min j0 (exts (ps.take (i + 1)))) h (Nat.le_refl _) (by omega)
    rw [show i0 - exts (ps.take i) = exts (ps.take i) - exts (ps.take i) by omega, show min (j0 - exts (ps.take i)) (ext p) = min j0 (exts (ps.take (i + 1))) - exts (ps.take i) by omega, ← z, sl_app c (by omega) (by omega)]
  · have z := cat_in (a := i0) (b := min j0 (exts (ps.take (i + 1)))) h (by omega) (by omega)
    rw [sl_nil (by omega), List.nil_append, show min (j0 - exts (ps.take i)) (ext p) = min j0 (exts (ps.take (i + 1))) - exts (ps.take i) by omega, ← z]
/-! ### entries -/
def oD : Option Str → PyData
  | none => .none
  | some z => .str z
def PairD (d : PyData) : Prop := ∃ (z : Str) (o : Option Str), d = .tuple [.str z, oD o] ∧ PyData.strOk z = true ∧ (oD o).canLay0 = true
def Ents (es : List PyData) : Prop := ∀ d ∈ es, PairD d
theorem at_upd {H : Hp} {v : V} {d : PyData} {p : Addr} {ys : List V} {o : HO} (a : At H v d) (h : PairD d) (hp : H p = some (.lst ys)) : At (upd H p o) v d := by
  obtain ⟨z, t, rfl, _⟩ := h
  cases a with
  | tup e h =>
    refine .tup (by rw [upd_ne (ne_of e hp (fun z => nomatch z))]; exact e) ?_
    cases h with
    | cons h1 t1 =>
      cases h1 with
      | str _ h1 =>
        cases t1 with
        | cons h2 t2 =>
          cases t2 with
          | nil =>
            refine .cons (.str _ h1) (.cons ?_ .nil)
            cases t with
            | none => cases h2; exact .non
            | some y => cases h2 with
              | str _ h2 => exact .str _ h2
theorem atAll_upd {H : Hp} {p : Addr} {ys : List V} {o : HO} (hp : H p = some (.lst ys)) : ∀ {vs : List V} {ds : List PyData}, AtAll H vs ds → Ents ds → AtAll (upd H p o) vs ds
  | _, _, .nil, _ => .nil
  | _, _, .cons h t, e => .cons (at_upd h (e _ (List.mem_cons_self ..)) hp) (atAll_upd hp t fun d m => e d (List.mem_cons_of_mem _ m))
/-- a list of entries -/
def EL (H : Hp) (p : Addr) (es : List PyData) : Prop := ∃ xs, H p = some (.lst xs) ∧ AtAll H xs es
theorem EL.mono {H H' : Hp} {p : Addr} {es : List PyData} (h : EL H p es) (s : Same H H') : EL H' p es := by
  obtain ⟨xs, e, a⟩ := h
  exact ⟨xs, s _ _ e, a.mono s⟩
theorem atAll_sl {H : Hp} {vs : List V} {ds : List PyData} (a b : Nat) (h : AtAll H vs ds) : AtAll H (sl vs a b) (sl ds a b) := (h.drop a).take (b - a)
theorem atAll_rpt {H : Hp} {vs : List V} {ds : List PyData} (n : Nat) (h : AtAll H vs ds) : AtAll H (List.replicate n vs).flatten (rpt n ds) := by
  induction n with
  | zero => exact .nil
  | succ n ih =>
    rw [List.replicate_succ, List.flatten_cons, rpt_succ]
    exact h.append ih
theorem cut_sl {xs : List V} {f l : Nat} (h1 : f ≤ l) (h2 : l ≤ xs.length) : cutV xs (some (f : Nat)) (some (l : Nat)) = sl xs f l := by
  unfold cutV sl
  rw [sIx_pos (by omega) (by omega), sIx_pos (by omega) (by omega)]
  rfl
/-- t[f:l] -/
theorem slT_rd {K : PySem.W.Frag} {t u1 u2 : TE} {σ : St} {H1 : Hp} {a : Addr} {xs : List V} {f l : Nat} {Q : VK} (h : VE t (.ref a) σ H1) (ha : H1 a = some (.tup xs)) (r1 : VE u1 (nV f) σ H1) (r2 : VE u2 (nV l) σ H1) (h1 : f ≤ l) (h2 : l ≤ xs.length)
    (k : ∀ p H3, Same H1 H3 → H3 p = some (.tup (sl xs f l)) → Q (.ref p) H3) : tSl (rSlA K) t (tPart u1) (tPart u2) σ H1 Q := by
  refine h H1 (Same.refl _) _ (r1 H1 (Same.refl _) _ ⟨_, rfl, r2 H1 (Same.refl _) _ ⟨_, rfl, a, xs, rfl, SqT.of ha, fun z => ?_, fun _ p np => ?_⟩⟩)
  · rw [sIx_pos (by omega) (by omega), sIx_pos (by omega) (by omega)] at z
    refine k a H1 (Same.refl _) ?_
    have e1 : f = 0 := by have := z.1; omega
    have e2 : l = xs.length := by have := z.2; omega
    rw [e1, e2, sl_all]
    exact ha
  · refine k p _ (same_new (Same.refl _) np) ?_
    rw [upd_same, cut_sl h1 h2]
theorem ve_max {σ : St} {H1 : Hp} {t u : TE} {i j : Int} (h : VE t (.int i) σ H1) (r : VE u (.int j) σ H1) : VE (tCB (fun xs H Q => ∃ i j, xs = [.int i, .int j] ∧ Q (.int (if j > i then j else i)) H) (tCons t (tCons u tNil))) (.int (if j > i then j else i)) σ H1 := fun H2 s Q q => h H2 s _ (r H2 s _ ⟨i, j, rfl, q⟩)
theorem ve_min {σ : St} {H1 : Hp} {t u : TE} {i j : Int} (h : VE t (.int i) σ H1) (r : VE u (.int j) σ H1) : VE (tCB (fun xs H Q => ∃ i j, xs = [.int i, .int j] ∧ Q (.int (if j < i then j else i)) H) (tCons t (tCons u tNil))) (.int (if j < i then j else i)) σ H1 := fun H2 s Q q => h H2 s _ (r H2 s _ ⟨i, j, rfl, q⟩)
theorem ve_modN {σ : St} {H1 : Hp} {t u : TE} {i j : Nat} (h : VE t (nV i) σ H1) (r : VE u (nV j) σ H1) (p : 0 < j) : VE (tOp (rI (fun _ j => 0 < j) fun i j => V.int (i % j)) t u) (nV (i % j)) σ H1 := by
  have := ve_mod (i := (i : Nat)) (j := (j : Nat)) h r (by omega)
  exact VE.to this (by omega)
theorem ve_subN {σ : St} {H1 : Hp} {t u : TE} {i j : Nat} (h : VE t (nV i) σ H1) (r : VE u (nV j) σ H1) (p : j ≤ i) : VE (tOp (rI0 fun i j => V.int (i - j)) t u) (nV (i - j)) σ H1 := VE.to (ve_sub (i := (i : Nat)) (j := (j : Nat)) h r) (by omega)
theorem ve_addN {σ : St} {H1 : Hp} {t u : TE} {i j : Nat} (h : VE t (nV i) σ H1) (r : VE u (nV j) σ H1) : VE (tOp (rI0 fun i j => V.int (i + j)) t u) (nV (i + j)) σ H1 := VE.to (ve_add (i := (i : Nat)) (j := (j : Nat)) h r) (by omega)
theorem be_leN {σ : St} {H1 : Hp} {t u : TE} {i j : Nat} (h : VE t (nV i) σ H1) (r : VE u (nV j) σ H1) : BE (tTest (tOp (rI0 fun i j => .bl (decide (i ≤ j))) t u)) (decide (i ≤ j)) σ H1 := by
  have := be_le (i := (i : Nat)) (j := (j : Nat)) h r
  rw [show decide (((i : Nat) : Int) ≤ ((j : Nat) : Int)) = decide (i ≤ j) from decide_eq_decide.mpr (by omega)] at this
  exact this
theorem be_ltN {σ : St} {H1 : Hp} {t u : TE} {i j : Nat} (h : VE t (nV i) σ H1) (r : VE u (nV j) σ H1) : BE (tTest (tOp (rI0 fun i j => .bl (decide (i < j))) t u)) (decide (i < j)) σ H1 := by
  have := be_lt (i := (i : Nat)) (j := (j : Nat)) h r
  rw [show decide (((i : Nat) : Int) < ((j : Nat) : Int)) = decide (i < j) from decide_eq_decide.mpr (by omega)] at this
  exact this
theorem be_gtN {σ : St} {H1 : Hp} {t u : TE} {i j : Nat} (h : VE t (nV i) σ H1) (r : VE u (nV j) σ H1) : BE (tTest (tOp (rI0 fun i j => .bl (decide (j < i))) t u)) (decide (j < i)) σ H1 := by
  have := be_gt (i := (i : Nat)) (j := (j : Nat)) h r
  rw [show decide (((j : Nat) : Int) < ((i : Nat) : Int)) = decide (j < i) from decide_eq_decide.mpr (by omega)] at this
  exact this
theorem be_eqN {σ : St} {H1 : Hp} {t u : TE} {i j : Nat} (h : VE t (nV i) σ H1) (r : VE u (nV j) σ H1) : BE (tTest (tOp rEq t u)) (decide (i = j)) σ H1 := by
  have := be_int (i := (i : Nat)) (j := (j : Nat)) h r
  rw [show decide (((i : Nat) : Int) = ((j : Nat) : Int)) = decide (i = j) from decide_eq_decide.mpr (by omega)] at this
  exact this
/-! ### arguments that are values -/
def VA (ts : TA) (vs : List V) (σ : St) (H1 : Hp) : Prop := ∀ H2, Same H1 H2 → ∀ Q : List V → Hp → Prop, Q vs H2 → ts σ H2 Q
theorem va_nil {σ : St} {H1 : Hp} : VA tNil [] σ H1 := fun H2 _ Q k => k
theorem va_cons {t : TE} {ts : TA} {v : V} {vs : List V} {σ : St} {H1 : Hp} (h : VE t v σ H1) (r : VA ts vs σ H1) : VA (tCons t ts) (v :: vs) σ H1 := fun H2 s Q k => h H2 s _ (r H2 s _ k)
theorem call_rd {sp : Sp} {ts : TA} {vs : List V} {σ : St} {H : Hp} {Q : VK} {E : XK} (h : VA ts vs σ H) (k : sp vs H Q E) : tCall sp [] E ts σ H Q := h H (Same.refl _) _ (by rw [List.append_nil]; exact k)
theorem ret_of {t : TE} {D : Ends} {σ : St} {H : Hp} (h : t σ H D.rt) : tRet t D σ H := h
theorem ifE_be {c : TT} {b : Bool} {x y : TE} {σ : St} {H : Hp} {Q : VK} (h : BE c b σ H) (k : ∀ H3, Same H H3 → (b = true → x σ H3 Q) ∧ (b = false → y σ H3 Q)) : tIf c x y σ H Q := h H (Same.refl _) _ fun H3 s3 => by
  cases b with
  | true => exact (k H3 s3).1 rfl
  | false => exact (k H3 s3).2 rfl
theorem cb_rd {r : List V → Hp → VK → Prop} {ts : TA} {vs : List V} {σ : St} {H : Hp} {Q : VK} (h : VA ts vs σ H) (k : r vs H Q) : tCB r ts σ H Q := h H (Same.refl _) _ k
theorem cons_rd {t : TE} {σ : St} {H : Hp} {Q : List V → Hp → Prop} (h : t σ H fun v H1 => Q [v] H1) : tCons t tNil σ H Q := h
theorem seq_rd {A B : TS} {D : Ends} {σ : St} {H : Hp} (h : A { D with nx := B D } σ H) : tSeq A B D σ H := h
theorem asgT {t : TE} {g : TG} {D : Ends} {σ : St} {H : Hp} (h : t σ H fun x H1 => g x σ H1 D.nx) : tAsg t g D σ H := h
theorem asg_of {t : TE} {s : Nat} {D : Ends} {σ : St} {H : Hp} (h : t σ H fun v H' => D.nx (σ.set s (some v)) H') : tAsg t (gName s) D σ H := h
section
variable {P : Program} {w : World} {K : PySem.W.Frag} {mg : Str → Option Value} {base : Heap} {C : Addr}
/-! ### listed, listed_rounds -/
def spLi (C : Addr) (ok : RwD → Prop) : Sp := fun vs H Q _ => ∃ (v : V) (r : RwD) (a b : Nat), vs = [v, nV a, nV b] ∧ RwAt C H r v ∧ good r ∧ Ents (den r) ∧ ok r ∧ a ≤ b ∧ b ≤ ext r ∧ ext r ≤ 100000 ∧ ∀ p H', Same H H' → H p = none → EL H' p (sl (den r) a b) → Q (.ref p) H'
def spLo (C : Addr) (ok : RwD → Prop) : Sp := fun vs H Q _ => ∃ (v : V) (r : RwD) (a b : Nat), vs = [v, nV a, nV b] ∧ RwAt C H r v ∧ good r ∧ Ents (den r) ∧ ok r ∧ a ≤ b ∧ 1 ≤ ext r ∧ b ≤ 100000 ∧ ext r ≤ 100000 ∧ ∀ p H', Same H H' → H p = none → EL H' p (sl (rpt (b + 1) (den r)) a b) → Q (.ref p) H'
theorem sc_listed_rounds : FnScope ["base", "first", "last", "begin", "head", "times", "rest", "middle"] ["base", "first", "last"] (defScope (top 15)) := ⟨rfl, rfl, rfl, by decide +kernel, rfl, by decide +kernel, by decide +kernel⟩
theorem ok_listed_rounds {k : Nat} {ok : RwD → Prop} {f : Addr} {fd : FuncData} (F : Fun K "listed_rounds" "listed_rounds" (top 15) f fd) (B : Bl2 mg) (T : NoR K C) (CLi : Cal P w K mg base CX0 k "listed" ["row", "first", "last"] (spLi C ok)) : FnOk P w K mg base CX0 (k + 1) f fd ["base", "first", "last"] (spLo C ok) := by
  refine F.ok sc_listed_rounds (fun vs H Q E h => ?_) (fun cdv A outer s H vs Q E hr h => ?_)
  · obtain ⟨v, r, a, b, rfl, _⟩ := h
    rfl
  · obtain ⟨v, r, a, b, rfl, hv, g, he, ho, ab, e1, b1, b2, k⟩ := h
    refine ⟨_, (pss_cons (ps_set (i := 3) sc_listed_rounds.nd rfl (Or.inl rfl) (pe_op op_sub (pv 1) (pe_op op_mod (pv 1) (pe_fld (pv 0) rfl))))
      (pss_cons (ps_if (pt_cmpR op_le (pv 2) (pe_op op_add (pv 3) (pe_fld (pv 0) rfl)) (nomark _)) (pss_one (ps_ret (pe_cal CLi hr (by omega) pass0 (pa_cons (pv 0) (pa_cons (pe_op op_sub (pv 1) (pv 3)) (pa_cons (pe_op op_sub (pv 2) (pv 3)) pa_nil)))))) pss_nil)
      (pss_cons (ps_set (i := 4) sc_listed_rounds.nd rfl (Or.inl rfl) (pe_cal CLi hr (by omega) pass0 (pa_cons (pv 0) (pa_cons (pe_op op_sub (pv 1) (pv 3)) (pa_cons (pe_fld (pv 0) rfl) pa_nil)))))
      (pss_cons (ps_asg (pe_callB call_divmod rfl B.divmod (by decide +kernel) (pa_cons (pe_op op_sub (pe_op op_sub (pv 2) (pv 3)) (pe_fld (pv 0) rfl)) (pa_cons (pe_fld (pv 0) rfl) pa_nil))) (pg_tup rfl (pgs_cons (pg_name (i := 5) sc_listed_rounds.nd rfl (Or.inl rfl)) (pgs_cons (pg_name (i := 6) sc_listed_rounds.nd rfl (Or.inl rfl)) pgs_nil))))
      (pss_cons (ps_set (i := 7) sc_listed_rounds.nd rfl (Or.inl rfl) (pe_ifExp (pt_cmpR op_gt (pv 5) pe_int (nomark _)) (pe_op op_rep (pe_cal CLi hr (by omega) pass0 (pa_cons (pv 0) (pa_cons pe_int (pa_cons (pe_fld (pv 0) rfl) pa_nil)))) (pv 5)) (pe_lst pa_nil)))
      (pss_one (ps_ret (pe_op op_cat (pe_op op_cat (pv 4) (pv 7)) (pe_cal CLi hr (by omega) pass0 (pa_cons (pv 0) (pa_cons pe_int (pa_cons (pv 6) pa_nil)))))))))))), ?_⟩
    obtain ⟨c, hc⟩ : ∃ c : Nat, c = a / ext r := ⟨_, rfl⟩
    have hm := Nat.div_add_mod a (ext r)
    have hl := Nat.mod_lt a (show 0 < ext r by omega)
    rw [← hc, Nat.mul_comm] at hm
    obtain ⟨bg, hb⟩ : ∃ bg : Nat, bg = c * ext r := ⟨_, rfl⟩
    rw [← hb] at hm
    refine set_v (s := 3) (v := nV bg) (VE.to (ve_sub (i := (a : Nat)) (j := ((a % ext r : Nat) : Int)) (ve_var rfl) (ve_modN (ve_var rfl) (ve_ext T (i := 0) rfl hv) (by omega))) (by omega)) ?_
    have ve := ve_ext T (σ := [some v, some (nV a), some (nV b), some (nV bg), none, none, none, none]) (i := 0) rfl hv
    refine if_be (be_leN (ve_var (v := nV b) rfl) (ve_addN (ve_var (v := nV bg) rfl) ve)) fun H3 s3 => ⟨fun z => ?_, fun z => ?_⟩
    · have z := of_decide_eq_true z
      refine ret_of (call_rd (va_cons (ve_var rfl) (va_cons (ve_subN (ve_var (v := nV a) rfl) (ve_var (v := nV bg) rfl) (by omega)) (va_cons (ve_subN (ve_var (v := nV b) rfl) (ve_var (v := nV bg) rfl) (by omega)) va_nil))) ?_)
      refine ⟨_, r, a - bg, b - bg, rfl, hv.mono s3, g, he, ho, by omega, by omega, b2, fun p H' s' np h => k p H' (s3.trans s') (none_of' s3 np) ?_⟩
      have cc : c ≤ a := by
        have := Nat.le_mul_of_pos_right c (show 0 < ext r by omega)
        omega
      rw [hb] at h z
      have h2 : EL H' p (sl (den r) (a - c * (den r).length) (b - c * (den r).length)) := h
      rw [cyc_one (N := b + 1) (by omega) (show c * (den r).length ≤ a from by show c * ext r ≤ a; omega) (show b ≤ c * (den r).length + (den r).length from z)] at h2
      exact h2
    · have z := of_decide_eq_false z
      refine asg_of (call_rd (va_cons (ve_var rfl) (va_cons (ve_subN (ve_var (v := nV a) rfl) (ve_var (v := nV bg) rfl) (by omega)) (va_cons (ve_ext T (i := 0) rfl (hv.mono s3)) va_nil))) ?_)
      refine ⟨_, r, a - bg, ext r, rfl, hv.mono s3, g, he, ho, by omega, Nat.le_refl _, b2, fun p H4 s4 np h => ?_⟩
      have s5 := s3.trans s4
      have n0 := none_of' s3 np
      have SL : 100000 ≤ sizeLine := by decide
      obtain ⟨tm, ht⟩ : ∃ tm : Nat, tm = (b - bg - ext r) / ext r := ⟨_, rfl⟩
      obtain ⟨rs, hs⟩ : ∃ rs : Nat, rs = (b - bg - ext r) % ext r := ⟨_, rfl⟩
      have hm2 := Nat.div_add_mod (b - bg - ext r) (ext r)
      have hl2 := Nat.mod_lt (b - bg - ext r) (show 0 < ext r by omega)
      rw [← ht, ← hs, Nat.mul_comm] at hm2
      rw [← hs] at hl2
      have tml : tm ≤ b := by
        have := Nat.le_mul_of_pos_right tm (show 0 < ext r by omega)
        omega
      dsimp only
      refine seq_rd ?_
      refine asgT ?_
      refine (cb_rd (σ := [some v, some (nV a), some (nV b), some (nV bg), some (.ref p), none, none, none]) (va_cons (ve_subN (ve_subN (ve_var (v := nV b) rfl) (ve_var (v := nV bg) rfl) (by omega)) (ve_ext T (i := 0) rfl (hv.mono s5)) (by omega)) (va_cons (ve_ext T (i := 0) rfl (hv.mono s5)) va_nil)) ⟨((b - bg - ext r : Nat) : Int), (ext r : Nat), rfl, ⟨by omega, by omega⟩, fun t nt => ?_⟩)
      have e1' : ((b - bg - ext r : Nat) : Int) / ((ext r : Nat) : Int) = (tm : Nat) := by omega
      have e2' : ((b - bg - ext r : Nat) : Int) % ((ext r : Nat) : Int) = (rs : Nat) := by omega
      rw [e1', e2']
      have s6 := s5.trans (same_new (o := .tup [.int (tm : Nat), .int (rs : Nat)]) (Same.refl H4) nt)
      have hp6 : EL (upd H4 t (.tup [.int (tm : Nat), .int (rs : Nat)])) p (sl (den r) (a - bg) (ext r)) := h.mono (same_new (Same.refl H4) nt)
      refine pair_rd (i := 5) (j := 6) ?_
      generalize upd H4 t (.tup [V.int (tm : Nat), V.int (rs : Nat)]) = H6 at s6 hp6 ⊢
      have hv6 := hv.mono s6
      have cl : (den r).length = ext r := rfl
      have back : ∀ (m : Addr) (H7 : Hp), Same H6 H7 → EL H7 m (rpt tm (den r)) → tRet (tOp rCat (tOp rCat (tVar 4) (tVar 7)) (tCall (spLi C ok) [] E0 (tCons (tVar 0) (tCons (tC (.int 0)) (tCons (tVar 6) tNil))))) { nx := fun x H' => Q V.non H', rt := Q } [some v, some (nV a), some (nV b), some (nV bg), some (.ref p), some (nV tm), some (nV rs), some (.ref m)] H7 := by
        intro m H7 s7 hm7
        obtain ⟨xs, hx, ax⟩ := hp6.mono s7
        obtain ⟨ys, hy, ay⟩ := hm7
        have lx := ax.len
        have ly := ay.len
        rw [show (sl (den r) (a - bg) (ext r)).length = ext r - (a - bg) from sl_len (Nat.le_refl _)] at lx
        rw [rpt_len, cl] at ly
        refine ⟨_, rfl, _, rfl, p, m, xs, ys, rfl, rfl, hx, hy, by omega, fun l nl => ?_⟩
        have s8 := same_new (o := .lst (xs ++ ys)) (Same.refl H7) nl
        refine call_rd (va_cons (ve_var rfl) (va_cons (ve_c (v := nV 0)) (va_cons (ve_var (v := nV rs) rfl) va_nil))) ?_
        refine ⟨_, r, 0, rs, rfl, hv6.mono (s7.trans s8), g, he, ho, by omega, by omega, b2, fun q H9 s9 nq h9 => ?_⟩
        obtain ⟨zs, hz, az⟩ := h9
        have lz := az.len
        rw [sl_len (by omega)] at lz
        have hl9 : H9 l = some (.lst (xs ++ ys)) := s9 _ _ upd_same
        refine ⟨l, q, _, _, rfl, rfl, hl9, hz, by rw [List.length_append]; omega, fun u nu => ?_⟩
        have s10 := same_new (o := .lst (xs ++ ys ++ zs)) (Same.refl H9) nu
        have sA := (s7.trans s8).trans (s9.trans s10)
        refine k u _ (s6.trans sA) (none_of' ((s6.trans (s7.trans s8)).trans s9) nu) ⟨_, upd_same, ?_⟩
        have al := ((ax.append ay).mono s8).mono (s9.trans s10)
        have al2 := al.append (az.mono s10)
        rw [hb] at al2
        have e3 := cyc_three (xs := den r) (N := b + 1) (k := c) (t := tm) (r := rs) (a := a) (b := b) (by rw [cl]; omega) (by rw [cl]; omega) (by rw [cl]; omega) (by rw [cl]; omega) (by
          have : c + 1 + tm ≤ b := by
            have := Nat.le_mul_of_pos_right (c + 1 + tm) (show 0 < ext r by omega)
            rw [Nat.add_mul, Nat.add_mul, Nat.one_mul] at this
            omega
          omega)
        rw [← e3]
        exact al2
      refine asg_of (ifE_be (be_gtN (ve_var (v := nV tm) rfl) (ve_c (v := nV 0))) fun H7 s7 => ⟨fun z => ?_, fun z => ?_⟩)
      · refine call_rd (va_cons (ve_var rfl) (va_cons (ve_c (v := nV 0)) (va_cons (ve_ext T (i := 0) rfl (hv6.mono s7)) va_nil))) ?_
        refine ⟨_, r, 0, ext r, rfl, hv6.mono s7, g, he, ho, by omega, Nat.le_refl _, b2, fun q H9 s9 nq h9 => ?_⟩
        obtain ⟨zs, hz, az⟩ := h9
        have lz := az.len
        rw [show (sl (den r) 0 (ext r)).length = ext r - 0 from sl_len (Nat.le_refl _)] at lz
        refine ⟨_, rfl, q, (tm : Nat), zs, rfl, rfl, hz, by omega, by omega, ?_, fun m nm => ?_⟩
        · have : 100000 ≤ sizeLine := by decide
          have e : zs.length * ((tm : Nat) : Int).toNat = tm * ext r := by
            rw [Int.toNat_natCast, lz, Nat.sub_zero, Nat.mul_comm]
          omega
        · have s10 := same_new (o := .lst (List.replicate ((tm : Nat) : Int).toNat zs).flatten) (Same.refl H9) nm
          refine back m _ (s7.trans (s9.trans s10)) ⟨_, upd_same, ?_⟩
          rw [Int.toNat_natCast]
          have := atAll_rpt tm (az.mono s10)
          have e : sl (den r) 0 (ext r) = den r := sl_all
          rw [e] at this
          exact this
      · have z := of_decide_eq_false z
        have t0 : tm = 0 := by omega
        refine ⟨Nat.zero_le _, fun m nm => back m _ (s7.trans (same_new (Same.refl _) nm)) ⟨[], upd_same, ?_⟩⟩
        rw [t0]
        exact .nil
theorem sc_listed : FnScope ["row", "first", "last", "entries", "index", "begin", "part"] ["row", "first", "last"] (defScope (top 14)) := ⟨rfl, rfl, rfl, by decide +kernel, rfl, by decide +kernel, by decide +kernel⟩
def dlt (n : Nat) : RwD → Prop := fun r => dep r < n
theorem ok_listed {n k : Nat} {f : Addr} {fd : FuncData} (F : Fun K "listed" "listed" (top 14) f fd) (B : Bl2 mg) (T : NoR K C) (hk : 1 ≤ k) (CPi : Cal P w K mg base CX0 1 "part_index" ["row", "at"] (spPi C)) (CLi : Cal P w K mg base CX0 k "listed" ["row", "first", "last"] (spLi C (dlt n)))
    (CLo : Cal P w K mg base CX0 k "listed_rounds" ["base", "first", "last"] (spLo C (dlt n))) : FnOk P w K mg base CX0 (k + 1) f fd ["row", "first", "last"] (spLi C (dlt (n + 1))) := by
  refine F.ok sc_listed (fun vs H Q E h => ?_) (fun cdv A outer s H vs Q E hr h => ?_)
  · obtain ⟨v, r, a, b, rfl, _⟩ := h
    rfl
  · obtain ⟨v, r, i0, j0, rfl, hv, g, he, ho, ij, jn, nn, k⟩ := h
    refine ⟨_, (pss_cons (ps_if (pt_cmpR op_notN (pe_fld (pv 0) rfl) pe_non (nomark _)) (pss_one (ps_ret (pe_callTy (r := rLof K) call_list_of rfl B.list PyProof.Rows.boot_list (pa_cons (pe_slice sl_tupA (pe_fld (pv 0) rfl) (po_some (pv 1)) (po_some (pv 2))) pa_nil)))) pss_nil)
      (pss_cons (ps_if (pt_cmpR op_notN (pe_fld (pv 0) rfl) pe_non (nomark _)) (pss_one (ps_ret (pe_cal CLo hr (by omega) pass0 (pa_cons (pe_fld (pv 0) rfl) (pa_cons (pv 1) (pa_cons (pv 2) pa_nil)))))) pss_nil)
      (pss_cons (ps_set (i := 3) sc_listed.nd rfl (Or.inl rfl) (pe_lst pa_nil))
      (pss_cons (ps_set (i := 4) sc_listed.nd rfl (Or.inl rfl) (pe_cal CPi hr (by omega) pass0 (pa_cons (pv 0) (pa_cons (pv 1) pa_nil))))
      (pss_cons (ps_while PassesOwn.never (PW.pt (pw_and (pt_cmpR op_lt (pv 4) (pe_callB call_len_seq rfl B.len PySem.boot_len (pa_cons (pe_fld (pv 0) rfl) pa_nil)) (nomark _)) (pw_and1 (pt_cmpR op_lt (pe_ix ix_tup (pe_fld (pv 0) rfl) (pv 4) (fun _ _ => rfl)) (pv 2) (nomark _)))))
        (pss_cons (ps_set (i := 5) sc_listed.nd rfl (Or.inl rfl) (pe_ix ix_tup (pe_fld (pv 0) rfl) (pv 4) (fun _ _ => rfl)))
      (pss_cons (ps_set (i := 6) sc_listed.nd rfl (Or.inl rfl) (pe_ix ix_tup (pe_fld (pv 0) rfl) (pv 4) (fun _ _ => rfl)))
      (pss_cons (ps_expr (pe_bm PySem.F.plainAttrs_list PySem.F.slot_list_extend PySem.F.type_list_extend mt_extend (pv 3) (pa_cons (pe_cal CLi hr (by omega) pass0 (pa_cons (pv 6) (pa_cons (pe_callB (call_max2 rfl) rfl B.max (by decide +kernel) (pa_cons (pe_op op_sub (pv 1) (pv 5)) (pa_cons pe_int pa_nil))) (pa_cons (pe_callB (call_min2 rfl) rfl B.min (by decide +kernel) (pa_cons (pe_op op_sub (pv 2) (pv 5)) (pa_cons (pe_fld (pv 6) rfl) pa_nil))) pa_nil)))) pa_nil)))
      (pss_one (ps_aug (i := 4) sc_listed.nd rfl (Or.inl rfl) pe_int iop_add))))))
      (pss_one (ps_ret (pv 3)))))))), ?_⟩
    have SL : 100000 ≤ sizeLine := by decide
    obtain ⟨a, dx, fs, l, b, p, q, vs, ti, rfl, ha, fl, hp, hb, hl, hc, hlf, hrep, hcat⟩ := hv.flds
    have vl := ins_lk (σ := [some (.ref a), some (nV i0), some (nV j0), none, none, none, none]) (s := 0) rfl ha T.cl T.n1 fl.leaf
    have vb := ins_lk (σ := [some (.ref a), some (nV i0), some (nV j0), none, none, none, none]) (s := 0) rfl ha T.cl T.n2 fl.base
    refine if_be (be_notN vl) fun H3 s3 => ⟨fun z => ?_, fun z => ?_⟩
    · cases r with
      | leaf es =>
        obtain ⟨t, xs, rfl, ht, as⟩ := hlf es rfl
        have lx := as.len
        refine ret_of ?_
        refine slT_rd (vl.mono s3) (s3 _ _ ht) (ve_var (v := nV i0) rfl) (ve_var (v := nV j0) rfl) ij (by rw [lx]; exact jn) fun p H4 s4 h4 => ?_
        refine ⟨p, _, rfl, .inr (SqT.of h4), fun m nm => k m _ ((s3.trans s4).trans (same_new (Same.refl _) nm)) (none_of' (s3.trans s4) nm) ⟨_, upd_same, ?_⟩⟩
        exact (atAll_sl i0 j0 as).mono ((s3.trans s4).trans (same_new (Same.refl _) nm))
      | _ =>
        rw [hl rfl] at z
        simp at z
    · have ln : l = .non := by
        rw [Bool.not_eq_false'] at z
        exact of_decide_eq_true z
      refine if_be ((be_notN vb).mono s3) fun H4 s4 => ⟨fun z => ?_, fun z => ?_⟩
      · have s5 := s3.trans s4
        cases r with
        | rep b0 m =>
          obtain ⟨rfl, _, hb0⟩ := hrep b0 m rfl
          rw [good] at g
          obtain ⟨g1, g2, g3, g4⟩ := g
          have eb : ext (.rep b0 m) = m * ext b0 := rpt_len
          have e1 : ext b0 ≤ m * ext b0 := Nat.le_mul_of_pos_left _ (by omega)
          refine ret_of (call_rd (va_cons (vb.mono s5) (va_cons (ve_var (v := nV i0) rfl) (va_cons (ve_var (v := nV j0) rfl) va_nil))) ?_)
          refine ⟨b, b0, i0, j0, rfl, hb0.mono s5, g4, fun d hd => he d (rep_mem (by omega) hd), ?_, ij, g2, by omega, by omega, fun p H' s' np h => k p H' (s5.trans s') (none_of' s5 np) ?_⟩
          · have : dep (.rep b0 m) = dep b0 + 1 := rfl
            unfold dlt at ho ⊢
            omega
          · rw [rpt_any (n := j0 + 1) (m := m) (Nat.le_trans (by omega) (Nat.le_mul_of_pos_right (j0 + 1) (show 0 < (den b0).length from g2))) (by show j0 ≤ m * ext b0; omega)] at h
            exact h
        | _ =>
          rw [hb rfl] at z
          simp at z
      · have bn : b = .non := by
          rw [Bool.not_eq_false'] at z
          exact of_decide_eq_true z
        have s5 := s3.trans s4
        cases r with
        | rep b0 m => exact ((hrep b0 m rfl).2.1 bn).elim
        | leaf es =>
          obtain ⟨t, xs, e, _⟩ := hlf es rfl
          rw [ln] at e
          cases e
        | cat ps =>
          obtain ⟨hs, hq⟩ := hcat ps rfl
          have gc := g
          rw [good] at gc
          obtain ⟨g2, gs⟩ := gc
          have lp := goods_len gs
          have lvs := hs.len
          have eps : ext (.cat ps) = exts ps := rfl
          refine ⟨Nat.zero_le _, fun p' np => ?_⟩
          have s6 := same_new (o := .lst []) s5 np
          have p0 := none_of' s5 np
          refine asg_of (call_rd (va_cons (ve_var (v := .ref a) rfl) (va_cons (ve_var (v := nV i0) rfl) va_nil)) ?_)
          refine ⟨_, ps, i0, rfl, hv.mono s6, by omega, by omega, fun ix ix1 ix2 ix3 H7 s7 => ?_⟩
          have s8 := s6.trans s7
          have hp7 : H7 p' = some (.lst []) := s7 _ _ upd_same
          have tl : exts ps = exts (ps.take ps.length) := by rw [List.take_length]
          refine while_be (fun m σ H' => ∃ (i : Nat) (v5 v6 : Option V), σ = [some (.ref a), some (nV i0), some (nV j0), some (.ref p'), some (nV i), v5, v6] ∧ Same H H' ∧ EL H' p' (sl (dens ps) i0 (min j0 (exts (ps.take i)))) ∧ m = ps.length - i ∧ i ≤ ps.length ∧ (i < ps.length → i0 ≤ exts (ps.take (i + 1)))) (ps.length - ix)
            ⟨ix, none, none, rfl, s8, ⟨[], hp7, by rw [sl_nil (by omega)]; exact .nil⟩, rfl, by omega, fun _ => ?_⟩ ?_
          · by_cases c : ix + 1 < ps.length
            · have := ix3 c
              omega
            · rw [show ix + 1 = ps.length by omega, ← tl]
              omega
          rintro m σ H8 ⟨i, v5, v6, rfl, t1, ⟨xs, hx, ax⟩, rfl, il, i2⟩
          have aq := hv.mono t1
          have vq := ins_lk (σ := [some (.ref a), some (nV i0), some (nV j0), some (.ref p'), some (nV i), v5, v6]) (s := 0) rfl (t1 _ _ ha) T.cl T.n5 fl.begins
          have vp := ins_lk (σ := [some (.ref a), some (nV i0), some (nV j0), some (.ref p'), some (nV i), v5, v6]) (s := 0) rfl (t1 _ _ ha) T.cl T.n4 fl.parts
          have vlen : VE (tCB (fun xs H Q => ∃ p ys, xs = [V.ref p] ∧ (SqL K H p ys ∨ SqT K H p ys) ∧ Q (V.int (ys.length : Nat)) H) (tCons (tFld K (tVar 0) "parts") tNil)) (nV ps.length) [some (.ref a), some (nV i0), some (nV j0), some (.ref p'), some (nV i), v5, v6] H8 := fun H9 s9 Q q' => vp H9 s9 _ ⟨p, vs, rfl, .inr (SqT.of (s9 _ _ (t1 _ _ hp))), by rw [lvs]; exact q'⟩
          have ents : Ents (dens ps) := he
          by_cases c1 : i < ps.length
          · have hb1 := begs_get 0 ps i c1
            rw [Nat.zero_add] at hb1
            refine ⟨_, be_and (be_ltN (ve_var (v := nV i) rfl) vlen) (fun _ => be_ltN (ve_ixT vq (t1 _ _ hq) (ve_var (v := nV i) rfl) (by rw [List.getElem?_map, hb1]; rfl)) (ve_var (v := nV j0) rfl)), fun z H9 s9 => ?_, fun z H9 s9 => ?_⟩
            · rw [Bool.and_eq_true] at z
              have z2 := of_decide_eq_true z.2
              have t2 := t1.trans s9
              obtain ⟨pi, hpi⟩ : ∃ pi, ps[i]? = some pi := ⟨_, List.getElem?_eq_getElem c1⟩
              obtain ⟨y, hy, ry⟩ := hs.at hpi
              obtain ⟨m1, m2, m3⟩ := goods_mem gs (List.mem_of_getElem? hpi)
              refine set_v (s := 5) ((ve_ixT vq (t1 _ _ hq) (ve_var (v := nV i) rfl) (by rw [List.getElem?_map, hb1]; rfl)).mono s9) ?_
              have vp2 := ins_lk (σ := [some (.ref a), some (nV i0), some (nV j0), some (.ref p'), some (nV i), some (nV (exts (ps.take i))), v6]) (s := 0) rfl (t2 _ _ ha) T.cl T.n4 fl.parts
              refine set_v (s := 6) (ve_ixT vp2 (t2 _ _ hp) (ve_var (v := nV i) rfl) hy) ?_
              refine ⟨_, rfl, .inl ⟨rfl, _, SqL.of (s9 _ _ hx)⟩, ?_⟩
              have ry9 := ry.mono t2
              refine cons_rd (call_rd (va_cons (ve_var (v := y) rfl) (va_cons (VE.to (n := i0 - exts (ps.take i)) (ve_max (ve_sub (i := (i0 : Nat)) (j := (exts (ps.take i) : Nat)) (ve_var rfl) (ve_var rfl)) ve_int) (by split <;> omega)) (va_cons (VE.to (n := min (j0 - exts (ps.take i)) (ext pi)) (ve_min (ve_sub (i := (j0 : Nat)) (j := (exts (ps.take i) : Nat)) (ve_var rfl) (ve_var rfl)) (ve_ext T (i := 6) rfl ry9)) (by split <;> omega)) va_nil))) ?_)
              have i3 := i2 c1
              have e1 := exts_at hpi
              refine ⟨y, pi, _, _, rfl, ry9, m3, fun d hd => ents d (den_mem (List.mem_of_getElem? hpi) hd), ?_, by omega, by omega, ?_, fun q2 H10 s10 nq2 h10 => ?_⟩
              · have : dep pi ≤ deps ps := deps_mem (List.mem_of_getElem? hpi)
                have : dep (.cat ps) = deps ps + 1 := rfl
                unfold dlt at ho ⊢
                omega
              · have := exts_mono (ps := ps) (show i + 1 ≤ ps.length by omega)
                omega
              · obtain ⟨zs, hz, az⟩ := h10
                have hx10 := s10 _ _ (s9 _ _ hx)
                have lz := az.len
                have lx := ax.len
                have fit : (sl (dens ps) i0 (min j0 (exts (ps.take (i + 1))))).length ≤ 100000 := by
                  unfold sl
                  rw [List.length_take, List.length_drop]
                  have : (dens ps).length = exts ps := rfl
                  omega
                have cs := cat_step (i0 := i0) (j0 := j0) hpi (by omega) i3
                rw [← cs, List.length_append] at fit
                refine ⟨p', q2, xs, zs, rfl, rfl, hx10, hz, by omega, ?_⟩
                have sF := same_updL (o := .lst (xs ++ zs)) (t2.trans s10) p0
                refine ⟨_, rfl, (i : Nat), 1, rfl, rfl, ps.length - (i + 1), by omega, i + 1, some (nV (exts (ps.take i))), some y, rfl, sF, ⟨xs ++ zs, upd_same, ?_⟩, rfl, by omega, fun c => ?_⟩
                · rw [← cs]
                  exact atAll_upd hx10 (((ax.mono s9).mono s10).append az) (fun d hd => by
                    rcases List.mem_append.mp hd with m | m
                    · exact ents d (sl_mem m)
                    · exact ents d (den_mem (List.mem_of_getElem? hpi) (sl_mem m)))
                · have := exts_mono (ps := ps) (show i + 1 ≤ i + 1 + 1 by omega)
                  omega
            · have z2 : j0 ≤ exts (ps.take i) := by
                rw [Bool.and_eq_false_iff] at z
                rcases z with z | z
                · have := of_decide_eq_false z
                  omega
                · have := of_decide_eq_false z
                  omega
              rw [Nat.min_eq_left z2] at ax
              exact ⟨_, rfl, k p' H9 (t1.trans s9) p0 ⟨xs, s9 _ _ hx, ax.mono s9⟩⟩
          · refine ⟨_, be_and (b := false) (c := true) (by have := be_ltN (i := i) (j := ps.length) (ve_var (s := 4) (v := nV i) rfl) vlen; rw [decide_eq_false c1] at this; exact this) (fun z => by cases z), fun z => (by cases z), fun _ H9 s9 => ?_⟩
            have : i = ps.length := by omega
            subst this
            rw [← tl, Nat.min_eq_left (show j0 ≤ exts ps from jn)] at ax
            exact ⟨_, rfl, k p' H9 (t1.trans s9) p0 ⟨xs, s9 _ _ hx, ax.mono s9⟩⟩
end

end K1

set_option Elab.async false
set_option linter.all false
set_option maxRecDepth 100000
set_option maxHeartbeats 4000000
namespace K1
open PySem L2 W1
/-! ### in a list or tuple of entries -/
theorem shaped_pair {d : PyData} (h : PairD d) : SeqAt.shaped d = true ∧ noDic d = true ∧ d.depth ≤ 1 := by
  obtain ⟨z, o, rfl, h1, h2⟩ := h
  have e : (PyData.tuple [.str z, oD o]).canLay0 = true := by
    cases o with
    | none => simp [PyData.canLay0, PyData.canLayAll0, oD, h1]
    | some y => simp [PyData.canLay0, PyData.canLayAll0, oD, h1] at h2 ⊢; exact h2
  have f : (PyData.tuple [.str z, oD o]).depth ≤ 1 := by cases o <;> simp [PyData.depth, PyData.depthAll, oD]
  refine ⟨by unfold SeqAt.shaped; rw [e, decide_eq_true (by omega)]; rfl, by cases o <;> rfl, f⟩
theorem shaped_ents : ∀ {es : List PyData}, Ents es → PyData.canLayAll0 es = true ∧ noDics es = true ∧ PyData.depthAll es ≤ 1
  | [], _ => ⟨rfl, rfl, by simp [PyData.depthAll]⟩
  | d :: es, h => by
    obtain ⟨a1, a2, a3⟩ := shaped_pair (h d (List.mem_cons_self ..))
    obtain ⟨b1, b2, b3⟩ := shaped_ents fun x m => h x (List.mem_cons_of_mem _ m)
    have a1 := SeqAt.canLay_of_shaped a1
    refine ⟨by simp [PyData.canLayAll0, a1, b1], by simp [noDics, a2, b2], ?_⟩
    simp only [PyData.depthAll]
    omega
theorem shaped_list {es : List PyData} (h : Ents es) : SeqAt.shaped (.list es) = true := by
  obtain ⟨a, _, c⟩ := shaped_ents h
  unfold SeqAt.shaped
  rw [show (PyData.list es).canLay0 = true by simp [PyData.canLay0, a], decide_eq_true (by simp only [PyData.depth]; omega)]
  rfl
theorem shaped_tup {es : List PyData} (h : Ents es) : SeqAt.shaped (.tuple es) = true := by
  obtain ⟨a, _, c⟩ := shaped_ents h
  unfold SeqAt.shaped
  rw [show (PyData.tuple es).canLay0 = true by simp [PyData.canLay0, a], decide_eq_true (by simp only [PyData.depth]; omega)]
  rfl
theorem dp_pair {K : PySem.W.Frag} {H : Hp} {v : V} {d : PyData} (a : At H v d) (h : PairD d) : Dp K H v d := a.dp (shaped_pair h).2.1
theorem dp_ents {K : PySem.W.Frag} {H : Hp} {vs : List V} {es : List PyData} (a : AtAll H vs es) (h : Ents es) : DpAll K H vs es := a.dps (shaped_ents h).2.1
def memD (d : PyData) (es : List PyData) : Bool := es.any fun y => PyData.eqv y d
def rInD (K : PySem.W.Frag) : R2 := fun x y H Q => ∃ d xs, Dp K H x d ∧ (Dp K H y (.tuple xs) ∨ Dp K H y (.list xs)) ∧ SeqAt.shaped (.tuple xs) = true ∧ SeqAt.shaped (.list xs) = true ∧ SeqAt.shaped d = true ∧ Q (.bl (memD d xs)) H
theorem op_inD {X : Cx} (hu : X.A.units + 65 < cLine) : OpR X (compareOp .In) (rInD X.K) := by
  intro pins s σ H x y v u Q I rx ry h
  obtain ⟨d, xs, hd, he, s1, s2, s3, q⟩ := h
  obtain ⟨as, r1⟩ := Dp.reads I d x v hd rx
  rcases he with he | he
  · obtain ⟨bs, r2⟩ := Dp.reads I _ y u he ry
    exact SeqAt.in_tuple_reads r2 r1 (SeqAt.canLay_of_shaped s1) (SeqAt.canLay_of_shaped s3) (PyProof.Rows.room_in_shaped s3 hu) ⟨.bl _, H, I, rfl, q⟩
  · obtain ⟨bs, r2⟩ := Dp.reads I _ y u he ry
    exact SeqAt.in_list_reads r2 r1 (SeqAt.canLay_of_shaped s2) (SeqAt.canLay_of_shaped s3) (PyProof.Rows.room_in_shaped s3 hu) ⟨.bl _, H, I, rfl, q⟩
theorem hr65 {k : Nat} {A : Around} (r : Room k A) : A.units + 65 < cLine := by have := r.un; omega
theorem be_notL {K : PySem.W.Frag} {C : Addr} {σ : St} {H : Hp} {r : RwD} {v : V} (T : NoR K C) (e : σ[0]? = some (some v)) (h : RwAt C H r v) : BE (tTest (tOp (fun x y H Q => y = .non ∧ Q (.bl (!decide (x = .non))) H) (tFld K (tVar 0) "leaf") (tC .non))) (isLf r) σ H := by
  obtain ⟨a, dx, fs, l, b, p, q, vs, ti, rfl, ha, fl, hp, hb, hl, hc, hlf, hrep, hcat⟩ := h.flds
  have z := be_notN (ins_lk e ha T.cl T.n1 fl.leaf)
  have : (!decide (l = .non)) = isLf r := by
    cases r with
    | leaf es => obtain ⟨t, xs, e, _⟩ := hlf es rfl; rw [e]; rfl
    | rep b n => rw [hl rfl]; rfl
    | cat ps => rw [hl rfl]; rfl
  rw [this] at z
  exact z
theorem be_notB {K : PySem.W.Frag} {C : Addr} {σ : St} {H : Hp} {r : RwD} {v : V} (T : NoR K C) (e : σ[0]? = some (some v)) (h : RwAt C H r v) : BE (tTest (tOp (fun x y H Q => y = .non ∧ Q (.bl (!decide (x = .non))) H) (tFld K (tVar 0) "base") (tC .non))) (isRep r) σ H := by
  obtain ⟨a, dx, fs, l, b, p, q, vs, ti, rfl, ha, fl, hp, hb, hl, hc, hlf, hrep, hcat⟩ := h.flds
  have z := be_notN (ins_lk e ha T.cl T.n2 fl.base)
  have : (!decide (b = .non)) = isRep r := by
    cases r with
    | leaf es => rw [hb rfl]; rfl
    | rep b0 n => rw [decide_eq_false (hrep b0 n rfl).2.1]; rfl
    | cat ps => rw [hb rfl]; rfl
  rw [this] at z
  exact z
section
variable {P : Program} {w : World} {K : PySem.W.Frag} {mg : Str → Option Value} {base : Heap} {C : Addr}
/-! ### has_entry -/
theorem memD_rpt {d : PyData} {es : List PyData} : ∀ {n : Nat}, 1 ≤ n → memD d (rpt n es) = memD d es
  | 0, h => by omega
  | 1, _ => by rw [rpt_one]
  | n + 2, _ => by
    rw [rpt_succ]
    unfold memD
    rw [List.any_append]
    have := memD_rpt (d := d) (es := es) (n := n + 1) (by omega)
    unfold memD at this
    rw [this, Bool.or_self]
def spHe (C : Addr) (ok : RwD → Prop) : Sp := fun vs H Q _ => ∃ (v x : V) (r : RwD) (d : PyData), vs = [v, x] ∧ RwAt C H r v ∧ At H x d ∧ PairD d ∧ good r ∧ Ents (den r) ∧ ok r ∧ ∀ H', Same H H' → Q (.bl (memD d (den r))) H'
theorem sc_has_entry : FnScope ["row", "entry", "part"] ["row", "entry"] (defScope (top 10)) := ⟨rfl, rfl, rfl, by decide +kernel, rfl, by decide +kernel, by decide +kernel⟩
theorem ok_has_entry {n k : Nat} {f : Addr} {fd : FuncData} (F : Fun K "has_entry" "has_entry" (top 10) f fd) (B : Bl2 mg) (T : NoR K C) (CHe : Cal P w K mg base CX0 k "has_entry" ["row", "entry"] (spHe C (dlt n))) : FnOk P w K mg base CX0 (k + 1) f fd ["row", "entry"] (spHe C (dlt (n + 1))) := by
  refine F.ok sc_has_entry (fun vs H Q E h => ?_) (fun cdv A outer s H vs Q E hr h => ?_)
  · obtain ⟨v, x, r, d, rfl, _⟩ := h
    rfl
  · obtain ⟨v, x, r, d, rfl, hv, hx, pd, g, he, ho, k⟩ := h
    refine ⟨_, (pss_cons (ps_if (pt_cmpR op_notN (pe_fld (pv 0) rfl) pe_non (nomark _)) (pss_one (ps_ret (pe_cmpR (op_inD (hr65 hr)) (pv 1) (pe_fld (pv 0) rfl) rfl))) pss_nil)
      (pss_cons (ps_if (pt_cmpR op_notN (pe_fld (pv 0) rfl) pe_non (nomark _)) (pss_one (ps_ret (pe_cal CHe hr (by omega) pass0 (pa_cons (pe_fld (pv 0) rfl) (pa_cons (pv 1) pa_nil))))) pss_nil)
      (pss_cons (ps_for PassesOwn.never rfl (pi_tup (pe_fld (pv 0) rfl)) (pg_name (i := 2) sc_has_entry.nd rfl (Or.inl rfl))
        (pss_one (ps_if (pt_val (pe_cal CHe hr (by omega) pass0 (pa_cons (pv 2) (pa_cons (pv 1) pa_nil)))) (pss_one (ps_ret pe_bl)) pss_nil)))
      (pss_one (ps_ret pe_bl))))), ?_⟩
    refine if_be (be_notL T rfl hv) fun H3 s3 => ⟨fun z => ?_, fun z => ?_⟩
    · cases r with
      | leaf es =>
        obtain ⟨a, dx, fs, l, b, p, q, vs, ti, rfl, ha, fl, hp, hb, hl, hc, hlf, hrep, hcat⟩ := (hv.mono s3).flds
        obtain ⟨t, xs, rfl, ht, as⟩ := hlf es rfl
        exact ⟨_, rfl, _, rfl, a, C, dx, fs, _, rfl, ha, T.cl, T.n1, fl.leaf, d, es, dp_pair (hx.mono s3) pd, .inl (.tup (SqT.of ht) (dp_ents as he)), shaped_tup he, shaped_list he, (shaped_pair pd).1, k H3 s3⟩
      | _ => cases z
    refine if_be ((be_notB T rfl hv).mono s3) fun H4 s4 => ⟨fun z2 => ?_, fun z2 => ?_⟩
    · have s5 := s3.trans s4
      cases r with
      | rep b0 m =>
        obtain ⟨a, dx, fs, l, b, p, q, vs, ti, rfl, ha, fl, hp, hb, hl, hc, hlf, hrep, hcat⟩ := (hv.mono s5).flds
        obtain ⟨rfl, _, hb0⟩ := hrep b0 m rfl
        rw [good] at g
        refine ret_of (call_rd (va_cons (ins_lk rfl ha T.cl T.n2 fl.base) (va_cons (ve_var (v := x) rfl) va_nil)) ?_)
        refine ⟨b, x, b0, d, rfl, hb0, hx.mono s5, pd, g.2.2.2, fun y hy => he y (rep_mem (by omega) hy), ?_, fun H' s' => ?_⟩
        · have : dep (.rep b0 m) = dep b0 + 1 := rfl
          unfold dlt at ho ⊢
          omega
        · have := k H' (s5.trans s')
          rw [den, memD_rpt (by omega)] at this
          exact this
      | _ => cases z2
    have s5 := s3.trans s4
    cases r with
    | leaf es => cases z
    | rep b0 m => cases z2
    | cat ps =>
      obtain ⟨a, dx, fs, l, b, p, q, vs, ti, rfl, ha, fl, hp, hb, hl, hc, hlf, hrep, hcat⟩ := (hv.mono s5).flds
      obtain ⟨hs, hq⟩ := hcat ps rfl
      rw [good] at g
      have lvs := hs.len
      have ents : Ents (dens ps) := he
      refine ⟨_, rfl, a, C, dx, fs, _, rfl, ha, T.cl, T.n4, fl.parts, p, rfl, ⟨_, SqT.of hp⟩, ?_⟩
      refine for_tup (fun i σ H' => ∃ v2, σ = [some (.ref a), some x, v2] ∧ Same H4 H' ∧ memD d (dens (ps.take i)) = false) ⟨none, rfl, Same.refl _, rfl⟩ (fun i σ H' _ z => by obtain ⟨v2, _, s6, _⟩ := z; exact SqT.of (s6 _ _ hp)) (fun i y σ H' hy z => ?_) (fun σ H' z => ?_)
      · obtain ⟨v2, rfl, s6, z3⟩ := z
        have il : i < ps.length := by
          have := (List.getElem?_eq_some_iff.mp hy).1
          omega
        obtain ⟨pi, hpi⟩ : ∃ pi, ps[i]? = some pi := ⟨_, List.getElem?_eq_getElem il⟩
        obtain ⟨y', hy', ry⟩ := hs.at hpi
        rw [hy] at hy'
        cases hy'
        have mm := List.mem_of_getElem? hpi
        obtain ⟨m1, m2, m3⟩ := goods_mem g.2 mm
        refine call_rd (va_cons (ve_var (s := 2) (v := y) rfl) (va_cons (ve_var (s := 1) (v := x) rfl) va_nil)) ?_
        refine ⟨y, x, pi, d, rfl, ry.mono s6, hx.mono (s5.trans s6), pd, m3, fun e he' => ents e (den_mem mm he'), ?_, fun H7 s7 => ⟨_, rfl, ?_⟩⟩
        · have : dep pi ≤ deps ps := deps_mem mm
          have : dep (.cat ps) = deps ps + 1 := rfl
          unfold dlt at ho ⊢
          omega
        have tk : dens (ps.take (i + 1)) = dens (ps.take i) ++ den pi := by
          rw [List.take_add_one, hpi, dens_app]
          show _ ++ dens [pi] = _
          rw [dens, dens, List.append_nil]
        cases c : memD d (den pi) with
        | true =>
          dsimp only
          rw [if_pos rfl]
          have := k H7 (s5.trans (s6.trans s7))
          have e : memD d (dens ps) = true := by
            unfold memD at c ⊢
            rw [List.any_eq_true] at c ⊢
            obtain ⟨e, e1, e2⟩ := c
            exact ⟨e, den_mem mm e1, e2⟩
          rw [den, e] at this
          exact this
        | false =>
          dsimp only
          rw [if_neg Bool.false_ne_true]
          refine ⟨some y, rfl, s6.trans s7, ?_⟩
          rw [tk]
          unfold memD at z3 c ⊢
          rw [List.any_append, z3, c]
          rfl
      · obtain ⟨v2, rfl, s6, z3⟩ := z
        have := k H' (s5.trans s6)
        rw [lvs, List.take_length] at z3
        rw [den, z3] at this
        exact this
end

end K1

set_option Elab.async false
set_option linter.all false
set_option maxRecDepth 100000
set_option maxHeartbeats 4000000
namespace K1
open PySem L2 W1
theorem ve_fld {K : PySem.W.Frag} {C a dx : Addr} {fs : List (Str × V)} {f : Str} {v : V} {t : TE} {σ : St} {H1 : Hp} (e : VE t (.ref a) σ H1) (h : H1 a = some (.ins C dx fs)) (c : Cls K C) (n : NoAttr K C f) (l : fs.lookup f = some v) : VE (tFld K t f) v σ H1 :=
  fun H2 s2 Q q => e H2 s2 _ ⟨a, C, dx, fs, v, rfl, s2 _ _ h, c, n, l, q⟩
theorem par_rd {i j : Nat} {ta : TA} {v w : V} {D : Ends} {σ : St} {H : Hp} (h : VA ta [v, w] σ H) (k : D.nx ((σ.set i (some v)).set j (some w)) H) : tPar i j ta D σ H := h H (Same.refl _) _ ⟨v, w, rfl, k⟩
theorem be_isL {K : PySem.W.Frag} {C : Addr} {σ : St} {H : Hp} {r : RwD} {v : V} (T : NoR K C) (e : σ[0]? = some (some v)) (h : RwAt C H r v) : BE (tTest (tOp (fun x y H Q => y = .non ∧ Q (.bl (decide (x = .non))) H) (tFld K (tVar 0) "leaf") (tC .non))) (!isLf r) σ H := by
  obtain ⟨a, dx, fs, l, b, p, q, vs, ti, rfl, ha, fl, hp, hb, hl, hc, hlf, hrep, hcat⟩ := h.flds
  have z := be_isN (ins_lk e ha T.cl T.n1 fl.leaf)
  have : (decide (l = .non)) = !isLf r := by
    cases r with
    | leaf es => obtain ⟨t, xs, e, _⟩ := hlf es rfl; rw [e]; rfl
    | rep b n => rw [hl rfl]; rfl
    | cat ps => rw [hl rfl]; rfl
  rw [this] at z
  exact z
theorem cat_get {ps : List RwD} {i at_ : Nat} {p : RwD} (h : ps[i]? = some p) (h1 : exts (ps.take i) ≤ at_) (h2 : at_ < exts (ps.take i) + ext p) : (dens ps)[at_]? = (den p)[at_ - exts (ps.take i)]? := by
  have z := cat_in (a := at_) (b := at_ + 1) h h1 (by omega)
  have z2 := congrArg (fun l => l[0]?) z
  rw [sl_get, sl_get, if_pos (by omega), if_pos (by omega)] at z2
  exact z2
section
variable {P : Program} {w : World} {K : PySem.W.Frag} {mg : Str → Option Value} {base : Heap} {C : Addr}
/-! ### entry_at -/
def spEa (C : Addr) : Sp := fun vs H Q _ => ∃ (v : V) (r : RwD) (at_ : Nat), vs = [v, nV at_] ∧ RwAt C H r v ∧ good r ∧ at_ < ext r ∧ ext r ≤ 100000 ∧ ∀ y d H', Same H H' → (den r)[at_]? = some d → At H' y d → Q y H'
theorem sc_entry_at : FnScope ["row", "at", "index"] ["row", "at"] (defScope (top 9)) := ⟨rfl, rfl, rfl, by decide +kernel, rfl, by decide +kernel, by decide +kernel⟩
theorem ok_entry_at {f : Addr} {fd : FuncData} (F : Fun K "entry_at" "entry_at" (top 9) f fd) (B : Bl2 mg) (T : NoR K C) (CPi : Cal P w K mg base CX0 1 "part_index" ["row", "at"] (spPi C)) : FnOk P w K mg base CX0 2 f fd ["row", "at"] (spEa C) := by
  refine F.ok sc_entry_at (fun vs H Q E h => ?_) (fun cdv A outer s H vs Q E hr h => ?_)
  · obtain ⟨v, r, at_, rfl, _⟩ := h
    rfl
  · obtain ⟨v, r, at_, rfl, hv, g, lt, few, k⟩ := h
    refine ⟨_, (pss_cons (ps_while PassesOwn.never (pt_cmpR op_isN (pe_fld (pv 0) rfl) pe_non (nomark _))
        (pss_one (ps_if (pt_cmpR op_notN (pe_fld (pv 0) rfl) pe_non (nomark _)) (pss_one (ps_par (i := 0) (j := 1) (by rfl) sc_entry_at.nd rfl rfl (by decide) rfl rfl (pa_cons (pe_fld (pv 0) rfl) (pa_cons (pe_op op_mod (pv 1) (pe_fld (pe_fld (pv 0) rfl) rfl)) pa_nil)) (by rfl))) (pss_cons (ps_set (i := 2) sc_entry_at.nd rfl (Or.inl rfl) (pe_cal CPi hr (by omega) pass0 (pa_cons (pv 0) (pa_cons (pv 1) pa_nil))))
      (pss_one (ps_par (i := 0) (j := 1) (by rfl) sc_entry_at.nd rfl rfl (by decide) rfl rfl (pa_cons (pe_ix ix_tup (pe_fld (pv 0) rfl) (pv 2) (fun _ _ => rfl)) (pa_cons (pe_op op_sub (pv 1) (pe_ix ix_tup (pe_fld (pv 0) rfl) (pv 2) (fun _ _ => rfl))) pa_nil)) (by rfl)))))))
      (pss_one (ps_ret (pe_ix ix_tup (pe_fld (pv 0) rfl) (pv 1) (fun _ _ => rfl))))), ?_⟩
    refine while_be (fun m σ H' => ∃ (r' : RwD) (v' : V) (at' : Nat) (v2 : Option V), σ = [some v', some (nV at'), v2] ∧ Same H H' ∧ RwAt C H' r' v' ∧ good r' ∧ at' < ext r' ∧ ext r' ≤ 100000 ∧ (den r')[at']? = (den r)[at_]? ∧ m = dep r') (dep r) ⟨r, v, at_, none, rfl, Same.refl _, hv, g, lt, few, rfl, rfl⟩ ?_
    rintro m σ H1 ⟨r', v', at', v2, rfl, s1, hv', g', lt', few', eq, rfl⟩
    refine ⟨_, be_isL T rfl hv', fun z H2 s2 => ?_, fun z H2 s2 => ?_⟩
    · refine if_be ((be_notB T rfl hv').mono s2) fun H3 s3 => ⟨fun z2 => ?_, fun z2 => ?_⟩
      · have s4 := s2.trans s3
        cases r' with
        | rep b0 m =>
          obtain ⟨a, dx, fs, l, b, p, q, vs, ti, rfl, ha, fl, hp, hb, hl, hc, hlf, hrep, hcat⟩ := (hv'.mono s4).flds
          obtain ⟨rfl, _, hb0⟩ := hrep b0 m rfl
          rw [good] at g'
          obtain ⟨g1, g2, g3, g4⟩ := g'
          obtain ⟨a2, dx2, fs2, _, _, _, _, _, _, rfl, ha2, fl2, _⟩ := hb0.flds
          have eb : ext (.rep b0 m) = m * ext b0 := rpt_len
          have e1 : ext b0 ≤ m * ext b0 := Nat.le_mul_of_pos_left _ (by omega)
          have vb := ins_lk (σ := [some (.ref a), some (nV at'), v2]) (s := 0) rfl ha T.cl T.n2 fl.base
          have vb2 := ve_fld (f := "extent") vb ha2 T.cl T.n6 fl2.extent
          refine par_rd (va_cons vb (va_cons (ve_modN (ve_var (v := nV at') rfl) vb2 (by omega)) va_nil)) ?_
          refine ⟨dep b0, by show dep b0 < dep b0 + 1; omega, b0, _, at' % ext b0, v2, rfl, s1.trans s4, hb0, g4, Nat.mod_lt _ (by omega), by omega, ?_, rfl⟩
          rw [← eq, den, rpt_get (by show at' < m * ext b0; omega)]
          rfl
        | _ => cases z2
      · have s4 := s2.trans s3
        cases r' with
        | leaf es => cases z
        | rep b0 m => cases z2
        | cat ps =>
          obtain ⟨a, dx, fs, l, b, p, q, vs, ti, rfl, ha, fl, hp, hb, hl, hc, hlf, hrep, hcat⟩ := (hv'.mono s4).flds
          obtain ⟨hs, hq⟩ := hcat ps rfl
          have gc := g'
          rw [good] at gc
          obtain ⟨g2, gs⟩ := gc
          have lp := goods_len gs
          have tl : exts ps = exts (ps.take ps.length) := by rw [List.take_length]
          have eps : ext (.cat ps) = exts ps := rfl
          dsimp only
          refine seq_rd (asg_of (call_rd (va_cons (ve_var (s := 0) (v := .ref a) rfl) (va_cons (ve_var (s := 1) (v := nV at') rfl) va_nil)) ?_))
          refine ⟨_, ps, at', rfl, hv'.mono s4, by omega, by omega, fun ix ix1 ix2 ix3 H4 s5 => ?_⟩
          have s6 := s4.trans s5
          obtain ⟨pi, hpi⟩ : ∃ pi, ps[ix]? = some pi := ⟨_, List.getElem?_eq_getElem ix1⟩
          obtain ⟨y, hy, ry⟩ := hs.at hpi
          have mm := List.mem_of_getElem? hpi
          obtain ⟨m1, m2, m3⟩ := goods_mem gs mm
          have e1 := exts_at hpi
          have up : at' < exts (ps.take ix) + ext pi := by
            by_cases c : ix + 1 < ps.length
            · have := ix3 c
              omega
            · rw [← e1, show ix + 1 = ps.length by omega, ← tl]
              omega
          have fit : exts (ps.take (ix + 1)) ≤ exts ps := by
            rw [tl]
            exact exts_mono (by omega)
          have hb1 := begs_get 0 ps ix ix1
          rw [Nat.zero_add] at hb1
          have vq := ins_lk (σ := [some (.ref a), some (nV at'), some (nV ix)]) (s := 0) rfl (s5 _ _ ha) T.cl T.n5 fl.begins
          have vp := ins_lk (σ := [some (.ref a), some (nV at'), some (nV ix)]) (s := 0) rfl (s5 _ _ ha) T.cl T.n4 fl.parts
          refine par_rd (va_cons (ve_ixT vp (s5 _ _ hp) (ve_var (v := nV ix) rfl) hy) (va_cons (ve_subN (ve_var (v := nV at') rfl) (ve_ixT vq (s5 _ _ hq) (ve_var (v := nV ix) rfl) (by rw [List.getElem?_map, hb1]; rfl)) ix2) va_nil)) ?_
          refine ⟨dep pi, ?_, pi, y, at' - exts (ps.take ix), some (nV ix), rfl, s1.trans s6, ry.mono s5, m3, by omega, by omega, ?_, rfl⟩
          · have := deps_mem mm
            show dep pi < deps ps + 1
            omega
          · rw [← eq, den, cat_get hpi ix2 up]
    · cases r' with
      | leaf es =>
        obtain ⟨a, dx, fs, l, b, p, q, vs, ti, rfl, ha, fl, hp, hb, hl, hc, hlf, hrep, hcat⟩ := (hv'.mono s2).flds
        obtain ⟨t, xs, rfl, ht, as⟩ := hlf es rfl
        have lt2 : at' < es.length := lt'
        obtain ⟨d, hd⟩ : ∃ d, es[at']? = some d := ⟨_, List.getElem?_eq_getElem lt2⟩
        obtain ⟨y, hy, ay⟩ := as.at hd
        have vl := ins_lk (σ := [some (.ref a), some (nV at'), v2]) (s := 0) rfl ha T.cl T.n1 fl.leaf
        exact ret_of ((ve_ixT vl ht (ve_var (v := nV at') rfl) hy) H2 (Same.refl _) _ (k y d H2 (s1.trans s2) (by rw [← eq]; exact hd) ay))
      | _ => cases z
end

end K1

set_option Elab.async false
set_option linter.all false
set_option maxRecDepth 100000
set_option maxHeartbeats 4000000
namespace K1
open PySem L2 W1
theorem mid_parts {ps : List RwD} {lo hi : Nat} (h : lo ≤ hi) : ps = ps.take lo ++ ((ps.take hi).drop lo ++ ps.drop hi) := by
  have e2 : ps.take hi = ps.take lo ++ (ps.take hi).drop lo := by
    have := (List.take_append_drop lo (ps.take hi)).symm
    rw [List.take_take, Nat.min_eq_left h] at this
    exact this
  rw [← List.append_assoc, ← e2, List.take_append_drop]
theorem mid_begs {ps : List RwD} {lo hi : Nat} (h : lo ≤ hi) (h2 : hi ≤ ps.length) : sl (begs 0 ps) lo hi = (begs 0 ((ps.take hi).drop lo)).map (exts (ps.take lo) + ·) := by
  have e := mid_parts (ps := ps) h
  have e3 : begs 0 ps = begs 0 (ps.take lo) ++ (begs (exts (ps.take lo)) ((ps.take hi).drop lo) ++ begs (exts (ps.take lo) + exts ((ps.take hi).drop lo)) (ps.drop hi)) := by
    have := congrArg (begs 0) e
    rw [begs_app, begs_app, Nat.zero_add] at this
    exact this
  have l1 : (begs 0 (ps.take lo)).length = lo := by rw [begs_len, List.length_take]; omega
  have l2 : (begs (exts (ps.take lo)) ((ps.take hi).drop lo)).length = hi - lo := by rw [begs_len, List.length_drop, List.length_take]; omega
  rw [e3, sl_right (by omega), l1, Nat.sub_self, sl_left (by omega)]
  have := sl_all (xs := begs (exts (ps.take lo)) ((ps.take hi).drop lo))
  rw [l2] at this
  rw [this]
  have z := begs_shift (exts (ps.take lo)) 0 ((ps.take hi).drop lo)
  rw [Nat.add_zero] at z
  exact z
theorem mid_exts {ps : List RwD} {lo hi : Nat} (h : lo ≤ hi) : exts (ps.take hi) = exts (ps.take lo) + exts ((ps.take hi).drop lo) := by
  have e2 : ps.take hi = ps.take lo ++ (ps.take hi).drop lo := by
    have := (List.take_append_drop lo (ps.take hi)).symm
    rw [List.take_take, Nat.min_eq_left h] at this
    exact this
  have := congrArg exts e2
  rw [exts_app] at this
  exact this
theorem goods_mid {ps : List RwD} {lo hi : Nat} (g : goods ps) (h : lo ≤ hi) : goods ((ps.take hi).drop lo) := by
  rw [mid_parts (ps := ps) h, goods_app, goods_app] at g
  exact g.2.1
theorem deps_mid {ps : List RwD} {lo hi : Nat} : deps ((ps.take hi).drop lo) ≤ deps ps := deps_le fun p m => deps_mem (List.mem_of_mem_take (List.mem_of_mem_drop m))
section
variable {P : Program} {w : World} {K : PySem.W.Frag} {mg : Str → Option Value} {base : Heap} {C : Addr}
/-! ### between_parts -/
def spBp (C : Addr) : Sp := fun vs H Q _ => ∃ (v : V) (ps : List RwD) (lo hi : Nat), vs = [v, nV lo, nV hi] ∧ RwAt C H (.cat ps) v ∧ goods ps ∧ lo ≤ hi ∧ hi < ps.length ∧ exts ps ≤ 100000 ∧
  ∀ v' r' H', Same H H' → RwAt C H' r' v' → good r' → den r' = dens ((ps.take hi).drop lo) → pd r' ≤ deps ps → Q v' H'
theorem sc_between_parts : FnScope ["row", "low", "high", "start", "begin", "begins"] ["row", "low", "high"] (defScope (top 12)) := ⟨rfl, rfl, rfl, by decide +kernel, rfl, by decide +kernel, by decide +kernel⟩
theorem ok_between_parts {f : Addr} {fd : FuncData} (F : Fun K "between_parts" "between_parts" (top 12) f fd) (B : Bl2 mg) (T : NoR K C) (MR : Mkr P w K mg base CX0 1 "Row" C rwP (spRwI C)) (CLf : Cal P w K mg base CX0 3 "leaf_row" ["entries"] (spLf C)) : FnOk P w K mg base CX0 4 f fd ["row", "low", "high"] (spBp C) := by
  refine F.ok sc_between_parts (fun vs H Q E h => ?_) (fun cdv A outer s H vs Q E hr h => ?_)
  · obtain ⟨v, ps, lo, hi, rfl, _⟩ := h
    rfl
  · obtain ⟨v, ps, lo, hi, rfl, hv, gs, lh, hl, few, k⟩ := h
    refine ⟨_, (pss_cons (ps_if (pt_cmpR op_lt (pe_op op_sub (pv 2) (pv 1)) pe_int (nomark _)) (pss_one (ps_ret (pe_ifExp (pt_cmpR op_lt (pv 1) (pv 2) (nomark _)) (pe_ix ix_tup (pe_fld (pv 0) rfl) (pv 1) (fun _ _ => rfl)) (pe_cal CLf hr (by omega) pass0 (pa_cons (pe_tup pa_nil) pa_nil))))) pss_nil)
      (pss_cons (ps_set (i := 3) sc_between_parts.nd rfl (Or.inr rfl) (pe_ix ix_tup (pe_fld (pv 0) rfl) (pv 1) (fun _ _ => rfl)))
      (pss_cons (ps_set (i := 5) sc_between_parts.nd rfl (Or.inl rfl) (pe_callTy (r := rTof K) call_tuple_of rfl B.tuple PyProof.Rows.boot_tuple (pa_cons (pe_lc (own := [("begin", 4)]) (g := gName 4) (te := tOp (rI0 fun i j => V.int (i - j)) (tVar 4) (tVar 3)) (tt := tYes) rfl sc_between_parts.nd (pi_tup (pe_slice sl_tupA (pe_fld (pv 0) rfl) (po_some (pv 1)) (po_some (pv 2)))) (blkOk_by (N := ["row", "low", "high", "start", "begin", "begins"]) (sc := defScope (top 12)) (by decide +kernel)) (fun _ _ _ _ _ => pg_name (i := 4) sc_between_parts.nd rfl (Or.inl rfl)) (fun _ _ _ _ _ => pts_nil) (fun _ _ _ _ _ => pe_op op_sub (pv 4) (pv 3))) pa_nil)))
      (pss_one (ps_ret (pe_mkr MR hr (by omega) pass0 (pa_cons pe_non (pa_cons pe_non (pa_cons pe_int (pa_cons (pe_slice sl_tupA (pe_fld (pv 0) rfl) (po_some (pv 1)) (po_some (pv 2))) (pa_cons (pv 5) (pa_cons (pe_op op_sub (pe_ix ix_tup (pe_fld (pv 0) rfl) (pv 2) (fun _ _ => rfl)) (pv 3)) pa_nil)))))))))))), ?_⟩
    have SL : 100000 ≤ sizeLine := by decide
    have lp := goods_len gs
    obtain ⟨a, dx, fs, l, b, p, q, vs, ti, rfl, ha, fl, hp, _, _, _, _, _, hcat⟩ := hv.flds
    obtain ⟨hs, hq⟩ := hcat ps rfl
    have lvs := hs.len
    have vq := ins_lk (σ := [some (.ref a), some (nV lo), some (nV hi), none, none, none]) (s := 0) rfl ha T.cl T.n5 fl.begins
    have vp := ins_lk (σ := [some (.ref a), some (nV lo), some (nV hi), none, none, none]) (s := 0) rfl ha T.cl T.n4 fl.parts
    refine if_be (be_ltN (j := 2) (ve_subN (ve_var (v := nV hi) rfl) (ve_var (v := nV lo) rfl) lh) (ve_c (v := nV 2))) fun H3 s3 => ⟨fun z => ?_, fun z => ?_⟩
    · have z := of_decide_eq_true z
      refine ret_of (ifE_be (be_ltN (ve_var (v := nV lo) rfl) (ve_var (v := nV hi) rfl)) fun H4 s4 => ⟨fun z2 => ?_, fun z2 => ?_⟩)
      · have z2 := of_decide_eq_true z2
        have s5 := s3.trans s4
        have e : hi = lo + 1 := by omega
        subst e
        obtain ⟨pi, hpi⟩ : ∃ pi, ps[lo]? = some pi := ⟨_, List.getElem?_eq_getElem (by omega)⟩
        obtain ⟨y, hy, ry⟩ := hs.at hpi
        have mm := List.mem_of_getElem? hpi
        obtain ⟨m1, m2, m3⟩ := goods_mem gs mm
        refine (ve_ixT vp hp (ve_var (v := nV lo) rfl) hy) H4 s5 _ (k y pi H4 s5 (ry.mono s5) m3 ?_ ?_)
        · rw [List.take_add_one, hpi, List.drop_append, List.drop_of_length_le (by rw [List.length_take]; omega), List.nil_append, List.length_take, show lo - min lo ps.length = 0 by omega]
          show _ = dens [pi]
          rw [dens, dens, List.append_nil]
        · exact Nat.le_trans (pd_dep pi) (deps_mem mm)
      · have z2 := of_decide_eq_false z2
        have s5 := s3.trans s4
        have e : hi = lo := by omega
        subst e
        refine ⟨Nat.zero_le _, fun t nt => ⟨t, [], [], rfl, .inr upd_same, .nil, Nat.zero_le _, fun v' H' s' h' => k v' _ H' (s5.trans ((same_new (Same.refl _) nt).trans s')) h' trivial ?_ (Nat.zero_le _)⟩⟩
        rw [List.drop_of_length_le (by rw [List.length_take]; omega)]
        rfl
    · have z := of_decide_eq_false z
      have hb1 := begs_get 0 ps lo (by omega)
      have hb2 := begs_get 0 ps hi (by omega)
      rw [Nat.zero_add] at hb1 hb2
      refine set_v (s := 3) ((ve_ixT vq hq (ve_var (v := nV lo) rfl) (by rw [List.getElem?_map, hb1]; rfl)).mono s3) ?_
      have vq2 := ins_lk (σ := [some (.ref a), some (nV lo), some (nV hi), some (nV (exts (ps.take lo))), none, none]) (s := 0) rfl (s3 _ _ ha) T.cl T.n5 fl.begins
      dsimp only
      refine seq_rd (asg_of ?_)
      show tSl (rSlA K) (tFld K (tVar 0) "begins") (tPart (tVar 1)) (tPart (tVar 2)) _ _ _
      refine slT_rd vq2 (s3 _ _ hq) (ve_var (v := nV lo) rfl) (ve_var (v := nV hi) rfl) lh (by rw [List.length_map, begs_len]; omega) fun t H4 s4 ht => ?_
      have s5 := s3.trans s4
      have em : sl ((begs 0 ps).map nV) lo hi = ((begs 0 ((ps.take hi).drop lo)).map fun b => nV (exts (ps.take lo) + b)) := by
        have : sl ((begs 0 ps).map nV) lo hi = (sl (begs 0 ps) lo hi).map nV := by
          unfold sl
          rw [List.map_take, List.map_drop]
        rw [this, mid_begs lh (by omega), List.map_map]
        rfl
      rw [em] at ht
      refine ⟨t, rfl, ⟨_, SqT.of ht⟩, fun L nL => ?_⟩
      have sL := same_new (o := .lst []) (Same.refl H4) nL
      have ql : (begs 0 ((ps.take hi).drop lo)).length = hi - lo := by rw [begs_len, List.length_drop, List.length_take]; omega
      refine lc_tup (fun i H' => Same H4 H' ∧ H' L = some (.lst (((begs 0 ((ps.take hi).drop lo)).take i).map nV))) ⟨sL, by rw [upd_same]; rfl⟩ (fun i H' _ z => SqT.of (z.1 _ _ ht)) (fun i x H' hx z => ?_) (fun H' z => ?_)
      · rw [List.getElem?_map] at hx
        obtain ⟨c, hc, rfl⟩ := Option.map_eq_some_iff.mp hx
        refine ⟨rfl, _, rfl, _, rfl, (exts (ps.take lo) + c : Nat), (exts (ps.take lo) : Nat), rfl, rfl, _, z.2, ?_, same_updL z.1 nL, ?_⟩
        · rw [List.length_map, List.length_take, ql]
          omega
        · rw [upd_same, List.take_add_one, hc, List.map_append]
          show some (HO.lst (_ ++ [V.int (((exts (ps.take lo) + c : Nat) : Int) - ((exts (ps.take lo) : Nat) : Int))])) = _
          rw [show ((exts (ps.take lo) + c : Nat) : Int) - ((exts (ps.take lo) : Nat) : Int) = ((c : Nat) : Int) by omega]
          rfl
      · obtain ⟨z1, z2⟩ := z
        rw [List.length_map, List.take_length] at z2
        refine ⟨L, _, rfl, .inl ⟨SqL.of z2, fun t3 n3 => ?_⟩⟩
        have s6 := same_new (o := .tup ((begs 0 ((ps.take hi).drop lo)).map nV)) z1 n3
        have s7 := s5.trans s6
        generalize e7 : upd H' t3 (.tup ((begs 0 ((ps.take hi).drop lo)).map nV)) = H7 at s6 s7 ⊢
        have h7 : H7 t3 = some (.tup ((begs 0 ((ps.take hi).drop lo)).map nV)) := by rw [← e7, upd_same]
        have s8 := s5.trans (Same.refl H4)
        have vp2 := ins_lk (σ := [some (.ref a), some (nV lo), some (nV hi), some (nV (exts (ps.take lo))), none, some (.ref t3)]) (s := 0) rfl (s7 _ _ ha) T.cl T.n4 fl.parts
        have vq3 := ins_lk (σ := [some (.ref a), some (nV lo), some (nV hi), some (nV (exts (ps.take lo))), none, some (.ref t3)]) (s := 0) rfl (s7 _ _ ha) T.cl T.n5 fl.begins
        show tSl (rSlA K) (tFld K (tVar 0) "parts") (tPart (tVar 1)) (tPart (tVar 2)) _ _ _
        refine slT_rd vp2 (s7 _ _ hp) (ve_var (v := nV lo) rfl) (ve_var (v := nV hi) rfl) lh (by omega) fun u H8 s9 hu => ?_
        refine ⟨_, rfl, ?_⟩
        refine (va_cons (VE.mono (ve_subN (ve_ixT vq3 (s7 _ _ hq) (ve_var (v := nV hi) rfl) (by rw [List.getElem?_map, hb2]; rfl)) (ve_var (v := nV (exts (ps.take lo))) rfl) (exts_mono lh)) s9) va_nil) H8 (Same.refl _) _ ?_
        have sA := s7.trans s9
        refine mk_rd fun x dx' H9 s10 hx => k _ (.cat ((ps.take hi).drop lo)) _ (sA.trans s10) ?_ ?_ rfl deps_mid
        · rw [RwAt]
          have e : ((exts ((ps.take hi).drop lo) : Nat) : Int) = ((exts (ps.take hi) - exts (ps.take lo) : Nat) : Int) := by
            rw [mid_exts lh]
            omega
          refine ⟨x, dx', _, u, t3, _, rfl, hx, ?_, s10 _ _ hu, ?_, s10 _ _ (s9 _ _ h7)⟩
          · rw [e]
            exact rwF_fl _ _ _ _ _ _
          · have := ((hs.take hi).drop lo).mono (sA.trans s10)
            have e2 : sl vs lo hi = (vs.take hi).drop lo := by
              unfold sl
              rw [List.drop_take]
            rw [e2]
            exact this
        · rw [good]
          exact ⟨by rw [List.length_drop, List.length_take]; omega, goods_mid gs lh⟩
end

end K1

set_option Elab.async false
set_option linter.all false
set_option maxRecDepth 100000
set_option maxHeartbeats 4000000
namespace K1
open PySem L2 W1
section
variable {P : Program} {w : World} {K : PySem.W.Frag} {mg : Str → Option Value} {base : Heap} {C : Addr}
/-! ### cut_rounds, cut_row -/
def spCr (C : Addr) (ok : RwD → Prop) : Sp := fun vs H Q _ => ∃ (v : V) (r : RwD) (a b : Nat), vs = [v, nV a, nV b] ∧ RwAt C H r v ∧ good r ∧ ok r ∧ a ≤ b ∧ b ≤ ext r ∧ ext r ≤ 100000 ∧ ∀ v' r' H', Same H H' → RwAt C H' r' v' → good r' → den r' = sl (den r) a b → pd r' ≤ pd r → Q v' H'
def spCo (C : Addr) (ok : RwD → Prop) : Sp := fun vs H Q _ => ∃ (v : V) (r : RwD) (a b : Nat), vs = [v, nV a, nV b] ∧ RwAt C H r v ∧ good r ∧ isRep r = false ∧ ok r ∧ a ≤ b ∧ 1 ≤ ext r ∧ ext r ≤ 100000 ∧ b ≤ 100000 ∧ ∀ v' r' H', Same H H' → RwAt C H' r' v' → good r' → den r' = sl (rpt (b + 1) (den r)) a b → pd r' ≤ dep r + 1 → Q v' H'
theorem ext_of {r : RwD} {xs : List PyData} (h : den r = xs) : ext r = xs.length := by unfold ext; rw [h]
theorem call_cons {sp : Sp} {t : TE} {ts : TA} {σ : St} {H : Hp} {Q : VK} {E : XK} (h : t σ H fun v H1 => ts σ H1 fun vs H2 => sp (v :: vs ++ []) H2 Q E) : tCall sp [] E (tCons t ts) σ H Q := h
theorem sc_cut_rounds : FnScope ["base", "first", "last", "begin", "head", "rest", "middle"] ["base", "first", "last"] (defScope (top 13)) := ⟨rfl, rfl, rfl, by decide +kernel, rfl, by decide +kernel, by decide +kernel⟩
theorem ok_cut_rounds {k : Nat} {ok : RwD → Prop} {f : Addr} {fd : FuncData} (F : Fun K "cut_rounds" "cut_rounds" (top 13) f fd) (T : NoR K C) (hk : 5 ≤ k) (CRp : Cal P w K mg base CX0 5 "repeated" ["row", "times"] (spRp C fun _ => True)) (CJn : Cal P w K mg base CX0 3 "joined" ["one", "other"] (spJn C)) (CCr : Cal P w K mg base CX0 k "cut_row" ["row", "first", "last"] (spCr C ok)) : FnOk P w K mg base CX0 (k + 1) f fd ["base", "first", "last"] (spCo C ok) := by
  refine F.ok sc_cut_rounds (fun vs H Q E h => ?_) (fun cdv A outer s H vs Q E hr h => ?_)
  · obtain ⟨v, r, a, b, rfl, _⟩ := h
    rfl
  · obtain ⟨v, r, a, b, rfl, hv, g, nr, ho, ab, e1, b2, b1, k⟩ := h
    refine ⟨_, (pss_cons (ps_set (i := 3) sc_cut_rounds.nd rfl (Or.inl rfl) (pe_op op_sub (pv 1) (pe_op op_mod (pv 1) (pe_fld (pv 0) rfl))))
      (pss_cons (ps_if (pt_cmpR op_le (pv 2) (pe_op op_add (pv 3) (pe_fld (pv 0) rfl)) (nomark _)) (pss_one (ps_ret (pe_cal CCr hr (by omega) pass0 (pa_cons (pv 0) (pa_cons (pe_op op_sub (pv 1) (pv 3)) (pa_cons (pe_op op_sub (pv 2) (pv 3)) pa_nil)))))) pss_nil)
      (pss_cons (ps_set (i := 4) sc_cut_rounds.nd rfl (Or.inl rfl) (pe_cal CCr hr (by omega) pass0 (pa_cons (pv 0) (pa_cons (pe_op op_sub (pv 1) (pv 3)) (pa_cons (pe_fld (pv 0) rfl) pa_nil)))))
      (pss_cons (ps_set (i := 5) sc_cut_rounds.nd rfl (Or.inl rfl) (pe_op op_sub (pe_op op_sub (pv 2) (pv 3)) (pe_fld (pv 0) rfl)))
      (pss_cons (ps_set (i := 6) sc_cut_rounds.nd rfl (Or.inl rfl) (pe_cal CRp hr (by omega) pass0 (pa_cons (pv 0) (pa_cons (pe_op op_fdiv (pv 5) (pe_fld (pv 0) rfl)) pa_nil))))
      (pss_one (ps_ret (pe_cal CJn hr (by omega) pass0 (pa_cons (pe_cal CJn hr (by omega) pass0 (pa_cons (pv 4) (pa_cons (pv 6) pa_nil))) (pa_cons (pe_cal CCr hr (by omega) pass0 (pa_cons (pv 0) (pa_cons pe_int (pa_cons (pe_op op_mod (pv 5) (pe_fld (pv 0) rfl)) pa_nil)))) pa_nil)))))))))), ?_⟩
    obtain ⟨c, hc⟩ : ∃ c : Nat, c = a / ext r := ⟨_, rfl⟩
    have hm := Nat.div_add_mod a (ext r)
    have hl := Nat.mod_lt a (show 0 < ext r by omega)
    rw [← hc, Nat.mul_comm] at hm
    obtain ⟨bg, hb⟩ : ∃ bg : Nat, bg = c * ext r := ⟨_, rfl⟩
    rw [← hb] at hm
    have cc : c ≤ a := by
      have := Nat.le_mul_of_pos_right c (show 0 < ext r by omega)
      omega
    have cl : (den r).length = ext r := rfl
    have pr : pd r ≤ dep r := pd_dep r
    refine set_v (s := 3) (v := nV bg) (VE.to (ve_sub (i := (a : Nat)) (j := ((a % ext r : Nat) : Int)) (ve_var rfl) (ve_modN (ve_var rfl) (ve_ext T (i := 0) rfl hv) (by omega))) (by omega)) ?_
    have ve := ve_ext T (σ := [some v, some (nV a), some (nV b), some (nV bg), none, none, none]) (i := 0) rfl hv
    refine if_be (be_leN (ve_var (v := nV b) rfl) (ve_addN (ve_var (v := nV bg) rfl) ve)) fun H3 s3 => ⟨fun z => ?_, fun z => ?_⟩
    · have z := of_decide_eq_true z
      refine ret_of (call_rd (va_cons (ve_var rfl) (va_cons (ve_subN (ve_var (v := nV a) rfl) (ve_var (v := nV bg) rfl) (by omega)) (va_cons (ve_subN (ve_var (v := nV b) rfl) (ve_var (v := nV bg) rfl) (by omega)) va_nil))) ?_)
      refine ⟨_, r, a - bg, b - bg, rfl, hv.mono s3, g, ho, by omega, by omega, b2, fun v' r' H' s' h' g' d' p' => k v' r' H' (s3.trans s') h' g' ?_ (by omega)⟩
      rw [hb] at d' z
      rw [d']
      exact cyc_one (N := b + 1) (by omega) (show c * (den r).length ≤ a from by rw [cl]; omega) (show b ≤ c * (den r).length + (den r).length from z)
    · have z := of_decide_eq_false z
      refine asg_of (call_rd (va_cons (ve_var rfl) (va_cons (ve_subN (ve_var (v := nV a) rfl) (ve_var (v := nV bg) rfl) (by omega)) (va_cons (ve_ext T (i := 0) rfl (hv.mono s3)) va_nil))) ?_)
      refine ⟨_, r, a - bg, ext r, rfl, hv.mono s3, g, ho, by omega, Nat.le_refl _, b2, fun v4 r4 H4 s4 h4 g4 d4 p4 => ?_⟩
      have s5 := s3.trans s4
      obtain ⟨tm, ht⟩ : ∃ tm : Nat, tm = (b - bg - ext r) / ext r := ⟨_, rfl⟩
      obtain ⟨rs, hs⟩ : ∃ rs : Nat, rs = (b - bg - ext r) % ext r := ⟨_, rfl⟩
      have hm2 := Nat.div_add_mod (b - bg - ext r) (ext r)
      have hl2 := Nat.mod_lt (b - bg - ext r) (show 0 < ext r by omega)
      rw [← ht, ← hs, Nat.mul_comm] at hm2
      rw [← hs] at hl2
      have tml : tm ≤ b := by
        have := Nat.le_mul_of_pos_right tm (show 0 < ext r by omega)
        omega
      dsimp only
      refine seq_rd (set_v (s := 5) (ve_subN (ve_subN (ve_var (v := nV b) rfl) (ve_var (v := nV bg) rfl) (by omega)) (ve_ext T (i := 0) rfl (hv.mono s5)) (by omega)) ?_)
      dsimp only
      refine seq_rd (asg_of (call_rd (va_cons (ve_var rfl) (va_cons (VE.to (n := tm) (ve_fdiv (i := (b - bg - ext r : Nat)) (j := (ext r : Nat)) (ve_var rfl) (ve_ext T (i := 0) rfl (hv.mono s5)) ⟨by omega, by omega⟩) (by omega)) va_nil)) ?_))
      refine ⟨_, r, tm, rfl, hv.mono s5, g, trivial, by rw [Nat.mul_comm]; omega, b2, by omega, fun v6 H6 s6 h6 => ?_⟩
      have s7 := s5.trans s6
      have l4 : ext r4 = ext r - (a - bg) := by rw [ext_of d4]; exact sl_len (Nat.le_refl _)
      have d6 : den (repR r tm) = rpt tm (den r) := repR_den
      have l6 : ext (repR r tm) = tm * ext r := by rw [ext_of d6, rpt_len, cl]
      have g6 : good (repR r tm) := repR_good g
      have p6 : pd (repR r tm) ≤ dep r + 1 := Nat.le_trans (pd_dep _) repR_dep
      dsimp only
      refine ret_of (call_cons (call_rd (va_cons (ve_var (s := 4) (v := v4) rfl) (va_cons (ve_var (s := 6) (v := v6) rfl) va_nil)) ?_))
      refine ⟨v4, v6, r4, _, rfl, h4.mono s6, h6, g4, g6, by rw [l4, l6]; omega, fun v7 H7 s8 h7 => ?_⟩
      have s9 := s7.trans s8
      refine cons_rd (call_rd (va_cons (ve_var (s := 0) (v := v) rfl) (va_cons (ve_c (v := nV 0)) (va_cons (ve_modN (i := b - bg - ext r) (ve_var (s := 5) rfl) (ve_ext T (i := 0) rfl (hv.mono s9)) (by omega)) va_nil))) ?_)
      rw [← hs]
      refine ⟨v, r, 0, rs, rfl, hv.mono s9, g, ho, by omega, by omega, b2, fun v8 r8 H8 sA h8 g8 d8 p8 => ?_⟩
      have l8 : ext r8 = rs := by rw [ext_of d8, sl_len (by omega)]; omega
      have d7 : den (joinR r4 (repR r tm)) = sl (den r) (a - bg) (ext r) ++ rpt tm (den r) := by rw [joinR_den, d4, d6]
      have l7 : ext (joinR r4 (repR r tm)) = ext r - (a - bg) + tm * ext r := by
        rw [ext_of joinR_den, List.length_append]
        show ext r4 + ext (repR r tm) = _
        rw [l4, l6]
      refine ⟨v7, v8, _, r8, rfl, h7.mono sA, h8, joinR_good g4 g6, g8, by rw [l7, l8]; omega, fun v9 H9 sB h9 => k v9 _ H9 ((s9.trans sA).trans sB) h9 (joinR_good (joinR_good g4 g6) g8) ?_ ?_⟩
      · rw [joinR_den, d7, d8, hb]
        exact cyc_three (xs := den r) (N := b + 1) (k := c) (t := tm) (r := rs) (a := a) (b := b) (by rw [cl]; omega) (by rw [cl]; omega) (by rw [cl]; omega) (by rw [cl]; omega) (by
          have : c + 1 + tm ≤ b := by
            have := Nat.le_mul_of_pos_right (c + 1 + tm) (show 0 < ext r by omega)
            rw [Nat.add_mul, Nat.add_mul, Nat.one_mul] at this
            omega
          omega)
      · refine Nat.le_trans joinR_pd (Nat.max_le.mpr ⟨Nat.le_trans joinR_pd (Nat.max_le.mpr ⟨by omega, p6⟩), by omega⟩)
theorem sc_cut_row : FnScope ["row", "first", "last", "low", "high", "begin", "middle", "head"] ["row", "first", "last"] (defScope (top 11)) := ⟨rfl, rfl, rfl, by decide +kernel, rfl, by decide +kernel, by decide +kernel⟩
theorem ok_cut_row {n k : Nat} {f : Addr} {fd : FuncData} (F : Fun K "cut_row" "cut_row" (top 11) f fd) (T : NoR K C) (hk : 5 ≤ k) (CLf : Cal P w K mg base CX0 3 "leaf_row" ["entries"] (spLf C)) (CJn : Cal P w K mg base CX0 3 "joined" ["one", "other"] (spJn C)) (CPi : Cal P w K mg base CX0 1 "part_index" ["row", "at"] (spPi C))
    (CBp : Cal P w K mg base CX0 4 "between_parts" ["row", "low", "high"] (spBp C)) (CCr : Cal P w K mg base CX0 k "cut_row" ["row", "first", "last"] (spCr C (dlt n))) (CCo : Cal P w K mg base CX0 k "cut_rounds" ["base", "first", "last"] (spCo C (dlt n))) : FnOk P w K mg base CX0 (k + 1) f fd ["row", "first", "last"] (spCr C (dlt (n + 1))) := by
  refine F.ok sc_cut_row (fun vs H Q E h => ?_) (fun cdv A outer s H vs Q E hr h => ?_)
  · obtain ⟨v, r, a, b, rfl, _⟩ := h
    rfl
  · obtain ⟨v, r, i0, j0, rfl, hv, g, ho, ij, jn, nn, k⟩ := h
    refine ⟨_, (pss_cons (ps_if (pt_cmpR op_eq (pv 1) (pv 2) (nomark _)) (pss_one (ps_ret (pe_cal CLf hr (by omega) pass0 (pa_cons (pe_tup pa_nil) pa_nil)))) pss_nil)
      (pss_cons (ps_if (PW.pt (pw_and (pt_cmpR op_eq (pv 1) pe_int (nomark _)) (pw_and1 (pt_cmpR op_eq (pv 2) (pe_fld (pv 0) rfl) (nomark _))))) (pss_one (ps_ret (pv 0))) pss_nil)
      (pss_cons (ps_if (pt_cmpR op_notN (pe_fld (pv 0) rfl) pe_non (nomark _)) (pss_one (ps_ret (pe_cal CLf hr (by omega) pass0 (pa_cons (pe_slice sl_tupA (pe_fld (pv 0) rfl) (po_some (pv 1)) (po_some (pv 2))) pa_nil)))) pss_nil)
      (pss_cons (ps_if (pt_cmpR op_notN (pe_fld (pv 0) rfl) pe_non (nomark _)) (pss_one (ps_ret (pe_cal CCo hr (by omega) pass0 (pa_cons (pe_fld (pv 0) rfl) (pa_cons (pv 1) (pa_cons (pv 2) pa_nil)))))) pss_nil)
      (pss_cons (ps_set (i := 3) sc_cut_row.nd rfl (Or.inl rfl) (pe_cal CPi hr (by omega) pass0 (pa_cons (pv 0) (pa_cons (pv 1) pa_nil))))
      (pss_cons (ps_set (i := 4) sc_cut_row.nd rfl (Or.inl rfl) (pe_cal CPi hr (by omega) pass0 (pa_cons (pv 0) (pa_cons (pe_op op_sub (pv 2) pe_int) pa_nil))))
      (pss_cons (ps_set (i := 5) sc_cut_row.nd rfl (Or.inl rfl) (pe_ix ix_tup (pe_fld (pv 0) rfl) (pv 3) (fun _ _ => rfl)))
      (pss_cons (ps_if (pt_cmpR op_eq (pv 3) (pv 4) (nomark _)) (pss_one (ps_ret (pe_cal CCr hr (by omega) pass0 (pa_cons (pe_ix ix_tup (pe_fld (pv 0) rfl) (pv 3) (fun _ _ => rfl)) (pa_cons (pe_op op_sub (pv 1) (pv 5)) (pa_cons (pe_op op_sub (pv 2) (pv 5)) pa_nil)))))) pss_nil)
      (pss_cons (ps_set (i := 6) sc_cut_row.nd rfl (Or.inl rfl) (pe_cal CBp hr (by omega) pass0 (pa_cons (pv 0) (pa_cons (pe_op op_add (pv 3) pe_int) (pa_cons (pv 4) pa_nil)))))
      (pss_cons (ps_set (i := 7) sc_cut_row.nd rfl (Or.inl rfl) (pe_cal CJn hr (by omega) pass0 (pa_cons (pe_cal CCr hr (by omega) pass0 (pa_cons (pe_ix ix_tup (pe_fld (pv 0) rfl) (pv 3) (fun _ _ => rfl)) (pa_cons (pe_op op_sub (pv 1) (pv 5)) (pa_cons (pe_fld (pe_ix ix_tup (pe_fld (pv 0) rfl) (pv 3) (fun _ _ => rfl)) rfl) pa_nil)))) (pa_cons (pv 6) pa_nil))))
      (pss_one (ps_ret (pe_cal CJn hr (by omega) pass0 (pa_cons (pv 7) (pa_cons (pe_cal CCr hr (by omega) pass0 (pa_cons (pe_ix ix_tup (pe_fld (pv 0) rfl) (pv 4) (fun _ _ => rfl)) (pa_cons pe_int (pa_cons (pe_op op_sub (pv 2) (pe_ix ix_tup (pe_fld (pv 0) rfl) (pv 4) (fun _ _ => rfl))) pa_nil)))) pa_nil))))))))))))))), ?_⟩
    have SL : 100000 ≤ sizeLine := by decide
    refine if_be (be_eqN (ve_var (v := nV i0) rfl) (ve_var (v := nV j0) rfl)) fun H3 s3 => ⟨fun z => ?_, fun z => ?_⟩
    · have z := of_decide_eq_true z
      refine ⟨Nat.zero_le _, fun t nt => ⟨t, [], [], rfl, .inr upd_same, .nil, Nat.zero_le _, fun v' H' s' h' => k v' _ H' (s3.trans ((same_new (Same.refl _) nt).trans s')) h' trivial ?_ (Nat.zero_le _)⟩⟩
      rw [sl_nil (by omega)]
      rfl
    have z0 := of_decide_eq_false z
    refine if_be (be_and (be_eqN (j := 0) (ve_var (v := nV i0) rfl) (ve_c (v := nV 0))) fun _ => be_eqN (ve_var (v := nV j0) rfl) (ve_ext T (i := 0) rfl (hv.mono s3))) fun H4 s4 => ⟨fun z => ?_, fun z => ?_⟩
    · rw [Bool.and_eq_true] at z
      have z1 := of_decide_eq_true z.1
      have z2 := of_decide_eq_true z.2
      refine ⟨_, rfl, k v r H4 (s3.trans s4) (hv.mono (s3.trans s4)) g ?_ (Nat.le_refl _)⟩
      rw [z1, z2]
      exact sl_all.symm
    have s5 := s3.trans s4
    refine if_be ((be_notL T rfl hv).mono s5) fun H6 s6 => ⟨fun z => ?_, fun z => ?_⟩
    · cases r with
      | leaf es =>
        have s7 := s5.trans s6
        obtain ⟨a, dx, fs, l, b, p, q, vs, ti, rfl, ha, fl, hp, hb, hl, hc, hlf, hrep, hcat⟩ := (hv.mono s7).flds
        obtain ⟨t, xs, rfl, ht, as⟩ := hlf es rfl
        have lx := as.len
        have le : ext (.leaf es) = es.length := rfl
        refine ret_of (call_cons ?_)
        refine slT_rd (ins_lk rfl ha T.cl T.n1 fl.leaf) ht (ve_var (v := nV i0) rfl) (ve_var (v := nV j0) rfl) ij (by rw [lx]; exact jn) fun p H7 s8 h7 => ?_
        refine ⟨p, _, sl es i0 j0, rfl, .inr h7, (atAll_sl i0 j0 as).mono s8, ?_, fun v' H' s' h' => k v' _ H' (s7.trans (s8.trans s')) h' trivial rfl (Nat.zero_le _)⟩
        rw [sl_len (show j0 ≤ es.length from jn)]
        omega
      | _ => cases z
    have s7 := s5.trans s6
    refine if_be ((be_notB T rfl hv).mono s7) fun H8 s8 => ⟨fun z2 => ?_, fun z2 => ?_⟩
    · have s9 := s7.trans s8
      cases r with
      | rep b0 m =>
        obtain ⟨a, dx, fs, l, b, p, q, vs, ti, rfl, ha, fl, hp, hb, hl, hc, hlf, hrep, hcat⟩ := (hv.mono s9).flds
        obtain ⟨rfl, _, hb0⟩ := hrep b0 m rfl
        rw [good] at g
        obtain ⟨g1, g2, g3, g4⟩ := g
        have eb : ext (.rep b0 m) = m * ext b0 := rpt_len
        have e1 : ext b0 ≤ m * ext b0 := Nat.le_mul_of_pos_left _ (by omega)
        refine ret_of (call_rd (va_cons (ins_lk rfl ha T.cl T.n2 fl.base) (va_cons (ve_var (v := nV i0) rfl) (va_cons (ve_var (v := nV j0) rfl) va_nil))) ?_)
        refine ⟨b, b0, i0, j0, rfl, hb0, g4, g3, ?_, ij, g2, by omega, by omega, fun v' r' H' s' h' g' d' p' => k v' r' H' (s9.trans s') h' g' ?_ p'⟩
        · have : dep (.rep b0 m) = dep b0 + 1 := rfl
          unfold dlt at ho ⊢
          omega
        · rw [d', rpt_any (n := j0 + 1) (m := m) (Nat.le_trans (by omega) (Nat.le_mul_of_pos_right (j0 + 1) (show 0 < (den b0).length from g2))) (by show j0 ≤ m * ext b0; omega)]
          rfl
      | _ => cases z2
    have s9 := s7.trans s8
    cases r with
    | leaf es => cases z
    | rep b0 m => cases z2
    | cat ps =>
      have gc := g
      rw [good] at gc
      obtain ⟨g2, gs⟩ := gc
      have lp := goods_len gs
      have tl : exts ps = exts (ps.take ps.length) := by rw [List.take_length]
      have eps : ext (.cat ps) = exts ps := rfl
      have dc : dep (.cat ps) = deps ps + 1 := rfl
      refine seq_rd (asg_of (call_rd (va_cons (ve_var (s := 0) (v := v) rfl) (va_cons (ve_var (s := 1) (v := nV i0) rfl) va_nil)) ?_))
      refine ⟨_, ps, i0, rfl, hv.mono s9, by omega, by omega, fun lo lo1 lo2 lo3 H10 s10 => ?_⟩
      have t1 := s9.trans s10
      dsimp only
      refine seq_rd (asg_of (call_rd (va_cons (ve_var (s := 0) (v := v) rfl) (va_cons (ve_subN (j := 1) (ve_var (s := 2) (v := nV j0) rfl) (ve_c (v := nV 1)) (by omega)) va_nil)) ?_))
      refine ⟨_, ps, j0 - 1, rfl, hv.mono t1, by omega, by omega, fun hi hi1 hi2 hi3 H11 s11 => ?_⟩
      have t2 := t1.trans s11
      have lh : lo ≤ hi := by
        rcases Nat.lt_or_ge hi lo with c | c
        · have := hi3 (by omega)
          have := exts_mono (ps := ps) (show hi + 1 ≤ lo by omega)
          omega
        · exact c
      obtain ⟨pl, hpl⟩ : ∃ pl, ps[lo]? = some pl := ⟨_, List.getElem?_eq_getElem lo1⟩
      obtain ⟨ph, hph⟩ : ∃ ph, ps[hi]? = some ph := ⟨_, List.getElem?_eq_getElem hi1⟩
      have ml := List.mem_of_getElem? hpl
      have mh := List.mem_of_getElem? hph
      obtain ⟨l1, l2, l3⟩ := goods_mem gs ml
      obtain ⟨h1, h2, h3⟩ := goods_mem gs mh
      have el := exts_at hpl
      have eh := exts_at hph
      have dl := deps_mem ml
      have dh := deps_mem mh
      have fitl : exts (ps.take (lo + 1)) ≤ exts ps := by rw [tl]; exact exts_mono (by omega)
      have fith : exts (ps.take (hi + 1)) ≤ exts ps := by rw [tl]; exact exts_mono (by omega)
      have upl : i0 < exts (ps.take (lo + 1)) := by
        by_cases c : lo + 1 < ps.length
        · exact lo3 c
        · rw [show lo + 1 = ps.length by omega, ← tl]
          omega
      have uph : j0 ≤ exts (ps.take (hi + 1)) := by
        by_cases c : hi + 1 < ps.length
        · have := hi3 c
          omega
        · rw [show hi + 1 = ps.length by omega, ← tl]
          omega
      obtain ⟨a, dx, fs, l, b, p, q, vs, ti, rfl, ha, fl, hp, hb, hl, hc, hlf, hrep, hcat⟩ := (hv.mono t2).flds
      obtain ⟨hs, hq⟩ := hcat ps rfl
      obtain ⟨yl, hyl, ryl⟩ := hs.at hpl
      obtain ⟨yh, hyh, ryh⟩ := hs.at hph
      have bl := begs_get 0 ps lo lo1
      have bh := begs_get 0 ps hi hi1
      rw [Nat.zero_add] at bl bh
      have vq0 := ins_lk (σ := [some (.ref a), some (nV i0), some (nV j0), some (nV lo), some (nV hi), none, none, none]) (s := 0) rfl ha T.cl T.n5 fl.begins
      dsimp only
      refine seq_rd (set_v (s := 5) (ve_ixT vq0 hq (ve_var (s := 3) (v := nV lo) rfl) (by rw [List.getElem?_map, bl]; rfl)) ?_)
      have vp := ins_lk (σ := [some (.ref a), some (nV i0), some (nV j0), some (nV lo), some (nV hi), some (nV (exts (ps.take lo))), none, none]) (s := 0) rfl ha T.cl T.n4 fl.parts
      have vpl := ve_ixT (K := K) vp hp (ve_var (s := 3) (v := nV lo) rfl) hyl
      dsimp only
      refine if_be (be_eqN (ve_var (s := 3) (v := nV lo) rfl) (ve_var (s := 4) (v := nV hi) rfl)) fun H12 s12 => ⟨fun z => ?_, fun z => ?_⟩
      · have z := of_decide_eq_true z
        subst z
        have t3 := t2.trans s12
        refine ret_of (call_rd (va_cons (vpl.mono s12) (va_cons (ve_subN (ve_var (s := 1) (v := nV i0) rfl) (ve_var (s := 5) rfl) lo2) (va_cons (ve_subN (ve_var (s := 2) (v := nV j0) rfl) (ve_var (s := 5) rfl) (by omega)) va_nil))) ?_)
        rw [hpl] at hph
        cases hph
        refine ⟨yl, pl, _, _, rfl, ryl.mono s12, l3, ?_, by omega, by omega, by omega, fun v' r' H' s' h' g' d' p' => k v' r' H' (t3.trans s') h' g' ?_ ?_⟩
        · unfold dlt at ho ⊢
          omega
        · rw [d']
          exact (cat_in hpl lo2 (by omega)).symm
        · have : pd (.cat ps) = deps ps := rfl
          have := pd_dep pl
          omega
      have z := of_decide_eq_false z
      have t3 := t2.trans s12
      have lt : lo < hi := by omega
      have mono1 := exts_mono (ps := ps) (show lo + 1 ≤ hi by omega)
      have hpd : pd (.cat ps) = deps ps := rfl
      dsimp only
      refine seq_rd (asg_of (call_rd (va_cons (ve_var (s := 0) (v := .ref a) rfl) (va_cons (ve_addN (j := 1) (ve_var (s := 3) (v := nV lo) rfl) (ve_c (v := nV 1))) (va_cons (ve_var (s := 4) (v := nV hi) rfl) va_nil))) ?_))
      refine ⟨_, ps, lo + 1, hi, rfl, hv.mono t3, gs, by omega, hi1, by omega, fun v6 r6 H13 s13 h6 g6 d6 p6 => ?_⟩
      have t4 := t3.trans s13
      have ss := s12.trans s13
      have vp3 := ins_lk (σ := [some (.ref a), some (nV i0), some (nV j0), some (nV lo), some (nV hi), some (nV (exts (ps.take lo))), some v6, none]) (s := 0) rfl (ss _ _ ha) T.cl T.n4 fl.parts
      have vpl3 := ve_ixT (K := K) vp3 (ss _ _ hp) (ve_var (s := 3) (v := nV lo) rfl) hyl
      obtain ⟨al, dxl, fsl, _, _, _, _, _, _, rfl, hal, fll, _⟩ := (ryl.mono ss).flds
      dsimp only
      refine seq_rd (asg_of (call_cons (call_rd (va_cons vpl3 (va_cons (ve_subN (ve_var (s := 1) (v := nV i0) rfl) (ve_var (s := 5) rfl) lo2) (va_cons (ve_fld (f := "extent") vpl3 hal T.cl T.n6 fll.extent) va_nil))) ?_)))
      refine ⟨_, pl, i0 - exts (ps.take lo), ext pl, rfl, ryl.mono ss, l3, ?_, by omega, Nat.le_refl _, by omega, fun v7 r7 H14 s14 h7 g7 d7 p7 => ?_⟩
      · unfold dlt at ho ⊢
        omega
      have t5 := t4.trans s14
      have e7 : ext r7 = ext pl - (i0 - exts (ps.take lo)) := by rw [ext_of d7]; exact sl_len (Nat.le_refl _)
      have e6 : ext r6 = exts (ps.take hi) - exts (ps.take (lo + 1)) := by
        have := mid_exts (ps := ps) (lo := lo + 1) (hi := hi) (by omega)
        rw [ext_of d6]
        show exts _ = _
        omega
      refine cons_rd ?_
      refine ⟨_, rfl, ?_⟩
      refine ⟨v7, v6, r7, r6, rfl, h7, h6.mono s14, g7, g6, by rw [e7, e6]; omega, fun v8 H15 s15 h8 => ?_⟩
      have t6 := t5.trans s15
      have sv := (ss.trans s14).trans s15
      have vp4 := ins_lk (σ := [some (.ref a), some (nV i0), some (nV j0), some (nV lo), some (nV hi), some (nV (exts (ps.take lo))), some v6, some v8]) (s := 0) rfl (sv _ _ ha) T.cl T.n4 fl.parts
      have vq4 := ins_lk (σ := [some (.ref a), some (nV i0), some (nV j0), some (nV lo), some (nV hi), some (nV (exts (ps.take lo))), some v6, some v8]) (s := 0) rfl (sv _ _ ha) T.cl T.n5 fl.begins
      dsimp only
      refine ret_of (call_cons ?_)
      refine ⟨_, rfl, ?_⟩
      refine cons_rd (call_rd (va_cons (ve_ixT vp4 (sv _ _ hp) (ve_var (s := 4) (v := nV hi) rfl) hyh) (va_cons (ve_c (v := nV 0)) (va_cons (ve_subN (ve_var (s := 2) (v := nV j0) rfl) (ve_ixT vq4 (sv _ _ hq) (ve_var (s := 4) (v := nV hi) rfl) (by rw [List.getElem?_map, bh]; rfl)) (by omega)) va_nil))) ?_)
      refine ⟨yh, ph, 0, j0 - exts (ps.take hi), rfl, ryh.mono sv, h3, ?_, by omega, by omega, by omega, fun v9 r9 H16 s16 h9 g9 d9 p9 => ?_⟩
      · unfold dlt at ho ⊢
        omega
      have e9 : ext r9 = j0 - exts (ps.take hi) := by rw [ext_of d9, sl_len (show j0 - exts (ps.take hi) ≤ ext ph by omega), Nat.sub_zero]
      have e8 : ext (joinR r7 r6) = ext r7 + ext r6 := by rw [ext_of joinR_den, List.length_append]; rfl
      refine ⟨v8, v9, joinR r7 r6, r9, rfl, h8.mono s16, h9, joinR_good g7 g6, g9, by rw [e8, e7, e6, e9]; omega, fun v10 H17 s17 h10 => k v10 _ H17 ((t6.trans s16).trans s17) h10 (joinR_good (joinR_good g7 g6) g9) ?_ ?_⟩
      · rw [joinR_den, joinR_den, d7, d6, d9]
        have a1 := cat_in (a := i0) (b := exts (ps.take (lo + 1))) hpl lo2 (by omega)
        have a2 := cat_whole (ps := ps) (i := lo + 1) (j := hi) (by omega) (by omega)
        have a3 := cat_in (a := exts (ps.take hi)) (b := j0) hph (Nat.le_refl _) (by omega)
        rw [Nat.sub_self] at a3
        rw [show exts (ps.take (lo + 1)) - exts (ps.take lo) = ext pl by omega] at a1
        rw [← a1, ← a2, ← a3, sl_app (by omega) mono1 (by show _ ≤ exts ps; omega), sl_app (by omega) (by omega) (by show _ ≤ exts ps; omega)]
        rfl
      · have := pd_dep pl
        have := pd_dep ph
        refine Nat.le_trans joinR_pd (Nat.max_le.mpr ⟨Nat.le_trans joinR_pd (Nat.max_le.mpr ⟨by omega, by omega⟩), by omega⟩)
end

end K1

set_option Elab.async false
set_option linter.all false
set_option maxRecDepth 100000
set_option maxHeartbeats 4000000
namespace K1
open PySem L2 W1
/-! ### sides -/
theorem next_rd {D : Ends} {σ : St} {H : Hp} (h : D.nx σ H) : tNext D σ H := h
theorem trip_rd {K : PySem.W.Frag} {i j l : Nat} {t : Addr} {x y z : V} {σ : St} {H : Hp} {Q : St → Hp → Prop} (ht : H t = some (.tup [x, y, z])) (h : Q (((σ.set i (some x)).set j (some y)).set l (some z)) H) : gTup K 3 (gCons (gName i) (gCons (gName j) (gCons (gName l) gNil))) (.ref t) σ H Q :=
  ⟨t, [x, y, z], rfl, SqT.of ht, rfl, x, [y, z], rfl, y, [z], rfl, z, [], rfl, rfl, h⟩
theorem par3_rd {i j l : Nat} {ta : TA} {u v w : V} {D : Ends} {σ : St} {H : Hp} (h : VA ta [u, v, w] σ H) (k : D.nx (((σ.set i (some u)).set j (some v)).set l (some w)) H) : tPar3 i j l ta D σ H := h H (Same.refl _) _ ⟨u, v, w, rfl, k⟩
theorem be_notBi {K : PySem.W.Frag} {C : Addr} {σ : St} {H : Hp} {r : RwD} {v : V} {i : Nat} (T : NoR K C) (e : σ[i]? = some (some v)) (h : RwAt C H r v) : BE (tTest (tOp (fun x y H Q => y = .non ∧ Q (.bl (!decide (x = .non))) H) (tFld K (tVar i) "base") (tC .non))) (isRep r) σ H := by
  obtain ⟨a, dx, fs, l, b, p, q, vs, ti, rfl, ha, fl, hp, hb, hl, hc, hlf, hrep, hcat⟩ := h.flds
  have z := be_notN (ins_lk e ha T.cl T.n2 fl.base)
  have : (!decide (b = .non)) = isRep r := by
    cases r with
    | leaf es => rw [hb rfl]; rfl
    | rep b0 n => rw [decide_eq_false (hrep b0 n rfl).2.1]; rfl
    | cat ps => rw [hb rfl]; rfl
  rw [this] at z
  exact z
theorem be_parts {K : PySem.W.Frag} {C : Addr} {σ : St} {H : Hp} {r : RwD} {v : V} {i : Nat} (T : NoR K C) (g : good r) (e : σ[i]? = some (some v)) (h : RwAt C H r v) : BE (fun σ H Q => tFld K (tVar i) "parts" σ H fun x H' => ∃ k, TruV K x H' k ∧ Q k H') (isCat r) σ H := by
  obtain ⟨a, dx, fs, l, b, p, q, vs, ti, rfl, ha, fl, hp, hb, hl, hc, _, hrep, hcat⟩ := h.flds
  have z := cat_ne g hc fun ps z => (hcat ps z).1
  exact fun H2 s2 Q k => ins_lk e ha T.cl T.n4 fl.parts H2 s2 _ ⟨_, .inr (.inl ⟨vs, SqT.of (s2 _ _ hp), rfl⟩), by rw [z]; exact k H2 (Same.refl _)⟩
theorem be_bool {σ : St} {H : Hp} {i : Nat} {b : Bool} (e : σ[i]? = some (some (.bl b))) : BE (tB (tVar i)) b σ H := fun H2 s2 Q k => ⟨_, e, b, rfl, k H2 (Same.refl _)⟩
/-- a stretch of a row that goes on without end -/
theorem rpt_shift {α : Type} {xs : List α} {k a m n : Nat} (h : k * xs.length ≤ a) (hn : a + m ≤ n * xs.length) (h1 : 1 ≤ xs.length) : sl (rpt n xs) a (a + m) = sl (rpt (a - k * xs.length + m + 1) xs) (a - k * xs.length) (a - k * xs.length + m) := by
  rcases Nat.lt_or_ge n k with c | c
  · have : n * xs.length ≤ k * xs.length := Nat.mul_le_mul_right _ (by omega)
    have e : m = 0 := by omega
    subst e
    rw [sl_nil (by omega), sl_nil (by omega)]
  · rw [rpt_from c h, show a + m - k * xs.length = a - k * xs.length + m by omega]
    refine rpt_any ?_ ?_
    · rw [Nat.sub_mul]
      omega
    · exact Nat.le_trans (Nat.le_succ _) (Nat.le_mul_of_pos_right _ h1)
def win (r : RwD) (a : Nat) (e : Bool) (m : Nat) : List PyData := if e = true then sl (rpt (a + m + 1) (den r)) a (a + m) else sl (den r) a (a + m)
structure SideAt (C : Addr) (H : Hp) (t : Addr) (v : V) (r : RwD) (a : Nat) (e : Bool) : Prop where
  tup : H t = some (.tup [v, nV a, .bl e])
  row : RwAt C H r v
  gd : good r
theorem SideAt.mono {C : Addr} {H H' : Hp} {t : Addr} {v : V} {r : RwD} {a : Nat} {e : Bool} (h : SideAt C H t v r a e) (s : Same H H') : SideAt C H' t v r a e := ⟨s _ _ h.tup, h.row.mono s, h.gd⟩
section
variable {P : Program} {w : World} {K : PySem.W.Frag} {mg : Str → Option Value} {base : Heap} {C : Addr}
/-! ### settled -/
def spSe (C : Addr) : Sp := fun vs H Q _ => ∃ (t : Addr) (v : V) (r : RwD) (a m : Nat), vs = [.ref t, nV m] ∧ SideAt C H t v r a false ∧ Ents (den r) ∧ a + m ≤ ext r ∧ 1 ≤ m ∧ ext r ≤ 100000 ∧
  ∀ t' v' r' a' e' H', Same H H' → SideAt C H' t' v' r' a' e' → Ents (den r') → ext r' ≤ 100000 → win r' a' e' m = sl (den r) a (a + m) → (e' = true → a' < ext r') → (e' = false → a' + m ≤ ext r') → dep r' ≤ dep r → a' ≤ a → (isLf r = true → r' = r ∧ v' = v ∧ a' = a ∧ e' = false) → Q (.ref t') H'
theorem sc_settled : FnScope ["side", "many", "row", "at", "endless", "index"] ["side", "many"] (defScope (top 17)) := ⟨rfl, rfl, rfl, by decide +kernel, rfl, by decide +kernel, by decide +kernel⟩
theorem ok_settled {f : Addr} {fd : FuncData} (F : Fun K "settled" "settled" (top 17) f fd) (B : Bl2 mg) (T : NoR K C) (CPi : Cal P w K mg base CX0 1 "part_index" ["row", "at"] (spPi C)) : FnOk P w K mg base CX0 2 f fd ["side", "many"] (spSe C) := by
  refine F.ok sc_settled (fun vs H Q E h => ?_) (fun cdv A outer s H vs Q E hr h => ?_)
  · obtain ⟨t, v, r, a, m, rfl, _⟩ := h
    rfl
  · obtain ⟨t, v, r, a, m, rfl, sd, he, fit, m1, few, k⟩ := h
    refine ⟨_, (pss_cons (ps_asg (pv 0) (pg_tup rfl (pgs_cons (pg_name (i := 2) sc_settled.nd rfl (Or.inl rfl)) (pgs_cons (pg_name (i := 3) sc_settled.nd rfl (Or.inl rfl)) (pgs_cons (pg_name (i := 4) sc_settled.nd rfl (Or.inl rfl)) pgs_nil)))))
      (pss_one (ps_while PassesOwn.never (pt_val pe_bl)
        (pss_mid (ps_if (pt_cmpR op_notN (pe_fld (pv 2) rfl) pe_non (nomark _)) (pss_one (ps_par3 (i := 2) (j := 3) (l := 4) (by rfl) sc_settled.nd rfl rfl rfl (by decide) (by decide) (by decide) rfl rfl rfl (pa_cons (pe_fld (pv 2) rfl) (pa_cons (pe_op op_mod (pv 3) (pe_fld (pe_fld (pv 2) rfl) rfl)) (pa_cons pe_bl pa_nil))) (by rfl))) pss_nil)
      (pss_cons (ps_if (PW.pt (pw_and (pt_val (pv 4)) (pw_and1 (pt_cmpR op_gt (pe_op op_add (pv 3) (pv 1)) (pe_fld (pv 2) rfl) (nomark _))))) (pss_one (ps_ret (pe_tup (pa_cons (pv 2) (pa_cons (pv 3) (pa_cons pe_bl pa_nil)))))) pss_nil)
      (pss_cons (ps_set (i := 4) sc_settled.nd rfl (Or.inl rfl) pe_bl)
      (pss_cons (ps_if (pt_not (pt_truth (pe_fld (pv 2) rfl) (fun _ => rfl))) (pss_one (ps_ret (pe_tup (pa_cons (pv 2) (pa_cons (pv 3) (pa_cons pe_bl pa_nil)))))) pss_nil)
      (pss_cons (ps_set (i := 5) sc_settled.nd rfl (Or.inl rfl) (pe_cal CPi hr (by omega) pass0 (pa_cons (pv 2) (pa_cons (pv 3) pa_nil))))
      (pss_cons (ps_if (pt_cmpR op_lt (pe_op op_add (pe_ix ix_tup (pe_fld (pv 2) rfl) (pv 5) (fun _ _ => rfl)) (pe_fld (pe_ix ix_tup (pe_fld (pv 2) rfl) (pv 5) (fun _ _ => rfl)) rfl)) (pe_op op_add (pv 3) (pv 1)) (nomark _)) (pss_one (ps_ret (pe_tup (pa_cons (pv 2) (pa_cons (pv 3) (pa_cons pe_bl pa_nil)))))) pss_nil)
      (pss_one (ps_par (i := 2) (j := 3) (by rfl) sc_settled.nd rfl rfl (by decide) rfl rfl (pa_cons (pe_ix ix_tup (pe_fld (pv 2) rfl) (pv 5) (fun _ _ => rfl)) (pa_cons (pe_op op_sub (pv 3) (pe_ix ix_tup (pe_fld (pv 2) rfl) (pv 5) (fun _ _ => rfl))) pa_nil)) (by rfl)))))))))))), ?_⟩
    refine ⟨_, rfl, trip_rd sd.tup ?_⟩
    refine while_be (fun n σ H' => ∃ (r' : RwD) (v' : V) (a' : Nat) (v5 : Option V), σ = [some (.ref t), some (nV m), some v', some (nV a'), some (.bl false), v5] ∧ Same H H' ∧ RwAt C H' r' v' ∧ good r' ∧ Ents (den r') ∧ ext r' ≤ 100000 ∧ a' + m ≤ ext r' ∧ sl (den r') a' (a' + m) = sl (den r) a (a + m) ∧ dep r' ≤ dep r ∧ a' ≤ a ∧ (isLf r = true → r' = r ∧ v' = v ∧ a' = a) ∧ n = dep r') (dep r)
      ⟨r, v, a, none, rfl, Same.refl _, sd.row, sd.gd, he, few, fit, rfl, Nat.le_refl _, Nat.le_refl _, fun _ => ⟨rfl, rfl, rfl⟩, rfl⟩ ?_
    rintro n σ H1 ⟨r', v', a', v5, rfl, s1, hv', g', he', few', fit', eq, dl, la, lf, rfl⟩
    refine ⟨true, be_true, fun _ H2 s2 => ?_, (fun z => by cases z)⟩
    let M : St → Hp → Prop := fun σ H' => ∃ (r2 : RwD) (v2 : V) (a2 : Nat) (e2 : Bool) (v5 : Option V), σ = [some (.ref t), some (nV m), some v2, some (nV a2), some (.bl e2), v5] ∧ Same H H' ∧ RwAt C H' r2 v2 ∧ good r2 ∧ Ents (den r2) ∧ ext r2 ≤ 100000 ∧ isRep r2 = false ∧ (e2 = true → a2 < ext r2) ∧ (e2 = false → a2 + m ≤ ext r2) ∧ win r2 a2 e2 m = sl (den r) a (a + m) ∧ dep r2 ≤ dep r' ∧ a2 ≤ a ∧ (isLf r = true → r2 = r ∧ v2 = v ∧ a2 = a ∧ e2 = false)
    refine ⟨M, ?_, fun σ H3 hM => ?_⟩
    · refine if_be ((be_notBi T (i := 2) rfl hv').mono s2) fun H3 s3 => ⟨fun z => ?_, fun z => ?_⟩
      · have s4 := s2.trans s3
        cases r' with
        | rep b0 n =>
          obtain ⟨a0, dx, fs, l, b, p, q, vs, ti, rfl, ha, fl, hp, hb, hl, hc, hlf, hrep, hcat⟩ := (hv'.mono s4).flds
          obtain ⟨rfl, _, hb0⟩ := hrep b0 n rfl
          rw [good] at g'
          obtain ⟨g1, g2, g3, g4⟩ := g'
          obtain ⟨x2, dx2, fs2, _, _, _, _, _, _, rfl, ha2, fl2, _⟩ := hb0.flds
          have eb : ext (.rep b0 n) = n * ext b0 := rpt_len
          have e1 : ext b0 ≤ n * ext b0 := Nat.le_mul_of_pos_left _ (by omega)
          have vb := ins_lk (σ := [some (.ref t), some (nV m), some (.ref a0), some (nV a'), some (.bl false), v5]) (s := 2) rfl ha T.cl T.n2 fl.base
          have vb2 := ve_fld (f := "extent") vb ha2 T.cl T.n6 fl2.extent
          refine par3_rd (va_cons vb (va_cons (ve_modN (ve_var (s := 3) (v := nV a') rfl) vb2 (by omega)) (va_cons (ve_c (v := .bl true)) va_nil))) ?_
          refine ⟨b0, _, a' % ext b0, true, v5, rfl, s1.trans s4, hb0, g4, fun d hd => he' d (rep_mem (by omega) hd), by omega, g3, fun _ => Nat.mod_lt _ (by omega), (fun z => by cases z), ?_, by show dep b0 ≤ dep b0 + 1; omega, Nat.le_trans (Nat.mod_le _ _) la, fun z => ?_⟩
          · rw [← eq]
            have hm := Nat.div_add_mod a' (ext b0)
            have z := rpt_shift (xs := den b0) (k := a' / ext b0) (a := a') (m := m) (n := n) (by show a' / ext b0 * ext b0 ≤ a'; exact Nat.div_mul_le_self _ _) (by show a' + m ≤ n * ext b0; omega) g2
            show _ = sl (rpt n (den b0)) a' (a' + m)
            rw [z]
            have : a' - a' / ext b0 * (den b0).length = a' % ext b0 := by
              show a' - a' / ext b0 * ext b0 = a' % ext b0
              rw [Nat.mul_comm]
              omega
            rw [this]
            rfl
          · obtain ⟨z1, _⟩ := lf z
            rw [← z1] at z
            cases z
        | _ => cases z
      · exact ⟨r', v', a', false, v5, rfl, s1.trans (s2.trans s3), hv'.mono (s2.trans s3), g', he', few', z, (fun z => by cases z), fun _ => fit', eq, Nat.le_refl _, la, fun z => let ⟨z1, z2, z3⟩ := lf z; ⟨z1, z2, z3, rfl⟩⟩
    obtain ⟨r2, v2, a2, e2, v5', rfl, s3, h2, g2, he2, few2, nr, up1, up2, w2, d2, la2, lf2⟩ := hM
    have out : ∀ (a3 : Nat) (b : Bool) (H4 : Hp), Same H3 H4 → win r2 a3 b m = sl (den r) a (a + m) → (b = true → a3 < ext r2) → (b = false → a3 + m ≤ ext r2) → a3 ≤ a → (isLf r = true → a3 = a ∧ b = false) → ∀ p, H4 p = none → Q (.ref p) (upd H4 p (.tup [v2, nV a3, .bl b])) := fun a3 b H4 s4 h1 h3 h5 h7 h6 p np =>
      k p v2 r2 a3 b _ ((s3.trans s4).trans (same_new (Same.refl _) np)) ⟨upd_same, (h2.mono s4).mono (same_new (Same.refl _) np), g2⟩ he2 few2 h1 h3 h5 (Nat.le_trans d2 dl) h7 fun z => let ⟨z1, z2, z3, z4⟩ := lf2 z; ⟨z1, z2, (h6 z).1, (h6 z).2⟩
    refine if_be (be_and (be_bool (i := 4) rfl) fun _ => be_gtN (ve_addN (ve_var (s := 3) (v := nV a2) rfl) (ve_var (s := 1) (v := nV m) rfl)) (ve_ext T (i := 2) rfl h2)) fun H4 s4 => ⟨fun z => ?_, fun z => ?_⟩
    · rw [Bool.and_eq_true] at z
      obtain ⟨z1, z2⟩ := z
      subst z1
      exact ⟨_, rfl, _, rfl, by show 3 ≤ sizeLine; decide, out a2 true H4 s4 w2 up1 (fun z => by cases z) la2 (fun z => let ⟨z1, z2, z3, z4⟩ := lf2 z; ⟨z3, z4⟩)⟩
    have fit2 : a2 + m ≤ ext r2 := by
      rw [Bool.and_eq_false_iff] at z
      cases e2 with
      | true =>
        rcases z with z | z
        · cases z
        · have := of_decide_eq_false z
          omega
      | false => exact up2 rfl
    have w3 : win r2 a2 false m = sl (den r) a (a + m) := by
      rw [← w2]
      cases e2 with
      | false => rfl
      | true =>
        show sl (den r2) a2 (a2 + m) = sl (rpt (a2 + m + 1) (den r2)) a2 (a2 + m)
        have e1 : 1 ≤ (den r2).length := by have := up1 rfl; show 1 ≤ ext r2; omega
        have := rpt_any (xs := den r2) (n := 1) (m := a2 + m + 1) (a := a2) (b := a2 + m) (by rw [Nat.one_mul]; exact fit2) (Nat.le_trans (Nat.le_succ _) (Nat.le_mul_of_pos_right _ e1))
        rw [rpt_one] at this
        exact this
    refine next_rd ?_
    dsimp only
    refine seq_rd (set_v (s := 4) (ve_c (v := .bl false)) ?_)
    dsimp only
    have h4 := h2.mono s4
    refine if_be (be_not (be_parts T g2 (i := 2) rfl h4)) fun H5 s5 => ⟨fun z => ?_, fun z => ?_⟩
    · exact ⟨_, rfl, _, rfl, by show 3 ≤ sizeLine; decide, out a2 false H5 (s4.trans s5) w3 (fun z => by cases z) (fun _ => fit2) la2 (fun z => ⟨(lf2 z).2.2.1, rfl⟩)⟩
    rw [Bool.not_eq_false'] at z
    cases r2 with
    | leaf es => cases z
    | rep b0 n => cases z
    | cat ps =>
      have gc := g2
      rw [good] at gc
      obtain ⟨p2, gs⟩ := gc
      have lp := goods_len gs
      have tl : exts ps = exts (ps.take ps.length) := by rw [List.take_length]
      have eps : ext (.cat ps) = exts ps := rfl
      have s6 := s4.trans s5
      refine next_rd ?_
      dsimp only
      refine seq_rd (asg_of (call_rd (va_cons (ve_var (s := 2) (v := v2) rfl) (va_cons (ve_var (s := 3) (v := nV a2) rfl) va_nil)) ?_))
      refine ⟨v2, ps, a2, rfl, h2.mono s6, by omega, by omega, fun ix ix1 ix2 ix3 H7 s7 => ?_⟩
      have s8 := s6.trans s7
      obtain ⟨pi, hpi⟩ : ∃ pi, ps[ix]? = some pi := ⟨_, List.getElem?_eq_getElem ix1⟩
      have mm := List.mem_of_getElem? hpi
      obtain ⟨m2, m3, m4⟩ := goods_mem gs mm
      have e1 := exts_at hpi
      have dp := deps_mem mm
      have dc : dep (.cat ps) = deps ps + 1 := rfl
      have fitp : exts (ps.take (ix + 1)) ≤ exts ps := by rw [tl]; exact exts_mono (by omega)
      have hb1 := begs_get 0 ps ix ix1
      rw [Nat.zero_add] at hb1
      obtain ⟨a0, dx, fs, l, b, p, q, vs, ti, rfl, ha, fl, hp, hb, hl, hc, hlf, hrep, hcat⟩ := (h2.mono s8).flds
      obtain ⟨hs, hq⟩ := hcat ps rfl
      obtain ⟨y, hy, ry⟩ := hs.at hpi
      have vq := ins_lk (σ := [some (.ref t), some (nV m), some (.ref a0), some (nV a2), some (.bl false), some (nV ix)]) (s := 2) rfl ha T.cl T.n5 fl.begins
      have vp := ins_lk (σ := [some (.ref t), some (nV m), some (.ref a0), some (nV a2), some (.bl false), some (nV ix)]) (s := 2) rfl ha T.cl T.n4 fl.parts
      have vqi := ve_ixT (K := K) vq hq (ve_var (s := 5) (v := nV ix) rfl) (v := nV (exts (ps.take ix))) (by rw [List.getElem?_map, hb1]; rfl)
      have vpi := ve_ixT (K := K) vp hp (ve_var (s := 5) (v := nV ix) rfl) hy
      obtain ⟨a1, dx1, fs1, _, _, _, _, _, _, rfl, ha1, fl1, _⟩ := ry.flds
      dsimp only
      refine if_be (be_ltN (ve_addN vqi (ve_fld (f := "extent") vpi ha1 T.cl T.n6 fl1.extent)) (ve_addN (ve_var (s := 3) (v := nV a2) rfl) (ve_var (s := 1) (v := nV m) rfl))) fun H8 s9 => ⟨fun z2 => ?_, fun z2 => ?_⟩
      · exact ⟨_, rfl, _, rfl, by show 3 ≤ sizeLine; decide, out a2 false H8 (s8.trans s9) w3 (fun z => by cases z) (fun _ => fit2) la2 (fun z => ⟨(lf2 z).2.2.1, rfl⟩)⟩
      have z2 := of_decide_eq_false z2
      refine next_rd (par_rd (va_cons (vpi.mono s9) (va_cons (ve_subN (ve_var (s := 3) (v := nV a2) rfl) (vqi.mono s9) ix2) va_nil)) ?_)
      refine ⟨dep pi, by omega, pi, _, a2 - exts (ps.take ix), some (nV ix), rfl, s3.trans (s8.trans s9), ry.mono s9, m4, fun d hd => he2 d (den_mem mm hd), by omega, by omega, ?_, by omega, by omega, fun z3 => ?_, rfl⟩
      · rw [← w3]
        have := cat_in (a := a2) (b := a2 + m) hpi ix2 (by omega)
        show _ = sl (dens ps) a2 (a2 + m)
        rw [this, show a2 + m - exts (ps.take ix) = a2 - exts (ps.take ix) + m by omega]
      · obtain ⟨z4, _⟩ := lf2 z3
        rw [← z4] at z3
        cases z3
end

end K1

set_option Elab.async false
set_option linter.all false
set_option maxRecDepth 100000
set_option maxHeartbeats 4000000
namespace K1
open PySem L2 W1
/-! ### entries are equal just if they are the same -/
theorem eqv_str {a b : Str} : PyData.eqv (.str a) (.str b) = true ↔ a = b := by
  rw [PyData.eqv]
  exact beq_iff_eq
theorem eqv_oD {a b : Option Str} : PyData.eqv (oD a) (oD b) = true ↔ a = b := by
  cases a with
  | none => cases b with
    | none => simp [oD, PyData.eqv]
    | some y => simp [oD, PyData.eqv]
  | some x => cases b with
    | none => simp [oD, PyData.eqv]
    | some y =>
      show PyData.eqv (.str x) (.str y) = true ↔ _
      rw [eqv_str]
      exact ⟨fun e => by rw [e], fun e => Option.some.inj e⟩
theorem eqv_pair {d e : PyData} (hd : PairD d) (he : PairD e) : PyData.eqv d e = true ↔ d = e := by
  obtain ⟨z, o, rfl, _⟩ := hd
  obtain ⟨y, p, rfl, _⟩ := he
  rw [PyData.eqv, PyData.eqvAll, PyData.eqvAll, PyData.eqvAll, Bool.and_true, Bool.and_eq_true, eqv_str, eqv_oD]
  constructor
  · rintro ⟨rfl, rfl⟩
    rfl
  · intro h
    injection h with h
    injection h with h1 h2
    injection h2 with h2 _
    injection h1 with h1
    refine ⟨h1, ?_⟩
    cases o with
    | none => cases p with
      | none => rfl
      | some y => cases h2
    | some x => cases p with
      | none => cases h2
      | some y => injection h2 with h2; rw [h2]
theorem eqv_ents : ∀ {xs ys : List PyData}, Ents xs → Ents ys → (PyData.eqvAll xs ys = true ↔ xs = ys)
  | [], [], _, _ => by simp [PyData.eqvAll]
  | [], y :: ys, _, _ => by simp [PyData.eqvAll]
  | x :: xs, [], _, _ => by simp [PyData.eqvAll]
  | x :: xs, y :: ys, h, k => by
    rw [PyData.eqvAll, Bool.and_eq_true, eqv_pair (h x (List.mem_cons_self ..)) (k y (List.mem_cons_self ..)), eqv_ents (fun d m => h d (List.mem_cons_of_mem _ m)) (fun d m => k d (List.mem_cons_of_mem _ m))]
    constructor
    · rintro ⟨rfl, rfl⟩; rfl
    · intro z; injection z with z1 z2; exact ⟨z1, z2⟩
theorem win_ents {r : RwD} {a : Nat} {e : Bool} {m : Nat} (h : Ents (den r)) : Ents (win r a e m) := fun d hd => by
  unfold win at hd
  split at hd
  · exact h d (rpt_mem (sl_mem hd))
  · exact h d (sl_mem hd)
theorem win_len {r : RwD} {a : Nat} {e : Bool} {m : Nat} (h1 : e = true → 1 ≤ ext r) (h2 : e = false → a + m ≤ ext r) : (win r a e m).length = m := by
  unfold win
  cases e with
  | true =>
    rw [if_pos rfl, sl_len]
    · omega
    · rw [rpt_len]
      exact Nat.le_trans (Nat.le_succ _) (Nat.le_mul_of_pos_right _ (h1 rfl))
  | false =>
    rw [if_neg Bool.false_ne_true, sl_len]
    · omega
    · exact h2 rfl
theorem win_sl {r : RwD} {a : Nat} {e : Bool} {m d l : Nat} (h1 : e = true → 1 ≤ ext r) (h : d + l ≤ m) : win r (a + d) e l = sl (win r a e m) d (d + l) := by
  unfold win
  cases e with
  | true =>
    have h1 : 1 ≤ (den r).length := h1 rfl
    have := rpt_any (xs := den r) (n := a + d + l + 1) (m := a + m + 1) (a := a + d) (b := a + d + l) (Nat.le_trans (Nat.le_succ _) (Nat.le_mul_of_pos_right _ h1)) (Nat.le_trans (show a + d + l ≤ a + m + 1 by omega) (Nat.le_mul_of_pos_right _ h1))
    rw [if_pos rfl, if_pos rfl, sl_sl (by omega), show a + (d + l) = a + d + l by omega]
    exact this
  | false =>
    rw [if_neg Bool.false_ne_true, if_neg Bool.false_ne_true, sl_sl (by omega), show a + (d + l) = a + d + l by omega]
section
variable {P : Program} {w : World} {K : PySem.W.Frag} {mg : Str → Option Value} {base : Heap} {C : Addr}
/-! ### is_leaf, listed_side -/
def spIl (C : Addr) : Sp := fun vs H Q _ => ∃ (t : Addr) (v : V) (r : RwD) (a : Nat) (e : Bool), vs = [.ref t] ∧ SideAt C H t v r a e ∧ Q (.bl (!e && isLf r)) H
theorem sc_is_leaf : FnScope ["side"] ["side"] (defScope (top 26)) := ⟨rfl, rfl, rfl, by decide +kernel, rfl, by decide +kernel, by decide +kernel⟩
theorem ok_is_leaf {f : Addr} {fd : FuncData} (F : Fun K "is_leaf" "is_leaf" (top 26) f fd) (T : NoR K C) : FnOk P w K mg base CX0 1 f fd ["side"] (spIl C) := by
  refine F.ok sc_is_leaf (fun vs H Q E h => ?_) (fun cdv A outer s H vs Q E hr h => ?_)
  · obtain ⟨t, v, r, a, e, rfl, _⟩ := h
    rfl
  · obtain ⟨t, v, r, a, e, rfl, sd, k⟩ := h
    refine ⟨_, (pss_one (ps_ret (pe_and (pe_not (pe_ix ix_tup (pv 0) pe_int (fun _ _ => rfl))) (pe_one (pe_cmpR op_notN (pe_fld (pe_ix ix_tup (pv 0) pe_int (fun _ _ => rfl)) rfl) pe_non (nomark _)))))), ?_⟩
    refine ⟨_, rfl, t, _, _, _, rfl, rfl, SqT.of sd.tup, atI_nat (j := 2) rfl, e, rfl, _, rfl, ?_⟩
    cases e with
    | true => exact k
    | false =>
      obtain ⟨a0, dx, fs, l, b, p, q, vs, ti, rfl, ha, fl, hp, hb, hl, hc, hlf, hrep, hcat⟩ := sd.row.flds
      refine ⟨_, rfl, t, _, _, _, rfl, rfl, SqT.of sd.tup, atI_nat (j := 0) rfl, a0, C, dx, fs, _, rfl, ha, T.cl, T.n1, fl.leaf, rfl, ?_⟩
      have : (!decide (l = .non)) = isLf r := by
        cases r with
        | leaf es => obtain ⟨t, xs, e, _⟩ := hlf es rfl; rw [e]; rfl
        | rep b n => rw [hl rfl]; rfl
        | cat ps => rw [hl rfl]; rfl
      rw [this]
      exact k
def spLs (C : Addr) (ok : RwD → Prop) : Sp := fun vs H Q _ => ∃ (t : Addr) (v : V) (r : RwD) (a d m : Nat) (e : Bool), vs = [.ref t, nV d, nV m] ∧ SideAt C H t v r a e ∧ Ents (den r) ∧ ok r ∧ ext r ≤ 100000 ∧ a + d + m ≤ 100000 ∧ (e = true → 1 ≤ ext r) ∧ (e = false → a + d + m ≤ ext r) ∧ ∀ p H', Same H H' → H p = none → EL H' p (win r (a + d) e m) → Q (.ref p) H'
theorem sc_listed_side : FnScope ["side", "skip", "many", "row", "at", "endless"] ["side", "skip", "many"] (defScope (top 27)) := ⟨rfl, rfl, rfl, by decide +kernel, rfl, by decide +kernel, by decide +kernel⟩
theorem ok_listed_side {k : Nat} {ok : RwD → Prop} {f : Addr} {fd : FuncData} (F : Fun K "listed_side" "listed_side" (top 27) f fd) (CLi : Cal P w K mg base CX0 k "listed" ["row", "first", "last"] (spLi C ok)) (CLo : Cal P w K mg base CX0 k "listed_rounds" ["base", "first", "last"] (spLo C ok)) : FnOk P w K mg base CX0 (k + 1) f fd ["side", "skip", "many"] (spLs C ok) := by
  refine F.ok sc_listed_side (fun vs H Q E h => ?_) (fun cdv A outer s H vs Q E hr h => ?_)
  · obtain ⟨t, v, r, a, d, m, e, rfl, _⟩ := h
    rfl
  · obtain ⟨t, v, r, a, d, m, e, rfl, sd, he, ho, few, fit, f1, f2, k⟩ := h
    refine ⟨_, (pss_cons (ps_asg (pv 0) (pg_tup rfl (pgs_cons (pg_name (i := 3) sc_listed_side.nd rfl (Or.inl rfl)) (pgs_cons (pg_name (i := 4) sc_listed_side.nd rfl (Or.inl rfl)) (pgs_cons (pg_name (i := 5) sc_listed_side.nd rfl (Or.inl rfl)) pgs_nil)))))
      (pss_cons (ps_if (pt_val (pv 5)) (pss_one (ps_ret (pe_cal CLo hr (by omega) pass0 (pa_cons (pv 3) (pa_cons (pe_op op_add (pv 4) (pv 1)) (pa_cons (pe_op op_add (pe_op op_add (pv 4) (pv 1)) (pv 2)) pa_nil)))))) pss_nil)
      (pss_one (ps_ret (pe_cal CLi hr (by omega) pass0 (pa_cons (pv 3) (pa_cons (pe_op op_add (pv 4) (pv 1)) (pa_cons (pe_op op_add (pe_op op_add (pv 4) (pv 1)) (pv 2)) pa_nil)))))))), ?_⟩
    refine ⟨_, rfl, trip_rd sd.tup ?_⟩
    refine if_be (be_bool (i := 5) (b := e) rfl) fun H3 s3 => ⟨fun z => ?_, fun z => ?_⟩
    · subst z
      refine ret_of (call_rd (va_cons (ve_var (s := 3) (v := v) rfl) (va_cons (ve_addN (ve_var (s := 4) (v := nV a) rfl) (ve_var (s := 1) (v := nV d) rfl)) (va_cons (ve_addN (ve_addN (ve_var (s := 4) (v := nV a) rfl) (ve_var (s := 1) (v := nV d) rfl)) (ve_var (s := 2) (v := nV m) rfl)) va_nil))) ?_)
      exact ⟨v, r, a + d, a + d + m, rfl, sd.row.mono s3, sd.gd, he, ho, by omega, f1 rfl, by omega, few, fun p H' s' np h => k p H' (s3.trans s') (none_of' s3 np) h⟩
    · subst z
      refine next_rd (ret_of (call_rd (va_cons (ve_var (s := 3) (v := v) rfl) (va_cons (ve_addN (ve_var (s := 4) (v := nV a) rfl) (ve_var (s := 1) (v := nV d) rfl)) (va_cons (ve_addN (ve_addN (ve_var (s := 4) (v := nV a) rfl) (ve_var (s := 1) (v := nV d) rfl)) (ve_var (s := 2) (v := nV m) rfl)) va_nil))) ?_))
      exact ⟨v, r, a + d, a + d + m, rfl, sd.row.mono s3, sd.gd, he, ho, by omega, f2 rfl, few, fun p H' s' np h => k p H' (s3.trans s') (none_of' s3 np) h⟩
/-! ### same_entries -/
theorem ne_of_get {xs ys : List PyData} {i : Nat} (h : xs[i]? ≠ ys[i]?) : xs ≠ ys := fun e => h (by rw [e])
def spSm (C : Addr) (ok : RwD → Prop) : Sp := fun vs H Q _ => ∃ (t1 t2 : Addr) (v1 v2 : V) (r1 r2 : RwD) (a1 a2 m : Nat) (e1 e2 : Bool), vs = [.ref t1, .ref t2, nV m] ∧ SideAt C H t1 v1 r1 a1 e1 ∧ SideAt C H t2 v2 r2 a2 e2 ∧ Ents (den r1) ∧ Ents (den r2) ∧ ok r1 ∧ ok r2 ∧ ext r1 ≤ 100000 ∧ ext r2 ≤ 100000 ∧
  a1 + m ≤ 100000 ∧ a2 + m ≤ 100000 ∧ (e1 = true → 1 ≤ ext r1) ∧ (e1 = false → a1 + m ≤ ext r1) ∧ (e2 = true → 1 ≤ ext r2) ∧ (e2 = false → a2 + m ≤ ext r2) ∧ ∀ n H', Same H H' → n ≤ m → (n = m ↔ win r1 a1 e1 m = win r2 a2 e2 m) → Q (nV n) H'
theorem sc_same_entries : FnScope ["left", "right", "many", "done", "chunk", "length", "ones", "others", "one", "other"] ["left", "right", "many"] (defScope (top 28)) := ⟨rfl, rfl, rfl, by decide +kernel, rfl, by decide +kernel, by decide +kernel⟩
theorem ok_same_entries {k : Nat} {ok : RwD → Prop} {f : Addr} {fd : FuncData} (F : Fun K "same_entries" "same_entries" (top 28) f fd) (B : Bl2 mg) (CLs : Cal P w K mg base CX0 k "listed_side" ["side", "skip", "many"] (spLs C ok)) : FnOk P w K mg base CX0 (k + 1) f fd ["left", "right", "many"] (spSm C ok) := by
  refine F.ok sc_same_entries (fun vs H Q E h => ?_) (fun cdv A outer s H vs Q E hr h => ?_)
  · obtain ⟨t1, t2, v1, v2, r1, r2, a1, a2, m, e1, e2, rfl, _⟩ := h
    rfl
  · obtain ⟨t1, t2, v1, v2, r1, r2, a1, a2, m, e1, e2, rfl, sd1, sd2, he1, he2, ho1, ho2, x1, x2, f1, f2, p1, q1, p2, q2, k⟩ := h
    refine ⟨_, (pss_cons (ps_set (i := 3) sc_same_entries.nd rfl (Or.inl rfl) pe_int)
      (pss_cons (ps_set (i := 4) sc_same_entries.nd rfl (Or.inl rfl) pe_int)
      (pss_cons (ps_while PassesOwn.never (pt_cmpR op_lt (pv 3) (pv 2) (nomark _))
        (pss_cons (ps_set (i := 5) sc_same_entries.nd rfl (Or.inl rfl) (pe_callB (call_min2 rfl) rfl B.min (by decide +kernel) (pa_cons (pv 4) (pa_cons (pe_op op_sub (pv 2) (pv 3)) pa_nil))))
      (pss_cons (ps_set (i := 6) sc_same_entries.nd rfl (Or.inl rfl) (pe_cal CLs hr (by omega) pass0 (pa_cons (pv 0) (pa_cons (pv 3) (pa_cons (pv 5) pa_nil)))))
      (pss_cons (ps_set (i := 7) sc_same_entries.nd rfl (Or.inl rfl) (pe_cal CLs hr (by omega) pass0 (pa_cons (pv 1) (pa_cons (pv 3) (pa_cons (pv 5) pa_nil)))))
      (pss_cons (ps_if (pt_cmpR (op_neD hr.units) (pv 6) (pv 7) (nomark _)) (pss_one (ps_for PassesOwn.never rfl (RZ.pi_zipA rfl B.zip (pa_cons (pv 6) (pa_cons (pv 7) pa_nil))) (pg_tup rfl (pgs_cons (pg_name (i := 8) sc_same_entries.nd rfl (Or.inl rfl)) (pgs_cons (pg_name (i := 9) sc_same_entries.nd rfl (Or.inl rfl)) pgs_nil)))
        (pss_cons (ps_if (pt_cmpR (op_neD hr.units) (pv 8) (pv 9) (nomark _)) (pss_one (ps_ret (pv 3))) pss_nil)
      (pss_one (ps_set (i := 3) sc_same_entries.nd rfl (Or.inl rfl) (pe_op op_add (pv 3) pe_int)))))) pss_nil)
      (pss_cons (ps_set (i := 3) sc_same_entries.nd rfl (Or.inl rfl) (pe_op op_add (pv 3) (pv 5)))
      (pss_one (ps_set (i := 4) sc_same_entries.nd rfl (Or.inl rfl) (pe_op op_mul (pv 4) pe_int)))))))))
      (pss_one (ps_ret (pv 2)))))), ?_⟩
    have SL : 100000 ≤ sizeLine := by decide
    generalize hL1 : win r1 a1 e1 m = L1 at k
    generalize hL2 : win r2 a2 e2 m = L2 at k
    have n1 : Ents L1 := by rw [← hL1]; exact win_ents he1
    have n2 : Ents L2 := by rw [← hL2]; exact win_ents he2
    have l1 : L1.length = m := by rw [← hL1]; exact win_len p1 q1
    have l2 : L2.length = m := by rw [← hL2]; exact win_len p2 q2
    refine while_be (fun μ σ H' => ∃ (dn ch : Nat) (v5 v6 v7 v8 v9 : Option V), σ = [some (.ref t1), some (.ref t2), some (nV m), some (nV dn), some (nV ch), v5, v6, v7, v8, v9] ∧ Same H H' ∧ dn ≤ m ∧ 1 ≤ ch ∧ (ch ≤ 4 * dn + 32 ∨ dn = m) ∧ sl L1 0 dn = sl L2 0 dn ∧ μ = m - dn) (m - 0) ⟨0, 32, none, none, none, none, none, rfl, Same.refl _, Nat.zero_le _, by omega, .inl (by omega), by rw [sl_self, sl_self], rfl⟩ ?_
    rintro μ σ H1 ⟨dn, ch, v5, v6, v7, v8, v9, rfl, s1, dm, c1, c2, eq, rfl⟩
    refine ⟨_, be_ltN (ve_var (s := 3) (v := nV dn) rfl) (ve_var (s := 2) (v := nV m) rfl), fun z H2 s2 => ?_, fun z H2 s2 => ?_⟩
    · have z := of_decide_eq_true z
      obtain ⟨ln, hln⟩ : ∃ ln : Nat, ln = min ch (m - dn) := ⟨_, rfl⟩
      refine set_v (s := 5) (v := nV ln) (VE.to (ve_min (i := (ch : Nat)) (j := ((m - dn : Nat) : Int)) (ve_var (s := 4) rfl) (ve_subN (ve_var (s := 2) (v := nV m) rfl) (ve_var (s := 3) (v := nV dn) rfl) dm)) (by split <;> omega)) ?_
      have s3 := s1.trans s2
      refine asg_of (call_rd (va_cons (ve_var (s := 0) (v := .ref t1) rfl) (va_cons (ve_var (s := 3) (v := nV dn) rfl) (va_cons (ve_var (s := 5) (v := nV ln) rfl) va_nil))) ?_)
      refine ⟨t1, v1, r1, a1, dn, ln, e1, rfl, sd1.mono s3, he1, ho1, x1, by omega, p1, fun z => by have := q1 z; omega, fun y1 H4 s4 _ h4 => ?_⟩
      dsimp only
      refine seq_rd (asg_of (call_rd (va_cons (ve_var (s := 1) (v := .ref t2) rfl) (va_cons (ve_var (s := 3) (v := nV dn) rfl) (va_cons (ve_var (s := 5) (v := nV ln) rfl) va_nil))) ?_))
      refine ⟨t2, v2, r2, a2, dn, ln, e2, rfl, sd2.mono (s3.trans s4), he2, ho2, x2, by omega, p2, fun z => by have := q2 z; omega, fun y2 H5 s5 _ h5 => ?_⟩
      have s6 := (s3.trans s4).trans s5
      rw [win_sl p1 (show dn + ln ≤ m by omega), hL1] at h4
      rw [win_sl p2 (show dn + ln ≤ m by omega), hL2] at h5
      obtain ⟨xs, hx, ax⟩ := h4.mono s5
      obtain ⟨ys, hy, ay⟩ := h5
      have m1 : Ents (sl L1 dn (dn + ln)) := fun d hd => n1 d (sl_mem hd)
      have m2 : Ents (sl L2 dn (dn + ln)) := fun d hd => n2 d (sl_mem hd)
      have lx := ax.len
      have ly := ay.len
      have k1 : (sl L1 dn (dn + ln)).length = ln := by rw [sl_len (by omega)]; omega
      have k2 : (sl L2 dn (dn + ln)).length = ln := by rw [sl_len (by omega)]; omega
      have test : BE (tTest (tOp (rNeD K) (tVar 6) (tVar 7))) (!PyData.eqv (.list (sl L1 dn (dn + ln))) (.list (sl L2 dn (dn + ln)))) [some (.ref t1), some (.ref t2), some (nV m), some (nV dn), some (nV ch), some (nV ln), some (.ref y1), some (.ref y2), v8, v9] H5 := fun H6 s7 Q k =>
        ⟨_, rfl, _, rfl, _, _, .lst (SqL.of (s7 _ _ hx)) (dp_ents (ax.mono s7) m1), .lst (SqL.of (s7 _ _ hy)) (dp_ents (ay.mono s7) m2), shaped_list m1, shaped_list m2, _, rfl, k H6 (Same.refl _)⟩
      have ev : PyData.eqv (.list (sl L1 dn (dn + ln))) (.list (sl L2 dn (dn + ln))) = true ↔ sl L1 dn (dn + ln) = sl L2 dn (dn + ln) := by
        rw [PyData.eqv]
        exact eqv_ents m1 m2
      dsimp only
      refine seq_rd (if_be test fun H6 s7 => ⟨fun z2 => ?_, fun z2 => ?_⟩)
      · rw [Bool.not_eq_true'] at z2
        have ne : sl L1 dn (dn + ln) ≠ sl L2 dn (dn + ln) := fun e => by
          rw [ev.mpr e] at z2
          cases z2
        have hx6 := s7 _ _ hx
        have hy6 := s7 _ _ hy
        refine ⟨_, rfl, _, rfl, y1, y2, xs, ys, rfl, .inl ⟨SqL.of hx6, SqL.of hy6, ?_⟩⟩
        refine RZ.for_zipL (xs := xs) (ys := ys) (by omega) (fun i σ H' => ∃ v8 v9, σ = [some (.ref t1), some (.ref t2), some (nV m), some (nV (dn + i)), some (nV ch), some (nV ln), some (.ref y1), some (.ref y2), v8, v9] ∧ Same H6 H' ∧ (sl L1 dn (dn + ln)).take i = (sl L2 dn (dn + ln)).take i) ⟨v8, v9, rfl, Same.refl _, by rw [List.take_zero, List.take_zero]⟩
          (fun i σ H' z => by obtain ⟨_, _, _, s8, _⟩ := z; exact ⟨SqL.of (s8 _ _ hx6), SqL.of (s8 _ _ hy6)⟩) (fun i x y T0 σ H' gx gy z nT => ?_) (fun σ H' z => ?_)
        · obtain ⟨v8', v9', rfl, s8, tk⟩ := z
          refine pair_rd (i := 8) (j := 9) ?_
          have s9 := same_new (o := .tup [x, y]) s8 nT
          have il : i < ln := by
            have := (List.getElem?_eq_some_iff.mp gx).1
            omega
          obtain ⟨d, hd⟩ : ∃ d, (sl L1 dn (dn + ln))[i]? = some d := ⟨_, List.getElem?_eq_getElem (by omega)⟩
          obtain ⟨e, he⟩ : ∃ e, (sl L2 dn (dn + ln))[i]? = some e := ⟨_, List.getElem?_eq_getElem (by omega)⟩
          obtain ⟨x', gx', ad⟩ := ax.at hd
          obtain ⟨y', gy', ae⟩ := ay.at he
          rw [gx] at gx'
          cases gx'
          rw [gy] at gy'
          cases gy'
          have pd1 := m1 d (List.mem_of_getElem? hd)
          have pd2 := m2 e (List.mem_of_getElem? he)
          have ad9 := (ad.mono s7).mono s9
          have ae9 := (ae.mono s7).mono s9
          generalize upd H' T0 (.tup [x, y]) = H9 at s9 ad9 ae9 ⊢
          have test2 : BE (tTest (tOp (rNeD K) (tVar 8) (tVar 9))) (!PyData.eqv d e) [some (.ref t1), some (.ref t2), some (nV m), some (nV (dn + i)), some (nV ch), some (nV ln), some (.ref y1), some (.ref y2), some x, some y] H9 := fun HA sA Q k =>
            ⟨_, rfl, _, rfl, _, _, dp_pair (ad9.mono sA) pd1, dp_pair (ae9.mono sA) pd2, (shaped_pair pd1).1, (shaped_pair pd2).1, _, rfl, k HA (Same.refl _)⟩
          refine if_be test2 fun HA sA => ⟨fun z3 => ?_, fun z3 => ?_⟩
          · rw [Bool.not_eq_true'] at z3
            have de : d ≠ e := fun q => by
              rw [(eqv_pair pd1 pd2).mpr q] at z3
              cases z3
            refine ⟨_, rfl, k (dn + i) HA (s6.trans (s7.trans (s9.trans sA))) (by omega) ⟨fun q => absurd q (by have := hln; omega), fun q => ?_⟩⟩
            rw [q, he] at hd
            exact (de (Option.some.inj hd).symm).elim
          · rw [Bool.not_eq_false'] at z3
            have de := (eqv_pair pd1 pd2).mp z3
            refine next_rd (set_v (s := 3) (VE.to (n := dn + (i + 1)) (ve_addN (ve_var (s := 3) (v := nV (dn + i)) rfl) (ve_c (v := nV 1))) (by omega)) ?_)
            refine ⟨some x, some y, rfl, s9.trans sA, ?_⟩
            rw [List.take_add_one, List.take_add_one, tk, hd, he, de]
        · obtain ⟨_, _, _, _, tk⟩ := z
          rw [lx, k1, List.take_of_length_le (by omega), List.take_of_length_le (by omega)] at tk
          exact (ne tk).elim
      · rw [Bool.not_eq_false'] at z2
        have e2 := ev.mp z2
        refine next_rd ?_
        dsimp only
        refine seq_rd (set_v (s := 3) (ve_addN (ve_var (s := 3) (v := nV dn) rfl) (ve_var (s := 5) (v := nV ln) rfl)) ?_)
        dsimp only
        refine set_v (s := 4) (VE.to (n := ch * 4) (ve_mul (i := (ch : Nat)) (j := 4) (ve_var (s := 4) rfl) ve_int (.inr ⟨by decide, by decide⟩)) (by omega)) ?_
        refine ⟨m - (dn + ln), by omega, dn + ln, ch * 4, some (nV ln), some (.ref y1), some (.ref y2), v8, v9, rfl, s6.trans s7, by omega, by omega, ?_, ?_, rfl⟩
        · rcases c2 with c2 | c2
          · by_cases c : ch ≤ m - dn
            · left; omega
            · right; omega
          · omega
        · rw [← sl_app (Nat.zero_le dn) (show dn ≤ dn + ln by omega) (by omega), ← sl_app (xs := L2) (Nat.zero_le dn) (show dn ≤ dn + ln by omega) (by omega), eq, e2]
    · have z := of_decide_eq_false z
      have e : dn = m := by omega
      refine ⟨_, rfl, k m H2 (s1.trans s2) (Nat.le_refl _) ⟨fun _ => ?_, fun _ => rfl⟩⟩
      rw [e] at eq
      have z1 : sl L1 0 m = L1 := by rw [← l1]; exact sl_all
      have z2 : sl L2 0 m = L2 := by rw [← l2]; exact sl_all
      rw [z1, z2] at eq
      exact eq
end

end K1

set_option Elab.async false
set_option linter.all false
set_option maxRecDepth 100000
set_option maxHeartbeats 4000000
namespace K1
open PySem L2 W1
theorem hr1 {k : Nat} {A : Around} (r : Room k A) : A.units + 1 < cLine := by have := r.un; omega
/-! ### what stands at a value is one thing -/
mutual
theorem at_fun {H : Hp} : ∀ {v : V} {d e : PyData}, At H v d → At H v e → d = e
  | _, _, _, .non, .non => rfl
  | _, _, _, .bl b, .bl _ => rfl
  | _, _, _, .int i, .int _ => rfl
  | _, _, _, .str s _, .str _ _ => rfl
  | _, _, _, .lst e h, b => by
    cases b with
    | lst e' h' => rw [e] at e'; cases e'; rw [atAll_fun h h']
    | tup e' h' => rw [e] at e'; cases e'
    | dic e' => rw [e] at e'; cases e'
  | _, _, _, .tup e h, b => by
    cases b with
    | lst e' h' => rw [e] at e'; cases e'
    | tup e' h' => rw [e] at e'; cases e'; rw [atAll_fun h h']
    | dic e' => rw [e] at e'; cases e'
  | _, _, _, .dic e, b => by
    cases b with
    | lst e' h' => rw [e] at e'; cases e'
    | tup e' h' => rw [e] at e'; cases e'
    | dic e' => rfl
theorem atAll_fun {H : Hp} : ∀ {vs : List V} {ds es : List PyData}, AtAll H vs ds → AtAll H vs es → ds = es
  | _, _, _, .nil, .nil => rfl
  | _, _, _, .cons h t, .cons h' t' => by rw [at_fun h h', atAll_fun t t']
end
theorem leaf_one {C : Addr} {H : Hp} {es : List PyData} {r : RwD} {v : V} (h : RwAt C H (.leaf es) v) (k : RwAt C H r v) : r = .leaf es := by
  rw [RwAt] at h
  obtain ⟨a, dx, fs, t, p, q, vs, rfl, ha, fl, ht, as, _⟩ := h
  cases r with
  | leaf es' =>
    rw [RwAt] at k
    obtain ⟨a', dx', fs', t', p', q', vs', e, ha', fl', ht', as', _⟩ := k
    cases e
    rw [ha] at ha'
    cases ha'
    have e1 := fl.leaf.symm.trans fl'.leaf
    injection e1 with e1
    injection e1 with e1
    subst e1
    rw [ht] at ht'
    cases ht'
    rw [atAll_fun as' as]
  | rep b n =>
    rw [RwAt] at k
    obtain ⟨a', dx', fs', p', q', bv, e, ha', fl', _⟩ := k
    cases e
    rw [ha] at ha'
    cases ha'
    have e1 := fl.leaf.symm.trans fl'.leaf
    cases e1
  | cat ps =>
    rw [RwAt] at k
    obtain ⟨a', dx', fs', p', q', vs', e, ha', fl', _⟩ := k
    cases e
    rw [ha] at ha'
    cases ha'
    have e1 := fl.leaf.symm.trans fl'.leaf
    cases e1
/-- two sides that are the same object and place, one of them of a leaf -/
theorem side_one {C : Addr} {H : Hp} {r1 r2 : RwD} {p : V} (h1 : RwAt C H r1 p) (h2 : RwAt C H r2 p) (lf : isLf r1 = true ∨ isLf r2 = true) : r1 = r2 := by
  rcases lf with lf | lf
  · cases r1 with
    | leaf es => exact (leaf_one h1 h2).symm
    | _ => cases lf
  · cases r2 with
    | leaf es => exact leaf_one h2 h1
    | _ => cases lf
theorem quad_rd {K : PySem.W.Frag} {i j l n : Nat} {t : Addr} {x y z u : V} {σ : St} {H : Hp} {Q : St → Hp → Prop} (ht : H t = some (.tup [x, y, z, u])) (h : Q ((((σ.set i (some x)).set j (some y)).set l (some z)).set n (some u)) H) : gTup K 4 (gCons (gName i) (gCons (gName j) (gCons (gName l) (gCons (gName n) gNil)))) (.ref t) σ H Q :=
  ⟨t, [x, y, z, u], rfl, SqT.of ht, rfl, x, [y, z, u], rfl, y, [z, u], rfl, z, [u], rfl, u, [], rfl, rfl, h⟩
section
variable {P : Program} {w : World} {K : PySem.W.Frag} {mg : Str → Option Value} {base : Heap} {C : Addr}
/-! ### agreed, one of the two a leaf -/
def spAg (C : Addr) (ok : RwD → Prop) : Sp := fun vs H Q _ => ∃ (v1 v2 : V) (r1 r2 : RwD) (a1 a2 m : Nat), vs = [v1, nV a1, v2, nV a2, nV m] ∧ RwAt C H r1 v1 ∧ RwAt C H r2 v2 ∧ good r1 ∧ good r2 ∧ Ents (den r1) ∧ Ents (den r2) ∧ ok r1 ∧ ok r2 ∧ ext r1 ≤ 100000 ∧ ext r2 ≤ 100000 ∧ a1 + m ≤ ext r1 ∧ a2 + m ≤ ext r2 ∧ (isLf r1 = true ∨ isLf r2 = true) ∧
  ∀ n H', Same H H' → n ≤ m → (n = m ↔ sl (den r1) a1 (a1 + m) = sl (den r2) a2 (a2 + m)) → Q (nV n) H'
theorem sc_agreed : FnScope ["one", "first", "other", "second", "many", "links", "periods", "tasks", "begin", "left", "right", "length", "upper", "lower", "shift", "period", "least", "same"] ["one", "first", "other", "second", "many"] (defScope (top 29)) := ⟨rfl, rfl, rfl, by decide +kernel, rfl, by decide +kernel, by decide +kernel⟩
theorem ok_agreed {n k : Nat} {f : Addr} {fd : FuncData} (F : Fun K "agreed" "agreed" (top 29) f fd) (B : Bl2 mg) (T : NoR K C) (Y : IdEq K C) (hk : 2 ≤ k) (CSe : Cal P w K mg base CX0 2 "settled" ["side", "many"] (spSe C)) (CIl : Cal P w K mg base CX0 1 "is_leaf" ["side"] (spIl C))
    (CSm : Cal P w K mg base CX0 k "same_entries" ["left", "right", "many"] (spSm C (dlt n))) : FnOk P w K mg base CX0 (k + 1) f fd ["one", "first", "other", "second", "many"] (spAg C (dlt n)) := by
  refine F.ok sc_agreed (fun vs H Q E h => ?_) (fun cdv A outer s H vs Q E hr h => ?_)
  · obtain ⟨v1, v2, r1, r2, a1, a2, m, rfl, _⟩ := h
    rfl
  · obtain ⟨v1, v2, r1, r2, a1, a2, m, rfl, h1, h2, g1, g2, n1, n2, o1, o2, x1, x2, f1, f2, lf, k⟩ := h
    refine ⟨_, (pss_cons (ps_set (i := 5) sc_agreed.nd rfl (Or.inl rfl) pe_dnewK)
      (pss_cons (ps_set (i := 6) sc_agreed.nd rfl (Or.inl rfl) pe_dnewK)
      (pss_cons (ps_set (i := 7) sc_agreed.nd rfl (Or.inl rfl) (pe_lst pa_nil))
      (pss_mid (ps_if (pt_cmpR op_gt (pv 4) pe_int (nomark _)) (pss_one (ps_expr (pe_bm PySem.F.plainAttrs_list PySem.F.slot_list_append PySem.F.type_list_append mt_append (pv 7) (pa_cons (pe_tup (pa_cons pe_int (pa_cons (pe_tup (pa_cons (pv 0) (pa_cons (pv 1) (pa_cons pe_bl pa_nil)))) (pa_cons (pe_tup (pa_cons (pv 2) (pa_cons (pv 3) (pa_cons pe_bl pa_nil)))) (pa_cons (pv 4) pa_nil))))) pa_nil)))) pss_nil)
      (pss_cons (ps_while PassesOwn.never (pt_truth (pv 7) (fun _ => rfl))
        (pss_cons (ps_asg (pe_bm0 PySem.F.plainAttrs_list PySem.F.slot_list_pop PySem.F.type_list_pop mt_pop (pv 7)) (pg_tup rfl (pgs_cons (pg_name (i := 8) sc_agreed.nd rfl (Or.inl rfl)) (pgs_cons (pg_name (i := 9) sc_agreed.nd rfl (Or.inl rfl)) (pgs_cons (pg_name (i := 10) sc_agreed.nd rfl (Or.inl rfl)) (pgs_cons (pg_name (i := 11) sc_agreed.nd rfl (Or.inl rfl)) pgs_nil))))))
      (pss_cons (ps_if (pt_cmpR op_eq (pv 11) pe_int (nomark _)) pss_dead pss_nil)
      (pss_cons (ps_set (i := 9) sc_agreed.nd rfl (Or.inl rfl) (pe_cal CSe hr (by omega) pass0 (pa_cons (pv 9) (pa_cons (pv 11) pa_nil))))
      (pss_cons (ps_set (i := 10) sc_agreed.nd rfl (Or.inl rfl) (pe_cal CSe hr (by omega) pass0 (pa_cons (pv 10) (pa_cons (pv 11) pa_nil))))
      (pss_cons (ps_if (pt_cmpR (op_eqSide (C := C) Y (hr1 hr)) (pv 9) (pv 10) (nomark _)) (pss_one ps_continue) pss_nil)
      (pss_cons (ps_if (PW.pt (pw_and (pt_val (pe_ix ix_tup (pv 9) pe_int (fun _ _ => rfl))) (pw_and1 (pt_val (pe_ix ix_tup (pv 10) pe_int (fun _ _ => rfl)))))) pss_dead (pss_one (ps_if (PW.pt (pw_or (pt_val (pe_cal CIl hr (by omega) pass0 (pa_cons (pv 9) pa_nil))) (pw_or1 (pt_val (pe_cal CIl hr (by omega) pass0 (pa_cons (pv 10) pa_nil)))))) (pss_cons (ps_set (i := 17) sc_agreed.nd rfl (Or.inl rfl) (pe_cal CSm hr (by omega) pass0 (pa_cons (pv 9) (pa_cons (pv 10) (pa_cons (pv 11) pa_nil)))))
      (pss_cons (ps_if (pt_cmpR op_lt (pv 17) (pv 11) (nomark _)) (pss_one (ps_ret (pe_op op_add (pv 8) (pv 17)))) pss_nil)
      (pss_one ps_continue))) pss_nil)))
      (pss_one ps_dead))))))))
      (pss_one (ps_ret (pv 4)))))))), ?_⟩
    have SL : 100000 ≤ sizeLine := by decide
    refine fun d1 nd1 => ?_
    have s1 := same_new (o := .dK []) (Same.refl H) nd1
    refine fun d2 nd2 => ?_
    have s2 := same_new (o := .dK []) s1 nd2
    refine ⟨Nat.zero_le _, fun tk ntk => ?_⟩
    have s3 := same_new (o := .lst []) s2 ntk
    have ntk0 := none_of' s2 ntk
    have htk : upd (upd (upd H d1 (.dK [])) d2 (.dK [])) tk (.lst []) tk = some (.lst []) := upd_same
    generalize upd (upd (upd H d1 (.dK [])) d2 (.dK [])) tk (.lst []) = H3 at s3 htk ⊢
    let Pv : Nat → St → Hp → Prop := fun c σ H' => ∃ (w8 w9 w10 w11 w17 : Option V), σ = [some v1, some (nV a1), some v2, some (nV a2), some (nV m), some (.ref d1), some (.ref d2), some (.ref tk), w8, w9, w10, w11, none, none, none, none, none, w17] ∧ Same H H' ∧
      ((c = 1 ∧ 1 ≤ m ∧ ∃ tq t1 t2, H' tk = some (.lst [.ref tq]) ∧ H' tq = some (.tup [nV 0, .ref t1, .ref t2, nV m]) ∧ H' t1 = some (.tup [v1, nV a1, .bl false]) ∧ H' t2 = some (.tup [v2, nV a2, .bl false])) ∨ (c = 0 ∧ H' tk = some (.lst []) ∧ sl (den r1) a1 (a1 + m) = sl (den r2) a2 (a2 + m)))
    refine ⟨fun σ H' => ∃ c, Pv c σ H', ?_, fun σ H4 hP => ?_⟩
    · refine if_be (be_gtN (ve_var (s := 4) (v := nV m) rfl) (ve_c (v := nV 0))) fun H4 s4 => ⟨fun z => ?_, fun z => ?_⟩
      · have z := of_decide_eq_true z
        have e4 := s4 _ _ htk
        refine ⟨_, rfl, .inl ⟨rfl, _, SqL.of e4⟩, ?_⟩
        refine ⟨_, rfl, _, rfl, by show 3 ≤ sizeLine; decide, fun t1 nt1 => ⟨_, rfl, _, rfl, by show 3 ≤ sizeLine; decide, fun t2 nt2 => ⟨_, rfl, by show 4 ≤ sizeLine; decide, fun tq ntq => ?_⟩⟩⟩
        have u1 := same_new (o := .tup [v1, nV a1, .bl false]) (Same.refl H4) nt1
        have u2 := same_new (o := .tup [v2, nV a2, .bl false]) u1 nt2
        have u3 := same_new (o := .tup [nV 0, .ref t1, .ref t2, nV m]) u2 ntq
        have q3 : upd (upd (upd H4 t1 (.tup [v1, nV a1, .bl false])) t2 (.tup [v2, nV a2, .bl false])) tq (.tup [nV 0, .ref t1, .ref t2, nV m]) tq = some (.tup [nV 0, .ref t1, .ref t2, nV m]) := upd_same
        have q1 : upd (upd (upd H4 t1 (.tup [v1, nV a1, .bl false])) t2 (.tup [v2, nV a2, .bl false])) tq (.tup [nV 0, .ref t1, .ref t2, nV m]) t1 = some (.tup [v1, nV a1, .bl false]) := same_new (Same.refl _) ntq _ _ (same_new (Same.refl _) nt2 _ _ upd_same)
        have q2 : upd (upd (upd H4 t1 (.tup [v1, nV a1, .bl false])) t2 (.tup [v2, nV a2, .bl false])) tq (.tup [nV 0, .ref t1, .ref t2, nV m]) t2 = some (.tup [v2, nV a2, .bl false]) := same_new (Same.refl _) ntq _ _ upd_same
        have e5 := u3 _ _ e4
        refine ⟨tk, [], _, rfl, rfl, e5, by show 0 < sizeLine; omega, 1, none, none, none, none, none, rfl, ?_, .inl ⟨rfl, z, tq, t1, t2, upd_same, ?_, ?_, ?_⟩⟩
        · exact same_updL (s3.trans (s4.trans u3)) ntk0
        · rw [upd_ne (ne_of q3 e5 (fun z => nomatch z))]
          exact q3
        · rw [upd_ne (ne_of q1 e5 (fun z => nomatch z))]
          exact q1
        · rw [upd_ne (ne_of q2 e5 (fun z => nomatch z))]
          exact q2
      · have z := of_decide_eq_false z
        have m0 : m = 0 := by omega
        refine ⟨0, none, none, none, none, none, rfl, s3.trans s4, .inr ⟨rfl, s4 _ _ htk, ?_⟩⟩
        rw [m0, sl_nil (by omega), sl_nil (by omega)]
    obtain ⟨c0, hP⟩ := hP
    refine while_be Pv c0 hP ?_
    rintro c σ H5 ⟨w8, w9, w10, w11, w17, rfl, s5, hc⟩
    rcases hc with ⟨rfl, m1, tq, t1, t2, htk5, htq, ht1, ht2⟩ | ⟨rfl, htk5, eq⟩
    · refine ⟨true, fun H6 s6 Q q => ⟨_, rfl, _, .inl ⟨_, SqL.of (s6 _ _ htk5), rfl⟩, q H6 (Same.refl _)⟩, fun _ H6 s6 => ?_, fun z => (by cases z)⟩
      have s7 := s5.trans s6
      have htk6 := s6 _ _ htk5
      refine ⟨_, rfl, .inl ⟨rfl, _, SqL.of htk6⟩, tk, _, .ref tq, rfl, rfl, htk6, rfl, ?_⟩
      have s8 := same_updL (o := .lst []) s7 ntk0
      have k1 : upd H6 tk (.lst []) tq = some (.tup [nV 0, .ref t1, .ref t2, nV m]) := by
        rw [upd_ne (ne_of (s6 _ _ htq) htk6 (fun z => nomatch z))]
        exact s6 _ _ htq
      have k2 : upd H6 tk (.lst []) t1 = some (.tup [v1, nV a1, .bl false]) := by
        rw [upd_ne (ne_of (s6 _ _ ht1) htk6 (fun z => nomatch z))]
        exact s6 _ _ ht1
      have k3 : upd H6 tk (.lst []) t2 = some (.tup [v2, nV a2, .bl false]) := by
        rw [upd_ne (ne_of (s6 _ _ ht2) htk6 (fun z => nomatch z))]
        exact s6 _ _ ht2
      have k4 : upd H6 tk (.lst []) tk = some (.lst []) := upd_same
      show gTup _ 4 _ (.ref tq) _ (upd H6 tk (.lst [])) _
      generalize upd H6 tk (.lst []) = H7 at s8 k1 k2 k3 k4 ⊢
      refine quad_rd k1 ?_
      dsimp only
      refine seq_rd (if_be (be_eqN (ve_var (s := 11) (v := nV m) rfl) (ve_c (v := nV 0))) fun H8 s9 => ⟨fun z => ?_, fun z => ?_⟩)
      · have := of_decide_eq_true z
        omega
      have sd1 : SideAt C H8 t1 v1 r1 a1 false := ⟨s9 _ _ k2, h1.mono (s8.trans s9), g1⟩
      have sd2 : SideAt C H8 t2 v2 r2 a2 false := ⟨s9 _ _ k3, h2.mono (s8.trans s9), g2⟩
      refine next_rd ?_
      dsimp only
      refine seq_rd (asg_of (call_rd (va_cons (ve_var (s := 9) (v := .ref t1) rfl) (va_cons (ve_var (s := 11) (v := nV m) rfl) va_nil)) ?_))
      refine ⟨t1, v1, r1, a1, m, rfl, sd1, n1, f1, m1, x1, fun t1' v1' r1' a1' e1' H9 s10 sd1' n1' x1' w1' p1' q1' dl1 la1 lf1 => ?_⟩
      dsimp only
      refine seq_rd (asg_of (call_rd (va_cons (ve_var (s := 10) (v := .ref t2) rfl) (va_cons (ve_var (s := 11) (v := nV m) rfl) va_nil)) ?_))
      refine ⟨t2, v2, r2, a2, m, rfl, sd2.mono s10, n2, f2, m1, x2, fun t2' v2' r2' a2' e2' HA s11 sd2' n2' x2' w2' p2' q2' dl2 la2 lf2 => ?_⟩
      have sd1' := sd1'.mono s11
      have sA := ((s8.trans s9).trans s10).trans s11
      have kA := s11 _ _ (s10 _ _ (s9 _ _ k4))
      have lf' : isLf r1' = true ∨ isLf r2' = true := lf.imp (fun z => by rw [(lf1 z).1]; exact z) (fun z => by rw [(lf2 z).1]; exact z)
      obtain ⟨q1, dq1, fq1, _, _, _, _, _, _, rfl, hq1, _⟩ := sd1'.row.flds
      obtain ⟨q2, dq2, fq2, _, _, _, _, _, _, rfl, hq2, _⟩ := sd2'.row.flds
      have test : BE (tTest (tOp (rEqSide C) (tVar 9) (tVar 10))) (decide (q1 = q2) && (decide (((a1' : Nat) : Int) = ((a2' : Nat) : Int)) && decide (e1' = e2'))) [some v1, some (nV a1), some v2, some (nV a2), some (nV m), some (.ref d1), some (.ref d2), some (.ref tk), some (nV 0), some (.ref t1'), some (.ref t2'), some (nV m), none, none, none, none, none, w17] HA := fun HB sB Q k =>
        ⟨_, rfl, _, rfl, t1', t2', q1, q2, dq1, dq2, fq1, fq2, _, _, _, _, rfl, rfl, sB _ _ sd1'.tup, sB _ _ sd2'.tup, sB _ _ hq1, sB _ _ hq2, _, rfl, k HB (Same.refl _)⟩
      dsimp only
      refine seq_rd (if_be test fun HB sB => ⟨fun z => ?_, fun z => ?_⟩)
      · rw [Bool.and_eq_true, Bool.and_eq_true] at z
        obtain ⟨z1, z2, z3⟩ := z
        have z1 := of_decide_eq_true z1
        have z2 := of_decide_eq_true z2
        have z3 := of_decide_eq_true z3
        subst z1 z3
        have za : a1' = a2' := by omega
        have e := side_one sd1'.row sd2'.row lf'
        refine ⟨0, by omega, some (nV 0), some (.ref t1'), some (.ref t2'), some (nV m), w17, rfl, sA.trans sB, .inr ⟨rfl, sB _ _ kA, ?_⟩⟩
        rw [← w1', ← w2', e, za]
      refine next_rd ?_
      dsimp only
      have sdB1 := sd1'.mono sB
      have sdB2 := sd2'.mono sB
      have ee : (e1' && e2') = false := by
        rcases lf with l | l
        · rw [(lf1 l).2.2.2]; rfl
        · rw [(lf2 l).2.2.2, Bool.and_false]
      have t2e : ∀ {t : Addr} {v : V} {a : Nat} {e : Bool} {i : Nat} {σ : St} {H : Hp}, σ[i]? = some (some (.ref t)) → H t = some (.tup [v, nV a, .bl e]) → BE (tB (tOp (rIxT K) (tVar i) (tC (.int 2)))) e σ H := fun e1 ht H2 s Q k => ⟨_, e1, _, _, _, _, rfl, rfl, SqT.of (s _ _ ht), atI_nat (j := 2) rfl, _, rfl, k H2 (Same.refl _)⟩
      have tle : ∀ {t : Addr} {v : V} {r : RwD} {a : Nat} {e : Bool} {i : Nat} {σ : St} {H : Hp}, σ[i]? = some (some (.ref t)) → SideAt C H t v r a e → BE (tB (tCall (spIl C) [] E0 (tCons (tVar i) tNil))) (!e && isLf r) σ H := fun e1 sd H2 s Q k => ⟨_, e1, _, _, _, _, _, rfl, sd.mono s, _, rfl, k H2 (Same.refl _)⟩
      refine seq_rd (if_be (be_and (t2e (i := 9) rfl sdB1.tup) fun _ => t2e (i := 10) rfl sdB2.tup) fun HC sC => ⟨fun z => ?_, fun z => ?_⟩)
      · rw [ee] at z
        cases z
      have sdC1 := sdB1.mono sC
      have sdC2 := sdB2.mono sC
      have ll : ((!e1' && isLf r1') || (!e2' && isLf r2')) = true := by
        rcases lf with l | l
        · rw [(lf1 l).2.2.2, (lf1 l).1, l]; rfl
        · rw [(lf2 l).2.2.2, (lf2 l).1, l, Bool.or_eq_true]; exact .inr rfl
      refine if_be (be_or (tle (i := 9) rfl sdC1) fun _ => tle (i := 10) rfl sdC2) fun HD sD => ⟨fun _ => ?_, fun z => ?_⟩
      · have sdD1 := sdC1.mono sD
        have sdD2 := sdC2.mono sD
        dsimp only
        refine seq_rd (asg_of (call_rd (va_cons (ve_var (s := 9) (v := .ref t1') rfl) (va_cons (ve_var (s := 10) (v := .ref t2') rfl) (va_cons (ve_var (s := 11) (v := nV m) rfl) va_nil))) ?_))
        refine ⟨t1', t2', _, _, r1', r2', a1', a2', m, e1', e2', rfl, sdD1, sdD2, n1', n2', ?_, ?_, x1', x2', by omega, by omega, fun z => ?_, q1', fun z => ?_, q2', fun n HE sE nm iff => ?_⟩
        · unfold dlt at o1 ⊢; omega
        · unfold dlt at o2 ⊢; omega
        · have := p1' z; omega
        · have := p2' z; omega
        have sF := ((sA.trans sB).trans (sC.trans sD)).trans sE
        rw [w1', w2'] at iff
        dsimp only
        refine seq_rd (if_be (be_ltN (ve_var (s := 17) (v := nV n) rfl) (ve_var (s := 11) (v := nV m) rfl)) fun HG sG => ⟨fun z => ?_, fun z => ?_⟩)
        · refine ret_of ((ve_addN (i := 0) (j := n) (ve_var (s := 8) rfl) (ve_var (s := 17) rfl)) HG (Same.refl _) _ ?_)
          rw [Nat.zero_add]
          exact k n HG (sF.trans sG) nm iff
        · have z := of_decide_eq_false z
          have e : n = m := by omega
          exact ⟨0, by omega, some (nV 0), some (.ref t1'), some (.ref t2'), some (nV m), some (nV n), rfl, sF.trans sG, .inr ⟨rfl, sG _ _ (sE _ _ (sD _ _ (sC _ _ (sB _ _ kA)))), iff.mp e⟩⟩
      · rw [ll] at z
        cases z
    · refine ⟨false, fun H6 s6 Q q => ⟨_, rfl, _, .inl ⟨_, SqL.of (s6 _ _ htk5), rfl⟩, q H6 (Same.refl _)⟩, fun z => (by cases z), fun _ H6 s6 => ?_⟩
      exact ⟨_, rfl, k m H6 (s5.trans s6) (Nat.le_refl _) ⟨fun _ => eq, fun _ => rfl⟩⟩
end

end K1

set_option Elab.async false
set_option linter.all false
set_option maxRecDepth 100000
set_option maxHeartbeats 4000000
namespace K1
open PySem L2 W1
/-! ### expressions that give a bool -/
def BV (t : TE) (b : Bool) (σ : St) (H1 : Hp) : Prop := ∀ H2, Same H1 H2 → ∀ Q : VK, (∀ H3, Same H2 H3 → Q (.bl b) H3) → t σ H2 Q
section
variable {σ : St} {H1 H2 : Hp} {t u : TE} {b c : Bool} {K : PySem.W.Frag} {v : V}
theorem BV.mono (h : BV t b σ H1) (s : Same H1 H2) : BV t b σ H2 := fun H3 s3 => h H3 (s.trans s3)
theorem bv_ve (h : VE t (.bl b) σ H1) : BV t b σ H1 := fun H2 s Q k => h H2 s _ (k H2 (Same.refl _))
theorem be_bv (h : BV t b σ H1) : BE (tB t) b σ H1 := fun H2 s Q k => h H2 s _ fun H3 s3 => ⟨b, rfl, k H3 s3⟩
theorem bv_and (h : BV t b σ H1) (r : b = true → BV u c σ H1) : BV (tAndV t u) (b && c) σ H1 := fun H2 s Q k => h H2 s _ fun H3 s3 => ⟨b, rfl, by
  cases b with
  | true => exact (r rfl).mono s H3 s3 Q fun H4 s4 => k H4 (s3.trans s4)
  | false => exact k H3 s3⟩
theorem bv_or (h : BV t b σ H1) (r : b = false → BV u c σ H1) : BV (tOrV t u) (b || c) σ H1 := fun H2 s Q k => h H2 s _ fun H3 s3 => ⟨b, rfl, by
  cases b with
  | false => exact (r rfl).mono s H3 s3 Q fun H4 s4 => k H4 (s3.trans s4)
  | true => exact k H3 s3⟩
theorem bv_call {sp : Sp} {ts : TA} {vs : List V} {E : XK} (h : VA ts vs σ H1) (k : ∀ H2, Same H1 H2 → ∀ Q : VK, (∀ H3, Same H2 H3 → Q (.bl b) H3) → sp vs H2 Q E) : BV (tCall sp [] E ts) b σ H1 := fun H2 s Q q => h H2 s _ (by
  rw [List.append_nil]
  exact k H2 s Q q)
theorem ret_bv {D : Ends} (h : BV t b σ H1) (k : ∀ H3, Same H1 H3 → D.rt (.bl b) H3) : tRet t D σ H1 := h H1 (Same.refl _) _ k
theorem ve_isi {T : String} (h : VE t v σ H1) (a : ∀ H2, Same H1 H2 → Ans K H2 v T b) : VE (tCB (rIsi K) (tCons t (tCons (tC (.ty T)) tNil))) (.bl b) σ H1 := fun H2 s Q k => h H2 s _ ((a H2 s).rd k)
theorem ve_eqV {i : V} {j : V} (h : VE t i σ H1) (r : VE u j σ H1) (p : ∃ x y : Str, i = .str x ∧ j = .str y) : VE (tOp rEq t u) (.bl (decide (i = j))) σ H1 := fun H2 s Q k => h H2 s _ (r H2 s _ (by
  obtain ⟨x, y, rfl, rfl⟩ := p
  exact ⟨rfl, k⟩))
theorem be_neI {i j : Int} (h : VE t (.int i) σ H1) (r : VE u (.int j) σ H1) : BE (tTest (tOp rNe t u)) (!decide (i = j)) σ H1 := fun H2 s Q k => h H2 s _ (r H2 s _ ⟨rfl, _, rfl, by
  rw [show decide (V.int i = V.int j) = decide (i = j) from decide_eq_decide.mpr ⟨V.int.inj, fun e => by rw [e]⟩]
  exact k H2 (Same.refl _)⟩)
theorem ve_geI {i j : Int} (h : VE t (.int i) σ H1) (r : VE u (.int j) σ H1) : VE (tOp (rI0 fun i j => .bl (decide (j ≤ i))) t u) (.bl (decide (j ≤ i))) σ H1 := fun H2 s Q k => h H2 s _ (r H2 s _ ⟨i, j, rfl, rfl, k⟩)
theorem ve_isNV (h : VE t v σ H1) : VE (tOp (fun x y H Q => y = .non ∧ Q (.bl (decide (x = .non))) H) t (tC .non)) (.bl (decide (v = .non))) σ H1 := fun H2 s Q k => h H2 s _ ⟨rfl, k⟩
end
theorem pair_at {H : Hp} {v : V} {z : Str} {o : Option Str} (h : At H v (.tuple [.str z, oD o])) : ∃ t, v = .ref t ∧ H t = some (.tup [.str z, okV o]) ∧ (z.length ≤ 1000 ∧ PyData.strOk z = true) ∧ ∀ y, o = some y → y.length ≤ 1000 ∧ PyData.strOk y = true := by
  cases h with
  | tup e h =>
    cases h with
    | cons h1 t1 =>
      cases h1 with
      | str _ z1 =>
        cases t1 with
        | cons h2 t2 =>
          cases t2 with
          | nil =>
            cases o with
            | none => cases h2; exact ⟨_, rfl, e, z1, fun y z => by cases z⟩
            | some x => cases h2 with
              | str _ z2 => exact ⟨_, rfl, e, z1, fun y z => by cases z; exact z2⟩
section
variable {P : Program} {w : World} {K : PySem.W.Frag} {mg : Str → Option Value} {base : Heap} {C : Addr}
/-! ### is_count, is_word, is_pair, is_entry -/
def spIc : Sp := fun vs H Q _ => ∃ (i : Int), vs = [.int i] ∧ ∀ H', Same H H' → Q (.bl (decide (0 ≤ i))) H'
theorem sc_is_count : FnScope ["value"] ["value"] (defScope (top 33)) := ⟨rfl, rfl, rfl, by decide +kernel, rfl, by decide +kernel, by decide +kernel⟩
theorem ok_is_count {f : Addr} {fd : FuncData} (F : Fun K "is_count" "is_count" (top 33) f fd) (C1 : Cal P w K mg base CX0 1 "is_integer" ["value"] spInteger) : FnOk P w K mg base CX0 2 f fd ["value"] spIc := by
  refine F.ok sc_is_count (fun vs H Q E h => ?_) (fun cdv A outer s H vs Q E hr h => ?_)
  · obtain ⟨i, rfl, _⟩ := h
    rfl
  · obtain ⟨i, rfl, k⟩ := h
    refine ⟨_, (pss_one (ps_ret (pe_and (pe_cal C1 hr (by omega) pass0 (pa_cons (pv 0) pa_nil)) (pe_one (pe_cmpR op_ge (pv 0) pe_int (nomark _)))))), ?_⟩
    refine ret_bv (b := true && decide (0 ≤ i)) (bv_and (bv_call (va_cons (ve_var (v := .int i) rfl) va_nil) fun H2 s2 Q q => ⟨_, rfl, .int i, q H2 (Same.refl _)⟩) fun _ => bv_ve (ve_geI (ve_var rfl) ve_int)) fun H3 s3 => ?_
    rw [Bool.true_and]
    exact k H3 s3
def spIw : Sp := fun vs H Q _ => ∃ (a b : Str), vs = [.str a, .str b] ∧ (a.length ≤ 1000 ∧ PyData.strOk a = true) ∧ ∀ H', Same H H' → Q (.bl (decide (a = b))) H'
theorem sc_is_word : FnScope ["value", "word"] ["value", "word"] (defScope (top 34)) := ⟨rfl, rfl, rfl, by decide +kernel, rfl, by decide +kernel, by decide +kernel⟩
theorem ok_is_word {f : Addr} {fd : FuncData} (F : Fun K "is_word" "is_word" (top 34) f fd) (B : Bl2 mg) : FnOk P w K mg base CX0 1 f fd ["value", "word"] spIw := by
  refine F.ok sc_is_word (fun vs H Q E h => ?_) (fun cdv A outer s H vs Q E hr h => ?_)
  · obtain ⟨a, b, rfl, _⟩ := h
    rfl
  · obtain ⟨a, b, rfl, ha, k⟩ := h
    refine ⟨_, (pss_one (ps_ret (pe_and (pt_isi B.toBlt (pv 0) B.str PyProof.Rows.boot_str) (pe_one (pe_cmpR op_eq (pv 0) (pv 1) (nomark _)))))), ?_⟩
    refine ret_bv (b := true && decide (V.str a = V.str b)) (bv_and (bv_ve (ve_isi (ve_var (v := .str a) rfl) fun H2 s2 => ans_str (.str a ha))) fun _ => bv_ve (ve_eqV (ve_var rfl) (ve_var rfl) ⟨a, b, rfl, rfl⟩)) fun H3 s3 => ?_
    rw [Bool.true_and, show decide (V.str a = V.str b) = decide (a = b) from decide_eq_decide.mpr ⟨fun e => V.str.inj e, fun e => by rw [e]⟩]
    exact k H3 s3
def spIp : Sp := fun vs H Q _ => ∃ (v : V) (z : Str) (o : Option Str), vs = [v] ∧ At H v (.tuple [.str z, oD o]) ∧ ∀ H', Same H H' → Q (.bl true) H'
theorem sc_is_pair : FnScope ["value"] ["value"] (defScope (top 46)) := ⟨rfl, rfl, rfl, by decide +kernel, rfl, by decide +kernel, by decide +kernel⟩
theorem ok_is_pair {f : Addr} {fd : FuncData} (F : Fun K "is_pair" "is_pair" (top 46) f fd) (B : Bl2 mg) : FnOk P w K mg base CX0 1 f fd ["value"] spIp := by
  refine F.ok sc_is_pair (fun vs H Q E h => ?_) (fun cdv A outer s H vs Q E hr h => ?_)
  · obtain ⟨v, z, o, rfl, _⟩ := h
    rfl
  · obtain ⟨v, z, o, rfl, a, k⟩ := h
    refine ⟨_, (pss_cons (ps_if (PW.pt (pw_or (pt_not (pt_val (pt_isi B.toBlt (pv 0) B.tuple PyProof.Rows.boot_tuple))) (pw_or (pt_cmpR op_ne (pe_callB call_len_seq rfl B.len PySem.boot_len (pa_cons (pv 0) pa_nil)) pe_int (nomark _)) (pw_or1 (pt_not (pt_val (pt_isi B.toBlt (pe_ix ix_tup (pv 0) pe_int (fun _ _ => rfl)) B.str PyProof.Rows.boot_str))))))) (pss_one (ps_ret pe_bl)) pss_nil)
      (pss_one (ps_ret (pe_or (pe_cmpR op_isN (pe_ix ix_tup (pv 0) pe_int (fun _ _ => rfl)) pe_non (nomark _)) (pe_one (pt_isi B.toBlt (pe_ix ix_tup (pv 0) pe_int (fun _ _ => rfl)) B.str PyProof.Rows.boot_str)))))), ?_⟩
    obtain ⟨t, rfl, ht, hz, ho⟩ := pair_at a
    have vt : ∀ H2, Same H H2 → Dat H2 (.ref t) := fun H2 s2 => .tup (s2 _ _ ht) (fun x hx => by
      rcases List.mem_cons.mp hx with rfl | hx
      · exact .str z hz
      · rw [List.mem_singleton] at hx
        subst hx
        cases o with
        | none => exact .non
        | some y => exact .str y (ho y rfl))
    have v0 : VE (tOp (rIxT K) (tVar 0) (tC (.int 0))) (.str z) [some (.ref t)] H := ve_ixT (n := 0) (ve_var rfl) ht ve_c rfl
    have v1 : VE (tOp (rIxT K) (tVar 0) (tC (.int 1))) (okV o) [some (.ref t)] H := ve_ixT (n := 1) (ve_var rfl) ht ve_c rfl
    have vl : VE (tCB (fun xs H Q => ∃ p ys, xs = [V.ref p] ∧ (SqL K H p ys ∨ SqT K H p ys) ∧ Q (V.int (ys.length : Nat)) H) (tCons (tVar 0) tNil)) (.int 2) [some (.ref t)] H := fun H2 s2 Q q => ⟨_, rfl, t, _, rfl, .inr (SqT.of (s2 _ _ ht)), q⟩
    have b2 := be_neI vl (ve_int (i := 2))
    have tl : (tupOf H (.ref t)).isSome = true := by rw [tupOf_of ht]; rfl
    refine if_be (b := false) (be_or (b := false) (c := false) (be_not (b := true) (be_bv (bv_ve (ve_isi (ve_var (v := .ref t) rfl) fun H2 s2 => ?_)))) fun _ => be_or (b := false) (c := false) b2 fun _ => be_not (b := true) (be_bv (bv_ve (ve_isi v0 fun H2 s2 => ans_str (.str z hz))))) fun H3 s3 => ⟨fun e => (by cases e), fun _ => ?_⟩
    · have := ans_tup (K := K) (vt H2 s2)
      rw [tupOf_of (s2 _ _ ht)] at this
      exact this
    · refine next_rd (ret_bv (b := decide (okV o = .non) || (!decide (okV o = .non))) (bv_or (bv_ve ((ve_isNV v1).mono s3)) fun e => bv_ve ((ve_isi v1 fun H2 s2 => ?_).mono s3)) fun H4 s4 => ?_)
      · cases o with
        | none => cases e
        | some y => exact ans_str (.str y (ho y rfl))
      · have : (decide (okV o = .non) || (!decide (okV o = .non))) = true := by cases decide (okV o = .non) <;> rfl
        rw [this]
        exact k H4 (s3.trans s4)
/-- a valid entry -/
def EntO (z : Str) (o : Option Str) : Prop := (o = none ∧ z = "emit") ∨ ∃ y, o = some y ∧ (z = "emit" ∨ z = "final") ∧ nameS y = true
def EntD (d : PyData) : Prop := ∃ (z : Str) (o : Option Str), d = .tuple [.str z, oD o] ∧ EntO z o
def spIe : Sp := fun vs H Q _ => ∃ (v : V) (z : Str) (o : Option Str), vs = [v] ∧ At H v (.tuple [.str z, oD o]) ∧ EntO z o ∧ ∀ H', Same H H' → Q (.bl true) H'
theorem sc_is_entry : FnScope ["value", "word", "tag"] ["value"] (defScope (top 47)) := ⟨rfl, rfl, rfl, by decide +kernel, rfl, by decide +kernel, by decide +kernel⟩
theorem ok_is_entry {f : Addr} {fd : FuncData} (F : Fun K "is_entry" "is_entry" (top 47) f fd) (C3 : Cal P w K mg base CX0 1 "is_name" ["value"] spName) (CIw : Cal P w K mg base CX0 1 "is_word" ["value", "word"] spIw) (CIp : Cal P w K mg base CX0 1 "is_pair" ["value"] spIp) : FnOk P w K mg base CX0 2 f fd ["value"] spIe := by
  refine F.ok sc_is_entry (fun vs H Q E h => ?_) (fun cdv A outer s H vs Q E hr h => ?_)
  · obtain ⟨v, z, o, rfl, _⟩ := h
    rfl
  · obtain ⟨v, z, o, rfl, a, en, k⟩ := h
    refine ⟨_, (pss_cons (ps_if (pt_not (pt_val (pe_cal CIp hr (by omega) pass0 (pa_cons (pv 0) pa_nil)))) (pss_one (ps_ret pe_bl)) pss_nil)
      (pss_cons (ps_asg (pv 0) (pg_tup rfl (pgs_cons (pg_name (i := 1) sc_is_entry.nd rfl (Or.inl rfl)) (pgs_cons (pg_name (i := 2) sc_is_entry.nd rfl (Or.inl rfl)) pgs_nil))))
      (pss_cons (ps_if (pt_cmpR op_isN (pv 2) pe_non (nomark _)) (pss_one (ps_ret (pe_cal CIw hr (by omega) pass0 (pa_cons (pv 1) (pa_cons pe_str pa_nil))))) pss_nil)
      (pss_one (ps_ret (pe_and (pe_or (pe_cal CIw hr (by omega) pass0 (pa_cons (pv 1) (pa_cons pe_str pa_nil))) (pe_one (pe_cal CIw hr (by omega) pass0 (pa_cons (pv 1) (pa_cons pe_str pa_nil))))) (pe_one (pe_cal C3 hr (by omega) pass0 (pa_cons (pv 2) pa_nil))))))))), ?_⟩
    obtain ⟨t, rfl, ht, hz, ho⟩ := pair_at a
    refine if_be (be_not (b := true) (be_bv (bv_call (va_cons (ve_var (v := .ref t) rfl) va_nil) fun H2 s2 Q q => ⟨_, z, o, rfl, a.mono s2, fun H3 s3 => q H3 s3⟩))) fun H3 s3 => ⟨fun e => (by cases e), fun _ => ?_⟩
    refine next_rd ?_
    dsimp only
    refine seq_rd ⟨_, rfl, ?_⟩
    refine ⟨t, _, rfl, SqT.of (s3 _ _ ht), rfl, _, _, rfl, _, _, rfl, rfl, ?_⟩
    dsimp only
    refine seq_rd (if_be (be_isN (ve_var (s := 2) (v := okV o) rfl)) fun H4 s4 => ⟨fun e => ?_, fun e => ?_⟩)
    · have s5 := s3.trans s4
      have oz : o = none := by
        cases o with
        | none => rfl
        | some y => cases e
      subst oz
      rcases en with ⟨_, rfl⟩ | ⟨y, e, _⟩
      · refine ret_bv (b := true) (bv_call (va_cons (ve_var (s := 1) (v := .str "emit") rfl) (va_cons (ve_c (v := .str "emit")) va_nil)) fun H2 s2 Q q => ⟨_, _, rfl, hz, fun H' s' => ?_⟩) fun H6 s6 => k H6 (s5.trans s6)
        rw [decide_eq_true rfl]
        exact q H' s'
      · cases e
    · have s5 := s3.trans s4
      rcases en with ⟨rfl, _⟩ | ⟨y, rfl, zz, ny⟩
      · cases e
      refine next_rd (ret_bv (b := (decide (z = "emit") || decide (z = "final")) && true) (bv_and (bv_or (bv_call (va_cons (ve_var (s := 1) (v := .str z) rfl) (va_cons (ve_c (v := .str "emit")) va_nil)) fun H2 s2 Q q => ⟨_, _, rfl, hz, q⟩) fun _ => bv_call (va_cons (ve_var (s := 1) (v := .str z) rfl) (va_cons (ve_c (v := .str "final")) va_nil)) fun H2 s2 Q q => ⟨_, _, rfl, hz, q⟩) fun _ => bv_call (va_cons (ve_var (s := 2) (v := .str y) rfl) va_nil) fun H2 s2 Q q => ⟨_, rfl, .str y (ho y rfl), fun H' s' => by
        rw [show nameV (.str y) = true from ny]
        exact q H' s'⟩) fun H6 s6 => ?_)
      · have : ((decide (z = "emit") || decide (z = "final")) && true) = true := by
          rcases zz with rfl | rfl
          · rfl
          · rfl
        rw [this]
        exact k H6 (s5.trans s6)
/-! ### are_entries, making_of, check_index -/
def spAe : Sp := fun vs H Q _ => ∃ (p : Addr) (es : List PyData), vs = [.ref p] ∧ EL H p es ∧ (∀ d ∈ es, EntD d) ∧ es.length ≤ 100000 ∧ ∀ H', Same H H' → Q (.bl true) H'
theorem sc_are_entries : FnScope ["value", "seen", "entry"] ["value"] (defScope (top 48)) := ⟨rfl, rfl, rfl, by decide +kernel, rfl, by decide +kernel, by decide +kernel⟩
theorem ok_are_entries {f : Addr} {fd : FuncData} (F : Fun K "are_entries" "are_entries" (top 48) f fd) (B : Bl2 mg) (CIp : Cal P w K mg base CX0 1 "is_pair" ["value"] spIp) (CIe : Cal P w K mg base CX0 2 "is_entry" ["value"] spIe) : FnOk P w K mg base CX0 3 f fd ["value"] spAe := by
  refine F.ok sc_are_entries (fun vs H Q E h => ?_) (fun cdv A outer s H vs Q E hr h => ?_)
  · obtain ⟨p, es, rfl, _⟩ := h
    rfl
  · obtain ⟨p, es, rfl, ⟨xs, hp, as⟩, en, few, k⟩ := h
    refine ⟨_, (pss_cons (ps_if (pt_not (pt_val (pt_isi B.toBlt (pv 0) B.list PyProof.Rows.boot_list))) (pss_one (ps_ret pe_bl)) pss_nil)
      (pss_cons (ps_set (i := 1) sc_are_entries.nd rfl (Or.inl rfl) pe_dnewO)
      (pss_cons (ps_for PassesOwn.never rfl (pi_list (pv 0)) (pg_name (i := 2) sc_are_entries.nd rfl (Or.inl rfl))
        (pss_cons (ps_if (pt_not (pt_val (pe_cal CIp hr (by omega) pass0 (pa_cons (pv 2) pa_nil)))) (pss_one (ps_ret pe_bl)) pss_nil)
      (pss_one (ps_if (pt_cmp (pc_onotin (hr1 hr) (pv 2) (pv 1))) (pss_cons (ps_if (pt_not (pt_val (pe_cal CIe hr (by omega) pass0 (pa_cons (pv 2) pa_nil)))) (pss_one (ps_ret pe_bl)) pss_nil)
      (pss_one (ps_oput (hr1 hr) (pv 1) (pv 2) pe_bl rfl))) pss_nil))))
      (pss_one (ps_ret pe_bl))))), ?_⟩
    have SL : 100000 ≤ sizeLine := by decide
    have dt : Dat H (.ref p) := At.dat (.lst hp as)
    have lx := as.len
    refine if_be (be_not (b := true) (be_bv (bv_ve (ve_isi (ve_var (v := .ref p) rfl) fun H2 s2 => ?_)))) fun H3 s3 => ⟨fun e => (by cases e), fun _ => ?_⟩
    · have := ans_list (K := K) (dt.mono s2)
      rw [lstOf_of (s2 _ _ hp)] at this
      exact this
    refine next_rd ?_
    dsimp only
    refine seq_rd (asg_of fun sd nsd => ?_)
    have hp4 : Same H (upd H3 sd (oDic P w sd [])) := same_new s3 nsd
    have od0 : OD P w (upd H3 sd (oDic P w sd [])) sd [] := od_new upd_same
    have nsd0 := none_of' s3 nsd
    show tSeq _ _ _ _ (upd H3 sd (oDic P w sd []))
    generalize upd H3 sd (oDic P w sd []) = H4 at hp4 od0 ⊢
    refine ⟨_, rfl, p, rfl, ⟨_, SqL.of (hp4 _ _ hp)⟩, ?_⟩
    refine for_list (xs := xs) (fun i σ H' => ∃ v2 ks, σ = [some (.ref p), some (.ref sd), v2] ∧ Same H H' ∧ OD P w H' sd ks ∧ ks.length ≤ i) ⟨none, [], rfl, hp4, od0, Nat.le_refl _⟩ (fun i σ H' _ z => by obtain ⟨_, _, _, s5, _⟩ := z; exact SqL.of (s5 _ _ hp)) (fun i x σ H' gx z => ?_) (fun σ H' z => ?_)
    · obtain ⟨v2, ks, rfl, s5, od, lk⟩ := z
      have il : i < es.length := by
        have := (List.getElem?_eq_some_iff.mp gx).1
        omega
      obtain ⟨d, hd⟩ : ∃ d, es[i]? = some d := ⟨_, List.getElem?_eq_getElem il⟩
      obtain ⟨x', gx', ad⟩ := as.at hd
      rw [gx] at gx'
      cases gx'
      obtain ⟨z, o, rfl, eo⟩ := en d (List.mem_of_getElem? hd)
      obtain ⟨t, rfl, ht, hz, ho⟩ := pair_at ad
      show tSeq _ _ _ _ H'
      refine seq_rd (if_be (be_not (b := true) (be_bv (bv_call (va_cons (ve_var (s := 2) (v := .ref t) rfl) va_nil) fun H2 s2 Q q => ⟨_, z, o, rfl, ad.mono (s5.trans s2), fun H3 s3 => q H3 s3⟩))) fun H6 s6 => ⟨fun e => (by cases e), fun _ => ?_⟩)
      have s7 := s5.trans s6
      refine next_rd ?_
      refine ⟨_, rfl, _, rfl, sd, t, ks, [some z, o], rfl, rfl, od.mono s6, s7 _ _ ht, fun c hc => ⟨_, rfl, ?_⟩⟩
      cases c with
      | true => exact ⟨some (.ref t), ks, rfl, s7, od.mono s6, by omega⟩
      | false =>
        have nk : [some z, o] ∉ ks := fun m => by
          have := hc.mpr m
          cases this
        rw [if_pos (show (!false) = true from rfl)]
        refine seq_rd (if_be (be_not (b := true) (be_bv (bv_call (va_cons (ve_var (s := 2) (v := .ref t) rfl) va_nil) fun H2 s2 Q q => ⟨_, z, o, rfl, ad.mono (s7.trans s2), eo, fun H3 s3 => q H3 s3⟩))) fun H8 s8 => ⟨fun e => (by cases e), fun _ => ?_⟩)
        have s9 := s7.trans s8
        refine next_rd ?_
        exact ⟨_, rfl, _, rfl, sd, t, ks, [some z, o], rfl, rfl, od.mono (s6.trans s8), by omega, nk, s9 _ _ ht, fun ob oo => ⟨some (.ref t), ks ++ [[some z, o]], rfl, same_updL s9 nsd0, oo, by rw [List.length_append]; show ks.length + 1 ≤ i + 1; omega⟩⟩
    · obtain ⟨v2, ks, rfl, s5, _⟩ := z
      exact k H' s5
end

end K1

set_option Elab.async false
set_option linter.all false
set_option maxRecDepth 100000
set_option maxHeartbeats 4000000
namespace K1
open PySem L2 W1
/-! ### the class Making -/
structure Mf (fs : List (Str × V)) (rv : V) (d p : Nat) : Prop where
  c : fs.lookup ("content" : Str) = some rv
  d : fs.lookup ("depth" : Str) = some (nV d)
  p : fs.lookup ("pieces" : Str) = some (nV p)
structure Wf (fs : List (Str × V)) (rv : V) (d p : Nat) : Prop where
  r : fs.lookup ("_row" : Str) = some rv
  d : fs.lookup ("_depth" : Str) = some (nV d)
  p : fs.lookup ("_pieces" : Str) = some (nV p)
  no : ∀ m : Str, m ≠ "_row" → m ≠ "_depth" → m ≠ "_pieces" → fs.lookup m = none
def mkF (a b c : V) : List (Str × V) := putF "pieces" c (putF "depth" b (putF "content" a []))
def wdF (a b c : V) : List (Str × V) := putF "_pieces" c (putF "_depth" b (putF "_row" a []))
theorem mkF_mf (rv : V) (d p : Nat) : Mf (mkF rv (nV d) (nV p)) rv d p := by
  unfold mkF
  refine ⟨?_, ?_, ?_⟩
  · rw [lookup_putF, if_neg (by decide +kernel), lookup_putF, if_neg (by decide +kernel), lookup_putF, if_pos rfl]
  · rw [lookup_putF, if_neg (by decide +kernel), lookup_putF, if_pos rfl]
  · rw [lookup_putF, if_pos rfl]
theorem wdF_wf (rv : V) (d p : Nat) : Wf (wdF rv (nV d) (nV p)) rv d p := by
  unfold wdF
  refine ⟨?_, ?_, ?_, fun m h1 h2 h3 => by rw [lookup_putF, if_neg h3, lookup_putF, if_neg h2, lookup_putF, if_neg h1]; rfl⟩
  · rw [lookup_putF, if_neg (by decide +kernel), lookup_putF, if_neg (by decide +kernel), lookup_putF, if_pos rfl]
  · rw [lookup_putF, if_neg (by decide +kernel), lookup_putF, if_pos rfl]
  · rw [lookup_putF, if_pos rfl]
structure MkAt (CM C : Addr) (H : Hp) (v : V) (r : RwD) (d p : Nat) : Prop where
  ex : ∃ (a dx : Addr) (fs : List (Str × V)) (rv : V), v = .ref a ∧ H a = some (.ins CM dx fs) ∧ Mf fs rv d p ∧ RwAt C H r rv
structure WdAt (CW C : Addr) (H : Hp) (v : V) (r : RwD) (d p : Nat) : Prop where
  ex : ∃ (a dx : Addr) (fs : List (Str × V)) (rv : V), v = .ref a ∧ H a = some (.ins CW dx fs) ∧ Wf fs rv d p ∧ RwAt C H r rv
theorem WdAt.mono {CW C : Addr} {H H' : Hp} {v : V} {r : RwD} {d p : Nat} (h : WdAt CW C H v r d p) (s : Same H H') : WdAt CW C H' v r d p := by
  obtain ⟨a, dx, fs, rv, e, ha, f, hr⟩ := h.ex
  exact ⟨a, dx, fs, rv, e, s _ _ ha, f, hr.mono s⟩
theorem MkAt.mono {CM C : Addr} {H H' : Hp} {v : V} {r : RwD} {d p : Nat} (h : MkAt CM C H v r d p) (s : Same H H') : MkAt CM C H' v r d p := by
  obtain ⟨a, dx, fs, rv, e, ha, f, hr⟩ := h.ex
  exact ⟨a, dx, fs, rv, e, s _ _ ha, f, hr.mono s⟩
structure NoMk (K : PySem.W.Frag) (C : Addr) : Prop where
  cl : Cls K C
  n1 : NoAttr K C "content"
  n2 : NoAttr K C "depth"
  n3 : NoAttr K C "pieces"
structure NoWd (K : PySem.W.Frag) (C : Addr) : Prop where
  cl : Cls K C
  n1 : NoAttr K C "_row"
  n2 : NoAttr K C "_depth"
  n3 : NoAttr K C "_pieces"
/-- what isinstance asks of such a class -/
structure IsC (K : PySem.W.Frag) (CP : Addr) : Prop where
  cl : Cls K CP
  ha : PySem.W.findIn K (.ref CP) "__class__" = some (some (.builtin "object.__class__"))
  hn : PySem.W.specialIn K (.builtin "object.__class__") "__get__" = some (some (.builtin "getset_descriptor.__get__"))
  ht : PySem.W.takesIn K (.builtin "object.__class__") = some true
  hm : PySem.W.mroIn K CP (.type "object") = some true
  kit : PySem.W.kitOne K (.ref CP) (.ref CP) = some true
  kl : PySem.W.kitOne K (.type "list") (.ref CP) = some false
section
variable {P : Program} {w : World} {K : PySem.W.Frag} {mg : Str → Option Value} {base : Heap} {C CM CW : Addr}
def spMkI (C : Addr) : Sp := fun vs H Q _ => ∃ (p dx : Addr) (a b c : V), vs = [.ref p, a, b, c] ∧ H p = some (.ins C dx []) ∧ ∀ H', H' p = some (.ins C dx (mkF a b c)) → (∀ b o, H b = some o → b ≠ p → H' b = some o) → Q .non H'
theorem sc_Making___init : FnScope ["self", "content", "depth", "pieces"] ["self", "content", "depth", "pieces"] (defScope (inClass (top 45) 0)) := ⟨rfl, rfl, rfl, by decide +kernel, rfl, by decide +kernel, by decide +kernel⟩
theorem ok_mkI {f : Addr} {fd : FuncData} (F : Fun K "__init__" "Making.__init__" (inClass (top 45) 0) f fd) (T : NoMk K CM) : FnOk P w K mg base CX0 1 f fd ["self", "content", "depth", "pieces"] (spMkI CM) := by
  refine F.ok sc_Making___init (fun vs H Q E h => ?_) (fun cdv A outer s H vs Q E hr h => ?_)
  · obtain ⟨p, dx, a, b, c, rfl, _⟩ := h
    rfl
  · obtain ⟨p, dx, a, b, c, rfl, hp, k⟩ := h
    refine ⟨_, (pss_cons (ps_fld (pv 0) (pv 1) rfl)
      (pss_cons (ps_fld (pv 0) (pv 2) rfl)
      (pss_one (ps_fld (pv 0) (pv 3) rfl)))), ?_⟩
    have z0 : ([] : List (Str × V)).length ≤ 0 := Nat.le_refl _
    have z1 := putF_len "content" a []
    have z2 := putF_len "depth" b (putF "content" a [])
    refine ⟨_, rfl, _, rfl, p, CM, dx, _, rfl, hp, T.cl, T.n1, by omega, ?_⟩
    refine ⟨_, rfl, _, rfl, p, CM, dx, _, rfl, upd_same, T.cl, T.n2, by omega, ?_⟩
    refine ⟨_, rfl, _, rfl, p, CM, dx, _, rfl, upd_same, T.cl, T.n3, by omega, ?_⟩
    refine k _ upd_same fun b o e hb => ?_
    rw [upd_ne hb, upd_ne hb, upd_ne hb]
    exact e
abbrev mkP : List Str := ["self", "content", "depth", "pieces"]
abbrev wdP : List Str := ["self", "entries"]
theorem mk_new {H1 : Hp} {rv : V} {r : RwD} {d p : Nat} {Q : VK} {E : XK} (hr : RwAt C H1 r rv) (k : ∀ v H3, Same H1 H3 → MkAt CM C H3 v r d p → Q v H3) :
    ∀ x dx, H1 x = none → H1 dx = none → dx ≠ x → spMkI CM (.ref x :: ([rv, nV d, nV p] ++ [])) (upd (upd H1 dx (.own x)) x (.ins CM dx [])) (fun v H2 => v = .non ∧ Q (.ref x) H2) E :=
  fun x dx nx ndx ne => ⟨x, dx, rv, nV d, nV p, rfl, upd_same, fun H3 h3 kp => ⟨rfl, k _ H3 (made_same nx ndx kp) ⟨x, dx, _, rv, rfl, h3, mkF_mf rv d p, hr.mono (made_same nx ndx kp)⟩⟩⟩
/-! ### making_of, check_index -/
def spMo (CM C : Addr) : Sp := fun vs H Q _ => ∃ (p : Addr) (es : List PyData), vs = [.ref p] ∧ EL H p es ∧ (∀ d ∈ es, EntD d) ∧ es.length ≤ 100000 ∧ ∀ v H', Same H H' → MkAt CM C H' v (.leaf es) 0 1 → Q v H'
theorem sc_making_of : FnScope ["entries"] ["entries"] (defScope (top 49)) := ⟨rfl, rfl, rfl, by decide +kernel, rfl, by decide +kernel, by decide +kernel⟩
theorem ok_making_of {f : Addr} {fd : FuncData} (F : Fun K "making_of" "making_of" (top 49) f fd) (MM : Mkr P w K mg base CX0 1 "Making" CM mkP (spMkI CM)) (CLf : Cal P w K mg base CX0 3 "leaf_row" ["entries"] (spLf C)) (CAe : Cal P w K mg base CX0 3 "are_entries" ["value"] spAe) : FnOk P w K mg base CX0 4 f fd ["entries"] (spMo CM C) := by
  refine F.ok sc_making_of (fun vs H Q E h => ?_) (fun cdv A outer s H vs Q E hr h => ?_)
  · obtain ⟨p, es, rfl, _⟩ := h
    rfl
  · obtain ⟨p, es, rfl, el, en, few, k⟩ := h
    refine ⟨_, (pss_cons (ps_if (pt_not (pt_val (pe_cal CAe hr (by omega) pass0 (pa_cons (pv 0) pa_nil)))) (pss_one ps_dead) pss_nil)
      (pss_one (ps_ret (pe_mkr MM hr (by omega) pass0 (pa_cons (pe_cal CLf hr (by omega) pass0 (pa_cons (pv 0) pa_nil)) (pa_cons pe_int (pa_cons pe_int pa_nil))))))), ?_⟩
    have SL : 100000 ≤ sizeLine := by decide
    refine if_be (be_not (b := true) (be_bv (bv_call (va_cons (ve_var (s := 0) (v := .ref p) rfl) va_nil) fun H2 s2 Q q => ⟨p, es, rfl, el.mono s2, en, few, q⟩))) fun H3 s3 => ⟨fun e => (by cases e), fun _ => ?_⟩
    obtain ⟨xs, hp, as⟩ := el.mono s3
    refine next_rd ⟨_, rfl, p, xs, es, rfl, .inl hp, as, by omega, fun v H4 s4 h4 => ?_⟩
    exact mk_new h4 fun v' H5 s5 h5 => k v' H5 ((s3.trans s4).trans s5) h5
def spCi : Sp := fun vs H Q _ => ∃ (a b c : Nat), vs = [nV a, nV b, nV c] ∧ b ≤ a ∧ a ≤ c ∧ ∀ H', Same H H' → Q .non H'
theorem sc_check_index : FnScope ["number", "least", "most"] ["number", "least", "most"] (defScope (top 50)) := ⟨rfl, rfl, rfl, by decide +kernel, rfl, by decide +kernel, by decide +kernel⟩
theorem ok_check_index {f : Addr} {fd : FuncData} (F : Fun K "check_index" "check_index" (top 50) f fd) (C2 : Cal P w K mg base CX0 2 "is_within" ["value", "least", "most"] spWithin) : FnOk P w K mg base CX0 3 f fd ["number", "least", "most"] spCi := by
  refine F.ok sc_check_index (fun vs H Q E h => ?_) (fun cdv A outer s H vs Q E hr h => ?_)
  · obtain ⟨a, b, c, rfl, _⟩ := h
    rfl
  · obtain ⟨a, b, c, rfl, ab, ac, k⟩ := h
    refine ⟨_, (pss_one (ps_if (pt_not (pt_val (pe_cal C2 hr (by omega) pass0 (pa_cons (pv 0) (pa_cons (pv 1) (pa_cons (pv 2) pa_nil)))))) (pss_one ps_dead) pss_nil)), ?_⟩
    refine if_be (be_not (b := true) (be_bv (bv_call (va_cons (ve_var (s := 0) (v := nV a) rfl) (va_cons (ve_var (s := 1) (v := nV b) rfl) (va_cons (ve_var (s := 2) (v := nV c) rfl) va_nil))) fun H2 s2 Q q => ⟨nV a, b, c, rfl, .int a, ?_⟩))) fun H3 s3 => ⟨fun e => (by cases e), fun _ => k H3 s3⟩
    have : wholeV (nV a) (b : Nat) (c : Nat) = true := by
      show (decide (((b : Nat) : Int) ≤ ((a : Nat) : Int)) && decide (((a : Nat) : Int) ≤ ((c : Nat) : Int))) = true
      rw [decide_eq_true (by omega), decide_eq_true (by omega)]
      rfl
    rw [this]
    exact q H2 (Same.refl _)
/-! ### the class Word -/
theorem be_isi1 {t : TE} {σ : St} {H1 : Hp} {q dx CP : Addr} {fs : List (Str × V)} (I : IsC K CP) (h : VE t (.ref q) σ H1) (hq : H1 q = some (.ins CP dx fs)) : VE (tCB (rIsi K) (tCons t (tCons (tC (.ref CP)) tNil))) (.bl true) σ H1 :=
  fun H2 s Q k => h H2 s _ ⟨.ref q, .ref CP, .ref CP, .ref CP, true, rfl, .own CP, .base (.ins (s _ _ hq) I.cl I.ha I.hn I.ht I.hm), I.kit, k⟩
theorem be_isi0 {t : TE} {σ : St} {H1 : Hp} {q CP : Addr} {xs : List V} (I : IsC K CP) (h : VE t (.ref q) σ H1) (hq : H1 q = some (.lst xs)) : VE (tCB (rIsi K) (tCons t (tCons (tC (.ref CP)) tNil))) (.bl false) σ H1 :=
  fun H2 s Q k => h H2 s _ ⟨.ref q, .ref CP, .type "list", .ref CP, false, rfl, .own CP, .base (.lst (s _ _ hq)), I.kl, k⟩
def spWdI (CW CM C : Addr) : Sp := fun vs H Q _ => ∃ (p dx : Addr) (e : V) (r : RwD) (d n : Nat), vs = [.ref p, e] ∧ H p = some (.ins CW dx []) ∧ (MkAt CM C H e r d n ∨ (∃ q es, e = .ref q ∧ EL H q es ∧ (∀ d ∈ es, EntD d) ∧ es.length ≤ 100000 ∧ r = .leaf es ∧ d = 0 ∧ n = 1)) ∧
  ∀ rv H', H' p = some (.ins CW dx (wdF rv (nV d) (nV n))) → RwAt C H' r rv → (∀ b o, H b = some o → b ≠ p → H' b = some o) → Q .non H'
mutual
theorem at_updI {H : Hp} {p CW dx : Addr} {fs : List (Str × V)} {o : HO} (hp : H p = some (.ins CW dx fs)) : ∀ {v : V} {d : PyData}, At H v d → At (upd H p o) v d
  | _, _, .non => .non
  | _, _, .bl b => .bl b
  | _, _, .int i => .int i
  | _, _, .str s h => .str s h
  | _, _, .lst e h => .lst (by rw [upd_ne (ne_of e hp (fun z => nomatch z))]; exact e) (atAll_updI hp h)
  | _, _, .tup e h => .tup (by rw [upd_ne (ne_of e hp (fun z => nomatch z))]; exact e) (atAll_updI hp h)
  | _, _, .dic e => .dic (by rw [upd_ne (ne_of e hp (fun z => nomatch z))]; exact e)
theorem atAll_updI {H : Hp} {p CW dx : Addr} {fs : List (Str × V)} {o : HO} (hp : H p = some (.ins CW dx fs)) : ∀ {vs : List V} {ds : List PyData}, AtAll H vs ds → AtAll (upd H p o) vs ds
  | _, _, .nil => .nil
  | _, _, .cons h t => .cons (at_updI hp h) (atAll_updI hp t)
end
theorem ins_other {H : Hp} {p CW dx a C dx' : Addr} {fs fs' : List (Str × V)} {l b x y : V} {ti ex : Int} {o : HO} (hp : H p = some (.ins CW dx fs)) (no : fs.lookup ("leaf" : Str) = none) (ha : H a = some (.ins C dx' fs')) (f : Fl fs' l b x y ti ex) : upd H p o a = some (.ins C dx' fs') := by
  rw [upd_ne]
  · exact ha
  · intro e
    subst e
    rw [hp] at ha
    cases ha
    rw [f.leaf] at no
    cases no
theorem tup_other {H : Hp} {p CW dx a : Addr} {fs : List (Str × V)} {xs : List V} {o : HO} (hp : H p = some (.ins CW dx fs)) (ha : H a = some (.tup xs)) : upd H p o a = some (.tup xs) := by
  rw [upd_ne (ne_of ha hp (fun z => nomatch z))]
  exact ha
mutual
theorem rw_upd {H : Hp} {p CW dx C : Addr} {fs : List (Str × V)} {o : HO} (hp : H p = some (.ins CW dx fs)) (no : fs.lookup ("leaf" : Str) = none) : ∀ {r : RwD} {v : V}, RwAt C H r v → RwAt C (upd H p o) r v
  | .leaf es, v, h => by
    rw [RwAt] at h ⊢
    obtain ⟨a, dx', fs', t, p', q, vs, e, ha, f, ht, hs, h1, h2⟩ := h
    exact ⟨a, dx', fs', t, p', q, vs, e, ins_other hp no ha f, f, tup_other hp ht, atAll_updI hp hs, tup_other hp h1, tup_other hp h2⟩
  | .rep b n, v, h => by
    rw [RwAt] at h ⊢
    obtain ⟨a, dx', fs', p', q, bv, e, ha, f, hb, h1, h2⟩ := h
    exact ⟨a, dx', fs', p', q, bv, e, ins_other hp no ha f, f, rw_upd hp no hb, tup_other hp h1, tup_other hp h2⟩
  | .cat ps, v, h => by
    rw [RwAt] at h ⊢
    obtain ⟨a, dx', fs', p', q, vs, e, ha, f, h1, hs, h2⟩ := h
    exact ⟨a, dx', fs', p', q, vs, e, ins_other hp no ha f, f, tup_other hp h1, rws_upd hp no hs, tup_other hp h2⟩
theorem rws_upd {H : Hp} {p CW dx C : Addr} {fs : List (Str × V)} {o : HO} (hp : H p = some (.ins CW dx fs)) (no : fs.lookup ("leaf" : Str) = none) : ∀ {ps : List RwD} {vs : List V}, RwsAt C H ps vs → RwsAt C (upd H p o) ps vs
  | [], vs, h => by
    rw [RwsAt] at h ⊢
    exact h
  | q :: ps, vs, h => by
    rw [RwsAt] at h ⊢
    obtain ⟨v, ws, e, h1, h2⟩ := h
    exact ⟨v, ws, e, rw_upd hp no h1, rws_upd hp no h2⟩
end
theorem leafNone1 {a : V} : (putF "_row" a []).lookup ("leaf" : Str) = none := by rw [lookup_putF, if_neg (by decide +kernel)]; rfl
theorem leafNone2 {a b : V} : (putF "_depth" b (putF "_row" a [])).lookup ("leaf" : Str) = none := by rw [lookup_putF, if_neg (by decide +kernel)]; exact leafNone1
theorem sc_Word___init : FnScope ["self", "entries", "making"] ["self", "entries"] (defScope (inClass (top 51) 0)) := ⟨rfl, rfl, rfl, by decide +kernel, rfl, by decide +kernel, by decide +kernel⟩
theorem ok_wdI {f : Addr} {fd : FuncData} (F : Fun K "__init__" "Word.__init__" (inClass (top 51) 0) f fd) (B : Bl2 mg) (T : NoWd K CW) (TM : NoMk K CM) (IM : IsC K CM) (gM : mg "Making" = some (.ref CM)) (CMo : Cal P w K mg base CX0 4 "making_of" ["entries"] (spMo CM C)) : FnOk P w K mg base CX0 5 f fd wdP (spWdI CW CM C) := by
  refine F.ok sc_Word___init (fun vs H Q E h => ?_) (fun cdv A outer s H vs Q E hr h => ?_)
  · obtain ⟨p, dx, e, r, d, n, rfl, _⟩ := h
    rfl
  · obtain ⟨p, dx, e, r, d, n, rfl, hp, he, k⟩ := h
    refine ⟨_, (pss_cons (ps_set (i := 2) sc_Word___init.nd rfl (Or.inl rfl) (pe_ifExp (pt_val (pe_callB call_isi rfl B.isinstance PyProof.Rows.boot_isinstance (pa_cons (pv 1) (pa_cons (pe_glob (v := .ref CM) rfl gM rfl) pa_nil)))) (pv 1) (pe_cal CMo hr (by omega) pass0 (pa_cons (pv 1) pa_nil))))
      (pss_cons (ps_fld (pv 0) (pe_fld (pv 2) rfl) rfl)
      (pss_cons (ps_fld (pv 0) (pe_fld (pv 2) rfl) rfl)
      (pss_one (ps_fld (pv 0) (pe_fld (pv 2) rfl) rfl))))), ?_⟩
    have later : ∀ (mv : V) (H1 : Hp), Same H H1 → MkAt CM C H1 mv r d n → tSeq (sFld K (tVar 0) (tFld K (tVar 2) "content") "_row") (tSeq (sFld K (tVar 0) (tFld K (tVar 2) "depth") "_depth") (sFld K (tVar 0) (tFld K (tVar 2) "pieces") "_pieces")) { nx := fun x H' => Q V.non H', rt := Q } [some (.ref p), some e, some mv] H1 := by
      intro mv H1 s1 hm
      obtain ⟨a, dm, fs, rv, rfl, ha, f, hr⟩ := hm.ex
      have hp1 := s1 _ _ hp
      have ne : a ≠ p := by
        intro z
        subst z
        rw [hp1] at ha
        cases ha
        have := f.c
        cases this
      have z0 : ([] : List (Str × V)).length ≤ 0 := Nat.le_refl _
      have z1 := putF_len "_row" rv []
      have z2 := putF_len "_depth" (nV d) (putF "_row" rv [])
      refine ⟨_, rfl, a, CM, dm, fs, rv, rfl, ha, TM.cl, TM.n1, f.c, _, rfl, p, CW, dx, _, rfl, hp1, T.cl, T.n1, by omega, ?_⟩
      refine ⟨_, rfl, a, CM, dm, fs, _, rfl, by rw [upd_ne ne]; exact ha, TM.cl, TM.n2, f.d, _, rfl, p, CW, dx, _, rfl, upd_same, T.cl, T.n2, by omega, ?_⟩
      refine ⟨_, rfl, a, CM, dm, fs, _, rfl, by rw [upd_ne ne, upd_ne ne]; exact ha, TM.cl, TM.n3, f.p, _, rfl, p, CW, dx, _, rfl, upd_same, T.cl, T.n3, by omega, ?_⟩
      refine k rv _ upd_same (rw_upd upd_same leafNone2 (rw_upd upd_same leafNone1 (rw_upd hp1 rfl hr))) fun b o e hb => ?_
      rw [upd_ne hb, upd_ne hb, upd_ne hb]
      exact s1 _ _ e
    rcases he with hm | ⟨q, es, rfl, el, en, few, rfl, rfl, rfl⟩
    · obtain ⟨a, dm, fs, rv, rfl, ha, f, hr⟩ := hm.ex
      refine seq_rd (asg_of (ifE_be (be_bv (bv_ve (be_isi1 IM (ve_var (s := 1) (v := .ref a) rfl) ha))) fun H3 s3 => ⟨fun _ => ?_, fun z => (by cases z)⟩))
      exact ⟨_, rfl, later _ H3 s3 (hm.mono s3)⟩
    · obtain ⟨xs, hq, as⟩ := id el
      refine seq_rd (asg_of (ifE_be (be_bv (bv_ve (be_isi0 IM (ve_var (s := 1) (v := .ref q) rfl) hq))) fun H3 s3 => ⟨fun z => (by cases z), fun _ => ?_⟩))
      refine call_rd (va_cons (ve_var (s := 1) (v := .ref q) rfl) va_nil) ⟨q, es, rfl, el.mono s3, en, few, fun v H4 s4 h4 => later v H4 (s3.trans s4) h4⟩
end

end K1

set_option Elab.async false
set_option linter.all false
set_option maxRecDepth 100000
set_option maxHeartbeats 4000000
namespace K1
open PySem L2 W1
theorem make_cons {C : Addr} {sp : Sp} {t : TE} {ts : TA} {σ : St} {H : Hp} {Q : VK} {E : XK} (h : t σ H fun v H1 => ts σ H1 fun vs H2 => ∀ x dx, H2 x = none → H2 dx = none → dx ≠ x → sp (.ref x :: ((v :: vs) ++ [])) (upd (upd H2 dx (.own x)) x (.ins C dx [])) (fun u H3 => u = .non ∧ Q (.ref x) H3) E) : tMake C sp [] E (tCons t ts) σ H Q := h
theorem ve_row {K : PySem.W.Frag} {CW a dx : Addr} {fs : List (Str × V)} {rv : V} {d p s : Nat} {σ : St} {H : Hp} (T : NoWd K CW) (e : σ[s]? = some (some (.ref a))) (ha : H a = some (.ins CW dx fs)) (f : Wf fs rv d p) : VE (tFld K (tVar s) "_row") rv σ H := ins_lk e ha T.cl T.n1 f.r
theorem ve_rext {K : PySem.W.Frag} {C : Addr} {t : TE} {σ : St} {r : RwD} {H : Hp} {v : V} (T : NoR K C) (e : VE t v σ H) (h : RwAt C H r v) : VE (tFld K t "extent") (nV (ext r)) σ H := by
  obtain ⟨a, dx, fs, l, b, p, q, vs, ti, rfl, ha, fl, _⟩ := h.flds
  exact ve_fld e ha T.cl T.n6 fl.extent
theorem wd_new {C CM CW : Addr} {H1 : Hp} {mv : V} {r : RwD} {d n : Nat} {Q : VK} {E : XK} (h : MkAt CM C H1 mv r d n) (k : ∀ v H3, Same H1 H3 → WdAt CW C H3 v r d n → Q v H3) :
    ∀ x dx, H1 x = none → H1 dx = none → dx ≠ x → spWdI CW CM C (.ref x :: ([mv] ++ [])) (upd (upd H1 dx (.own x)) x (.ins CW dx [])) (fun v H2 => v = .non ∧ Q (.ref x) H2) E :=
  fun x dx nx ndx ne => by
    have s1 := same_new (o := .own x) (Same.refl H1) ndx
    have s2 := same_new (o := .ins CW dx []) s1 (by rw [upd_ne (fun e => ne e.symm)]; exact nx)
    exact ⟨x, dx, mv, r, d, n, rfl, upd_same, .inl (h.mono s2), fun rv H3 h3 hr kp => ⟨rfl, k _ H3 (made_same nx ndx kp) ⟨x, dx, _, rv, rfl, h3, wdF_wf rv d n, hr⟩⟩⟩
theorem wd_newL {C CM CW : Addr} {H1 : Hp} {q : Addr} {es : List PyData} {Q : VK} {E : XK} (h : EL H1 q es) (en : ∀ d ∈ es, EntD d) (few : es.length ≤ 100000) (k : ∀ v H3, Same H1 H3 → WdAt CW C H3 v (.leaf es) 0 1 → Q v H3) :
    ∀ x dx, H1 x = none → H1 dx = none → dx ≠ x → spWdI CW CM C (.ref x :: ([.ref q] ++ [])) (upd (upd H1 dx (.own x)) x (.ins CW dx [])) (fun v H2 => v = .non ∧ Q (.ref x) H2) E :=
  fun x dx nx ndx ne => by
    have s1 := same_new (o := .own x) (Same.refl H1) ndx
    have s2 := same_new (o := .ins CW dx []) s1 (by rw [upd_ne (fun e => ne e.symm)]; exact nx)
    exact ⟨x, dx, .ref q, .leaf es, 0, 1, rfl, upd_same, .inr ⟨q, es, rfl, h.mono s2, en, few, rfl, rfl, rfl⟩, fun rv H3 h3 hr kp => ⟨rfl, k _ H3 (made_same nx ndx kp) ⟨x, dx, _, rv, rfl, h3, wdF_wf rv 0 1, hr⟩⟩⟩
section
variable {P : Program} {w : World} {K : PySem.W.Frag} {mg : Str → Option Value} {base : Heap} {C CM CW : Addr}
/-! ### length, cut, entries -/
def spWl (CW C : Addr) : Sp := fun vs H Q _ => ∃ (v : V) (r : RwD) (d n : Nat), vs = [v] ∧ WdAt CW C H v r d n ∧ Q (nV (ext r)) H
theorem sc_Word_length : FnScope ["self"] ["self"] (defScope (inClass (top 51) 1)) := ⟨rfl, rfl, rfl, by decide +kernel, rfl, by decide +kernel, by decide +kernel⟩
theorem ok_Wlength {f : Addr} {fd : FuncData} (F : Fun K "length" "Word.length" (inClass (top 51) 1) f fd) (T : NoR K C) (TW : NoWd K CW) : FnOk P w K mg base CX0 1 f fd ["self"] (spWl CW C) := by
  refine F.ok sc_Word_length (fun vs H Q E h => ?_) (fun cdv A outer s H vs Q E hr h => ?_)
  · obtain ⟨v, r, d, n, rfl, _⟩ := h
    rfl
  · obtain ⟨v, r, d, n, rfl, hv, k⟩ := h
    refine ⟨_, (pss_one (ps_ret (pe_fld (pe_fld (pv 0) rfl) rfl))), ?_⟩
    obtain ⟨a, dx, fs, rv, rfl, ha, f, hr⟩ := hv.ex
    exact ret_of (ve_rext T (ve_row TW (s := 0) rfl ha f) hr H (Same.refl _) _ k)
def spWc (CW C : Addr) (ok : RwD → Prop) : Sp := fun vs H Q _ => ∃ (v : V) (r : RwD) (d n a b : Nat), vs = [v, nV a, nV b] ∧ WdAt CW C H v r d n ∧ good r ∧ ok r ∧ a ≤ b ∧ b ≤ ext r ∧ ext r ≤ 100000 ∧ ∀ v' r' H', Same H H' → WdAt CW C H' v' r' d n → good r' → den r' = sl (den r) a b → pd r' ≤ pd r → Q v' H'
theorem sc_Word_cut : FnScope ["self", "first", "last"] ["self", "first", "last"] (defScope (inClass (top 51) 2)) := ⟨rfl, rfl, rfl, by decide +kernel, rfl, by decide +kernel, by decide +kernel⟩
theorem ok_Wcut {k : Nat} {ok : RwD → Prop} {f : Addr} {fd : FuncData} (F : Fun K "cut" "Word.cut" (inClass (top 51) 2) f fd) (hk : 6 ≤ k) (T : NoR K C) (TW : NoWd K CW) (CCi : Cal P w K mg base CX0 3 "check_index" ["number", "least", "most"] spCi) (CCr : Cal P w K mg base CX0 k "cut_row" ["row", "first", "last"] (spCr C ok)) (MM : Mkr P w K mg base CX0 1 "Making" CM mkP (spMkI CM)) (MW : Mkr P w K mg base CX0 5 "Word" CW wdP (spWdI CW CM C)) : FnOk P w K mg base CX0 (k + 1) f fd ["self", "first", "last"] (spWc CW C ok) := by
  refine F.ok sc_Word_cut (fun vs H Q E h => ?_) (fun cdv A outer s H vs Q E hr h => ?_)
  · obtain ⟨v, r, d, n, a, b, rfl, _⟩ := h
    rfl
  · obtain ⟨v, r, d, n, i0, j0, rfl, hv, g, ho, ij, jn, nn, k⟩ := h
    refine ⟨_, (pss_cons (ps_expr (pe_cal CCi hr (by omega) pass0 (pa_cons (pv 1) (pa_cons pe_int (pa_cons (pe_fld (pe_fld (pv 0) rfl) rfl) pa_nil)))))
      (pss_cons (ps_expr (pe_cal CCi hr (by omega) pass0 (pa_cons (pv 2) (pa_cons (pv 1) (pa_cons (pe_fld (pe_fld (pv 0) rfl) rfl) pa_nil)))))
      (pss_one (ps_ret (pe_mkr MW hr (by omega) pass0 (pa_cons (pe_mkr MM hr (by omega) pass0 (pa_cons (pe_cal CCr hr (by omega) pass0 (pa_cons (pe_fld (pv 0) rfl) (pa_cons (pv 1) (pa_cons (pv 2) pa_nil)))) (pa_cons (pe_fld (pv 0) rfl) (pa_cons (pe_fld (pv 0) rfl) pa_nil)))) pa_nil)))))), ?_⟩
    obtain ⟨a, dx, fs, rv, rfl, ha, f, hr⟩ := hv.ex
    have vr := ve_row (σ := [some (.ref a), some (nV i0), some (nV j0)]) TW (s := 0) rfl ha f
    have vx := ve_rext T vr hr
    refine seq_rd (call_rd (va_cons (ve_var (s := 1) (v := nV i0) rfl) (va_cons (ve_c (v := nV 0)) (va_cons vx va_nil))) ⟨i0, 0, ext r, rfl, by omega, by omega, fun H3 s3 => ?_⟩)
    refine seq_rd (call_rd (va_cons (ve_var (s := 2) (v := nV j0) rfl) (va_cons (ve_var (s := 1) (v := nV i0) rfl) (va_cons (vx.mono s3) va_nil))) ⟨j0, i0, ext r, rfl, by omega, by omega, fun H4 s4 => ?_⟩)
    have s5 := s3.trans s4
    refine ret_of (make_cons (make_cons (call_rd (va_cons (vr.mono s5) (va_cons (ve_var (s := 1) (v := nV i0) rfl) (va_cons (ve_var (s := 2) (v := nV j0) rfl) va_nil))) ⟨rv, r, i0, j0, rfl, hr.mono s5, g, ho, ij, jn, nn, fun v' r' H6 s6 h6 g6 d6 p6 => ?_⟩)))
    have s7 := s5.trans s6
    have f4 := ins_lk (σ := [some (.ref a), some (nV i0), some (nV j0)]) (s := 0) rfl (s7 _ _ ha) TW.cl TW.n2 f.d
    have f5 := ins_lk (σ := [some (.ref a), some (nV i0), some (nV j0)]) (s := 0) rfl (s7 _ _ ha) TW.cl TW.n3 f.p
    refine (va_cons f4 (va_cons f5 va_nil)) H6 (Same.refl _) _ ?_
    exact mk_new h6 fun m H8 s8 h8 => wd_new h8 fun v' H9 s9 h9 => k v' r' H9 ((s7.trans s8).trans s9) h9 g6 d6 p6
def spWe (CW C : Addr) (ok : RwD → Prop) : Sp := fun vs H Q _ => ∃ (v : V) (r : RwD) (d n a b : Nat), vs = [v, nV a, nV b] ∧ WdAt CW C H v r d n ∧ good r ∧ Ents (den r) ∧ ok r ∧ a ≤ b ∧ b ≤ ext r ∧ b ≤ a + 1000 ∧ ext r ≤ 100000 ∧ ∀ p H', Same H H' → H p = none → EL H' p (sl (den r) a b) → Q (.ref p) H'
theorem sc_Word_entries : FnScope ["self", "first", "last"] ["self", "first", "last"] (defScope (inClass (top 51) 3)) := ⟨rfl, rfl, rfl, by decide +kernel, rfl, by decide +kernel, by decide +kernel⟩
theorem ok_Wentries {k : Nat} {ok : RwD → Prop} {tM : Tok} {f : Addr} {fd : FuncData} (F : Fun K "entries" "Word.entries" (inClass (top 51) 3) f fd) (B : Bl2 mg) (hk : 3 ≤ k) (T : NoR K C) (TW : NoWd K CW) (gL : mg "MOST_LISTED" = some (.int 1000 tM)) (CCi : Cal P w K mg base CX0 3 "check_index" ["number", "least", "most"] spCi) (CLi : Cal P w K mg base CX0 k "listed" ["row", "first", "last"] (spLi C ok)) : FnOk P w K mg base CX0 (k + 1) f fd ["self", "first", "last"] (spWe CW C ok) := by
  refine F.ok sc_Word_entries (fun vs H Q E h => ?_) (fun cdv A outer s H vs Q E hr h => ?_)
  · obtain ⟨v, r, d, n, a, b, rfl, _⟩ := h
    rfl
  · obtain ⟨v, r, d, n, i0, j0, rfl, hv, g, he, ho, ij, jn, jm, nn, k⟩ := h
    refine ⟨_, (pss_cons (ps_expr (pe_cal CCi hr (by omega) pass0 (pa_cons (pv 1) (pa_cons pe_int (pa_cons (pe_fld (pe_fld (pv 0) rfl) rfl) pa_nil)))))
      (pss_cons (ps_expr (pe_cal CCi hr (by omega) pass0 (pa_cons (pv 2) (pa_cons (pv 1) (pa_cons (pe_callB (call_min2 rfl) rfl B.min (by decide +kernel) (pa_cons (pe_fld (pe_fld (pv 0) rfl) rfl) (pa_cons (pe_op op_add (pv 1) (pe_glob (v := .int 1000) rfl gL ⟨_, rfl⟩)) pa_nil))) pa_nil)))))
      (pss_one (ps_ret (pe_cal CLi hr (by omega) pass0 (pa_cons (pe_fld (pv 0) rfl) (pa_cons (pv 1) (pa_cons (pv 2) pa_nil)))))))), ?_⟩
    obtain ⟨a, dx, fs, rv, rfl, ha, f, hr⟩ := hv.ex
    have vr := ve_row (σ := [some (.ref a), some (nV i0), some (nV j0)]) TW (s := 0) rfl ha f
    have vx := ve_rext T vr hr
    refine seq_rd (call_rd (va_cons (ve_var (s := 1) (v := nV i0) rfl) (va_cons (ve_c (v := nV 0)) (va_cons vx va_nil))) ⟨i0, 0, ext r, rfl, by omega, by omega, fun H3 s3 => ?_⟩)
    refine seq_rd (call_rd (va_cons (ve_var (s := 2) (v := nV j0) rfl) (va_cons (ve_var (s := 1) (v := nV i0) rfl) (va_cons (VE.to (n := min (ext r) (i0 + 1000)) (ve_min (i := (ext r : Nat)) (j := ((i0 + 1000 : Nat) : Int)) (vx.mono s3) (ve_addN (ve_var (s := 1) (v := nV i0) rfl) (ve_c (v := nV 1000)))) (by split <;> omega)) va_nil))) ⟨j0, i0, _, rfl, by omega, by omega, fun H4 s4 => ?_⟩)
    have s5 := s3.trans s4
    exact ret_of (call_rd (va_cons (vr.mono s5) (va_cons (ve_var (s := 1) (v := nV i0) rfl) (va_cons (ve_var (s := 2) (v := nV j0) rfl) va_nil))) ⟨rv, r, i0, j0, rfl, hr.mono s5, g, he, ho, ij, jn, nn, fun p H' s' np h => k p H' (s5.trans s') (none_of' s5 np) h⟩)
/-! ### +, *, [], bool, in, == -/
def spWa (CW C : Addr) : Sp := fun vs H Q _ => ∃ (v u : V) (r t : RwD) (d n e m : Nat), vs = [v, u] ∧ WdAt CW C H v r d n ∧ WdAt CW C H u t e m ∧ good r ∧ good t ∧ ext r + ext t ≤ 100000 ∧ n + m ≤ 1000 ∧ ∀ v' H', Same H H' → WdAt CW C H' v' (joinR r t) (max d e) (n + m) → Q v' H'
theorem sc_Word___add : FnScope ["self", "other", "pieces"] ["self", "other"] (defScope (inClass (top 51) 4)) := ⟨rfl, rfl, rfl, by decide +kernel, rfl, by decide +kernel, by decide +kernel⟩
theorem ok_Wadd {tM : Tok} {f : Addr} {fd : FuncData} (F : Fun K "__add__" "Word.__add__" (inClass (top 51) 4) f fd) (B : Bl2 mg) (T : NoR K C) (TW : NoWd K CW) (IW : IsC K CW) (gW : mg "Word" = some (.ref CW)) (gP : mg "MOST_PIECES" = some (.int 1000 tM)) (CJn : Cal P w K mg base CX0 3 "joined" ["one", "other"] (spJn C)) (MM : Mkr P w K mg base CX0 1 "Making" CM mkP (spMkI CM)) (MW : Mkr P w K mg base CX0 5 "Word" CW wdP (spWdI CW CM C)) : FnOk P w K mg base CX0 7 f fd ["self", "other"] (spWa CW C) := by
  refine F.ok sc_Word___add (fun vs H Q E h => ?_) (fun cdv A outer s H vs Q E hr h => ?_)
  · obtain ⟨v, u, r, t, d, n, e, m, rfl, _⟩ := h
    rfl
  · obtain ⟨v, u, r, t, d, n, e, m, rfl, hv, hu, g, g', few, pc, k⟩ := h
    refine ⟨_, (pss_cons (ps_if (pt_not (pt_val (pe_callB call_isi rfl B.isinstance PyProof.Rows.boot_isinstance (pa_cons (pv 1) (pa_cons (pe_glob (v := .ref CW) rfl gW rfl) pa_nil))))) (pss_one ps_dead) pss_nil)
      (pss_cons (ps_set (i := 2) sc_Word___add.nd rfl (Or.inl rfl) (pe_op op_add (pe_fld (pv 0) rfl) (pe_fld (pv 1) rfl)))
      (pss_cons (ps_if (pt_cmpR op_gt (pv 2) (pe_glob (v := .int 1000) rfl gP ⟨_, rfl⟩) (nomark _)) (pss_one ps_dead) pss_nil)
      (pss_one (ps_ret (pe_mkr MW hr (by omega) pass0 (pa_cons (pe_mkr MM hr (by omega) pass0 (pa_cons (pe_cal CJn hr (by omega) pass0 (pa_cons (pe_fld (pv 0) rfl) (pa_cons (pe_fld (pv 1) rfl) pa_nil))) (pa_cons (pe_callB (call_max2 rfl) rfl B.max (by decide +kernel) (pa_cons (pe_fld (pv 0) rfl) (pa_cons (pe_fld (pv 1) rfl) pa_nil))) (pa_cons (pv 2) pa_nil)))) pa_nil))))))), ?_⟩
    obtain ⟨a, dx, fs, rv, rfl, ha, f, hr⟩ := hv.ex
    obtain ⟨a', dx', fs', rv', rfl, ha', f', hr'⟩ := hu.ex
    refine if_be (be_not (b := true) (be_bv (bv_ve (be_isi1 IW (ve_var (s := 1) (v := .ref a') rfl) ha')))) fun H3 s3 => ⟨fun z => (by cases z), fun _ => ?_⟩
    refine next_rd ?_
    dsimp only
    have b := s3 _ _ ha
    have b' := s3 _ _ ha'
    refine seq_rd (set_v (s := 2) (ve_addN (ins_lk (s := 0) rfl b TW.cl TW.n3 f.p) (ins_lk (s := 1) rfl b' TW.cl TW.n3 f'.p)) ?_)
    dsimp only
    refine seq_rd (if_be (be_gtN (ve_var (s := 2) (v := nV (n + m)) rfl) (ve_c (v := nV 1000))) fun H4 s4 => ⟨fun z => ?_, fun z => ?_⟩)
    · have := of_decide_eq_true z
      omega
    have s5 := s3.trans s4
    have c := s5 _ _ ha
    have c' := s5 _ _ ha'
    have vr := ve_row (σ := [some (.ref a), some (.ref a'), some (nV (n + m))]) TW (s := 0) rfl c f
    have vr' := ve_row (σ := [some (.ref a), some (.ref a'), some (nV (n + m))]) TW (s := 1) rfl c' f'
    refine next_rd (ret_of (make_cons (make_cons (call_rd (va_cons vr (va_cons vr' va_nil)) ⟨rv, rv', r, t, rfl, hr.mono s5, hr'.mono s5, g, g', few, fun v' H6 s6 h6 => ?_⟩))))
    have s7 := s5.trans s6
    have f4 := ins_lk (σ := [some (.ref a), some (.ref a'), some (nV (n + m))]) (s := 0) rfl (s7 _ _ ha) TW.cl TW.n2 f.d
    have f5 := ins_lk (σ := [some (.ref a), some (.ref a'), some (nV (n + m))]) (s := 1) rfl (s7 _ _ ha') TW.cl TW.n2 f'.d
    refine (va_cons (VE.to (n := max d e) (ve_max (i := (d : Nat)) (j := (e : Nat)) f4 f5) (by split <;> omega)) (va_cons (ve_var (s := 2) (v := nV (n + m)) rfl) va_nil)) H6 (Same.refl _) _ ?_
    exact mk_new h6 fun m H8 s8 h8 => wd_new h8 fun v' H9 s9 h9 => k v' H9 ((s7.trans s8).trans s9) h9
end

end K1

set_option Elab.async false
set_option linter.all false
set_option maxRecDepth 100000
set_option maxHeartbeats 4000000
namespace K1
open PySem L2 W1
theorem ve_gtI {σ : St} {H1 : Hp} {t u : TE} {i j : Int} (h : VE t (.int i) σ H1) (r : VE u (.int j) σ H1) : VE (tOp (rI0 fun i j => .bl (decide (j < i))) t u) (.bl (decide (j < i))) σ H1 := fun H2 s Q k => h H2 s _ (r H2 s _ ⟨i, j, rfl, rfl, k⟩)
theorem ve_eqN {σ : St} {H1 : Hp} {t u : TE} {i j : Nat} (h : VE t (nV i) σ H1) (r : VE u (nV j) σ H1) : VE (tOp rEq t u) (.bl (decide (i = j))) σ H1 := fun H2 s Q k => h H2 s _ (r H2 s _ ⟨rfl, by
  rw [show decide (nV i = nV j) = decide (i = j) from decide_eq_decide.mpr ⟨fun e => by have := V.int.inj e; omega, fun e => by rw [e]⟩]
  exact k⟩)
section
variable {P : Program} {w : World} {K : PySem.W.Frag} {mg : Str → Option Value} {base : Heap} {C CM CW : Addr}
def spWm (CW C : Addr) : Sp := fun vs H Q _ => ∃ (v : V) (r : RwD) (d n t : Nat), vs = [v, nV t] ∧ WdAt CW C H v r d n ∧ good r ∧ ext r * t ≤ 100000 ∧ ext r ≤ 100000 ∧ t ≤ 100000 ∧ d < 6 ∧ ∀ v' H', Same H H' → WdAt CW C H' v' (repR r t) (d + 1) n → Q v' H'
theorem sc_Word___mul : FnScope ["self", "other"] ["self", "other"] (defScope (inClass (top 51) 5)) := ⟨rfl, rfl, rfl, by decide +kernel, rfl, by decide +kernel, by decide +kernel⟩
theorem ok_Wmul {tM : Tok} {f : Addr} {fd : FuncData} (F : Fun K "__mul__" "Word.__mul__" (inClass (top 51) 5) f fd) (TW : NoWd K CW) (gD : mg "DEEPEST" = some (.int 6 tM)) (CIc : Cal P w K mg base CX0 2 "is_count" ["value"] spIc) (CRp : Cal P w K mg base CX0 5 "repeated" ["row", "times"] (spRp C fun _ => True)) (MM : Mkr P w K mg base CX0 1 "Making" CM mkP (spMkI CM)) (MW : Mkr P w K mg base CX0 5 "Word" CW wdP (spWdI CW CM C)) : FnOk P w K mg base CX0 7 f fd ["self", "other"] (spWm CW C) := by
  refine F.ok sc_Word___mul (fun vs H Q E h => ?_) (fun cdv A outer s H vs Q E hr h => ?_)
  · obtain ⟨v, r, d, n, t, rfl, _⟩ := h
    rfl
  · obtain ⟨v, r, d, n, t, rfl, hv, g, few, fe, ft, dd, k⟩ := h
    refine ⟨_, (pss_cons (ps_if (pt_not (pt_val (pe_cal CIc hr (by omega) pass0 (pa_cons (pv 1) pa_nil)))) (pss_one ps_dead) pss_nil)
      (pss_cons (ps_if (pt_cmpR op_eq (pe_fld (pv 0) rfl) (pe_glob (v := .int 6) rfl gD ⟨_, rfl⟩) (nomark _)) (pss_one ps_dead) pss_nil)
      (pss_one (ps_ret (pe_mkr MW hr (by omega) pass0 (pa_cons (pe_mkr MM hr (by omega) pass0 (pa_cons (pe_cal CRp hr (by omega) pass0 (pa_cons (pe_fld (pv 0) rfl) (pa_cons (pv 1) pa_nil))) (pa_cons (pe_op op_add (pe_fld (pv 0) rfl) pe_int) (pa_cons (pe_fld (pv 0) rfl) pa_nil)))) pa_nil)))))), ?_⟩
    obtain ⟨a, dx, fs, rv, rfl, ha, f, hr⟩ := hv.ex
    refine if_be (be_not (b := true) (be_bv (bv_call (va_cons (ve_var (s := 1) (v := nV t) rfl) va_nil) fun H2 s2 Q q => ⟨(t : Nat), rfl, fun H' s' => by
      rw [decide_eq_true (show (0 : Int) ≤ (t : Nat) by omega)]
      exact q H' s'⟩))) fun H3 s3 => ⟨fun z => (by cases z), fun _ => ?_⟩
    refine next_rd ?_
    dsimp only
    refine seq_rd (if_be (be_eqN (j := 6) (ins_lk (s := 0) rfl (s3 _ _ ha) TW.cl TW.n2 f.d) (ve_c (v := nV 6))) fun H4 s4 => ⟨fun z => ?_, fun z => ?_⟩)
    · have := of_decide_eq_true z
      omega
    have s5 := s3.trans s4
    have vr := ve_row (σ := [some (.ref a), some (nV t)]) TW (s := 0) rfl (s5 _ _ ha) f
    refine next_rd (ret_of (make_cons (make_cons (call_rd (va_cons vr (va_cons (ve_var (s := 1) (v := nV t) rfl) va_nil)) ⟨rv, r, t, rfl, hr.mono s5, g, trivial, few, fe, ft, fun v' H6 s6 h6 => ?_⟩))))
    have s7 := s5.trans s6
    have f4 := ins_lk (σ := [some (.ref a), some (nV t)]) (s := 0) rfl (s7 _ _ ha) TW.cl TW.n2 f.d
    have f5 := ins_lk (σ := [some (.ref a), some (nV t)]) (s := 0) rfl (s7 _ _ ha) TW.cl TW.n3 f.p
    refine (va_cons (ve_addN (j := 1) f4 (ve_c (v := nV 1))) (va_cons f5 va_nil)) H6 (Same.refl _) _ ?_
    exact mk_new h6 fun m H8 s8 h8 => wd_new h8 fun v' H9 s9 h9 => k v' H9 ((s7.trans s8).trans s9) h9
def spWg (CW C : Addr) : Sp := fun vs H Q _ => ∃ (v : V) (r : RwD) (d n t : Nat), vs = [v, nV t] ∧ WdAt CW C H v r d n ∧ good r ∧ t < ext r ∧ ext r ≤ 100000 ∧ ∀ y e H', Same H H' → (den r)[t]? = some e → At H' y e → Q y H'
theorem sc_Word___getitem : FnScope ["self", "at"] ["self", "at"] (defScope (inClass (top 51) 6)) := ⟨rfl, rfl, rfl, by decide +kernel, rfl, by decide +kernel, by decide +kernel⟩
theorem ok_Wget {f : Addr} {fd : FuncData} (F : Fun K "__getitem__" "Word.__getitem__" (inClass (top 51) 6) f fd) (T : NoR K C) (TW : NoWd K CW) (C2 : Cal P w K mg base CX0 2 "is_within" ["value", "least", "most"] spWithin) (CEa : Cal P w K mg base CX0 2 "entry_at" ["row", "at"] (spEa C)) : FnOk P w K mg base CX0 3 f fd ["self", "at"] (spWg CW C) := by
  refine F.ok sc_Word___getitem (fun vs H Q E h => ?_) (fun cdv A outer s H vs Q E hr h => ?_)
  · obtain ⟨v, r, d, n, t, rfl, _⟩ := h
    rfl
  · obtain ⟨v, r, d, n, t, rfl, hv, g, lt, fe, k⟩ := h
    refine ⟨_, (pss_cons (ps_if (pt_not (pt_val (pe_cal C2 hr (by omega) pass0 (pa_cons (pv 1) (pa_cons pe_int (pa_cons (pe_op op_sub (pe_fld (pe_fld (pv 0) rfl) rfl) pe_int) pa_nil)))))) (pss_one ps_dead) pss_nil)
      (pss_one (ps_ret (pe_cal CEa hr (by omega) pass0 (pa_cons (pe_fld (pv 0) rfl) (pa_cons (pv 1) pa_nil)))))), ?_⟩
    obtain ⟨a, dx, fs, rv, rfl, ha, f, hr⟩ := hv.ex
    have vr := ve_row (σ := [some (.ref a), some (nV t)]) TW (s := 0) rfl ha f
    have vx := ve_rext T vr hr
    refine if_be (be_not (b := true) (be_bv (bv_call (va_cons (ve_var (s := 1) (v := nV t) rfl) (va_cons (ve_c (v := nV 0)) (va_cons (ve_subN (j := 1) vx (ve_c (v := nV 1)) (by omega)) va_nil))) fun H2 s2 Q q => ⟨nV t, 0, (ext r - 1 : Nat), rfl, .int t, ?_⟩))) fun H3 s3 => ⟨fun z => (by cases z), fun _ => ?_⟩
    · have : wholeV (nV t) 0 (ext r - 1 : Nat) = true := by
        show (decide ((0 : Int) ≤ ((t : Nat) : Int)) && decide (((t : Nat) : Int) ≤ ((ext r - 1 : Nat) : Int))) = true
        rw [decide_eq_true (by omega), decide_eq_true (by omega)]
        rfl
      rw [this]
      exact q H2 (Same.refl _)
    · exact next_rd (ret_of (call_rd (va_cons (vr.mono s3) (va_cons (ve_var (s := 1) (v := nV t) rfl) va_nil)) ⟨rv, r, t, rfl, hr.mono s3, g, lt, fe, fun y e H' s' he ay => k y e H' (s3.trans s') he ay⟩))
def spWb (CW C : Addr) : Sp := fun vs H Q _ => ∃ (v : V) (r : RwD) (d n : Nat), vs = [v] ∧ WdAt CW C H v r d n ∧ Q (.bl (decide (0 < ext r))) H
theorem sc_Word___bool : FnScope ["self"] ["self"] (defScope (inClass (top 51) 8)) := ⟨rfl, rfl, rfl, by decide +kernel, rfl, by decide +kernel, by decide +kernel⟩
theorem ok_Wbool {f : Addr} {fd : FuncData} (F : Fun K "__bool__" "Word.__bool__" (inClass (top 51) 8) f fd) (B : Bl2 mg) (T : NoR K C) (TW : NoWd K CW) : FnOk P w K mg base CX0 1 f fd ["self"] (spWb CW C) := by
  refine F.ok sc_Word___bool (fun vs H Q E h => ?_) (fun cdv A outer s H vs Q E hr h => ?_)
  · obtain ⟨v, r, d, n, rfl, _⟩ := h
    rfl
  · obtain ⟨v, r, d, n, rfl, hv, k⟩ := h
    refine ⟨_, (pss_one (ps_ret (pe_callTy call_bool1 rfl B.bool (by decide +kernel) (pa_cons (pe_cmpR op_gt (pe_fld (pe_fld (pv 0) rfl) rfl) pe_int (nomark _)) pa_nil)))), ?_⟩
    obtain ⟨a, dx, fs, rv, rfl, ha, f, hr⟩ := hv.ex
    have vx := ve_rext T (ve_row (σ := [some (.ref a)]) TW (s := 0) rfl ha f) hr
    refine ret_of (cb_rd (va_cons (ve_gtI (j := 0) vx ve_int) va_nil) (.inr ⟨_, rfl, ?_⟩))
    rw [show decide ((0 : Int) < ((ext r : Nat) : Int)) = decide (0 < ext r) from decide_eq_decide.mpr (by omega)]
    exact k
def spWi (CW C : Addr) (ok : RwD → Prop) : Sp := fun vs H Q _ => ∃ (v x : V) (r : RwD) (d n : Nat) (z : Str) (o : Option Str), vs = [v, x] ∧ WdAt CW C H v r d n ∧ At H x (.tuple [.str z, oD o]) ∧ EntO z o ∧ PairD (.tuple [.str z, oD o]) ∧ good r ∧ Ents (den r) ∧ ok r ∧ ∀ H', Same H H' → Q (.bl (memD (.tuple [.str z, oD o]) (den r))) H'
theorem sc_Word___contains : FnScope ["self", "x"] ["self", "x"] (defScope (inClass (top 51) 9)) := ⟨rfl, rfl, rfl, by decide +kernel, rfl, by decide +kernel, by decide +kernel⟩
theorem ok_Win {k : Nat} {ok : RwD → Prop} {f : Addr} {fd : FuncData} (F : Fun K "__contains__" "Word.__contains__" (inClass (top 51) 9) f fd) (hk : 2 ≤ k) (TW : NoWd K CW) (CIe : Cal P w K mg base CX0 2 "is_entry" ["value"] spIe) (CHe : Cal P w K mg base CX0 k "has_entry" ["row", "entry"] (spHe C ok)) : FnOk P w K mg base CX0 (k + 1) f fd ["self", "x"] (spWi CW C ok) := by
  refine F.ok sc_Word___contains (fun vs H Q E h => ?_) (fun cdv A outer s H vs Q E hr h => ?_)
  · obtain ⟨v, x, r, d, n, z, o, rfl, _⟩ := h
    rfl
  · obtain ⟨v, x, r, d, n, z, o, rfl, hv, hx, eo, pd, g, he, ho, k⟩ := h
    refine ⟨_, (pss_one (ps_ret (pe_and (pe_cal CIe hr (by omega) pass0 (pa_cons (pv 1) pa_nil)) (pe_one (pe_cal CHe hr (by omega) pass0 (pa_cons (pe_fld (pv 0) rfl) (pa_cons (pv 1) pa_nil))))))), ?_⟩
    obtain ⟨a, dx, fs, rv, rfl, ha, f, hr⟩ := hv.ex
    refine ret_bv (b := true && memD (.tuple [.str z, oD o]) (den r)) (bv_and (bv_call (va_cons (ve_var (s := 1) (v := x) rfl) va_nil) fun H2 s2 Q q => ⟨x, z, o, rfl, hx.mono s2, eo, q⟩) fun _ => bv_call (va_cons (ve_row TW (s := 0) rfl ha f) (va_cons (ve_var (s := 1) (v := x) rfl) va_nil)) fun H2 s2 Q q => ⟨rv, x, r, _, rfl, hr.mono s2, hx.mono s2, pd, g, he, ho, q⟩) fun H3 s3 => ?_
    rw [Bool.true_and]
    exact k H3 s3
/-! ### are_same, == -/
def eqD (r t : RwD) : Prop := den r = den t
def spAs (C : Addr) (ok : RwD → Prop) : Sp := fun vs H Q _ => ∃ (v u : V) (r t : RwD), vs = [v, u] ∧ RwAt C H r v ∧ RwAt C H t u ∧ good r ∧ good t ∧ Ents (den r) ∧ Ents (den t) ∧ ok r ∧ ok t ∧ ext r ≤ 100000 ∧ ext t ≤ 100000 ∧ (isLf r = true ∨ isLf t = true) ∧ ∀ b H', Same H H' → (b = true ↔ den r = den t) → Q (.bl b) H'
theorem sc_are_same : FnScope ["one", "other"] ["one", "other"] (defScope (top 52)) := ⟨rfl, rfl, rfl, by decide +kernel, rfl, by decide +kernel, by decide +kernel⟩
theorem ok_are_same {k : Nat} {ok : RwD → Prop} {f : Addr} {fd : FuncData} (F : Fun K "are_same" "are_same" (top 52) f fd) (T : NoR K C) (CAg : Cal P w K mg base CX0 k "agreed" ["one", "first", "other", "second", "many"] (spAg C ok)) : FnOk P w K mg base CX0 (k + 1) f fd ["one", "other"] (spAs C ok) := by
  refine F.ok sc_are_same (fun vs H Q E h => ?_) (fun cdv A outer s H vs Q E hr h => ?_)
  · obtain ⟨v, u, r, t, rfl, _⟩ := h
    rfl
  · obtain ⟨v, u, r, t, rfl, h1, h2, g1, g2, n1, n2, o1, o2, x1, x2, lf, k⟩ := h
    refine ⟨_, (pss_one (ps_ret (pe_and (pe_cmpR op_eq (pe_fld (pv 0) rfl) (pe_fld (pv 1) rfl) (nomark _)) (pe_one (pe_cmpR op_eq (pe_cal CAg hr (by omega) pass0 (pa_cons (pv 0) (pa_cons pe_int (pa_cons (pv 1) (pa_cons pe_int (pa_cons (pe_fld (pv 0) rfl) pa_nil)))))) (pe_fld (pv 0) rfl) (nomark _)))))), ?_⟩
    refine (ve_eqN (ve_ext T (i := 0) rfl h1) (ve_ext T (i := 1) rfl h2)) H (Same.refl _) _ ⟨_, rfl, ?_⟩
    by_cases e : ext r = ext t
    · rw [decide_eq_true e, if_pos rfl]
      refine call_rd (va_cons (ve_var (s := 0) (v := v) rfl) (va_cons (ve_c (v := nV 0)) (va_cons (ve_var (s := 1) (v := u) rfl) (va_cons (ve_c (v := nV 0)) (va_cons (ve_ext T (i := 0) rfl h1) va_nil))))) ?_
      refine ⟨v, u, r, t, 0, 0, ext r, rfl, h1, h2, g1, g2, n1, n2, o1, o2, x1, x2, by omega, by omega, lf, fun n H3 s3 nm iff => ?_⟩
      refine ve_ext T (i := 0) rfl (h1.mono s3) H3 (Same.refl _) _ ⟨rfl, k _ H3 s3 ?_⟩
      rw [Nat.zero_add] at iff
      have a1 : sl (den r) 0 (ext r) = den r := sl_all
      have a2 : sl (den t) 0 (ext r) = den t := by rw [e]; exact sl_all
      rw [a1, a2] at iff
      rw [← iff]
      exact ⟨fun z => by have := V.int.inj (of_decide_eq_true z); omega, fun z => decide_eq_true (by rw [z])⟩
    · rw [decide_eq_false e, if_neg Bool.false_ne_true]
      exact k false H (Same.refl _) ⟨(fun z => by cases z), fun z => (e (by unfold ext; rw [z])).elim⟩
def spWq (CW C : Addr) (ok : RwD → Prop) : Sp := fun vs H Q _ => ∃ (v u : V) (r : RwD) (d n : Nat), vs = [v, u] ∧ WdAt CW C H v r d n ∧
  ((∃ (t : RwD) (e m : Nat), WdAt CW C H u t e m ∧ good r ∧ good t ∧ Ents (den r) ∧ Ents (den t) ∧ ok r ∧ ok t ∧ ext r ≤ 100000 ∧ ext t ≤ 100000 ∧ (isLf r = true ∨ isLf t = true) ∧ ∀ b H', Same H H' → (b = true ↔ den r = den t) → Q (.bl b) H') ∨ (∃ q xs, u = .ref q ∧ H q = some (.lst xs)) ∧ ∀ H', Same H H' → Q (.bl false) H')
theorem sc_Word___eq : FnScope ["self", "other"] ["self", "other"] (defScope (inClass (top 51) 10)) := ⟨rfl, rfl, rfl, by decide +kernel, rfl, by decide +kernel, by decide +kernel⟩
theorem ok_Weq {k : Nat} {ok : RwD → Prop} {f : Addr} {fd : FuncData} (F : Fun K "__eq__" "Word.__eq__" (inClass (top 51) 10) f fd) (B : Bl2 mg) (TW : NoWd K CW) (IW : IsC K CW) (gW : mg "Word" = some (.ref CW)) (CAs : Cal P w K mg base CX0 k "are_same" ["one", "other"] (spAs C ok)) : FnOk P w K mg base CX0 (k + 1) f fd ["self", "other"] (spWq CW C ok) := by
  refine F.ok sc_Word___eq (fun vs H Q E h => ?_) (fun cdv A outer s H vs Q E hr h => ?_)
  · obtain ⟨v, u, r, d, n, rfl, _⟩ := h
    rfl
  · obtain ⟨v, u, r, d, n, rfl, hv, h⟩ := h
    refine ⟨_, (pss_one (ps_ret (pe_and (pe_callB call_isi rfl B.isinstance PyProof.Rows.boot_isinstance (pa_cons (pv 1) (pa_cons (pe_glob (v := .ref CW) rfl gW rfl) pa_nil))) (pe_one (pe_cal CAs hr (by omega) pass0 (pa_cons (pe_fld (pv 0) rfl) (pa_cons (pe_fld (pv 1) rfl) pa_nil))))))), ?_⟩
    obtain ⟨a, dx, fs, rv, rfl, ha, f, hr⟩ := hv.ex
    rcases h with ⟨t, e, m, hu, g1, g2, n1, n2, o1, o2, x1, x2, lf, k⟩ | ⟨⟨q, xs, rfl, hq⟩, k⟩
    · obtain ⟨a', dx', fs', rv', rfl, ha', f', hr'⟩ := hu.ex
      refine be_isi1 IW (ve_var (s := 1) (v := .ref a') rfl) ha' H (Same.refl _) _ ⟨true, rfl, ?_⟩
      rw [if_pos rfl]
      exact call_rd (va_cons (ve_row TW (s := 0) rfl ha f) (va_cons (ve_row TW (s := 1) rfl ha' f') va_nil)) ⟨rv, rv', r, t, rfl, hr, hr', g1, g2, n1, n2, o1, o2, x1, x2, lf, k⟩
    · refine be_isi0 IW (ve_var (s := 1) (v := .ref q) rfl) hq H (Same.refl _) _ ⟨false, rfl, ?_⟩
      rw [if_neg Bool.false_ne_true]
      exact k H (Same.refl _)
end

end K1

set_option Elab.async false
set_option linter.all false
set_option maxRecDepth 100000
set_option maxHeartbeats 4000000
namespace K1
open PySem L2 W1
/-! ### the law's own defs -/
section
variable {P : Program} {w : World} {K : PySem.W.Frag} {mg : Str → Option Value} {base : Heap} {C CM CW : Addr}
def rInt1 : List V → Hp → VK → Prop := fun xs H Q => (∃ i, xs = [V.int i] ∧ Q (V.int i) H) ∨ ∃ k, xs = [V.bl k] ∧ Q (V.int (if k then 1 else 0)) H
theorem ve_intI {σ : St} {H1 : Hp} {t : TE} {i : Int} (h : VE t (.int i) σ H1) : VE (tCB rInt1 (tCons t tNil)) (.int i) σ H1 := fun H2 s Q q => h H2 s _ (.inl ⟨i, rfl, q⟩)
theorem ve_intB {σ : St} {H1 : Hp} {t : TE} {b : Bool} (h : VE t (.bl b) σ H1) : VE (tCB rInt1 (tCons t tNil)) (.int (if b then 1 else 0)) σ H1 := fun H2 s Q q => h H2 s _ (.inr ⟨b, rfl, q⟩)
def spCl (K : PySem.W.Frag) : Sp := fun vs H Q _ => ∃ (a : Addr) (ns : List Int) (i : Nat), vs = [.ref a, nV i] ∧ SqL K H a (ns.map V.int) ∧ ∀ c : Int, Q (.int c) H
theorem sc_law_cell : FnScope ["_law_script", "_law_k"] ["_law_script", "_law_k"] (defScope (top 54)) := ⟨rfl, rfl, rfl, by decide +kernel, rfl, by decide +kernel, by decide +kernel⟩
theorem ok_cell {f : Addr} {fd : FuncData} (F : Fun K "_law_cell" "_law_cell" (top 54) f fd) (B : Blt mg) : FnOk P w K mg base CX0 1 f fd ["_law_script", "_law_k"] (spCl K) := by
  refine F.ok sc_law_cell (fun vs H Q E h => ?_) (fun cdv A outer s H vs Q E hr h => ?_)
  · obtain ⟨a, ns, i, rfl, _⟩ := h
    rfl
  · obtain ⟨a, ns, i, rfl, ha, k⟩ := h
    refine ⟨_, (pss_cons (ps_if (pt_cmpR op_lt (pv 1) (pe_callB call_len_seq rfl B.len PySem.boot_len (pa_cons (pv 0) pa_nil)) (nomark _)) (pss_one (ps_ret (pe_ix ix_list (pv 0) (pv 1) (fun _ _ => rfl)))) pss_nil)
      (pss_one (ps_ret (pe_op op_add (pv 1) pe_int)))), ?_⟩
    refine seq_rd ?_
    refine ⟨_, rfl, _, rfl, a, _, rfl, .inl ha, (i : Nat), _, rfl, rfl, _, rfl, ?_⟩
    refine ite2 (fun c => ?_) (fun c => ?_)
    · have c := of_decide_eq_true c
      obtain ⟨x, hx⟩ : ∃ x, (ns.map V.int)[i]? = some x := ⟨_, List.getElem?_eq_getElem (by omega)⟩
      have hy := hx
      rw [List.getElem?_map] at hy
      obtain ⟨z, _, rfl⟩ := Option.map_eq_some_iff.mp hy
      exact ⟨_, rfl, _, rfl, a, _, _, _, rfl, rfl, ha, atI_nat hx, k z⟩
    · exact ⟨_, rfl, _, _, rfl, rfl, k _⟩
/-- the four entries -/
def fourD (i : Nat) : PyData := match i with
  | 0 => .tuple [.str "emit", oD (some "a")]
  | 1 => .tuple [.str "emit", oD (some "b")]
  | 2 => .tuple [.str "final", oD (some "a")]
  | _ => .tuple [.str "emit", oD none]
def FourD (d : PyData) : Prop := ∃ i, d = fourD i
theorem four_str {z : Str} (h : z = "emit" ∨ z = "final" ∨ z = "a" ∨ z = "b" ∨ z = "zz") : z.length ≤ 1000 ∧ PyData.strOk z = true := by
  rcases h with rfl | rfl | rfl | rfl | rfl <;> exact ⟨by decide, by decide +kernel⟩
theorem four_pair {d : PyData} (h : FourD d) : PairD d := by
  obtain ⟨i, rfl⟩ := h
  match i with
  | 0 => exact ⟨_, _, rfl, by decide +kernel, by decide +kernel⟩
  | 1 => exact ⟨_, _, rfl, by decide +kernel, by decide +kernel⟩
  | 2 => exact ⟨_, _, rfl, by decide +kernel, by decide +kernel⟩
  | n + 3 => exact ⟨_, _, rfl, by decide +kernel, by decide +kernel⟩
theorem four_ent {d : PyData} (h : FourD d) : EntD d := by
  obtain ⟨i, rfl⟩ := h
  match i with
  | 0 => exact ⟨_, _, rfl, .inr ⟨_, rfl, .inl rfl, by decide +kernel⟩⟩
  | 1 => exact ⟨_, _, rfl, .inr ⟨_, rfl, .inl rfl, by decide +kernel⟩⟩
  | 2 => exact ⟨_, _, rfl, .inr ⟨_, rfl, .inr rfl, by decide +kernel⟩⟩
  | n + 3 => exact ⟨_, _, rfl, .inl ⟨rfl, rfl⟩⟩
def spEn : Sp := fun vs H Q _ => ∃ (c : Int), vs = [.int c] ∧ ∀ v H', Same H H' → At H' v (fourD (c % 4).toNat) → Q v H'
theorem dt_str {σ : St} {H1 : Hp} {z : Str} (h : z.length ≤ 1000 ∧ PyData.strOk z = true) : DT [] (tC (.str z)) (.str z) σ H1 := dt_v ve_c fun _ _ => .str _ h
theorem sc_law_entry : FnScope ["_law_digit"] ["_law_digit"] (defScope (top 56)) := ⟨rfl, rfl, rfl, by decide +kernel, rfl, by decide +kernel, by decide +kernel⟩
theorem ok_entry {f : Addr} {fd : FuncData} (F : Fun K "_law_entry" "_law_entry" (top 56) f fd) (B : Blt mg) : FnOk P w K mg base CX0 1 f fd ["_law_digit"] spEn := by
  refine F.ok sc_law_entry (fun vs H Q E h => ?_) (fun cdv A outer s H vs Q E hr h => ?_)
  · obtain ⟨c, rfl, _⟩ := h
    rfl
  · obtain ⟨c, rfl, k⟩ := h
    refine ⟨_, (pss_one (ps_ret (pe_ix ix_list (pe_lst (pa_cons (pe_tup (pa_cons pe_str (pa_cons pe_str pa_nil))) (pa_cons (pe_tup (pa_cons pe_str (pa_cons pe_str pa_nil))) (pa_cons (pe_tup (pa_cons pe_str (pa_cons pe_str pa_nil))) (pa_cons (pe_tup (pa_cons pe_str (pa_cons pe_non pa_nil))) pa_nil))))) (pe_op op_mod (pe_callTy call_int1 rfl B.int PyProof.Rows.boot_int (pa_cons (pv 0) pa_nil)) pe_int) (fun _ _ => rfl)))), ?_⟩
    have lt := Int.emod_lt_of_pos c (show (0 : Int) < 4 by decide)
    have ge := Int.emod_nonneg c (show (4 : Int) ≠ 0 by decide)
    refine ret_of ?_
    have four : DT [] _ (.list [.tuple [.str "emit", .str "a"], .tuple [.str "emit", .str "b"], .tuple [.str "final", .str "a"], .tuple [.str "emit", .none]]) [some (.int c)] H := dt_lst live_nil
      (dt_cons (dt_tup live_nil (dt_cons (dt_str (four_str (by decide))) (dt_cons (dt_str (four_str (by decide))) dt_nil)) (by decide))
      (dt_cons (dt_tup live_nil (dt_cons (dt_str (four_str (by decide))) (dt_cons (dt_str (four_str (by decide))) dt_nil)) (by decide))
      (dt_cons (dt_tup live_nil (dt_cons (dt_str (four_str (by decide))) (dt_cons (dt_str (four_str (by decide))) dt_nil)) (by decide))
      (dt_cons (dt_tup live_nil (dt_cons (dt_str (four_str (by decide))) (dt_cons (dt_v ve_c fun _ _ => .non) dt_nil)) (by decide)) dt_nil)))) (by decide)
    refine dt_ixL (n := (c % 4).toNat) (d := fourD (c % 4).toNat) four (ve_mod (ve_intI (ve_var (s := 0) (v := .int c) rfl)) ve_int (by decide)) ?_ (by omega) H (Same.refl _) _ fun v H3 s3 a => ?_
    · obtain e | e | e | e : (c % 4).toNat = 0 ∨ (c % 4).toNat = 1 ∨ (c % 4).toNat = 2 ∨ (c % 4).toNat = 3 := by omega
      all_goals rw [e]; rfl
    · rw [hid_nil] at a
      exact k v H3 s3 a
theorem to_rd {t u : TE} {σ : St} {H1 : Hp} {a : Addr} {xs : List V} {m : Nat} {Q : VK} (h : VE t (.ref a) σ H1) (ha : H1 a = some (.lst xs)) (r : VE u (nV m) σ H1) (k : ∀ p, H1 p = none → Same H1 (upd H1 p (.lst (xs.take m))) → Q (.ref p) (upd H1 p (.lst (xs.take m)))) : tSl (rSlL K) t tNoPart (tPart u) σ H1 Q := by
  refine h H1 (Same.refl _) _ (r H1 (Same.refl _) _ ⟨_, rfl, a, xs, rfl, SqL.of ha, fun p np => ?_⟩)
  rw [cut_to (by omega), Int.toNat_natCast]
  exact k p np (same_new (Same.refl _) np)
theorem from_rd {t u : TE} {σ : St} {H1 : Hp} {a : Addr} {xs : List V} {m : Nat} {Q : VK} (h : VE t (.ref a) σ H1) (ha : H1 a = some (.lst xs)) (r : VE u (nV m) σ H1) (k : ∀ p, H1 p = none → Same H1 (upd H1 p (.lst (xs.drop m))) → Q (.ref p) (upd H1 p (.lst (xs.drop m)))) : tSl (rSlL K) t (tPart u) tNoPart σ H1 Q := by
  refine h H1 (Same.refl _) _ (r H1 (Same.refl _) _ ⟨_, rfl, a, xs, rfl, SqL.of ha, fun p np => ?_⟩)
  rw [cut_from (by omega), Int.toNat_natCast]
  exact k p np (same_new (Same.refl _) np)
def tRowE (K : PySem.W.Frag) : TE := tCall spEn [] E0 (tCons (tOp (rIxL K) (tLst (tCons (tOp (rI (fun _ j => 0 < j) fun i j => V.int (i % j)) (tCB rInt1 (tCons (tVar 2) tNil)) (tC (.int 2))) (tCons (tOp (rI (fun _ j => 0 < j) fun i j => V.int (i % j)) (tCB rInt1 (tCons (tVar 2) tNil)) (tC (.int 4))) tNil)))
  (tCB rInt1 (tCons (tOp (rI0 fun i j => .bl (decide (j < i))) (tVar 2) (tC (.int 700))) tNil))) tNil)
def spRo : Sp := fun vs H Q _ => ∃ (p : Addr) (ds : List Int) (m : Nat), vs = [.ref p, nV m] ∧ H p = some (.lst (ds.map V.int)) ∧ m ≤ 4 ∧ ∀ q es H', Same H H' → H q = none → EL H' q es → es.length ≤ 4 → (∀ d ∈ es, FourD d) → Q (.ref q) H'
theorem sc_law_row : FnScope ["_law_digits_here", "_law_many", "_law_digit"] ["_law_digits_here", "_law_many"] (defScope (top 57)) := ⟨rfl, rfl, rfl, by decide +kernel, rfl, by decide +kernel, by decide +kernel⟩
theorem ok_row {f : Addr} {fd : FuncData} (F : Fun K "_law_row" "_law_row" (top 57) f fd) (B : Blt mg) (CEn : Cal P w K mg base CX0 1 "_law_entry" ["_law_digit"] spEn) : FnOk P w K mg base CX0 2 f fd ["_law_digits_here", "_law_many"] spRo := by
  refine F.ok sc_law_row (fun vs H Q E h => ?_) (fun cdv A outer s H vs Q E hr h => ?_)
  · obtain ⟨p, ds, m, rfl, _⟩ := h
    rfl
  · obtain ⟨p, ds, m, rfl, hp, hm, k⟩ := h
    refine ⟨_, (pss_one (ps_ret (pe_lc (own := [("_law_digit", 2)]) (g := gName 2) (te := tRowE K) (tt := tYes) rfl sc_law_row.nd (pi_list (pe_slice sl_list (pv 0) po_none (po_some (pv 1)))) (blkOk_by (N := ["_law_digits_here", "_law_many", "_law_digit"]) (sc := defScope (top 57)) (by decide +kernel)) (fun _ _ _ _ _ => pg_name (i := 2) sc_law_row.nd rfl (Or.inl rfl)) (fun _ _ _ _ _ => pts_nil) (fun _ _ _ _ _ => pe_cal CEn hr (by omega) pass0 (pa_cons (pe_ix ix_list (pe_lst (pa_cons (pe_op op_mod (pe_callTy call_int1 rfl B.int PyProof.Rows.boot_int (pa_cons (pv 2) pa_nil)) pe_int) (pa_cons (pe_op op_mod (pe_callTy call_int1 rfl B.int PyProof.Rows.boot_int (pa_cons (pv 2) pa_nil)) pe_int) pa_nil))) (pe_callTy call_int1 rfl B.int PyProof.Rows.boot_int (pa_cons (pe_cmpR op_gt (pv 2) pe_int (nomark _)) pa_nil)) (fun _ _ => rfl)) pa_nil))))), ?_⟩
    refine ret_of ?_
    refine to_rd (ve_var (s := 0) (v := .ref p) rfl) hp (ve_var (s := 1) (v := nV m) rfl) fun t nt s1 => ?_
    have ht : (upd H t (.lst ((ds.map V.int).take m))) t = some (.lst ((ds.map V.int).take m)) := upd_same
    generalize upd H t (.lst ((ds.map V.int).take m)) = H1 at s1 ht
    refine ⟨t, rfl, ⟨_, SqL.of ht⟩, fun L nL => ?_⟩
    have sL := same_new (o := .lst []) (Same.refl H1) nL
    refine lc_list (fun i H' => Same H1 H' ∧ ∃ xs es, H' L = some (.lst xs) ∧ AtAll H' xs es ∧ es.length = i ∧ ∀ d ∈ es, FourD d) ⟨sL, [], [], upd_same, .nil, rfl, fun d h => by cases h⟩ (fun i H' _ z => SqL.of (z.1 _ _ ht)) (fun i x H' hx z => ?_) (fun H' z => ?_)
    · have hy := hx
      rw [← List.map_take, List.getElem?_map] at hy
      obtain ⟨b, hb, rfl⟩ := Option.map_eq_some_iff.mp hy
      refine ⟨rfl, ?_⟩
      have lt : i < 4 := by
        have := (List.getElem?_eq_some_iff.mp hb).1
        rw [List.length_take] at this
        omega
      obtain ⟨z1, xs, es, hL, at1, len, fo⟩ := z
      have m2 := Int.emod_nonneg b (show (2 : Int) ≠ 0 by decide)
      have m4 := Int.emod_nonneg b (show (4 : Int) ≠ 0 by decide)
      have vb : ∀ {H2 : Hp}, VE (tVar 2) (.int b) [some (.ref p), some (nV m), some (.int b)] H2 := ve_var rfl
      have two : DT [] _ (.list [.int (b % 2), .int (b % 4)]) [some (.ref p), some (nV m), some (.int b)] H' := dt_lst live_nil (dt_cons (dt_int (ve_mod (ve_intI vb) ve_int (by decide))) (dt_cons (dt_int (ve_mod (ve_intI vb) ve_int (by decide))) dt_nil)) (by show 2 ≤ sizeLine; decide)
      obtain ⟨e, one⟩ : ∃ e : Int, DT [] (tOp (rIxL K) _ (tCB rInt1 (tCons (tOp (rI0 fun i j => .bl (decide (j < i))) (tVar 2) (tC (.int 700))) tNil))) (.int e) [some (.ref p), some (nV m), some (.int b)] H' := by
        by_cases c : (700 : Int) < b
        · exact ⟨b % 4, dt_ixL (n := 1) two (ve_intB (ve_gtI vb ve_int)) rfl (by rw [decide_eq_true c]; rfl)⟩
        · exact ⟨b % 2, dt_ixL (n := 0) two (ve_intB (ve_gtI vb ve_int)) rfl (by rw [decide_eq_false c]; rfl)⟩
      unfold tYes
      dsimp only
      rw [if_pos rfl]
      unfold tRowE tCall
      refine cons_rd (one H' (Same.refl _) _ fun v H3 s3 a => ?_)
      rw [hid_nil] at a
      cases a
      refine ⟨e, rfl, fun v H4 s4 a => ?_⟩
      have s5 := s3.trans s4
      refine ⟨xs, s5 _ _ hL, by rw [at1.len, len, sizeLine_eq]; omega, same_updL ((z1.trans s3).trans s4) nL, xs ++ [v], es ++ [fourD (e % 4).toNat], upd_same, ?_, by rw [List.length_append, len]; rfl, fun d hd => ?_⟩
      · have en : ∀ d ∈ es ++ [fourD (e % 4).toNat], FourD d := fun d hd => by
          rcases List.mem_append.mp hd with h | h
          · exact fo d h
          · exact ⟨_, List.mem_singleton.mp h⟩
        exact atAll_upd (s5 _ _ hL) ((at1.mono s5).append (.cons a .nil)) fun d hd => four_pair (en d hd)
      · rcases List.mem_append.mp hd with h | h
        · exact fo d h
        · exact ⟨_, List.mem_singleton.mp h⟩
    · obtain ⟨z1, xs, es, hL, at1, len, fo⟩ := z
      exact k L es H' (s1.trans z1) (none_of' s1 nL) ⟨xs, hL, at1⟩ (by rw [len, List.length_take]; omega) fo
end

end K1

set_option Elab.async false
set_option linter.all false
set_option maxRecDepth 100000
set_option maxHeartbeats 4000000
namespace K1
open PySem L2 W1
/-! ### _law_built -/
structure Bu (CW C : Addr) (H : Hp) (t : Addr) (deep : Nat) : Prop where
  ex : ∃ (v : V) (p : Addr) (r : RwD) (d n : Nat), H t = some (.tup [v, .ref p]) ∧ WdAt CW C H v r d n ∧ EL H p (den r) ∧ good r ∧ (∀ e ∈ den r, FourD e) ∧ ext r ≤ 4 * 3 ^ deep ∧ pd r ≤ 2 * deep ∧ d ≤ deep ∧ n ≤ 3 ^ deep
def spBu (CW C : Addr) (b : Nat) : Sp := fun vs H Q _ => ∃ (q : Addr) (ds : List Int) (deep : Nat), vs = [.ref q, nV deep] ∧ H q = some (.lst (ds.map V.int)) ∧ 7 * deep + 1 ≤ ds.length ∧ (∀ x ∈ ds, 0 ≤ x) ∧ deep ≤ 4 ∧ deep < b ∧ ∀ t H', Same H H' → Bu CW C H' t deep → Q (.ref t) H'
theorem toV {i : Int} (h : 0 ≤ i) : V.int i = nV i.toNat := by
  unfold nV
  rw [Int.toNat_of_nonneg h]
theorem VE.nat {t : TE} {i : Int} {σ : St} {H : Hp} (h : VE t (.int i) σ H) (p : 0 ≤ i) : VE t (nV i.toNat) σ H := by
  rw [← toV p]
  exact h
theorem tcall_rd {sp : Sp} {ts : TA} {σ : St} {H : Hp} {Q : VK} {E : XK} (h : ts σ H fun vs H1 => sp (vs ++ []) H1 Q E) : tCall sp [] E ts σ H Q := h
theorem tcons_rd {t : TE} {ts : TA} {σ : St} {H : Hp} {Q : List V → Hp → Prop} (h : t σ H fun v H1 => ts σ H1 fun vs H2 => Q (v :: vs) H2) : tCons t ts σ H Q := h
theorem ttup_rd {ts : TA} {σ : St} {H : Hp} {Q : VK} (h : ts σ H fun vs H1 => vs.length ≤ sizeLine ∧ ∀ p, H1 p = none → Q (.ref p) (upd H1 p (.tup vs))) : tTup ts σ H Q := h
theorem four_ents {es : List PyData} (h : ∀ e ∈ es, FourD e) : Ents es := fun d m => four_pair (h d m)
theorem four_app {xs ys : List PyData} (h : ∀ e ∈ xs, FourD e) (k : ∀ e ∈ ys, FourD e) : ∀ e ∈ xs ++ ys, FourD e := fun e m => by
  rcases List.mem_append.mp m with a | a
  · exact h e a
  · exact k e a
theorem four_rpt {xs : List PyData} {n : Nat} (h : ∀ e ∈ xs, FourD e) : ∀ e ∈ rpt n xs, FourD e := by
  induction n with
  | zero => exact fun e m => by cases m
  | succ n ih =>
    rw [rpt_succ]
    exact four_app h ih
theorem mkw_rd {C CM CW : Addr} {t : TE} {σ : St} {H : Hp} {q : Addr} {es : List PyData} {Q : VK} {E : XK} (ha : VE t (.ref q) σ H) (h : EL H q es) (en : ∀ d ∈ es, EntD d) (few : es.length ≤ 100000) (k : ∀ v H3, Same H H3 → WdAt CW C H3 v (.leaf es) 0 1 → Q v H3) :
    tMake CW (spWdI CW CM C) [] E (tCons t tNil) σ H Q := ha H (Same.refl _) _ fun x dx nx ndx ne => wd_newL (Q := Q) h en few k x dx nx ndx ne
theorem op_rd {R : R2} {t u : TE} {v x : V} {σ : St} {H : Hp} {Q : VK} (h : VE t v σ H) (r : VE u x σ H) (k : R v x H Q) : tOp R t u σ H Q := h H (Same.refl _) _ (r H (Same.refl _) _ k)
theorem top_rd {R : R2} {t u : TE} {σ : St} {H : Hp} {Q : VK} (h : t σ H fun x H1 => tOp R (tC x) u σ H1 Q) : tOp R t u σ H Q := h
theorem rep_rd {t u : TE} {σ : St} {H : Hp} {p : Addr} {es : List PyData} {m : Nat} {Q : VK} (h : VE t (.ref p) σ H) (r : VE u (nV m) σ H) (el : EL H p es) (few : es.length * m ≤ 100000) (hm : m ≤ 100000) (k : ∀ q H', Same H H' → EL H' q (rpt m es) → Q (.ref q) H') : tOp rRep t u σ H Q := by
  obtain ⟨xs, hp, a⟩ := el
  have e : ((m : Nat) : Int).toNat = m := Int.toNat_natCast m
  refine op_rd h r ⟨p, (m : Nat), xs, rfl, rfl, hp, by omega, by omega, by rw [e, a.len, sizeLine_eq]; omega, fun q nq => ?_⟩
  have s := same_new (o := .lst (List.replicate ((m : Nat) : Int).toNat xs).flatten) (Same.refl H) nq
  exact k q _ s ⟨_, upd_same, (by rw [e] at s ⊢; exact (atAll_rpt m a).mono s)⟩
theorem cat_rd {t u : TE} {σ : St} {H : Hp} {p q : Addr} {es fs : List PyData} {Q : VK} (h : VE t (.ref p) σ H) (r : VE u (.ref q) σ H) (el : EL H p es) (fl : EL H q fs) (few : es.length + fs.length ≤ 100000) (k : ∀ q H', Same H H' → EL H' q (es ++ fs) → Q (.ref q) H') : tOp rCat t u σ H Q := by
  obtain ⟨xs, hp, a⟩ := el
  obtain ⟨ys, hq, b⟩ := fl
  refine op_rd h r ⟨p, q, xs, ys, rfl, rfl, hp, hq, by rw [a.len, b.len, sizeLine_eq]; omega, fun l nl => ?_⟩
  have s := same_new (o := .lst (xs ++ ys)) (Same.refl H) nl
  exact k l _ s ⟨_, upd_same, (a.append b).mono s⟩
theorem own2_rd {CW C : Addr} {t u : TE} {v x : V} {r1 r2 : RwD} {d n e m : Nat} {σ : St} {H : Hp} {Q : VK} {E : XK} (h : VE t v σ H) (r : VE u x σ H) (a : WdAt CW C H v r1 d n) (b : WdAt CW C H x r2 e m) (g1 : good r1) (g2 : good r2) (few : ext r1 + ext r2 ≤ 100000) (fn : n + m ≤ 1000)
    (k : ∀ v' H', Same H H' → WdAt CW C H' v' (joinR r1 r2) (max d e) (n + m) → Q v' H') : tOp (rOwn2 CW (spWa CW C) E) t u σ H Q := by
  obtain ⟨a1, dx, fs, rv, rfl, ha, _⟩ := a.ex
  obtain ⟨a2, dx', fs', rv', rfl, hb, _⟩ := b.ex
  exact op_rd h r ⟨a1, dx, fs, a2, dx', fs', rfl, ha, rfl, hb, _, _, r1, r2, d, n, e, m, rfl, a, b, g1, g2, few, fn, k⟩
theorem ownI_rd {CW C : Addr} {t u : TE} {v : V} {r1 : RwD} {d n m : Nat} {σ : St} {H : Hp} {Q : VK} {E : XK} (h : VE t v σ H) (r : VE u (nV m) σ H) (a : WdAt CW C H v r1 d n) (g1 : good r1) (few : ext r1 * m ≤ 100000) (f1 : ext r1 ≤ 100000) (fm : m ≤ 100000) (hd : d < 6)
    (k : ∀ v' H', Same H H' → WdAt CW C H' v' (repR r1 m) (d + 1) n → Q v' H') : tOp (rOwnI CW (spWm CW C) E) t u σ H Q := by
  obtain ⟨a1, dx, fs, rv, rfl, ha, _⟩ := a.ex
  exact op_rd h r ⟨a1, dx, fs, (m : Nat), rfl, ha, rfl, _, r1, d, n, m, rfl, a, g1, few, f1, fm, hd, k⟩
theorem ext_join {a b : RwD} : ext (joinR a b) = ext a + ext b := by
  unfold ext
  rw [joinR_den, List.length_append]
theorem ext_rep {a : RwD} {n : Nat} : ext (repR a n) = n * ext a := by
  unfold ext
  rw [repR_den, rpt_len]
theorem pd_rep {a : RwD} {n : Nat} : pd (repR a n) ≤ pd a + 2 := by
  have h1 := pd_dep (repR a n)
  have h2 := repR_dep (r := a) (n := n)
  have h3 := dep_pd a
  omega
section
variable {P : Program} {w : World} {K : PySem.W.Frag} {mg : Str → Option Value} {base : Heap} {C CM CW : Addr}
theorem sc_law_built : FnScope ["_law_digits_here", "_law_deep", "_law_way", "_law_row_here", "_law_one", "_law_some", "_law_times", "_law_other", "_law_more"] ["_law_digits_here", "_law_deep"] (defScope (top 58)) := ⟨rfl, rfl, rfl, by decide +kernel, rfl, by decide +kernel, by decide +kernel⟩
theorem ok_built {b : Nat} {f : Addr} {fd : FuncData} (F : Fun K "_law_built" "_law_built" (top 58) f fd) (B : Blt mg) (hc : PySem.W.selfFirst K CW = true) (hn : PySem.W.findIn K (.ref CW) "__rmul__" = some none)
    (CRo : Cal P w K mg base CX0 2 "_law_row" ["_law_digits_here", "_law_many"] spRo) (MW : Mkr P w K mg base CX0 5 "Word" CW wdP (spWdI CW CM C)) (OA : OwnM P w K mg base CX0 7 CW "__add__" ["self", "other"] (spWa CW C)) (OM : OwnM P w K mg base CX0 7 CW "__mul__" ["self", "other"] (spWm CW C))
    (CBu : Cal P w K mg base CX0 (8 + b) "_law_built" ["_law_digits_here", "_law_deep"] (spBu CW C b)) : FnOk P w K mg base CX0 (8 + (b + 1)) f fd ["_law_digits_here", "_law_deep"] (spBu CW C (b + 1)) := by
  refine F.ok sc_law_built (fun vs H Q E h => ?_) (fun cdv A outer s H vs Q E hr h => ?_)
  · obtain ⟨q, ds, deep, rfl, _⟩ := h
    rfl
  · obtain ⟨q, ds, deep, rfl, hq, few, pos, d4, db, k⟩ := h
    have hr : Room (8 + b) (A.deeper _) := hr
    refine ⟨_, (pss_cons (ps_set (i := 2) sc_law_built.nd rfl (Or.inl rfl) (pe_op op_mod (pe_callTy call_int1 rfl B.int PyProof.Rows.boot_int (pa_cons (pe_ix ix_list (pv 0) pe_int (fun _ _ => rfl)) pa_nil)) pe_int))
      (pss_cons (ps_if (PW.pt (pw_or (pt_cmpR op_eq (pv 1) pe_int (nomark _)) (pw_or1 (pt_cmpR op_eq (pv 2) pe_int (nomark _))))) (pss_cons (ps_set (i := 3) sc_law_built.nd rfl (Or.inl rfl) (pe_cal CRo hr (by omega) pass0 (pa_cons (pe_slice sl_list (pv 0) (po_some pe_int) po_none) (pa_cons (pe_op op_mod (pe_callTy call_int1 rfl B.int PyProof.Rows.boot_int (pa_cons (pe_op op_fdiv (pe_ix ix_list (pv 0) pe_int (fun _ _ => rfl)) pe_int) pa_nil)) pe_int) pa_nil))))
      (pss_one (ps_ret (pe_tup (pa_cons (pe_mkr MW hr (by omega) pass0 (pa_cons (pv 3) pa_nil)) (pa_cons (pv 3) pa_nil)))))) pss_nil)
      (pss_cons (ps_asg (pe_cal CBu hr (by omega) pass0 (pa_cons (pe_slice sl_list (pv 0) (po_some pe_int) po_none) (pa_cons (pe_op op_sub (pv 1) pe_int) pa_nil))) (pg_tup rfl (pgs_cons (pg_name (i := 4) sc_law_built.nd rfl (Or.inl rfl)) (pgs_cons (pg_name (i := 5) sc_law_built.nd rfl (Or.inl rfl)) pgs_nil))))
      (pss_cons (ps_if (pt_cmpR op_eq (pv 2) pe_int (nomark _)) (pss_cons (ps_set (i := 6) sc_law_built.nd rfl (Or.inl rfl) (pe_op op_mod (pe_callTy call_int1 rfl B.int PyProof.Rows.boot_int (pa_cons (pe_op op_fdiv (pe_ix ix_list (pv 0) pe_int (fun _ _ => rfl)) pe_int) pa_nil)) pe_int))
      (pss_one (ps_ret (pe_tup (pa_cons (pe_op (op_mulOwn OM hc hn (hr.mono (by omega)) pass0) (pv 4) (pv 6)) (pa_cons (pe_op op_rep (pv 5) (pv 6)) pa_nil)))))) pss_nil)
      (pss_cons (ps_asg (pe_cal CBu hr (by omega) pass0 (pa_cons (pe_slice sl_list (pv 0) (po_some pe_int) po_none) (pa_cons (pe_op op_sub (pv 1) pe_int) pa_nil))) (pg_tup rfl (pgs_cons (pg_name (i := 7) sc_law_built.nd rfl (Or.inl rfl)) (pgs_cons (pg_name (i := 8) sc_law_built.nd rfl (Or.inl rfl)) pgs_nil))))
      (pss_cons (ps_if (pt_cmpR op_eq (pv 2) pe_int (nomark _)) (pss_one (ps_ret (pe_tup (pa_cons (pe_op (op_addOwn OA hc (hr.mono (by omega)) pass0) (pv 4) (pv 7)) (pa_cons (pe_op op_cat (pv 5) (pv 8)) pa_nil))))) pss_nil)
      (pss_one (ps_ret (pe_tup (pa_cons (pe_op (op_addOwn OA hc (hr.mono (by omega)) pass0) (pe_op (op_addOwn OA hc (hr.mono (by omega)) pass0) (pv 4) (pv 7)) (pv 4)) (pa_cons (pe_op op_cat (pe_op op_cat (pv 5) (pv 8)) (pv 5)) pa_nil))))))))))), ?_⟩
    obtain ⟨z, h0⟩ : ∃ z, ds[0]? = some z := ⟨_, List.getElem?_eq_getElem (by omega)⟩
    have z0 := pos z (List.mem_of_getElem? h0)
    have h0' : (ds.map V.int)[0]? = some (V.int z) := by rw [List.getElem?_map, h0]; rfl
    refine seq_rd (set_v (ve_mod (ve_intI (ve_ixL (ve_var (s := 0) (v := .ref q) rfl) hq (ve_c (v := nV 0)) h0')) ve_int (by decide)) ?_)
    refine next_rd ?_
    dsimp only
    refine seq_rd (if_be (be_or (be_eqN (j := 0) (ve_var (s := 1) (v := nV deep) rfl) (ve_c (v := nV 0))) fun _ => be_int (ve_var (s := 2) (v := .int (z % 4)) rfl) ve_int) fun H1 s1 => ⟨fun e => ?_, fun e => ?_⟩)
    · refine seq_rd (asg_of ?_)
      refine tcall_rd (tcons_rd ?_)
      refine from_rd (ve_var (s := 0) (v := .ref q) rfl) (s1 _ _ hq) (ve_c (v := nV 1)) fun t nt s2 => ?_
      have ht : (upd H1 t (.lst ((ds.map V.int).drop 1))) t = some (.lst ((ds.map V.int).drop 1)) := upd_same
      generalize upd H1 t (.lst ((ds.map V.int).drop 1)) = H2 at s2 ht
      have s3 := s1.trans s2
      have five := Int.emod_lt_of_pos (z / 4) (show (0 : Int) < 5 by decide)
      have five0 := Int.emod_nonneg (z / 4) (show (5 : Int) ≠ 0 by decide)
      refine (va_cons (VE.nat (i := z / 4 % 5) (ve_mod (ve_intI (ve_fdiv (ve_ixL (ve_var (s := 0) (v := .ref q) rfl) (s3 _ _ hq) (ve_c (v := nV 0)) h0') ve_int ⟨by decide, by decide⟩)) ve_int (by decide)) five0) va_nil) H2 (Same.refl _) _ ?_
      refine ⟨t, ds.drop 1, _, rfl, by rw [List.map_drop]; exact ht, by omega, fun p es H3 s4 np el len fo => ?_⟩
      refine next_rd ?_
      dsimp only
      refine ret_of (ttup_rd (tcons_rd ?_))
      refine mkw_rd (ve_var (s := 3) (v := .ref p) rfl) el (fun d m => four_ent (fo d m)) (by omega) fun v H4 s5 hw => ?_
      refine (va_cons (ve_var (s := 3) (v := .ref p) rfl) va_nil) H4 (Same.refl _) _ ⟨by show 2 ≤ sizeLine; decide, fun t2 n2 => ?_⟩
      have s6 := same_new (o := .tup [v, .ref p]) (Same.refl H4) n2
      have p1 : 1 ≤ 3 ^ deep := Nat.one_le_pow _ _ (by decide)
      have e1 : ext (.leaf es : RwD) = es.length := rfl
      refine k t2 _ ((s3.trans s4).trans (s5.trans s6)) ⟨v, p, .leaf es, 0, 1, upd_same, hw.mono s6, el.mono (s5.trans s6), trivial, fo, by omega, Nat.zero_le _, Nat.zero_le _, p1⟩
    · obtain ⟨c, rfl⟩ : ∃ c, deep = c + 1 := by
        refine ⟨deep - 1, ?_⟩
        by_cases c : deep = 0
        · rw [decide_eq_true c] at e
          cases e
        · omega
      have ec : c + 1 - 1 = c := rfl
      have pw : 3 ^ (c + 1) = 3 ^ c * 3 := Nat.pow_succ ..
      have p27 : 3 ^ c ≤ 3 ^ 3 := Nat.pow_le_pow_right (by decide) (by omega)
      have p27 : 3 ^ c ≤ 27 := p27
      refine next_rd ?_
      dsimp only
      refine seq_rd (asgT ?_)
      refine tcall_rd (tcons_rd ?_)
      refine from_rd (ve_var (s := 0) (v := .ref q) rfl) (s1 _ _ hq) (ve_c (v := nV 1)) fun t nt s2 => ?_
      have ht : (upd H1 t (.lst ((ds.map V.int).drop 1))) t = some (.lst ((ds.map V.int).drop 1)) := upd_same
      generalize upd H1 t (.lst ((ds.map V.int).drop 1)) = H2 at s2 ht
      have s3 := s1.trans s2
      refine (va_cons (ve_subN (j := 1) (ve_var (s := 1) (v := nV (c + 1)) rfl) (ve_c (v := nV 1)) (by omega)) va_nil) H2 (Same.refl _) _ ?_
      refine ⟨t, ds.drop 1, c, rfl, by rw [List.map_drop]; exact ht, by rw [List.length_drop]; omega, fun x hx => pos x (List.mem_of_mem_drop hx), by omega, by omega, fun t1 H3 s4 bu => ?_⟩
      obtain ⟨v1, p1, r1, d1, n1, h1, hw1, el1, g1, f1, e1, pd1, dd1, nn1⟩ := bu.ex
      refine ⟨t1, [v1, .ref p1], rfl, SqT.of h1, rfl, v1, [.ref p1], rfl, .ref p1, [], rfl, rfl, ?_⟩
      have s5 := s3.trans s4
      refine next_rd ?_
      dsimp only
      refine seq_rd (if_be (be_int (ve_var (s := 2) (v := .int (z % 4)) rfl) ve_int) fun H4 s6 => ⟨fun _ => ?_, fun _ => ?_⟩)
      · have s7 := s5.trans s6
        have five := Int.emod_lt_of_pos (z / 4) (show (0 : Int) < 4 by decide)
        have five0 := Int.emod_nonneg (z / 4) (show (4 : Int) ≠ 0 by decide)
        obtain ⟨m, em, hm⟩ : ∃ m : Nat, m = (z / 4 % 4).toNat ∧ m ≤ 3 := ⟨_, rfl, by omega⟩
        refine seq_rd (set_v (VE.nat (i := z / 4 % 4) (ve_mod (ve_intI (ve_fdiv (ve_ixL (ve_var (s := 0) (v := .ref q) rfl) (s7 _ _ hq) (ve_c (v := nV 0)) h0') ve_int ⟨by decide, by decide⟩)) ve_int (by decide)) five0) ?_)
        rw [← em]
        refine next_rd ?_
        dsimp only
        refine ret_of (ttup_rd (tcons_rd ?_))
        have hx : ext r1 * m ≤ 108 * 3 := Nat.mul_le_mul (by omega) hm
        refine ownI_rd (ve_var (s := 4) (v := v1) rfl) (ve_var (s := 6) (v := nV m) rfl) (hw1.mono s6) g1 (by omega) (by omega) (by omega) (by omega) fun v' H5 s8 hw => ?_
        refine tcons_rd (rep_rd (ve_var (s := 5) (v := .ref p1) rfl) (ve_var (s := 6) (v := nV m) rfl) (el1.mono (s6.trans s8)) (show ext r1 * m ≤ _ by omega) (by omega) fun p H6 s9 el => ?_)
        refine ⟨by show 2 ≤ sizeLine; decide, fun t2 n2 => ?_⟩
        have s10 := same_new (o := .tup [v', .ref p]) (Same.refl H6) n2
        have ee : ext (repR r1 m) = m * ext r1 := ext_rep
        rw [Nat.mul_comm] at ee
        have h4 : ext r1 * m ≤ 4 * 3 ^ c * 3 := Nat.mul_le_mul e1 hm
        have := pd_rep (a := r1) (n := m)
        exact k t2 _ (((s7.trans s8).trans s9).trans s10) ⟨v', p, repR r1 m, d1 + 1, n1, upd_same, hw.mono (s9.trans s10), by rw [repR_den]; exact el.mono s10, repR_good g1, by rw [repR_den]; exact four_rpt f1, by omega, by omega, by omega, by omega⟩
      · have s7 := s5.trans s6
        refine next_rd ?_
        dsimp only
        refine seq_rd (asgT ?_)
        refine tcall_rd (tcons_rd ?_)
        refine from_rd (ve_var (s := 0) (v := .ref q) rfl) (s7 _ _ hq) (ve_c (v := nV 7)) fun t' nt' s8 => ?_
        have ht' : (upd H4 t' (.lst ((ds.map V.int).drop 7))) t' = some (.lst ((ds.map V.int).drop 7)) := upd_same
        generalize upd H4 t' (.lst ((ds.map V.int).drop 7)) = H5 at s8 ht'
        refine (va_cons (ve_subN (j := 1) (ve_var (s := 1) (v := nV (c + 1)) rfl) (ve_c (v := nV 1)) (by omega)) va_nil) H5 (Same.refl _) _ ?_
        refine ⟨t', ds.drop 7, c, rfl, by rw [List.map_drop]; exact ht', by rw [List.length_drop]; omega, fun x hx => pos x (List.mem_of_mem_drop hx), by omega, by omega, fun t2 H6 s9 bu2 => ?_⟩
        obtain ⟨v2, p2, r2, d2, n2, h2, hw2, el2, g2, f2, e2, pd2, dd2, nn2⟩ := bu2.ex
        refine ⟨t2, [v2, .ref p2], rfl, SqT.of h2, rfl, v2, [.ref p2], rfl, .ref p2, [], rfl, rfl, ?_⟩
        have s10 := s8.trans s9
        have s11 := s6.trans s10
        refine next_rd ?_
        dsimp only
        have j1 : ext (joinR r1 r2) = ext r1 + ext r2 := ext_join
        have j2 := joinR_pd (a := r1) (b := r2)
        refine seq_rd (if_be (be_int (ve_var (s := 2) (v := .int (z % 4)) rfl) ve_int) fun H7 s12 => ⟨fun _ => ?_, fun _ => ?_⟩)
        · refine ret_of (ttup_rd (tcons_rd ?_))
          refine own2_rd (ve_var (s := 4) (v := v1) rfl) (ve_var (s := 7) (v := v2) rfl) (hw1.mono (s11.trans s12)) (hw2.mono s12) g1 g2 (by omega) (by omega) fun v' H8 s13 hw => ?_
          refine tcons_rd (cat_rd (ve_var (s := 5) (v := .ref p1) rfl) (ve_var (s := 8) (v := .ref p2) rfl) (el1.mono ((s11.trans s12).trans s13)) (el2.mono (s12.trans s13)) (show ext r1 + ext r2 ≤ _ by omega) fun p H9 s14 el => ?_)
          refine ⟨by show 2 ≤ sizeLine; decide, fun t3 n3 => ?_⟩
          have s15 := same_new (o := .tup [v', .ref p]) (Same.refl H9) n3
          exact k t3 _ ((((s5.trans s11).trans s12).trans (s13.trans s14)).trans s15) ⟨v', p, joinR r1 r2, max d1 d2, n1 + n2, upd_same, hw.mono (s14.trans s15), by rw [joinR_den]; exact el.mono s15, joinR_good g1 g2, by rw [joinR_den]; exact four_app f1 f2, by omega, by omega, by omega, by omega⟩
        · refine next_rd ?_
          dsimp only
          refine ret_of (ttup_rd (tcons_rd ?_))
          have j3 : ext (joinR (joinR r1 r2) r1) = ext (joinR r1 r2) + ext r1 := ext_join
          have j4 := joinR_pd (a := joinR r1 r2) (b := r1)
          refine top_rd (own2_rd (ve_var (s := 4) (v := v1) rfl) (ve_var (s := 7) (v := v2) rfl) (hw1.mono (s11.trans s12)) (hw2.mono s12) g1 g2 (by omega) (by omega) fun v' H8 s13 hw => ?_)
          refine own2_rd ve_c (ve_var (s := 4) (v := v1) rfl) hw (hw1.mono ((s11.trans s12).trans s13)) (joinR_good g1 g2) g1 (by omega) (by omega) fun v3 H9 s14 hw3 => ?_
          have s16 := s13.trans s14
          refine tcons_rd (top_rd (cat_rd (ve_var (s := 5) (v := .ref p1) rfl) (ve_var (s := 8) (v := .ref p2) rfl) (el1.mono ((s11.trans s12).trans s16)) (el2.mono (s12.trans s16)) (show ext r1 + ext r2 ≤ _ by omega) fun p H10 s17 el => ?_))
          refine cat_rd ve_c (ve_var (s := 5) (v := .ref p1) rfl) el (el1.mono (((s11.trans s12).trans s16).trans s17)) (by rw [List.length_append]; show (ext r1 + ext r2) + ext r1 ≤ _; omega) fun p' H11 s18 el' => ?_
          refine ⟨by show 2 ≤ sizeLine; decide, fun t3 n3 => ?_⟩
          have s19 := same_new (o := .tup [v3, .ref p']) (Same.refl H11) n3
          have den3 : den (joinR (joinR r1 r2) r1) = (den r1 ++ den r2) ++ den r1 := by rw [joinR_den, joinR_den]
          exact k t3 _ (((s5.trans s11).trans s12).trans ((s16.trans s17).trans (s18.trans s19))) ⟨v3, p', joinR (joinR r1 r2) r1, max (max d1 d2) d1, (n1 + n2) + n1, upd_same, hw3.mono ((s17.trans s18).trans s19), by rw [den3]; exact el'.mono s19, joinR_good (joinR_good g1 g2) g1, by rw [den3]; exact four_app (four_app f1 f2) f1, by omega, by omega, by omega, by omega⟩
end

end K1

set_option Elab.async false
set_option linter.all false
set_option maxRecDepth 100000
set_option maxHeartbeats 4000000
namespace K1
open PySem L2 W1
/-! ### _law_parts_right -/
/-- a method of Word as its callers know it -/
structure MetW (P : Program) (w : World) (K : PySem.W.Frag) (mg : Str → Option Value) (base : Heap) (k : Nat) (C : Addr) (m : Str) (ps : List Str) (sp : Sp) : Prop where
  ex : ∃ (f : Addr) (fd : FuncData), Meth K C m f ∧ FnOk P w K mg base CX0 k f fd ps sp ∧ Binds K fd ps []
section
variable {X : Cx} {C : Addr} {j k : Nat} {o e : Expr} {es : List Expr} {ta : TE} {t : TA} {pos apos : Pos} {pl : Sem Bool} {m : Str} {ps : List Str} {sp : Sp}
theorem pe_mw (M : MetW X.prog X.w X.K X.mg X.base k C m ps sp) (c : Cls X.K C) (hr : Room j X.A) (hj : k ≤ j) (he : PE X o ta) (ha : PA X (e :: es) t)
    (hst : starEach (e :: es) X.env = (false, eval e X.env) :: starEach es X.env := by rfl) (hpl : (backTo pos (starEach es X.env)).any (·.1) = false := by rfl)
    (hs : eval (.Call (.Attribute o m apos) (e :: es) [] pos) X.env = (do let ov ← eval o X.env; standAt apos.atName; let (f, first) ← holding [ov] (getMethod ov m pl); callWith pos f first (backTo pos (starEach (e :: es) X.env)) (backToKw pos (keywordEach [] X.env))) := by rfl) :
    PE X (.Call (.Attribute o m apos) (e :: es) [] pos) (tMeth C m sp [] E0 ta t) := by
  obtain ⟨f, fd, mt, F, b⟩ := M.ex
  exact pe_meth he c mt F (hr.mono hj) b .nil pass0 ha hst hpl hs
theorem pe_mw0 (M : MetW X.prog X.w X.K X.mg X.base k C m ps sp) (c : Cls X.K C) (hr : Room j X.A) (hj : k ≤ j) (he : PE X o ta)
    (hs : eval (.Call (.Attribute o m apos) [] [] pos) X.env = (do let ov ← eval o X.env; standAt apos.atName; let (f, first) ← holding [ov] (getMethod ov m pl); callWith pos f first (backTo pos (starEach [] X.env)) (backToKw pos (keywordEach [] X.env))) := by rfl) :
    PE X (.Call (.Attribute o m apos) [] [] pos) (tMeth C m sp [] E0 ta tNil) := by
  obtain ⟨f, fd, mt, F, b⟩ := M.ex
  exact pe_meth0 he c mt F (hr.mono hj) b .nil pass0 hs
end
theorem mw_rd {CW C : Addr} {m : Str} {sp : Sp} {E : XK} {t : TE} {ts : TA} {v : V} {vs : List V} {r : RwD} {d n : Nat} {σ : St} {H : Hp} {Q : VK} (h : VE t v σ H) (hw : WdAt CW C H v r d n) (ha : VA ts vs σ H) (k : sp (v :: (vs ++ [])) H Q E)
    (n1 : m ≠ "_row" := by decide) (n2 : m ≠ "_depth" := by decide) (n3 : m ≠ "_pieces" := by decide) : tMeth CW m sp [] E t ts σ H Q := by
  obtain ⟨a, dx, fs, rv, rfl, hp, f, _⟩ := hw.ex
  exact h H (Same.refl _) _ ⟨a, dx, fs, rfl, hp, f.no m n1 n2 n3, ha H (Same.refl _) _ k⟩
theorem tlst_rd {ts : TA} {σ : St} {H : Hp} {Q : VK} (h : ts σ H fun vs H1 => vs.length ≤ sizeLine ∧ ∀ p, H1 p = none → Q (.ref p) (upd H1 p (.lst vs))) : tLst ts σ H Q := h
theorem tcb_rd {r : List V → Hp → VK → Prop} {ts : TA} {σ : St} {H : Hp} {Q : VK} (h : ts σ H fun vs H1 => r vs H1 Q) : tCB r ts σ H Q := h
section
variable {K : PySem.W.Frag} {C CW CM : Addr} {σ : St} {H1 : Hp}
theorem VA.mono {t : TA} {v : List V} {H2 : Hp} (h : VA t v σ H1) (s : Same H1 H2) : VA t v σ H2 := fun H3 s3 => h H3 (s.trans s3)
theorem dt_el {t : TE} {p : Addr} {es : List PyData} (h : VE t (.ref p) σ H1) (el : EL H1 p es) : DT [] t (.list es) σ H1 := dt_v h fun H2 s => by
  rw [hid_nil]
  obtain ⟨xs, e, a⟩ := el.mono s
  exact .lst e a
theorem el_at {H : Hp} {p : Addr} {es : List PyData} (h : At H (.ref p) (.list es)) : EL H p es := by
  cases h with
  | lst e a => exact ⟨_, e, a⟩
/-- t[f:l] of a list of entries: a new list -/
theorem slE_rd {t u1 u2 : TE} {p : Addr} {es : List PyData} {f l : Nat} {Q : VK} (h : VE t (.ref p) σ H1) (el : EL H1 p es) (r1 : VE u1 (nV f) σ H1) (r2 : VE u2 (nV l) σ H1) (h1 : f ≤ l) (h2 : l ≤ es.length)
    (k : ∀ q H3, Same H1 H3 → H1 q = none → EL H3 q (sl es f l) → Q (.ref q) H3) : tSl (rSlL K) t (tPart u1) (tPart u2) σ H1 Q := by
  obtain ⟨xs, hp, a⟩ := el
  refine h H1 (Same.refl _) _ (r1 H1 (Same.refl _) _ ⟨_, rfl, r2 H1 (Same.refl _) _ ⟨_, rfl, p, xs, rfl, SqL.of hp, fun q np => ?_⟩⟩)
  have s := same_new (o := .lst (cutV xs (some ((f : Nat) : Int)) (some ((l : Nat) : Int)))) (Same.refl H1) np
  refine k q _ s np ⟨_, upd_same, ?_⟩
  have ax := (atAll_sl f l a).mono s
  rw [cut_sl h1 (by rw [a.len]; exact h2)] at ax ⊢
  exact ax
theorem dt_slE {t u1 u2 : TE} {p : Addr} {es : List PyData} {f l : Nat} (h : VE t (.ref p) σ H1) (el : EL H1 p es) (r1 : VE u1 (nV f) σ H1) (r2 : VE u2 (nV l) σ H1) (h1 : f ≤ l) (h2 : l ≤ es.length) : DT [] (tSl (rSlL K) t (tPart u1) (tPart u2)) (.list (sl es f l)) σ H1 :=
  fun H2 s Q k => slE_rd (h.mono s) (el.mono s) (r1.mono s) (r2.mono s) h1 h2 fun q H3 s3 _ e => k _ H3 s3 (by
    rw [hid_nil]
    obtain ⟨xs, e, a⟩ := e
    exact .lst e a)
theorem be_neE {t u : TE} {xs ys : List PyData} (h : DT [] t (.list xs) σ H1) (r : DT [] u (.list ys) σ H1) (e : xs = ys) (n : Ents xs) : BE (tTest (tOp (rNeD K) t u)) false σ H1 := by
  cases e
  have z := be_ne (K := K) h r (by rw [noDic]; exact (shaped_ents n).2.1) (by rw [noDic]; exact (shaped_ents n).2.1) (shaped_list n) (shaped_list n)
  rw [show PyData.eqv (.list xs) (.list xs) = true by rw [PyData.eqv]; exact (eqv_ents n n).mpr rfl] at z
  exact z
theorem be_neP {t u : TE} {d : PyData} (h : DT [] t d σ H1) (r : DT [] u d σ H1) (n : PairD d) : BE (tTest (tOp (rNeD K) t u)) false σ H1 := by
  have z := be_ne (K := K) h r (shaped_pair n).2.1 (shaped_pair n).2.1 (shaped_pair n).1 (shaped_pair n).1
  rw [(eqv_pair n n).mpr rfl] at z
  exact z
/-- word.entries(f, l), word.cut(f, l) -/
theorem dt_entries {ok : RwD → Prop} {E : XK} {t : TE} {ts : TA} {v : V} {r : RwD} {d n f l : Nat} (h : VE t v σ H1) (hw : WdAt CW C H1 v r d n) (ha : VA ts [nV f, nV l] σ H1) (g : good r) (en : Ents (den r)) (o : ok r) (h1 : f ≤ l) (h2 : l ≤ ext r) (few : ext r ≤ 1000) :
    DT [] (tMeth CW "entries" (spWe CW C ok) [] E t ts) (.list (sl (den r) f l)) σ H1 := fun H2 s Q k =>
  mw_rd (h.mono s) (hw.mono s) (ha.mono s) ⟨v, r, d, n, f, l, rfl, hw.mono s, g, en, o, h1, h2, by omega, by omega, fun p H3 s3 _ e => k _ H3 s3 (by
    rw [hid_nil]
    obtain ⟨xs, e, a⟩ := e
    exact .lst e a)⟩
theorem cut_rd {ok : RwD → Prop} {E : XK} {t : TE} {ts : TA} {v : V} {r : RwD} {d n f l : Nat} {Q : VK} (h : VE t v σ H1) (hw : WdAt CW C H1 v r d n) (ha : VA ts [nV f, nV l] σ H1) (g : good r) (o : ok r) (h1 : f ≤ l) (h2 : l ≤ ext r) (few : ext r ≤ 1000)
    (k : ∀ v' r' H', Same H1 H' → WdAt CW C H' v' r' d n → good r' → den r' = sl (den r) f l → pd r' ≤ pd r → Q v' H') : tMeth CW "cut" (spWc CW C ok) [] E t ts σ H1 Q :=
  mw_rd h hw ha ⟨v, r, d, n, f, l, rfl, hw, g, o, h1, h2, by omega, k⟩
/-- word[i] -/
theorem dt_get {E : XK} {t u : TE} {v : V} {r : RwD} {d n i : Nat} {e : PyData} (h : VE t v σ H1) (hw : WdAt CW C H1 v r d n) (hi : VE u (nV i) σ H1) (g : good r) (he : (den r)[i]? = some e) (few : ext r ≤ 1000) :
    DT [] (tOp (rOwn CW (spWg CW C) E) t u) e σ H1 := fun H2 s Q k => by
  obtain ⟨a, dx, fs, rv, rfl, hp, _⟩ := (hw.mono s).ex
  refine op_rd (h.mono s) (hi.mono s) ⟨a, dx, fs, rfl, hp, .ref a, r, d, n, i, rfl, hw.mono s, g, (List.getElem?_eq_some_iff.mp he).1, by omega, fun y e' H' s' he' ay => ?_⟩
  rw [he] at he'
  cases he'
  exact k y H' s' (by rw [hid_nil]; exact ay)
/-- word != word -/
theorem be_neW {ok : RwD → Prop} {E : XK} {t u : TE} {v : V} {r : RwD} {d n : Nat} {es : List PyData} (h : VE t v σ H1) (hw : WdAt CW C H1 v r d n)
    (hu : ∀ H2, Same H1 H2 → ∀ Q : VK, (∀ v' H3, Same H2 H3 → WdAt CW C H3 v' (.leaf es) 0 1 → Q v' H3) → u σ H2 Q) (g : good r) (en : Ents (den r)) (eq : den r = es) (o : ok r) (o2 : ok (.leaf es)) (few : ext r ≤ 1000) : BE (tTest (tOp (rOwnE CW (spWq CW C ok) E true) t u)) false σ H1 := fun H2 s Q k => by
  refine top_rd (h H2 s _ (hu H2 s _ fun v' H3 s3 hw' => ?_))
  obtain ⟨a, dx, fs, rv, rfl, hp, _⟩ := (hw.mono (s.trans s3)).ex
  obtain ⟨a', dx', fs', rv', rfl, hp', _⟩ := hw'.ex
  have len : es.length = ext r := by rw [← eq]; rfl
  have e2 : ext (.leaf es : RwD) = es.length := rfl
  refine ⟨a, dx, fs, rfl, hp, .ins hp', .ref a, .ref a', r, d, n, rfl, hw.mono (s.trans s3), .inl ⟨.leaf es, 0, 1, hw', g, trivial, en, by show Ents es; rw [← eq]; exact en, o, o2, by omega, by omega, .inr rfl, fun b H4 s4 iff => ?_⟩⟩
  have b1 : b = true := iff.mpr eq
  exact ⟨b, rfl, _, rfl, by rw [b1]; exact k H4 (s3.trans s4)⟩
end

end K1

set_option Elab.async false
set_option linter.all false
set_option maxRecDepth 100000
set_option maxHeartbeats 4000000
namespace K1
open PySem L2 W1
theorem ve_wlen {C CW : Addr} {σ : St} {H1 : Hp} {E : XK} {t : TE} {v : V} {r : RwD} {d n : Nat} (h : VE t v σ H1) (hw : WdAt CW C H1 v r d n) : VE (tMeth CW "length" (spWl CW C) [] E t tNil) (nV (ext r)) σ H1 := fun H2 s Q q =>
  mw_rd (h.mono s) (hw.mono s) va_nil ⟨v, r, d, n, rfl, hw.mono s, q⟩
theorem two_sorted {a b : Int} {N : Nat} {ns : List Int} (p : ns.Perm [a, b]) (s : ns.Pairwise (· ≤ ·)) (a0 : 0 ≤ a) (b0 : 0 ≤ b) (a1 : a ≤ N) (b1 : b ≤ N) : ∃ x y : Nat, ns = [(x : Int), (y : Int)] ∧ x ≤ y ∧ y ≤ N := by
  have hl := p.length_eq
  match ns, hl with
  | [x, y], _ =>
    have hx : x = a ∨ x = b := by have := p.mem_iff.mp (show x ∈ [x, y] by simp); simpa using this
    have hy : y = a ∨ y = b := by have := p.mem_iff.mp (show y ∈ [x, y] by simp); simpa using this
    have xy : x ≤ y := (List.pairwise_cons.mp s).1 y (List.mem_singleton.mpr rfl)
    refine ⟨x.toNat, y.toNat, ?_, by omega, by omega⟩
    rw [Int.toNat_of_nonneg (by omega), Int.toNat_of_nonneg (by omega)]
theorem gname_rd {i : Nat} {v : V} {σ : St} {H : Hp} {Q : St → Hp → Prop} (h : Q (σ.set i (some v)) H) : gName i v σ H Q := h
theorem mkwS_rd {C CM CW : Addr} {t : TE} {σ : St} {H : Hp} {Q : VK} {E : XK} (h : t σ H fun x H1 => tMake CW (spWdI CW CM C) [] E (tCons (tC x) tNil) σ H1 Q) : tMake CW (spWdI CW CM C) [] E (tCons t tNil) σ H Q := h
theorem ve_lenE {K : PySem.W.Frag} {σ : St} {H1 : Hp} {s : Nat} {p : Addr} {es : List PyData} (e : σ[s]? = some (some (.ref p))) (el : EL H1 p es) : VE (tCB (fun xs H Q => ∃ p ys, xs = [V.ref p] ∧ (SqL K H p ys ∨ SqT K H p ys) ∧ Q (V.int (ys.length : Nat)) H) (tCons (tVar s) tNil)) (nV es.length) σ H1 := by
  obtain ⟨xs, h, a⟩ := el
  have := ve_len (K := K) e h
  rw [a.len] at this
  exact this
theorem sl_ents {es : List PyData} {a b : Nat} (h : Ents es) : Ents (sl es a b) := fun d hd => h d (sl_mem hd)
section
variable {P : Program} {w : World} {K : PySem.W.Frag} {mg : Str → Option Value} {base : Heap} {C CM CW : Addr}
def spPr (CW C : Addr) : Sp := fun vs H Q _ => ∃ (v : V) (p q : Addr) (r : RwD) (d n : Nat) (ds : List Int), vs = [v, .ref p, .ref q] ∧ WdAt CW C H v r d n ∧ EL H p (den r) ∧ good r ∧ (∀ e ∈ den r, FourD e) ∧ ext r ≤ 324 ∧ pd r ≤ 8 ∧ H q = some (.lst (ds.map V.int)) ∧ 8 ≤ ds.length ∧ ∀ H', Same H H' → Q (.bl true) H'
theorem sc_law_parts_right : FnScope ["_law_word", "_law_some", "_law_digits_here", "_law_k", "_law_first", "_law_last", "_law_told", "_law_cut_so"] ["_law_word", "_law_some", "_law_digits_here"] (defScope (top 59)) := ⟨rfl, rfl, rfl, by decide +kernel, rfl, by decide +kernel, by decide +kernel⟩
theorem ok_parts {j : Nat} {f : Addr} {fd : FuncData} (F : Fun K "_law_parts_right" "_law_parts_right" (top 59) f fd) (B : Bl2 mg) (hk : 7 ≤ j) (TW : NoWd K CW)
    (ME : MetW P w K mg base j CW "entries" ["self", "first", "last"] (spWe CW C (dlt 12))) (MC : MetW P w K mg base j CW "cut" ["self", "first", "last"] (spWc CW C (dlt 12))) (ML : MetW P w K mg base 1 CW "length" ["self"] (spWl CW C))
    (OG : OwnM P w K mg base CX0 3 CW "__getitem__" ["self", "at"] (spWg CW C)) (OQ : OwnE P w K mg base CX0 j CW ["self", "other"] (spWq CW C (dlt 12))) (MW : Mkr P w K mg base CX0 5 "Word" CW wdP (spWdI CW CM C)) : FnOk P w K mg base CX0 (j + 2) f fd ["_law_word", "_law_some", "_law_digits_here"] (spPr CW C) := by
  refine F.ok sc_law_parts_right (fun vs H Q E h => ?_) (fun cdv A outer s H vs Q E hr h => ?_)
  · obtain ⟨v, p, q, r, d, n, ds, rfl, _⟩ := h
    rfl
  · obtain ⟨v, p, q, r, d, n, ds, rfl, hv, hp, g, fo, x1, dp, hq, few, k⟩ := h
    have hr : Room (j + 1) (A.deeper _) := hr
    refine ⟨_, (pss_cons (ps_for PassesOwn.never rfl (pi_range1 rfl B.range (pa_cons pe_int pa_nil)) (pg_name (i := 3) sc_law_parts_right.nd rfl (Or.inl rfl))
        (pss_cons (ps_asg (pe_callB cr_sorted rfl B.sorted (by decide +kernel) (pa_cons (pe_lst (pa_cons (pe_op op_mod (pe_callTy call_int1 rfl B.int PyProof.Rows.boot_int (pa_cons (pe_ix ix_list (pv 2) (pe_op op_mul pe_int (pv 3)) (fun _ _ => rfl)) pa_nil)) (pe_op op_add (pe_callB call_len_seq rfl B.len PySem.boot_len (pa_cons (pv 1) pa_nil)) pe_int)) (pa_cons (pe_op op_mod (pe_callTy call_int1 rfl B.int PyProof.Rows.boot_int (pa_cons (pe_ix ix_list (pv 2) (pe_op op_add (pe_op op_mul pe_int (pv 3)) pe_int) (fun _ _ => rfl)) pa_nil)) (pe_op op_add (pe_callB call_len_seq rfl B.len PySem.boot_len (pa_cons (pv 1) pa_nil)) pe_int)) pa_nil))) pa_nil)) (pg_unl rfl (pgs_cons (pg_name (i := 4) sc_law_parts_right.nd rfl (Or.inl rfl)) (pgs_cons (pg_name (i := 5) sc_law_parts_right.nd rfl (Or.inl rfl)) pgs_nil))))
      (pss_cons (ps_set (i := 6) sc_law_parts_right.nd rfl (Or.inl rfl) (pe_mw ME TW.cl hr (by omega) (pv 0) (pa_cons (pv 4) (pa_cons (pv 5) pa_nil))))
      (pss_cons (ps_set (i := 7) sc_law_parts_right.nd rfl (Or.inl rfl) (pe_mw MC TW.cl hr (by omega) (pv 0) (pa_cons (pv 4) (pa_cons (pv 5) pa_nil))))
      (pss_cons (ps_if (PW.pt (pw_or (pt_cmpR (op_neD hr.units) (pv 6) (pe_slice sl_list (pv 1) (po_some (pv 4)) (po_some (pv 5))) (nomark _)) (pw_or (pt_cmpR (op_neOwn OQ (hr.mono (by omega)) pass0) (pv 7) (pe_mkr MW hr (by omega) pass0 (pa_cons (pe_slice sl_list (pv 1) (po_some (pv 4)) (po_some (pv 5))) pa_nil)) (nomark _)) (pw_or1 (pt_cmpR op_ne (pe_mw0 ML TW.cl hr (by omega) (pv 7)) (pe_op op_sub (pv 5) (pv 4)) (nomark _)))))) (pss_one (ps_ret pe_bl)) pss_nil)
      (pss_cons (ps_expr (pe_bm PySem.F.plainAttrs_list PySem.F.slot_list_append PySem.F.type_list_append mt_append (pv 6) (pa_cons pe_non pa_nil)))
      (pss_cons (ps_if (pt_cmpR (op_neD hr.units) (pe_mw ME TW.cl hr (by omega) (pv 0) (pa_cons (pv 4) (pa_cons (pv 5) pa_nil))) (pe_slice sl_list (pv 1) (po_some (pv 4)) (po_some (pv 5))) (nomark _)) (pss_one (ps_ret pe_bl)) pss_nil)
      (pss_cons (ps_if (PW.pt (pw_and (pt_cmpR op_lt (pv 4) (pe_callB call_len_seq rfl B.len PySem.boot_len (pa_cons (pv 1) pa_nil)) (nomark _)) (pw_and1 (pt_cmpR (op_neD hr.units) (pe_ixOwn OG (hr.mono (by omega)) pass0 (pv 0) (pv 4)) (pe_ix ix_list (pv 1) (pv 4) (fun _ _ => rfl)) (nomark _))))) (pss_one (ps_ret pe_bl)) pss_nil)
      (pss_one (ps_if (PW.pt (pw_and (pt_cmpR op_lt (pv 4) (pe_callB call_len_seq rfl B.len PySem.boot_len (pa_cons (pv 1) pa_nil)) (nomark _)) (pw_and1 (pt_cmpR (op_neD hr.units) (pe_ixOwn OG (hr.mono (by omega)) pass0 (pe_mw MC TW.cl hr (by omega) (pv 0) (pa_cons (pv 4) (pa_cons (pe_callB call_len_seq rfl B.len PySem.boot_len (pa_cons (pv 1) pa_nil)) pa_nil))) pe_int) (pe_ix ix_list (pv 1) (pv 4) (fun _ _ => rfl)) (nomark _))))) (pss_one (ps_ret pe_bl)) pss_nil))))))))))
      (pss_one (ps_ret pe_bl))), ?_⟩
    have en : Ents (den r) := four_ents fo
    have dr : dlt 12 r := by
      show dep r < 12
      have := dep_pd r
      omega
    have lenR : (den r).length = ext r := rfl
    refine ⟨4, rfl, by decide, by decide, ?_⟩
    refine for_range (n := 4) (fun i σ H1 => ∃ (v3 v4 v5 v6 v7 : Option V), σ = [some v, some (.ref p), some (.ref q), v3, v4, v5, v6, v7] ∧ Same H H1) ⟨none, none, none, none, none, rfl, Same.refl _⟩ ?_ ?_
    · rintro i σ H1 hi ⟨v3, v4, v5, v6, v7, rfl, s1⟩
      dsimp only
      obtain ⟨z, hz⟩ : ∃ z, ds[2 * i]? = some z := ⟨_, List.getElem?_eq_getElem (by omega)⟩
      obtain ⟨y, hy⟩ : ∃ y, ds[2 * i + 1]? = some y := ⟨_, List.getElem?_eq_getElem (by omega)⟩
      have hz' : (ds.map V.int)[2 * i]? = some (V.int z) := by rw [List.getElem?_map, hz]; rfl
      have hy' : (ds.map V.int)[2 * i + 1]? = some (V.int y) := by rw [List.getElem?_map, hy]; rfl
      obtain ⟨xs, hxs, ax⟩ := hp.mono s1
      have lx := ax.len
      refine gname_rd ?_
      refine seq_rd (asgT (tcb_rd (cons_rd (tlst_rd ?_))))
      have vk : ∀ {H2 : Hp}, VE (tVar 3) (.int (0 + (i : Int))) [some v, some (.ref p), some (.ref q), some (.int (0 + (i : Int))), v4, v5, v6, v7] H2 := ve_var rfl
      have v2k : ∀ {H2 : Hp}, VE (tOp (rI CMul fun i j => V.int (i * j)) (tC (.int 2)) (tVar 3)) (nV (2 * i)) [some v, some (.ref p), some (.ref q), some (.int (0 + (i : Int))), v4, v5, v6, v7] H2 := VE.to (ve_mul ve_int vk (.inl ⟨by decide, by decide⟩)) (by omega)
      have vl := ve_len (K := K) (σ := [some v, some (.ref p), some (.ref q), some (.int (0 + (i : Int))), v4, v5, v6, v7]) (s := 1) rfl hxs
      have dig : ∀ {u : TE} {m : Nat} {c : Int}, VE u (nV m) _ H1 → (ds.map V.int)[m]? = some (V.int c) → VE _ (.int (c % ((ext r : Nat) + 1 : Int))) _ H1 := fun {u m c} hu hc => by
        have := ve_mod (ve_intI (ve_ixL (K := K) (ve_var (s := 2) (v := .ref q) rfl) (s1 _ _ hq) hu hc)) (ve_add vl (ve_int (i := 1))) (by omega)
        rw [lx, lenR] at this
        exact this
      refine (va_cons (dig v2k hz') (va_cons (dig (ve_addN (j := 1) v2k (ve_c (v := nV 1))) hy') va_nil)) H1 (Same.refl _) _ ⟨by show 2 ≤ sizeLine; decide, fun l nl => ?_⟩
      have a1 := Int.emod_lt_of_pos z (show (0 : Int) < (ext r : Nat) + 1 by omega)
      have a0 := Int.emod_nonneg z (show ((ext r : Nat) + 1 : Int) ≠ 0 by omega)
      have b1 := Int.emod_lt_of_pos y (show (0 : Int) < (ext r : Nat) + 1 by omega)
      have b0 := Int.emod_nonneg y (show ((ext r : Nat) + 1 : Int) ≠ 0 by omega)
      have sl1 := same_new (o := .lst [.int (z % ((ext r : Nat) + 1 : Int)), .int (y % ((ext r : Nat) + 1 : Int))]) (Same.refl H1) nl
      refine ⟨l, [z % ((ext r : Nat) + 1 : Int), y % ((ext r : Nat) + 1 : Int)], rfl, SqL.of upd_same, by show 2 < 64; decide, fun ns l2 pm so nl2 => ?_⟩
      obtain ⟨f, e, rfl, fe, ee⟩ := two_sorted (N := ext r) pm so a0 b0 (by omega) (by omega)
      refine ⟨l2, _, rfl, SqL.of upd_same, rfl, nV f, [nV e], rfl, nV e, [], rfl, rfl, ?_⟩
      have s2 := s1.trans (same_new (o := .lst ([(f : Int), (e : Int)].map V.int)) sl1 nl2)
      generalize upd (upd H1 l (.lst [.int (z % ((ext r : Nat) + 1 : Int)), .int (y % ((ext r : Nat) + 1 : Int))])) l2 (.lst ([(f : Int), (e : Int)].map V.int)) = H2 at s2 ⊢
      refine next_rd ?_
      dsimp only
      refine seq_rd (asg_of ?_)
      refine mw_rd (ve_var (s := 0) (v := v) rfl) (hv.mono s2) (va_cons (ve_var (s := 4) (v := nV f) rfl) (va_cons (ve_var (s := 5) (v := nV e) rfl) va_nil)) ⟨v, r, d, n, f, e, rfl, hv.mono s2, g, en, dr, fe, ee, by omega, by omega, fun L H3 s3 nL eL => ?_⟩
      have s4 := s2.trans s3
      have nL0 : H L = none := none_of' s2 nL
      refine next_rd ?_
      dsimp only
      refine seq_rd (asg_of ?_)
      refine cut_rd (ve_var (s := 0) (v := v) rfl) (hv.mono s4) (va_cons (ve_var (s := 4) (v := nV f) rfl) (va_cons (ve_var (s := 5) (v := nV e) rfl) va_nil)) g dr fe ee (by omega) fun v' r' H4 s5 hw' g' den' pd' => ?_
      have s6 := s4.trans s5
      refine next_rd ?_
      dsimp only
      have vf : ∀ {H5 : Hp}, VE (tVar 4) (nV f) [some v, some (.ref p), some (.ref q), some (.int (0 + (i : Int))), some (nV f), some (nV e), some (.ref L), some v'] H5 := ve_var rfl
      have ve : ∀ {H5 : Hp}, VE (tVar 5) (nV e) [some v, some (.ref p), some (.ref q), some (.int (0 + (i : Int))), some (nV f), some (nV e), some (.ref L), some v'] H5 := ve_var rfl
      have vw : ∀ {H5 : Hp}, VE (tVar 0) v [some v, some (.ref p), some (.ref q), some (.int (0 + (i : Int))), some (nV f), some (nV e), some (.ref L), some v'] H5 := ve_var rfl
      have vp : ∀ {H5 : Hp}, VE (tVar 1) (.ref p) [some v, some (.ref p), some (.ref q), some (.int (0 + (i : Int))), some (nV f), some (nV e), some (.ref L), some v'] H5 := ve_var rfl
      have v7 : ∀ {H5 : Hp}, VE (tVar 7) v' [some v, some (.ref p), some (.ref q), some (.int (0 + (i : Int))), some (nV f), some (nV e), some (.ref L), some v'] H5 := ve_var rfl
      have ens : Ents (sl (den r) f e) := sl_ents en
      have lens : (sl (den r) f e).length = e - f := sl_len ee
      have ext' : ext r' = e - f := by rw [← lens, ← den']; rfl
      have dr' := dep_pd r'
      have ele := hp.mono s6
      have c1 := be_neE (K := K) (dt_el (ve_var (σ := [some v, some (.ref p), some (.ref q), some (.int (0 + (i : Int))), some (nV f), some (nV e), some (.ref L), some v']) (s := 6) (v := .ref L) rfl) (eL.mono s5)) (dt_slE (K := K) vp ele vf ve fe ee) rfl ens
      have c2 := be_neW (ok := dlt 12) (E := E0) (t := tVar 7) (u := tMake CW (spWdI CW CM C) [] E0 (tCons (tSl (rSlL K) (tVar 1) (tPart (tVar 4)) (tPart (tVar 5))) tNil)) v7 hw' (fun H5 s7 Q k => mkwS_rd (slE_rd vp (ele.mono s7) vf ve fe ee fun q2 H6 s8 _ el => mkw_rd ve_c el (fun d m => four_ent (fo d (sl_mem m))) (by omega) fun v9 H7 s9 hw9 => k v9 H7 (s8.trans s9) hw9)) g' (by rw [den']; exact ens) den' (show dep r' < 12 by omega) (show 0 < 12 by decide) (by omega)
      have c3 := be_neI (ve_wlen (E := E0) v7 hw') (ve_sub (i := (e : Nat)) (j := (f : Nat)) ve vf)
      rw [decide_eq_true (by omega)] at c3
      refine seq_rd (if_be (be_or c1 fun _ => be_or c2 fun _ => c3) fun H5 s7 => ⟨fun z => absurd z (by decide), fun _ => ?_⟩)
      refine next_rd ?_
      dsimp only
      obtain ⟨ys, hL, ay⟩ := (eL.mono s5).mono s7
      have ly := ay.len
      refine seq_rd ?_
      refine ⟨_, rfl, .inl ⟨rfl, _, SqL.of hL⟩, L, _, _, rfl, rfl, hL, by rw [sizeLine_eq]; omega, ?_⟩
      have s8 : Same H (upd H5 L (.lst (ys ++ [.non]))) := same_updL (s6.trans s7) nL0
      generalize upd H5 L (.lst (ys ++ [.non])) = H6 at s8 ⊢
      refine next_rd ?_
      dsimp only
      have c4 := be_neE (K := K) (dt_entries (E := E0) (ok := dlt 12) vw (hv.mono s8) (va_cons vf (va_cons ve va_nil)) g en dr fe ee (by omega)) (dt_slE (K := K) vp (hp.mono s8) vf ve fe ee) rfl ens
      refine seq_rd (if_be c4 fun H7 s9 => ⟨fun z => absurd z (by decide), fun _ => ?_⟩)
      have s10 := s8.trans s9
      refine next_rd ?_
      dsimp only
      have ix : f < ext r → ∃ y, (den r)[f]? = some y := fun lt => ⟨_, List.getElem?_eq_getElem lt⟩
      have c5 := be_and (be_ltN vf (ve_lenE (K := K) (s := 1) rfl (hp.mono s10))) (c := false) (tb := tTest (tOp (rNeD K) (tOp (rOwn CW (spWg CW C) E0) (tVar 0) (tVar 4)) (tOp (rIxL K) (tVar 1) (tVar 4)))) fun lt => by
        obtain ⟨y, hy⟩ := ix (of_decide_eq_true lt)
        exact be_neP (dt_get (E := E0) vw (hv.mono s10) vf g hy (by omega)) (dt_ixL (K := K) (n := f) (dt_el vp (hp.mono s10)) vf hy rfl) (en y (List.mem_of_getElem? hy))
      refine seq_rd (if_be c5 fun H8 s11 => ⟨fun z => absurd (Bool.and_false _ ▸ z) (by decide), fun _ => ?_⟩)
      have s12 := s10.trans s11
      refine next_rd ?_
      dsimp only
      have c6 := be_and (be_ltN vf (ve_lenE (K := K) (s := 1) rfl (hp.mono s12))) (c := false) (tb := tTest (tOp (rNeD K) (tOp (rOwn CW (spWg CW C) E0) (tMeth CW "cut" (spWc CW C (dlt 12)) [] E0 (tVar 0) (tCons (tVar 4) (tCons (tCB (fun xs H Q => ∃ p ys, xs = [V.ref p] ∧ (SqL K H p ys ∨ SqT K H p ys) ∧ Q (V.int (ys.length : Nat)) H) (tCons (tVar 1) tNil)) tNil))) (tC (.int 0))) (tOp (rIxL K) (tVar 1) (tVar 4)))) fun lt => by
        have lt := of_decide_eq_true lt
        obtain ⟨y, hy⟩ := ix lt
        refine be_neP (d := y) (fun H9 s13 Q k => ?_) (dt_ixL (K := K) (n := f) (dt_el vp (hp.mono s12)) vf hy rfl) (en y (List.mem_of_getElem? hy))
        refine top_rd (cut_rd vw (hv.mono (s12.trans s13)) (va_cons vf (va_cons (ve_lenE (K := K) (s := 1) rfl (hp.mono (s12.trans s13))) va_nil)) g dr (by omega) (Nat.le_refl _) (by omega) fun v9 r9 HA sA hw9 g9 den9 pd9 => ?_)
        have e0 : (den r9)[0]? = some y := by
          rw [den9, sl_get, if_pos (by omega)]
          exact hy
        have x9 : ext r9 ≤ 1000 := by
          show (den r9).length ≤ _
          rw [den9, sl_len (Nat.le_refl _)]
          omega
        exact dt_get (E := E0) ve_c hw9 (ve_c (v := nV 0)) g9 e0 x9 HA (Same.refl _) _ fun y HB sB a => k y HB (sA.trans sB) a
      refine if_be c6 fun H9 s13 => ⟨fun z => absurd (Bool.and_false _ ▸ z) (by decide), fun _ => ?_⟩
      exact ⟨_, _, _, _, _, rfl, s12.trans s13⟩
    · rintro σ H1 ⟨v3, v4, v5, v6, v7, rfl, s1⟩
      exact k H1 s1
end

end K1

set_option Elab.async false
set_option linter.all false
set_option maxRecDepth 100000
set_option maxHeartbeats 4000000
namespace K1
open PySem L2 W1
/-! ### what the law's body needs -/
theorem sqL_mono {K : PySem.W.Frag} {H H' : Hp} {a : Addr} {xs : List V} (h : SqL K H a xs) (s : Same H H') : SqL K H' a xs := by
  rcases h with (h | ⟨o, h⟩) | h
  · exact .inl (.inl (s _ _ h))
  · exact .inl (.inr ⟨o, s _ _ h⟩)
  · exact .inr h
theorem ve_lenS {K : PySem.W.Frag} {σ : St} {H1 : Hp} {s : Nat} {a : Addr} {xs : List V} (e : σ[s]? = some (some (.ref a))) (h : SqL K H1 a xs) : VE (tCB (fun xs H Q => ∃ p ys, xs = [V.ref p] ∧ (SqL K H p ys ∨ SqT K H p ys) ∧ Q (V.int (ys.length : Nat)) H) (tCons (tVar s) tNil)) (.int (xs.length : Nat)) σ H1 :=
  fun H2 s2 Q q => ⟨_, e, a, xs, rfl, .inl (sqL_mono h s2), q⟩
theorem wd_updL {CW C : Addr} {H : Hp} {v : V} {es : List PyData} {d n : Nat} {l : Addr} {ys : List V} {o : HO} (h : WdAt CW C H v (.leaf es) d n) (en : Ents es) (hl : H l = some (.lst ys)) : WdAt CW C (upd H l o) v (.leaf es) d n := by
  obtain ⟨a, dx, fs, rv, e, ha, f, hr⟩ := h.ex
  rw [RwAt] at hr
  obtain ⟨a', dx', fs', t, p, q, vs, e', ha', fl, ht, at', hp, hq⟩ := hr
  have ne : ∀ {b : Addr} {u : HO}, H b = some u → (∀ zs, u ≠ .lst zs) → upd H l o b = some u := fun {b u} hb nz => by
    have c : b ≠ l := fun z => by
      rw [z, hl] at hb
      exact nz ys (Option.some.inj hb).symm
    rw [upd_ne c]
    exact hb
  refine ⟨a, dx, fs, rv, e, ne ha (fun _ z => nomatch z), f, ?_⟩
  rw [RwAt]
  exact ⟨a', dx', fs', t, p, q, vs, e', ne ha' (fun _ z => nomatch z), fl, ne ht (fun _ z => nomatch z), atAll_upd hl at' en, ne hp (fun _ z => nomatch z), ne hq (fun _ z => nomatch z)⟩
theorem cR_rd {R : R2} {u : TE} {x : V} {σ : St} {H : Hp} {Q : VK} (h : u σ H fun y H1 => R x y H1 Q) : tOp R (tC x) u σ H Q := h
section
variable {K : PySem.W.Frag} {C CW CM : Addr} {σ : St} {H1 : Hp}
/-- the truth of a word and of its list -/
theorem be_truth {E : XK} {t : TE} {s : Nat} {v : V} {p : Addr} {r : RwD} {d n : Nat} (h : VE t v σ H1) (hw : WdAt CW C H1 v r d n) (e : σ[s]? = some (some (.ref p))) (el : EL H1 p (den r)) (en : Ents (den r)) :
    BE (tTest (tOp rNe (tCB (rOwnB CW (spWb CW C) E) (tCons t tNil)) (tOp (rNeD K) (tVar s) (tLst tNil)))) false σ H1 := fun H2 s2 Q k => by
  obtain ⟨a, dx, fs, rv, rfl, hp, _⟩ := (hw.mono s2).ex
  refine top_rd (cb_rd (va_cons (h.mono s2) va_nil) ⟨a, dx, fs, rfl, hp, _, r, d, n, rfl, hw.mono s2, _, rfl, ?_⟩)
  refine cR_rd (top_rd ((dt_el (ve_var e) el) H2 s2 _ fun x H3 s3 ax => ?_))
  rw [hid_nil] at ax
  refine ⟨Nat.zero_le _, fun q nq => ?_⟩
  have s4 := same_new (o := .lst []) (Same.refl H3) nq
  refine ⟨.list (den r), .list [], (ax.mono s4).dp (by rw [noDic]; exact (shaped_ents en).2.1), .lst (SqL.of upd_same) .nil, shaped_list en, by decide +kernel, rfl, _, rfl, ?_⟩
  have key : (!decide (V.bl (decide (0 < ext r)) = V.bl (!PyData.eqv (.list (den r)) (.list [])))) = false := by
    unfold ext
    cases den r with
    | nil => rfl
    | cons x xs => rfl
  rw [key]
  exact k _ (s3.trans s4)
/-- a word of a list against a word -/
theorem be_eqW {ok : RwD → Prop} {E : XK} {t u : TE} {v : V} {r : RwD} {d n : Nat} {es : List PyData} {neg c : Bool} (hc : c = true ↔ es = den r)
    (ht : ∀ H2, Same H1 H2 → ∀ Q : VK, (∀ v' H3, Same H2 H3 → WdAt CW C H3 v' (.leaf es) 0 1 → Q v' H3) → t σ H2 Q) (h : VE u v σ H1) (hw : WdAt CW C H1 v r d n) (g : good r) (en : Ents (den r)) (ee : Ents es) (o : ok r) (o2 : ok (.leaf es)) (few : ext r ≤ 1000) (few2 : es.length ≤ 1000) :
    BE (tTest (tOp (rOwnE CW (spWq CW C ok) E neg) t u)) (neg != c) σ H1 := fun H2 s Q k => by
  refine top_rd (ht H2 s _ fun v' H3 s3 hw' => ?_)
  refine op_rd ve_c (h.mono (s.trans s3)) ?_
  obtain ⟨a, dx, fs, rv, rfl, hp, _⟩ := (hw.mono (s.trans s3)).ex
  obtain ⟨a', dx', fs', rv', rfl, hp', _⟩ := hw'.ex
  have e2 : ext (.leaf es : RwD) = es.length := rfl
  refine ⟨a', dx', fs', rfl, hp', .ins hp, .ref a', .ref a, .leaf es, 0, 1, rfl, hw', .inl ⟨r, d, n, hw.mono (s.trans s3), trivial, g, ee, en, o2, o, by omega, by omega, .inl rfl, fun b H4 s4 iff => ?_⟩⟩
  have b1 : b = c := Bool.eq_iff_iff.mpr (iff.trans hc.symm)
  exact ⟨b, rfl, _, rfl, by rw [b1]; exact k H4 (s3.trans s4)⟩
/-- a word against a list -/
theorem be_eqL {ok : RwD → Prop} {E : XK} {t u : TE} {v : V} {r : RwD} {d n : Nat} {p : Addr} {es : List PyData} (h : VE t v σ H1) (hw : WdAt CW C H1 v r d n) (hu : VE u (.ref p) σ H1) (el : EL H1 p es) : BE (tTest (tOp (rOwnE CW (spWq CW C ok) E false) t u)) false σ H1 := fun H2 s Q k => by
  obtain ⟨a, dx, fs, rv, rfl, hp, _⟩ := (hw.mono s).ex
  obtain ⟨xs, hl, _⟩ := el.mono s
  exact op_rd (h.mono s) (hu.mono s) ⟨a, dx, fs, rfl, hp, .lst hl, .ref a, .ref p, r, d, n, rfl, hw.mono s, .inr ⟨⟨p, xs, rfl, hl⟩, fun H' s' => ⟨false, rfl, _, rfl, k H' s'⟩⟩⟩
/-- a list comprehension over range(4) of truths -/
theorem dt_lc4 {te : TE} {f : Nat → Bool} {x0 x1 x2 x3 x4 x5 x6 x7 x8 x9 x10 : Option V} (h : ∀ i H2, i < 4 → Same H1 H2 → ∀ Q : VK, (∀ H3, Same H2 H3 → Q (.bl (f i)) H3) → te [x0, x1, x2, x3, x4, x5, x6, some (.int (0 + (i : Int))), x8, x9, x10] H2 Q) :
    DT [] (tLc (iRng1 (tCons (tC (.int 4)) tNil)) (gName 7) tYes te [7]) (.list ((List.range 4).map fun i => .bool (f i))) [x0, x1, x2, x3, x4, x5, x6, x7, x8, x9, x10] H1 := fun H2 s2 Q k => by
  refine ⟨4, rfl, by decide, by decide, fun D nD => ?_⟩
  refine lc_range (n := 4) (fun i H' => Same H2 H' ∧ H' D = some (.lst ((List.range i).map fun j => .bl (f j)))) ⟨same_new (Same.refl _) nD, upd_same⟩ (fun i H' hi z => ?_) (fun H' z => ?_)
  · refine ⟨rfl, ?_⟩
    unfold tYes
    dsimp only
    rw [if_pos rfl]
    refine h i H' hi (s2.trans z.1) _ fun H3 s3 => ⟨_, s3 _ _ z.2, ?_, same_updL (z.1.trans s3) nD, ?_⟩
    · rw [List.length_map, List.length_range, sizeLine_eq]
      omega
    · rw [upd_same, List.range_succ, List.map_append]
      rfl
  · refine k _ H' z.1 ?_
    rw [hid_nil]
    exact .lst z.2 (.cons (.bl _) (.cons (.bl _) (.cons (.bl _) (.cons (.bl _) .nil))))
theorem be_neB {t u : TE} {f g : Nat → Bool} (h : DT [] t (.list ((List.range 4).map fun i => .bool (f i))) σ H1) (r : DT [] u (.list ((List.range 4).map fun i => .bool (g i))) σ H1) (e : ∀ i, i < 4 → f i = g i) : BE (tTest (tOp (rNeD K) t u)) false σ H1 := by
  have e4 : ∀ f : Nat → Bool, ((List.range 4).map fun i => PyData.bool (f i)) = [.bool (f 0), .bool (f 1), .bool (f 2), .bool (f 3)] := fun f => rfl
  rw [e4] at h r
  rw [← e 0 (by decide), ← e 1 (by decide), ← e 2 (by decide), ← e 3 (by decide)] at r
  generalize f 0 = b0, f 1 = b1, f 2 = b2, f 3 = b3 at h r
  have sh : SeqAt.shaped (.list [.bool b0, .bool b1, .bool b2, .bool b3]) = true := by cases b0 <;> cases b1 <;> cases b2 <;> cases b3 <;> decide +kernel
  have eq : PyData.eqv (.list [.bool b0, .bool b1, .bool b2, .bool b3]) (.list [.bool b0, .bool b1, .bool b2, .bool b3]) = true := by cases b0 <;> cases b1 <;> cases b2 <;> cases b3 <;> decide +kernel
  have z := be_ne (K := K) h r rfl rfl sh sh
  rw [eq] at z
  exact z
/-- some[:-1] -/
theorem cut_last {xs : List V} (h : xs ≠ []) : cutV xs none (some (-1)) = xs.take (xs.length - 1) := by
  unfold cutV
  have e : HT.sIx xs.length xs.length (some (-1)) = xs.length - 1 := by
    show (if (-1 : Int) < 0 then ((-1 : Int) + (xs.length : Int)).toNat else min (-1 : Int).toNat xs.length) = _
    rw [if_pos (by decide)]
    omega
  rw [e, show HT.sIx xs.length 0 none = 0 from rfl, List.drop_zero, Nat.sub_zero]
theorem last_rd {t : TE} {p : Addr} {es : List PyData} {Q : VK} (h : VE t (.ref p) σ H1) (el : EL H1 p es) (ne : es ≠ []) (k : ∀ q H3, Same H1 H3 → EL H3 q (es.take (es.length - 1)) → Q (.ref q) H3) : tSl (rSlL K) t tNoPart (tPart (tUn (rU fun i => .int (-i)) (tC (.int 1)))) σ H1 Q := by
  obtain ⟨xs, hp, a⟩ := el
  have l := a.len
  have nx : xs ≠ [] := fun z => ne (List.length_eq_zero_iff.mp (by rw [← l, z]; rfl))
  refine h H1 (Same.refl _) _ ⟨1, rfl, -1, rfl, p, xs, rfl, SqL.of hp, fun q nq => ?_⟩
  have s := same_new (o := .lst (cutV xs none (some (-1)))) (Same.refl H1) nq
  refine k q _ s ⟨_, upd_same, ?_⟩
  have ax := (a.take (es.length - 1)).mono s
  rw [cut_last nx, l] at ax ⊢
  exact ax
/-- some[:k] + [("emit", "zz")] + some[l:] -/
def zzD : PyData := .tuple [.str "emit", oD (some "zz")]
theorem zz_pair : PairD zzD := ⟨_, _, rfl, by decide +kernel, by decide +kernel⟩
theorem zz_ent : EntD zzD := ⟨_, _, rfl, .inr ⟨_, rfl, .inl rfl, by decide +kernel⟩⟩
theorem zz_four : ¬ FourD zzD := fun ⟨i, h⟩ => by
  match i, h with
  | 0, h => exact absurd h (by unfold zzD fourD oD; intro z; injection z with z; injection z with _ z; injection z with z; injection z with z; exact absurd z (by decide))
  | 1, h => exact absurd h (by unfold zzD fourD oD; intro z; injection z with z; injection z with _ z; injection z with z; injection z with z; exact absurd z (by decide))
  | 2, h => exact absurd h (by unfold zzD fourD oD; intro z; injection z with z; injection z with z; injection z with z; exact absurd z (by decide))
  | n + 3, h => exact absurd h (by unfold zzD fourD oD; intro z; injection z with z; injection z with _ z; injection z with z; cases z)
theorem toE_rd {t u : TE} {p : Addr} {es : List PyData} {m : Nat} {Q : VK} (h : VE t (.ref p) σ H1) (el : EL H1 p es) (r : VE u (nV m) σ H1) (k : ∀ q H3, Same H1 H3 → EL H3 q (es.take m) → Q (.ref q) H3) : tSl (rSlL K) t tNoPart (tPart u) σ H1 Q := by
  obtain ⟨xs, hp, a⟩ := el
  exact to_rd h hp r fun q nq s => k q _ s ⟨_, upd_same, (a.take m).mono s⟩
theorem fromE_rd {t u : TE} {p : Addr} {es : List PyData} {m : Nat} {Q : VK} (h : VE t (.ref p) σ H1) (el : EL H1 p es) (r : VE u (nV m) σ H1) (k : ∀ q H3, Same H1 H3 → EL H3 q (es.drop m) → Q (.ref q) H3) : tSl (rSlL K) t (tPart u) tNoPart σ H1 Q := by
  obtain ⟨xs, hp, a⟩ := el
  exact from_rd h hp r fun q nq s => k q _ s ⟨_, upd_same, (a.drop m).mono s⟩
theorem oth_rd {t u w : TE} {p : Addr} {es : List PyData} {a b : Nat} {Q : VK} (h : VE t (.ref p) σ H1) (el : EL H1 p es) (ra : VE u (nV a) σ H1) (rb : VE w (nV b) σ H1) (few : es.length ≤ 324) (k : ∀ q H3, Same H1 H3 → EL H3 q (es.take a ++ [zzD] ++ es.drop b) → Q (.ref q) H3) :
    tOp rCat (tOp rCat (tSl (rSlL K) t tNoPart (tPart u)) (tLst (tCons (tTup (tCons (tC (.str "emit")) (tCons (tC (.str "zz")) tNil))) tNil))) (tSl (rSlL K) t (tPart w) tNoPart) σ H1 Q := by
  refine top_rd (top_rd (toE_rd h el ra fun q1 H2 s2 e1 => ?_))
  have zz : DT [] (tLst (tCons (tTup (tCons (tC (.str "emit")) (tCons (tC (.str "zz")) tNil))) tNil)) (.list [zzD]) σ H2 := dt_lst live_nil (dt_cons (dt_tup live_nil (dt_cons (dt_str (four_str (.inl rfl))) (dt_cons (dt_str (four_str (.inr (.inr (.inr (.inr rfl)))))) dt_nil)) (by show 2 ≤ sizeLine; decide)) dt_nil) (by show 1 ≤ sizeLine; decide)
  refine cR_rd (zz H2 (Same.refl _) _ fun y H3 s3 ay => ?_)
  rw [hid_nil] at ay
  obtain ⟨q2, rfl⟩ : ∃ q2, y = .ref q2 := by
    cases ay with
    | lst e a => exact ⟨_, rfl⟩
  have l1 : (es.take a).length ≤ es.length := by rw [List.length_take]; omega
  have l2 : (es.drop b).length ≤ es.length := by rw [List.length_drop]; omega
  have z := cat_rd (t := tC (.ref q1)) (u := tC (.ref q2)) (σ := σ) (Q := fun x H4 => tOp rCat (tC x) (tSl (rSlL K) t (tPart w) tNoPart) σ H4 Q) ve_c ve_c (e1.mono s3) (el_at ay) (by show _ + 1 ≤ _; omega) fun q3 H4 s4 e3 => ?_
  · exact z
  · have s5 := (s2.trans s3).trans s4
    refine cR_rd (fromE_rd (h.mono s5) (el.mono s5) (rb.mono s5) fun q4 H5 s6 e4 => ?_)
    exact cat_rd (t := tC (.ref q3)) (u := tC (.ref q4)) (σ := σ) ve_c ve_c (e3.mono s6) e4 (by rw [List.length_append]; show _ + 1 + _ ≤ _; omega) fun q5 H6 s7 e5 => k q5 H6 ((s5.trans s6).trans s7) e5
end

end K1

set_option Elab.async false
set_option linter.all false
set_option maxRecDepth 100000
set_option maxHeartbeats 4000000
namespace K1
open PySem L2 W1
theorem rng_rd {ts : TA} {vs : List V} {σ : St} {H : Hp} {Q : It → Hp → Prop} (h : VA ts vs σ H) (k : ∃ m : Int, vs = [.int m] ∧ -(2 ^ 62) ≤ m ∧ m < 2 ^ 62 ∧ Q (Itr 0 m.toNat) H) : iRng1 ts σ H Q := h H (Same.refl _) _ k
theorem slI_rd {K : PySem.W.Frag} {t u1 u2 : TE} {σ : St} {H1 : Hp} {a : Addr} {xs : List V} {f l : Nat} {Q : VK} (h : VE t (.ref a) σ H1) (ha : H1 a = some (.lst xs)) (r1 : VE u1 (nV f) σ H1) (r2 : VE u2 (nV l) σ H1) (h1 : f ≤ l) (h2 : l ≤ xs.length)
    (k : ∀ p H3, Same H1 H3 → H3 p = some (.lst (sl xs f l)) → Q (.ref p) H3) : tSl (rSlL K) t (tPart u1) (tPart u2) σ H1 Q := by
  refine h H1 (Same.refl _) _ (r1 H1 (Same.refl _) _ ⟨_, rfl, r2 H1 (Same.refl _) _ ⟨_, rfl, a, xs, rfl, SqL.of ha, fun q np => ?_⟩⟩)
  refine k q _ (same_new (Same.refl H1) np) ?_
  rw [cut_sl h1 h2]
  exact upd_same
theorem oth_ne1 {es : List PyData} {a : Nat} (h : a ≤ es.length) : es.take a ++ [zzD] ++ es.drop a ≠ es := fun z => by
  have := congrArg List.length z
  rw [List.length_append, List.length_append, List.length_take, List.length_drop] at this
  simp only [List.length_cons, List.length_nil] at this
  omega
theorem oth_ne2 {es ys : List PyData} {a : Nat} (h : a ≤ es.length) (fo : ∀ e ∈ es, FourD e) : es.take a ++ [zzD] ++ ys ≠ es := fun z => by
  refine zz_four (fo zzD ?_)
  rw [← z]
  exact List.mem_append_left _ (List.mem_append_right _ (List.mem_singleton.mpr rfl))
theorem oth_ents {es : List PyData} {a b : Nat} (fo : ∀ e ∈ es, FourD e) : (∀ e ∈ es.take a ++ [zzD] ++ es.drop b, EntD e) ∧ Ents (es.take a ++ [zzD] ++ es.drop b) := by
  have key : ∀ e ∈ es.take a ++ [zzD] ++ es.drop b, EntD e ∧ PairD e := fun e m => by
    rcases List.mem_append.mp m with m | m
    · rcases List.mem_append.mp m with m | m
      · exact ⟨four_ent (fo e (List.mem_of_mem_take m)), four_pair (fo e (List.mem_of_mem_take m))⟩
      · rw [List.mem_singleton.mp m]
        exact ⟨zz_ent, zz_pair⟩
    · exact ⟨four_ent (fo e (List.mem_of_mem_drop m)), four_pair (fo e (List.mem_of_mem_drop m))⟩
  exact ⟨fun e m => (key e m).1, fun e m => (key e m).2⟩
section
variable {P : Program} {w : World} {K : PySem.W.Frag} {mg : Str → Option Value} {base : Heap} {C CM CW : Addr}
def tInW (CW C : Addr) : TE := tOp (rOwnIn CW (spWi CW C (dlt 12)) E0) (tCall spEn [] E0 (tCons (tVar 7) tNil)) (tVar 3)
def tInL (K : PySem.W.Frag) : TE := tOp (rInD K) (tCall spEn [] E0 (tCons (tVar 7) tNil)) (tVar 4)
def tEqW (CW C CM : Addr) : TT := tTest (tOp (rOwnE CW (spWq CW C (dlt 12)) E0 false) (tMake CW (spWdI CW CM C) [] E0 (tCons (tVar 10) tNil)) (tVar 3))
def spLaw (K : PySem.W.Frag) : Sp := fun vs H Q _ => ∃ (a : Addr) (ns : List Int), vs = [.ref a] ∧ SqL K H a (ns.map V.int) ∧ ns.length ≤ 63 ∧ ∀ H', Q (.bl true) H'
theorem sc_law : FnScope ["_law_script", "_law_k", "_law_digits_here", "_law_word", "_law_some", "_law_handed", "_law_plain", "_law_j", "_law_at", "_law_others", "_law_other"] ["_law_script"] (defScope (top 60)) := ⟨rfl, rfl, rfl, by decide +kernel, rfl, by decide +kernel, by decide +kernel⟩
theorem ok_law {j : Nat} {f : Addr} {fd : FuncData} (F : Fun K "law" "law" (top 60) f fd) (B : Bl2 mg) (hk : 11 ≤ j) (TW : NoWd K CW)
    (CLc : Cal P w K mg base CX0 1 "_law_cell" ["_law_script", "_law_k"] (spCl K)) (CDg : Cal P w K mg base CX0 1 "_law_digits" ["_law_cell_here", "_law_many"] spDig) (CEn : Cal P w K mg base CX0 1 "_law_entry" ["_law_digit"] spEn)
    (CBu : Cal P w K mg base CX0 13 "_law_built" ["_law_digits_here", "_law_deep"] (spBu CW C 5)) (CPr : Cal P w K mg base CX0 (j + 2) "_law_parts_right" ["_law_word", "_law_some", "_law_digits_here"] (spPr CW C)) (ML : MetW P w K mg base 1 CW "length" ["self"] (spWl CW C))
    (OB : OwnM P w K mg base CX0 1 CW "__bool__" ["self"] (spWb CW C)) (OC : OwnM P w K mg base CX0 j CW "__contains__" ["self", "x"] (spWi CW C (dlt 12))) (OQ : OwnE P w K mg base CX0 j CW ["self", "other"] (spWq CW C (dlt 12))) (MW : Mkr P w K mg base CX0 5 "Word" CW wdP (spWdI CW CM C)) : FnOk P w K mg base CX0 (j + 3) f fd ["_law_script"] (spLaw K) := by
  refine F.ok sc_law (fun vs H Q E h => ?_) (fun cdv A outer s H vs Q E hr h => ?_)
  · obtain ⟨a, ns, rfl, _⟩ := h
    rfl
  · obtain ⟨a, ns, rfl, ha, n63, k⟩ := h
    have hr : Room (j + 2) (A.deeper _) := hr
    refine ⟨_, (pss_cons (ps_for PassesOwn.never rfl (pi_range1 rfl B.range (pa_cons (pe_callB (call_min2 rfl) rfl B.min (by decide +kernel) (pa_cons pe_int (pa_cons (pe_op op_add pe_int (pe_callB call_len_seq rfl B.len PySem.boot_len (pa_cons (pv 0) pa_nil))) pa_nil))) pa_nil)) (pg_name (i := 1) sc_law.nd rfl (Or.inl rfl))
        (pss_cons (ps_set (i := 2) sc_law.nd rfl (Or.inl rfl) (pe_cal CDg hr (by omega) pass0 (pa_cons (pe_cal CLc hr (by omega) pass0 (pa_cons (pv 0) (pa_cons (pv 1) pa_nil))) (pa_cons pe_int pa_nil))))
      (pss_cons (ps_asg (pe_cal CBu hr (by omega) pass0 (pa_cons (pv 2) (pa_cons pe_int pa_nil))) (pg_tup rfl (pgs_cons (pg_name (i := 3) sc_law.nd rfl (Or.inr rfl)) (pgs_cons (pg_name (i := 4) sc_law.nd rfl (Or.inr rfl)) pgs_nil))))
      (pss_cons (ps_set (i := 5) sc_law.nd rfl (Or.inl rfl) (pe_callTy (r := rLof K) call_list_of rfl B.list PyProof.Rows.boot_list (pa_cons (pv 4) pa_nil)))
      (pss_cons (ps_set (i := 6) sc_law.nd rfl (Or.inl rfl) (pe_mkr MW hr (by omega) pass0 (pa_cons (pv 5) pa_nil)))
      (pss_cons (ps_expr (pe_bm PySem.F.plainAttrs_list PySem.F.slot_list_append PySem.F.type_list_append mt_append (pv 5) (pa_cons (pe_tup (pa_cons pe_str (pa_cons pe_str pa_nil))) pa_nil)))
      (pss_cons (ps_if (PW.pt (pw_or (pt_cmpR op_ne (pe_mw0 ML TW.cl hr (by omega) (pv 3)) (pe_callB call_len_seq rfl B.len PySem.boot_len (pa_cons (pv 4) pa_nil)) (nomark _)) (pw_or1 (pt_cmpR op_ne (pe_callTy (call_boolOwn OB (hr.mono (by omega)) pass0) rfl B.bool (by decide +kernel) (pa_cons (pv 3) pa_nil)) (pe_cmpR (op_neD hr.units) (pv 4) (pe_lst pa_nil) (nomark _)) (nomark _))))) (pss_one (ps_ret pe_bl)) pss_nil)
      (pss_cons (ps_if (PW.pt (pw_or (pt_cmpR (op_neOwn OQ (hr.mono (by omega)) pass0) (pv 6) (pv 3) (nomark _)) (pw_or1 (pt_cmpR op_ne (pe_mw0 ML TW.cl hr (by omega) (pv 6)) (pe_callB call_len_seq rfl B.len PySem.boot_len (pa_cons (pv 4) pa_nil)) (nomark _))))) (pss_one (ps_ret pe_bl)) pss_nil)
      (pss_cons (ps_if (pt_not (pt_val (pe_cal CPr hr (by omega) pass0 (pa_cons (pv 3) (pa_cons (pv 4) (pa_cons (pe_op op_cat (pe_slice sl_list (pv 2) (po_some pe_int) (po_some pe_int)) (pe_slice sl_list (pv 2) po_none (po_some pe_int))) pa_nil)))))) (pss_one (ps_ret pe_bl)) pss_nil)
      (pss_cons (ps_if (pt_cmpR (op_neD hr.units) (pe_lc (own := [("_law_j", 7)]) (g := gName 7) (te := tInW CW C) (tt := tYes) rfl sc_law.nd (pi_range1 rfl B.range (pa_cons pe_int pa_nil)) (blkOk_by (N := ["_law_script", "_law_k", "_law_digits_here", "_law_word", "_law_some", "_law_handed", "_law_plain", "_law_j", "_law_at", "_law_others", "_law_other"]) (sc := defScope (top 60)) (by decide +kernel)) (fun _ _ _ _ _ => pg_name (i := 7) sc_law.nd rfl (Or.inl rfl)) (fun _ _ _ _ _ => pts_nil) (fun _ _ _ _ _ => pe_cmpR (op_inOwn OC (hr.mono (by omega)) pass0) (pe_cal CEn hr (by omega) pass0 (pa_cons (pv 7) pa_nil)) (pv 3) rfl)) (pe_lc (own := [("_law_j", 7)]) (g := gName 7) (te := tInL K) (tt := tYes) rfl sc_law.nd (pi_range1 rfl B.range (pa_cons pe_int pa_nil)) (blkOk_by (N := ["_law_script", "_law_k", "_law_digits_here", "_law_word", "_law_some", "_law_handed", "_law_plain", "_law_j", "_law_at", "_law_others", "_law_other"]) (sc := defScope (top 60)) (by decide +kernel)) (fun _ _ _ _ _ => pg_name (i := 7) sc_law.nd rfl (Or.inl rfl)) (fun _ _ _ _ _ => pts_nil) (fun _ _ _ _ _ => pe_cmpR (op_inD (hr65 hr)) (pe_cal CEn hr (by omega) pass0 (pa_cons (pv 7) pa_nil)) (pv 4) rfl)) (nomark _)) (pss_one (ps_ret pe_bl)) pss_nil)
      (pss_cons (ps_set (i := 8) sc_law.nd rfl (Or.inl rfl) (pe_op op_mod (pe_callTy call_int1 rfl B.int PyProof.Rows.boot_int (pa_cons (pe_ix ix_list (pv 2) pe_int (fun _ _ => rfl)) pa_nil)) (pe_op op_add (pe_callB call_len_seq rfl B.len PySem.boot_len (pa_cons (pv 4) pa_nil)) pe_int)))
      (pss_cons (ps_set (i := 9) sc_law.nd rfl (Or.inl rfl) (pe_lst (pa_cons (pe_op op_cat (pe_op op_cat (pe_slice sl_list (pv 4) po_none (po_some (pv 8))) (pe_lst (pa_cons (pe_tup (pa_cons pe_str (pa_cons pe_str pa_nil))) pa_nil))) (pe_slice sl_list (pv 4) (po_some (pv 8)) po_none)) (pa_cons (pe_op op_cat (pe_op op_cat (pe_slice sl_list (pv 4) po_none (po_some (pv 8))) (pe_lst (pa_cons (pe_tup (pa_cons pe_str (pa_cons pe_str pa_nil))) pa_nil))) (pe_slice sl_list (pv 4) (po_some (pe_op op_add (pv 8) pe_int)) po_none)) pa_nil))))
      (pss_cons (ps_if (PW.pt (pw_or (pt_cmpR (op_neD hr.units) (pe_lc (own := [("_law_other", 10)]) (g := gName 10) (te := tVar 10) (tt := tEqW CW C CM) rfl sc_law.nd (pi_list (pv 9)) (blkOk_by (N := ["_law_script", "_law_k", "_law_digits_here", "_law_word", "_law_some", "_law_handed", "_law_plain", "_law_j", "_law_at", "_law_others", "_law_other"]) (sc := defScope (top 60)) (by decide +kernel)) (fun _ _ _ _ _ => pg_name (i := 10) sc_law.nd rfl (Or.inl rfl)) (fun _ _ _ _ _ => pts_one (pt_cmpR (op_eqOwn OQ (hr.mono (by omega)) pass0) (pe_mkr MW hr (by omega) pass0 (pa_cons (pv 10) pa_nil)) (pv 3) (nomark _))) (fun _ _ _ _ _ => pv 10)) (pe_lst pa_nil) (nomark _)) (pw_or1 (pt_cmpR (op_eqOwn OQ (hr.mono (by omega)) pass0) (pv 3) (pv 4) (nomark _))))) (pss_one (ps_ret pe_bl)) pss_nil)
      (pss_one (ps_if (PW.pt (pw_and (pt_cmpR (op_neD hr.units) (pv 4) (pe_lst pa_nil) (nomark _)) (pw_and1 (pt_cmpR (op_eqOwn OQ (hr.mono (by omega)) pass0) (pe_mkr MW hr (by omega) pass0 (pa_cons (pe_slice sl_list (pv 4) po_none (po_some (pe_un un_neg pe_int))) pa_nil)) (pv 3) (nomark _))))) (pss_one (ps_ret pe_bl)) pss_nil)))))))))))))))
      (pss_one (ps_ret pe_bl))), ?_⟩
    have lm : (ns.map V.int).length = ns.length := List.length_map ..
    have vN := ve_min (ve_int (i := 4)) (ve_add (ve_int (i := 1)) (ve_lenS (K := K) (σ := [some (.ref a), none, none, none, none, none, none, none, none, none, none]) (s := 0) rfl ha))
    rw [lm] at vN
    obtain ⟨N, eN, hN⟩ : ∃ N : Nat, (if (1 + (ns.length : Nat) : Int) < 4 then (1 + (ns.length : Nat) : Int) else 4) = (N : Int) ∧ N ≤ 4 := by
      by_cases c : (1 + (ns.length : Nat) : Int) < 4
      · exact ⟨1 + ns.length, by rw [if_pos c]; omega, by omega⟩
      · exact ⟨4, by rw [if_neg c]; rfl, by omega⟩
    rw [eN] at vN
    refine seq_rd ?_
    unfold tFor
    refine rng_rd (va_cons vN va_nil) ⟨N, rfl, by omega, by omega, ?_⟩
    refine for_range (n := N) (fun i σ H1 => ∃ (v1 v2 v3 v4 v5 v6 v7 v8 v9 v10 : Option V), σ = [some (.ref a), v1, v2, v3, v4, v5, v6, v7, v8, v9, v10] ∧ Same H H1) ⟨none, none, none, none, none, none, none, none, none, none, rfl, Same.refl _⟩ ?_ ?_
    · rintro i σ H1 hi ⟨w1, w2, w3, w4, w5, w6, w7, w8, w9, w10, rfl, s1⟩
      dsimp only
      refine gname_rd ?_
      refine seq_rd (asg_of ?_)
      refine tcall_rd (tcons_rd ?_)
      refine call_rd (vs := [.ref a, nV i]) (va_cons (ve_var (s := 0) (v := .ref a) rfl) (va_cons (VE.to (ve_var (s := 1) (v := .int (0 + (i : Int))) rfl) (by omega)) va_nil)) ?_
      refine ⟨a, ns, i, rfl, sqL_mono ha s1, fun c => ?_⟩
      refine ⟨c, 70, rfl, by decide, by decide, fun q H2 ds s2 nq hq len pos => ?_⟩
      have len : ds.length = 70 := len
      refine next_rd ?_
      dsimp only
      refine seq_rd (asgT ?_)
      refine call_rd (va_cons (ve_var (s := 2) (v := .ref q) rfl) (va_cons (ve_c (v := nV 4)) va_nil)) ⟨q, ds, 4, rfl, hq, by omega, fun x hx => (pos x hx).1, by decide, by decide, fun t H3 s3 bu => ?_⟩
      obtain ⟨v, p, r, d, n, ht, hv, el, g, fo, x1, pd1, d1, n1⟩ := bu.ex
      have x1 : ext r ≤ 324 := x1
      have pd1 : pd r ≤ 8 := pd1
      have dr : dlt 12 r := by
        show dep r < 12
        have := dep_pd r
        omega
      have en : Ents (den r) := four_ents fo
      have lenR : (den r).length = ext r := rfl
      refine ⟨t, [v, .ref p], rfl, SqT.of ht, rfl, v, [.ref p], rfl, .ref p, [], rfl, rfl, ?_⟩
      refine next_rd ?_
      dsimp only
      obtain ⟨xs, hp, ax⟩ := id el
      have lx := ax.len
      refine seq_rd (asg_of (cb_rd (va_cons (ve_var (s := 4) (v := .ref p) rfl) va_nil) ⟨p, xs, rfl, .inl (SqL.of hp), fun l nl => ?_⟩))
      have s4 := same_new (o := .lst xs) (Same.refl H3) nl
      have hl : (upd H3 l (.lst xs)) l = some (.lst xs) := upd_same
      generalize upd H3 l (.lst xs) = H4 at s4 hl ⊢
      have ell : EL H4 l (den r) := ⟨xs, hl, ax.mono s4⟩
      refine next_rd ?_
      dsimp only
      refine seq_rd (asg_of (mkw_rd (ve_var (s := 5) (v := .ref l) rfl) ell (fun d m => four_ent (fo d m)) (by omega) fun v2 H5 s5 hw => ?_))
      refine next_rd ?_
      dsimp only
      refine seq_rd ?_
      refine ⟨_, rfl, .inl ⟨rfl, _, SqL.of (s5 _ _ hl)⟩, by show 2 ≤ sizeLine; decide, fun t5 n5 => ?_⟩
      have s5b := same_new (o := .tup [.str "emit", .str "zz"]) (Same.refl H5) n5
      have hl6 := s5b _ _ (s5 _ _ hl)
      refine ⟨l, _, _, rfl, rfl, hl6, by rw [lx, sizeLine_eq]; omega, ?_⟩
      have s6 : Same H3 (upd (upd H5 t5 (.tup [.str "emit", .str "zz"])) l (.lst (xs ++ [.ref t5]))) := same_updL ((s4.trans s5).trans s5b) nl
      have hw6 := wd_updL (o := .lst (xs ++ [.ref t5])) (hw.mono s5b) en hl6
      generalize upd (upd H5 t5 (.tup [.str "emit", .str "zz"])) l (.lst (xs ++ [.ref t5])) = H6 at s6 hw6 ⊢
      refine next_rd ?_
      dsimp only
      have hv6 := hv.mono s6
      have el6 := el.mono s6
      have hq6 := s6 _ _ (s3 _ _ hq)
      have sH6 := ((s1.trans s2).trans s3).trans s6
      have vw : ∀ {H5 : Hp} {y8 y9 : Option V}, VE (tVar 3) v [some (.ref a), some (.int (0 + (i : Int))), some (.ref q), some v, some (.ref p), some (.ref l), some v2, w7, y8, y9, w10] H5 := ve_var rfl
      have vp : ∀ {H5 : Hp} {y8 y9 : Option V}, VE (tVar 4) (.ref p) [some (.ref a), some (.int (0 + (i : Int))), some (.ref q), some v, some (.ref p), some (.ref l), some v2, w7, y8, y9, w10] H5 := ve_var rfl
      have v6 : ∀ {H5 : Hp} {y8 y9 : Option V}, VE (tVar 6) v2 [some (.ref a), some (.int (0 + (i : Int))), some (.ref q), some v, some (.ref p), some (.ref l), some v2, w7, y8, y9, w10] H5 := ve_var rfl
      have vq : ∀ {H5 : Hp} {y8 y9 : Option V}, VE (tVar 2) (.ref q) [some (.ref a), some (.int (0 + (i : Int))), some (.ref q), some v, some (.ref p), some (.ref l), some v2, w7, y8, y9, w10] H5 := ve_var rfl
      have c1 := be_neI (ve_wlen (E := E0) (vw (y8 := w8) (y9 := w9)) hv6) (ve_lenE (K := K) (s := 4) rfl el6)
      rw [decide_eq_true (by omega)] at c1
      have c2 := be_truth (K := K) (E := E0) (s := 4) (vw (y8 := w8) (y9 := w9)) hv6 rfl el6 en
      refine seq_rd (if_be (be_or c1 fun _ => c2) fun H7 s7 => ⟨fun z => absurd z (by decide), fun _ => ?_⟩)
      refine next_rd ?_
      dsimp only
      have hw7 := hw6.mono s7
      have c3 := be_eqW (ok := dlt 12) (E := E0) (es := den r) (neg := true) (c := true) ⟨fun _ => rfl, fun _ => rfl⟩ (fun H2 s2 Q k => (v6 (y8 := w8) (y9 := w9)) H2 (Same.refl _) _ (k v2 H2 (Same.refl _) (hw7.mono s2))) vw (hv6.mono s7) g en en dr (show 0 < 12 by decide) (by omega) (by omega)
      have c4 := be_neI (ve_wlen (E := E0) (v6 (y8 := w8) (y9 := w9)) hw7) (ve_lenE (K := K) (s := 4) rfl (el6.mono s7))
      rw [decide_eq_true (show ((ext (.leaf (den r) : RwD) : Nat) : Int) = ((den r).length : Nat) from rfl)] at c4
      refine seq_rd (if_be (be_or c3 fun _ => c4) fun H8 s8 => ⟨fun z => absurd z (by decide), fun _ => ?_⟩)
      have s68 := s7.trans s8
      refine next_rd ?_
      dsimp only
      have c5 : BE (tB (tCall (spPr CW C) [] E0 (tCons (tVar 3) (tCons (tVar 4) (tCons (tOp rCat (tSl (rSlL K) (tVar 2) (tPart (tC (.int 60))) (tPart (tC (.int 68)))) (tSl (rSlL K) (tVar 2) tNoPart (tPart (tC (.int 8))))) tNil))))) true [some (.ref a), some (.int (0 + (i : Int))), some (.ref q), some v, some (.ref p), some (.ref l), some v2, w7, w8, w9, w10] H8 := be_bv fun H9 s9 Q k => by
        have s69 := s68.trans s9
        have hqm := s69 _ _ hq6
        refine tcall_rd (tcons_rd (vw H9 (Same.refl _) _ ?_))
        refine tcons_rd (vp H9 (Same.refl _) _ ?_)
        refine cons_rd (top_rd (slI_rd (f := 60) (l := 68) vq hqm (ve_c (v := nV 60)) (ve_c (v := nV 68)) (by decide) (by rw [List.length_map]; omega) fun l1 HA sA h1 => ?_))
        refine cR_rd (to_rd (m := 8) vq (sA _ _ hqm) (ve_c (v := nV 8)) fun l2 n2 sB => ?_)
        refine ⟨l1, l2, _, _, rfl, rfl, sB _ _ h1, upd_same, ?_, fun l3 n3 => ?_⟩
        · rw [sl_len (by rw [List.length_map]; omega), List.length_take, sizeLine_eq]
          omega
        · have sC := same_new (o := .lst (sl (ds.map V.int) 60 68 ++ (ds.map V.int).take 8)) (sA.trans sB) n3
          refine ⟨v, p, l3, r, d, n, sl ds 60 68 ++ ds.take 8, rfl, hv6.mono (s69.trans sC), el6.mono (s69.trans sC), g, fo, x1, pd1, ?_, ?_, fun H' s' => k H' (sC.trans s')⟩
          · rw [upd_same, List.map_append]
            unfold sl
            rw [List.map_take, List.map_drop, List.map_take]
          · rw [List.length_append, sl_len (by omega), List.length_take]
            omega
      refine seq_rd (if_be (be_not c5) fun H9 s9 => ⟨fun z => absurd z (by decide), fun _ => ?_⟩)
      have s69 := s68.trans s9
      refine next_rd ?_
      dsimp only
      have fe : ∀ j : Nat, FourD (fourD j) := fun j => ⟨j, rfl⟩
      have c6 := be_neB (K := K) (σ := [some (.ref a), some (.int (0 + (i : Int))), some (.ref q), some v, some (.ref p), some (.ref l), some v2, w7, w8, w9, w10]) (H1 := H9) (dt_lc4 (f := fun j => memD (fourD j) (den r)) (te := tInW CW C) fun j H2 hj s2 Q k => by
          unfold tInW
          refine top_rd ?_
          refine call_rd (vs := [nV j]) (va_cons (VE.to (ve_var (s := 7) (v := .int (0 + (j : Int))) rfl) (by omega)) va_nil) ?_
          refine ⟨(j : Nat), rfl, fun x H3 s3 ax => ?_⟩
          rw [show (((j : Nat) : Int) % 4).toNat = j by omega] at ax
          obtain ⟨z, o, ez, eo⟩ := four_ent (fe j)
          have hvX := (hv6.mono s69).mono (s2.trans s3)
          obtain ⟨pw, dx, fs, rv, e, hpw, _⟩ := hvX.ex
          refine cR_rd ((ve_var (s := 3) (v := v) rfl) H3 (Same.refl _) _ ?_)
          exact ⟨pw, dx, fs, e, hpw, v, x, r, d, n, z, o, rfl, hvX, by rw [← ez]; exact ax, eo, by rw [← ez]; exact four_pair (fe j), g, en, dr, fun H' s' => ⟨_, rfl, by rw [← ez]; exact k H' (s3.trans s')⟩⟩)
        (dt_lc4 (f := fun j => memD (fourD j) (den r)) (te := tInL K) fun j H2 hj s2 Q k => by
          unfold tInL
          refine top_rd ?_
          refine call_rd (vs := [nV j]) (va_cons (VE.to (ve_var (s := 7) (v := .int (0 + (j : Int))) rfl) (by omega)) va_nil) ?_
          refine ⟨(j : Nat), rfl, fun x H3 s3 ax => ?_⟩
          rw [show (((j : Nat) : Int) % 4).toNat = j by omega] at ax
          obtain ⟨ys, hps, ays⟩ := (el6.mono s69).mono (s2.trans s3)
          refine cR_rd ((ve_var (s := 4) (v := .ref p) rfl) H3 (Same.refl _) _ ?_)
          exact ⟨fourD j, den r, dp_pair ax (four_pair (fe j)), .inr (.lst (SqL.of hps) (dp_ents ays en)), shaped_tup en, shaped_list en, (shaped_pair (four_pair (fe j))).1, k H3 s3⟩)
        (fun _ _ => rfl)
      refine seq_rd (if_be c6 fun H10 s10 => ⟨fun z => absurd z (by decide), fun _ => ?_⟩)
      have s610 := s69.trans s10
      refine next_rd ?_
      dsimp only
      obtain ⟨y, hy⟩ : ∃ y, ds[69]? = some y := ⟨_, List.getElem?_eq_getElem (by omega)⟩
      have hy' : (ds.map V.int)[69]? = some (V.int y) := by rw [List.getElem?_map, hy]; rfl
      have y1 := Int.emod_lt_of_pos y (show (0 : Int) < ((den r).length : Nat) + 1 by omega)
      have y0 := Int.emod_nonneg y (show (((den r).length : Nat) + 1 : Int) ≠ 0 by omega)
      refine seq_rd (set_v (VE.nat (i := y % (((den r).length : Nat) + 1 : Int)) (ve_mod (ve_intI (ve_ixL vq (s610 _ _ hq6) (ve_c (v := nV 69)) hy')) (ve_add (ve_lenE (K := K) (s := 4) rfl (el6.mono s610)) ve_int) (by omega)) y0) ?_)
      obtain ⟨A, eA, hA⟩ : ∃ A : Nat, A = (y % (((den r).length : Nat) + 1 : Int)).toNat ∧ A ≤ (den r).length := ⟨_, rfl, by omega⟩
      rw [← eA]
      refine next_rd ?_
      dsimp only
      have v8 : ∀ {H5 : Hp} {y9 : Option V}, VE (tVar 8) (nV A) [some (.ref a), some (.int (0 + (i : Int))), some (.ref q), some v, some (.ref p), some (.ref l), some v2, w7, some (nV A), y9, w10] H5 := ve_var rfl
      have elA := el6.mono s610
      refine seq_rd (asg_of (tlst_rd (tcons_rd ?_)))
      refine oth_rd vp elA (v8 (y9 := w9)) v8 (by omega) fun u1 HA sA e1 => cons_rd ?_
      refine oth_rd vp (elA.mono sA) (v8 (y9 := w9)) (ve_addN (j := 1) v8 (ve_c (v := nV 1))) (by omega) fun u2 HB sB e2 => ?_
      refine ⟨by show 2 ≤ sizeLine; decide, fun o no => ?_⟩
      have sC := same_new (o := .lst [.ref u1, .ref u2]) (Same.refl HB) no
      have ho : (upd HB o (.lst [.ref u1, .ref u2])) o = some (.lst [.ref u1, .ref u2]) := upd_same
      generalize upd HB o (.lst [.ref u1, .ref u2]) = HC at sC ho ⊢
      have sAC := (sA.trans sB).trans sC
      have s6C := s610.trans sAC
      refine next_rd ?_
      dsimp only
      obtain ⟨k1, k2⟩ := oth_ents (a := A) (b := A) fo
      obtain ⟨k3, k4⟩ := oth_ents (a := A) (b := A + 1) fo
      have los : ∀ b, ((den r).take A ++ [zzD] ++ (den r).drop b).length ≤ 1000 := fun b => by
        rw [List.length_append, List.length_append, List.length_take, List.length_drop]
        show _ + 1 + _ ≤ _
        omega
      have others : ∀ (j : Nat) (x : V), ([V.ref u1, V.ref u2])[j]? = some x → ∃ u es, x = .ref u ∧ EL HC u es ∧ (∀ d ∈ es, EntD d) ∧ Ents es ∧ es ≠ den r ∧ es.length ≤ 1000 := fun j x hx => by
        match j, hx with
        | 0, hx =>
          cases hx
          exact ⟨u1, _, rfl, e1.mono (sB.trans sC), k1, k2, oth_ne1 hA, los _⟩
        | 1, hx =>
          cases hx
          exact ⟨u2, _, rfl, e2.mono sC, k3, k4, oth_ne2 hA fo, los _⟩
        | j + 2, hx => cases hx
      have c7 := be_neE (K := K) (xs := []) (ys := []) (t := tLc (iList K (tVar 9)) (gName 10) (tEqW CW C CM) (tVar 10) [10]) (u := tLst tNil) (σ := [some (.ref a), some (.int (0 + (i : Int))), some (.ref q), some v, some (.ref p), some (.ref l), some v2, w7, some (nV A), some (.ref o), w10]) (H1 := HC) (fun H2 s2 Q k => by
          refine ⟨.ref o, rfl, o, rfl, ⟨_, SqL.of (s2 _ _ ho)⟩, fun D nD => ?_⟩
          refine lc_list (fun j H' => Same H2 H' ∧ H' D = some (.lst [])) ⟨same_new (Same.refl _) nD, upd_same⟩ (fun j H' _ z => SqL.of (z.1 _ _ (s2 _ _ ho))) (fun j x H' hx z => ?_) (fun H' z => ?_)
          · obtain ⟨u, es, rfl, elu, ku, nu, neu, lu⟩ := others j x hx
            refine ⟨rfl, ?_⟩
            unfold tEqW
            have s2' := s2.trans z.1
            refine (be_eqW (ok := dlt 12) (E := E0) (es := es) (neg := false) (c := false) ⟨fun z => absurd z (by decide), fun z => (neu z).elim⟩ (fun H3 s3 Q k => mkw_rd (ve_var (s := 10) (v := .ref u) rfl) (elu.mono (s2'.trans s3)) ku (by omega) k) (ve_var (s := 3) (v := v) rfl) ((hv6.mono s6C).mono s2') g en nu dr (show 0 < 12 by decide) (by omega) lu) H' (Same.refl _) _ fun H3 s3 => ?_
            exact ⟨z.1.trans s3, s3 _ _ z.2⟩
          · refine k _ H' z.1 ?_
            rw [hid_nil]
            exact .lst z.2 .nil) (dt_lst live_nil dt_nil (Nat.zero_le _)) rfl (fun d m => by cases m)
      have c8 := be_eqL (ok := dlt 12) (E := E0) (vw (y8 := some (nV A)) (y9 := some (.ref o))) (hv6.mono s6C) vp (el6.mono s6C)
      refine seq_rd (if_be (be_or c7 fun _ => c8) fun HD sD => ⟨fun z => absurd z (by decide), fun _ => ?_⟩)
      have s6D := s6C.trans sD
      refine next_rd ?_
      dsimp only
      have c9 := be_and (be_ne (K := K) (dt_el (vp (y8 := some (nV A)) (y9 := some (.ref o))) (el6.mono s6D)) (dt_lst live_nil dt_nil (Nat.zero_le _)) (by rw [noDic]; exact (shaped_ents en).2.1) rfl (shaped_list en) (by decide +kernel)) (c := false) (tb := tTest (tOp (rOwnE CW (spWq CW C (dlt 12)) E0 false) (tMake CW (spWdI CW CM C) [] E0 (tCons (tSl (rSlL K) (tVar 4) tNoPart (tPart (tUn (rU fun i => .int (-i)) (tC (.int 1))))) tNil)) (tVar 3))) fun ne => by
        have nn : den r ≠ [] := fun z => by
          rw [z] at ne
          exact absurd ne (by decide +kernel)
        have pos : 0 < (den r).length := List.length_pos_iff.mpr nn
        have lt : ((den r).take ((den r).length - 1)).length = (den r).length - 1 := by rw [List.length_take]; omega
        exact be_eqW (ok := dlt 12) (E := E0) (es := (den r).take ((den r).length - 1)) (neg := false) (c := false) ⟨fun z => absurd z (by decide), fun z => by rw [z] at lt; omega⟩ (fun H3 s3 Q k => mkwS_rd (last_rd vp ((el6.mono s6D).mono s3) nn fun q2 H4 s4 e4 => mkw_rd ve_c e4 (fun d m => four_ent (fo d (List.mem_of_mem_take m))) (by omega) fun v9 H5 s5 hw9 => k v9 H5 (s4.trans s5) hw9)) vw (hv6.mono s6D) g en (fun d m => en d (List.mem_of_mem_take m)) dr (show 0 < 12 by decide) (by omega) (by omega)
      refine if_be c9 fun HE sE => ⟨fun z => absurd (Bool.and_false _ ▸ z) (by decide), fun _ => ?_⟩
      exact ⟨_, _, _, _, _, _, _, _, _, _, rfl, (sH6.trans s6D).trans sE⟩
    · rintro σ H1 ⟨w1, w2, w3, w4, w5, w6, w7, w8, w9, w10, rfl, s1⟩
      exact k H1
end

end K1

set_option Elab.async false
set_option linter.all false
set_option maxRecDepth 100000
set_option maxHeartbeats 4000000
namespace K1
open PySem L2 W1
/-! ### defs that call themselves, by the depth -/
section
variable {P : Program} {w : World} {K : PySem.W.Frag} {mg : Str → Option Value} {base : Heap} {C CM CW : Addr}
theorem Cal.up {j k : Nat} {x : Str} {ps : List Str} {sp : Sp} (c : Cal P w K mg base CX0 j x ps sp) (h : j ≤ k) : Cal P w K mg base CX0 k x ps sp := by
  obtain ⟨f, fd, F, r⟩ := c.ex
  exact ⟨f, fd, F.mono h, r⟩
theorem all_listed (B : Bl2 mg) (T : NoR K C) (CPi : Cal P w K mg base CX0 1 "part_index" ["row", "at"] (spPi C)) {f f' : Addr} {fd fd' : FuncData}
    (F : Fun K "listed" "listed" (top 14) f fd) (g : mg "listed" = some (.ref f)) (b : Binds K fd ["row", "first", "last"] [])
    (F' : Fun K "listed_rounds" "listed_rounds" (top 15) f' fd') (g' : mg "listed_rounds" = some (.ref f')) (b' : Binds K fd' ["base", "first", "last"] []) :
    ∀ n, Cal P w K mg base CX0 (2 * n + 1) "listed" ["row", "first", "last"] (spLi C (dlt n)) ∧ Cal P w K mg base CX0 (2 * n + 2) "listed_rounds" ["base", "first", "last"] (spLo C (dlt n))
  | 0 => by
    have c0 : Cal P w K mg base CX0 1 "listed" ["row", "first", "last"] (spLi C (dlt 0)) := ⟨f, fd, fn_vac (fun vs H Q E z => by
      obtain ⟨v, r, x, y, _, _, _, _, z, _⟩ := z
      exact Nat.not_lt_zero _ z), g, F.kp, b⟩
    exact ⟨c0, ⟨f', fd', ok_listed_rounds F' B T c0, g', F'.kp, b'⟩⟩
  | n + 1 => by
    obtain ⟨c1, c2⟩ := all_listed B T CPi F g b F' g' b' n
    have c3 : Cal P w K mg base CX0 (2 * (n + 1) + 1) "listed" ["row", "first", "last"] (spLi C (dlt (n + 1))) := ⟨f, fd, ok_listed F B T (by omega) CPi (c1.up (by omega)) c2, g, F.kp, b⟩
    exact ⟨c3, ⟨f', fd', ok_listed_rounds F' B T c3, g', F'.kp, b'⟩⟩
theorem all_cut (T : NoR K C) (CLf : Cal P w K mg base CX0 3 "leaf_row" ["entries"] (spLf C)) (CJn : Cal P w K mg base CX0 3 "joined" ["one", "other"] (spJn C)) (CPi : Cal P w K mg base CX0 1 "part_index" ["row", "at"] (spPi C))
    (CBp : Cal P w K mg base CX0 4 "between_parts" ["row", "low", "high"] (spBp C)) (CRp : Cal P w K mg base CX0 5 "repeated" ["row", "times"] (spRp C fun _ => True)) {f f' : Addr} {fd fd' : FuncData}
    (F : Fun K "cut_row" "cut_row" (top 11) f fd) (g : mg "cut_row" = some (.ref f)) (b : Binds K fd ["row", "first", "last"] [])
    (F' : Fun K "cut_rounds" "cut_rounds" (top 13) f' fd') (g' : mg "cut_rounds" = some (.ref f')) (b' : Binds K fd' ["base", "first", "last"] []) :
    ∀ n, Cal P w K mg base CX0 (2 * n + 5) "cut_row" ["row", "first", "last"] (spCr C (dlt n)) ∧ Cal P w K mg base CX0 (2 * n + 6) "cut_rounds" ["base", "first", "last"] (spCo C (dlt n))
  | 0 => by
    have c0 : Cal P w K mg base CX0 5 "cut_row" ["row", "first", "last"] (spCr C (dlt 0)) := ⟨f, fd, fn_vac (fun vs H Q E z => by
      obtain ⟨v, r, x, y, _, _, _, z, _⟩ := z
      exact Nat.not_lt_zero _ z), g, F.kp, b⟩
    exact ⟨c0, ⟨f', fd', ok_cut_rounds F' T (by decide) CRp CJn c0, g', F'.kp, b'⟩⟩
  | n + 1 => by
    obtain ⟨c1, c2⟩ := all_cut T CLf CJn CPi CBp CRp F g b F' g' b' n
    have c3 : Cal P w K mg base CX0 (2 * (n + 1) + 5) "cut_row" ["row", "first", "last"] (spCr C (dlt (n + 1))) := ⟨f, fd, ok_cut_row F T (by omega) CLf CJn CPi CBp (c1.up (by omega)) c2, g, F.kp, b⟩
    exact ⟨c3, ⟨f', fd', ok_cut_rounds F' T (by omega) CRp CJn c3, g', F'.kp, b'⟩⟩
theorem all_has (B : Bl2 mg) (T : NoR K C) {f : Addr} {fd : FuncData} (F : Fun K "has_entry" "has_entry" (top 10) f fd) (g : mg "has_entry" = some (.ref f)) (b : Binds K fd ["row", "entry"] []) : ∀ n, Cal P w K mg base CX0 (n + 1) "has_entry" ["row", "entry"] (spHe C (dlt n))
  | 0 => ⟨f, fd, fn_vac (fun vs H Q E z => by
      obtain ⟨v, x, r, d, _, _, _, _, _, _, z, _⟩ := z
      exact Nat.not_lt_zero _ z), g, F.kp, b⟩
  | n + 1 => ⟨f, fd, ok_has_entry F B T (all_has B T F g b n), g, F.kp, b⟩
theorem all_built (B : Blt mg) (hc : PySem.W.selfFirst K CW = true) (hn : PySem.W.findIn K (.ref CW) "__rmul__" = some none)
    (CRo : Cal P w K mg base CX0 2 "_law_row" ["_law_digits_here", "_law_many"] spRo) (MW : Mkr P w K mg base CX0 5 "Word" CW wdP (spWdI CW CM C)) (OA : OwnM P w K mg base CX0 7 CW "__add__" ["self", "other"] (spWa CW C)) (OM : OwnM P w K mg base CX0 7 CW "__mul__" ["self", "other"] (spWm CW C))
    {f : Addr} {fd : FuncData} (F : Fun K "_law_built" "_law_built" (top 58) f fd) (g : mg "_law_built" = some (.ref f)) (b : Binds K fd ["_law_digits_here", "_law_deep"] []) : ∀ n, Cal P w K mg base CX0 (8 + n) "_law_built" ["_law_digits_here", "_law_deep"] (spBu CW C n)
  | 0 => ⟨f, fd, fn_vac (fun vs H Q E z => by
      obtain ⟨q, ds, deep, _, _, _, _, _, z, _⟩ := z
      exact Nat.not_lt_zero _ z), g, F.kp, b⟩
  | n + 1 => ⟨f, fd, ok_built F B hc hn CRo MW OA OM (all_built B hc hn CRo MW OA OM F g b n), g, F.kp, b⟩
end

end K1

set_option Elab.async false
set_option linter.all false
set_option maxRecDepth 100000
set_option maxHeartbeats 8000000
namespace K1
open PySem PySem.Spec PyProof.Rows L2
theorem fun_of {K : PySem.W.Frag} {x q : Str} {st : Stmt} {f : Addr} {fd : FuncData} (F : FunD K x q (defArgs st) (defBody st) (defScope st) [] [] f fd) : Fun K x q st f fd := by
  obtain ⟨oc, od, dV, kV, doc, pm, an, cdv, ct, osl, e, lk, hcd, hD, _⟩ := F.ex
  rcases hD with ⟨_, rfl⟩ | ⟨z, _⟩
  · exact ⟨⟨oc, od, kV, doc, pm, an, cdv, ct, osl, e, lk, hcd⟩, F.kp⟩
  · exact absurd rfl z
theorem facts {P : Program} {w : World} {K : PySem.W.Frag} {h : Heap} {mg : Str → Option Value} {f : Addr} (X : K.In h) (G : h.Ns mainGlobals mg) (hfm : mg ("law" : Str) = some (.ref f)) (c : He.SaysX hfa hfn hts [] exB w h K) :
    ∃ fd : FuncData, (∀ (s : Shared) (v : Value), BindsTo s fd ⟨[v], []⟩ [("_law_script", v)]) ∧ ∀ base : Heap, K.In base → base.Ns mainGlobals mg → FnOk P w K mg base CX0 34 f fd ["_law_script"] (spLaw K) := by
  have cd : He.SaysD hfa hfn K := c.t.d
  have e := hfm.symm.trans (He.glo_ok X G (cd.fact 35 (f := .glo "law") rfl))
  cases e
  obtain ⟨fd0, D0⟩ := cd.def_ 0 rfl
  have F0 : Fun K "leaf_row" "leaf_row" (top 3) (He.fAd K ("leaf_row", none)) fd0 := fun_of D0
  have b0 : Binds K fd0 ["entries"] [] := D0.bindsN fun _ _ _ _ _ _ us hl => match us, hl with | [_], _ => rfl
  obtain ⟨fd1, D1⟩ := cd.def_ 1 rfl
  have F1 : Fun K "repeated" "repeated" (top 4) (He.fAd K ("repeated", none)) fd1 := fun_of D1
  have b1 : Binds K fd1 ["row", "times"] [] := D1.bindsN fun _ _ _ _ _ _ us hl => match us, hl with | [_, _], _ => rfl
  obtain ⟨fd2, D2⟩ := cd.def_ 2 rfl
  have F2 : Fun K "parts_of" "parts_of" (top 5) (He.fAd K ("parts_of", none)) fd2 := fun_of D2
  have b2 : Binds K fd2 ["row"] [] := D2.bindsN fun _ _ _ _ _ _ us hl => match us, hl with | [_], _ => rfl
  obtain ⟨fd3, D3⟩ := cd.def_ 3 rfl
  have F3 : Fun K "begins_of" "begins_of" (top 6) (He.fAd K ("begins_of", none)) fd3 := fun_of D3
  have b3 : Binds K fd3 ["row"] [] := D3.bindsN fun _ _ _ _ _ _ us hl => match us, hl with | [_], _ => rfl
  obtain ⟨fd4, D4⟩ := cd.def_ 4 rfl
  have F4 : Fun K "joined" "joined" (top 7) (He.fAd K ("joined", none)) fd4 := fun_of D4
  have b4 : Binds K fd4 ["one", "other"] [] := D4.bindsN fun _ _ _ _ _ _ us hl => match us, hl with | [_, _], _ => rfl
  obtain ⟨fd5, D5⟩ := cd.def_ 5 rfl
  have F5 : Fun K "part_index" "part_index" (top 8) (He.fAd K ("part_index", none)) fd5 := fun_of D5
  have b5 : Binds K fd5 ["row", "at"] [] := D5.bindsN fun _ _ _ _ _ _ us hl => match us, hl with | [_, _], _ => rfl
  obtain ⟨fd6, D6⟩ := cd.def_ 6 rfl
  have F6 : Fun K "entry_at" "entry_at" (top 9) (He.fAd K ("entry_at", none)) fd6 := fun_of D6
  have b6 : Binds K fd6 ["row", "at"] [] := D6.bindsN fun _ _ _ _ _ _ us hl => match us, hl with | [_, _], _ => rfl
  obtain ⟨fd7, D7⟩ := cd.def_ 7 rfl
  have F7 : Fun K "has_entry" "has_entry" (top 10) (He.fAd K ("has_entry", none)) fd7 := fun_of D7
  have b7 : Binds K fd7 ["row", "entry"] [] := D7.bindsN fun _ _ _ _ _ _ us hl => match us, hl with | [_, _], _ => rfl
  obtain ⟨fd8, D8⟩ := cd.def_ 8 rfl
  have F8 : Fun K "cut_row" "cut_row" (top 11) (He.fAd K ("cut_row", none)) fd8 := fun_of D8
  have b8 : Binds K fd8 ["row", "first", "last"] [] := D8.bindsN fun _ _ _ _ _ _ us hl => match us, hl with | [_, _, _], _ => rfl
  obtain ⟨fd9, D9⟩ := cd.def_ 9 rfl
  have F9 : Fun K "between_parts" "between_parts" (top 12) (He.fAd K ("between_parts", none)) fd9 := fun_of D9
  have b9 : Binds K fd9 ["row", "low", "high"] [] := D9.bindsN fun _ _ _ _ _ _ us hl => match us, hl with | [_, _, _], _ => rfl
  obtain ⟨fd10, D10⟩ := cd.def_ 10 rfl
  have F10 : Fun K "cut_rounds" "cut_rounds" (top 13) (He.fAd K ("cut_rounds", none)) fd10 := fun_of D10
  have b10 : Binds K fd10 ["base", "first", "last"] [] := D10.bindsN fun _ _ _ _ _ _ us hl => match us, hl with | [_, _, _], _ => rfl
  obtain ⟨fd11, D11⟩ := cd.def_ 11 rfl
  have F11 : Fun K "listed" "listed" (top 14) (He.fAd K ("listed", none)) fd11 := fun_of D11
  have b11 : Binds K fd11 ["row", "first", "last"] [] := D11.bindsN fun _ _ _ _ _ _ us hl => match us, hl with | [_, _, _], _ => rfl
  obtain ⟨fd12, D12⟩ := cd.def_ 12 rfl
  have F12 : Fun K "listed_rounds" "listed_rounds" (top 15) (He.fAd K ("listed_rounds", none)) fd12 := fun_of D12
  have b12 : Binds K fd12 ["base", "first", "last"] [] := D12.bindsN fun _ _ _ _ _ _ us hl => match us, hl with | [_, _, _], _ => rfl
  obtain ⟨fd13, D13⟩ := cd.def_ 13 rfl
  have F13 : Fun K "settled" "settled" (top 17) (He.fAd K ("settled", none)) fd13 := fun_of D13
  have b13 : Binds K fd13 ["side", "many"] [] := D13.bindsN fun _ _ _ _ _ _ us hl => match us, hl with | [_, _], _ => rfl
  obtain ⟨fd14, D14⟩ := cd.def_ 14 rfl
  have F14 : Fun K "is_leaf" "is_leaf" (top 26) (He.fAd K ("is_leaf", none)) fd14 := fun_of D14
  have b14 : Binds K fd14 ["side"] [] := D14.bindsN fun _ _ _ _ _ _ us hl => match us, hl with | [_], _ => rfl
  obtain ⟨fd15, D15⟩ := cd.def_ 15 rfl
  have F15 : Fun K "listed_side" "listed_side" (top 27) (He.fAd K ("listed_side", none)) fd15 := fun_of D15
  have b15 : Binds K fd15 ["side", "skip", "many"] [] := D15.bindsN fun _ _ _ _ _ _ us hl => match us, hl with | [_, _, _], _ => rfl
  obtain ⟨fd16, D16⟩ := cd.def_ 16 rfl
  have F16 : Fun K "same_entries" "same_entries" (top 28) (He.fAd K ("same_entries", none)) fd16 := fun_of D16
  have b16 : Binds K fd16 ["left", "right", "many"] [] := D16.bindsN fun _ _ _ _ _ _ us hl => match us, hl with | [_, _, _], _ => rfl
  obtain ⟨fd17, D17⟩ := cd.def_ 17 rfl
  have F17 : Fun K "agreed" "agreed" (top 29) (He.fAd K ("agreed", none)) fd17 := fun_of D17
  have b17 : Binds K fd17 ["one", "first", "other", "second", "many"] [] := D17.bindsN fun _ _ _ _ _ _ us hl => match us, hl with | [_, _, _, _, _], _ => rfl
  obtain ⟨fd18, D18⟩ := cd.def_ 18 rfl
  have F18 : Fun K "is_integer" "is_integer" (top 31) (He.fAd K ("is_integer", none)) fd18 := fun_of D18
  have b18 : Binds K fd18 ["value"] [] := D18.bindsN fun _ _ _ _ _ _ us hl => match us, hl with | [_], _ => rfl
  obtain ⟨fd19, D19⟩ := cd.def_ 19 rfl
  have F19 : Fun K "is_within" "is_within" (top 32) (He.fAd K ("is_within", none)) fd19 := fun_of D19
  have b19 : Binds K fd19 ["value", "least", "most"] [] := D19.bindsN fun _ _ _ _ _ _ us hl => match us, hl with | [_, _, _], _ => rfl
  obtain ⟨fd20, D20⟩ := cd.def_ 20 rfl
  have F20 : Fun K "is_count" "is_count" (top 33) (He.fAd K ("is_count", none)) fd20 := fun_of D20
  have b20 : Binds K fd20 ["value"] [] := D20.bindsN fun _ _ _ _ _ _ us hl => match us, hl with | [_], _ => rfl
  obtain ⟨fd21, D21⟩ := cd.def_ 21 rfl
  have F21 : Fun K "is_word" "is_word" (top 34) (He.fAd K ("is_word", none)) fd21 := fun_of D21
  have b21 : Binds K fd21 ["value", "word"] [] := D21.bindsN fun _ _ _ _ _ _ us hl => match us, hl with | [_, _], _ => rfl
  obtain ⟨fd22, D22⟩ := cd.def_ 22 rfl
  have F22 : Fun K "is_name" "is_name" (top 35) (He.fAd K ("is_name", none)) fd22 := fun_of D22
  have b22 : Binds K fd22 ["value"] [] := D22.bindsN fun _ _ _ _ _ _ us hl => match us, hl with | [_], _ => rfl
  obtain ⟨fd23, D23⟩ := cd.def_ 23 rfl
  have F23 : Fun K "is_pair" "is_pair" (top 46) (He.fAd K ("is_pair", none)) fd23 := fun_of D23
  have b23 : Binds K fd23 ["value"] [] := D23.bindsN fun _ _ _ _ _ _ us hl => match us, hl with | [_], _ => rfl
  obtain ⟨fd24, D24⟩ := cd.def_ 24 rfl
  have F24 : Fun K "is_entry" "is_entry" (top 47) (He.fAd K ("is_entry", none)) fd24 := fun_of D24
  have b24 : Binds K fd24 ["value"] [] := D24.bindsN fun _ _ _ _ _ _ us hl => match us, hl with | [_], _ => rfl
  obtain ⟨fd25, D25⟩ := cd.def_ 25 rfl
  have F25 : Fun K "are_entries" "are_entries" (top 48) (He.fAd K ("are_entries", none)) fd25 := fun_of D25
  have b25 : Binds K fd25 ["value"] [] := D25.bindsN fun _ _ _ _ _ _ us hl => match us, hl with | [_], _ => rfl
  obtain ⟨fd26, D26⟩ := cd.def_ 26 rfl
  have F26 : Fun K "making_of" "making_of" (top 49) (He.fAd K ("making_of", none)) fd26 := fun_of D26
  have b26 : Binds K fd26 ["entries"] [] := D26.bindsN fun _ _ _ _ _ _ us hl => match us, hl with | [_], _ => rfl
  obtain ⟨fd27, D27⟩ := cd.def_ 27 rfl
  have F27 : Fun K "check_index" "check_index" (top 50) (He.fAd K ("check_index", none)) fd27 := fun_of D27
  have b27 : Binds K fd27 ["number", "least", "most"] [] := D27.bindsN fun _ _ _ _ _ _ us hl => match us, hl with | [_, _, _], _ => rfl
  obtain ⟨fd28, D28⟩ := cd.def_ 28 rfl
  have F28 : Fun K "are_same" "are_same" (top 52) (He.fAd K ("are_same", none)) fd28 := fun_of D28
  have b28 : Binds K fd28 ["one", "other"] [] := D28.bindsN fun _ _ _ _ _ _ us hl => match us, hl with | [_, _], _ => rfl
  obtain ⟨fd29, D29⟩ := cd.def_ 29 rfl
  have F29 : Fun K "_law_cell" "_law_cell" (top 54) (He.fAd K ("_law_cell", none)) fd29 := fun_of D29
  have b29 : Binds K fd29 ["_law_script", "_law_k"] [] := D29.bindsN fun _ _ _ _ _ _ us hl => match us, hl with | [_, _], _ => rfl
  obtain ⟨fd30, D30⟩ := cd.def_ 30 rfl
  have F30 : Fun K "_law_digits" "_law_digits" (top 55) (He.fAd K ("_law_digits", none)) fd30 := fun_of D30
  have b30 : Binds K fd30 ["_law_cell_here", "_law_many"] [] := D30.bindsN fun _ _ _ _ _ _ us hl => match us, hl with | [_, _], _ => rfl
  obtain ⟨fd31, D31⟩ := cd.def_ 31 rfl
  have F31 : Fun K "_law_entry" "_law_entry" (top 56) (He.fAd K ("_law_entry", none)) fd31 := fun_of D31
  have b31 : Binds K fd31 ["_law_digit"] [] := D31.bindsN fun _ _ _ _ _ _ us hl => match us, hl with | [_], _ => rfl
  obtain ⟨fd32, D32⟩ := cd.def_ 32 rfl
  have F32 : Fun K "_law_row" "_law_row" (top 57) (He.fAd K ("_law_row", none)) fd32 := fun_of D32
  have b32 : Binds K fd32 ["_law_digits_here", "_law_many"] [] := D32.bindsN fun _ _ _ _ _ _ us hl => match us, hl with | [_, _], _ => rfl
  obtain ⟨fd33, D33⟩ := cd.def_ 33 rfl
  have F33 : Fun K "_law_built" "_law_built" (top 58) (He.fAd K ("_law_built", none)) fd33 := fun_of D33
  have b33 : Binds K fd33 ["_law_digits_here", "_law_deep"] [] := D33.bindsN fun _ _ _ _ _ _ us hl => match us, hl with | [_, _], _ => rfl
  obtain ⟨fd34, D34⟩ := cd.def_ 34 rfl
  have F34 : Fun K "_law_parts_right" "_law_parts_right" (top 59) (He.fAd K ("_law_parts_right", none)) fd34 := fun_of D34
  have b34 : Binds K fd34 ["_law_word", "_law_some", "_law_digits_here"] [] := D34.bindsN fun _ _ _ _ _ _ us hl => match us, hl with | [_, _, _], _ => rfl
  obtain ⟨fd35, D35⟩ := cd.def_ 35 rfl
  have F35 : Fun K "law" "law" (top 60) (He.fAd K ("law", none)) fd35 := fun_of D35
  have b35 : Binds K fd35 ["_law_script"] [] := D35.bindsN fun _ _ _ _ _ _ us hl => match us, hl with | [_], _ => rfl
  obtain ⟨fd36, D36⟩ := cd.def_ 36 rfl
  have F36 : Fun K "__init__" "Row.__init__" (inClass (top 2) 0) (He.fAd K ("Row", some "__init__")) fd36 := fun_of D36
  have b36 : Binds K fd36 ["self", "leaf", "base", "times", "parts", "begins", "extent"] [] := D36.bindsN fun _ _ _ _ _ _ us hl => match us, hl with | [_, _, _, _, _, _, _], _ => rfl
  obtain ⟨fd37, D37⟩ := cd.def_ 37 rfl
  have F37 : Fun K "__init__" "Making.__init__" (inClass (top 45) 0) (He.fAd K ("Making", some "__init__")) fd37 := fun_of D37
  have b37 : Binds K fd37 ["self", "content", "depth", "pieces"] [] := D37.bindsN fun _ _ _ _ _ _ us hl => match us, hl with | [_, _, _, _], _ => rfl
  obtain ⟨fd38, D38⟩ := cd.def_ 38 rfl
  have F38 : Fun K "__init__" "Word.__init__" (inClass (top 51) 0) (He.fAd K ("Word", some "__init__")) fd38 := fun_of D38
  have b38 : Binds K fd38 ["self", "entries"] [] := D38.bindsN fun _ _ _ _ _ _ us hl => match us, hl with | [_, _], _ => rfl
  obtain ⟨fd39, D39⟩ := cd.def_ 39 rfl
  have F39 : Fun K "length" "Word.length" (inClass (top 51) 1) (He.fAd K ("Word", some "length")) fd39 := fun_of D39
  have b39 : Binds K fd39 ["self"] [] := D39.bindsN fun _ _ _ _ _ _ us hl => match us, hl with | [_], _ => rfl
  obtain ⟨fd40, D40⟩ := cd.def_ 40 rfl
  have F40 : Fun K "cut" "Word.cut" (inClass (top 51) 2) (He.fAd K ("Word", some "cut")) fd40 := fun_of D40
  have b40 : Binds K fd40 ["self", "first", "last"] [] := D40.bindsN fun _ _ _ _ _ _ us hl => match us, hl with | [_, _, _], _ => rfl
  obtain ⟨fd41, D41⟩ := cd.def_ 41 rfl
  have F41 : Fun K "entries" "Word.entries" (inClass (top 51) 3) (He.fAd K ("Word", some "entries")) fd41 := fun_of D41
  have b41 : Binds K fd41 ["self", "first", "last"] [] := D41.bindsN fun _ _ _ _ _ _ us hl => match us, hl with | [_, _, _], _ => rfl
  obtain ⟨fd42, D42⟩ := cd.def_ 42 rfl
  have F42 : Fun K "__add__" "Word.__add__" (inClass (top 51) 4) (He.fAd K ("Word", some "__add__")) fd42 := fun_of D42
  have b42 : Binds K fd42 ["self", "other"] [] := D42.bindsN fun _ _ _ _ _ _ us hl => match us, hl with | [_, _], _ => rfl
  obtain ⟨fd43, D43⟩ := cd.def_ 43 rfl
  have F43 : Fun K "__mul__" "Word.__mul__" (inClass (top 51) 5) (He.fAd K ("Word", some "__mul__")) fd43 := fun_of D43
  have b43 : Binds K fd43 ["self", "other"] [] := D43.bindsN fun _ _ _ _ _ _ us hl => match us, hl with | [_, _], _ => rfl
  obtain ⟨fd44, D44⟩ := cd.def_ 44 rfl
  have F44 : Fun K "__getitem__" "Word.__getitem__" (inClass (top 51) 6) (He.fAd K ("Word", some "__getitem__")) fd44 := fun_of D44
  have b44 : Binds K fd44 ["self", "at"] [] := D44.bindsN fun _ _ _ _ _ _ us hl => match us, hl with | [_, _], _ => rfl
  obtain ⟨fd45, D45⟩ := cd.def_ 45 rfl
  have F45 : Fun K "__bool__" "Word.__bool__" (inClass (top 51) 8) (He.fAd K ("Word", some "__bool__")) fd45 := fun_of D45
  have b45 : Binds K fd45 ["self"] [] := D45.bindsN fun _ _ _ _ _ _ us hl => match us, hl with | [_], _ => rfl
  obtain ⟨fd46, D46⟩ := cd.def_ 46 rfl
  have F46 : Fun K "__contains__" "Word.__contains__" (inClass (top 51) 9) (He.fAd K ("Word", some "__contains__")) fd46 := fun_of D46
  have b46 : Binds K fd46 ["self", "x"] [] := D46.bindsN fun _ _ _ _ _ _ us hl => match us, hl with | [_, _], _ => rfl
  obtain ⟨fd47, D47⟩ := cd.def_ 47 rfl
  have F47 : Fun K "__eq__" "Word.__eq__" (inClass (top 51) 10) (He.fAd K ("Word", some "__eq__")) fd47 := fun_of D47
  have b47 : Binds K fd47 ["self", "other"] [] := D47.bindsN fun _ _ _ _ _ _ us hl => match us, hl with | [_, _], _ => rfl
  have zisinstance := He.free_ok X G (cd.fact 39 (f := .free "isinstance") rfl)
  have zint := He.free_ok X G (cd.fact 40 (f := .free "int") rfl)
  have zbool := He.free_ok X G (cd.fact 41 (f := .free "bool") rfl)
  have zstr := He.free_ok X G (cd.fact 42 (f := .free "str") rfl)
  have zlist := He.free_ok X G (cd.fact 43 (f := .free "list") rfl)
  have ztuple := He.free_ok X G (cd.fact 44 (f := .free "tuple") rfl)
  have zlen := He.free_ok X G (cd.fact 45 (f := .free "len") rfl)
  have zall := He.free_ok X G (cd.fact 46 (f := .free "all") rfl)
  have zenumerate := He.free_ok X G (cd.fact 47 (f := .free "enumerate") rfl)
  have zrange := He.free_ok X G (cd.fact 48 (f := .free "range") rfl)
  have zmax := He.free_ok X G (cd.fact 49 (f := .free "max") rfl)
  have zmin := He.free_ok X G (cd.fact 50 (f := .free "min") rfl)
  have zsorted := He.free_ok X G (cd.fact 51 (f := .free "sorted") rfl)
  have zzip := He.free_ok X G (cd.fact 52 (f := .free "zip") rfl)
  have zdivmod := He.free_ok X G (cd.fact 53 (f := .free "divmod") rfl)
  have B : Blt mg := ⟨zisinstance, zint, zbool, zstr, zlist, ztuple, zlen, zall, zenumerate, zrange, zmax⟩
  have B2 : Bl2 mg := { toBlt := B, min := zmin, divmod := zdivmod, zip := zzip, sorted := zsorted }
  obtain ⟨t0, i0⟩ := He.int_ok X G (cd.fact 54 (f := .int "DEEPEST" 6) rfl)
  obtain ⟨t1, i1⟩ := He.int_ok X G (cd.fact 55 (f := .int "MOST_PIECES" 1000) rfl)
  obtain ⟨t2, i2⟩ := He.int_ok X G (cd.fact 56 (f := .int "MOST_LISTED" 1000) rfl)
  have T : NoR K (He.ga K "Row") := ⟨He.cls_ok (cd.fact 57 (f := .cls "Row") rfl), He.noat_ok (cd.fact 59 (f := .noat "Row" "leaf") rfl), He.noat_ok (cd.fact 60 (f := .noat "Row" "base") rfl), He.noat_ok (cd.fact 61 (f := .noat "Row" "times") rfl), He.noat_ok (cd.fact 62 (f := .noat "Row" "parts") rfl), He.noat_ok (cd.fact 63 (f := .noat "Row" "begins") rfl), He.noat_ok (cd.fact 64 (f := .noat "Row" "extent") rfl)⟩
  have TM : NoMk K (He.ga K "Making") := ⟨He.cls_ok (cd.fact 65 (f := .cls "Making") rfl), He.noat_ok (cd.fact 67 (f := .noat "Making" "content") rfl), He.noat_ok (cd.fact 68 (f := .noat "Making" "depth") rfl), He.noat_ok (cd.fact 69 (f := .noat "Making" "pieces") rfl)⟩
  have TW : NoWd K (He.ga K "Word") := ⟨He.cls_ok (cd.fact 70 (f := .cls "Word") rfl), He.noat_ok (cd.fact 72 (f := .noat "Word" "_row") rfl), He.noat_ok (cd.fact 73 (f := .noat "Word" "_depth") rfl), He.noat_ok (cd.fact 74 (f := .noat "Word" "_pieces") rfl)⟩
  obtain ⟨xne, x2⟩ := He.ba c.more
  obtain ⟨xsf, x2⟩ := He.ba x2
  obtain ⟨xrm, x2⟩ := He.ba x2
  obtain ⟨xre, x2⟩ := He.ba x2
  obtain ⟨xro, x2⟩ := He.ba x2
  obtain ⟨xsp, x2⟩ := He.ba x2
  obtain ⟨xtk, x2⟩ := He.ba x2
  obtain ⟨wc, x2⟩ := He.ba x2
  obtain ⟨wo, x2⟩ := He.ba x2
  obtain ⟨wk, x2⟩ := He.ba x2
  obtain ⟨wl, x2⟩ := He.ba x2
  obtain ⟨mc, x2⟩ := He.ba x2
  obtain ⟨mo, x2⟩ := He.ba x2
  obtain ⟨mk, x2⟩ := He.ba x2
  obtain ⟨ml, x2⟩ := He.ba x2
  obtain ⟨fa_, x2⟩ := He.ba x2
  obtain ⟨fm_, x2⟩ := He.ba x2
  obtain ⟨fg_, x2⟩ := He.ba x2
  obtain ⟨fb_, x2⟩ := He.ba x2
  have fc_ := x2
  have IM : IsC K (He.ga K "Making") := ⟨TM.cl, of_decide_eq_true mc, of_decide_eq_true xsp, of_decide_eq_true xtk, of_decide_eq_true mo, of_decide_eq_true mk, of_decide_eq_true ml⟩
  have IW : IsC K (He.ga K "Word") := ⟨TW.cl, of_decide_eq_true wc, of_decide_eq_true xsp, of_decide_eq_true xtk, of_decide_eq_true wo, of_decide_eq_true wk, of_decide_eq_true wl⟩
  have Y : IdEq K (He.ga K "Row") := ⟨of_decide_eq_true xre, of_decide_eq_true xro⟩
  have gW := He.glo_ok X G (cd.fact 38 (f := .glo "Word") rfl)
  have gM := He.glo_ok X G (cd.fact 37 (f := .glo "Making") rfl)
  have bA := FunD.bindsA (ps := ["_law_script"]) D35 fun _ _ _ _ _ _ us hl => match us, hl with | [_], _ => rfl
  refine ⟨fd35, fun s v => bA s [v] rfl, fun base _ _ => ?_⟩
  have C1 : Cal P w K mg base CX0 1 "is_integer" ["value"] spInteger := ⟨_, _, ok1 F18 B, He.glo_ok X G (cd.fact 18 (f := .glo "is_integer") rfl), D18.kp, b18⟩
  have C2 : Cal P w K mg base CX0 2 "is_within" ["value", "least", "most"] spWithin := ⟨_, _, ok2 F19 B C1, He.glo_ok X G (cd.fact 19 (f := .glo "is_within") rfl), D19.kp, b19⟩
  have C3 : Cal P w K mg base CX0 1 "is_name" ["value"] spName := ⟨_, _, ok3 F22 B, He.glo_ok X G (cd.fact 22 (f := .glo "is_name") rfl), D22.kp, b22⟩
  have MR : Mkr P w K mg base CX0 1 "Row" (He.ga K "Row") ["self", "leaf", "base", "times", "parts", "begins", "extent"] (spRwI (He.ga K "Row")) := ⟨_, _, He.mkr_ok (cd.fact 58 (f := .mkr "Row") rfl), okRwI F36 T, He.glo_ok X G (cd.fact 36 (f := .glo "Row") rfl), b36⟩
  have CLf : Cal P w K mg base CX0 3 "leaf_row" ["entries"] (spLf (He.ga K "Row")) := ⟨_, _, ok_leaf_row F0 B2 T MR, He.glo_ok X G (cd.fact 0 (f := .glo "leaf_row") rfl), D0.kp, b0⟩
  have CRp : Cal P w K mg base CX0 5 "repeated" ["row", "times"] (spRp (He.ga K "Row") fun _ => True) := ⟨_, _, ok_repeated F1 T MR CLf (He.glo_ok X G (cd.fact 1 (f := .glo "repeated") rfl)) b1, He.glo_ok X G (cd.fact 1 (f := .glo "repeated") rfl), D1.kp, b1⟩
  have CPo : Cal P w K mg base CX0 1 "parts_of" ["row"] (spPo (He.ga K "Row")) := ⟨_, _, ok_parts_of F2 T, He.glo_ok X G (cd.fact 2 (f := .glo "parts_of") rfl), D2.kp, b2⟩
  have CBo : Cal P w K mg base CX0 1 "begins_of" ["row"] (spBo (He.ga K "Row")) := ⟨_, _, ok_begins_of F3 T, He.glo_ok X G (cd.fact 3 (f := .glo "begins_of") rfl), D3.kp, b3⟩
  have CJn : Cal P w K mg base CX0 3 "joined" ["one", "other"] (spJn (He.ga K "Row")) := ⟨_, _, ok_joined F4 B2 T MR CPo CBo, He.glo_ok X G (cd.fact 4 (f := .glo "joined") rfl), D4.kp, b4⟩
  have CPi : Cal P w K mg base CX0 1 "part_index" ["row", "at"] (spPi (He.ga K "Row")) := ⟨_, _, ok_part_index F5 B2 T, He.glo_ok X G (cd.fact 5 (f := .glo "part_index") rfl), D5.kp, b5⟩
  obtain ⟨CLi, CLo⟩ := all_listed B2 T CPi F11 (He.glo_ok X G (cd.fact 11 (f := .glo "listed") rfl)) b11 F12 (He.glo_ok X G (cd.fact 12 (f := .glo "listed_rounds") rfl)) b12 12
  have CHe := all_has (P := P) (w := w) (base := base) B2 T F7 (He.glo_ok X G (cd.fact 7 (f := .glo "has_entry") rfl)) b7 12
  have CEa : Cal P w K mg base CX0 2 "entry_at" ["row", "at"] (spEa (He.ga K "Row")) := ⟨_, _, ok_entry_at F6 B2 T CPi, He.glo_ok X G (cd.fact 6 (f := .glo "entry_at") rfl), D6.kp, b6⟩
  have CBp : Cal P w K mg base CX0 4 "between_parts" ["row", "low", "high"] (spBp (He.ga K "Row")) := ⟨_, _, ok_between_parts F9 B2 T MR CLf, He.glo_ok X G (cd.fact 9 (f := .glo "between_parts") rfl), D9.kp, b9⟩
  obtain ⟨CCr, CCo⟩ := all_cut T CLf CJn CPi CBp CRp F8 (He.glo_ok X G (cd.fact 8 (f := .glo "cut_row") rfl)) b8 F10 (He.glo_ok X G (cd.fact 10 (f := .glo "cut_rounds") rfl)) b10 12
  have CSe : Cal P w K mg base CX0 2 "settled" ["side", "many"] (spSe (He.ga K "Row")) := ⟨_, _, ok_settled F13 B2 T CPi, He.glo_ok X G (cd.fact 13 (f := .glo "settled") rfl), D13.kp, b13⟩
  have CIl : Cal P w K mg base CX0 1 "is_leaf" ["side"] (spIl (He.ga K "Row")) := ⟨_, _, ok_is_leaf F14 T, He.glo_ok X G (cd.fact 14 (f := .glo "is_leaf") rfl), D14.kp, b14⟩
  have CLs : Cal P w K mg base CX0 27 "listed_side" ["side", "skip", "many"] (spLs (He.ga K "Row") (dlt 12)) := ⟨_, _, ok_listed_side F15 (CLi.up (by decide)) CLo, He.glo_ok X G (cd.fact 15 (f := .glo "listed_side") rfl), D15.kp, b15⟩
  have CSm : Cal P w K mg base CX0 28 "same_entries" ["left", "right", "many"] (spSm (He.ga K "Row") (dlt 12)) := ⟨_, _, ok_same_entries F16 B2 CLs, He.glo_ok X G (cd.fact 16 (f := .glo "same_entries") rfl), D16.kp, b16⟩
  have CAg : Cal P w K mg base CX0 29 "agreed" ["one", "first", "other", "second", "many"] (spAg (He.ga K "Row") (dlt 12)) := ⟨_, _, ok_agreed F17 B2 T Y (by decide) CSe CIl CSm, He.glo_ok X G (cd.fact 17 (f := .glo "agreed") rfl), D17.kp, b17⟩
  have CIc : Cal P w K mg base CX0 2 "is_count" ["value"] spIc := ⟨_, _, ok_is_count F20 C1, He.glo_ok X G (cd.fact 20 (f := .glo "is_count") rfl), D20.kp, b20⟩
  have CIw : Cal P w K mg base CX0 1 "is_word" ["value", "word"] spIw := ⟨_, _, ok_is_word F21 B2, He.glo_ok X G (cd.fact 21 (f := .glo "is_word") rfl), D21.kp, b21⟩
  have CIp : Cal P w K mg base CX0 1 "is_pair" ["value"] spIp := ⟨_, _, ok_is_pair F23 B2, He.glo_ok X G (cd.fact 23 (f := .glo "is_pair") rfl), D23.kp, b23⟩
  have CIe : Cal P w K mg base CX0 2 "is_entry" ["value"] spIe := ⟨_, _, ok_is_entry F24 C3 CIw CIp, He.glo_ok X G (cd.fact 24 (f := .glo "is_entry") rfl), D24.kp, b24⟩
  have CAe : Cal P w K mg base CX0 3 "are_entries" ["value"] spAe := ⟨_, _, ok_are_entries F25 B2 CIp CIe, He.glo_ok X G (cd.fact 25 (f := .glo "are_entries") rfl), D25.kp, b25⟩
  have MM : Mkr P w K mg base CX0 1 "Making" (He.ga K "Making") ["self", "content", "depth", "pieces"] (spMkI (He.ga K "Making")) := ⟨_, _, He.mkr_ok (cd.fact 66 (f := .mkr "Making") rfl), ok_mkI F37 TM, He.glo_ok X G (cd.fact 37 (f := .glo "Making") rfl), b37⟩
  have CMo : Cal P w K mg base CX0 4 "making_of" ["entries"] (spMo (He.ga K "Making") (He.ga K "Row")) := ⟨_, _, ok_making_of F26 MM CLf CAe, He.glo_ok X G (cd.fact 26 (f := .glo "making_of") rfl), D26.kp, b26⟩
  have CCi : Cal P w K mg base CX0 3 "check_index" ["number", "least", "most"] spCi := ⟨_, _, ok_check_index F27 C2, He.glo_ok X G (cd.fact 27 (f := .glo "check_index") rfl), D27.kp, b27⟩
  have MW : Mkr P w K mg base CX0 5 "Word" (He.ga K "Word") ["self", "entries"] (spWdI (He.ga K "Word") (He.ga K "Making") (He.ga K "Row")) := ⟨_, _, He.mkr_ok (cd.fact 71 (f := .mkr "Word") rfl), ok_wdI F38 B2 TW TM IM gM CMo, He.glo_ok X G (cd.fact 38 (f := .glo "Word") rfl), b38⟩
  have ML : MetW P w K mg base 1 (He.ga K "Word") "length" ["self"] (spWl (He.ga K "Word") (He.ga K "Row")) := ⟨_, _, He.meth_ok (cd.fact 75 (f := .meth "Word" "length") rfl), ok_Wlength F39 T TW, b39⟩
  have MC : MetW P w K mg base 31 (He.ga K "Word") "cut" ["self", "first", "last"] (spWc (He.ga K "Word") (He.ga K "Row") (dlt 12)) := ⟨_, _, He.meth_ok (cd.fact 76 (f := .meth "Word" "cut") rfl), FnOk.mono (ok_Wcut F40 (by decide) T TW CCi CCr MM MW) (by decide), b40⟩
  have ME : MetW P w K mg base 31 (He.ga K "Word") "entries" ["self", "first", "last"] (spWe (He.ga K "Word") (He.ga K "Row") (dlt 12)) := ⟨_, _, He.meth_ok (cd.fact 77 (f := .meth "Word" "entries") rfl), FnOk.mono (ok_Wentries F41 B2 (by decide) T TW i2 CCi CLi) (by decide), b41⟩
  have mOA := He.meth_ok (cd.fact 78 (f := .meth "Word" "__add__") rfl)
  have OA : OwnM P w K mg base CX0 7 (He.ga K "Word") "__add__" ["self", "other"] (spWa (He.ga K "Word") (He.ga K "Row")) := ⟨_, _, ok_Wadd F42 B2 T TW IW gW i1 CJn MM MW, mOA.at_, mOA.fn, fa_, b42⟩
  have mOM := He.meth_ok (cd.fact 79 (f := .meth "Word" "__mul__") rfl)
  have OM : OwnM P w K mg base CX0 7 (He.ga K "Word") "__mul__" ["self", "other"] (spWm (He.ga K "Word") (He.ga K "Row")) := ⟨_, _, ok_Wmul F43 TW i0 CIc CRp MM MW, mOM.at_, mOM.fn, fm_, b43⟩
  have mOG := He.meth_ok (cd.fact 80 (f := .meth "Word" "__getitem__") rfl)
  have OG : OwnM P w K mg base CX0 3 (He.ga K "Word") "__getitem__" ["self", "at"] (spWg (He.ga K "Word") (He.ga K "Row")) := ⟨_, _, ok_Wget F44 T TW C2 CEa, mOG.at_, mOG.fn, fg_, b44⟩
  have mOB := He.meth_ok (cd.fact 81 (f := .meth "Word" "__bool__") rfl)
  have OB : OwnM P w K mg base CX0 1 (He.ga K "Word") "__bool__" ["self"] (spWb (He.ga K "Word") (He.ga K "Row")) := ⟨_, _, ok_Wbool F45 B2 T TW, mOB.at_, mOB.fn, fb_, b45⟩
  have mOC := He.meth_ok (cd.fact 82 (f := .meth "Word" "__contains__") rfl)
  have OC : OwnM P w K mg base CX0 31 (He.ga K "Word") "__contains__" ["self", "x"] (spWi (He.ga K "Word") (He.ga K "Row") (dlt 12)) := ⟨_, _, FnOk.mono (ok_Win F46 (by decide) TW CIe CHe) (by decide), mOC.at_, mOC.fn, fc_, b46⟩
  have CAs : Cal P w K mg base CX0 30 "are_same" ["one", "other"] (spAs (He.ga K "Row") (dlt 12)) := ⟨_, _, ok_are_same F28 T CAg, He.glo_ok X G (cd.fact 28 (f := .glo "are_same") rfl), D28.kp, b28⟩
  have mQ := He.meth_ok (cd.fact 83 (f := .meth "Word" "__eq__") rfl)
  have OQ : OwnE P w K mg base CX0 31 (He.ga K "Word") ["self", "other"] (spWq (He.ga K "Word") (He.ga K "Row") (dlt 12)) := ⟨⟨_, _, ok_Weq F47 B2 TW IW gW CAs, mQ.at_, mQ.fn, b47⟩, of_decide_eq_true xne, of_decide_eq_true wo⟩
  have CLc : Cal P w K mg base CX0 1 "_law_cell" ["_law_script", "_law_k"] (spCl K) := ⟨_, _, ok_cell F29 B, He.glo_ok X G (cd.fact 29 (f := .glo "_law_cell") rfl), D29.kp, b29⟩
  have CDg : Cal P w K mg base CX0 1 "_law_digits" ["_law_cell_here", "_law_many"] spDig := ⟨_, _, ok39 F30 B, He.glo_ok X G (cd.fact 30 (f := .glo "_law_digits") rfl), D30.kp, b30⟩
  have CEn : Cal P w K mg base CX0 1 "_law_entry" ["_law_digit"] spEn := ⟨_, _, ok_entry F31 B, He.glo_ok X G (cd.fact 31 (f := .glo "_law_entry") rfl), D31.kp, b31⟩
  have CRo : Cal P w K mg base CX0 2 "_law_row" ["_law_digits_here", "_law_many"] spRo := ⟨_, _, ok_row F32 B CEn, He.glo_ok X G (cd.fact 32 (f := .glo "_law_row") rfl), D32.kp, b32⟩
  have CBu := all_built B xsf (of_decide_eq_true xrm) CRo MW OA OM F33 (He.glo_ok X G (cd.fact 33 (f := .glo "_law_built") rfl)) b33 5
  have CPr : Cal P w K mg base CX0 33 "_law_parts_right" ["_law_word", "_law_some", "_law_digits_here"] (spPr (He.ga K "Word") (He.ga K "Row")) := ⟨_, _, ok_parts F34 B2 (by decide) TW ME MC ML OG OQ MW, He.glo_ok X G (cd.fact 34 (f := .glo "_law_parts_right") rfl), D34.kp, b34⟩
  exact ok_law F35 B2 (by decide) TW CLc CDg CEn CBu CPr ML OB OC OQ MW
end K1
open PySem PySem.W PySem.Calls PyProof.Rows
set_option maxRecDepth 100000 in
set_option maxHeartbeats 0 in
theorem PySem.Challenge.cw_roundheap_k32_words_told_holds : PySem.Challenge.rw_roundheap_k32_words_told.Holds := by
  w_on; o_law
  refine HandSHeadRun.head_imp (r := OpenLaw.row PySem.Challenge.rw_roundheap_k32_words_told) (q := view (OpenLaw.row PySem.Challenge.rw_roundheap_k32_words_told).prog [0, 60]) (H := K1.hhk) (ob := K1.hob) (M := 8000) (loose := K1.hnm) (d := HandSHeadRun.topDef (OpenLaw.row PySem.Challenge.rw_roundheap_k32_words_told).prog 60) (kwd := []) K1.hob_eq
    K1.hrun (by kernel_rfl) (by kernel_rfl) (by kernel_rfl) (by rfl) (by first | assumption | decide +kernel) (by decide +kernel) ⟨rfl, rfl, rfl, rfl, rfl, by decide +kernel⟩ ?hw ?hc
  case hw => w_witness2
  case hc =>
    refine L2.walk_ofE (l := PySem.Challenge.rw_roundheap_k32_words_told) (n := 63) (k := 34) (x := "_law_script") (CX := L2.CX0) rfl (by decide) (by kernel_rfl) ⟨rfl, by decide, by decide⟩ ?F (fun _ _ _ _ z => z)
    intro w mg fa h Y G hmg0
    obtain ⟨K, KX, c⟩ := Y
    have hmg : mg ("law" : PySem.Str) = some (.ref fa) := by
      have e : (HandSHeadRun.topDef (OpenLaw.row PySem.Challenge.rw_roundheap_k32_words_told).prog 60).name = ("law" : PySem.Str) := by kernel_rfl
      rw [← e]
      exact hmg0
    obtain ⟨fd, hb, hF⟩ := K1.facts (P := (PySem.Challenge.rw_roundheap_k32_words_told).prog) (w := w) KX G hmg c
    exact ⟨K, fd, K1.spLaw K, KX, hb, fun H a ns hl _ hS => ⟨a, ns, rfl, hS, hl, fun _ => rfl⟩, hF⟩
