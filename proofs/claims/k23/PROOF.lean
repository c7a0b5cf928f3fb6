import PyProof.Rows.All
import PySem.Challenge.RW_roundheap_k23_places_of_moves
import KE.KStateDown
import HandS.More
import HandS.Head0
import HandS.Head1
import HandS.Head2
import HandS.Head3
import HandS.HeadEnd
import HandS.HeadHook1
import HandS.HeadHook2
import HandS.HeadHook3
import HandS.HeadHook4
import PyProof.DictUpdate
import Wide.All
import OpenK.AllK
import Wide.FinOn
import HandS.ForMost
import HandS.Exc
import HandS.ExcOwn
import HandS.ExcInit
import HandS.ExcField
import HandS.ExcIs
import HandS.TryOnly
import HandS.WordsExc
import HandS.IsInst
import HandS.CallSlots
import HandS.MakeKwOnly
import HandS.DictComp
import HandS.Flow
import HandS.OwnEq
import HandS.Style
import PyProof.InstEq
import KE.KExcInit
import HandS.Keys
import HandS.Zip
import HandS.Proxy
import HandS.TupAny
import PyProof.EqKinds
import HandS.DeepEq
import HandS.FStr
import HandS.NoneIn
import HandS.Walk
import HandS.Finally
import HandS.Deep
import PyProof.StrBlock
namespace K1
open PySem
/-- the program's top, by places -/
def top (i : Nat) : Stmt := PySem.Challenge.pw_roundheap_k23_places_of_moves.main.body.getD i (.Pass ⟨0, 0, 0, 0⟩)
end K1

set_option Elab.async false
set_option linter.all false
set_option maxRecDepth 100000
set_option maxHeartbeats 0
namespace K1
open PySem PySem.Spec PyProof.Rows L2
/-! ### the head by facts -/
def hfn0 : List He.DefD := [
  ⟨("is_integer", none), "is_integer", "is_integer", defArgs (top 3), defBody (top 3), defScope (top 3), [], []⟩,
  ⟨("is_within", none), "is_within", "is_within", defArgs (top 4), defBody (top 4), defScope (top 4), [], []⟩,
  ⟨("is_count", none), "is_count", "is_count", defArgs (top 5), defBody (top 5), defScope (top 5), [], []⟩,
  ⟨("is_size", none), "is_size", "is_size", defArgs (top 6), defBody (top 6), defScope (top 6), [], []⟩,
  ⟨("is_word", none), "is_word", "is_word", defArgs (top 7), defBody (top 7), defScope (top 7), [], []⟩,
  ⟨("is_place", none), "is_place", "is_place", defArgs (top 15), defBody (top 15), defScope (top 15), [], []⟩,
  ⟨("is_pool", none), "is_pool", "is_pool", defArgs (top 16), defBody (top 16), defScope (top 16), [], []⟩,
  ⟨("are_pools", none), "are_pools", "are_pools", defArgs (top 17), defBody (top 17), defScope (top 17), [], []⟩,
  ⟨("origins_of", none), "origins_of", "origins_of", defArgs (top 18), defBody (top 18), defScope (top 18), [], []⟩,
  ⟨("fresh_of", none), "fresh_of", "fresh_of", defArgs (top 19), defBody (top 19), defScope (top 19), [], []⟩,
  ⟨("has_origin_twice", none), "has_origin_twice", "has_origin_twice", defArgs (top 20), defBody (top 20), defScope (top 20), [], []⟩,
  ⟨("checked_plan", none), "checked_plan", "checked_plan", defArgs (top 21), defBody (top 21), defScope (top 21), [], []⟩]
def hfn1 : List He.DefD := [
  ⟨("shortened_heads", none), "shortened_heads", "shortened_heads", defArgs (top 22), defBody (top 22), defScope (top 22), [], []⟩,
  ⟨("shortened_fronts", none), "shortened_fronts", "shortened_fronts", defArgs (top 23), defBody (top 23), defScope (top 23), [], []⟩,
  ⟨("goals_in", none), "goals_in", "goals_in", defArgs (top 24), defBody (top 24), defScope (top 24), [], []⟩,
  ⟨("objects_of", none), "objects_of", "objects_of", defArgs (top 25), defBody (top 25), defScope (top 25), [], []⟩,
  ⟨("pools_of", none), "pools_of", "pools_of", defArgs (top 26), defBody (top 26), defScope (top 26), [], []⟩,
  ⟨("front_of", none), "front_of", "front_of", defArgs (top 27), defBody (top 27), defScope (top 27), [], []⟩,
  ⟨("shift_of", none), "shift_of", "shift_of", defArgs (top 28), defBody (top 28), defScope (top 28), [], []⟩,
  ⟨("origin_of", none), "origin_of", "origin_of", defArgs (top 31), defBody (top 31), defScope (top 31), [], []⟩,
  ⟨("goal_of", none), "goal_of", "goal_of", defArgs (top 32), defBody (top 32), defScope (top 32), [], []⟩,
  ⟨("is_end", none), "is_end", "is_end", defArgs (top 29), defBody (top 29), defScope (top 29), [], []⟩,
  ⟨("_law_cell_at", none), "_law_cell_at", "_law_cell_at", defArgs (top 49), defBody (top 49), defScope (top 49), [], []⟩,
  ⟨("_law_source", none), "_law_source", "_law_source", defArgs (top 50), defBody (top 50), defScope (top 50), [], []⟩]
def hfn2 : List He.DefD := [
  ⟨("_law_draw", none), "_law_draw", "_law_draw", defArgs (top 51), defBody (top 51), defScope (top 51), [], []⟩,
  ⟨("_law_pick", none), "_law_pick", "_law_pick", defArgs (top 52), defBody (top 52), defScope (top 52), [], []⟩,
  ⟨("_law_places", none), "_law_places", "_law_places", defArgs (top 53), defBody (top 53), defScope (top 53), [], []⟩,
  ⟨("_law_steps", none), "_law_steps", "_law_steps", defArgs (top 54), defBody (top 54), defScope (top 54), [], []⟩,
  ⟨("_law_played", none), "_law_played", "_law_played", defArgs (top 55), defBody (top 55), defScope (top 55), [], []⟩,
  ⟨("_law_tail", none), "_law_tail", "_law_tail", defArgs (top 56), defBody (top 56), defScope (top 56), [], []⟩,
  ⟨("_law_parts", none), "_law_parts", "_law_parts", defArgs (top 57), defBody (top 57), defScope (top 57), [], []⟩,
  ⟨("_law_short", none), "_law_short", "_law_short", defArgs (top 58), defBody (top 58), defScope (top 58), [], []⟩,
  ⟨("_law_sizes", none), "_law_sizes", "_law_sizes", defArgs (top 59), defBody (top 59), defScope (top 59), [], []⟩,
  ⟨("_law_origins_right", none), "_law_origins_right", "_law_origins_right", defArgs (top 60), defBody (top 60), defScope (top 60), [], []⟩,
  ⟨("_law_right", none), "_law_right", "_law_right", defArgs (top 61), defBody (top 61), defScope (top 61), [], []⟩,
  ⟨("law", none), "law", "law", defArgs (top 62), defBody (top 62), defScope (top 62), [], []⟩]
def hfn3 : List He.DefD := [
  ⟨("Plan", some "__init__"), "__init__", "Plan.__init__", defArgs (inClass (top 14) 0), defBody (inClass (top 14) 0), defScope (inClass (top 14) 0), [], []⟩,
  ⟨("Move", some "__init__"), "__init__", "Move.__init__", defArgs (inClass (top 47) 0), defBody (inClass (top 47) 0), defScope (inClass (top 47) 0), [], []⟩,
  ⟨("Move", some "objects"), "objects", "Move.objects", defArgs (inClass (top 47) 1), defBody (inClass (top 47) 1), defScope (inClass (top 47) 1), [], []⟩,
  ⟨("Move", some "pools"), "pools", "Move.pools", defArgs (inClass (top 47) 2), defBody (inClass (top 47) 2), defScope (inClass (top 47) 2), [], []⟩,
  ⟨("Move", some "origin"), "origin", "Move.origin", defArgs (inClass (top 47) 3), defBody (inClass (top 47) 3), defScope (inClass (top 47) 3), [], []⟩,
  ⟨("Move", some "goal"), "goal", "Move.goal", defArgs (inClass (top 47) 4), defBody (inClass (top 47) 4), defScope (inClass (top 47) 4), [], []⟩,
  ⟨("Move", some "shift"), "shift", "Move.shift", defArgs (inClass (top 47) 5), defBody (inClass (top 47) 5), defScope (inClass (top 47) 5), [], []⟩,
  ⟨("Move", some "__eq__"), "__eq__", "Move.__eq__", defArgs (inClass (top 47) 13), defBody (inClass (top 47) 13), defScope (inClass (top 47) 13), [], []⟩,
  ⟨("Move", some "__repr__"), "__repr__", "Move.__repr__", defArgs (inClass (top 47) 14), defBody (inClass (top 47) 14), defScope (inClass (top 47) 14), [], []⟩]
def hfn : List He.DefD := hfn0 ++ hfn1 ++ hfn2 ++ hfn3
def hfa0 : List He.Fa := [.glo "is_integer", .glo "is_within", .glo "is_count", .glo "is_size", .glo "is_word", .glo "is_place", .glo "is_pool", .glo "are_pools", .glo "origins_of", .glo "fresh_of", .glo "has_origin_twice", .glo "checked_plan", .glo "shortened_heads", .glo "shortened_fronts", .glo "goals_in", .glo "objects_of", .glo "pools_of", .glo "front_of", .glo "shift_of", .glo "origin_of", .glo "goal_of", .glo "is_end", .glo "_law_cell_at", .glo "_law_source"]
def hfa1 : List He.Fa := [.glo "_law_draw", .glo "_law_pick", .glo "_law_places", .glo "_law_steps", .glo "_law_played", .glo "_law_tail", .glo "_law_parts", .glo "_law_short", .glo "_law_sizes", .glo "_law_origins_right", .glo "_law_right", .glo "law", .glo "Plan", .glo "Move", .free "isinstance", .free "int", .free "bool", .free "str", .free "list", .free "tuple", .free "len", .free "all", .free "enumerate", .free "range"]
def hfa2 : List He.Fa := [.free "max", .free "min", .free "divmod", .free "zip", .free "sorted", .free "dict", .free "repr", .cls "Plan", .mkr "Plan", .noat "Plan" "heads", .noat "Plan" "many", .noat "Plan" "fronts", .noat "Plan" "goals", .cls "Move", .mkr "Move", .noat "Move" "_plan", .meth "Move" "objects", .meth "Move" "pools", .meth "Move" "origin", .meth "Move" "goal", .meth "Move" "shift", .meth "Move" "__eq__", .meth "Move" "__repr__"]
def hfa : List He.Fa := hfa0 ++ hfa1 ++ hfa2
def hts : List He.Tab := []
def exB (K : PySem.W.Frag) : Bool := decide (PySem.W.specialIn K (.builtin "object.__class__") "__get__" = some (some (.builtin "getset_descriptor.__get__"))) && (decide (PySem.W.takesIn K (.builtin "object.__class__") = some true) && (decide (PySem.W.findIn K (.ref (He.ga K "Move")) "__ne__" = some (some (.builtin "object.__ne__"))) && (decide (PySem.W.findIn K (.ref (He.ga K "Plan")) "__class__" = some (some (.builtin "object.__class__"))) && (decide (PySem.W.mroIn K (He.ga K "Plan") (.type "object") = some true) && (decide (PySem.W.kitOne K (.ref (He.ga K "Plan")) (.ref (He.ga K "Plan")) = some true) && (decide (PySem.W.kitOne K (.type "NoneType") (.ref (He.ga K "Plan")) = some false) && (decide (PySem.W.kitOne K (.type "int") (.ref (He.ga K "Plan")) = some false) && (decide (PySem.W.kitOne K (.type "list") (.ref (He.ga K "Plan")) = some false) && (decide (PySem.W.kitOne K (.type "tuple") (.ref (He.ga K "Plan")) = some false) && (decide (PySem.W.kitOne K (.type "dict") (.ref (He.ga K "Plan")) = some false) && (decide (PySem.W.kitOne K (.type "str") (.ref (He.ga K "Plan")) = some false) && (decide (PySem.W.findIn K (.ref (He.ga K "Move")) "__class__" = some (some (.builtin "object.__class__"))) && (decide (PySem.W.mroIn K (He.ga K "Move") (.type "object") = some true) && (decide (PySem.W.kitOne K (.ref (He.ga K "Move")) (.ref (He.ga K "Move")) = some true) && (decide (PySem.W.kitOne K (.type "NoneType") (.ref (He.ga K "Move")) = some false) && (decide (PySem.W.kitOne K (.type "int") (.ref (He.ga K "Move")) = some false) && (decide (PySem.W.kitOne K (.type "list") (.ref (He.ga K "Move")) = some false) && (decide (PySem.W.kitOne K (.type "tuple") (.ref (He.ga K "Move")) = some false) && (decide (PySem.W.kitOne K (.type "dict") (.ref (He.ga K "Move")) = some false) && (decide (PySem.W.kitOne K (.type "str") (.ref (He.ga K "Move")) = some false)))))))))))))))))))))
abbrev RwH : PySem.W.OpenRow := PySem.W.OpenLaw.row PySem.Challenge.rw_roundheap_k23_places_of_moves
abbrev hhk : PySem.W.Hook := He.hookX 4 hfa hfn hts [] exB
def hob (s : PySem.W.SharedT) : He.AlX := He.obsX 4 hfa hfn hts [] exB (HandSHeadRun.getT s)
theorem hob_eq (s : PySem.W.SharedT) : hob s = hhk.obs s.abs := He.obsX_eq (HandSHeadRun.getT_eq s)
def hnm0 : List Str := ["lcm", "_wall", "is_integer", "is_within", "is_count", "is_size", "is_word", "RunError", "InvalidNumber", "InvalidPlace", "InvalidArgument", "Plan", "is_place", "is_pool", "are_pools"]
def hnm1 : List Str := ["origins_of", "fresh_of", "has_origin_twice", "checked_plan", "shortened_heads", "shortened_fronts", "goals_in", "objects_of", "pools_of", "front_of", "shift_of", "is_end", "is_inner", "origin_of", "goal_of"]
def hnm2 : List Str := ["inner_places", "object_origins", "highest_object", "is_round", "one_then", "chain_from", "is_cycle", "chains", "cycles_in", "origins_along", "power_of", "order_of", "Move", "_law_cell_at", "_law_source"]
def hnm3 : List Str := ["_law_draw", "_law_pick", "_law_places", "_law_steps", "_law_played", "_law_tail", "_law_parts", "_law_short", "_law_sizes", "_law_origins_right", "_law_right"]
def hnm : List Str := hnm0 ++ hnm1 ++ hnm2 ++ hnm3
noncomputable section
open HandSHeadRun
def runW (w : World) := wholeF (fun p => stepQ (denQ tabQ) p w) fenceQ 8000 RwH.prog
abbrev qW : Program := PySem.W.view RwH.prog [0, 62]
def HP3 (w : World) : Prop := (runW w).map (fun x => hob x.2) = some (hhk.val w)
theorem hrun3 (w : World) : HP3 w := PySem.W.byRow2 "special-get-raises" (P := HP3) (fun w => by unfold HP3; kernel_rfl) (fun w => by unfold HP3; kernel_rfl) w
def HP1 (w : World) : Prop := (runW w).map (fun x => looksF RwH.prog x.1.heap x.2.abs) = some (true)
theorem hrun1 (w : World) : HP1 w := PySem.W.byRow2 "special-get-raises" (P := HP1) (fun w => by unfold HP1; kernel_rfl) (fun w => by unfold HP1; kernel_rfl) w
def HP2 (w : World) : Prop := (runW w).map (fun x => seenQ qW hnm (importedModules RwH.prog.main.body) (fun s => PySem.W.xlAt qW [] s && PySem.W.recOk RwH.toRowW.records s) x.2.abs) = some (PySem.W.openGood qW hnm)
theorem hrun2 (w : World) : HP2 w := PySem.W.byRow2 "special-get-raises" (P := HP2) (fun w => by unfold HP2; kernel_rfl) (fun w => by unfold HP2; kernel_rfl) w
theorem three {α β γ δ : Type} {X : Option δ} {f : δ → α} {g : δ → β} {h : δ → γ} {a : α} {b : β} {c : γ} (h1 : X.map f = some a) (h2 : X.map g = some b) (h3 : X.map h = some c) : X.map (fun x => (f x, g x, h x)) = some (a, b, c) := by
  cases X with
  | none => cases h1
  | some x => cases h1; cases h2; cases h3; rfl
theorem hrun (w : World) : RunEqI RwH (PySem.W.view RwH.prog [0, 62]) hhk hob 8000 hnm w := three (hrun1 w) (hrun2 w) (hrun3 w)
end
end K1

set_option Elab.async false
set_option linter.all false
namespace W1
variable {α : Type}
/-! ### stretches of a list -/
def sl (xs : List α) (a b : Nat) : List α := (xs.drop a).take (b - a)
theorem sl_len {xs : List α} {a b : Nat} (h : b ≤ xs.length) : (sl xs a b).length = b - a := by
  unfold sl; rw [List.length_take, List.length_drop]; omega
theorem sl_self {xs : List α} {a : Nat} : sl xs a a = [] := by unfold sl; rw [Nat.sub_self, List.take_zero]
theorem sl_all {xs : List α} : sl xs 0 xs.length = xs := by unfold sl; rw [List.drop_zero, Nat.sub_zero, List.take_length]
theorem sl_get {xs : List α} {a b i : Nat} : (sl xs a b)[i]? = if i < b - a then xs[a + i]? else none := by
  unfold sl
  rw [List.getElem?_take]
  split
  · rw [List.getElem?_drop]
  · rfl
theorem sl_app {xs : List α} {a b c : Nat} (h1 : a ≤ b) (h2 : b ≤ c) (hb : b ≤ xs.length) : sl xs a b ++ sl xs b c = sl xs a c := by
  apply List.ext_getElem?
  intro i
  rw [List.getElem?_append, sl_len hb, sl_get, sl_get, sl_get]
  by_cases e : i < b - a
  · rw [if_pos e, if_pos e, if_pos (by omega)]
  · rw [if_neg e]
    rw [show b + (i - (b - a)) = a + i by omega]
    by_cases k : i < c - a
    · rw [if_pos k, if_pos (by omega)]
    · rw [if_neg k, if_neg (by omega)]
theorem sl_sl {xs : List α} {a b c d : Nat} (h : a + d ≤ b) : sl (sl xs a b) c d = sl xs (a + c) (a + d) := by
  apply List.ext_getElem?
  intro i
  rw [sl_get, sl_get, sl_get]
  by_cases k : i < d - c
  · rw [if_pos k, if_pos (by omega), if_pos (by omega), Nat.add_assoc]
  · rw [if_neg k, if_neg (by omega)]
theorem sl_left {xs ys : List α} {a b : Nat} (h : b ≤ xs.length) : sl (xs ++ ys) a b = sl xs a b := by
  apply List.ext_getElem?
  intro i
  rw [sl_get, sl_get]
  by_cases k : i < b - a
  · rw [if_pos k, if_pos k, List.getElem?_append_left (by omega)]
  · rw [if_neg k, if_neg k]
theorem sl_right {xs ys : List α} {a b : Nat} (h : xs.length ≤ a) : sl (xs ++ ys) a b = sl ys (a - xs.length) (b - xs.length) := by
  apply List.ext_getElem?
  intro i
  rw [sl_get, sl_get]
  by_cases k : i < b - a
  · rw [if_pos k, if_pos (by omega), List.getElem?_append_right (by omega), show a + i - xs.length = a - xs.length + i by omega]
  · rw [if_neg k, if_neg (by omega)]
/-! ### a list so many times -/
def rpt (n : Nat) (xs : List α) : List α := (List.replicate n xs).flatten
theorem rpt_zero {xs : List α} : rpt 0 xs = [] := rfl
theorem rpt_succ {n : Nat} {xs : List α} : rpt (n + 1) xs = xs ++ rpt n xs := by
  unfold rpt; rw [List.replicate_succ, List.flatten_cons]
theorem rpt_one {xs : List α} : rpt 1 xs = xs := by rw [rpt_succ, rpt_zero, List.append_nil]
theorem rpt_nil {n : Nat} : rpt n ([] : List α) = [] := by
  induction n with
  | zero => rfl
  | succ n ih => rw [rpt_succ, ih]; rfl
theorem rpt_len {n : Nat} {xs : List α} : (rpt n xs).length = n * xs.length := by
  induction n with
  | zero => rw [rpt_zero, Nat.zero_mul]; rfl
  | succ n ih => rw [rpt_succ, List.length_append, ih, Nat.succ_mul, Nat.add_comm]
theorem rpt_add {n m : Nat} {xs : List α} : rpt (n + m) xs = rpt n xs ++ rpt m xs := by
  induction n with
  | zero => rw [Nat.zero_add, rpt_zero, List.nil_append]
  | succ n ih => rw [Nat.succ_add, rpt_succ, ih, rpt_succ, List.append_assoc]
theorem rpt_rpt {n m : Nat} {xs : List α} : rpt n (rpt m xs) = rpt (n * m) xs := by
  induction n with
  | zero => rw [Nat.zero_mul]; rfl
  | succ n ih => rw [rpt_succ, ih, Nat.succ_mul, Nat.add_comm, rpt_add]
theorem rpt_get {n : Nat} {xs : List α} {i : Nat} (h : i < n * xs.length) : (rpt n xs)[i]? = xs[i % xs.length]? := by
  induction n generalizing i with
  | zero => rw [Nat.zero_mul] at h; omega
  | succ n ih =>
    rw [rpt_succ]
    by_cases c : i < xs.length
    · rw [List.getElem?_append_left c, Nat.mod_eq_of_lt c]
    · rw [List.getElem?_append_right (by omega), ih (by rw [Nat.succ_mul] at h; omega)]
      rw [← Nat.mod_eq_sub_mod (by omega)]
theorem rpt_app_left {n m : Nat} {xs : List α} {a b : Nat} (h : b ≤ n * xs.length) (le : n ≤ m) : sl (rpt m xs) a b = sl (rpt n xs) a b := by
  obtain ⟨k, rfl⟩ := Nat.exists_eq_add_of_le le
  rw [rpt_add, sl_left (by rw [rpt_len]; exact h)]
/-- a stretch that begins in round k -/
theorem rpt_from {n k : Nat} {xs : List α} {a b : Nat} (hk : k ≤ n) (h : k * xs.length ≤ a) : sl (rpt n xs) a b = sl (rpt (n - k) xs) (a - k * xs.length) (b - k * xs.length) := by
  obtain ⟨m, rfl⟩ := Nat.exists_eq_add_of_le hk
  rw [rpt_add, sl_right (by rw [rpt_len]; exact h), rpt_len, Nat.add_sub_cancel_left]
/-- within one round -/
theorem rpt_in {n k : Nat} {xs : List α} {a b : Nat} (hk : k < n) (h : k * xs.length ≤ a) (h2 : b ≤ k * xs.length + xs.length) : sl (rpt n xs) a b = sl xs (a - k * xs.length) (b - k * xs.length) := by
  rw [rpt_from (Nat.le_of_lt hk) h]
  obtain ⟨m, e⟩ := Nat.exists_eq_add_of_le (show 1 ≤ n - k by omega)
  rw [e, rpt_add, rpt_one, sl_left (by omega)]
/-- whole rounds -/
theorem rpt_whole {n k m : Nat} {xs : List α} (h : k + m ≤ n) : sl (rpt n xs) (k * xs.length) ((k + m) * xs.length) = rpt m xs := by
  rw [rpt_from (by omega) (Nat.le_refl _), Nat.sub_self, show (k + m) * xs.length - k * xs.length = m * xs.length by rw [Nat.add_mul]; omega]
  obtain ⟨j, e⟩ := Nat.exists_eq_add_of_le (show m ≤ n - k by omega)
  rw [e, rpt_add, sl_left (by rw [rpt_len]; exact Nat.le_refl _), ← rpt_len, sl_all]
/-! ### rows -/
inductive Rw (α : Type) where
  | leaf (es : List α) | rep (b : Rw α) (n : Nat) | cat (ps : List (Rw α))
mutual
def den : Rw α → List α
  | .leaf es => es
  | .rep b n => rpt n (den b)
  | .cat ps => dens ps
def dens : List (Rw α) → List α
  | [] => []
  | p :: ps => den p ++ dens ps
end
def ext (r : Rw α) : Nat := (den r).length
def exts (ps : List (Rw α)) : Nat := (dens ps).length
def isCat : Rw α → Bool | .cat _ => true | _ => false
def isRep : Rw α → Bool | .rep _ _ => true | _ => false
def isLf : Rw α → Bool | .leaf _ => true | _ => false
mutual
def good : Rw α → Prop
  | .leaf _ => True
  | .rep b n => 2 ≤ n ∧ 1 ≤ ext b ∧ isRep b = false ∧ good b
  | .cat ps => 2 ≤ ps.length ∧ goods ps
def goods : List (Rw α) → Prop
  | [] => True
  | p :: ps => 1 ≤ ext p ∧ isCat p = false ∧ good p ∧ goods ps
end
mutual
def dep : Rw α → Nat
  | .leaf _ => 0
  | .rep b _ => dep b + 1
  | .cat ps => deps ps + 1
def deps : List (Rw α) → Nat
  | [] => 0
  | p :: ps => max (dep p) (deps ps)
end
/-- how deep the parts are -/
def pd : Rw α → Nat
  | .cat ps => deps ps
  | r => dep r
theorem dep_pd (r : Rw α) : dep r ≤ pd r + 1 := by cases r <;> simp [dep, pd]
theorem pd_dep (r : Rw α) : pd r ≤ dep r := by cases r <;> simp [dep, pd]
theorem pd_not {r : Rw α} (h : isCat r = false) : pd r = dep r := by cases r <;> simp_all [isCat, dep, pd]
theorem dens_app : ∀ (ps qs : List (Rw α)), dens (ps ++ qs) = dens ps ++ dens qs
  | [], qs => rfl
  | p :: ps, qs => by rw [List.cons_append, dens, dens, dens_app ps qs, List.append_assoc]
theorem exts_cons {p : Rw α} {ps : List (Rw α)} : exts (p :: ps) = ext p + exts ps := by
  unfold exts ext; rw [dens, List.length_append]
theorem exts_app {ps qs : List (Rw α)} : exts (ps ++ qs) = exts ps + exts qs := by
  unfold exts; rw [dens_app, List.length_append]
theorem goods_app : ∀ {ps qs : List (Rw α)}, goods (ps ++ qs) ↔ goods ps ∧ goods qs
  | [], qs => by rw [List.nil_append]; unfold goods; simp
  | p :: ps, qs => by
    rw [List.cons_append, goods, goods, goods_app]
    constructor
    · rintro ⟨a, b, c, d, e⟩; exact ⟨⟨a, b, c, d⟩, e⟩
    · rintro ⟨⟨a, b, c, d⟩, e⟩; exact ⟨a, b, c, d, e⟩
theorem deps_app : ∀ {ps qs : List (Rw α)}, deps (ps ++ qs) = max (deps ps) (deps qs)
  | [], qs => by rw [List.nil_append, deps, Nat.zero_max]
  | p :: ps, qs => by rw [List.cons_append, deps, deps, deps_app, Nat.max_assoc]
theorem goods_mem : ∀ {ps : List (Rw α)} {p : Rw α}, goods ps → p ∈ ps → 1 ≤ ext p ∧ isCat p = false ∧ good p
  | [], p, _, m => by cases m
  | q :: ps, p, g, m => by
    rw [goods] at g
    obtain ⟨a, b, c, d⟩ := g
    rcases List.mem_cons.mp m with rfl | m
    · exact ⟨a, b, c⟩
    · exact goods_mem d m
theorem deps_mem : ∀ {ps : List (Rw α)} {p : Rw α}, p ∈ ps → dep p ≤ deps ps
  | [], p, m => by cases m
  | q :: ps, p, m => by
    rw [deps]
    rcases List.mem_cons.mp m with rfl | m
    · exact Nat.le_max_left _ _
    · exact Nat.le_trans (deps_mem m) (Nat.le_max_right _ _)
theorem deps_le : ∀ {ps : List (Rw α)} {n : Nat}, (∀ p ∈ ps, dep p ≤ n) → deps ps ≤ n
  | [], n, _ => Nat.zero_le _
  | p :: ps, n, h => by
    rw [deps]
    exact Nat.max_le.mpr ⟨h p (List.mem_cons_self ..), deps_le fun q m => h q (List.mem_cons_of_mem _ m)⟩
theorem goods_len : ∀ {ps : List (Rw α)}, goods ps → ps.length ≤ exts ps
  | [], _ => Nat.zero_le _
  | p :: ps, g => by
    rw [goods] at g
    have := goods_len g.2.2.2
    rw [exts_cons, List.length_cons]
    omega
def partsOf : Rw α → List (Rw α)
  | .cat ps => ps
  | r => [r]
theorem den_parts (r : Rw α) : dens (partsOf r) = den r := by
  cases r <;> simp [partsOf, dens, den]
theorem pd_parts (r : Rw α) : deps (partsOf r) = pd r := by
  cases r <;> simp [partsOf, deps, pd]
theorem parts_pos {r : Rw α} (g : good r) : 1 ≤ (partsOf r).length := by
  cases r with
  | cat ps => rw [good] at g; show 1 ≤ ps.length; omega
  | _ => exact Nat.le_refl _
theorem goods_parts {r : Rw α} (g : good r) (h : 1 ≤ ext r) : goods (partsOf r) := by
  cases r with
  | cat ps => rw [good] at g; exact g.2
  | leaf es => show goods [_]; rw [goods]; exact ⟨h, rfl, g, by rw [goods]; trivial⟩
  | rep b n => show goods [_]; rw [goods]; exact ⟨h, rfl, g, by rw [goods]; trivial⟩
/-! ### what the makers make -/
def joinR (a b : Rw α) : Rw α := if ext a = 0 then b else if ext b = 0 then a else .cat (partsOf a ++ partsOf b)
theorem ext_nil {r : Rw α} (h : ext r = 0) : den r = [] := List.length_eq_zero_iff.mp h
theorem joinR_den {a b : Rw α} : den (joinR a b) = den a ++ den b := by
  unfold joinR
  split
  · rename_i h; rw [ext_nil h, List.nil_append]
  · split
    · rename_i h; rw [ext_nil h, List.append_nil]
    · rw [den, dens_app, den_parts, den_parts]
theorem joinR_good {a b : Rw α} (ga : good a) (gb : good b) : good (joinR a b) := by
  unfold joinR
  split
  · exact gb
  · split
    · exact ga
    · rw [good]
      have := parts_pos ga
      have := parts_pos gb
      exact ⟨by rw [List.length_append]; omega, goods_app.mpr ⟨goods_parts ga (by omega), goods_parts gb (by omega)⟩⟩
theorem joinR_pd {a b : Rw α} : pd (joinR a b) ≤ max (pd a) (pd b) := by
  unfold joinR
  split
  · exact Nat.le_max_right _ _
  · split
    · exact Nat.le_max_left _ _
    · show deps _ ≤ _
      rw [deps_app, pd_parts, pd_parts]
      exact Nat.le_refl _
def repR (r : Rw α) (n : Nat) : Rw α := if n = 0 ∨ ext r = 0 then .leaf [] else if n = 1 then r else match r with
  | .rep b m => .rep b (m * n)
  | r => .rep r n
theorem repR_den {r : Rw α} {n : Nat} : den (repR r n) = rpt n (den r) := by
  unfold repR
  split
  · rename_i h
    rcases h with rfl | h
    · rfl
    · rw [ext_nil h, rpt_nil]; rfl
  · split
    · rename_i h; rw [h, rpt_one]
    · split
      · rw [den, den, rpt_rpt, Nat.mul_comm]
      · rw [den]
theorem repR_good {r : Rw α} {n : Nat} (g : good r) : good (repR r n) := by
  unfold repR
  split
  · trivial
  · rename_i h
    split
    · exact g
    · split
      · rename_i b m
        rw [good] at g ⊢
        refine ⟨?_, g.2⟩
        have h1 := g.1
        calc 2 ≤ m := h1
          _ = m * 1 := (Nat.mul_one m).symm
          _ ≤ m * n := Nat.mul_le_mul_left m (by omega)
      · rename_i q
        rw [good]
        refine ⟨by omega, by omega, ?_, g⟩
        cases r with
        | rep b m => exact (q b m rfl).elim
        | _ => rfl
theorem repR_dep {r : Rw α} {n : Nat} : dep (repR r n) ≤ dep r + 1 := by
  unfold repR
  split
  · exact Nat.zero_le _
  · split
    · omega
    · split
      · rw [dep, dep]; omega
      · rw [dep]; exact Nat.le_refl _
theorem repR_not {r : Rw α} {n : Nat} (h : isCat r = false) : pd (repR r n) ≤ dep r + 1 := Nat.le_trans (pd_dep _) repR_dep
/-! ### where parts begin -/
def begs : Nat → List (Rw α) → List Nat
  | _, [] => []
  | s, p :: ps => s :: begs (s + ext p) ps
theorem begs_len : ∀ (s : Nat) (ps : List (Rw α)), (begs s ps).length = ps.length
  | _, [] => rfl
  | s, p :: ps => by rw [begs, List.length_cons, begs_len, List.length_cons]
theorem begs_get : ∀ (s : Nat) (ps : List (Rw α)) (i : Nat), i < ps.length → (begs s ps)[i]? = some (s + exts (ps.take i))
  | _, [], i, h => by simp at h
  | s, p :: ps, 0, h => by rw [begs]; rfl
  | s, p :: ps, i + 1, h => by
    rw [begs, List.getElem?_cons_succ, begs_get _ ps i (by simpa using h), List.take_succ_cons, exts_cons, Nat.add_assoc]
theorem begs_app : ∀ (s : Nat) (ps qs : List (Rw α)), begs s (ps ++ qs) = begs s ps ++ begs (s + exts ps) qs
  | s, [], qs => rfl
  | s, p :: ps, qs => by rw [List.cons_append, begs, begs, begs_app, List.cons_append, exts_cons, Nat.add_assoc]
theorem begs_shift : ∀ (s t : Nat) (ps : List (Rw α)), begs (s + t) ps = (begs t ps).map (s + ·)
  | s, t, [] => rfl
  | s, t, p :: ps => by rw [begs, begs, List.map_cons, Nat.add_assoc, begs_shift]
/-- the parts up to the place i and the one there -/
theorem take_at : ∀ {ps : List (Rw α)} {i : Nat} {p : Rw α}, ps[i]? = some p → ps = ps.take i ++ p :: ps.drop (i + 1)
  | [], i, p, h => by simp at h
  | q :: ps, 0, p, h => by simp at h; subst h; rfl
  | q :: ps, i + 1, p, h => by
    rw [List.take_succ_cons, List.drop_succ_cons, List.cons_append, ← take_at (by simpa using h)]
theorem exts_at {ps : List (Rw α)} {i : Nat} {p : Rw α} (h : ps[i]? = some p) : exts (ps.take (i + 1)) = exts (ps.take i) + ext p := by
  rw [List.take_add_one, h, exts_app]
  show _ + exts [p] = _
  rw [exts_cons]
  rfl
theorem exts_mono {ps : List (Rw α)} {i j : Nat} (h : i ≤ j) : exts (ps.take i) ≤ exts (ps.take j) := by
  obtain ⟨k, rfl⟩ := Nat.exists_eq_add_of_le h
  rw [List.take_add, exts_app]
  omega
/-- a stretch within one part -/
theorem cat_in {ps : List (Rw α)} {i : Nat} {p : Rw α} {a b : Nat} (h : ps[i]? = some p) (h1 : exts (ps.take i) ≤ a) (h2 : b ≤ exts (ps.take i) + ext p) : sl (dens ps) a b = sl (den p) (a - exts (ps.take i)) (b - exts (ps.take i)) := by
  have e := congrArg (fun z => sl (dens z) a b) (take_at h)
  rw [e, dens_app, dens, sl_right (by exact h1), sl_left (by show b - exts (ps.take i) ≤ ext p; omega)]
  rfl
/-- whole parts -/
theorem cat_whole {ps : List (Rw α)} {i j : Nat} (h : i ≤ j) (hj : j ≤ ps.length) : sl (dens ps) (exts (ps.take i)) (exts (ps.take j)) = dens ((ps.take j).drop i) := by
  have e1 : ps = ps.take j ++ ps.drop j := (List.take_append_drop j ps).symm
  have e2 : ps.take j = ps.take i ++ (ps.take j).drop i := by
    have := (List.take_append_drop i (ps.take j)).symm
    rw [List.take_take, Nat.min_eq_left h] at this
    exact this
  have e := congrArg (fun z => sl (dens z) (exts (ps.take i)) (exts (ps.take j))) e1
  rw [e, dens_app, sl_left (by exact Nat.le_refl _)]
  have e3 := congrArg (fun z => sl (dens z) (exts (ps.take i)) (exts (ps.take j))) e2
  rw [e3, dens_app, sl_right (by exact Nat.le_refl _)]
  show sl _ (exts (ps.take i) - exts (ps.take i)) (exts (ps.take j) - exts (ps.take i)) = _
  rw [Nat.sub_self]
  have e4 : exts (ps.take j) - exts (ps.take i) = (dens ((ps.take j).drop i)).length := by
    have := congrArg exts e2
    rw [exts_app] at this
    show _ = exts _
    omega
  rw [e4, sl_all]
end W1

/-! Moves, pure: worlds of objects and pools (streams of addresses), stretches of steps, origins, shortest forms. -/
set_option linter.all false
namespace V1
inductive Pl where
  | obj (i : Nat) | pool (s k : Nat)
deriving DecidableEq
inductive St where
  | make (s : Nat) | free (i : Nat) | leave (i : Nat)
deriving DecidableEq
theorem erase_map {α β : Type} {g : α → β} : ∀ {xs : List α} {i : Nat}, (xs.map g).eraseIdx i = (xs.eraseIdx i).map g
  | [], _ => rfl
  | _ :: _, 0 => rfl
  | x :: xs, i + 1 => congrArg (g x :: ·) (erase_map (xs := xs) (i := i))
structure Wd where
  objs : List (Pl × Nat)
  pool : Nat → Nat → Pl
def putP (p : Nat → Nat → Pl) (s : Nat) (r : Nat → Pl) : Nat → Nat → Pl := fun t => if t = s then r else p t
def popS (r : Nat → Pl) : Nat → Pl := fun k => r (k + 1)
def pushS (x : Pl) (r : Nat → Pl) : Nat → Pl := fun k => match k with | 0 => x | k + 1 => r k
def step (w : Wd) : St → Option Wd
  | .make s => some ⟨w.objs ++ [(w.pool s 0, s)], putP w.pool s (popS (w.pool s))⟩
  | .free i => (w.objs[i]?).map fun x => ⟨w.objs.eraseIdx i, putP w.pool x.2 (pushS x.1 (w.pool x.2))⟩
  | .leave i => (w.objs[i]?).map fun _ => ⟨w.objs.eraseIdx i, w.pool⟩
def play : Wd → List St → Option Wd
  | w, [] => some w
  | w, t :: ts => (step w t).bind fun w' => play w' ts
def mapW (e : Pl → Pl) (w : Wd) : Wd := ⟨w.objs.map fun x => (e x.1, x.2), fun s k => e (w.pool s k)⟩
theorem putP_map {e : Pl → Pl} {p : Nat → Nat → Pl} {s : Nat} {r : Nat → Pl} : putP (fun s k => e (p s k)) s (fun k => e (r k)) = fun t k => e (putP p s r t k) := by
  funext t k
  unfold putP
  by_cases c : t = s
  · rw [if_pos c, if_pos c]
  · rw [if_neg c, if_neg c]
theorem pushS_map {e : Pl → Pl} {x : Pl} {r : Nat → Pl} : pushS (e x) (fun k => e (r k)) = fun k => e (pushS x r k) := by
  funext k
  cases k <;> rfl
theorem step_map {e : Pl → Pl} {w : Wd} : ∀ t, step (mapW e w) t = (step w t).map (mapW e)
  | .make s => by
    show some (Wd.mk _ _) = some (mapW e (Wd.mk _ _))
    unfold mapW
    simp only [List.map_append, List.map_cons, List.map_nil]
    congr 2
    exact putP_map (r := popS (w.pool s))
  | .free i => by
    show ((mapW e w).objs[i]?).map _ = ((w.objs[i]?).map _).map _
    unfold mapW
    simp only [List.getElem?_map, Option.map_map]
    cases w.objs[i]? with
    | none => rfl
    | some x =>
      simp only [Option.map_some, Function.comp]
      congr 2
      · exact erase_map
      · rw [pushS_map]
        exact putP_map
  | .leave i => by
    show ((mapW e w).objs[i]?).map _ = ((w.objs[i]?).map _).map _
    unfold mapW
    simp only [List.getElem?_map, Option.map_map]
    cases w.objs[i]? with
    | none => rfl
    | some x =>
      simp only [Option.map_some, Function.comp]
      congr 2
      exact erase_map
theorem play_map {e : Pl → Pl} : ∀ (ts : List St) (w : Wd), play (mapW e w) ts = (play w ts).map (mapW e)
  | [], _ => rfl
  | t :: ts, w => by
    unfold play
    rw [step_map]
    cases step w t with
    | none => rfl
    | some w' => exact play_map ts w'
/-- where all is at its own place -/
def ident (zs : List Nat) : Wd := ⟨(List.range zs.length).zipWith (fun i s => (.obj i, s)) zs, fun s k => .pool s k⟩
def sizes (w : Wd) : List Nat := w.objs.map (·.2)
/-- the origin of a place -/
def org (w : Wd) : Pl → Pl
  | .obj i => ((w.objs[i]?).map (·.1)).getD (.obj i)
  | .pool s k => w.pool s k
/-- the ends of a world of n objects -/
def End (n : Nat) : Pl → Prop
  | .obj i => i < n
  | .pool _ _ => True
theorem ident_get {zs : List Nat} {i : Nat} : (ident zs).objs[i]? = (zs[i]?).map fun s => (.obj i, s) := by
  unfold ident
  simp only [List.getElem?_zipWith, List.getElem?_range']
  by_cases c : i < zs.length
  · rw [List.getElem?_range c, List.getElem?_eq_getElem c]
    rfl
  · rw [List.getElem?_eq_none (l := zs) (by omega)]
    cases (List.range zs.length)[i]? <;> rfl
theorem map_ident {w : Wd} : mapW (org w) (ident (sizes w)) = w := by
  have h : (mapW (org w) (ident (sizes w))).objs = w.objs := by
    apply List.ext_getElem?
    intro i
    unfold mapW
    simp only [List.getElem?_map]
    rw [ident_get]
    unfold sizes
    rw [List.getElem?_map]
    cases h : w.objs[i]? with
    | none => rfl
    | some x =>
      show some (org w (.obj i), x.2) = some x
      show some (((w.objs[i]?).map (·.1)).getD (.obj i), x.2) = some x
      rw [h]
      rfl
  cases w with
  | mk o p =>
    unfold mapW at h ⊢
    simp only at h
    rw [h]
    rfl
/-- a stretch, from any world: the stretch by itself, then where the world has it -/
theorem play_org {w : Wd} {ts : List St} : play w ts = (play (ident (sizes w)) ts).map (mapW (org w)) := by
  rw [← play_map, map_ident]
theorem org_map {e : Pl → Pl} {w : Wd} {p : Pl} (h : End w.objs.length p) : org (mapW e w) p = e (org w p) := by
  cases p with
  | pool s k => rfl
  | obj i =>
    have h : i < w.objs.length := h
    unfold org mapW
    simp only [List.getElem?_map]
    rw [List.getElem?_eq_getElem h]
    rfl
/-! ### worlds in which every address is at one place, and the pools go on in turn -/
structure Ok (n : Nat) (w : Wd) : Prop where
  inj : ∀ p q, End w.objs.length p → End w.objs.length q → org w p = org w q → p = q
  dom : ∀ p, End w.objs.length p → End n (org w p)
  tail : ∀ s, ∃ m f, ∀ k, m ≤ k → w.pool s k = .pool s (f + (k - m))
theorem ok_ident {zs : List Nat} : Ok zs.length (ident zs) := by
  have len : (ident zs).objs.length = zs.length := by
    unfold ident
    simp
  have oi : ∀ p, End zs.length p → org (ident zs) p = p := fun p h => by
    cases p with
    | pool s k => rfl
    | obj i =>
      have h : i < zs.length := h
      show (((ident zs).objs[i]?).map (·.1)).getD (.obj i) = _
      rw [ident_get, List.getElem?_eq_getElem h]
      rfl
  refine ⟨fun p q hp hq e => ?_, fun p hp => ?_, fun s => ⟨0, 0, fun k _ => by show Pl.pool s k = _; congr 1; omega⟩⟩
  · rw [len] at hp hq
    rw [oi p hp, oi q hq] at e
    exact e
  · rw [len] at hp
    rw [oi p hp]
    exact hp
end V1

set_option linter.all false
namespace V1
theorem Ok.via {n : Nat} {w w' : Wd} (o : Ok n w) (σ : Pl → Pl) (h : ∀ p, End w'.objs.length p → End w.objs.length (σ p) ∧ org w' p = org w (σ p)) (i : ∀ p q, End w'.objs.length p → End w'.objs.length q → σ p = σ q → p = q)
    (t : ∀ s, ∃ m f, ∀ k, m ≤ k → w'.pool s k = .pool s (f + (k - m))) : Ok n w' :=
  ⟨fun p q hp hq e => i p q hp hq (o.inj _ _ (h p hp).1 (h q hq).1 (by rw [← (h p hp).2, ← (h q hq).2]; exact e)), fun p hp => by rw [(h p hp).2]; exact o.dom _ (h p hp).1, t⟩
theorem org_obj {w : Wd} {i : Nat} {x : Pl × Nat} (h : w.objs[i]? = some x) : org w (.obj i) = x.1 := by
  show ((w.objs[i]?).map (·.1)).getD (.obj i) = _
  rw [h]
  rfl
theorem erase_get {α : Type} {xs : List α} {i j : Nat} : (xs.eraseIdx i)[j]? = if j < i then xs[j]? else xs[j + 1]? := by
  rw [List.getElem?_eraseIdx]
/-- the place a place of the world without object i had -/
def skip (i j : Nat) : Nat := if j < i then j else j + 1
theorem skip_inj {i j k : Nat} (h : skip i j = skip i k) : j = k := by
  unfold skip at h
  split at h <;> split at h <;> omega
theorem skip_ne {i j : Nat} : skip i j ≠ i := by
  unfold skip
  split <;> omega
theorem ok_step {n : Nat} {w w' : Wd} (o : Ok n w) : ∀ {t : St}, step w t = some w' → Ok n w'
  | .make s, e => by
    cases Option.some.inj (show some (Wd.mk (w.objs ++ [(w.pool s 0, s)]) (putP w.pool s (popS (w.pool s)))) = some w' from e)
    have len : (w.objs ++ [(w.pool s 0, s)]).length = w.objs.length + 1 := by rw [List.length_append]; rfl
    refine o.via (fun p => match p with | .obj i => if i < w.objs.length then .obj i else .pool s 0 | .pool t k => if t = s then .pool t (k + 1) else .pool t k) (fun p hp => ?_) (fun p q hp hq e => ?_) (fun t => ?_)
    · cases p with
      | obj i =>
        have hp : i < (w.objs ++ [(w.pool s 0, s)]).length := hp
        by_cases c : i < w.objs.length
        · refine ⟨by dsimp only; rw [if_pos c]; exact c, ?_⟩
          dsimp only
          rw [if_pos c]
          have g : (w.objs ++ [(w.pool s 0, s)])[i]? = some w.objs[i] := by rw [List.getElem?_append_left c, List.getElem?_eq_getElem c]
          rw [org_obj g, org_obj (List.getElem?_eq_getElem c)]
        · have ei : i = w.objs.length := by omega
          refine ⟨by dsimp only; rw [if_neg c]; exact trivial, ?_⟩
          dsimp only
          rw [if_neg c]
          have g : (w.objs ++ [(w.pool s 0, s)])[i]? = some (w.pool s 0, s) := by rw [ei, List.getElem?_append_right (Nat.le_refl _), Nat.sub_self]; rfl
          rw [org_obj g]
          rfl
      | pool t k =>
        refine ⟨by dsimp only; split <;> exact trivial, ?_⟩
        dsimp only
        by_cases c : t = s
        · subst c
          rw [if_pos rfl]
          show putP w.pool t _ t k = w.pool t (k + 1)
          unfold putP
          rw [if_pos rfl]
          rfl
        · rw [if_neg c]
          show putP w.pool s _ t k = w.pool t k
          unfold putP
          rw [if_neg c]
    · cases p with
      | obj i =>
        have hp : i < (w.objs ++ [(w.pool s 0, s)]).length := hp
        cases q with
        | obj j =>
          have hq : j < (w.objs ++ [(w.pool s 0, s)]).length := hq
          dsimp only at e
          split at e <;> split at e
          · exact e
          · cases e
          · cases e
          · congr 1; omega
        | pool t k =>
          dsimp only at e
          split at e <;> split at e <;> first | (cases e; done) | (cases e; omega)
      | pool t k =>
        cases q with
        | obj j =>
          dsimp only at e
          split at e <;> split at e <;> first | (cases e; done) | (cases e; omega)
        | pool u l =>
          dsimp only at e
          split at e <;> split at e
          · injection e with e1 e2
            congr 1
            omega
          · injection e with e1 e2
            omega
          · injection e with e1 e2
            omega
          · exact e
    · obtain ⟨m, f, h⟩ := o.tail t
      by_cases c : t = s
      · refine ⟨m, f + 1, fun k hk => ?_⟩
        show putP w.pool s _ t k = _
        unfold putP
        rw [if_pos c]
        show w.pool s (k + 1) = _
        rw [← c, h (k + 1) (by omega)]
        congr 1
        omega
      · refine ⟨m, f, fun k hk => ?_⟩
        show putP w.pool s _ t k = _
        unfold putP
        rw [if_neg c]
        exact h k hk
  | .free i, e => by
    obtain ⟨x, hx, rfl⟩ := Option.map_eq_some_iff.mp (show (w.objs[i]?).map _ = some w' from e)
    have hi : i < w.objs.length := (List.getElem?_eq_some_iff.mp hx).1
    have len : (w.objs.eraseIdx i).length = w.objs.length - 1 := by rw [List.length_eraseIdx, if_pos hi]
    refine o.via (fun p => match p with | .obj j => .obj (skip i j) | .pool t 0 => if t = x.2 then .obj i else .pool t 0 | .pool t (k + 1) => if t = x.2 then .pool t k else .pool t (k + 1)) (fun p hp => ?_) (fun p q hp hq e => ?_) (fun t => ?_)
    · cases p with
      | obj j =>
        have hp : j < (w.objs.eraseIdx i).length := hp
        have sk : skip i j < w.objs.length := by unfold skip; split <;> omega
        refine ⟨sk, ?_⟩
        have g : (w.objs.eraseIdx i)[j]? = some w.objs[skip i j] := by
          rw [erase_get, ← List.getElem?_eq_getElem sk]
          unfold skip
          split <;> rfl
        rw [org_obj g, org_obj (List.getElem?_eq_getElem sk)]
      | pool t k =>
        by_cases c : t = x.2
        · cases k with
          | zero =>
            dsimp only
            rw [if_pos c]
            refine ⟨hi, ?_⟩
            rw [org_obj hx]
            show putP w.pool x.2 _ t 0 = _
            unfold putP
            rw [if_pos c]
            rfl
          | succ k =>
            dsimp only
            rw [if_pos c]
            refine ⟨trivial, ?_⟩
            show putP w.pool x.2 _ t (k + 1) = w.pool t k
            unfold putP
            rw [if_pos c, c]
            rfl
        · have e0 : putP w.pool x.2 (pushS x.1 (w.pool x.2)) t k = w.pool t k := by
            unfold putP
            rw [if_neg c]
          cases k with
          | zero =>
            dsimp only
            rw [if_neg c]
            exact ⟨trivial, e0⟩
          | succ k =>
            dsimp only
            rw [if_neg c]
            exact ⟨trivial, e0⟩
    · cases p with
      | obj j =>
        cases q with
        | obj l => injection e with e; rw [skip_inj e]
        | pool t k =>
          cases k with
          | zero =>
            dsimp only at e
            split at e
            · injection e with e
              exact (skip_ne e).elim
            · cases e
          | succ k =>
            dsimp only at e
            split at e <;> cases e
      | pool t k =>
        cases q with
        | obj l =>
          cases k with
          | zero =>
            dsimp only at e
            split at e
            · injection e with e
              exact (skip_ne e.symm).elim
            · cases e
          | succ k =>
            dsimp only at e
            split at e <;> cases e
        | pool u l =>
          cases k <;> cases l <;> dsimp only at e <;> split at e <;> split at e <;> first | cases e | skip
          all_goals first
            | rfl
            | (congr 1; omega)
            | (injection e with e1 e2; congr 1 <;> omega)
    · obtain ⟨m, f, h⟩ := o.tail t
      by_cases c : t = x.2
      · refine ⟨m + 1, f, fun k hk => ?_⟩
        show putP w.pool x.2 _ t k = _
        unfold putP
        rw [if_pos c]
        obtain ⟨k, rfl⟩ : ∃ j, k = j + 1 := ⟨k - 1, by omega⟩
        show w.pool x.2 k = _
        rw [← c, h k (by omega)]
        congr 1
        omega
      · refine ⟨m, f, fun k hk => ?_⟩
        show putP w.pool x.2 _ t k = _
        unfold putP
        rw [if_neg c]
        exact h k hk
  | .leave i, e => by
    obtain ⟨x, hx, rfl⟩ := Option.map_eq_some_iff.mp (show (w.objs[i]?).map _ = some w' from e)
    have hi : i < w.objs.length := (List.getElem?_eq_some_iff.mp hx).1
    have len : (w.objs.eraseIdx i).length = w.objs.length - 1 := by rw [List.length_eraseIdx, if_pos hi]
    refine o.via (fun p => match p with | .obj j => .obj (skip i j) | .pool t k => .pool t k) (fun p hp => ?_) (fun p q hp hq e => ?_) o.tail
    · cases p with
      | obj j =>
        have hp : j < (w.objs.eraseIdx i).length := hp
        have sk : skip i j < w.objs.length := by unfold skip; split <;> omega
        refine ⟨sk, ?_⟩
        have g : (w.objs.eraseIdx i)[j]? = some w.objs[skip i j] := by
          rw [erase_get, ← List.getElem?_eq_getElem sk]
          unfold skip
          split <;> rfl
        rw [org_obj g, org_obj (List.getElem?_eq_getElem sk)]
      | pool t k => exact ⟨trivial, rfl⟩
    · cases p with
      | obj j =>
        cases q with
        | obj l => injection e with e; rw [skip_inj e]
        | pool t k => cases e
      | pool t k =>
        cases q with
        | obj l => cases e
        | pool u l => exact e
theorem ok_play {n : Nat} : ∀ {ts : List St} {w w' : Wd}, Ok n w → play w ts = some w' → Ok n w'
  | [], _, _, o, e => by cases e; exact o
  | t :: ts, w, w', o, e => by
    unfold play at e
    cases h : step w t with
    | none => rw [h] at e; cases e
    | some w1 => rw [h] at e; exact ok_play (ok_step o h) e
end V1

set_option linter.all false
namespace V1
/-! ### shortest forms -/
/-- the heads of a function of n objects, as short as may be -/
structure CanH (n : Nat) (g : Nat → Pl) (h : List Pl) : Prop where
  le : h.length ≤ n
  at_ : ∀ i, i < h.length → h[i]? = some (g i)
  rest : ∀ i, h.length ≤ i → i < n → g i = .obj i
  last : ∀ m, h.length = m + 1 → g m ≠ .obj m
theorem CanH.uniq {n : Nat} {g : Nat → Pl} {h h' : List Pl} (a : CanH n g h) (b : CanH n g h') : h = h' := by
  have len : h.length = h'.length := by
    by_cases c : h.length < h'.length
    · obtain ⟨m, hm⟩ : ∃ m, h'.length = m + 1 := ⟨h'.length - 1, by omega⟩
      exact (b.last m hm (a.rest m (by omega) (by have := b.le; omega))).elim
    · by_cases c' : h'.length < h.length
      · obtain ⟨m, hm⟩ : ∃ m, h.length = m + 1 := ⟨h.length - 1, by omega⟩
        exact (a.last m hm (b.rest m (by omega) (by have := a.le; omega))).elim
      · omega
  apply List.ext_getElem?
  intro i
  by_cases c : i < h.length
  · rw [a.at_ i c, b.at_ i (by omega)]
  · rw [List.getElem?_eq_none (by omega), List.getElem?_eq_none (by omega)]
/-- the front of a pool and its first fresh number, as short as may be -/
structure CanF (s : Nat) (g : Nat → Pl) (h : List Pl) (f : Nat) : Prop where
  at_ : ∀ i, i < h.length → h[i]? = some (g i)
  rest : ∀ i, h.length ≤ i → g i = .pool s (f + (i - h.length))
  last : ∀ m, h.length = m + 1 → f = 0 ∨ g m ≠ .pool s (f - 1)
theorem canF_le {s : Nat} {g : Nat → Pl} {h h' : List Pl} {f f' : Nat} (a : CanF s g h f) (b : CanF s g h' f') : h'.length ≤ h.length := by
  by_cases c : h.length < h'.length
  · obtain ⟨m, hm⟩ : ∃ m, h'.length = m + 1 := ⟨h'.length - 1, by omega⟩
    have e1 := a.rest m (by omega)
    have e2 := a.rest (m + 1) (by omega)
    have e3 := b.rest (m + 1) (by omega)
    rw [e2] at e3
    injection e3 with _ e4
    rcases b.last m hm with z | z
    · omega
    · exact (z (by rw [e1]; congr 1; omega)).elim
  · omega
theorem CanF.uniq {s : Nat} {g : Nat → Pl} {h h' : List Pl} {f f' : Nat} (a : CanF s g h f) (b : CanF s g h' f') : h = h' ∧ f = f' := by
  have len : h.length = h'.length := Nat.le_antisymm (canF_le b a) (canF_le a b)
  have ef : f = f' := by
    have e1 := a.rest h.length (Nat.le_refl _)
    have e2 := b.rest h.length (by omega)
    rw [e1] at e2
    injection e2 with _ e3
    omega
  refine ⟨?_, ef⟩
  apply List.ext_getElem?
  intro i
  by_cases c : i < h.length
  · rw [a.at_ i c, b.at_ i (by omega)]
  · rw [List.getElem?_eq_none (by omega), List.getElem?_eq_none (by omega)]
/-- the stripping of heads, as the program does it: from any list that tells the function -/
def stripH : List Pl → Nat → Nat
  | h, 0 => 0
  | h, m + 1 => if h[m]? = some (.obj m) then stripH h m else m + 1
theorem stripH_le {h : List Pl} : ∀ {m : Nat}, stripH h m ≤ m
  | 0 => Nat.le_refl _
  | m + 1 => by
    unfold stripH
    split
    · exact Nat.le_succ_of_le stripH_le
    · exact Nat.le_refl _
theorem stripH_can {n : Nat} {g : Nat → Pl} {h : List Pl} (le : h.length ≤ n) (at_ : ∀ i, i < h.length → h[i]? = some (g i)) : ∀ (m : Nat), m ≤ h.length → (∀ i, m ≤ i → i < n → g i = .obj i) → CanH n g (h.take (stripH h m))
  | 0, _, rest => by
    unfold stripH
    exact ⟨Nat.zero_le _, fun i hi => (by cases hi), fun i _ hi => rest i (Nat.zero_le _) hi, fun m hm => (by cases hm)⟩
  | m + 1, hm, rest => by
    unfold stripH
    by_cases c : h[m]? = some (.obj m)
    · rw [if_pos c]
      refine stripH_can le at_ m (by omega) fun i h1 h2 => ?_
      by_cases e : i = m
      · have := at_ m (by omega)
        rw [c] at this
        rw [e]
        exact (Option.some.inj this).symm
      · exact rest i (by omega) h2
    · rw [if_neg c]
      have tl : (h.take (m + 1)).length = m + 1 := by rw [List.length_take]; omega
      refine ⟨by rw [tl]; omega, fun i hi => ?_, fun i h1 h2 => rest i (by omega) h2, fun k hk => ?_⟩
      · rw [tl] at hi
        rw [List.getElem?_take, if_pos hi]
        exact at_ i (by omega)
      · have : k = m := by omega
        rw [this]
        intro z
        exact c (by rw [at_ m (by omega), z])
/-- the stripping of a front -/
def stripF (s : Nat) : List Pl → Nat → Nat → Nat × Nat
  | h, 0, f => (0, f)
  | h, m + 1, f => if f ≠ 0 ∧ h[m]? = some (.pool s (f - 1)) then stripF s h m (f - 1) else (m + 1, f)
theorem stripF_can {s : Nat} {g : Nat → Pl} {h : List Pl} (at_ : ∀ i, i < h.length → h[i]? = some (g i)) : ∀ (m f : Nat), m ≤ h.length → (∀ i, m ≤ i → g i = .pool s (f + (i - m))) → CanF s g (h.take (stripF s h m f).1) (stripF s h m f).2
  | 0, f, _, rest => by
    unfold stripF
    exact ⟨fun i hi => (by cases hi), fun i _ => rest i (Nat.zero_le _), fun m hm => (by cases hm)⟩
  | m + 1, f, hm, rest => by
    unfold stripF
    by_cases c : f ≠ 0 ∧ h[m]? = some (.pool s (f - 1))
    · rw [if_pos c]
      refine stripF_can at_ m (f - 1) (by omega) fun i h1 => ?_
      by_cases e : i = m
      · have := at_ m (by omega)
        rw [c.2] at this
        rw [e, ← Option.some.inj this]
        congr 1
        omega
      · rw [rest i (by omega)]
        congr 1
        omega
    · rw [if_neg c]
      have tl : (h.take (m + 1)).length = m + 1 := by rw [List.length_take]; omega
      refine ⟨fun i hi => ?_, fun i h1 => ?_, fun k hk => ?_⟩
      · rw [tl] at hi
        rw [List.getElem?_take, if_pos hi]
        exact at_ i (by omega)
      · rw [tl] at h1 ⊢
        exact rest i h1
      · have hk : (h.take (m + 1)).length = k + 1 := hk
        have ek : k = m := by omega
        rw [ek]
        by_cases f0 : f = 0
        · exact .inl f0
        · refine .inr fun z => c ⟨f0, ?_⟩
          rw [at_ m (by omega), z]
/-! ### one stretch behind another -/
theorem two_stretches {w w1 a : Wd} {ts us : List St} (h1 : play w ts = some w1) (h2 : play (ident (sizes w1)) us = some a) : ∃ w2, play w (ts ++ us) = some w2 ∧ w2.objs.length = a.objs.length ∧ ∀ p, End a.objs.length p → org w2 p = org w1 (org a p) := by
  have app : ∀ (ts : List St) (w : Wd), play w (ts ++ us) = (play w ts).bind fun w' => play w' us := by
    intro ts
    induction ts with
    | nil => intro w; rfl
    | cons t ts ih =>
      intro w
      show (step w t).bind (fun w' => play w' (ts ++ us)) = ((step w t).bind fun w' => play w' ts).bind fun w' => play w' us
      cases step w t with
      | none => rfl
      | some w' => exact ih w'
  refine ⟨mapW (org w1) a, ?_, ?_, fun p hp => org_map hp⟩
  · rw [app, h1]
    show play w1 us = _
    rw [play_org, h2]
    rfl
  · unfold mapW
    rw [List.length_map]
end V1

set_option linter.all false
namespace V1
/-! ### the law's worlds: rows of finitely many places -/
structure LW where
  objs : List (Pl × Nat)
  pool : Nat → List Pl
def putL (p : Nat → List Pl) (s : Nat) (r : List Pl) : Nat → List Pl := fun t => if t = s then r else p t
def lstep (l : LW) : St → Option LW
  | .make s => match l.pool s with
    | x :: r => some ⟨l.objs ++ [(x, s)], putL l.pool s r⟩
    | [] => none
  | .free i => (l.objs[i]?).map fun x => ⟨l.objs.eraseIdx i, putL l.pool x.2 (x.1 :: l.pool x.2)⟩
  | .leave i => (l.objs[i]?).map fun _ => ⟨l.objs.eraseIdx i, l.pool⟩
structure Rep (w : Wd) (l : LW) (c : Nat) : Prop where
  objs : l.objs = w.objs
  row : ∀ s k, k < (l.pool s).length → (l.pool s)[k]? = some (w.pool s k)
  tail : ∀ s, ∃ m f, (∀ k, m ≤ k → w.pool s k = .pool s (f + (k - m))) ∧ m + 60 ≤ (l.pool s).length + c
theorem rep_step {w w' : Wd} {l : LW} {c : Nat} (r : Rep w l c) (hc : c < 60) : ∀ {t : St}, step w t = some w' → ∃ l', lstep l t = some l' ∧ Rep w' l' (c + 1)
  | .make s, e => by
    cases Option.some.inj (show some (Wd.mk (w.objs ++ [(w.pool s 0, s)]) (putP w.pool s (popS (w.pool s)))) = some w' from e)
    obtain ⟨m, f, ht, hl⟩ := r.tail s
    cases q : l.pool s with
    | nil =>
      rw [q] at hl
      simp only [List.length_nil] at hl
      omega
    | cons x rs =>
      have hx : x = w.pool s 0 := by
        have := r.row s 0 (by rw [q]; exact Nat.succ_pos _)
        rw [q] at this
        exact Option.some.inj this
      refine ⟨⟨l.objs ++ [(x, s)], putL l.pool s rs⟩, (by simp only [lstep, q]), by rw [r.objs, hx], fun t k hk => ?_, fun t => ?_⟩
      · by_cases c : t = s
        · show (putL l.pool s rs t)[k]? = some (putP w.pool s _ t k)
          have hk : k < (putL l.pool s rs t).length := hk
          unfold putL putP at *
          rw [if_pos c] at hk ⊢
          rw [if_pos c]
          have := r.row s (k + 1) (by rw [q]; exact Nat.succ_lt_succ hk)
          rw [q, List.getElem?_cons_succ] at this
          exact this
        · show (putL l.pool s rs t)[k]? = some (putP w.pool s _ t k)
          have hk : k < (putL l.pool s rs t).length := hk
          unfold putL putP at *
          rw [if_neg c] at hk ⊢
          rw [if_neg c]
          exact r.row t k hk
      · by_cases c : t = s
        · rw [q, List.length_cons] at hl
          by_cases m0 : m = 0
          · refine ⟨0, f + 1, fun k _ => ?_, ?_⟩
            · show putP w.pool s _ t k = _
              unfold putP
              rw [if_pos c]
              show w.pool s (k + 1) = _
              rw [ht (k + 1) (by omega), c]
              congr 1
              omega
            · show 0 + 60 ≤ (putL l.pool s rs t).length + _
              unfold putL
              rw [if_pos c]
              omega
          · refine ⟨m - 1, f, fun k hk => ?_, ?_⟩
            · show putP w.pool s _ t k = _
              unfold putP
              rw [if_pos c]
              show w.pool s (k + 1) = _
              rw [ht (k + 1) (by omega), c]
              congr 1
              omega
            · show m - 1 + 60 ≤ (putL l.pool s rs t).length + _
              unfold putL
              rw [if_pos c]
              omega
        · obtain ⟨m, f, ht, hl⟩ := r.tail t
          refine ⟨m, f, fun k hk => ?_, ?_⟩
          · show putP w.pool s _ t k = _
            unfold putP
            rw [if_neg c]
            exact ht k hk
          · show m + 60 ≤ (putL l.pool s rs t).length + _
            unfold putL
            rw [if_neg c]
            omega
  | .free i, e => by
    obtain ⟨x, hx, rfl⟩ := Option.map_eq_some_iff.mp (show (w.objs[i]?).map _ = some w' from e)
    refine ⟨⟨l.objs.eraseIdx i, putL l.pool x.2 (x.1 :: l.pool x.2)⟩, (by simp only [lstep, r.objs, hx, Option.map_some]), by rw [r.objs], fun t k hk => ?_, fun t => ?_⟩
    · show (putL l.pool x.2 _ t)[k]? = some (putP w.pool x.2 _ t k)
      have hk : k < (putL l.pool x.2 (x.1 :: l.pool x.2) t).length := hk
      unfold putL putP at *
      by_cases c : t = x.2
      · rw [if_pos c] at hk ⊢
        rw [if_pos c]
        cases k with
        | zero => rfl
        | succ k =>
          rw [List.getElem?_cons_succ]
          exact r.row x.2 k (by rw [List.length_cons] at hk; omega)
      · rw [if_neg c] at hk ⊢
        rw [if_neg c]
        exact r.row t k hk
    · obtain ⟨m, f, ht, hl⟩ := r.tail t
      by_cases c : t = x.2
      · refine ⟨m + 1, f, fun k hk => ?_, ?_⟩
        · show putP w.pool x.2 _ t k = _
          unfold putP
          rw [if_pos c]
          obtain ⟨k, rfl⟩ : ∃ j, k = j + 1 := ⟨k - 1, by omega⟩
          show w.pool x.2 k = _
          rw [← c, ht k (by omega)]
          congr 1
          omega
        · show m + 1 + 60 ≤ (putL l.pool x.2 _ t).length + _
          unfold putL
          rw [if_pos c, List.length_cons, ← c]
          omega
      · refine ⟨m, f, fun k hk => ?_, ?_⟩
        · show putP w.pool x.2 _ t k = _
          unfold putP
          rw [if_neg c]
          exact ht k hk
        · show m + 60 ≤ (putL l.pool x.2 _ t).length + _
          unfold putL
          rw [if_neg c]
          omega
  | .leave i, e => by
    obtain ⟨x, hx, rfl⟩ := Option.map_eq_some_iff.mp (show (w.objs[i]?).map _ = some w' from e)
    refine ⟨⟨l.objs.eraseIdx i, l.pool⟩, (by simp only [lstep, r.objs, hx, Option.map_some]), by rw [r.objs], r.row, fun t => ?_⟩
    obtain ⟨m, f, ht, hl⟩ := r.tail t
    exact ⟨m, f, ht, by show m + 60 ≤ (l.pool t).length + _; omega⟩
def lplay : LW → List St → Option LW
  | l, [] => some l
  | l, t :: ts => (lstep l t).bind fun l' => lplay l' ts
theorem rep_play : ∀ {ts : List St} {w w' : Wd} {l : LW} {c : Nat}, Rep w l c → c + ts.length ≤ 60 → play w ts = some w' → ∃ l', lplay l ts = some l' ∧ Rep w' l' (c + ts.length)
  | [], w, w', l, c, r, _, e => by cases e; exact ⟨l, rfl, r⟩
  | t :: ts, w, w', l, c, r, hc, e => by
    rw [List.length_cons] at hc ⊢
    have e : (step w t).bind (fun w' => play w' ts) = some w' := e
    cases h : step w t with
    | none => rw [h] at e; cases e
    | some w1 =>
      rw [h] at e
      obtain ⟨l1, h1, r1⟩ := rep_step r (by omega) h
      obtain ⟨l2, h2, r2⟩ := rep_play r1 (by omega) e
      refine ⟨l2, ?_, by rw [show c + (ts.length + 1) = c + 1 + ts.length by omega]; exact r2⟩
      show (lstep l t).bind _ = _
      rw [h1]
      exact h2
/-- the law's own tail of a row: where its last places begin to go on in turn; the front and the first fresh number as short as may be -/
theorem row_can {w : Wd} {l : LW} {c s : Nat} (r : Rep w l c) (hc : c < 60) : ∃ q, (l.pool s)[(l.pool s).length - 1]? = some (.pool s q) ∧ CanF s (w.pool s) ((l.pool s).take (stripF s (l.pool s) (l.pool s).length (q + 1)).1) (stripF s (l.pool s) (l.pool s).length (q + 1)).2 := by
  obtain ⟨m, f, ht, hl⟩ := r.tail s
  refine ⟨f + ((l.pool s).length - 1 - m), ?_, ?_⟩
  · rw [r.row s _ (by omega), ht _ (by omega)]
  · refine stripF_can (fun i hi => r.row s i hi) _ _ (Nat.le_refl _) fun i hi => ?_
    rw [ht i (by omega)]
    congr 1
    omega
end V1

set_option linter.all false
namespace V1
/-! ### one move behind another, as the program makes it -/
/-- the origin of a place by heads and fronts -/
def orgD (h : List Pl) (fr : Nat → List Pl) (f : Nat → Nat) : Pl → Pl
  | .obj i => (h[i]?).getD (.obj i)
  | .pool s k => ((fr s)[k]?).getD (.pool s (f s + (k - (fr s).length)))
theorem orgD_obj {n : Nat} {g : Nat → Pl} {h : List Pl} {fr : Nat → List Pl} {f : Nat → Nat} (c : CanH n g h) {i : Nat} (hi : i < n) : orgD h fr f (.obj i) = g i := by
  show (h[i]?).getD (.obj i) = g i
  by_cases e : i < h.length
  · rw [c.at_ i e]
    rfl
  · rw [List.getElem?_eq_none (by omega), c.rest i (by omega) hi]
    rfl
theorem orgD_pool {s : Nat} {g : Nat → Pl} {h : List Pl} {fr : Nat → List Pl} {f : Nat → Nat} (c : CanF s g (fr s) (f s)) {k : Nat} : orgD h fr f (.pool s k) = g k := by
  show ((fr s)[k]?).getD _ = g k
  by_cases e : k < (fr s).length
  · rw [c.at_ k e]
    rfl
  · rw [List.getElem?_eq_none (by omega), c.rest k (by omega)]
    rfl
/-- the heads of both, one behind the other -/
def thenH (o : Pl → Pl) (h1 h2 : List Pl) (m : Nat) : List Pl := h2.map o ++ (h1.drop h2.length).take (m - h2.length)
theorem thenH_le {o : Pl → Pl} {h1 h2 : List Pl} {m : Nat} (l : h2.length ≤ m) : (thenH o h1 h2 m).length ≤ m := by
  unfold thenH
  rw [List.length_append, List.length_map, List.length_take]
  omega
theorem thenH_can {o : Pl → Pl} {g1 g2 : Nat → Pl} {n m : Nat} {h1 h2 : List Pl} (c1 : CanH n g1 h1) (c2 : CanH m g2 h2) (ho : ∀ i, i < n → o (.obj i) = g1 i) (dom : ∀ i, i < m → g2 i = .obj i → i < n) :
    CanH m (fun i => o (g2 i)) ((thenH o h1 h2 m).take (stripH (thenH o h1 h2 m) (thenH o h1 h2 m).length)) := by
  have l2 := c2.le
  refine stripH_can (thenH_le l2) (fun i hi => ?_) _ (Nat.le_refl _) fun i h1' h2' => ?_
  · unfold thenH at hi ⊢
    rw [List.length_append, List.length_map, List.length_take, List.length_drop] at hi
    by_cases e : i < h2.length
    · rw [List.getElem?_append_left (by rw [List.length_map]; exact e), List.getElem?_map, c2.at_ i e]
      rfl
    · rw [List.getElem?_append_right (by rw [List.length_map]; omega), List.length_map, List.getElem?_take, if_pos (by omega), List.getElem?_drop, show h2.length + (i - h2.length) = i by omega, c1.at_ i (by omega)]
      have r := c2.rest i (by omega) (by omega)
      rw [r, ho i (dom i (by omega) r)]
  · unfold thenH at h1'
    rw [List.length_append, List.length_map, List.length_take, List.length_drop] at h1'
    have r := c2.rest i (by omega) h2'
    have d := dom i h2' r
    show o (g2 i) = .obj i
    rw [r, ho i d]
    exact c1.rest i (by omega) d
/-- the front of both -/
theorem thenF_can {o : Pl → Pl} {s : Nat} {g1 g2 : Nat → Pl} {h1 h2 : List Pl} {f1 f2 : Nat} (c1 : CanF s g1 h1 f1) (c2 : CanF s g2 h2 f2) (ho : ∀ k, o (.pool s k) = g1 k) :
    CanF s (fun k => o (g2 k)) ((h2.map o ++ h1.drop f2).take (stripF s (h2.map o ++ h1.drop f2) (h2.map o ++ h1.drop f2).length (f1 + (f2 - h1.length))).1) (stripF s (h2.map o ++ h1.drop f2) (h2.map o ++ h1.drop f2).length (f1 + (f2 - h1.length))).2 := by
  refine stripF_can (fun i hi => ?_) _ _ (Nat.le_refl _) fun i hi => ?_
  · rw [List.length_append, List.length_map, List.length_drop] at hi
    by_cases e : i < h2.length
    · rw [List.getElem?_append_left (by rw [List.length_map]; exact e), List.getElem?_map, c2.at_ i e]
      rfl
    · rw [List.getElem?_append_right (by rw [List.length_map]; omega), List.length_map, List.getElem?_drop, c1.at_ _ (by omega)]
      show _ = some (o (g2 i))
      rw [c2.rest i (by omega), ho]
  · rw [List.length_append, List.length_map, List.length_drop] at hi ⊢
    show o (g2 i) = _
    rw [c2.rest i (by omega), ho, c1.rest _ (by omega)]
    congr 1
    omega
end V1

set_option linter.all false
namespace V1
/-! ### what a move made of a world tells of its objects and places -/
/-- g of the objects of a world -/
def gObj (w : Wd) (i : Nat) : Pl := org w (.obj i)
structure Told (n : Nat) (w : Wd) (h : List Pl) (fr : Nat → List Pl) (f : Nat → Nat) : Prop where
  ok : Ok n w
  heads : CanH w.objs.length (gObj w) h
  front : ∀ s, CanF s (w.pool s) (fr s) (f s)
theorem Told.dom {n : Nat} {w : Wd} {h : List Pl} {fr : Nat → List Pl} {f : Nat → Nat} (t : Told n w h fr f) : (∀ i j : Nat, h[i]? = some (Pl.obj j) → j < n) ∧ (∀ s k j : Nat, (fr s)[k]? = some (Pl.obj j) → j < n) ∧ (h.length < w.objs.length → w.objs.length ≤ n) := by
  refine ⟨fun i j e => ?_, fun s k j e => ?_, fun l => ?_⟩
  · have li := (List.getElem?_eq_some_iff.mp e).1
    rw [t.heads.at_ i li] at e
    have d := t.ok.dom (.obj i) (show i < _ from Nat.lt_of_lt_of_le li t.heads.le)
    have e' : org w (.obj i) = .obj j := Option.some.inj e
    rw [e'] at d
    exact d
  · have lk := (List.getElem?_eq_some_iff.mp e).1
    rw [(t.front s).at_ k lk] at e
    have d := t.ok.dom (.pool s k) trivial
    have e' : org w (.pool s k) = .obj j := Option.some.inj e
    rw [e'] at d
    exact d
  · have r := t.heads.rest (w.objs.length - 1) (by omega) (by omega)
    have d := t.ok.dom (.obj (w.objs.length - 1)) (show w.objs.length - 1 < _ by omega)
    have e' : org w (.obj (w.objs.length - 1)) = .obj (w.objs.length - 1) := r
    rw [e'] at d
    have d : w.objs.length - 1 < n := d
    omega
/-- places of pools in heads and fronts lie ahead of the fresh ones -/
theorem Told.fresh {n : Nat} {w : Wd} {h : List Pl} {fr : Nat → List Pl} {f : Nat → Nat} (t : Told n w h fr f) : (∀ i s k : Nat, h[i]? = some (Pl.pool s k) → k < f s) ∧ (∀ u j s k : Nat, (fr u)[j]? = some (Pl.pool s k) → k < f s) := by
  have key : ∀ (p : Pl) (s k : Nat), End w.objs.length p → org w p = .pool s k → (∀ j, (fr s).length ≤ j → p ≠ .pool s j) → k < f s := fun p s k hp e ne => by
    by_cases c : k < f s
    · exact c
    · have r := (t.front s).rest ((fr s).length + (k - f s)) (by omega)
      have e2 : org w (.pool s ((fr s).length + (k - f s))) = .pool s k := by
        show w.pool s _ = _
        rw [r]
        congr 1
        omega
      exact (ne ((fr s).length + (k - f s)) (Nat.le_add_right _ _) (t.ok.inj p _ hp trivial (by rw [e, e2]))).elim
  refine ⟨fun i s k e => ?_, fun u j s k e => ?_⟩
  · have li := (List.getElem?_eq_some_iff.mp e).1
    rw [t.heads.at_ i li] at e
    exact key (.obj i) s k (show i < _ from Nat.lt_of_lt_of_le li t.heads.le) (Option.some.inj e) fun j _ z => nomatch z
  · have lj := (List.getElem?_eq_some_iff.mp e).1
    rw [(t.front u).at_ j lj] at e
    refine key (.pool u j) s k trivial (Option.some.inj e) fun l hl z => ?_
    injection z with z1 z2
    rw [z1] at lj
    omega
/-- the move of both stretches has the parts of the whole one -/
theorem told_then {n : Nat} {w1 a w2 : Wd} {h1 h2 : List Pl} {fr1 fr2 : Nat → List Pl} {f1 f2 : Nat → Nat} (t1 : Told n w1 h1 fr1 f1) (t2 : Told w1.objs.length a h2 fr2 f2) (o2 : Ok n w2) (len : w2.objs.length = a.objs.length) (org2 : ∀ p, End a.objs.length p → org w2 p = org w1 (org a p)) :
    Told n w2 ((thenH (orgD h1 fr1 f1) h1 h2 a.objs.length).take (stripH (thenH (orgD h1 fr1 f1) h1 h2 a.objs.length) (thenH (orgD h1 fr1 f1) h1 h2 a.objs.length).length))
      (fun s => ((fr2 s).map (orgD h1 fr1 f1) ++ (fr1 s).drop (f2 s)).take (stripF s ((fr2 s).map (orgD h1 fr1 f1) ++ (fr1 s).drop (f2 s)) ((fr2 s).map (orgD h1 fr1 f1) ++ (fr1 s).drop (f2 s)).length (f1 s + (f2 s - (fr1 s).length))).1)
      (fun s => (stripF s ((fr2 s).map (orgD h1 fr1 f1) ++ (fr1 s).drop (f2 s)) ((fr2 s).map (orgD h1 fr1 f1) ++ (fr1 s).drop (f2 s)).length (f1 s + (f2 s - (fr1 s).length))).2) := by
  have eo : ∀ p, End w1.objs.length p → orgD h1 fr1 f1 p = org w1 p := fun p hp => by
    cases p with
    | obj i => exact orgD_obj t1.heads hp
    | pool s k => exact orgD_pool (t1.front s)
  refine ⟨o2, ?_, fun s => ?_⟩
  · have c := thenH_can (o := orgD h1 fr1 f1) t1.heads t2.heads (fun i hi => eo (.obj i) hi) fun i hi e => by
      have d := t2.ok.dom (.obj i) hi
      have e : org a (.obj i) = .obj i := e
      rw [e] at d
      exact d
    rw [len]
    refine ⟨c.le, fun i hi => ?_, fun i hi hm => ?_, fun m hm => ?_⟩
    · rw [c.at_ i hi]
      have im : i < a.objs.length := Nat.lt_of_lt_of_le hi c.le
      have := org2 (.obj i) im
      show some (orgD h1 fr1 f1 (gObj a i)) = some (org w2 (.obj i))
      rw [this, show gObj a i = org a (.obj i) from rfl, eo _ (t2.ok.dom (.obj i) im)]
    · have r : orgD h1 fr1 f1 (gObj a i) = .obj i := c.rest i hi hm
      show org w2 (.obj i) = _
      rw [org2 (.obj i) hm, ← eo _ (t2.ok.dom (.obj i) hm)]
      exact r
    · have im : m < a.objs.length := by have := c.le; omega
      have r := c.last m hm
      intro z
      refine r ?_
      show orgD h1 fr1 f1 (gObj a m) = _
      rw [show gObj a m = org a (.obj m) from rfl, eo _ (t2.ok.dom (.obj m) im), ← org2 (.obj m) im]
      exact z
  · have c := thenF_can (o := orgD h1 fr1 f1) (t1.front s) (t2.front s) (fun k => orgD_pool (t1.front s))
    have e : (fun k => orgD h1 fr1 f1 (a.pool s k)) = w2.pool s := by
      funext k
      have := org2 (.pool s k) trivial
      show orgD h1 fr1 f1 (org a (.pool s k)) = org w2 (.pool s k)
      rw [this, eo _ (t2.ok.dom (.pool s k) trivial)]
    rw [e] at c
    exact c
end V1

set_option Elab.async false
set_option linter.all false
set_option maxRecDepth 100000
set_option maxHeartbeats 4000000
namespace YL
open PySem
section
variable {prog : Program} {w : World} {K : Type} [DecidableEq K] {knd : KeyKind prog w K} {A : Around} {E : Value → Shared → Prop} {s : Shared}
theorem dictPut_pairs {d : Addr} {kvs : List (K × Value)} {k : K} {key v : Value} {Q : Unit → Shared → Prop} (hkey : knd.is k key = true) (hm : s.heap.DictOf knd d kvs)
    (hQ : ∀ h', h'.DictOf knd d (stored kvs k v) → Heap.SameBut d s.heap h' → Q () { s with heap := h' }) (hsz : kvs.length ≤ sizeLine) :
    wpAny (model prog w) A (dictPut d (knd.hash k) key v) Q E s := by
  obtain ⟨o, es, ep, ho, hc, hd, hk, hp, hn⟩ := hm
  have hes : es.size ≤ sizeLine := by
    have e1 := hp.length
    have e2 : es.toList.length = es.size := by simp
    omega
  unfold dictPut
  refine wpAny_bind (wpAny_dictFind_of hkey ho hd hk ?_)
  have hidx : (es.findIdx? fun e => knd.is k e.key) = kvs.findIdx? fun kv => decide (kv.1 = k) := by
    rw [← hp.findIdx k]; obtain ⟨l⟩ := es; simp
  cases hi : es.findIdx? fun e => knd.is k e.key with
  | some i =>
    refine wpAny_updateDict ho hd (hQ _ ⟨_, _, ep, Heap.get?_update_self _ ho (Obj.isFreed_of_dict (Obj.data_mapDict hd _)),
      hc.mapDict _, Obj.data_mapDict hd _, hk.modify _ _, ?_, ?_⟩ (Heap.SameBut.update ..))
    · rw [stored, if_pos (any_of_findIdx_some (hidx ▸ hi))]
      have hl : (es.toList.findIdx? fun e => knd.is k e.key) = some i := by rw [← hi]; obtain ⟨l⟩ := es; simp
      have := hp.modify hn hl v
      obtain ⟨l⟩ := es
      simpa using this
    · rw [stored, if_pos (any_of_findIdx_some (hidx ▸ hi)), keys_map_store]; exact hn
  | none =>
    have hnot : k ∉ kvs.map (·.1) := not_mem_of_findIdx_none (hidx ▸ hi)
    have hany : ¬ (kvs.any fun kv => decide (kv.1 = k)) = true := by
      rw [List.any_eq_true]; rintro ⟨kv, hkv, he⟩
      exact hnot (List.mem_map.mpr ⟨kv, hkv, of_decide_eq_true he⟩)
    refine wpAny_updateDictKeys (hz := hes) ho hd (hQ _ ⟨_, _, ep + 1, Heap.get?_update_self _ ho (Obj.isFreed_of_dict (Obj.data_mapDictKeys hd _)),
      hc.mapDictKeys _, Obj.data_mapDictKeys hd _, hk.push hkey _, ?_, ?_⟩ (Heap.SameBut.update ..))
    · rw [stored, if_neg hany]
      have := hp.append hkey (knd.hash k) v
      obtain ⟨l⟩ := es
      simpa using this
    · rw [stored, if_neg hany, List.map_append, List.nodup_append]
      refine ⟨hn, by simp, ?_⟩
      intro a ha b hb
      simp only [List.map_cons, List.map_nil, List.mem_singleton] at hb
      subst hb
      exact fun e => hnot (e ▸ ha)
theorem mergeMap {d o : Addr} {kvs more : List (K × Value)} {Q : Unit → Shared → Prop} (hdo : d ≠ o) (hoS : (o == sysModules) = false) (hnr : ∀ k v, knd.is k v = true → ∀ a, v ≠ .ref a)
    (hd : s.heap.DictOf knd d kvs) (ho : s.heap.DictOf knd o more)
    (hQ : ∀ h', h'.DictOf knd d (merged kvs more) → h'.DictOf knd o more → Heap.SameBut d s.heap h' → Q () { s with heap := h' })
    (hsz : kvs.length + more.length ≤ sizeLine) :
    wpAny (model prog w) A (mergeMapping d (.ref o) false) Q E s := by
  obtain ⟨od, esd, epd, hod, hcd, hdd, hkd, hpd, hnd⟩ := id hd
  obtain ⟨oo, eso, epo, hoo, hco, hdo', hko, hpo, hno⟩ := id ho
  have hlen : more.length = eso.size := by rw [← hpo.length]; simp
  unfold mergeMapping
  refine wpAny_bind (wpAny_isInstance ho.typeIs isSubtype_dict_dict ?_)
  simp only [if_true]
  refine wpAny_bind (wpAny_specialOf ho.typeIs F.slot_dict_iter.lookup (wpAny_bind (wpAny_pure ?_)))
  simp only [beq_self_eq_true]
  rw [if_neg (by rw [hoS]; exact Bool.false_ne_true)]
  refine wpAny_bind (wpAny_dictEntries hod hdd ?_)
  have loop : ∀ u : Unit, wpAny (model prog w) A ((fun __r => do
                    let __do_lift ← dictEntries o
                    have size : Nat := __do_lift.size
                    let epoch ← dictEpoch o
                    forIn (List.range size) PUnit.unit fun i __s => do
                        let __do_lift ← dictEntries o
                        match __do_lift[i]? with
                          | some e => do
                            holding [e.key, e.val]
                                (have __do_jp := fun __r => dictPut d e.hash e.key e.val;
                                if false = true then do
                                  let __do_lift ← dictFind d e.key e.hash
                                  if __do_lift.isSome = true then do
                                      rule "dict.merge.duplicate-key"
                                      let __do_lift ← newExc (Value.type "KeyError") [e.key]
                                      let __r ← raiseNew __do_lift
                                      __do_jp __r
                                    else __do_jp ()
                                else __do_jp ())
                            let __do_lift ← dictEpoch o
                            if (__do_lift != epoch) = true then do
                                unsupported "dict.changed-during-merge"
                                pure (ForInStep.yield PUnit.unit)
                              else pure (ForInStep.yield PUnit.unit)
                          | x => do
                            unsupported "dict.changed-during-merge"
                            pure (ForInStep.yield PUnit.unit)
                    pure () : Unit → Sem Unit) u) Q E s := by
    intro u
    refine wpAny_bind (wpAny_dictEntries hoo hdo' ?_)
    refine wpAny_bind (wpAny_dictEpoch hoo hdo' ?_)
    refine wpAny_bind ?_
    have rng : List.range eso.size = List.range' 0 (eso.size - 0) := by rw [List.range_eq_range', Nat.sub_zero]
    rw [rng]
    refine wpAny_forIn_list _
      (fun rest _ s' => ∃ h' i, s' = { s with heap := h' } ∧ rest = List.range' i (eso.size - i) ∧ i ≤ eso.size ∧ h'.DictOf knd d (merged kvs (more.take i)) ∧ h'.get? o = some oo ∧ Heap.SameBut d s.heap h')
      _ ?_ ?_ _ _ ⟨s.heap, 0, rfl, rfl, Nat.zero_le _, by simpa [merged] using hd, hoo, Heap.SameBut.refl _ _⟩
    · rintro x rest b s' ⟨h', i, rfl, hr, hi, hd', hoo', hs'⟩
      have hlt : i < eso.size := by
        rcases Nat.lt_or_ge i eso.size with h | h
        · exact h
        · rw [Nat.sub_eq_zero_of_le h] at hr; simp at hr
      obtain ⟨rfl, hrest⟩ : x = i ∧ rest = List.range' (i + 1) (eso.size - (i + 1)) := by
        have e : eso.size - i = (eso.size - (i + 1)) + 1 := by omega
        rw [e, List.range'_succ] at hr
        injection hr with h1 h2
        exact ⟨h1, h2⟩
      refine wpAny_bind (wpAny_dictEntries hoo' hdo' ?_)
      rw [Array.getElem?_eq_getElem hlt]
      obtain ⟨kv, hkv⟩ : ∃ kv, more[x]? = some kv := ⟨more[x]'(by rw [hlen]; exact hlt), List.getElem?_eq_getElem _⟩
      obtain ⟨k, v⟩ := kv
      obtain ⟨hkey, hval⟩ := hpo.get? (e := eso[x]) (by simp [hlt]) hkv
      obtain ⟨k', hkey', hhash⟩ := hko eso[x] (Array.getElem_mem hlt)
      obtain rfl : k' = k := knd.inj _ _ _ hkey' hkey
      show wpAny _ _ (holding [eso[x].key, eso[x].val] (dictPut d eso[x].hash eso[x].key eso[x].val) >>= _) _ _ _
      rw [hhash, hval]
      have hmx : (merged kvs (more.take x)).length ≤ sizeLine := by
        have e1 := merged_length_le kvs (more.take x)
        have e2 : (more.take x).length ≤ more.length := by rw [List.length_take]; omega
        omega
      refine wpAny_bind (wpAny_holding (dictPut_pairs hkey hd' (fun h'' hd'' hs'' => ?_) hmx))
      have hoo'' : h''.get? o = some oo := (hs''.2 o (Ne.symm hdo)).trans hoo'
      refine wpAny_bind (wpAny_dictEpoch hoo'' hdo' ?_)
      rw [if_neg (by simp)]
      exact wpAny_pure ⟨h'', x + 1, rfl, hrest, hlt, by rw [merged_take_succ kvs more x (k', v) hkv]; exact hd'', hoo'', hs'.trans hs''⟩
    · rintro b s' ⟨h', i, rfl, hr, hi, hd', hoo', hs'⟩
      have hin : i = eso.size := by
        rcases Nat.lt_or_ge i eso.size with h | h
        · have e : eso.size - i = (eso.size - (i + 1)) + 1 := by omega
          rw [e, List.range'_succ] at hr; exact nomatch hr
        · exact Nat.le_antisymm hi h
      refine wpAny_pure (hQ h' ?_ ⟨oo, eso, epo, hoo', hco, hdo', hko, hpo, hno⟩ hs')
      rw [hin, ← hlen, List.take_length] at hd'; exact hd'
  split
  · refine wpAny_bind (wpAny_dictEntries hoo hdo' ?_)
    refine wpAny_bind ?_
    rw [← Array.forIn_toList]
    refine wpAny_forIn_list _ (fun rest _ s' => s' = s ∧ ∀ e ∈ rest, e ∈ eso.toList) _ ?_ ?_ _ _ ⟨rfl, fun e h => h⟩
    · rintro e rest b s' ⟨rfl, hm⟩
      obtain ⟨k, hk, _⟩ := hko e (by simpa using hm e List.mem_cons_self)
      have nr := hnr k e.key hk
      cases q : e.key with
      | ref a => exact (nr a q).elim
      | _ => exact wpAny_pure ⟨rfl, fun e' h => hm e' (List.mem_cons_of_mem _ h)⟩
    · rintro b s' ⟨rfl, _⟩
      exact loop ()
  · exact loop ()
end
end YL

set_option Elab.async false
set_option linter.all false
set_option maxRecDepth 100000
set_option maxHeartbeats 8000000
namespace L2
open PySem PySem.Spec PyProof.Rows
/-! ### own == and != with whatever answer -/
section
variable {M : Model} {prog : Program} {w : World} {A : Around} {E : Value → Shared → Prop} {s : Shared} {K : PySem.W.Frag} {x C f : Addr} {ox : Obj} {od : Option Obj} {b tb : Value}
theorem ifBound_objNe {args : List Value} {Q : Option Value → Shared → Prop} (X : K.In s.heap) (I : PySem.W.InstAt s.heap x ox C od) (hs : PySem.W.findIn K (.ref C) "__ne__" = some (some (.builtin "object.__ne__")))
    (h : wpAny M A (call (.builtin "object.__ne__") (.ref x :: args)) (fun v => Q (some v)) E s) : wpAny M A (callSpecialIfBound? (.ref x) "__ne__" args) Q E s := by
  simp only [callSpecialIfBound?, bindSpecialIfBound?]
  refine wpAny_holding (wpAny_bind (wpAny_bind (wpAny_bind (I.type.here ((PySem.W.looks_findIn X hs).here ?_)))))
  refine wpAny_bind (wpAny_askSetting (wpAny_ite ?_))
  have fin : wpAny M A (call (.builtin "object.__ne__") ([.ref x] ++ args) >>= fun v => pure (some v)) Q E s := wpAny_bind (wpAny_mono h (fun v s' h' => wpAny_pure h') fun _ _ h' => h')
  split
  · exact wpAny_bind (wpAny_of_eq (F.cmp_object.ne.bind _) (wpAny_pure (by exact fin)))
  · exact wpAny_tryCatch (wpAny_bind (wpAny_of_eq (F.cmp_object.ne.bind _) (wpAny_pure (by exact fin))))
/-- object.__ne__ by the own __eq__ -/
theorem objNe_entry {Q : Fin → Shared → Prop} (hu : A.units < cLine) (X : K.In s.heap) (I : PySem.W.InstAt s.heap x ox C od) (hs : PySem.W.findIn K (.ref C) "__eq__" = some (some (.ref f))) (hf : PySem.W.isFn K (.ref f) = true)
    (h : wpAny M A (call (.ref f) [.ref x, b]) (fun v s' => ∃ r, v = .bool r ∧ Q (.done (.ret (.bool (!r)))) s') E s) : wpAny M A (Builtin.«object.__ne__» ⟨[.ref x, b], []⟩) Q E s := by
  unfold Builtin.«object.__ne__»
  repeat (first
    | with_reducible refine wpAny_cRoomFor hu ?_
    | (refine wpAny_bind (m := callSpecialIfBound? (.ref x) (Str.ofString "__eq__") [b])
        (PySem.W.ifBound_K X I hs hf (wpAny_mono h (fun v s' hv => by
          obtain ⟨r, rfl, hq⟩ := hv
          repeat (first | exact hq | exact wpAny_pure hq | exact wpAny_truthy_bool hq | (refine wpAny_bind (m := truthy (.bool _)) (wpAny_truthy_bool ?_)) | wp_step)) fun _ _ e => e)))
    | wp_step)
theorem ne_K {Q : Value → Shared → Prop} (hu : A.units + 1 < cLine) (X : K.In s.heap) (I : PySem.W.InstAt s.heap x ox C od) (hb : PySem.W.Looks (model prog w) s.heap (typeOf b) tb) (hn : PySem.W.notFirst K C tb = true)
    (hne : PySem.W.findIn K (.ref C) "__ne__" = some (some (.builtin "object.__ne__"))) (hm : PySem.W.mroIn K C (.type "object") = some true)
    (hs : PySem.W.findIn K (.ref C) "__eq__" = some (some (.ref f))) (hf : PySem.W.isFn K (.ref f) = true)
    (h : wpAny (model prog w) A.in1 (call (.ref f) [.ref x, b]) (fun v s' => ∃ r, v = .bool r ∧ Q (.bool (!r)) s') E s) : wpAny (model prog w) A (richCompare .NotEq (.ref x) b) Q E s := by
  have one : wpAny (model prog w) A (tryCompare (.ref x) (cmpInfo .NotEq).2.1 b) (fun r s' => ∃ v, r = some v ∧ Q v s') E s := by
    unfold tryCompare
    refine wpAny_bind (ifBound_objNe X I hne (wpAny_call (codeAny_call_builtin F.cmp_object.ne.plain F.cmpEntry_ne (PySem.W.check_slot F.cmpKind_ne F.cmpSplit_ne (I.type.andThen (PySem.W.looks_mroIn X hm)) (F.cmpArgs_ne _ _) (objNe_entry (A := A.in1) (by show A.units + 1 < cLine; exact hu) X I hs hf (wpAny_mono h (fun v s' hv => ?_) fun _ _ e => e))))))
    obtain ⟨r, rfl, hq⟩ := hv
    exact ⟨r, rfl, wpAny_pure ⟨_, rfl, hq⟩⟩
  unfold richCompare
  simp only [oneThing_ref]
  refine wpAny_holding (wpAny_bind (wpAny_cRoomFor (by omega) ?_))
  refine wpAny_bind (I.type.here (wpAny_bind (hb.here ?_)))
  split
  · rename_i q
    have e : PySem.W.subIn K tb (.ref C) = some false := by
      rcases Bool.or_eq_true_iff.mp hn with e | e
      · rw [beq_iff_eq.mp e] at q; simp at q
      · exact beq_iff_eq.mp e
    refine wpAny_bind ((PySem.W.looks_subIn X e).here ?_)
    simp only [Bool.false_eq_true, if_false]
    refine wpAny_bind (wpAny_mono one (fun r s' z => ?_) fun _ _ e => e)
    obtain ⟨v, rfl, hq⟩ := z
    exact wpAny_pure hq
  · refine wpAny_bind (wpAny_pure ?_)
    simp only [Bool.false_eq_true, if_false]
    refine wpAny_bind (wpAny_mono one (fun r s' z => ?_) fun _ _ e => e)
    obtain ⟨v, rfl, hq⟩ := z
    exact wpAny_pure hq
end
/-- what may stand on the right: an instance of the class, a dict, a list -/
inductive RightV (C : Addr) (H : Hp) : V → Prop
  | ins {q dx : Addr} {fs : List (Str × V)} (e : H q = some (.ins C dx fs)) : RightV C H (.ref q)
  | dic {q : Addr} {kvs : List (Key × V)} (e : H q = some (.dK kvs)) : RightV C H (.ref q)
  | lst {q : Addr} {xs : List V} (e : H q = some (.lst xs)) : RightV C H (.ref q)
  | tup {q : Addr} {xs : List V} (e : H q = some (.tup xs)) : RightV C H (.ref q)
  | str (z : Str) : RightV C H (.str z)
theorem sub_tup {K : PySem.W.Frag} {C : Addr} : PySem.W.subIn K (.type "tuple") (.ref C) = some false := by
  have e : fastBuiltinMro "tuple" = some [.type "tuple", .type "object"] := by decide +kernel
  show (fastBuiltinMro "tuple").map (·.contains (.ref C)) = some false
  rw [e]
  first
    | rfl
    | simp
theorem sub_str {K : PySem.W.Frag} {C : Addr} : PySem.W.subIn K (.type "str") (.ref C) = some false := by
  have e : fastBuiltinMro "str" = some [.type "str", .type "object"] := by decide +kernel
  show (fastBuiltinMro "str").map (·.contains (.ref C)) = some false
  rw [e]
  first
    | rfl
    | simp
theorem sub_dict {K : PySem.W.Frag} {C : Addr} : PySem.W.subIn K (.type "dict") (.ref C) = some false := by
  have e : fastBuiltinMro "dict" = some [.type "dict", .type "object"] := by decide +kernel
  show (fastBuiltinMro "dict").map (·.contains (.ref C)) = some false
  rw [e]
  first
    | rfl
    | simp
theorem sub_list {K : PySem.W.Frag} {C : Addr} : PySem.W.subIn K (.type "list") (.ref C) = some false := by
  have e : fastBuiltinMro "list" = some [.type "list", .type "object"] := by decide +kernel
  show (fastBuiltinMro "list").map (·.contains (.ref C)) = some false
  rw [e]
  first
    | rfl
    | simp
section
variable {X : Cx} {pins : List (Addr × Obj)} {σ : St} {H : Hp} {s : Shared}
theorem right_is {C : Addr} {y : V} {u : Value} (I : Inv X pins σ H s) (r : RightV C H y) (ry : RelV y u) : ∃ tb, PySem.W.Looks (model X.prog X.w) s.heap (typeOf u) tb ∧ PySem.W.notFirst X.K C tb = true := by
  cases r with
  | ins e =>
    cases ry
    obtain ⟨m, J, _⟩ := ins_get I.hok e
    obtain ⟨od, J, _⟩ := J.look
    exact ⟨_, J.type, by simp [PySem.W.notFirst]⟩
  | dic e =>
    obtain rfl : u = Value.ref _ := ry
    obtain ⟨_, _, va, _, od, es, ep, ho, ⟨e1, e2, e3⟩, e4, _⟩ := (show ObjOk X.prog X.w H s.heap _ (.dK _) from I.hok _ _ e)
    refine ⟨.type "dict", fun A Q E s' k q => wpAny_typeOf_ref (k _ _ ho) (by rw [e1]; exact q), ?_⟩
    unfold PySem.W.notFirst
    rw [sub_dict]
    simp
  | lst e =>
    obtain rfl : u = Value.ref _ := ry
    obtain ⟨_, its, n, _, hl'⟩ := (show ObjOk X.prog X.w H s.heap _ (.lst _) from I.hok _ _ e)
    refine ⟨.type "list", fun A Q E s' k q => wpAny_typeOf_ref (k _ _ hl') q, ?_⟩
    unfold PySem.W.notFirst
    rw [sub_list]
    simp
  | tup e =>
    obtain rfl : u = Value.ref _ := ry
    obtain ⟨_, its, _, o, h1, h2, _⟩ := (show ObjOk X.prog X.w H s.heap _ (.tup _) from I.hok _ _ e)
    refine ⟨.type "tuple", fun A Q E s' k q => wpAny_typeOf_ref (k _ _ h1) (by rw [h2]; exact q), ?_⟩
    unfold PySem.W.notFirst
    rw [sub_tup]
    simp
  | str z =>
    obtain ⟨t, rfl⟩ : ∃ t, u = Value.str z t := ry
    refine ⟨.type "str", fun A Q E s' k q => wpAny_typeOf (T := "str") (typeIs_str _ _ _) q, ?_⟩
    unfold PySem.W.notFirst
    rw [sub_str]
    simp
/-- the own == as its callers know it -/
structure OwnE (P : Program) (w : World) (K : PySem.W.Frag) (mg : Str → Option Value) (base : Heap) (CX : CXT) (k : Nat) (C : Addr) (ps : List Str) (sp : Sp) : Prop where
  ex : ∃ (f : Addr) (fd : FuncData), FnOk P w K mg base CX k f fd ps sp ∧ PySem.W.findIn K (.ref C) "__eq__" = some (some (.ref f)) ∧ PySem.W.isFn K (.ref f) = true ∧ Binds K fd ps []
  ne : PySem.W.findIn K (.ref C) "__ne__" = some (some (.builtin "object.__ne__"))
  mro : PySem.W.mroIn K C (.type "object") = some true
def rOwnE (C : Addr) (sp : Sp) (E : XK) (neg : Bool) : R2 := fun x y H Q => ∃ p dx fs, x = .ref p ∧ H p = some (.ins C dx fs) ∧ RightV C H y ∧ sp [x, y] H (fun v H' => ∃ r : Bool, v = .bl r ∧ Q (.bl (neg != r)) H') E
theorem own_call {CX : CXT} {k : Nat} {f p : Addr} {fd : FuncData} {ps : List Str} {sp : Sp} {E : XK} {y : V} {u : Value} {Q : VK} {A : Around} (F : FnOk X.prog X.w X.K X.mg X.base CX k f fd ps sp) (hb : Binds X.K fd ps []) (hx : Passes CX X E) (sb : Sub X k A) (I : Inv X pins σ H s) (ry : RelV y u)
    (h : sp [.ref p, y] H Q E) : wpAny (model X.prog X.w) A (call (.ref f) [.ref p, u]) (fun v s' => ∃ z H', Inv X pins σ H' s' ∧ RelV z v ∧ Q z H') X.xe s := by
  have e0 : Env0 X.prog X.w X.K X.mg X.base A X.stack s H := by
    have e := I.env0
    exact ⟨by rw [sb.fr]; exact e.frames, e.mod, e.bs, e.bsz, e.funs, e.frf, e.hok, e.bare⟩
  have hl := F.len _ _ _ _ h
  have r2 : Vals [V.ref p, y] [Value.ref p, u] := .cons rfl (.cons ry .nil)
  refine wpAny_call (codeAny_mono (F.run A X.stack s H ⟨[.ref p, u], []⟩ [.ref p, u] [.ref p, y] _ E sb.room e0 (by
    have := hb s [.ref p, u] I.kIn (by simpa using hl)
    simpa using this) r2 h) fun r s' hq => ?_)
  cases r with
  | error e => exact hx pins σ H s e s' I hq
  | ok fl =>
    cases fl with
    | ret w =>
      obtain ⟨z, H', I', rz, q⟩ := I.after hq
      exact ⟨z, H', I', rz, q⟩
    | next => exact False.elim hq
    | brk => exact False.elim hq
    | cont => exact False.elim hq
theorem op_eqOwn {CX : CXT} {k : Nat} {C : Addr} {ps : List Str} {sp : Sp} {E : XK} (O : OwnE X.prog X.w X.K X.mg X.base CX k C ps sp) (hr : Room k X.A) (hx : Passes CX X E) : OpR X (compareOp .Eq) (rOwnE C sp E false) := by
  intro pins s σ H x y v u Q I rx ry h
  obtain ⟨p, dx, fs, rfl, hp, rt, h⟩ := h
  obtain ⟨f, fd, F, hs, hf, hb⟩ := O.ex
  obtain rfl : v = Value.ref p := rx
  obtain ⟨m, J, _⟩ := ins_get I.hok hp
  obtain ⟨od, J, _⟩ := J.look
  obtain ⟨tb, l, n⟩ := right_is I rt ry
  obtain ⟨m, hF⟩ := I.fr
  show wpAny (model X.prog X.w) X.A (richCompare .Eq (.ref p) u) (EP X pins σ Q) X.xe s
  refine PySem.W.cmp_K (op := .Eq) hr.units0 hF I.ok.mod.kin J l n hs hf (wpAny_mono (own_call F hb hx ⟨hr, rfl⟩ I ry h) (fun v s' q => ?_) fun _ _ e => e)
  obtain ⟨z, H', I', rz, r, rfl, q⟩ := q
  cases rz
  exact ⟨.bl r, H', I', rfl, by rw [Bool.false_bne] at q; exact q⟩
theorem op_neOwn {CX : CXT} {k : Nat} {C : Addr} {ps : List Str} {sp : Sp} {E : XK} (O : OwnE X.prog X.w X.K X.mg X.base CX k C ps sp) (hr : Room (k + 1) X.A) (hx : Passes CX X E) : OpR X (compareOp .NotEq) (rOwnE C sp E true) := by
  intro pins s σ H x y v u Q I rx ry h
  obtain ⟨p, dx, fs, rfl, hp, rt, h⟩ := h
  obtain ⟨f, fd, F, hs, hf, hb⟩ := O.ex
  obtain rfl : v = Value.ref p := rx
  obtain ⟨m, J, _⟩ := ins_get I.hok hp
  obtain ⟨od, J, _⟩ := J.look
  obtain ⟨tb, l, n⟩ := right_is I rt ry
  have hu := hu_of hr
  show wpAny (model X.prog X.w) X.A (richCompare .NotEq (.ref p) u) (EP X pins σ Q) X.xe s
  refine ne_K (by omega) I.kIn J l n O.ne O.mro hs hf (wpAny_mono (own_call F hb hx ⟨hr.in1, rfl⟩ I ry h) (fun v s' q => ?_) fun _ _ e => e)
  obtain ⟨z, H', I', rz, r, rfl, q⟩ := q
  cases rz
  exact ⟨r, rfl, .bl (!r), H', I', rfl, by rw [Bool.true_bne] at q; exact q⟩
/-- None in a list of tuples -/
def rNonT (K : PySem.W.Frag) : R2 := fun x y H Q => ∃ p xs, x = .non ∧ y = .ref p ∧ SqL K H p xs ∧ (∀ z ∈ xs, ∃ t ys, z = .ref t ∧ SqT K H t ys) ∧ Q (.bl false) H
theorem op_nonInT (hu : X.A.units + 64 < cLine) : OpR X (compareOp .In) (rNonT X.K) := by
  intro pins s σ H x y v u Q I rx ry h
  obtain ⟨p, xs, rfl, rfl, hq, f, q⟩ := h
  cases rx
  cases ry
  obtain ⟨its, rv, hl, _⟩ := I.list hq
  have hu1 : X.A.in1.units < cLine := by show X.A.units + 1 < cLine; omega
  refine SeqAt.in_listAt (fun _ => false) hl.isList (fun z hz => ?_) ⟨.bl _, H, I, rfl, ?_⟩
  · obtain ⟨i, hi, rfl⟩ := List.getElem_of_mem (show z ∈ its by simpa using hz)
    have k1 : i < xs.length := by rw [rv.length]; exact hi
    obtain ⟨t, ys, e, ht⟩ := f _ (List.getElem_mem k1)
    obtain ⟨u', hu', ru⟩ := rv.get (List.getElem?_eq_getElem k1)
    rw [List.getElem?_eq_getElem hi] at hu'
    rw [Option.some.inj hu']
    rw [e] at ru
    cases ru
    obtain ⟨_, _, h2, _⟩ := I.tuple ht
    exact SeqAt.EqAt.tuple_none h2 hu1
  · rw [show its.toArray.any (fun _ => false) = false by simp]
    exact q
end

/-! ### other operators of one's own -/
/-- a method as the operators of its class know it -/
structure OwnM (P : Program) (w : World) (K : PySem.W.Frag) (mg : Str → Option Value) (base : Heap) (CX : CXT) (k : Nat) (C : Addr) (m : Str) (ps : List Str) (sp : Sp) : Prop where
  ex : ∃ (f : Addr) (fd : FuncData), FnOk P w K mg base CX k f fd ps sp ∧ PySem.W.findIn K (.ref C) m = some (some (.ref f)) ∧ PySem.W.isFn K (.ref f) = true ∧ PySem.W.fnIn K f = true ∧ Binds K fd ps []
def rOwn (C : Addr) (sp : Sp) (E : XK) : R2 := fun x y H Q => ∃ p dx fs, x = .ref p ∧ H p = some (.ins C dx fs) ∧ sp [x, y] H Q E
/-- x + y of one class -/
def rOwn2 (C : Addr) (sp : Sp) (E : XK) : R2 := fun x y H Q => ∃ p dx fs q dx' fs', x = .ref p ∧ H p = some (.ins C dx fs) ∧ y = .ref q ∧ H q = some (.ins C dx' fs') ∧ sp [x, y] H Q E
section
variable {X : Cx} {CX : CXT} {k : Nat} {C : Addr} {ps : List Str} {sp : Sp} {E : XK}
theorem back_ok {pins : List (Addr × Obj)} {σ : St} {H' : Hp} {s' : Shared} {z : V} {v : Value} {Q : VK} (I' : Inv X pins σ H' s') (rz : RelV z v) (q : Q z H') : PySem.W.CmpBack (EP X pins σ Q) v s' := by
  have e : EP X pins σ Q v s' := ⟨z, H', I', rz, q⟩
  cases z with
  | non => cases rz; exact e
  | bl b => cases rz; exact e
  | int i => obtain ⟨t, rfl⟩ := rz; exact e
  | str i => obtain ⟨t, rfl⟩ := rz; exact e
  | byt i => obtain ⟨t, rfl⟩ := rz; exact e
  | flt i => obtain ⟨t, rfl⟩ := rz; exact e
  | ref a => cases rz; exact e
  | ty n => cases rz; exact e
theorem op_addOwn (O : OwnM X.prog X.w X.K X.mg X.base CX k C "__add__" ps sp) (hc : PySem.W.selfFirst X.K C = true) (hr : Room k X.A) (hx : Passes CX X E) : OpR X (binaryOp .Add) (rOwn2 C sp E) := by
  intro pins s σ H x y v u Q I rx ry h
  obtain ⟨p, dx, fs, q, dx', fs', rfl, hp, rfl, hq, h⟩ := h
  obtain ⟨f, fd, F, hs, hf, _, hb⟩ := O.ex
  obtain rfl : v = Value.ref p := rx
  have ru : RelV (.ref q) u := ry
  obtain rfl : u = Value.ref q := ry
  obtain ⟨m, J, _⟩ := ins_get I.hok hp
  obtain ⟨od, J, _⟩ := J.look
  obtain ⟨m', J', _⟩ := ins_get I.hok hq
  obtain ⟨od', J', _⟩ := J'.look
  obtain ⟨m, hF⟩ := I.fr
  refine PySem.W.binop_K (op := .Add) hF I.ok.mod.kin J J'.type hc hs hf (wpAny_mono (own_call F hb hx ⟨hr, rfl⟩ I ru h) (fun v s' z => ?_) fun _ _ e => e)
  obtain ⟨z, H', I', rz, q⟩ := z
  exact back_ok I' rz q
/-- item by an own __getitem__ -/
theorem pe_ixOwn {a b : Expr} {ta tb : TE} {pos : Pos} (O : OwnM X.prog X.w X.K X.mg X.base CX k C "__getitem__" ps sp) (hr : Room (k + 1) X.A) (hx : Passes CX X E) (ha : PE X a ta) (hb' : PE X b tb)
    (hsl : ∀ o i, subscripted b true o i = runValue (.builtin "lifetime.subscript" ⟨[o, i], []⟩) := by intro _ _; with_unfolding_all rfl) : PE X (.Subscript a b pos) (tOp (rOwn C sp E) ta tb) := by
  refine ⟨fun pins s σ H Q I h => ?_⟩
  refine Subscript_ (binT ha hb' I h fun v u s2 x y H2 I2 rx ry q => ?_)
  obtain ⟨p, dx, fs, rfl, hp, h2⟩ := q
  obtain ⟨f, fd, F, hs, hf, hfn, hb⟩ := O.ex
  obtain rfl : v = Value.ref p := rx
  obtain ⟨m, J, _⟩ := ins_get I2.hok hp
  obtain ⟨od, J, _⟩ := J.look
  obtain ⟨m, hF⟩ := I2.fr
  exact PySem.W.sub_K hF I2.ok.mod.kin J hs hfn hf (own_call F hb hx ⟨hr.in1, rfl⟩ I2 ry h2) (hsl _ _)
/-- x in an object with an own __contains__ that answers with a bool -/
def rOwnIn (C : Addr) (sp : Sp) (E : XK) : R2 := fun x y H Q => ∃ p dx fs, y = .ref p ∧ H p = some (.ins C dx fs) ∧ sp [y, x] H (fun v H' => ∃ b : Bool, v = .bl b ∧ Q (.bl b) H') E
theorem own_callX {f p : Addr} {fd : FuncData} {pins : List (Addr × Obj)} {σ : St} {H : Hp} {s : Shared} {y : V} {u : Value} {Q : VK} (F : FnOk X.prog X.w X.K X.mg X.base CX k f fd ps sp) (hb : Binds X.K fd ps []) (hx : Passes CX X E) (hr : Room k X.A) (I : Inv X pins σ H s) (ry : RelV y u)
    (h : sp [.ref p, y] H Q E) : wpAny (model X.prog X.w) X.A (call (.ref f) [.ref p, u]) (EP X pins σ Q) X.xe s := wpAny_mono (own_call F hb hx ⟨hr, rfl⟩ I ry h) (fun v s' q => q) fun _ _ e => e
theorem op_inOwn (O : OwnM X.prog X.w X.K X.mg X.base CX k C "__contains__" ps sp) (hr : Room k X.A) (hx : Passes CX X E) : OpR X (compareOp .In) (rOwnIn C sp E) := by
  intro pins s σ H x y v u Q I rx ry h
  obtain ⟨p, dx, fs, rfl, hp, h⟩ := h
  obtain ⟨f, fd, F, hs, hf, _, hb⟩ := O.ex
  obtain rfl : u = Value.ref p := ry
  obtain ⟨m, J, _⟩ := ins_get I.hok hp
  obtain ⟨od, J, _⟩ := J.look
  obtain ⟨m, hF⟩ := I.fr
  refine PySem.W.in_K hF I.ok.mod.kin J hs hf (wpAny_mono (own_call F hb hx ⟨hr, rfl⟩ I rx h) (fun v s' z => ?_) fun _ _ e => e)
  obtain ⟨z, H', I', rz, b, rfl, q⟩ := z
  cases rz
  exact wpAny_truthy_bool ⟨.bl b, H', I', rfl, q⟩
end
end L2

set_option Elab.async false
set_option linter.all false
set_option maxRecDepth 100000
set_option maxHeartbeats 4000000
namespace L2
open PySem PySem.Spec PyProof.Rows
/-! ### dicts whose keys are tuples of texts and None -/
abbrev OKey := Option Str
def okIs : OKey → Value → Bool
  | none, v => v == .none
  | some x, v => Value.isStrOf x v
def okH (w : World) : OKey → Int
  | none => 0xFCA86420
  | some x => hashStr w x
def okV : OKey → V
  | none => .non
  | some x => .str x
theorem okIs_shape : ∀ {k : OKey} {v : Value}, okIs k v = true → (k = none ∧ v = .none) ∨ ∃ x t, k = some x ∧ v = .str x t
  | none, v, h => .inl ⟨rfl, by
    cases v <;> first | rfl | exact (nomatch (show False by simp [okIs] at h))⟩
  | some x, v, h => by
    obtain ⟨t, e⟩ := Value.isStrOf_shape (x := x) (v := v) h
    exact .inr ⟨x, t, rfl, e⟩
theorem hash_none {prog : Program} {w : World} {A : Around} {E : Value → Shared → Prop} {s : Shared} {Q : Int → Shared → Prop} (h : Q 0xFCA86420 { s with toks := s.toks + 1 }) : wpAny (model prog w) A (pyHash .none) Q E s := by
  obtain ⟨hp, g, d, tk, os⟩ := s
  have hT : Shared.TypeIs ⟨hp, g, d, tk, os⟩ .none "NoneType" := rfl
  show wpAny _ _ (pyHashByItsType .none) _ _ _
  unfold pyHashByItsType
  have hv : [Value.none].any Value.onHeap = false := rfl
  refine wpAny_bind ?_
  rw [cRoomFor, if_neg (by rw [hv]; exact Bool.false_ne_true)]; refine wpAny_pure ?_
  refine wpAny_bind (wpAny_specialOf hT F.slot_NoneType_hash.lookup ?_)
  show wpAny _ _ (if (some (Value.builtin "NoneType.__hash__") == some Value.none) = true then _ else _) Q E _
  rw [if_neg (by rw [beq_builtin_none]; exact Bool.false_ne_true)]
  refine wpAny_bind (wpAny_specialOf hT F.slot_NoneType_hash.lookup ?_)
  refine wpAny_bind (wpAny_callSpecialIfBoundUnlessNone?_slot hT F.slot_NoneType_hash
    (wpAny_call_entry F.slot_NoneType_hash hT F.entry_NoneType_hash
      (show wpAny _ _ (do ret (← mkInt 0xFCA86420)) _ _ _ from wpAny_ret_mkInt ?_) (F.args_NoneType_hash_1 _)))
  show wpAny _ _ (if (decide (-(2 : Int) ^ 63 ≤ 0xFCA86420) && decide ((0xFCA86420 : Int) < 2 ^ 63)) = true then _ else _) Q E _
  rw [if_pos (by decide)]
  exact wpAny_pure h
def optKind (prog : Program) (w : World) : PySem.KeyKind prog w OKey where
  is := okIs
  hash := okH w
  inj := fun v a b ha hb => by
    rcases okIs_shape ha with ⟨rfl, rfl⟩ | ⟨x, t, rfl, rfl⟩
    · rcases okIs_shape hb with ⟨rfl, e⟩ | ⟨y, u, rfl, e⟩
      · rfl
      · exact nomatch e
    · rcases okIs_shape hb with ⟨rfl, e⟩ | ⟨y, u, rfl, e⟩
      · exact nomatch e
      · injection e with e1 _; rw [e1]
  byValue := fun k v h => by
    rcases okIs_shape h with ⟨rfl, rfl⟩ | ⟨x, t, rfl, rfl⟩ <;> rfl
  pyHash := fun hv h => by
    rcases okIs_shape hv with ⟨rfl, rfl⟩ | ⟨x, t, rfl, rfl⟩
    · exact hash_none h
    · exact wpAny_pyHash_str h
  eqBool := fun hu hv h => by
    rcases okIs_shape hu with ⟨rfl, rfl⟩ | ⟨x, t, rfl, rfl⟩
    · rcases okIs_shape hv with ⟨rfl, rfl⟩ | ⟨y, u, rfl, rfl⟩
      · exact SeqAt.EqAt.same .none _ _ _ _ h
      · exact SeqAt.EqAt.none_str y u _ _ _ _ h
    · rcases okIs_shape hv with ⟨rfl, rfl⟩ | ⟨y, u, rfl, rfl⟩
      · exact SeqAt.EqAt.str_none x t _ _ _ _ h
      · rw [show decide ((some x : OKey) = some y) = decide (x = y) from decide_eq_decide.mpr ⟨Option.some.inj, fun e => by rw [e]⟩] at h
        exact wpAny_eqBool_str h
  «strs» := fun k x t v h => by
    rcases okIs_shape h with ⟨rfl, e⟩ | ⟨y, u, rfl, e⟩
    · exact nomatch e
    · injection e with e1 _
      subst e1
      cases v <;> rfl

def oDic (P : Program) (w : World) (a : Addr) (xs : List (List OKey × Addr × Value)) : HO := .ext fun h => (a == sysModules) = false ∧ ∃ o es ep, h.get? a = some o ∧ o.ExactDict ∧ o.data = .dict es ep ∧ es.toList = xs.map (entryOfKey (tupleKind (optKind P w))) ∧ (xs.map (·.1)).Nodup
/-- a dict with such keys: which they are -/
structure OD (P : Program) (w : World) (H : Hp) (a : Addr) (ks : List (List OKey)) : Prop where
  ex : ∃ xs, H a = some (oDic P w a xs) ∧ xs.map (·.1) = ks ∧ xs.length ≤ sizeLine ∧ ∀ x ∈ xs, H x.2.1 = some (.tup (x.1.map okV))
theorem okV_is {P : Program} {w : World} {k : OKey} {u : Value} (r : RelV (okV k) u) : (optKind P w).is k u = true := by
  cases k with
  | none => obtain rfl : u = Value.none := r; rfl
  | some x => obtain ⟨t, e⟩ := (show ∃ t, u = Value.str x t from r); subst e; show Value.isStrOf x (.str x t) = true; simp [Value.isStrOf]
theorem o_items {P : Program} {w : World} : ∀ {ks : List OKey} {us : List Value}, Vals (ks.map okV) us → ItemsAre (optKind P w) ks us
  | [], _, r => by rw [List.map_nil] at r; cases r; exact .nil
  | k :: ks, _, r => by
    rw [List.map_cons] at r
    cases r with
    | cons h t => exact .cons (okV_is h) (o_items t)
theorem o_key {P : Program} {w : World} {H : Hp} {h : Heap} {a : Addr} {ks : List OKey} (ok : HOk P w H h) (e : H a = some (.tup (ks.map okV))) : (tupleKind (optKind P w)).is h ks a := by
  obtain ⟨_, its, r, o, h1, h2, n, h3⟩ := (show ObjOk P w H h a (.tup (ks.map okV)) from ok a _ e)
  exact ⟨o, its.toArray, n, h1, h2, h3, by simpa using o_items r⟩
theorem o_dic {P : Program} {w : World} {H : Hp} {h : Heap} {a : Addr} {xs : List (List OKey × Addr × Value)} (ok : HOk P w H h) (e : H a = some (oDic P w a xs)) (hk : ∀ x ∈ xs, H x.2.1 = some (.tup (x.1.map okV))) : (a == sysModules) = false ∧ h.DictOfH (tupleKind (optKind P w)) a xs := by
  obtain ⟨⟨hd, o, es, ep, h1, h2, h3, h4, h5⟩, _⟩ := (show ObjOk P w H h a (oDic P w a xs) from ok a _ e)
  exact ⟨hd, o, es, ep, h1, h2, h3, h4, fun x hx => o_key ok (hk x hx), h5⟩
theorem o_stay {P : Program} {w : World} {a : Addr} {xs : List (List OKey × Addr × Value)} {H : Hp} {h : Heap} (hd : (a == sysModules) = false) (d : h.DictOfH (tupleKind (optKind P w)) a xs) : ObjOk P w H h a (oDic P w a xs) := by
  obtain ⟨o, es, ep, h1, h2, h3, h4, _, h5⟩ := d
  refine ⟨⟨hd, o, es, ep, h1, h2, h3, h4, h5⟩, ⟨o, h1⟩, ?_⟩
  rintro g1 g2 ⟨hd, o, es, ep, h1, h2, h3, h4, h5⟩ k
  exact ⟨hd, o, es, ep, k _ h1, h2, h3, h4, h5⟩
theorem atKey_mem {κ : Type} [DecidableEq κ] {xs : List (κ × Addr × Value)} {k : κ} : (atKey xs k).isSome = true ↔ k ∈ xs.map (·.1) := by
  unfold atKey
  rw [Option.isSome_map]
  induction xs with
  | nil => simp
  | cons x xs ih =>
    rw [List.find?_cons]
    by_cases c : x.1 = k
    · rw [decide_eq_true c]
      simp [c]
    · rw [decide_eq_false c]
      dsimp only
      rw [ih, List.map_cons, List.mem_cons]
      exact ⟨.inr, fun z => z.resolve_left fun e => c e.symm⟩
section
variable {X : Cx} {pos pos' : Pos} {i o value : Expr} {ty td tv : TE}
theorem pe_dnewO : PE X (.Dict [] [] pos) (fun _ H Q => ∀ p, H p = none → Q (.ref p) (upd H p (oDic X.prog X.w p []))) := ⟨fun pins s σ H Q I h =>
  wpAny_Dict_empty ⟨.ref s.heap.objs.size, _, I.laid (a := s.heap.objs.size) (o := oDic X.prog X.w s.heap.objs.size []) (t' := s.toks) (fun _ _ q => Heap.get?_push_of_some _ q) (Nat.le_refl _) (o_stay (by
    have := I.big
    rw [beq_eq_false_iff_ne]
    exact fun e => by rw [e] at this; exact absurd this (Nat.lt_irrefl _)) (Heap.DictOfH.new s.heap)), rfl, h _ (I.hok.fresh (Nat.le_refl _))⟩⟩
theorem od_new {P : Program} {w : World} {H : Hp} {p : Addr} (h : H p = some (oDic P w p [])) : OD P w H p [] := ⟨[], h, rfl, Nat.zero_le _, fun x hx => nomatch hx⟩
theorem OD.mono {P : Program} {w : World} {H H' : Hp} {a : Addr} {ks : List (List OKey)} (d : OD P w H a ks) (s : Same H H') : OD P w H' a ks := by
  obtain ⟨xs, e, k, l, h⟩ := d.ex
  exact ⟨xs, s _ _ e, k, l, fun x hx => s _ _ (h x hx)⟩
def tONotIn (P : Program) (w : World) (ty td : TE) : TE := fun σ H Q => ty σ H fun y H1 => td σ H1 fun x H2 => ∃ (a b : Addr) (ks : List (List OKey)) (k : List OKey), x = .ref a ∧ y = .ref b ∧ OD P w H2 a ks ∧ H2 b = some (.tup (k.map okV)) ∧ ∀ c : Bool, (c = true ↔ k ∈ ks) → Q (.bl (!c)) H2
theorem pc_onotin (hu : X.A.units + 1 < cLine) (hi : PE X i ty) (ho : PE X o td) : PC X .NotIn i o (tONotIn X.prog X.w ty td) := by
  refine ⟨fun pins s σ H Q I h => ?_⟩
  refine thn (hi.run pins s σ H _ I h) fun iv s1 ⟨y, H1, I1, ry, q1⟩ => thn (ho.run pins s1 σ H1 _ I1 q1) fun u s2 ⟨x, H2, I2, rx, a, b, ks, k, ex, ey, d, eb, q2⟩ => ?_
  subst ex ey
  obtain rfl : u = Value.ref a := rx
  obtain rfl : iv = Value.ref b := ry
  obtain ⟨xs, e, rfl, l, hk⟩ := d.ex
  obtain ⟨hd, dd⟩ := o_dic I2.hok e hk
  refine wpAny_notIn_heap (tupleKind_room_in1 hu) (o_key I2.hok eb) hd dd ?_
  exact ⟨.bl _, H2, I2.tok _, rfl, q2 _ (atKey_mem (xs := xs) (k := k))⟩
/-- d[y] = v, y not in d -/
def sOPut (P : Program) (w : World) (td ty tv : TE) : TS := fun D σ H => tv σ H fun v H1 => td σ H1 fun x H2 => ty σ H2 fun y H3 => ∃ (a b : Addr) (ks : List (List OKey)) (k : List OKey), x = .ref a ∧ y = .ref b ∧ OD P w H3 a ks ∧ ks.length < sizeLine ∧ k ∉ ks ∧ H3 b = some (.tup (k.map okV)) ∧
  ∀ o, OD P w (upd H3 a o) a (ks ++ [k]) → D.nx σ (upd H3 a o)
theorem ps_oput (hu : X.A.units + 1 < cLine) (ho : PE X o td) (hi : PE X i ty) (hv : PE X value tv) (hs : swapsWith value (some (.Subscript o i pos')) pos.line X.env = pure false) :
    PS X (.Assign [.Subscript o i pos'] value pos) (sOPut X.prog X.w td ty tv) := by
  refine ⟨fun pins s σ H D I h => ?_⟩
  refine wpAny_Assign_Subscript (thn (hv.run pins s σ H _ I h) fun r s1 ⟨v, H1, I1, rv, q1⟩ => thn (ho.run pins s1 σ H1 _ I1 q1) fun u s2 ⟨x, H2, I2, rx, q2⟩ => thn (hi.run pins s2 σ H2 _ I2 q2) fun iv s3 ⟨y, H3, I3, ry, a, b, ks, k, ex, ey, d, few, nk, eb, q3⟩ => ?_) hs
  subst ex ey
  obtain rfl : u = Value.ref a := rx
  obtain rfl : iv = Value.ref b := ry
  obtain ⟨xs, e, rfl, l, hk⟩ := d.ex
  obtain ⟨hd, dd⟩ := o_dic I3.hok e hk
  refine wpAny_setItem_heap (hsz := l) (tupleKind_room_in1 hu) (o_key I3.hok eb) dd fun h' dd' hs => ?_
  have hn : atKey xs k = none := by
    have z := atKey_mem (xs := xs) (k := k)
    cases q : atKey xs k with
    | none => rfl
    | some p =>
      rw [q] at z
      exact (nk (z.mp rfl)).elim
  rw [storedH_new hn] at dd'
  have he : ∃ q, h'.get? a = some q := let ⟨q, _, _, hq, _⟩ := dd'; ⟨q, hq⟩
  have ob := o_stay (H := upd H3 a (oDic X.prog X.w a (xs ++ [(k, b, r)]))) hd dd'
  refine ⟨σ, _, d_write I3 (by rw [e]; exact True.intro) hs he ob, q3 _ ⟨xs ++ [(k, b, r)], upd_same, by rw [List.map_append]; rfl, ?_, fun x hx => ?_⟩⟩
  · rw [List.length_append]
    rw [List.length_map] at few
    exact few
  · rw [upd_ne]
    · rcases List.mem_append.mp hx with m | m
      · exact hk x m
      · rw [List.mem_singleton] at m
        subst m
        exact eb
    · rcases List.mem_append.mp hx with m | m
      · exact ne_of (hk x m) e (fun z => nomatch z)
      · rw [List.mem_singleton] at m
        subst m
        exact ne_of eb e (fun z => nomatch z)
end
end L2

set_option Elab.async false
set_option linter.all false
set_option maxRecDepth 100000
set_option maxHeartbeats 4000000
namespace L2
open PySem PySem.Spec PyProof.Rows
/-! ### == of two instances whose class says nothing of it; of tuples with such -/
section
variable {M : Model} {A : Around} {E : Value → Shared → Prop} {s : Shared} {K : PySem.W.Frag} {x y C : Addr} {ox oy : Obj} {od od' : Option Obj}
theorem ifBound_objEq {args : List Value} {Q : Option Value → Shared → Prop} (X : K.In s.heap) (I : PySem.W.InstAt s.heap x ox C od) (hs : PySem.W.findIn K (.ref C) "__eq__" = some (some (.builtin "object.__eq__")))
    (h : wpAny M A (call (.builtin "object.__eq__") (.ref x :: args)) (fun v => Q (some v)) E s) : wpAny M A (callSpecialIfBound? (.ref x) "__eq__" args) Q E s := by
  simp only [callSpecialIfBound?, bindSpecialIfBound?]
  refine wpAny_holding (wpAny_bind (wpAny_bind (wpAny_bind (I.type.here ((PySem.W.looks_findIn X hs).here ?_)))))
  refine wpAny_bind (wpAny_askSetting (wpAny_ite ?_))
  have fin : wpAny M A (call (.builtin "object.__eq__") ([.ref x] ++ args) >>= fun v => pure (some v)) Q E s := wpAny_bind (wpAny_mono h (fun v s' h' => wpAny_pure h') fun _ _ h' => h')
  split
  · exact wpAny_bind (wpAny_of_eq (F.cmp_object.eq.bind _) (wpAny_pure (by exact fin)))
  · exact wpAny_tryCatch (wpAny_bind (wpAny_of_eq (F.cmp_object.eq.bind _) (wpAny_pure (by exact fin))))
end
section
variable {prog : Program} {w : World} {A : Around} {E : Value → Shared → Prop} {s : Shared} {K : PySem.W.Frag} {x y C : Addr} {ox oy : Obj} {od od' : Option Obj}
theorem try_objEq {Q : Option Value → Shared → Prop} (X : K.In s.heap) (I : PySem.W.InstAt s.heap x ox C od) (J : PySem.W.InstAt s.heap y oy C od') (hxy : x ≠ y) (hs : PySem.W.findIn K (.ref C) "__eq__" = some (some (.builtin "object.__eq__"))) (hm : PySem.W.mroIn K C (.type "object") = some true)
    (q : Q none s) : wpAny (model prog w) A (tryCompare (.ref x) "__eq__" (.ref y)) Q E s := by
  unfold tryCompare
  refine wpAny_bind (ifBound_objEq X I hs (wpAny_call (codeAny_call_builtin F.cmp_object.eq.plain F.cmpEntry_eq (PySem.W.check_slot F.cmpKind_eq F.cmpSplit_eq (I.type.andThen (PySem.W.looks_mroIn X hm)) (F.cmpArgs_eq _ _) (objEq_entry_other hxy I.at_ J.at_ (by rw [I.cls]; exact fun e => nomatch e) ?_)))))
  exact wpAny_pure q
theorem rc_inst (X : K.In s.heap) (I : PySem.W.InstAt s.heap x ox C od) (J : PySem.W.InstAt s.heap y oy C od') (hxy : x ≠ y) (hs : PySem.W.findIn K (.ref C) "__eq__" = some (some (.builtin "object.__eq__"))) (hm : PySem.W.mroIn K C (.type "object") = some true)
    (hu : A.units < cLine) : SeqAt.RcAt A s (.ref x) (.ref y) false := fun prog w E Q q => by
  unfold richCompare
  simp only [oneThing_ref]
  refine wpAny_holding (wpAny_bind (wpAny_cRoomFor (by omega) ?_))
  refine wpAny_bind (I.type.here (wpAny_bind (J.type.here ?_)))
  simp only [bne_self_eq_false, Bool.false_eq_true, if_false]
  refine wpAny_bind (wpAny_pure ?_)
  simp only [Bool.false_eq_true, if_false]
  refine wpAny_bind (try_objEq X I J hxy hs hm ?_)
  dsimp only
  refine wpAny_bind (try_objEq X J I (fun e => hxy e.symm) hs hm ?_)
  dsimp only
  refine wpAny_bind (wpAny_rule ?_)
  exact wpAny_bind (wpAny_isSame_ref_other hxy I.at_ J.at_ (by rw [I.cls]; exact fun e => nomatch e) (wpAny_pure q))
end
/-- what the written part says of a class whose objects are equal to themselves alone -/
structure IdEq (K : PySem.W.Frag) (C : Addr) : Prop where
  eq : PySem.W.findIn K (.ref C) "__eq__" = some (some (.builtin "object.__eq__"))
  mro : PySem.W.mroIn K C (.type "object") = some true
def rEqSide (C : Addr) : R2 := fun x y H Q => ∃ (t u p q dp dq : Addr) (fp fq : List (Str × V)) (i j : Int) (b c : Bool), x = .ref t ∧ y = .ref u ∧ H t = some (.tup [.ref p, .int i, .bl b]) ∧ H u = some (.tup [.ref q, .int j, .bl c]) ∧ H p = some (.ins C dp fp) ∧ H q = some (.ins C dq fq) ∧
  Q (.bl (decide (p = q) && (decide (i = j) && decide (b = c)))) H
theorem op_eqSide {X : Cx} {C : Addr} (Y : IdEq X.K C) (hu : X.A.units + 1 < cLine) : OpR X (compareOp .Eq) (rEqSide C) := by
  intro pins s σ H x y v u Q I rx ry h
  obtain ⟨t, u', p, q, dp, dq, fp, fq, i, j, b, c, rfl, rfl, ht, hu', hp, hq, k⟩ := h
  obtain rfl : v = Value.ref t := rx
  obtain rfl : u = Value.ref u' := ry
  obtain ⟨its, r1, h1, _⟩ := I.tuple (SqT.of ht)
  obtain ⟨its2, r2, h2, _⟩ := I.tuple (SqT.of hu')
  obtain ⟨m, J, _⟩ := ins_get I.hok hp
  obtain ⟨od, J, _⟩ := J.look
  obtain ⟨m', J', _⟩ := ins_get I.hok hq
  obtain ⟨od', J', _⟩ := J'.look
  cases r1 with
  | cons a1 r1 => cases r1 with
    | cons a2 r1 => cases r1 with
      | cons a3 r1 => cases r1 with
        | nil => cases r2 with
          | cons b1 r2 => cases r2 with
            | cons b2 r2 => cases r2 with
              | cons b3 r2 => cases r2 with
                | nil =>
                  rename_i v1 v2 v3 w1 w2 w3
                  obtain rfl : v1 = Value.ref p := a1
                  obtain ⟨ti, rfl⟩ : ∃ t, v2 = Value.int i t := a2
                  obtain rfl : v3 = Value.bool b := a3
                  obtain rfl : w1 = Value.ref q := b1
                  obtain ⟨tj, rfl⟩ : ∃ t, w2 = Value.int j t := b2
                  obtain rfl : w3 = Value.bool c := b3
                  have hu1 : X.A.in1.units < cLine := by show X.A.units + 1 < cLine; exact hu
                  refine SeqAt.eq_tupleAt (e := fun n => match n with | 0 => decide (p = q) | 1 => decide (i = j) | _ => decide (b = c)) h1 h2 (by omega) (fun n n1 n2 => ?_) ?_
                  · match n, n1, n2 with
                    | 0, _, _ =>
                      show SeqAt.EqAt _ _ (.ref p) (.ref q) (decide (p = q))
                      by_cases e : p = q
                      · subst e
                        rw [decide_eq_true rfl]
                        exact SeqAt.EqAt.same _
                      · rw [decide_eq_false e]
                        exact SeqAt.EqAt.of_refs e (rc_inst I.kIn J J' e Y.eq Y.mro hu1)
                    | 1, _, _ =>
                      show SeqAt.EqAt _ _ (.int i ti) (.int j tj) (decide (i = j))
                      intro prog w E Q hq
                      refine wpAny_eqBool_int ?_
                      rw [show (i == j) = decide (i = j) from rfl]
                      exact hq
                    | 2, _, _ =>
                      show SeqAt.EqAt _ _ (.bool b) (.bool c) (decide (b = c))
                      by_cases e : b = c
                      · subst e
                        rw [decide_eq_true rfl]
                        exact SeqAt.EqAt.same _
                      · rw [decide_eq_false e]
                        have := SeqAt.EqAt.bool_bool (A := X.A.in1) (s := s) b c
                        rw [show (b == c) = false from by simpa using e] at this
                        exact this
                  · refine ⟨.bl _, H, I, rfl, ?_⟩
                    have e : ((List.range (min (#[Value.ref p, .int i ti, .bool b] : Array Value).size (#[Value.ref q, .int j tj, .bool c] : Array Value).size)).all (fun n => match n with | 0 => decide (p = q) | 1 => decide (i = j) | _ => decide (b = c)) && (#[Value.ref p, .int i ti, .bool b] : Array Value).size == (#[Value.ref q, .int j tj, .bool c] : Array Value).size) = (decide (p = q) && (decide (i = j) && decide (b = c))) := by
                      show (([0, 1, 2] : List Nat).all _ && true) = _
                      simp [List.all_cons]
                    first
                      | (rw [e]; exact k)
                      | (have k2 := k; rw [← e] at k2; exact k2)
end L2

set_option Elab.async false
set_option linter.all false
set_option maxRecDepth 100000
set_option maxHeartbeats 4000000
namespace L2
open PySem PySem.Spec PyProof.Rows
/-! ### x * n by an own __mul__, n an int -/
theorem sub_int {K : PySem.W.Frag} {C : Addr} : PySem.W.subIn K (.type "int") (.ref C) = some false := by
  have e : fastBuiltinMro "int" = some [.type "int", .type "object"] := by decide +kernel
  show (fastBuiltinMro "int").map (·.contains (.ref C)) = some false
  rw [e]
  first
    | rfl
    | simp
theorem fills_int {M : Model} {h : Heap} {K : PySem.W.Frag} (X : K.In h) : PySem.W.Looks M h (fillsNumberSlot (.type "int") "mul") true := by
  have e1 : PySem.W.findIn K (.type "int") (PySem.dunder "mul") = some (some (.builtin "int.__mul__")) := by
    show fastLookup "int" _ = _
    decide +kernel
  have e2 : PySem.W.findIn K (.type "int") (PySem.dunderR "mul") = some (some (.builtin "int.__rmul__")) := by
    show fastLookup "int" _ = _
    decide +kernel
  intro A Q E s k q
  unfold fillsNumberSlot
  refine wpAny_bind (PySem.W.looks_findIn X e1 A _ E s k ?_)
  refine wpAny_bind (PySem.W.looks_findIn X e2 A _ E s k ?_)
  refine wpAny_pure ?_
  have : ((some (Value.builtin "int.__mul__")).isSome && !isSeqSlot (some (.builtin "int.__mul__")) || (some (Value.builtin "int.__rmul__")).isSome && !isSeqSlot (some (.builtin "int.__rmul__"))) = true := by decide +kernel
  rw [this]
  exact q
section
variable {prog : Program} {w : World} {A : Around} {E : Value → Shared → Prop} {s : Shared} {K : PySem.W.Frag} {x C L f : Addr} {h₀ : Heap} {m : Str → Option Value} {ox : Obj} {od : Option Obj}
theorem inPy_K {M : Model} {h : Heap} (X : K.In h) (hs : PySem.W.findIn K (.ref C) (PySem.dunder "mul") = some (some (.ref f))) (hr : PySem.W.findIn K (.ref C) (PySem.dunderR "mul") = some none) : PySem.W.Looks M h (numberSlotInPython (.ref C) "mul") true := by
  intro A Q E s k q
  unfold numberSlotInPython
  refine wpAny_bind (PySem.W.looks_findIn X hs A _ E s k ?_)
  refine wpAny_bind (wpAny_pure ?_)
  refine wpAny_bind (PySem.W.looks_findIn X hr A _ E s k ?_)
  refine wpAny_bind (wpAny_pure ?_)
  rw [if_pos (show (true || false) = true from rfl)]
  exact wpAny_pure q
theorem binop_KI {n : Int} {t : Tok} {Q : Value → Shared → Prop} (F : PyProof.Rows.Fr h₀ L s.heap m) (X₀ : K.In h₀) (I : PySem.W.InstAt s.heap x ox C od) (hc : PySem.W.selfFirst K C = true)
    (hs : PySem.W.findIn K (.ref C) (PySem.dunder "mul") = some (some (.ref f))) (hr : PySem.W.findIn K (.ref C) (PySem.dunderR "mul") = some none) (hf : PySem.W.isFn K (.ref f) = true)
    (h : wpAny (model prog w) A (call (.ref f) [.ref x, .int n t]) (PySem.W.CmpBack Q) E s) : wpAny (model prog w) A (binaryOp .Mult (.ref x) (.int n t)) Q E s := by
  have X := X₀.keeps F.keep
  obtain ⟨cd, hcd, hm⟩ := PySem.W.any_some hc
  obtain ⟨rest, hm⟩ : ∃ rest, cd.mro = .ref C :: rest := by
    cases q : cd.mro with
    | nil => rw [q] at hm; cases hm
    | cons a r => rw [q] at hm; exact ⟨r, by rw [List.head?_cons] at hm; cases (beq_iff_eq.mp hm); rfl⟩
  unfold binaryOp
  refine wpAny_holding (wpAny_bind ?_)
  unfold binaryOp1
  refine wpAny_bind (I.type.here (wpAny_bind (wpAny_pure (wpAny_bind ((PySem.W.fills_K X hcd hm hs).here ?_)))))
  rw [if_neg (show ¬ ((Value.ref C == Value.type "int") = true) from by simp)]
  refine wpAny_bind ((fills_int X).here ?_)
  dsimp only
  simp only [Bool.and_self, if_true, Bool.true_and]
  refine wpAny_bind ((PySem.W.looks_subIn X sub_int).here ?_)
  simp only [Bool.false_eq_true, if_false, Bool.not_false, if_true]
  refine wpAny_bind ((inPy_K X hs hr).here ?_)
  simp only [if_true]
  have e3 : numberSlotInPython (.type "int") "mul" = pure false := rfl
  rw [e3]
  refine wpAny_bind (wpAny_pure ?_)
  simp only [Bool.not_false, if_true]
  have e2 : PySem.W.findIn K (.type "int") (PySem.dunderR "mul") = some (some (.builtin "int.__rmul__")) := by
    show fastLookup "int" _ = _
    decide +kernel
  refine wpAny_bind ((PySem.W.looks_findIn X e2).here ?_)
  refine wpAny_bind (m := tryMethod (.ref x) _ _) ?_
  unfold tryMethod
  refine wpAny_bind (PySem.W.special_fn X I hs (beq_iff_eq.mp hf) (wpAny_mono h (fun v s' hv => ?_) fun _ _ e => e))
  cases v <;> first | exact hv.elim | exact wpAny_pure (wpAny_pure (wpAny_pure hv))
end
section
variable {X : Cx} {CX : CXT} {k : Nat} {C : Addr} {ps : List Str} {sp : Sp} {E : XK}
/-- x * n -/
def rOwnI (C : Addr) (sp : Sp) (E : XK) : R2 := fun x y H Q => ∃ p dx fs n, x = .ref p ∧ H p = some (.ins C dx fs) ∧ y = .int n ∧ sp [x, y] H Q E
theorem op_mulOwn (O : OwnM X.prog X.w X.K X.mg X.base CX k C "__mul__" ps sp) (hc : PySem.W.selfFirst X.K C = true) (hn : PySem.W.findIn X.K (.ref C) "__rmul__" = some none) (hr : Room k X.A) (hx : Passes CX X E) : OpR X (binaryOp .Mult) (rOwnI C sp E) := by
  intro pins s σ H x y v u Q I rx ry h
  obtain ⟨p, dx, fs, n, rfl, hp, rfl, h⟩ := h
  obtain ⟨f, fd, F, hs, hf, _, hb⟩ := O.ex
  obtain rfl : v = Value.ref p := rx
  have ru : RelV (.int n) u := ry
  obtain ⟨t, rfl⟩ : ∃ t, u = Value.int n t := ry
  obtain ⟨m, J, _⟩ := ins_get I.hok hp
  obtain ⟨od, J, _⟩ := J.look
  obtain ⟨m, hF⟩ := I.fr
  refine binop_KI hF I.ok.mod.kin J hc hs hn hf (wpAny_mono (own_call F hb hx ⟨hr, rfl⟩ I ru h) (fun v s' z => ?_) fun _ _ e => e)
  obtain ⟨z, H', I', rz, q⟩ := z
  exact back_ok I' rz q
/-- bool(x) by an own __bool__ -/
def rOwnB (C : Addr) (sp : Sp) (E : XK) : List V → Hp → VK → Prop := fun xs H Q => ∃ p dx fs, xs = [.ref p] ∧ H p = some (.ins C dx fs) ∧ sp xs H (fun v H' => ∃ b : Bool, v = .bl b ∧ Q (.bl b) H') E
theorem own_call1 {CX : CXT} {k : Nat} {f p : Addr} {fd : FuncData} {ps : List Str} {sp : Sp} {E : XK} {Q : VK} {A : Around} {pins : List (Addr × Obj)} {σ : St} {H : Hp} {s : Shared} (F : FnOk X.prog X.w X.K X.mg X.base CX k f fd ps sp) (hb : Binds X.K fd ps []) (hx : Passes CX X E) (sb : Sub X k A) (I : Inv X pins σ H s)
    (h : sp [.ref p] H Q E) : wpAny (model X.prog X.w) A (call (.ref f) [.ref p]) (fun v s' => ∃ z H', Inv X pins σ H' s' ∧ RelV z v ∧ Q z H') X.xe s := by
  have e0 : Env0 X.prog X.w X.K X.mg X.base A X.stack s H := by
    have e := I.env0
    exact ⟨by rw [sb.fr]; exact e.frames, e.mod, e.bs, e.bsz, e.funs, e.frf, e.hok, e.bare⟩
  have hl := F.len _ _ _ _ h
  have r2 : Vals [V.ref p] [Value.ref p] := .cons rfl .nil
  refine wpAny_call (codeAny_mono (F.run A X.stack s H ⟨[.ref p], []⟩ [.ref p] [.ref p] _ E sb.room e0 (by
    have := hb s [.ref p] I.kIn (by simpa using hl)
    simpa using this) r2 h) fun r s' hq => ?_)
  cases r with
  | error e => exact hx pins σ H s e s' I hq
  | ok fl =>
    cases fl with
    | ret w =>
      obtain ⟨z, H', I', rz, q⟩ := I.after hq
      exact ⟨z, H', I', rz, q⟩
    | next => exact False.elim hq
    | brk => exact False.elim hq
    | cont => exact False.elim hq
theorem meets_bool_any {prog : Program} {w : World} (x : Value) :
    MeetsIn prog w (Builtin.«bool.__new__» ⟨[.type "bool", x], []⟩) (fun A R s => wpAny (model prog w) A.in1 (truthy x) (fun b s' => R (.ok (.ret (.bool b))) s') (fun e s' => R (.error e) s') s) :=
  .of_wp fun A R s hs => by
    obtain ⟨hp, g, d, tk, os⟩ := s
    have f1 := F.conv_sub_bool
    repeat (any_goals (first | assumption | (with_reducible refine wpAny_bind (wpAny_mono hs (fun b s' q => ?_) fun _ _ z => z)) | wp_step))
    all_goals exact ⟨_, rfl, q⟩
theorem call_boolOwn (O : OwnM X.prog X.w X.K X.mg X.base CX k C "__bool__" ps sp) (hr : Room (k + 2) X.A) (hx : Passes CX X E) : CallR X (.type "bool") (rOwnB C sp E) := by
  intro pins s σ H xs us Q I r h
  obtain ⟨p, dx, fs, rfl, hp, h⟩ := h
  obtain ⟨f, fd, F, hs, hf, _, hb⟩ := O.ex
  obtain rfl := Vals.ref1 r
  obtain ⟨m, J, _⟩ := ins_get I.hok hp
  obtain ⟨od, J, _⟩ := J.look
  obtain ⟨m, hF⟩ := I.fr
  refine callType_newIn PySem.F.called_bool PySem.F.newNe_bool (PySem.F.typeCall_bool_1 _) (PySem.F.newCall_bool_1 _) (fun obj => PySem.F.args_object_init_2 obj _) PySem.F.entry_bool_new (meets_bool_any _) ?_
  show wpAny _ _ (truthy (.ref p)) _ _ _
  refine PySem.W.truthy_K hF I.ok.mod.kin J hs hf (wpAny_mono (own_call1 F hb hx ⟨hr.in1.in1, rfl⟩ I h) (fun v s' z => ?_) fun _ _ e => e)
  obtain ⟨z, H', I', rz, b, rfl, q⟩ := z
  obtain rfl : v = .bool b := rz
  exact ⟨PySem.typeIs_bool _ _, .bl b, H', I', rfl, q⟩
end
end L2

set_option Elab.async false
set_option linter.all false
set_option maxRecDepth 100000
set_option maxHeartbeats 8000000
/-! from K4A -/
namespace K1
open PySem L2
/-! ### data: plain values whose lists, tuples and (empty) dicts are tracked -/
inductive Dat (H : Hp) : V → Prop
  | non : Dat H .non
  | bl (b : Bool) : Dat H (.bl b)
  | int (i : Int) : Dat H (.int i)
  | str (s : Str) (h : s.length ≤ 1000 ∧ PyData.strOk s = true) : Dat H (.str s)
  | lst {a : Addr} {xs : List V} (e : H a = some (.lst xs)) (hx : ∀ x ∈ xs, Dat H x) : Dat H (.ref a)
  | tup {a : Addr} {xs : List V} (e : H a = some (.tup xs)) (hx : ∀ x ∈ xs, Dat H x) : Dat H (.ref a)
  | dic {a : Addr} {kvs : List (Key × V)} (e : H a = some (.dK kvs)) : Dat H (.ref a)
theorem Dat.mono {H H' : Hp} (s : Same H H') {v : V} (d : Dat H v) : Dat H' v := by
  induction d with
  | non => exact .non
  | bl b => exact .bl b
  | int i => exact .int i
  | str z h => exact .str z h
  | lst e _ ih => exact .lst (s _ _ e) ih
  | tup e _ ih => exact .tup (s _ _ e) ih
  | dic e => exact .dic (s _ _ e)
theorem Dat.items {H : Hp} {a : Addr} {xs : List V} (d : Dat H (.ref a)) (e : H a = some (.lst xs)) : ∀ x ∈ xs, Dat H x := by
  cases d with
  | lst e' hx => rw [e'] at e; cases e; exact hx
  | tup e' hx => rw [e'] at e; cases e
  | dic e' => rw [e'] at e; cases e
theorem Dat.itemsT {H : Hp} {a : Addr} {xs : List V} (d : Dat H (.ref a)) (e : H a = some (.tup xs)) : ∀ x ∈ xs, Dat H x := by
  cases d with
  | lst e' hx => rw [e'] at e; cases e
  | tup e' hx => rw [e'] at e; cases e; exact hx
  | dic e' => rw [e'] at e; cases e
/-! ### kinds -/
def isI : V → Bool | .int _ => true | .bl _ => true | _ => false
def isB : V → Bool | .bl _ => true | _ => false
def isS : V → Bool | .str _ => true | _ => false
def lstOf (H : Hp) : V → Option (List V) | .ref a => (match H a with | some (.lst xs) => some xs | _ => none) | _ => none
def tupOf (H : Hp) : V → Option (List V) | .ref a => (match H a with | some (.tup xs) => some xs | _ => none) | _ => none
theorem lstOf_some {H : Hp} {v : V} {xs : List V} (h : lstOf H v = some xs) : ∃ a, v = .ref a ∧ H a = some (.lst xs) := by
  cases v with
  | ref a =>
    refine ⟨a, rfl, ?_⟩
    cases e : H a with
    | none => rw [show lstOf H (.ref a) = (match H a with | some (.lst xs) => some xs | _ => none) from rfl, e] at h; cases h
    | some o =>
      rw [show lstOf H (.ref a) = (match H a with | some (.lst xs) => some xs | _ => none) from rfl, e] at h
      cases o with
      | lst ys => cases h; rfl
      | _ => cases h
  | _ => cases h
theorem tupOf_some {H : Hp} {v : V} {xs : List V} (h : tupOf H v = some xs) : ∃ a, v = .ref a ∧ H a = some (.tup xs) := by
  cases v with
  | ref a =>
    refine ⟨a, rfl, ?_⟩
    cases e : H a with
    | none => rw [show tupOf H (.ref a) = (match H a with | some (.tup xs) => some xs | _ => none) from rfl, e] at h; cases h
    | some o =>
      rw [show tupOf H (.ref a) = (match H a with | some (.tup xs) => some xs | _ => none) from rfl, e] at h
      cases o with
      | tup ys => cases h; rfl
      | _ => cases h
  | _ => cases h
theorem lstOf_of {H : Hp} {a : Addr} {xs : List V} (e : H a = some (.lst xs)) : lstOf H (.ref a) = some xs := by
  show (match H a with | some (.lst xs) => some xs | _ => none) = some xs
  rw [e]
theorem tupOf_of {H : Hp} {a : Addr} {xs : List V} (e : H a = some (.tup xs)) : tupOf H (.ref a) = some xs := by
  show (match H a with | some (.tup xs) => some xs | _ => none) = some xs
  rw [e]
/-- one question of isinstance, answered by the kind -/
structure Ans (K : PySem.W.Frag) (H : Hp) (v : V) (T : String) (b : Bool) : Prop where
  ex : ∃ t : String, TyX K H v (.type t) ∧ kitB t T = some b
theorem Ans.rd {K : PySem.W.Frag} {H : Hp} {v : V} {T : String} {b : Bool} {Q : VK} (a : Ans K H v T b) (q : Q (.bl b) H) : rIsi K [v, .ty T] H Q := by
  obtain ⟨t, ty, e⟩ := a.ex
  exact ⟨v, .ty T, .type t, .type T, b, rfl, .ty T, ty, kit_ty e, q⟩
section
variable {K : PySem.W.Frag} {H : Hp} {v : V}
theorem ans_int (d : Dat H v) : Ans K H v "int" (isI v) := by
  cases d with
  | non => exact ⟨"NoneType", .base .non, (by show kitB "NoneType" "int" = some false; decide +kernel)⟩
  | bl b => exact ⟨"bool", .base (.bl b), (by show kitB "bool" "int" = some true; decide +kernel)⟩
  | int i => exact ⟨"int", .base (.int i), (by show kitB "int" "int" = some true; decide +kernel)⟩
  | str z _ => exact ⟨"str", .base (.str z), (by show kitB "str" "int" = some false; decide +kernel)⟩
  | lst e _ => exact ⟨"list", .base (.lst e), (by show kitB "list" "int" = some false; decide +kernel)⟩
  | tup e _ => exact ⟨"tuple", .base (.tup e), (by show kitB "tuple" "int" = some false; decide +kernel)⟩
  | dic e => exact ⟨"dict", .base (.dK e), (by show kitB "dict" "int" = some false; decide +kernel)⟩
theorem ans_bool (d : Dat H v) : Ans K H v "bool" (isB v) := by
  cases d with
  | non => exact ⟨"NoneType", .base .non, (by show kitB "NoneType" "bool" = some false; decide +kernel)⟩
  | bl b => exact ⟨"bool", .base (.bl b), (by show kitB "bool" "bool" = some true; decide +kernel)⟩
  | int i => exact ⟨"int", .base (.int i), (by show kitB "int" "bool" = some false; decide +kernel)⟩
  | str z _ => exact ⟨"str", .base (.str z), (by show kitB "str" "bool" = some false; decide +kernel)⟩
  | lst e _ => exact ⟨"list", .base (.lst e), (by show kitB "list" "bool" = some false; decide +kernel)⟩
  | tup e _ => exact ⟨"tuple", .base (.tup e), (by show kitB "tuple" "bool" = some false; decide +kernel)⟩
  | dic e => exact ⟨"dict", .base (.dK e), (by show kitB "dict" "bool" = some false; decide +kernel)⟩
theorem ans_str (d : Dat H v) : Ans K H v "str" (isS v) := by
  cases d with
  | non => exact ⟨"NoneType", .base .non, (by show kitB "NoneType" "str" = some false; decide +kernel)⟩
  | bl b => exact ⟨"bool", .base (.bl b), (by show kitB "bool" "str" = some false; decide +kernel)⟩
  | int i => exact ⟨"int", .base (.int i), (by show kitB "int" "str" = some false; decide +kernel)⟩
  | str z _ => exact ⟨"str", .base (.str z), (by show kitB "str" "str" = some true; decide +kernel)⟩
  | lst e _ => exact ⟨"list", .base (.lst e), (by show kitB "list" "str" = some false; decide +kernel)⟩
  | tup e _ => exact ⟨"tuple", .base (.tup e), (by show kitB "tuple" "str" = some false; decide +kernel)⟩
  | dic e => exact ⟨"dict", .base (.dK e), (by show kitB "dict" "str" = some false; decide +kernel)⟩
theorem lstOf_tup {a : Addr} {xs : List V} (e : H a = some (.tup xs)) : lstOf H (.ref a) = none := by
  show (match H a with | some (.lst xs) => some xs | _ => none) = none
  rw [e]
theorem lstOf_dic {a : Addr} {kvs : List (Key × V)} (e : H a = some (.dK kvs)) : lstOf H (.ref a) = none := by
  show (match H a with | some (.lst xs) => some xs | _ => none) = none
  rw [e]
theorem tupOf_lst {a : Addr} {xs : List V} (e : H a = some (.lst xs)) : tupOf H (.ref a) = none := by
  show (match H a with | some (.tup xs) => some xs | _ => none) = none
  rw [e]
theorem tupOf_dic {a : Addr} {kvs : List (Key × V)} (e : H a = some (.dK kvs)) : tupOf H (.ref a) = none := by
  show (match H a with | some (.tup xs) => some xs | _ => none) = none
  rw [e]
theorem ans_list (d : Dat H v) : Ans K H v "list" (lstOf H v).isSome := by
  cases d with
  | non => exact ⟨"NoneType", .base .non, (by show kitB "NoneType" "list" = some false; decide +kernel)⟩
  | bl b => exact ⟨"bool", .base (.bl b), (by show kitB "bool" "list" = some false; decide +kernel)⟩
  | int i => exact ⟨"int", .base (.int i), (by show kitB "int" "list" = some false; decide +kernel)⟩
  | str z _ => exact ⟨"str", .base (.str z), (by show kitB "str" "list" = some false; decide +kernel)⟩
  | lst e _ => rw [lstOf_of e]; exact ⟨"list", .base (.lst e), (by show kitB "list" "list" = some true; decide +kernel)⟩
  | tup e _ => rw [lstOf_tup e]; exact ⟨"tuple", .base (.tup e), (by show kitB "tuple" "list" = some false; decide +kernel)⟩
  | dic e => rw [lstOf_dic e]; exact ⟨"dict", .base (.dK e), (by show kitB "dict" "list" = some false; decide +kernel)⟩
theorem ans_tup (d : Dat H v) : Ans K H v "tuple" (tupOf H v).isSome := by
  cases d with
  | non => exact ⟨"NoneType", .base .non, (by show kitB "NoneType" "tuple" = some false; decide +kernel)⟩
  | bl b => exact ⟨"bool", .base (.bl b), (by show kitB "bool" "tuple" = some false; decide +kernel)⟩
  | int i => exact ⟨"int", .base (.int i), (by show kitB "int" "tuple" = some false; decide +kernel)⟩
  | str z _ => exact ⟨"str", .base (.str z), (by show kitB "str" "tuple" = some false; decide +kernel)⟩
  | lst e _ => rw [tupOf_lst e]; exact ⟨"list", .base (.lst e), (by show kitB "list" "tuple" = some false; decide +kernel)⟩
  | tup e _ => rw [tupOf_of e]; exact ⟨"tuple", .base (.tup e), (by show kitB "tuple" "tuple" = some true; decide +kernel)⟩
  | dic e => rw [tupOf_dic e]; exact ⟨"dict", .base (.dK e), (by show kitB "dict" "tuple" = some false; decide +kernel)⟩
end
/-! ### a def of the module as its callers know it -/
structure Cal (P : Program) (w : World) (K : PySem.W.Frag) (mg : Str → Option Value) (base : Heap) (CX : CXT) (k : Nat) (x : Str) (ps : List Str) (sp : Sp) : Prop where
  ex : ∃ (f : Addr) (fd : FuncData), FnOk P w K mg base CX k f fd ps sp ∧ mg x = some (.ref f) ∧ PySem.W.keepIn K (.ref f) = true ∧ Binds K fd ps []
theorem pe_cal {X : Cx} {CX : CXT} {k j : Nat} {x : Str} {ps : List Str} {sp : Sp} {E : XK} {p pos : Pos} {e : Expr} {es : List Expr} {t : TA} (c : Cal X.prog X.w X.K X.mg X.base CX k x ps sp) (hr : Room j X.A) (hj : k ≤ j) (hx : Passes CX X E) (ha : PA X (e :: es) t)
    (hg : Gl X x := by rfl) (hdb : (x == ("__debug__" : Str)) = false := by decide) (he : starEach (e :: es) X.env = (false, eval e X.env) :: starEach es X.env := by rfl) (hpl : (backTo pos (starEach es X.env)).any (·.1) = false := by rfl) :
    PE X (.Call (.Name x p) (e :: es) [] pos) (tCall sp [] E t) := by
  obtain ⟨f, fd, G, hm, hk, hb⟩ := c.ex
  exact pe_call G (hr.mono hj) hg hm hk hb .nil hx ha hdb he hpl
/-- what the module's names of built-ins are: themselves -/
structure Blt (mg : Str → Option Value) : Prop where
  isinstance : mg "isinstance" = none
  int : mg "int" = none
  bool : mg "bool" = none
  str : mg "str" = none
  list : mg "list" = none
  tuple : mg "tuple" = none
  len : mg "len" = none
  all : mg "all" = none
  enumerate : mg "enumerate" = none
  range : mg "range" = none
  max : mg "max" = none
/-- isinstance(x, T), x in slot i -/
theorem isi_rd {K : PySem.W.Frag} {σ : St} {H : Hp} {i : Nat} {v : V} {T : String} {b : Bool} {Q : VK} (hv : σ[i]? = some (some v)) (a : Ans K H v T b) (q : Q (.bl b) H) : tCB (rIsi K) (tCons (tVar i) (tCons (tC (.ty T)) tNil)) σ H Q := by
  refine ⟨v, hv, ?_⟩
  show rIsi K [v, .ty T] H Q
  exact a.rd q
section
variable {X : Cx}
theorem pt_isi {e : Expr} {te : TE} {n : Str} {T : String} {p p1 pos : Pos} (B : Blt X.mg) (he : PE X e te) (hm : X.mg n = none) (hv : bootBuiltins n = some (.type T)) (hg : Gl X "isinstance" := by rfl) (hgn : Gl X n := by rfl) (hnn : n ≠ "__name__" := by decide) (hd : (n == ("__debug__" : Str)) = false := by decide) (hs1 : starEach [e, .Name n p1] X.env = (false, eval e X.env) :: starEach [.Name n p1] X.env := by rfl) (hs2 : starEach [Expr.Name n p1] X.env = (false, eval (.Name n p1) X.env) :: starEach [] X.env := by rfl) (hpl : (backTo pos (starEach [Expr.Name n p1] X.env)).any (·.1) = false := by rfl) :
    PE X (.Call (.Name "isinstance" p) [e, .Name n p1] [] pos) (tCB (rIsi X.K) (tCons te (tCons (tC (.ty T)) tNil))) :=
  pe_callB call_isi hg B.isinstance PyProof.Rows.boot_isinstance (pa_cons he (pa_cons (pe_bltn hgn hm hv rfl hnn hd) pa_nil hs2) hs1) (by decide) (by decide) hs1 hpl
end
end K1

/-! from K4B -/
namespace K1
open PySem L2
section
variable {P : Program} {w : World} {K : PySem.W.Frag} {mg : Str → Option Value} {base : Heap}
/-! ### is_integer -/
def intV (v : V) : Bool := isI v && !isB v
def spInteger : Sp := fun vs H Q _ => ∃ v, vs = [v] ∧ Dat H v ∧ Q (.bl (intV v)) H
/-! ### is_within -/
def wholeV (v : V) (lo hi : Int) : Bool := match v with | .int i => decide (lo ≤ i) && decide (i ≤ hi) | _ => false
theorem intV_is {v : V} (h : intV v = true) : ∃ i, v = .int i := by
  cases v with
  | int i => exact ⟨i, rfl⟩
  | _ => cases h
theorem wholeV_not {v : V} {lo hi : Int} (h : ¬ intV v = true) : wholeV v lo hi = false := by
  cases v with
  | int i => exact absurd (show intV (V.int i) = true from rfl) h
  | _ => rfl
def spWithin : Sp := fun vs H Q _ => ∃ (v : V) (lo hi : Int), vs = [v, .int lo, .int hi] ∧ Dat H v ∧ Q (.bl (wholeV v lo hi)) H
/-! ### is_name -/
def letterV (c : Nat) : Bool := decide (97 ≤ c) && decide (c ≤ 122)
def nameS (s : Str) : Bool := (decide (1 ≤ s.length) && decide (s.length ≤ 8)) && s.cps.toList.all letterV
def nameV : V → Bool | .str s => nameS s | _ => false
theorem le_one (a b : Nat) : (!decide (([b] : List Nat) < [a])) = decide (a ≤ b) := by
  rw [Bool.eq_iff_iff]
  simp [List.cons_lt_cons_iff]
theorem start_drop {α : Type} (l : List α) (i : Nat) (x : α) (h : l[i]? = some x) : l.take (i + 1) = l.take i ++ [x] := by
  rw [List.take_add_one, h]
  rfl
/-- a comprehension over a text's signs -/
theorem lc_str {x : Str} {g : TG} {tt : TT} {te : TE} {vs : List Nat} {σ : St} {H1 : Hp} {D : Addr} {Qd : Hp → Prop} (Pv : Nat → Hp → Prop) (h0 : Pv 0 (upd H1 D (.lst [])))
    (hs : ∀ i c H, x.cps.toList[i]? = some c → Pv i H → g (.str ⟨#[c]⟩) (wipe σ vs) H fun σ2 H2 => wipe σ2 vs = wipe σ vs ∧ tt σ2 H2 fun b H3 =>
      if b = true then te σ2 H3 fun y H4 => ∃ acc, H4 D = some (.lst acc) ∧ acc.length < sizeLine ∧ Pv (i + 1) (upd H4 D (.lst (acc ++ [y]))) else Pv (i + 1) H3) (hd : ∀ H, Pv x.cps.size H → Qd H) :
    ∃ W : Nat → Nat → Hp → Prop, (∃ m, W 0 m (upd H1 D (.lst []))) ∧ ∀ i m H, W i m H →
      ((Its x).stop i H ∧ Qd H) ∨ ((Its x).go i H ∧ ∃ Nx : Hp → Prop, (∀ H', Nx H' → ∃ m', m' < m ∧ W (i + 1) m' H') ∧ ∀ v H', (Its x).yld i H v H' → g v (wipe σ vs) H' fun σ2 H2 => wipe σ2 vs = wipe σ vs ∧ tt σ2 H2 fun b H3 =>
        if b = true then te σ2 H3 fun y H4 => ∃ acc, H4 D = some (.lst acc) ∧ acc.length < sizeLine ∧ Nx (upd H4 D (.lst (acc ++ [y]))) else Nx H3) := by
  refine ⟨fun i m H => m + i = x.cps.size ∧ Pv i H, ⟨x.cps.size, by omega, h0⟩, ?_⟩
  rintro i m H ⟨hm, p⟩
  by_cases hlt : i < x.cps.size
  · refine .inr ⟨hlt, Pv (i + 1), fun H' p' => ⟨x.cps.size - (i + 1), by omega, by omega, p'⟩, fun v H' y => ?_⟩
    obtain ⟨e, c, hc, rfl⟩ := y
    subst e
    exact hs i c _ (by rw [Array.getElem?_toList]; exact hc) p
  · have e : i = x.cps.size := by omega
    subst e
    exact .inl ⟨Nat.le_refl _, hd H p⟩
def spName : Sp := fun vs H Q _ => ∃ v, vs = [v] ∧ Dat H v ∧ ∀ H', Same H H' → Q (.bl (nameV v)) H'
end
end K1

/-! from K4C -/
namespace K1
open PySem L2
/-- for i, x in enumerate(xs) -/
theorem for_enum {K : PySem.W.Frag} {a : Addr} {xs : List V} {g : TG} {tb : TS} {D : Ends} {σ : St} {H : Hp} (Pv : Nat → St → Hp → Prop) (h0 : Pv 0 σ H) (hl : ∀ i σ H, i ≤ xs.length → Pv i σ H → SqL K H a xs)
    (hs : ∀ i x σ H T, xs[i]? = some x → Pv i σ H → H T = none → g (.ref T) σ (upd H T (.tup [.int (i : Nat), x])) fun σ2 H2 => tb { D with nx := Pv (i + 1), ct := Pv (i + 1), bk := D.nx } σ2 H2) (hd : ∀ σ H, Pv xs.length σ H → D.nx σ H) :
    ∃ W : Nat → Nat → St → Hp → Prop, (∃ m, W 0 m σ H) ∧ ∀ i m σ H, W i m σ H →
      ((Ite K a).stop i H ∧ D.nx σ H) ∨ ((Ite K a).go i H ∧ ∃ N : St → Hp → Prop, (∀ σ' H', N σ' H' → ∃ m', m' < m ∧ W (i + 1) m' σ' H') ∧ ∀ x H', (Ite K a).yld i H x H' → g x σ H' fun σ2 H2 => tb { D with nx := N, ct := N, bk := D.nx } σ2 H2) := by
  refine ⟨fun i m σ H => m + i = xs.length ∧ Pv i σ H, ⟨xs.length, by omega, h0⟩, ?_⟩
  rintro i m σ H ⟨hm, p⟩
  have q := hl i σ H (by omega) p
  by_cases hlt : i < xs.length
  · have hx : xs[i]? = some xs[i] := List.getElem?_eq_getElem hlt
    refine .inr ⟨⟨xs, xs[i], q, hx⟩, Pv (i + 1), fun σ' H' p' => ⟨xs.length - (i + 1), by omega, by omega, p'⟩, fun v H' y => ?_⟩
    obtain ⟨T, x, rfl, hT, rfl, hq⟩ := y
    exact hs i x σ H T (hq xs q) p hT
  · have e : i = xs.length := by omega
    subst e
    exact .inl ⟨⟨xs, q, Nat.le_refl _⟩, hd σ H p⟩
/-- a pair is taken apart into two slots -/
theorem pair_rd {K : PySem.W.Frag} {i j : Nat} {T : Addr} {x y : V} {σ : St} {H : Hp} {Q : St → Hp → Prop} (h : Q ((σ.set i (some x)).set j (some y)) (upd H T (.tup [x, y]))) : gTup K 2 (gCons (gName i) (gCons (gName j) gNil)) (.ref T) σ (upd H T (.tup [x, y])) Q := by
  refine ⟨T, [x, y], rfl, SqT.of upd_same, rfl, ?_⟩
  exact ⟨x, [y], rfl, y, [], rfl, rfl, h⟩
theorem same_new {H H1 : Hp} {T : Addr} {o : HO} (s : Same H H1) (h : H1 T = none) : Same H (upd H1 T o) := fun b u e => by
  rw [upd_ne (ne_of_none (s b u e) h)]
  exact s b u e
/-! ### names seen -/
def keysOf (ss : List Str) : List (Key × V) := ss.map fun s => ((Sum.inr s : Key), V.bl true)
theorem keysOf_val (ss : List Str) (s : Str) : (valV (keysOf ss) (Sum.inr s : Key)).isSome = ss.contains s := by
  induction ss with
  | nil => rfl
  | cons a r ih =>
    rw [List.contains_cons]
    by_cases e : a = s
    · subst e
      rw [show keysOf (a :: r) = ((Sum.inr a : Key), V.bl true) :: keysOf r from rfl, valV_pos rfl]
      simp
    · have e1 : valV (keysOf (a :: r)) (Sum.inr s : Key) = valV (keysOf r) (Sum.inr s : Key) := by
        show valV (((Sum.inr a : Key), V.bl true) :: keysOf r) (Sum.inr s : Key) = _
        unfold valV
        rw [List.find?_cons, show decide (((Sum.inr a : Key), V.bl true).1 = (Sum.inr s : Key)) = false from decide_eq_false fun z => e (Sum.inr.inj z)]
      rw [e1, ih, show (s == a) = false from by simpa using fun z => e z.symm, Bool.false_or]
theorem keysOf_put (ss : List Str) (s : Str) (h : ss.contains s = false) : putK (keysOf ss) (Sum.inr s : Key) (V.bl true) = keysOf (ss ++ [s]) := by
  have e : valV (keysOf ss) (Sum.inr s : Key) = none := by
    have z := keysOf_val ss s
    rw [h] at z
    cases q : valV (keysOf ss) (Sum.inr s : Key) with
    | none => rfl
    | some v => rw [q] at z; cases z
  rw [putK_new _ e]
  unfold keysOf
  rw [List.map_append]
  rfl
theorem inV_str (s : Str) (ss : List Str) : inV (.str s) (ss.map V.str) = ss.contains s := by
  unfold inV
  induction ss with
  | nil => rfl
  | cons a r ih =>
    rw [List.map_cons, List.any_cons, ih, List.contains_cons]
    congr 1
    show (a == s) = (s == a)
    rw [Bool.eq_iff_iff, beq_iff_eq, beq_iff_eq]
    exact ⟨Eq.symm, Eq.symm⟩
theorem flat_str (ss : List Str) : (ss.map V.str).all flatV = true := by
  rw [List.all_map, List.all_eq_true]
  intro s _
  rfl
/-! ### first_bad_name -/
def badFrom (bar : List Str) : List V → List Str → Nat → Option Nat
  | [], _, _ => none
  | .str s :: r, seen, i => if (nameS s && !seen.contains s && !bar.contains s) = true then badFrom bar r (seen ++ [s]) (i + 1) else some i
  | _ :: _, _, i => some i
def optV : Option Nat → V | none => .non | some i => .int (i : Nat)
def firstBad (H : Hp) (v : V) (most : Int) (bar : List Str) : V := match lstOf H v with
  | none => .int (-1)
  | some xs => if (most : Int) < (xs.length : Int) then .int (-1) else optV (badFrom bar xs [] 0)
theorem badFrom_no {bar seen : List Str} {v : V} {r : List V} {i : Nat} (h : nameV v = false) : badFrom bar (v :: r) seen i = some i := by
  cases v with
  | str s =>
    have h' : nameS s = false := h
    show (if (nameS s && !seen.contains s && !bar.contains s) = true then _ else some i) = some i
    rw [h', if_neg (by simp)]
  | _ => rfl
theorem badFrom_str {bar seen : List Str} {s : Str} {r : List V} {i : Nat} : badFrom bar (.str s :: r) seen i = if (nameS s && !seen.contains s && !bar.contains s) = true then badFrom bar r (seen ++ [s]) (i + 1) else some i := rfl
theorem nameV_is {v : V} (h : nameV v = true) : ∃ s, v = .str s ∧ nameS s = true := by
  cases v with
  | str s => exact ⟨s, rfl, h⟩
  | _ => cases h
section
variable {P : Program} {w : World} {K : PySem.W.Frag} {mg : Str → Option Value} {base : Heap}
def spFirst : Sp := fun vs H Q _ => ∃ (v : V) (most : Int) (b : Addr) (bar : List Str), vs = [v, .int most, .ref b] ∧ Dat H v ∧ H b = some (.lst (bar.map V.str)) ∧ most ≤ 100 ∧ ∀ H', Same H H' → Q (firstBad H v most bar) H'
end
end K1

/-! from K4X -/
/-! own exceptions over ArithmeticError with an __init__ of their own -/
namespace PySem
namespace K1X
open PySem.W PySem.Calls PyProof.Rows PySem.HandSPX
abbrev tailA : List Value := [.type "ArithmeticError", .type "Exception", .type "BaseException", .type "object"]
/-- one own class between, then ArithmeticError's line -/
def LineA (bm : List Value) : Prop := ∃ R : Addr, bm = .ref R :: tailA
theorem LineA.has {bm : List Value} (l : LineA bm) (T : String) : bm.contains (.type T) = tailA.contains (.type T) := by
  obtain ⟨R, rfl⟩ := l
  rw [List.contains_cons, show (Value.type T == Value.ref R) = false from rfl, Bool.false_or]
theorem LineA.free {bm : List Value} (l : LineA bm) (self : Value) (C : Addr) : refuseLoop self "__setattr__" (.ref C :: bm) = pure () := by
  obtain ⟨R, rfl⟩ := l
  rw [refuseLoop_ref, refuseLoop_ref]
  exact PySem.F.store_ArithmeticError.passes self
section
open Builtin Builtin.ObjectAttr
variable {pg : Program} {wd : World} {Ar : Around} {Er : Value → Shared → Prop} {Rs : Result → Shared → Prop} {h0 : Heap} {gs : Array GenState} {dr : Drawn} {tk0 : Nat} {oss : OsState}
/-- a store by object.__setattr__ on such an exception comes to the store in its own dict -/
theorem own_store {Kf : Frag} {nm : Str} {tk : Tok} {v : Value} {x C : Addr} {ob : Obj} {odd : Option Obj} {cd : ClassData} {bm : List Value} (X : Kf.In h0) (J : InstAt h0 x ob C odd) (hcd : clsIn Kf C = some cd) (hm : cd.mro = .ref C :: bm) (l : LineA bm)
    (ha : findIn Kf (.ref C) nm = some none)
    (q : ∀ (A2 : Around) (E2 : Value → Shared → Prop) (Q2 : Fin → Shared → Prop), (∀ s2, Rs (.ok (.ret .none)) s2 → Q2 (.done (.ret .none)) s2) → wpAny (model pg wd) A2 (storeInOwnDict (.ref x) (.ref C) (.str nm tk) nm v false) Q2 E2 ⟨h0, gs, dr, tk0, oss⟩) :
    codeAny (model pg wd) Ar (.call (.builtin "object.__setattr__") ⟨[.ref x, .str nm tk, v], []⟩) Rs ⟨h0, gs, dr, tk0, oss⟩ := by
  have ST := PySem.F.store_object
  have one : cd.mro.isEmpty = false := by
    rw [hm]
    rfl
  have obj : cd.mro.contains (.type "object") = true := by
    rw [hm, List.contains_cons, l.has, show (Value.type "object" == Value.ref C) = false from rfl, Bool.false_or]
    decide +kernel
  have below : Looks (model pg wd) h0 (isInstance (.ref x) (.type "object")) true :=
    J.type.andThen (looks_mroIn X (by
      unfold mroIn
      rw [hcd, Option.bind_some, if_neg (by rw [one]; decide), obj]))
  refine codeAny_call_builtin ST.slot.plain ST.entry ?_
  refine @check_slot (model pg wd) _ _ ⟨h0, gs, dr, tk0, oss⟩ "object.__setattr__" "object" "__setattr__" (.ref x) [.str nm tk, v] [] _ ST.kind ST.split below (ST.args (.ref x) (.str nm tk) v) ?_
  have line : Looks (model pg wd) h0 (mroOf (.ref C)) cd.mro := (looks_clsIn X hcd).andThen .now
  have none' : Looks (model pg wd) h0 (storeTaker? none) none := .now
  rw [osa_eq, refuse_eq]
  refine wpAny_bind (wpAny_bind (J.type.at ?_))
  refine wpAny_bind (line.at ?_)
  rw [hm, l.free]
  refine wpAny_pure (wpAny_bind (J.type.at ?_))
  refine wpAny_bind ((looks_findIn X ha).at ?_)
  refine wpAny_bind (none'.at ?_)
  exact q _ _ _ fun _ z => z
theorem put_more {Md : Model} {dx : Addr} {nm : Str} {tk : Tok} {v : Value} {m0 : Str → Option Value} {ns : List Str} {Q : Fin → Shared → Prop} (sp : h0.Ns1 dx m0) (inn : Within m0 ns) (few : ns.length ≤ 1000)
    (q : ∀ h1 tk1, h1.Ns1 dx (fun y => if y = nm then some v else m0 y) → Heap.SameBut dx h0 h1 → Q (.done (.ret .none)) ⟨h1, gs, dr, tk1, oss⟩) :
    wpAny Md Ar (storeInDict dx (.str nm tk) nm v) Q Er ⟨h0, gs, dr, tk0, oss⟩ := by
  unfold storeInDict newKeyGuard
  refine wpAny_bind (wpAny_pure (wpAny_bind ?_))
  refine wpAny_nsSet1 sp fun h1 sp1 sb => ?_
  obtain ⟨oD, esD, epD, hoD, hdD, hcD⟩ := sp1.count (Within.cons nm v inn)
  have small : esD.size ≤ sizeLine + 1 := by
    have z : (nm :: ns).length ≤ 1001 := by rw [List.length_cons]; omega
    rw [sizeLine_eq]
    omega
  refine wpAny_bind (wpAny_lookBehind hoD ?_ ?_)
  · rw [hdD]
    exact pastItsLine_dict small
  · wp_walk
    exact q h1 _ sp1 sb
/-- its first field: the dict is made -/
theorem set_first {Kf : Frag} {nm : Str} {tk : Tok} {v : Value} {x C : Addr} {fv : Array Value} {cd : ClassData} {bm : List Value} (X : Kf.In h0) (hx : h0.get? x = some { cls := .ref C, data := .fields fv }) (hcd : clsIn Kf C = some cd) (hm : cd.mro = .ref C :: bm) (l : LineA bm)
    (hh : cd.hasDict = true) (ha : findIn Kf (.ref C) nm = some none)
    (hq : ∀ h1 tk1 dx, (∀ b o, b ≠ x → h0.get? b = some o → h1.get? b = some o) → h0.objs.size ≤ dx → dx ≠ x → h1.get? x = some { cls := .ref C, dict := some dx, data := .fields fv } →
      h1.Ns1 dx (fun y => if y = nm then some v else none) → Rs (.ok (.ret .none)) ⟨h1, gs, dr, tk1, oss⟩) :
    codeAny (model pg wd) Ar (.call (.builtin "object.__setattr__") ⟨[.ref x, .str nm tk, v], []⟩) Rs ⟨h0, gs, dr, tk0, oss⟩ := by
  have J : InstAt h0 x { cls := .ref C, data := .fields fv } C none := ⟨hx, rfl, rfl, trivial⟩
  have ap : x ≠ h0.objs.size := Nat.ne_of_lt (Heap.lt_size hx)
  refine own_store X J hcd hm l ha fun A2 E2 Q2 hQ => ?_
  have cls : Looks (model pg wd) h0 (classData C) cd := looks_clsIn X hcd
  obtain ⟨n1, n2, n3, n4, n5, n6, n7, n8, n9, n10, n11⟩ := cd
  dsimp only at hh
  subst hh
  unfold storeInOwnDict ownDictForStores
  repeat (first | with_reducible refine store_in_new ?_ ?_ | with_reducible refine wpAny_loadPart_at hx ?_ | with_reducible refine cls.at ?_ | wp_step)
  · exact ⟨_, #[], _,
      ((Heap.get?_update_ne _ _ _ _ ap.symm).trans (Heap.get?_push_at rfl rfl)),
      rfl, fun e he => absurd he (by simp), fun _ => rfl⟩
  · intro h1 tk1 sp1 sb
    have up : (h0.push { cls := .type "dict", data := .dict #[] }).get? x = some { cls := .ref C, data := .fields fv } := Heap.get?_push_of_some _ hx
    refine hQ _ (hq h1 tk1 h0.objs.size (fun b o nb ob => ?_) (Nat.le_refl _) ap.symm ?_ sp1)
    · have nb2 : b ≠ h0.objs.size := Nat.ne_of_lt (Heap.lt_size ob)
      exact (sb.2 b nb2).trans ((Heap.get?_update_ne _ _ _ _ nb).trans (Heap.get?_push_of_some _ ob))
    · exact (sb.2 x ap).trans (Heap.get?_update_self _ up rfl)
/-- a further field -/
theorem set_next {Kf : Frag} {nm : Str} {tk : Tok} {v : Value} {x C dx : Addr} {fv : Array Value} {cd : ClassData} {bm : List Value} {m0 : Str → Option Value} {ns : List Str} (X : Kf.In h0) (hx : h0.get? x = some { cls := .ref C, dict := some dx, data := .fields fv })
    (sp : h0.Ns1 dx m0) (inn : Within m0 ns) (few : ns.length ≤ 1000) (hcd : clsIn Kf C = some cd) (hm : cd.mro = .ref C :: bm) (l : LineA bm) (hh : cd.hasDict = true) (ha : findIn Kf (.ref C) nm = some none)
    (hq : ∀ h1 tk1, (∀ b o, b ≠ dx → h0.get? b = some o → h1.get? b = some o) → h1.Ns1 dx (fun y => if y = nm then some v else m0 y) → Rs (.ok (.ret .none)) ⟨h1, gs, dr, tk1, oss⟩) :
    codeAny (model pg wd) Ar (.call (.builtin "object.__setattr__") ⟨[.ref x, .str nm tk, v], []⟩) Rs ⟨h0, gs, dr, tk0, oss⟩ := by
  obtain ⟨oD, esD, epD, hoD, hdD, _⟩ := sp.count inn
  have J : InstAt h0 x { cls := .ref C, dict := some dx, data := .fields fv } C (some oD) := ⟨hx, rfl, rfl, hoD⟩
  refine own_store X J hcd hm l ha fun A2 E2 Q2 hQ => ?_
  have cls : Looks (model pg wd) h0 (classData C) cd := looks_clsIn X hcd
  obtain ⟨n1, n2, n3, n4, n5, n6, n7, n8, n9, n10, n11⟩ := cd
  dsimp only at hh
  subst hh
  unfold storeInOwnDict ownDictForStores
  repeat (first | with_reducible refine put_more sp inn few ?_ | with_reducible refine wpAny_loadPart_at hx ?_ | with_reducible refine cls.at ?_ | wp_step)
  intro h1 tk1 sp1 sb
  exact hQ _ (hq h1 tk1 (fun b o nb ob => (sb.2 b nb).trans ob) sp1)
end
end K1X
end PySem
namespace L2
open PySem PySem.Spec PyProof.Rows PySem.K1X
/-- what the written part says of such a class -/
structure ExA (K : PySem.W.Frag) (C : Addr) : Prop where
  cls : ∃ nm q N bs bm sn sub ab col dd k0 k1 k2 k3 k5, K.lookup C = some (excClassObj nm q C N bs bm true sn sub ab col dd k0 k1 k2 k3 k5 "ArithmeticError.__new__") ∧ LineA bm
  sa : PySem.W.findIn K (.ref C) "__setattr__" = some (some (.builtin "object.__setattr__"))
  exC : PySem.W.subIn K (.ref C) (.type "BaseException") = some true
  tyC : PySem.W.typeIn K (.ref C) = some (.type "type")
  kC : PySem.W.keepIn K (.ref C) = true
section
variable {X : Cx} {pins : List (Addr × Obj)} {σ : St} {H : Hp} {s : Shared} {a C dx : Addr} {f : Str} {y : V} {u : Value} {fs : List (Str × V)} {Q : Unit → Shared → Prop} {E : Value → Shared → Prop} {A : Around}
/-- self.f = y, the first one -/
theorem ea_first (T : ExA X.K C) (I : Inv X pins σ H s) (e : H a = some (exo a C none)) (no : PySem.W.findIn X.K (.ref C) f = some none) (ry : RelV y u)
    (h : ∀ dx s', H dx = none → dx ≠ a → Inv X pins σ (upd (upd H dx (exd dx [(f, y)])) a (exo a C (some dx))) s' → Q () s') : wpAny (model X.prog X.w) A (setAttr (.ref a) f u) Q E s := by
  obtain ⟨nm, q, N, bs, bm, sn, sub, ab, col, dd, k0, k1, k2, k3, k5, hC, line⟩ := T.cls
  have there : PySem.W.clsIn X.K C = some { name := nm, bases := bs, mro := .ref C :: bm, ns := N, qualname := q, hasDict := true, slotNames := sn, subclasses := sub, abstract := ab, collection := col, hasDel := false } := by
    unfold PySem.W.clsIn
    rw [hC] <;> rfl
  obtain ⟨t1, ho⟩ := exo_at I.hok e
  obtain ⟨hp, g, d, t, os⟩ := s
  refine PySem.W.set_plain I.kIn (ox := { cls := .ref C, dict := none, data := .fields #[.ref t1, .none, .none, .none, .bool false, .none] }) (od := none) ⟨ho, rfl, rfl, trivial⟩ T.sa ?_
  refine set_first I.kIn ho there rfl line rfl no fun h1 tk1 dx kp dn dne hx sp => ?_
  have fresh : H dx = none := I.hok.fresh dn
  have old : ∀ {b : Addr} {o : Obj}, hp.get? b = some o → b ≠ dx := fun {b o} z => Nat.ne_of_lt (Nat.lt_of_lt_of_le (Heap.lt_size z) dn)
  have other : ∀ {b : Addr}, H b = none → b ≠ a := fun {b} n z => by
    rw [z, e] at n
    cases n
  have un : Un X.fs [] H (upd (upd H dx (exd dx [(f, y)])) a (exo a C (some dx))) hp h1 := {
    keep := fun b o z n _ _ => kp b o (other n) z
    slot := fun b o z n _ _ => ⟨o.slots, kp b o (other n) z⟩
    free := fun b o z n _ => by
      rw [upd_ne (other n), upd_ne (old z)]
      exact n
    there := fun b o z _ => by
      by_cases hb : b = a
      · exact ⟨_, by rw [hb]; exact hx⟩
      · exact ⟨o, kp b o hb z⟩
    tups := fun b xs z => by
      rw [upd_ne (at_ne e z exo_tup), upd_ne (ne_of_none z fresh)]
      exact z
    frzs := fun b o v z => by
      rw [upd_ne (at_ne e z exo_frz), upd_ne (ne_of_none z fresh)]
      exact z
    tbls := fun b ps z => ⟨#[], by
      rw [upd_ne (at_ne e z exo_tbl), upd_ne (ne_of_none z fresh), z]
      simp⟩ }
  refine h dx _ fresh dne (I.un (t' := tk1) un fun b o z => ?_)
  by_cases hb : b = a
  · subst hb
    rw [upd_same] at z
    cases z
    exact exo_ok hx
  · rw [upd_ne hb] at z
    by_cases hd : b = dx
    · subst hd
      rw [upd_same] at z
      cases z
      exact exd_ok sp (relO_put (fs := []) ry fun g => True.intro)
    · rw [upd_ne hd] at z
      refine (I.hok b o z).stay (fun c v hc r => kp c v ?_ r) (fun c hc => ?_) (fun c xs hc => ?_)
      · rcases hc with hc | hc
        · rw [hc]
          exact hb
        · exact at_ne e hc exo_own
      · rw [upd_ne (at_ne e hc exo_own), upd_ne (ne_of_none hc fresh)]
        exact hc
      · rw [upd_ne (at_ne e hc exo_tup), upd_ne (ne_of_none hc fresh)]
        exact hc
/-- self.f = y, a further one -/
theorem ea_next (T : ExA X.K C) (I : Inv X pins σ H s) (e : H a = some (exo a C (some dx))) (ed : H dx = some (exd dx fs)) (hl : fs.length ≤ 900) (no : PySem.W.findIn X.K (.ref C) f = some none) (ry : RelV y u)
    (h : ∀ s', Inv X pins σ (upd H dx (exd dx ((f, y) :: fs))) s' → Q () s') : wpAny (model X.prog X.w) A (setAttr (.ref a) f u) Q E s := by
  obtain ⟨nm, q, N, bs, bm, sn, sub, ab, col, dd, k0, k1, k2, k3, k5, hC, line⟩ := T.cls
  have there : PySem.W.clsIn X.K C = some { name := nm, bases := bs, mro := .ref C :: bm, ns := N, qualname := q, hasDict := true, slotNames := sn, subclasses := sub, abstract := ab, collection := col, hasDel := false } := by
    unfold PySem.W.clsIn
    rw [hC] <;> rfl
  obtain ⟨t1, ho⟩ := exo_at I.hok e
  obtain ⟨mA, sp, rel⟩ := exd_at I.hok ed
  have inn := within_of rel
  obtain ⟨hp, g, d, t, os⟩ := s
  obtain ⟨oD, _, _, hoD, _, _⟩ := sp.count inn
  refine PySem.W.set_plain I.kIn (ox := { cls := .ref C, dict := some dx, data := .fields #[.ref t1, .none, .none, .none, .bool false, .none] }) (od := some oD) ⟨ho, rfl, rfl, hoD⟩ T.sa ?_
  refine set_next I.kIn ho sp inn (by rw [List.length_map]; omega) there rfl line rfl no fun h1 tk1 kp sp1 => ?_
  have hd : ∃ o, h1.get? dx = some o := by
    obtain ⟨o, _, _, z, _⟩ := sp1
    exact ⟨o, z⟩
  refine h _ (I.write (t' := tk1) (x := dx) (e := dx) (o := exd dx ((f, y) :: fs)) ?_ (.inl rfl) kp hd (exd_ok sp1 (relO_put ry rel)))
  rw [ed]
  exact True.intro
end
/-- self.f = e within such an __init__ -/
def tEa (K : PySem.W.Frag) (f : Str) (to te : TE) : TS := fun D σ H => te σ H fun y H1 => to σ H1 fun x H2 => ∃ a C : Addr, x = .ref a ∧ ExA K C ∧ PySem.W.findIn K (.ref C) f = some none ∧
  ((H2 a = some (exo a C none) ∧ ∀ dx, H2 dx = none → dx ≠ a → D.nx σ (upd (upd H2 dx (exd dx [(f, y)])) a (exo a C (some dx)))) ∨
    ∃ (dx : Addr) (fs : List (Str × V)), H2 a = some (exo a C (some dx)) ∧ H2 dx = some (exd dx fs) ∧ fs.length ≤ 900 ∧ D.nx σ (upd H2 dx (exd dx ((f, y) :: fs))))
section
variable {X : Cx} {o e : Expr} {es : List Expr} {to te : TE} {ta : TA} {f : Str} {p p' p1 p2 pos : Pos}
theorem ps_ea (ho : PE X o to) (he : PE X e te) (sw : swapsWith e (some (.Attribute o f p')) pos.line X.env = pure false := by rfl) : PS X (.Assign [.Attribute o f p'] e pos) (tEa X.K f to te) := by
  refine ⟨fun pins s σ H D I h => ?_⟩
  refine plainObj_wpAny_Assign_Attribute ?_ sw
  refine thn (he.run pins s σ H _ I h) fun v s1 ⟨y, H1, I1, r1, q1⟩ => ?_
  refine thn (ho.run pins s1 σ H1 _ I1 q1) fun u s2 ⟨x, H2, I2, r2, a, C, ex, T, no, q⟩ => ?_
  subst ex
  obtain rfl : u = Value.ref a := r2
  rcases q with ⟨ea, q⟩ | ⟨dx, fs, ea, ed, hl, q⟩
  · exact ea_first T I2 ea no r1 fun dx s' n ne J => ⟨σ, _, J, q dx n ne⟩
  · exact ea_next T I2 ea ed hl no r1 fun s' J => ⟨σ, _, J, q⟩
/-- C(e, ..) of such a class, to be raised -/
theorem pmk_ea {CX : CXT} {x : Str} {C fI : Addr} {k : Nat} {fd : FuncData} {ps : List Str} {sp : Sp} {ds : List Value} {dvs : List V} (T : ExA X.K C) (iC : PySem.W.findIn X.K (.ref C) "__init__" = some (some (.ref fI))) (tI : PySem.W.typeIn X.K (.ref fI) = some (.type "function"))
    (F1 : FnOk X.prog X.w X.K X.mg X.base CX k fI fd ps sp) (hr : Room (k + 1) X.A) (hb : Binds X.K fd ps ds) (hd : Vals dvs ds) (hx : Passes CX X (fun _ _ _ => False)) (hg : Gl X x) (hm : X.mg x = some (.ref C)) (ha : PA X (e :: es) ta)
    (hdb : (x == ("__debug__" : Str)) = false := by decide) (he : starEach (e :: es) X.env = (false, eval e X.env) :: starEach es X.env := by rfl) (hpl : (backTo pos (starEach es X.env)).any (·.1) = false := by rfl) :
    PMk X (.Call (.Name x p) (e :: es) [] pos) (tMkO C sp dvs ta) := by
  intro pins s σ H Q I h
  obtain ⟨nm, q, N, bs, bm, sn, sub, ab, col, dd, k0, k1, k2, k3, k5, hC, line⟩ := T.cls
  refine wpAny_Call_Name_kw (ld_glob I hg hm ?_ hdb)
  refine PySem.W.callWith_K (h₀ := X.base) I.ok.mod.kin T.kC ?_ he hpl
  refine thn (ha.run pos pins s σ H _ I h) fun us s1 ⟨vs, H1, I1, r1, hz, q1⟩ => ⟨I1.kIn, ?_⟩
  show wpAny _ _ (call (.ref C) us) _ _ _
  obtain ⟨hp, g, dr, tk, os⟩ := s1
  have le1 : hp.objs.size ≤ hp.objs.size + 1 := Nat.le_succ _
  have free : H1 (hp.objs.size + 1) = none := I1.hok.fresh le1
  have ask := q1 (hp.objs.size + 1) free
  have stay : ∀ b o, hp.get? b = some o → ((hp.push (PySem.W.kdv_tup us)).push (PySem.HandSPX.excO C hp.objs.size)).get? b = some o := fun b o z => Heap.get?_push_of_some _ (Heap.get?_push_of_some _ z)
  have got : ((hp.push (PySem.W.kdv_tup us)).push (PySem.HandSPX.excO C hp.objs.size)).get? (hp.objs.size + 1) = some (PySem.HandSPX.excO C hp.objs.size) := by heap_get
  have I2 : Inv X pins σ (upd H1 (hp.objs.size + 1) (exo (hp.objs.size + 1) C none)) ⟨(hp.push (PySem.W.kdv_tup us)).push (PySem.HandSPX.excO C hp.objs.size), g, dr, tk, os⟩ := by
    refine I1.laid (t' := tk) (a := hp.objs.size + 1) (o := exo (hp.objs.size + 1) C none) ?_ le1 (exo_ok got)
    exact stay
  have r2 : Vals (V.ref (hp.objs.size + 1) :: (vs ++ dvs)) (Value.ref (hp.objs.size + 1) :: (us ++ ds)) := .cons rfl (r1.append hd)
  have len : (Value.ref (hp.objs.size + 1) :: us ++ ds).length = ps.length := by
    have z := r2.length
    rw [F1.len _ _ _ _ ask] at z
    exact z.symm
  have few : us.length ≤ sizeLine := by
    rw [← Paired.length r1, sizeLine_eq]
    omega
  refine wpAny_call ?_
  refine PySem.HandSPX.call_own F.excBase_ArithmeticError (fun Y => line.has Y) (I1.kIn _ _ hC) (PySem.W.looks_findIn I1.kIn iC) (fun self => PySem.W.bind_fn I1.kIn self tI) few ?_
  refine codeAny_mono (F1.run _ X.stack _ _ ⟨Value.ref (hp.objs.size + 1) :: us, []⟩ (Value.ref (hp.objs.size + 1) :: (us ++ ds)) _ _ (fun _ _ _ => False) (hr.make C us []) (I2.env0.make C us []) (hb _ (Value.ref (hp.objs.size + 1) :: us) I2.kIn len) r2 ask) fun r s' back => ?_
  cases r with
  | error er => exact hx pins σ _ _ er s' I2 back
  | ok fl =>
    cases fl with
    | ret u =>
      obtain ⟨v, H2, os2, bare2, un2, hok2, rv, ev, d, fs, ea, ed, hd1, q2⟩ := back
      subst ev
      obtain ⟨h2, g2, d2, t2, os'⟩ := s'
      exact ⟨rv, mk_end (raises_own T.exC T.tyC) I1 le1 stay un2 hok2 os2 bare2 ea ed hd1 q2⟩
    | next => exact False.elim back
    | brk => exact False.elim back
    | cont => exact False.elim back
end
end L2

/-! from K4D -/
namespace K1
open PySem L2
theorem lstOf_same {H H' : Hp} {v : V} (d : Dat H v) (s : Same H H') : lstOf H' v = lstOf H v := by
  cases d with
  | lst e _ => rw [lstOf_of e, lstOf_of (s _ _ e)]
  | tup e _ => rw [lstOf_tup e, lstOf_tup (s _ _ e)]
  | dic e => rw [lstOf_dic e, lstOf_dic (s _ _ e)]
  | _ => rfl
theorem tupOf_same {H H' : Hp} {v : V} (d : Dat H v) (s : Same H H') : tupOf H' v = tupOf H v := by
  cases d with
  | lst e _ => rw [tupOf_lst e, tupOf_lst (s _ _ e)]
  | tup e _ => rw [tupOf_of e, tupOf_of (s _ _ e)]
  | dic e => rw [tupOf_dic e, tupOf_dic (s _ _ e)]
  | _ => rfl
theorem firstBad_same {H H' : Hp} {v : V} {most : Int} {bar : List Str} (d : Dat H v) (s : Same H H') : firstBad H' v most bar = firstBad H v most bar := by
  unfold firstBad
  rw [lstOf_same d s]
/-! ### raise InvalidProgram(part, at) -/
/-- what is wished where it leaves -/
def Rz (C : Addr) (H : Hp) (part at_ : V) (E : XK) : Prop := ∀ (d : Addr) (H' : Hp), Same H H' → H d = none → H' d = some (.xd [("at", at_), ("part", part)]) → E (.ref C) (some d) H'
theorem Rz.later {C : Addr} {H H1 : Hp} {part at_ : V} {E : XK} (r : Rz C H part at_ E) (s : Same H H1) : Rz C H1 part at_ E := fun d H' s' n e => r d H' (s.trans s') (s.free n) e
def spIP (C : Addr) : Sp := fun vs H Q _ => ∃ (a : Addr) (p q : V), vs = [.ref a, p, q] ∧ H a = some (exo a C none) ∧
  ∀ (dx : Addr) (H' : Hp), H dx = none → dx ≠ a → H' a = some (exo a C (some dx)) → H' dx = some (exd dx [("at", q), ("part", p)]) → (∀ b o, H b = some o → b ≠ a → H' b = some o) → Q .non H'
section
variable {P : Program} {w : World} {K : PySem.W.Frag} {mg : Str → Option Value} {base : Heap}
/-- the class as its raisers know it -/
structure Ipc (P : Program) (w : World) (K : PySem.W.Frag) (mg : Str → Option Value) (base : Heap) (C : Addr) : Prop where
  T : ExA K C
  ex : ∃ (f : Addr) (fd : FuncData), PySem.W.findIn K (.ref C) "__init__" = some (some (.ref f)) ∧ PySem.W.typeIn K (.ref f) = some (.type "function") ∧ FnOk P w K mg base CX0 1 f fd ["self", "part", "at"] (spIP C) ∧ Binds K fd ["self", "part", "at"] []
  g : mg "InvalidProgram" = some (.ref C)
end
section
variable {X : Cx} {W : WX} {C : Addr} {j : Nat} {e1 e2 : Expr} {t1 t2 : TE} {p pos pos2 : Pos}
def tRip (C : Addr) (W : WX) (t1 t2 : TE) : TS := fun _ σ H => tMkO C (spIP C) [] (tCons t1 (tCons t2 tNil)) σ H fun cls d H' => W cls d σ H'
theorem ps_rip (c : Ipc X.prog X.w X.K X.mg X.base C) (hc : X.calm = true) (tk : Takes X W) (hr : Room j X.A) (hj : 2 ≤ j) (h1 : PE X e1 t1) (h2 : PE X e2 t2) (hg : Gl X "InvalidProgram" := by rfl)
    (s1 : starEach [e1, e2] X.env = (false, eval e1 X.env) :: starEach [e2] X.env := by rfl) (s2 : starEach [e2] X.env = (false, eval e2 X.env) :: starEach [] X.env := by rfl) (hpl : (backTo pos (starEach [e2] X.env)).any (·.1) = false := by rfl) :
    PS X (.Raise (some (.Call (.Name "InvalidProgram" p) [e1, e2] [] pos)) none pos2) (tRip C W t1 t2) := by
  obtain ⟨f, fd, iC, tI, G, b⟩ := c.ex
  exact ps_raise hc tk (pmk_ea c.T iC tI G (hr.mono hj) b .nil pass0 hg c.g (pa_cons h1 (pa_cons h2 pa_nil s2) s1) (by decide) s1 hpl)
/-- its reading, behind the two arguments' -/
theorem rip_rd {H : Hp} {p q : V} {E : XK} (h : Rz C H p q E) : ([p, q] : List V).length ≤ 1000 ∧ ∀ a, H a = none → spIP C (.ref a :: ([p, q] ++ [])) (upd H a (exo a C none))
    (fun v H2 => v = .non ∧ ∃ (d : Addr) (fs : List (Str × V)), H2 a = some (exo a C (some d)) ∧ H2 d = some (exd d fs) ∧ H d = none ∧ E (.ref C) (some d) (upd (del H2 a) d (.xd fs))) (fun _ _ _ => False) := by
  refine ⟨(by show 2 ≤ 1000; decide), fun a ha => ⟨a, p, q, rfl, upd_same, fun dx H' n1 n2 e1 e2 kp => ?_⟩⟩
  have n0 : H dx = none := by
    rw [upd_ne n2] at n1
    exact n1
  refine ⟨rfl, dx, _, e1, e2, n0, h dx _ (fun b o z => ?_) n0 upd_same⟩
  rw [upd_ne (ne_of_none z n0), del_ne (ne_of_none z ha)]
  exact kp b o (by rw [upd_ne (ne_of_none z ha)]; exact z) (ne_of_none z ha)
end
/-! ### check_names -/
def namesAt (H : Hp) (v : V) (least most : Int) (bar : List Str) : V := match firstBad H v most bar with
  | .non => (match lstOf H v with | some xs => if (xs.length : Int) < least then .int (-1) else .non | none => .non)
  | x => x
theorem firstBad_kind {H : Hp} {v : V} {most : Int} {bar : List Str} : (firstBad H v most bar = .non ∧ ∃ xs, lstOf H v = some xs) ∨ ∃ i, firstBad H v most bar = .int i := by
  unfold firstBad
  cases h : lstOf H v with
  | none => exact .inr ⟨_, rfl⟩
  | some xs =>
    show ((if (most : Int) < (xs.length : Int) then V.int (-1) else optV (badFrom bar xs [] 0)) = .non ∧ _) ∨ ∃ i, (if (most : Int) < (xs.length : Int) then V.int (-1) else optV (badFrom bar xs [] 0)) = .int i
    by_cases c : (most : Int) < (xs.length : Int)
    · rw [if_pos c]
      exact .inr ⟨_, rfl⟩
    · rw [if_neg c]
      cases badFrom bar xs [] 0 with
      | none => exact .inl ⟨rfl, xs, rfl⟩
      | some i => exact .inr ⟨_, rfl⟩
section
variable {P : Program} {w : World} {K : PySem.W.Frag} {mg : Str → Option Value} {base : Heap} {C : Addr}
def spNames (C : Addr) : Sp := fun vs H Q E => ∃ (part : Str) (v : V) (least most : Int) (b : Addr) (bar : List Str), vs = [.str part, v, .int least, .int most, .ref b] ∧ Dat H v ∧ H b = some (.lst (bar.map V.str)) ∧ most ≤ 100 ∧
  (namesAt H v least most bar = .non → ∀ H', Same H H' → Q .non H') ∧ (namesAt H v least most bar ≠ .non → Rz C H (.str part) (namesAt H v least most bar) E)
end
end K1

/-! from K4E -/
namespace K1
open PySem L2
theorem keys_nil : keysOf [] = [] := rfl
/-! ### is_class -/
def strOf : V → Str | .str s => s | _ => default
def classOk (H : Hp) (v : V) (seen : List Str) : Bool := match tupOf H v with
  | some [n, z, f, b] => ((nameV n && !seen.contains (strOf n)) && wholeV z 1 8) && (decide (firstBad H f 3 [] = .non) && isB b)
  | _ => false
theorem classOk_four {H : Hp} {v n z f b : V} {seen : List Str} (h : tupOf H v = some [n, z, f, b]) : classOk H v seen = (((nameV n && !seen.contains (strOf n)) && wholeV z 1 8) && (decide (firstBad H f 3 [] = .non) && isB b)) := by
  unfold classOk
  rw [h]
theorem classOk_not {H : Hp} {v : V} {seen : List Str} (h : ∀ xs, tupOf H v = some xs → xs.length ≠ 4) : classOk H v seen = false := by
  unfold classOk
  cases e : tupOf H v with
  | none => rfl
  | some xs =>
    have z := h xs e
    match xs with
    | [] => rfl
    | [_] => rfl
    | [_, _] => rfl
    | [_, _, _] => rfl
    | [_, _, _, _] => exact absurd rfl z
    | _ :: _ :: _ :: _ :: _ :: _ => rfl
theorem four {xs : List V} (h : xs.length = 4) : ∃ n z f b, xs = [n, z, f, b] := by
  match xs, h with
  | [n, z, f, b], _ => exact ⟨n, z, f, b, rfl⟩
section
variable {P : Program} {w : World} {K : PySem.W.Frag} {mg : Str → Option Value} {base : Heap} {C : Addr}
def spIsClass : Sp := fun vs H Q _ => ∃ (v : V) (sd : Addr) (seen : List Str), vs = [v, .ref sd] ∧ Dat H v ∧ H sd = some (.dK (keysOf seen)) ∧ ∀ H', Same H H' → Q (.bl (classOk H v seen)) H'
/-! ### check_classes -/
def nameOf (H : Hp) (v : V) : Str := match tupOf H v with | some (n :: _) => strOf n | _ => default
def clsFrom (H : Hp) : List V → List Str → Nat → Option Nat
  | [], _, _ => none
  | v :: r, seen, i => if classOk H v seen = true then clsFrom H r (seen ++ [nameOf H v]) (i + 1) else some i
def classesAt (H : Hp) (v : V) : V := match lstOf H v with
  | none => .int (-1)
  | some xs => if (decide ((1 : Int) ≤ (xs.length : Int)) && decide ((xs.length : Int) ≤ 6)) = true then optV (clsFrom H xs [] 0) else .int (-1)
theorem classOk_same {H H' : Hp} {v : V} {seen : List Str} (d : Dat H v) (s : Same H H') : classOk H' v seen = classOk H v seen := by
  cases ht : tupOf H v with
  | none => rw [classOk_not (H := H) (fun xs e => by rw [ht] at e; cases e), classOk_not (H := H') (fun xs e => by rw [tupOf_same d s, ht] at e; cases e)]
  | some xs =>
    by_cases c4 : xs.length = 4
    · obtain ⟨n, z, f, b, rfl⟩ := four c4
      obtain ⟨a, rfl, ha⟩ := tupOf_some ht
      rw [classOk_four ht, classOk_four (by rw [tupOf_same d s]; exact ht), firstBad_same (d.itemsT ha f (by simp)) s]
    · rw [classOk_not (H := H) (fun ys e => by rw [ht] at e; cases e; exact c4), classOk_not (H := H') (fun ys e => by rw [tupOf_same d s, ht] at e; cases e; exact c4)]
theorem classOk_is {H : Hp} {v : V} {seen : List Str} (h : classOk H v seen = true) : ∃ (a : Addr) (n : Str) (z f b : V), v = .ref a ∧ H a = some (.tup [.str n, z, f, b]) ∧ nameS n = true ∧ seen.contains n = false ∧ wholeV z 1 8 = true ∧ firstBad H f 3 [] = .non ∧ isB b = true := by
  cases ht : tupOf H v with
  | none =>
    rw [classOk_not (fun xs e => by rw [ht] at e; cases e)] at h
    cases h
  | some xs =>
    by_cases c4 : xs.length = 4
    · obtain ⟨n, z, f, b, rfl⟩ := four c4
      obtain ⟨a, rfl, ha⟩ := tupOf_some ht
      rw [classOk_four ht] at h
      simp only [Bool.and_eq_true] at h
      obtain ⟨⟨⟨h1, h2⟩, h3⟩, h4, h5⟩ := h
      obtain ⟨t, rfl, hz⟩ := nameV_is h1
      refine ⟨a, t, z, f, b, rfl, ha, hz, ?_, h3, of_decide_eq_true h4, h5⟩
      have h2' : (!seen.contains t) = true := h2
      cases q : seen.contains t with
      | false => rfl
      | true => rw [q] at h2'; cases h2'
    · rw [classOk_not (fun ys e => by rw [ht] at e; cases e; exact c4)] at h
      cases h
def spClasses (C : Addr) : Sp := fun vs H Q E => ∃ (v : V), vs = [v] ∧ Dat H v ∧ (classesAt H v = .non → ∀ H', Same H H' → Q .non H') ∧ (classesAt H v ≠ .non → Rz C H (.str "classes") (classesAt H v) E)
end
end K1

/-! from K4F -/
namespace K1
open PySem L2
theorem drop_at {xs : List V} {i : Nat} {x : V} (h : xs[i]? = some x) : xs.drop i = x :: xs.drop (i + 1) := by
  obtain ⟨h1, h2⟩ := List.getElem?_eq_some_iff.mp h
  rw [List.drop_eq_getElem_cons h1, h2]
def radFrom : List V → Int → Nat → Option Nat
  | [], _, _ => none
  | .int r :: rest, tot, i => if (decide (r < 2) || decide ((12 : Int) < tot * r)) = true then some i else radFrom rest (tot * r) (i + 1)
  | _ :: _, _, i => some i
theorem radFrom_no {v : V} {r : List V} {tot : Int} {i : Nat} (h : ¬ intV v = true) : radFrom (v :: r) tot i = some i := by
  cases v with
  | int k => exact absurd (show intV (V.int k) = true from rfl) h
  | _ => rfl
theorem radFrom_int {k : Int} {r : List V} {tot : Int} {i : Nat} : radFrom (.int k :: r) tot i = if (decide (k < 2) || decide ((12 : Int) < tot * k)) = true then some i else radFrom r (tot * k) (i + 1) := rfl
def radicesAt (H : Hp) (v : V) (th : Int) : V := match lstOf H v with
  | none => .int (-1)
  | some xs => optV (radFrom xs th 0)
section
variable {P : Program} {w : World} {K : PySem.W.Frag} {mg : Str → Option Value} {base : Heap} {C : Addr}
/-! ### check_threshold -/
def spThr (C : Addr) : Sp := fun vs H Q E => ∃ (v : V), vs = [v] ∧ Dat H v ∧ (wholeV v 1 12 = true → ∀ H', Same H H' → Q .non H') ∧ (wholeV v 1 12 = false → Rz C H (.str "threshold") (.int (-1)) E)
/-! ### check_radices -/
def spRad (C : Addr) : Sp := fun vs H Q E => ∃ (v : V) (th : Int), vs = [v, .int th] ∧ Dat H v ∧ 1 ≤ th ∧ th ≤ 12 ∧ (radicesAt H v th = .non → ∀ H', Same H H' → Q .non H') ∧ (radicesAt H v th ≠ .non → Rz C H (.str "radices") (radicesAt H v th) E)
end
end K1

/-! from K4G -/
/-! {k: v for a in xs for b in ys}: a dict comprehension of two clauses without tests -/
namespace L2
open PySem PySem.Spec PyProof.Rows
abbrev dc2 (kx vx t0 j0 t1 j1 : Expr) (sc : Scope) (at_ : Pos) : Expr := .DictComp kx vx [⟨t0, j0, [], 0⟩, ⟨t1, j1, [], 0⟩] sc at_
theorem dc2_outer (kx vx t0 j0 t1 j1 : Expr) (sc : Scope) (at_ : Pos) (it acc : Value) (env : Env) :
    compTurn (dc2 kx vx t0 j0 t1 j1 sc at_) 0 it acc env = (do
      standAt j0.pos
      match ← pyNext it with
      | none => pure (.done .next)
      | some u =>
        letOwnedTupleGo t0 it u
        assign t0 env u
        let y ← eval j1 env
        standAt j1.pos
        let y ← foldedSetIterable j1 env y
        let _ ← runOwn (.compStart (dc2 kx vx t0 j0 t1 j1 sc at_) 1 (← holding [y] (pyIter y)) acc env) env
        again (.compLoop (dc2 kx vx t0 j0 t1 j1 sc at_) 0 it acc env)) := by rfl
theorem dc2_inner (kx vx t0 j0 t1 j1 : Expr) (sc : Scope) (at_ : Pos) (it : Value) (D : Addr) (env : Env) :
    compTurn (dc2 kx vx t0 j0 t1 j1 sc at_) 1 it (.ref D) env = (do
      standAt j1.pos
      match ← pyNext it with
      | none => pure (.done .next)
      | some u =>
        letOwnedTupleGo t1 it u
        assign t1 env u
        (do
          let ku ← eval kx env
          let vu ← holding [ku] (eval vx env)
          standAt { kx.pos with endLine := vx.pos.endLine, endCol := vx.pos.endCol }
          holding [ku, vu] (dictSet D ku vu))
        again (.compLoop (dc2 kx vx t0 j0 t1 j1 sc at_) 1 it (.ref D) env)) := by rfl
section
variable {pg : Program} {wd : World} {Ar : Around} {Rs : Result → Shared → Prop} {s0 : Shared} {kx vx t0 j0 t1 j1 : Expr} {sc : Scope} {at_ : Pos} {it acc : Value} {D : Addr} {env : Env}
/-- what is raised on the way -/
abbrev nby (pg : Program) (wd : World) (Ar : Around) (env : Env) (Rs : Result → Shared → Prop) : Value → Shared → Prop := notedBy (model pg wd) Ar env fun e s' => Rs (.error e) s'
/-- the outer loop, by an invariant and a number that falls -/
theorem dc2_loop0 (fold : ∀ y, foldedSetIterable j1 env y = pure y) (Iv : Nat → Shared → Prop)
    (turn : ∀ n s, Iv n s → wpAny (model pg wd) Ar (pyNext it) (fun r s1 => match r with
      | none => Rs (.ok .next) s1
      | some u => wpAny (model pg wd) Ar (letOwnedTupleGo t0 it u) (fun _ s2 => wpAny (model pg wd) Ar (assign t0 env u) (fun _ s3 =>
          wpAny (model pg wd) Ar (eval j1 env) (fun y s4 => wpAny (model pg wd) Ar (pyIter y) (fun it1 s5 =>
            codeAny (model pg wd) Ar (.compStart (dc2 kx vx t0 j0 t1 j1 sc at_) 1 it1 acc env) (fun r s' => match r with
              | .ok _ => ∃ m, m < n ∧ Iv m s'
              | .error _ => False) s5) (nby pg wd Ar env Rs) s4) (nby pg wd Ar env Rs) s3) (nby pg wd Ar env Rs) s2) (nby pg wd Ar env Rs) s1) (nby pg wd Ar env Rs) s)
    (n : Nat) (h : Iv n s0) : codeAny (model pg wd) Ar (.compLoop (dc2 kx vx t0 j0 t1 j1 sc at_) 0 it acc env) Rs s0 := by
  refine codeAny_loop rfl Iv (fun n s hI => ?_) n h
  show wpAny _ Ar ((compTurn (dc2 kx vx t0 j0 t1 j1 sc at_) 0 it acc env).onRaise (fun x => do noteFrame x env; theTreesLotGoes x)) _ _ s
  refine wpAny_noted ?_
  rw [dc2_outer]
  refine wpAny_bind (wpAny_standAt (wpAny_bind ?_))
  refine wpAny_mono (turn n s hI) (fun r s1 h1 => ?_) fun _ _ z => z
  cases r with
  | none => exact wpAny_pure h1
  | some u =>
    refine wpAny_bind (wpAny_mono h1 (fun _ s2 h2 => ?_) fun _ _ z => z)
    refine wpAny_bind (wpAny_mono h2 (fun _ s3 h3 => ?_) fun _ _ z => z)
    refine wpAny_bind (wpAny_mono h3 (fun y s4 h4 => ?_) fun _ _ z => z)
    refine wpAny_bind (wpAny_standAt (wpAny_bind ?_))
    refine wpAny_of_eq (fold y) (wpAny_bind (wpAny_holding ?_))
    refine wpAny_mono h4 (fun it1 s5 h5 => ?_) fun _ _ z => z
    refine wpAny_bind (wpAny_runOwn ?_)
    rw [Around.mark_none]
    refine codeAny_mono h5 fun r s' hr => ?_
    cases r with
    | error e => exact hr.elim
    | ok f =>
      first
        | exact wpAny_pure ⟨rfl, hr⟩
        | exact wpAny_bind (wpAny_pure (wpAny_pure ⟨rfl, hr⟩))
/-- the inner loop -/
theorem dc2_loop1 (Iv : Nat → Shared → Prop)
    (turn : ∀ n s, Iv n s → wpAny (model pg wd) Ar (pyNext it) (fun r s1 => match r with
      | none => Rs (.ok .next) s1
      | some u => wpAny (model pg wd) Ar (letOwnedTupleGo t1 it u) (fun _ s2 => wpAny (model pg wd) Ar (assign t1 env u) (fun _ s3 =>
          wpAny (model pg wd) Ar (eval kx env) (fun ku s4 => wpAny (model pg wd) Ar (eval vx env) (fun vu s5 =>
            wpAny (model pg wd) Ar (dictSet D ku vu) (fun _ s6 => ∃ m, m < n ∧ Iv m s6) (nby pg wd Ar env Rs) s5) (nby pg wd Ar env Rs) s4) (nby pg wd Ar env Rs) s3) (nby pg wd Ar env Rs) s2) (nby pg wd Ar env Rs) s1) (nby pg wd Ar env Rs) s)
    (n : Nat) (h : Iv n s0) : codeAny (model pg wd) Ar (.compLoop (dc2 kx vx t0 j0 t1 j1 sc at_) 1 it (.ref D) env) Rs s0 := by
  refine codeAny_loop rfl Iv (fun n s hI => ?_) n h
  show wpAny _ Ar ((compTurn (dc2 kx vx t0 j0 t1 j1 sc at_) 1 it (.ref D) env).onRaise (fun x => do noteFrame x env; theTreesLotGoes x)) _ _ s
  refine wpAny_noted ?_
  rw [dc2_inner]
  refine wpAny_bind (wpAny_standAt (wpAny_bind ?_))
  refine wpAny_mono (turn n s hI) (fun r s1 h1 => ?_) fun _ _ z => z
  cases r with
  | none => exact wpAny_pure h1
  | some u =>
    refine wpAny_bind (wpAny_mono h1 (fun _ s2 h2 => ?_) fun _ _ z => z)
    refine wpAny_bind (wpAny_mono h2 (fun _ s3 h3 => ?_) fun _ _ z => z)
    refine wpAny_bind (wpAny_bind (wpAny_mono h3 (fun ku s4 h4 => ?_) fun _ _ z => z))
    refine wpAny_bind (wpAny_holding (wpAny_mono h4 (fun vu s5 h5 => ?_) fun _ _ z => z))
    refine wpAny_bind (wpAny_standAt (wpAny_holding (wpAny_mono h5 (fun _ s6 h6 => ?_) fun _ _ z => z)))
    exact wpAny_pure ⟨rfl, h6⟩
/-- the inner source is made an iterator, or was one -/
theorem dc2_start1 (here : codeAny (model pg wd) Ar (.compLoop (dc2 kx vx t0 j0 t1 j1 sc at_) 1 it acc env) Rs s0)
    (made : wpAny (model pg wd) Ar (pyIter it) (fun it' s' => codeAny (model pg wd) Ar (.compLoop (dc2 kx vx t0 j0 t1 j1 sc at_) 1 it' acc env) Rs s') (nby pg wd Ar env Rs) s0) :
    codeAny (model pg wd) Ar (.compStart (dc2 kx vx t0 j0 t1 j1 sc at_) 1 it acc env) Rs s0 := by
  refine codeAny_of_tree ?_
  show wpAny _ _ ((compStart (dc2 kx vx t0 j0 t1 j1 sc at_) 1 it acc env).onRaise (fun x => do noteFrame x env; standAt theWindowsPlace)) _ _ s0
  refine wpAny_notedAt ?_
  unfold compStart
  show wpAny _ _ (ask >>= _) _ _ s0
  refine wpAny_bind (wpAny_askSetting (wpAny_ite ?_))
  split
  · first
      | exact wpAny_bind (wpAny_pure (wpAny_pure (And.intro rfl here)))
      | exact wpAny_pure (And.intro rfl here)
  · refine wpAny_bind (wpAny_rule ?_)
    first
      | exact wpAny_bind (wpAny_standAt (wpAny_bind (wpAny_mono made (fun it' s' z => wpAny_pure (And.intro rfl z)) fun _ _ z => z)))
      | (show wpAny _ _ (standAt j1.pos >>= _) _ _ s0; exact wpAny_bind (wpAny_standAt (wpAny_bind (wpAny_mono made (fun it' s' z => wpAny_pure (And.intro rfl z)) fun _ _ z => z))))
end
section
variable {X : Cx}
/-- its reading: W tells where the outer walk stands, W1 the inner one -/
def tDc2 (wi : TI) (g : TG) (wi1 : TI) (g1 : TG) (tk tv : TE) (vs vs1 : List Nat) : TE := fun σ H Q => wi σ H fun J H1 => ∀ D, H1 D = none → ∃ W : Nat → Nat → Hp → Prop, (∃ m, W 0 m (upd H1 D (.dK []))) ∧ ∀ i m H, W i m H →
  (J.stop i H ∧ Q (.ref D) H) ∨ (J.go i H ∧ ∃ Nx : Hp → Prop, (∀ H', Nx H' → ∃ m', m' < m ∧ W (i + 1) m' H') ∧ ∀ x H', J.yld i H x H' → g x (wipe σ vs) H' fun σ2 H2 => wipe σ2 vs = wipe σ vs ∧
    wi1 σ2 H2 fun J1 H4 => ∃ W1 : Nat → Nat → Hp → Prop, (∃ m, W1 0 m H4) ∧ ∀ j k H, W1 j k H →
      (J1.stop j H ∧ Nx H) ∨ (J1.go j H ∧ ∃ Nx1 : Hp → Prop, (∀ H', Nx1 H' → ∃ k', k' < k ∧ W1 (j + 1) k' H') ∧ ∀ x H', J1.yld j H x H' → g1 x (wipe σ2 vs1) H' fun σ3 H5 => wipe σ3 vs1 = wipe σ2 vs1 ∧
        tk σ3 H5 fun y H6 => tv σ3 H6 fun z H7 => ∃ kvs q, y = kV q ∧ H7 D = some (.dK kvs) ∧ kvs.length < sizeLine ∧ Nx1 (upd H7 D (.dK (putK kvs q z)))))
/-- a rule within the comprehension's block, whatever the block's frame is -/
abbrev InB (X : Cx) (sc : Scope) (R : Cx → Prop) : Prop := ∀ (s : Shared) (H : Hp) (C : Addr) (cl : List (Str × Addr)) (fp : List Addr), R (X.blk s H sc (compEnvC sc cl C X.env) fp)
theorem dc2_core {pins : List (Addr × Obj)} {s : Shared} {σ : St} {H : Hp} {Q : VK} {kx vx t0 j0 t1 j1 : Expr} {sc : Scope} {own : List (Str × Nat)} {vs1 : List Nat} {at_ pos' : Pos} {wi wi1 : TI} {g g1 : TG} {tk tv : TE} {use : Option (Value → Sem Unit)} {Qf : Value → Shared → Prop}
    (calm : X.calm = true) (nd : X.N.Nodup) (I : Inv X pins σ H s) (hi : PI X t0 j0 wi) (blk : BlkOk X.N X.env.scope sc own) (sub : ∀ i ∈ vs1, i ∈ own.map (·.2))
    (hg : InB X sc fun Y => PG Y t0 g) (hi1 : InB X sc fun Y => PI Y t1 j1 wi1) (hg1 : InB X sc fun Y => PG Y t1 g1) (hk : InB X sc fun Y => PE Y kx tk) (hv : InB X sc fun Y => PE Y vx tv)
    (fold0 : ∀ x, foldedSetIterable j0 X.env x = pure x) (fold1 : ∀ env x, foldedSetIterable j1 env x = pure x) (h : tDc2 wi g wi1 g1 tk tv (own.map (·.2)) vs1 σ H Q)
    (out : ∀ D C s' m H', Inv X pins σ H' s' → Q (.ref D) H' → s'.heap.Ns C m → FpOk X pins H' C → compPost (model X.prog X.w) X.A X.xe use Qf (.ref D) C (.ok .next) s') :
    wpAny (model X.prog X.w) X.A (comprehension (dc2 kx vx t0 j0 t1 j1 sc at_) sc X.env pos' newDict false (eval j0 X.env) use) Qf X.xe s := by
  have seen : ∀ y ∈ sc.names, y.2 = .free → ∃ c, X.env.cells.lookup y.1 = some c := fun y hy e => by
    rcases blk.free y hy e with k | k
    · exact I.ok.has _ (.inl k)
    · exact I.ok.has _ (.inr k)
  refine wpAny_comprehension_free (use := use) rfl fold0 (closure_ok seen) blk.kind (fun y hy e => by rw [blk.uniq y hy, e]) ?_
  refine thn (hi.run pins s σ H _ I h) fun xv s1 hx => thn hx fun itv s2 h2 => ?_
  obtain ⟨it, fp, tn, J, H2, e, I2, T, st2, f2, q⟩ := h2
  subst e
  refine wpAny_newObj_type (newEnv_comp ?_)
  generalize hD : s2.heap.objs.size = D
  have freeD : H2 D = none := I2.hok.fresh (Nat.le_of_eq hD)
  obtain ⟨W, ⟨m0, w0⟩, turn⟩ := q D freeD
  -- behind the new dict
  generalize hs3 : ({ s2 with heap := s2.heap.push { cls := .type "dict", data := .dict #[] } } : Shared) = s3
  have push3 : s3.heap = s2.heap.push { cls := .type "dict", data := .dict #[] } := by rw [← hs3]
  have I3 : Inv X pins σ (upd H2 D (.dK [])) s3 := by
    rw [← hs3]
    refine I2.laid (t' := s2.toks) (fun b o z => Heap.get?_push_of_some _ z) (Nat.le_of_eq hD) ?_
    rw [← hD]
    exact dk_empty s2.heap I2.big
  have below : ∀ b ∈ fp, b < s2.heap.objs.size := fun b hb => by
    obtain ⟨o, z, _⟩ := T.obj _ _ st2 b hb
    exact Heap.lt_size z
  have f3 : ∀ b ∈ fp, FpOk X pins (upd H2 D (.dK [])) b ∧ b < s3.heap.objs.size := fun b hb => by
    have lt := below b hb
    refine ⟨⟨?_, (f2 b hb).2⟩, ?_⟩
    · rw [upd_ne (by rw [← hD]; exact Nat.ne_of_lt lt)]
      exact (f2 b hb).1
    · rw [push3, Heap.size_push]
      exact Nat.lt_succ_of_lt lt
  have st3 : tn 0 s3.heap := T.keep _ _ _ st2 fun b _ o z => by
    rw [push3]
    exact Heap.get?_push_of_some _ z
  have I4 := block_start I3 blk nd f3
  generalize hcl : cellsFrom (s3.heap.objs.size + 1) sc.names (cloFrom X.env.cells sc.names []) = cl at I4
  have rg := hg s3 (upd H2 D (.dK [])) s3.heap.objs.size cl fp
  have ri := hi1 s3 (upd H2 D (.dK [])) s3.heap.objs.size cl fp
  have rg1 := hg1 s3 (upd H2 D (.dK [])) s3.heap.objs.size cl fp
  have rk := hk s3 (upd H2 D (.dK [])) s3.heap.objs.size cl fp
  have rv := hv s3 (upd H2 D (.dK [])) s3.heap.objs.size cl fp
  have nofp : ∀ b ∈ fp, (upd H2 D (.dK [])) b = none := fun b hb => (f3 b hb).1.1
  show codeAny _ _ (.compStart (dc2 kx vx t0 j0 t1 j1 sc at_) 0 (.ref it) (.ref D) (compEnvC sc cl s3.heap.objs.size X.env)) (compPost (model X.prog X.w) X.A X.xe use Qf (.ref D) s3.heap.objs.size)
    { s3 with heap := pushCells (s3.heap.push { cls := .type "dict", data := .dict #[] }) sc.names }
  generalize hce : compEnvC sc cl s3.heap.objs.size X.env = ce at I4 rg ri rg1 rk rv ⊢
  have frame : ce.locals = s3.heap.objs.size := by
    subst hce
    rfl
  generalize hH3 : upd H2 D (.dK []) = H3 at I3 I4 rg ri rg1 rk rv w0 nofp f3
  generalize hs4 : ({ s3 with heap := pushCells (s3.heap.push { cls := .type "dict", data := .dict #[] }) sc.names } : Shared) = s4 at I4 ⊢
  have st4 : tn 0 s4.heap := T.keep _ _ _ st3 fun b _ o z => by
    rw [← hs4]
    exact pushCells_keeps _ _ _ _ (Heap.get?_push_of_some _ z)
  have foot : ∀ {σ' : St} {H' : Hp} {s' : Shared}, Inv (X.blk s3 H3 sc ce fp) [] σ' H' s' → (∀ b ∈ fp, H' b = none) → ∀ b ∈ fp, FpOk (X.blk s3 H3 sc ce fp) [] H' b := fun {σ' H' s'} I' hn b hb =>
    ⟨hn b hb, (I'.ok.exf b hb).1, I'.ok.exfs b hb, .inl hb, fun x c z => (I'.ok.exf b hb).2 x c z, fun p hp => absurd (show p ∈ ([] : List (Addr × Obj)) ++ [] from hp) (by simp)⟩
  have walk : codeAny (model X.prog X.w) X.A (.compLoop (dc2 kx vx t0 j0 t1 j1 sc at_) 0 (.ref it) (.ref D) ce) (compPost (model X.prog X.w) X.A X.xe use Qf (.ref D) s3.heap.objs.size) s4 := by
    refine dc2_loop0 (fold1 ce) (fun n s' => ∃ i H', Inv (X.blk s3 H3 sc ce fp) [] (wipe σ (own.map (·.2))) H' s' ∧ tn i s'.heap ∧ (∀ b ∈ fp, H' b = none) ∧ W i n H') ?_ m0 ⟨0, H3, I4, st4, nofp, w0⟩
    rintro n s5 ⟨i, H5, I5, st5, n5, w5⟩
    rcases turn i n H5 w5 with ⟨stop, qq⟩ | ⟨go, Nx, next, step⟩
    · refine thnF (T.done (X.blk s3 H3 sc ce fp) rfl rfl rfl calm i [] s5 _ H5 (fun _ _ => False) I5 (foot I5 n5) st5 stop) fun r s6 ⟨hr, I6⟩ => ?_
      subst hr
      have I7 : Inv X pins σ H5 s6 := I3.call' (ch := fp) I6.os I6.base I6.hok I6.bare fun b hb => by
        have z := (f3 b hb).1
        exact ⟨z.2.2.2.1, z.2.1, z.2.2.2.2.1, z.2.2.2.2.2⟩
      have noC : H5 s3.heap.objs.size = none := by
        rw [← frame]
        exact I6.free
      obtain ⟨m, hn, _⟩ := I6.loc
      have hn : s6.heap.Ns s3.heap.objs.size m := by
        rw [← frame]
        exact hn
      exact out D s3.heap.objs.size s6 m H5 I7 qq hn (I3.fpOk (Nat.le_refl _) noC)
    · refine thnF (T.item (X.blk s3 H3 sc ce fp) rfl rfl rfl calm i [] s5 _ H5 (fun _ _ => False) I5 (foot I5 n5) st5 go) fun r s6 ⟨u, hr, h6⟩ => ?_
      subst hr
      refine thnF h6 fun _ s7 ⟨x, H7, I7, r7, y7, st7, n7⟩ => ?_
      have P7 := I7.pinned (foot I7 n7) (T.obj _ _ st7)
      refine thnF (rg.run _ s7 _ H7 x u _ P7 r7 (step x H7 y7)) fun _ s8 ⟨σ8, H8, I8, hw8, q8⟩ => ?_
      -- from any slots that know what was known at the turn's start, the turn ends
      have over : ∀ {σ9 : St} {s' : Shared} {H' : Hp}, Inv (X.blk s3 H3 sc ce fp) ([] ++ pinsAt fp s7.heap) σ9 H' s' → (wipe σ (own.map (·.2))).length = σ9.length → (∀ (j : Nat) v, (wipe σ (own.map (·.2)))[j]? = some (some v) → σ9[j]? = some (some v)) → Nx H' →
          ∃ m, m < n ∧ ∃ i H', Inv (X.blk s3 H3 sc ce fp) [] (wipe σ (own.map (·.2))) H' s' ∧ tn i s'.heap ∧ (∀ b ∈ fp, H' b = none) ∧ W i m H' := fun {σ9 s' H'} I' len know nx => by
        obtain ⟨m', lt, w'⟩ := next H' nx
        have still : ∀ b ∈ fp, ∀ o, s7.heap.get? b = some o → s'.heap.get? b = some o ∧ H' b = none := fun b hb o z =>
          let k := I'.pin (b, o) (List.mem_append_right _ (List.mem_append_right _ (mem_pinsAt hb z)))
          ⟨k.1, k.2.1⟩
        refine ⟨m', lt, i + 1, H', (I'.unpinned (pins := [])).weak len know, ?_, fun b hb => ?_, w'⟩
        · exact T.keep _ _ _ st7 fun b hb o z => (still b hb o z).1
        · obtain ⟨o, z, _⟩ := T.obj _ _ st7 b hb
          exact (still b hb o z).2
      have len8 : (wipe σ (own.map (·.2))).length = σ8.length := by rw [← hw8, wipe_length]
      have know9 : ∀ (j : Nat) v, (wipe σ (own.map (·.2)))[j]? = some (some v) → (wipe σ8 vs1)[j]? = some (some v) := fun j v z => by
        rw [← hw8] at z
        obtain ⟨z1, z2⟩ := wipe_some z
        rw [wipe_out fun k => z2 (sub j k)]
        exact z1
      refine thnF (ri.run _ s8 σ8 H8 _ I8 q8) fun xv s10 hx => thnF hx fun itv s11 h11 => ?_
      obtain ⟨it1, fp1, tn1, J1, H11, e1, I11, T1, st11, f11, W1, ⟨m1, w1⟩, turn1⟩ := h11
      subst e1
      have foot1 : ∀ {H' : Hp}, (∀ b ∈ fp1, H' b = none) → ∀ b ∈ fp1, FpOk (X.blk s3 H3 sc ce fp) ([] ++ pinsAt fp s7.heap) H' b := fun hn b hb => ⟨hn b hb, (f11 b hb).2⟩
      have inner : codeAny (model X.prog X.w) X.A (.compLoop (dc2 kx vx t0 j0 t1 j1 sc at_) 1 (.ref it1) (.ref D) ce)
          (fun r s' => match r with
            | .ok _ => ∃ m, m < n ∧ ∃ i H', Inv (X.blk s3 H3 sc ce fp) [] (wipe σ (own.map (·.2))) H' s' ∧ tn i s'.heap ∧ (∀ b ∈ fp, H' b = none) ∧ W i m H'
            | .error _ => False) s11 := by
        refine dc2_loop1 (fun k s' => ∃ j H', Inv (X.blk s3 H3 sc ce fp) ([] ++ pinsAt fp s7.heap) (wipe σ8 vs1) H' s' ∧ tn1 j s'.heap ∧ (∀ b ∈ fp1, H' b = none) ∧ W1 j k H') ?_ m1
          ⟨0, H11, I11.weak (wipe_length _ _) (fun j v z => (wipe_some z).1), st11, fun b hb => (f11 b hb).1, w1⟩
        rintro k s12 ⟨j, H12, I12, st12, n12, w12⟩
        rcases turn1 j k H12 w12 with ⟨stop1, nx1⟩ | ⟨go1, Nx1, next1, step1⟩
        · refine thnF (T1.done (X.blk s3 H3 sc ce fp) rfl rfl rfl calm j _ s12 (wipe σ8 vs1) H12 (fun _ _ => False) I12 (foot1 n12) st12 stop1) fun r s13 ⟨hr, I13⟩ => ?_
          subst hr
          exact over I13 (len8.trans (wipe_length σ8 vs1).symm) know9 nx1
        · refine thnF (T1.item (X.blk s3 H3 sc ce fp) rfl rfl rfl calm j _ s12 (wipe σ8 vs1) H12 (fun _ _ => False) I12 (foot1 n12) st12 go1) fun r s13 ⟨u1, hr, h13⟩ => ?_
          subst hr
          refine thnF h13 fun _ s14 ⟨x1, H14, I14, r14, y14, st14, n14⟩ => ?_
          have P14 := I14.pinned (foot1 n14) (T1.obj _ _ st14)
          refine thnF (rg1.run _ s14 (wipe σ8 vs1) H14 x1 u1 _ P14 r14 (step1 x1 H14 y14)) fun _ s15 ⟨σ15, H15, I15, hw15, q15⟩ => ?_
          have over1 : ∀ {s' : Shared} {H' : Hp}, Inv (X.blk s3 H3 sc ce fp) (([] ++ pinsAt fp s7.heap) ++ pinsAt fp1 s14.heap) σ15 H' s' → Nx1 H' →
              ∃ m, m < k ∧ ∃ j H', Inv (X.blk s3 H3 sc ce fp) ([] ++ pinsAt fp s7.heap) (wipe σ8 vs1) H' s' ∧ tn1 j s'.heap ∧ (∀ b ∈ fp1, H' b = none) ∧ W1 j m H' := fun {s' H'} I' nx => by
            obtain ⟨m', lt, w'⟩ := next1 H' nx
            have still : ∀ b ∈ fp1, ∀ o, s14.heap.get? b = some o → s'.heap.get? b = some o ∧ H' b = none := fun b hb o z =>
              let k := I'.pin (b, o) (List.mem_append_right _ (List.mem_append_right _ (mem_pinsAt hb z)))
              ⟨k.1, k.2.1⟩
            refine ⟨m', lt, j + 1, H', I'.unpinned.weak (by rw [← hw15, wipe_length]) (fun j v z => ?_), ?_, fun b hb => ?_, w'⟩
            · rw [← hw15] at z
              exact (wipe_some z).1
            · exact T1.keep _ _ _ st14 fun b hb o z => (still b hb o z).1
            · obtain ⟨o, z, _⟩ := T1.obj _ _ st14 b hb
              exact (still b hb o z).2
          refine thnF (rk.run _ s15 σ15 H15 _ I15 q15) fun ku s16 ⟨yk, H16, I16, r16, q16⟩ => ?_
          refine thnF (rv.run _ s16 σ15 H16 _ I16 q16) fun vu s17 ⟨yv, H17, I17, r17, kvs, key, ek, hD17, few, nx⟩ => ?_
          subst ek
          exact d_dictSet (X := X.blk s3 H3 sc ce fp) I17 hD17 few r16 r17 fun s18 I18 => over1 I18 nx
      exact dc2_start1 inner (T1.self X.A 0 _ _ _ st11 inner)
  exact codeAny_compStart_dict walk (T.self X.A 0 _ _ _ st4 walk)
/-- y = {..}, y a local -/
theorem ps_setDc2 {i : Nat} {y : Str} {py : Pos} {kx vx t0 j0 t1 j1 : Expr} {sc : Scope} {own : List (Str × Nat)} {vs1 : List Nat} {at_ spos : Pos} {wi wi1 : TI} {g g1 : TG} {tk tv : TE} (calm : X.calm = true) (nd : X.N.Nodup) (hy : X.N[i]? = some y) (hyl : X.env.scope.names.lookup y = some .local)
    (sw : swapsWith (dc2 kx vx t0 j0 t1 j1 sc at_) (some (.Name y py)) spos.line X.env = pure true) (hi : PI X t0 j0 wi) (blk : BlkOk X.N X.env.scope sc own) (sub : ∀ i ∈ vs1, i ∈ own.map (·.2))
    (hg : InB X sc fun Y => PG Y t0 g) (hi1 : InB X sc fun Y => PI Y t1 j1 wi1) (hg1 : InB X sc fun Y => PG Y t1 g1) (hk : InB X sc fun Y => PE Y kx tk) (hv : InB X sc fun Y => PE Y vx tv)
    (fold0 : ∀ x, foldedSetIterable j0 X.env x = pure x := by intro _; rfl) (fold1 : ∀ env x, foldedSetIterable j1 env x = pure x := by intro _ _; rfl) :
    PS X (.Assign [.Name y py] (dc2 kx vx t0 j0 t1 j1 sc at_) spos) (tAsg (tDc2 wi g wi1 g1 tk tv (own.map (·.2)) vs1) (gName i)) := by
  refine ⟨fun pins s σ H D I h => ?_⟩
  rw [exec_Assign_Name_used _ _ _ _ sw]
  refine wpAny_bind (wpAny_standAt (wpAny_bind ?_))
  show wpAny _ X.A (do let _ ← comprehension (dc2 kx vx t0 j0 t1 j1 sc at_) sc X.env (firstIterPos [⟨t0, j0, [], 0⟩, ⟨t1, j1, [], 0⟩] at_) newDict false (eval j0 X.env) (some (assign (.Name y py) X.env))) _ _ s
  have ask : tDc2 wi g wi1 g1 tk tv (own.map (·.2)) vs1 σ H (fun x H1 => gName i x σ H1 D.nx) := h
  refine wpAny_bind (thn (dc2_core (Qf := fun _ s' => SP X pins D .next s') calm nd I hi blk sub hg hi1 hg1 hk hv fold0 fold1 ask fun L C s' m H' I' q hn f => ?_) fun _ s' hq => wpAny_pure (wpAny_pure hq))
  show wpAny _ _ (assign (.Name y py) X.env (.ref L)) _ _ _
  refine wpAny_assign_Name (store_ok2 (v := V.ref L) I' nd hy (.inl hyl) rfl (fun s2 I2 ⟨a, sb, ha⟩ => ?_) (.inr hyl))
  obtain ⟨f0, f1, f2, f3, f4, f5⟩ := f
  have apart : C ≠ a := by
    rcases ha with z | z
    · rw [z]
      exact f1
    · exact fun e => f4 y a z e.symm
  refine ⟨m, hn.sameBut sb apart, fun h3 sb3 => ?_⟩
  exact ⟨_, H', I2.turned (t' := s2.toks) (fun b o hb z => (sb3.2 b hb).trans z) f0 f1 f3 f4 f5, q⟩
theorem sw_dc {kx vx : Expr} {gs : List Comprehension} {sc : Scope} {at_ py : Pos} {y : Str} {l : Nat} {env : Env} (hk : env.scope.kind = .function) (hy : env.scope.names.lookup y = some .local) (hl : (py.line == at_.line) = true)
    (ha : (sc.names.any fun (n, k) => n == y && (k == .local || k == .cell)) = false) : swapsWith (.DictComp kx vx gs sc at_) (some (.Name y py)) l env = pure true := by
  have ky : env.kindOf y = some .local := hy
  have kb : env.blockKind = .function := by
    unfold Env.blockKind
    rw [hk]
    rfl
  unfold swapsWith
  simp only [kb, ky, ha, Expr.pos, hl]
  rfl
end
end L2

/-! from K4H -/
namespace K1
open PySem L2
/-- a class of the module as its makers know it -/
structure Mkr (P : Program) (w : World) (K : PySem.W.Frag) (mg : Str → Option Value) (base : Heap) (CX : CXT) (k : Nat) (x : Str) (C : Addr) (ps : List Str) (sp : Sp) : Prop where
  ex : ∃ (f : Addr) (fd : FuncData), Mk K C f ∧ FnOk P w K mg base CX k f fd ps sp ∧ mg x = some (.ref C) ∧ Binds K fd ps []
theorem pe_mkr {X : Cx} {CX : CXT} {k j : Nat} {x : Str} {C : Addr} {ps : List Str} {sp : Sp} {E : XK} {p pos : Pos} {e : Expr} {es : List Expr} {t : TA} (c : Mkr X.prog X.w X.K X.mg X.base CX k x C ps sp) (hr : Room j X.A) (hj : k + 1 ≤ j) (hx : Passes CX X E) (ha : PA X (e :: es) t)
    (hg : Gl X x := by rfl) (hdb : (x == ("__debug__" : Str)) = false := by decide) (he : starEach (e :: es) X.env = (false, eval e X.env) :: starEach es X.env := by rfl) (hpl : (backTo pos (starEach es X.env)).any (·.1) = false := by rfl) :
    PE X (.Call (.Name x p) (e :: es) [] pos) (tMake C sp [] E t) := by
  obtain ⟨f, fd, M, G, hm, hb⟩ := c.ex
  exact pe_make M G (hr.mono hj) hg hm hb .nil hx ha hdb he hpl
/-- a new instance and its __init__: what stood stands -/
theorem made_same {H H1 : Hp} {x dx C : Addr} (nx : H x = none) (nd : H dx = none) (k : ∀ b o, (upd (upd H dx (.own x)) x (.ins C dx [])) b = some o → b ≠ x → H1 b = some o) : Same H H1 := L2.Same.made nx nd k
section
variable {P : Program} {w : World} {K : PySem.W.Frag} {mg : Str → Option Value} {base : Heap}
/-! ### Scope: nothing of it is read here -/
def spScI (C : Addr) : Sp := fun vs H Q _ => ∃ (p dx : Addr) (a b c d e f : V), vs = [.ref p, a, b, c, d, e, f] ∧ H p = some (.ins C dx []) ∧ ∀ H', (∀ b o, H b = some o → b ≠ p → H' b = some o) → Q .non H'
structure NoS (K : PySem.W.Frag) (C : Addr) : Prop where
  cl : Cls K C
  n1 : NoAttr K C "class_names"
  n2 : NoAttr K C "field_names"
  n3 : NoAttr K C "variable_names"
  n4 : NoAttr K C "weak_names"
  n5 : NoAttr K C "levels"
  n6 : NoAttr K C "calls"
theorem putF_len (f : Str) (v : V) : ∀ fs : List (Str × V), (putF f v fs).length ≤ fs.length + 1
  | [] => Nat.le_refl _
  | (g, x) :: r => by
    show (if g = f then (g, v) :: r else (g, x) :: putF f v r).length ≤ _
    by_cases h : g = f
    · rw [if_pos h]
      simp
    · rw [if_neg h, List.length_cons, List.length_cons]
      have := putF_len f v r
      omega
/-! ### Survey -/
def suF (a b c e : V) : List (Str × V) := putF "buried" e (putF "depth" c (putF "many" b (putF "place" a [])))
theorem su_place (a b c e : V) : (suF a b c e).lookup ("place" : Str) = some a := by
  unfold suF
  rw [lookup_putF, if_neg (by decide +kernel), lookup_putF, if_neg (by decide +kernel), lookup_putF, if_neg (by decide +kernel), lookup_putF, if_pos rfl]
theorem su_many (a b c e : V) : (suF a b c e).lookup ("many" : Str) = some b := by
  unfold suF
  rw [lookup_putF, if_neg (by decide +kernel), lookup_putF, if_neg (by decide +kernel), lookup_putF, if_pos rfl]
def spSuI (C : Addr) : Sp := fun vs H Q _ => ∃ (p dx : Addr) (a b c e : V), vs = [.ref p, a, b, c, e] ∧ H p = some (.ins C dx []) ∧ ∀ H', H' p = some (.ins C dx (suF a b c e)) → (∀ b o, H b = some o → b ≠ p → H' b = some o) → Q .non H'
structure NoU (K : PySem.W.Frag) (C : Addr) : Prop where
  cl : Cls K C
  n1 : NoAttr K C "place"
  n2 : NoAttr K C "many"
  n3 : NoAttr K C "depth"
  n4 : NoAttr K C "buried"
/-! ### scope_for -/
/-- a list of valid classes stands at a -/
def ClsL (H : Hp) (a : Addr) (xs : List V) : Prop := H a = some (.lst xs) ∧ ∀ x ∈ xs, ∃ (p : Addr) (n : Str) (z b : V) (fl : Addr) (fs : List Str), x = .ref p ∧ H p = some (.tup [.str n, z, .ref fl, b]) ∧ H fl = some (.lst (fs.map V.str)) ∧ fs.length ≤ 3
theorem ClsL.mono {H H' : Hp} {a : Addr} {xs : List V} (c : ClsL H a xs) (s : Same H H') : ClsL H' a xs := ⟨s _ _ c.1, fun x hx => by
  obtain ⟨p, n, z, b, fl, fs, e, h1, h2, h3⟩ := c.2 x hx
  exact ⟨p, n, z, b, fl, fs, e, s _ _ h1, s _ _ h2, h3⟩⟩
def spScopeFor : Sp := fun vs H Q _ => ∃ (nm wk cs : V) (a r : Addr) (xs rs : List V), vs = [nm, .ref a, wk, .ref r, cs] ∧ ClsL H a xs ∧ xs.length ≤ 6 ∧ H r = some (.lst rs) ∧ ∀ p H', Same H H' → Q (.ref p) H'
theorem length_putK_le (kvs : List (Key × V)) (k : Key) (v : V) : (putK kvs k v).length ≤ kvs.length + 1 := length_putK kvs k v
end
end K1

/-! from K4I -/
namespace K1
open PySem L2
section
variable {P : Program} {w : World} {K : PySem.W.Frag} {mg : Str → Option Value} {base : Heap} {C CU : Addr}
theorem ans_isL {H : Hp} {b : Addr} {xs : List V} (e : H b = some (.lst xs)) : Ans K H (.ref b) "list" true := ⟨"list", .base (.lst e), by decide +kernel⟩
/-! ### survey of an empty body -/
def spSurvey (CU : Addr) : Sp := fun vs H Q _ => ∃ (b : Addr) (sc : V), vs = [.ref b, sc] ∧ H b = some (.lst []) ∧ ∀ p dx H', Same H H' → H' p = some (.ins CU dx (suF .non (.int 0) (.int 0) (.bl false))) → Q (.ref p) H'
end
end K1

/-! from K4J -/
namespace K1
open PySem L2
/-- a class of a program, as data -/
structure Row where
  n : Str
  z : Int
  fs : List Str
  b : Bool
/-- it stands as a tuple whose objects are new since H0 -/
def RowAt (H0 H : Hp) (x : V) (r : Row) : Prop := ∃ (p fl : Addr), x = .ref p ∧ H0 p = none ∧ H0 fl = none ∧ H p = some (.tup [.str r.n, .int r.z, .ref fl, .bl r.b]) ∧ H fl = some (.lst (r.fs.map V.str))
/-- the list of classes -/
def ClsN (H0 H : Hp) (a : Addr) (rows : List Row) : Prop := H0 a = none ∧ ∃ xs, H a = some (.lst xs) ∧ Paired (RowAt H0 H) xs rows
/-- list(xs), by values -/
def rLof (K : PySem.W.Frag) : List V → Hp → VK → Prop := fun xs H Q => ∃ p ys, xs = [.ref p] ∧ (SqL K H p ys ∨ SqT K H p ys) ∧ ∀ l, H l = none → Q (.ref l) (upd H l (.lst ys))
def nul : Hp := fun _ => none
theorem RowAt.mono {H0 H H' : Hp} {x : V} {r : Row} (h : RowAt H0 H x r) (s : Same H H') : RowAt H0 H' x r := by
  obtain ⟨p, fl, e, f1, f2, h1, h2⟩ := h
  exact ⟨p, fl, e, f1, f2, s _ _ h1, s _ _ h2⟩
theorem ClsN.mono {H0 H H' : Hp} {a : Addr} {rows : List Row} (h : ClsN H0 H a rows) (s : Same H H') : ClsN H0 H' a rows := by
  obtain ⟨f0, xs, e, p⟩ := h
  exact ⟨f0, xs, s _ _ e, p.mono fun _ _ z => z.mono s⟩
theorem paired_at {α β : Type} {F : α → β → Prop} : ∀ {l : List α} {m : List β} {i : Nat} {x : α}, Paired F l m → l[i]? = some x → ∃ y, m[i]? = some y ∧ F x y
  | _, _, _, _, .nil, h => by simp at h
  | _, _, 0, x, .cons (b := b) f _, h => by
    have e := Option.some.inj h
    subst e
    exact ⟨b, rfl, f⟩
  | _, _, i + 1, x, .cons _ r, h => by
    have h' : _ := h
    rw [List.getElem?_cons_succ] at h'
    obtain ⟨y, h1, h2⟩ := paired_at r h'
    exact ⟨y, by rw [List.getElem?_cons_succ]; exact h1, h2⟩
theorem take_snoc {α : Type} {l : List α} {i : Nat} {x : α} (h : l[i]? = some x) : l.take (i + 1) = l.take i ++ [x] := start_drop l i x h
theorem ClsN.toL {H0 H : Hp} {a : Addr} {rows : List Row} (h : ClsN H0 H a rows) (h3 : ∀ r ∈ rows, r.fs.length ≤ 3) : ∃ xs, ClsL H a xs ∧ xs.length = rows.length := by
  obtain ⟨f0, xs, e, p⟩ := h
  refine ⟨xs, ⟨e, fun x hx => ?_⟩, p.length⟩
  obtain ⟨i, hi⟩ := List.getElem?_of_mem hx
  obtain ⟨r, hr, q, fl, rfl, _, _, h1, h2⟩ := paired_at p hi
  exact ⟨q, r.n, .int r.z, .bl r.b, fl, r.fs, rfl, h1, h2, h3 r (List.mem_of_getElem? hr)⟩
section
variable {P : Program} {w : World} {K : PySem.W.Frag} {mg : Str → Option Value} {base : Heap} {C CU : Addr}
/-! ### check_body of an empty body -/
def spCheckBody (CU : Addr) : Sp := fun vs H Q _ => ∃ (b : Addr) (sc : V), vs = [.ref b, sc, .int 0] ∧ H b = some (.lst []) ∧ ∀ H', Same H H' → Q .non H'
/-! ### check_functions of an empty list -/
def spCheckFns : Sp := fun vs H Q _ => ∃ (f : Addr) (a b c : V), vs = [.ref f, a, b, c] ∧ H f = some (.lst []) ∧ ∀ t d H', Same H H' → H' t = some (.tup [.ref d, .int 0]) → Q (.ref t) H'
/-! ### copies -/
def spCopyNil : Sp := fun vs H Q _ => ∃ (b : Addr), vs = [.ref b] ∧ H b = some (.lst []) ∧ ∀ p H', Same H H' → H p = none → H' p = some (.lst []) → Q (.ref p) H'
def spCopyCls : Sp := fun vs H Q _ => ∃ (a : Addr) (H0 : Hp) (rows : List Row), vs = [.ref a] ∧ ClsN H0 H a rows ∧ rows.length ≤ 6 ∧ (∀ r ∈ rows, r.fs.length ≤ 3) ∧ ∀ q H', Same H H' → ClsN H H' q rows → Q (.ref q) H'
end
end K1

/-! from K4K -/
namespace K1
open PySem L2
/-! ### what the checks' silence says -/
theorem badFrom_none {bar : List Str} : ∀ {xs : List V} {seen : List Str} {i : Nat}, badFrom bar xs seen i = none → ∃ ss : List Str, xs = ss.map V.str ∧ ∀ s ∈ ss, nameS s = true
  | [], _, _, _ => ⟨[], rfl, fun _ h => by cases h⟩
  | v :: r, seen, i, h => by
    cases hn : nameV v with
    | false =>
      rw [badFrom_no hn] at h
      cases h
    | true =>
      obtain ⟨s, rfl, hz⟩ := nameV_is hn
      rw [badFrom_str] at h
      by_cases c : (nameS s && !seen.contains s && !bar.contains s) = true
      · rw [if_pos c] at h
        obtain ⟨ss, rfl, ok⟩ := badFrom_none h
        refine ⟨s :: ss, rfl, fun z hz' => ?_⟩
        rcases List.mem_cons.mp hz' with rfl | hz'
        · exact hz
        · exact ok z hz' 
      · rw [if_neg c] at h
        cases h
theorem firstBad_none {H : Hp} {v : V} {most : Int} {bar : List Str} (h : firstBad H v most bar = .non) : ∃ (a : Addr) (ss : List Str), v = .ref a ∧ H a = some (.lst (ss.map V.str)) ∧ (ss.length : Int) ≤ most ∧ ∀ s ∈ ss, nameS s = true := by
  unfold firstBad at h
  cases hl : lstOf H v with
  | none => rw [hl] at h; cases h
  | some xs =>
    rw [hl] at h
    obtain ⟨a, rfl, ha⟩ := lstOf_some hl
    have h' : (if (most : Int) < (xs.length : Int) then V.int (-1) else optV (badFrom bar xs [] 0)) = .non := h
    by_cases c : (most : Int) < (xs.length : Int)
    · rw [if_pos c] at h'
      cases h'
    · rw [if_neg c] at h'
      have h := h'
      cases hb : badFrom bar xs [] 0 with
      | some i => rw [hb] at h; cases h
      | none =>
        obtain ⟨ss, rfl, ok⟩ := badFrom_none hb
        refine ⟨a, ss, rfl, ha, ?_, ok⟩
        rw [List.length_map] at c
        omega
theorem names_ok {H : Hp} {v : V} {lo hi : Int} {bar : List Str} (h : namesAt H v lo hi bar = .non) : ∃ (a : Addr) (ss : List Str), v = .ref a ∧ H a = some (.lst (ss.map V.str)) ∧ lo ≤ (ss.length : Int) ∧ (ss.length : Int) ≤ hi ∧ firstBad H v hi bar = .non ∧ ∀ s ∈ ss, nameS s = true := by
  unfold namesAt at h
  rcases firstBad_kind (H := H) (v := v) (most := hi) (bar := bar) with ⟨e, xs, hl⟩ | ⟨i, e⟩
  · obtain ⟨a, ss, rfl, ha, hle, ok⟩ := firstBad_none e
    refine ⟨a, ss, rfl, ha, ?_, hle, e, ok⟩
    rw [e, lstOf_of ha] at h
    have h' : (if (((ss.map V.str).length : Nat) : Int) < lo then V.int (-1) else V.non) = V.non := h
    by_cases c : (((ss.map V.str).length : Nat) : Int) < lo
    · rw [if_pos c] at h'
      cases h'
    · rw [List.length_map] at c
      omega
  · rw [e] at h
    cases h
theorem whole_ok {v : V} {lo hi : Int} (h : wholeV v lo hi = true) : ∃ i, v = .int i ∧ lo ≤ i ∧ i ≤ hi := by
  cases v with
  | int i =>
    have h' : (decide (lo ≤ i) && decide (i ≤ hi)) = true := h
    rw [Bool.and_eq_true] at h'
    exact ⟨i, rfl, of_decide_eq_true h'.1, of_decide_eq_true h'.2⟩
  | _ => cases h
theorem radFrom_none : ∀ {xs : List V} {tot : Int} {i : Nat}, radFrom xs tot i = none → ∃ ks : List Int, xs = ks.map V.int
  | [], _, _, _ => ⟨[], rfl⟩
  | v :: r, tot, i, h => by
    by_cases c : intV v = true
    · obtain ⟨k, rfl⟩ := intV_is c
      rw [radFrom_int] at h
      by_cases d : (decide (k < 2) || decide ((12 : Int) < tot * k)) = true
      · rw [if_pos d] at h
        cases h
      · rw [if_neg d] at h
        obtain ⟨ks, rfl⟩ := radFrom_none h
        exact ⟨k :: ks, rfl⟩
    · rw [radFrom_no c] at h
      cases h
theorem rad_ok {H : Hp} {v : V} {th : Int} (h : radicesAt H v th = .non) : ∃ (a : Addr) (ks : List Int), v = .ref a ∧ H a = some (.lst (ks.map V.int)) := by
  unfold radicesAt at h
  cases hl : lstOf H v with
  | none => rw [hl] at h; cases h
  | some xs =>
    rw [hl] at h
    obtain ⟨a, rfl, ha⟩ := lstOf_some hl
    have h' : optV (radFrom xs th 0) = .non := h
    cases hb : radFrom xs th 0 with
    | some i => rw [hb] at h'; cases h'
    | none =>
      obtain ⟨ks, rfl⟩ := radFrom_none hb
      exact ⟨a, ks, rfl, ha⟩
theorem clsFrom_none {H : Hp} : ∀ {xs : List V} {seen : List Str} {i : Nat}, clsFrom H xs seen i = none → ∃ rows : List Row, Paired (RowAt nul H) xs rows ∧ ∀ r ∈ rows, r.fs.length ≤ 3 ∧ nameS r.n = true ∧ ∀ s ∈ r.fs, nameS s = true
  | [], _, _, _ => ⟨[], .nil, fun _ h => by cases h⟩
  | v :: r, seen, i, h => by
    have h' : (if classOk H v seen = true then clsFrom H r (seen ++ [nameOf H v]) (i + 1) else some i) = none := h
    by_cases c : classOk H v seen = true
    · rw [if_pos c] at h'
      obtain ⟨rows, pr, h3⟩ := clsFrom_none h'
      obtain ⟨a, n, z, f, b, rfl, ha, hnm, _, hw, hf, hb⟩ := classOk_is c
      obtain ⟨k, rfl, _, _⟩ := whole_ok hw
      obtain ⟨fl, fs, rfl, hfl, hlen, ok⟩ := firstBad_none hf
      cases b with
      | bl b =>
        refine ⟨⟨n, k, fs, b⟩ :: rows, .cons ⟨a, fl, rfl, rfl, rfl, ha, hfl⟩ pr, fun r hr => ?_⟩
        rcases List.mem_cons.mp hr with rfl | hr
        · exact ⟨by show fs.length ≤ 3; omega, hnm, ok⟩
        · exact h3 r hr
      | _ => cases hb
    · rw [if_neg c] at h'
      cases h'
theorem classes_ok {H : Hp} {v : V} (h : classesAt H v = .non) : ∃ (a : Addr) (rows : List Row), v = .ref a ∧ ClsN nul H a rows ∧ 1 ≤ rows.length ∧ rows.length ≤ 6 ∧ ∀ r ∈ rows, r.fs.length ≤ 3 ∧ nameS r.n = true ∧ ∀ s ∈ r.fs, nameS s = true := by
  unfold classesAt at h
  cases hl : lstOf H v with
  | none => rw [hl] at h; cases h
  | some xs =>
    rw [hl] at h
    obtain ⟨a, rfl, ha⟩ := lstOf_some hl
    have h' : (if (decide ((1 : Int) ≤ (xs.length : Int)) && decide ((xs.length : Int) ≤ 6)) = true then optV (clsFrom H xs [] 0) else V.int (-1)) = .non := h
    by_cases c : (decide ((1 : Int) ≤ (xs.length : Int)) && decide ((xs.length : Int) ≤ 6)) = true
    · rw [if_pos c] at h'
      cases hb : clsFrom H xs [] 0 with
      | some i => rw [hb] at h'; cases h'
      | none =>
        obtain ⟨rows, pr, h3⟩ := clsFrom_none hb
        rw [Bool.and_eq_true] at c
        have c1 := of_decide_eq_true c.1
        have c2 := of_decide_eq_true c.2
        have pl := pr.length
        exact ⟨a, rows, rfl, ⟨rfl, xs, ha, pr⟩, by omega, by omega, h3⟩
    · rw [if_neg c] at h'
      cases h'
/-! ### the answers do not change while all stands -/
theorem namesAt_same {H H' : Hp} {v : V} {lo hi : Int} {bar : List Str} (d : Dat H v) (s : Same H H') : namesAt H' v lo hi bar = namesAt H v lo hi bar := by
  unfold namesAt
  rw [firstBad_same d s, lstOf_same d s]
theorem radicesAt_same {H H' : Hp} {v : V} {th : Int} (d : Dat H v) (s : Same H H') : radicesAt H' v th = radicesAt H v th := by
  unfold radicesAt
  rw [lstOf_same d s]
theorem nameOf_same {H H' : Hp} {v : V} (d : Dat H v) (s : Same H H') : nameOf H' v = nameOf H v := by
  unfold nameOf
  rw [tupOf_same d s]
theorem clsFrom_same {H H' : Hp} (s : Same H H') : ∀ {xs : List V} {seen : List Str} {i : Nat}, (∀ x ∈ xs, Dat H x) → clsFrom H' xs seen i = clsFrom H xs seen i
  | [], _, _, _ => rfl
  | v :: r, seen, i, h => by
    have dv := h v List.mem_cons_self
    show (if classOk H' v seen = true then clsFrom H' r (seen ++ [nameOf H' v]) (i + 1) else some i) = (if classOk H v seen = true then clsFrom H r (seen ++ [nameOf H v]) (i + 1) else some i)
    rw [classOk_same dv s, nameOf_same dv s, clsFrom_same s fun x hx => h x (List.mem_cons_of_mem _ hx)]
theorem classesAt_same {H H' : Hp} {v : V} (d : Dat H v) (s : Same H H') : classesAt H' v = classesAt H v := by
  unfold classesAt
  rw [lstOf_same d s]
  cases hl : lstOf H v with
  | none => rfl
  | some xs =>
    obtain ⟨a, rfl, ha⟩ := lstOf_some hl
    show (if _ then optV (clsFrom H' xs [] 0) else _) = (if _ then optV (clsFrom H xs [] 0) else _)
    rw [clsFrom_same s (d.items ha)]
/-! ### the first fault -/
def strsOf (H : Hp) (v : V) : List Str := match lstOf H v with | some xs => xs.map strOf | none => []
def intOf : V → Int | .int i => i | _ => 0
def faultV (H : Hp) (c n l p r : V) : Option (Str × V) :=
  if classesAt H c ≠ .non then some ("classes", classesAt H c)
  else if namesAt H n 1 8 [] ≠ .non then some ("variables", namesAt H n 1 8 [])
  else if namesAt H l 0 4 (strsOf H n) ≠ .non then some ("weak", namesAt H l 0 4 (strsOf H n))
  else if wholeV p 1 12 = false then some ("threshold", .int (-1))
  else if radicesAt H r (intOf p) ≠ .non then some ("radices", radicesAt H r (intOf p))
  else none
theorem strsOf_is {H : Hp} {a : Addr} {ss : List Str} (h : H a = some (.lst (ss.map V.str))) : strsOf H (.ref a) = ss := by
  unfold strsOf
  rw [lstOf_of h]
  show (ss.map V.str).map strOf = ss
  rw [List.map_map]
  exact List.map_id'' (fun _ => rfl) ss
end K1

/-! from K4L -/
namespace K1
open PySem L2
/-! ### Program.__init__ -/
def pgF (a b c d e f g : V) : List (Str × V) := putF "_functions" g (putF "_radices" f (putF "_threshold" e (putF "_weak" d (putF "_variables" c (putF "_body" b (putF "_classes" a []))))))
structure NoP (K : PySem.W.Frag) (C : Addr) : Prop where
  cl : Cls K C
  n1 : NoAttr K C "_classes"
  n2 : NoAttr K C "_body"
  n3 : NoAttr K C "_variables"
  n4 : NoAttr K C "_weak"
  n5 : NoAttr K C "_threshold"
  n6 : NoAttr K C "_radices"
  n7 : NoAttr K C "_functions"
/-- a program stands at p, its own objects new since H0 -/
def ProgAt (H0 H : Hp) (CP p : Addr) (rows : List Row) (ns ls : List Str) (th : Int) (ks : List Int) : Prop := ∃ (dx a b c d f g : Addr), H p = some (.ins CP dx (pgF (.ref a) (.ref b) (.ref c) (.ref d) (.int th) (.ref f) (.ref g))) ∧ ClsN H0 H a rows ∧
  (H0 b = none ∧ H b = some (.lst [])) ∧ (H0 c = none ∧ H c = some (.lst (ns.map V.str))) ∧ (H0 d = none ∧ H d = some (.lst (ls.map V.str))) ∧ (H0 f = none ∧ H f = some (.lst (ks.map V.int))) ∧ (H0 g = none ∧ H g = some (.lst []))
/-- what is handed in, when nothing is wrong -/
structure Fine (H : Hp) (c n l p r : V) (rows : List Row) (ns ls : List Str) (th : Int) (ks : List Int) : Prop where
  c : ∃ a, c = .ref a ∧ ClsN nul H a rows
  c1 : 1 ≤ rows.length
  c6 : rows.length ≤ 6
  c3 : ∀ q ∈ rows, q.fs.length ≤ 3
  n : ∃ a, n = .ref a ∧ H a = some (.lst (ns.map V.str))
  l : ∃ a, l = .ref a ∧ H a = some (.lst (ls.map V.str))
  p : p = .int th
  t1 : 1 ≤ th
  t2 : th ≤ 12
  r : ∃ a, r = .ref a ∧ H a = some (.lst (ks.map V.int))
  cOk : ∀ q ∈ rows, nameS q.n = true ∧ ∀ s ∈ q.fs, nameS s = true
  nOk : ∀ s ∈ ns, nameS s = true
  lOk : ∀ s ∈ ls, nameS s = true
/-- while the new program's fields are filled: all else stands -/
structure Fil (H Hx : Hp) (CP p dx : Addr) (fs : List (Str × V)) : Prop where
  keep : ∀ b o, H b = some o → b ≠ p → Hx b = some o
  at_ : Hx p = some (.ins CP dx fs)
theorem Fil.new {H Hx Hy : Hp} {CP p dx : Addr} {fs : List (Str × V)} (f : Fil H Hx CP p dx fs) (s : Same Hx Hy) : Fil H Hy CP p dx fs := ⟨fun b o e n => s _ _ (f.keep b o e n), s _ _ f.at_⟩
theorem Fil.set {H Hx : Hp} {CP p dx : Addr} {fs : List (Str × V)} (f : Fil H Hx CP p dx fs) (gs : List (Str × V)) : Fil H (upd Hx p (.ins CP dx gs)) CP p dx gs := ⟨fun b o e n => by
  rw [upd_ne n]
  exact f.keep b o e n, upd_same⟩
theorem Fil.free {H Hx : Hp} {CP p dx b : Addr} {fs : List (Str × V)} (f : Fil H Hx CP p dx fs) (n : Hx b = none) : H b = none := by
  cases q : H b with
  | none => rfl
  | some o =>
    by_cases hb : b = p
    · rw [hb, f.at_] at n
      cases n
    · rw [f.keep b o q hb] at n
      cases n
theorem ClsN.base {H H1 Hx : Hp} {a : Addr} {rows : List Row} (h : ClsN H1 Hx a rows) (off : ∀ b, H1 b = none → H b = none) : ClsN H Hx a rows := by
  obtain ⟨f0, xs, e, p⟩ := h
  refine ⟨off _ f0, xs, e, p.mono fun x r z => ?_⟩
  obtain ⟨q, fl, e1, z1, z2, z3, z4⟩ := z
  exact ⟨q, fl, e1, off _ z1, off _ z2, z3, z4⟩
/-- a change at an object that stood in H -/
theorem ClsN.other {H Hx : Hp} {a p : Addr} {o u : HO} {rows : List Row} (h : ClsN H Hx a rows) (hp : H p = some o) : ClsN H (upd Hx p u) a rows := by
  obtain ⟨f0, xs, e, pr⟩ := h
  refine ⟨f0, xs, by rw [upd_ne (ne_of_none hp f0).symm]; exact e, pr.mono fun x r z => ?_⟩
  obtain ⟨q, fl, e1, z1, z2, z3, z4⟩ := z
  exact ⟨q, fl, e1, z1, z2, by rw [upd_ne (ne_of_none hp z1).symm]; exact z3, by rw [upd_ne (ne_of_none hp z2).symm]; exact z4⟩
/-- a new list -/
def NewL (H Hx : Hp) (a : Addr) (xs : List V) : Prop := H a = none ∧ Hx a = some (.lst xs)
theorem NewL.mono {H Hx Hy : Hp} {a : Addr} {xs : List V} (h : NewL H Hx a xs) (s : Same Hx Hy) : NewL H Hy a xs := ⟨h.1, s _ _ h.2⟩
theorem NewL.other {H Hx : Hp} {a p : Addr} {o u : HO} {xs : List V} (h : NewL H Hx a xs) (hp : H p = some o) : NewL H (upd Hx p u) a xs := ⟨h.1, by rw [upd_ne (ne_of_none hp h.1).symm]; exact h.2⟩
theorem Fil.lst {H Hx : Hp} {CP p dx q : Addr} {fs : List (Str × V)} (f : Fil H Hx CP p dx fs) (xs : List V) (n : Hx q = none) : NewL H (upd Hx q (.lst xs)) q xs := ⟨f.free n, upd_same⟩
def spPrI (C CP : Addr) : Sp := fun vs H Q E => ∃ (p dx bd fn : Addr) (c n l t r : V), vs = [.ref p, c, .ref bd, n, l, t, r, .ref fn] ∧ H p = some (.ins CP dx []) ∧ Dat H c ∧ Dat H n ∧ Dat H l ∧ Dat H t ∧ Dat H r ∧ H bd = some (.lst []) ∧ H fn = some (.lst []) ∧
  (∀ part at_, faultV H c n l t r = some (part, at_) → Rz C H (.str part) at_ E) ∧
  (faultV H c n l t r = none → ∀ rows ns ls th ks, Fine H c n l t r rows ns ls th ks → ∀ H', ProgAt H H' CP p rows ns ls th ks → (∀ b o, H b = some o → b ≠ p → H' b = some o) → Q .non H')
section
variable {P : Program} {w : World} {K : PySem.W.Frag} {mg : Str → Option Value} {base : Heap} {C CP CU : Addr}
abbrev prN : List Str := ["self", "classes", "body", "variables", "weak", "threshold", "radices", "functions", "calls", "many"]
abbrev prP : List Str := ["self", "classes", "body", "variables", "weak", "threshold", "radices", "functions"]
end
end K1

/-! from K4M -/
namespace K1
open PySem L2
/-! ### what a program tells -/
theorem pg1 (a b c d e f g : V) : (pgF a b c d e f g).lookup ("_classes" : Str) = some a := by
  unfold pgF
  repeat rw [lookup_putF, if_neg (by decide +kernel)]
  rw [lookup_putF, if_pos rfl]
theorem pg2 (a b c d e f g : V) : (pgF a b c d e f g).lookup ("_body" : Str) = some b := by
  unfold pgF
  rw [lookup_putF, if_neg (by decide +kernel), lookup_putF, if_neg (by decide +kernel), lookup_putF, if_neg (by decide +kernel), lookup_putF, if_neg (by decide +kernel), lookup_putF, if_neg (by decide +kernel), lookup_putF, if_pos rfl]
theorem pg3 (a b c d e f g : V) : (pgF a b c d e f g).lookup ("_variables" : Str) = some c := by
  unfold pgF
  rw [lookup_putF, if_neg (by decide +kernel), lookup_putF, if_neg (by decide +kernel), lookup_putF, if_neg (by decide +kernel), lookup_putF, if_neg (by decide +kernel), lookup_putF, if_pos rfl]
theorem pg4 (a b c d e f g : V) : (pgF a b c d e f g).lookup ("_weak" : Str) = some d := by
  unfold pgF
  rw [lookup_putF, if_neg (by decide +kernel), lookup_putF, if_neg (by decide +kernel), lookup_putF, if_neg (by decide +kernel), lookup_putF, if_pos rfl]
theorem pg5 (a b c d e f g : V) : (pgF a b c d e f g).lookup ("_threshold" : Str) = some e := by
  unfold pgF
  rw [lookup_putF, if_neg (by decide +kernel), lookup_putF, if_neg (by decide +kernel), lookup_putF, if_pos rfl]
theorem pg6 (a b c d e f g : V) : (pgF a b c d e f g).lookup ("_radices" : Str) = some f := by
  unfold pgF
  rw [lookup_putF, if_neg (by decide +kernel), lookup_putF, if_pos rfl]
theorem pg7 (a b c d e f g : V) : (pgF a b c d e f g).lookup ("_functions" : Str) = some g := by
  unfold pgF
  rw [lookup_putF, if_pos rfl]
/-- no method's name is an attribute of the instance -/
theorem pg_no {m : Str} (a b c d e f g : V) (h1 : ¬ m = "_classes") (h2 : ¬ m = "_body") (h3 : ¬ m = "_variables") (h4 : ¬ m = "_weak") (h5 : ¬ m = "_threshold") (h6 : ¬ m = "_radices") (h7 : ¬ m = "_functions") : (pgF a b c d e f g).lookup m = none := by
  unfold pgF
  rw [lookup_putF, if_neg h7, lookup_putF, if_neg h6, lookup_putF, if_neg h5, lookup_putF, if_neg h4, lookup_putF, if_neg h3, lookup_putF, if_neg h2, lookup_putF, if_neg h1]
  rfl
/-- which program stands at p -/
structure Pg where
  rows : List Row
  ns : List Str
  ls : List Str
  th : Int
  ks : List Int
def PgAt (H0 H : Hp) (CP p : Addr) (g : Pg) : Prop := ProgAt H0 H CP p g.rows g.ns g.ls g.th g.ks ∧ g.rows.length ≤ 6 ∧ ∀ r ∈ g.rows, r.fs.length ≤ 3
theorem NewL.base {H H1 Hx : Hp} {a : Addr} {xs : List V} (h : NewL H1 Hx a xs) (off : ∀ b, H1 b = none → H b = none) : NewL H Hx a xs := ⟨off _ h.1, h.2⟩
def spTell (CP : Addr) (G : Pg → Hp → Hp → V → Prop) : Sp := fun vs H Q _ => ∃ (p : Addr) (H0 : Hp) (g : Pg), vs = [.ref p] ∧ PgAt H0 H CP p g ∧ ∀ v H', Same H H' → G g H H' v → Q v H'
def gCls (g : Pg) (H H' : Hp) (v : V) : Prop := ∃ q, v = .ref q ∧ ClsN H H' q g.rows
def gNil' (_ : Pg) (H H' : Hp) (v : V) : Prop := ∃ q, v = .ref q ∧ NewL H H' q []
def gVar (g : Pg) (H H' : Hp) (v : V) : Prop := ∃ q, v = .ref q ∧ NewL H H' q (g.ns.map V.str)
def gWk (g : Pg) (H H' : Hp) (v : V) : Prop := ∃ q, v = .ref q ∧ NewL H H' q (g.ls.map V.str)
def gTh (g : Pg) (_ _ : Hp) (v : V) : Prop := v = .int g.th
def gRad (g : Pg) (H H' : Hp) (v : V) : Prop := ∃ q, v = .ref q ∧ NewL H H' q (g.ks.map V.int)
section
variable {P : Program} {w : World} {K : PySem.W.Frag} {mg : Str → Option Value} {base : Heap} {CP : Addr} {f : Addr} {fd : FuncData}
end
end K1

/-! from K4R -/
namespace L2
open PySem PySem.Spec PyProof.Rows
/-- d.update(e), both dicts, two objects -/
def rUpd1 : V → List V → Hp → VK → Prop := fun x vs H Q => ∃ (d o : Addr) (kvs more : List (Key × V)), x = .ref d ∧ vs = [.ref o] ∧ d ≠ o ∧ H d = some (.dK kvs) ∧ H o = some (.dK more) ∧ kvs.length + more.length ≤ sizeLine ∧ Q .non (upd H d (.dK (mergeK kvs more)))
theorem mt_upd1 {X : Cx} : MtR X "dict.update" rUpd1 := by
  intro pins s σ H x xs v us Q I rx r h
  obtain ⟨d, o, kvs, more, rfl, rfl, ne, hd, ho, few, q⟩ := h
  obtain ⟨u, rfl, ru⟩ := vals1 r
  obtain rfl : v = Value.ref d := rx
  obtain rfl : u = Value.ref o := ru
  obtain ⟨z1, y1, vs1, r1, d1⟩ := dk_of I.hok hd
  obtain ⟨z2, y2, vs2, r2, d2⟩ := dk_of I.hok ho
  refine call_meetsIn PySem.F.slot_dict_update d1.typeIs PySem.F.entry_dict_update (PySem.F.args_dict_update_2 _ _) (meets_dict_update (mixKind X.prog X.w) d o ne y2) ⟨vs1, vs2, d1, d2, ?_, fun h' dd _ sb => ?_⟩
  · rw [← r1.length, ← r2.length]
    exact few
  · have there : ∃ z, h'.get? d = some z := by
      obtain ⟨z, _, _, e, _⟩ := dd
      exact ⟨z, e⟩
    have len : (mergeK kvs more).length ≤ sizeLine := Nat.le_trans (length_mergeK more kvs) few
    exact ⟨.non, upd H d (.dK (mergeK kvs more)), d_write I (by rw [hd]; exact True.intro) sb there (dk_new len y1 (KV.merge r2 r1) dd), rfl, q⟩
/-- a statement, a word, the rest -/
def tMid (t u : TS) : TS := fun D σ H => ∃ W : St → Hp → Prop, t { D with nx := W } σ H ∧ ∀ σ1 H1, W σ1 H1 → u D σ1 H1
theorem pss_mid {X : Cx} {st : Stmt} {rest : List Stmt} {t u : TS} (h1 : PS X st t) (h2 : PSs X rest u) : PSs X (st :: rest) (tMid t u) := by
  refine ⟨fun pins s σ H D I ⟨W, a, b⟩ => ?_⟩
  refine wpAny_execs_cons ?_
  refine thn (h1.run pins s σ H { D with nx := W } I a) fun f s1 q => ?_
  cases f with
  | next =>
    obtain ⟨σ1, H1, I1, q⟩ := q
    exact h2.run pins s1 σ1 H1 D I1 (b σ1 H1 q)
  | ret v => exact q
  | brk => exact q
  | cont => exact q
/-- tuple(xs), by values -/
def rTof (K : PySem.W.Frag) : List V → Hp → VK → Prop := fun xs H Q => ∃ p ys, xs = [.ref p] ∧ ((SqL K H p ys ∧ ∀ l, H l = none → Q (.ref l) (upd H l (.tup ys))) ∨ (SqT K H p ys ∧ Q (.ref p) H))
end L2
namespace K1
open PySem L2
theorem dstr {H : Hp} {s : Str} (h : (decide (s.length ≤ 1000) && PyData.strOk s) = true := by decide +kernel) : Dat H (.str s) := by
  rw [Bool.and_eq_true] at h
  exact .str s ⟨of_decide_eq_true h.1, h.2⟩
/-- a new list, a new tuple of data -/
theorem Dat.newL {H : Hp} {p : Addr} {xs : List V} (n : H p = none) (h : ∀ x ∈ xs, Dat H x) : Dat (upd H p (.lst xs)) (.ref p) := .lst upd_same fun x hx => (h x hx).mono (same_new (Same.refl _) n)
theorem Dat.newT {H : Hp} {p : Addr} {xs : List V} (n : H p = none) (h : ∀ x ∈ xs, Dat H x) : Dat (upd H p (.tup xs)) (.ref p) := .tup upd_same fun x hx => (h x hx).mono (same_new (Same.refl _) n)
theorem Dat.new {H : Hp} {p : Addr} {o : HO} {v : V} (n : H p = none) (d : Dat H v) : Dat (upd H p o) v := d.mono (same_new (Same.refl _) n)
/-- a dict is changed into a dict -/
theorem Dat.updD {H : Hp} {a : Addr} {kvs kvs' : List (Key × V)} (e : H a = some (.dK kvs)) {v : V} (d : Dat H v) : Dat (upd H a (.dK kvs')) v := by
  induction d with
  | non => exact .non
  | bl b => exact .bl b
  | int i => exact .int i
  | str z h => exact .str z h
  | lst q _ ih => exact .lst (by rw [upd_ne (ne_of q e (by intro z; cases z))]; exact q) ih
  | tup q _ ih => exact .tup (by rw [upd_ne (ne_of q e (by intro z; cases z))]; exact q) ih
  | @dic b ks q =>
    by_cases h : b = a
    · rw [h]
      exact .dic upd_same
    · exact .dic (by rw [upd_ne h]; exact q)
theorem mem3 {α : Type} {P : α → Prop} {a b c : α} (h1 : P a) (h2 : P b) (h3 : P c) : ∀ x ∈ [a, b, c], P x := fun x hx => by
  simp only [List.mem_cons, List.not_mem_nil, or_false] at hx
  rcases hx with rfl | rfl | rfl <;> assumption
theorem at_mod {xs : List V} {n : Nat} (h : xs.length = n) (hn : 0 < n) (z : Int) : ∃ v, atI xs (z % (n : Int)) = some v ∧ v ∈ xs := by
  have h1 := Int.emod_nonneg z (show (n : Int) ≠ 0 by omega)
  have h2 := Int.emod_lt_of_pos z (show (0 : Int) < (n : Int) by omega)
  obtain ⟨j, e⟩ : ∃ j : Nat, z % (n : Int) = (j : Int) := ⟨(z % (n : Int)).toNat, by omega⟩
  rw [e] at h2 ⊢
  have hj : j < xs.length := by omega
  exact ⟨xs[j], atI_nat (List.getElem?_eq_getElem hj), List.getElem_mem hj⟩
theorem dig_at {ds : List Int} (h : ds.length = 20) (j : Nat) (hj : j < 20) : ∃ x, atI (ds.map V.int) (j : Int) = some (.int x) := by
  have hj' : j < ds.length := by omega
  exact ⟨ds[j], atI_nat (by rw [List.getElem?_map, List.getElem?_eq_getElem hj']; rfl)⟩
theorem cut_mem {xs : List V} {lo hi : Option Int} {x : V} (h : x ∈ cutV xs lo hi) : x ∈ xs := List.mem_of_mem_drop (List.mem_of_mem_take h)
/-! ### the five parts in the dict -/
structure Five (kvs : List (Key × V)) (c n l p r : V) : Prop where
  c : valV kvs (Sum.inr ("classes" : Str)) = some c
  n : valV kvs (Sum.inr ("names" : Str)) = some n
  l : valV kvs (Sum.inr ("loose" : Str)) = some l
  p : valV kvs (Sum.inr ("pace" : Str)) = some p
  r : valV kvs (Sum.inr ("rest" : Str)) = some r
theorem five_c {kvs : List (Key × V)} {c n l p r : V} (f : Five kvs c n l p r) (y : V) : Five (putK kvs (Sum.inr ("classes" : Str)) y) y n l p r :=
  ⟨by rw [valV_put, if_pos rfl], by rw [valV_put, if_neg (by decide +kernel)]; exact f.n, by rw [valV_put, if_neg (by decide +kernel)]; exact f.l, by rw [valV_put, if_neg (by decide +kernel)]; exact f.p, by rw [valV_put, if_neg (by decide +kernel)]; exact f.r⟩
theorem five_n {kvs : List (Key × V)} {c n l p r : V} (f : Five kvs c n l p r) (y : V) : Five (putK kvs (Sum.inr ("names" : Str)) y) c y l p r :=
  ⟨by rw [valV_put, if_neg (by decide +kernel)]; exact f.c, by rw [valV_put, if_pos rfl], by rw [valV_put, if_neg (by decide +kernel)]; exact f.l, by rw [valV_put, if_neg (by decide +kernel)]; exact f.p, by rw [valV_put, if_neg (by decide +kernel)]; exact f.r⟩
theorem five_l {kvs : List (Key × V)} {c n l p r : V} (f : Five kvs c n l p r) (y : V) : Five (putK kvs (Sum.inr ("loose" : Str)) y) c n y p r :=
  ⟨by rw [valV_put, if_neg (by decide +kernel)]; exact f.c, by rw [valV_put, if_neg (by decide +kernel)]; exact f.n, by rw [valV_put, if_pos rfl], by rw [valV_put, if_neg (by decide +kernel)]; exact f.p, by rw [valV_put, if_neg (by decide +kernel)]; exact f.r⟩
theorem five_p {kvs : List (Key × V)} {c n l p r : V} (f : Five kvs c n l p r) (y : V) : Five (putK kvs (Sum.inr ("pace" : Str)) y) c n l y r :=
  ⟨by rw [valV_put, if_neg (by decide +kernel)]; exact f.c, by rw [valV_put, if_neg (by decide +kernel)]; exact f.n, by rw [valV_put, if_neg (by decide +kernel)]; exact f.l, by rw [valV_put, if_pos rfl], by rw [valV_put, if_neg (by decide +kernel)]; exact f.r⟩
theorem five_r {kvs : List (Key × V)} {c n l p r : V} (f : Five kvs c n l p r) (y : V) : Five (putK kvs (Sum.inr ("rest" : Str)) y) c n l p y :=
  ⟨by rw [valV_put, if_neg (by decide +kernel)]; exact f.c, by rw [valV_put, if_neg (by decide +kernel)]; exact f.n, by rw [valV_put, if_neg (by decide +kernel)]; exact f.l, by rw [valV_put, if_neg (by decide +kernel)]; exact f.p, by rw [valV_put, if_pos rfl]⟩
/-- a list of data of few items -/
def LsD (H : Hp) (v : V) : Prop := ∃ a xs, v = .ref a ∧ H a = some (.lst xs) ∧ xs.length ≤ 50
end K1

/-! from K4N -/
namespace K1
open PySem L2
/-! ### Scope with what it holds -/
def scF (a b c d e f : V) : List (Str × V) := putF "calls" f (putF "levels" e (putF "weak_names" d (putF "variable_names" c (putF "field_names" b (putF "class_names" a [])))))
theorem sc_f1 (a b c d e f : V) : (scF a b c d e f).lookup ("class_names" : Str) = some a := by
  unfold scF
  rw [lookup_putF, if_neg (by decide +kernel), lookup_putF, if_neg (by decide +kernel), lookup_putF, if_neg (by decide +kernel), lookup_putF, if_neg (by decide +kernel), lookup_putF, if_neg (by decide +kernel), lookup_putF, if_pos rfl]
theorem sc_f2 (a b c d e f : V) : (scF a b c d e f).lookup ("field_names" : Str) = some b := by
  unfold scF
  rw [lookup_putF, if_neg (by decide +kernel), lookup_putF, if_neg (by decide +kernel), lookup_putF, if_neg (by decide +kernel), lookup_putF, if_neg (by decide +kernel), lookup_putF, if_pos rfl]
theorem sc_f3 (a b c d e f : V) : (scF a b c d e f).lookup ("variable_names" : Str) = some c := by
  unfold scF
  rw [lookup_putF, if_neg (by decide +kernel), lookup_putF, if_neg (by decide +kernel), lookup_putF, if_neg (by decide +kernel), lookup_putF, if_pos rfl]
theorem sc_f4 (a b c d e f : V) : (scF a b c d e f).lookup ("weak_names" : Str) = some d := by
  unfold scF
  rw [lookup_putF, if_neg (by decide +kernel), lookup_putF, if_neg (by decide +kernel), lookup_putF, if_pos rfl]
theorem sc_f5 (a b c d e f : V) : (scF a b c d e f).lookup ("levels" : Str) = some e := by
  unfold scF
  rw [lookup_putF, if_neg (by decide +kernel), lookup_putF, if_pos rfl]
theorem sc_f6 (a b c d e f : V) : (scF a b c d e f).lookup ("calls" : Str) = some f := by
  unfold scF
  rw [lookup_putF, if_pos rfl]
def spScG (C : Addr) : Sp := fun vs H Q _ => ∃ (p dx : Addr) (a b c d e f : V), vs = [.ref p, a, b, c, d, e, f] ∧ H p = some (.ins C dx []) ∧ ∀ H', H' p = some (.ins C dx (scF a b c d e f)) → (∀ b o, H b = some o → b ≠ p → H' b = some o) → Q .non H'
section
variable {P : Program} {w : World} {K : PySem.W.Frag} {mg : Str → Option Value} {base : Heap}
end
/-! ### what a scope holds -/
structure Sco where
  cn : List Str
  fn : List Str
  vn : List Str
  wn : List Str
  lv : Int
  cs : List (Str × (Int × Bool × Int))
/-- a dict whose keys are these -/
def KeysAre (H : Hp) (a : Addr) (ns : List Str) : Prop := ∃ kvs : List (Key × V), H a = some (.dK kvs) ∧ ∀ s : Str, (valV kvs (Sum.inr s)).isSome = decide (s ∈ ns)
def CallsAt (H : Hp) (a : Addr) (cs : List (Str × (Int × Bool × Int))) : Prop := ∃ kvs : List (Key × V), H a = some (.dK kvs) ∧ ∀ s : Str, match cs.lookup s with
  | none => valV kvs (Sum.inr s) = none
  | some (m, h, d) => ∃ t, valV kvs (Sum.inr s) = some (.ref t) ∧ H t = some (.tup [.int m, .bl h, .int d])
structure ScAt (H : Hp) (C p : Addr) (sc : Sco) : Prop where
  ex : ∃ dx a b c d f : Addr, H p = some (.ins C dx (scF (.ref a) (.ref b) (.ref c) (.ref d) (.int sc.lv) (.ref f))) ∧ H a = some (.lst (sc.cn.map V.str)) ∧ KeysAre H b sc.fn ∧ H c = some (.lst (sc.vn.map V.str)) ∧ H d = some (.lst (sc.wn.map V.str)) ∧ CallsAt H f sc.cs
theorem KeysAre.mono {H H' : Hp} {a : Addr} {ns : List Str} (h : KeysAre H a ns) (s : Same H H') : KeysAre H' a ns := by
  obtain ⟨kvs, e, k⟩ := h
  exact ⟨kvs, s _ _ e, k⟩
theorem CallsAt.mono {H H' : Hp} {a : Addr} {cs : List (Str × (Int × Bool × Int))} (h : CallsAt H a cs) (s : Same H H') : CallsAt H' a cs := by
  obtain ⟨kvs, e, k⟩ := h
  refine ⟨kvs, s _ _ e, fun z => ?_⟩
  have q := k z
  cases h2 : cs.lookup z with
  | none =>
    rw [h2] at q
    exact q
  | some r =>
    obtain ⟨m, b, d⟩ := r
    rw [h2] at q
    obtain ⟨t, e1, e2⟩ := q
    exact ⟨t, e1, s _ _ e2⟩
theorem ScAt.mono {H H' : Hp} {C p : Addr} {sc : Sco} (h : ScAt H C p sc) (s : Same H H') : ScAt H' C p sc := by
  obtain ⟨dx, a, b, c, d, f, e, h1, h2, h3, h4, h5⟩ := h.ex
  exact ⟨dx, a, b, c, d, f, s _ _ e, s _ _ h1, h2.mono s, s _ _ h3, s _ _ h4, h5.mono s⟩
theorem calls_keys {H : Hp} {a : Addr} {cs : List (Str × (Int × Bool × Int))} (h : CallsAt H a cs) : KeysAre H a (cs.map (·.1)) := by
  obtain ⟨kvs, e, k⟩ := h
  refine ⟨kvs, e, fun s => ?_⟩
  have q := k s
  have look : (cs.lookup s).isSome = decide (s ∈ cs.map (·.1)) := by
    clear k q
    induction cs with
    | nil => rfl
    | cons c cs ih =>
      obtain ⟨n, r⟩ := c
      by_cases z : s = n
      · subst z
        rw [List.lookup_cons_self]
        simp
      · have : (s == n) = false := by simpa using z
        rw [List.lookup_cons, this]
        show (cs.lookup s).isSome = _
        rw [ih]
        simp [z]
  rw [← look]
  cases h2 : cs.lookup s with
  | none =>
    rw [h2] at q
    rw [q] <;> rfl
  | some r =>
    obtain ⟨m, b, d⟩ := r
    rw [h2] at q
    obtain ⟨t, e1, _⟩ := q
    rw [e1] <;> rfl
/-! ### is_one_of -/
def oneV (v : V) (ns : List Str) : Bool := match v with | .str s => decide (s ∈ ns) | _ => false
def NamesAt (H : Hp) (a : Addr) (ns : List Str) : Prop := H a = some (.lst (ns.map V.str)) ∨ KeysAre H a ns
def spOne : Sp := fun vs H Q _ => ∃ (v : V) (a : Addr) (ns : List Str), vs = [v, .ref a] ∧ Dat H v ∧ NamesAt H a ns ∧ Q (.bl (oneV v ns)) H
theorem isS_str {v : V} (h : isS v = true) : ∃ s, v = .str s := by
  cases v with
  | str s => exact ⟨s, rfl⟩
  | _ => cases h
theorem oneV_not {v : V} {ns : List Str} (h : ¬ isS v = true) : oneV v ns = false := by
  cases v with
  | str s => exact absurd rfl h
  | _ => rfl
section
variable {P : Program} {w : World} {K : PySem.W.Frag} {mg : Str → Option Value} {base : Heap}
end
end K1

/-! from K4O -/
namespace K1
open PySem L2
/-! ### fits -/
def mostR : Int := 1000000000000000000000000000000
def fitsV (sc : Sco) (kind : Str) (v : V) : Bool :=
  if kind = "block" then true else if kind = "times" then wholeV v 0 mostR else if kind = "level" then wholeV v 0 sc.lv else if kind = "variable" then oneV v sc.vn else if kind = "weak" then oneV v sc.wn
  else if kind = "class" then oneV v sc.cn else if kind = "field" then oneV v sc.fn else nameV v
def spFits (C : Addr) : Sp := fun vs H Q _ => ∃ (kind : Str) (v : V) (p : Addr) (sc : Sco), vs = [.str kind, v, .ref p] ∧ Dat H v ∧ ScAt H C p sc ∧ ∀ H', Same H H' → Q (.bl (fitsV sc kind v)) H'
section
variable {P : Program} {w : World} {K : PySem.W.Frag} {mg : Str → Option Value} {base : Heap}
end
end K1

/-! from K4P -/
namespace K1
open PySem L2
/-! ### all([e for x in xs]) -/
theorem all_lc {K : PySem.W.Frag} {σ : St} {H : Hp} {Q : VK} {i : Nat} {a : Addr} {xs : List V} {p : V → Bool} {tl te : TE} {vs : List Nat} (hl : ∀ Q' : VK, Q' (.ref a) H → tl σ H Q') (ha : H a = some (.lst xs)) (few : xs.length < sizeLine)
    (hw : ∀ x, wipe ((wipe σ vs).set i (some x)) vs = wipe σ vs) (he : ∀ x ∈ xs, ∀ H1, Same H H1 → ∀ Q' : VK, (∀ H2, Same H1 H2 → Q' (.bl (p x)) H2) → te ((wipe σ vs).set i (some x)) H1 Q')
    (k : ∀ H1, Same H H1 → Q (.bl (xs.all p)) H1) : tCB (rAll K) (tCons (tLc (iList K tl) (gName i) tYes te vs) tNil) σ H Q := by
  refine hl _ ⟨a, rfl, ⟨_, SqL.of ha⟩, fun D hD => ?_⟩
  have s0 : Same H (upd H D (.lst [])) := same_new (Same.refl _) hD
  refine lc_list (xs := xs) (fun j H1 => Same H H1 ∧ H1 D = some (.lst ((xs.take j).map fun x => V.bl (p x)))) ⟨s0, by rw [upd_same]; rfl⟩ (fun j H1 _ z => SqL.of (z.1 _ _ ha)) ?_ ?_
  · rintro j x H1 hx ⟨s1, e1⟩
    refine ⟨hw x, ?_⟩
    unfold tYes
    dsimp only
    rw [if_pos rfl]
    have hm : x ∈ xs := List.mem_of_getElem? hx
    have hj : j < xs.length := (List.getElem?_eq_some_iff.mp hx).1
    refine he x hm H1 s1 _ fun H2 s2 => ⟨_, s2 _ _ e1, ?_, fun b o e => ?_, ?_⟩
    · rw [List.length_map, List.length_take]
      omega
    · rw [upd_ne (ne_of_none e hD)]
      exact s2 _ _ (s1 b o e)
    · rw [upd_same, take_snoc hx, List.map_append]
      rfl
  · rintro H1 ⟨s1, e1⟩
    refine ⟨D, xs.map p, rfl, SqL.of (by rw [e1, List.take_of_length_le (Nat.le_refl _), List.map_map]; rfl), ?_⟩
    rw [show (xs.map p).all id = xs.all p by rw [List.all_map]; rfl]
    exact k _ s1
/-! ### data as trees -/
mutual
inductive At (H : Hp) : V → PyData → Prop
  | non : At H .non .none
  | bl (b : Bool) : At H (.bl b) (.bool b)
  | int (i : Int) : At H (.int i) (.int i)
  | str (s : Str) (h : s.length ≤ 1000 ∧ PyData.strOk s = true) : At H (.str s) (.str s)
  | lst {a : Addr} {xs : List V} {ds : List PyData} (e : H a = some (.lst xs)) (h : AtAll H xs ds) : At H (.ref a) (.list ds)
  | tup {a : Addr} {xs : List V} {ds : List PyData} (e : H a = some (.tup xs)) (h : AtAll H xs ds) : At H (.ref a) (.tuple ds)
  | dic {a : Addr} {kvs : List (Key × V)} (e : H a = some (.dK kvs)) : At H (.ref a) (.dict [])
inductive AtAll (H : Hp) : List V → List PyData → Prop
  | nil : AtAll H [] []
  | cons {v : V} {vs : List V} {d : PyData} {ds : List PyData} (h : At H v d) (t : AtAll H vs ds) : AtAll H (v :: vs) (d :: ds)
end
mutual
theorem At.mono {H H' : Hp} (s : Same H H') : ∀ {v : V} {d : PyData}, At H v d → At H' v d
  | _, _, .non => .non
  | _, _, .bl b => .bl b
  | _, _, .int i => .int i
  | _, _, .str z h => .str z h
  | _, _, .lst e h => .lst (s _ _ e) (h.mono s)
  | _, _, .tup e h => .tup (s _ _ e) (h.mono s)
  | _, _, .dic e => .dic (s _ _ e)
theorem AtAll.mono {H H' : Hp} (s : Same H H') : ∀ {vs : List V} {ds : List PyData}, AtAll H vs ds → AtAll H' vs ds
  | _, _, .nil => .nil
  | _, _, .cons h t => .cons (h.mono s) (t.mono s)
end
mutual
theorem At.dat {H : Hp} : ∀ {v : V} {d : PyData}, At H v d → Dat H v
  | _, _, .non => .non
  | _, _, .bl b => .bl b
  | _, _, .int i => .int i
  | _, _, .str z h => .str z h
  | _, _, .lst e h => .lst e h.dats
  | _, _, .tup e h => .tup e h.dats
  | _, _, .dic e => .dic e
theorem AtAll.dats {H : Hp} : ∀ {vs : List V} {ds : List PyData}, AtAll H vs ds → ∀ v ∈ vs, Dat H v
  | _, _, .nil => fun _ h => by cases h
  | _, _, .cons h t => fun v hv => by
    rcases List.mem_cons.mp hv with e | hv
    · rw [e]
      exact h.dat
    · exact t.dats v hv
end
theorem AtAll.len {H : Hp} : ∀ {vs : List V} {ds : List PyData}, AtAll H vs ds → vs.length = ds.length
  | _, _, .nil => rfl
  | _, _, .cons _ t => congrArg Nat.succ t.len
theorem AtAll.get {H : Hp} : ∀ {vs : List V} {ds : List PyData} {i : Nat} {v : V}, AtAll H vs ds → vs[i]? = some v → ∃ d, ds[i]? = some d ∧ At H v d
  | _, _, i, v, .nil, h => by simp at h
  | _, _, 0, v, .cons h t, e => by
    cases e
    exact ⟨_, rfl, h⟩
  | _, _, i + 1, v, .cons h t, e => by
    have e' : _ := e
    rw [List.getElem?_cons_succ] at e'
    obtain ⟨d, h1, h2⟩ := t.get e'
    exact ⟨d, by rw [List.getElem?_cons_succ]; exact h1, h2⟩
/-! ### the words of a statement, as trees -/
def oneT (d : PyData) (ns : List Str) : Bool := match d with | .str s => decide (s ∈ ns) | _ => false
def nameT (d : PyData) : Bool := match d with | .str s => nameS s | _ => false
def wholeT (d : PyData) (lo hi : Int) : Bool := match d with | .int i => decide (lo ≤ i) && decide (i ≤ hi) | _ => false
def fitsT (sc : Sco) (kind : Str) (d : PyData) : Bool :=
  if kind = "block" then true else if kind = "times" then wholeT d 0 mostR else if kind = "level" then wholeT d 0 sc.lv else if kind = "variable" then oneT d sc.vn else if kind = "weak" then oneT d sc.wn
  else if kind = "class" then oneT d sc.cn else if kind = "field" then oneT d sc.fn else nameT d
theorem one_at {H : Hp} {v : V} {d : PyData} (h : At H v d) (ns : List Str) : oneV v ns = oneT d ns := by cases h <;> rfl
theorem name_at {H : Hp} {v : V} {d : PyData} (h : At H v d) : nameV v = nameT d := by cases h <;> rfl
theorem whole_at {H : Hp} {v : V} {d : PyData} (h : At H v d) (lo hi : Int) : wholeV v lo hi = wholeT d lo hi := by cases h <;> rfl
theorem fits_at {H : Hp} {v : V} {d : PyData} (h : At H v d) (sc : Sco) (kind : Str) : fitsV sc kind v = fitsT sc kind d := by
  unfold fitsV fitsT
  rw [whole_at h, whole_at h, one_at h, one_at h, one_at h, one_at h, name_at h]
/-! ### fits_call -/
def argsT (d : PyData) (m : Int) (vn : List Str) : Bool := match d with | .list ys => decide ((ys.length : Int) = m) && ys.all fun y => oneT y vn | _ => false
def noneT (d : PyData) : Bool := match d with | .none => true | _ => false
def callR (sc : Sco) (t a : PyData) (rep : Int) (r : Int × Bool × Int) : Bool := ((noneT t || (r.2.1 && oneT t sc.vn)) && argsT a r.1 sc.vn) && decide (rep + r.2.2 ≤ 3)
def callN (sc : Sco) (t n a : PyData) (rep : Int) : Bool := match n with
  | .str s => (match sc.cs.lookup s with
    | none => false
    | some r => callR sc t a rep r)
  | _ => false
def callT (sc : Sco) (ds : List PyData) (rep : Int) : Bool := match ds with
  | [t, n, a] => callN sc t n a rep
  | _ => false
end K1

/-! from K4Q -/
namespace K1
open PySem L2
def spCallF (C : Addr) : Sp := fun vs H Q _ => ∃ (t p : Addr) (xs : List V) (ds : List PyData) (sc : Sco) (rep : Int), vs = [.ref t, .ref p, .int rep] ∧ H t = some (.tup xs) ∧ AtAll H xs ds ∧ ScAt H C p sc ∧ (∀ z r, sc.cs.lookup z = some r → r.1 ≤ 100) ∧ ∀ H', Same H H' → Q (.bl (callT sc ds rep)) H'
theorem callT_len {sc : Sco} {ds : List PyData} {rep : Int} (h : ds.length ≠ 3) : callT sc ds rep = false := by
  match ds, h with
  | [], _ => rfl
  | [_], _ => rfl
  | [_, _], _ => rfl
  | [_, _, _], h => exact absurd rfl h
  | _ :: _ :: _ :: _ :: _, _ => rfl
theorem callT_no {sc : Sco} {d0 d1 d2 : PyData} {rep : Int} (h : oneT d1 (sc.cs.map (·.1)) = false) : callT sc [d0, d1, d2] rep = false := by
  cases d1 with
  | str s =>
    have n : sc.cs.lookup s = none := by
      rw [List.lookup_eq_none_iff]
      intro q hq
      have h' : decide (s ∈ sc.cs.map (·.1)) = false := h
      have h2 := of_decide_eq_false h'
      have : ¬ s = q.1 := fun e => h2 (List.mem_map.mpr ⟨q, hq, e.symm⟩)
      simpa using this
    show callN sc d0 (.str s) d2 rep = false
    unfold callN
    dsimp only
    rw [n]
  | _ => rfl
theorem oneT_str {d : PyData} {ns : List Str} (h : oneT d ns = true) : ∃ s, d = .str s ∧ s ∈ ns := by
  cases d with
  | str s => exact ⟨s, rfl, of_decide_eq_true h⟩
  | _ => cases h
theorem look_some {cs : List (Str × (Int × Bool × Int))} {s : Str} (h : s ∈ cs.map (·.1)) : ∃ m b d, cs.lookup s = some (m, b, d) := by
  cases q : cs.lookup s with
  | none =>
    obtain ⟨⟨n, r⟩, hr, e⟩ := List.mem_map.mp h
    have e : n = s := e
    rw [List.lookup_eq_none_iff] at q
    have := q _ hr
    rw [e] at this
    simp at this
  | some r => exact ⟨r.1, r.2.1, r.2.2, rfl⟩
theorem at_str {H : Hp} {v : V} {s : Str} (h : At H v (.str s)) : v = .str s := by
  cases h
  rfl
theorem none_at {H : Hp} {v : V} {d : PyData} (h : At H v d) : noneT d = decide (v = .non) := by
  cases h <;> rfl
theorem fits_var {sc : Sco} {d : PyData} : fitsT sc "variable" d = oneT d sc.vn := by
  unfold fitsT
  rw [if_neg (by decide +kernel), if_neg (by decide +kernel), if_neg (by decide +kernel), if_pos rfl]
theorem fits_varV {sc : Sco} {v : V} : fitsV sc "variable" v = oneV v sc.vn := by
  unfold fitsV
  rw [if_neg (by decide +kernel), if_neg (by decide +kernel), if_neg (by decide +kernel), if_pos rfl]
theorem all_at {H : Hp} {ns : List Str} : ∀ {vs : List V} {ds : List PyData}, AtAll H vs ds → (vs.all fun v => oneV v ns) = ds.all fun d => oneT d ns
  | _, _, .nil => rfl
  | _, _, .cons h t => by
    rw [List.all_cons, List.all_cons, one_at h, all_at t]
theorem at_lst {H : Hp} {v : V} {d : PyData} (h : At H v d) : (∃ (a : Addr) (ys : List V) (es : List PyData), v = .ref a ∧ d = .list es ∧ H a = some (.lst ys) ∧ AtAll H ys es) ∨ (lstOf H v = none ∧ ∀ m vn, argsT d m vn = false) := by
  cases h with
  | lst e t => exact .inl ⟨_, _, _, rfl, rfl, e, t⟩
  | tup e t => exact .inr ⟨lstOf_tup e, fun _ _ => rfl⟩
  | dic e => exact .inr ⟨lstOf_dic e, fun _ _ => rfl⟩
  | _ => exact .inr ⟨rfl, fun _ _ => rfl⟩
abbrev fcN : List Str := ["words", "scope", "repeats", "target", "name", "arguments", "many", "has_result", "depth", "argument"]
section
variable {P : Program} {w : World} {K : PySem.W.Frag} {mg : Str → Option Value} {base : Heap}
end
end K1

/-! from K4T -/
namespace L2
open PySem PySem.Spec PyProof.Rows
end L2
namespace K1
open PySem L2
/-! ### all([e for x, y in zip(xs, ys)]), two tuples -/
theorem all_zip {K : PySem.W.Frag} {σ : St} {H : Hp} {Q : VK} {i j : Nat} {a b : Addr} {xs ys : List V} {p : V → V → Bool} {ta : TA} {te : TE} {vs : List Nat} (hl : ∀ Q' : List V → Hp → Prop, Q' [.ref a, .ref b] H → ta σ H Q') (ha : ∀ H1, Same H H1 → SqT K H1 a xs) (hb : ∀ H1, Same H H1 → SqT K H1 b ys) (len : xs.length = ys.length)
    (few : xs.length < sizeLine) (hw : ∀ x y, wipe (((wipe σ vs).set i (some x)).set j (some y)) vs = wipe σ vs)
    (he : ∀ (k : Nat) (x y : V), xs[k]? = some x → ys[k]? = some y → ∀ H1, Same H H1 → ∀ Q' : VK, (∀ H2, Same H1 H2 → Q' (.bl (p x y)) H2) → te (((wipe σ vs).set i (some x)).set j (some y)) H1 Q')
    (k : ∀ H1, Same H H1 → Q (.bl ((xs.zip ys).all fun q => p q.1 q.2)) H1) :
    tCB (rAll K) (tCons (tLc (RZ.iZipA K ta) (gTup K 2 (gCons (gName i) (gCons (gName j) gNil))) tYes te vs) tNil) σ H Q := by
  refine hl _ ⟨a, b, xs, ys, rfl, .inr ⟨ha H (Same.refl H), hb H (Same.refl H), fun D hD => ?_⟩⟩
  have s0 : Same H (upd H D (.lst [])) := same_new (Same.refl _) hD
  have lz : (xs.zip ys).length = xs.length := by rw [List.length_zip]; omega
  refine ⟨fun n m H1 => m + n = xs.length ∧ Same H H1 ∧ H1 D = some (.lst (((xs.zip ys).take n).map fun q => V.bl (p q.1 q.2))), ⟨xs.length, by omega, s0, by rw [upd_same]; rfl⟩, ?_⟩
  rintro n m H1 ⟨hm, s1, e1⟩
  by_cases hlt : n < xs.length
  · have hx : xs[n]? = some xs[n] := List.getElem?_eq_getElem hlt
    have hy : ys[n]? = some (ys[n]'(by omega)) := List.getElem?_eq_getElem (by omega)
    have hz : (xs.zip ys)[n]? = some (xs[n], ys[n]'(by omega)) := by
      rw [List.getElem?_eq_getElem (by omega), List.getElem_zip]
    refine .inr ⟨⟨xs, ys, _, _, ha H1 s1, hb H1 s1, hx, hy⟩, fun H2 => Same H H2 ∧ H2 D = some (.lst (((xs.zip ys).take (n + 1)).map fun q => V.bl (p q.1 q.2))), fun H2 h2 => ⟨xs.length - (n + 1), by omega, by omega, h2⟩, fun v H2 y => ?_⟩
    obtain ⟨T, x, y, rfl, hT, rfl, q1, q2⟩ := y
    have ex := q1 xs (ha H1 s1)
    have ey := q2 ys (hb H1 s1)
    have s2 : Same H1 (upd H1 T (.tup [x, y])) := same_new (Same.refl _) hT
    refine pair_rd ⟨hw x y, ?_⟩
    unfold tYes
    dsimp only
    rw [if_pos rfl]
    refine he n x y ex ey _ (s1.trans s2) _ fun H3 s3 => ⟨_, s3 _ _ (s2 _ _ e1), ?_, fun b o e => ?_, ?_⟩
    · rw [List.length_map, List.length_take]
      omega
    · rw [upd_ne (ne_of_none e hD)]
      exact s3 _ _ (s2 _ _ (s1 b o e))
    · have ez : (xs.zip ys)[n]? = some (x, y) := by
        rw [hx] at ex
        rw [hy] at ey
        rw [hz, Option.some.inj ex, Option.some.inj ey]
      rw [upd_same, take_snoc ez, List.map_append]
      rfl
  · have en : n = xs.length := by omega
    subst en
    refine .inl ⟨⟨xs, ys, ha H1 s1, hb H1 s1, .inl (Nat.le_refl _)⟩, ?_⟩
    refine ⟨D, (xs.zip ys).map fun q => p q.1 q.2, rfl, SqL.of (by rw [e1, List.take_of_length_le (by omega), List.map_map]; rfl), ?_⟩
    rw [show ((xs.zip ys).map fun q => p q.1 q.2).all id = (xs.zip ys).all fun q => p q.1 q.2 by rw [List.all_map]; rfl]
    exact k _ s1
end K1

/-! from K4U -/
namespace K1
open PySem L2
/-! ### fits_form -/
def forms : List (Str × List Str) := [("new", ["variable", "class"]), ("copy", ["variable", "variable"]), ("clear", ["variable"]), ("load", ["variable", "variable", "field"]), ("store", ["variable", "field", "variable"]), ("wipe", ["variable", "field"]), ("tag", ["variable", "name"]), ("emit", ["variable"]),
  ("weak", ["weak", "variable"]), ("get", ["variable", "weak"]), ("collect", ["level"]), ("ifnil", ["variable", "block", "block"]), ("ifsame", ["variable", "variable", "block", "block"]), ("repeat", ["times", "block"])]
structure Frm (w : World) (K : PySem.W.Frag) (mg : Str → Option Value) (fa : Addr) : Prop where
  g : mg "FORMS" = some (.ref fa)
  kd : ∃ es n, KDict K w fa es n
  has : ∀ s ws, forms.lookup s = some ws → ∃ t, PySem.W.nsIn K fa s = some (some (.ref t)) ∧ ∀ H, SqT K H t (ws.map V.str)
  no : ∀ s, forms.lookup s = none → PySem.W.nsIn K fa s = some none
theorem look_mem {α : Type} {s : Str} {r : α} : ∀ {cs : List (Str × α)}, cs.lookup s = some r → (s, r) ∈ cs
  | [], h => by cases h
  | (n, x) :: cs, h => by
    rw [List.lookup_cons] at h
    split at h
    · rename_i z
      cases h
      rw [show s = n by simpa using z]
      exact List.mem_cons_self
    · exact List.mem_cons_of_mem _ (look_mem h)
theorem forms_few {s : Str} {ws : List Str} (h : forms.lookup s = some ws) : ws.length ≤ 4 ∧ ws ≠ [] := by
  have : ∀ q ∈ forms, q.2.length ≤ 4 ∧ q.2 ≠ [] := by decide +kernel
  exact this (s, ws) (look_mem h)
theorem at_tup {H : Hp} {v : V} {d : PyData} (h : At H v d) : (∃ (a : Addr) (ys : List V) (es : List PyData), v = .ref a ∧ d = .tuple es ∧ H a = some (.tup ys) ∧ AtAll H ys es) ∨ (tupOf H v = none ∧ ∀ es, d ≠ .tuple es) := by
  cases h with
  | lst e t => exact .inr ⟨tupOf_lst e, fun _ z => by cases z⟩
  | tup e t => exact .inl ⟨_, _, _, rfl, rfl, e, t⟩
  | dic e => exact .inr ⟨tupOf_dic e, fun _ z => by cases z⟩
  | _ => exact .inr ⟨rfl, fun _ z => by cases z⟩
def kindsT (sc : Sco) (ws : List Str) (ds : List PyData) : Bool := decide (ds.length = ws.length) && (ws.zip ds).all fun q => fitsT sc q.1 q.2
def wordsT (sc : Sco) (s : Str) (ds : List PyData) (rep : Int) : Bool :=
  if s = "call" then callT sc ds rep else match forms.lookup s with
    | none => false
    | some ws => (decide (ds.length = ws.length) && !(decide (s = "repeat") && decide (rep = 3))) && (ws.zip ds).all fun q => fitsT sc q.1 q.2
def formT (sc : Sco) (d : PyData) (rep : Int) : Bool := match d with
  | .tuple (.str s :: ds) => wordsT sc s ds rep
  | _ => false
def spForm (C : Addr) : Sp := fun vs H Q _ => ∃ (v : V) (p : Addr) (d : PyData) (sc : Sco) (rep : Int), vs = [v, .ref p, .int rep] ∧ At H v d ∧ ScAt H C p sc ∧ (∀ z r, sc.cs.lookup z = some r → r.1 ≤ 100) ∧ ∀ H', Same H H' → Q (.bl (formT sc d rep)) H'
theorem form_not {sc : Sco} {d : PyData} {rep : Int} (h : ∀ es, d ≠ .tuple es) : formT sc d rep = false := by
  unfold formT
  split
  · exact absurd rfl (h _)
  · rfl
theorem form_str {sc : Sco} {e : PyData} {es : List PyData} {rep : Int} (h : ∀ z, e ≠ .str z) : formT sc (.tuple (e :: es)) rep = false := by
  unfold formT
  split
  · rename_i q
    cases q
    exact absurd rfl (h _)
  · rfl
theorem isS_at {H : Hp} {v : V} {d : PyData} (h : At H v d) : (isS v = true ∧ ∃ z, v = .str z ∧ d = .str z) ∨ (isS v = false ∧ ∀ z, d ≠ .str z) := by
  cases h with
  | str s _ => exact .inl ⟨rfl, s, rfl, rfl⟩
  | _ => exact .inr ⟨rfl, fun _ z => by cases z⟩
theorem sIx_one {n d : Nat} (h : 1 ≤ n) : HT.sIx n d (some 1) = 1 := by
  show (if (1 : Int) < 0 then ((1 : Int) + (n : Int)).toNat else min (1 : Int).toNat n) = 1
  rw [if_neg (by decide)]
  show min 1 n = 1
  omega
theorem cut_tail {y : V} {ys : List V} : cutV (y :: ys) (some 1) none = ys := by
  unfold cutV
  have e1 : HT.sIx (y :: ys).length 0 (some 1) = 1 := sIx_one (by rw [List.length_cons]; omega)
  have e2 : HT.sIx (y :: ys).length (y :: ys).length none = ys.length + 1 := rfl
  rw [e1, e2]
  show List.take (ys.length + 1 - 1) ys = ys
  simp
theorem zip_fits {H : Hp} {sc : Sco} : ∀ {vs : List V} {ds : List PyData}, AtAll H vs ds → ∀ ws : List Str, (((ws.map V.str).zip vs).all fun q => match q.1 with | .str kd => fitsV sc kd q.2 | _ => false) = (ws.zip ds).all fun q => fitsT sc q.1 q.2
  | _, _, .nil, ws => by cases ws <;> rfl
  | _, _, .cons h t, [] => rfl
  | _, _, .cons (v := v) (d := d) h t, k :: ws => by
    rw [List.map_cons, List.zip_cons_cons, List.zip_cons_cons, List.all_cons, List.all_cons, zip_fits t ws]
    show (fitsV sc k v && _) = (fitsT sc k d && _)
    rw [fits_at h]
abbrev ffN : List Str := ["statement", "scope", "repeats", "word", "words", "kinds", "kind", "value"]
section
variable {P : Program} {w : World} {K : PySem.W.Frag} {mg : Str → Option Value} {base : Heap}
end
end K1

/-! from K4V -/
namespace K1
open PySem L2
/-! ### depth_of -/
def callDp (sc : Sco) (es : List PyData) : Int := match es with
  | [_, n, _] => (match n with
    | .str s => (match sc.cs.lookup s with
      | some r => r.2.2
      | none => 0)
    | _ => 0)
  | _ => 0
def depthT (sc : Sco) (s : Str) (es : List PyData) (rep : Int) : Int := if s = "repeat" then rep + 1 else if s = "call" then rep + callDp sc es else rep
theorem callT_is {sc : Sco} {es : List PyData} {rep : Int} (h : callT sc es rep = true) : ∃ t z a m b dp, es = [t, .str z, a] ∧ sc.cs.lookup z = some (m, b, dp) := by
  match es, h with
  | [], h => cases h
  | [_], h => cases h
  | [_, _], h => cases h
  | [t, n, a], h =>
    have h : callN sc t n a rep = true := h
    cases n with
    | str z =>
      unfold callN at h
      dsimp only at h
      cases q : sc.cs.lookup z with
      | none =>
        rw [q] at h
        cases h
      | some r => exact ⟨t, z, a, r.1, r.2.1, r.2.2, rfl, q⟩
    | _ => cases h
  | _ :: _ :: _ :: _ :: _, h => cases h
def spDepth (C : Addr) : Sp := fun vs H Q _ => ∃ (a p : Addr) (s : Str) (ys : List V) (es : List PyData) (sc : Sco) (rep : Int), vs = [.ref a, .ref p, .int rep] ∧ H a = some (.tup (.str s :: ys)) ∧ AtAll H ys es ∧ ScAt H C p sc ∧ wordsT sc s es rep = true ∧ Q (.int (depthT sc s es rep)) H
section
variable {P : Program} {w : World} {K : PySem.W.Frag} {mg : Str → Option Value} {base : Heap}
theorem str_iff {x y : Str} : V.str x = V.str y ↔ x = y := ⟨fun e => by cases e; rfl, fun e => by rw [e]⟩
theorem none_of' {H H1 : Hp} {a : Addr} (s : Same H H1) (h : H1 a = none) : H a = none := by
  cases e : H a with
  | none => rfl
  | some o => rw [s _ _ e] at h; cases h
/-! ### blocks_of -/
def blkV {α : Type} (s : Str) (ys : List α) : List (α × List Int) :=
  if s = "repeat" then (match ys with
    | [_, b] => [(b, [])]
    | _ => [])
  else if s = "ifnil" then (match ys with
    | [_, a, b] => [(b, [1]), (a, [0])]
    | _ => [])
  else if s = "ifsame" then (match ys with
    | [_, _, a, b] => [(b, [1]), (a, [0])]
    | _ => [])
  else []
def BlkAt (H0 H : Hp) (pp : List Int) (t : V) (q : V × List Int) : Prop := ∃ (u pl : Addr), t = .ref u ∧ H0 u = none ∧ H u = some (.tup [q.1, .ref pl]) ∧ H pl = some (.tup ((pp ++ q.2).map V.int))
def spBlocks : Sp := fun vs H Q _ => ∃ (a pl : Addr) (s : Str) (ys : List V) (pp : List Int), vs = [.ref a, .ref pl] ∧ H a = some (.tup (.str s :: ys)) ∧ H pl = some (.tup (pp.map V.int)) ∧ pp ≠ [] ∧ pp.length ≤ 1000 ∧ (∀ ws, forms.lookup s = some ws → ys.length = ws.length) ∧
  ∀ (q : Addr) (H' : Hp) (ts : List V), Same H H' → H q = none → H' q = some (.lst ts) → Paired (BlkAt H H' pp) ts (blkV s ys) → Q (.ref q) H'
theorem one_blk {H0 H : Hp} {pp : List Int} {z : Str} {ys : List V} {pl u : Addr} {b : V} (e : blkV z ys = [(b, [])]) (n : H0 u = none) (h : H u = some (.tup [b, .ref pl])) (hp : H pl = some (.tup (pp.map V.int))) : Paired (BlkAt H0 H pp) [.ref u] (blkV z ys) := by
  rw [e]
  exact .cons ⟨u, pl, rfl, n, h, by rw [List.append_nil]; exact hp⟩ .nil
theorem two_rd {σ : St} {H : Hp} {Q : VK} {a pl : Addr} {z : Str} {ys : List V} {pp : List Int} {b0 a0 : V} (e0 : σ[0]? = some (some (.ref a))) (e1 : σ[1]? = some (some (.ref pl))) (ha : H a = some (.tup (.str z :: ys))) (hpl : H pl = some (.tup (pp.map V.int))) (np : pp ≠ []) (pf : pp.length ≤ 1000)
    (hb : atI (V.str z :: ys) (-1) = some b0) (hc : atI (V.str z :: ys) (-2) = some a0) (eb : blkV z ys = [(b0, [1]), (a0, [0])]) (k : ∀ (q : Addr) (H' : Hp) (ts : List V), Same H H' → H q = none → H' q = some (.lst ts) → Paired (BlkAt H H' pp) ts (blkV z ys) → Q (.ref q) H') :
    tLst (tCons (tTup (tCons (tOp (rIxT K) (tVar 0) (tUn (rU fun i => V.int (-i)) (tC (V.int 1)))) (tCons (tOp (rCatT K) (tVar 1) (tTup (tCons (tC (V.int 1)) tNil))) tNil))) (tCons (tTup (tCons (tOp (rIxT K) (tVar 0) (tUn (rU fun i => V.int (-i)) (tC (V.int 2)))) (tCons (tOp (rCatT K) (tVar 1) (tTup (tCons (tC (V.int 0)) tNil))) tNil))) tNil)) σ H Q := by
  have big : 1001 ≤ sizeLine := by decide
  have nmap : pp.map V.int ≠ [] := fun e => np (List.map_eq_nil_iff.mp e)
  refine ⟨_, e0, 1, rfl, a, _, _, b0, rfl, rfl, SqT.of ha, hb, _, e1, by show 1 ≤ sizeLine; decide, fun t1 n1 => ?_⟩
  have s1 := same_new (o := .tup [.int 1]) (Same.refl H) n1
  refine ⟨pl, t1, _, _, rfl, rfl, SqT.of (s1 _ _ hpl), SqT.of upd_same, nmap, by rw [List.length_map, List.length_singleton]; omega, fun z => (by cases z), fun _ p1 m1 => ?_⟩
  have s2 := same_new (o := .tup (pp.map V.int ++ [.int 1])) s1 m1
  refine ⟨by show 2 ≤ sizeLine; decide, fun u1 v1 => ?_⟩
  have s3 := same_new (o := .tup [b0, .ref p1]) s2 v1
  refine ⟨_, e0, 2, rfl, a, _, _, a0, rfl, rfl, SqT.of (s3 _ _ ha), hc, _, e1, by show 1 ≤ sizeLine; decide, fun t2 n2 => ?_⟩
  have s4 := same_new (o := .tup [.int 0]) s3 n2
  refine ⟨pl, t2, _, _, rfl, rfl, SqT.of (s4 _ _ hpl), SqT.of upd_same, nmap, by rw [List.length_map, List.length_singleton]; omega, fun z => (by cases z), fun _ p2 m2 => ?_⟩
  have s5 := same_new (o := .tup (pp.map V.int ++ [.int 0])) s4 m2
  refine ⟨by show 2 ≤ sizeLine; decide, fun u2 v2 => ?_⟩
  have s6 := same_new (o := .tup [a0, .ref p2]) s5 v2
  refine ⟨by show 2 ≤ sizeLine; decide, fun q nq => ?_⟩
  have s7 := same_new (o := .lst [.ref u1, .ref u2]) s6 nq
  have f3 : Same _ _ := ((((same_new (o := .tup [.int 0]) (Same.refl _) n2).trans (same_new (o := .tup (pp.map V.int ++ [.int 0])) (Same.refl _) m2)).trans (same_new (o := .tup [a0, .ref p2]) (Same.refl _) v2)).trans (same_new (o := .lst [.ref u1, .ref u2]) (Same.refl _) nq))
  refine k q _ [.ref u1, .ref u2] s7 (none_of' s6 nq) upd_same ?_
  rw [eb]
  refine .cons ⟨u1, p1, rfl, none_of' s2 v1, f3 _ _ upd_same, ?_⟩ (.cons ⟨u2, p2, rfl, none_of' s5 v2, ?_, ?_⟩ .nil)
  · rw [List.map_append]
    exact f3 _ _ (same_new (o := .tup [b0, .ref p1]) (Same.refl _) v1 _ _ upd_same)
  · exact same_new (o := .lst [.ref u1, .ref u2]) (Same.refl _) nq _ _ upd_same
  · rw [List.map_append]
    exact ((same_new (o := .tup [a0, .ref p2]) (Same.refl _) v2).trans (same_new (o := .lst [.ref u1, .ref u2]) (Same.refl _) nq)) _ _ upd_same
end
end K1

/-! from K4W -/
namespace K1
open PySem L2
/-! ### survey, as a run over trees -/
structure Fr where
  blk : PyData
  ahead : List Int
  nested : Nat
  rep : Int
  index : Nat
abbrev Sv : Type := Option (List Int) × Int × Int
inductive Nxt where
  | fin (r : Sv)
  | go (ws : List Fr) (many depth : Int)
theorem st_good {sc : Sco} {w : Fr} {d : PyData} (h : formT sc d w.rep = true) : ∃ s es, d = .tuple (.str s :: es) ∧ wordsT sc s es w.rep = true := by
  unfold formT at h
  split at h
  · exact ⟨_, _, rfl, h⟩
  · cases h
theorem at_lst2 {H : Hp} {v : V} {d : PyData} (h : At H v d) : (∃ (a : Addr) (ys : List V) (es : List PyData), v = .ref a ∧ d = .list es ∧ H a = some (.lst ys) ∧ AtAll H ys es) ∨ (lstOf H v = none ∧ ∀ es, d ≠ .list es) := by
  cases h with
  | lst e t => exact .inl ⟨_, _, _, rfl, rfl, e, t⟩
  | tup e t => exact .inr ⟨lstOf_tup e, fun _ z => by cases z⟩
  | dic e => exact .inr ⟨lstOf_dic e, fun _ z => by cases z⟩
  | _ => exact .inr ⟨rfl, fun _ z => by cases z⟩
theorem paired_snoc {α β : Type} {F : α → β → Prop} : ∀ {l : List α} {m : List β} {b : β}, Paired F l (m ++ [b]) → ∃ l' a, l = l' ++ [a] ∧ Paired F l' m ∧ F a b
  | _, [], b, h => by
    cases h with
    | cons f t =>
      cases t
      exact ⟨[], _, rfl, .nil, f⟩
  | _, c :: m, b, h => by
    cases h with
    | cons f t =>
      obtain ⟨l', a, e, p, q⟩ := paired_snoc t
      exact ⟨_ :: l', a, by rw [e]; rfl, .cons f p, q⟩
theorem paired_app {α β : Type} {F : α → β → Prop} : ∀ {l l' : List α} {m m' : List β}, Paired F l m → Paired F l' m' → Paired F (l ++ l') (m ++ m')
  | _, _, _, _, .nil, h => h
  | _, _, _, _, .cons f t, h => .cons f (paired_app t h)
theorem blk_at {H : Hp} {s : Str} {ys : List V} {es : List PyData} (h : AtAll H ys es) : Paired (fun q q' => At H q.1 q'.1 ∧ q.2 = q'.2) (blkV s ys) (blkV s es) := by
  unfold blkV
  by_cases h1 : s = "repeat"
  · rw [if_pos h1, if_pos h1]
    match ys, es, h with
    | _, _, .nil => exact .nil
    | _, _, .cons _ .nil => exact .nil
    | _, _, .cons _ (.cons h2 .nil) => exact .cons ⟨h2, rfl⟩ .nil
    | _, _, .cons _ (.cons _ (.cons _ _)) => exact .nil
  rw [if_neg h1, if_neg h1]
  by_cases h2 : s = "ifnil"
  · rw [if_pos h2, if_pos h2]
    match ys, es, h with
    | _, _, .nil => exact .nil
    | _, _, .cons _ .nil => exact .nil
    | _, _, .cons _ (.cons _ .nil) => exact .nil
    | _, _, .cons _ (.cons a (.cons b .nil)) => exact .cons ⟨b, rfl⟩ (.cons ⟨a, rfl⟩ .nil)
    | _, _, .cons _ (.cons _ (.cons _ (.cons _ _))) => exact .nil
  rw [if_neg h2, if_neg h2]
  by_cases h3 : s = "ifsame"
  · rw [if_pos h3, if_pos h3]
    match ys, es, h with
    | _, _, .nil => exact .nil
    | _, _, .cons _ .nil => exact .nil
    | _, _, .cons _ (.cons _ .nil) => exact .nil
    | _, _, .cons _ (.cons _ (.cons _ .nil)) => exact .nil
    | _, _, .cons _ (.cons _ (.cons a (.cons b .nil))) => exact .cons ⟨b, rfl⟩ (.cons ⟨a, rfl⟩ .nil)
    | _, _, .cons _ (.cons _ (.cons _ (.cons _ (.cons _ _)))) => exact .nil
  rw [if_neg h3, if_neg h3]
  exact .nil
theorem blk_few {α : Type} {s : Str} {ys : List α} : (blkV s ys).length ≤ 2 ∧ ∀ q ∈ blkV s ys, q.2.length ≤ 1 := by
  unfold blkV
  split
  · split
    · exact ⟨by simp, fun q hq => by rw [List.mem_singleton.mp hq]; simp⟩
    · exact ⟨by simp, fun q hq => by cases hq⟩
  split
  · split
    · exact ⟨by simp, fun q hq => by
        simp only [List.mem_cons, List.not_mem_nil, or_false] at hq
        rcases hq with rfl | rfl <;> simp⟩
    · exact ⟨by simp, fun q hq => by cases hq⟩
  split
  · split
    · exact ⟨by simp, fun q hq => by
        simp only [List.mem_cons, List.not_mem_nil, or_false] at hq
        rcases hq with rfl | rfl <;> simp⟩
    · exact ⟨by simp, fun q hq => by cases hq⟩
  exact ⟨by simp, fun q hq => by cases hq⟩
theorem same_updL {H H2 : Hp} {a : Addr} {o : HO} (s : Same H H2) (h : H a = none) : Same H (upd H2 a o) := fun b u e => by
  have ne : b ≠ a := fun z => by rw [z, h] at e; cases e
  rw [upd_ne ne]
  exact s _ _ e
/-! ### where it stands -/
def FrAt (H0 H : Hp) (v : V) (w : Fr) : Prop := ∃ (u pl : Addr) (bv : V), v = .ref u ∧ H u = some (.tup [bv, .ref pl, .int w.nested, .int w.rep, .int w.index]) ∧ At H0 bv w.blk ∧ H pl = some (.tup (w.ahead.map V.int)) ∧ w.ahead.length ≤ 2 * w.nested ∧ w.nested ≤ 61 ∧ ∀ ds, w.blk = .list ds → w.index ≤ ds.length
theorem FrAt.mono {H0 H H' : Hp} {v : V} {w : Fr} (h : FrAt H0 H v w) (s : Same H H') : FrAt H0 H' v w := by
  obtain ⟨u, pl, bv, e, h1, h2, h3, h4⟩ := h
  exact ⟨u, pl, bv, e, s _ _ h1, h2, s _ _ h3, h4⟩
theorem FrAt.upd {H0 H : Hp} {v : V} {w : Fr} {l : Addr} {xs ys : List V} (h : FrAt H0 H v w) (hl : H l = some (.lst xs)) : FrAt H0 (L2.upd H l (.lst ys)) v w := by
  obtain ⟨u, pl, bv, e, h1, h2, h3, h4⟩ := h
  refine ⟨u, pl, bv, e, ?_, h2, ?_, h4⟩
  · rw [upd_ne (ne_of h1 hl (by intro z; cases z))]
    exact h1
  · rw [upd_ne (ne_of h3 hl (by intro z; cases z))]
    exact h3
def PlaceV (H : Hp) (v : V) (o : Option (List Int)) : Prop := match o with
  | none => v = .non
  | some l => ∃ t, v = .ref t ∧ H t = some (.tup (l.map V.int))
def SuAt (H : Hp) (CU x : Addr) (r : Sv) : Prop := ∃ (dx : Addr) (pv : V) (bu : Bool), H x = some (.ins CU dx (suF pv (.int r.2.1) (.int r.2.2) (.bl bu))) ∧ PlaceV H pv r.1 ∧ ∀ l, r.1 = some l → l.length ≤ 200
end K1

/-! from K4Y -/
namespace K1
open PySem L2
theorem words_len {sc : Sco} {s : Str} {es : List PyData} {rep : Int} {ws : List Str} (h : wordsT sc s es rep = true) (e : forms.lookup s = some ws) : es.length = ws.length := by
  unfold wordsT at h
  split at h
  · rename_i z
    rw [z, show forms.lookup ("call" : Str) = none by decide +kernel] at e
    cases e
  · rw [e] at h
    have h : ((decide (es.length = ws.length) && !(decide (s = "repeat") && decide (rep = 3))) && (ws.zip es).all fun q => fitsT sc q.1 q.2) = true := h
    rw [Bool.and_eq_true, Bool.and_eq_true] at h
    exact of_decide_eq_true h.1.1
abbrev svN : List Str := ["body", "scope", "many", "depth", "buried", "ways", "block", "ahead", "nested", "repeats", "index", "statement", "place", "inner", "part", "start"]
section
variable {P : Program} {w : World} {K : PySem.W.Frag} {mg : Str → Option Value} {base : Heap}
end
end K1

/-! from K4Z -/
namespace K1
open PySem L2
/-! ### what is new since a heap -/
def off (H0 H : Hp) : Hp := fun a => match H0 a with
  | none => H a
  | some _ => none
theorem off_of {H0 H : Hp} {a : Addr} {o : HO} (n : H0 a = none) (h : H a = some o) : off H0 H a = some o := by
  unfold off
  rw [n]
  exact h
theorem off_at {H0 H : Hp} {a : Addr} {o : HO} (h : off H0 H a = some o) : H0 a = none ∧ H a = some o := by
  unfold off at h
  cases q : H0 a with
  | none =>
    rw [q] at h
    exact ⟨rfl, h⟩
  | some u =>
    rw [q] at h
    cases h
theorem off_mono {H0 H H' : Hp} (s : Same H H') : Same (off H0 H) (off H0 H') := fun b o e => by
  obtain ⟨n, h⟩ := off_at e
  exact off_of n (s _ _ h)
theorem off_sub {H0 H : Hp} : Same (off H0 H) H := fun b o e => (off_at e).2
theorem off_base {H0 H1 H : Hp} (s : Same H0 H1) : Same (off H1 H) (off H0 H) := fun b o e => by
  obtain ⟨n, h⟩ := off_at e
  exact off_of (none_of' s n) h
theorem off_dom {H0 H1 H : Hp} (s : ∀ a, H1 a = none → H0 a = none) : Same (off H1 H) (off H0 H) := fun b o e => by
  obtain ⟨n, h⟩ := off_at e
  exact off_of (s _ n) h
theorem dom_upd {H H1 : Hp} {l : Addr} {o u : HO} (s : Same H H1) (h : H1 l = some u) : ∀ a, H1 a = none → upd H l o a = none := fun a n => by
  rw [upd_ne (fun e => by rw [e, h] at n; cases n)]
  exact none_of' s n
theorem off_upd {H0 H : Hp} {l : Addr} {o u : HO} (h : H0 l = some u) : Same (off H0 H) (off H0 (upd H l o)) := fun b z e => by
  obtain ⟨n, q⟩ := off_at e
  refine off_of n ?_
  rw [upd_ne (fun y => by rw [y, h] at n; cases n)]
  exact q
/-! ### copied_block -/
def scaT (d : PyData) : Bool := match d with
  | .none | .bool _ | .int _ | .str _ => true
  | _ => false
def cpW (f : PyData → Bool) (s : Str) (d : PyData) : Bool := match d with
  | .list ds => if s = "call" then ds.all scaT else f d
  | _ => scaT d
def cpS (f : PyData → Bool) (d : PyData) : Bool := match d with
  | .tuple (.str s :: ds) => decide (ds.length ≤ 900) && ds.all (cpW f s)
  | _ => false
/-- what copied_block can copy, so deep -/
def cpB : Nat → PyData → Bool
  | 0, _ => false
  | k + 1, d => match d with
    | .list ds => decide (ds.length ≤ 900) && ds.all (cpS (cpB k))
    | _ => false
theorem cpB_is {k : Nat} {ds : List PyData} (h : cpB (k + 1) (.list ds) = true) : ds.length ≤ 900 ∧ ∀ d ∈ ds, cpS (cpB k) d = true := by
  have h : (decide (ds.length ≤ 900) && ds.all (cpS (cpB k))) = true := h
  rw [Bool.and_eq_true, List.all_eq_true] at h
  exact ⟨of_decide_eq_true h.1, h.2⟩
theorem cpS_is {f : PyData → Bool} {d : PyData} (h : cpS f d = true) : ∃ s ds, d = .tuple (.str s :: ds) ∧ ds.length ≤ 900 ∧ ∀ e ∈ ds, cpW f s e = true := by
  unfold cpS at h
  split at h
  · rw [Bool.and_eq_true, List.all_eq_true] at h
    exact ⟨_, _, rfl, of_decide_eq_true h.1, h.2⟩
  · cases h
theorem at_sca {H H' : Hp} {v : V} {d : PyData} (h : At H v d) (s : scaT d = true) : At H' v d := by
  cases h with
  | non => exact .non
  | bl b => exact .bl b
  | int i => exact .int i
  | str z q => exact .str z q
  | _ => cases s
theorem at_scas {H H' : Hp} : ∀ {vs : List V} {ds : List PyData}, AtAll H vs ds → (∀ d ∈ ds, scaT d = true) → AtAll H' vs ds
  | _, _, .nil, _ => .nil
  | _, _, .cons h t, s => .cons (at_sca h (s _ List.mem_cons_self)) (at_scas t fun d hd => s d (List.mem_cons_of_mem _ hd))
theorem at_app {H : Hp} : ∀ {vs vs' : List V} {ds ds' : List PyData}, AtAll H vs ds → AtAll H vs' ds' → AtAll H (vs ++ vs') (ds ++ ds')
  | _, _, _, _, .nil, h => h
  | _, _, _, _, .cons h t, h' => .cons h (at_app t h')
def spCopy (k : Nat) : Sp := fun vs H Q _ => ∃ (b : Addr) (ds : List PyData), vs = [.ref b] ∧ At H (.ref b) (.list ds) ∧ cpB k (.list ds) = true ∧ ∀ q H', Same H H' → At (off H H') (.ref q) (.list ds) → Q (.ref q) H'
abbrev cpN : List Str := ["block", "rows", "statement", "words", "word"]
section
variable {P : Program} {w : World} {K : PySem.W.Frag} {mg : Str → Option Value} {base : Heap}
end
end K1

/-! from L4A -/
namespace K1
open PySem L2
/-! ### scope_for, with what it holds -/
def scoOf (rows : List Row) (vn wn : List Str) (lv : Int) (cs : List (Str × (Int × Bool × Int))) : Sco := ⟨rows.map (·.n), rows.flatMap (·.fs), vn, wn, lv, cs⟩
def spSF (C : Addr) : Sp := fun vs H Q _ => ∃ (nm a wk r cs : Addr) (rows : List Row) (vn wn : List Str) (rs : List V) (cl : List (Str × (Int × Bool × Int))), vs = [.ref nm, .ref a, .ref wk, .ref r, .ref cs] ∧ ClsN nul H a rows ∧ rows.length ≤ 6 ∧ (∀ q ∈ rows, q.fs.length ≤ 3) ∧ H nm = some (.lst (vn.map V.str)) ∧ H wk = some (.lst (wn.map V.str)) ∧ H r = some (.lst rs) ∧ CallsAt H cs cl ∧
  ∀ p H', Same H H' → H p = none → ScAt H' C p (scoOf rows vn wn rs.length cl) → Q (.ref p) H'
/-- the keys of a dict that is being filled -/
def FK (kvs : List (Key × V)) (ns : List Str) : Prop := ∀ s : Str, (valV kvs (Sum.inr s)).isSome = decide (s ∈ ns)
theorem fk_nil : FK [] [] := fun s => rfl
theorem fk_put {kvs : List (Key × V)} {ns : List Str} (h : FK kvs ns) (t : Str) (v : V) : FK (putK kvs (Sum.inr t) v) (ns ++ [t]) := fun s => by
  rw [valV_put]
  by_cases e : s = t
  · rw [if_pos (by rw [e]), e]
    simp
  · rw [if_neg (fun z => e (by cases z; rfl)), h s]
    simp [e]
theorem flat_take {rows : List Row} {i : Nat} {q : Row} (h : rows[i]? = some q) : (rows.take (i + 1)).flatMap (·.fs) = (rows.take i).flatMap (·.fs) ++ q.fs := by
  rw [take_snoc h, List.flatMap_append]
  simp
section
variable {P : Program} {w : World} {K : PySem.W.Frag} {mg : Str → Option Value} {base : Heap}
end
end K1

/-! from L4B -/
namespace K1
open PySem L2
/-! ### is_head -/
def badT (bar : List Str) : List PyData → List Str → Nat → Option Nat
  | [], _, _ => none
  | .str s :: r, seen, i => if (nameS s && !seen.contains s && !bar.contains s) = true then badT bar r (seen ++ [s]) (i + 1) else some i
  | _ :: _, _, i => some i
theorem bad_at {H : Hp} {bar : List Str} : ∀ {vs : List V} {ds : List PyData} {seen : List Str} {i : Nat}, AtAll H vs ds → badFrom bar vs seen i = badT bar ds seen i
  | _, _, _, _, .nil => rfl
  | _, _, seen, i, .cons (v := v) (vs := vs) (d := d) (ds := ds) h t => by
    cases h with
    | str s q =>
      show (if (nameS s && !seen.contains s && !bar.contains s) = true then badFrom bar vs (seen ++ [s]) (i + 1) else some i) = (if (nameS s && !seen.contains s && !bar.contains s) = true then badT bar ds (seen ++ [s]) (i + 1) else some i)
      rw [bad_at t]
    | _ => rfl
def strsT (ds : List PyData) : List Str := ds.filterMap fun d => match d with
  | .str s => some s
  | _ => none
theorem badT_none {bar : List Str} : ∀ {ds : List PyData} {seen : List Str} {i : Nat}, badT bar ds seen i = none → ds = (strsT ds).map PyData.str
  | [], _, _, _ => rfl
  | .str s :: r, seen, i, h => by
    have h : (if (nameS s && !seen.contains s && !bar.contains s) = true then badT bar r (seen ++ [s]) (i + 1) else some i) = none := h
    split at h
    · show PyData.str s :: r = PyData.str s :: (strsT r).map PyData.str
      rw [← badT_none h]
    · cases h
  | .none :: _, _, _, h => by cases h
  | .bool _ :: _, _, _, h => by cases h
  | .int _ :: _, _, _, h => by cases h
  | .list _ :: _, _, _, h => by cases h
  | .tuple _ :: _, _, _, h => by cases h
  | .dict _ :: _, _, _, h => by cases h
theorem at_strs {H : Hp} : ∀ {vs : List V} {ss : List Str}, AtAll H vs (ss.map PyData.str) → vs = ss.map V.str
  | _, [], .nil => rfl
  | _, s :: ss, .cons h t => by rw [at_str h, at_strs t] <;> rfl
def headN (ps : List PyData) (wn : List Str) (r : PyData) : Bool := (decide (ps.length ≤ 8) && (badT wn ps [] 0).isNone) && (noneT r || oneT r (strsT ps))
def headW (cs : List (Str × (Int × Bool × Int))) (wn : List Str) (n p i r : PyData) : Bool := (nameT n && !oneT n (cs.map (·.1))) && match p with
  | .list ps => (match i with
    | .list is => headN (ps ++ is) wn r
    | _ => false)
  | _ => false
def headT (cs : List (Str × (Int × Bool × Int))) (wn : List Str) (d : PyData) : Bool := match d with
  | .tuple es => (match es with
    | [n, p, i, _, r] => headW cs wn n p i r
    | _ => false)
  | _ => false
theorem headT_not {cs : List (Str × (Int × Bool × Int))} {wn : List Str} {d : PyData} (h : ∀ es, d ≠ .tuple es) : headT cs wn d = false := by
  unfold headT
  split
  · exact absurd rfl (h _)
  · rfl
theorem headT_len {cs : List (Str × (Int × Bool × Int))} {wn : List Str} {es : List PyData} (h : es.length ≠ 5) : headT cs wn (.tuple es) = false := by
  match es, h with
  | [], _ => rfl
  | [_], _ => rfl
  | [_, _], _ => rfl
  | [_, _, _], _ => rfl
  | [_, _, _, _], _ => rfl
  | [_, _, _, _, _], h => exact absurd rfl h
  | _ :: _ :: _ :: _ :: _ :: _ :: _, _ => rfl
def spHead : Sp := fun vs H Q _ => ∃ (v : V) (d : PyData) (sd wk : Addr) (cs : List (Str × (Int × Bool × Int))) (wn : List Str), vs = [v, .ref sd, .ref wk] ∧ At H v d ∧ CallsAt H sd cs ∧ H wk = some (.lst (wn.map V.str)) ∧ (∀ es, d = .tuple es → ∀ ys, PyData.list ys ∈ es → ys.length ≤ 1000) ∧ ∀ H', Same H H' → Q (.bl (headT cs wn d)) H'
theorem nameT_str {d : PyData} (h : nameT d = true) : ∃ s, d = .str s := by
  cases d with
  | str s => exact ⟨s, rfl⟩
  | _ => cases h
abbrev ihN : List Str := ["value", "seen", "weak", "name", "parameters", "inner", "_", "result"]
section
variable {P : Program} {w : World} {K : PySem.W.Frag} {mg : Str → Option Value} {base : Heap}
end
end K1

/-! from L4C -/
namespace K1
open PySem L2
/-! ### check_functions -/
theorem su_depth (a b c e : V) : (suF a b c e).lookup ("depth" : Str) = some c := by
  unfold suF
  rw [lookup_putF, if_neg (by decide +kernel), lookup_putF, if_pos rfl]
abbrev Cl : Type := List (Str × (Int × Bool × Int))
inductive FRes where
  | bad (l : List Int)
  | ok (cs : Cl) (many : Int)
structure Env where
  rows : List Row
  wn : List Str
  lv : Int
def noteT (cs : Cl) (nm : Str) (ps : List PyData) (r : PyData) (dp : Int) : Cl := cs ++ [(nm, ((ps.length : Int), !noneT r, dp))]
def partsT (d : PyData) : Option (Str × List PyData × List PyData × PyData × PyData) := match d with
  | .tuple es => (match es with
    | [n, p, i, b, r] => (match n with
      | .str nm => (match p with
        | .list ps => (match i with
          | .list is => some (nm, ps, is, b, r)
          | _ => none)
        | _ => none)
      | _ => none)
    | _ => none)
  | _ => none
theorem head_parts {cs : Cl} {wn : List Str} {d : PyData} (h : headT cs wn d = true) : ∃ nm ps is b r, d = .tuple [.str nm, .list ps, .list is, b, r] ∧ partsT d = some (nm, ps, is, b, r) ∧ oneT (.str nm) (cs.map (·.1)) = false ∧ (ps ++ is).length ≤ 8 ∧ badT wn (ps ++ is) [] 0 = none := by
  unfold headT at h
  split at h
  case h_2 => cases h
  split at h
  case h_2 => cases h
  rename_i n p i b r
  unfold headW at h
  rw [Bool.and_eq_true, Bool.and_eq_true] at h
  obtain ⟨⟨h1, h2⟩, h3⟩ := h
  obtain ⟨nm, rfl⟩ := nameT_str h1
  split at h3
  case h_2 => cases h3
  split at h3
  case h_2 => cases h3
  rename_i ps _ is
  unfold headN at h3
  rw [Bool.and_eq_true, Bool.and_eq_true] at h3
  refine ⟨nm, ps, is, b, r, rfl, rfl, by simpa using h2, of_decide_eq_true h3.1.1, ?_⟩
  exact Option.isNone_iff_eq_none.mp h3.1.2
theorem lookup_snoc {s n : Str} {r : Int × Bool × Int} : ∀ {cs : Cl}, (cs ++ [(n, r)]).lookup s = (match cs.lookup s with | some x => some x | none => if s = n then some r else none)
  | [] => by
    show ([(n, r)] : Cl).lookup s = _
    rw [List.lookup_cons]
    by_cases e : s = n
    · subst e
      simp
    · rw [show (s == n) = false by simpa using e]
      show none = (if s = n then some r else none)
      rw [if_neg e]
  | (m, x) :: cs => by
    rw [List.cons_append, List.lookup_cons, List.lookup_cons]
    cases s == m with
    | true => rfl
    | false => exact lookup_snoc
theorem calls_put {H : Hp} {a t : Addr} {cs : Cl} {kvs : List (Key × V)} {n : Str} {m : Int} {b : Bool} {d : Int} (h : H a = some (.dK kvs)) (k : ∀ s : Str, match cs.lookup s with | none => valV kvs (Sum.inr s) = none | some (m, h, d) => ∃ t, valV kvs (Sum.inr s) = some (.ref t) ∧ H t = some (.tup [.int m, .bl h, .int d]))
    (nn : cs.lookup n = none) (ht : H t = some (.tup [.int m, .bl b, .int d])) : CallsAt (upd H a (.dK (putK kvs (Sum.inr n) (.ref t)))) a (cs ++ [(n, (m, b, d))]) := by
  have keep : ∀ {c : Addr} {xs : List V}, H c = some (.tup xs) → (upd H a (.dK (putK kvs (Sum.inr n) (.ref t)))) c = some (.tup xs) := fun e => by
    rw [upd_ne (ne_of e h (by intro z; cases z))]
    exact e
  refine ⟨_, upd_same, fun s => ?_⟩
  rw [lookup_snoc, valV_put]
  have q := k s
  by_cases e : s = n
  · subst e
    rw [nn]
    dsimp only
    rw [if_pos rfl, if_pos rfl]
    exact ⟨t, rfl, keep ht⟩
  · have en : ¬ (Sum.inr s : Key) = Sum.inr n := fun z => e (by cases z; rfl)
    cases hl : cs.lookup s with
    | none =>
      rw [hl] at q
      dsimp only
      rw [if_neg e, if_neg en]
      exact q
    | some x =>
      obtain ⟨m', b', d'⟩ := x
      rw [hl] at q
      obtain ⟨t', e1, e2⟩ := q
      dsimp only
      rw [if_neg en]
      exact ⟨t', e1, keep e2⟩
section
variable {P : Program} {w : World} {K : PySem.W.Frag} {mg : Str → Option Value} {base : Heap}
end
end K1

/-! from L4D -/
namespace K1
open PySem L2
theorem at_five {H : Hp} {xs : List V} {d0 d1 d2 d3 d4 : PyData} (h : AtAll H xs [d0, d1, d2, d3, d4]) : ∃ x0 x1 x2 x3 x4, xs = [x0, x1, x2, x3, x4] ∧ At H x0 d0 ∧ At H x1 d1 ∧ At H x2 d2 ∧ At H x3 d3 ∧ At H x4 d4 := by
  cases h with
  | cons a0 t0 =>
    cases t0 with
    | cons a1 t1 =>
      cases t1 with
      | cons a2 t2 =>
        cases t2 with
        | cons a3 t3 =>
          cases t3 with
          | cons a4 t4 =>
            cases t4
            exact ⟨_, _, _, _, _, rfl, a0, a1, a2, a3, a4⟩
section
variable {P : Program} {w : World} {K : PySem.W.Frag} {mg : Str → Option Value} {base : Heap}
/-! ### check_body -/
/-! ### copied_functions -/
def cpF (k : Nat) (d : PyData) : Bool := match d with
  | .tuple es => (match es with
    | [n, p, i, b, r] => (scaT n && scaT r) && ((match p with
      | .list ps => ps.all scaT
      | _ => false) && ((match i with
      | .list is => is.all scaT
      | _ => false) && cpB k b))
    | _ => false)
  | _ => false
theorem cpF_is {k : Nat} {d : PyData} (h : cpF k d = true) : ∃ n ps is bs r, d = .tuple [n, .list ps, .list is, .list bs, r] ∧ scaT n = true ∧ scaT r = true ∧ (∀ e ∈ ps, scaT e = true) ∧ (∀ e ∈ is, scaT e = true) ∧ cpB k (.list bs) = true := by
  unfold cpF at h
  split at h
  case h_2 => cases h
  split at h
  case h_2 => cases h
  rename_i n p i b r
  rw [Bool.and_eq_true, Bool.and_eq_true, Bool.and_eq_true, Bool.and_eq_true] at h
  obtain ⟨⟨h1, h2⟩, h3, h4, h5⟩ := h
  split at h3
  case h_2 => cases h3
  split at h4
  case h_2 => cases h4
  rw [List.all_eq_true] at h3 h4
  cases k with
  | zero => cases h5
  | succ k =>
    cases b with
    | list bs => exact ⟨_, _, _, _, _, rfl, h1, h2, h3, h4, h5⟩
    | _ => cases h5
def spCpF (k : Nat) : Sp := fun vs H Q _ => ∃ (a : Addr) (ds : List PyData), vs = [.ref a] ∧ At H (.ref a) (.list ds) ∧ ds.length ≤ 900 ∧ (∀ d ∈ ds, cpF k d = true) ∧ ∀ q H', Same H H' → At (off H H') (.ref q) (.list ds) → Q (.ref q) H'
end
end K1

/-! from L4E -/
namespace K1
open PySem L2
/-! ### Program.__init__, any body, any functions -/
def AtNew (H Hx : Hp) (v : V) (d : PyData) : Prop := At (off H Hx) v d
theorem AtNew.mono {H Hx Hy : Hp} {v : V} {d : PyData} (h : AtNew H Hx v d) (s : Same Hx Hy) : AtNew H Hy v d := At.mono (off_mono s) h
theorem AtNew.other {H Hx : Hp} {v : V} {d : PyData} {p : Addr} {o u : HO} (h : AtNew H Hx v d) (hp : H p = some o) : AtNew H (upd Hx p u) v d := At.mono (off_upd hp) h
mutual
theorem At.keepP {H Hx : Hp} {p CP dx : Addr} {fs : List (Str × V)} (hp : H p = some (.ins CP dx fs)) (kp : ∀ b o, H b = some o → b ≠ p → Hx b = some o) : ∀ {v : V} {d : PyData}, At H v d → At Hx v d
  | _, _, .non => .non
  | _, _, .bl b => .bl b
  | _, _, .int i => .int i
  | _, _, .str z h => .str z h
  | _, _, .lst e h => .lst (kp _ _ e (ne_of e hp (by intro z; cases z))) (h.keepP hp kp)
  | _, _, .tup e h => .tup (kp _ _ e (ne_of e hp (by intro z; cases z))) (h.keepP hp kp)
  | _, _, .dic e => .dic (kp _ _ e (ne_of e hp (by intro z; cases z)))
theorem AtAll.keepP {H Hx : Hp} {p CP dx : Addr} {fs : List (Str × V)} (hp : H p = some (.ins CP dx fs)) (kp : ∀ b o, H b = some o → b ≠ p → Hx b = some o) : ∀ {vs : List V} {ds : List PyData}, AtAll H vs ds → AtAll Hx vs ds
  | _, _, .nil => .nil
  | _, _, .cons h t => .cons (h.keepP hp kp) (t.keepP hp kp)
end
/-- a program stands at p, all that is its own new since H0 -/
def Prog2 (H0 H : Hp) (CP p : Addr) (rows : List Row) (ns ls : List Str) (th : Int) (ks : List Int) (bs fs : List PyData) : Prop := ∃ (dx a b c d f g : Addr), H p = some (.ins CP dx (pgF (.ref a) (.ref b) (.ref c) (.ref d) (.int th) (.ref f) (.ref g))) ∧ ClsN H0 H a rows ∧
  AtNew H0 H (.ref b) (.list bs) ∧ (H0 c = none ∧ H c = some (.lst (ns.map V.str))) ∧ (H0 d = none ∧ H d = some (.lst (ls.map V.str))) ∧ (H0 f = none ∧ H f = some (.lst (ks.map V.int))) ∧ AtNew H0 H (.ref g) (.list fs)
section
variable {P : Program} {w : World} {K : PySem.W.Frag} {mg : Str → Option Value} {base : Heap} {C CP CS CU : Addr} {kk : Nat}
end
end K1

/-! from L4F -/
namespace PySem.SeqAt
open Sem (wp)
theorem dct_eq_str (l : Addr) (dd : Option Addr) (es : Array DictEntry) (n : Nat) (sl : Array (Option Value)) (b : Str) (u : Tok) :
    Meets (Builtin.«dict.__eq__» ⟨[.ref l, .str b u], []⟩) (fun _ R s => s.heap.get? l = some { cls := .type "dict", dict := dd, data := .dict es n, slots := sl } ∧ R (.ok (.ret .notImplemented)) s) :=
  .of_wp fun prog w A R s h => by
    obtain ⟨hp, g, d, tk, os⟩ := s
    obtain ⟨hl, h⟩ := h
    have f1 := F.sub_str_dict
    wp_walk using wpAny_loadPart' hl
    exact ⟨_, rfl, h⟩
theorem str_eq_dct (l : Addr) (dd : Option Addr) (es : Array DictEntry) (n : Nat) (sl : Array (Option Value)) (b : Str) (u : Tok) :
    Meets (Builtin.«str.__eq__» ⟨[.str b u, .ref l], []⟩) (fun _ R s => s.heap.get? l = some { cls := .type "dict", dict := dd, data := .dict es n, slots := sl } ∧ R (.ok (.ret .notImplemented)) s) :=
  .of_wp fun prog w A R s h => by
    obtain ⟨hp, g, d, tk, os⟩ := s
    obtain ⟨hl, h⟩ := h
    wp_walk using wpAny_loadPart' hl, wpAny_load hl
    exact ⟨_, rfl, h⟩
theorem dct_eq_lst (l : Addr) (dd : Option Addr) (es : Array DictEntry) (n : Nat) (sl : Array (Option Value)) (k : Addr) (items : Array Value) (m : Nat) (dk : Option Addr) (sk : Array (Option Value)) :
    Meets (Builtin.«dict.__eq__» ⟨[.ref l, .ref k], []⟩) (fun _ R s => (s.heap.get? l = some { cls := .type "dict", dict := dd, data := .dict es n, slots := sl } ∧ s.heap.get? k = some { cls := .type "list", dict := dk, data := .seq items m, slots := sk }) ∧ R (.ok (.ret .notImplemented)) s) :=
  .of_wp fun prog w A R s h => by
    obtain ⟨hp, g, d, tk, os⟩ := s
    obtain ⟨⟨hl, hk⟩, h⟩ := h
    have f1 := F.sub_list_dict
    wp_walk using wpAny_loadPart' hl, wpAny_loadPart' hk, wpAny_load hl, wpAny_load hk
    exact ⟨_, rfl, h⟩
theorem lst_eq_dct (l : Addr) (dd : Option Addr) (es : Array DictEntry) (n : Nat) (sl : Array (Option Value)) (k : Addr) (items : Array Value) (m : Nat) (dk : Option Addr) (sk : Array (Option Value)) :
    Meets (Builtin.«list.__eq__» ⟨[.ref k, .ref l], []⟩) (fun _ R s => (s.heap.get? l = some { cls := .type "dict", dict := dd, data := .dict es n, slots := sl } ∧ s.heap.get? k = some { cls := .type "list", dict := dk, data := .seq items m, slots := sk }) ∧ R (.ok (.ret .notImplemented)) s) :=
  .of_wp fun prog w A R s h => by
    obtain ⟨hp, g, d, tk, os⟩ := s
    obtain ⟨⟨hl, hk⟩, h⟩ := h
    have f1 := F.sub_dict_list
    wp_walk using wpAny_loadPart' hl, wpAny_loadPart' hk, wpAny_load hl, wpAny_load hk
    exact ⟨_, rfl, h⟩
end PySem.SeqAt

/-! from L4G -/
namespace PySem.SeqAt
open AutoSeq1 (wpAny_loadPart')
open MeetsSeq
section
variable {A : Around} {s : Shared}
theorem RcAt.dct_str {l : Addr} {dd : Option Addr} {es : Array DictEntry} {n : Nat} {sl : Array (Option Value)} (b : Str) (u : Tok) (ho : s.heap.get? l = some { cls := .type "dict", dict := dd, data := .dict es n, slots := sl }) (hu : A.units < cLine) : RcAt A s (.ref l) (.str b u) false := fun prog w E Q h =>
  rc_eq_decline_or (k := false) ⟨_, ho, rfl⟩ (typeIs_str s b u) (by decide) F.sub_str_dict F.slot_dict_eq F.slot_str_eq_refl
    (fun _ hq => call_meets F.slot_dict_eq ⟨_, ho, rfl⟩ F.entry_dict_eq (F.args_dict_eq_2 _ _) (dct_eq_str l dd es n sl b u) ⟨ho, hq⟩)
    (fun _ hq => call_meets F.slot_str_eq_refl (typeIs_str s b u) F.entry_str_eq (F.args_str_eq_2 _ _) (str_eq_dct l dd es n sl b u) ⟨ho, hq⟩)
    (fun _ hq => wpAny_of_eq (rfl : isSame (.ref l) (.str b u) = pure false) hq) (.inr hu) h
theorem RcAt.dct_lst {l : Addr} {dd : Option Addr} {es : Array DictEntry} {n : Nat} {sl : Array (Option Value)} {k : Addr} {items : Array Value} (ho : s.heap.get? l = some { cls := .type "dict", dict := dd, data := .dict es n, slots := sl }) (hk : s.heap.IsList k items) (hu : A.units < cLine) : RcAt A s (.ref l) (.ref k) false := fun prog w E Q h => by
  obtain ⟨⟨cls, dk, data, sk⟩, hk, hc, m, hd⟩ := id hk
  simp only at hc hd
  subst hc hd
  have ne : l ≠ k := fun z => by
    rw [z, hk] at ho
    exact absurd (Value.type.inj (congrArg Obj.cls (Option.some.inj ho))) (by decide)
  exact rc_eq_decline_or (k := false) ⟨_, ho, rfl⟩ ⟨_, hk, rfl⟩ (by decide) F.sub_list_dict F.slot_dict_eq F.slot_list_eq_refl
    (fun _ hq => call_meets F.slot_dict_eq ⟨_, ho, rfl⟩ F.entry_dict_eq (F.args_dict_eq_2 _ _) (dct_eq_lst l dd es n sl k items m dk sk) ⟨⟨ho, hk⟩, hq⟩)
    (fun _ hq => call_meets F.slot_list_eq_refl ⟨_, hk, rfl⟩ F.entry_list_eq (F.args_list_eq_2 _ _) (lst_eq_dct l dd es n sl k items m dk sk) ⟨⟨ho, hk⟩, hq⟩)
    (fun _ hq => wpAny_isSame_ref_other' ne ho hk (fun z => absurd (Value.type.inj z) (by decide)) hq) (.inr hu) h
end
end PySem.SeqAt
namespace L2
open PySem PySem.Spec PyProof.Rows
section
variable {X : Cx}
def rEqM (K : PySem.W.Frag) : V → V → Hp → VK → Prop := fun x y H Q => rEqD K x y H Q ∨ ∃ (d : Addr) (kvs : List (Key × V)), x = .ref d ∧ H d = some (.dK kvs) ∧ ((∃ z, y = .str z) ∨ ∃ l ys, y = .ref l ∧ H l = some (.lst ys)) ∧ Q (.bl false) H
theorem op_eqM (hu : X.A.units + 64 < cLine) : OpR X (compareOp .Eq) (rEqM X.K) := by
  intro pins s σ H x y v u Q I rx ry h
  rcases h with h | ⟨d, kvs, rfl, hd, hy, q⟩
  · exact op_eqD hu pins s σ H x y v u Q I rx ry h
  obtain rfl : v = Value.ref d := rx
  obtain ⟨_, _, va, _, od, es, ep, ho, ⟨e1, e2, e3⟩, e4, _⟩ := (show ObjOk X.prog X.w H s.heap d (.dK kvs) from I.hok d _ hd)
  have hd' : s.heap.get? d = some { cls := .type "dict", dict := none, data := .dict es ep, slots := #[] } := by
    rw [ho]
    obtain ⟨c1, c2, c3, c4⟩ := od
    simp only at e1 e2 e3 e4
    subst e1 e2 e3 e4
    rfl
  have hu' : X.A.units < cLine := by omega
  rcases hy with ⟨z, rfl⟩ | ⟨l, ys, rfl, hl⟩
  · obtain ⟨t, rfl⟩ := ry
    exact SeqAt.RcAt.dct_str z t hd' hu' _ _ _ _ ⟨.bl _, H, I, rfl, q⟩
  · obtain rfl : u = Value.ref l := ry
    obtain ⟨_, its, n, _, hl'⟩ := (show ObjOk X.prog X.w H s.heap l (.lst ys) from I.hok l _ hl)
    exact SeqAt.RcAt.dct_lst hd' ⟨_, hl', rfl, n, rfl⟩ hu' _ _ _ _ ⟨.bl _, H, I, rfl, q⟩
end
end L2

/-! from L5A -/
namespace K1
open PySem L2
/-! ### a text so many times -/
def repS (x : Str) (k : Int) : Str := ⟨(List.replicate k.toNat x.cps).foldl (· ++ ·) #[]⟩
def rRepS : V → V → Hp → VK → Prop := fun x y H Q => ∃ (z : Str) (k : Int), x = .str z ∧ y = .int k ∧ 2 ≤ k ∧ k ≤ 1000 ∧ z.length ≠ 0 ∧ z.length ≤ 1000 ∧ (repS z k).length ≤ sizeLine ∧ Q (.str (repS z k)) H
theorem op_repS {X : Cx} : OpR X (binaryOp .Mult) rRepS := by
  intro pins s σ H x y v u Q I rx ry h
  obtain ⟨z, k, rfl, rfl, k2, k3, z0, z1, few, q⟩ := h
  obtain ⟨t, rfl⟩ := rx
  obtain ⟨t', rfl⟩ := ry
  have c1 : ¬ k < 1 := by omega
  have c2 : (k == 1 || z.length == 0) = false := by
    rw [Bool.or_eq_false_iff]
    exact ⟨by rw [beq_eq_false_iff_ne]; omega, by rw [beq_eq_false_iff_ne]; exact z0⟩
  refine P.mul_str ?_ (fun _ _ => ?_) (fun _ _ => ?_) ?_
  · rw [decide_eq_false (show ¬ k < -(2 ^ 63 : Int) by omega), decide_eq_false (show ¬ k ≥ 2 ^ 63 by omega)]
    rfl
  · have h1 : (1000 : Int) ≤ (2 ^ 63 - 1) / k := by
      rw [Int.le_ediv_iff_mul_le (by omega)]
      omega
    omega
  · unfold Builtin.Str.tooLong
    rw [decide_eq_false]
    have e1 : z.length * k.toNat ≤ 1000 * 1000 := Nat.mul_le_mul z1 (by omega)
    have e2 : 1000 * 1000 ≤ sizeLine := by decide
    omega
  · rw [if_neg c1, if_neg (by rw [c2]; exact Bool.false_ne_true)]
    exact ⟨few, .str (repS z k), H, I.tok _, ⟨_, rfl⟩, q⟩
/-! ### written data -/
def DL (t : TE) (d : PyData) (σ : St) (H1 : Hp) : Prop := ∀ H2, Same H1 H2 → ∀ Q : VK, (∀ v H3, Same H2 H3 → At (off H2 H3) v d → Q v H3) → t σ H2 Q
def DLs (ts : TA) (ds : List PyData) (σ : St) (H1 : Hp) : Prop := ∀ H2, Same H1 H2 → ∀ Q : List V → Hp → Prop, (∀ vs H3, Same H2 H3 → AtAll (off H2 H3) vs ds → Q vs H3) → ts σ H2 Q
section
variable {σ : St} {H1 : Hp} {t : TE} {ts : TA} {d : PyData} {ds : List PyData}
theorem dl_non : DL (tC .non) .none σ H1 := fun H2 _ Q k => k _ H2 (Same.refl _) .non
theorem dl_int {i : Int} : DL (tC (.int i)) (.int i) σ H1 := fun H2 _ Q k => k _ H2 (Same.refl _) (.int i)
theorem dl_bl {b : Bool} : DL (tC (.bl b)) (.bool b) σ H1 := fun H2 _ Q k => k _ H2 (Same.refl _) (.bl b)
theorem dl_str {s : Str} (h : (decide (s.length ≤ 1000) && PyData.strOk s) = true := by decide +kernel) : DL (tC (.str s)) (.str s) σ H1 := fun H2 _ Q k => by
  rw [Bool.and_eq_true] at h
  exact k _ H2 (Same.refl _) (.str s ⟨of_decide_eq_true h.1, h.2⟩)
theorem dl_nil : DLs tNil [] σ H1 := fun H2 _ Q k => k [] H2 (Same.refl _) .nil
theorem dl_cons (h : DL t d σ H1) (r : DLs ts ds σ H1) : DLs (tCons t ts) (d :: ds) σ H1 := fun H2 s Q k =>
  h H2 s _ fun v H3 s3 a => r H3 (s.trans s3) _ fun vs H4 s4 as => k (v :: vs) H4 (s3.trans s4) (.cons (a.mono (off_mono s4)) (as.mono (off_base s3)))
theorem off_new {H H3 : Hp} {p : Addr} {o : HO} (s : Same H H3) (n : H3 p = none) : off H (upd H3 p o) p = some o := off_of (none_of' s n) upd_same
theorem dl_lst (h : DLs ts ds σ H1) (few : ds.length ≤ sizeLine) : DL (tLst ts) (.list ds) σ H1 := fun H2 s Q k => h H2 s _ fun vs H3 s3 a => ⟨by rw [a.len]; exact few, fun p np => k _ _ (same_new s3 np) (.lst (off_new s3 np) (a.mono (off_mono (same_new (Same.refl _) np))))⟩
theorem dl_tup (h : DLs ts ds σ H1) (few : ds.length ≤ sizeLine) : DL (tTup ts) (.tuple ds) σ H1 := fun H2 s Q k => h H2 s _ fun vs H3 s3 a => ⟨by rw [a.len]; exact few, fun p np => k _ _ (same_new s3 np) (.tup (off_new s3 np) (a.mono (off_mono (same_new (Same.refl _) np))))⟩
theorem lst_new (h : DLs ts ds σ H1) (few : ds.length ≤ sizeLine) {Q : VK} (k : ∀ l vs H3, Same H1 H3 → AtAll (off H1 H3) vs ds → H3 l = none → Q (.ref l) (upd H3 l (.lst vs))) : tLst ts σ H1 Q := h H1 (Same.refl _) _ fun vs H3 s3 a => ⟨by rw [a.len]; exact few, fun l nl => k l vs H3 s3 a nl⟩
theorem one_arg (h : DL t d σ H1) {Q : List V → Hp → Prop} (k : ∀ v H3, Same H1 H3 → At (off H1 H3) v d → Q [v] H3) : tCons t tNil σ H1 Q := h H1 (Same.refl _) _ fun v H3 s3 a => k v H3 s3 a
theorem dl_dic : DL tDNewK (.dict []) σ H1 := fun H2 s Q k p np => k _ _ (same_new (Same.refl _) np) (.dic (off_new (Same.refl _) np))
end
/-! ### trees beside a list that is changed -/
def hide (l : Addr) (H : Hp) : Hp := fun a => if a = l then none else H a
theorem hide_ne {l a : Addr} {H : Hp} (h : a ≠ l) : hide l H a = H a := if_neg h
theorem hide_upd {l : Addr} {H : Hp} {o : HO} : hide l (upd H l o) = hide l H := by
  funext a
  unfold hide
  by_cases e : a = l
  · rw [if_pos e, if_pos e]
  · rw [if_neg e, if_neg e, upd_ne e]
theorem hide_sub {l : Addr} {H : Hp} : Same (hide l H) H := fun a o e => by
  unfold hide at e
  split at e
  · cases e
  · exact e
theorem hide_mono {l : Addr} {H H' : Hp} (s : Same H H') : Same (hide l H) (hide l H') := fun a o e => by
  unfold hide at e ⊢
  split at e
  · cases e
  · rename_i n
    rw [if_neg n]
    exact s _ _ e
theorem hide_off {l : Addr} {H H' : Hp} {o : HO} (h : H l = some o) : Same (off H H') (hide l H') := fun a u e => by
  obtain ⟨e1, e2⟩ := off_at e
  rw [hide_ne (fun z => by rw [z, h] at e1; cases e1)]
  exact e2
theorem hide_of {l : Addr} {H H' : Hp} (h : H l = none) (s : Same H H') : Same H (hide l H') := fun a u e => by
  rw [hide_ne (fun z => by rw [z, h] at e; cases e)]
  exact s _ _ e
theorem AtAll.append {H : Hp} {vs ws : List V} {ds es : List PyData} (h : AtAll H vs ds) (r : AtAll H ws es) : AtAll H (vs ++ ws) (ds ++ es) := at_app h r
theorem AtAll.take {H : Hp} : ∀ {vs : List V} {ds : List PyData} (n : Nat), AtAll H vs ds → AtAll H (vs.take n) (ds.take n)
  | _, _, 0, _ => .nil
  | _, _, n + 1, .nil => .nil
  | _, _, n + 1, .cons h t => .cons h (AtAll.take n t)
theorem AtAll.drop {H : Hp} : ∀ {vs : List V} {ds : List PyData} (n : Nat), AtAll H vs ds → AtAll H (vs.drop n) (ds.drop n)
  | _, _, 0, h => h
  | _, _, n + 1, .nil => .nil
  | _, _, n + 1, .cons h t => AtAll.drop n t
theorem AtAll.set {H : Hp} : ∀ {vs : List V} {ds : List PyData} {v : V} {d : PyData} (n : Nat), AtAll H vs ds → At H v d → AtAll H (vs.set n v) (ds.set n d)
  | _, _, _, _, _, .nil, _ => .nil
  | _, _, _, _, 0, .cons h t, a => .cons a t
  | _, _, _, _, n + 1, .cons h t, a => .cons h (AtAll.set n t a)
theorem AtAll.at {H : Hp} : ∀ {vs : List V} {ds : List PyData} {n : Nat} {d : PyData}, AtAll H vs ds → ds[n]? = some d → ∃ v, vs[n]? = some v ∧ At H v d
  | _, _, _, _, .nil, h => by simp at h
  | _, _, 0, _, .cons h t, e => by
    simp only [List.getElem?_cons_zero, Option.some.injEq] at e
    exact ⟨_, rfl, e ▸ h⟩
  | _, _, n + 1, _, .cons h t, e => by
    simp only [List.getElem?_cons_succ] at e ⊢
    exact AtAll.at t e
/-! ### slices -/
theorem sIx_pos {n d : Nat} {k : Int} (h0 : 0 ≤ k) (h : k ≤ n) : HT.sIx n d (some k) = k.toNat := by
  show (if k < 0 then (k + (n : Int)).toNat else min k.toNat n) = k.toNat
  rw [if_neg (by omega)]
  omega
theorem sIx_min {n d : Nat} {k : Int} (h0 : 0 ≤ k) : HT.sIx n d (some k) = min k.toNat n := by
  show (if k < 0 then (k + (n : Int)).toNat else min k.toNat n) = min k.toNat n
  rw [if_neg (by omega)]
theorem cut_to {xs : List V} {k : Int} (h0 : 0 ≤ k) : cutV xs none (some k) = xs.take k.toNat := by
  unfold cutV
  rw [sIx_min h0, show HT.sIx xs.length 0 none = 0 from rfl, List.drop_zero, Nat.sub_zero]
  by_cases c : k.toNat ≤ xs.length
  · rw [Nat.min_eq_left c]
  · rw [Nat.min_eq_right (by omega), List.take_of_length_le (Nat.le_refl _), List.take_of_length_le (by omega)]
theorem cut_from {xs : List V} {k : Int} (h0 : 0 ≤ k) : cutV xs (some k) none = xs.drop k.toNat := by
  unfold cutV
  rw [sIx_min h0, show HT.sIx xs.length xs.length none = xs.length from rfl]
  by_cases c : k.toNat ≤ xs.length
  · rw [Nat.min_eq_left c, List.take_of_length_le (by rw [List.length_drop]; exact Nat.le_refl _)]
  · rw [Nat.min_eq_right (by omega), Nat.sub_self, List.take_zero, List.drop_eq_nil_of_le (by omega)]
/-! ### trees without dicts are what == looks at -/
mutual
def noDic : PyData → Bool
  | .dict _ => false
  | .list ds => noDics ds
  | .tuple ds => noDics ds
  | _ => true
def noDics : List PyData → Bool
  | [] => true
  | d :: ds => noDic d && noDics ds
end
mutual
theorem At.dp {K : PySem.W.Frag} {H : Hp} : ∀ {v : V} {d : PyData}, At H v d → noDic d = true → Dp K H v d
  | _, _, .non, _ => .non
  | _, _, .bl b, _ => .bl b
  | _, _, .int i, _ => .int i
  | _, _, .str z _, _ => .str z
  | _, _, .lst e h, n => .lst (SqL.of e) (AtAll.dps h (by rw [noDic] at n; exact n))
  | _, _, .tup e h, n => .tup (SqT.of e) (AtAll.dps h (by rw [noDic] at n; exact n))
  | _, _, .dic e, n => by rw [noDic] at n; cases n
theorem AtAll.dps {K : PySem.W.Frag} {H : Hp} : ∀ {vs : List V} {ds : List PyData}, AtAll H vs ds → noDics ds = true → DpAll K H vs ds
  | _, _, .nil, _ => .nil
  | _, _, .cons h t, n => by
    rw [noDics, Bool.and_eq_true] at n
    exact .cons (At.dp h n.1) (AtAll.dps t n.2)
end
end K1

/-! from L5B -/
namespace K1
open PySem L2
/-! ### expressions that give trees, on whatever heap behind the one given; some objects are hidden: no tree has them -/
def hid (L : List Addr) (H : Hp) : Hp := fun a => if a ∈ L then none else H a
def Live (L : List Addr) (H : Hp) : Prop := ∀ l ∈ L, H l ≠ none
theorem live_nil {H : Hp} : Live [] H := fun l h => by cases h
theorem Live.mono {L : List Addr} {H H' : Hp} (h : Live L H) (s : Same H H') : Live L H' := fun l m e => by
  have := h l m
  cases q : H l with
  | none => exact this q
  | some o => rw [s _ _ q] at e; cases e
theorem hid_ne {L : List Addr} {H : Hp} {a : Addr} (h : a ∉ L) : hid L H a = H a := if_neg h
theorem hid_nil {H : Hp} : hid [] H = H := by
  funext a
  exact hid_ne (by simp)
theorem hid_sub {L : List Addr} {H : Hp} : Same (hid L H) H := fun a o e => by
  unfold hid at e
  split at e
  · cases e
  · exact e
theorem hid_mono {L : List Addr} {H H' : Hp} (s : Same H H') : Same (hid L H) (hid L H') := fun a o e => by
  unfold hid at e ⊢
  split at e
  · cases e
  · rename_i n
    rw [if_neg n]
    exact s _ _ e
theorem hid_new {L : List Addr} {H : Hp} {p : Addr} {o : HO} (lv : Live L H) (n : H p = none) : hid L (upd H p o) p = some o := by
  rw [hid_ne (fun m => lv p m n), upd_same]
theorem hid_upd {l : Addr} {L : List Addr} {H : Hp} {o : HO} (m : l ∈ L) : hid L (upd H l o) = hid L H := by
  funext a
  unfold hid
  by_cases e : a ∈ L
  · rw [if_pos e, if_pos e]
  · rw [if_neg e, if_neg e, upd_ne (fun z => e (by rw [z]; exact m))]
theorem hid_off {L : List Addr} {H H' : Hp} (lv : Live L H) : Same (off H H') (hid L H') := fun a u e => by
  obtain ⟨e1, e2⟩ := off_at e
  rw [hid_ne (fun m => lv a m e1)]
  exact e2
/-- what stood when the hidden ones were not there yet -/
theorem hid_of {L : List Addr} {H H' : Hp} (h : ∀ l ∈ L, H l = none) (s : Same H H') : Same H (hid L H') := fun a u e => by
  rw [hid_ne (fun m => by rw [h a m] at e; cases e)]
  exact s _ _ e
def DT (L : List Addr) (t : TE) (d : PyData) (σ : St) (H1 : Hp) : Prop := ∀ H2, Same H1 H2 → ∀ Q : VK, (∀ v H3, Same H2 H3 → At (hid L H3) v d → Q v H3) → t σ H2 Q
def DTs (L : List Addr) (ts : TA) (ds : List PyData) (σ : St) (H1 : Hp) : Prop := ∀ H2, Same H1 H2 → ∀ Q : List V → Hp → Prop, (∀ vs H3, Same H2 H3 → AtAll (hid L H3) vs ds → Q vs H3) → ts σ H2 Q
def VE (t : TE) (v : V) (σ : St) (H1 : Hp) : Prop := ∀ H2, Same H1 H2 → ∀ Q : VK, Q v H2 → t σ H2 Q
/-- tests -/
def BE (t : TT) (b : Bool) (σ : St) (H1 : Hp) : Prop := ∀ H2, Same H1 H2 → ∀ Q : Bool → Hp → Prop, (∀ H3, Same H2 H3 → Q b H3) → t σ H2 Q
section
variable {L : List Addr} {σ : St} {H1 : Hp} {t u : TE} {ts : TA} {d e : PyData} {ds es : List PyData} {K : PySem.W.Frag} {v : V} {i j : Int}
theorem VE.mono {H2 : Hp} (h : VE t v σ H1) (s : Same H1 H2) : VE t v σ H2 := fun H3 s3 => h H3 (s.trans s3)
theorem DT.mono {H2 : Hp} (h : DT L t d σ H1) (s : Same H1 H2) : DT L t d σ H2 := fun H3 s3 => h H3 (s.trans s3)
theorem ve_int : VE (tC (.int i)) (.int i) σ H1 := fun H2 _ Q q => q
theorem ve_c : VE (tC v) v σ H1 := fun H2 _ Q q => q
theorem ve_var {s : Nat} (e : σ[s]? = some (some v)) : VE (tVar s) v σ H1 := fun H2 _ Q q => ⟨v, e, q⟩
abbrev tDg (K : PySem.W.Frag) (s : Nat) (i : Int) : TE := tCB (fun xs H Q => (∃ i, xs = [V.int i] ∧ Q (V.int i) H) ∨ ∃ k, xs = [V.bl k] ∧ Q (V.int (if k = true then 1 else 0)) H) (tCons (tOp (rIxL K) (tVar s) (tC (.int i))) tNil)
theorem ve_dg {s j : Nat} {z : Int} {dg : Addr} {xs : List Int} (e : σ[s]? = some (some (.ref dg))) (h : H1 dg = some (.lst (xs.map V.int))) (hj : xs[j]? = some z) (ij : i = (j : Int)) : VE (tDg K s i) (.int z) σ H1 := fun H2 s2 Q q => by
  subst ij
  exact ⟨_, e, dg, _, _, _, rfl, rfl, SqL.of (s2 _ _ h), atI_nat (by rw [List.getElem?_map, hj]; rfl), .inl ⟨z, rfl, q⟩⟩
theorem dg_get {xs : List Int} {n : Nat} (h : xs.length = n) (j : Nat) (hj : j < n) : xs[j]? = some (xs.getD j 0) := by
  rw [List.getD_eq_getElem?_getD, List.getElem?_eq_getElem (by omega)]
  rfl
theorem ve_mod (h : VE t (.int i) σ H1) (r : VE u (.int j) σ H1) (p : 0 < j) : VE (tOp (rI (fun _ j => 0 < j) fun i j => V.int (i % j)) t u) (.int (i % j)) σ H1 := fun H2 s Q q => h H2 s _ (r H2 s _ ⟨i, j, rfl, rfl, p, q⟩)
theorem ve_add (h : VE t (.int i) σ H1) (r : VE u (.int j) σ H1) : VE (tOp (rI0 fun i j => V.int (i + j)) t u) (.int (i + j)) σ H1 := fun H2 s Q q => h H2 s _ (r H2 s _ ⟨i, j, rfl, rfl, q⟩)
theorem ve_sub (h : VE t (.int i) σ H1) (r : VE u (.int j) σ H1) : VE (tOp (rI0 fun i j => V.int (i - j)) t u) (.int (i - j)) σ H1 := fun H2 s Q q => h H2 s _ (r H2 s _ ⟨i, j, rfl, rfl, q⟩)
/-- len(x), x in a slot -/
theorem ve_len {s : Nat} {a : Addr} {xs : List V} (e : σ[s]? = some (some (.ref a))) (h : H1 a = some (.lst xs)) : VE (tCB (fun xs H Q => ∃ p ys, xs = [V.ref p] ∧ (SqL K H p ys ∨ SqT K H p ys) ∧ Q (V.int (ys.length : Nat)) H) (tCons (tVar s) tNil)) (.int (xs.length : Nat)) σ H1 := fun H2 s2 Q q => ⟨_, e, a, xs, rfl, .inl (SqL.of (s2 _ _ h)), q⟩
theorem dt_v (h : VE t v σ H1) (a : ∀ H2, Same H1 H2 → At (hid L H2) v d) : DT L t d σ H1 := fun H2 s Q k => h H2 s _ (k v H2 (Same.refl _) (a H2 s))
theorem dt_var {s : Nat} (e : σ[s]? = some (some v)) (a : At (hid L H1) v d) : DT L (tVar s) d σ H1 := dt_v (ve_var e) fun H2 s => a.mono (hid_mono s)
theorem dt_int (h : VE t (.int i) σ H1) : DT L t (.int i) σ H1 := dt_v h fun _ _ => .int i
theorem dt_l (h : DL t d σ H1) (lv : Live L H1) : DT L t d σ H1 := fun H2 s Q k => h H2 s _ fun v H3 s3 a => k v H3 s3 (a.mono (hid_off (lv.mono s)))
theorem dt_nil : DTs L tNil [] σ H1 := fun H2 _ Q k => k [] H2 (Same.refl _) .nil
theorem dt_cons (h : DT L t d σ H1) (r : DTs L ts ds σ H1) : DTs L (tCons t ts) (d :: ds) σ H1 := fun H2 s Q k =>
  h H2 s _ fun v H3 s3 a => r H3 (s.trans s3) _ fun vs H4 s4 as => k (v :: vs) H4 (s3.trans s4) (.cons (a.mono (hid_mono s4)) as)
theorem dt_lst (lv : Live L H1) (h : DTs L ts ds σ H1) (few : ds.length ≤ sizeLine) : DT L (tLst ts) (.list ds) σ H1 := fun H2 s Q k => h H2 s _ fun vs H3 s3 a => ⟨by rw [a.len]; exact few, fun p np => k _ _ (same_new s3 np) (.lst (hid_new (lv.mono (s.trans s3)) np) (a.mono (hid_mono (same_new (Same.refl _) np))))⟩
theorem dt_tup (lv : Live L H1) (h : DTs L ts ds σ H1) (few : ds.length ≤ sizeLine) : DT L (tTup ts) (.tuple ds) σ H1 := fun H2 s Q k => h H2 s _ fun vs H3 s3 a => ⟨by rw [a.len]; exact few, fun p np => k _ _ (same_new s3 np) (.tup (hid_new (lv.mono (s.trans s3)) np) (a.mono (hid_mono (same_new (Same.refl _) np))))⟩
theorem at_l {H : Hp} (h : At H v (.list ds)) : ∃ a xs, v = .ref a ∧ H a = some (.lst xs) ∧ AtAll H xs ds := by
  cases h with
  | lst e t => exact ⟨_, _, rfl, e, t⟩
theorem at_t {H : Hp} (h : At H v (.tuple ds)) : ∃ a xs, v = .ref a ∧ H a = some (.tup xs) ∧ AtAll H xs ds := by
  cases h with
  | tup e t => exact ⟨_, _, rfl, e, t⟩
theorem dt_ixL {n : Nat} (h : DT L t (.list ds) σ H1) (r : VE u (.int i) σ H1) (hn : ds[n]? = some d) (e : i = (n : Int)) : DT L (tOp (rIxL K) t u) d σ H1 := fun H2 s Q k => h H2 s _ fun v H3 s3 a => r H3 (s.trans s3) _ (by
    obtain ⟨p, xs, rfl, hp, as⟩ := at_l a
    obtain ⟨y, hy, ay⟩ := as.at hn
    subst e
    exact ⟨p, xs, _, y, rfl, rfl, SqL.of (hid_sub _ _ hp), atI_nat hy, k y H3 s3 ay⟩)
theorem dt_ixT {n : Nat} (h : DT L t (.tuple ds) σ H1) (r : VE u (.int i) σ H1) (hn : ds[n]? = some d) (e : i = (n : Int)) : DT L (tOp (rIxT K) t u) d σ H1 := fun H2 s Q k => h H2 s _ fun v H3 s3 a => r H3 (s.trans s3) _ (by
    obtain ⟨p, xs, rfl, hp, as⟩ := at_t a
    obtain ⟨y, hy, ay⟩ := as.at hn
    subst e
    exact ⟨p, xs, _, y, rfl, rfl, SqT.of (hid_sub _ _ hp), atI_nat hy, k y H3 s3 ay⟩)
theorem dt_cat (lv : Live L H1) (h : DT L t (.list ds) σ H1) (r : DT L u (.list es) σ H1) (few : ds.length + es.length ≤ sizeLine) : DT L (tOp rCat t u) (.list (ds ++ es)) σ H1 := fun H2 s Q k => h H2 s _ fun v H3 s3 a => r H3 (s.trans s3) _ fun w H4 s4 b => by
  obtain ⟨p, xs, rfl, hp, as⟩ := at_l (a.mono (hid_mono s4))
  obtain ⟨q, ys, rfl, hq, bs⟩ := at_l b
  refine ⟨p, q, xs, ys, rfl, rfl, hid_sub _ _ hp, hid_sub _ _ hq, by rw [as.len, bs.len]; exact few, fun l nl => ?_⟩
  have s5 := same_new (o := .lst (xs ++ ys)) (Same.refl H4) nl
  exact k _ _ ((s3.trans s4).trans s5) (.lst (hid_new (lv.mono ((s.trans s3).trans s4)) nl) ((as.append bs).mono (hid_mono s5)))
theorem dt_listT (lv : Live L H1) (h : DT L t (.tuple ds) σ H1) : DT L (tCB (rLof K) (tCons t tNil)) (.list ds) σ H1 := fun H2 s Q k => h H2 s _ fun v H3 s3 a => by
  obtain ⟨p, xs, rfl, hp, as⟩ := at_t a
  refine ⟨p, xs, rfl, .inr (SqT.of (hid_sub _ _ hp)), fun l nl => ?_⟩
  have s4 := same_new (o := .lst xs) (Same.refl H3) nl
  exact k _ _ (s3.trans s4) (.lst (hid_new (lv.mono (s.trans s3)) nl) (as.mono (hid_mono s4)))
theorem dt_tupL (lv : Live L H1) (h : DT L t (.list ds) σ H1) : DT L (tCB (rTof K) (tCons t tNil)) (.tuple ds) σ H1 := fun H2 s Q k => h H2 s _ fun v H3 s3 a => by
  obtain ⟨p, xs, rfl, hp, as⟩ := at_l a
  refine ⟨p, xs, rfl, .inl ⟨SqL.of (hid_sub _ _ hp), fun l nl => ?_⟩⟩
  have s4 := same_new (o := .tup xs) (Same.refl H3) nl
  exact k _ _ (s3.trans s4) (.tup (hid_new (lv.mono (s.trans s3)) nl) (as.mono (hid_mono s4)))
theorem dt_to (lv : Live L H1) (h : DT L t (.list ds) σ H1) (r : VE u (.int i) σ H1) (p : 0 ≤ i) : DT L (tSl (rSlL K) t tNoPart (tPart u)) (.list (ds.take i.toNat)) σ H1 := fun H2 s Q k => h H2 s _ fun v H3 s3 a => r H3 (s.trans s3) _ (by
    obtain ⟨q, xs, rfl, hq, as⟩ := at_l a
    refine ⟨i, rfl, q, xs, rfl, SqL.of (hid_sub _ _ hq), fun l nl => ?_⟩
    have s4 := same_new (o := .lst (cutV xs none (some i))) (Same.refl H3) nl
    refine k _ _ (s3.trans s4) (.lst (hid_new (lv.mono (s.trans s3)) nl) ?_)
    rw [cut_to p]
    exact (as.mono (hid_mono (same_new (Same.refl _) nl))).take _)
theorem dt_from (lv : Live L H1) (h : DT L t (.list ds) σ H1) (r : VE u (.int i) σ H1) (p : 0 ≤ i) : DT L (tSl (rSlL K) t (tPart u) tNoPart) (.list (ds.drop i.toNat)) σ H1 := fun H2 s Q k => h H2 s _ fun v H3 s3 a => r H3 (s.trans s3) _ (by
    obtain ⟨q, xs, rfl, hq, as⟩ := at_l a
    refine ⟨i, rfl, q, xs, rfl, SqL.of (hid_sub _ _ hq), fun l nl => ?_⟩
    have s4 := same_new (o := .lst (cutV xs (some i) none)) (Same.refl H3) nl
    refine k _ _ (s3.trans s4) (.lst (hid_new (lv.mono (s.trans s3)) nl) ?_)
    rw [cut_from p]
    exact (as.mono (hid_mono (same_new (Same.refl _) nl))).drop _)
theorem dt_rep (lv : Live L H1) (h : DT L t (.list ds) σ H1) (c1 : 0 ≤ i) (c2 : i < 2 ^ 63) (few : ds.length * i.toNat ≤ sizeLine) : DT L (tOp rRep t (tC (.int i))) (.list (List.replicate i.toNat ds).flatten) σ H1 := fun H2 s Q k => h H2 s _ fun v H3 s3 a => by
    obtain ⟨q, xs, rfl, hq, as⟩ := at_l a
    refine ⟨q, i, xs, rfl, rfl, hid_sub _ _ hq, by omega, c2, by rw [as.len]; exact few, fun l nl => ?_⟩
    have s4 := same_new (o := .lst (List.replicate i.toNat xs).flatten) (Same.refl H3) nl
    refine k _ _ (s3.trans s4) (.lst (hid_new (lv.mono (s.trans s3)) nl) ?_)
    have as4 := as.mono (hid_mono (L := L) (same_new (o := .lst (List.replicate i.toNat xs).flatten) (Same.refl _) nl))
    have : ∀ n : Nat, AtAll (hid L (upd H3 l (.lst (List.replicate i.toNat xs).flatten))) (List.replicate n xs).flatten (List.replicate n ds).flatten := fun n => by
      induction n with
      | zero => exact .nil
      | succ n ih =>
        rw [List.replicate_succ, List.replicate_succ, List.flatten_cons, List.flatten_cons]
        exact as4.append ih
    exact this _
/-- x == y, x != y -/
theorem be_eq (h : DT [] t d σ H1) (r : DT [] u e σ H1) (nd : noDic d = true) (ne : noDic e = true) (sd : SeqAt.shaped d = true) (se : SeqAt.shaped e = true) : BE (tTest (tOp (rEqD K) t u)) (PyData.eqv d e) σ H1 := fun H2 s Q k => h H2 s _ fun v H3 s3 a => r H3 (s.trans s3) _ fun w H4 s4 b => by
  rw [hid_nil] at a b
  exact ⟨d, e, (a.mono s4).dp nd, b.dp ne, sd, se, _, rfl, k H4 (s3.trans s4)⟩
theorem be_ne (h : DT [] t d σ H1) (r : DT [] u e σ H1) (nd : noDic d = true) (ne : noDic e = true) (sd : SeqAt.shaped d = true) (se : SeqAt.shaped e = true) : BE (tTest (tOp (rNeD K) t u)) (!PyData.eqv d e) σ H1 := fun H2 s Q k => h H2 s _ fun v H3 s3 a => r H3 (s.trans s3) _ fun w H4 s4 b => by
  rw [hid_nil] at a b
  exact ⟨d, e, (a.mono s4).dp nd, b.dp ne, sd, se, _, rfl, k H4 (s3.trans s4)⟩
/-! ### a list of the def's own that is changed -/
def LA (H : Hp) (l : Addr) (ds : List PyData) (H1 : Hp) : Prop := H l = none ∧ Same H H1 ∧ ∃ vs, H1 l = some (.lst vs) ∧ AtAll (hid [l] H1) vs ds
theorem LA.live {H : Hp} {l : Addr} (h : LA H l ds H1) : Live [l] H1 := fun a m => by
  rw [List.mem_singleton] at m
  obtain ⟨_, _, vs, e, _⟩ := h
  rw [m, e]
  exact fun z => nomatch z
theorem LA.first {H H3 : Hp} {l : Addr} {vs : List V} (s : Same H H3) (a : AtAll H3 vs ds) (n : H3 l = none) : LA H l ds (upd H3 l (.lst vs)) :=
  ⟨none_of' s n, same_new s n, vs, upd_same, by rw [hid_upd (by simp)]; exact a.mono (hid_of (fun b m => by rw [List.mem_singleton.mp m]; exact n) (Same.refl _))⟩
theorem LA.push {H H3 : Hp} {l : Addr} {v : V} {vs : List V} (h : LA H l ds H1) (hl : H1 l = some (.lst vs)) (s : Same H1 H3) (a : At (hid [l] H3) v d) : LA H l (ds ++ [d]) (upd H3 l (.lst (vs ++ [v]))) := by
  obtain ⟨h0, s1, ws, e, as⟩ := h
  rw [hl] at e
  cases e
  refine ⟨h0, same_updL (s1.trans s) h0, vs ++ [v], upd_same, ?_⟩
  rw [hid_upd (by simp)]
  exact (as.mono (hid_mono s)).append (.cons a .nil)
theorem LA.set {H H3 : Hp} {l : Addr} {v : V} {vs : List V} (n : Nat) (h : LA H l ds H1) (hl : H1 l = some (.lst vs)) (s : Same H1 H3) (a : At (hid [l] H3) v d) : LA H l (ds.set n d) (upd H3 l (.lst (vs.set n v))) := by
  obtain ⟨h0, s1, ws, e, as⟩ := h
  rw [hl] at e
  cases e
  refine ⟨h0, same_updL (s1.trans s) h0, vs.set n v, upd_same, ?_⟩
  rw [hid_upd (by simp)]
  exact (as.mono (hid_mono s)).set n a
theorem LA.later {H H3 : Hp} {l : Addr} (h : LA H l ds H1) (s : Same H1 H3) : LA H l ds H3 := by
  obtain ⟨h0, s1, vs, e, as⟩ := h
  exact ⟨h0, s1.trans s, vs, s _ _ e, as.mono (hid_mono s)⟩
theorem LA.tree {H : Hp} {l : Addr} (h : LA H l ds H1) : At H1 (.ref l) (.list ds) := by
  obtain ⟨h0, s1, vs, e, as⟩ := h
  exact .lst e (as.mono hid_sub)
theorem LA.old {H : Hp} {l : Addr} (h : LA H l ds H1) (a : At H v d) : At (hid [l] H1) v d := a.mono (hid_of (fun b m => by rw [List.mem_singleton.mp m]; exact h.1) h.2.1)
/-- an item of it -/
theorem dt_la {H : Hp} {l : Addr} {s n : Nat} (e : σ[s]? = some (some (.ref l))) (h : LA H l ds H1) (hn : ds[n]? = some d) (ij : i = (n : Int)) : DT [l] (tOp (rIxL K) (tVar s) (tC (.int i))) d σ H1 := fun H2 s2 Q k => by
  obtain ⟨h0, s1, vs, e1, as⟩ := h.later s2
  obtain ⟨y, hy, ay⟩ := as.at hn
  subst ij
  exact ⟨_, e, l, vs, _, y, rfl, rfl, SqL.of e1, atI_nat hy, k y H2 (Same.refl _) ay⟩
/-! ### tests -/
theorem be_int (h : VE t (.int i) σ H1) (r : VE u (.int j) σ H1) : BE (tTest (tOp rEq t u)) (decide (i = j)) σ H1 := fun H2 s Q k => h H2 s _ (r H2 s _ ⟨rfl, _, rfl, by
  rw [show decide (V.int i = V.int j) = decide (i = j) from by
    by_cases c : i = j
    · rw [c, decide_eq_true rfl, decide_eq_true rfl]
    · rw [decide_eq_false c, decide_eq_false (fun z => c (V.int.inj z))]]
  exact k H2 (Same.refl _)⟩)
theorem be_lt (h : VE t (.int i) σ H1) (r : VE u (.int j) σ H1) : BE (tTest (tOp (rI0 fun i j => .bl (decide (i < j))) t u)) (decide (i < j)) σ H1 := fun H2 s Q k => h H2 s _ (r H2 s _ ⟨i, j, rfl, rfl, _, rfl, k H2 (Same.refl _)⟩)
theorem be_le (h : VE t (.int i) σ H1) (r : VE u (.int j) σ H1) : BE (tTest (tOp (rI0 fun i j => .bl (decide (i ≤ j))) t u)) (decide (i ≤ j)) σ H1 := fun H2 s Q k => h H2 s _ (r H2 s _ ⟨i, j, rfl, rfl, _, rfl, k H2 (Same.refl _)⟩)
theorem be_gt (h : VE t (.int i) σ H1) (r : VE u (.int j) σ H1) : BE (tTest (tOp (rI0 fun i j => .bl (decide (j < i))) t u)) (decide (j < i)) σ H1 := fun H2 s Q k => h H2 s _ (r H2 s _ ⟨i, j, rfl, rfl, _, rfl, k H2 (Same.refl _)⟩)
theorem be_ge (h : VE t (.int i) σ H1) (r : VE u (.int j) σ H1) : BE (tTest (tOp (rI0 fun i j => .bl (decide (j ≤ i))) t u)) (decide (j ≤ i)) σ H1 := fun H2 s Q k => h H2 s _ (r H2 s _ ⟨i, j, rfl, rfl, _, rfl, k H2 (Same.refl _)⟩)
theorem be_two {p q : Int} (h : VE t (.int i) σ H1) : BE (tTest (tOp (rIn K false) t (tTup (tCons (tC (.int p)) (tCons (tC (.int q)) tNil))))) (decide (i = p) || decide (i = q)) σ H1 := fun H2 s Q k => h H2 s _ ⟨by show 2 ≤ sizeLine; decide, fun l nl => ⟨l, _, rfl, .inr (SqT.of upd_same), rfl, rfl, _, rfl, by
  rw [if_neg (show ¬ (false = true) from Bool.false_ne_true), show inV (.int i) [.int p, .int q] = (decide (i = p) || decide (i = q)) from by
    unfold inV
    simp only [List.any_cons, List.any_nil, Bool.or_false]
    show ((p == i) || (q == i)) = _
    rw [show (p == i) = decide (i = p) from decide_eq_decide.mpr ⟨Eq.symm, Eq.symm⟩, show (q == i) = decide (i = q) from decide_eq_decide.mpr ⟨Eq.symm, Eq.symm⟩]]
  exact k _ (same_new (Same.refl _) nl)⟩⟩
def eqM (d e : PyData) : Bool := match d with
  | .dict _ => false
  | _ => PyData.eqv d e
theorem be_eqM (h : DT [] t d σ H1) (r : DT [] u e σ H1) (nd : (∀ k, d ≠ .dict k) → noDic d = true ∧ SeqAt.shaped d = true) (ne : noDic e = true) (se : SeqAt.shaped e = true) (ek : (∃ z, e = .str z) ∨ ∃ es, e = .list es) : BE (tTest (tOp (rEqM K) t u)) (eqM d e) σ H1 := fun H2 s Q k => h H2 s _ fun v H3 s3 a => r H3 (s.trans s3) _ fun w H4 s4 b => by
  rw [hid_nil] at a b
  have a4 := a.mono s4
  cases d with
  | dict kv =>
    cases a4 with
    | dic e1 =>
      refine .inr ⟨_, _, rfl, e1, ?_, _, rfl, k H4 (s3.trans s4)⟩
      rcases ek with ⟨z, rfl⟩ | ⟨es, rfl⟩
      · cases b with
        | str _ _ => exact .inl ⟨_, rfl⟩
      · obtain ⟨l, ys, rfl, hl, _⟩ := at_l b
        exact .inr ⟨l, ys, rfl, hl⟩
  | _ => exact .inl ⟨_, e, a4.dp (nd fun k z => by cases z).1, b.dp ne, (nd fun k z => by cases z).2, se, _, rfl, k H4 (s3.trans s4)⟩
theorem be_and {ta tb : TT} {b c : Bool} (h : BE ta b σ H1) (r : b = true → BE tb c σ H1) : BE (tAnd ta tb) (b && c) σ H1 := fun H2 s Q k => h H2 s _ fun H3 s3 => by
  cases b with
  | true => exact r rfl H3 (s.trans s3) Q fun H4 s4 => k H4 (s3.trans s4)
  | false => exact k H3 s3
theorem be_or {ta tb : TT} {b c : Bool} (h : BE ta b σ H1) (r : b = false → BE tb c σ H1) : BE (tOr ta tb) (b || c) σ H1 := fun H2 s Q k => h H2 s _ fun H3 s3 => by
  cases b with
  | false => exact r rfl H3 (s.trans s3) Q fun H4 s4 => k H4 (s3.trans s4)
  | true => exact k H3 s3
theorem be_not {ta : TT} {b : Bool} (h : BE ta b σ H1) : BE (tNot ta) (!b) σ H1 := fun H2 s Q k => h H2 s _ fun H3 s3 => k H3 s3
theorem if_be {c : TT} {b : Bool} {x y : TS} {D : Ends} (h : BE c b σ H1) (k : ∀ H3, Same H1 H3 → (b = true → x D σ H3) ∧ (b = false → y D σ H3)) : tIfS c x y D σ H1 := h H1 (Same.refl _) _ fun H3 s3 => by
  cases b with
  | true => exact (k H3 s3).1 rfl
  | false => exact (k H3 s3).2 rfl
theorem set_v {s : Nat} {D : Ends} (h : VE t v σ H1) (k : D.nx (σ.set s (some v)) H1) : tAsg t (gName s) D σ H1 := h H1 (Same.refl _) _ k
theorem set_dt {s : Nat} {D : Ends} (h : DT L t d σ H1) (k : ∀ v H3, Same H1 H3 → At (hid L H3) v d → D.nx (σ.set s (some v)) H3) : tAsg t (gName s) D σ H1 := h H1 (Same.refl _) _ k
/-- l[e] = t, l a list of the def's own -/
theorem set_la {H : Hp} {l : Addr} {s n : Nat} {D : Ends} (la : LA H l ds H1) (e1 : σ[s]? = some (some (.ref l))) (hi : VE u (.int i) σ H1) (ij : i = (n : Int)) (hn : n < ds.length) (h : DT [l] t d σ H1) (k : ∀ H3, LA H l (ds.set n d) H3 → Same (hid [l] H1) (hid [l] H3) → D.nx σ H3) : tAsg t (gSub (tVar s) u rSetL) D σ H1 := h H1 (Same.refl _) _ fun v H3 s3 a => ⟨_, e1, hi H3 s3 _ (by
  obtain ⟨_, _, vs, hl, as⟩ := la.later s3
  subst ij
  refine ⟨l, vs, _, n, rfl, rfl, hl, ?_, k _ ((la.later s3).set n hl (Same.refl _) a) ?_⟩
  · unfold ixN
    rw [if_pos (by omega), if_pos (by rw [as.len]; omega)]
    rfl
  · rw [hid_upd (by simp)]
    exact hid_mono s3)⟩
theorem getD_some {α : Type} {l : List α} {n : Nat} {x : α} (h : n < l.length) : l[n]? = some (l.getD n x) := by
  rw [List.getD_eq_getElem?_getD, List.getElem?_eq_getElem h]
  rfl
/-- l[i], x = e1, e2: l a list of the def's own -/
theorem asg_la2 {H : Hp} {l : Addr} {s n j : Nat} {D : Ends} {ta tb : TE} (la : LA H l ds H1) (e1 : σ[s]? = some (some (.ref l))) (ij : i = (n : Int)) (hn : n < ds.length) (h : DT [l] ta d σ H1) (r : DT [l] tb e σ H1) (k : ∀ v H3, LA H l (ds.set n d) H3 → At (hid [l] H3) v e → Same (hid [l] H1) (hid [l] H3) → D.nx (σ.set j (some v)) H3) :
    tAsg (tTup (tCons ta (tCons tb tNil))) (gTup K 2 (gCons (gSub (tVar s) (tC (.int i)) rSetL) (gCons (gName j) gNil))) D σ H1 := h H1 (Same.refl _) _ fun v H3 s3 a => r H3 s3 _ fun w H4 s4 b => ⟨by show 2 ≤ sizeLine; decide, fun p np => ⟨p, [v, w], rfl, SqT.of upd_same, rfl, v, [w], rfl, _, e1, by
  have s5 := same_new (o := .tup [v, w]) (Same.refl H4) np
  have la5 := la.later ((s3.trans s4).trans s5)
  obtain ⟨_, _, vs, hl, as⟩ := id la5
  subst ij
  refine ⟨l, vs, _, n, rfl, rfl, hl, ?_, w, [], rfl, rfl, k w _ (la5.set n hl (Same.refl _) (a.mono (hid_mono (s4.trans s5)))) ?_ ?_⟩
  · unfold ixN
    rw [if_pos (by omega), if_pos (by rw [as.len]; omega)]
    rfl
  · rw [hid_upd (by simp)]
    exact b.mono (hid_mono s5)
  · rw [hid_upd (by simp)]
    exact hid_mono ((s3.trans s4).trans s5)⟩⟩
/-- len(l[i]) -/
theorem dt_laLen {H : Hp} {l : Addr} {s n : Nat} {xs : List PyData} (e1 : σ[s]? = some (some (.ref l))) (h : LA H l ds H1) (hn : ds[n]? = some (.list xs)) (ij : i = (n : Int)) : DT [l] (tCB (fun xs H Q => ∃ p ys, xs = [V.ref p] ∧ (SqL K H p ys ∨ SqT K H p ys) ∧ Q (V.int (ys.length : Nat)) H) (tCons (tOp (rIxL K) (tVar s) (tC (.int i))) tNil)) (.int (xs.length : Nat)) σ H1 := fun H2 s2 Q k =>
  dt_la e1 h hn ij H2 s2 _ fun v H3 s3 a => by
    obtain ⟨p, ys, rfl, hp, as⟩ := at_l a
    exact ⟨p, ys, rfl, .inl (SqL.of (hid_sub _ _ hp)), k _ H3 s3 (by rw [as.len]; exact .int _)⟩
/-- l[i] * k, a text -/
theorem dt_laS {H : Hp} {l : Addr} {s n : Nat} {z : Str} {c : Int} (e1 : σ[s]? = some (some (.ref l))) (h : LA H l ds H1) (hn : ds[n]? = some (.str z)) (ij : i = (n : Int)) (c2 : 2 ≤ c) (c3 : c ≤ 1000) (z0 : z.length ≠ 0) (z1 : z.length ≤ 1000) (few : (repS z c).length ≤ 1000) (ok : PyData.strOk (repS z c) = true) : DT [l] (tOp rRepS (tOp (rIxL K) (tVar s) (tC (.int i))) (tC (.int c))) (.str (repS z c)) σ H1 := fun H2 s2 Q k =>
  dt_la e1 h hn ij H2 s2 _ fun v H3 s3 a => by
    cases a with
    | str _ _ => exact ⟨z, c, rfl, rfl, c2, c3, z0, z1, Nat.le_trans few (by decide), k _ H3 s3 (.str _ ⟨few, ok⟩)⟩
end
end K1


set_option Elab.async false
set_option linter.all false
set_option maxRecDepth 100000
set_option maxHeartbeats 4000000
namespace YL
open PySem
open AutoSeq1 (wpAny_loadPart')
/-! ### xs.extend(a tuple) -/
theorem ext_tup (l : Addr) (items : Array Value) (n : Nat) (b : Addr) (ys : Array Value) (m : Nat) (dct : Option Addr) (sl : Array (Option Value)) (h0 : ¬(!items.isEmpty && Builtin.List.listTooLong (items.size + ys.size)) = true) (h1 : items.size ≤ sizeLine) (h2 : items.size + ys.size ≤ sizeLine + 1) :
    Meets (Builtin.«list.extend» ⟨[.ref l, .ref b], []⟩) (fun _ R s => s.heap.get? l = some { cls := .type "list", dict := none, data := .seq items n, slots := #[] } ∧ s.heap.get? b = some { cls := .type "tuple", dict := dct, data := .seq ys m, slots := sl } ∧
      R (.ok (.ret Value.none)) { s with heap := s.heap.update l (Obj.mapSeq fun x => x ++ ys), toks := s.toks }) :=
  .of_wp fun prog w A R s h => by
    obtain ⟨hp, g, d, tk, os⟩ := s
    obtain ⟨hl, hb, h⟩ := h
    have f1 := AutoSeq1.idx_int
    have f2 := AutoSeq1.sub_tuple_tuple
    have f3 := AutoSeq1.sub_list_list
    have f4 := AutoSeq1.sub_tuple_list
    have f5 := AutoSeq1.sub_list_tuple
    have hz' : (items ++ ys).size ≤ sizeLine + 1 := by rw [Array.size_append]; exact h2
    wp_walk using (wpAny_updateSeq hl rfl (hz := h1) (_hz' := hz')), wpAny_loadPart' hl, wpAny_loadPart' hb
    exact ⟨_, rfl, h⟩
/-! ### enumerate(a tuple) -/
theorem meets_enumT (l : Addr) (items : Array Value) (n : Nat) (dct : Option Addr) (sl : Array (Option Value)) :
    Meets (Builtin.«enumerate.__new__» ⟨[.type "enumerate", .ref l], []⟩) (fun _ R s => s.heap.get? l = some { cls := .type "tuple", dict := dct, data := .seq items n, slots := sl } ∧
      R (.ok (.ret (.ref (s.heap.push { cls := .type "tuple_iterator", data := .fields #[.ref l, .int 0 0] }).objs.size)))
        { s with heap := (s.heap.push { cls := .type "tuple_iterator", data := .fields #[.ref l, .int 0 0] }).push { cls := .type "enumerate", data := .fields #[.none, .bool false, .ref s.heap.objs.size, rawInt 0, .none, .none] } }) :=
  .of_wp fun prog w A R s h => by
    obtain ⟨hp, g, d, tk, os⟩ := s
    obtain ⟨hl, h⟩ := h
    have hsub := sub_enumerate
    have hL : Heap.IsTuple (Shared.heap ⟨hp, g, d, tk, os⟩) l items := ⟨_, hl, rfl, n, rfl⟩
    wp_walk using wpAny_loadPart' hl
    refine wpAny_stack_any fun st => wpAny_pure ?_
    split
    · rename_i c _ _ _ _ _
      cases (c == Value.type "enumerate")
      · wp_walk using wpAny_loadPart' hl, wpAny_pyIter_tuple hL
        exact ⟨_, rfl, h⟩
      · wp_walk using wpAny_loadPart' hl, wpAny_pyIter_tuple hL
        exact ⟨_, rfl, h⟩
    · wp_walk using wpAny_loadPart' hl, wpAny_pyIter_tuple hL
      exact ⟨_, rfl, h⟩
theorem call_enumT {prog : Program} {w : World} {A : Around} {E : Value → Shared → Prop} {s : Shared} {l : Addr} {items : Array Value} {Q : Value → Shared → Prop} (hL : s.heap.IsTuple l items)
    (h : ∀ h', IsEnum h' (s.heap.objs.size + 1) s.heap.objs.size 0 .none → h'.IsTupleIter s.heap.objs.size l 0 → h'.objs.size = s.heap.objs.size + 2 →
      (∀ b o, s.heap.get? b = some o → h'.get? b = some o) → Q (.ref (s.heap.objs.size + 1)) { s with heap := h' }) :
    wpAny (model prog w) A (call (.type "enumerate") [.ref l]) Q E s := by
  obtain ⟨⟨c, dct, dt, sl⟩, hl, hc, n, hd⟩ := hL
  replace hc : c = .type "tuple" := hc
  replace hd : dt = .seq items n := hd
  subst hc hd
  refine callType_new F.called_enumerate (by decide) (F.typeCall_enumerate_1 _) (F.newCall_enumerate_1 _) (fun obj => F.args_object_init_2 obj _) F.entry_enumerate_new
    (meets_enumT l items n dct sl) ⟨hl, ?_⟩
  have hz : (s.heap.push { cls := .type "tuple_iterator", data := .fields #[.ref l, .int 0 0] }).objs.size = s.heap.objs.size + 1 := Heap.size_push ..
  show _ ∧ _
  rw [hz]
  have he : IsEnum ((s.heap.push { cls := .type "tuple_iterator", data := .fields #[.ref l, .int 0 0] }).push
      { cls := .type "enumerate", data := .fields #[.none, .bool false, .ref s.heap.objs.size, rawInt 0, .none, .none] }) (s.heap.objs.size + 1) s.heap.objs.size 0 .none := by
    have := Heap.get?_push_size (s.heap.push { cls := .type "tuple_iterator", data := .fields #[.ref l, .int 0 0] })
      (o := { cls := .type "enumerate", data := .fields #[.none, .bool false, .ref s.heap.objs.size, rawInt 0, .none, .none] }) rfl
    rw [hz] at this; exact this
  refine ⟨⟨_, he, rfl⟩, h _ he ⟨_, Heap.get?_push_of_some _ (Heap.get?_push_size _ rfl), rfl, rfl⟩ (by rw [Heap.size_push, hz]) fun b o x => Heap.get?_push_of_some _ (Heap.get?_push_of_some _ x)⟩
theorem drawsT {prog : Program} {w : World} {A : Around} (hh : A.handled = none) (it l : Addr) (hne : l ≠ it) (items : Array Value) :
    Draws prog w A it [it, l] items.size (fun i v => items[i]? = some v) (fun i h => h.IsTupleIter it l i ∧ h.IsTuple l items) where
  live := fun _ _ st => let ⟨o, ho, _⟩ := st.1; ⟨o, ho⟩
  frame := fun _ _ _ st hk => ⟨st.1.at fun o e => hk it (by simp) o e, let ⟨o, ho, r⟩ := st.2; ⟨o, hk l (by simp) o ho, r⟩⟩
  item := fun i s Q E hi st hQ => by
    refine RZ.nextOf_tuple_item st.1 st.2 (x := items[i]) (by simp [hi]) fun h' hit' hs' => ?_
    exact hQ _ h' s.toks (by simp [hi]) ⟨hit', st.2.extBut hs'.extBut hne⟩ hs'
  done := fun s Q E st hE => RZ.nextOf_tuple_end hh st.1 st.2 (by simp) hE
end YL
namespace L2
open PySem PySem.Spec PyProof.Rows
section
variable {X : Cx}
def rExtendT : V → List V → Hp → VK → Prop := fun x vs H Q => ∃ l b xs zs, x = .ref l ∧ vs = [.ref b] ∧ H l = some (.lst xs) ∧ H b = some (.tup zs) ∧ xs.length + zs.length ≤ sizeLine ∧ Q .non (upd H l (.lst (xs ++ zs)))
theorem mt_extendT : MtM X "list.extend" rExtendT := by
  intro pins s σ H x vs v us Q I rx rv h
  obtain ⟨l, b, xs, zs, rfl, rfl, hH, hB, hz, q⟩ := h
  cases rx
  obtain ⟨u, rfl, ru⟩ := rv.one
  cases ru
  obtain ⟨z, its, n, r, hl, e⟩ := I.lstM hH
  obtain ⟨its2, r2, ⟨⟨c2, dct2, dt2, sl2⟩, e2, hc2, n2, hd2⟩, z2⟩ := I.tuple (SqT.of hB)
  replace hc2 : c2 = .type "tuple" := hc2
  replace hd2 : dt2 = .seq its2.toArray n2 := hd2
  subst hc2 hd2
  have l2 := r2.length
  have hsz : its.toArray.size + its2.toArray.size ≤ sizeLine := by rw [List.size_toArray, List.size_toArray]; omega
  have hlong : ¬ (!its.toArray.isEmpty && Builtin.List.listTooLong (its.toArray.size + its2.toArray.size)) = true := by
    rw [notLongL hsz, Bool.and_false]
    exact Bool.false_ne_true
  refine call_meets F.slot_list_extend ⟨_, e, rfl⟩ F.entry_list_extend (F.args_list_extend_2 _ _)
    (YL.ext_tup l its.toArray n b its2.toArray n2 dct2 sl2 hlong (by rw [List.size_toArray]; omega) (by omega)) ⟨e, e2, ?_⟩
  refine ⟨.non, _, I.lset (its' := its ++ its2) hH e (by simp) (r.append r2) ?_, rfl, q⟩
  rw [List.length_append]
  omega
/-- the tuple at a, each item in a new pair -/
def Iet (K : PySem.W.Frag) (a : Addr) : It :=
  ⟨fun i H => ∃ (xs : List V) (x : V), SqT K H a xs ∧ xs[i]? = some x, fun i H v H' => ∃ T x, v = .ref T ∧ H T = none ∧ H' = upd H T (.tup [.int (i : Nat), x]) ∧ ∀ xs, SqT K H a xs → xs[i]? = some x, fun i H => ∃ xs : List V, SqT K H a xs ∧ xs.length = i⟩
theorem turn_enumT {P : Program} {w : World} {K : PySem.W.Frag} {elts : List Expr} {kk : Nat} {tpos : Pos} (a e it : Addr) :
    Turn P w K (.Tuple elts kk tpos) (Iet K a) [e, it] e (fun i h => (∃ old, IsEnum h e it ((i : Nat) : Int) old) ∧ h.IsTupleIter it a i ∧ e ≠ it) where
  mem := by simp
  obj := fun i h st b hb => by
    obtain ⟨⟨old, he⟩, ⟨o, ho, hc, hd⟩, _⟩ := st
    have e' : b = e ∨ b = it := by simpa using hb
    rcases e' with z | z
    · rw [z]; exact ⟨_, he, fun v q => nomatch q⟩
    · rw [z]; exact ⟨o, ho, fun v q => by rw [hd] at q; cases q⟩
  keep := fun i h h' st k => let ⟨⟨old, he⟩, hi, hne⟩ := st; ⟨⟨old, k e (by simp) _ he⟩, hi.at fun o q => k it (by simp) o q, hne⟩
  item := by
    intro X hP hw hK hc i pins s σ H E I hf st hg
    subst hP hw hK
    obtain ⟨⟨old, he⟩, hit, hne⟩ := st
    obtain ⟨xs, x, hq, hx⟩ := hg
    obtain ⟨its, rv, p, hz⟩ := I.tuple hq
    obtain ⟨u, hu, ru⟩ := rv.get hx
    have pT : s.heap.IsTuple a its.toArray := p
    have hel : e < s.heap.objs.size := Heap.lt_size he
    have hil : it < s.heap.objs.size := by obtain ⟨_, q, _⟩ := hit; exact Heap.lt_size q
    have hae : e ≠ a := by
      obtain ⟨o, ho, hc1, _⟩ := pT
      intro z
      rw [z] at he
      have he : s.heap.get? a = _ := he
      rw [ho] at he
      cases he
      exact absurd (Value.type.inj hc1) (by decide)
    have hai : a ≠ it := by
      obtain ⟨o, ho, hc1, _⟩ := pT
      obtain ⟨o2, ho2, hc2, _⟩ := hit
      intro z
      rw [← z, ho] at ho2
      cases ho2
      rw [hc1] at hc2
      exact absurd (Value.type.inj hc2) (by decide)
    have hi : i < its.toArray.size := by
      have := (List.getElem?_eq_some_iff.mp hu).1
      simpa using this
    refine PySem.wpAny_pyNext_enum_itemD (YL.drawsT (A := X.A.in1) (I.ok.hd hc) it a hai its.toArray) he ⟨hit, pT⟩ hi hne (by simp [hne, hae]) fun x' h' tk hP ho hit' hT hsz hk => ?_
    have ex : x' = u := by
      have h1 : its[i]? = some x' := by simpa using hP
      rw [hu] at h1
      exact (Option.some.inj h1).symm
    subst ex
    refine ⟨_, rfl, wpAny_letOwnedTupleGo_enum (s := { s with heap := h', toks := tk + 1 }) ho fun h'' he' sb => ?_⟩
    have hT2 : h''.get? s.heap.objs.size = some { cls := .type "tuple", data := .seq #[.int i tk, x'] } := (sb.2 _ (Nat.ne_of_gt hel)).trans hT
    have new : ObjOk X.prog X.w (upd H s.heap.objs.size (.tup [.int (i : Nat), x])) h'' s.heap.objs.size (.tup [.int (i : Nat), x]) :=
      ⟨by show 2 ≤ sizeLine; decide, [.int i tk, x'], .cons ⟨_, rfl⟩ (.cons ru .nil), ⟨_, hT2, rfl, _, rfl⟩⟩
    have I1 : Inv X pins σ (upd H s.heap.objs.size (.tup [.int (i : Nat), x])) { s with heap := h'', toks := tk + 1 } :=
      I.turnedNew (ch := [e, it]) (fun b ob hb q => (sb.2 b (fun z => hb (by simp [z]))).trans (hk b ob (fun z => hb (by simp [z])) (fun z => hb (by simp [z])) q)) hf (Nat.le_refl _) new
    refine ⟨.ref s.heap.objs.size, _, I1, rfl, ⟨_, x, rfl, I.hok.fresh (Nat.le_refl _), rfl, fun ys hy => by rw [I.tuple_inj hy hq]; exact hx⟩, ⟨⟨x', ?_⟩, hit'.1.at fun o q => (sb.2 it (Ne.symm hne)).trans q, hne⟩, fun b hb => ?_⟩
    · have e1 : ((i + 1 : Nat) : Int) = (i : Int) + 1 := by omega
      rw [e1]; exact he'
    · have hb' : b < s.heap.objs.size := by
        have e' : b = e ∨ b = it := by simpa using hb
        rcases e' with z | z
        · rw [z]; exact hel
        · rw [z]; exact hil
      rw [upd_ne (Nat.ne_of_lt hb')]
      exact (hf b hb).1
  done := by
    intro X hP hw hK hc i pins s σ H E I hf st hg
    subst hP hw hK
    obtain ⟨⟨old, he⟩, hit, hne⟩ := st
    obtain ⟨xs, hq, hx⟩ := hg
    obtain ⟨its, rv, p, hz⟩ := I.tuple hq
    have pT : s.heap.IsTuple a its.toArray := p
    obtain ⟨f0, f1, f2, f3, f4, f5⟩ := hf it (by simp)
    have hl := rv.length
    have hae : e ≠ a := by
      obtain ⟨o, ho, hc1, _⟩ := pT
      intro z
      rw [z] at he
      have he : s.heap.get? a = _ := he
      rw [ho] at he
      cases he
      exact absurd (Value.type.inj hc1) (by decide)
    have hai : a ≠ it := by
      obtain ⟨o, ho, hc1, _⟩ := pT
      obtain ⟨o2, ho2, hc2, _⟩ := hit
      intro z
      rw [← z, ho] at ho2
      cases ho2
      rw [hc1] at hc2
      exact absurd (Value.type.inj hc2) (by decide)
    have hi : its.toArray.size = i := by
      rw [List.size_toArray]
      omega
    exact wpAny_pyNext_enum_endD (YL.drawsT (A := X.A.in1) (I.ok.hd hc) it a hai its.toArray) he ⟨by rw [hi]; exact hit, pT⟩ fun h' eb => ⟨rfl, I.turned (t' := s.toks) (fun b o hb q => eb b o hb q) f0 f1 f3 f4 f5⟩
  self := fun A i s Q E st h => let ⟨⟨_, he⟩, _⟩ := st; wpAny_pyIter_enum he h
def iEnumT (K : PySem.W.Frag) (ta : TA) : TI := fun σ H R => ta σ H fun vs H1 => ∃ a xs, vs = [.ref a] ∧ SqT K H1 a xs ∧ R (Iet K a) H1
theorem pi_enumT {e : Expr} {ta : TA} {p pos tpos : Pos} {elts : List Expr} {kk : Nat} (hg : Gl X "enumerate") (hm : X.mg "enumerate" = none) (ha : PA X [e] ta) (hs : starEach [e] X.env = [(false, eval e X.env)] := by rfl) :
    PI X (.Tuple elts kk tpos) (.Call (.Name "enumerate" p) [e] [] pos) (iEnumT X.K ta) := by
  refine ⟨fun pins s σ H R I h => ?_⟩
  refine Call_ (ld_blt I hg hm boot_enumerate (PyProof.Rows.callWith_type1 (thn (ha.run pos pins s σ H _ I h) fun us s1 ⟨vs, H1, I1, r1, q1⟩ => ?_) hs rfl))
  obtain ⟨a, xs, ex, hq, q⟩ := q1
  subst ex
  cases r1 with
  | cons r rr =>
    cases rr
    cases r
    obtain ⟨its, rv, p', hz⟩ := I1.tuple hq
    refine YL.call_enumT (show s1.heap.IsTuple a its.toArray from p') fun h' he hit hsz hk => wpAny_pyIter_enum he ?_
    have I2 : Inv X pins σ H1 { s1 with heap := h' } := I1.kept (t' := s1.toks) hk
    refine ⟨s1.heap.objs.size + 1, [s1.heap.objs.size + 1, s1.heap.objs.size], _, _, H1, rfl, I2, turn_enumT a (s1.heap.objs.size + 1) s1.heap.objs.size, ⟨⟨.none, he⟩, hit, Nat.succ_ne_self _⟩, fun b hb => ?_, q⟩
    have e' : b = s1.heap.objs.size + 1 ∨ b = s1.heap.objs.size := by simpa using hb
    have hle : s1.heap.objs.size ≤ b := by
      rcases e' with z | z
      · rw [z]; exact Nat.le_add_right _ _
      · rw [z]; exact Nat.le_refl _
    exact I1.fpOk hle (I1.hok.fresh hle)
theorem for_enumT {K : PySem.W.Frag} {a : Addr} {xs : List V} {g : TG} {tb : TS} {D : Ends} {σ : St} {H : Hp} (Pv : Nat → St → Hp → Prop) (h0 : Pv 0 σ H) (hl : ∀ i σ H, i ≤ xs.length → Pv i σ H → SqT K H a xs)
    (hs : ∀ i x σ H T, xs[i]? = some x → Pv i σ H → H T = none → g (.ref T) σ (upd H T (.tup [.int (i : Nat), x])) fun σ2 H2 => tb { D with nx := Pv (i + 1), ct := Pv (i + 1), bk := D.nx } σ2 H2) (hd : ∀ σ H, Pv xs.length σ H → D.nx σ H) :
    ∃ W : Nat → Nat → St → Hp → Prop, (∃ m, W 0 m σ H) ∧ ∀ i m σ H, W i m σ H →
      ((Iet K a).stop i H ∧ D.nx σ H) ∨ ((Iet K a).go i H ∧ ∃ N : St → Hp → Prop, (∀ σ' H', N σ' H' → ∃ m', m' < m ∧ W (i + 1) m' σ' H') ∧ ∀ x H', (Iet K a).yld i H x H' → g x σ H' fun σ2 H2 => tb { D with nx := N, ct := N, bk := D.nx } σ2 H2) := by
  refine ⟨fun i m σ H => m + i = xs.length ∧ Pv i σ H, ⟨xs.length, by omega, h0⟩, ?_⟩
  rintro i m σ H ⟨hm, p⟩
  have q := hl i σ H (by omega) p
  by_cases hlt : i < xs.length
  · have hx : xs[i]? = some xs[i] := List.getElem?_eq_getElem hlt
    refine .inr ⟨⟨xs, xs[i], q, hx⟩, Pv (i + 1), fun σ' H' p' => ⟨xs.length - (i + 1), by omega, by omega, p'⟩, fun v H' y => ?_⟩
    obtain ⟨T, x, rfl, hT, rfl, hq⟩ := y
    exact hs i x σ H T (hq xs q) p hT
  · have e : i = xs.length := by omega
    subst e
    exact .inl ⟨⟨xs, q, rfl⟩, hd σ H p⟩
/-! ### two dicts of the same keys, their values data that are equal -/
def rEqDD (K : PySem.W.Frag) : R2 := fun x y H Q => ∃ a b ks ls, x = .ref a ∧ y = .ref b ∧ H a = some (.dK ks) ∧ H b = some (.dK ls) ∧ ks.length = ls.length ∧ (∀ p ∈ ks, ∃ u d e, valV ls p.1 = some u ∧ Dp K H p.2 d ∧ Dp K H u e ∧ SeqAt.shaped d = true ∧ SeqAt.shaped e = true ∧ PyData.eqv d e = true) ∧ Q (.bl true) H
theorem op_eqDD (hu : X.A.units + 65 < cLine) : OpR X (compareOp .Eq) (rEqDD X.K) := by
  intro pins s σ H x y v u Q I rx ry h
  obtain ⟨a, b, ks, ls, rfl, rfl, ha, hb, hl, hp, q⟩ := h
  refine eqR_run I (A := X.A) (F := fun x y => ∃ d e, Dp X.K H x d ∧ Dp X.K H y e ∧ SeqAt.shaped d = true ∧ SeqAt.shaped e = true ∧ PyData.eqv d e = true) (by omega) (fun x y v u f rx ry => ?_)
    (.inr ⟨a, b, ks, ls, rfl, rfl, ha, hb, hl, fun p hm => ?_⟩) rx ry _ _ ⟨.bl true, H, I, rfl, q⟩
  · obtain ⟨d, e, hd, he, sd, se, eq⟩ := f
    obtain ⟨as, r1⟩ := Dp.reads I d x v hd rx
    obtain ⟨bs, r2⟩ := Dp.reads I e y u he ry
    have z := SeqAt.eqAt_reads d e X.A.in1 s v u as bs r1 r2 (SeqAt.canLay_of_shaped sd) (SeqAt.canLay_of_shaped se) (SeqAt.room_of_shaped sd (by show X.A.units + 1 + 64 < cLine; omega))
    rw [eq] at z
    exact z.eqP
  · obtain ⟨u, d, e, hv, r⟩ := hp p hm
    exact ⟨u, hv, d, e, r⟩
/-! ### {**a, **b} -/
def tDUn (t1 t2 : TE) : TE := fun σ H Q => ∀ d, H d = none → t1 σ (upd H d (.dK [])) fun x H1 => ∃ (a : Addr) (ks : List (Key × V)), x = .ref a ∧ d ≠ a ∧ H1 d = some (.dK []) ∧ H1 a = some (.dK ks) ∧ ks.length ≤ sizeLine ∧
  t2 σ (upd H1 d (.dK (mergeK [] ks))) fun y H2 => ∃ (b : Addr) (ls : List (Key × V)), y = .ref b ∧ d ≠ b ∧ H2 d = some (.dK (mergeK [] ks)) ∧ H2 b = some (.dK ls) ∧ (mergeK [] ks).length + ls.length ≤ sizeLine ∧ Q (.ref d) (upd H2 d (.dK (mergeK (mergeK [] ks) ls)))
theorem merge_rd {pins : List (Addr × Obj)} {σ : St} {H : Hp} {s : Shared} {d o : Addr} {kvs more : List (Key × V)} {Q : Unit → Shared → Prop} {E : Value → Shared → Prop} (I : Inv X pins σ H s) (ne : d ≠ o) (hd : H d = some (.dK kvs)) (ho : H o = some (.dK more)) (few : kvs.length + more.length ≤ sizeLine)
    (q : ∀ s', Inv X pins σ (upd H d (.dK (mergeK kvs more))) s' → Q () s') : wpAny (model X.prog X.w) X.A (mergeMapping d (.ref o) false) Q E s := by
  obtain ⟨z1, y1, vs1, r1, d1⟩ := dk_of I.hok hd
  obtain ⟨z2, y2, vs2, r2, d2⟩ := dk_of I.hok ho
  refine YL.mergeMap (knd := mixKind X.prog X.w) ne y2 (fun k v h a e => ?_) d1 d2 (fun h' dd _ sb => ?_) (by rw [← r1.length, ← r2.length]; exact few)
  · subst e
    rcases keyIs_shape h with ⟨i, t, _, e⟩ | ⟨x, t, _, e⟩ <;> exact nomatch e
  · have there : ∃ z, h'.get? d = some z := by
      obtain ⟨z, _, _, e, _⟩ := dd
      exact ⟨z, e⟩
    have len : (mergeK kvs more).length ≤ sizeLine := Nat.le_trans (length_mergeK more kvs) few
    exact q _ (d_write I (by rw [hd]; exact True.intro) sb there (dk_new len y1 (KV.merge r2 r1) dd))
theorem pe_dun {e1 e2 : Expr} {t1 t2 : TE} {pos : Pos} (h1 : PE X e1 t1) (h2 : PE X e2 t2) : PE X (.Dict [none, none] [e1, e2] pos) (tDUn t1 t2) := by
  refine ⟨fun pins s σ H Q I h => ?_⟩
  rw [arm_eval_Dict]
  refine wpAny_bind (wpAny_standAt ?_)
  show wpAny _ _ (dictDisplay [(none, do let x ← eval e1 X.env; standAt pos; pure x), (none, do let x ← eval e2 X.env; standAt pos; pure x)]) _ _ _
  unfold dictDisplay
  simp only [List.forIn_cons, List.forIn_nil, List.isEmpty_nil, if_true, pure_bind, bind_assoc]
  refine wpAny_bind (wpAny_alloc ?_)
  have hn := I.hok.fresh (Nat.le_refl s.heap.objs.size)
  have I1 := I.laid (a := s.heap.objs.size) (o := .dK []) (h' := s.heap.push { cls := .type "dict", data := .dict #[] }) (t' := s.toks) (fun _ _ q => Heap.get?_push_of_some _ q) (Nat.le_refl _) (dk_empty s.heap I.big)
  refine wpAny_bind (wpAny_holding (wpAny_bind (thn (h1.run pins _ σ _ _ I1 (h _ hn)) fun v s1 ⟨x, H1, I2, rx, a, ks, ex, na, hd, ha, few, q1⟩ => wpAny_bind (wpAny_standAt (wpAny_pure ?_)))))
  subst ex
  obtain rfl : v = Value.ref a := rx
  refine wpAny_bind (wpAny_onRaise (wpAny_tryCatch (wpAny_onRaise (wpAny_holding (merge_rd I2 na hd ha (by simpa using few) fun s2 I3 => ?_)))))
  refine wpAny_bind (wpAny_holding (wpAny_bind (thn (h2.run pins _ σ _ _ I3 q1) fun v s3 ⟨y, H2, I4, ry, b, ls, ey, nb, hd2, hb, few2, q2⟩ => wpAny_bind (wpAny_standAt (wpAny_pure ?_)))))
  subst ey
  obtain rfl : v = Value.ref b := ry
  refine wpAny_bind (wpAny_onRaise (wpAny_tryCatch (wpAny_onRaise (wpAny_holding (merge_rd I4 nb hd2 hb few2 fun s4 I5 => ?_)))))
  exact wpAny_pure ⟨.ref s.heap.objs.size, _, I5, rfl, q2⟩
end
end L2

set_option Elab.async false
set_option linter.all false
set_option maxRecDepth 100000
set_option maxHeartbeats 4000000
/-! defs that are called where nothing is being shown: their promises may show objects -/
namespace L2
open PySem PySem.Spec PyProof.Rows
/-- a promise of a def that is kept where no list, tuple or dict is being shown further out -/
structure FnG (P : Program) (w : World) (K : PySem.W.Frag) (mg : Str → Option Value) (base : Heap) (CT : CXT) (k : Nat) (f : Addr) (fd : FuncData) (ps : List Str) (sp : Sp) : Prop where
  len : ∀ vs H Q E, sp vs H Q E → vs.length = ps.length
  go : ∀ (Ar : Around) (out : List Env) (st : Shared) (H : Hp) (ar : Args) (us : List Value) (vs : List V) (Q : VK) (E : XK), Ar.guards = some [] → Room k Ar → Env0 P w K mg base Ar out st H → BindsTo st fd ar (ps.zip us) → Vals vs us → sp vs H Q E →
    codeAny (model P w) Ar (.call (.ref f) ar) (CR CT out P w H st Q E) st
section
variable {P : Program} {w : World} {K : PySem.W.Frag} {mg : Str → Option Value} {base : Heap} {CT : CXT}
theorem FnOk.guarded {k : Nat} {f : Addr} {fd : FuncData} {ps : List Str} {sp : Sp} (F : FnOk P w K mg base CT k f fd ps sp) : FnG P w K mg base CT k f fd ps sp := ⟨F.len, fun Ar out st H ar us vs Q E _ => F.run Ar out st H ar us vs Q E⟩
theorem fnG_of {k : Nat} {f : Addr} {nm ql : Str} {pr : Arguments} {bd : List Stmt} {sc : Scope} {v1 v2 v3 v4 cd ct oc : Value} {a1 a2 : Option Addr} {sl : Array (Option Value)} {N ps : List Str} {sp : Sp}
    (found : K.lookup f = some ⟨oc, a2, .func (PySem.W.fnOf nm ql pr bd sc v1 v2 v3 v4 a1 cd ct), sl⟩) (code : PySem.W.codeIn K cd ql = true) (S : FnScope N ps sc) (len : ∀ vs H Q E, sp vs H Q E → vs.length = ps.length)
    (inside : ∀ (Ar : Around) (out : List Env) (st : Shared) (H : Hp) (vs : List V) (Q : VK) (E : XK), Ar.guards = some [] → Room k (Ar.deeper (envOfC ql sc st.heap.objs.size f cd)) → sp vs H Q E →
      ∃ t, PSs (cxOf CT P w K mg base N ql sc f cd Ar out st H E) bd t ∧ t { nx := fun _ H' => Q .non H', rt := Q } (start N vs) H) :
    FnG P w K mg base CT (k + 1) f (PySem.W.fnOf nm ql pr bd sc v1 v2 v3 v4 a1 cd ct) ps sp := by
  refine ⟨len, fun Ar out st H ar us vs Q E hg hr en bind rel ask => ?_⟩
  have long := len _ _ _ _ ask
  have still : ∀ b o, base.get? b = some o → st.heap.get? b = some o := fun b o z => (en.bs b o z).1
  have KI : K.In st.heap := en.mod.kin.keeps still
  have free : st.heap.NoLimit := en.mod.nolimit.keeps still
  have kinds : ∀ y ∈ ps.zip us, sc.names.lookup y.1 = some .local ∨ (sc.names.lookup y.1 = some .cell ∧ ((cellsFrom (st.heap.objs.size + 1) sc.names []).lookup y.1).isSome = true) := fun y my => by
    obtain ⟨n, v⟩ := y
    rcases S.par n (List.of_mem_zip my).1 with z | z
    · exact .inl z
    · exact .inr ⟨z, PySem.W.cellsFrom_some _ _ _ (.inl z)⟩
  refine codeAny_call_function hr.depth (KI _ _ found) rfl S.co S.gen rfl (PySem.W.codeRec_of KI code) (bind _ _ _ _ ?_)
  refine wpAny_newFunctionEnv_cells S.kind kinds fun env eenv s1 laid => ?_
  subst eenv
  refine ⟨free.keeps laid.toInCall.keep, codeAny_func ?_⟩
  obtain ⟨t, ht, hq⟩ := inside Ar out st H vs Q E hg (hr.deeper _) ask
  have J0 : Inv (cxOf CT P w K mg base N ql sc f cd Ar out st H E) [] (start N vs) H s1 := inv_start S hr.hd en long rel laid
  refine wpAny_mono (ht.run [] s1 (start N vs) H _ J0 hq) (fun fl s2 z => ?_) fun _ _ z => z
  cases fl with
  | ret u =>
    obtain ⟨v, σ2, H2, J, rv, q⟩ := z
    exact ⟨v, H2, J.os, J.bare, J.base, J.hok, rv, q⟩
  | next =>
    obtain ⟨σ2, H2, J, q⟩ := z
    exact ⟨.non, H2, J.os, J.bare, J.base, J.hok, rfl, q⟩
  | brk => exact z.elim fun _ z => z.elim fun _ z => z.2.elim
  | cont => exact z.elim fun _ z => z.elim fun _ z => z.2.elim
/-- the rule for a def, guarded -/
theorem Fun.okG {x qual : Str} {st : Stmt} {f : Addr} {fd : FuncData} {N ps : List Str} {k : Nat} {sp : Sp} (F : Fun K x qual st f fd) (S : FnScope N ps (defScope st)) (len : ∀ vs H Q E, sp vs H Q E → vs.length = ps.length)
    (inside : ∀ (cdv : Value) (Ar : Around) (out : List Env) (s0 : Shared) (H : Hp) (vs : List V) (Q : VK) (E : XK), Ar.guards = some [] → Room k (Ar.deeper (envOfC qual (defScope st) s0.heap.objs.size f cdv)) → sp vs H Q E →
      ∃ t, PSs (cxOf CX0 P w K mg base N qual (defScope st) f cdv Ar out s0 H E).nox (defBody st) t ∧ t { nx := fun _ H' => Q .non H', rt := Q } (start N vs) H) : FnG P w K mg base CX0 (k + 1) f fd ps sp := by
  obtain ⟨oc, od, kV, doc, pm, an, cdv, ct, osl, rfl, found, code⟩ := F.ex
  refine fnG_of found code S len fun Ar out s0 H vs Q E hg hr ask => ?_
  obtain ⟨t, h, q⟩ := inside cdv Ar out s0 H vs Q E hg hr ask
  exact ⟨t, h.nox, q⟩
end
section
variable {X : Cx} {CT : CXT} {k : Nat} {f : Addr} {fd : FuncData} {ps : List Str} {sp : Sp} {E : XK}
theorem run_fnG {pins : List (Addr × Obj)} {σ : St} {H : Hp} {s : Shared} {Q : VK} {us : List Value} {vs : List V} (F : FnG X.prog X.w X.K X.mg X.base CT k f fd ps sp) (hg : X.A.guards = some []) (hr : Room k X.A) (hb : Binds X.K fd ps []) (hx : Passes CT X E)
    (I : Inv X pins σ H s) (r : Vals vs us) (h : sp vs H Q E) : wpAny (model X.prog X.w) X.A (call (.ref f) us) (EP X pins σ Q) X.xe s := by
  have long : us.length = ps.length := by rw [← r.length]; exact F.len _ _ _ _ h
  have bind := hb s us I.kIn (by rw [List.append_nil]; exact long)
  rw [List.append_nil] at bind
  refine wpAny_call (codeAny_mono (F.go X.A X.stack s H ⟨us, []⟩ us vs Q E hg hr I.env0 bind r h) fun out s' z => ?_)
  rcases out with e | fl
  · exact hx pins σ H s e s' I z
  · rcases fl with _ | _ | _ | u
    all_goals first
      | exact I.after z
      | exact False.elim z
end
/-- a def of the module as its callers know it, guarded -/
structure CalG (P : Program) (w : World) (K : PySem.W.Frag) (mg : Str → Option Value) (base : Heap) (CT : CXT) (k : Nat) (x : Str) (ps : List Str) (sp : Sp) : Prop where
  ex : ∃ (f : Addr) (fd : FuncData), FnG P w K mg base CT k f fd ps sp ∧ mg x = some (.ref f) ∧ PySem.W.keepIn K (.ref f) = true ∧ Binds K fd ps []
section
variable {X : Cx} {CT : CXT} {k j : Nat} {x : Str} {ps : List Str} {sp : Sp} {E : XK} {p pos : Pos} {e : Expr} {es : List Expr} {t : TA}
theorem pe_calG (c : CalG X.prog X.w X.K X.mg X.base CT k x ps sp) (hg : X.A.guards = some []) (hr : Room j X.A) (hj : k ≤ j) (hx : Passes CT X E) (ha : PA X (e :: es) t) (gl : Gl X x := by rfl) (nd : (x == ("__debug__" : Str)) = false := by decide)
    (se : starEach (e :: es) X.env = (false, eval e X.env) :: starEach es X.env := by rfl) (np : (backTo pos (starEach es X.env)).any (·.1) = false := by rfl) : PE X (.Call (.Name x p) (e :: es) [] pos) (tCall sp [] E t) := by
  obtain ⟨f, fd, G, hm, hk, hb⟩ := c.ex
  refine ⟨fun pins s σ H Q I h => wpAny_Call_Name_kw (ld_glob I gl hm ?_ nd)⟩
  refine PySem.W.callWith_K (h₀ := X.base) I.ok.mod.kin hk (thn (ha.run pos pins s σ H _ I h) fun us s1 z => ?_) se np
  obtain ⟨vs, H1, I1, r, q⟩ := z
  rw [List.append_nil] at q
  exact ⟨I1.kIn, run_fnG G hg (hr.mono hj) hb hx I1 r q⟩
end
/-! ### a law's end -/
theorem law_callG {P : Program} {w : World} {K : PySem.W.Frag} {mg mb : Str → Option Value} {CT : CXT} {k : Nat} {fa a : Addr} {fd : FuncData} {x : Str} {sp : Sp} {s1 : Shared} {us : List Value} {ns : List Int}
    (KI : K.In s1.heap) (gns : s1.heap.Ns mainGlobals mg) (bns : s1.heap.Ns builtinsNs mb) (bb : ∀ y : Str, y ≠ "__name__" → mb y = bootBuiltins y) (nolim : s1.heap.NoLimit) (nogen : s1.gens = #[])
    (at_ : s1.heap.get? a = some { cls := .type "list", data := .seq us.toArray }) (whole : IntsAre us ns) (few : ns.length ≤ sizeLine) (hr : Room k callerA)
    (F : ∀ base : Heap, K.In base → base.Ns mainGlobals mg → FnG P w K mg base CT k fa fd [x] sp) (bind : ∀ (s : Shared) (u : Value), BindsTo s fd ⟨[u], []⟩ [(x, u)])
    (ask : ∀ H : Hp, Only H → SqL K H a (ns.map V.int) → sp [.ref a] H (fun v _ => v = .bl true) fun _ _ _ => False) (noexc : ∀ H e s', CT [] H s1 (fun _ _ _ => False) e s' → False) :
    codeAny (model P w) callerA (.call (.ref fa) ⟨[.ref a], []⟩) (fun r s' => r = .ok (.ret (.bool true)) ∧ OldK s1.heap s'.heap ∧ s'.os = s1.os ∧ AllBare s'.gens) s1 := by
  have rel := vals_ints whole
  have lenU := whole.length
  -- what follows from any view of the heap that knows the script at most
  have core : ∀ H : Hp, Only H → SqL K H a (ns.map V.int) → HOk P w H s1.heap → (∀ b, H b ≠ none → b = a) → (H a ≠ none → K.lookup a = none) →
      codeAny (model P w) callerA (.call (.ref fa) ⟨[.ref a], []⟩) (fun r s' => r = .ok (.ret (.bool true)) ∧ OldK s1.heap s'.heap ∧ s'.os = s1.os ∧ AllBare s'.gens) s1 := by
    intro H only sq ok one notK
    have hid : ∀ {b : Addr} {o : Obj}, s1.heap.get? b = some o → H b = none → (hidT s1.heap H).get? b = some o := fun z n => hidT_get z n
    have dictFree : ∀ {b : Addr} {o : Obj} {es : Array DictEntry} {ep : Nat}, s1.heap.get? b = some o → o.data = .dict es ep → H b = none := fun {b o es ep} z d => by
      refine Classical.byContradiction fun c => ?_
      have eb := one b c
      rw [eb, at_] at z
      rw [← Option.some.inj z] at d
      exact nomatch d
    have keepNs : ∀ {b : Addr} {m : Str → Option Value}, s1.heap.Ns b m → (hidT s1.heap H).Ns b m := fun z => by
      obtain ⟨o, es, ep, z1, d, r⟩ := z
      exact ⟨o, es, ep, hid z1 (dictFree z1 d), d, r⟩
    have KH : K.In (hidT s1.heap H) := fun b o z => hid (KI b o z) (Classical.byContradiction fun c => by
      have eb := one b c
      rw [eb] at z c
      rw [notK c] at z
      exact nomatch z)
    have mod : Mod K mg (hidT s1.heap H) := ⟨KH, keepNs gns, ⟨mb, keepNs bns, bb⟩, by
      obtain ⟨mc, z1, z2⟩ := nolim
      exact ⟨mc, keepNs z1, z2⟩⟩
    have en : Env0 P w K mg (hidT s1.heap H) callerA [] s1 H := ⟨rfl, mod, fun b o z => of_hidT z, Nat.le_of_eq (hidT_size _ _), trivial, fun b hb => absurd (show b ∈ ([] : List Addr) from hb) (by simp), ok, .of_eq nogen⟩
    refine codeAny_mono ((F _ KH (keepNs gns)).go callerA [] s1 H ⟨[.ref a], []⟩ [.ref a] [.ref a] _ _ rfl hr en (bind s1 (.ref a)) (.cons rfl .nil) (ask H only sq)) fun r s' z => ?_
    rcases r with e | fl
    · exact (noexc H e s' z).elim
    · rcases fl with _ | _ | _ | u
      case ret =>
        obtain ⟨v, H2, os, bare, un, ok2, rv, q⟩ := z
        have q : v = .bl true := q
        subst q
        obtain rfl : u = Value.bool true := rv
        refine ⟨rfl, OldK.of_keep fun b o z => ?_, os, bare⟩
        cases hb : H b with
        | none => exact un.keep b o z hb (fun m => absurd (show b ∈ ([] : List Addr) from m) (by simp)) (by simp)
        | some ob =>
          rcases only b with n | ⟨ob2, xs, n⟩
          · rw [hb] at n
            exact nomatch n
          · obtain ⟨k1, _⟩ := ok b _ n
            obtain ⟨k2, _⟩ := ok2 b _ (un.frzs b ob2 _ n)
            rw [z] at k1
            cases k1
            exact k2
      all_goals exact False.elim z
  cases hk : K.lookup a with
  | some o =>
    have z := KI a o hk
    rw [at_] at z
    cases z
    exact core (fun _ => none) (fun _ => .inl rfl) (.inr ⟨_, us.toArray, _, hk, rfl, rfl, rfl, (by rw [List.size_toArray, lenU]; exact few), (by simpa using rel)⟩) (fun b u z => nomatch (show (none : Option HO) = some u from z)) (fun b z => absurd rfl z) (fun z => absurd rfl z)
  | none =>
    have yes : ∀ {b : Addr}, b = a → (if b = a then some (HO.frz { cls := .type "list", data := .seq us.toArray } (.lst (ns.map V.int))) else none) = some (HO.frz { cls := .type "list", data := .seq us.toArray } (.lst (ns.map V.int))) := fun z => if_pos z
    have no : ∀ {b : Addr}, ¬ b = a → (if b = a then some (HO.frz { cls := .type "list", data := .seq us.toArray } (.lst (ns.map V.int))) else none) = none := fun z => if_neg z
    refine core (fun b => if b = a then some (HO.frz { cls := .type "list", data := .seq us.toArray } (.lst (ns.map V.int))) else none) (fun b => ?_) (.inl (.inr ⟨_, yes rfl⟩)) (fun b u z => ?_) (fun b z => ?_) fun _ => hk
    · by_cases c : b = a
      · exact .inr ⟨_, _, yes c⟩
      · exact .inl (no c)
    · by_cases c : b = a
      · have z := (yes c).symm.trans z
        cases z
        subst c
        exact ⟨at_, (by rw [List.length_map]; exact few), us, _, rel, at_⟩
      · exact nomatch (no c).symm.trans z
    · exact Classical.byContradiction fun c => z (no c)
theorem walk_ofG {l : PySem.W.OpenLaw} {n k : Nat} {q : Program} {loose : List Str} {XP : (Str → Option Value) → Heap → Prop} {YP : World → Heap → Prop} {d : DefRec} {CT : CXT} {x : Str}
    (most : l.most = some n) (few : n ≤ sizeLine) (nodef : d.params.defaults = []) (hr : Room k callerA)
    (F : ∀ (w : World) (mg : Str → Option Value) (fa : Addr) (h : Heap), YP w h → h.Ns mainGlobals mg → mg d.name = some (.ref fa) →
      ∃ (K : PySem.W.Frag) (fd : FuncData) (sp : Sp), K.In h ∧ (∀ (s : Shared) (u : Value), BindsTo s fd ⟨[u], []⟩ [(x, u)]) ∧ (∀ (H : Hp) (a : Addr) (ns : List Int), ns.length ≤ n → Only H → SqL K H a (ns.map V.int) → sp [.ref a] H (fun v _ => v = .bl true) fun _ _ _ => False) ∧
        ∀ base : Heap, K.In base → base.Ns mainGlobals mg → FnG l.prog w K mg base CT k fa fd [x] sp)
    (noexc : ∀ (H : Hp) (s : Shared) (e : Value) (s' : Shared), CT [] H s (fun _ _ _ => False) e s' → False) : PySem.W.WalkO q loose XP YP l.row.toRowW d [] (fun g ws => PySem.call g ws) := by
  refine Att.attach_call most nodef fun w s0 s1 mg mb fa o pm cd doc a us ns G Y _ _ _ gm at_ whole len nogen => ?_
  obtain ⟨K, fd, sp, KI, bind, ask, promise⟩ := F w mg fa _ Y G.T.g gm
  exact law_callG KI G.T.g G.T.b G.T.builtins G.T.nolimit nogen at_ whole (Nat.le_trans len few) hr promise bind (fun H only sq => ask H a ns len only sq) fun H e s' => noexc H s1 e s'
end L2

set_option Elab.async false
set_option linter.all false
set_option maxRecDepth 100000
set_option maxHeartbeats 4000000
namespace K1
open PySem L2 W1
/-! ### rows as objects -/
def nV (n : Nat) : V := .int (n : Nat)
/-! ### Row(..) -/
end K1
namespace K1
open PySem L2 W1
structure Bl2 (mg : Str → Option Value) : Prop extends Blt mg where
  min : mg "min" = none
  divmod : mg "divmod" = none
  zip : mg "zip" = none
  sorted : mg "sorted" = none
theorem ins_lk {K : PySem.W.Frag} {C a dx : Addr} {fs : List (Str × V)} {f : Str} {v : V} {s : Nat} {σ : St} {H1 : Hp} (e : σ[s]? = some (some (.ref a))) (h : H1 a = some (.ins C dx fs)) (c : Cls K C) (n : NoAttr K C f) (l : fs.lookup f = some v) : VE (tFld K (tVar s) f) v σ H1 :=
  fun H2 s2 Q q => ⟨_, e, a, C, dx, fs, v, rfl, s2 _ _ h, c, n, l, q⟩
section
variable {P : Program} {w : World} {K : PySem.W.Frag} {mg : Str → Option Value} {base : Heap} {C : Addr}
/-! ### leaf_row -/
/-! ### repeated -/
theorem BE.mono {t : TT} {b : Bool} {σ : St} {H1 H2 : Hp} (h : BE t b σ H1) (s : Same H1 H2) : BE t b σ H2 := fun H3 s3 => h H3 (s.trans s3)
theorem be_zero {u : TE} {i : Int} {σ : St} {H1 : Hp} (h : VE u (.int i) σ H1) : BE (tTest (tOp rEq u (tC (.int 0)))) (decide (i = 0)) σ H1 := be_int h ve_int
theorem be_notN {u : TE} {v : V} {σ : St} {H1 : Hp} (h : VE u v σ H1) : BE (tTest (tOp (fun x y H Q => y = .non ∧ Q (.bl (!decide (x = .non))) H) u (tC .non))) (!decide (v = .non)) σ H1 := fun H2 s Q k => h H2 s _ ⟨rfl, _, rfl, k H2 (Same.refl _)⟩
theorem be_isN {u : TE} {v : V} {σ : St} {H1 : Hp} (h : VE u v σ H1) : BE (tTest (tOp (fun x y H Q => y = .non ∧ Q (.bl (decide (x = .non))) H) u (tC .non))) (decide (v = .non)) σ H1 := fun H2 s Q k => h H2 s _ ⟨rfl, _, rfl, k H2 (Same.refl _)⟩
/-! ### parts_of, begins_of -/
end
end K1
namespace K1
open PySem L2 W1
end K1
namespace K1
open PySem L2 W1
/-! ### while by a measure, the test's answer known -/
theorem VE.to {σ : St} {H1 : Hp} {t : TE} {i : Int} {n : Nat} (h : VE t (.int i) σ H1) (e : i = (n : Nat)) : VE t (nV n) σ H1 := by
  subst e
  exact h
theorem ve_ixT {K : PySem.W.Frag} {σ : St} {H1 : Hp} {t u : TE} {q : Addr} {xs : List V} {n : Nat} {v : V} (h : VE t (.ref q) σ H1) (hq : H1 q = some (.tup xs)) (r : VE u (nV n) σ H1) (e : xs[n]? = some v) : VE (tOp (rIxT K) t u) v σ H1 :=
  fun H2 s Q k => h H2 s _ (r H2 s _ ⟨q, xs, _, v, rfl, rfl, SqT.of (s _ _ hq), atI_nat e, k⟩)
theorem ve_ixL {K : PySem.W.Frag} {σ : St} {H1 : Hp} {t u : TE} {q : Addr} {xs : List V} {n : Nat} {v : V} (h : VE t (.ref q) σ H1) (hq : H1 q = some (.lst xs)) (r : VE u (nV n) σ H1) (e : xs[n]? = some v) : VE (tOp (rIxL K) t u) v σ H1 :=
  fun H2 s Q k => h H2 s _ (r H2 s _ ⟨q, xs, _, v, rfl, rfl, SqL.of (s _ _ hq), atI_nat e, k⟩)
theorem be_true {σ : St} {H : Hp} : BE (tB (tC (.bl true))) true σ H := fun H2 s Q k => ⟨true, rfl, k H2 (Same.refl _)⟩
end K1
namespace K1
open PySem L2 W1
/-! ### stretches of repeated lists -/
/-! ### entries -/
theorem cut_sl {xs : List V} {f l : Nat} (h1 : f ≤ l) (h2 : l ≤ xs.length) : cutV xs (some (f : Nat)) (some (l : Nat)) = sl xs f l := by
  unfold cutV sl
  rw [sIx_pos (by omega) (by omega), sIx_pos (by omega) (by omega)]
  rfl
/-- t[f:l] -/
theorem slT_rd {K : PySem.W.Frag} {t u1 u2 : TE} {σ : St} {H1 : Hp} {a : Addr} {xs : List V} {f l : Nat} {Q : VK} (h : VE t (.ref a) σ H1) (ha : H1 a = some (.tup xs)) (r1 : VE u1 (nV f) σ H1) (r2 : VE u2 (nV l) σ H1) (h1 : f ≤ l) (h2 : l ≤ xs.length)
    (k : ∀ p H3, Same H1 H3 → H3 p = some (.tup (sl xs f l)) → Q (.ref p) H3) : tSl (rSlA K) t (tPart u1) (tPart u2) σ H1 Q := by
  refine h H1 (Same.refl _) _ (r1 H1 (Same.refl _) _ ⟨_, rfl, r2 H1 (Same.refl _) _ ⟨_, rfl, a, xs, rfl, SqT.of ha, fun z => ?_, fun _ p np => ?_⟩⟩)
  · rw [sIx_pos (by omega) (by omega), sIx_pos (by omega) (by omega)] at z
    refine k a H1 (Same.refl _) ?_
    have e1 : f = 0 := by have := z.1; omega
    have e2 : l = xs.length := by have := z.2; omega
    rw [e1, e2, sl_all]
    exact ha
  · refine k p _ (same_new (Same.refl _) np) ?_
    rw [upd_same, cut_sl h1 h2]
theorem ve_max {σ : St} {H1 : Hp} {t u : TE} {i j : Int} (h : VE t (.int i) σ H1) (r : VE u (.int j) σ H1) : VE (tCB (fun xs H Q => ∃ i j, xs = [.int i, .int j] ∧ Q (.int (if j > i then j else i)) H) (tCons t (tCons u tNil))) (.int (if j > i then j else i)) σ H1 := fun H2 s Q q => h H2 s _ (r H2 s _ ⟨i, j, rfl, q⟩)
theorem ve_min {σ : St} {H1 : Hp} {t u : TE} {i j : Int} (h : VE t (.int i) σ H1) (r : VE u (.int j) σ H1) : VE (tCB (fun xs H Q => ∃ i j, xs = [.int i, .int j] ∧ Q (.int (if j < i then j else i)) H) (tCons t (tCons u tNil))) (.int (if j < i then j else i)) σ H1 := fun H2 s Q q => h H2 s _ (r H2 s _ ⟨i, j, rfl, q⟩)
theorem ve_modN {σ : St} {H1 : Hp} {t u : TE} {i j : Nat} (h : VE t (nV i) σ H1) (r : VE u (nV j) σ H1) (p : 0 < j) : VE (tOp (rI (fun _ j => 0 < j) fun i j => V.int (i % j)) t u) (nV (i % j)) σ H1 := by
  have := ve_mod (i := (i : Nat)) (j := (j : Nat)) h r (by omega)
  exact VE.to this (by omega)
theorem ve_subN {σ : St} {H1 : Hp} {t u : TE} {i j : Nat} (h : VE t (nV i) σ H1) (r : VE u (nV j) σ H1) (p : j ≤ i) : VE (tOp (rI0 fun i j => V.int (i - j)) t u) (nV (i - j)) σ H1 := VE.to (ve_sub (i := (i : Nat)) (j := (j : Nat)) h r) (by omega)
theorem ve_addN {σ : St} {H1 : Hp} {t u : TE} {i j : Nat} (h : VE t (nV i) σ H1) (r : VE u (nV j) σ H1) : VE (tOp (rI0 fun i j => V.int (i + j)) t u) (nV (i + j)) σ H1 := VE.to (ve_add (i := (i : Nat)) (j := (j : Nat)) h r) (by omega)
theorem be_leN {σ : St} {H1 : Hp} {t u : TE} {i j : Nat} (h : VE t (nV i) σ H1) (r : VE u (nV j) σ H1) : BE (tTest (tOp (rI0 fun i j => .bl (decide (i ≤ j))) t u)) (decide (i ≤ j)) σ H1 := by
  have := be_le (i := (i : Nat)) (j := (j : Nat)) h r
  rw [show decide (((i : Nat) : Int) ≤ ((j : Nat) : Int)) = decide (i ≤ j) from decide_eq_decide.mpr (by omega)] at this
  exact this
theorem be_ltN {σ : St} {H1 : Hp} {t u : TE} {i j : Nat} (h : VE t (nV i) σ H1) (r : VE u (nV j) σ H1) : BE (tTest (tOp (rI0 fun i j => .bl (decide (i < j))) t u)) (decide (i < j)) σ H1 := by
  have := be_lt (i := (i : Nat)) (j := (j : Nat)) h r
  rw [show decide (((i : Nat) : Int) < ((j : Nat) : Int)) = decide (i < j) from decide_eq_decide.mpr (by omega)] at this
  exact this
theorem be_gtN {σ : St} {H1 : Hp} {t u : TE} {i j : Nat} (h : VE t (nV i) σ H1) (r : VE u (nV j) σ H1) : BE (tTest (tOp (rI0 fun i j => .bl (decide (j < i))) t u)) (decide (j < i)) σ H1 := by
  have := be_gt (i := (i : Nat)) (j := (j : Nat)) h r
  rw [show decide (((j : Nat) : Int) < ((i : Nat) : Int)) = decide (j < i) from decide_eq_decide.mpr (by omega)] at this
  exact this
theorem be_eqN {σ : St} {H1 : Hp} {t u : TE} {i j : Nat} (h : VE t (nV i) σ H1) (r : VE u (nV j) σ H1) : BE (tTest (tOp rEq t u)) (decide (i = j)) σ H1 := by
  have := be_int (i := (i : Nat)) (j := (j : Nat)) h r
  rw [show decide (((i : Nat) : Int) = ((j : Nat) : Int)) = decide (i = j) from decide_eq_decide.mpr (by omega)] at this
  exact this
/-! ### arguments that are values -/
def VA (ts : TA) (vs : List V) (σ : St) (H1 : Hp) : Prop := ∀ H2, Same H1 H2 → ∀ Q : List V → Hp → Prop, Q vs H2 → ts σ H2 Q
theorem va_nil {σ : St} {H1 : Hp} : VA tNil [] σ H1 := fun H2 _ Q k => k
theorem va_cons {t : TE} {ts : TA} {v : V} {vs : List V} {σ : St} {H1 : Hp} (h : VE t v σ H1) (r : VA ts vs σ H1) : VA (tCons t ts) (v :: vs) σ H1 := fun H2 s Q k => h H2 s _ (r H2 s _ k)
theorem call_rd {sp : Sp} {ts : TA} {vs : List V} {σ : St} {H : Hp} {Q : VK} {E : XK} (h : VA ts vs σ H) (k : sp vs H Q E) : tCall sp [] E ts σ H Q := h H (Same.refl _) _ (by rw [List.append_nil]; exact k)
theorem ret_of {t : TE} {D : Ends} {σ : St} {H : Hp} (h : t σ H D.rt) : tRet t D σ H := h
theorem ifE_be {c : TT} {b : Bool} {x y : TE} {σ : St} {H : Hp} {Q : VK} (h : BE c b σ H) (k : ∀ H3, Same H H3 → (b = true → x σ H3 Q) ∧ (b = false → y σ H3 Q)) : tIf c x y σ H Q := h H (Same.refl _) _ fun H3 s3 => by
  cases b with
  | true => exact (k H3 s3).1 rfl
  | false => exact (k H3 s3).2 rfl
theorem cb_rd {r : List V → Hp → VK → Prop} {ts : TA} {vs : List V} {σ : St} {H : Hp} {Q : VK} (h : VA ts vs σ H) (k : r vs H Q) : tCB r ts σ H Q := h H (Same.refl _) _ k
theorem cons_rd {t : TE} {σ : St} {H : Hp} {Q : List V → Hp → Prop} (h : t σ H fun v H1 => Q [v] H1) : tCons t tNil σ H Q := h
theorem seq_rd {A B : TS} {D : Ends} {σ : St} {H : Hp} (h : A { D with nx := B D } σ H) : tSeq A B D σ H := h
theorem asgT {t : TE} {g : TG} {D : Ends} {σ : St} {H : Hp} (h : t σ H fun x H1 => g x σ H1 D.nx) : tAsg t g D σ H := h
theorem asg_of {t : TE} {s : Nat} {D : Ends} {σ : St} {H : Hp} (h : t σ H fun v H' => D.nx (σ.set s (some v)) H') : tAsg t (gName s) D σ H := h
end K1
namespace K1
open PySem L2 W1
/-! ### in a list or tuple of entries -/
theorem hr65 {k : Nat} {A : Around} (r : Room k A) : A.units + 65 < cLine := by have := r.un; omega
end K1
namespace K1
open PySem L2 W1
theorem ve_fld {K : PySem.W.Frag} {C a dx : Addr} {fs : List (Str × V)} {f : Str} {v : V} {t : TE} {σ : St} {H1 : Hp} (e : VE t (.ref a) σ H1) (h : H1 a = some (.ins C dx fs)) (c : Cls K C) (n : NoAttr K C f) (l : fs.lookup f = some v) : VE (tFld K t f) v σ H1 :=
  fun H2 s2 Q q => e H2 s2 _ ⟨a, C, dx, fs, v, rfl, s2 _ _ h, c, n, l, q⟩
theorem par_rd {i j : Nat} {ta : TA} {v w : V} {D : Ends} {σ : St} {H : Hp} (h : VA ta [v, w] σ H) (k : D.nx ((σ.set i (some v)).set j (some w)) H) : tPar i j ta D σ H := h H (Same.refl _) _ ⟨v, w, rfl, k⟩
end K1
namespace K1
open PySem L2 W1
end K1
namespace K1
open PySem L2 W1
end K1
namespace K1
open PySem L2 W1
/-! ### sides -/
theorem next_rd {D : Ends} {σ : St} {H : Hp} (h : D.nx σ H) : tNext D σ H := h
theorem trip_rd {K : PySem.W.Frag} {i j l : Nat} {t : Addr} {x y z : V} {σ : St} {H : Hp} {Q : St → Hp → Prop} (ht : H t = some (.tup [x, y, z])) (h : Q (((σ.set i (some x)).set j (some y)).set l (some z)) H) : gTup K 3 (gCons (gName i) (gCons (gName j) (gCons (gName l) gNil))) (.ref t) σ H Q :=
  ⟨t, [x, y, z], rfl, SqT.of ht, rfl, x, [y, z], rfl, y, [z], rfl, z, [], rfl, rfl, h⟩
theorem par3_rd {i j l : Nat} {ta : TA} {u v w : V} {D : Ends} {σ : St} {H : Hp} (h : VA ta [u, v, w] σ H) (k : D.nx (((σ.set i (some u)).set j (some v)).set l (some w)) H) : tPar3 i j l ta D σ H := h H (Same.refl _) _ ⟨u, v, w, rfl, k⟩
theorem be_bool {σ : St} {H : Hp} {i : Nat} {b : Bool} (e : σ[i]? = some (some (.bl b))) : BE (tB (tVar i)) b σ H := fun H2 s2 Q k => ⟨_, e, b, rfl, k H2 (Same.refl _)⟩
end K1
namespace K1
open PySem L2 W1
/-! ### entries are equal just if they are the same -/
end K1
namespace K1
open PySem L2 W1
/-! ### what stands at a value is one thing -/
end K1
namespace K1
open PySem L2 W1
/-! ### expressions that give a bool -/
def BV (t : TE) (b : Bool) (σ : St) (H1 : Hp) : Prop := ∀ H2, Same H1 H2 → ∀ Q : VK, (∀ H3, Same H2 H3 → Q (.bl b) H3) → t σ H2 Q
section
variable {σ : St} {H1 H2 : Hp} {t u : TE} {b c : Bool} {K : PySem.W.Frag} {v : V}
theorem BV.mono (h : BV t b σ H1) (s : Same H1 H2) : BV t b σ H2 := fun H3 s3 => h H3 (s.trans s3)
theorem bv_ve (h : VE t (.bl b) σ H1) : BV t b σ H1 := fun H2 s Q k => h H2 s _ (k H2 (Same.refl _))
theorem be_bv (h : BV t b σ H1) : BE (tB t) b σ H1 := fun H2 s Q k => h H2 s _ fun H3 s3 => ⟨b, rfl, k H3 s3⟩
theorem bv_and (h : BV t b σ H1) (r : b = true → BV u c σ H1) : BV (tAndV t u) (b && c) σ H1 := fun H2 s Q k => h H2 s _ fun H3 s3 => ⟨b, rfl, by
  cases b with
  | true => exact (r rfl).mono s H3 s3 Q fun H4 s4 => k H4 (s3.trans s4)
  | false => exact k H3 s3⟩
theorem bv_or (h : BV t b σ H1) (r : b = false → BV u c σ H1) : BV (tOrV t u) (b || c) σ H1 := fun H2 s Q k => h H2 s _ fun H3 s3 => ⟨b, rfl, by
  cases b with
  | false => exact (r rfl).mono s H3 s3 Q fun H4 s4 => k H4 (s3.trans s4)
  | true => exact k H3 s3⟩
theorem bv_call {sp : Sp} {ts : TA} {vs : List V} {E : XK} (h : VA ts vs σ H1) (k : ∀ H2, Same H1 H2 → ∀ Q : VK, (∀ H3, Same H2 H3 → Q (.bl b) H3) → sp vs H2 Q E) : BV (tCall sp [] E ts) b σ H1 := fun H2 s Q q => h H2 s _ (by
  rw [List.append_nil]
  exact k H2 s Q q)
theorem ret_bv {D : Ends} (h : BV t b σ H1) (k : ∀ H3, Same H1 H3 → D.rt (.bl b) H3) : tRet t D σ H1 := h H1 (Same.refl _) _ k
theorem ve_isi {T : String} (h : VE t v σ H1) (a : ∀ H2, Same H1 H2 → Ans K H2 v T b) : VE (tCB (rIsi K) (tCons t (tCons (tC (.ty T)) tNil))) (.bl b) σ H1 := fun H2 s Q k => h H2 s _ ((a H2 s).rd k)
theorem be_neI {i j : Int} (h : VE t (.int i) σ H1) (r : VE u (.int j) σ H1) : BE (tTest (tOp rNe t u)) (!decide (i = j)) σ H1 := fun H2 s Q k => h H2 s _ (r H2 s _ ⟨rfl, _, rfl, by
  rw [show decide (V.int i = V.int j) = decide (i = j) from decide_eq_decide.mpr ⟨V.int.inj, fun e => by rw [e]⟩]
  exact k H2 (Same.refl _)⟩)
theorem ve_geI {i j : Int} (h : VE t (.int i) σ H1) (r : VE u (.int j) σ H1) : VE (tOp (rI0 fun i j => .bl (decide (j ≤ i))) t u) (.bl (decide (j ≤ i))) σ H1 := fun H2 s Q k => h H2 s _ (r H2 s _ ⟨i, j, rfl, rfl, k⟩)
theorem ve_isNV (h : VE t v σ H1) : VE (tOp (fun x y H Q => y = .non ∧ Q (.bl (decide (x = .non))) H) t (tC .non)) (.bl (decide (v = .non))) σ H1 := fun H2 s Q k => h H2 s _ ⟨rfl, k⟩
end
section
variable {P : Program} {w : World} {K : PySem.W.Frag} {mg : Str → Option Value} {base : Heap} {C : Addr}
/-! ### is_count, is_word, is_pair, is_entry -/
def spIc : Sp := fun vs H Q _ => ∃ (i : Int), vs = [.int i] ∧ ∀ H', Same H H' → Q (.bl (decide (0 ≤ i))) H'
/-! ### are_entries, making_of, check_index -/
end
end K1
namespace K1
open PySem L2 W1
/-! ### the class Making -/
end K1
namespace K1
open PySem L2 W1
end K1
namespace K1
open PySem L2 W1
end K1
namespace K1
open PySem L2 W1
/-! ### the law's own defs -/
section
variable {P : Program} {w : World} {K : PySem.W.Frag} {mg : Str → Option Value} {base : Heap} {C CM CW : Addr}
def rInt1 : List V → Hp → VK → Prop := fun xs H Q => (∃ i, xs = [V.int i] ∧ Q (V.int i) H) ∨ ∃ k, xs = [V.bl k] ∧ Q (V.int (if k then 1 else 0)) H
theorem ve_intI {σ : St} {H1 : Hp} {t : TE} {i : Int} (h : VE t (.int i) σ H1) : VE (tCB rInt1 (tCons t tNil)) (.int i) σ H1 := fun H2 s Q q => h H2 s _ (.inl ⟨i, rfl, q⟩)
theorem ve_intB {σ : St} {H1 : Hp} {t : TE} {b : Bool} (h : VE t (.bl b) σ H1) : VE (tCB rInt1 (tCons t tNil)) (.int (if b then 1 else 0)) σ H1 := fun H2 s Q q => h H2 s _ (.inr ⟨b, rfl, q⟩)
theorem dt_str {σ : St} {H1 : Hp} {z : Str} (h : z.length ≤ 1000 ∧ PyData.strOk z = true) : DT [] (tC (.str z)) (.str z) σ H1 := dt_v ve_c fun _ _ => .str _ h
theorem to_rd {t u : TE} {σ : St} {H1 : Hp} {a : Addr} {xs : List V} {m : Nat} {Q : VK} (h : VE t (.ref a) σ H1) (ha : H1 a = some (.lst xs)) (r : VE u (nV m) σ H1) (k : ∀ p, H1 p = none → Same H1 (upd H1 p (.lst (xs.take m))) → Q (.ref p) (upd H1 p (.lst (xs.take m)))) : tSl (rSlL K) t tNoPart (tPart u) σ H1 Q := by
  refine h H1 (Same.refl _) _ (r H1 (Same.refl _) _ ⟨_, rfl, a, xs, rfl, SqL.of ha, fun p np => ?_⟩)
  rw [cut_to (by omega), Int.toNat_natCast]
  exact k p np (same_new (Same.refl _) np)
theorem from_rd {t u : TE} {σ : St} {H1 : Hp} {a : Addr} {xs : List V} {m : Nat} {Q : VK} (h : VE t (.ref a) σ H1) (ha : H1 a = some (.lst xs)) (r : VE u (nV m) σ H1) (k : ∀ p, H1 p = none → Same H1 (upd H1 p (.lst (xs.drop m))) → Q (.ref p) (upd H1 p (.lst (xs.drop m)))) : tSl (rSlL K) t (tPart u) tNoPart σ H1 Q := by
  refine h H1 (Same.refl _) _ (r H1 (Same.refl _) _ ⟨_, rfl, a, xs, rfl, SqL.of ha, fun p np => ?_⟩)
  rw [cut_from (by omega), Int.toNat_natCast]
  exact k p np (same_new (Same.refl _) np)
end
end K1
namespace K1
open PySem L2 W1
/-! ### _law_built -/
theorem toV {i : Int} (h : 0 ≤ i) : V.int i = nV i.toNat := by
  unfold nV
  rw [Int.toNat_of_nonneg h]
theorem VE.nat {t : TE} {i : Int} {σ : St} {H : Hp} (h : VE t (.int i) σ H) (p : 0 ≤ i) : VE t (nV i.toNat) σ H := by
  rw [← toV p]
  exact h
theorem tcall_rd {sp : Sp} {ts : TA} {σ : St} {H : Hp} {Q : VK} {E : XK} (h : ts σ H fun vs H1 => sp (vs ++ []) H1 Q E) : tCall sp [] E ts σ H Q := h
theorem tcons_rd {t : TE} {ts : TA} {σ : St} {H : Hp} {Q : List V → Hp → Prop} (h : t σ H fun v H1 => ts σ H1 fun vs H2 => Q (v :: vs) H2) : tCons t ts σ H Q := h
theorem ttup_rd {ts : TA} {σ : St} {H : Hp} {Q : VK} (h : ts σ H fun vs H1 => vs.length ≤ sizeLine ∧ ∀ p, H1 p = none → Q (.ref p) (upd H1 p (.tup vs))) : tTup ts σ H Q := h
theorem op_rd {R : R2} {t u : TE} {v x : V} {σ : St} {H : Hp} {Q : VK} (h : VE t v σ H) (r : VE u x σ H) (k : R v x H Q) : tOp R t u σ H Q := h H (Same.refl _) _ (r H (Same.refl _) _ k)
theorem top_rd {R : R2} {t u : TE} {σ : St} {H : Hp} {Q : VK} (h : t σ H fun x H1 => tOp R (tC x) u σ H1 Q) : tOp R t u σ H Q := h
end K1
namespace K1
open PySem L2 W1
/-! ### _law_parts_right -/
/-- a method of Word as its callers know it -/
structure MetW (P : Program) (w : World) (K : PySem.W.Frag) (mg : Str → Option Value) (base : Heap) (k : Nat) (C : Addr) (m : Str) (ps : List Str) (sp : Sp) : Prop where
  ex : ∃ (f : Addr) (fd : FuncData), Meth K C m f ∧ FnOk P w K mg base CX0 k f fd ps sp ∧ Binds K fd ps []
section
variable {X : Cx} {C : Addr} {j k : Nat} {o e : Expr} {es : List Expr} {ta : TE} {t : TA} {pos apos : Pos} {pl : Sem Bool} {m : Str} {ps : List Str} {sp : Sp}
theorem pe_mw (M : MetW X.prog X.w X.K X.mg X.base k C m ps sp) (c : Cls X.K C) (hr : Room j X.A) (hj : k ≤ j) (he : PE X o ta) (ha : PA X (e :: es) t)
    (hst : starEach (e :: es) X.env = (false, eval e X.env) :: starEach es X.env := by rfl) (hpl : (backTo pos (starEach es X.env)).any (·.1) = false := by rfl)
    (hs : eval (.Call (.Attribute o m apos) (e :: es) [] pos) X.env = (do let ov ← eval o X.env; standAt apos.atName; let (f, first) ← holding [ov] (getMethod ov m pl); callWith pos f first (backTo pos (starEach (e :: es) X.env)) (backToKw pos (keywordEach [] X.env))) := by rfl) :
    PE X (.Call (.Attribute o m apos) (e :: es) [] pos) (tMeth C m sp [] E0 ta t) := by
  obtain ⟨f, fd, mt, F, b⟩ := M.ex
  exact pe_meth he c mt F (hr.mono hj) b .nil pass0 ha hst hpl hs
theorem pe_mw0 (M : MetW X.prog X.w X.K X.mg X.base k C m ps sp) (c : Cls X.K C) (hr : Room j X.A) (hj : k ≤ j) (he : PE X o ta)
    (hs : eval (.Call (.Attribute o m apos) [] [] pos) X.env = (do let ov ← eval o X.env; standAt apos.atName; let (f, first) ← holding [ov] (getMethod ov m pl); callWith pos f first (backTo pos (starEach [] X.env)) (backToKw pos (keywordEach [] X.env))) := by rfl) :
    PE X (.Call (.Attribute o m apos) [] [] pos) (tMeth C m sp [] E0 ta tNil) := by
  obtain ⟨f, fd, mt, F, b⟩ := M.ex
  exact pe_meth0 he c mt F (hr.mono hj) b .nil pass0 hs
end
theorem tlst_rd {ts : TA} {σ : St} {H : Hp} {Q : VK} (h : ts σ H fun vs H1 => vs.length ≤ sizeLine ∧ ∀ p, H1 p = none → Q (.ref p) (upd H1 p (.lst vs))) : tLst ts σ H Q := h
theorem tcb_rd {r : List V → Hp → VK → Prop} {ts : TA} {σ : St} {H : Hp} {Q : VK} (h : ts σ H fun vs H1 => r vs H1 Q) : tCB r ts σ H Q := h
section
variable {K : PySem.W.Frag} {C CW CM : Addr} {σ : St} {H1 : Hp}
theorem VA.mono {t : TA} {v : List V} {H2 : Hp} (h : VA t v σ H1) (s : Same H1 H2) : VA t v σ H2 := fun H3 s3 => h H3 (s.trans s3)
end
end K1
namespace K1
open PySem L2 W1
theorem gname_rd {i : Nat} {v : V} {σ : St} {H : Hp} {Q : St → Hp → Prop} (h : Q (σ.set i (some v)) H) : gName i v σ H Q := h
end K1
namespace K1
open PySem L2 W1
/-! ### what the law's body needs -/
theorem sqL_mono {K : PySem.W.Frag} {H H' : Hp} {a : Addr} {xs : List V} (h : SqL K H a xs) (s : Same H H') : SqL K H' a xs := by
  rcases h with (h | ⟨o, h⟩) | h
  · exact .inl (.inl (s _ _ h))
  · exact .inl (.inr ⟨o, s _ _ h⟩)
  · exact .inr h
theorem ve_lenS {K : PySem.W.Frag} {σ : St} {H1 : Hp} {s : Nat} {a : Addr} {xs : List V} (e : σ[s]? = some (some (.ref a))) (h : SqL K H1 a xs) : VE (tCB (fun xs H Q => ∃ p ys, xs = [V.ref p] ∧ (SqL K H p ys ∨ SqT K H p ys) ∧ Q (V.int (ys.length : Nat)) H) (tCons (tVar s) tNil)) (.int (xs.length : Nat)) σ H1 :=
  fun H2 s2 Q q => ⟨_, e, a, xs, rfl, .inl (sqL_mono h s2), q⟩
theorem cR_rd {R : R2} {u : TE} {x : V} {σ : St} {H : Hp} {Q : VK} (h : u σ H fun y H1 => R x y H1 Q) : tOp R (tC x) u σ H Q := h
end K1
namespace K1
open PySem L2 W1
end K1
namespace K1
open PySem L2 W1
theorem ps_dead {X : Cx} {s : Stmt} : PS X s (fun _ _ _ => False) := ⟨fun _ _ _ _ _ _ h => h.elim⟩
theorem pss_dead {X : Cx} {s : List Stmt} : PSs X s (fun _ _ _ => False) := ⟨fun _ _ _ _ _ _ h => h.elim⟩
theorem pe_dead {X : Cx} {e : Expr} : PE X e (fun _ _ _ => False) := ⟨fun _ _ _ _ _ _ h => h.elim⟩
abbrev Pl := V1.Pl
/-! ### places as tuples -/
def plV : Pl → List V
  | .obj i => [.str "object", nV i]
  | .pool s k => [.str "pool", nV s, nV k]
def plK : Pl → List Key
  | .obj i => [.inr "object", .inl (i : Nat)]
  | .pool s k => [.inr "pool", .inl (s : Nat), .inl (k : Nat)]
def plD : Pl → PyData
  | .obj i => .tuple [.str "object", .int (i : Nat)]
  | .pool s k => .tuple [.str "pool", .int (s : Nat), .int (k : Nat)]
theorem plV_key (p : Pl) : plV p = (plK p).map kV := by cases p <;> rfl
theorem plK_inj {p q : Pl} (h : plK p = plK q) : p = q := by
  cases p with
  | obj i =>
    cases q with
    | obj j =>
      injection h with _ h
      injection h with h _
      injection h with h
      congr 1
      omega
    | pool s k =>
      have := congrArg List.length h
      cases this
  | pool s k =>
    cases q with
    | obj j =>
      have := congrArg List.length h
      cases this
    | pool t l =>
      injection h with _ h
      injection h with h1 h
      injection h with h2 _
      injection h1 with h1
      injection h2 with h2
      congr 1 <;> omega
def PlAt (H : Hp) (v : V) (p : Pl) : Prop := ∃ a, v = .ref a ∧ H a = some (.tup (plV p))
theorem PlAt.mono {H H' : Hp} {v : V} {p : Pl} (h : PlAt H v p) (s : Same H H') : PlAt H' v p := by
  obtain ⟨a, e, h⟩ := h
  exact ⟨a, e, s _ _ h⟩
theorem strO : (("object" : Str).length ≤ 1000 ∧ PyData.strOk "object" = true) := by decide +kernel
theorem strP : (("pool" : Str).length ≤ 1000 ∧ PyData.strOk "pool" = true) := by decide +kernel
theorem PlAt.at_ {H : Hp} {v : V} {p : Pl} (h : PlAt H v p) : At H v (plD p) := by
  obtain ⟨a, rfl, h⟩ := h
  cases p with
  | obj i => exact .tup h (.cons (.str _ strO) (.cons (.int _) .nil))
  | pool s k => exact .tup h (.cons (.str _ strP) (.cons (.int _) (.cons (.int _) .nil)))
theorem plD_ok (p : Pl) : noDic (plD p) = true ∧ SeqAt.shaped (plD p) = true := by
  cases p with
  | obj i => exact ⟨rfl, by unfold SeqAt.shaped plD; rw [PyData.canLay0, PyData.canLayAll0, PyData.canLayAll0, PyData.canLayAll0]; simp [PyData.canLay0, PyData.depth, PyData.depthAll]; decide +kernel⟩
  | pool s k => exact ⟨rfl, by unfold SeqAt.shaped plD; rw [PyData.canLay0, PyData.canLayAll0, PyData.canLayAll0, PyData.canLayAll0, PyData.canLayAll0]; simp [PyData.canLay0, PyData.depth, PyData.depthAll]; decide +kernel⟩
theorem plD_inj {p q : Pl} (h : plD p = plD q) : p = q := by
  cases p with
  | obj i =>
    cases q with
    | obj j =>
      simp only [plD, PyData.tuple.injEq, List.cons.injEq, PyData.int.injEq] at h
      congr 1; omega
    | pool s k => simp [plD] at h
  | pool s k =>
    cases q with
    | obj j => simp [plD] at h
    | pool t l =>
      simp only [plD, PyData.tuple.injEq, List.cons.injEq, PyData.int.injEq] at h
      congr 1 <;> omega
/-- lists of places -/
def Ps (H : Hp) (vs : List V) (ps : List Pl) : Prop := vs.length = ps.length ∧ ∀ (i : Nat) (p : Pl), ps[i]? = some p → ∃ v, vs[i]? = some v ∧ PlAt H v p
theorem Ps.mono {H H' : Hp} {vs : List V} {ps : List Pl} (h : Ps H vs ps) (s : Same H H') : Ps H' vs ps := ⟨h.1, fun i p e => by
  obtain ⟨v, e1, e2⟩ := h.2 i p e
  exact ⟨v, e1, e2.mono s⟩⟩
theorem Ps.nil {H : Hp} : Ps H [] [] := ⟨rfl, fun i p e => by cases e⟩
theorem Ps.back {H : Hp} {vs : List V} {ps : List Pl} (h : Ps H vs ps) {i : Nat} {v : V} (e : vs[i]? = some v) : ∃ p, ps[i]? = some p ∧ PlAt H v p := by
  have l := (List.getElem?_eq_some_iff.mp e).1
  have e2 := List.getElem?_eq_getElem (l := ps) (i := i) (by rw [← h.1]; exact l)
  obtain ⟨w, e3, a⟩ := h.2 _ _ e2
  rw [e] at e3
  cases e3
  exact ⟨_, e2, a⟩
theorem Ps.app {H : Hp} {vs ws : List V} {ps qs : List Pl} (h : Ps H vs ps) (k : Ps H ws qs) : Ps H (vs ++ ws) (ps ++ qs) := by
  refine ⟨by rw [List.length_append, List.length_append, h.1, k.1], fun i p e => ?_⟩
  by_cases c : i < ps.length
  · rw [List.getElem?_append_left c] at e
    obtain ⟨v, e1, a⟩ := h.2 i p e
    exact ⟨v, by rw [List.getElem?_append_left (by rw [h.1]; exact c)]; exact e1, a⟩
  · rw [List.getElem?_append_right (by omega)] at e
    obtain ⟨v, e1, a⟩ := k.2 _ p e
    exact ⟨v, by rw [List.getElem?_append_right (by rw [h.1]; omega), h.1]; exact e1, a⟩
theorem Ps.one {H : Hp} {v : V} {p : Pl} (a : PlAt H v p) : Ps H [v] [p] := ⟨rfl, fun i q e => by
  cases i with
  | zero => cases e; exact ⟨v, rfl, a⟩
  | succ i => cases e⟩
theorem Ps.take {H : Hp} {vs : List V} {ps : List Pl} (n : Nat) (h : Ps H vs ps) : Ps H (vs.take n) (ps.take n) := by
  refine ⟨by rw [List.length_take, List.length_take, h.1], fun i p e => ?_⟩
  rw [List.getElem?_take] at e ⊢
  split at e
  · rename_i c
    rw [if_pos c]
    exact h.2 i p e
  · cases e
theorem Ps.drop {H : Hp} {vs : List V} {ps : List Pl} (n : Nat) (h : Ps H vs ps) : Ps H (vs.drop n) (ps.drop n) := by
  refine ⟨by rw [List.length_drop, List.length_drop, h.1], fun i p e => ?_⟩
  rw [List.getElem?_drop] at e ⊢
  exact h.2 _ p e
theorem Ps.tail {H : Hp} {v : V} {vs : List V} {p : Pl} {ps : List Pl} (h : Ps H (v :: vs) (p :: ps)) : PlAt H v p ∧ Ps H vs ps := by
  obtain ⟨w, e, a⟩ := h.2 0 p rfl
  cases e
  exact ⟨a, by have := h.1; simpa using this, fun i q e => h.2 (i + 1) q e⟩
theorem Ps.cons {H : Hp} {v : V} {vs : List V} {p : Pl} {ps : List Pl} (a : PlAt H v p) (h : Ps H vs ps) : Ps H (v :: vs) (p :: ps) := (Ps.one a).app h
theorem Ps.atAll {H : Hp} : ∀ {vs : List V} {ps : List Pl}, Ps H vs ps → AtAll H vs (ps.map plD)
  | [], [], _ => .nil
  | v :: vs, p :: ps, h => .cons h.tail.1.at_ h.tail.2.atAll
  | [], _ :: _, h => by cases h.1
  | _ :: _, [], h => by cases h.1
theorem plDs_ok : ∀ (ps : List Pl), noDics (ps.map plD) = true ∧ PyData.canLayAll0 (ps.map plD) = true ∧ PyData.depthAll (ps.map plD) ≤ 1
  | [] => ⟨rfl, rfl, by decide⟩
  | p :: ps => by
    obtain ⟨h1, h2, h3⟩ := plDs_ok ps
    have z := plD_ok p
    have z2 := SeqAt.canLay_of_shaped z.2
    have z3 : (plD p).depth ≤ 1 := by cases p <;> (simp [plD, PyData.depth, PyData.depthAll])
    refine ⟨?_, ?_, ?_⟩
    · rw [List.map_cons, noDics, z.1, h1]
      rfl
    · rw [List.map_cons, PyData.canLayAll0, z2, h2]
      rfl
    · rw [List.map_cons, PyData.depthAll]
      omega
theorem shaped_pls (ps : List Pl) : SeqAt.shaped (.tuple (ps.map plD)) = true := by
  obtain ⟨_, h2, h3⟩ := plDs_ok ps
  unfold SeqAt.shaped
  rw [PyData.canLay0, h2, PyData.depth]
  simp
  omega
/-! ### frames: all stays but some lists -/
def Fm (S : Addr → Prop) (H H' : Hp) : Prop := ∀ b o, H b = some o → H' b = some o ∨ (S b ∧ ∃ xs ys, o = .lst xs ∧ H' b = some (.lst ys))
section
variable {S T : Addr → Prop} {H H' H'' : Hp}
theorem Fm.of (s : Same H H') : Fm S H H' := fun b o e => .inl (s b o e)
theorem Fm.refl : Fm S H H := Fm.of (Same.refl _)
theorem Fm.trans (f : Fm S H H') (g : Fm S H' H'') : Fm S H H'' := fun b o e => by
  rcases f b o e with h | ⟨s, xs, ys, rfl, h⟩
  · exact g b o h
  · rcases g b _ h with k | ⟨_, _, zs, _, k⟩
    · exact .inr ⟨s, xs, ys, rfl, k⟩
    · exact .inr ⟨s, xs, zs, rfl, k⟩
theorem Fm.sub (f : Fm S H H') (h : ∀ b, S b → T b) : Fm T H H' := fun b o e => (f b o e).imp_right fun z => ⟨h b z.1, z.2⟩
theorem Fm.upd {l : Addr} {xs ys : List V} (h : H l = some (.lst xs)) (s : S l) : Fm S H (upd H l (.lst ys)) := fun b o e => by
  by_cases c : b = l
  · subst c
    rw [h] at e
    cases e
    exact .inr ⟨s, xs, ys, rfl, upd_same⟩
  · exact .inl (by rw [upd_ne c]; exact e)
theorem Fm.free {b : Addr} (f : Fm S H H') (h : H' b = none) : H b = none := by
  cases e : H b with
  | none => rfl
  | some o =>
    rcases f b o e with k | ⟨_, _, _, _, k⟩ <;> (rw [h] at k; cases k)
theorem Fm.keep {b : Addr} {o : HO} (f : Fm S H H') (h : H b = some o) (n : ¬ S b) : H' b = some o := (f b o h).resolve_right fun z => n z.1
theorem Fm.tup {b : Addr} {xs : List V} (f : Fm S H H') (h : H b = some (.tup xs)) : H' b = some (.tup xs) := (f b _ h).resolve_right fun z => by
  obtain ⟨_, _, _, e, _⟩ := z
  cases e
theorem Fm.dk {b : Addr} {xs : List (Key × V)} (f : Fm S H H') (h : H b = some (.dK xs)) : H' b = some (.dK xs) := (f b _ h).resolve_right fun z => by
  obtain ⟨_, _, _, e, _⟩ := z
  cases e
theorem Fm.ins {b C dx : Addr} {fs : List (Str × V)} (f : Fm S H H') (h : H b = some (.ins C dx fs)) : H' b = some (.ins C dx fs) := (f b _ h).resolve_right fun z => by
  obtain ⟨_, _, _, e, _⟩ := z
  cases e
theorem PlAt.fm {v : V} {p : Pl} (h : PlAt H v p) (f : Fm S H H') : PlAt H' v p := by
  obtain ⟨a, e, h⟩ := h
  exact ⟨a, e, f.tup h⟩
theorem Ps.fm {vs : List V} {ps : List Pl} (h : Ps H vs ps) (f : Fm S H H') : Ps H' vs ps := ⟨h.1, fun i p e => by
  obtain ⟨v, e1, e2⟩ := h.2 i p e
  exact ⟨v, e1, e2.fm f⟩⟩
/-- what is not there at first may be changed -/
theorem Fm.own {l : Addr} {o : HO} (f : Fm S H H') (n : H l = none) : Fm S H (L2.upd H' l o) := fun b u e => by
  have c : b ≠ l := fun z => by rw [z, n] at e; cases e
  rw [upd_ne c]
  exact f b u e
end
/-! ### comparing places -/
theorem eqv_obj (p : Pl) (i : Nat) : PyData.eqv (plD p) (.tuple [.str "object", .int (i : Nat)]) = decide (p = .obj i) := by
  cases p with
  | obj j =>
    show PyData.eqv (.tuple [.str "object", .int (j : Nat)]) _ = _
    rw [Bool.eq_iff_iff]
    simp [PyData.eqv, PyData.eqvAll]
    omega
  | pool s k =>
    rw [decide_eq_false (by intro z; cases z)]
    show PyData.eqv (.tuple [.str "pool", .int (s : Nat), .int (k : Nat)]) _ = _
    simp [PyData.eqv, PyData.eqvAll]
theorem eqv_pool (p : Pl) (s : Nat) (f : Int) : PyData.eqv (plD p) (.tuple [.str "pool", .int (s : Nat), .int f]) = (decide (0 ≤ f) && decide (p = .pool s f.toNat)) := by
  cases p with
  | obj j =>
    rw [decide_eq_false (p := V1.Pl.obj j = _) (by intro z; cases z), Bool.and_false]
    show PyData.eqv (.tuple [.str "object", .int (j : Nat)]) _ = _
    simp [PyData.eqv, PyData.eqvAll]
  | pool t k =>
    show PyData.eqv (.tuple [.str "pool", .int (t : Nat), .int (k : Nat)]) _ = _
    rw [Bool.eq_iff_iff]
    simp [PyData.eqv, PyData.eqvAll]
    omega
end K1

set_option Elab.async false
set_option linter.all false
set_option maxRecDepth 100000
set_option maxHeartbeats 4000000
namespace K1
open PySem L2 W1
/-! ### small readings -/
section
variable {σ : St} {H1 : Hp} {t u : TE} {K : PySem.W.Frag} {a : Addr} {xs : List V}
theorem ve_lenT (h : VE t (.ref a) σ H1) (ha : H1 a = some (.tup xs)) : VE (tCB (fun xs H Q => ∃ p ys, xs = [V.ref p] ∧ (SqL K H p ys ∨ SqT K H p ys) ∧ Q (V.int (ys.length : Nat)) H) (tCons t tNil)) (nV xs.length) σ H1 :=
  fun H2 s Q k => h H2 s _ ⟨a, xs, rfl, .inr (SqT.of (s _ _ ha)), k⟩
theorem ve_lenL (h : VE t (.ref a) σ H1) (ha : H1 a = some (.lst xs)) : VE (tCB (fun xs H Q => ∃ p ys, xs = [V.ref p] ∧ (SqL K H p ys ∨ SqT K H p ys) ∧ Q (V.int (ys.length : Nat)) H) (tCons t tNil)) (nV xs.length) σ H1 :=
  fun H2 s Q k => h H2 s _ ⟨a, xs, rfl, .inl (SqL.of (s _ _ ha)), k⟩
theorem be_isT (h : VE t (.ref a) σ H1) (ha : H1 a = some (.tup xs)) : BE (tB (tCB (rIsi K) (tCons t (tCons (tC (.ty "tuple")) tNil)))) true σ H1 :=
  be_bv (bv_ve (ve_isi h fun H2 s => ⟨"tuple", .base (.tup (s _ _ ha)), by decide +kernel⟩))
theorem be_isL (h : VE t (.ref a) σ H1) (ha : H1 a = some (.lst xs)) : BE (tB (tCB (rIsi K) (tCons t (tCons (tC (.ty "list")) tNil)))) true σ H1 :=
  be_bv (bv_ve (ve_isi h fun H2 s => ⟨"list", .base (.lst (s _ _ ha)), by decide +kernel⟩))
theorem bv_isL (h : VE t (.ref a) σ H1) (ha : H1 a = some (.lst xs)) : BV (tCB (rIsi K) (tCons t (tCons (tC (.ty "list")) tNil))) true σ H1 :=
  bv_ve (ve_isi h fun H2 s => ⟨"list", .base (.lst (s _ _ ha)), by decide +kernel⟩)
theorem bv_isD {kvs : List (Key × V)} (h : VE t (.ref a) σ H1) (ha : H1 a = some (.dK kvs)) : BV (tCB (rIsi K) (tCons t (tCons (tC (.ty "dict")) tNil))) true σ H1 :=
  bv_ve (ve_isi h fun H2 s => ⟨"dict", .base (.dK (s _ _ ha)), by decide +kernel⟩)
theorem bv_to {b c : Bool} (h : BV t b σ H1) (e : b = c) : BV t c σ H1 := by rw [← e]; exact h
theorem be_to {t : TT} {b c : Bool} (h : BE t b σ H1) (e : b = c) : BE t c σ H1 := by rw [← e]; exact h
theorem bv_eqN {i j : Nat} (h : VE t (nV i) σ H1) (r : VE u (nV j) σ H1) : BV (tOp rEq t u) (decide (i = j)) σ H1 := fun H2 s Q k => h H2 s _ (r H2 s _ ⟨rfl, by
  rw [show decide (nV i = nV j) = decide (i = j) from decide_eq_decide.mpr ⟨fun e => by injection e with e; omega, fun e => by rw [e]⟩]
  exact k H2 (Same.refl _)⟩)
theorem bv_eqS {x y : Str} (h : VE t (.str x) σ H1) (r : VE u (.str y) σ H1) : BV (tOp rEq t u) (decide (x = y)) σ H1 := fun H2 s Q k => h H2 s _ (r H2 s _ ⟨rfl, by
  rw [show decide (V.str x = V.str y) = decide (x = y) from decide_eq_decide.mpr ⟨V.str.inj, fun e => by rw [e]⟩]
  exact k H2 (Same.refl _)⟩)
theorem be_eqS {x y : Str} (h : VE t (.str x) σ H1) (r : VE u (.str y) σ H1) : BE (tTest (tOp rEq t u)) (decide (x = y)) σ H1 := fun H2 s Q k => h H2 s _ (r H2 s _ ⟨rfl, _, rfl, by
  rw [show decide (V.str x = V.str y) = decide (x = y) from decide_eq_decide.mpr ⟨V.str.inj, fun e => by rw [e]⟩]
  exact k H2 (Same.refl _)⟩)
end
structure Bl3 (mg : Str → Option Value) : Prop extends Bl2 mg where
  dict : mg "dict" = none
section
variable {P : Program} {w : World} {K : PySem.W.Frag} {mg : Str → Option Value} {base : Heap}
theorem sc_is_integer : FnScope ["value"] ["value"] (defScope (top 3)) := ⟨rfl, rfl, rfl, by decide +kernel, rfl, by decide +kernel, by decide +kernel⟩
theorem ok_is_integer {f : Addr} {fd : FuncData} (F : Fun K "is_integer" "is_integer" (top 3) f fd) (B : Blt mg) : FnOk P w K mg base CX0 1 f fd ["value"] spInteger := by
  refine F.ok sc_is_integer (fun vs H Q E h => ?_) (fun cdv A outer s H vs Q E hr h => ?_)
  · obtain ⟨v, rfl, _⟩ := h
    rfl
  · obtain ⟨v, rfl, d, k⟩ := h
    refine ⟨_, pss_one (ps_ret (pe_and (pt_isi B (pv 0) B.int PyProof.Rows.boot_int) (pe_one (pe_not (pt_isi B (pv 0) B.bool PyProof.Rows.boot_bool))))), ?_⟩
    refine isi_rd rfl (ans_int d) ⟨_, rfl, ?_⟩
    refine ite2 (fun c => ?_) (fun c => ?_)
    · refine isi_rd rfl (ans_bool d) ⟨_, rfl, ?_⟩
      have e : intV v = !isB v := by unfold intV; rw [c, Bool.true_and]
      rw [← e]
      exact k
    · have e : intV v = false := by unfold intV; rw [Bool.eq_false_iff.mpr c, Bool.false_and]
      rw [← e]
      exact k
theorem sc_is_within : FnScope ["value", "least", "most"] ["value", "least", "most"] (defScope (top 4)) := ⟨rfl, rfl, rfl, by decide +kernel, rfl, by decide +kernel, by decide +kernel⟩
theorem ok_is_within {f : Addr} {fd : FuncData} (F : Fun K "is_within" "is_within" (top 4) f fd) (B : Blt mg) (C1 : Cal P w K mg base CX0 1 "is_integer" ["value"] spInteger) : FnOk P w K mg base CX0 2 f fd ["value", "least", "most"] spWithin := by
  refine F.ok sc_is_within (fun vs H Q E h => ?_) (fun cdv A outer s H vs Q E hr h => ?_)
  · obtain ⟨v, lo, hi, rfl, _⟩ := h
    rfl
  · obtain ⟨v, lo, hi, rfl, d, k⟩ := h
    refine ⟨_, pss_one (ps_ret (pe_and (pe_cal C1 hr (by decide) pass0 (pa_cons (pv 0) pa_nil)) (pe_one (pe_chain op_le op_le (pv 1) (pv 0) (pv 2))))), ?_⟩
    refine ⟨_, rfl, v, rfl, d, _, rfl, ?_⟩
    refine ite2 (fun c => ?_) (fun c => ?_)
    · obtain ⟨i, rfl⟩ := intV_is c
      refine ⟨_, rfl, _, rfl, _, _, rfl, rfl, _, rfl, ?_⟩
      have e : wholeV (.int i) lo hi = (decide (lo ≤ i) && decide (i ≤ hi)) := rfl
      refine ite2 (fun c1 => ?_) (fun c1 => ?_)
      · refine ⟨_, rfl, _, _, rfl, rfl, ?_⟩
        rw [c1, Bool.true_and] at e
        rw [e] at k
        exact k
      · rw [Bool.eq_false_iff.mpr c1, Bool.false_and] at e
        rw [e] at k
        exact k
    · rw [← wholeV_not (lo := lo) (hi := hi) c]
      exact k
theorem sc_is_count : FnScope ["value"] ["value"] (defScope (top 5)) := ⟨rfl, rfl, rfl, by decide +kernel, rfl, by decide +kernel, by decide +kernel⟩
theorem ok_is_count {f : Addr} {fd : FuncData} (F : Fun K "is_count" "is_count" (top 5) f fd) (C1 : Cal P w K mg base CX0 1 "is_integer" ["value"] spInteger) : FnOk P w K mg base CX0 2 f fd ["value"] spIc := by
  refine F.ok sc_is_count (fun vs H Q E h => ?_) (fun cdv A outer s H vs Q E hr h => ?_)
  · obtain ⟨i, rfl, _⟩ := h
    rfl
  · obtain ⟨i, rfl, k⟩ := h
    refine ⟨_, (pss_one (ps_ret (pe_and (pe_cal C1 hr (by omega) pass0 (pa_cons (pv 0) pa_nil)) (pe_one (pe_cmpR op_ge (pv 0) pe_int (nomark _)))))), ?_⟩
    refine ret_bv (b := true && decide (0 ≤ i)) (bv_and (bv_call (va_cons (ve_var (v := .int i) rfl) va_nil) fun H2 s2 Q q => ⟨_, rfl, .int i, q H2 (Same.refl _)⟩) fun _ => bv_ve (ve_geI (ve_var rfl) ve_int)) fun H3 s3 => ?_
    rw [Bool.true_and]
    exact k H3 s3
def spIs : Sp := fun vs H Q _ => ∃ (i : Int), vs = [.int i] ∧ 1 ≤ i ∧ i ≤ 8 ∧ Q (.bl true) H
theorem sc_is_size : FnScope ["value"] ["value"] (defScope (top 6)) := ⟨rfl, rfl, rfl, by decide +kernel, rfl, by decide +kernel, by decide +kernel⟩
theorem ok_is_size {f : Addr} {fd : FuncData} (F : Fun K "is_size" "is_size" (top 6) f fd) (C2 : Cal P w K mg base CX0 2 "is_within" ["value", "least", "most"] spWithin) : FnOk P w K mg base CX0 3 f fd ["value"] spIs := by
  refine F.ok sc_is_size (fun vs H Q E h => ?_) (fun cdv A outer s H vs Q E hr h => ?_)
  · obtain ⟨i, rfl, _⟩ := h
    rfl
  · obtain ⟨i, rfl, h1, h2, k⟩ := h
    refine ⟨_, (pss_one (ps_ret (pe_cal C2 hr (by omega) pass0 (pa_cons (pv 0) (pa_cons pe_int (pa_cons pe_int pa_nil)))))), ?_⟩
    refine call_rd (va_cons (ve_var (v := .int i) rfl) (va_cons ve_int (va_cons ve_int va_nil))) ⟨_, 1, 8, rfl, .int i, ?_⟩
    have e : wholeV (.int i) 1 8 = true := by
      show (decide (1 ≤ i) && decide (i ≤ 8)) = true
      rw [decide_eq_true h1, decide_eq_true h2]
      rfl
    rw [e]
    exact k
def spIw : Sp := fun vs H Q _ => ∃ (a b : Str), vs = [.str a, .str b] ∧ (a.length ≤ 1000 ∧ PyData.strOk a = true) ∧ ∀ H', Same H H' → Q (.bl (decide (a = b))) H'
theorem sc_is_word : FnScope ["value", "word"] ["value", "word"] (defScope (top 7)) := ⟨rfl, rfl, rfl, by decide +kernel, rfl, by decide +kernel, by decide +kernel⟩
theorem ok_is_word {f : Addr} {fd : FuncData} (F : Fun K "is_word" "is_word" (top 7) f fd) (B : Bl3 mg) : FnOk P w K mg base CX0 1 f fd ["value", "word"] spIw := by
  refine F.ok sc_is_word (fun vs H Q E h => ?_) (fun cdv A outer s H vs Q E hr h => ?_)
  · obtain ⟨a, b, rfl, _⟩ := h
    rfl
  · obtain ⟨a, b, rfl, ha, k⟩ := h
    refine ⟨_, (pss_one (ps_ret (pe_and (pt_isi B.toBlt (pv 0) B.str PyProof.Rows.boot_str) (pe_one (pe_cmpR op_eq (pv 0) (pv 1) (nomark _)))))), ?_⟩
    refine ret_bv (b := true && decide (a = b)) (bv_and (bv_ve (ve_isi (ve_var rfl) fun H2 s => ans_str (.str _ ha))) fun _ => bv_eqS (ve_var rfl) (ve_var rfl)) fun H3 s3 => ?_
    rw [Bool.true_and]
    exact k H3 s3
def Okp : Pl → Prop
  | .obj _ => True
  | .pool s _ => 1 ≤ s ∧ s ≤ 8
def spPl : Sp := fun vs H Q _ => ∃ (v : V) (p : Pl), vs = [v] ∧ PlAt H v p ∧ Okp p ∧ ∀ H', Same H H' → Q (.bl true) H'
theorem sc_is_place : FnScope ["value"] ["value"] (defScope (top 15)) := ⟨rfl, rfl, rfl, by decide +kernel, rfl, by decide +kernel, by decide +kernel⟩
theorem ok_is_place {f : Addr} {fd : FuncData} (F : Fun K "is_place" "is_place" (top 15) f fd) (B : Bl3 mg) (CIw : Cal P w K mg base CX0 1 "is_word" ["value", "word"] spIw) (CIc : Cal P w K mg base CX0 2 "is_count" ["value"] spIc) (CIs : Cal P w K mg base CX0 3 "is_size" ["value"] spIs) : FnOk P w K mg base CX0 4 f fd ["value"] spPl := by
  refine F.ok sc_is_place (fun vs H Q E h => ?_) (fun cdv A outer s H vs Q E hr h => ?_)
  · obtain ⟨v, p, rfl, _⟩ := h
    rfl
  · obtain ⟨v, p, rfl, ⟨a, rfl, ha⟩, hp, k⟩ := h
    refine ⟨_, (pss_cons (ps_if (pt_not (pt_val (pt_isi B.toBlt (pv 0) B.tuple PyProof.Rows.boot_tuple))) (pss_one (ps_ret pe_bl)) pss_nil)
      (pss_cons (ps_if (pt_cmpR op_eq (pe_callB call_len_seq rfl B.len PySem.boot_len (pa_cons (pv 0) pa_nil)) pe_int (nomark _)) (pss_one (ps_ret (pe_and (pe_cal CIw hr (by omega) pass0 (pa_cons (pe_ix ix_tup (pv 0) pe_int (fun _ _ => rfl)) (pa_cons pe_str pa_nil))) (pe_one (pe_cal CIc hr (by omega) pass0 (pa_cons (pe_ix ix_tup (pv 0) pe_int (fun _ _ => rfl)) pa_nil)))))) pss_nil)
      (pss_one (ps_ret (pe_and (pe_cmpR op_eq (pe_callB call_len_seq rfl B.len PySem.boot_len (pa_cons (pv 0) pa_nil)) pe_int (nomark _)) (pe_and (pe_cal CIw hr (by omega) pass0 (pa_cons (pe_ix ix_tup (pv 0) pe_int (fun _ _ => rfl)) (pa_cons pe_str pa_nil))) (pe_and (pe_cal CIs hr (by omega) pass0 (pa_cons (pe_ix ix_tup (pv 0) pe_int (fun _ _ => rfl)) pa_nil)) (pe_one (pe_cal CIc hr (by omega) pass0 (pa_cons (pe_ix ix_tup (pv 0) pe_int (fun _ _ => rfl)) pa_nil)))))))))), ?_⟩
    have va : ∀ {H5 : Hp}, VE (tVar 0) (.ref a) [some (.ref a)] H5 := ve_var rfl
    refine seq_rd (if_be (be_not (be_isT va ha)) fun H1 s1 => ⟨fun z => absurd z (by decide), fun _ => ?_⟩)
    refine next_rd ?_
    dsimp only
    have h1 := s1 _ _ ha
    have word : ∀ (x y : Str) (H5 : Hp) (j : Nat) (xs : List V), H5 a = some (.tup xs) → xs[0]? = some (.str x) → x.length ≤ 1000 ∧ PyData.strOk x = true → BV (tCall spIw [] E (tCons (tOp (rIxT K) (tVar 0) (tC (.int 0))) (tCons (tC (.str y)) tNil))) (decide (x = y)) [some (.ref a)] H5 := fun x y H5 j xs hx e ok =>
      bv_call (va_cons (ve_ixT (n := 0) va hx ve_c e) (va_cons ve_c va_nil)) fun H2 s2 Q q => ⟨x, y, rfl, ok, fun H' s' => q H' s'⟩
    have cnt : ∀ (H5 : Hp) (j n : Nat) (xs : List V), H5 a = some (.tup xs) → xs[j]? = some (nV n) → BV (tCall spIc [] E (tCons (tOp (rIxT K) (tVar 0) (tC (nV j))) tNil)) true [some (.ref a)] H5 := fun H5 j n xs hx e =>
      bv_to (bv_call (va_cons (ve_ixT (n := j) va hx ve_c e) va_nil) fun H2 s2 Q q => ⟨(n : Nat), rfl, fun H' s' => q H' s'⟩) (decide_eq_true (by omega))
    cases p with
    | obj i =>
      have h1 : H1 a = some (.tup [.str "object", nV i]) := h1
      refine seq_rd (if_be (be_eqN (i := 2) (j := 2) (ve_lenT va h1) ve_c) fun H2 s2 => ⟨fun _ => ?_, fun z => absurd z (by decide)⟩)
      have h2 := s2 _ _ h1
      refine ret_bv (bv_and (word "object" "object" H2 0 _ h2 rfl strO) fun _ => cnt H2 1 i _ h2 rfl) fun H3 s3 => ?_
      exact k H3 ((s1.trans s2).trans s3)
    | pool t n =>
      have h1 : H1 a = some (.tup [.str "pool", nV t, nV n]) := h1
      obtain ⟨p1, p2⟩ : 1 ≤ t ∧ t ≤ 8 := hp
      refine seq_rd (if_be (be_eqN (i := 3) (j := 2) (ve_lenT va h1) ve_c) fun H2 s2 => ⟨fun z => absurd z (by decide), fun _ => ?_⟩)
      refine next_rd ?_
      dsimp only
      have h2 := s2 _ _ h1
      refine ret_bv (b := true) (bv_and (b := true) (bv_eqN (i := 3) (j := 3) (ve_lenT va h2) ve_c) fun _ => bv_and (b := true) (word "pool" "pool" H2 0 _ h2 rfl strP) fun _ => bv_and (b := true) (bv_call (va_cons (ve_ixT (n := 1) va h2 ve_c rfl) va_nil) fun H3 s3 Q q => ⟨(t : Nat), rfl, by omega, by omega, q H3 (Same.refl _)⟩) fun _ => cnt H2 2 n _ h2 rfl) fun H3 s3 => ?_
      exact k H3 ((s1.trans s2).trans s3)
end

end K1

set_option Elab.async false
set_option linter.all false
set_option maxRecDepth 100000
set_option maxHeartbeats 4000000
namespace K1
open PySem L2 W1
theorem hr1 {k : Nat} {A : Around} (r : Room k A) : A.units + 1 < cLine := by have := r.un; omega
/-! ### dicts of sizes -/
def Sq (L : Bool) (H : Hp) (q : Addr) (xs : List V) : Prop := H q = some (if L = true then .lst xs else .tup xs)
def kvz (zs : List Nat) (t : Nat → Addr) : List (Key × V) := zs.map fun (s : Nat) => (Sum.inl ((s : Nat) : Int), V.ref (t s))
structure FrC (L : Bool) (H : Hp) (zs : List Nat) (t : Nat → Addr) (fr : Nat → List Pl) (f : Nat → Nat) : Prop where
  each : ∀ s ∈ zs, ∃ q xs, H (t s) = some (.tup [.ref q, nV (f s)]) ∧ Sq L H q xs ∧ Ps H xs (fr s)
def FrG (L : Bool) (H : Hp) (d : Addr) (zs : List Nat) (fr : Nat → List Pl) (f : Nat → Nat) : Prop := ∃ t, H d = some (.dK (kvz zs t)) ∧ FrC L H zs t fr f
theorem kvz_len {zs : List Nat} {t : Nat → Addr} : (kvz zs t).length = zs.length := List.length_map ..
theorem kvz_keys {zs : List Nat} {t : Nat → Addr} : (kvz zs t).map (·.1) = zs.map (fun (s : Nat) => (Sum.inl ((s : Nat) : Int) : Key)) := by
  unfold kvz
  rw [List.map_map]
  rfl
theorem inl_inj {a b : Nat} : ((Sum.inl (a : Int) : Key) = Sum.inl (b : Int)) ↔ a = b := ⟨fun h => by injection h with h; omega, fun h => by rw [h]⟩
theorem kvz_val {t : Nat → Addr} {s : Nat} : ∀ {zs : List Nat}, valV (kvz zs t) (Sum.inl (s : Int)) = if s ∈ zs then some (.ref (t s)) else none
  | [] => rfl
  | z :: zs => by
    unfold kvz valV
    rw [List.map_cons, List.find?_cons]
    by_cases c : z = s
    · subst c
      simp
    · rw [decide_eq_false (fun e => c (inl_inj.mp e))]
      have ih := kvz_val (t := t) (s := s) (zs := zs)
      unfold kvz valV at ih
      dsimp only
      rw [ih]
      simp [List.mem_cons, Ne.symm c, eq_comm]
theorem kvz_get {zs : List Nat} {t : Nat → Addr} {i : Nat} {k : Key} {v : V} (h : (kvz zs t)[i]? = some (k, v)) : ∃ s, zs[i]? = some s ∧ k = Sum.inl (s : Int) ∧ v = .ref (t s) := by
  unfold kvz at h
  rw [List.getElem?_map] at h
  cases e : zs[i]? with
  | none => rw [e] at h; cases h
  | some s => rw [e] at h; cases h; exact ⟨s, rfl, rfl, rfl⟩
theorem putK_new {κ : Type} [DecidableEq κ] {kvs : List (κ × V)} {k : κ} {v : V} (h : valV kvs k = none) : putK kvs k v = kvs ++ [(k, v)] := by
  unfold putK
  rw [if_neg]
  intro z
  rw [List.any_eq_true] at z
  obtain ⟨x, hx, e⟩ := z
  have e := of_decide_eq_true e
  unfold valV at h
  rw [Option.map_eq_none_iff, List.find?_eq_none] at h
  exact h x hx (decide_eq_true e)
theorem kvz_put {zs : List Nat} {t : Nat → Addr} {s : Nat} {T : Addr} (h : s ∉ zs) : putK (kvz zs t) (Sum.inl (s : Int)) (.ref T) = kvz (zs ++ [s]) (fun u => if u = s then T else t u) := by
  rw [putK_new (by rw [kvz_val, if_neg h])]
  unfold kvz
  rw [List.map_append]
  congr 1
  · apply List.map_congr_left
    intro u hu
    have c : u ≠ s := fun e => h (by rw [← e]; exact hu)
    show _ = (Sum.inl (u : Int), V.ref (if u = s then T else t u))
    rw [if_neg c]
  · show _ = [(Sum.inl (s : Int), V.ref (if s = s then T else t s))]
    rw [if_pos rfl]
theorem FrC.mono {L : Bool} {H H' : Hp} {zs : List Nat} {t : Nat → Addr} {fr : Nat → List Pl} {f : Nat → Nat} (h : FrC L H zs t fr f) (s : Same H H') : FrC L H' zs t fr f := ⟨fun u m => by
  obtain ⟨q, xs, e1, e2, e3⟩ := h.each u m
  exact ⟨q, xs, s _ _ e1, s _ _ e2, e3.mono s⟩⟩
theorem FrG.mono {L : Bool} {H H' : Hp} {d : Addr} {zs : List Nat} {fr : Nat → List Pl} {f : Nat → Nat} (h : FrG L H d zs fr f) (s : Same H H') : FrG L H' d zs fr f := by
  obtain ⟨t, e, c⟩ := h
  exact ⟨t, s _ _ e, c.mono s⟩
theorem FrC.fm {S : Addr → Prop} {H H' : Hp} {zs : List Nat} {t : Nat → Addr} {fr : Nat → List Pl} {f : Nat → Nat} (h : FrC false H zs t fr f) (s : Fm S H H') : FrC false H' zs t fr f := ⟨fun u m => by
  obtain ⟨q, xs, e1, e2, e3⟩ := h.each u m
  exact ⟨q, xs, s.tup e1, s.tup e2, e3.fm s⟩⟩
theorem FrG.fm {S : Addr → Prop} {H H' : Hp} {d : Addr} {zs : List Nat} {fr : Nat → List Pl} {f : Nat → Nat} (h : FrG false H d zs fr f) (s : Fm S H H') : FrG false H' d zs fr f := by
  obtain ⟨t, e, c⟩ := h
  exact ⟨t, s.dk e, c.fm s⟩
/-! ### while a dict is locked -/
def Lk (d : Addr) (H H1 : Hp) : Prop := ∀ b o, H b = some o → b ≠ d → H1 b = some o
section
variable {d : Addr} {H H1 H2 : Hp} {ks : List (Key × V)} {L : Bool}
theorem Lk.start {od : HO} : Lk d H (upd H d od) := fun b o e n => by rw [upd_ne n]; exact e
theorem Lk.trans (l : Lk d H H1) (s : Same H1 H2) : Lk d H H2 := fun b o e n => s _ _ (l b o e n)
theorem Lk.pl {v : V} {p : Pl} (h : PlAt H v p) (hd : H d = some (.dK ks)) (l : Lk d H H1) : PlAt H1 v p := by
  obtain ⟨a, e, h⟩ := h
  exact ⟨a, e, l _ _ h (fun z => by rw [z, hd] at h; cases h)⟩
theorem Lk.ps {vs : List V} {ps : List Pl} (h : Ps H vs ps) (hd : H d = some (.dK ks)) (l : Lk d H H1) : Ps H1 vs ps := ⟨h.1, fun i p e => by
  obtain ⟨v, e1, e2⟩ := h.2 i p e
  exact ⟨v, e1, l.pl e2 hd⟩⟩
theorem Lk.sq {q : Addr} {xs : List V} (h : Sq L H q xs) (hd : H d = some (.dK ks)) (l : Lk d H H1) : Sq L H1 q xs := l _ _ h (fun z => by
  unfold Sq at h
  rw [z, hd] at h
  cases L <;> cases h)
theorem Lk.frc {zs : List Nat} {t : Nat → Addr} {fr : Nat → List Pl} {f : Nat → Nat} (h : FrC L H zs t fr f) (hd : H d = some (.dK ks)) (l : Lk d H H1) : FrC L H1 zs t fr f := ⟨fun u m => by
  obtain ⟨q, xs, e1, e2, e3⟩ := h.each u m
  exact ⟨q, xs, l _ _ e1 (fun z => by rw [z, hd] at e1; cases e1), l.sq e2 hd, l.ps e3 hd⟩⟩
theorem Lk.stop (hd : H d = some (.dK ks)) (l : Lk d H H1) : Same H (upd H1 d (.dK ks)) := fun b o e => by
  by_cases c : b = d
  · subst c
    rw [hd] at e
    cases e
    exact upd_same
  · rw [upd_ne c]
    exact l b o e c
theorem Lk.own {l : Addr} {o : HO} (k : Lk d H H1) (n : H l = none) : Lk d H (upd H1 l o) := fun b u e m => by
  have c : b ≠ l := fun z => by rw [z, n] at e; cases e
  rw [upd_ne c]
  exact k b u e m
theorem Lk.free {b : Addr} (k : Lk d H H1) (h : H1 b = none) (n : b ≠ d) : H b = none := by
  cases e : H b with
  | none => rfl
  | some o => rw [k b o e n] at h; cases h
end
/-! ### readings of dicts -/
section
variable {σ : St} {H1 : Hp} {t u : TE} {K : PySem.W.Frag} {d : Addr} {zs : List Nat} {w : Nat → Addr} {s : Nat}
theorem ve_dget (h : VE t (.ref d) σ H1) (r : VE u (nV s) σ H1) (hd : Rd H1 d (.dK (kvz zs w))) (m : s ∈ zs) : VE (tDGet t u) (.ref (w s)) σ H1 := fun H2 s2 Q k => h H2 s2 _ (r H2 s2 _ ⟨d, _, rfl, .inl ⟨kvz zs w, Sum.inl (s : Int), (by
  rcases hd with e | ⟨od, e⟩
  · exact .inl (s2 _ _ e)
  · exact .inr ⟨od, s2 _ _ e⟩), rfl, (by rw [kvz_val, if_pos m])⟩, k⟩)
theorem be_din (h : VE t (nV s) σ H1) (r : VE u (.ref d) σ H1) (hd : Rd H1 d (.dK (kvz zs w))) : BE (tB (tDIn t u)) (decide (s ∈ zs)) σ H1 := fun H2 s2 Q k => h H2 s2 _ (r H2 s2 _ ⟨d, _, rfl, .inl ⟨kvz zs w, Sum.inl (s : Int), (by
  rcases hd with e | ⟨od, e⟩
  · exact .inl (s2 _ _ e)
  · exact .inr ⟨od, s2 _ _ e⟩), rfl, rfl⟩, _, rfl, (by
  rw [kvz_val]
  by_cases c : s ∈ zs
  · rw [if_pos c]
    rw [decide_eq_true c] at k
    exact k H2 (Same.refl _)
  · rw [if_neg c]
    rw [decide_eq_false c] at k
    exact k H2 (Same.refl _))⟩)
theorem pair2_rd {i j : Nat} {t : Addr} {x y : V} {H : Hp} {Q : St → Hp → Prop} (ht : H t = some (.tup [x, y])) (h : Q ((σ.set i (some x)).set j (some y)) H) : gTup K 2 (gCons (gName i) (gCons (gName j) gNil)) (.ref t) σ H Q :=
  ⟨t, [x, y], rfl, SqT.of ht, rfl, x, [y], rfl, y, [], rfl, rfl, h⟩
theorem while_be {c : TT} {tb : TS} {D : Ends} {H : Hp} (Pv : Nat → St → Hp → Prop) (m0 : Nat) (h0 : Pv m0 σ H)
    (hs : ∀ m σ H, Pv m σ H → ∃ b, BE c b σ H ∧ ∀ H1, Same H H1 → (b = true → tb { D with nx := fun σ' H' => ∃ m', m' < m ∧ Pv m' σ' H', ct := fun σ' H' => ∃ m', m' < m ∧ Pv m' σ' H', bk := D.nx } σ H1) ∧ (b = false → D.nx σ H1)) : tWhile c tb D σ H :=
  ⟨Pv, ⟨m0, h0⟩, fun m σ H p => by
    obtain ⟨b, h, k⟩ := hs m σ H p
    refine h H (Same.refl _) _ fun H3 s3 => ?_
    cases b with
    | true => exact ⟨_, fun σ' H' z => z, (k H3 s3).1 rfl⟩
    | false => exact (k H3 s3).2 rfl⟩
end
def rExtendA : V → List V → Hp → VK → Prop := fun x vs H Q => ∃ l b xs zs, x = .ref l ∧ vs = [.ref b] ∧ H l = some (.lst xs) ∧ (H b = some (.lst zs) ∨ H b = some (.tup zs)) ∧ xs.length + zs.length ≤ sizeLine ∧ Q .non (upd H l (.lst (xs ++ zs)))
theorem mt_extendA {X : Cx} : MtM X "list.extend" rExtendA := by
  intro pins s σ H x vs v us Q I rx rv h
  obtain ⟨l, b, xs, zs, e1, e2, h1, h2, h3, q⟩ := h
  rcases h2 with h2 | h2
  · exact mt_extend pins s σ H x vs v us Q I rx rv ⟨l, b, xs, zs, e1, e2, h1, h2, h3, q⟩
  · exact mt_extendT pins s σ H x vs v us Q I rx rv ⟨l, b, xs, zs, e1, e2, h1, h2, h3, q⟩
theorem Sq.or {L : Bool} {H : Hp} {q : Addr} {xs : List V} (h : Sq L H q xs) : H q = some (.lst xs) ∨ H q = some (.tup xs) := by
  unfold Sq at h
  cases L
  · exact .inr h
  · exact .inl h
section
variable {P : Program} {w : World} {K : PySem.W.Frag} {mg : Str → Option Value} {base : Heap}
/-! ### origins_of -/
def frs (zs : List Nat) (fr : Nat → List Pl) : List Pl := zs.flatMap fr
def spOr : Sp := fun vs H Q _ => ∃ (a d : Addr) (hv : List V) (hs : List Pl) (L : Bool) (zs : List Nat) (fr : Nat → List Pl) (f : Nat → Nat), vs = [.ref a, .ref d] ∧ (H a = some (.lst hv) ∨ H a = some (.tup hv)) ∧ Ps H hv hs ∧ FrG L H d zs fr f ∧ hs.length + (frs zs fr).length ≤ 100000 ∧
  ∀ q xs H', Same H H' → H q = none → H' q = some (.lst xs) → Ps H' xs (hs ++ frs zs fr) → Q (.ref q) H'
theorem frs_take {zs : List Nat} {fr : Nat → List Pl} {i s : Nat} (h : zs[i]? = some s) : frs (zs.take (i + 1)) fr = frs (zs.take i) fr ++ fr s := by
  unfold frs
  rw [start_drop _ _ _ h, List.flatMap_append]
  simp
theorem frs_le {zs : List Nat} {fr : Nat → List Pl} {i : Nat} : (frs (zs.take i) fr).length ≤ (frs zs fr).length := by
  have : frs zs fr = frs (zs.take i) fr ++ frs (zs.drop i) fr := by
    unfold frs
    rw [← List.flatMap_append, List.take_append_drop]
  rw [this, List.length_append]
  omega
theorem sc_origins_of : FnScope ["heads", "fronts", "origins", "size"] ["heads", "fronts"] (defScope (top 18)) := ⟨rfl, rfl, rfl, by decide +kernel, rfl, by decide +kernel, by decide +kernel⟩
theorem ok_origins_of {f : Addr} {fd : FuncData} (F : Fun K "origins_of" "origins_of" (top 18) f fd) (B : Bl3 mg) : FnOk P w K mg base CX0 1 f fd ["heads", "fronts"] spOr := by
  refine F.ok sc_origins_of (fun vs H Q E h => ?_) (fun cdv A outer s H vs Q E hr h => ?_)
  · obtain ⟨a, d, hv, hs, L, zs, fr, f, rfl, _⟩ := h
    rfl
  · obtain ⟨a, d, hv, hs, L, zs, fr, f, rfl, ha, hp, ⟨t, hd, hc⟩, few, k⟩ := h
    refine ⟨_, (pss_cons (ps_set (i := 2) sc_origins_of.nd rfl (Or.inl rfl) (pe_callTy (r := rLof K) call_list_of rfl B.list PyProof.Rows.boot_list (pa_cons (pv 0) pa_nil)))
      (pss_cons (ps_lock (ps_for PassesOwn.never rfl (pi_keys (pv 1)) (pg_name (i := 3) sc_origins_of.nd rfl (Or.inl rfl))
        (pss_one (ps_expr (pe_bm PySem.F.plainAttrs_list PySem.F.slot_list_extend PySem.F.type_list_extend mt_extendA (pv 2) (pa_cons (pe_ix ix_tup (pe_dget (hr1 hr) (pv 1) (pv 3) (fun _ _ => rfl)) pe_int (fun _ _ => rfl)) pa_nil))))))
      (pss_one (ps_ret (pv 2))))), ?_⟩
    refine seq_rd (asg_of (cb_rd (va_cons (ve_var (v := .ref a) rfl) va_nil) ⟨a, hv, rfl, (ha.imp SqL.of SqT.of), fun q nq => ?_⟩))
    have s0 := same_new (o := .lst hv) (Same.refl H) nq
    have hd0 := s0 _ _ hd
    have hq0 : (upd H q (.lst hv)) q = some (.lst hv) := upd_same
    have hc0 := hc.mono s0
    have hp0 := hp.mono s0
    have hqd : q ≠ d := fun z => by rw [z, hd] at nq; cases nq
    refine next_rd ?_
    dsimp only
    generalize upd H q (.lst hv) = H0 at s0 hd0 hq0 hc0 hp0 ⊢
    refine seq_rd ⟨d, _, hd0, trivial, fun od => ?_⟩
    refine ⟨.ref d, rfl, d, od, rfl, .inl ⟨_, upd_same, ?_⟩⟩
    refine for_it walk_keys (fun i σ H1 => ∃ (v3 : Option V) (xs : List V), σ = [some (.ref a), some (.ref d), some (.ref q), v3] ∧ Lk d H H1 ∧ H1 d = some (.frz od (.dK (kvz zs t))) ∧ H1 q = some (.lst xs) ∧ Ps H1 xs (hs ++ frs (zs.take i) fr))
      ⟨_, hv, rfl, fun b o e n => by rw [upd_ne n]; exact s0 _ _ e, upd_same, by rw [upd_ne hqd]; exact hq0, by
        show Ps _ hv (hs ++ [])
        rw [List.append_nil]
        exact Lk.start.ps hp0 hd0⟩ (fun i σ H1 _ z => by
        obtain ⟨_, _, _, _, z, _⟩ := z
        exact z) ?_ ?_
    · rintro i x σ H1 H2 hi ⟨v3, xs, rfl, l1, e1, e2, p1⟩ ⟨rfl, k, v, hk, rfl⟩
      obtain ⟨s, hz, rfl, rfl⟩ := kvz_get hk
      have m := List.mem_of_getElem? hz
      obtain ⟨q2, ys, t1, t2, t3⟩ := (l1.frc hc hd).each s m
      refine gname_rd ?_
      have lx : xs.length ≤ 100000 := by
        rw [p1.1, List.length_append]
        have := frs_le (zs := zs) (fr := fr) (i := i)
        omega
      have ly : ys.length ≤ 100000 := by
        have h1 := frs_take (fr := fr) hz
        have h2 := frs_le (zs := zs) (fr := fr) (i := i + 1)
        rw [h1, List.length_append, ← t3.1] at h2
        omega
      refine ⟨_, rfl, .inl ⟨rfl, _, SqL.of e2⟩, ?_⟩
      refine (ve_ixT (n := 0) (ve_dget (w := t) (ve_var (v := .ref d) rfl) (ve_var (v := nV s) rfl) (.inr ⟨od, e1⟩) m) t1 ve_c rfl) H2 (Same.refl _) _ ?_
      refine ⟨q, q2, xs, ys, rfl, rfl, e2, t2.or, by rw [sizeLine_eq]; omega, ?_⟩
      have hqo : ∀ {b : Addr} {zs : List V}, H2 b = some (.tup zs) → b ≠ q := fun {b zs} z e => by rw [e, e2] at z; cases z
      have pu : ∀ {v : V} {p : Pl}, PlAt H2 v p → PlAt (upd H2 q (.lst (xs ++ ys))) v p := fun {v p} ⟨b, e, z⟩ => ⟨b, e, by rw [upd_ne (hqo z)]; exact z⟩
      have psu : ∀ {vs : List V} {ps : List Pl}, Ps H2 vs ps → Ps (upd H2 q (.lst (xs ++ ys))) vs ps := fun {vs ps} z => ⟨z.1, fun i p e => by
        obtain ⟨v, z1, z2⟩ := z.2 i p e
        exact ⟨v, z1, pu z2⟩⟩
      refine ⟨_, xs ++ ys, rfl, l1.own nq, by rw [upd_ne hqd.symm]; exact e1, upd_same, ?_⟩
      rw [frs_take hz, ← List.append_assoc]
      exact psu (p1.app t3)
    · rintro σ H1 ⟨v3, xs, rfl, l1, e1, e2, p1⟩
      refine ⟨e1, ?_⟩
      have s1 := l1.stop hd
      refine ⟨_, rfl, k q xs _ s1 nq (by rw [upd_ne hqd]; exact e2) ?_⟩
      rw [kvz_len, List.take_length] at p1
      have du : ∀ {b : Addr} {zs : List V}, H1 b = some (.tup zs) → b ≠ d := fun {b zs} z e => by rw [e, e1] at z; cases z
      exact ⟨p1.1, fun i p e => by
        obtain ⟨v, z1, ⟨b, z2, z3⟩⟩ := p1.2 i p e
        exact ⟨v, z1, b, z2, by rw [upd_ne (du z3)]; exact z3⟩⟩
/-! ### fresh_of -/
def spFf : Sp := fun vs H Q _ => ∃ (d : Addr) (s : Nat) (L : Bool) (zs : List Nat) (fr : Nat → List Pl) (f : Nat → Nat), vs = [.ref d, nV s] ∧ FrG L H d zs fr f ∧ ∀ H', Same H H' → Q (nV (if s ∈ zs then f s else 0)) H'
theorem sc_fresh_of : FnScope ["fronts", "size"] ["fronts", "size"] (defScope (top 19)) := ⟨rfl, rfl, rfl, by decide +kernel, rfl, by decide +kernel, by decide +kernel⟩
theorem ok_fresh_of {f : Addr} {fd : FuncData} (F : Fun K "fresh_of" "fresh_of" (top 19) f fd) : FnOk P w K mg base CX0 1 f fd ["fronts", "size"] spFf := by
  refine F.ok sc_fresh_of (fun vs H Q E h => ?_) (fun cdv A outer s H vs Q E hr h => ?_)
  · obtain ⟨d, s, L, zs, fr, f, rfl, _⟩ := h
    rfl
  · obtain ⟨d, s, L, zs, fr, f, rfl, ⟨t, hd, hc⟩, k⟩ := h
    refine ⟨_, (pss_one (ps_ret (pe_ifExp (pt_cmp (pc_din (hr1 hr) (pv 1) (pv 0))) (pe_ix ix_tup (pe_dget (hr1 hr) (pv 0) (pv 1) (fun _ _ => rfl)) pe_int (fun _ _ => rfl)) pe_int))), ?_⟩
    refine ret_of (ifE_be (be_din (w := t) (ve_var (v := nV s) rfl) (ve_var (v := .ref d) rfl) (.inl hd)) fun H3 s3 => ⟨fun c => ?_, fun c => ?_⟩)
    · have m := of_decide_eq_true c
      obtain ⟨q, xs, t1, _⟩ := (hc.mono s3).each s m
      refine (ve_ixT (n := 1) (ve_dget (w := t) (ve_var (v := .ref d) rfl) (ve_var (v := nV s) rfl) (.inl (s3 _ _ hd)) m) t1 ve_c rfl) H3 (Same.refl _) _ ?_
      have := k H3 s3
      rw [if_pos m] at this
      exact this
    · have m := of_decide_eq_false c
      have := k H3 s3
      rw [if_neg m] at this
      exact this
end

end K1

set_option Elab.async false
set_option linter.all false
set_option maxRecDepth 100000
set_option maxHeartbeats 4000000
namespace K1
open PySem L2 W1
theorem upd_tup {H : Hp} {q : Addr} {xs : List V} {o : HO} {v : V} {p : Pl} (e : H q = some (.lst xs)) (h : PlAt H v p) : PlAt (upd H q o) v p := by
  obtain ⟨b, z, h⟩ := h
  exact ⟨b, z, by rw [upd_ne (fun c => by rw [c, e] at h; cases h)]; exact h⟩
section
variable {P : Program} {w : World} {K : PySem.W.Frag} {mg : Str → Option Value} {base : Heap}
/-! ### has_origin_twice -/
def seenK (ps : List Pl) : List (List Key × V) := ps.map fun p => (plK p, V.bl true)
theorem seenK_val {q : Pl} : ∀ {ps : List Pl}, (valV (seenK ps) (plK q)).isSome = decide (q ∈ ps)
  | [] => rfl
  | p :: ps => by
    unfold seenK valV
    rw [List.map_cons, List.find?_cons]
    by_cases c : p = q
    · subst c
      simp
    · rw [decide_eq_false (fun e => c (plK_inj e))]
      have ih := seenK_val (q := q) (ps := ps)
      unfold seenK valV at ih
      dsimp only
      rw [ih]
      simp [List.mem_cons, Ne.symm c, eq_comm]
theorem seenK_put {q : Pl} {ps : List Pl} (h : q ∉ ps) : putK (seenK ps) (plK q) (V.bl true) = seenK (ps ++ [q]) := by
  rw [putK_new]
  · unfold seenK
    rw [List.map_append]
    rfl
  · have := seenK_val (q := q) (ps := ps)
    rw [decide_eq_false h] at this
    cases e : valV (seenK ps) (plK q) with
    | none => rfl
    | some v => rw [e] at this; cases this
def spHt : Sp := fun vs H Q _ => ∃ (a d : Addr) (hv : List V) (hs : List Pl) (L : Bool) (zs : List Nat) (fr : Nat → List Pl) (f : Nat → Nat), vs = [.ref a, .ref d] ∧ (H a = some (.lst hv) ∨ H a = some (.tup hv)) ∧ Ps H hv hs ∧ FrG L H d zs fr f ∧ hs.length + (frs zs fr).length ≤ 100000 ∧
  (hs ++ frs zs fr).Nodup ∧ (∀ s k, V1.Pl.pool s k ∈ hs ++ frs zs fr → k < if s ∈ zs then f s else 0) ∧ ∀ H', Same H H' → Q (.bl false) H'
theorem nodup_at {α : Type} {l : List α} {i : Nat} {x : α} (n : l.Nodup) (h : l[i]? = some x) : x ∉ l.take i := fun m => by
  have e : l = l.take i ++ x :: l.drop (i + 1) := by
    have li := (List.getElem?_eq_some_iff.mp h).1
    conv => lhs; rw [← List.take_append_drop i l]
    rw [List.drop_eq_getElem_cons li]
    rw [List.getElem?_eq_getElem li] at h
    cases h
    rfl
  rw [e, List.nodup_append] at n
  exact n.2.2 x m x List.mem_cons_self rfl
theorem sc_has_origin_twice : FnScope ["heads", "fronts", "seen", "place"] ["heads", "fronts"] (defScope (top 20)) := ⟨rfl, rfl, rfl, by decide +kernel, rfl, by decide +kernel, by decide +kernel⟩
theorem ok_has_origin_twice {f : Addr} {fd : FuncData} (F : Fun K "has_origin_twice" "has_origin_twice" (top 20) f fd) (B : Bl3 mg) (COr : Cal P w K mg base CX0 1 "origins_of" ["heads", "fronts"] spOr) (CFf : Cal P w K mg base CX0 1 "fresh_of" ["fronts", "size"] spFf) : FnOk P w K mg base CX0 2 f fd ["heads", "fronts"] spHt := by
  refine F.ok sc_has_origin_twice (fun vs H Q E h => ?_) (fun cdv A outer s H vs Q E hr h => ?_)
  · obtain ⟨a, d, hv, hs, L, zs, fr, f, rfl, _⟩ := h
    rfl
  · obtain ⟨a, d, hv, hs, L, zs, fr, f, rfl, ha, hp, hf, few, nd, fresh, k⟩ := h
    refine ⟨_, (pss_cons (ps_set (i := 2) sc_has_origin_twice.nd rfl (Or.inl rfl) pe_dnewT)
      (pss_cons (ps_for PassesOwn.never rfl (pi_list (pe_cal COr hr (by omega) pass0 (pa_cons (pv 0) (pa_cons (pv 1) pa_nil)))) (pg_name (i := 3) sc_has_origin_twice.nd rfl (Or.inl rfl))
        (pss_cons (ps_if (PW.pt (pw_or (pt_cmp (pc_din (hr1 hr) (pv 3) (pv 2))) (pw_or1 (PW.pt (pw_and (pt_cmpR op_eq (pe_ix ix_tup (pv 3) pe_int (fun _ _ => rfl)) pe_str (nomark _)) (pw_and1 (pt_cmpR op_ge (pe_ix ix_tup (pv 3) pe_int (fun _ _ => rfl)) (pe_cal CFf hr (by omega) pass0 (pa_cons (pv 1) (pa_cons (pe_ix ix_tup (pv 3) pe_int (fun _ _ => rfl)) pa_nil))) (nomark _)))))))) (pss_one (ps_ret pe_bl)) pss_nil)
      (pss_one (ps_dput (hr1 hr) (pv 2) (pv 3) pe_bl rfl))))
      (pss_one (ps_ret pe_bl)))), ?_⟩
    refine seq_rd (asg_of fun D nD => ?_)
    have s0 := same_new (o := .dT []) (Same.refl H) nD
    have hD0 : (upd H D (.dT [])) D = some (.dT []) := upd_same
    generalize upd H D (.dT []) = H0 at s0 hD0 ⊢
    refine next_rd ?_
    dsimp only
    refine seq_rd ?_
    unfold tFor
    refine call_rd (va_cons (ve_var (v := .ref a) rfl) (va_cons (ve_var (v := .ref d) rfl) va_nil)) ⟨a, d, hv, hs, L, zs, fr, f, rfl, (ha.imp (s0 _ _) (s0 _ _)), hp.mono s0, hf.mono s0, few, fun q xs H1 s1 nq hq hx => ?_⟩
    refine ⟨q, rfl, ⟨_, SqL.of hq⟩, ?_⟩
    have f1 := (hf.mono s0).mono s1
    have len : xs.length = (hs ++ frs zs fr).length := hx.1
    have nDH : H D = none := nD
    refine for_list (xs := xs) (fun i σ H2 => ∃ v3 : Option V, σ = [some (.ref a), some (.ref d), some (.ref D), v3] ∧ Same H H2 ∧ H2 q = some (.lst xs) ∧ Ps H2 xs (hs ++ frs zs fr) ∧ H2 D = some (.dT (seenK ((hs ++ frs zs fr).take i))))
      ⟨none, rfl, s0.trans s1, hq, hx, s1 _ _ hD0⟩ (fun i σ H2 _ z => by
        obtain ⟨_, _, _, z, _⟩ := z
        exact SqL.of z) ?_ ?_
    · rintro i x σ H2 hi ⟨v3, rfl, s2, q2, x2, d2⟩
      obtain ⟨p, hp2, b, rfl, hb⟩ := x2.back hi
      have mp : p ∈ hs ++ frs zs fr := List.mem_of_getElem? hp2
      have new := nodup_at nd hp2
      refine gname_rd ?_
      have vp : ∀ {H5 : Hp}, VE (tVar 3) (.ref b) [some (.ref a), some (.ref d), some (.ref D), some (.ref b)] H5 := ve_var rfl
      have vD : ∀ {H5 : Hp}, VE (tVar 2) (.ref D) [some (.ref a), some (.ref d), some (.ref D), some (.ref b)] H5 := ve_var rfl
      have c1 : BE (tB (tDIn (tVar 3) (tVar 2))) false [some (.ref a), some (.ref d), some (.ref D), some (.ref b)] H2 := be_bv fun H3 s3 Q q => vp H3 (Same.refl _) _ (vD H3 (Same.refl _) _ ⟨D, _, rfl, DGet.t (k := plK p) (s3 _ _ d2) (by rw [← plV_key]; exact s3 _ _ hb), by
        rw [seenK_val, decide_eq_false new]
        exact q H3 (Same.refl _)⟩)
      have c2 : BE (tAnd (tTest (tOp rEq (tOp (rIxT K) (tVar 3) (tC (.int 0))) (tC (.str "pool")))) (tTest (tOp (rI0 fun i j => .bl (decide (j ≤ i))) (tOp (rIxT K) (tVar 3) (tC (.int 2))) (tCall spFf [] E (tCons (tVar 1) (tCons (tOp (rIxT K) (tVar 3) (tC (.int 1))) tNil)))))) false [some (.ref a), some (.ref d), some (.ref D), some (.ref b)] H2 := by
        cases p with
        | obj i =>
          have hb : H2 b = some (.tup [.str "object", nV i]) := hb
          exact be_to (be_and (c := false) (be_eqS (ve_ixT (n := 0) vp hb ve_c rfl) ve_c) fun z => absurd z (by decide +kernel)) (by decide +kernel)
        | pool s n =>
          have hb : H2 b = some (.tup [.str "pool", nV s, nV n]) := hb
          have lt := fresh s n mp
          refine be_to (be_and (c := false) (be_eqS (ve_ixT (n := 0) vp hb ve_c rfl) ve_c) fun _ => fun H3 s3 Q q => ?_) (by decide +kernel)
          refine (ve_ixT (n := 2) vp (s3 _ _ hb) ve_c rfl) H3 (Same.refl _) _ ?_
          refine call_rd (va_cons (ve_var (v := .ref d) rfl) (va_cons (ve_ixT (n := 1) vp (s3 _ _ hb) ve_c rfl) va_nil)) ⟨d, s, L, zs, fr, f, rfl, (hf.mono s2).mono s3, fun H4 s4 => ?_⟩
          refine ⟨_, _, rfl, rfl, _, rfl, ?_⟩
          rw [decide_eq_false (by omega)]
          exact q H4 s4
      refine seq_rd (if_be (be_or c1 fun _ => c2) fun H3 s3 => ⟨fun z => absurd z (by decide), fun _ => ?_⟩)
      refine next_rd ?_
      dsimp only
      refine ⟨.ref D, rfl, .ref b, rfl, D, _, rfl, DPut.t (k := plK p) (s3 _ _ d2) (by rw [← plV_key]; exact s3 _ _ hb) ?_, ?_⟩
      · unfold seenK
        rw [List.length_map, List.length_take, sizeLine_eq]
        rw [List.length_append]
        omega
      · have s4 : Same H (upd H3 D (.dT (putK (seenK ((hs ++ frs zs fr).take i)) (plK p) (.bl true)))) := same_updL (s2.trans s3) nDH
        refine ⟨_, rfl, s4, ?_, ⟨x2.1, fun j u e => ?_⟩, ?_⟩
        · rw [upd_ne (ne_of (s3 _ _ q2) (s3 _ _ d2) (fun z => nomatch z))]
          exact s3 _ _ q2
        · obtain ⟨v, e1, b2, e2, e3⟩ := x2.2 j u e
          exact ⟨v, e1, b2, e2, by rw [upd_ne (ne_of (s3 _ _ e3) (s3 _ _ d2) (fun z => nomatch z))]; exact s3 _ _ e3⟩
        · rw [upd_same, seenK_put new, start_drop _ _ _ hp2]
    · rintro σ H2 ⟨v3, rfl, s2, q2, x2, d2⟩
      exact k H2 s2
/-! ### shortened_heads -/
def spSh : Sp := fun vs H Q _ => ∃ (a : Addr) (hv : List V) (hs : List Pl), vs = [.ref a] ∧ H a = some (.lst hv) ∧ Ps H hv hs ∧ hs.length ≤ 100000 ∧ ∀ q xs H', Same H H' → H q = none → H' q = some (.tup xs) → Ps H' xs (hs.take (V1.stripH hs hs.length)) → Q (.ref q) H'
theorem sc_shortened_heads : FnScope ["heads", "length"] ["heads"] (defScope (top 22)) := ⟨rfl, rfl, rfl, by decide +kernel, rfl, by decide +kernel, by decide +kernel⟩
theorem ok_shortened_heads {f : Addr} {fd : FuncData} (F : Fun K "shortened_heads" "shortened_heads" (top 22) f fd) (B : Bl3 mg) : FnOk P w K mg base CX0 1 f fd ["heads"] spSh := by
  refine F.ok sc_shortened_heads (fun vs H Q E h => ?_) (fun cdv A outer s H vs Q E hr h => ?_)
  · obtain ⟨a, hv, hs, rfl, _⟩ := h
    rfl
  · obtain ⟨a, hv, hs, rfl, ha, hp, few, k⟩ := h
    refine ⟨_, (pss_cons (ps_set (i := 1) sc_shortened_heads.nd rfl (Or.inl rfl) (pe_callB call_len_seq rfl B.len PySem.boot_len (pa_cons (pv 0) pa_nil)))
      (pss_cons (ps_while PassesOwn.never (PW.pt (pw_and (pt_cmpR op_gt (pv 1) pe_int (nomark _)) (pw_and1 (pt_cmpR (op_eqD hr.units) (pe_ix ix_list (pv 0) (pe_op op_sub (pv 1) pe_int) (fun _ _ => rfl)) (pe_tup (pa_cons pe_str (pa_cons (pe_op op_sub (pv 1) pe_int) pa_nil))) (nomark _)))))
        (pss_one (ps_aug (i := 1) sc_shortened_heads.nd rfl (Or.inl rfl) pe_int iop_sub)))
      (pss_one (ps_ret (pe_callTy (r := rTof K) call_tuple_of rfl B.tuple PyProof.Rows.boot_tuple (pa_cons (pe_slice sl_list (pv 0) po_none (po_some (pv 1))) pa_nil)))))), ?_⟩
    refine seq_rd (set_v (ve_lenL (ve_var (v := .ref a) rfl) ha) ?_)
    refine next_rd ?_
    dsimp only
    rw [hp.1]
    refine seq_rd (while_be (fun m σ H1 => σ = [some (.ref a), some (nV m)] ∧ Same H H1 ∧ m ≤ hs.length ∧ V1.stripH hs m = V1.stripH hs hs.length) hs.length ⟨rfl, Same.refl _, Nat.le_refl _, rfl⟩ ?_)
    rintro m σ H1 ⟨rfl, s1, hm, st⟩
    have vl : ∀ {H5 : Hp}, VE (tVar 1) (nV m) [some (.ref a), some (nV m)] H5 := ve_var rfl
    have cA : BE (tTest (tOp (rI0 fun i j => .bl (decide (j < i))) (tVar 1) (tC (.int 0)))) (decide (0 < m)) [some (.ref a), some (nV m)] H1 := be_gtN (j := 0) vl ve_c
    have cB : ∀ n p v, m = n + 1 → hs[n]? = some p → hv[n]? = some v → PlAt H1 v p → BE (tTest (tOp (rEqD K) (tOp (rIxL K) (tVar 0) (tOp (rI0 fun i j => .int (i - j)) (tVar 1) (tC (.int 1)))) (tTup (tCons (tC (.str "object")) (tCons (tOp (rI0 fun i j => .int (i - j)) (tVar 1) (tC (.int 1))) tNil))))) (decide (p = .obj n)) [some (.ref a), some (nV m)] H1 := by
      rintro n p v rfl hp2 hv2 pa
      have vm : ∀ {H5 : Hp}, VE (tOp (rI0 fun i j => .int (i - j)) (tVar 1) (tC (.int 1))) (nV n) [some (.ref a), some (nV (n + 1))] H5 := ve_subN (j := 1) vl ve_c (by omega)
      rw [← eqv_obj]
      refine be_eq (d := plD p) (dt_v (ve_ixL (ve_var (v := .ref a) rfl) (s1 _ _ ha) vm hv2) fun H2 s2 => by rw [hid_nil]; exact (pa.mono s2).at_) (dt_tup live_nil (dt_cons (dt_str strO) (dt_cons (dt_int vm) dt_nil)) (by show 2 ≤ sizeLine; decide)) (plD_ok p).1 (plD_ok (.obj n)).1 (plD_ok p).2 (plD_ok (.obj n)).2
    by_cases m0 : m = 0
    · refine ⟨false, be_to (be_and (c := false) cA fun z => by rw [decide_eq_false (by omega)] at z; cases z) (by rw [decide_eq_false (by omega)]; rfl), fun H2 s2 => ⟨fun z => absurd z (by decide), fun _ => ?_⟩⟩
      refine ret_of (tcb_rd (cons_rd (to_rd (ve_var (v := .ref a) rfl) (s2 _ _ (s1 _ _ ha)) vl fun p np s3 => ⟨p, _, rfl, .inl ⟨SqL.of upd_same, fun l nl => ?_⟩⟩)))
      refine k l _ _ ((s1.trans s2).trans (same_new s3 nl)) ((s1.trans s2).free (s3.free nl)) upd_same ?_
      rw [← st, m0]
      exact ⟨rfl, fun i p e => by cases e⟩
    · obtain ⟨n, rfl⟩ : ∃ n, m = n + 1 := ⟨m - 1, by omega⟩
      obtain ⟨p, hp2⟩ : ∃ p, hs[n]? = some p := ⟨_, List.getElem?_eq_getElem (by omega)⟩
      obtain ⟨v, hv2, pa⟩ := hp.2 n p hp2
      refine ⟨_, be_and cA fun _ => cB n p v rfl hp2 hv2 (pa.mono s1), fun H2 s2 => ⟨fun z => ?_, fun z => ?_⟩⟩
      · rw [decide_eq_true (show 0 < n + 1 by omega), Bool.true_and] at z
        have z := of_decide_eq_true z
        refine ⟨nV (n + 1), rfl, (n + 1 : Nat), 1, rfl, rfl, n, by omega, ?_, s1.trans s2, by omega, ?_⟩
        · show [some (V.ref a), some (.int (((n + 1 : Nat) : Int) - 1))] = _
          rw [show ((n + 1 : Nat) : Int) - 1 = (n : Nat) by omega]
          rfl
        · rw [← st, V1.stripH, if_pos (by rw [hp2, z])]
      · rw [decide_eq_true (show 0 < n + 1 by omega), Bool.true_and] at z
        have z := of_decide_eq_false z
        refine ret_of (tcb_rd (cons_rd (to_rd (ve_var (v := .ref a) rfl) (s2 _ _ (s1 _ _ ha)) vl fun q np s3 => ⟨q, _, rfl, .inl ⟨SqL.of upd_same, fun l nl => ?_⟩⟩)))
        have s4 := (s1.trans s2).trans (same_new (o := .tup (hv.take (n + 1))) s3 nl)
        refine k l _ _ s4 ((s1.trans s2).free (s3.free nl)) upd_same ?_
        rw [← st, V1.stripH, if_neg (by rw [hp2]; exact fun e => z (Option.some.inj e))]
        exact (hp.take (n + 1)).mono s4
end

end K1

set_option Elab.async false
set_option linter.all false
set_option maxRecDepth 100000
set_option maxHeartbeats 4000000
namespace K1
open PySem L2 W1
/-! ### shortened_fronts -/
def shF (fr : Nat → List Pl) (f : Nat → Nat) (s : Nat) : Nat × Nat := V1.stripF s (fr s) (fr s).length (f s)
def frS (fr : Nat → List Pl) (f : Nat → Nat) (s : Nat) : List Pl := (fr s).take (shF fr f s).1
def fS (fr : Nat → List Pl) (f : Nat → Nat) (s : Nat) : Nat := (shF fr f s).2
def nontr (fr : Nat → List Pl) (f : Nat → Nat) (s : Nat) : Bool := decide (0 < (shF fr f s).2) || decide (0 < (shF fr f s).1)
theorem stripF_le {s : Nat} {h : List Pl} : ∀ {m f : Nat}, (V1.stripF s h m f).1 ≤ m
  | 0, _ => Nat.le_refl _
  | m + 1, f => by
    unfold V1.stripF
    split
    · exact Nat.le_succ_of_le stripF_le
    · exact Nat.le_refl _
theorem sort_nat {zs : List Nat} {ns : List Int} (nd : zs.Nodup) (p : ns.Perm (zs.map fun (s : Nat) => (s : Int))) (o : ns.Pairwise (· ≤ ·)) : ∃ ys : List Nat, ns = ys.map (fun (s : Nat) => (s : Int)) ∧ ys.Perm zs ∧ ys.Pairwise (· < ·) := by
  have all : ∀ x ∈ ns, ∃ s : Nat, x = (s : Int) := fun x m => by
    obtain ⟨s, _, e⟩ := List.mem_map.mp (p.mem_iff.mp m)
    exact ⟨s, e.symm⟩
  have e : ns = (ns.map Int.toNat).map (fun (s : Nat) => (s : Int)) := by
    rw [List.map_map]
    conv => lhs; rw [← List.map_id ns]
    apply List.map_congr_left
    intro x m
    obtain ⟨s, rfl⟩ := all x m
    rfl
  have q : (ns.map Int.toNat).Perm zs := by
    have := p.map Int.toNat
    rw [List.map_map] at this
    have i : zs.map (Int.toNat ∘ fun (s : Nat) => (s : Int)) = zs := by
      conv => rhs; rw [← List.map_id zs]
      rfl
    rw [i] at this
    exact this
  refine ⟨ns.map Int.toNat, e, q, ?_⟩
  have nd' := q.nodup_iff.mpr nd
  rw [e, List.pairwise_map] at o
  have o2 : (ns.map Int.toNat).Pairwise (fun a b => a ≤ b) := o.imp fun h => by omega
  have := List.Pairwise.and o2 nd'
  exact this.imp fun ⟨h1, h2⟩ => by omega
theorem shaped_pool (s : Nat) (j : Int) : SeqAt.shaped (.tuple [.str "pool", .int (s : Nat), .int j]) = true := by
  unfold SeqAt.shaped
  rw [PyData.canLay0, PyData.canLayAll0, PyData.canLayAll0, PyData.canLayAll0, PyData.canLayAll0]
  simp [PyData.canLay0, PyData.depth, PyData.depthAll]
  decide +kernel
def spSf : Sp := fun vs H Q _ => ∃ (d : Addr) (zs : List Nat) (fr : Nat → List Pl) (f : Nat → Nat), vs = [.ref d] ∧ FrG true H d zs fr f ∧ zs.Nodup ∧ (∀ s ∈ zs, 1 ≤ s ∧ s ≤ 8) ∧ zs.length < 64 ∧ (∀ s ∈ zs, (fr s).length ≤ 100000) ∧
  ∀ D ys H', Same H H' → H D = none → ys.Pairwise (· < ·) → (∀ s, s ∈ ys ↔ s ∈ zs ∧ nontr fr f s = true) → FrG false H' D ys (frS fr f) (fS fr f) → Q (.ref D) H'
theorem FrC.put {L : Bool} {H : Hp} {zs : List Nat} {t : Nat → Addr} {fr : Nat → List Pl} {f : Nat → Nat} {s : Nat} {T q : Addr} {xs : List V} (h : FrC L H zs t fr f) (nz : s ∉ zs) (h1 : H T = some (.tup [.ref q, nV (f s)])) (h2 : Sq L H q xs) (h3 : Ps H xs (fr s)) : FrC L H (zs ++ [s]) (fun u => if u = s then T else t u) fr f := ⟨fun u m => by
  by_cases c : u = s
  · subst c
    rw [if_pos rfl]
    exact ⟨q, xs, h1, h2, h3⟩
  · rw [if_neg c]
    refine h.each u ?_
    rcases List.mem_append.mp m with m | m
    · exact m
    · exact (c (List.mem_singleton.mp m)).elim⟩
theorem FrC.updD {H : Hp} {zs : List Nat} {t : Nat → Addr} {fr : Nat → List Pl} {f : Nat → Nat} {D : Addr} {ks : List (Key × V)} {o : HO} (h : FrC false H zs t fr f) (hD : H D = some (.dK ks)) : FrC false (upd H D o) zs t fr f := ⟨fun u m => by
  obtain ⟨q, xs, e1, e2, e3⟩ := h.each u m
  have ne : ∀ {b : Addr} {ys : List V}, H b = some (.tup ys) → b ≠ D := fun {b ys} z e => by rw [e, hD] at z; cases z
  exact ⟨q, xs, by rw [upd_ne (ne e1)]; exact e1, by have e2 : H q = some (.tup xs) := e2; show (upd H D o) q = _; rw [upd_ne (ne e2)]; exact e2, e3.1, fun i p e => by
    obtain ⟨v, z1, b, z2, z3⟩ := e3.2 i p e
    exact ⟨v, z1, b, z2, by rw [upd_ne (ne z3)]; exact z3⟩⟩⟩
section
variable {P : Program} {w : World} {K : PySem.W.Frag} {mg : Str → Option Value} {base : Heap}
theorem sc_shortened_fronts : FnScope ["fronts", "pools", "size", "front", "fresh", "length"] ["fronts"] (defScope (top 23)) := ⟨rfl, rfl, rfl, by decide +kernel, rfl, by decide +kernel, by decide +kernel⟩
theorem ok_shortened_fronts {f : Addr} {fd : FuncData} (F : Fun K "shortened_fronts" "shortened_fronts" (top 23) f fd) (B : Bl3 mg) : FnOk P w K mg base CX0 1 f fd ["fronts"] spSf := by
  refine F.ok sc_shortened_fronts (fun vs H Q E h => ?_) (fun cdv A outer s H vs Q E hr h => ?_)
  · obtain ⟨d, zs, fr, f, rfl, _⟩ := h
    rfl
  · obtain ⟨d, zs, fr, f, rfl, ⟨t0, hd, hc⟩, nd, hz, z64, few, k⟩ := h
    refine ⟨_, (pss_cons (ps_set (i := 1) sc_shortened_fronts.nd rfl (Or.inl rfl) pe_dnewK)
      (pss_cons (ps_for PassesOwn.never rfl (pi_list (pe_callB (call_sortedDI rfl) rfl B.sorted (by decide +kernel) (pa_cons (pv 0) pa_nil))) (pg_name (i := 2) sc_shortened_fronts.nd rfl (Or.inl rfl))
        (pss_cons (ps_asg (pe_dget (hr1 hr) (pv 0) (pv 2) (fun _ _ => rfl)) (pg_tup rfl (pgs_cons (pg_name (i := 3) sc_shortened_fronts.nd rfl (Or.inl rfl)) (pgs_cons (pg_name (i := 4) sc_shortened_fronts.nd rfl (Or.inl rfl)) pgs_nil))))
      (pss_cons (ps_set (i := 5) sc_shortened_fronts.nd rfl (Or.inl rfl) (pe_callB call_len_seq rfl B.len PySem.boot_len (pa_cons (pv 3) pa_nil)))
      (pss_cons (ps_while PassesOwn.never (PW.pt (pw_and (pt_cmpR op_gt (pv 5) pe_int (nomark _)) (pw_and1 (pt_cmpR (op_eqD hr.units) (pe_ix ix_list (pv 3) (pe_op op_sub (pv 5) pe_int) (fun _ _ => rfl)) (pe_tup (pa_cons pe_str (pa_cons (pv 2) (pa_cons (pe_op op_sub (pv 4) pe_int) pa_nil)))) (nomark _)))))
        (pss_cons (ps_aug (i := 5) sc_shortened_fronts.nd rfl (Or.inl rfl) pe_int iop_sub)
      (pss_one (ps_aug (i := 4) sc_shortened_fronts.nd rfl (Or.inl rfl) pe_int iop_sub))))
      (pss_one (ps_if (PW.pt (pw_or (pt_cmpR op_gt (pv 4) pe_int (nomark _)) (pw_or1 (pt_cmpR op_gt (pv 5) pe_int (nomark _))))) (pss_one (ps_dput (hr1 hr) (pv 1) (pv 2) (pe_tup (pa_cons (pe_callTy (r := rTof K) call_tuple_of rfl B.tuple PyProof.Rows.boot_tuple (pa_cons (pe_slice sl_list (pv 3) po_none (po_some (pv 5))) pa_nil)) (pa_cons (pv 4) pa_nil))) rfl)) pss_nil))))))
      (pss_one (ps_ret (pv 1))))), ?_⟩
    refine seq_rd (asg_of fun D nD => ?_)
    have s0 := same_new (o := .dK []) (Same.refl H) nD
    have hD0 : (upd H D (.dK [])) D = some (.dK []) := upd_same
    have hdD : d ≠ D := ne_of_none hd nD
    generalize upd H D (.dK []) = H0 at s0 hD0 ⊢
    refine next_rd ?_
    dsimp only
    refine seq_rd ?_
    unfold tFor
    refine cb_rd (va_cons (ve_var (v := .ref d) rfl) va_nil) ⟨d, _, zs.map (fun (s : Nat) => (s : Int)), rfl, .inl (s0 _ _ hd), (by rw [kvz_keys, List.map_map]; rfl), (by rw [List.length_map]; exact z64), fun ns q perm rising nq => ?_⟩
    obtain ⟨ys, rfl, py, oy⟩ := sort_nat nd perm rising
    have s1 := same_new (o := .lst ((ys.map (fun (s : Nat) => (s : Int))).map V.int)) s0 nq
    have hq1 : (upd H0 q (.lst ((ys.map (fun (s : Nat) => (s : Int))).map V.int))) q = some (.lst ((ys.map (fun (s : Nat) => (s : Int))).map V.int)) := upd_same
    have hD1 : (upd H0 q (.lst ((ys.map (fun (s : Nat) => (s : Int))).map V.int))) D = some (.dK []) := by
      rw [upd_ne (ne_of_none hD0 nq)]
      exact hD0
    generalize upd H0 q (.lst ((ys.map (fun (s : Nat) => (s : Int))).map V.int)) = H1 at s1 hq1 hD1 ⊢
    refine ⟨q, rfl, ⟨_, SqL.of hq1⟩, ?_⟩
    have keepN : ∀ {us : List Nat}, us.Nodup → (us.filter (nontr fr f)).Nodup := fun h => h.filter _
    have ndy : ys.Nodup := py.nodup_iff.mpr nd
    refine for_list (xs := (ys.map (fun (s : Nat) => (s : Int))).map V.int) (fun i σ H2 => ∃ (v2 v3 v4 v5 : Option V) (t : Nat → Addr), σ = [some (.ref d), some (.ref D), v2, v3, v4, v5] ∧ Same H H2 ∧ H2 q = some (.lst ((ys.map (fun (s : Nat) => (s : Int))).map V.int)) ∧ H2 D = some (.dK (kvz ((ys.take i).filter (nontr fr f)) t)) ∧ FrC false H2 ((ys.take i).filter (nontr fr f)) t (frS fr f) (fS fr f))
      ⟨none, none, none, none, t0, rfl, s1, hq1, hD1, ⟨fun s m => by cases m⟩⟩ (fun i σ H2 _ z => by
        obtain ⟨_, _, _, _, _, _, _, z, _⟩ := z
        exact SqL.of z) ?_ ?_
    · rintro i x σ H2 hi ⟨v2, v3, v4, v5, t, rfl, s2, q2, d2, c2⟩
      obtain ⟨s, hs, rfl⟩ : ∃ s : Nat, ys[i]? = some s ∧ x = nV s := by
        rw [List.getElem?_map, List.getElem?_map] at hi
        cases e : ys[i]? with
        | none => rw [e] at hi; cases hi
        | some s => rw [e] at hi; cases hi; exact ⟨s, rfl, rfl⟩
      have ms : s ∈ zs := py.mem_iff.mp (List.mem_of_getElem? hs)
      obtain ⟨qf, xs, e1, e2, e3⟩ := (hc.mono s2).each s ms
      have e2 : H2 qf = some (.lst xs) := e2
      have ls := few s ms
      refine gname_rd ?_
      refine seq_rd (asgT ((ve_dget (w := t0) (ve_var (v := .ref d) rfl) (ve_var (v := nV s) rfl) (.inl (s2 _ _ hd)) ms) H2 (Same.refl _) _ (pair2_rd e1 ?_)))
      refine next_rd ?_
      dsimp only
      refine seq_rd (set_v (ve_lenL (ve_var (v := .ref qf) rfl) e2) ?_)
      refine next_rd ?_
      dsimp only
      rw [e3.1]
      refine seq_rd (while_be (fun m σ H3 => ∃ g : Nat, σ = [some (.ref d), some (.ref D), some (nV s), some (.ref qf), some (nV g), some (nV m)] ∧ Same H2 H3 ∧ m ≤ (fr s).length ∧ V1.stripF s (fr s) m g = shF fr f s) (fr s).length ⟨f s, rfl, Same.refl _, Nat.le_refl _, rfl⟩ ?_)
      rintro m σ H3 ⟨g, rfl, s3, hm, st⟩
      have vl : ∀ {H5 : Hp}, VE (tVar 5) (nV m) [some (.ref d), some (.ref D), some (nV s), some (.ref qf), some (nV g), some (nV m)] H5 := ve_var rfl
      have vg : ∀ {H5 : Hp}, VE (tVar 4) (nV g) [some (.ref d), some (.ref D), some (nV s), some (.ref qf), some (nV g), some (nV m)] H5 := ve_var rfl
      have cA : BE (tTest (tOp (rI0 fun i j => .bl (decide (j < i))) (tVar 5) (tC (.int 0)))) (decide (0 < m)) [some (.ref d), some (.ref D), some (nV s), some (.ref qf), some (nV g), some (nV m)] H3 := be_gtN (j := 0) vl ve_c
      have fin : ∀ D0 : Ends, (∀ σ' H', (∃ (v2 v3 v4 v5 : Option V) (t : Nat → Addr), σ' = [some (.ref d), some (.ref D), v2, v3, v4, v5] ∧ Same H H' ∧ H' q = some (.lst ((ys.map (fun (s : Nat) => (s : Int))).map V.int)) ∧ H' D = some (.dK (kvz ((ys.take (i + 1)).filter (nontr fr f)) t)) ∧ FrC false H' ((ys.take (i + 1)).filter (nontr fr f)) t (frS fr f) (fS fr f)) → D0.nx σ' H') →
          V1.stripF s (fr s) m g = (m, g) → ∀ H4, Same H3 H4 → tIfS (tOr (tTest (tOp (rI0 fun i j => .bl (decide (j < i))) (tVar 4) (tC (.int 0)))) (tTest (tOp (rI0 fun i j => .bl (decide (j < i))) (tVar 5) (tC (.int 0))))) (tSeq (sDPut (tVar 1) (tVar 2) (tTup (tCons (tCB (rTof K) (tCons (tSl (rSlL K) (tVar 3) tNoPart (tPart (tVar 5))) tNil)) (tCons (tVar 4) tNil)))) tNext) tNext
          D0 [some (.ref d), some (.ref D), some (nV s), some (.ref qf), some (nV g), some (nV m)] H4 := fun D0 kd sm H4 s4 => by
        have sh : shF fr f s = (m, g) := st.symm.trans sm
        have vl : ∀ {H5 : Hp}, VE (tVar 5) (nV m) [some (.ref d), some (.ref D), some (nV s), some (.ref qf), some (nV g), some (nV m)] H5 := ve_var rfl
        have vg : ∀ {H5 : Hp}, VE (tVar 4) (nV g) [some (.ref d), some (.ref D), some (nV s), some (.ref qf), some (nV g), some (nV m)] H5 := ve_var rfl
        have s24 := s3.trans s4
        have nt : nontr fr f s = (decide (0 < g) || decide (0 < m)) := by
          unfold nontr
          rw [sh]
        have tk := start_drop _ _ _ hs
        refine if_be (be_or (be_gtN (j := 0) vg ve_c) fun _ => be_gtN (j := 0) vl ve_c) fun H5 s5 => ⟨fun z => ?_, fun z => ?_⟩
        · rw [← nt] at z
          have s25 := s24.trans s5
          refine seq_rd ?_
          refine ttup_rd (tcons_rd (tcb_rd (cons_rd (to_rd (ve_var (v := .ref qf) rfl) (s25 _ _ e2) vl fun p np s6 => ⟨p, _, rfl, .inl ⟨SqL.of upd_same, fun T nT => ?_⟩⟩))))
          have s7 := same_new (o := .tup (xs.take m)) s6 nT
          have hT : (upd (upd H5 p (.lst (xs.take m))) T (.tup (xs.take m))) T = some (.tup (xs.take m)) := upd_same
          generalize upd (upd H5 p (.lst (xs.take m))) T (.tup (xs.take m)) = H7 at s7 hT ⊢
          refine cons_rd (vg H7 (Same.refl _) _ ?_)
          refine ⟨by show 2 ≤ sizeLine; decide, fun U nU => ?_⟩
          have s8 := same_new (o := .tup [.ref T, nV g]) (Same.refl H7) nU
          have hU : (upd H7 U (.tup [.ref T, nV g])) U = some (.tup [.ref T, nV g]) := upd_same
          generalize upd H7 U (.tup [.ref T, nV g]) = H8 at s8 hU ⊢
          have s28 := (s25.trans s7).trans s8
          have d8 := s28 _ _ d2
          have new : s ∉ (ys.take i).filter (nontr fr f) := fun m => nodup_at ndy hs (List.mem_filter.mp m).1
          refine ⟨.ref D, rfl, nV s, rfl, D, _, rfl, DPut.k (k := Sum.inl (s : Int)) d8 ?_, ?_⟩
          · rw [kvz_len]
            have h1 := List.length_filter_le (nontr fr f) (ys.take i)
            rw [List.length_take] at h1
            have h2 := py.length_eq
            rw [sizeLine_eq]
            omega
          · rw [kvz_put new]
            have ef : (ys.take (i + 1)).filter (nontr fr f) = (ys.take i).filter (nontr fr f) ++ [s] := by
              rw [tk, List.filter_append]
              simp [z]
            refine next_rd (kd _ _ ⟨_, _, _, _, fun u => if u = s then U else t u, rfl, same_updL (s2.trans s28) nD, ?_, ?_, ?_⟩)
            · rw [upd_ne (ne_of (s28 _ _ q2) d8 (fun z => nomatch z))]
              exact s28 _ _ q2
            · rw [upd_same, ef]
            · rw [ef]
              refine FrC.updD (ks := kvz ((ys.take i).filter (nontr fr f)) t) ?_ d8
              refine (c2.mono s28).put (q := T) (xs := xs.take m) new ?_ (s8 _ _ hT) ?_
              · show H8 U = some (.tup [.ref T, nV (fS fr f s)])
                unfold fS
                rw [sh]
                exact hU
              · unfold frS
                rw [sh]
                exact ((e3.mono s28).take m)
        · rw [← nt] at z
          have s25 := s24.trans s5
          have ef : (ys.take (i + 1)).filter (nontr fr f) = (ys.take i).filter (nontr fr f) := by
            rw [tk, List.filter_append]
            simp [z]
          refine next_rd (kd _ _ ⟨_, _, _, _, t, rfl, s2.trans s25, s25 _ _ q2, by rw [ef]; exact s25 _ _ d2, by rw [ef]; exact c2.mono s25⟩)
      by_cases m0 : m = 0
      · refine ⟨false, be_to (be_and (c := false) cA fun z => by rw [decide_eq_false (by omega)] at z; cases z) (by rw [decide_eq_false (by omega)]; rfl), fun H4 s4 => ⟨fun z => absurd z (by decide), fun _ => ?_⟩⟩
        exact fin _ (fun σ' H' z => z) (by rw [m0]; rfl) H4 s4
      · obtain ⟨n, rfl⟩ : ∃ n, m = n + 1 := ⟨m - 1, by omega⟩
        obtain ⟨p, hp2⟩ : ∃ p, (fr s)[n]? = some p := ⟨_, List.getElem?_eq_getElem (by omega)⟩
        obtain ⟨v, hv2, pa⟩ := e3.2 n p hp2
        have vm : ∀ {H5 : Hp}, VE (tOp (rI0 fun i j => .int (i - j)) (tVar 5) (tC (.int 1))) (nV n) [some (.ref d), some (.ref D), some (nV s), some (.ref qf), some (nV g), some (nV (n + 1))] H5 := ve_subN (j := 1) vl ve_c (by omega)
        have vg1 : ∀ {H5 : Hp}, VE (tOp (rI0 fun i j => .int (i - j)) (tVar 4) (tC (.int 1))) (.int ((g : Int) - 1)) [some (.ref d), some (.ref D), some (nV s), some (.ref qf), some (nV g), some (nV (n + 1))] H5 := ve_sub vg ve_int
        have cB : BE (tTest (tOp (rEqD K) (tOp (rIxL K) (tVar 3) (tOp (rI0 fun i j => .int (i - j)) (tVar 5) (tC (.int 1)))) (tTup (tCons (tC (.str "pool")) (tCons (tVar 2) (tCons (tOp (rI0 fun i j => .int (i - j)) (tVar 4) (tC (.int 1))) tNil)))))) (decide (0 ≤ (g : Int) - 1) && decide (p = .pool s ((g : Int) - 1).toNat)) [some (.ref d), some (.ref D), some (nV s), some (.ref qf), some (nV g), some (nV (n + 1))] H3 := by
          rw [← eqv_pool]
          refine be_eq (d := plD p) (dt_v (ve_ixL (ve_var (v := .ref qf) rfl) (s3 _ _ e2) vm hv2) fun H2 s2 => by rw [hid_nil]; exact ((pa.mono s3).mono s2).at_) (dt_tup live_nil (dt_cons (dt_str strP) (dt_cons (dt_int (ve_var rfl)) (dt_cons (dt_int vg1) dt_nil))) (by show 3 ≤ sizeLine; decide)) (plD_ok p).1 rfl (plD_ok p).2 (shaped_pool _ _)
        refine ⟨_, be_and cA fun _ => cB, fun H4 s4 => ⟨fun z => ?_, fun z => ?_⟩⟩
        · rw [decide_eq_true (show 0 < n + 1 by omega), Bool.true_and, Bool.and_eq_true] at z
          have z1 := of_decide_eq_true z.1
          have z2 := of_decide_eq_true z.2
          obtain ⟨e, rfl⟩ : ∃ e, g = e + 1 := ⟨g - 1, by omega⟩
          rw [show (((e + 1 : Nat) : Int) - 1).toNat = e by omega] at z2
          refine seq_rd ⟨nV (n + 1), rfl, (n + 1 : Nat), 1, rfl, rfl, ?_⟩
          refine next_rd ?_
          refine seq_rd ⟨nV (e + 1), rfl, (e + 1 : Nat), 1, rfl, rfl, ?_⟩
          refine next_rd ⟨n, by omega, e, ?_, s3.trans s4, by omega, ?_⟩
          · show [_, _, _, _, some (V.int (((e + 1 : Nat) : Int) - 1)), some (.int (((n + 1 : Nat) : Int) - 1))] = _
            rw [show ((n + 1 : Nat) : Int) - 1 = (n : Nat) by omega, show ((e + 1 : Nat) : Int) - 1 = (e : Nat) by omega]
            rfl
          · rw [← st, V1.stripF, if_pos ⟨by omega, by rw [hp2, z2]; rfl⟩]
            rfl
        · rw [decide_eq_true (show 0 < n + 1 by omega), Bool.true_and] at z
          refine fin _ (fun σ' H' z => z) ?_ H4 s4
          rw [V1.stripF, if_neg]
          rintro ⟨g0, e⟩
          rw [hp2] at e
          have e := Option.some.inj e
          rw [decide_eq_true (show 0 ≤ (g : Int) - 1 by omega), Bool.true_and] at z
          refine of_decide_eq_false z ?_
          rw [e, show ((g : Int) - 1).toNat = g - 1 by omega]
    · rintro σ H2 ⟨v2, v3, v4, v5, t, rfl, s2, q2, d2, c2⟩
      rw [List.length_map, List.length_map, List.take_length] at d2 c2
      refine ⟨_, rfl, k D (ys.filter (nontr fr f)) H2 s2 nD (oy.filter _) (fun s => ?_) ⟨t, d2, c2⟩⟩
      rw [List.mem_filter, py.mem_iff]
end

end K1

set_option Elab.async false
set_option linter.all false
set_option maxRecDepth 100000
set_option maxHeartbeats 4000000
namespace K1
open PySem L2 W1
theorem tc_rd {v : V} {σ : St} {H : Hp} {Q : VK} (h : Q v H) : tC v σ H Q := h
theorem tvar_rd {i : Nat} {v : V} {σ : St} {H : Hp} {Q : VK} (e : σ[i]? = some (some v)) (h : Q v H) : tVar i σ H Q := ⟨v, e, h⟩
section
variable {K : PySem.W.Frag} {a d : Addr} {xs : List V} {g : TG} {tb : TS} {D : Ends} {σ : St} {H : Hp} {t : TE} {ta : TA}
theorem forE (h : VA ta [.ref a] σ H) (ha : H a = some (.tup xs)) (Pv : Nat → St → Hp → Prop) (h0 : Pv 0 σ H) (hl : ∀ i σ H, i ≤ xs.length → Pv i σ H → SqT K H a xs)
    (hs : ∀ i x σ H T, xs[i]? = some x → Pv i σ H → H T = none → g (.ref T) σ (upd H T (.tup [.int (i : Nat), x])) fun σ2 H2 => tb { D with nx := Pv (i + 1), ct := Pv (i + 1), bk := D.nx } σ2 H2) (hd : ∀ σ H, Pv xs.length σ H → D.nx σ H) : tFor (iEnumT K ta) g tb D σ H :=
  h H (Same.refl _) _ ⟨a, xs, rfl, SqT.of ha, for_enumT Pv h0 hl hs hd⟩
theorem forL (h : VE t (.ref a) σ H) (ha : H a = some (.lst xs)) (Pv : Nat → St → Hp → Prop) (h0 : Pv 0 σ H) (hl : ∀ i σ H, i ≤ xs.length → Pv i σ H → SqL K H a xs)
    (hs : ∀ i x σ H, xs[i]? = some x → Pv i σ H → g x σ H fun σ2 H2 => tb { D with nx := Pv (i + 1), ct := Pv (i + 1), bk := D.nx } σ2 H2) (hd : ∀ σ H, Pv xs.length σ H → D.nx σ H) : tFor (iList K t) g tb D σ H :=
  h H (Same.refl _) _ ⟨a, rfl, ⟨xs, SqL.of ha⟩, for_list Pv h0 hl hs hd⟩
end
section
variable {P : Program} {w : World} {K : PySem.W.Frag} {mg : Str → Option Value} {base : Heap}
/-! ### goals_in -/
def lastG (L : List (Pl × Pl)) (p : Pl) : Option Pl := (L.reverse.find? fun x => decide (x.1 = p)).map (·.2)
theorem lastG_nil {p : Pl} : lastG [] p = none := rfl
theorem lastG_snoc {L : List (Pl × Pl)} {q e p : Pl} : lastG (L ++ [(q, e)]) p = if p = q then some e else lastG L p := by
  unfold lastG
  rw [List.reverse_append]
  show ((List.find? _ ((q, e) :: L.reverse)).map _) = _
  rw [List.find?_cons]
  by_cases c : p = q
  · subst c
    rw [decide_eq_true rfl, if_pos rfl]
    rfl
  · rw [decide_eq_false (fun z => c z.symm), if_neg c]
def endsH (hs : List Pl) (n : Nat) : List (Pl × Pl) := (List.range n).filterMap fun i => (hs[i]?).map fun p => (p, V1.Pl.obj i)
def endsP (s : Nat) (fs : List Pl) (n : Nat) : List (Pl × Pl) := (List.range n).filterMap fun i => (fs[i]?).map fun p => (p, V1.Pl.pool s i)
theorem endsH_succ {hs : List Pl} {n : Nat} {p : Pl} (h : hs[n]? = some p) : endsH hs (n + 1) = endsH hs n ++ [(p, .obj n)] := by
  unfold endsH
  rw [List.range_succ, List.filterMap_append]
  congr 1
  simp [h]
theorem endsP_succ {s : Nat} {fs : List Pl} {n : Nat} {p : Pl} (h : fs[n]? = some p) : endsP s fs (n + 1) = endsP s fs n ++ [(p, .pool s n)] := by
  unfold endsP
  rw [List.range_succ, List.filterMap_append]
  congr 1
  simp [h]
def endsL (hs : List Pl) (zs : List Nat) (fr : Nat → List Pl) : List (Pl × Pl) := endsH hs hs.length ++ zs.flatMap fun s => endsP s (fr s) (fr s).length
structure GV (H : Hp) (kvs : List (List Key × V)) (L : List (Pl × Pl)) : Prop where
  no : ∀ p, lastG L p = none → valV kvs (plK p) = none
  yes : ∀ p e, lastG L p = some e → ∃ b, valV kvs (plK p) = some (.ref b) ∧ H b = some (.tup (plV e))
theorem GV.nil {H : Hp} : GV H [] [] := ⟨fun _ _ => rfl, fun p e z => by cases z⟩
theorem GV.mono {H H' : Hp} {kvs : List (List Key × V)} {L : List (Pl × Pl)} (h : GV H kvs L) (s : Same H H') : GV H' kvs L := ⟨h.no, fun p e z => by
  obtain ⟨b, e1, e2⟩ := h.yes p e z
  exact ⟨b, e1, s _ _ e2⟩⟩
theorem GV.fm {S : Addr → Prop} {H H' : Hp} {kvs : List (List Key × V)} {L : List (Pl × Pl)} (h : GV H kvs L) (s : Fm S H H') : GV H' kvs L := ⟨h.no, fun p e z => by
  obtain ⟨b, e1, e2⟩ := h.yes p e z
  exact ⟨b, e1, s.tup e2⟩⟩
theorem GV.upd' {H : Hp} {kvs : List (List Key × V)} {L : List (Pl × Pl)} {g : Addr} {o o' : HO} (h : GV H kvs L) (hg : H g = some o') (n : ∀ xs, o' ≠ .tup xs) : GV (upd H g o) kvs L := ⟨h.no, fun p e z => by
  obtain ⟨b, e1, e2⟩ := h.yes p e z
  refine ⟨b, e1, ?_⟩
  rw [upd_ne]
  · exact e2
  · intro c
    rw [c, hg] at e2
    cases e2
    exact n _ rfl⟩
theorem GV.put {H : Hp} {kvs : List (List Key × V)} {L : List (Pl × Pl)} {p e : Pl} {U : Addr} (h : GV H kvs L) (hU : H U = some (.tup (plV e))) : GV H (putK kvs (plK p) (.ref U)) (L ++ [(p, e)]) := by
  refine ⟨fun q z => ?_, fun q e' z => ?_⟩
  · rw [lastG_snoc] at z
    rw [valV_put]
    by_cases c : q = p
    · rw [if_pos c] at z
      cases z
    · rw [if_neg c] at z
      rw [if_neg (fun k => c (plK_inj k))]
      exact h.no q z
  · rw [lastG_snoc] at z
    rw [valV_put]
    by_cases c : q = p
    · rw [if_pos c] at z
      cases z
      rw [if_pos (by rw [c])]
      exact ⟨U, rfl, hU⟩
    · rw [if_neg c] at z
      rw [if_neg (fun k => c (plK_inj k))]
      exact h.yes q e' z
def GAt (H : Hp) (g : Addr) (L : List (Pl × Pl)) : Prop := ∃ kvs, H g = some (.dT kvs) ∧ GV H kvs L
theorem GAt.mono {H H' : Hp} {g : Addr} {L : List (Pl × Pl)} (h : GAt H g L) (s : Same H H') : GAt H' g L := by
  obtain ⟨kvs, e, v⟩ := h
  exact ⟨kvs, s _ _ e, v.mono s⟩
theorem GAt.fm {S : Addr → Prop} {H H' : Hp} {g : Addr} {L : List (Pl × Pl)} (h : GAt H g L) (s : Fm S H H') : GAt H' g L := by
  obtain ⟨kvs, e, v⟩ := h
  exact ⟨kvs, (s _ _ e).resolve_right (fun z => by obtain ⟨_, xs, ys, z, _⟩ := z; cases z), v.fm s⟩
theorem GAt.lk {H H' : Hp} {p g C dx : Addr} {fs : List (Str × V)} {L : List (Pl × Pl)} (h : GAt H g L) (hp : H p = some (.ins C dx fs)) (l : ∀ b o, H b = some o → b ≠ p → H' b = some o) : GAt H' g L := by
  obtain ⟨kvs, e, v⟩ := h
  refine ⟨kvs, l _ _ e (fun z => by rw [z, hp] at e; cases e), v.no, fun q e' z => ?_⟩
  obtain ⟨b, e1, e2⟩ := v.yes q e' z
  exact ⟨b, e1, l _ _ e2 (fun z => by rw [z, hp] at e2; cases e2)⟩
def spGi : Sp := fun vs H Q _ => ∃ (a d : Addr) (hv : List V) (hs : List Pl) (zs : List Nat) (fr : Nat → List Pl) (f : Nat → Nat), vs = [.ref a, .ref d] ∧ H a = some (.tup hv) ∧ Ps H hv hs ∧ FrG false H d zs fr f ∧ hs.length + (frs zs fr).length ≤ 100000 ∧
  ∀ g H', Same H H' → GAt H' g (endsL hs zs fr) → Q (.ref g) H'
theorem sc_goals_in : FnScope ["heads", "fronts", "goals", "index", "place", "size"] ["heads", "fronts"] (defScope (top 24)) := ⟨rfl, rfl, rfl, by decide +kernel, rfl, by decide +kernel, by decide +kernel⟩
theorem ok_goals_in {f : Addr} {fd : FuncData} (F : Fun K "goals_in" "goals_in" (top 24) f fd) (B : Bl3 mg) : FnOk P w K mg base CX0 1 f fd ["heads", "fronts"] spGi := by
  refine F.ok sc_goals_in (fun vs H Q E h => ?_) (fun cdv A outer s H vs Q E hr h => ?_)
  · obtain ⟨a, d, hv, hs, zs, fr, f, rfl, _⟩ := h
    rfl
  · obtain ⟨a, d, hv, hs, zs, fr, f, rfl, ha, hp, ⟨t, hd, hc⟩, few, k⟩ := h
    refine ⟨_, (pss_cons (ps_set (i := 2) sc_goals_in.nd rfl (Or.inl rfl) pe_dnewT)
      (pss_cons (ps_for PassesOwn.never rfl (pi_enumT rfl B.enumerate (pa_cons (pv 0) pa_nil)) (pg_tup rfl (pgs_cons (pg_name (i := 3) sc_goals_in.nd rfl (Or.inl rfl)) (pgs_cons (pg_name (i := 4) sc_goals_in.nd rfl (Or.inl rfl)) pgs_nil)))
        (pss_one (ps_dput (hr1 hr) (pv 2) (pv 4) (pe_tup (pa_cons pe_str (pa_cons (pv 3) pa_nil))) rfl)))
      (pss_cons (ps_lock (ps_for PassesOwn.never rfl (pi_keys (pv 1)) (pg_name (i := 5) sc_goals_in.nd rfl (Or.inl rfl))
        (pss_one (ps_for PassesOwn.never rfl (pi_enumT rfl B.enumerate (pa_cons (pe_ix ix_tup (pe_dget (hr1 hr) (pv 1) (pv 5) (fun _ _ => rfl)) pe_int (fun _ _ => rfl)) pa_nil)) (pg_tup rfl (pgs_cons (pg_name (i := 3) sc_goals_in.nd rfl (Or.inl rfl)) (pgs_cons (pg_name (i := 4) sc_goals_in.nd rfl (Or.inl rfl)) pgs_nil)))
        (pss_one (ps_dput (hr1 hr) (pv 2) (pv 4) (pe_tup (pa_cons pe_str (pa_cons (pv 5) (pa_cons (pv 3) pa_nil)))) rfl))))))
      (pss_one (ps_ret (pv 2)))))), ?_⟩
    refine seq_rd (asg_of fun g ng => ?_)
    have s0 := same_new (o := .dT []) (Same.refl H) ng
    have hg0 : (upd H g (.dT [])) g = some (.dT []) := upd_same
    have hgd : d ≠ g := ne_of_none hd ng
    generalize upd H g (.dT []) = H0 at s0 hg0 ⊢
    refine next_rd ?_
    dsimp only
    refine seq_rd ?_
    refine forE (xs := hv) (va_cons (ve_var (v := .ref a) rfl) va_nil) (s0 _ _ ha) (fun i σ H1 => ∃ (v3 v4 : Option V) (kvs : List (List Key × V)), σ = [some (.ref a), some (.ref d), some (.ref g), v3, v4, none] ∧ Same H H1 ∧ H1 g = some (.dT kvs) ∧ GV H1 kvs (endsH hs i) ∧ kvs.length ≤ i) ⟨none, none, [], rfl, s0, hg0, GV.nil, Nat.zero_le _⟩ (fun i σ H1 _ z => by
      obtain ⟨_, _, _, _, z, _⟩ := z
      exact SqT.of (z _ _ ha)) ?_ ?_
    · rintro i x σ H1 T hx ⟨v3, v4, kvs, rfl, s1, hg1, gv, len⟩ nT
      obtain ⟨p, hp2, pa⟩ := hp.back hx
      have li := (List.getElem?_eq_some_iff.mp hp2).1
      refine pair_rd ?_
      have s2 := same_new (o := .tup [.int (i : Nat), x]) (Same.refl H1) nT
      generalize upd H1 T (.tup [.int (i : Nat), x]) = H2 at s2 ⊢
      obtain ⟨b, rfl, hb⟩ := (pa.mono s1).mono s2
      refine ttup_rd (tcons_rd (tc_rd (cons_rd (tvar_rd (v := .int (i : Nat)) rfl ⟨by show 2 ≤ sizeLine; decide, fun U nU => ?_⟩))))
      have s3 := same_new (o := .tup [.str "object", .int (i : Nat)]) (Same.refl H2) nU
      have hU : (upd H2 U (.tup [.str "object", .int (i : Nat)])) U = some (.tup (plV (.obj i))) := upd_same
      generalize upd H2 U (.tup [.str "object", .int (i : Nat)]) = H3 at s3 hU ⊢
      have g3 := (s2.trans s3) _ _ hg1
      refine ⟨.ref g, rfl, .ref b, rfl, g, _, rfl, DPut.t (k := plK p) g3 (by rw [← plV_key]; exact s3 _ _ hb) (by rw [sizeLine_eq]; omega), ?_⟩
      have lp := length_putK kvs (plK p) (V.ref U)
      refine ⟨_, _, putK kvs (plK p) (V.ref U), rfl, same_updL (s1.trans (s2.trans s3)) ng, upd_same, ?_, by omega⟩
      rw [endsH_succ hp2]
      exact ((gv.mono (s2.trans s3)).put hU).upd' g3 (fun _ => nofun)
    · rintro σ H1 ⟨v3, v4, kvs, rfl, s1, hg1, gv, len⟩
      rw [hp.1] at len gv
      refine next_rd ?_
      refine seq_rd ⟨d, _, s1 _ _ hd, trivial, fun od => ?_⟩
      refine ⟨.ref d, rfl, d, od, rfl, .inl ⟨_, upd_same, ?_⟩⟩
      refine for_it walk_keys (fun i σ H2 => ∃ (v3 v4 v5 : Option V) (kvs : List (List Key × V)), σ = [some (.ref a), some (.ref d), some (.ref g), v3, v4, v5] ∧ Lk d H H2 ∧ H2 d = some (.frz od (.dK (kvz zs t))) ∧ H2 g = some (.dT kvs) ∧ GV H2 kvs (endsH hs hs.length ++ (zs.take i).flatMap fun s => endsP s (fr s) (fr s).length) ∧ kvs.length ≤ hs.length + (frs (zs.take i) fr).length)
        ⟨v3, v4, none, kvs, rfl, fun b o e n => by rw [upd_ne n]; exact s1 _ _ e, upd_same, by rw [upd_ne hgd.symm]; exact hg1, by rw [List.take_zero, List.flatMap_nil, List.append_nil]; exact gv.upd' (s1 _ _ hd) (fun _ => nofun), by show _ ≤ _ + 0; omega⟩ (fun i σ H2 _ z => by
          obtain ⟨_, _, _, _, _, _, z, _⟩ := z
          exact z) ?_ ?_
      · rintro i x σ H2 H3 hi ⟨v3, v4, v5, kvs, rfl, l2, d2, g2, gv, len⟩ ⟨rfl, k0, v0, hk, rfl⟩
        obtain ⟨s, hz, rfl, rfl⟩ := kvz_get hk
        have m := List.mem_of_getElem? hz
        obtain ⟨q2, ys, t1, t2, t3⟩ := (l2.frc hc hd).each s m
        have t2 : H3 q2 = some (.tup ys) := t2
        have ftk := frs_take (fr := fr) hz
        have fle := frs_le (zs := zs) (fr := fr) (i := i + 1)
        rw [ftk, List.length_append] at fle
        refine gname_rd ?_
        refine forE (xs := ys) (va_cons (ve_ixT (n := 0) (ve_dget (w := t) (ve_var (v := .ref d) rfl) (ve_var (v := nV s) rfl) (.inr ⟨od, d2⟩) m) t1 ve_c rfl) va_nil) t2 (fun j σ H4 => ∃ (v3 v4 : Option V) (kvs : List (List Key × V)), σ = [some (.ref a), some (.ref d), some (.ref g), v3, v4, some (nV s)] ∧ Lk d H H4 ∧ H4 d = some (.frz od (.dK (kvz zs t))) ∧ H4 q2 = some (.tup ys) ∧ Ps H4 ys (fr s) ∧ H4 g = some (.dT kvs) ∧ GV H4 kvs ((endsH hs hs.length ++ (zs.take i).flatMap fun s => endsP s (fr s) (fr s).length) ++ endsP s (fr s) j) ∧ kvs.length ≤ hs.length + (frs (zs.take i) fr).length + j)
          ⟨v3, v4, kvs, rfl, l2, d2, t2, t3, g2, by show GV _ _ (_ ++ []); rw [List.append_nil]; exact gv, by omega⟩ (fun i σ H1 _ z => by
          obtain ⟨_, _, _, _, _, _, z, _⟩ := z
          exact SqT.of z) ?_ ?_
        · rintro j x σ H4 T hx ⟨v3, v4, kvs, rfl, l4, d4, q4, x4, g4, gv4, len4⟩ nT
          obtain ⟨p, hp2, pa⟩ := x4.back hx
          have li := (List.getElem?_eq_some_iff.mp hp2).1
          refine pair_rd ?_
          have s2 := same_new (o := .tup [.int (j : Nat), x]) (Same.refl H4) nT
          generalize upd H4 T (.tup [.int (j : Nat), x]) = H5 at s2 ⊢
          obtain ⟨b, rfl, hb⟩ := pa.mono s2
          refine ttup_rd (tcons_rd (tc_rd (tcons_rd (tvar_rd (v := nV s) rfl (cons_rd (tvar_rd (v := .int (j : Nat)) rfl ⟨by show 3 ≤ sizeLine; decide, fun U nU => ?_⟩))))))
          have s3 := same_new (o := .tup [.str "pool", nV s, .int (j : Nat)]) (Same.refl H5) nU
          have hU : (upd H5 U (.tup [.str "pool", nV s, .int (j : Nat)])) U = some (.tup (plV (.pool s j))) := upd_same
          generalize upd H5 U (.tup [.str "pool", nV s, .int (j : Nat)]) = H6 at s3 hU ⊢
          have s46 := s2.trans s3
          have g6 := s46 _ _ g4
          refine ⟨.ref g, rfl, .ref b, rfl, ⟨g, _, rfl, DPut.t (k := plK p) g6 (by rw [← plV_key]; exact s3 _ _ hb) (by rw [sizeLine_eq]; omega), ?_⟩⟩
          have lp := length_putK kvs (plK p) (V.ref U)
          have ne6 : ∀ {b : Addr} {o : HO}, H6 b = some o → (∀ z, o ≠ .dT z) → b ≠ g := fun {b o} z n e => by
            rw [e, g6] at z
            cases z
            exact n _ rfl
          refine ⟨_, _, putK kvs (plK p) (V.ref U), rfl, (l4.trans s46).own ng, ?_, ?_, ?_, upd_same, ?_, by omega⟩
          · rw [upd_ne (ne6 (s46 _ _ d4) (fun z => nofun))]
            exact s46 _ _ d4
          · rw [upd_ne (ne6 (s46 _ _ q4) (fun z => nofun))]
            exact s46 _ _ q4
          · have x6 := x4.mono s46
            exact ⟨x6.1, fun i p e => by
              obtain ⟨v, z1, b, z2, z3⟩ := x6.2 i p e
              exact ⟨v, z1, b, z2, by rw [upd_ne (ne6 z3 (fun z => nofun))]; exact z3⟩⟩
          · rw [endsP_succ hp2, ← List.append_assoc]
            exact ((gv4.mono s46).put hU).upd' g6 (fun _ => nofun)
        · rintro σ H4 ⟨v3, v4, kvs, rfl, l4, d4, q4, x4, g4, gv4, len4⟩
          rw [x4.1] at len4 gv4
          refine ⟨_, _, _, kvs, rfl, l4, d4, g4, ?_, ?_⟩
          · rw [start_drop _ _ _ hz, List.flatMap_append, ← List.append_assoc]
            simpa using gv4
          rw [ftk, List.length_append]
          omega
      · rintro σ H2 ⟨v3, v4, v5, kvs, rfl, l2, d2, g2, gv, len⟩
        rw [kvz_len, List.take_length] at gv
        exact ⟨d2, ⟨_, rfl, k g _ (l2.stop hd) ⟨kvs, by rw [upd_ne hgd.symm]; exact g2, gv.upd' d2 (fun _ => nofun)⟩⟩⟩
end

end K1

set_option Elab.async false
set_option linter.all false
set_option maxRecDepth 100000
set_option maxHeartbeats 4000000
namespace K1
open PySem L2 W1
/-! ### Plan(..) -/
def plF (a b c d : V) : List (Str × V) := putF "goals" d (putF "fronts" c (putF "many" b (putF "heads" a [])))
theorem plF_1 (a b c d : V) : (plF a b c d).lookup ("heads" : Str) = some a := by
  unfold plF
  rw [lookup_putF, if_neg (by decide +kernel), lookup_putF, if_neg (by decide +kernel), lookup_putF, if_neg (by decide +kernel), lookup_putF, if_pos rfl]
theorem plF_2 (a b c d : V) : (plF a b c d).lookup ("many" : Str) = some b := by
  unfold plF
  rw [lookup_putF, if_neg (by decide +kernel), lookup_putF, if_neg (by decide +kernel), lookup_putF, if_pos rfl]
theorem plF_3 (a b c d : V) : (plF a b c d).lookup ("fronts" : Str) = some c := by
  unfold plF
  rw [lookup_putF, if_neg (by decide +kernel), lookup_putF, if_pos rfl]
structure NoPl (K : PySem.W.Frag) (C : Addr) : Prop where
  cl : Cls K C
  n1 : NoAttr K C "heads"
  n2 : NoAttr K C "many"
  n3 : NoAttr K C "fronts"
  n4 : NoAttr K C "goals"
/-- what is plain of a plan -/
structure PlanOk (hs : List Pl) (zs : List Nat) (fr : Nat → List Pl) (f : Nat → Nat) : Prop where
  lh : hs.length ≤ 10000
  nz : zs.Nodup
  sz : ∀ s ∈ zs, 1 ≤ s ∧ s ≤ 8
  lf : ∀ s, (fr s).length ≤ 10000
  off : ∀ s, s ∉ zs → fr s = [] ∧ f s = 0
theorem nodup_le : ∀ (n : Nat) (zs : List Nat), zs.Nodup → (∀ s ∈ zs, 1 ≤ s ∧ s ≤ n) → zs.length ≤ n
  | 0, [], _, _ => Nat.le_refl _
  | 0, z :: zs, _, h => by
    have := h z List.mem_cons_self
    omega
  | n + 1, zs, nd, h => by
    by_cases c : n + 1 ∈ zs
    · have e := List.length_erase_of_mem c
      have ih := nodup_le n (zs.erase (n + 1)) (nd.erase _) fun s m => by
        have m2 := (List.Nodup.mem_erase_iff nd).mp m
        have := h s m2.2
        have := m2.1
        omega
      omega
    · have ih := nodup_le n zs nd fun s m => by
        have := h s m
        have : s ≠ n + 1 := fun e => c (e ▸ m)
        omega
      omega
theorem PlanOk.lz {hs : List Pl} {zs : List Nat} {fr : Nat → List Pl} {f : Nat → Nat} (o : PlanOk hs zs fr f) : zs.length ≤ 8 := nodup_le 8 zs o.nz o.sz
theorem frs_len {zs : List Nat} {fr : Nat → List Pl} {n : Nat} (h : ∀ s, (fr s).length ≤ n) : (frs zs fr).length ≤ zs.length * n := by
  induction zs with
  | nil => exact Nat.zero_le _
  | cons z zs ih =>
    have e : frs (z :: zs) fr = fr z ++ frs zs fr := by unfold frs; rw [List.flatMap_cons]
    rw [e, List.length_append, List.length_cons, Nat.add_mul]
    have := h z
    omega
theorem PlanOk.all {hs : List Pl} {zs : List Nat} {fr : Nat → List Pl} {f : Nat → Nat} (o : PlanOk hs zs fr f) : hs.length + (frs zs fr).length ≤ 100000 := by
  have h1 := frs_len (zs := zs) o.lf
  have h2 := o.lz
  have h3 := o.lh
  have : zs.length * 10000 ≤ 8 * 10000 := Nat.mul_le_mul_right _ h2
  omega
structure PlanAt (CP : Addr) (H : Hp) (p : Addr) (n : Nat) (hs : List Pl) (zs : List Nat) (fr : Nat → List Pl) (f : Nat → Nat) : Prop where
  ex : ∃ (dx th df dg : Addr) (hv : List V), H p = some (.ins CP dx (plF (.ref th) (nV n) (.ref df) (.ref dg))) ∧ H th = some (.tup hv) ∧ Ps H hv hs ∧ FrG false H df zs fr f
  ok : PlanOk hs zs fr f
  cn : zs.Pairwise (· < ·) ∧ ∀ s ∈ zs, ¬ (fr s = [] ∧ f s = 0)
  gl : ∃ (dx th df dg : Addr), H p = some (.ins CP dx (plF (.ref th) (nV n) (.ref df) (.ref dg))) ∧ GAt H dg (endsL hs zs fr)
theorem PlanAt.mono {CP : Addr} {H H' : Hp} {p : Addr} {n : Nat} {hs : List Pl} {zs : List Nat} {fr : Nat → List Pl} {f : Nat → Nat} (h : PlanAt CP H p n hs zs fr f) (s : Same H H') : PlanAt CP H' p n hs zs fr f := by
  obtain ⟨⟨dx, th, df, dg, hv, h1, h2, h3, h4⟩, o, c, ⟨x1, x2, x3, x4, g1, g2⟩⟩ := h
  exact ⟨⟨dx, th, df, dg, hv, s _ _ h1, s _ _ h2, h3.mono s, h4.mono s⟩, o, c, ⟨x1, x2, x3, x4, s _ _ g1, g2.mono s⟩⟩
theorem PlanAt.fm {S : Addr → Prop} {CP : Addr} {H H' : Hp} {p : Addr} {n : Nat} {hs : List Pl} {zs : List Nat} {fr : Nat → List Pl} {f : Nat → Nat} (h : PlanAt CP H p n hs zs fr f) (s : Fm S H H') : PlanAt CP H' p n hs zs fr f := by
  obtain ⟨⟨dx, th, df, dg, hv, h1, h2, h3, h4⟩, o, c, ⟨x1, x2, x3, x4, g1, g2⟩⟩ := h
  exact ⟨⟨dx, th, df, dg, hv, s.ins h1, s.tup h2, h3.fm s, h4.fm s⟩, o, c, ⟨x1, x2, x3, x4, s.ins g1, g2.fm s⟩⟩
/-! ### an instance that is being filled -/
section
variable {p CP dx : Addr} {fs : List (Str × V)} {H H1 : Hp} {L : Bool}
theorem Lk.psI {vs : List V} {ps : List Pl} (h : Ps H vs ps) (hd : H p = some (.ins CP dx fs)) (l : Lk p H H1) : Ps H1 vs ps := ⟨h.1, fun i q e => by
  obtain ⟨v, e1, b, e2, e3⟩ := h.2 i q e
  exact ⟨v, e1, b, e2, l _ _ e3 (fun z => by rw [z, hd] at e3; cases e3)⟩⟩
theorem Lk.frgI {d : Addr} {zs : List Nat} {fr : Nat → List Pl} {f : Nat → Nat} (h : FrG L H d zs fr f) (hd : H p = some (.ins CP dx fs)) (l : Lk p H H1) : FrG L H1 d zs fr f := by
  obtain ⟨t, e, c⟩ := h
  refine ⟨t, l _ _ e (fun z => by rw [z, hd] at e; cases e), ⟨fun u m => ?_⟩⟩
  obtain ⟨q, xs, e1, e2, e3⟩ := c.each u m
  refine ⟨q, xs, l _ _ e1 (fun z => by rw [z, hd] at e1; cases e1), l _ _ e2 (fun z => ?_), l.psI e3 hd⟩
  unfold Sq at e2
  rw [z, hd] at e2
  cases L <;> cases e2
end
def spPlI (CP : Addr) : Sp := fun vs H Q _ => ∃ (p dx a d : Addr) (n : Nat) (hv : List V) (hs : List Pl) (zs : List Nat) (fr : Nat → List Pl) (f : Nat → Nat), vs = [.ref p, .ref a, nV n, .ref d] ∧ H p = some (.ins CP dx []) ∧ H a = some (.lst hv) ∧ Ps H hv hs ∧ FrG true H d zs fr f ∧ PlanOk hs zs fr f ∧
  ∀ H' ys, Lk p H H' → ys.Pairwise (· < ·) → (∀ s, s ∈ ys ↔ s ∈ zs ∧ nontr fr f s = true) → PlanAt CP H' p n (hs.take (V1.stripH hs hs.length)) ys (frS fr f) (fS fr f) → Q .non H'
theorem shF_off {fr : Nat → List Pl} {f : Nat → Nat} {s : Nat} (h : nontr fr f s = false) : frS fr f s = [] ∧ fS fr f s = 0 := by
  unfold nontr at h
  rw [Bool.or_eq_false_iff] at h
  have h1 := of_decide_eq_false h.1
  have h2 := of_decide_eq_false h.2
  unfold frS fS
  have : (shF fr f s).1 = 0 := by omega
  rw [this]
  exact ⟨rfl, by omega⟩
theorem short_ok {hs : List Pl} {zs ys : List Nat} {fr : Nat → List Pl} {f : Nat → Nat} (o : PlanOk hs zs fr f) (py : ys.Pairwise (· < ·)) (m : ∀ s, s ∈ ys ↔ s ∈ zs ∧ nontr fr f s = true) : PlanOk (hs.take (V1.stripH hs hs.length)) ys (frS fr f) (fS fr f) where
  lh := by rw [List.length_take]; have := o.lh; omega
  nz := py.imp fun h => by omega
  sz := fun s h => o.sz s ((m s).mp h).1
  lf := fun s => by unfold frS; rw [List.length_take]; have := o.lf s; omega
  off := fun s h => by
    by_cases c : s ∈ zs
    · refine shF_off ?_
      cases e : nontr fr f s with
      | false => rfl
      | true => exact (h ((m s).mpr ⟨c, e⟩)).elim
    · obtain ⟨h1, h2⟩ := o.off s c
      unfold frS fS shF
      rw [h1, h2]
      exact ⟨rfl, rfl⟩
theorem short_cn {zs ys : List Nat} {fr : Nat → List Pl} {f : Nat → Nat} (py : ys.Pairwise (· < ·)) (m : ∀ s, s ∈ ys ↔ s ∈ zs ∧ nontr fr f s = true) : ys.Pairwise (· < ·) ∧ ∀ s ∈ ys, ¬ (frS fr f s = [] ∧ fS fr f s = 0) := by
  refine ⟨py, fun s h z => ?_⟩
  have n := ((m s).mp h).2
  unfold nontr at n
  rw [Bool.or_eq_true] at n
  obtain ⟨z1, z2⟩ := z
  unfold frS at z1
  unfold fS at z2
  rcases n with n | n
  · have := of_decide_eq_true n
    omega
  · have := of_decide_eq_true n
    have l : ((fr s).take (shF fr f s).1).length = 0 := by rw [z1]; rfl
    rw [List.length_take] at l
    have le : (shF fr f s).1 ≤ (fr s).length := stripF_le
    omega
abbrev plP : List Str := ["self", "heads", "many", "fronts"]
section
variable {P : Program} {w : World} {K : PySem.W.Frag} {mg : Str → Option Value} {base : Heap} {CP : Addr}
theorem sc_Plan___init : FnScope ["self", "heads", "many", "fronts"] ["self", "heads", "many", "fronts"] (defScope (inClass (top 14) 0)) := ⟨rfl, rfl, rfl, by decide +kernel, rfl, by decide +kernel, by decide +kernel⟩
theorem ok_plI {f : Addr} {fd : FuncData} (F : Fun K "__init__" "Plan.__init__" (inClass (top 14) 0) f fd) (T : NoPl K CP) (CSh : Cal P w K mg base CX0 1 "shortened_heads" ["heads"] spSh) (CSf : Cal P w K mg base CX0 1 "shortened_fronts" ["fronts"] spSf) (CGi : Cal P w K mg base CX0 1 "goals_in" ["heads", "fronts"] spGi) : FnOk P w K mg base CX0 2 f fd plP (spPlI CP) := by
  refine F.ok sc_Plan___init (fun vs H Q E h => ?_) (fun cdv A outer s H vs Q E hr h => ?_)
  · obtain ⟨p, dx, a, d, n, hv, hs, zs, fr, f, rfl, _⟩ := h
    rfl
  · obtain ⟨p, dx, a, d, n, hv, hs, zs, fr, f, rfl, hp, ha, hh, hf, o, k⟩ := h
    refine ⟨_, (pss_cons (ps_fld (pv 0) (pe_cal CSh hr (by omega) pass0 (pa_cons (pv 1) pa_nil)) rfl)
      (pss_cons (ps_fld (pv 0) (pv 2) rfl)
      (pss_cons (ps_fld (pv 0) (pe_cal CSf hr (by omega) pass0 (pa_cons (pv 3) pa_nil)) rfl)
      (pss_one (ps_fld (pv 0) (pe_cal CGi hr (by omega) pass0 (pa_cons (pe_fld (pv 0) rfl) (pa_cons (pe_fld (pv 0) rfl) pa_nil))) rfl))))), ?_⟩
    have z1 : ∀ x, (putF "heads" x []).length ≤ 1 := fun x => putF_len "heads" x []
    have z2 : ∀ x y, (putF "many" y (putF "heads" x [])).length ≤ 2 := fun x y => Nat.le_trans (putF_len "many" y _) (by have := z1 x; omega)
    have z3 : ∀ x y z, (putF "fronts" z (putF "many" y (putF "heads" x []))).length ≤ 3 := fun x y z => Nat.le_trans (putF_len "fronts" z _) (by have := z2 x y; omega)
    refine seq_rd (call_rd (va_cons (ve_var (v := .ref a) rfl) va_nil) ⟨a, hv, hs, rfl, ha, hh, (by have := o.lh; omega), fun th xs H1 s1 nth ht hx => ?_⟩)
    have p1 := s1 _ _ hp
    refine ⟨.ref p, rfl, p, CP, dx, _, rfl, p1, T.cl, T.n1, by decide, ?_⟩
    have l1 : Lk p H (upd H1 p (.ins CP dx (putF "heads" (.ref th) []))) := fun b u e n => by rw [upd_ne n]; exact s1 _ _ e
    have p2 : (upd H1 p (.ins CP dx (putF "heads" (.ref th) []))) p = some (.ins CP dx (putF "heads" (.ref th) [])) := upd_same
    have pth : th ≠ p := fun z => by rw [z, p1] at ht; cases ht
    have t2 : (upd H1 p (.ins CP dx (putF "heads" (.ref th) []))) th = some (.tup xs) := by rw [upd_ne pth]; exact ht
    have x2 : Ps (upd H1 p (.ins CP dx (putF "heads" (.ref th) []))) xs (hs.take (V1.stripH hs hs.length)) := Lk.psI hx p1 (fun b u e n => by rw [upd_ne n]; exact e)
    generalize upd H1 p (.ins CP dx (putF "heads" (.ref th) [])) = H2 at l1 p2 t2 x2 ⊢
    refine next_rd ?_
    refine seq_rd ⟨nV n, rfl, .ref p, rfl, p, CP, dx, _, rfl, p2, T.cl, T.n2, by have := z1 (.ref th); omega, ?_⟩
    have l3 : Lk p H (upd H2 p (.ins CP dx (putF "many" (nV n) (putF "heads" (.ref th) [])))) := fun b u e n => by rw [upd_ne n]; exact l1 _ _ e n
    have p3 : (upd H2 p (.ins CP dx (putF "many" (nV n) (putF "heads" (.ref th) [])))) p = some (.ins CP dx (putF "many" (nV n) (putF "heads" (.ref th) []))) := upd_same
    have t3 : (upd H2 p (.ins CP dx (putF "many" (nV n) (putF "heads" (.ref th) [])))) th = some (.tup xs) := by rw [upd_ne pth]; exact t2
    have x3 : Ps (upd H2 p (.ins CP dx (putF "many" (nV n) (putF "heads" (.ref th) [])))) xs (hs.take (V1.stripH hs hs.length)) := Lk.psI x2 p2 (fun b u e n => by rw [upd_ne n]; exact e)
    generalize upd H2 p (.ins CP dx (putF "many" (nV n) (putF "heads" (.ref th) []))) = H3 at l3 p3 t3 x3 ⊢
    refine next_rd ?_
    have f3 := l3.frgI hf hp
    refine seq_rd (call_rd (va_cons (ve_var (v := .ref d) rfl) va_nil) ⟨d, zs, fr, f, rfl, f3, o.nz, o.sz, (by have := o.lz; omega), (fun s _ => by have := o.lf s; omega), fun df ys H4 s4 ndf py my f4 => ?_⟩)
    have p4 := s4 _ _ p3
    refine ⟨.ref p, rfl, p, CP, dx, _, rfl, p4, T.cl, T.n3, by have := z2 (.ref th) (nV n); omega, ?_⟩
    have l5 : Lk p H (upd H4 p (.ins CP dx (putF "fronts" (.ref df) (putF "many" (nV n) (putF "heads" (.ref th) []))))) := fun b u e n => by rw [upd_ne n]; exact s4 _ _ (l3 _ _ e n)
    have p5 : (upd H4 p (.ins CP dx (putF "fronts" (.ref df) (putF "many" (nV n) (putF "heads" (.ref th) []))))) p = some (.ins CP dx (putF "fronts" (.ref df) (putF "many" (nV n) (putF "heads" (.ref th) [])))) := upd_same
    have t5 : (upd H4 p (.ins CP dx (putF "fronts" (.ref df) (putF "many" (nV n) (putF "heads" (.ref th) []))))) th = some (.tup xs) := by rw [upd_ne pth]; exact s4 _ _ t3
    have x5 : Ps (upd H4 p (.ins CP dx (putF "fronts" (.ref df) (putF "many" (nV n) (putF "heads" (.ref th) []))))) xs (hs.take (V1.stripH hs hs.length)) := Lk.psI (x3.mono s4) p4 (fun b u e n => by rw [upd_ne n]; exact e)
    have f5 : FrG false (upd H4 p (.ins CP dx (putF "fronts" (.ref df) (putF "many" (nV n) (putF "heads" (.ref th) []))))) df ys (frS fr f) (fS fr f) := Lk.frgI f4 p4 (fun b u e n => by rw [upd_ne n]; exact e)
    generalize upd H4 p (.ins CP dx (putF "fronts" (.ref df) (putF "many" (nV n) (putF "heads" (.ref th) [])))) = H5 at l5 p5 t5 x5 f5 ⊢
    refine next_rd ?_
    have so := short_ok o py my
    have k1 : (putF "fronts" (.ref df) (putF "many" (nV n) (putF "heads" (.ref th) []))).lookup ("heads" : Str) = some (.ref th) := by
      rw [lookup_putF, if_neg (by decide +kernel), lookup_putF, if_neg (by decide +kernel), lookup_putF, if_pos rfl]
    have k3 : (putF "fronts" (.ref df) (putF "many" (nV n) (putF "heads" (.ref th) []))).lookup ("fronts" : Str) = some (.ref df) := by
      rw [lookup_putF, if_pos rfl]
    refine call_rd (va_cons (ve_fld (ve_var (v := .ref p) rfl) p5 T.cl T.n1 k1) (va_cons (ve_fld (ve_var (v := .ref p) rfl) p5 T.cl T.n3 k3) va_nil)) ⟨th, df, xs, _, ys, _, _, rfl, t5, x5, f5, so.all, fun g H6 s6 gg => ?_⟩
    refine ⟨.ref p, rfl, p, CP, dx, _, rfl, s6 _ _ p5, T.cl, T.n4, by have := z3 (.ref th) (nV n) (.ref df); omega, ?_⟩
    have q6 : Lk p H6 (upd H6 p (.ins CP dx (plF (.ref th) (nV n) (.ref df) (.ref g)))) := fun b u e n => by rw [upd_ne n]; exact e
    refine k _ ys (fun b u e n => q6 _ _ (s6 _ _ (l5 _ _ e n)) n) py my ⟨⟨dx, th, df, g, xs, upd_same, ?_, q6.psI (x5.mono s6) (s6 _ _ p5), q6.frgI (f5.mono s6) (s6 _ _ p5)⟩, so, short_cn py my, ⟨dx, th, df, g, upd_same, gg.lk (s6 _ _ p5) q6⟩⟩
    exact q6 _ _ (s6 _ _ t5) pth
end

end K1

set_option Elab.async false
set_option linter.all false
set_option maxRecDepth 100000
set_option maxHeartbeats 4000000
namespace K1
open PySem L2 W1
theorem cut_any {xs : List V} {f l : Nat} : cutV xs (some (f : Nat)) (some (l : Nat)) = (xs.drop f).take (l - f) := by
  unfold cutV
  rw [sIx_min (by omega), sIx_min (by omega), Int.toNat_natCast, Int.toNat_natCast]
  apply List.ext_getElem?
  intro i
  simp only [List.getElem?_take, List.getElem?_drop]
  by_cases c : xs.length ≤ f + i
  · rw [List.getElem?_eq_none (l := xs) (by omega), List.getElem?_eq_none (l := xs) (by omega)]
    simp
  · rw [show min f xs.length + i = f + i by omega]
    by_cases d : i < l - f
    · rw [if_pos d, if_pos (by omega)]
    · rw [if_neg d, if_neg (by omega)]
theorem cut_fromA {xs : List V} {f : Nat} : cutV xs (some (f : Nat)) none = xs.drop f := by
  rw [cut_from (by omega), Int.toNat_natCast]
section
variable {K : PySem.W.Frag} {t u1 u2 : TE} {σ : St} {H1 : Hp} {a : Addr} {xs : List V} {f l : Nat} {Q : VK}
theorem slTA_rd (h : VE t (.ref a) σ H1) (ha : H1 a = some (.tup xs)) (r1 : VE u1 (nV f) σ H1) (r2 : VE u2 (nV l) σ H1)
    (k : ∀ p H3, Same H1 H3 → H3 p = some (.tup ((xs.drop f).take (l - f))) → Q (.ref p) H3) : tSl (rSlA K) t (tPart u1) (tPart u2) σ H1 Q := by
  refine h H1 (Same.refl _) _ (r1 H1 (Same.refl _) _ ⟨_, rfl, r2 H1 (Same.refl _) _ ⟨_, rfl, a, xs, rfl, SqT.of ha, fun z => ?_, fun _ p np => ?_⟩⟩)
  · rw [sIx_min (by omega), sIx_min (by omega), Int.toNat_natCast, Int.toNat_natCast] at z
    refine k a H1 (Same.refl _) ?_
    rw [ha]
    congr 2
    by_cases e : xs = []
    · rw [e]; simp
    · have pos : 0 < xs.length := List.length_pos_iff.mpr e
      have e1 : f = 0 := by have := z.1; omega
      rw [e1, List.drop_zero, List.take_of_length_le (by have := z.2; omega)]
  · refine k p _ (same_new (Same.refl _) np) ?_
    rw [upd_same, cut_any]
theorem slTF_rd (h : VE t (.ref a) σ H1) (ha : H1 a = some (.tup xs)) (r1 : VE u1 (nV f) σ H1)
    (k : ∀ p H3, Same H1 H3 → H3 p = some (.tup (xs.drop f)) → Q (.ref p) H3) : tSl (rSlA K) t (tPart u1) tNoPart σ H1 Q := by
  refine h H1 (Same.refl _) _ (r1 H1 (Same.refl _) _ ⟨_, rfl, a, xs, rfl, SqT.of ha, fun z => ?_, fun _ p np => ?_⟩)
  · rw [sIx_min (by omega), Int.toNat_natCast] at z
    refine k a H1 (Same.refl _) ?_
    rw [ha]
    congr 2
    by_cases e : xs = []
    · rw [e]; simp
    · have pos : 0 < xs.length := List.length_pos_iff.mpr e
      have e1 : f = 0 := by have := z.1; omega
      rw [e1, List.drop_zero]
  · refine k p _ (same_new (Same.refl _) np) ?_
    rw [upd_same, cut_fromA]
end
/-- a list of places, each made of one of a tuple -/
theorem lc_map {K : PySem.W.Frag} {t te : TE} {i : Nat} {σ : St} {H : Hp} {a : Addr} {xs : List V} {ps : List Pl} {o : Pl → Pl} {Q : VK} (h : VE t (.ref a) σ H) (ha : H a = some (.tup xs)) (hp : Ps H xs ps) (few : ps.length ≤ 100000)
    (hw : ∀ v, wipe ((wipe σ [i]).set i (some v)) [i] = wipe σ [i])
    (hte : ∀ v p H2 (Q : VK), p ∈ ps → Same H H2 → PlAt H2 v p → (∀ v' H3, Same H2 H3 → PlAt H3 v' (o p) → Q v' H3) → te ((wipe σ [i]).set i (some v)) H2 Q)
    (k : ∀ D H3 ys, Same H H3 → H D = none → H3 D = some (.lst ys) → Ps H3 ys (ps.map o) → Q (.ref D) H3) : tLc (iTup K t) (gName i) tYes te [i] σ H Q := by
  refine h H (Same.refl _) _ ⟨a, rfl, ⟨xs, SqT.of ha⟩, fun D nD => ?_⟩
  refine lc_tup (xs := xs) (fun j H1 => Same H H1 ∧ ∃ ys, H1 D = some (.lst ys) ∧ Ps H1 ys ((ps.take j).map o)) ⟨same_new (Same.refl _) nD, [], upd_same, Ps.nil⟩ (fun j H1 _ z => SqT.of (z.1 _ _ ha)) (fun j x H1 hx z => ?_) (fun H1 z => ?_)
  · obtain ⟨s1, ys, hD, hy⟩ := z
    obtain ⟨p, hp2, pa⟩ := hp.back hx
    refine ⟨hw x, ?_⟩
    unfold tYes
    dsimp only
    rw [if_pos rfl]
    refine hte x p H1 _ (List.mem_of_getElem? hp2) s1 (pa.mono s1) fun v' H3 s3 pv => ?_
    have hD3 := s3 _ _ hD
    have ly := hy.1
    rw [List.length_map, List.length_take] at ly
    refine ⟨ys, hD3, by rw [sizeLine_eq]; omega, same_updL (s1.trans s3) nD, ys ++ [v'], upd_same, ?_⟩
    rw [start_drop _ _ _ hp2, List.map_append]
    have up : ∀ {v : V} {p : Pl}, PlAt H3 v p → PlAt (upd H3 D (.lst (ys ++ [v']))) v p := fun z => upd_tup hD3 z
    have h1 := (hy.mono s3).app (Ps.one pv)
    exact ⟨h1.1, fun j q e => by
      obtain ⟨v, e1, e2⟩ := h1.2 j q e
      exact ⟨v, e1, up e2⟩⟩
  · obtain ⟨s1, ys, hD, hy⟩ := z
    rw [hp.1, List.take_length] at hy
    exact k D H1 ys s1 nD hD hy
section
variable {P : Program} {w : World} {K : PySem.W.Frag} {mg : Str → Option Value} {base : Heap} {CP : Addr}
/-! ### front_of, origin_of -/
def spFo (CP : Addr) : Sp := fun vs H Q _ => ∃ (p : Addr) (s n : Nat) (hs : List Pl) (zs : List Nat) (fr : Nat → List Pl) (f : Nat → Nat), vs = [.ref p, nV s] ∧ PlanAt CP H p n hs zs fr f ∧ ∀ t q xs H', Same H H' → H' t = some (.tup [.ref q, nV (f s)]) → H' q = some (.tup xs) → Ps H' xs (fr s) → Q (.ref t) H'
theorem sc_front_of : FnScope ["plan", "size"] ["plan", "size"] (defScope (top 27)) := ⟨rfl, rfl, rfl, by decide +kernel, rfl, by decide +kernel, by decide +kernel⟩
theorem ok_front_of {f : Addr} {fd : FuncData} (F : Fun K "front_of" "front_of" (top 27) f fd) (T : NoPl K CP) : FnOk P w K mg base CX0 1 f fd ["plan", "size"] (spFo CP) := by
  refine F.ok sc_front_of (fun vs H Q E h => ?_) (fun cdv A outer s H vs Q E hr h => ?_)
  · obtain ⟨p, s, n, hs, zs, fr, f, rfl, _⟩ := h
    rfl
  · obtain ⟨p, s, n, hs, zs, fr, f, rfl, ⟨⟨dx, th, df, dg, hv, h1, h2, h3, ⟨t, h4, h5⟩⟩, o, _⟩, k⟩ := h
    refine ⟨_, (pss_one (ps_ret (pe_ifExp (pt_cmp (pc_din (hr1 hr) (pv 1) (pe_fld (pv 0) rfl))) (pe_dget (hr1 hr) (pe_fld (pv 0) rfl) (pv 1) (fun _ _ => rfl)) (pe_tup (pa_cons (pe_tup pa_nil) (pa_cons pe_int pa_nil)))))), ?_⟩
    have vf : ∀ {H5 : Hp}, Same H H5 → VE (tFld K (tVar 0) "fronts") (.ref df) [some (.ref p), some (nV s)] H5 := fun s5 => ve_fld (ve_var (v := .ref p) rfl) (s5 _ _ h1) T.cl T.n3 (plF_3 _ _ _ _)
    refine ret_of (ifE_be (be_din (w := t) (ve_var (v := nV s) rfl) (vf (Same.refl _)) (.inl h4)) fun H3 s3 => ⟨fun c => ?_, fun c => ?_⟩)
    · have m := of_decide_eq_true c
      obtain ⟨q, xs, t1, t2, t3⟩ := (h5.mono s3).each s m
      exact (ve_dget (w := t) (vf s3) (ve_var (v := nV s) rfl) (.inl (s3 _ _ h4)) m) H3 (Same.refl _) _ (k _ q xs H3 s3 t1 t2 t3)
    · have m := of_decide_eq_false c
      obtain ⟨o1, o2⟩ := o.off s m
      refine ttup_rd (tcons_rd (ttup_rd ⟨Nat.zero_le _, fun q nq => tcons_rd (tc_rd ⟨by show 2 ≤ sizeLine; decide, fun T nT => ?_⟩)⟩))
      have s4 := same_new (o := .tup []) s3 nq
      have s5 := same_new (o := .tup [.ref q, .int 0]) s4 nT
      refine k T q [] _ s5 ?_ ?_ ?_
      · rw [o2]
        exact upd_same
      · rw [upd_ne (ne_of_none upd_same nT)]
        exact upd_same
      · rw [o1]
        exact Ps.nil
abbrev orgD := V1.orgD
def spOo (CP : Addr) : Sp := fun vs H Q _ => ∃ (p : Addr) (v : V) (pl : Pl) (n : Nat) (hs : List Pl) (zs : List Nat) (fr : Nat → List Pl) (f : Nat → Nat), vs = [.ref p, v] ∧ PlanAt CP H p n hs zs fr f ∧ PlAt H v pl ∧ ∀ v' H', Same H H' → PlAt H' v' (orgD hs fr f pl) → Q v' H'
theorem sc_origin_of : FnScope ["plan", "place", "front", "fresh"] ["plan", "place"] (defScope (top 31)) := ⟨rfl, rfl, rfl, by decide +kernel, rfl, by decide +kernel, by decide +kernel⟩
theorem ok_origin_of {f : Addr} {fd : FuncData} (F : Fun K "origin_of" "origin_of" (top 31) f fd) (B : Bl3 mg) (T : NoPl K CP) (CFo : Cal P w K mg base CX0 1 "front_of" ["plan", "size"] (spFo CP)) : FnOk P w K mg base CX0 2 f fd ["plan", "place"] (spOo CP) := by
  refine F.ok sc_origin_of (fun vs H Q E h => ?_) (fun cdv A outer s H vs Q E hr h => ?_)
  · obtain ⟨p, v, pl, n, hs, zs, fr, f, rfl, _⟩ := h
    rfl
  · obtain ⟨p, v, pl, n, hs, zs, fr, f, rfl, pa, ⟨b, rfl, hb⟩, k⟩ := h
    refine ⟨_, (pss_cons (ps_if (pt_cmpR op_eq (pe_ix ix_tup (pv 1) pe_int (fun _ _ => rfl)) pe_str (nomark _)) (pss_one (ps_ret (pe_ifExp (pt_cmpR op_lt (pe_ix ix_tup (pv 1) pe_int (fun _ _ => rfl)) (pe_callB call_len_seq rfl B.len PySem.boot_len (pa_cons (pe_fld (pv 0) rfl) pa_nil)) (nomark _)) (pe_ix ix_tup (pe_fld (pv 0) rfl) (pe_ix ix_tup (pv 1) pe_int (fun _ _ => rfl)) (fun _ _ => rfl)) (pv 1)))) pss_nil)
      (pss_cons (ps_asg (pe_cal CFo hr (by omega) pass0 (pa_cons (pv 0) (pa_cons (pe_ix ix_tup (pv 1) pe_int (fun _ _ => rfl)) pa_nil))) (pg_tup rfl (pgs_cons (pg_name (i := 2) sc_origin_of.nd rfl (Or.inl rfl)) (pgs_cons (pg_name (i := 3) sc_origin_of.nd rfl (Or.inl rfl)) pgs_nil))))
      (pss_cons (ps_if (pt_cmpR op_lt (pe_ix ix_tup (pv 1) pe_int (fun _ _ => rfl)) (pe_callB call_len_seq rfl B.len PySem.boot_len (pa_cons (pv 2) pa_nil)) (nomark _)) (pss_one (ps_ret (pe_ix ix_tup (pv 2) (pe_ix ix_tup (pv 1) pe_int (fun _ _ => rfl)) (fun _ _ => rfl)))) pss_nil)
      (pss_one (ps_ret (pe_tup (pa_cons pe_str (pa_cons (pe_ix ix_tup (pv 1) pe_int (fun _ _ => rfl)) (pa_cons (pe_op op_sub (pe_op op_add (pv 3) (pe_ix ix_tup (pv 1) pe_int (fun _ _ => rfl))) (pe_callB call_len_seq rfl B.len PySem.boot_len (pa_cons (pv 2) pa_nil))) pa_nil))))))))), ?_⟩
    have vb : ∀ {H5 : Hp} {x y : Option V}, VE (tVar 1) (.ref b) [some (.ref p), some (.ref b), x, y] H5 := ve_var rfl
    cases pl with
    | obj i =>
      have hb : H b = some (.tup [.str "object", nV i]) := hb
      refine seq_rd (if_be (be_eqS (ve_ixT (n := 0) vb hb ve_c rfl) ve_c) fun H1 s1 => ⟨fun _ => ?_, fun z => absurd z (by decide +kernel)⟩)
      obtain ⟨⟨dx, th, df, dg, hv, h1, h2, h3, h4⟩, o, _⟩ := pa.mono s1
      have hb1 := s1 _ _ hb
      have vh : ∀ {H5 : Hp}, Same H1 H5 → VE (tFld K (tVar 0) "heads") (.ref th) [some (.ref p), some (.ref b), none, none] H5 := fun s5 => ve_fld (ve_var (v := .ref p) rfl) (s5 _ _ h1) T.cl T.n1 (plF_1 _ _ _ _)
      refine ret_of (ifE_be (be_ltN (ve_ixT (n := 1) vb hb1 ve_c rfl) (ve_lenT (vh (Same.refl _)) h2)) fun H2 s2 => ⟨fun c => ?_, fun c => ?_⟩)
      · have c := of_decide_eq_true c
        rw [h3.1] at c
        obtain ⟨v, e1, e2⟩ := h3.2 i hs[i] (List.getElem?_eq_getElem c)
        refine (ve_ixT (n := i) (vh s2) (s2 _ _ h2) (ve_ixT (n := 1) vb (s2 _ _ hb1) ve_c rfl) e1) H2 (Same.refl _) _ (k v H2 (s1.trans s2) ?_)
        show PlAt H2 v ((hs[i]?).getD (.obj i))
        rw [List.getElem?_eq_getElem c]
        exact e2.mono s2
      · have c := of_decide_eq_false c
        rw [h3.1] at c
        refine vb H2 (Same.refl _) _ (k (.ref b) H2 (s1.trans s2) ?_)
        show PlAt H2 (.ref b) ((hs[i]?).getD (.obj i))
        rw [List.getElem?_eq_none (by omega)]
        exact ⟨b, rfl, s2 _ _ hb1⟩
    | pool s j =>
      have hb : H b = some (.tup [.str "pool", nV s, nV j]) := hb
      refine seq_rd (if_be (be_eqS (ve_ixT (n := 0) vb hb ve_c rfl) ve_c) fun H1 s1 => ⟨fun z => absurd z (by decide +kernel), fun _ => ?_⟩)
      have hb1 := s1 _ _ hb
      refine next_rd ?_
      dsimp only
      refine seq_rd (asgT (call_rd (va_cons (ve_var (v := .ref p) rfl) (va_cons (ve_ixT (n := 1) vb hb1 ve_c rfl) va_nil)) ⟨p, s, n, hs, zs, fr, f, rfl, pa.mono s1, fun t q xs H2 s2 t1 t2 t3 => pair2_rd t1 ?_⟩))
      refine next_rd ?_
      dsimp only
      have hb2 := s2 _ _ hb1
      have vq : ∀ {H5 : Hp}, VE (tVar 2) (.ref q) [some (.ref p), some (.ref b), some (.ref q), some (nV (f s))] H5 := ve_var rfl
      refine seq_rd (if_be (be_ltN (ve_ixT (n := 2) vb hb2 ve_c rfl) (ve_lenT vq t2)) fun H3 s3 => ⟨fun c => ?_, fun c => ?_⟩)
      · have c := of_decide_eq_true c
        rw [t3.1] at c
        obtain ⟨v, e1, e2⟩ := t3.2 j (fr s)[j] (List.getElem?_eq_getElem c)
        refine ret_of ((ve_ixT (n := j) vq (s3 _ _ t2) (ve_ixT (n := 2) vb (s3 _ _ hb2) ve_c rfl) e1) H3 (Same.refl _) _ (k v H3 ((s1.trans s2).trans s3) ?_))
        show PlAt H3 v (((fr s)[j]?).getD _)
        rw [List.getElem?_eq_getElem c]
        exact e2.mono s3
      · have c := of_decide_eq_false c
        rw [t3.1] at c
        refine next_rd ?_
        dsimp only
        have hb3 := s3 _ _ hb2
        have num : VE (tOp (rI0 fun i j => V.int (i - j)) (tOp (rI0 fun i j => V.int (i + j)) (tVar 3) (tOp (rIxT K) (tVar 1) (tC (.int 2)))) (tCB (fun xs H Q => ∃ p ys, xs = [V.ref p] ∧ (SqL K H p ys ∨ SqT K H p ys) ∧ Q (V.int (ys.length : Nat)) H) (tCons (tVar 2) tNil))) (nV (f s + (j - (fr s).length))) [some (.ref p), some (.ref b), some (.ref q), some (nV (f s))] H3 := by
          refine VE.to (ve_sub (i := ((f s + j : Nat) : Int)) (j := (xs.length : Nat)) (ve_addN (i := f s) (j := j) (ve_var rfl) (ve_ixT (n := 2) vb hb3 ve_c rfl)) (ve_lenT vq (s3 _ _ t2))) ?_
          rw [t3.1]
          omega
        refine ret_of (ttup_rd (tcons_rd (tc_rd (tcons_rd ((ve_ixT (n := 1) vb hb3 ve_c rfl) H3 (Same.refl _) _ (cons_rd (num H3 (Same.refl _) _ ⟨by show 3 ≤ sizeLine; decide, fun U nU => ?_⟩)))))))
        have s4 := same_new (o := .tup [.str "pool", nV s, nV (f s + (j - (fr s).length))]) (Same.refl H3) nU
        refine k (.ref U) _ (((s1.trans s2).trans s3).trans s4) ⟨U, rfl, ?_⟩
        show _ = some (HO.tup (plV (((fr s)[j]?).getD (.pool s (f s + (j - (fr s).length))))))
        rw [List.getElem?_eq_none (by omega)]
        exact upd_same
end

end K1

set_option Elab.async false
set_option linter.all false
set_option maxRecDepth 100000
set_option maxHeartbeats 4000000
namespace K1
open PySem L2 W1
/-! ### object_origins, highest_object -/
def objIdx (ps : List Pl) : List Nat := ps.filterMap fun p => match p with | .obj i => some i | .pool _ _ => none
theorem objIdx_app {ps qs : List Pl} : objIdx (ps ++ qs) = objIdx ps ++ objIdx qs := List.filterMap_append ..
theorem objIdx_mem {ps : List Pl} {i : Nat} : i ∈ objIdx ps ↔ V1.Pl.obj i ∈ ps := by
  unfold objIdx
  rw [List.mem_filterMap]
  constructor
  · rintro ⟨p, m, e⟩
    cases p with
    | obj j => cases e; exact m
    | pool s k => cases e
  · intro m
    exact ⟨_, m, rfl⟩
theorem objIdx_len {ps : List Pl} : (objIdx ps).length ≤ ps.length := List.length_filterMap_le _ _
section
variable {P : Program} {w : World} {K : PySem.W.Frag} {mg : Str → Option Value} {base : Heap} {CP : Addr}
def spXo (CP : Addr) : Sp := fun vs H Q _ => ∃ (p : Addr) (n : Nat) (hs : List Pl) (zs : List Nat) (fr : Nat → List Pl) (f : Nat → Nat), vs = [.ref p] ∧ PlanAt CP H p n hs zs fr f ∧ ∀ q H', Same H H' → H' q = some (.lst ((objIdx (hs ++ frs zs fr)).map nV)) → Q (.ref q) H'
theorem sc_object_origins : FnScope ["plan", "place"] ["plan"] (defScope (top 35)) := ⟨rfl, rfl, rfl, by decide +kernel, rfl, by decide +kernel, by decide +kernel⟩
theorem ok_object_origins {f : Addr} {fd : FuncData} (F : Fun K "object_origins" "object_origins" (top 35) f fd) (T : NoPl K CP) (COr : Cal P w K mg base CX0 1 "origins_of" ["heads", "fronts"] spOr) : FnOk P w K mg base CX0 2 f fd ["plan"] (spXo CP) := by
  refine F.ok sc_object_origins (fun vs H Q E h => ?_) (fun cdv A outer s H vs Q E hr h => ?_)
  · obtain ⟨p, n, hs, zs, fr, f, rfl, _⟩ := h
    rfl
  · obtain ⟨p, n, hs, zs, fr, f, rfl, ⟨⟨dx, th, df, dg, hv, h1, h2, h3, h4⟩, o, _⟩, k⟩ := h
    refine ⟨_, (pss_one (ps_ret (pe_lc (own := [("place", 1)]) (g := gName 1) (te := tOp (rIxT K) (tVar 1) (tC (.int 1))) (tt := tTest (tOp rEq (tOp (rIxT K) (tVar 1) (tC (.int 0))) (tC (.str "object")))) rfl sc_object_origins.nd (pi_list (pe_cal COr hr (by omega) pass0 (pa_cons (pe_fld (pv 0) rfl) (pa_cons (pe_fld (pv 0) rfl) pa_nil)))) (blkOk_by (N := ["plan", "place"]) (sc := defScope (top 35)) (by decide +kernel)) (fun _ _ _ _ _ => pg_name (i := 1) sc_object_origins.nd rfl (Or.inl rfl)) (fun _ _ _ _ _ => pts_one (pt_cmpR op_eq (pe_ix ix_tup (pv 1) pe_int (fun _ _ => rfl)) pe_str (nomark _))) (fun _ _ _ _ _ => (pe_ix ix_tup (pv 1) pe_int (fun _ _ => rfl)))))), ?_⟩
    have vp : ∀ {H5 : Hp}, VE (tVar 0) (.ref p) [some (.ref p), none] H5 := ve_var rfl
    refine ret_of ?_
    refine call_rd (va_cons (ve_fld vp h1 T.cl T.n1 (plF_1 _ _ _ _)) (va_cons (ve_fld vp h1 T.cl T.n3 (plF_3 _ _ _ _)) va_nil)) ⟨th, df, hv, hs, false, zs, fr, f, rfl, .inr h2, h3, h4, o.all, fun q xs H1 s1 nq hq hx => ?_⟩
    refine ⟨q, rfl, ⟨xs, SqL.of hq⟩, fun D nD => ?_⟩
    have all := o.all
    have lx : xs.length = (hs ++ frs zs fr).length := hx.1
    rw [List.length_append] at lx
    refine lc_list (xs := xs) (fun j H2 => Same H1 H2 ∧ H2 D = some (.lst ((objIdx ((hs ++ frs zs fr).take j)).map nV))) ⟨same_new (Same.refl _) nD, upd_same⟩ (fun j H2 _ z => SqL.of (z.1 _ _ hq)) (fun j x H2 hx2 z => ?_) (fun H2 z => ?_)
    · obtain ⟨s2, hD⟩ := z
      obtain ⟨pl, hp2, b, rfl, hb⟩ := hx.back hx2
      have hb2 := s2 _ _ hb
      have li := (List.getElem?_eq_some_iff.mp hp2).1
      refine ⟨rfl, ?_⟩
      have vb : ∀ {H5 : Hp}, VE (tVar 1) (.ref b) [some (.ref p), some (.ref b)] H5 := ve_var rfl
      have few : (objIdx ((hs ++ frs zs fr).take j)).length ≤ 100000 := by
        have h1 := objIdx_len (ps := (hs ++ frs zs fr).take j)
        rw [List.length_take, List.length_append] at h1
        omega
      cases pl with
      | obj i =>
        have hb2 : H2 b = some (.tup [.str "object", nV i]) := hb2
        refine (be_eqS (x := "object") (y := "object") (ve_ixT (n := 0) vb hb2 ve_c rfl) ve_c) H2 (Same.refl _) _ fun H3 s3 => ?_
        rw [if_pos (by decide +kernel)]
        refine (ve_ixT (n := 1) vb (s3 _ _ hb2) ve_c rfl) H3 (Same.refl _) _ ⟨_, s3 _ _ hD, by rw [List.length_map, sizeLine_eq]; omega, same_updL (s2.trans s3) nD, ?_⟩
        rw [upd_same, start_drop _ _ _ hp2, objIdx_app, List.map_append]
        rfl
      | pool t l =>
        have hb2 : H2 b = some (.tup [.str "pool", nV t, nV l]) := hb2
        refine (be_eqS (x := "pool") (y := "object") (ve_ixT (n := 0) vb hb2 ve_c rfl) ve_c) H2 (Same.refl _) _ fun H3 s3 => ?_
        rw [if_neg (by decide +kernel)]
        refine ⟨s2.trans s3, ?_⟩
        rw [start_drop _ _ _ hp2, objIdx_app, s3 _ _ hD]
        show _ = some (HO.lst ((objIdx _ ++ []).map nV))
        rw [List.append_nil]
    · obtain ⟨s2, hD⟩ := z
      refine k D H2 (s1.trans s2) ?_
      rw [hD, lx, ← List.length_append, List.take_length]
theorem ho_rest {tg tq : TE} {σ : St} {H2 : Hp} {g : Nat} {q : Addr} {idx : List Nat} {Q : VK} (vg : VE tg (nV g) σ H2) (vq : VE tq (.ref q) σ H2) (hq : H2 q = some (.lst (idx.map nV)))
    (k : ∀ h H', Same H2 H' → (∀ m, h ≤ m ↔ g ≤ m ∧ ∀ i ∈ idx, i < m) → Q (nV h) H') : tIf (fun σ H Q => tq σ H fun x H' => ∃ k, TruV K x H' k ∧ Q k H') (tCB (fun xs H Q => ∃ i j, xs = [.int i, .int j] ∧ Q (.int (if j > i then j else i)) H) (tCons tg (tCons (tOp (rI0 fun i j => V.int (i + j)) (tCB (rMax K) (tCons tq tNil)) (tC (.int 1))) tNil))) tg σ H2 Q := by
  refine vq H2 (Same.refl _) _ ⟨_, .inl ⟨_, SqL.of hq, rfl⟩, ?_⟩
  cases idx with
  | nil =>
    rw [if_neg (by decide)]
    exact vg H2 (Same.refl _) _ (k g H2 (Same.refl _) fun m => ⟨fun h => ⟨h, fun i m => by cases m⟩, fun h => h.1⟩)
  | cons i0 is =>
    rw [show (!(List.map nV (i0 :: is)).isEmpty) = true from rfl, if_pos rfl]
    refine vg H2 (Same.refl _) _ ?_
    refine tcons_rd (vq H2 (Same.refl _) _ ?_)
    refine ⟨q, (i0 :: is).map fun (i : Nat) => (i : Int), rfl, SqL.of (by rw [hq, List.map_map]; rfl), by simp, fun m hm hle => ?_⟩
    obtain ⟨j, hj, rfl⟩ := List.mem_map.mp hm
    refine ⟨(j : Int), 1, rfl, rfl, (g : Int), (j : Int) + 1, rfl, ?_⟩
    have := k (if (j : Int) + 1 > (g : Int) then j + 1 else g) H2 (Same.refl _) fun m => ?_
    · by_cases c : (j : Int) + 1 > (g : Int)
      · rw [if_pos c] at this ⊢
        exact this
      · rw [if_neg c] at this ⊢
        exact this
    · have all : ∀ i ∈ i0 :: is, i ≤ j := fun i mi => by
        have := hle (i : Int) (List.mem_map.mpr ⟨i, mi, rfl⟩)
        omega
      by_cases c : (j : Int) + 1 > (g : Int)
      · rw [if_pos c]
        exact ⟨fun h => ⟨by omega, fun i mi => by have := all i mi; omega⟩, fun h => h.2 j hj⟩
      · rw [if_neg c]
        exact ⟨fun h => ⟨h, fun i mi => by have := all i mi; omega⟩, fun h => h.1⟩
/-- all objects that are origins are below this -/
def inside (m n : Nat) (hs : List Pl) (zs : List Nat) (fr : Nat → List Pl) : Prop := (∀ i, V1.Pl.obj i ∈ hs ++ frs zs fr → i < m) ∧ (hs.length < n → n ≤ m)
def spHo (CP : Addr) : Sp := fun vs H Q _ => ∃ (p : Addr) (n : Nat) (hs : List Pl) (zs : List Nat) (fr : Nat → List Pl) (f : Nat → Nat), vs = [.ref p] ∧ PlanAt CP H p n hs zs fr f ∧ ∀ h H', Same H H' → (∀ m, h ≤ m ↔ inside m n hs zs fr) → Q (nV h) H'
theorem sc_highest_object : FnScope ["plan", "indexes", "highest"] ["plan"] (defScope (top 36)) := ⟨rfl, rfl, rfl, by decide +kernel, rfl, by decide +kernel, by decide +kernel⟩
theorem ok_highest_object {f : Addr} {fd : FuncData} (F : Fun K "highest_object" "highest_object" (top 36) f fd) (B : Bl3 mg) (T : NoPl K CP) (CXo : Cal P w K mg base CX0 2 "object_origins" ["plan"] (spXo CP)) : FnOk P w K mg base CX0 3 f fd ["plan"] (spHo CP) := by
  refine F.ok sc_highest_object (fun vs H Q E h => ?_) (fun cdv A outer s H vs Q E hr h => ?_)
  · obtain ⟨p, n, hs, zs, fr, f, rfl, _⟩ := h
    rfl
  · obtain ⟨p, n, hs, zs, fr, f, rfl, pa, k⟩ := h
    refine ⟨_, (pss_cons (ps_set (i := 1) sc_highest_object.nd rfl (Or.inl rfl) (pe_cal CXo hr (by omega) pass0 (pa_cons (pv 0) pa_nil)))
      (pss_cons (ps_set (i := 2) sc_highest_object.nd rfl (Or.inl rfl) (pe_ifExp (pt_cmpR op_gt (pe_fld (pv 0) rfl) (pe_callB call_len_seq rfl B.len PySem.boot_len (pa_cons (pe_fld (pv 0) rfl) pa_nil)) (nomark _)) (pe_fld (pv 0) rfl) pe_int))
      (pss_one (ps_ret (pe_ifExp (pt_truth (pv 1) (fun _ => rfl)) (pe_callB (call_max2 rfl) rfl B.max (by decide +kernel) (pa_cons (pv 2) (pa_cons (pe_op op_add (pe_callB (cr_max rfl) rfl B.max (by decide +kernel) (pa_cons (pv 1) pa_nil)) pe_int) pa_nil))) (pv 2)))))), ?_⟩
    refine seq_rd (asg_of (call_rd (va_cons (ve_var (v := .ref p) rfl) va_nil) ⟨p, n, hs, zs, fr, f, rfl, pa, fun q H1 s1 hq => ?_⟩))
    refine next_rd ?_
    dsimp only
    obtain ⟨⟨dx, th, df, dg, hv, h1, h2, h3, h4⟩, o, _⟩ := pa.mono s1
    have vp : ∀ {H5 : Hp} {x y : Option V}, VE (tVar 0) (.ref p) [some (.ref p), x, y] H5 := ve_var rfl
    have hl : hv.length = hs.length := h3.1
    refine seq_rd (asg_of (ifE_be (be_gtN (ve_fld vp h1 T.cl T.n2 (plF_2 _ _ _ _)) (ve_lenT (ve_fld vp h1 T.cl T.n1 (plF_1 _ _ _ _)) h2)) fun H2 s2 => ?_))
    have hq2 := s2 _ _ hq
    refine ⟨fun c => ?_, fun c => ?_⟩
    · rw [hl] at c
      have c := of_decide_eq_true c
      refine (ve_fld vp (s2 _ _ h1) T.cl T.n2 (plF_2 _ _ _ _)) H2 (Same.refl _) _ (next_rd (ret_of (ho_rest (g := n) (ve_var rfl) (ve_var (v := .ref q) rfl) hq2 fun h H3 s3 hm => ?_)))
      refine k h H3 ((s1.trans s2).trans s3) fun m => ?_
      rw [hm m]
      exact ⟨fun z => ⟨fun i mi => z.2 i (objIdx_mem.mpr mi), fun _ => z.1⟩, fun z => ⟨z.2 c, fun i mi => z.1 i (objIdx_mem.mp mi)⟩⟩
    · rw [hl] at c
      have c := of_decide_eq_false c
      refine next_rd (ret_of (ho_rest (g := 0) (ve_var rfl) (ve_var (v := .ref q) rfl) hq2 fun h H3 s3 hm => ?_))
      refine k h H3 ((s1.trans s2).trans s3) fun m => ?_
      rw [hm m]
      exact ⟨fun z => ⟨fun i mi => z.2 i (objIdx_mem.mpr mi), fun e => (c e).elim⟩, fun z => ⟨Nat.zero_le _, fun i mi => z.1 i (objIdx_mem.mp mi)⟩⟩
end

end K1

set_option Elab.async false
set_option linter.all false
set_option maxRecDepth 100000
set_option maxHeartbeats 4000000
namespace K1
open PySem L2 W1
/-! ### one_then -/
theorem merge0 {zs : List Nat} {t : Nat → Addr} (nd : zs.Nodup) : mergeK [] (kvz zs t) = kvz zs t := by
  have key : ∀ (zs us : List Nat) (t : Nat → Addr), (us ++ zs).Nodup → mergeK (kvz us t) (kvz zs t) = kvz (us ++ zs) t := by
    intro zs
    induction zs with
    | nil => intro us t _; rw [List.append_nil]; rfl
    | cons z zs ih =>
      intro us t nd
      have nz : z ∉ us := fun m => by
        rw [List.nodup_append] at nd
        exact nd.2.2 z m z List.mem_cons_self rfl
      show mergeK (putK (kvz us t) (Sum.inl (z : Int)) (.ref (t z))) (kvz zs t) = _
      rw [kvz_put nz]
      have e : (fun u => if u = z then t z else t u) = t := by
        funext u
        by_cases c : u = z
        · rw [if_pos c, c]
        · rw [if_neg c]
      rw [e, ih (us ++ [z]) t (by rw [List.append_assoc]; exact nd), List.append_assoc]
      rfl
  have := key zs [] t (by simpa using nd)
  exact this
theorem kvz_over {zs : List Nat} {t : Nat → Addr} {s : Nat} {T : Addr} (h : s ∈ zs) : putK (kvz zs t) (Sum.inl (s : Int)) (.ref T) = kvz zs (fun u => if u = s then T else t u) := by
  unfold putK
  rw [if_pos]
  · unfold kvz
    rw [List.map_map]
    apply List.map_congr_left
    intro u _
    show (if (Sum.inl (u : Int) : Key) = Sum.inl (s : Int) then ((Sum.inl (u : Int) : Key), V.ref T) else (Sum.inl (u : Int), V.ref (t u))) = (Sum.inl (u : Int), V.ref (if u = s then T else t u))
    by_cases c : u = s
    · rw [if_pos (inl_inj.mpr c), if_pos c]
    · rw [if_neg (fun e => c (inl_inj.mp e)), if_neg c]
  · rw [List.any_eq_true]
    refine ⟨(Sum.inl (s : Int), V.ref (t s)), ?_, decide_eq_true rfl⟩
    unfold kvz
    exact List.mem_map.mpr ⟨s, h, rfl⟩
theorem merge2 : ∀ {z2 z1 : List Nat} {t1 t2 : Nat → Addr}, z1.Nodup → ∃ zs t, mergeK (kvz z1 t1) (kvz z2 t2) = kvz zs t ∧ zs.Nodup ∧ ∀ s, s ∈ zs ↔ s ∈ z1 ∨ s ∈ z2
  | [], z1, t1, t2, n1 => ⟨z1, t1, rfl, n1, fun s => by simp⟩
  | z :: z2, z1, t1, t2, n1 => by
    by_cases c : z ∈ z1
    · obtain ⟨zs, t, e, n, m⟩ := merge2 (z2 := z2) (z1 := z1) (t1 := fun u => if u = z then t2 z else t1 u) (t2 := t2) n1
      refine ⟨zs, t, ?_, n, fun s => ?_⟩
      · show mergeK (putK (kvz z1 t1) (Sum.inl (z : Int)) (.ref (t2 z))) (kvz z2 t2) = _
        rw [kvz_over c]
        exact e
      · rw [m s, List.mem_cons]
        constructor
        · rintro (h | h)
          · exact .inl h
          · exact .inr (.inr h)
        · rintro (h | h | h)
          · exact .inl h
          · exact .inl (h ▸ c)
          · exact .inr h
    · obtain ⟨zs, t, e, n, m⟩ := merge2 (z2 := z2) (z1 := z1 ++ [z]) (t1 := fun u => if u = z then t2 z else t1 u) (t2 := t2) (by
        rw [List.nodup_append]
        exact ⟨n1, by simp, fun a ha b hb => by rw [List.mem_singleton] at hb; intro e; exact c (by rw [← hb, ← e]; exact ha)⟩)
      refine ⟨zs, t, ?_, n, fun s => ?_⟩
      · show mergeK (putK (kvz z1 t1) (Sum.inl (z : Int)) (.ref (t2 z))) (kvz z2 t2) = _
        rw [kvz_put c]
        exact e
      · rw [m s, List.mem_append, List.mem_singleton, List.mem_cons]
        constructor
        · rintro ((h | h) | h)
          · exact .inl h
          · exact .inr (.inl h)
          · exact .inr (.inr h)
        · rintro (h | h | h)
          · exact .inl (.inl h)
          · exact .inl (.inr h)
          · exact .inr h
theorem tmake_rd {C : Addr} {sp : Sp} {dvs : List V} {ts : TA} {σ : St} {H : Hp} {Q : VK} {E : XK} (h : ts σ H fun vs H1 => ∀ x dx, H1 x = none → H1 dx = none → dx ≠ x → sp (.ref x :: (vs ++ dvs)) (upd (upd H1 dx (.own x)) x (.ins C dx [])) (fun v H2 => v = .non ∧ Q (.ref x) H2) E) : tMake C sp dvs E ts σ H Q := h
/-- the parts of both moves, before they are made short -/
def hTh (h1 : List Pl) (fr1 : Nat → List Pl) (f1 : Nat → Nat) (h2 : List Pl) (m : Nat) : List Pl := V1.thenH (orgD h1 fr1 f1) h1 h2 m
def frTh (h1 : List Pl) (fr1 : Nat → List Pl) (f1 : Nat → Nat) (fr2 : Nat → List Pl) (f2 : Nat → Nat) (s : Nat) : List Pl := (fr2 s).map (orgD h1 fr1 f1) ++ (fr1 s).drop (f2 s)
def fTh (fr1 : Nat → List Pl) (f1 f2 : Nat → Nat) (s : Nat) : Nat := f1 s + (f2 s - (fr1 s).length)
section
variable {P : Program} {w : World} {K : PySem.W.Frag} {mg : Str → Option Value} {base : Heap} {CP : Addr}
def spOt (CP : Addr) : Sp := fun vs H Q _ => ∃ (p q : Addr) (n m : Nat) (h1 h2 : List Pl) (z1 z2 : List Nat) (fr1 fr2 : Nat → List Pl) (f1 f2 : Nat → Nat), vs = [.ref p, .ref q] ∧ PlanAt CP H p n h1 z1 fr1 f1 ∧ PlanAt CP H q m h2 z2 fr2 f2 ∧
  h1.length + h2.length ≤ 10000 ∧ (∀ s, (fr1 s).length + (fr2 s).length ≤ 10000) ∧
  ∀ r ys H', Same H H' → ys.Pairwise (· < ·) → PlanAt CP H' r m ((hTh h1 fr1 f1 h2 m).take (V1.stripH (hTh h1 fr1 f1 h2 m) (hTh h1 fr1 f1 h2 m).length)) ys (frS (frTh h1 fr1 f1 fr2 f2) (fTh fr1 f1 f2)) (fS (frTh h1 fr1 f1 fr2 f2) (fTh fr1 f1 f2)) → Q (.ref r) H'
theorem sc_one_then : FnScope ["one", "later", "place", "heads", "fronts", "size", "front", "fresh", "begin", "start", "rest"] ["one", "later"] (defScope (top 38)) := ⟨rfl, rfl, rfl, by decide +kernel, rfl, by decide +kernel, by decide +kernel⟩
theorem ok_one_then {f : Addr} {fd : FuncData} (F : Fun K "one_then" "one_then" (top 38) f fd) (B : Bl3 mg) (T : NoPl K CP) (CFo : Cal P w K mg base CX0 1 "front_of" ["plan", "size"] (spFo CP)) (COo : Cal P w K mg base CX0 2 "origin_of" ["plan", "place"] (spOo CP)) (MP : Mkr P w K mg base CX0 2 "Plan" CP plP (spPlI CP)) : FnOk P w K mg base CX0 4 f fd ["one", "later"] (spOt CP) := by
  refine F.ok sc_one_then (fun vs H Q E h => ?_) (fun cdv A outer s H vs Q E hr h => ?_)
  · obtain ⟨p, q, n, m, h1, h2, z1, z2, fr1, fr2, f1, f2, rfl, _⟩ := h
    rfl
  · obtain ⟨p, q, n, m, h1, h2, z1, z2, fr1, fr2, f1, f2, rfl, pa, qa, lenH, lenF, k⟩ := h
    refine ⟨_, (pss_cons (ps_setLc (i := 3) (y := "heads") rfl sc_one_then.nd rfl rfl (by rfl) (own := [("place", 2)]) (g := gName 2) (te := tCall (spOo CP) [] E0 (tCons (tVar 0) (tCons (tVar 2) tNil))) (tt := tYes) (pi_tup (pe_fld (pv 1) rfl)) (blkOk_by (N := ["one", "later", "place", "heads", "fronts", "size", "front", "fresh", "begin", "start", "rest"]) (sc := defScope (top 38)) (by decide +kernel)) (fun _ _ _ _ _ => pg_name (i := 2) sc_one_then.nd rfl (Or.inl rfl)) (fun _ _ _ _ _ => pts_nil) (fun _ _ _ _ _ => pe_cal COo hr (by omega) pass0 (pa_cons (pv 0) (pa_cons (pv 2) pa_nil))))
      (pss_cons (ps_expr (pe_bm PySem.F.plainAttrs_list PySem.F.slot_list_extend PySem.F.type_list_extend mt_extendA (pv 3) (pa_cons (pe_slice sl_tupA (pe_fld (pv 0) rfl) (po_some (pe_callB call_len_seq rfl B.len PySem.boot_len (pa_cons (pe_fld (pv 1) rfl) pa_nil))) (po_some (pe_fld (pv 1) rfl))) pa_nil)))
      (pss_cons (ps_set (i := 4) sc_one_then.nd rfl (Or.inl rfl) pe_dnewK)
      (pss_cons (ps_for PassesOwn.never rfl (pi_list (pe_callB (call_sortedDI rfl) rfl B.sorted (by decide +kernel) (pa_cons (pe_dun (pe_fld (pv 0) rfl) (pe_fld (pv 1) rfl)) pa_nil))) (pg_name (i := 5) sc_one_then.nd rfl (Or.inl rfl))
        (pss_cons (ps_asg (pe_cal CFo hr (by omega) pass0 (pa_cons (pv 0) (pa_cons (pv 5) pa_nil))) (pg_tup rfl (pgs_cons (pg_name (i := 6) sc_one_then.nd rfl (Or.inl rfl)) (pgs_cons (pg_name (i := 7) sc_one_then.nd rfl (Or.inl rfl)) pgs_nil))))
      (pss_cons (ps_asg (pe_cal CFo hr (by omega) pass0 (pa_cons (pv 1) (pa_cons (pv 5) pa_nil))) (pg_tup rfl (pgs_cons (pg_name (i := 8) sc_one_then.nd rfl (Or.inl rfl)) (pgs_cons (pg_name (i := 9) sc_one_then.nd rfl (Or.inl rfl)) pgs_nil))))
      (pss_cons (ps_set (i := 10) sc_one_then.nd rfl (Or.inl rfl) (pe_callTy (r := rLof K) call_list_of rfl B.list PyProof.Rows.boot_list (pa_cons (pe_slice sl_tupA (pv 6) (po_some (pv 9)) po_none) pa_nil)))
      (pss_one (ps_dput (hr1 hr) (pv 4) (pv 5) (pe_tup (pa_cons (pe_op op_cat (pe_lc (own := [("place", 2)]) (g := gName 2) (te := tCall (spOo CP) [] E0 (tCons (tVar 0) (tCons (tVar 2) tNil))) (tt := tYes) rfl sc_one_then.nd (pi_tup (pv 8)) (blkOk_by (N := ["one", "later", "place", "heads", "fronts", "size", "front", "fresh", "begin", "start", "rest"]) (sc := defScope (top 38)) (by decide +kernel)) (fun _ _ _ _ _ => pg_name (i := 2) sc_one_then.nd rfl (Or.inl rfl)) (fun _ _ _ _ _ => pts_nil) (fun _ _ _ _ _ => pe_cal COo hr (by omega) pass0 (pa_cons (pv 0) (pa_cons (pv 2) pa_nil)))) (pv 10)) (pa_cons (pe_op op_add (pv 7) (pe_callB (call_max2 rfl) rfl B.max (by decide +kernel) (pa_cons pe_int (pa_cons (pe_op op_sub (pv 9) (pe_callB call_len_seq rfl B.len PySem.boot_len (pa_cons (pv 6) pa_nil))) pa_nil)))) pa_nil))) rfl))))))
      (pss_one (ps_ret (pe_mkr MP hr (by omega) pass0 (pa_cons (pv 3) (pa_cons (pe_fld (pv 1) rfl) (pa_cons (pv 4) pa_nil)))))))))), ?_⟩
    obtain ⟨⟨dx1, th1, df1, dg1, hv1, a1, a2, a3, ⟨t1, a4, a5⟩⟩, o1, _⟩ := id pa
    obtain ⟨⟨dx2, th2, df2, dg2, hv2, b1, b2, b3, ⟨t2, b4, b5⟩⟩, o2, _⟩ := id qa
    have vq0 : ∀ {H5 : Hp}, VE (tVar 1) (.ref q) [some (.ref p), some (.ref q), none, none, none, none, none, none, none, none, none] H5 := ve_var rfl
    refine seq_rd (asg_of (lc_map (o := orgD h1 fr1 f1) (ve_fld vq0 b1 T.cl T.n1 (plF_1 _ _ _ _)) b2 b3 (by omega) (fun v => rfl) (fun v pl H2 Q _ s2 pv kk => ?_) fun D H1 xs s1 nD hD hx => ?_))
    · exact call_rd (va_cons (ve_var (v := .ref p) rfl) (va_cons (ve_var (v := v) rfl) va_nil)) ⟨p, v, pl, n, h1, z1, fr1, f1, rfl, pa.mono s2, pv, kk⟩
    refine next_rd ?_
    dsimp only
    have lx : xs.length = h2.length := by rw [hx.1, List.length_map]
    have vp1 : ∀ {H5 : Hp}, VE (tVar 0) (.ref p) [some (.ref p), some (.ref q), none, some (.ref D), none, none, none, none, none, none, none] H5 := ve_var rfl
    have vq1 : ∀ {H5 : Hp}, VE (tVar 1) (.ref q) [some (.ref p), some (.ref q), none, some (.ref D), none, none, none, none, none, none, none] H5 := ve_var rfl
    refine seq_rd ⟨.ref D, rfl, .inl ⟨rfl, _, SqL.of hD⟩, ?_⟩
    refine cons_rd (slTA_rd (f := h2.length) (l := m) (ve_fld vp1 (s1 _ _ a1) T.cl T.n1 (plF_1 _ _ _ _)) (s1 _ _ a2) (VE.to (i := (hv2.length : Nat)) (ve_lenT (ve_fld vq1 (s1 _ _ b1) T.cl T.n1 (plF_1 _ _ _ _)) (s1 _ _ b2)) (by rw [b3.1])) (ve_fld vq1 (s1 _ _ b1) T.cl T.n2 (plF_2 _ _ _ _)) fun u H2 s2 hu => ?_)
    have hD2 := s2 _ _ hD
    have o1h := o1.lh
    have l3 : ((hv1.drop h2.length).take (m - h2.length)).length ≤ hv1.length := by
      rw [List.length_take, List.length_drop]
      omega
    have a3l := a3.1
    refine ⟨D, u, xs, _, rfl, rfl, hD2, .inr hu, by rw [sizeLine_eq]; omega, ?_⟩
    have s12 := s1.trans s2
    have s3 : Same H (upd H2 D (.lst (xs ++ (hv1.drop h2.length).take (m - h2.length)))) := same_updL s12 nD
    have hD3 : (upd H2 D (.lst (xs ++ (hv1.drop h2.length).take (m - h2.length)))) D = some (.lst (xs ++ (hv1.drop h2.length).take (m - h2.length))) := upd_same
    have hx3 : Ps (upd H2 D (.lst (xs ++ (hv1.drop h2.length).take (m - h2.length)))) (xs ++ (hv1.drop h2.length).take (m - h2.length)) (hTh h1 fr1 f1 h2 m) := by
      have z := (hx.mono s2).app (((a3.mono s12).drop h2.length).take (m - h2.length))
      exact ⟨z.1, fun i pl e => by
        obtain ⟨v, e1, e2⟩ := z.2 i pl e
        exact ⟨v, e1, upd_tup hD2 e2⟩⟩
    generalize upd H2 D (.lst (xs ++ (hv1.drop h2.length).take (m - h2.length))) = H3 at s3 hD3 hx3 ⊢
    refine next_rd ?_
    dsimp only
    refine seq_rd (asg_of fun G nG => ?_)
    have s4 := same_new (o := .dK []) (Same.refl H3) nG
    have hG4 : (upd H3 G (.dK [])) G = some (.dK []) := upd_same
    generalize upd H3 G (.dK []) = H4 at s4 hG4 ⊢
    refine next_rd ?_
    dsimp only
    have vp4 : ∀ {H5 : Hp}, VE (tVar 0) (.ref p) [some (.ref p), some (.ref q), none, some (.ref D), some (.ref G), none, none, none, none, none, none] H5 := ve_var rfl
    have vq4 : ∀ {H5 : Hp}, VE (tVar 1) (.ref q) [some (.ref p), some (.ref q), none, some (.ref D), some (.ref G), none, none, none, none, none, none] H5 := ve_var rfl
    have s34 := s3.trans s4
    refine seq_rd ?_
    unfold tFor
    refine tcb_rd (cons_rd fun U nU => ?_)
    have s5 := same_new (o := .dK []) s34 nU
    have hU5 : (upd H4 U (.dK [])) U = some (.dK []) := upd_same
    have hU1 : U ≠ df1 := fun z => by rw [z, s34 _ _ a4] at nU; cases nU
    have hU2 : U ≠ df2 := fun z => by rw [z, s34 _ _ b4] at nU; cases nU
    refine (ve_fld vp4 (s5 _ _ a1) T.cl T.n3 (plF_3 _ _ _ _)) _ (Same.refl _) _ ⟨df1, _, rfl, hU1, hU5, s5 _ _ a4, by rw [kvz_len, sizeLine_eq]; have := o1.lz; omega, ?_⟩
    have l6 : Lk U (upd H4 U (.dK [])) (upd (upd H4 U (.dK [])) U (.dK (mergeK [] (kvz z1 t1)))) := fun b u e n => by rw [upd_ne n]; exact e
    have s6 : Same H4 (upd (upd H4 U (.dK [])) U (.dK (mergeK [] (kvz z1 t1)))) := same_updL (same_new (Same.refl _) nU) nU
    have hU6 : (upd (upd H4 U (.dK [])) U (.dK (mergeK [] (kvz z1 t1)))) U = some (.dK (mergeK [] (kvz z1 t1))) := upd_same
    generalize upd (upd H4 U (.dK [])) U (.dK (mergeK [] (kvz z1 t1))) = H6 at l6 s6 hU6 ⊢
    have s36 := s34.trans s6
    refine (ve_fld vq4 (s36 _ _ b1) T.cl T.n3 (plF_3 _ _ _ _)) _ (Same.refl _) _ ⟨df2, _, rfl, hU2, hU6, s36 _ _ b4, by rw [merge0 o1.nz, kvz_len, kvz_len, sizeLine_eq]; have := o1.lz; have := o2.lz; omega, ?_⟩
    obtain ⟨zs, tt, ez, nz, mz⟩ := merge2 (z2 := z2) (t1 := t1) (t2 := t2) o1.nz
    rw [merge0 o1.nz, ez]
    have s7 : Same H4 (upd H6 U (.dK (kvz zs tt))) := same_updL s6 nU
    have hU7 : (upd H6 U (.dK (kvz zs tt))) U = some (.dK (kvz zs tt)) := upd_same
    generalize upd H6 U (.dK (kvz zs tt)) = H7 at s7 hU7 ⊢
    have zz : ∀ s ∈ zs, 1 ≤ s ∧ s ≤ 8 := fun s h => (mz s).mp h |>.elim (o1.sz s) (o2.sz s)
    have lz := nodup_le 8 zs nz zz
    refine ⟨U, _, zs.map (fun (s : Nat) => (s : Int)), rfl, .inl hU7, (by rw [kvz_keys, List.map_map]; rfl), (by rw [List.length_map]; omega), fun ns L perm rising nL => ?_⟩
    obtain ⟨ys, rfl, py, oy⟩ := sort_nat nz perm rising
    have s8 := same_new (o := .lst ((ys.map (fun (s : Nat) => (s : Int))).map V.int)) s7 nL
    have hL8 : (upd H7 L (.lst ((ys.map (fun (s : Nat) => (s : Int))).map V.int))) L = some (.lst ((ys.map (fun (s : Nat) => (s : Int))).map V.int)) := upd_same
    generalize upd H7 L (.lst ((ys.map (fun (s : Nat) => (s : Int))).map V.int)) = H8 at s8 hL8 ⊢
    have s38 := s34.trans s8
    refine ⟨L, rfl, ⟨_, SqL.of hL8⟩, ?_⟩
    have ndy : ys.Nodup := py.nodup_iff.mpr nz
    have nGH : H3 G = none := nG
    refine for_list (xs := (ys.map (fun (s : Nat) => (s : Int))).map V.int) (fun i σ H9 => ∃ (v5 v6 v7 v8 v9 v10 : Option V) (t : Nat → Addr), σ = [some (.ref p), some (.ref q), none, some (.ref D), some (.ref G), v5, v6, v7, v8, v9, v10] ∧ Same H3 H9 ∧ H9 L = some (.lst ((ys.map (fun (s : Nat) => (s : Int))).map V.int)) ∧ H9 G = some (.dK (kvz (ys.take i) t)) ∧ FrC true H9 (ys.take i) t (frTh h1 fr1 f1 fr2 f2) (fTh fr1 f1 f2))
      ⟨none, none, none, none, none, none, tt, rfl, s4.trans s8, hL8, s8 _ _ hG4, ⟨fun s m => by cases m⟩⟩ (fun i σ H2 _ z => by
        obtain ⟨_, _, _, _, _, _, _, _, _, z, _⟩ := z
        exact SqL.of z) ?_ ?_
    · rintro i x σ H9 hi ⟨v5, v6, v7, v8, v9, v10, t, rfl, s9, hL9, hG9, c9⟩
      obtain ⟨s, hs, rfl⟩ : ∃ s : Nat, ys[i]? = some s ∧ x = nV s := by
        rw [List.getElem?_map, List.getElem?_map] at hi
        cases e : ys[i]? with
        | none => rw [e] at hi; cases hi
        | some s => rw [e] at hi; cases hi; exact ⟨s, rfl, rfl⟩
      have new := nodup_at ndy hs
      have sH9 := s3.trans s9
      refine gname_rd ?_
      refine seq_rd (asgT (call_rd (va_cons (ve_var (v := .ref p) rfl) (va_cons (ve_var (v := nV s) rfl) va_nil)) ⟨p, s, n, h1, z1, fr1, f1, rfl, pa.mono sH9, fun T1 q1 x1 HA sA e1 e2 e3 => pair2_rd e1 ?_⟩))
      refine next_rd ?_
      dsimp only
      refine seq_rd (asgT (call_rd (va_cons (ve_var (v := .ref q) rfl) (va_cons (ve_var (v := nV s) rfl) va_nil)) ⟨q, s, m, h2, z2, fr2, f2, rfl, qa.mono (sH9.trans sA), fun T2 q2 x2 HB sB g1 g2 g3 => pair2_rd g1 ?_⟩))
      refine next_rd ?_
      dsimp only
      have e2B := sB _ _ e2
      have e3B := e3.mono sB
      have v6 : ∀ {H5 : Hp} {y : Option V}, VE (tVar 6) (.ref q1) [some (.ref p), some (.ref q), none, some (.ref D), some (.ref G), some (nV s), some (.ref q1), some (nV (f1 s)), some (.ref q2), some (nV (f2 s)), y] H5 := ve_var rfl
      have v9 : ∀ {H5 : Hp} {y : Option V}, VE (tVar 9) (nV (f2 s)) [some (.ref p), some (.ref q), none, some (.ref D), some (.ref G), some (nV s), some (.ref q1), some (nV (f1 s)), some (.ref q2), some (nV (f2 s)), y] H5 := ve_var rfl
      refine seq_rd (asg_of (tcb_rd (cons_rd (slTF_rd v6 e2B v9 fun c HC sC hc => ⟨c, _, rfl, .inr (SqT.of hc), fun R nR => ?_⟩))))
      have sR := same_new (o := .lst (x1.drop (f2 s))) sC nR
      have hR : (upd HC R (.lst (x1.drop (f2 s)))) R = some (.lst (x1.drop (f2 s))) := upd_same
      generalize upd HC R (.lst (x1.drop (f2 s))) = HD at sR hR ⊢
      refine next_rd ?_
      dsimp only
      have sBD := sR
      have g2D := sR _ _ g2
      have g3D := g3.mono sR
      have s9D := (sA.trans sB).trans sR
      have lf1 := o1.lf s
      have lf2 := o2.lf s
      refine ttup_rd (tcons_rd ?_)
      refine lc_map (o := orgD h1 fr1 f1) (ve_var (v := .ref q2) rfl) g2D g3D (by omega) (fun v => rfl) (fun v pl H2 Q _ s2 pv kk => ?_) fun M HM xm sM nM hM hxm => ?_
      · exact call_rd (va_cons (ve_var (v := .ref p) rfl) (va_cons (ve_var (v := v) rfl) va_nil)) ⟨p, v, pl, n, h1, z1, fr1, f1, rfl, pa.mono ((sH9.trans s9D).trans s2), pv, kk⟩
      refine tvar_rd (v := .ref R) rfl ?_
      have lxm : xm.length = (fr2 s).length := by rw [hxm.1, List.length_map]
      have lx1 : x1.length = (fr1 s).length := e3.1
      refine ⟨M, R, xm, x1.drop (f2 s), rfl, rfl, hM, sM _ _ hR, by rw [List.length_drop, sizeLine_eq]; omega, fun W nW => ?_⟩
      have sW := same_new (o := .lst (xm ++ x1.drop (f2 s))) (Same.refl HM) nW
      have hW : (upd HM W (.lst (xm ++ x1.drop (f2 s)))) W = some (.lst (xm ++ x1.drop (f2 s))) := upd_same
      generalize upd HM W (.lst (xm ++ x1.drop (f2 s))) = HW at sW hW ⊢
      have num : VE (tOp (rI0 fun i j => V.int (i + j)) (tVar 7) (tCB (fun xs H Q => ∃ i j, xs = [.int i, .int j] ∧ Q (.int (if j > i then j else i)) H) (tCons (tC (.int 0)) (tCons (tOp (rI0 fun i j => V.int (i - j)) (tVar 9) (tCB (fun xs H Q => ∃ p ys, xs = [V.ref p] ∧ (SqL K H p ys ∨ SqT K H p ys) ∧ Q (V.int (ys.length : Nat)) H) (tCons (tVar 6) tNil))) tNil)))) (nV (fTh fr1 f1 f2 s)) [some (.ref p), some (.ref q), none, some (.ref D), some (.ref G), some (nV s), some (.ref q1), some (nV (f1 s)), some (.ref q2), some (nV (f2 s)), some (.ref R)] HW := by
        refine VE.to (ve_add (i := (f1 s : Nat)) (ve_var rfl) (ve_max (ve_int (i := 0)) (ve_sub (i := (f2 s : Nat)) (j := (x1.length : Nat)) v9 (ve_lenT v6 (sW _ _ (sM _ _ (sR _ _ e2B))))))) ?_
        unfold fTh
        rw [lx1]
        by_cases c : ((f2 s : Int) - ((fr1 s).length : Int)) > 0
        · rw [if_pos c]; omega
        · rw [if_neg c]; omega
      refine cons_rd (num HW (Same.refl _) _ ⟨by show 2 ≤ sizeLine; decide, fun Z nZ => ?_⟩)
      have sZ := same_new (o := .tup [.ref W, nV (fTh fr1 f1 f2 s)]) (Same.refl HW) nZ
      have hZ : (upd HW Z (.tup [.ref W, nV (fTh fr1 f1 f2 s)])) Z = some (.tup [.ref W, nV (fTh fr1 f1 f2 s)]) := upd_same
      generalize upd HW Z (.tup [.ref W, nV (fTh fr1 f1 f2 s)]) = HZ at sZ hZ ⊢
      have sDZ := (sM.trans sW).trans sZ
      have s9Z := s9D.trans sDZ
      have hGZ := s9Z _ _ hG9
      refine ⟨.ref G, rfl, nV s, rfl, G, _, rfl, DPut.k (k := Sum.inl (s : Int)) hGZ (by rw [kvz_len, List.length_take, sizeLine_eq]; have := py.length_eq; omega), ?_⟩
      rw [kvz_put new, ← start_drop _ _ _ hs]
      have up : ∀ {b : Addr} {o : HO}, HZ b = some o → (∀ z, o ≠ .dK z) → (upd HZ G (.dK (kvz (ys.take (i + 1)) fun u => if u = s then Z else t u))) b = some o := fun {b o} z n => by
        rw [upd_ne]
        · exact z
        · intro e
          rw [e, hGZ] at z
          cases z
          exact n _ rfl
      refine ⟨_, _, _, _, _, _, fun u => if u = s then Z else t u, rfl, same_updL (s9.trans s9Z) nGH, up (s9Z _ _ hL9) (fun z => nofun), upd_same, ?_⟩
      rw [start_drop _ _ _ hs]
      have cZ := (c9.mono s9Z).put (T := Z) (q := W) (xs := xm ++ x1.drop (f2 s)) new hZ (sZ _ _ hW) (by
        have h1 := (hxm.mono sW).mono sZ
        have h2 := (((e3B.mono sR).mono sDZ).drop (f2 s))
        exact h1.app h2)
      exact ⟨fun u mu => by
        obtain ⟨q', xs', c1, c2, c3⟩ := cZ.each u mu
        have c2 : HZ q' = some (.lst xs') := c2
        refine ⟨q', xs', ?_, ?_, c3.1, fun i pl e => ?_⟩
        · rw [← start_drop _ _ _ hs]
          exact up c1 (fun z => nofun)
        · rw [← start_drop _ _ _ hs]
          exact up c2 (fun z => nofun)
        · obtain ⟨v, z1, b, z2, z3⟩ := c3.2 i pl e
          refine ⟨v, z1, b, z2, ?_⟩
          rw [← start_drop _ _ _ hs]
          exact up z3 (fun z => nofun)⟩
    · rintro σ H9 ⟨v5, v6, v7, v8, v9, v10, t, rfl, s9, hL9, hG9, c9⟩
      rw [List.length_map, List.length_map, List.take_length] at hG9 c9
      have sH9 := s3.trans s9
      have okT : PlanOk (hTh h1 fr1 f1 h2 m) ys (frTh h1 fr1 f1 fr2 f2) (fTh fr1 f1 f2) := {
        lh := by
          unfold hTh V1.thenH
          rw [List.length_append, List.length_map, List.length_take, List.length_drop]
          omega
        nz := ndy
        sz := fun s h => zz s (py.mem_iff.mp h)
        lf := fun s => by
          unfold frTh
          rw [List.length_append, List.length_map, List.length_drop]
          have := lenF s
          omega
        off := fun s h => by
          have h' : s ∉ zs := fun e => h (py.mem_iff.mpr e)
          rw [mz] at h'
          obtain ⟨x1, x2⟩ := o1.off s (fun e => h' (.inl e))
          obtain ⟨y1, y2⟩ := o2.off s (fun e => h' (.inr e))
          unfold frTh fTh
          rw [x1, x2, y1, y2]
          exact ⟨rfl, rfl⟩ }
      refine ret_of (tmake_rd (tcons_rd (tvar_rd (v := .ref D) rfl (tcons_rd ((ve_fld (ve_var (v := .ref q) rfl) (sH9 _ _ b1) T.cl T.n2 (plF_2 _ _ _ _)) H9 (Same.refl _) _ (cons_rd (tvar_rd (v := .ref G) rfl ?_)))))))
      refine fun x dx nx ndx ne => ?_
      have mk := made_same (H := H9) (H1 := upd (upd H9 dx (.own x)) x (.ins CP dx [])) nx ndx (fun b o e n => e)
      refine ⟨x, dx, D, G, m, _, _, ys, _, _, rfl, upd_same, mk _ _ (s9 _ _ hD3), (hx3.mono s9).mono mk, ⟨t, mk _ _ hG9, c9.mono mk⟩, okT, fun H' us lk pu mu pt => ⟨rfl, ?_⟩⟩
      exact k x us H' (sH9.trans (made_same nx ndx lk)) pu pt
end

end K1

set_option Elab.async false
set_option linter.all false
set_option maxRecDepth 100000
set_option maxHeartbeats 4000000
namespace K1
open PySem L2 W1
/-! ### is_pool, are_pools, checked_plan -/
def spPo : Sp := fun vs H Q _ => ∃ (t q : Addr) (s n : Nat) (xs : List V) (ps : List Pl), vs = [.ref t, nV s] ∧ H t = some (.tup [.ref q, nV n]) ∧ H q = some (.lst xs) ∧ Ps H xs ps ∧ (∀ p ∈ ps, Okp p ∧ ∀ u k, p = .pool u k → u = s) ∧ ps.length ≤ 10000 ∧ ∀ H', Same H H' → Q (.bl true) H'
def tPoolE (K : PySem.W.Frag) : TE := tAndV (tCall spPl [] E0 (tCons (tVar 4) tNil)) (tOrV (tOp rEq (tOp (rIxT K) (tVar 4) (tC (.int 0))) (tC (.str "object"))) (tOp rEq (tOp (rIxT K) (tVar 4) (tC (.int 1))) (tVar 1)))
def tSizeE : TE := tAndV (tCall spIs [] E0 (tCons (tVar 1) tNil)) (tCall spPo [] E0 (tCons (tDGet (tVar 0) (tVar 1)) (tCons (tVar 1) tNil)))
theorem all_true {xs : List V} : xs.all (fun _ => true) = true := by
  induction xs with
  | nil => rfl
  | cons x xs ih => rw [List.all_cons, ih]; rfl
section
variable {P : Program} {w : World} {K : PySem.W.Frag} {mg : Str → Option Value} {base : Heap} {CP : Addr}
theorem sc_is_pool : FnScope ["value", "size", "front", "fresh", "place"] ["value", "size"] (defScope (top 16)) := ⟨rfl, rfl, rfl, by decide +kernel, rfl, by decide +kernel, by decide +kernel⟩
theorem ok_is_pool {f : Addr} {fd : FuncData} (F : Fun K "is_pool" "is_pool" (top 16) f fd) (B : Bl3 mg) (CPl : Cal P w K mg base CX0 4 "is_place" ["value"] spPl) (CIc : Cal P w K mg base CX0 2 "is_count" ["value"] spIc) : FnOk P w K mg base CX0 5 f fd ["value", "size"] spPo := by
  refine F.ok sc_is_pool (fun vs H Q E h => ?_) (fun cdv A outer s H vs Q E hr h => ?_)
  · obtain ⟨t, q, s, n, xs, ps, rfl, _⟩ := h
    rfl
  · obtain ⟨t, q, s, n, xs, ps, rfl, ht, hq, hp, ok, few, k⟩ := h
    refine ⟨_, (pss_cons (ps_if (PW.pt (pw_or (pt_not (pt_val (pt_isi B.toBlt (pv 0) B.tuple PyProof.Rows.boot_tuple))) (pw_or1 (pt_cmpR op_ne (pe_callB call_len_seq rfl B.len PySem.boot_len (pa_cons (pv 0) pa_nil)) pe_int (nomark _))))) (pss_one (ps_ret pe_bl)) pss_nil)
      (pss_cons (ps_asg (pv 0) (pg_tup rfl (pgs_cons (pg_name (i := 2) sc_is_pool.nd rfl (Or.inl rfl)) (pgs_cons (pg_name (i := 3) sc_is_pool.nd rfl (Or.inl rfl)) pgs_nil))))
      (pss_cons (ps_if (PW.pt (pw_or (pt_not (pt_val (pt_isi B.toBlt (pv 2) B.list PyProof.Rows.boot_list))) (pw_or1 (pt_not (pt_val (pe_cal CIc hr (by omega) pass0 (pa_cons (pv 3) pa_nil))))))) (pss_one (ps_ret pe_bl)) pss_nil)
      (pss_one (ps_ret (pe_callB (cr_all rfl) rfl B.all PyProof.Rows.boot_all (pa_cons (pe_lc (own := [("place", 4)]) (g := gName 4) (te := tPoolE K) (tt := tYes) rfl sc_is_pool.nd (pi_list (pv 2)) (blkOk_by (N := ["value", "size", "front", "fresh", "place"]) (sc := defScope (top 16)) (by decide +kernel)) (fun _ _ _ _ _ => pg_name (i := 4) sc_is_pool.nd rfl (Or.inl rfl)) (fun _ _ _ _ _ => pts_nil) (fun _ _ _ _ _ => pe_and (pe_cal CPl hr (by omega) pass0 (pa_cons (pv 4) pa_nil)) (pe_one (pe_or (pe_cmpR op_eq (pe_ix ix_tup (pv 4) pe_int (fun _ _ => rfl)) pe_str (nomark _)) (pe_one (pe_cmpR op_eq (pe_ix ix_tup (pv 4) pe_int (fun _ _ => rfl)) (pv 1) (nomark _))))))) pa_nil))))))), ?_⟩
    have vt : ∀ {H5 : Hp} {x y z : Option V}, VE (tVar 0) (.ref t) [some (.ref t), some (nV s), x, y, z] H5 := ve_var rfl
    have c1 := be_neI (i := ((2 : Nat) : Int)) (j := 2) (H1 := H) (ve_lenT (K := K) (vt (x := none) (y := none) (z := none)) ht) ve_c
    refine seq_rd (if_be (be_or (be_not (be_isT vt ht)) fun _ => c1) fun H1 s1 => ⟨fun z => absurd z (by decide), fun _ => ?_⟩)
    refine next_rd ?_
    dsimp only
    refine seq_rd (asgT (vt H1 (Same.refl _) _ (pair2_rd (s1 _ _ ht) ?_)))
    refine next_rd ?_
    dsimp only
    have hq1 := s1 _ _ hq
    have c2 : BE (tB (tCall spIc [] E (tCons (tVar 3) tNil))) true [some (.ref t), some (nV s), some (.ref q), some (nV n), none] H1 := be_bv (bv_to (bv_call (va_cons (ve_var (v := nV n) rfl) va_nil) fun H2 s2 Q qq => ⟨(n : Nat), rfl, fun H' s' => qq H' s'⟩) (decide_eq_true (by omega)))
    refine seq_rd (if_be (be_or (be_not (be_isL (ve_var (v := .ref q) rfl) hq1)) fun _ => be_not c2) fun H2 s2 => ⟨fun z => absurd z (by decide), fun _ => ?_⟩)
    refine next_rd ?_
    dsimp only
    have hp2 := hp.mono (s1.trans s2)
    refine ret_of (all_lc (p := fun _ => true) (fun Q' z => tvar_rd (v := .ref q) rfl z) (s2 _ _ hq1) (by rw [hp.1, sizeLine_eq]; omega) (fun x => rfl) (fun x mx H3 s3 Q' kk => ?_) fun H3 s3 => ?_)
    · obtain ⟨i, hi⟩ := List.mem_iff_getElem?.mp mx
      obtain ⟨p, hpi, b, rfl, hb⟩ := hp2.back hi
      obtain ⟨okp, szp⟩ := ok p (List.mem_of_getElem? hpi)
      have vb : ∀ {H5 : Hp}, VE (tVar 4) (.ref b) [some (.ref t), some (nV s), some (.ref q), some (nV n), some (.ref b)] H5 := ve_var rfl
      have hb3 := s3 _ _ hb
      unfold tPoolE
      refine (bv_and (b := true) (c := true) (bv_call (va_cons vb va_nil) fun H4 s4 Q4 q4 => ⟨.ref b, p, rfl, ⟨b, rfl, s4 _ _ hb3⟩, okp, q4⟩) fun _ => ?_) H3 (Same.refl _) Q' kk
      cases p with
      | obj i =>
        have hb3 : H3 b = some (.tup [.str "object", nV i]) := hb3
        exact bv_to (bv_or (c := true) (bv_eqS (x := "object") (y := "object") (ve_ixT (n := 0) vb hb3 ve_c rfl) ve_c) fun z => absurd z (by decide +kernel)) (by decide +kernel)
      | pool u l =>
        have hb3 : H3 b = some (.tup [.str "pool", nV u, nV l]) := hb3
        have e := szp u l rfl
        exact bv_to (bv_or (c := true) (bv_eqS (x := "pool") (y := "object") (ve_ixT (n := 0) vb hb3 ve_c rfl) ve_c) fun _ => bv_to (bv_eqN (i := u) (j := s) (ve_ixT (n := 1) vb hb3 ve_c rfl) (ve_var rfl)) (decide_eq_true e)) (by decide +kernel)
    · rw [all_true]
      exact k H3 ((s1.trans s2).trans s3)
/-- the pools of a move, as they are handed in -/
structure PoolsIn (zs : List Nat) (fr : Nat → List Pl) : Prop where
  sz : ∀ s ∈ zs, 1 ≤ s ∧ s ≤ 8
  ok : ∀ s ∈ zs, ∀ p ∈ fr s, Okp p ∧ ∀ u k, p = .pool u k → u = s
  lf : ∀ s, (fr s).length ≤ 10000
def spAp : Sp := fun vs H Q _ => ∃ (d : Addr) (zs : List Nat) (fr : Nat → List Pl) (f : Nat → Nat), vs = [.ref d] ∧ FrG true H d zs fr f ∧ PoolsIn zs fr ∧ zs.length ≤ 8 ∧ ∀ H', Same H H' → Q (.bl true) H'
theorem sc_are_pools : FnScope ["value", "size"] ["value"] (defScope (top 17)) := ⟨rfl, rfl, rfl, by decide +kernel, rfl, by decide +kernel, by decide +kernel⟩
theorem ok_are_pools {f : Addr} {fd : FuncData} (F : Fun K "are_pools" "are_pools" (top 17) f fd) (B : Bl3 mg) (CIs : Cal P w K mg base CX0 3 "is_size" ["value"] spIs) (CPo : Cal P w K mg base CX0 5 "is_pool" ["value", "size"] spPo) : FnOk P w K mg base CX0 6 f fd ["value"] spAp := by
  refine F.ok sc_are_pools (fun vs H Q E h => ?_) (fun cdv A outer s H vs Q E hr h => ?_)
  · obtain ⟨d, zs, fr, f, rfl, _⟩ := h
    rfl
  · obtain ⟨d, zs, fr, f, rfl, ⟨t, hd, hc⟩, po, lz, k⟩ := h
    refine ⟨_, (pss_one (ps_ret (pe_and (pt_isi (T := "dict") B.toBlt (pv 0) B.dict (by decide +kernel)) (pe_one (pe_callB (cr_all rfl) rfl B.all PyProof.Rows.boot_all (pa_cons (pe_lock (pe_lc (own := [("size", 1)]) (g := gName 1) (te := tSizeE) (tt := tYes) rfl sc_are_pools.nd (pi_keys (pv 0)) (blkOk_by (N := ["value", "size"]) (sc := defScope (top 17)) (by decide +kernel)) (fun _ _ _ _ _ => pg_name (i := 1) sc_are_pools.nd rfl (Or.inl rfl)) (fun _ _ _ _ _ => pts_nil) (fun _ _ _ _ _ => pe_and (pe_cal CIs hr (by omega) pass0 (pa_cons (pv 1) pa_nil)) (pe_one (pe_cal CPo hr (by omega) pass0 (pa_cons (pe_dget (hr1 hr) (pv 0) (pv 1) (fun _ _ => rfl)) (pa_cons (pv 1) pa_nil))))))) pa_nil)))))), ?_⟩
    refine ret_of ?_
    refine (bv_isD (ve_var (v := .ref d) rfl) hd) H (Same.refl _) _ fun H1 s1 => ⟨true, rfl, ?_⟩
    rw [if_pos rfl]
    have hd1 := s1 _ _ hd
    have hc1 := hc.mono s1
    refine tcb_rd (cons_rd ⟨d, _, hd1, trivial, fun od => ?_⟩)
    refine ⟨.ref d, rfl, d, od, rfl, .inl ⟨_, upd_same, fun D nD => ?_⟩⟩
    have nDd : D ≠ d := fun z => by rw [z, upd_same] at nD; cases nD
    have nD1 : H1 D = none := by rw [upd_ne nDd] at nD; exact nD
    refine lc_it walk_keys (fun i H2 => Lk d H1 H2 ∧ H2 d = some (.frz od (.dK (kvz zs t))) ∧ H2 D = some (.lst (List.replicate i (V.bl true)))) ⟨Lk.start.trans (same_new (Same.refl _) nD), by rw [upd_ne nDd.symm]; exact upd_same, upd_same⟩ (fun i H2 _ z => z.2.1) ?_ ?_
    · rintro i x H2 H3 hi ⟨l2, d2, e2⟩ ⟨rfl, k0, v0, hk, rfl⟩
      obtain ⟨s, hz, rfl, rfl⟩ := kvz_get hk
      have m := List.mem_of_getElem? hz
      obtain ⟨q, xs, t1, t2, t3⟩ := (l2.frc hc1 hd1).each s m
      have t2 : H3 q = some (.lst xs) := t2
      refine ⟨rfl, ?_⟩
      unfold tYes
      dsimp only
      rw [if_pos rfl]
      unfold tSizeE
      have lz' := (List.getElem?_eq_some_iff.mp hz).1
      refine (bv_and (b := true) (c := true) (bv_call (va_cons (ve_var (v := nV s) rfl) va_nil) fun H4 s4 Q4 q4 => ⟨(s : Nat), rfl, by have := (po.sz s m).1; omega, by have := (po.sz s m).2; omega, q4 H4 (Same.refl _)⟩) fun _ => ?_) H3 (Same.refl _) _ fun H4 s4 => ?_
      · refine bv_call (va_cons (ve_dget (w := t) (ve_var (v := .ref d) rfl) (ve_var (v := nV s) rfl) (.inr ⟨od, d2⟩) m) (va_cons (ve_var (v := nV s) rfl) va_nil)) fun H4 s4 Q4 q4 => ⟨t s, q, s, f s, xs, fr s, rfl, s4 _ _ t1, s4 _ _ t2, t3.mono s4, po.ok s m, po.lf s, q4⟩
      · refine ⟨_, s4 _ _ e2, by rw [List.length_replicate, sizeLine_eq]; omega, (l2.trans s4).own nD1, by rw [upd_ne nDd.symm]; exact s4 _ _ d2, ?_⟩
        rw [upd_same, List.replicate_succ']
        rfl
    · rintro H2 ⟨l2, d2, e2⟩
      refine ⟨d2, ?_⟩
      have s3 := l2.stop hd1
      refine ⟨D, List.replicate (kvz zs t).length true, rfl, SqL.of (by rw [upd_ne nDd, e2, List.map_replicate]), ?_⟩
      have e : (List.replicate (kvz zs t).length true).all id = true := by simp
      rw [e]
      exact k _ (s1.trans s3)
def spCp (CP : Addr) : Sp := fun vs H Q _ => ∃ (a d : Addr) (hv : List V) (hs : List Pl) (zs : List Nat) (fr : Nat → List Pl) (f : Nat → Nat), vs = [.ref a, .ref d] ∧ H a = some (.lst hv) ∧ Ps H hv hs ∧ (∀ p ∈ hs, Okp p) ∧ FrG true H d zs fr f ∧ PlanOk hs zs fr f ∧ PoolsIn zs fr ∧
  (hs ++ frs zs fr).Nodup ∧ (∀ s k, V1.Pl.pool s k ∈ hs ++ frs zs fr → k < if s ∈ zs then f s else 0) ∧
  ∀ r ys H', Same H H' → ys.Pairwise (· < ·) → PlanAt CP H' r hs.length (hs.take (V1.stripH hs hs.length)) ys (frS fr f) (fS fr f) → Q (.ref r) H'
theorem sc_checked_plan : FnScope ["objects", "pools", "place"] ["objects", "pools"] (defScope (top 21)) := ⟨rfl, rfl, rfl, by decide +kernel, rfl, by decide +kernel, by decide +kernel⟩
theorem ok_checked_plan {f : Addr} {fd : FuncData} (F : Fun K "checked_plan" "checked_plan" (top 21) f fd) (B : Bl3 mg) (CPl : Cal P w K mg base CX0 4 "is_place" ["value"] spPl) (CAp : Cal P w K mg base CX0 6 "are_pools" ["value"] spAp) (CHt : Cal P w K mg base CX0 2 "has_origin_twice" ["heads", "fronts"] spHt) (MP : Mkr P w K mg base CX0 2 "Plan" CP plP (spPlI CP)) : FnOk P w K mg base CX0 7 f fd ["objects", "pools"] (spCp CP) := by
  refine F.ok sc_checked_plan (fun vs H Q E h => ?_) (fun cdv A outer s H vs Q E hr h => ?_)
  · obtain ⟨a, d, hv, hs, zs, fr, f, rfl, _⟩ := h
    rfl
  · obtain ⟨a, d, hv, hs, zs, fr, f, rfl, ha, hp, okh, hf, o, po, nd, fresh, k⟩ := h
    refine ⟨_, (pss_cons (ps_if (PW.pt (pw_or (pt_not (pt_val (pt_isi B.toBlt (pv 0) B.list PyProof.Rows.boot_list))) (pw_or1 (pt_not (pt_val (pe_callB (cr_all rfl) rfl B.all PyProof.Rows.boot_all (pa_cons (pe_lc (own := [("place", 2)]) (g := gName 2) (te := tCall spPl [] E0 (tCons (tVar 2) tNil)) (tt := tYes) rfl sc_checked_plan.nd (pi_list (pv 0)) (blkOk_by (N := ["objects", "pools", "place"]) (sc := defScope (top 21)) (by decide +kernel)) (fun _ _ _ _ _ => pg_name (i := 2) sc_checked_plan.nd rfl (Or.inl rfl)) (fun _ _ _ _ _ => pts_nil) (fun _ _ _ _ _ => pe_cal CPl hr (by omega) pass0 (pa_cons (pv 2) pa_nil))) pa_nil))))))) (pss_one ps_dead) pss_nil)
      (pss_cons (ps_if (pt_not (pt_val (pe_cal CAp hr (by omega) pass0 (pa_cons (pv 1) pa_nil)))) (pss_one ps_dead) pss_nil)
      (pss_cons (ps_if (pt_val (pe_cal CHt hr (by omega) pass0 (pa_cons (pv 0) (pa_cons (pv 1) pa_nil)))) (pss_one ps_dead) pss_nil)
      (pss_one (ps_ret (pe_mkr MP hr (by omega) pass0 (pa_cons (pv 0) (pa_cons (pe_callB call_len_seq rfl B.len PySem.boot_len (pa_cons (pv 0) pa_nil)) (pa_cons (pv 1) pa_nil))))))))), ?_⟩
    have va : ∀ {H5 : Hp} {x : Option V}, VE (tVar 0) (.ref a) [some (.ref a), some (.ref d), x] H5 := ve_var rfl
    have oh := o.lh
    have c1 : BE (tB (tCB (rAll K) (tCons (tLc (iList K (tVar 0)) (gName 2) tYes (tCall spPl [] E0 (tCons (tVar 2) tNil)) [2]) tNil))) true [some (.ref a), some (.ref d), none] H := be_bv fun H1 s1 Q' kk => by
      refine all_lc (p := fun _ => true) (fun Q' z => tvar_rd (v := .ref a) rfl z) (s1 _ _ ha) (by rw [hp.1, sizeLine_eq]; omega) (fun x => rfl) (fun x mx H3 s3 Q' kk => ?_) fun H3 s3 => ?_
      · obtain ⟨i, hi⟩ := List.mem_iff_getElem?.mp mx
        obtain ⟨p, hpi, pa⟩ := hp.back hi
        exact (bv_call (b := true) (va_cons (ve_var (v := x) rfl) va_nil) fun H4 s4 Q4 q4 => ⟨x, p, rfl, (pa.mono (s1.trans s3)).mono s4, okh p (List.mem_of_getElem? hpi), q4⟩) H3 (Same.refl _) Q' kk
      · rw [all_true]
        exact kk H3 s3
    refine seq_rd (if_be (be_or (be_not (be_isL va ha)) fun _ => be_not c1) fun H1 s1 => ⟨fun z => absurd z (by decide), fun _ => ?_⟩)
    refine next_rd ?_
    dsimp only
    refine seq_rd (if_be (be_not (b := true) (be_bv (bv_call (va_cons (ve_var (v := .ref d) rfl) va_nil) fun H2 s2 Q2 q2 => ⟨d, zs, fr, f, rfl, (hf.mono s1).mono s2, po, o.lz, q2⟩))) fun H2 s2 => ⟨fun z => absurd z (by decide), fun _ => ?_⟩)
    refine next_rd ?_
    dsimp only
    have s12 := s1.trans s2
    refine seq_rd (if_be (b := false) (be_bv (bv_call (va_cons va (va_cons (ve_var (v := .ref d) rfl) va_nil)) fun H3 s3 Q3 q3 => ⟨a, d, hv, hs, true, zs, fr, f, rfl, .inl (s3 _ _ (s12 _ _ ha)), (hp.mono s12).mono s3, (hf.mono s12).mono s3, o.all, nd, fresh, q3⟩)) fun H3 s3 => ⟨fun z => absurd z (by decide), fun _ => ?_⟩)
    refine next_rd ?_
    dsimp only
    have s13 := s12.trans s3
    have ha3 := s13 _ _ ha
    refine ret_of (tmake_rd (tcons_rd (va H3 (Same.refl _) _ (tcons_rd ((ve_lenL va ha3) H3 (Same.refl _) _ (cons_rd (tvar_rd (v := .ref d) rfl ?_)))))))
    refine fun x dx nx ndx ne => ?_
    have mk := made_same (H := H3) (H1 := upd (upd H3 dx (.own x)) x (.ins CP dx [])) nx ndx (fun b o e n => e)
    rw [hp.1]
    refine ⟨x, dx, a, d, hs.length, hv, hs, zs, fr, f, rfl, upd_same, mk _ _ ha3, (hp.mono s13).mono mk, (hf.mono s13).mono mk, o, fun H' us lk pu mu pt => ⟨rfl, ?_⟩⟩
    exact k x us H' (s13.trans (made_same nx ndx lk)) pu pt
end

end K1

set_option Elab.async false
set_option linter.all false
set_option maxRecDepth 100000
set_option maxHeartbeats 4000000
namespace K1
open PySem L2 W1
/-! ### InvalidArgument -/
def Rz1 (C : Addr) (H : Hp) (part : V) (E : XK) : Prop := ∀ (d : Addr) (H' : Hp), Same H H' → H d = none → H' d = some (.xd [("part", part)]) → E (.ref C) (some d) H'
theorem Rz1.later {C : Addr} {H H1 : Hp} {part : V} {E : XK} (r : Rz1 C H part E) (s : Same H H1) : Rz1 C H1 part E := fun d H' s' n e => r d H' (s.trans s') (s.free n) e
def spIA (C : Addr) : Sp := fun vs H Q _ => ∃ (a : Addr) (p : V), vs = [.ref a, p] ∧ H a = some (exo a C none) ∧
  ∀ (dx : Addr) (H' : Hp), H dx = none → dx ≠ a → H' a = some (exo a C (some dx)) → H' dx = some (exd dx [("part", p)]) → (∀ b o, H b = some o → b ≠ a → H' b = some o) → Q .non H'
section
variable {P : Program} {w : World} {K : PySem.W.Frag} {mg : Str → Option Value} {base : Heap}
abbrev sIA : Stmt := inClass (top 12) 0
theorem sc_IA : FnScope ["self", "part"] ["self", "part"] (defScope sIA) := ⟨rfl, rfl, rfl, by decide +kernel, rfl, by decide +kernel, by decide +kernel⟩
theorem ok_IA {f C : Addr} {fd : FuncData} (F : Fun K "__init__" "InvalidArgument.__init__" sIA f fd) (T : ExA K C) (n1 : PySem.W.findIn K (.ref C) "part" = some none) : FnOk P w K mg base CX0 1 f fd ["self", "part"] (spIA C) := by
  refine F.ok sc_IA (fun vs H Q E h => ?_) (fun cdv A outer s H vs Q E hr h => ?_)
  · obtain ⟨a, p, rfl, _⟩ := h
    rfl
  · obtain ⟨a, p, rfl, ha, k⟩ := h
    refine ⟨_, pss_one (ps_ea (pv 0) (pv 1)), ?_⟩
    refine ⟨_, rfl, _, rfl, a, C, rfl, T, n1, .inl ⟨ha, fun dx hd na => ?_⟩⟩
    refine k dx _ hd na upd_same ?_ fun b o e nb => ?_
    · rw [upd_ne na, upd_same]
    · rw [upd_ne nb, upd_ne (ne_of_none e hd)]
      exact e
structure Iac (P : Program) (w : World) (K : PySem.W.Frag) (mg : Str → Option Value) (base : Heap) (C : Addr) : Prop where
  T : ExA K C
  ex : ∃ (f : Addr) (fd : FuncData), PySem.W.findIn K (.ref C) "__init__" = some (some (.ref f)) ∧ PySem.W.typeIn K (.ref f) = some (.type "function") ∧ FnOk P w K mg base CX0 1 f fd ["self", "part"] (spIA C) ∧ Binds K fd ["self", "part"] []
  g : mg "InvalidArgument" = some (.ref C)
end
section
variable {X : Cx} {W : WX} {C : Addr} {j : Nat} {e1 : Expr} {t1 : TE} {p pos pos2 : Pos}
def tRia (C : Addr) (W : WX) (t1 : TE) : TS := fun _ σ H => tMkO C (spIA C) [] (tCons t1 tNil) σ H fun cls d H' => W cls d σ H'
theorem ps_ria (c : Iac X.prog X.w X.K X.mg X.base C) (hc : X.calm = true) (tk : Takes X W) (hr : Room j X.A) (hj : 2 ≤ j) (h1 : PE X e1 t1) (hg : Gl X "InvalidArgument" := by rfl)
    (s1 : starEach [e1] X.env = (false, eval e1 X.env) :: starEach [] X.env := by rfl) (hpl : (backTo pos (starEach [] X.env)).any (·.1) = false := by rfl) :
    PS X (.Raise (some (.Call (.Name "InvalidArgument" p) [e1] [] pos)) none pos2) (tRia C W t1) := by
  obtain ⟨f, fd, iC, tI, G, b⟩ := c.ex
  exact ps_raise hc tk (pmk_ea c.T iC tI G (hr.mono hj) b .nil pass0 hg c.g (pa_cons h1 pa_nil s1) (by decide) s1 hpl)
theorem ria_rd {H : Hp} {p : V} {E : XK} (h : Rz1 C H p E) : ([p] : List V).length ≤ 1000 ∧ ∀ a, H a = none → spIA C (.ref a :: ([p] ++ [])) (upd H a (exo a C none))
    (fun v H2 => v = .non ∧ ∃ (d : Addr) (fs : List (Str × V)), H2 a = some (exo a C (some d)) ∧ H2 d = some (exd d fs) ∧ H d = none ∧ E (.ref C) (some d) (upd (del H2 a) d (.xd fs))) (fun _ _ _ => False) := by
  refine ⟨(by show 1 ≤ 1000; decide), fun a ha => ⟨a, p, rfl, upd_same, fun dx H' n1 n2 e1 e2 kp => ?_⟩⟩
  have n0 : H dx = none := by
    rw [upd_ne n2] at n1
    exact n1
  refine ⟨rfl, dx, _, e1, e2, n0, h dx _ (fun b o z => ?_) n0 upd_same⟩
  rw [upd_ne (ne_of_none z n0), del_ne (ne_of_none z ha)]
  exact kp b o (by rw [upd_ne (ne_of_none z ha)]; exact z) (ne_of_none z ha)
end
theorem lcR2 {ta : TA} {lo hi : Int} {g : TG} {tt : TT} {te : TE} {vs : List Nat} {σ : St} {H : Hp} {Q : VK} (h : VA ta [.int lo, .int hi] σ H) (b : -(2 ^ 62) ≤ lo ∧ lo < 2 ^ 62 ∧ -(2 ^ 62) ≤ hi ∧ hi < 2 ^ 62) (Pv : Addr → Nat → Hp → Prop) (h0 : ∀ D, H D = none → Pv D 0 (upd H D (.lst [])))
    (hs : ∀ D i H1, H D = none → i < (hi - lo).toNat → Pv D i H1 → g (.int (lo + i)) (wipe σ vs) H1 fun σ2 H2 => wipe σ2 vs = wipe σ vs ∧ tt σ2 H2 fun b H3 =>
      if b = true then te σ2 H3 fun y H4 => ∃ acc, H4 D = some (.lst acc) ∧ acc.length < sizeLine ∧ Pv D (i + 1) (upd H4 D (.lst (acc ++ [y]))) else Pv D (i + 1) H3) (hd : ∀ D H1, H D = none → Pv D (hi - lo).toNat H1 → Q (.ref D) H1) : tLc (iRng2 ta) g tt te vs σ H Q :=
  h H (Same.refl _) _ ⟨lo, hi, rfl, b, fun D nD => lc_range (Pv D) (h0 D nD) (fun i H1 hi z => hs D i H1 nD hi z) (fun H1 z => hd D H1 nD z)⟩
theorem lcR1 {ta : TA} {m : Int} {g : TG} {tt : TT} {te : TE} {vs : List Nat} {σ : St} {H : Hp} {Q : VK} (h : VA ta [.int m] σ H) (b : -(2 ^ 62) ≤ m ∧ m < 2 ^ 62) (Pv : Addr → Nat → Hp → Prop) (h0 : ∀ D, H D = none → Pv D 0 (upd H D (.lst [])))
    (hs : ∀ D i H1, H D = none → i < m.toNat → Pv D i H1 → g (.int (0 + i)) (wipe σ vs) H1 fun σ2 H2 => wipe σ2 vs = wipe σ vs ∧ tt σ2 H2 fun b H3 =>
      if b = true then te σ2 H3 fun y H4 => ∃ acc, H4 D = some (.lst acc) ∧ acc.length < sizeLine ∧ Pv D (i + 1) (upd H4 D (.lst (acc ++ [y]))) else Pv D (i + 1) H3) (hd : ∀ D H1, H D = none → Pv D m.toNat H1 → Q (.ref D) H1) : tLc (iRng1 ta) g tt te vs σ H Q :=
  h H (Same.refl _) _ ⟨m, rfl, b.1, b.2, fun D nD => lc_range (Pv D) (h0 D nD) (fun i H1 hi z => hs D i H1 nD hi z) (fun H1 z => hd D H1 nD z)⟩
/-! ### objects_of -/
section
variable {P : Program} {w : World} {K : PySem.W.Frag} {mg : Str → Option Value} {base : Heap} {CP CM C : Addr}
def spOb (CP : Addr) : Sp := fun vs H Q _ => ∃ (p : Addr) (n : Nat) (hs : List Pl) (zs : List Nat) (fr : Nat → List Pl) (f : Nat → Nat), vs = [.ref p] ∧ PlanAt CP H p n hs zs fr f ∧ n ≤ 10000 ∧ hs.length ≤ n ∧ ∀ q xs H', Same H H' → H' q = some (.lst xs) → xs.length = n → Q (.ref q) H'
theorem sc_objects_of : FnScope ["plan", "places", "index"] ["plan"] (defScope (top 25)) := ⟨rfl, rfl, rfl, by decide +kernel, rfl, by decide +kernel, by decide +kernel⟩
theorem ok_objects_of {f : Addr} {fd : FuncData} (F : Fun K "objects_of" "objects_of" (top 25) f fd) (B : Bl3 mg) (T : NoPl K CP) : FnOk P w K mg base CX0 1 f fd ["plan"] (spOb CP) := by
  refine F.ok sc_objects_of (fun vs H Q E h => ?_) (fun cdv A outer s H vs Q E hr h => ?_)
  · obtain ⟨p, n, hs, zs, fr, f, rfl, _⟩ := h
    rfl
  · obtain ⟨p, n, hs, zs, fr, f, rfl, pa, n1, lh, k⟩ := h
    refine ⟨_, (pss_cons (ps_set (i := 1) sc_objects_of.nd rfl (Or.inl rfl) (pe_callTy (r := rLof K) call_list_of rfl B.list PyProof.Rows.boot_list (pa_cons (pe_fld (pv 0) rfl) pa_nil)))
      (pss_cons (ps_expr (pe_bm PySem.F.plainAttrs_list PySem.F.slot_list_extend PySem.F.type_list_extend mt_extendA (pv 1) (pa_cons (pe_lc (own := [("index", 2)]) (g := gName 2) (te := tTup (tCons (tC (.str "object")) (tCons (tVar 2) tNil))) (tt := tYes) rfl sc_objects_of.nd (pi_range2 rfl B.range (pa_cons (pe_callB call_len_seq rfl B.len PySem.boot_len (pa_cons (pe_fld (pv 0) rfl) pa_nil)) (pa_cons (pe_fld (pv 0) rfl) pa_nil))) (blkOk_by (N := ["plan", "places", "index"]) (sc := defScope (top 25)) (by decide +kernel)) (fun _ _ _ _ _ => pg_name (i := 2) sc_objects_of.nd rfl (Or.inl rfl)) (fun _ _ _ _ _ => pts_nil) (fun _ _ _ _ _ => pe_tup (pa_cons pe_str (pa_cons (pv 2) pa_nil)))) pa_nil)))
      (pss_one (ps_ret (pv 1))))), ?_⟩
    obtain ⟨⟨dx, th, df, dg, hv, h1, h2, h3, h4⟩, o, _⟩ := id pa
    have hl : hv.length = hs.length := h3.1
    have vp : ∀ {H5 : Hp} {x y : Option V}, VE (tVar 0) (.ref p) [some (.ref p), x, y] H5 := ve_var rfl
    refine seq_rd (asg_of (cb_rd (va_cons (ve_fld vp h1 T.cl T.n1 (plF_1 _ _ _ _)) va_nil) ⟨th, hv, rfl, .inr (SqT.of h2), fun q nq => ?_⟩))
    have s1 := same_new (o := .lst hv) (Same.refl H) nq
    have hq : (upd H q (.lst hv)) q = some (.lst hv) := upd_same
    generalize upd H q (.lst hv) = H1 at s1 hq ⊢
    refine next_rd ?_
    dsimp only
    refine seq_rd ⟨.ref q, rfl, .inl ⟨rfl, _, SqL.of hq⟩, cons_rd ?_⟩
    refine lcR2 (lo := (hv.length : Nat)) (hi := (n : Nat)) (va_cons (VE.to (i := (hv.length : Nat)) (ve_lenT (ve_fld vp (s1 _ _ h1) T.cl T.n1 (plF_1 _ _ _ _)) (s1 _ _ h2)) rfl) (va_cons (ve_fld vp (s1 _ _ h1) T.cl T.n2 (plF_2 _ _ _ _)) va_nil)) ⟨by omega, by omega, by omega, by omega⟩
      (fun D j H2 => Same H1 H2 ∧ ∃ xs, H2 D = some (.lst xs) ∧ xs.length = j) (fun D nD => ⟨same_new (Same.refl _) nD, [], upd_same, rfl⟩) (fun D j H2 nD hj z => ?_) (fun D H2 nD z => ?_)
    · obtain ⟨s2, xs, hD, lx⟩ := z
      refine ⟨rfl, ?_⟩
      unfold tYes
      dsimp only
      rw [if_pos rfl]
      refine ttup_rd (tcons_rd (tc_rd (cons_rd (tvar_rd (v := .int (((hv.length : Nat) : Int) + j)) rfl ⟨by show 2 ≤ sizeLine; decide, fun U nU => ?_⟩))))
      have s3 := same_new (o := .tup [.str "object", .int (((hv.length : Nat) : Int) + j)]) (Same.refl H2) nU
      refine ⟨xs, s3 _ _ hD, by rw [sizeLine_eq]; omega, same_updL (s2.trans s3) nD, _, upd_same, by rw [List.length_append, lx]; rfl⟩
    · obtain ⟨s2, xs, hD, lx⟩ := z
      have hq2 := s2 _ _ hq
      refine ⟨q, D, hv, xs, rfl, rfl, hq2, .inl hD, by rw [sizeLine_eq]; omega, ?_⟩
      refine next_rd (ret_of (tvar_rd (v := .ref q) rfl ?_))
      refine k q (hv ++ xs) _ ?_ upd_same (by rw [List.length_append]; omega)
      exact same_updL (s1.trans s2) nq
/-! ### Move -/
def mvF (q : Addr) : List (Str × V) := putF "_plan" (.ref q) []
theorem mvF_1 (q : Addr) : (mvF q).lookup ("_plan" : Str) = some (.ref q) := by
  unfold mvF
  rw [lookup_putF, if_pos rfl]
theorem mvF_no {q : Addr} {m : Str} (h : m ≠ "_plan") : (mvF q).lookup m = none := by
  unfold mvF
  rw [lookup_putF, if_neg h]
  rfl
structure NoMv (K : PySem.W.Frag) (C : Addr) : Prop where
  cl : Cls K C
  n1 : NoAttr K C "_plan"
structure IsM (K : PySem.W.Frag) (CP : Addr) : Prop where
  cl : Cls K CP
  ha : PySem.W.findIn K (.ref CP) "__class__" = some (some (.builtin "object.__class__"))
  hn : PySem.W.specialIn K (.builtin "object.__class__") "__get__" = some (some (.builtin "getset_descriptor.__get__"))
  ht : PySem.W.takesIn K (.builtin "object.__class__") = some true
  hm : PySem.W.mroIn K CP (.type "object") = some true
  kit : PySem.W.kitOne K (.ref CP) (.ref CP) = some true
  ko : ∀ t ∈ (["NoneType", "int", "list", "tuple", "dict", "str"] : List String), PySem.W.kitOne K (.type t) (.ref CP) = some false
theorem be_isM {t : TE} {σ : St} {H1 : Hp} {q dx CP : Addr} {fs : List (Str × V)} (I : IsM K CP) (h : VE t (.ref q) σ H1) (hq : H1 q = some (.ins CP dx fs)) : VE (tCB (rIsi K) (tCons t (tCons (tC (.ref CP)) tNil))) (.bl true) σ H1 :=
  fun H2 s Q k => h H2 s _ ⟨.ref q, .ref CP, .ref CP, .ref CP, true, rfl, .own CP, .base (.ins (s _ _ hq) I.cl I.ha I.hn I.ht I.hm), I.kit, k⟩
theorem be_isO {t : TE} {σ : St} {H1 : Hp} {CP : Addr} {v : V} {T : String} (I : IsM K CP) (h : VE t v σ H1) (m : T ∈ (["NoneType", "int", "list", "tuple", "dict", "str"] : List String)) (hq : ∀ H2, Same H1 H2 → TyX K H2 v (.type T)) : VE (tCB (rIsi K) (tCons t (tCons (tC (.ref CP)) tNil))) (.bl false) σ H1 :=
  fun H2 s Q k => h H2 s _ ⟨v, .ref CP, .type T, .ref CP, false, rfl, .own CP, hq H2 s, I.ko T m, k⟩
structure MvAt (CM CP : Addr) (H : Hp) (v : V) (n : Nat) (hs : List Pl) (zs : List Nat) (fr : Nat → List Pl) (f : Nat → Nat) : Prop where
  ex : ∃ (p dx q : Addr), v = .ref p ∧ H p = some (.ins CM dx (mvF q)) ∧ PlanAt CP H q n hs zs fr f
theorem MvAt.mono {H H' : Hp} {v : V} {n : Nat} {hs : List Pl} {zs : List Nat} {fr : Nat → List Pl} {f : Nat → Nat} (h : MvAt CM CP H v n hs zs fr f) (s : Same H H') : MvAt CM CP H' v n hs zs fr f := by
  obtain ⟨p, dx, q, e, hp, pa⟩ := h.ex
  exact ⟨p, dx, q, e, s _ _ hp, pa.mono s⟩
theorem MvAt.fm {S : Addr → Prop} {H H' : Hp} {v : V} {n : Nat} {hs : List Pl} {zs : List Nat} {fr : Nat → List Pl} {f : Nat → Nat} (h : MvAt CM CP H v n hs zs fr f) (s : Fm S H H') : MvAt CM CP H' v n hs zs fr f := by
  obtain ⟨p, dx, q, e, hp, pa⟩ := h.ex
  exact ⟨p, dx, q, e, s.ins hp, pa.fm s⟩
theorem PlanAt.lk {p dx : Addr} {H H1 : Hp} {fs : List (Str × V)} {q : Addr} {n : Nat} {hs : List Pl} {zs : List Nat} {fr : Nat → List Pl} {f : Nat → Nat} (h : PlanAt CP H q n hs zs fr f) (hp : H p = some (.ins CM dx fs)) (ne : q ≠ p) (l : Lk p H H1) : PlanAt CP H1 q n hs zs fr f := by
  obtain ⟨⟨dx2, th, df, dg, hv, h1, h2, h3, h4⟩, o, c, ⟨x1, x2, x3, x4, g1, g2⟩⟩ := h
  exact ⟨⟨dx2, th, df, dg, hv, l _ _ h1 ne, l _ _ h2 (fun z => by rw [z, hp] at h2; cases h2), l.psI h3 hp, l.frgI h4 hp⟩, o, c, ⟨x1, x2, x3, x4, l _ _ g1 ne, g2.lk hp l⟩⟩
def spMvI (CM CP : Addr) : Sp := fun vs H Q _ => ∃ (p dx : Addr) (v u : V), vs = [.ref p, v, u] ∧ H p = some (.ins CM dx []) ∧
  ((∃ (q : Addr) (n : Nat) (hs : List Pl) (zs : List Nat) (fr : Nat → List Pl) (f : Nat → Nat), v = .ref q ∧ PlanAt CP H q n hs zs fr f ∧ q ≠ p ∧ ∀ H', Lk p H H' → MvAt CM CP H' (.ref p) n hs zs fr f → Q .non H') ∨
   ∃ (a d : Addr) (hv : List V) (hs : List Pl) (zs : List Nat) (fr : Nat → List Pl) (f : Nat → Nat), v = .ref a ∧ u = .ref d ∧ H a = some (.lst hv) ∧ Ps H hv hs ∧ (∀ p ∈ hs, Okp p) ∧ FrG true H d zs fr f ∧ PlanOk hs zs fr f ∧ PoolsIn zs fr ∧
    (hs ++ frs zs fr).Nodup ∧ (∀ s k, V1.Pl.pool s k ∈ hs ++ frs zs fr → k < if s ∈ zs then f s else 0) ∧
    ∀ H' ys, Lk p H H' → MvAt CM CP H' (.ref p) hs.length (hs.take (V1.stripH hs hs.length)) ys (frS fr f) (fS fr f) → Q .non H')
abbrev mvP : List Str := ["self", "objects", "pools"]
theorem sc_Move___init : FnScope ["self", "objects", "pools"] ["self", "objects", "pools"] (defScope (inClass (top 47) 0)) := ⟨rfl, rfl, rfl, by decide +kernel, rfl, by decide +kernel, by decide +kernel⟩
theorem ok_mvI {f : Addr} {fd : FuncData} (F : Fun K "__init__" "Move.__init__" (inClass (top 47) 0) f fd) (B : Bl3 mg) (T : NoMv K CM) (gP : mg "Plan" = some (.ref CP)) (IP : IsM K CP) (CCp : Cal P w K mg base CX0 7 "checked_plan" ["objects", "pools"] (spCp CP)) : FnOk P w K mg base CX0 8 f fd mvP (spMvI CM CP) := by
  refine F.ok sc_Move___init (fun vs H Q E h => ?_) (fun cdv A outer s H vs Q E hr h => ?_)
  · obtain ⟨p, dx, v, u, rfl, _⟩ := h
    rfl
  · obtain ⟨p, dx, v, u, rfl, hp, h⟩ := h
    refine ⟨_, (pss_one (ps_fld (pv 0) (pe_ifExp (pt_val (pe_callB call_isi rfl B.isinstance PyProof.Rows.boot_isinstance (pa_cons (pv 1) (pa_cons (pe_glob (v := .ref CP) rfl gP rfl) pa_nil)))) (pv 1) (pe_cal CCp hr (by omega) pass0 (pa_cons (pv 1) (pa_cons (pv 2) pa_nil)))) rfl)), ?_⟩
    have fin : ∀ (q : Addr) (n : Nat) (hs : List Pl) (zs : List Nat) (fr : Nat → List Pl) (f : Nat → Nat) (H1 : Hp), Same H H1 → PlanAt CP H1 q n hs zs fr f → q ≠ p → (∀ H', Lk p H H' → MvAt CM CP H' (.ref p) n hs zs fr f → Q .non H') → Q .non (upd H1 p (.ins CM dx (mvF q))) := fun q n hs zs fr f H1 s1 pa ne k => by
      have l : Lk p H1 (upd H1 p (.ins CM dx (mvF q))) := fun b o e n => by rw [upd_ne n]; exact e
      exact k _ (fun b o e n => l _ _ (s1 _ _ e) n) ⟨p, dx, q, rfl, upd_same, pa.lk (s1 _ _ hp) ne l⟩
    rcases h with ⟨q, n, hs, zs, fr, f, rfl, pa, ne, k⟩ | ⟨a, d, hv, hs, zs, fr, f, rfl, rfl, ha, hh, okh, hf, o, po, nd, fresh, k⟩
    · obtain ⟨⟨dx2, th, df, dg, hv, h1, _⟩, _⟩ := id pa
      refine ifE_be (b := true) (be_bv (bv_ve (be_isM IP (ve_var (v := .ref q) rfl) h1))) fun H1 s1 => ⟨fun _ => ?_, fun z => absurd z (by decide)⟩
      refine tvar_rd (v := .ref q) rfl ⟨.ref p, rfl, p, CM, dx, _, rfl, s1 _ _ hp, T.cl, T.n1, by decide, ?_⟩
      exact fin q n hs zs fr f H1 s1 (pa.mono s1) ne k
    · refine ifE_be (b := false) (be_bv (bv_ve (be_isO IP (T := "list") (ve_var (v := .ref a) rfl) (by decide) fun H2 s => .base (.lst (s _ _ ha))))) fun H1 s1 => ⟨fun z => absurd z (by decide), fun _ => ?_⟩
      refine call_rd (va_cons (ve_var (v := .ref a) rfl) (va_cons (ve_var (v := .ref d) rfl) va_nil)) ⟨a, d, hv, hs, zs, fr, f, rfl, s1 _ _ ha, hh.mono s1, okh, hf.mono s1, o, po, nd, fresh, fun r ys H2 s2 py pr => ?_⟩
      have s12 := s1.trans s2
      refine ⟨.ref p, rfl, p, CM, dx, _, rfl, s12 _ _ hp, T.cl, T.n1, by decide, ?_⟩
      refine fin r _ _ ys _ _ H2 s12 pr (fun z => ?_) fun H' l m => k H' ys l m
      obtain ⟨⟨dx2, th, df, dg, hv, h1, h2, _⟩, _⟩ := pr
      have hp2 := s12 _ _ hp
      rw [z, hp2] at h1
      injection h1 with h1
      injection h1 with _ _ h1
      have := congrArg List.length h1
      revert this
      unfold plF
      intro this
      have e : (putF "goals" (V.ref dg) (putF "fronts" (V.ref df) (putF "many" (nV hs.length) (putF "heads" (V.ref th) [])))).lookup ("goals" : Str) = some (.ref dg) := by rw [lookup_putF, if_pos rfl]
      unfold plF at h1
      rw [← h1] at e
      cases e
end

end K1

set_option Elab.async false
set_option linter.all false
set_option maxRecDepth 100000
set_option maxHeartbeats 4000000
namespace K1
open PySem L2 W1
section
variable {P : Program} {w : World} {K : PySem.W.Frag} {mg : Str → Option Value} {base : Heap} {CP CM C : Addr}
theorem ve_pl {t : TE} {σ : St} {H : Hp} {p dx q : Addr} (T : NoMv K CM) (h : VE t (.ref p) σ H) (hp : H p = some (.ins CM dx (mvF q))) : VE (tFld K t "_plan") (.ref q) σ H := ve_fld h hp T.cl T.n1 (mvF_1 q)
/-! ### objects -/
def spMb (CM CP : Addr) : Sp := fun vs H Q _ => ∃ (v : V) (n : Nat) (hs : List Pl) (zs : List Nat) (fr : Nat → List Pl) (f : Nat → Nat), vs = [v] ∧ MvAt CM CP H v n hs zs fr f ∧ n ≤ 10000 ∧ hs.length ≤ n ∧ ∀ q xs H', Same H H' → H' q = some (.lst xs) → xs.length = n → Q (.ref q) H'
theorem sc_Move_objects : FnScope ["self"] ["self"] (defScope (inClass (top 47) 1)) := ⟨rfl, rfl, rfl, by decide +kernel, rfl, by decide +kernel, by decide +kernel⟩
theorem ok_objects {f : Addr} {fd : FuncData} (F : Fun K "objects" "Move.objects" (inClass (top 47) 1) f fd) (T : NoMv K CM) (COb : Cal P w K mg base CX0 1 "objects_of" ["plan"] (spOb CP)) : FnOk P w K mg base CX0 2 f fd ["self"] (spMb CM CP) := by
  refine F.ok sc_Move_objects (fun vs H Q E h => ?_) (fun cdv A outer s H vs Q E hr h => ?_)
  · obtain ⟨v, n, hs, zs, fr, f, rfl, _⟩ := h
    rfl
  · obtain ⟨v, n, hs, zs, fr, f, rfl, ⟨p, dx, q, rfl, hp, pa⟩, n1, lh, k⟩ := h
    refine ⟨_, (pss_one (ps_ret (pe_cal COb hr (by omega) pass0 (pa_cons (pe_fld (pv 0) rfl) pa_nil)))), ?_⟩
    exact call_rd (va_cons (ve_pl T (ve_var (v := .ref p) rfl) hp) va_nil) ⟨q, n, hs, zs, fr, f, rfl, pa, n1, lh, k⟩
/-! ### then -/
def spTh0 (CM CP : Addr) : Sp := fun vs H Q _ => ∃ (v u : V) (n m : Nat) (h1 h2 : List Pl) (z1 z2 : List Nat) (fr1 fr2 : Nat → List Pl) (f1 f2 : Nat → Nat), vs = [v, u] ∧ MvAt CM CP H v n h1 z1 fr1 f1 ∧ MvAt CM CP H u m h2 z2 fr2 f2 ∧
  h1.length + h2.length ≤ 10000 ∧ (∀ s, (fr1 s).length + (fr2 s).length ≤ 10000) ∧ inside n m h2 z2 fr2 ∧
  ∀ v' ys H', Same H H' → MvAt CM CP H' v' m ((hTh h1 fr1 f1 h2 m).take (V1.stripH (hTh h1 fr1 f1 h2 m) (hTh h1 fr1 f1 h2 m).length)) ys (frS (frTh h1 fr1 f1 fr2 f2) (fTh fr1 f1 f2)) (fS (frTh h1 fr1 f1 fr2 f2) (fTh fr1 f1 f2)) → Q v' H'
def spThX (CM CP C : Addr) (K : PySem.W.Frag) : Sp := fun vs H _ E => ∃ (v u : V) (n : Nat) (h1 : List Pl) (z1 : List Nat) (fr1 : Nat → List Pl) (f1 : Nat → Nat), vs = [v, u] ∧ MvAt CM CP H v n h1 z1 fr1 f1 ∧
  ((∃ (m : Nat) (h2 : List Pl) (z2 : List Nat) (fr2 : Nat → List Pl) (f2 : Nat → Nat), MvAt CM CP H u m h2 z2 fr2 f2 ∧ ¬ inside n m h2 z2 fr2) ∨ ∃ T ∈ (["NoneType", "int", "list", "tuple", "dict"] : List String), ∀ H', Same H H' → TyX K H' u (.type T)) ∧ Rz1 C H (.str "later") E
theorem be_high {E : XK} {t t2 : TE} {σ : St} {H : Hp} {q1 dx1 q2 n m : Nat} {r2 p1 : Addr} {h2 : List Pl} {z2 : List Nat} {fr2 : Nat → List Pl} {f2 : Nat → Nat} {b : Bool} (vq : ∀ H2, Same H H2 → VE t (.ref r2) σ H2) (pa : PlanAt CP H r2 m h2 z2 fr2 f2) (vn : ∀ H2, Same H H2 → VE t2 (nV n) σ H2) (hb : b = true ↔ ¬ inside n m h2 z2 fr2) :
    BE (tTest (tOp (rI0 fun i j => .bl (decide (j < i))) (tCall (spHo CP) [] E (tCons t tNil)) t2)) b σ H := fun H2 s2 Q q => by
  refine call_rd (va_cons (vq H2 s2) va_nil) ⟨r2, m, h2, z2, fr2, f2, rfl, pa.mono s2, fun h H3 s3 hm => ?_⟩
  refine (vn H3 (s2.trans s3)) H3 (Same.refl _) _ ⟨_, _, rfl, rfl, _, rfl, ?_⟩
  have e : decide (((n : Nat) : Int) < ((h : Nat) : Int)) = b := by
    rw [Bool.eq_iff_iff, hb, ← hm n]
    simp
  rw [e]
  exact q H3 s3
theorem sc_Move_then : FnScope ["self", "later"] ["self", "later"] (defScope (inClass (top 47) 6)) := ⟨rfl, rfl, rfl, by decide +kernel, rfl, by decide +kernel, by decide +kernel⟩
theorem ok_then0 {f : Addr} {fd : FuncData} (F : Fun K "then" "Move.then" (inClass (top 47) 6) f fd) (B : Bl3 mg) (T : NoMv K CM) (TP : NoPl K CP) (gM : mg "Move" = some (.ref CM)) (IM : IsM K CM) (CHo : Cal P w K mg base CX0 3 "highest_object" ["plan"] (spHo CP)) (COt : Cal P w K mg base CX0 4 "one_then" ["one", "later"] (spOt CP)) (MV : Mkr P w K mg base CX0 8 "Move" CM mvP (spMvI CM CP)) : FnOk P w K mg base CX0 10 f fd ["self", "later"] (spTh0 CM CP) := by
  refine F.ok sc_Move_then (fun vs H Q E h => ?_) (fun cdv A outer s H vs Q E hr h => ?_)
  · obtain ⟨v, u, n, m, h1, h2, z1, z2, fr1, fr2, f1, f2, rfl, _⟩ := h
    rfl
  · obtain ⟨v, u, n, m, h1, h2, z1, z2, fr1, fr2, f1, f2, rfl, ⟨p, dx, q, rfl, hp, pa⟩, ⟨p2, dx2, q2, rfl, hp2, pa2⟩, lH, lF, ins, k⟩ := h
    refine ⟨_, (pss_cons (ps_if (PW.pt (pw_or (pt_not (pt_val (pe_callB call_isi rfl B.isinstance PyProof.Rows.boot_isinstance (pa_cons (pv 1) (pa_cons (pe_glob (v := .ref CM) rfl gM rfl) pa_nil))))) (pw_or1 (pt_cmpR op_gt (pe_cal CHo hr (by omega) pass0 (pa_cons (pe_fld (pv 1) rfl) pa_nil)) (pe_fld (pe_fld (pv 0) rfl) rfl) (nomark _))))) (pss_one ps_dead) pss_nil)
      (pss_one (ps_ret (pe_mkr MV hr (by omega) pass0 (pa_cons (pe_cal COt hr (by omega) pass0 (pa_cons (pe_fld (pv 0) rfl) (pa_cons (pe_fld (pv 1) rfl) pa_nil))) (pa_cons pe_non pa_nil)))))), ?_⟩
    have vp : ∀ {H5 : Hp}, VE (tVar 0) (.ref p) [some (.ref p), some (.ref p2)] H5 := ve_var rfl
    have vu : ∀ {H5 : Hp}, VE (tVar 1) (.ref p2) [some (.ref p), some (.ref p2)] H5 := ve_var rfl
    obtain ⟨dxq, th, df, dg, hv, h1q, _⟩ := pa.ex
    refine seq_rd (if_be (b := false) (be_or (b := false) (c := false) (be_not (b := true) (be_bv (bv_ve (be_isM IM vu hp2)))) fun _ => be_high (CP := CP) (n := n) (q1 := 0) (dx1 := 0) (q2 := 0) (p1 := p) (fun H2 s2 => ve_pl T vu (s2 _ _ hp2)) pa2 (fun H2 s2 => ve_fld (ve_pl T vp (s2 _ _ hp)) (s2 _ _ h1q) TP.cl TP.n2 (plF_2 _ _ _ _)) ⟨fun z => absurd z (by decide), fun z => (z ins).elim⟩) fun H1 s1 => ⟨fun z => absurd z (by decide), fun _ => ?_⟩)
    refine next_rd ?_
    dsimp only
    refine ret_of (tmake_rd (tcons_rd (call_rd (va_cons (ve_pl T vp (s1 _ _ hp)) (va_cons (ve_pl T vu (s1 _ _ hp2)) va_nil)) ⟨q, q2, n, m, h1, h2, z1, z2, fr1, fr2, f1, f2, rfl, pa.mono s1, pa2.mono s1, lH, lF, fun r ys H2 s2 py pr => ?_⟩)))
    refine cons_rd (tc_rd fun x dx nx ndx ne => ?_)
    have mk := made_same (H := H2) (H1 := upd (upd H2 dx (.own x)) x (.ins CM dx [])) nx ndx (fun b o e n => e)
    have rx : r ≠ x := fun z => by
      obtain ⟨_, _, _, _, _, e, _⟩ := pr.ex
      rw [z, nx] at e
      cases e
    refine ⟨x, dx, _, _, rfl, upd_same, .inl ⟨r, m, _, ys, _, _, rfl, pr.mono mk, rx, fun H' l mv => ⟨rfl, k _ ys H' (s1.trans (s2.trans (made_same nx ndx l))) mv⟩⟩⟩
theorem ok_thenX {f : Addr} {fd : FuncData} (F : Fun K "then" "Move.then" (inClass (top 47) 6) f fd) (B : Bl3 mg) (T : NoMv K CM) (TP : NoPl K CP) (gM : mg "Move" = some (.ref CM)) (IM : IsM K CM) (IA : Iac P w K mg base C) (CHo : Cal P w K mg base CX0 3 "highest_object" ["plan"] (spHo CP)) : FnOk P w K mg base (L2.CX P w) 10 f fd ["self", "later"] (spThX CM CP C K) := by
  refine F.okX sc_Move_then (fun vs H Q E h => ?_) (fun cdv A outer s H vs Q E hr h => ?_)
  · obtain ⟨v, u, n, h1, z1, fr1, f1, rfl, _⟩ := h
    rfl
  · obtain ⟨v, u, n, h1, z1, fr1, f1, rfl, ⟨p, dx, q, rfl, hp, pa⟩, hu, ke⟩ := h
    refine ⟨_, (pss_cons (ps_if (PW.pt (pw_or (pt_not (pt_val (pe_callB call_isi rfl B.isinstance PyProof.Rows.boot_isinstance (pa_cons (pv 1) (pa_cons (pe_glob (v := .ref CM) rfl gM rfl) pa_nil))))) (pw_or1 (pt_cmpR op_gt (pe_cal CHo hr (by omega) pass0 (pa_cons (pe_fld (pv 1) rfl) pa_nil)) (pe_fld (pe_fld (pv 0) rfl) rfl) (nomark _))))) (pss_one (ps_ria IA rfl (takes_of rfl rfl rfl rfl) hr (by omega) pe_str)) pss_nil)
      (pss_one ps_dead)), ?_⟩
    have vp : ∀ {H5 : Hp}, VE (tVar 0) (.ref p) [some (.ref p), some u] H5 := ve_var rfl
    have vu : ∀ {H5 : Hp}, VE (tVar 1) u [some (.ref p), some u] H5 := ve_var rfl
    obtain ⟨dxq, th, df, dg, hv, h1q, _⟩ := pa.ex
    have out : ∀ H1, Same H H1 → tRia C (fun cls d σ H => E cls d H) (tC (.str "later")) { nx := fun _ _ => False, rt := Q, bk := fun _ _ => False, ct := fun _ _ => False } [some (.ref p), some u] H1 := fun H1 s1 => ria_rd (ke.later s1)
    rcases hu with ⟨m, h2, z2, fr2, f2, ⟨p2, dx2, q2, rfl, hp2, pa2⟩, nin⟩ | ⟨Ty, mT, ty⟩
    · refine seq_rd (if_be (b := true) (be_or (b := false) (c := true) (be_not (b := true) (be_bv (bv_ve (be_isM IM vu hp2)))) fun _ => be_high (CP := CP) (n := n) (q1 := 0) (dx1 := 0) (q2 := 0) (p1 := p) (fun H2 s2 => ve_pl T vu (s2 _ _ hp2)) pa2 (fun H2 s2 => ve_fld (ve_pl T vp (s2 _ _ hp)) (s2 _ _ h1q) TP.cl TP.n2 (plF_2 _ _ _ _)) ⟨fun _ => nin, fun _ => rfl⟩) fun H1 s1 => ⟨fun _ => ?_, fun z => absurd z (by decide)⟩)
      exact ria_rd (ke.later s1)
    · refine seq_rd (if_be (b := true) (be_or (b := true) (c := true) (be_not (b := false) (be_bv (bv_ve (be_isO IM vu (List.mem_append_left ["str"] mT) ty)))) fun z => absurd z (by decide)) fun H1 s1 => ⟨fun _ => ?_, fun z => absurd z (by decide)⟩)
      exact ria_rd (ke.later s1)
end

end K1

set_option Elab.async false
set_option linter.all false
set_option maxRecDepth 100000
set_option maxHeartbeats 4000000
/-! repr of lists, tuples and dicts, and of an own class -/
namespace L2
open PySem PySem.Spec PyProof.Rows
section
variable {prog : Program} {w : World} {h₀ : Heap}
/-- a dict whose keys are ints and whose values hold no dict shows as a display of its pairs -/
theorem shows_dict {a : Addr} {o : Obj} {es : Array DictEntry} {n : Nat} {kds : List (PyData × PyData)} {ks vs : List Addr} (h1 : h₀.get? a = some o) (h2 : o.cls = .type "dict") (h3 : o.data = .dict es n)
    (h4 : ReadsAll h₀ (es.toList.map (·.key)) (kds.map (·.1)) ks) (h5 : ReadsAll h₀ (es.toList.map (·.val)) (kds.map (·.2)) vs) (nk : PyData.hasDictAll (kds.map (·.1)) = false) (nv : PyData.hasDictAll (kds.map (·.2)) = false)
    (apart : (a == sysModules) = false) (sh : (PyData.dict kds).showable = true) (few : (PyData.dict kds).shown.length ≤ sizeLine) : ShowsBy prog w h₀ a (.dict kds) "dict" "dict.__repr__" := by
  have fit : (dictText (PyData.shownKv kds)).length ≤ sizeLine := by simpa only [PyData.shown] using few
  obtain ⟨sk, sv⟩ := PyData.showableKv_split kds (by simpa [PyData.showable] using sh)
  have no : ∀ {l : List PyData} {z : List Addr}, PyData.hasDictAll l = false → PyData.hasDictAll l = true → sysModules ∉ z := fun e e' => by
    rw [e] at e'
    cases e'
  have part : ∀ t : Str, (∃ p ∈ PyData.shownKv kds, t.length ≤ p.length) → t.length ≤ sizeLine := fun t ⟨p, hp, l⟩ => Nat.le_trans l (Nat.le_trans (dictText_mem_le hp) fit)
  obtain ⟨c1, hc1, r1⟩ := ReprAllK.of_readsAll (prog := prog) (w := w) h4 sk (no nk) fun t ht => part t (PyData.shownKv_key_le kds t ht)
  obtain ⟨c2, hc2, r2⟩ := ReprAllK.of_readsAll (prog := prog) (w := w) h5 sv (no nv) fun t ht => part t (PyData.shownKv_val_le kds t ht)
  have below : ReadAtMost h₀ (PyData.depthKv kds) (c1 ++ c2) := (hc1.mono (PyData.depthAll_keys_le kds)).append (hc2.mono (PyData.depthAll_vals_le kds))
  have notin : a ∉ c1 ++ c2 := not_mem_of_deeper (Reads.dict h1 h2 h3 h4 h5) (by simp only [PyData.depth]; omega) below
  refine ⟨F.slot_dict_repr, F.slot_dict_str, F.slot_dict_format, fun s k => ⟨o, k _ _ h1, h2⟩, fun A E s Q hg hu k q => ?_⟩
  simp only [PyData.depth] at hu
  simp only [PyData.shown, PyData.shownKv_eq] at q
  have e1 := r1.more_le (as' := c1 ++ c2) (fun b hb => List.mem_append_left _ hb) (PyData.depthAll_keys_le kds)
  have e2 := r2.more_le (as' := c1 ++ c2) (fun b hb => List.mem_append_right _ hb) (PyData.depthAll_vals_le kds)
  exact call_dict_reprK h1 h2 h3 apart notin (ReprEntriesK.of_two es.toList _ _ e1 e2) hg (fun b _ => Clear.nil b) hu k q (by rw [← PyData.shownKv_eq]; exact fit)
end
/-- a list or tuple of plain data, or a dict from ints to such -/
inductive ShV (K : PySem.W.Frag) (H : Hp) : V → PyData → Prop
  | dat {a : Addr} {d : PyData} (h : Dp K H (.ref a) d) (nd : d.hasDict = false) : ShV K H (.ref a) d
  | dic {a : Addr} {ks : List (Key × V)} {kds : List (Int × PyData)} (e : H a = some (.dK ks)) (hk : ks.map (·.1) = kds.map fun p => (Sum.inl p.1 : Key)) (hv : DpAll K H (ks.map (·.2)) (kds.map (·.2))) (nd : PyData.hasDictAll (kds.map (·.2)) = false) :
      ShV K H (.ref a) (.dict (kds.map fun p => (.int p.1, p.2)))
def ShOk (d : PyData) : Prop := d.showable = true ∧ d.shown.length ≤ sizeLine ∧ d.depth ≤ 60
section
variable {X : Cx} {pins : List (Addr × Obj)} {σ : St} {H : Hp} {s : Shared}
theorem kv_snd {ks : List (Key × V)} {vs : List (Key × Value)} (r : KV ks vs) : Vals (ks.map (·.2)) (vs.map (·.2)) := by
  unfold KV at r
  induction r with
  | nil => exact .nil
  | cons h _ ih => exact .cons h.2 ih
theorem pairs_keys {P : Program} {w : World} {h : Heap} : ∀ {es : List DictEntry} {vs : List (Key × Value)} {ns : List Int}, Pairs (mixKind P w) es vs → vs.map (·.1) = ns.map (fun n => (Sum.inl n : Key)) → ReadsAll h (es.map (·.key)) (ns.map PyData.int) []
  | _, _, [], .nil, _ => .nil
  | _, _, n :: ns, .cons (e := e) h1 h2 r, hn => by
    rw [List.map_cons, List.map_cons] at hn
    injection hn with n1 n2
    rw [n1] at h1
    rcases keyIs_shape (show keyIs (Sum.inl n) e.key = true from h1) with ⟨i, t, e1, e2⟩ | ⟨x, t, e1, _⟩
    · injection e1 with e1
      subst e1
      have := ReadsAll.cons (h := h) (Reads.int n t) (pairs_keys (h := h) r n2)
      rw [List.map_cons, e2]
      exact this
    · cases e1
theorem pairs_vals {P : Program} {w : World} : ∀ {es : List DictEntry} {vs : List (Key × Value)}, Pairs (mixKind P w) es vs → es.map (·.val) = vs.map (·.2)
  | _, _, .nil => rfl
  | _, _, .cons h1 h2 r => by
    rw [List.map_cons, List.map_cons, h2, pairs_vals r]
theorem ShV.by_ (I : Inv X pins σ H s) {v : V} {u : Value} {d : PyData} (h : ShV X.K H v d) (r : RelV v u) (ok : ShOk d) : ∃ a T id, u = .ref a ∧ ShowsBy X.prog X.w s.heap a d T id := by
  obtain ⟨o1, o2, _⟩ := ok
  cases h with
  | @dat a d h nd =>
    obtain rfl : u = Value.ref a := r
    obtain ⟨as, rd⟩ := Dp.reads I d _ _ h (show RelV (.ref a) (.ref a) from rfl)
    obtain ⟨T, id, S⟩ := showsBy_of_reads (prog := X.prog) (w := X.w) rd o1 (PyData.noDict_hsm nd) o2
    exact ⟨a, T, id, rfl, S⟩
  | @dic a ks kds e hk hv nd =>
    obtain rfl : u = Value.ref a := r
    obtain ⟨_, ap, vs, rel, o, es, ep, g1, g2, g3, _, pr, _⟩ := dk_of I.hok e
    obtain ⟨as, rv⟩ := Dp.readsAll I _ _ _ hv (kv_snd rel)
    have rk : ReadsAll s.heap (es.toList.map (·.key)) ((kds.map (·.1)).map PyData.int) [] := pairs_keys pr (by rw [← rel.keys, hk, List.map_map]; rfl)
    have e1 : (kds.map (·.1)).map PyData.int = (kds.map fun p => (PyData.int p.1, p.2)).map (·.1) := by
      rw [List.map_map, List.map_map]
      rfl
    have e2 : kds.map (·.2) = (kds.map fun p => (PyData.int p.1, p.2)).map (·.2) := by
      rw [List.map_map]
      rfl
    have no : PyData.hasDictAll ((kds.map fun p => (PyData.int p.1, p.2)).map (·.1)) = false := by
      rw [← e1]
      generalize kds.map (·.1) = ns
      induction ns with
      | nil => rfl
      | cons n ns ih =>
        rw [List.map_cons, PyData.hasDictAll, ih]
        rfl
    exact ⟨a, _, _, rfl, shows_dict g1 g2.1 g3 (by rw [← e1]; exact rk) (by rw [pairs_vals pr, ← e2]; exact rv) no (by rw [← e2]; exact nd) ap o1 o2⟩
/-- {x!r} -/
def tShow (K : PySem.W.Frag) (te : TE) : TE := fun σ H Q => te σ H fun x H1 => ∃ d, ShV K H1 x d ∧ ShOk d ∧ Q (.str d.shown) H1
theorem pe_show {e : Expr} {te : TE} {pos : Pos} (hg : X.A.guards = some []) (hu : X.A.units + 64 < cLine) (he : PE X e te) : PE X (.FormattedValue e 114 none pos) (tShow X.K te) := by
  refine ⟨fun pins s σ H Q I h => ?_⟩
  refine wpAny_FormattedValue_repr (thn (he.run pins s σ H _ I h) fun u s1 z => ?_)
  obtain ⟨x, H1, I1, r1, d, sh, ok, q⟩ := z
  obtain ⟨a, T, id, rfl, S⟩ := sh.by_ I1 r1 ok
  have o3 := ok.2.2
  refine wpAny_pyReprObj_slot (by omega) (S.typeIs _ fun _ _ z => z) S.slotRepr (S.call X.A X.xe s1 _ hg (by omega) (fun _ _ z => z) fun h' t tk k => ⟨_, _, rfl, ?_⟩)
  have I2 : Inv X pins σ H1 { s1 with heap := h', toks := tk } := I1.kept k
  exact wpAny_formatField_str ⟨.str d.shown, H1, I2, ⟨t, rfl⟩, q⟩ ⟨.str d.shown, H1, I2.tok _, ⟨_, rfl⟩, q⟩ ok.2.1
/-- repr(x), x such a value -/
def rShow (K : PySem.W.Frag) : List V → Hp → VK → Prop := fun xs H Q => ∃ x d, xs = [x] ∧ ShV K H x d ∧ ShOk d ∧ Q (.str d.shown) H
theorem cr_show (hg : X.A.guards = some []) (hu : X.A.units + 64 < cLine) : CallR X (.builtin "repr") (rShow X.K) := by
  intro pins s σ H xs us Q I r h
  obtain ⟨x, d, rfl, sh, ok, q⟩ := h
  obtain ⟨u, rfl, ru⟩ := vals1 r
  obtain ⟨a, T, id, rfl, S⟩ := sh.by_ I ru ok
  have o3 := ok.2.2
  refine call_repr_slot (by omega) (S.typeIs _ fun _ _ z => z) S.slotRepr (S.call X.A.in1 X.xe s _ hg (by show X.A.units + 1 + d.depth < cLine; omega) (fun _ _ z => z) fun h' t tk k => ⟨_, _, rfl, ?_⟩)
  exact ⟨.str d.shown, H, I.kept k, ⟨t, rfl⟩, q⟩
/-! ### repr(x) by an own __repr__ -/
structure OwnR (P : Program) (w : World) (K : PySem.W.Frag) (mg : Str → Option Value) (base : Heap) (k : Nat) (C : Addr) (ps : List Str) (sp : Sp) : Prop where
  ex : ∃ (f : Addr) (fd : FuncData), FnG P w K mg base CX0 k f fd ps sp ∧ PySem.W.findIn K (.ref C) "__repr__" = some (some (.ref f)) ∧ PySem.W.isFn K (.ref f) = true ∧ Binds K fd ps []
def rOwnR (C : Addr) (sp : Sp) : List V → Hp → VK → Prop := fun xs H Q => ∃ p dx fs, xs = [.ref p] ∧ H p = some (.ins C dx fs) ∧ sp xs H (fun v H' => ∃ z : Str, v = .str z ∧ Q (.str z) H') E0
theorem cr_ownR {k : Nat} {C : Addr} {ps : List Str} {sp : Sp} (O : OwnR X.prog X.w X.K X.mg X.base k C ps sp) (hg : X.A.guards = some []) (hr : Room (k + 1) X.A) : CallR X (.builtin "repr") (rOwnR C sp) := by
  intro pins s σ H xs us Q I r h
  obtain ⟨p, dx, fs, rfl, hp, ask⟩ := h
  obtain ⟨f, fd, F, hs, hf, hb⟩ := O.ex
  obtain rfl := Vals.ref1 r
  obtain ⟨m, J, _⟩ := ins_get I.hok hp
  obtain ⟨od, J, _⟩ := J.look
  obtain ⟨m, hF⟩ := I.fr
  have sb : Sub X k X.A.in1 := ⟨hr.in1, rfl⟩
  refine PySem.W.repr_K sb.room.units0 hF I.ok.mod.kin J hs hf ?_
  have e0 : Env0 X.prog X.w X.K X.mg X.base X.A.in1 X.stack s H := I.env0.in1
  have rel : Vals [V.ref p] [Value.ref p] := .cons rfl .nil
  have len := F.len _ _ _ _ ask
  refine wpAny_call (codeAny_mono (F.go X.A.in1 X.stack s H ⟨[.ref p], []⟩ [.ref p] [.ref p] _ E0 hg sb.room e0 (by
    have := hb s [.ref p] I.kIn (by simpa using len)
    simpa using this) rel ask) fun out s' z => ?_)
  rcases out with e | fl
  · exact False.elim z
  · rcases fl with _ | _ | _ | u
    case ret =>
      obtain ⟨y, H', I', ry, t, rfl, q⟩ := I.after z
      obtain ⟨tk, rfl⟩ : ∃ tk, u = Value.str t tk := ry
      exact ⟨.str t, H', I', ⟨tk, rfl⟩, q⟩
    all_goals exact False.elim z
end
end L2

set_option Elab.async false
set_option linter.all false
set_option maxRecDepth 100000
set_option maxHeartbeats 4000000
/-! == of dicts and of pairs with whatever answer -/
namespace YL
open PySem PySem.SeqAt
open AutoSeq1 (wpAny_loadPart')
section
variable {P : Program} {w : World}
/-- two tuples of one length, item by item -/
theorem tup_cmp (neg : Bool) (l b : Addr) (us ws : Array Value) (n1 n2 : Nat) (d1 d2 : Option Addr) (c1 c2 : Array (Option Value)) (same : us.size = ws.size) (ans : Nat → Bool) :
    MeetsIn P w (if neg = true then Builtin.«tuple.__ne__» ⟨[.ref l, .ref b], []⟩ else Builtin.«tuple.__eq__» ⟨[.ref l, .ref b], []⟩)
      (fun A R s => s.heap.get? l = some { cls := .type "tuple", dict := d1, data := .seq us n1, slots := c1 } ∧ s.heap.get? b = some { cls := .type "tuple", dict := d2, data := .seq ws n2, slots := c2 } ∧
        (∀ j (h1 : j < us.size) (h2 : j < ws.size), EqP P w A.in1 s us[j] ws[j] (ans j)) ∧ R (.ok (.ret (.bool (neg != (List.range us.size).all ans)))) s) := by
  intro A R s h
  obtain ⟨hp, g, d, tk, os⟩ := s
  obtain ⟨hl, hb, each, h⟩ := h
  have sub := AutoSeq1.sub_tuple_tuple
  have long : (us.toList.zip ws.toList).length = us.size := by simp [same]
  cases neg with
  | true =>
    simp only [if_true] at *
    wp_walk using wpAny_loadPart' hl, wpAny_loadPart' hb, wpAny_forIn_list _ (fun rest q s' => q.1 = none ∧ s' = ⟨hp, g, d, tk, os⟩ ∧ ∃ i, rest = (us.toList.zip ws.toList).drop i ∧ R (.ok (.ret (.bool (true != ((List.range us.size).drop i).all ans)))) ⟨hp, g, d, tk, os⟩) _
    case turn =>
      rintro ⟨y, x⟩ rest q s' ⟨hq, rfl, i, hz, hR⟩
      have lt : i < (us.toList.zip ws.toList).length := by
        refine Classical.byContradiction fun c => ?_
        rw [List.drop_of_length_le (by omega)] at hz
        cases hz
      have k1 : i < us.size := long ▸ lt
      have k2 : i < ws.size := same ▸ k1
      rw [List.drop_eq_getElem_cons lt] at hz
      injection hz with hyx more
      obtain rfl : y = us[i] := by
        have := congrArg Prod.fst hyx
        simpa using this
      obtain rfl : x = ws[i] := by
        have := congrArg Prod.snd hyx
        simpa using this
      have cut : (List.range us.size).drop i = i :: (List.range us.size).drop (i + 1) := by simp [List.drop_eq_getElem_cons, k1]
      rw [cut, List.all_cons] at hR
      refine wpAny_bind (each i k1 k2 _ _ ?_)
      cases hy : ans i with
      | true =>
        rw [hy] at hR
        wp_walk
        exact ⟨rfl, rfl, i + 1, more, by simpa using hR⟩
      | false =>
        rw [hy] at hR
        wp_walk
        simpa using hR
    case fin =>
      rintro ⟨q1, q2⟩ s' ⟨hq, rfl, i, hz, hR⟩
      simp only at hq
      subst hq
      have ge : us.size ≤ i := by
        refine Classical.byContradiction fun c => ?_
        rw [List.drop_eq_getElem_cons (by omega)] at hz
        cases hz
      rw [List.drop_of_length_le (by simpa using ge)] at hR
      wp_walk
      simpa [Builtin.Tuple.tupleCompareSizes, bne, same] using hR
    case h =>
      exact ⟨rfl, rfl, 0, rfl, by simpa using h⟩
  | false =>
    simp only [Bool.false_eq_true, if_false] at *
    wp_walk using wpAny_loadPart' hl, wpAny_loadPart' hb, wpAny_forIn_list _ (fun rest q s' => q.1 = none ∧ s' = ⟨hp, g, d, tk, os⟩ ∧ ∃ i, rest = (us.toList.zip ws.toList).drop i ∧ R (.ok (.ret (.bool (((List.range us.size).drop i).all ans)))) ⟨hp, g, d, tk, os⟩) _
    case turn =>
      rintro ⟨y, x⟩ rest q s' ⟨hq, rfl, i, hz, hR⟩
      have lt : i < (us.toList.zip ws.toList).length := by
        refine Classical.byContradiction fun c => ?_
        rw [List.drop_of_length_le (by omega)] at hz
        cases hz
      have k1 : i < us.size := long ▸ lt
      have k2 : i < ws.size := same ▸ k1
      rw [List.drop_eq_getElem_cons lt] at hz
      injection hz with hyx more
      obtain rfl : y = us[i] := by
        have := congrArg Prod.fst hyx
        simpa using this
      obtain rfl : x = ws[i] := by
        have := congrArg Prod.snd hyx
        simpa using this
      have cut : (List.range us.size).drop i = i :: (List.range us.size).drop (i + 1) := by simp [List.drop_eq_getElem_cons, k1]
      rw [cut, List.all_cons] at hR
      refine wpAny_bind (each i k1 k2 _ _ ?_)
      cases hy : ans i with
      | true =>
        rw [hy] at hR
        wp_walk
        exact ⟨rfl, rfl, i + 1, more, by simpa using hR⟩
      | false =>
        rw [hy] at hR
        wp_walk
        simpa using hR
    case fin =>
      rintro ⟨q1, q2⟩ s' ⟨hq, rfl, i, hz, hR⟩
      simp only at hq
      subst hq
      have ge : us.size ≤ i := by
        refine Classical.byContradiction fun c => ?_
        rw [List.drop_eq_getElem_cons (by omega)] at hz
        cases hz
      rw [List.drop_of_length_le (by simpa using ge)] at hR
      wp_walk
      simpa [Builtin.Tuple.tupleCompareSizes, same] using hR
    case h =>
      exact ⟨rfl, rfl, 0, rfl, by simpa using h⟩
theorem rc_tups {A : Around} {s : Shared} {l b : Addr} {us ws : Array Value} {ans : Nat → Bool} (neg : Bool) (hl : s.heap.IsTuple l us) (hb : s.heap.IsTuple b ws) (same : us.size = ws.size) (hu : A.units < cLine)
    (each : ∀ j (h1 : j < us.size) (h2 : j < ws.size), EqP P w A.in1 s us[j] ws[j] (ans j)) (E Q : Value → Shared → Prop) (h : Q (.bool (neg != (List.range us.size).all ans)) s) : wpAny (model P w) A (richCompare (if neg = true then .NotEq else .Eq) (.ref l) (.ref b)) Q E s := by
  obtain ⟨⟨k1, d1, t1, c1⟩, ho, e1, n1, e2⟩ := id hl
  obtain ⟨⟨k2, d2, t2, c2⟩, ho2, e3, n2, e4⟩ := id hb
  simp only at e1 e2 e3 e4
  subst e1 e2 e3 e4
  have ta : s.TypeIs (.ref l) "tuple" := ⟨_, ho, rfl⟩
  have tb : s.TypeIs (.ref b) "tuple" := ⟨_, ho2, rfl⟩
  have z := tup_cmp (P := P) (w := w) neg l b us ws n1 n2 d1 d2 c1 c2 same ans
  cases neg with
  | true =>
    simp only [if_true] at z ⊢
    exact wpAny_richCompare_same_room (op := .NotEq) ta tb F.slot_tuple_ne (call_meetsIn F.slot_tuple_ne ta F.entry_tuple_ne (F.args_tuple_ne_2 _ _) z ⟨ho, ho2, each, show Value.bool (true != (List.range us.size).all ans) ≠ Value.notImplemented ∧ _ from ⟨(fun x => nomatch x), h⟩⟩) hu
  | false =>
    simp only [Bool.false_eq_true, if_false] at z ⊢
    exact wpAny_richCompare_same_room (op := .Eq) ta tb F.slot_tuple_eq (call_meetsIn F.slot_tuple_eq ta F.entry_tuple_eq (F.args_tuple_eq_2 _ _) z ⟨ho, ho2, each, show Value.bool (false != (List.range us.size).all ans) ≠ Value.notImplemented ∧ _ from ⟨(fun x => nomatch x), h⟩⟩) hu
end
end YL

set_option Elab.async false
set_option linter.all false
set_option maxRecDepth 100000
set_option maxHeartbeats 4000000
namespace L2
open PySem PySem.Spec PyProof.Rows
def eqKv (ls ks : List (Int × PyData)) : Bool := ks.all fun p => match ls.find? (fun q => decide (q.1 = p.1)) with
  | some q => PyData.eqv p.2 q.2
  | none => false
/-- a dict from ints to plain data -/
def DicV (K : PySem.W.Frag) (H : Hp) (v : V) (kds : List (Int × PyData)) : Prop := ∃ (a : Addr) (ks : List (Key × V)), v = .ref a ∧ H a = some (.dK ks) ∧ ks.map (·.1) = kds.map (fun p => (Sum.inl p.1 : Key)) ∧ DpAll K H (ks.map (·.2)) (kds.map (·.2))
def Shp (kds : List (Int × PyData)) : Prop := ∀ p ∈ kds, SeqAt.shaped p.2 = true
def RdKv (h : Heap) : List (Key × Value) → List (Int × PyData) → Prop := Paired fun x p => x.1 = Sum.inl p.1 ∧ ∃ as, Reads h x.2 p.2 as
section
variable {X : Cx} {pins : List (Addr × Obj)} {σ : St} {H : Hp} {s : Shared}
theorem rdKv (I : Inv X pins σ H s) : ∀ {ks : List (Key × V)} {vs : List (Key × Value)} {kds : List (Int × PyData)}, KV ks vs → ks.map (·.1) = kds.map (fun p => (Sum.inl p.1 : Key)) → DpAll X.K H (ks.map (·.2)) (kds.map (·.2)) → RdKv s.heap vs kds
  | _, _, [], .nil, _, _ => .nil
  | _, _, _ :: _, .nil, hk, _ => nomatch hk
  | _, _, [], .cons _ _, hk, _ => nomatch hk
  | _, _, p :: kds, .cons h r, hk, hd => by
    rw [List.map_cons, List.map_cons] at hk hd
    injection hk with k1 k2
    cases hd with
    | cons d1 d2 =>
      obtain ⟨h1, h2⟩ := h
      exact .cons ⟨by rw [← h1, k1], Dp.reads I _ _ _ d1 h2⟩ (rdKv I r k2 d2)
theorem rdKv_find {h : Heap} {n : Int} : ∀ {vs : List (Key × Value)} {kds : List (Int × PyData)}, RdKv h vs kds → (valueAt vs (Sum.inl n) = none ∧ kds.find? (fun q => decide (q.1 = n)) = none) ∨ ∃ y q, valueAt vs (Sum.inl n) = some y ∧ kds.find? (fun q => decide (q.1 = n)) = some q ∧ ∃ as, Reads h y q.2 as
  | _, _, .nil => .inl ⟨rfl, rfl⟩
  | x :: vs, p :: kds, .cons h1 r => by
    obtain ⟨e, rd⟩ := h1
    unfold valueAt
    rw [List.find?_cons, List.find?_cons, e]
    by_cases c : p.1 = n
    · rw [decide_eq_true c, decide_eq_true (by rw [c])]
      exact .inr ⟨x.2, p, rfl, rfl, rd⟩
    · rw [decide_eq_false c, decide_eq_false (fun z => c (by injection z))]
      exact rdKv_find r
theorem rdKv_hits {h : Shared} {A : Around} {vb : List (Key × Value)} {lds : List (Int × PyData)} (rb : RdKv h.heap vb lds) (sb : Shp lds) (hu : A.units + 64 < cLine) :
    ∀ {va : List (Key × Value)} {kds : List (Int × PyData)}, RdKv h.heap va kds → Shp kds → PySem.W.KeqHitsP X.prog X.w A h vb va (eqKv lds kds)
  | _, _, .nil, _ => .nil
  | (k, v) :: va, p :: kds, .cons h1 r, sa => by
    obtain ⟨e, ra, rd⟩ := h1
    have e : k = Sum.inl p.1 := e
    subst e
    have more := rdKv_hits rb sb hu r fun q m => sa q (List.mem_cons_of_mem _ m)
    rcases rdKv_find (n := p.1) rb with ⟨z1, z2⟩ | ⟨y, q, z1, z2, bs, rq⟩
    · have : eqKv lds (p :: kds) = false := by
        unfold eqKv
        rw [List.all_cons, z2]
        rfl
      rw [this]
      exact .miss z1
    · have : eqKv lds (p :: kds) = (PyData.eqv p.2 q.2 && eqKv lds kds) := by
        unfold eqKv
        rw [List.all_cons, z2]
      rw [this]
      have s1 := sa p List.mem_cons_self
      have s2 := sb q (List.mem_of_find?_eq_some z2)
      exact .hit z1 (SeqAt.eqAt_reads p.2 q.2 A h v y ra bs rd rq (SeqAt.canLay_of_shaped s1) (SeqAt.canLay_of_shaped s2) (SeqAt.room_of_shaped s1 hu)).eqP more
theorem dic_rc (I : Inv X pins σ H s) {A : Around} {x y : V} {v u : Value} {kds lds : List (Int × PyData)} (hx : DicV X.K H x kds) (hy : DicV X.K H y lds) (s1 : Shp kds) (s2 : Shp lds) (rx : RelV x v) (ry : RelV y u) (hu : A.units + 66 < cLine)
    (E Q : Value → Shared → Prop) (q : Q (.bool (kds.length == lds.length && eqKv lds kds)) s) : wpAny (model X.prog X.w) A (richCompare .Eq v u) Q E s := by
  obtain ⟨a, ks, rfl, ha, ka, da⟩ := hx
  obtain ⟨b, ls, rfl, hb, kb, db⟩ := hy
  obtain rfl : v = Value.ref a := rx
  obtain rfl : u = Value.ref b := ry
  obtain ⟨_, ya, va, ra, oa⟩ := dk_of I.hok ha
  obtain ⟨_, yb, vb, rb, ob⟩ := dk_of I.hok hb
  have r1 := rdKv I ra ka da
  have r2 := rdKv I rb kb db
  refine PySem.W.rcP_dicts (knd := mixKind X.prog X.w) (r := eqKv lds kds) ya yb oa ob (by omega) (fun _ => rdKv_hits r2 s2 (by show A.units + 1 + 64 < cLine; omega) r1 s1) E Q ?_
  rw [Paired.length r1, Paired.length r2]
  exact q
end
section
variable {X : Cx}
def rEqI (K : PySem.W.Frag) : R2 := fun x y H Q => ∃ kds lds, DicV K H x kds ∧ DicV K H y lds ∧ Shp kds ∧ Shp lds ∧ Q (.bl (kds.length == lds.length && eqKv lds kds)) H
theorem op_eqI (hu : X.A.units + 66 < cLine) : OpR X (compareOp .Eq) (rEqI X.K) := by
  intro pins s σ H x y v u Q I rx ry h
  obtain ⟨kds, lds, hx, hy, s1, s2, q⟩ := h
  exact dic_rc I hx hy s1 s2 rx ry hu _ _ ⟨.bl _, H, I, rfl, q⟩
/-- (a list, a dict) == (a list, a dict) -/
def rPair (neg : Bool) (K : PySem.W.Frag) : R2 := fun x y H Q => ∃ a b x1 x2 y1 y2 d e kds lds, x = .ref a ∧ y = .ref b ∧ H a = some (.tup [x1, x2]) ∧ H b = some (.tup [y1, y2]) ∧ Dp K H x1 d ∧ Dp K H y1 e ∧ SeqAt.shaped d = true ∧ SeqAt.shaped e = true ∧
  DicV K H x2 kds ∧ DicV K H y2 lds ∧ x2 ≠ y2 ∧ Shp kds ∧ Shp lds ∧ Q (.bl (neg != (PyData.eqv d e && (kds.length == lds.length && eqKv lds kds)))) H
theorem op_pair (neg : Bool) (hu : X.A.units + 68 < cLine) : OpR X (compareOp (if neg = true then .NotEq else .Eq)) (rPair neg X.K) := by
  intro pins s σ H x y v u Q I rx ry h
  obtain ⟨a, b, x1, x2, y1, y2, d, e, kds, lds, rfl, rfl, ha, hb, p1, p2, c1, c2, k1, k2, ne, c3, c4, q⟩ := h
  obtain rfl : v = Value.ref a := rx
  obtain rfl : u = Value.ref b := ry
  obtain ⟨us, r1, t1, _⟩ := I.tuple (SqT.of ha)
  obtain ⟨ws, r2, t2, _⟩ := I.tuple (SqT.of hb)
  obtain ⟨v1, v2, rfl, g1, g2⟩ := vals2 r1
  obtain ⟨w1, w2, rfl, g3, g4⟩ := vals2 r2
  obtain ⟨as, f1⟩ := Dp.reads I d _ _ p1 g1
  obtain ⟨bs, f2⟩ := Dp.reads I e _ _ p2 g3
  have first : SeqAt.EqP X.prog X.w X.A.in1 s v1 w1 (PyData.eqv d e) := (SeqAt.eqAt_reads d e X.A.in1 s v1 w1 as bs f1 f2 (SeqAt.canLay_of_shaped c1) (SeqAt.canLay_of_shaped c2) (SeqAt.room_of_shaped c1 (by show X.A.units + 1 + 64 < cLine; omega))).eqP
  have second : SeqAt.EqP X.prog X.w X.A.in1 s v2 w2 (kds.length == lds.length && eqKv lds kds) := by
    obtain ⟨a2, _, e2, _⟩ := id k1
    obtain ⟨b2, _, e4, _⟩ := id k2
    subst e2 e4
    obtain rfl : v2 = Value.ref a2 := g2
    obtain rfl : w2 = Value.ref b2 := g4
    exact SeqAt.eqP_refs (fun z => ne (by rw [z])) fun E Q q => dic_rc I k1 k2 c3 c4 (show RelV (.ref a2) (.ref a2) from rfl) (show RelV (.ref b2) (.ref b2) from rfl) (by show X.A.units + 1 + 66 < cLine; omega) E Q q
  have each : ∀ j (h1 : j < [v1, v2].toArray.size) (h2 : j < [w1, w2].toArray.size), SeqAt.EqP X.prog X.w X.A.in1 s [v1, v2].toArray[j] [w1, w2].toArray[j] ((fun j => match j with | 0 => PyData.eqv d e | _ => (kds.length == lds.length && eqKv lds kds)) j) := fun j h1 h2 => by
    match j, h1, h2 with
    | 0, _, _ => exact first
    | 1, _, _ => exact second
  have z := YL.rc_tups (P := X.prog) (w := X.w) (A := X.A) (s := s) (l := a) (b := b) neg t1 t2 rfl (by omega) each X.xe (EP X pins σ Q) ?_
  · cases neg <;> exact z
  · refine ⟨.bl _, H, I, rfl, ?_⟩
    have : (List.range [v1, v2].toArray.size).all (fun j => match j with | 0 => PyData.eqv d e | _ => (kds.length == lds.length && eqKv lds kds)) = (PyData.eqv d e && (kds.length == lds.length && eqKv lds kds)) := by
      show (List.range 2).all _ = _
      simp [List.range, List.range.loop]
    rw [this]
    exact q
end
end L2

set_option Elab.async false
set_option linter.all false
set_option maxRecDepth 100000
set_option maxHeartbeats 4000000
namespace K1
open PySem L2 W1
theorem shaped_fr (ps : List Pl) (n : Nat) : SeqAt.shaped (.tuple [.tuple (ps.map plD), .int (n : Nat)]) = true ∧ noDic (.tuple [.tuple (ps.map plD), .int (n : Nat)]) = true := by
  obtain ⟨h1, h2, h3⟩ := plDs_ok ps
  refine ⟨?_, ?_⟩
  · have z : (PyData.tuple (ps.map plD)).canLay0 = true := by rw [PyData.canLay0]; exact h2
    unfold SeqAt.shaped
    rw [PyData.canLay0, PyData.canLayAll0, PyData.canLayAll0, PyData.canLayAll0, z, PyData.depth, PyData.depthAll, PyData.depthAll, PyData.depthAll, PyData.depth, PyData.depth]
    simp [PyData.canLay0]
    omega
  · rw [noDic, noDics, noDics, noDics, noDic, h1]
    rfl
theorem sorted_same : ∀ {zs ys : List Nat}, zs.Pairwise (· < ·) → ys.Pairwise (· < ·) → (∀ s, s ∈ zs ↔ s ∈ ys) → zs = ys
  | [], [], _, _, _ => rfl
  | [], y :: ys, _, _, h => by have := (h y).mpr List.mem_cons_self; cases this
  | z :: zs, [], _, _, h => by have := (h z).mp List.mem_cons_self; cases this
  | z :: zs, y :: ys, pz, py, h => by
    rw [List.pairwise_cons] at pz py
    have e : z = y := by
      have h1 := (h z).mp List.mem_cons_self
      have h2 := (h y).mpr List.mem_cons_self
      rcases List.mem_cons.mp h1 with e | m
      · exact e
      · rcases List.mem_cons.mp h2 with e | m2
        · exact e.symm
        · have a := py.1 z m
          have b := pz.1 y m2
          omega
    subst e
    rw [sorted_same pz.2 py.2 fun s => ?_]
    have := h s
    rw [List.mem_cons, List.mem_cons] at this
    constructor
    · intro m
      rcases this.mp (.inr m) with e | m2
      · have := pz.1 s m
        omega
      · exact m2
    · intro m
      rcases this.mpr (.inr m) with e | m2
      · have := py.1 s m
        omega
      · exact m2
section
variable {P : Program} {w : World} {K : PySem.W.Frag} {mg : Str → Option Value} {base : Heap} {CP CM C : Addr}
/-! ### == of moves -/
theorem PlanAt.zs {H H' : Hp} {p q : Addr} {n m : Nat} {hs ks : List Pl} {zs ys : List Nat} {fr fr' : Nat → List Pl} {f f' : Nat → Nat} (a : PlanAt CP H p n hs zs fr f) (b : PlanAt CP H' q m ks ys fr' f') (e : ∀ s, fr s = fr' s ∧ f s = f' s) : zs = ys := by
  refine sorted_same a.cn.1 b.cn.1 fun s => ⟨fun h => ?_, fun h => ?_⟩
  · by_cases c : s ∈ ys
    · exact c
    · have := b.ok.off s c
      rw [← (e s).1, ← (e s).2] at this
      exact (a.cn.2 s h this).elim
  · by_cases c : s ∈ zs
    · exact c
    · have := a.ok.off s c
      rw [(e s).1, (e s).2] at this
      exact (b.cn.2 s h this).elim
theorem hr66 {k : Nat} {A : Around} (r : Room k A) : A.units + 66 < cLine := by have := r.un; omega
theorem hr68 {k : Nat} {A : Around} (r : Room k A) : A.units + 68 < cLine := by have := r.un; omega
theorem plD_eqv (q p : Pl) : PyData.eqv (plD q) (plD p) = decide (q = p) := by
  cases p with
  | obj i => rw [show plD (.obj i) = .tuple [.str "object", .int (i : Nat)] from rfl, eqv_obj]
  | pool s k =>
    rw [show plD (.pool s k) = .tuple [.str "pool", .int (s : Nat), .int (k : Nat)] from rfl, eqv_pool]
    simp
theorem plDs_eqv : ∀ (ps qs : List Pl), PyData.eqvAll (ps.map plD) (qs.map plD) = decide (ps = qs)
  | [], [] => rfl
  | [], q :: qs => by rw [decide_eq_false (by simp)]; rfl
  | p :: ps, [] => by rw [decide_eq_false (by simp)]; rfl
  | p :: ps, q :: qs => by
    rw [List.map_cons, List.map_cons, PyData.eqvAll, plD_eqv, plDs_eqv ps qs]
    by_cases c : p = q
    · subst c
      simp
    · rw [decide_eq_false c, Bool.false_and]
      exact (decide_eq_false (fun z => c (by injection z))).symm
theorem shaped_frL (L : Bool) (ps : List Pl) (n : Nat) : SeqAt.shaped (.tuple [if L = true then .list (ps.map plD) else .tuple (ps.map plD), .int (n : Nat)]) = true ∧ noDic (.tuple [if L = true then .list (ps.map plD) else .tuple (ps.map plD), .int (n : Nat)]) = true := by
  cases L with
  | false => exact shaped_fr ps n
  | true =>
    obtain ⟨h1, h2, h3⟩ := plDs_ok ps
    refine ⟨?_, ?_⟩
    · have z : (PyData.list (ps.map plD)).canLay0 = true := by rw [PyData.canLay0]; exact h2
      show SeqAt.shaped (.tuple [.list (ps.map plD), .int (n : Nat)]) = true
      unfold SeqAt.shaped
      rw [PyData.canLay0, PyData.canLayAll0, PyData.canLayAll0, PyData.canLayAll0, z, PyData.depth, PyData.depthAll, PyData.depthAll, PyData.depthAll, PyData.depth, PyData.depth]
      simp [PyData.canLay0]
      omega
    · show noDic (.tuple [.list (ps.map plD), .int (n : Nat)]) = true
      rw [noDic, noDics, noDics, noDics, noDic, h1]
      rfl
/-- the data of a dict of fronts, in lists or tuples -/
def frV (L : Bool) (fr : Nat → List Pl) (f : Nat → Nat) (s : Nat) : PyData := .tuple [if L = true then .list ((fr s).map plD) else .tuple ((fr s).map plD), .int (f s : Nat)]
def frD (L : Bool) (zs : List Nat) (fr : Nat → List Pl) (f : Nat → Nat) : List (Int × PyData) := zs.map fun s => (((s : Nat) : Int), frV L fr f s)
theorem frV_eqv {L : Bool} {fr fr' : Nat → List Pl} {f f' : Nat → Nat} {s : Nat} : PyData.eqv (frV L fr f s) (frV L fr' f' s) = true ↔ fr s = fr' s ∧ f s = f' s := by
  have e : PyData.eqv (frV L fr f s) (frV L fr' f' s) = (decide (fr s = fr' s) && decide (f s = f' s)) := by
    have hn : PyData.eqv (.int (f s : Nat)) (.int (f' s : Nat)) = decide (f s = f' s) := by
      show (((f s : Nat) : Int) == ((f' s : Nat) : Int)) = _
      rw [Bool.eq_iff_iff, beq_iff_eq, decide_eq_true_iff]
      omega
    unfold frV
    cases L with
    | true =>
      show PyData.eqvAll [.list ((fr s).map plD), _] [.list ((fr' s).map plD), _] = _
      rw [PyData.eqvAll, PyData.eqvAll, PyData.eqvAll, hn, PyData.eqv, plDs_eqv, Bool.and_true]
    | false =>
      show PyData.eqvAll [.tuple ((fr s).map plD), _] [.tuple ((fr' s).map plD), _] = _
      rw [PyData.eqvAll, PyData.eqvAll, PyData.eqvAll, hn, PyData.eqv, plDs_eqv, Bool.and_true]
  rw [e]
  simp
theorem frD_find {L : Bool} {fr : Nat → List Pl} {f : Nat → Nat} {s : Nat} : ∀ {zs : List Nat}, (frD L zs fr f).find? (fun q => decide (q.1 = ((s : Nat) : Int))) = if s ∈ zs then some (((s : Nat) : Int), frV L fr f s) else none
  | [] => rfl
  | z :: zs => by
    unfold frD
    rw [List.map_cons, List.find?_cons]
    by_cases c : z = s
    · subst c
      simp
    · rw [show decide ((((z : Nat) : Int), frV L fr f z).1 = ((s : Nat) : Int)) = false from decide_eq_false (fun e => c (by have e : ((z : Nat) : Int) = ((s : Nat) : Int) := e; omega))]
      have ih := frD_find (L := L) (fr := fr) (f := f) (s := s) (zs := zs)
      unfold frD at ih
      dsimp only
      rw [ih]
      simp [List.mem_cons, Ne.symm c, eq_comm]
theorem mem_all_of_len : ∀ {zs ys : List Nat}, zs.Nodup → ys.Nodup → (∀ s ∈ zs, s ∈ ys) → zs.length = ys.length → ∀ s ∈ ys, s ∈ zs := fun {zs ys} nz ny sub len s m => by
  refine Classical.byContradiction fun c => ?_
  have h1 : (s :: zs).Nodup := List.nodup_cons.mpr ⟨c, nz⟩
  have h2 : ∀ x ∈ s :: zs, x ∈ ys := fun x mx => by
    rcases List.mem_cons.mp mx with rfl | mx
    · exact m
    · exact sub x mx
  have := List.Nodup.length_le_of_subset h1 h2
  rw [List.length_cons] at this
  omega
theorem frD_eq {L : Bool} {zs ys : List Nat} {fr fr' : Nat → List Pl} {f f' : Nat → Nat} (nz : zs.Nodup) (ny : ys.Nodup) :
    ((frD L zs fr f).length == (frD L ys fr' f').length && eqKv (frD L ys fr' f') (frD L zs fr f)) = true ↔ (∀ s, s ∈ zs ↔ s ∈ ys) ∧ ∀ s ∈ zs, fr s = fr' s ∧ f s = f' s := by
  have l1 : (frD L zs fr f).length = zs.length := List.length_map ..
  have l2 : (frD L ys fr' f').length = ys.length := List.length_map ..
  have one : ∀ s : Nat, (match (frD L ys fr' f').find? (fun q => decide (q.1 = ((s : Nat) : Int))) with
      | some q => PyData.eqv (frV L fr f s) q.2
      | none => false) = true ↔ s ∈ ys ∧ fr s = fr' s ∧ f s = f' s := fun s => by
    rw [frD_find]
    by_cases c : s ∈ ys
    · rw [if_pos c]
      exact ⟨fun z => ⟨c, frV_eqv.mp z⟩, fun z => frV_eqv.mpr z.2⟩
    · rw [if_neg c]
      exact ⟨(fun z => by cases z), fun z => (c z.1).elim⟩
  have all : eqKv (frD L ys fr' f') (frD L zs fr f) = true ↔ ∀ s ∈ zs, s ∈ ys ∧ fr s = fr' s ∧ f s = f' s := by
    unfold eqKv
    rw [List.all_eq_true]
    constructor
    · intro h s m
      exact (one s).mp (h _ (List.mem_map.mpr ⟨s, m, rfl⟩))
    · intro h p mp
      obtain ⟨s, m, rfl⟩ := List.mem_map.mp mp
      exact (one s).mpr (h s m)
  rw [Bool.and_eq_true, beq_iff_eq, l1, l2, all]
  constructor
  · rintro ⟨len, h⟩
    exact ⟨fun s => ⟨fun m => (h s m).1, fun m => mem_all_of_len nz ny (fun s m => (h s m).1) len s m⟩, fun s m => (h s m).2⟩
  · rintro ⟨mem, h⟩
    refine ⟨Nat.le_antisymm ?_ ?_, fun s m => ⟨(mem s).mp m, h s m⟩⟩
    · exact List.Nodup.length_le_of_subset nz fun s m => (mem s).mp m
    · exact List.Nodup.length_le_of_subset ny fun s m => (mem s).mpr m
theorem frD_shp {L : Bool} {zs : List Nat} {fr : Nat → List Pl} {f : Nat → Nat} : Shp (frD L zs fr f) := fun p m => by
  obtain ⟨s, _, rfl⟩ := List.mem_map.mp m
  exact (shaped_frL L (fr s) (f s)).1
theorem frC_dp {L : Bool} {H : Hp} {t : Nat → Addr} {fr : Nat → List Pl} {f : Nat → Nat} : ∀ {zs : List Nat}, FrC L H zs t fr f → DpAll K H ((kvz zs t).map (·.2)) ((frD L zs fr f).map (·.2))
  | [], _ => .nil
  | s :: zs, h => by
    obtain ⟨q, xs, t1, t2, t3⟩ := h.each s List.mem_cons_self
    have nd := (shaped_frL L (fr s) (f s)).2
    refine .cons ?_ (frC_dp ⟨fun u m => h.each u (List.mem_cons_of_mem _ m)⟩)
    show Dp K H (.ref (t s)) (frV L fr f s)
    unfold frV
    refine At.dp (.tup t1 (.cons ?_ (.cons (.int _) .nil))) nd
    cases L with
    | true => exact .lst t2 t3.atAll
    | false => exact .tup t2 t3.atAll
theorem frG_dic {L : Bool} {H : Hp} {d : Addr} {zs : List Nat} {fr : Nat → List Pl} {f : Nat → Nat} (h : FrG L H d zs fr f) : DicV K H (.ref d) (frD L zs fr f) := by
  obtain ⟨t, e, c⟩ := h
  refine ⟨d, kvz zs t, rfl, e, ?_, frC_dp c⟩
  rw [kvz_keys]
  unfold frD
  rw [List.map_map]
  rfl
def spEqG (CM CP : Addr) (K : PySem.W.Frag) : Sp := fun vs H Q _ => ∃ (v u : V) (n : Nat) (hs : List Pl) (zs : List Nat) (fr : Nat → List Pl) (f : Nat → Nat), vs = [v, u] ∧ MvAt CM CP H v n hs zs fr f ∧
  ((∃ (m : Nat) (ks : List Pl) (ys : List Nat) (fr' : Nat → List Pl) (f' : Nat → Nat), MvAt CM CP H u m ks ys fr' f' ∧ ∀ b H', Same H H' → (b = true ↔ n = m ∧ hs = ks ∧ ∀ s, fr s = fr' s ∧ f s = f' s) → Q (.bl b) H') ∨
   ((∃ T ∈ (["tuple", "str"] : List String), ∀ H2, Same H H2 → TyX K H2 u (.type T)) ∧ ∀ H', Same H H' → Q (.bl false) H'))
theorem sc_Move___eq : FnScope ["self", "other"] ["self", "other"] (defScope (inClass (top 47) 13)) := ⟨rfl, rfl, rfl, by decide +kernel, rfl, by decide +kernel, by decide +kernel⟩
theorem ok_meqG {f : Addr} {fd : FuncData} (F : Fun K "__eq__" "Move.__eq__" (inClass (top 47) 13) f fd) (B : Bl3 mg) (T : NoMv K CM) (TP : NoPl K CP) (gM : mg "Move" = some (.ref CM)) (IM : IsM K CM) : FnOk P w K mg base CX0 1 f fd ["self", "other"] (spEqG CM CP K) := by
  refine F.ok sc_Move___eq (fun vs H Q E h => ?_) (fun cdv A outer s H vs Q E hr h => ?_)
  · obtain ⟨v, u, n, hs, zs, fr, f, rfl, _⟩ := h
    rfl
  · obtain ⟨v, u, n, hs, zs, fr, f, rfl, ⟨p, dx, q, rfl, hp, pa⟩, h⟩ := h
    refine ⟨_, (pss_one (ps_ret (pe_and (pe_callB call_isi rfl B.isinstance PyProof.Rows.boot_isinstance (pa_cons (pv 1) (pa_cons (pe_glob (v := .ref CM) rfl gM rfl) pa_nil))) (pe_and (pe_cmpR op_eq (pe_fld (pe_fld (pv 0) rfl) rfl) (pe_fld (pe_fld (pv 1) rfl) rfl) (nomark _)) (pe_and (pe_cmpR (op_eqD hr.units) (pe_fld (pe_fld (pv 0) rfl) rfl) (pe_fld (pe_fld (pv 1) rfl) rfl) (nomark _)) (pe_one (pe_cmpR (op_eqI (hr66 hr)) (pe_fld (pe_fld (pv 0) rfl) rfl) (pe_fld (pe_fld (pv 1) rfl) rfl) (nomark _)))))))), ?_⟩
    rcases h with ⟨m, ks, ys, fr', f', ⟨p2, dx2, q2, rfl, hp2, pa2⟩, k⟩ | ⟨⟨T', mT, ty⟩, k⟩
    · obtain ⟨⟨d1, th, df, dg, hv, a1, a2, a3, a4⟩, o, cn, _⟩ := id pa
      obtain ⟨⟨d2, th2, df2, dg2, hv2, b1, b2, b3, b4⟩, o2, cn2, _⟩ := id pa2
      have vp : ∀ {H5 : Hp}, VE (tVar 0) (.ref p) [some (.ref p), some (.ref p2)] H5 := ve_var rfl
      have vu : ∀ {H5 : Hp}, VE (tVar 1) (.ref p2) [some (.ref p), some (.ref p2)] H5 := ve_var rfl
      have c2 : BV (tOp rEq (tFld K (tFld K (tVar 0) "_plan") "many") (tFld K (tFld K (tVar 1) "_plan") "many")) (decide (n = m)) [some (.ref p), some (.ref p2)] H := bv_eqN (i := n) (j := m) (ve_fld (ve_pl T vp hp) a1 TP.cl TP.n2 (plF_2 _ _ _ _)) (ve_fld (ve_pl T vu hp2) b1 TP.cl TP.n2 (plF_2 _ _ _ _))
      have c3 : BV (tOp (rEqD K) (tFld K (tFld K (tVar 0) "_plan") "heads") (tFld K (tFld K (tVar 1) "_plan") "heads")) (decide (hs = ks)) [some (.ref p), some (.ref p2)] H := fun H2 s2 Q q => by
        refine (ve_fld (ve_pl T vp hp) a1 TP.cl TP.n1 (plF_1 _ _ _ _)) H2 s2 _ ((ve_fld (ve_pl T vu hp2) b1 TP.cl TP.n1 (plF_1 _ _ _ _)) H2 s2 _ ?_)
        refine ⟨.tuple (hs.map plD), .tuple (ks.map plD), (At.tup (s2 _ _ a2) (a3.mono s2).atAll).dp (by rw [noDic]; exact (plDs_ok hs).1), (At.tup (s2 _ _ b2) (b3.mono s2).atAll).dp (by rw [noDic]; exact (plDs_ok ks).1), shaped_pls hs, shaped_pls ks, ?_⟩
        rw [PyData.eqv, plDs_eqv]
        exact q H2 (Same.refl _)
      have c4 : BV (tOp (rEqI K) (tFld K (tFld K (tVar 0) "_plan") "fronts") (tFld K (tFld K (tVar 1) "_plan") "fronts")) ((frD false zs fr f).length == (frD false ys fr' f').length && eqKv (frD false ys fr' f') (frD false zs fr f)) [some (.ref p), some (.ref p2)] H := fun H2 s2 Q q => by
        refine (ve_fld (ve_pl T vp hp) a1 TP.cl TP.n3 (plF_3 _ _ _ _)) H2 s2 _ ((ve_fld (ve_pl T vu hp2) b1 TP.cl TP.n3 (plF_3 _ _ _ _)) H2 s2 _ ?_)
        exact ⟨_, _, frG_dic (a4.mono s2), frG_dic (b4.mono s2), frD_shp, frD_shp, q H2 (Same.refl _)⟩
      refine ret_bv (b := true && (decide (n = m) && (decide (hs = ks) && ((frD false zs fr f).length == (frD false ys fr' f').length && eqKv (frD false ys fr' f') (frD false zs fr f))))) (bv_and (b := true) (bv_ve (be_isM IM vu hp2)) fun _ => bv_and c2 fun _ => bv_and c3 fun _ => c4) fun H3 s3 => k _ H3 s3 ?_
      rw [Bool.true_and, Bool.and_eq_true, Bool.and_eq_true, decide_eq_true_iff, decide_eq_true_iff, frD_eq o.nz o2.nz]
      constructor
      · rintro ⟨e1, e2, e3, e4⟩
        refine ⟨e1, e2, fun s => ?_⟩
        by_cases c : s ∈ zs
        · exact e4 s c
        · have := o.off s c
          have := o2.off s (fun z => c ((e3 s).mpr z))
          simp [*]
      · rintro ⟨e1, e2, e3⟩
        have e := pa.zs pa2 e3
        subst e
        exact ⟨e1, e2, fun s => Iff.rfl, fun s _ => e3 s⟩
    · have vu : ∀ {H5 : Hp}, VE (tVar 1) u [some (.ref p), some u] H5 := ve_var rfl
      have m6 : T' ∈ (["NoneType", "int", "list", "tuple", "dict", "str"] : List String) := by
        simp only [List.mem_cons, List.not_mem_nil, or_false] at mT ⊢
        rcases mT with rfl | rfl <;> simp
      exact ret_bv (b := false) (bv_and (b := false) (c := false) (bv_ve (be_isO IM vu m6 ty)) fun z => by cases z) fun H3 s3 => k H3 s3
end
section
variable {P : Program} {w : World} {K : PySem.W.Frag} {mg : Str → Option Value} {base : Heap} {CP CM C : Addr}
/-! ### moves that tell of worlds -/
structure MvW (CM CP : Addr) (H : Hp) (v : V) (b : Nat) (ww : V1.Wd) : Prop where
  ex : ∃ (hs : List Pl) (zs : List Nat) (fr : Nat → List Pl) (f : Nat → Nat), MvAt CM CP H v ww.objs.length hs zs fr f ∧ V1.CanH ww.objs.length (V1.gObj ww) hs ∧ (∀ s, V1.CanF s (ww.pool s) (fr s) (f s)) ∧ hs.length ≤ b ∧ ∀ s, (fr s).length ≤ b
theorem MvW.mono {H H' : Hp} {v : V} {b : Nat} {ww : V1.Wd} (h : MvW CM CP H v b ww) (s : Same H H') : MvW CM CP H' v b ww := by
  obtain ⟨hs, zs, fr, f, m, r⟩ := h.ex
  exact ⟨hs, zs, fr, f, m.mono s, r⟩
theorem MvW.fm {S : Addr → Prop} {H H' : Hp} {v : V} {b : Nat} {ww : V1.Wd} (h : MvW CM CP H v b ww) (s : Fm S H H') : MvW CM CP H' v b ww := by
  obtain ⟨hs, zs, fr, f, m, r⟩ := h.ex
  exact ⟨hs, zs, fr, f, m.fm s, r⟩
theorem MvW.ins {H : Hp} {v : V} {b : Nat} {ww : V1.Wd} (h : MvW CM CP H v b ww) : ∃ p dx fs, v = .ref p ∧ H p = some (.ins CM dx fs) ∧ ∀ m : Str, m ≠ "_plan" → fs.lookup m = none := by
  obtain ⟨hs, zs, fr, f, ⟨p, dx, q, e, hp, _⟩, _⟩ := h.ex
  exact ⟨p, dx, _, e, hp, fun m n => mvF_no n⟩
theorem mem_frs {zs : List Nat} {fr : Nat → List Pl} {p : Pl} (h : p ∈ frs zs fr) : ∃ s ∈ zs, p ∈ fr s := by
  unfold frs at h
  rw [List.mem_flatMap] at h
  exact h
theorem then_rd {H : Hp} {v u : V} {b c n : Nat} {w1 a w2 : V1.Wd} {Q : VK} {E : XK} (h : MvW CM CP H v b w1) (g : MvW CM CP H u c a) (o1 : V1.Ok n w1) (oa : V1.Ok w1.objs.length a) (o2 : V1.Ok n w2) (len : w2.objs.length = a.objs.length) (org2 : ∀ p, V1.End a.objs.length p → V1.org w2 p = V1.org w1 (V1.org a p)) (few : b + c ≤ 10000)
    (k : ∀ v' H', Same H H' → MvW CM CP H' v' (b + c) w2 → Q v' H') : spTh0 CM CP [v, u] H Q E := by
  obtain ⟨h1, z1, fr1, f1, m1, c1, d1, l1, l1'⟩ := h.ex
  obtain ⟨h2, z2, fr2, f2, m2, c2, d2, l2, l2'⟩ := g.ex
  have t1 : V1.Told n w1 h1 fr1 f1 := ⟨o1, c1, d1⟩
  have t2 : V1.Told w1.objs.length a h2 fr2 f2 := ⟨oa, c2, d2⟩
  obtain ⟨x1, x2, x3⟩ := t2.dom
  have t3 := V1.told_then t1 t2 o2 len org2
  refine ⟨v, u, _, _, h1, h2, z1, z2, fr1, fr2, f1, f2, rfl, m1, m2, by omega, (fun s => by have := l1' s; have := l2' s; omega), ⟨fun i mi => ?_, x3⟩, fun v' ys H' s' mv => k v' H' s' ?_⟩
  · rcases List.mem_append.mp mi with mi | mi
    · obtain ⟨j, hj⟩ := List.mem_iff_getElem?.mp mi
      exact x1 j i hj
    · obtain ⟨s, _, ms⟩ := mem_frs mi
      obtain ⟨j, hj⟩ := List.mem_iff_getElem?.mp ms
      exact x2 s j i hj
  · refine ⟨_, ys, _, _, by rw [len]; exact mv, t3.heads, t3.front, ?_, fun s => ?_⟩
    · rw [List.length_take]
      have : (V1.thenH (V1.orgD h1 fr1 f1) h1 h2 a.objs.length).length ≤ h1.length + h2.length := by
        unfold V1.thenH
        rw [List.length_append, List.length_map, List.length_take, List.length_drop]
        omega
      omega
    · rw [List.length_take, List.length_append, List.length_map, List.length_drop]
      have := l1' s
      have := l2' s
      omega
end

end K1

set_option linter.all false
namespace V1
/-! ### sizes, steps that can be played, places that are distinct -/
def okS (s : Nat) : Prop := s = 1 ∨ s = 2 ∨ s = 8
structure Sz (w : Wd) : Prop where
  pool : ∀ s k u j, w.pool s k = .pool u j → u = s
  obj : ∀ x ∈ w.objs, (∀ u j, x.1 = .pool u j → u = x.2) ∧ okS x.2
  still : ∀ s, ¬ okS s → ∀ k, w.pool s k = .pool s k
theorem sz_ident {zs : List Nat} (h : ∀ s ∈ zs, okS s) : Sz (ident zs) := by
  refine ⟨fun s k u j e => ?_, fun x m => ?_, fun s _ k => rfl⟩
  · have e : Pl.pool s k = .pool u j := e
    cases e
    rfl
  · obtain ⟨i, hi⟩ := List.mem_iff_getElem?.mp m
    rw [ident_get] at hi
    cases e : zs[i]? with
    | none => rw [e] at hi; cases hi
    | some s =>
      rw [e] at hi
      cases hi
      exact ⟨fun u j z => (by cases z), h s (List.mem_of_getElem? e)⟩
theorem sz_step {w w' : Wd} (z : Sz w) : ∀ {t : St}, step w t = some w' → (∀ s, t = .make s → okS s) → Sz w'
  | .make s, e, h => by
    cases Option.some.inj (show some (Wd.mk (w.objs ++ [(w.pool s 0, s)]) (putP w.pool s (popS (w.pool s)))) = some w' from e)
    have os := h s rfl
    refine ⟨fun t k u j e => ?_, fun x m => ?_, fun t nt k => ?_⟩
    · have e : putP w.pool s (popS (w.pool s)) t k = .pool u j := e
      unfold putP at e
      by_cases c : t = s
      · rw [if_pos c] at e
        rw [c]
        exact z.pool s (k + 1) u j e
      · rw [if_neg c] at e
        exact z.pool t k u j e
    · rcases List.mem_append.mp m with m | m
      · exact z.obj x m
      · rw [List.mem_singleton] at m
        subst m
        exact ⟨fun u j e => z.pool s 0 u j e, os⟩
    · show putP w.pool s _ t k = _
      unfold putP
      rw [if_neg (show ¬ t = s from fun c => nt (by rw [c]; exact os))]
      exact z.still t nt k
  | .free i, e, _ => by
    obtain ⟨x, hx, rfl⟩ := Option.map_eq_some_iff.mp (show (w.objs[i]?).map _ = some w' from e)
    have ox := z.obj x (List.mem_of_getElem? hx)
    refine ⟨fun t k u j e => ?_, fun y m => z.obj y (List.mem_of_mem_eraseIdx m), fun t nt k => ?_⟩
    · have e : putP w.pool x.2 (pushS x.1 (w.pool x.2)) t k = .pool u j := e
      unfold putP at e
      by_cases c : t = x.2
      · rw [if_pos c] at e
        rw [c]
        cases k with
        | zero => exact ox.1 u j e
        | succ k => exact z.pool x.2 k u j e
      · rw [if_neg c] at e
        exact z.pool t k u j e
    · show putP w.pool x.2 _ t k = _
      unfold putP
      rw [if_neg (show ¬ t = x.2 from fun c => nt (by rw [c]; exact ox.2))]
      exact z.still t nt k
  | .leave i, e, _ => by
    obtain ⟨x, hx, rfl⟩ := Option.map_eq_some_iff.mp (show (w.objs[i]?).map _ = some w' from e)
    exact ⟨z.pool, fun y m => z.obj y (List.mem_of_mem_eraseIdx m), z.still⟩
def okT : Nat → List St → Prop
  | _, [] => True
  | n, .make s :: ts => okS s ∧ okT (n + 1) ts
  | n, .free i :: ts => i < n ∧ okT (n - 1) ts
  | n, .leave i :: ts => i < n ∧ okT (n - 1) ts
theorem play_ok : ∀ {ts : List St} {w : Wd}, okT w.objs.length ts → Sz w → ∃ w', play w ts = some w' ∧ Sz w' ∧ w'.objs.length ≤ w.objs.length + ts.length
  | [], w, _, z => ⟨w, rfl, z, Nat.le_refl _⟩
  | .make s :: ts, w, h, z => by
    have e : step w (.make s) = some (Wd.mk (w.objs ++ [(w.pool s 0, s)]) (putP w.pool s (popS (w.pool s)))) := rfl
    have z' := sz_step z e (fun t q => by cases q; exact h.1)
    obtain ⟨w', p, z2, l⟩ := play_ok (ts := ts) (w := Wd.mk (w.objs ++ [(w.pool s 0, s)]) (putP w.pool s (popS (w.pool s)))) (by
      show okT (w.objs ++ [(w.pool s 0, s)]).length ts
      rw [List.length_append]
      exact h.2) z'
    refine ⟨w', ?_, z2, ?_⟩
    · show (step w (.make s)).bind _ = _
      rw [e]
      exact p
    · rw [List.length_cons]
      have : (w.objs ++ [(w.pool s 0, s)]).length = w.objs.length + 1 := by rw [List.length_append]; rfl
      have l : w'.objs.length ≤ (w.objs ++ [(w.pool s 0, s)]).length + ts.length := l
      omega
  | .free i :: ts, w, h, z => by
    have hi : i < w.objs.length := h.1
    have e : step w (.free i) = some ⟨w.objs.eraseIdx i, putP w.pool w.objs[i].2 (pushS w.objs[i].1 (w.pool w.objs[i].2))⟩ := by
      show (w.objs[i]?).map _ = _
      rw [List.getElem?_eq_getElem hi]
      rfl
    have z' := sz_step z e (fun t q => by cases q)
    have le : (w.objs.eraseIdx i).length = w.objs.length - 1 := by rw [List.length_eraseIdx, if_pos hi]
    obtain ⟨w', p, z2, l⟩ := play_ok (ts := ts) (w := ⟨w.objs.eraseIdx i, putP w.pool w.objs[i].2 (pushS w.objs[i].1 (w.pool w.objs[i].2))⟩) (by
      show okT (w.objs.eraseIdx i).length ts
      rw [le]
      exact h.2) z'
    refine ⟨w', ?_, z2, ?_⟩
    · show (step w (.free i)).bind _ = _
      rw [e]
      exact p
    · rw [List.length_cons]
      have l : w'.objs.length ≤ (w.objs.eraseIdx i).length + ts.length := l
      omega
  | .leave i :: ts, w, h, z => by
    have hi : i < w.objs.length := h.1
    have e : step w (.leave i) = some ⟨w.objs.eraseIdx i, w.pool⟩ := by
      show (w.objs[i]?).map _ = _
      rw [List.getElem?_eq_getElem hi]
      rfl
    have z' := sz_step z e (fun t q => by cases q)
    have le : (w.objs.eraseIdx i).length = w.objs.length - 1 := by rw [List.length_eraseIdx, if_pos hi]
    obtain ⟨w', p, z2, l⟩ := play_ok (ts := ts) (w := ⟨w.objs.eraseIdx i, w.pool⟩) (by
      show okT (w.objs.eraseIdx i).length ts
      rw [le]
      exact h.2) z'
    refine ⟨w', ?_, z2, ?_⟩
    · show (step w (.leave i)).bind _ = _
      rw [e]
      exact p
    · rw [List.length_cons]
      have l : w'.objs.length ≤ (w.objs.eraseIdx i).length + ts.length := l
      omega
/-! ### the places that a law hands in are distinct -/
structure FrontsOf (w : Wd) (zs : List Nat) (fr : Nat → List Pl) (f : Nat → Nat) : Prop where
  nd : zs.Nodup
  at_ : ∀ s, ∀ i, i < (fr s).length → (fr s)[i]? = some (w.pool s i)
  rest : ∀ s, ∀ k, (fr s).length ≤ k → w.pool s k = .pool s (f s + (k - (fr s).length))
  off : ∀ s, s ∉ zs → fr s = [] ∧ f s = 0
def headsOf (w : Wd) : List Pl := w.objs.map (·.1)
theorem heads_get {w : Wd} {i : Nat} (h : i < w.objs.length) : (headsOf w)[i]? = some (gObj w i) := by
  unfold headsOf gObj
  rw [List.getElem?_map, org_obj (List.getElem?_eq_getElem h), List.getElem?_eq_getElem h]
  rfl
theorem heads_len {w : Wd} : (headsOf w).length = w.objs.length := List.length_map ..
def endsOf (n : Nat) (zs : List Nat) (fr : Nat → List Pl) : List Pl := (List.range n).map Pl.obj ++ zs.flatMap fun s => (List.range (fr s).length).map (Pl.pool s)
theorem nodup_map {α β : Type} {g : α → β} : ∀ {l : List α}, (∀ x ∈ l, ∀ y ∈ l, g x = g y → x = y) → l.Nodup → (l.map g).Nodup
  | [], _, _ => List.nodup_nil
  | a :: l, h, n => by
    rw [List.nodup_cons] at n
    rw [List.map_cons, List.nodup_cons]
    refine ⟨fun m => ?_, nodup_map (fun x mx y my => h x (List.mem_cons_of_mem _ mx) y (List.mem_cons_of_mem _ my)) n.2⟩
    obtain ⟨b, mb, e⟩ := List.mem_map.mp m
    have := h b (List.mem_cons_of_mem _ mb) a List.mem_cons_self e
    exact n.1 (this ▸ mb)
theorem ends_mem {n : Nat} {zs : List Nat} {fr : Nat → List Pl} {p : Pl} : p ∈ endsOf n zs fr ↔ (∃ i, i < n ∧ p = .obj i) ∨ ∃ s ∈ zs, ∃ k, k < (fr s).length ∧ p = .pool s k := by
  unfold endsOf
  rw [List.mem_append, List.mem_map, List.mem_flatMap]
  constructor
  · rintro (⟨i, hi, e⟩ | ⟨s, hs, m⟩)
    · exact .inl ⟨i, List.mem_range.mp hi, e.symm⟩
    · obtain ⟨k, hk, e⟩ := List.mem_map.mp m
      exact .inr ⟨s, hs, k, List.mem_range.mp hk, e.symm⟩
  · rintro (⟨i, hi, e⟩ | ⟨s, hs, k, hk, e⟩)
    · exact .inl ⟨i, List.mem_range.mpr hi, e.symm⟩
    · exact .inr ⟨s, hs, List.mem_map.mpr ⟨k, List.mem_range.mpr hk, e.symm⟩⟩
theorem ends_nodup {n : Nat} {zs : List Nat} {fr : Nat → List Pl} (nd : zs.Nodup) : (endsOf n zs fr).Nodup := by
  unfold endsOf
  rw [List.nodup_append]
  refine ⟨nodup_map (fun x _ y _ e => by cases e; rfl) List.nodup_range, ?_, fun a ma b mb e => ?_⟩
  · induction zs with
    | nil => exact List.nodup_nil
    | cons z zs ih =>
      rw [List.nodup_cons] at nd
      rw [List.flatMap_cons, List.nodup_append]
      refine ⟨nodup_map (fun x _ y _ e => by cases e; rfl) List.nodup_range, ih nd.2, fun a ma b mb e => ?_⟩
      obtain ⟨k, _, rfl⟩ := List.mem_map.mp ma
      obtain ⟨s, hs, m⟩ := List.mem_flatMap.mp mb
      obtain ⟨l, _, rfl⟩ := List.mem_map.mp m
      cases e
      exact nd.1 hs
  · obtain ⟨k, _, rfl⟩ := List.mem_map.mp ma
    obtain ⟨s, hs, m⟩ := List.mem_flatMap.mp mb
    obtain ⟨l, _, rfl⟩ := List.mem_map.mp m
    cases e
theorem origins_eq {w : Wd} {zs : List Nat} {fr : Nat → List Pl} {f : Nat → Nat} (h : FrontsOf w zs fr f) : headsOf w ++ zs.flatMap fr = (endsOf w.objs.length zs fr).map (org w) := by
  unfold endsOf
  rw [List.map_append, List.map_map, List.map_flatMap]
  congr 1
  · apply List.ext_getElem?
    intro i
    by_cases c : i < w.objs.length
    · rw [heads_get c, List.getElem?_map, List.getElem?_range c]
      rfl
    · rw [List.getElem?_eq_none (by rw [heads_len]; omega), List.getElem?_eq_none (by rw [List.length_map, List.length_range]; omega)]
  · congr 1
    funext s
    apply List.ext_getElem?
    intro i
    by_cases c : i < (fr s).length
    · rw [h.at_ s i c, List.getElem?_map, List.getElem?_map, List.getElem?_range c]
      rfl
    · rw [List.getElem?_eq_none (by omega), List.getElem?_eq_none (by rw [List.length_map, List.length_map, List.length_range]; omega)]
theorem ends_end {w : Wd} {zs : List Nat} {fr : Nat → List Pl} {p : Pl} (h : p ∈ endsOf w.objs.length zs fr) : End w.objs.length p := by
  rcases ends_mem.mp h with ⟨i, hi, rfl⟩ | ⟨s, _, k, _, rfl⟩
  · exact hi
  · exact trivial
theorem origins_nodup {n : Nat} {w : Wd} {zs : List Nat} {fr : Nat → List Pl} {f : Nat → Nat} (o : Ok n w) (h : FrontsOf w zs fr f) : (headsOf w ++ zs.flatMap fr).Nodup := by
  rw [origins_eq h]
  exact nodup_map (fun x mx y my e => o.inj x y (ends_end mx) (ends_end my) e) (ends_nodup h.nd)
theorem origins_fresh {n : Nat} {w : Wd} {zs : List Nat} {fr : Nat → List Pl} {f : Nat → Nat} (o : Ok n w) (h : FrontsOf w zs fr f) : ∀ s k, Pl.pool s k ∈ headsOf w ++ zs.flatMap fr → k < if s ∈ zs then f s else 0 := by
  intro s k m
  rw [origins_eq h] at m
  obtain ⟨e, me, he⟩ := List.mem_map.mp m
  by_cases c : s ∈ zs
  · rw [if_pos c]
    by_cases d : k < f s
    · exact d
    · have r := h.rest s ((fr s).length + (k - f s)) (by omega)
      have r2 : org w (.pool s ((fr s).length + (k - f s))) = .pool s k := by
        show w.pool s _ = _
        rw [r]
        congr 1
        omega
      have := o.inj e (.pool s ((fr s).length + (k - f s))) (ends_end me) trivial (by rw [he, r2])
      subst this
      rcases ends_mem.mp me with ⟨i, _, z⟩ | ⟨t, _, l, hl, z⟩
      · cases z
      · cases z
        omega
  · obtain ⟨o1, o2⟩ := h.off s c
    have r := h.rest s k (by rw [o1]; exact Nat.zero_le _)
    rw [o1, o2] at r
    have r2 : org w (.pool s k) = .pool s k := by
      show w.pool s k = _
      rw [r]
      congr 1
      simp
    have := o.inj e (.pool s k) (ends_end me) trivial (by rw [he, r2])
    subst this
    rcases ends_mem.mp me with ⟨i, _, z⟩ | ⟨t, ht, l, hl, z⟩
    · cases z
    · cases z
      exact (c ht).elim
theorem heads_can {w : Wd} : CanH w.objs.length (gObj w) ((headsOf w).take (stripH (headsOf w) (headsOf w).length)) := by
  refine stripH_can (by rw [heads_len]; exact Nat.le_refl _) (fun i hi => heads_get (by rw [heads_len] at hi; exact hi)) _ (Nat.le_refl _) fun i h1 h2 => ?_
  rw [heads_len] at h1
  omega
theorem fronts_can {w : Wd} {zs : List Nat} {fr : Nat → List Pl} {f : Nat → Nat} (h : FrontsOf w zs fr f) (s : Nat) : CanF s (w.pool s) ((fr s).take (stripF s (fr s) (fr s).length (f s)).1) (stripF s (fr s) (fr s).length (f s)).2 :=
  stripF_can (h.at_ s) _ _ (Nat.le_refl _) (h.rest s)
end V1

set_option Elab.async false
set_option linter.all false
set_option maxRecDepth 100000
set_option maxHeartbeats 4000000
namespace K1
open PySem L2 W1
/-! ### the law's source of draws -/
section
variable {σ : St} {H1 : Hp} {t u : TE} {i j : Int}
theorem ve_rI {C : Int → Int → Prop} {g : Int → Int → V} (h : VE t (.int i) σ H1) (r : VE u (.int j) σ H1) (c : C i j) : VE (tOp (rI C g) t u) (g i j) σ H1 := fun H2 s Q q => h H2 s _ (r H2 s _ ⟨i, j, rfl, rfl, c, q⟩)
end
structure Src (H : Hp) (a : Addr) (n : Nat) : Prop where
  ex : ∃ x y z : Int, H a = some (.lst [.int x, .int y, .int z]) ∧ 0 ≤ x ∧ 0 ≤ y ∧ y < 2147483647 ∧ 0 ≤ z ∧ z ≤ n
theorem Src.le {H : Hp} {a : Addr} {n m : Nat} (s : Src H a n) (h : n ≤ m) : Src H a m := by
  obtain ⟨x, y, z, e, h1, h2, h3, h4, h5⟩ := s.ex
  exact ⟨x, y, z, e, h1, h2, h3, h4, by omega⟩
theorem Src.mono {H H' : Hp} {a : Addr} {n : Nat} (s : Src H a n) (m : Same H H') : Src H' a n := by
  obtain ⟨x, y, z, e, r⟩ := s.ex
  exact ⟨x, y, z, m _ _ e, r⟩
theorem Src.keep {S : Addr → Prop} {H H' : Hp} {a : Addr} {n : Nat} (s : Src H a n) (m : Fm S H H') (h : ¬ S a) : Src H' a n := by
  obtain ⟨x, y, z, e, r⟩ := s.ex
  exact ⟨x, y, z, m.keep e h, r⟩
theorem Src.there {H : Hp} {a : Addr} {n : Nat} (s : Src H a n) : ∃ xs, H a = some (.lst xs) := by
  obtain ⟨x, y, z, e, _⟩ := s.ex
  exact ⟨_, e⟩
section
variable {P : Program} {w : World} {K : PySem.W.Frag} {mg : Str → Option Value} {base : Heap} {CP CM C : Addr}
def spDr : Sp := fun vs H Q _ => ∃ (a : Addr) (b n : Nat), vs = [.ref a, nV b] ∧ Src H a n ∧ n ≤ 1000000 ∧ 1 ≤ b ∧ b ≤ 1000 ∧ ∀ r H', r < b → Fm (fun c => c = a) H H' → Src H' a (n + 1) → Q (nV r) H'
theorem sc_law_draw : FnScope ["_law_source_here", "_law_bound", "_law_digit", "_law_number"] ["_law_source_here", "_law_bound"] (defScope (top 51)) := ⟨rfl, rfl, rfl, by decide +kernel, rfl, by decide +kernel, by decide +kernel⟩
theorem ok_draw {f : Addr} {fd : FuncData} (F : Fun K "_law_draw" "_law_draw" (top 51) f fd) (B : Bl3 mg) : FnOk P w K mg base CX0 1 f fd ["_law_source_here", "_law_bound"] spDr := by
  refine F.ok sc_law_draw (fun vs H Q E h => ?_) (fun cdv A outer s H vs Q E hr h => ?_)
  · obtain ⟨a, b, n, rfl, _⟩ := h
    rfl
  · obtain ⟨a, b, n, rfl, ⟨x, y, z, ha, x0, y0, y1, z0, z1⟩, hn, b0, b1, k⟩ := h
    refine ⟨_, (pss_cons (ps_if (pt_cmpR op_gt (pe_ix ix_list (pv 0) pe_int (fun _ _ => rfl)) pe_int (nomark _)) (pss_cons (ps_set (i := 2) sc_law_draw.nd rfl (Or.inl rfl) (pe_op op_mod (pe_callTy call_int1 rfl B.int PyProof.Rows.boot_int (pa_cons (pe_ix ix_list (pv 0) pe_int (fun _ _ => rfl)) pa_nil)) (pv 1)))
      (pss_cons (ps_asg (pe_op op_fdiv (pe_ix ix_list (pv 0) pe_int (fun _ _ => rfl)) (pv 1)) (pg_sub (pv 0) pe_int set_list))
      (pss_one (ps_ret (pv 2))))) pss_nil)
      (pss_cons (ps_asg (pe_op op_add (pe_ix ix_list (pv 0) pe_int (fun _ _ => rfl)) pe_int) (pg_sub (pv 0) pe_int set_list))
      (pss_cons (ps_set (i := 3) sc_law_draw.nd rfl (Or.inl rfl) (pe_op op_mod (pe_callTy call_int1 rfl B.int PyProof.Rows.boot_int (pa_cons (pe_op op_pow (pe_op op_add (pe_op op_add (pe_ix ix_list (pv 0) pe_int (fun _ _ => rfl)) (pe_op op_mul pe_int (pe_ix ix_list (pv 0) pe_int (fun _ _ => rfl)))) pe_int) pe_int) pa_nil)) pe_int))
      (pss_cons (ps_set (i := 3) sc_law_draw.nd rfl (Or.inl rfl) (pe_op op_mod (pe_callTy call_int1 rfl B.int PyProof.Rows.boot_int (pa_cons (pe_op op_mul (pv 3) (pe_op op_add (pe_op op_add (pe_op op_fdiv (pv 3) pe_int) pe_int) (pe_ix ix_list (pv 0) pe_int (fun _ _ => rfl)))) pa_nil)) pe_int))
      (pss_one (ps_ret (pe_op op_mod (pe_callTy call_int1 rfl B.int PyProof.Rows.boot_int (pa_cons (pe_op op_fdiv (pe_op op_mod (pe_callTy call_int1 rfl B.int PyProof.Rows.boot_int (pa_cons (pe_op op_mul (pv 3) (pe_op op_add (pe_op op_fdiv (pv 3) pe_int) pe_int)) pa_nil)) pe_int) pe_int) pa_nil)) (pv 1)))))))), ?_⟩
    have va : ∀ {H5 : Hp} {p q : Option V}, VE (tVar 0) (.ref a) [some (.ref a), some (nV b), p, q] H5 := ve_var rfl
    have vb : ∀ {H5 : Hp} {p q : Option V}, VE (tVar 1) (.int (b : Nat)) [some (.ref a), some (nV b), p, q] H5 := ve_var rfl
    have it : ∀ (j : Nat) (v : Int) (xs : List V) (H5 : Hp) (p q : Option V), H5 a = some (.lst xs) → xs[j]? = some (.int v) → VE (tOp (rIxL K) (tVar 0) (tC (nV j))) (.int v) [some (.ref a), some (nV b), p, q] H5 := fun j v xs H5 p q h e => ve_ixL (n := j) va h ve_c e
    have rem : ∀ z : Int, 0 ≤ z % (b : Int) ∧ z % (b : Int) < b := fun z => ⟨Int.emod_nonneg z (by omega), Int.emod_lt_of_pos z (by omega)⟩
    have out : ∀ (r : Int) (H' : Hp), 0 ≤ r → r < b → Fm (fun c => c = a) H H' → Src H' a (n + 1) → Q (.int r) H' := fun r H' h0 h1 f s => by
      have := k r.toNat H' (by omega) f s
      rw [toV h0]
      exact this
    refine seq_rd (if_be (be_gt (it 0 x _ H none none ha rfl) ve_int) fun H1 s1 => ⟨fun c => ?_, fun c => ?_⟩)
    · have h1 := s1 _ _ ha
      refine seq_rd (set_v (ve_mod (ve_intI (it 0 x _ H1 none none h1 rfl)) vb (by omega)) ?_)
      refine next_rd ?_
      dsimp only
      refine seq_rd (asgT ((ve_rI (C := CDiv) (it 0 x _ H1 _ none h1 rfl) vb ⟨by omega, by omega⟩) H1 (Same.refl _) _ ?_))
      refine va H1 (Same.refl _) _ ⟨a, _, 0, 0, rfl, rfl, h1, (by show ixN 3 0 = some 0; decide), ?_⟩
      refine next_rd ?_
      refine ret_of (tvar_rd (v := .int (x % (b : Int))) rfl (out _ _ (rem x).1 (rem x).2 ((Fm.of s1).trans (Fm.upd h1 rfl)) ?_))
      exact ⟨_, y, z, upd_same, Int.ediv_nonneg x0 (by omega), y0, y1, z0, by omega⟩
    · have h1 := s1 _ _ ha
      refine next_rd ?_
      dsimp only
      refine seq_rd (asgT ((ve_add (it 2 z _ H1 none none h1 rfl) ve_int) H1 (Same.refl _) _ ?_))
      refine va H1 (Same.refl _) _ ⟨a, _, 2, 2, rfl, rfl, h1, (by show ixN 3 2 = some 2; decide), ?_⟩
      have f2 : Fm (fun c => c = a) H (upd H1 a (.lst [.int x, .int y, .int (z + 1)])) := (Fm.of s1).trans (Fm.upd h1 rfl)
      have h2 : (upd H1 a (.lst [.int x, .int y, .int (z + 1)])) a = some (.lst [.int x, .int y, .int (z + 1)]) := upd_same
      refine next_rd ?_
      show (_ : Prop)
      change (fun H2 => _) (upd H1 a (.lst [.int x, .int y, .int (z + 1)]))
      generalize upd H1 a (.lst [.int x, .int y, .int (z + 1)]) = H2 at f2 h2
      dsimp only
      have big : ∀ z : Int, 0 ≤ z % 2147483629 ∧ z % 2147483629 < 2147483629 := fun z => ⟨Int.emod_nonneg z (by decide), Int.emod_lt_of_pos z (by decide)⟩
      have big2 : ∀ z : Int, 0 ≤ z % 2147483587 ∧ z % 2147483587 < 2147483587 := fun z => ⟨Int.emod_nonneg z (by decide), Int.emod_lt_of_pos z (by decide)⟩
      have i1 := it 1 y _ H2 none none h2 rfl
      have i2 : ∀ p q : Option V, VE (tOp (rIxL K) (tVar 0) (tC (nV 2))) (.int (z + 1)) [some (.ref a), some (nV b), p, q] H2 := fun p q => it 2 (z + 1) _ H2 p q h2 rfl
      refine seq_rd (set_v (ve_mod (ve_intI (ve_rI (C := CPow) (ve_add (ve_add i1 (ve_rI (C := CMul) ve_int (i2 none none) (.inl ⟨by decide, by decide⟩))) ve_int) ve_int ⟨by decide, by decide, by omega⟩)) ve_int (by decide)) ?_)
      refine next_rd ?_
      dsimp only
      generalize hN : (y + 7919 * (z + 1) + 1) ^ (5 : Int).toNat % 2147483629 = N
      have bN : 0 ≤ N ∧ N < 2147483629 := by rw [← hN]; exact big _
      have vN : ∀ (H5 : Hp) (M : Int), VE (tVar 3) (.int M) [some (.ref a), some (nV b), none, some (.int M)] H5 := fun H5 M => ve_var rfl
      refine seq_rd (set_v (ve_mod (ve_intI (ve_rI (C := CMul) (vN H2 N) (ve_add (ve_add (ve_rI (C := CDiv) (vN H2 N) ve_int ⟨by decide, by decide⟩) ve_int) (i2 none _)) (.inl ⟨by omega, by omega⟩))) ve_int (by decide)) ?_)
      refine next_rd ?_
      dsimp only
      generalize hM : N * (N / 1009 + 69621 + (z + 1)) % 2147483587 = M
      have bM : 0 ≤ M ∧ M < 2147483587 := by rw [← hM]; exact big2 _
      refine ret_of ((ve_mod (ve_intI (ve_rI (C := CDiv) (ve_mod (ve_intI (ve_rI (C := CMul) (vN H2 M) (ve_add (ve_rI (C := CDiv) (vN H2 M) ve_int ⟨by decide, by decide⟩) ve_int) (.inl ⟨by omega, by omega⟩))) ve_int (by decide)) ve_int ⟨by decide, by decide⟩)) vb (by omega)) H2 (Same.refl _) _ ?_)
      exact out _ H2 (rem _).1 (rem _).2 f2 ⟨x, y, z + 1, h2, x0, y0, y1, by omega, by omega⟩
def spPk : Sp := fun vs H Q _ => ∃ (a l : Addr) (xs : List V) (n : Nat), vs = [.ref a, .ref l] ∧ H l = some (.lst xs) ∧ l ≠ a ∧ 1 ≤ xs.length ∧ xs.length ≤ 1000 ∧ Src H a n ∧ n ≤ 1000000 ∧ ∀ x H', x ∈ xs → Fm (fun c => c = a) H H' → Src H' a (n + 1) → Q x H'
theorem sc_law_pick : FnScope ["_law_source_here", "_law_items"] ["_law_source_here", "_law_items"] (defScope (top 52)) := ⟨rfl, rfl, rfl, by decide +kernel, rfl, by decide +kernel, by decide +kernel⟩
theorem ok_pick {f : Addr} {fd : FuncData} (F : Fun K "_law_pick" "_law_pick" (top 52) f fd) (B : Bl3 mg) (LDr : Cal P w K mg base CX0 1 "_law_draw" ["_law_source_here", "_law_bound"] spDr) : FnOk P w K mg base CX0 2 f fd ["_law_source_here", "_law_items"] spPk := by
  refine F.ok sc_law_pick (fun vs H Q E h => ?_) (fun cdv A outer s H vs Q E hr h => ?_)
  · obtain ⟨a, l, xs, n, rfl, _⟩ := h
    rfl
  · obtain ⟨a, l, xs, n, rfl, hl, ne, l1, l2, src, hn, k⟩ := h
    refine ⟨_, (pss_one (ps_ret (pe_ix ix_list (pv 1) (pe_cal LDr hr (by omega) pass0 (pa_cons (pv 0) (pa_cons (pe_callB call_len_seq rfl B.len PySem.boot_len (pa_cons (pv 1) pa_nil)) pa_nil))) (fun _ _ => rfl)))), ?_⟩
    refine ret_of (tvar_rd (v := .ref l) rfl ?_)
    refine call_rd (va_cons (ve_var (v := .ref a) rfl) (va_cons (ve_lenL (ve_var (v := .ref l) rfl) hl) va_nil)) ⟨a, xs.length, n, rfl, src, hn, l1, l2, fun r H1 hr1 f1 s1 => ?_⟩
    have e : xs[r]? = some xs[r] := List.getElem?_eq_getElem hr1
    refine ⟨l, xs, (r : Nat), xs[r], rfl, rfl, SqL.of (f1.keep hl ne), ?_, k _ H1 (List.mem_of_getElem? e) f1 s1⟩
    exact atI_nat e
end

end K1

set_option Elab.async false
set_option linter.all false
set_option maxRecDepth 100000
set_option maxHeartbeats 4000000
namespace K1
open PySem L2 W1
/-! ### sizes and steps -/
abbrev okS := V1.okS
theorem FmL.sts {H : Hp} {l : Addr} {xs ys : List V} (h : H l = some (.lst xs)) : Fm (fun c => c = l) H (upd H l (.lst ys)) := Fm.upd h rfl
def stV : V1.St → List V
  | .make s => [.str "make", nV s]
  | .free i => [.str "free", nV i]
  | .leave i => [.str "leave", nV i]
def StsAt (H : Hp) (xs : List V) (ts : List V1.St) : Prop := xs.length = ts.length ∧ ∀ (i : Nat) (t : V1.St), ts[i]? = some t → ∃ b, xs[i]? = some (.ref b) ∧ H b = some (.tup (stV t))
theorem StsAt.fm {S : Addr → Prop} {H H' : Hp} {xs : List V} {ts : List V1.St} (h : StsAt H xs ts) (f : Fm S H H') : StsAt H' xs ts := ⟨h.1, fun i t e => by
  obtain ⟨b, e1, e2⟩ := h.2 i t e
  exact ⟨b, e1, f.tup e2⟩⟩
theorem StsAt.snoc {H : Hp} {xs : List V} {ts : List V1.St} {b : Addr} {t : V1.St} (h : StsAt H xs ts) (hb : H b = some (.tup (stV t))) : StsAt H (xs ++ [.ref b]) (ts ++ [t]) := by
  refine ⟨by rw [List.length_append, List.length_append, h.1]; rfl, fun i u e => ?_⟩
  by_cases c : i < ts.length
  · rw [List.getElem?_append_left c] at e
    obtain ⟨b', e1, e2⟩ := h.2 i u e
    exact ⟨b', by rw [List.getElem?_append_left (by rw [h.1]; exact c)]; exact e1, e2⟩
  · rw [List.getElem?_append_right (by omega)] at e
    obtain ⟨z, _⟩ := List.getElem?_eq_some_iff.mp e
    simp only [List.length_cons, List.length_nil] at z
    have ei : i = ts.length := by omega
    subst ei
    rw [Nat.sub_self] at e
    cases e
    exact ⟨b, by rw [List.getElem?_append_right (by rw [h.1]; exact Nat.le_refl _), h.1, Nat.sub_self]; rfl, hb⟩
def cntT : Nat → List V1.St → Nat
  | n, [] => n
  | n, .make _ :: ts => cntT (n + 1) ts
  | n, .free _ :: ts => cntT (n - 1) ts
  | n, .leave _ :: ts => cntT (n - 1) ts
theorem okT_app : ∀ {ts us : List V1.St} {n : Nat}, V1.okT n ts → V1.okT (cntT n ts) us → V1.okT n (ts ++ us)
  | [], _, _, _, h => h
  | .make s :: ts, us, n, h, k => ⟨h.1, okT_app (ts := ts) h.2 k⟩
  | .free i :: ts, us, n, h, k => ⟨h.1, okT_app (ts := ts) h.2 k⟩
  | .leave i :: ts, us, n, h, k => ⟨h.1, okT_app (ts := ts) h.2 k⟩
theorem cntT_app : ∀ {ts us : List V1.St} {n : Nat}, cntT n (ts ++ us) = cntT (cntT n ts) us
  | [], _, _ => rfl
  | .make s :: ts, us, n => cntT_app (ts := ts)
  | .free i :: ts, us, n => cntT_app (ts := ts)
  | .leave i :: ts, us, n => cntT_app (ts := ts)
theorem cntT_le : ∀ {ts : List V1.St} {n : Nat}, cntT n ts ≤ n + ts.length
  | [], n => Nat.le_refl _
  | .make s :: ts, n => by
    have := cntT_le (ts := ts) (n := n + 1)
    show cntT (n + 1) ts ≤ _
    rw [List.length_cons]
    omega
  | .free i :: ts, n => by
    have := cntT_le (ts := ts) (n := n - 1)
    show cntT (n - 1) ts ≤ _
    rw [List.length_cons]
    omega
  | .leave i :: ts, n => by
    have := cntT_le (ts := ts) (n := n - 1)
    show cntT (n - 1) ts ≤ _
    rw [List.length_cons]
    omega
theorem pick_size {x : V} (m : x ∈ ([.int 1, .int 1, .int 2, .int 8] : List V)) : ∃ s : Nat, x = nV s ∧ okS s := by
  simp only [List.mem_cons, List.not_mem_nil, or_false] at m
  rcases m with rfl | rfl | rfl | rfl
  · exact ⟨1, rfl, .inl rfl⟩
  · exact ⟨1, rfl, .inl rfl⟩
  · exact ⟨2, rfl, .inr (.inl rfl)⟩
  · exact ⟨8, rfl, .inr (.inr rfl)⟩
theorem tbl_sizes {σ : St} {H : Hp} {Q : VK} (k : ∀ L, H L = none → Q (.ref L) (upd H L (.lst [.int 1, .int 1, .int 2, .int 8]))) : tLst (tCons (tC (.int 1)) (tCons (tC (.int 1)) (tCons (tC (.int 2)) (tCons (tC (.int 8)) tNil)))) σ H Q :=
  tlst_rd (tcons_rd (tc_rd (tcons_rd (tc_rd (tcons_rd (tc_rd (cons_rd (tc_rd ⟨by show 4 ≤ sizeLine; decide, k⟩))))))))
theorem tbl_ways {σ : St} {H : Hp} {Q : VK} (k : ∀ L, H L = none → Q (.ref L) (upd H L (.lst [.str "make", .str "make", .str "free", .str "free", .str "leave"]))) : tLst (tCons (tC (.str "make")) (tCons (tC (.str "make")) (tCons (tC (.str "free")) (tCons (tC (.str "free")) (tCons (tC (.str "leave")) tNil))))) σ H Q :=
  tlst_rd (tcons_rd (tc_rd (tcons_rd (tc_rd (tcons_rd (tc_rd (tcons_rd (tc_rd (cons_rd (tc_rd ⟨by show 5 ≤ sizeLine; decide, k⟩))))))))))
section
variable {P : Program} {w : World} {K : PySem.W.Frag} {mg : Str → Option Value} {base : Heap} {CP CM C : Addr}
/-- a drawn size -/
theorem size_rd {E : XK} {t : TE} {a : Addr} {n : Nat} {σ : St} {H : Hp} {Q : VK} (h : VE t (.ref a) σ H) (src : Src H a n) (hn : n ≤ 1000000) (k : ∀ s H', okS s → Fm (fun c => c = a) H H' → Src H' a (n + 1) → Q (nV s) H') : tCall spPk [] E (tCons t (tCons (tLst (tCons (tC (.int 1)) (tCons (tC (.int 1)) (tCons (tC (.int 2)) (tCons (tC (.int 8)) tNil))))) tNil)) σ H Q := by
  refine tcall_rd (tcons_rd (h H (Same.refl _) _ (cons_rd (tbl_sizes fun L nL => ?_))))
  have s1 := same_new (o := .lst [.int 1, .int 1, .int 2, .int 8]) (Same.refl H) nL
  obtain ⟨xs, e⟩ := src.there
  refine ⟨a, L, _, n, rfl, upd_same, (fun z => by rw [z, e] at nL; cases nL), by decide, by decide, src.mono s1, hn, fun x H' mx f s => ?_⟩
  obtain ⟨z, rfl, oz⟩ := pick_size mx
  exact k z H' oz ((Fm.of s1).trans f) s
def spSz : Sp := fun vs H Q _ => ∃ (a : Addr) (m n : Nat), vs = [.ref a, nV m] ∧ Src H a n ∧ n ≤ 900000 ∧ m ≤ 100 ∧ ∀ (q : Addr) (zs : List Nat) (H' : Hp), Fm (fun c => c = a) H H' → Src H' a (n + 1 + m) → H q = none → H' q = some (.lst (zs.map nV)) → (∀ s ∈ zs, okS s) → zs.length ≤ m → Q (.ref q) H'
theorem sc_law_sizes : FnScope ["_law_source_here", "_law_most", "_law_k"] ["_law_source_here", "_law_most"] (defScope (top 59)) := ⟨rfl, rfl, rfl, by decide +kernel, rfl, by decide +kernel, by decide +kernel⟩
theorem ok_sizes {f : Addr} {fd : FuncData} (F : Fun K "_law_sizes" "_law_sizes" (top 59) f fd) (B : Bl3 mg) (LDr : Cal P w K mg base CX0 1 "_law_draw" ["_law_source_here", "_law_bound"] spDr) (LPk : Cal P w K mg base CX0 2 "_law_pick" ["_law_source_here", "_law_items"] spPk) : FnOk P w K mg base CX0 3 f fd ["_law_source_here", "_law_most"] spSz := by
  refine F.ok sc_law_sizes (fun vs H Q E h => ?_) (fun cdv A outer s H vs Q E hr h => ?_)
  · obtain ⟨a, m, n, rfl, _⟩ := h
    rfl
  · obtain ⟨a, m, n, rfl, src, hn, hm, k⟩ := h
    refine ⟨_, (pss_one (ps_ret (pe_lc (own := [("_law_k", 2)]) (g := gName 2) (te := tCall spPk [] E0 (tCons (tVar 0) (tCons (tLst (tCons (tC (.int 1)) (tCons (tC (.int 1)) (tCons (tC (.int 2)) (tCons (tC (.int 8)) tNil))))) tNil))) (tt := tYes) rfl sc_law_sizes.nd (pi_range1 rfl B.range (pa_cons (pe_cal LDr hr (by omega) pass0 (pa_cons (pv 0) (pa_cons (pe_op op_add (pv 1) pe_int) pa_nil))) pa_nil)) (blkOk_by (N := ["_law_source_here", "_law_most", "_law_k"]) (sc := defScope (top 59)) (by decide +kernel)) (fun _ _ _ _ _ => pg_name (i := 2) sc_law_sizes.nd rfl (Or.inl rfl)) (fun _ _ _ _ _ => pts_nil) (fun _ _ _ _ _ => pe_cal LPk hr (by omega) pass0 (pa_cons (pv 0) (pa_cons (pe_lst (pa_cons pe_int (pa_cons pe_int (pa_cons pe_int (pa_cons pe_int pa_nil))))) pa_nil)))))), ?_⟩
    refine ret_of ?_
    unfold tLc
    refine cons_rd (call_rd (va_cons (ve_var (v := .ref a) rfl) (va_cons (ve_addN (j := 1) (ve_var (v := nV m) rfl) ve_c) va_nil)) ⟨a, m + 1, n, rfl, src, by omega, by omega, by omega, fun r H1 hr1 f1 s1 => ⟨(r : Nat), rfl, by omega, by omega, fun D nD => ?_⟩⟩)
    have nDH := f1.free nD
    obtain ⟨xs0, e0⟩ := s1.there
    have Da : D ≠ a := fun z => by rw [z, e0] at nD; cases nD
    refine lc_range (lo := 0) (n := r) (fun j H2 => Fm (fun c => c = a) H H2 ∧ Src H2 a (n + 1 + j) ∧ ∃ zs : List Nat, H2 D = some (.lst (zs.map nV)) ∧ zs.length = j ∧ ∀ s ∈ zs, okS s) ⟨f1.own nDH, s1.mono (same_new (Same.refl _) nD), [], upd_same, rfl, fun s m => by cases m⟩ (fun j H2 hj z => ?_) (fun H2 z => ?_)
    · obtain ⟨f2, s2, zs, hD, lz, oz⟩ := z
      refine ⟨rfl, ?_⟩
      unfold tYes
      dsimp only
      rw [if_pos rfl]
      refine size_rd (ve_var (v := .ref a) rfl) s2 (by omega) fun s H3 os f3 s3 => ?_
      have hD3 := f3.keep hD Da
      refine ⟨zs.map nV, hD3, by rw [List.length_map, sizeLine_eq]; omega, (f2.trans f3).own nDH, s3.keep (Fm.upd hD3 (S := fun c => c = D) rfl) (fun z => Da z.symm), zs ++ [s], by rw [upd_same, List.map_append]; rfl, by rw [List.length_append, lz]; rfl, fun u mu => ?_⟩
      rcases List.mem_append.mp mu with mu | mu
      · exact oz u mu
      · rw [List.mem_singleton.mp mu]
        exact os
    · obtain ⟨f2, s2, zs, hD, lz, oz⟩ := z
      exact k D zs H2 f2 (s2.le (by omega)) nDH hD oz (by omega)
def spSt : Sp := fun vs H Q _ => ∃ (a : Addr) (c m n : Nat), vs = [.ref a, nV c, nV m] ∧ Src H a n ∧ n ≤ 900000 ∧ m ≤ 100 ∧ c ≤ 100 ∧ ∀ (L : Addr) (xs : List V) (ts : List V1.St) (H' : Hp), Fm (fun c => c = a) H H' → Src H' a (n + 1 + 2 * m) → H L = none → H' L = some (.lst xs) → StsAt H' xs ts → V1.okT c ts → ts.length ≤ m → Q (.ref L) H'
theorem sc_law_steps : FnScope ["_law_source_here", "_law_count", "_law_most", "_law_found", "_law_turn", "_law_way"] ["_law_source_here", "_law_count", "_law_most"] (defScope (top 54)) := ⟨rfl, rfl, rfl, by decide +kernel, rfl, by decide +kernel, by decide +kernel⟩
theorem ok_steps {f : Addr} {fd : FuncData} (F : Fun K "_law_steps" "_law_steps" (top 54) f fd) (B : Bl3 mg) (LDr : Cal P w K mg base CX0 1 "_law_draw" ["_law_source_here", "_law_bound"] spDr) (LPk : Cal P w K mg base CX0 2 "_law_pick" ["_law_source_here", "_law_items"] spPk) : FnOk P w K mg base CX0 3 f fd ["_law_source_here", "_law_count", "_law_most"] spSt := by
  refine F.ok sc_law_steps (fun vs H Q E h => ?_) (fun cdv A outer s H vs Q E hr h => ?_)
  · obtain ⟨a, c, m, n, rfl, _⟩ := h
    rfl
  · obtain ⟨a, c0, m, n, rfl, src, hn, hm, hc, k⟩ := h
    refine ⟨_, (pss_cons (ps_set (i := 3) sc_law_steps.nd rfl (Or.inl rfl) (pe_lst pa_nil))
      (pss_cons (ps_for PassesOwn.never rfl (pi_range1 rfl B.range (pa_cons (pe_cal LDr hr (by omega) pass0 (pa_cons (pv 0) (pa_cons (pe_op op_add (pv 2) pe_int) pa_nil))) pa_nil)) (pg_name (i := 4) sc_law_steps.nd rfl (Or.inl rfl))
        (pss_cons (ps_set (i := 5) sc_law_steps.nd rfl (Or.inl rfl) (pe_cal LPk hr (by omega) pass0 (pa_cons (pv 0) (pa_cons (pe_lst (pa_cons pe_str (pa_cons pe_str (pa_cons pe_str (pa_cons pe_str (pa_cons pe_str pa_nil)))))) pa_nil))))
      (pss_one (ps_if (PW.pt (pw_or (pt_cmpR op_eq (pv 5) pe_str (nomark _)) (pw_or1 (pt_cmpR op_eq (pv 1) pe_int (nomark _))))) (pss_cons (ps_expr (pe_bm PySem.F.plainAttrs_list PySem.F.slot_list_append PySem.F.type_list_append mt_append (pv 3) (pa_cons (pe_tup (pa_cons pe_str (pa_cons (pe_cal LPk hr (by omega) pass0 (pa_cons (pv 0) (pa_cons (pe_lst (pa_cons pe_int (pa_cons pe_int (pa_cons pe_int (pa_cons pe_int pa_nil))))) pa_nil))) pa_nil))) pa_nil)))
      (pss_one (ps_set (i := 1) sc_law_steps.nd rfl (Or.inl rfl) (pe_op op_add (pv 1) pe_int)))) (pss_cons (ps_expr (pe_bm PySem.F.plainAttrs_list PySem.F.slot_list_append PySem.F.type_list_append mt_append (pv 3) (pa_cons (pe_tup (pa_cons (pv 5) (pa_cons (pe_cal LDr hr (by omega) pass0 (pa_cons (pv 0) (pa_cons (pv 1) pa_nil))) pa_nil))) pa_nil)))
      (pss_one (ps_set (i := 1) sc_law_steps.nd rfl (Or.inl rfl) (pe_op op_sub (pv 1) pe_int))))))))
      (pss_one (ps_ret (pv 3))))), ?_⟩
    refine seq_rd (asg_of (tlst_rd ⟨Nat.zero_le _, fun L nL => ?_⟩))
    obtain ⟨xs0, e0⟩ := src.there
    have La : L ≠ a := fun z => by rw [z, e0] at nL; cases nL
    have s0 := same_new (o := .lst []) (Same.refl H) nL
    have hL0 : (upd H L (.lst [])) L = some (.lst []) := upd_same
    generalize upd H L (.lst []) = H0 at s0 hL0 ⊢
    refine next_rd ?_
    dsimp only
    refine seq_rd ?_
    unfold tFor
    refine cons_rd (call_rd (va_cons (ve_var (v := .ref a) rfl) (va_cons (ve_addN (j := 1) (ve_var (v := nV m) rfl) ve_c) va_nil)) ⟨a, m + 1, n, rfl, src.mono s0, by omega, by omega, by omega, fun r H1 hr1 f1 s1 => ⟨(r : Nat), rfl, by omega, by omega, ?_⟩⟩)
    refine for_range (lo := 0) (n := r) (fun j σ H2 => ∃ (v4 v5 : Option V) (ts : List V1.St) (xs : List V), σ = [some (.ref a), some (nV (cntT c0 ts)), some (nV m), some (.ref L), v4, v5] ∧ Fm (fun c => c = a) H H2 ∧ Src H2 a (n + 1 + 2 * j) ∧ H2 L = some (.lst xs) ∧ StsAt H2 xs ts ∧ V1.okT c0 ts ∧ ts.length = j)
      ⟨none, none, [], [], rfl, (Fm.of s0).trans f1, s1, f1.keep hL0 La, ⟨rfl, fun i t e => by cases e⟩, trivial, rfl⟩ ?_ ?_
    · rintro j σ H2 hj ⟨v4, v5, ts, xs, rfl, f2, s2, hL, st, ok, lt⟩
      refine gname_rd ?_
      have lx := st.1
      have cl := cntT_le (ts := ts) (n := c0)
      -- the way
      refine seq_rd (asg_of (tcall_rd (tcons_rd (tvar_rd (v := .ref a) rfl (cons_rd (tbl_ways fun W nW => ?_))))))
      have sW := same_new (o := .lst [.str "make", .str "make", .str "free", .str "free", .str "leave"]) (Same.refl H2) nW
      obtain ⟨xs1, e1⟩ := s2.there
      refine ⟨a, W, _, n + 1 + 2 * j, rfl, upd_same, (fun z => by rw [z, e1] at nW; cases nW), by decide, by decide, s2.mono sW, by omega, fun x H3 mx f3 s3 => ?_⟩
      have f23 := (Fm.of (S := fun c => c = a) sW).trans f3
      have hL3 := f23.keep hL La
      have st3 := st.fm f23
      have way : x = .str "make" ∨ x = .str "free" ∨ x = .str "leave" := by
        simp only [List.mem_cons, List.not_mem_nil, or_false] at mx
        rcases mx with h | h | h | h | h
        · exact .inl h
        · exact .inl h
        · exact .inr (.inl h)
        · exact .inr (.inl h)
        · exact .inr (.inr h)
      refine next_rd ?_
      dsimp only
      have fin : ∀ (t : V1.St) (T : Addr) (H5 : Hp) (v4 v5 : Option V), Fm (fun c => c = a) H H5 → Src H5 a (n + 1 + 2 * j + 2) → H5 L = some (.lst xs) → StsAt H5 xs ts → H5 T = some (.tup (stV t)) → V1.okT (cntT c0 ts) [t] → ∃ (v4' v5' : Option V) (ts' : List V1.St) (xs' : List V), [some (V.ref a), some (nV (cntT (cntT c0 ts) [t])), some (nV m), some (.ref L), v4, v5] = [some (.ref a), some (nV (cntT c0 ts')), some (nV m), some (.ref L), v4', v5'] ∧ Fm (fun c => c = a) H (upd H5 L (.lst (xs ++ [.ref T]))) ∧ Src (upd H5 L (.lst (xs ++ [.ref T]))) a (n + 1 + 2 * (j + 1)) ∧ (upd H5 L (.lst (xs ++ [.ref T]))) L = some (.lst xs') ∧ StsAt (upd H5 L (.lst (xs ++ [.ref T]))) xs' ts' ∧ V1.okT c0 ts' ∧ ts'.length = j + 1 := fun t T H5 v4 v5 f5 s5 hL5 st5 hT ok5 => by
        have fu : Fm (fun c => c = L) H5 (upd H5 L (.lst (xs ++ [.ref T]))) := Fm.upd hL5 rfl
        exact ⟨v4, v5, ts ++ [t], xs ++ [.ref T], by rw [cntT_app], f5.own nL, (s5.keep fu (fun z => La z.symm)).le (by omega), upd_same, (st5.snoc hT).fm fu, okT_app ok ok5, by rw [List.length_append, lt]; rfl⟩
      have room : xs.length < sizeLine := by rw [sizeLine_eq]; omega
      by_cases mk : x = .str "make" ∨ cntT c0 ts = 0
      · have cT : BE (tOr (tTest (tOp rEq (tVar 5) (tC (.str "make")))) (tTest (tOp rEq (tVar 1) (tC (.int 0))))) true [some (.ref a), some (nV (cntT c0 ts)), some (nV m), some (.ref L), some (.int (0 + (j : Nat))), some x] H3 := by
          rcases way with rfl | rfl | rfl
          · exact be_to (be_or (c := true) (be_eqS (x := "make") (y := "make") (ve_var rfl) ve_c) fun z => absurd z (by decide +kernel)) (by decide +kernel)
          · have c0' : cntT c0 ts = 0 := mk.resolve_left (by decide +kernel)
            exact be_to (be_or (be_eqS (x := "free") (y := "make") (ve_var rfl) ve_c) fun _ => be_eqN (i := cntT c0 ts) (j := 0) (ve_var rfl) ve_c) (by rw [decide_eq_true c0', Bool.or_true])
          · have c0' : cntT c0 ts = 0 := mk.resolve_left (by decide +kernel)
            exact be_to (be_or (be_eqS (x := "leave") (y := "make") (ve_var rfl) ve_c) fun _ => be_eqN (i := cntT c0 ts) (j := 0) (ve_var rfl) ve_c) (by rw [decide_eq_true c0', Bool.or_true])
        refine if_be cT fun H4 s4 => ⟨fun _ => ?_, fun z => absurd z (by decide)⟩
        refine seq_rd ⟨.ref L, rfl, .inl ⟨rfl, _, SqL.of (s4 _ _ hL3)⟩, cons_rd (ttup_rd (tcons_rd (tc_rd (cons_rd (size_rd (ve_var (v := .ref a) rfl) (s3.mono s4) (by omega) fun s H5 os f5 s5 => ⟨by show 2 ≤ sizeLine; decide, fun T nT => ?_⟩)))))⟩
        have s6 := same_new (o := .tup [.str "make", nV s]) (Same.refl H5) nT
        have hT : (upd H5 T (.tup [.str "make", nV s])) T = some (.tup (stV (.make s))) := upd_same
        generalize upd H5 T (.tup [.str "make", nV s]) = H6 at s6 hT ⊢
        have f36 : Fm (fun c => c = a) H3 H6 := (Fm.of s4).trans (f5.trans (Fm.of s6))
        have hL6 := f36.keep hL3 La
        refine ⟨L, xs, _, rfl, rfl, hL6, room, ?_⟩
        refine next_rd ?_
        dsimp only
        refine ⟨nV (cntT c0 ts), rfl, ?_⟩
        refine ⟨((cntT c0 ts : Nat) : Int), 1, rfl, rfl, ?_⟩
        exact fin (.make s) T H6 _ _ ((f2.trans f23).trans f36) ((s5.mono s6).le (by omega)) hL6 (st3.fm f36) hT ⟨os, trivial⟩
      · have w2 : x = .str "free" ∨ x = .str "leave" := way.resolve_left fun h => mk (.inl h)
        have cp : cntT c0 ts ≠ 0 := fun h => mk (.inr h)
        have cT : BE (tOr (tTest (tOp rEq (tVar 5) (tC (.str "make")))) (tTest (tOp rEq (tVar 1) (tC (.int 0))))) false [some (.ref a), some (nV (cntT c0 ts)), some (nV m), some (.ref L), some (.int (0 + (j : Nat))), some x] H3 := by
          rcases w2 with rfl | rfl
          · exact be_to (be_or (be_eqS (x := "free") (y := "make") (ve_var rfl) ve_c) fun _ => be_eqN (i := cntT c0 ts) (j := 0) (ve_var rfl) ve_c) (by rw [decide_eq_false cp]; decide +kernel)
          · exact be_to (be_or (be_eqS (x := "leave") (y := "make") (ve_var rfl) ve_c) fun _ => be_eqN (i := cntT c0 ts) (j := 0) (ve_var rfl) ve_c) (by rw [decide_eq_false cp]; decide +kernel)
        refine if_be cT fun H4 s4 => ⟨fun z => absurd z (by decide), fun _ => ?_⟩
        refine seq_rd ⟨.ref L, rfl, .inl ⟨rfl, _, SqL.of (s4 _ _ hL3)⟩, cons_rd (ttup_rd (tcons_rd (tvar_rd (v := x) rfl (cons_rd (call_rd (va_cons (ve_var (v := .ref a) rfl) (va_cons (ve_var (v := nV (cntT c0 ts)) rfl) va_nil)) ⟨a, cntT c0 ts, n + 1 + 2 * j + 1, rfl, s3.mono s4, by omega, by omega, by omega, fun r5 H5 hr5 f5 s5 => ⟨by show 2 ≤ sizeLine; decide, fun T nT => ?_⟩⟩)))))⟩
        have s6 := same_new (o := .tup [x, nV r5]) (Same.refl H5) nT
        have hT : (upd H5 T (.tup [x, nV r5])) T = some (.tup [x, nV r5]) := upd_same
        generalize upd H5 T (.tup [x, nV r5]) = H6 at s6 hT ⊢
        have f36 : Fm (fun c => c = a) H3 H6 := (Fm.of s4).trans (f5.trans (Fm.of s6))
        have hL6 := f36.keep hL3 La
        refine ⟨L, xs, _, rfl, rfl, hL6, room, ?_⟩
        refine next_rd ?_
        dsimp only
        refine ⟨nV (cntT c0 ts), rfl, ((cntT c0 ts : Nat) : Int), 1, rfl, rfl, ?_⟩
        have e1 : V.int (((cntT c0 ts : Nat) : Int) - 1) = nV (cntT c0 ts - 1) := by
          show V.int _ = V.int _
          congr 1
          omega
        rcases w2 with rfl | rfl
        · have z := fin (.free r5) T H6 (some (.int (0 + (j : Nat)))) (some (.str "free")) ((f2.trans f23).trans f36) ((s5.mono s6).le (by omega)) hL6 (st3.fm f36) hT ⟨hr5, trivial⟩
          show ∃ (v4' v5' : Option V) (ts' : List V1.St) (xs' : List V), [_, some (V.int (((cntT c0 ts : Nat) : Int) - 1)), _, _, _, _] = _ ∧ _
          rw [e1]
          exact z
        · have z := fin (.leave r5) T H6 (some (.int (0 + (j : Nat)))) (some (.str "leave")) ((f2.trans f23).trans f36) ((s5.mono s6).le (by omega)) hL6 (st3.fm f36) hT ⟨hr5, trivial⟩
          show ∃ (v4' v5' : Option V) (ts' : List V1.St) (xs' : List V), [_, some (V.int (((cntT c0 ts : Nat) : Int) - 1)), _, _, _, _] = _ ∧ _
          rw [e1]
          exact z
    · rintro σ H2 ⟨v4, v5, ts, xs, rfl, f2, s2, hL, st, ok, lt⟩
      exact ret_of (tvar_rd (v := .ref L) rfl (k L xs ts H2 f2 (s2.le (by omega)) nL hL st ok (by omega)))
end

end K1

set_option Elab.async false
set_option linter.all false
set_option maxRecDepth 100000
set_option maxHeartbeats 4000000
namespace K1
open PySem L2 W1
/-! ### worlds in memory -/
def wdD (ao ap : Addr) : List (Key × V) := [(Sum.inr "objects", .ref ao), (Sum.inr "pools", .ref ap)]
theorem ko_ne : (Sum.inr ("objects" : Str) : Key) ≠ Sum.inr ("pools" : Str) := by decide +kernel
theorem wd_o {ao ap : Addr} : valV (wdD ao ap) (Sum.inr "objects" : Key) = some (.ref ao) := by
  unfold wdD valV
  rw [List.find?_cons, decide_eq_true rfl]
  rfl
theorem wd_p {ao ap : Addr} : valV (wdD ao ap) (Sum.inr "pools" : Key) = some (.ref ap) := by
  unfold wdD valV
  rw [List.find?_cons, decide_eq_false ko_ne, List.find?_cons, decide_eq_true rfl]
  rfl
theorem wd_merge {ao ap : Addr} : mergeK [] (wdD ao ap) = wdD ao ap := by
  unfold wdD mergeK
  rw [List.foldl_cons, List.foldl_cons, List.foldl_nil, putK_new (kvs := []) rfl, putK_new]
  · rfl
  · show valV [((Sum.inr "objects" : Key), V.ref ao)] (Sum.inr "pools") = none
    unfold valV
    rw [List.find?_cons, decide_eq_false ko_ne]
    rfl
def rg (n : Nat) : List Nat := (List.range n).map (· + 1)
theorem rg_succ {n : Nat} : rg (n + 1) = rg n ++ [n + 1] := by
  unfold rg
  rw [List.range_succ, List.map_append]
  rfl
theorem rg_mem {n s : Nat} : s ∈ rg n ↔ 1 ≤ s ∧ s ≤ n := by
  unfold rg
  rw [List.mem_map]
  constructor
  · rintro ⟨k, hk, rfl⟩
    have := List.mem_range.mp hk
    omega
  · rintro ⟨h1, h2⟩
    exact ⟨s - 1, List.mem_range.mpr (by omega), by omega⟩
def Obs (H : Hp) (xs : List V) (os : List (Pl × Nat)) : Prop := xs.length = os.length ∧ ∀ (i : Nat) (x : Pl × Nat), os[i]? = some x → ∃ t v, xs[i]? = some (.ref t) ∧ H t = some (.tup [v, nV x.2]) ∧ PlAt H v x.1
theorem Obs.fm {S : Addr → Prop} {H H' : Hp} {xs : List V} {os : List (Pl × Nat)} (h : Obs H xs os) (f : Fm S H H') : Obs H' xs os := ⟨h.1, fun i x e => by
  obtain ⟨t, v, e1, e2, e3⟩ := h.2 i x e
  exact ⟨t, v, e1, f.tup e2, e3.fm f⟩⟩
structure WdAt' (H : Hp) (a ao ap : Addr) (r : Nat → Addr) (l : V1.LW) : Prop where
  wd : H a = some (.dK (wdD ao ap))
  pl : H ap = some (.dK (kvz (rg 8) r))
  ob : ∃ xs, H ao = some (.lst xs) ∧ Obs H xs l.objs
  row : ∀ s, 1 ≤ s → s ≤ 8 → ∃ xs, H (r s) = some (.lst xs) ∧ Ps H xs (l.pool s)
  inj : ∀ s t, 1 ≤ s → s ≤ 8 → 1 ≤ t → t ≤ 8 → r s = r t → s = t
  ne : ∀ s, 1 ≤ s → s ≤ 8 → r s ≠ ao
/-- its lists -/
def Ft (ao : Addr) (r : Nat → Addr) : Addr → Prop := fun b => b = ao ∨ ∃ s, 1 ≤ s ∧ s ≤ 8 ∧ b = r s
theorem WdAt'.fm {S : Addr → Prop} {H H' : Hp} {a ao ap : Addr} {r : Nat → Addr} {l : V1.LW} (h : WdAt' H a ao ap r l) (f : Fm S H H') (d : ∀ b, Ft ao r b → ¬ S b) : WdAt' H' a ao ap r l := by
  obtain ⟨xs, h1, h2⟩ := h.ob
  exact ⟨f.dk h.wd, f.dk h.pl, ⟨xs, f.keep h1 (d _ (.inl rfl)), h2.fm f⟩, fun s s1 s2 => by
    obtain ⟨ys, k1, k2⟩ := h.row s s1 s2
    exact ⟨ys, f.keep k1 (d _ (.inr ⟨s, s1, s2, rfl⟩)), k2.fm f⟩, h.inj, h.ne⟩
theorem WdAt'.lists {H : Hp} {a ao ap : Addr} {r : Nat → Addr} {l : V1.LW} (h : WdAt' H a ao ap r l) : ∀ b, Ft ao r b → ∃ xs, H b = some (.lst xs) := by
  rintro b (rfl | ⟨s, s1, s2, rfl⟩)
  · obtain ⟨xs, h1, _⟩ := h.ob
    exact ⟨xs, h1⟩
  · obtain ⟨xs, h1, _⟩ := h.row s s1 s2
    exact ⟨xs, h1⟩
def lw0 (zs : List Nat) : V1.LW := ⟨(V1.ident zs).objs, fun s => (List.range 60).map (V1.Pl.pool s)⟩
theorem rep0 {zs : List Nat} : V1.Rep (V1.ident zs) (lw0 zs) 0 := by
  refine ⟨rfl, fun s k hk => ?_, fun s => ⟨0, 0, fun k _ => ?_, ?_⟩⟩
  · have hk : k < ((List.range 60).map (V1.Pl.pool s)).length := hk
    rw [List.length_map, List.length_range] at hk
    show ((List.range 60).map (V1.Pl.pool s))[k]? = _
    rw [List.getElem?_map, List.getElem?_range hk]
    rfl
  · show V1.Pl.pool s k = _
    congr 1
    omega
  · show 0 + 60 ≤ ((List.range 60).map (V1.Pl.pool s)).length + 0
    rw [List.length_map, List.length_range]
    omega
theorem forR2 {ta : TA} {lo hi : Int} {g : TG} {tb : TS} {D : Ends} {σ : St} {H : Hp} (h : VA ta [.int lo, .int hi] σ H) (b : -(2 ^ 62) ≤ lo ∧ lo < 2 ^ 62 ∧ -(2 ^ 62) ≤ hi ∧ hi < 2 ^ 62) (Pv : Nat → St → Hp → Prop) (h0 : Pv 0 σ H)
    (hs : ∀ i σ H, i < (hi - lo).toNat → Pv i σ H → g (.int (lo + i)) σ H fun σ2 H2 => tb { D with nx := Pv (i + 1), ct := Pv (i + 1), bk := D.nx } σ2 H2) (hd : ∀ σ H, Pv (hi - lo).toNat σ H → D.nx σ H) : tFor (iRng2 ta) g tb D σ H :=
  h H (Same.refl _) _ ⟨lo, hi, rfl, b, for_range Pv h0 hs hd⟩
theorem lcE {K : PySem.W.Frag} {a : Addr} {xs : List V} {ta : TA} {g : TG} {tt : TT} {te : TE} {vs : List Nat} {σ : St} {H : Hp} {Q : VK} (h : VA ta [.ref a] σ H) (ha : H a = some (.lst xs)) (Pv : Addr → Nat → Hp → Prop) (h0 : ∀ D, H D = none → Pv D 0 (upd H D (.lst []))) (hG : ∀ D i H1, i ≤ xs.length → Pv D i H1 → SqL K H1 a xs)
    (hs : ∀ D i x H1 T, H D = none → xs[i]? = some x → Pv D i H1 → H1 T = none → g (.ref T) (wipe σ vs) (upd H1 T (.tup [.int (i : Nat), x])) fun σ2 H2 => wipe σ2 vs = wipe σ vs ∧ tt σ2 H2 fun b H3 =>
      if b = true then te σ2 H3 fun y H4 => ∃ acc, H4 D = some (.lst acc) ∧ acc.length < sizeLine ∧ Pv D (i + 1) (upd H4 D (.lst (acc ++ [y]))) else Pv D (i + 1) H3) (hd : ∀ D H1, H D = none → Pv D xs.length H1 → Q (.ref D) H1) : tLc (iEnum K ta) g tt te vs σ H Q :=
  h H (Same.refl _) _ ⟨a, xs, rfl, SqL.of ha, fun D nD => lc_it walk_enum (Pv D) (h0 D nD) (hG D) (fun i x H1 H2 hi z y => by
    obtain ⟨T, k, v, h1, h2, h3, h4, h5⟩ := y
    subst h1 h3
    cases h4
    exact hs D i v H1 T nD h5 z h2) (fun H1 z => hd D H1 nD z)⟩
section
variable {P : Program} {w : World} {K : PySem.W.Frag} {mg : Str → Option Value} {base : Heap} {CP CM C : Addr}
def spPlc : Sp := fun vs H Q _ => ∃ (q : Addr) (zs : List Nat), vs = [.ref q] ∧ H q = some (.lst (zs.map nV)) ∧ zs.length ≤ 1000 ∧ ∀ (a ao ap : Addr) (r : Nat → Addr) (H' : Hp), Same H H' → WdAt' H' a ao ap r (lw0 zs) → (∀ b, Ft ao r b → H b = none) → Q (.ref a) H'
theorem sc_law_places : FnScope ["_law_sizes_here", "_law_order", "_law_size", "_law_objects", "_law_pools", "_law_count"] ["_law_sizes_here"] (defScope (top 53)) := ⟨rfl, rfl, rfl, by decide +kernel, rfl, by decide +kernel, by decide +kernel⟩
theorem ok_places {f : Addr} {fd : FuncData} (F : Fun K "_law_places" "_law_places" (top 53) f fd) (B : Bl3 mg) : FnOk P w K mg base CX0 1 f fd ["_law_sizes_here"] spPlc := by
  refine F.ok sc_law_places (fun vs H Q E h => ?_) (fun cdv A outer s H vs Q E hr h => ?_)
  · obtain ⟨q, zs, rfl, _⟩ := h
    rfl
  · obtain ⟨q, zs, rfl, hq, lz, k⟩ := h
    refine ⟨_, (pss_cons (ps_setLc (i := 3) (y := "_law_objects") rfl sc_law_places.nd rfl rfl (by rfl) (own := [("_law_order", 1), ("_law_size", 2)]) (g := gTup K 2 (gCons (gName 1) (gCons (gName 2) (gNil)))) (te := tTup (tCons (tTup (tCons (tC (.str "object")) (tCons (tVar 1) tNil))) (tCons (tVar 2) tNil))) (tt := tYes) (pi_enum rfl B.enumerate (pa_cons (pv 0) pa_nil)) (blkOk_by (N := ["_law_sizes_here", "_law_order", "_law_size", "_law_objects", "_law_pools", "_law_count"]) (sc := defScope (top 53)) (by decide +kernel)) (fun _ _ _ _ _ => pg_tup rfl (pgs_cons (pg_name (i := 1) sc_law_places.nd rfl (Or.inl rfl)) (pgs_cons (pg_name (i := 2) sc_law_places.nd rfl (Or.inl rfl)) pgs_nil))) (fun _ _ _ _ _ => pts_nil) (fun _ _ _ _ _ => pe_tup (pa_cons (pe_tup (pa_cons pe_str (pa_cons (pv 1) pa_nil))) (pa_cons (pv 2) pa_nil))))
      (pss_cons (ps_set (i := 4) sc_law_places.nd rfl (Or.inl rfl) pe_dnewK)
      (pss_cons (ps_for PassesOwn.never rfl (pi_range2 rfl B.range (pa_cons pe_int (pa_cons pe_int pa_nil))) (pg_name (i := 2) sc_law_places.nd rfl (Or.inr rfl))
        (pss_one (ps_dput (hr1 hr) (pv 4) (pv 2) (pe_lc (own := [("_law_count", 5)]) (g := gName 5) (te := tTup (tCons (tC (.str "pool")) (tCons (tVar 2) (tCons (tVar 5) tNil)))) (tt := tYes) rfl sc_law_places.nd (pi_range1 rfl B.range (pa_cons pe_int pa_nil)) (blkOk_by (N := ["_law_sizes_here", "_law_order", "_law_size", "_law_objects", "_law_pools", "_law_count"]) (sc := defScope (top 53)) (by decide +kernel)) (fun _ _ _ _ _ => pg_name (i := 5) sc_law_places.nd rfl (Or.inl rfl)) (fun _ _ _ _ _ => pts_nil) (fun _ _ _ _ _ => pe_tup (pa_cons pe_str (pa_cons (pv 2) (pa_cons (pv 5) pa_nil))))) rfl)))
      (pss_one (ps_ret (pe_disp (pps_cons pe_str (pv 3) (pps_cons pe_str (pv 4) pps_nil)) rfl rfl (fun z => by cases z) (by decide))))))), ?_⟩
    have lzm : (zs.map nV).length = zs.length := List.length_map ..
    refine seq_rd (asg_of (lcE (a := q) (xs := zs.map nV) (va_cons (ve_var (v := .ref q) rfl) va_nil) hq (fun ao i H1 => Same H H1 ∧ ∃ xs, H1 ao = some (.lst xs) ∧ Obs H1 xs ((V1.ident zs).objs.take i)) (fun ao nao => ⟨same_new (Same.refl _) nao, [], upd_same, rfl, fun i x e => by cases e⟩) (fun ao i H1 _ z => SqL.of (z.1 _ _ hq)) (fun ao i x H1 T nao hx z nT => ?_) (fun ao H1 nao z => ?_)))
    · obtain ⟨s1, xs, ha, ob⟩ := z
      obtain ⟨sz, hz, rfl⟩ : ∃ sz, zs[i]? = some sz ∧ x = nV sz := by
        rw [List.getElem?_map] at hx
        cases e : zs[i]? with
        | none => rw [e] at hx; cases hx
        | some sz => rw [e] at hx; cases hx; exact ⟨sz, rfl, rfl⟩
      have hi := (List.getElem?_eq_some_iff.mp hz).1
      refine pair_rd ⟨rfl, ?_⟩
      unfold tYes
      dsimp only
      rw [if_pos rfl]
      have s2 := same_new (o := .tup [.int (i : Nat), nV sz]) (Same.refl H1) nT
      generalize upd H1 T (.tup [.int (i : Nat), nV sz]) = H2 at s2 ⊢
      refine ttup_rd (tcons_rd (ttup_rd (tcons_rd (tc_rd (cons_rd (tvar_rd (v := nV i) rfl ⟨by show 2 ≤ sizeLine; decide, fun U nU => ?_⟩))))))
      have s3 := same_new (o := .tup [.str "object", nV i]) (Same.refl H2) nU
      have hU : (upd H2 U (.tup [.str "object", nV i])) U = some (.tup [.str "object", nV i]) := upd_same
      generalize upd H2 U (.tup [.str "object", nV i]) = H3 at s3 hU ⊢
      refine cons_rd (tvar_rd (v := nV sz) rfl ⟨by show 2 ≤ sizeLine; decide, fun W nW => ?_⟩)
      have s4 := same_new (o := .tup [.ref U, nV sz]) (Same.refl H3) nW
      have hW : (upd H3 W (.tup [.ref U, nV sz])) W = some (.tup [.ref U, nV sz]) := upd_same
      generalize upd H3 W (.tup [.ref U, nV sz]) = H4 at s4 hW ⊢
      have s14 := (s2.trans s3).trans s4
      have ha4 := s14 _ _ ha
      have lx := ob.1
      rw [List.length_take] at lx
      refine ⟨xs, ha4, by rw [sizeLine_eq]; omega, same_updL (s1.trans s14) nao, xs ++ [.ref W], upd_same, ?_⟩
      have eo : (V1.ident zs).objs[i]? = some (V1.Pl.obj i, sz) := by rw [V1.ident_get, hz]; rfl
      rw [start_drop _ _ _ eo]
      have f4 : Fm (fun c => c = ao) H4 (upd H4 ao (.lst (xs ++ [.ref W]))) := Fm.upd ha4 rfl
      refine Obs.fm (H := H4) ?_ f4
      have o4 := ob.fm (Fm.of (S := fun _ => False) s14)
      refine ⟨by rw [List.length_append, List.length_append, o4.1]; rfl, fun j y e => ?_⟩
      by_cases c : j < ((V1.ident zs).objs.take i).length
      · rw [List.getElem?_append_left c] at e
        obtain ⟨t', v', e1, e2⟩ := o4.2 j y e
        exact ⟨t', v', by rw [List.getElem?_append_left (by rw [o4.1]; exact c)]; exact e1, e2⟩
      · rw [List.getElem?_append_right (by omega)] at e
        have ej : j = ((V1.ident zs).objs.take i).length := by
          have := (List.getElem?_eq_some_iff.mp e).1
          simp only [List.length_cons, List.length_nil] at this
          omega
        subst ej
        rw [Nat.sub_self] at e
        cases e
        exact ⟨W, .ref U, by rw [List.getElem?_append_right (by rw [o4.1]; exact Nat.le_refl _), o4.1, Nat.sub_self]; rfl, hW, U, rfl, s4 _ _ hU⟩
    · obtain ⟨s1, xs, ha, ob⟩ := z
      have full : (V1.ident zs).objs.take (zs.map nV).length = (V1.ident zs).objs := by
        rw [lzm, List.take_of_length_le]
        unfold V1.ident
        simp
      rw [full] at ob
      refine next_rd ?_
      dsimp only
      refine seq_rd (asg_of fun D nD => ?_)
      have s2 := same_new (o := .dK []) (Same.refl H1) nD
      have hD2 : (upd H1 D (.dK [])) D = some (.dK []) := upd_same
      have nDH := s1.free nD
      generalize upd H1 D (.dK []) = H2 at s2 hD2 ⊢
      refine next_rd ?_
      dsimp only
      refine seq_rd ?_
      have s12 := s1.trans s2
      have hao2 := s2 _ _ ha
      refine forR2 (lo := 1) (hi := 9) (va_cons ve_int (va_cons ve_int va_nil)) ⟨by decide, by decide, by decide, by decide⟩ (fun i σ H3 => ∃ (v2 v5 : Option V) (t : Nat → Addr), σ = [some (.ref q), none, v2, some (.ref ao), some (.ref D), v5] ∧ Same H H3 ∧ H3 ao = some (.lst xs) ∧ Obs H3 xs (V1.ident zs).objs ∧ H3 D = some (.dK (kvz (rg i) t)) ∧
        (∀ s, s ∈ rg i → (∃ ys, H3 (t s) = some (.lst ys) ∧ Ps H3 ys ((List.range 60).map (V1.Pl.pool s))) ∧ H (t s) = none ∧ t s ≠ ao) ∧ ∀ s u, s ∈ rg i → u ∈ rg i → t s = t u → s = u)
        ⟨none, none, fun _ => 0, rfl, s12, hao2, ob.fm (Fm.of (S := fun _ => False) s2), hD2, (fun s m => by cases m), (fun s u m => by cases m)⟩ ?_ ?_
      · rintro i σ H3 hi ⟨v2, v5, t, rfl, s3, hao3, ob3, hD3, rows, inj⟩
        have hi8 : i < 8 := hi
        have ei : (1 : Int) + (i : Nat) = ((i + 1 : Nat) : Int) := by omega
        rw [ei]
        refine gname_rd ?_
        -- the row
        refine lcR1 (m := 60) (va_cons ve_int va_nil) ⟨by decide, by decide⟩ (fun R j H4 => Same H3 H4 ∧ ∃ ys, H4 R = some (.lst ys) ∧ Ps H4 ys ((List.range j).map (V1.Pl.pool (i + 1)))) (fun R nR => ⟨same_new (Same.refl _) nR, [], upd_same, Ps.nil⟩) (fun R j H4 nR hj z => ?_) (fun R H4 nR z => ?_)
        · obtain ⟨s4, ys, hR, py⟩ := z
          have hj : j < 60 := hj
          refine ⟨rfl, ?_⟩
          unfold tYes
          dsimp only
          rw [if_pos rfl]
          have e0 : V.int (0 + (j : Nat)) = nV j := by show V.int _ = V.int _; congr 1; omega
          refine ttup_rd (tcons_rd (tc_rd (tcons_rd (tvar_rd (v := nV (i + 1)) rfl (cons_rd (tvar_rd (v := nV j) (by rw [← e0]; rfl) ⟨by show 3 ≤ sizeLine; decide, fun U nU => ?_⟩))))))
          have s5 := same_new (o := .tup [.str "pool", nV (i + 1), nV j]) (Same.refl H4) nU
          have hU : (upd H4 U (.tup [.str "pool", nV (i + 1), nV j])) U = some (.tup [.str "pool", nV (i + 1), nV j]) := upd_same
          generalize upd H4 U (.tup [.str "pool", nV (i + 1), nV j]) = H5 at s5 hU ⊢
          have hR5 := s5 _ _ hR
          have ly := py.1
          rw [List.length_map, List.length_range] at ly
          refine ⟨ys, hR5, by rw [sizeLine_eq]; omega, same_updL (s4.trans s5) nR, ys ++ [.ref U], upd_same, ?_⟩
          rw [List.range_succ, List.map_append]
          have p5 := (py.mono s5).app (Ps.one (H := H5) (v := .ref U) (p := V1.Pl.pool (i + 1) j) ⟨U, rfl, hU⟩)
          exact ⟨p5.1, fun a p e => by
            obtain ⟨v, z1, z2⟩ := p5.2 a p e
            exact ⟨v, z1, upd_tup hR5 z2⟩⟩
        · obtain ⟨s4, ys, hR, py⟩ := z
          have hD4 := s4 _ _ hD3
          have nRH := s3.free nR
          have new : i + 1 ∉ rg i := fun m => by have := rg_mem.mp m; omega
          refine ⟨.ref D, rfl, nV (i + 1), rfl, D, _, rfl, DPut.k (k := Sum.inl ((i + 1 : Nat) : Int)) hD4 ?_, ?_⟩
          · rw [kvz_len, sizeLine_eq]
            have : (rg i).length = i := by unfold rg; rw [List.length_map, List.length_range]
            omega
          · rw [kvz_put new, ← rg_succ]
            have s5 : Same H (upd H4 D (.dK (kvz (rg (i + 1)) fun u => if u = i + 1 then R else t u))) := same_updL (s3.trans s4) nDH
            have up : ∀ {b : Addr} {o : HO}, H4 b = some o → (∀ z, o ≠ .dK z) → (upd H4 D (.dK (kvz (rg (i + 1)) fun u => if u = i + 1 then R else t u))) b = some o := fun {b o} z n => by
              rw [upd_ne]
              · exact z
              · intro e
                rw [e, hD4] at z
                cases z
                exact n _ rfl
            have ups : ∀ {ys : List V} {ps : List Pl}, Ps H4 ys ps → Ps (upd H4 D (.dK (kvz (rg (i + 1)) fun u => if u = i + 1 then R else t u))) ys ps := fun {ys ps} z => ⟨z.1, fun a p e => by
              obtain ⟨v, z1, b, z2, z3⟩ := z.2 a p e
              exact ⟨v, z1, b, z2, up z3 (fun _ => nofun)⟩⟩
            have nRao : R ≠ ao := fun z => by rw [z, hao3] at nR; cases nR
            have nRt : ∀ s, s ∈ rg i → R ≠ t s := fun s m z => by
              obtain ⟨⟨ys, h1, _⟩, _⟩ := rows s m
              rw [z, h1] at nR
              cases nR
            refine ⟨_, _, fun u => if u = i + 1 then R else t u, rfl, s5, up (s4 _ _ hao3) (fun _ => nofun), ⟨ob3.1, fun a x e => ?_⟩, upd_same, fun s m => ?_, fun s u ms mu e => ?_⟩
            · obtain ⟨t', v', z1, z2, b, z3, z4⟩ := ob3.2 a x e
              exact ⟨t', v', z1, up (s4 _ _ z2) (fun _ => nofun), b, z3, up (s4 _ _ z4) (fun _ => nofun)⟩
            · by_cases c : s = i + 1
              · subst c
                dsimp only
                rw [if_pos rfl]
                exact ⟨⟨ys, up hR (fun _ => nofun), ups py⟩, nRH, nRao⟩
              · dsimp only
                rw [if_neg c]
                have m' : s ∈ rg i := rg_mem.mpr (by have := rg_mem.mp m; omega)
                obtain ⟨⟨ys2, h1, h2⟩, h3, h4⟩ := rows s m'
                exact ⟨⟨ys2, up (s4 _ _ h1) (fun _ => nofun), ups (h2.mono s4)⟩, h3, h4⟩
            · dsimp only at e
              by_cases c : s = i + 1
              · by_cases d : u = i + 1
                · omega
                · rw [if_pos c, if_neg d] at e
                  exact (nRt u (rg_mem.mpr (by have := rg_mem.mp mu; omega)) e).elim
              · by_cases d : u = i + 1
                · rw [if_neg c, if_pos d] at e
                  exact (nRt s (rg_mem.mpr (by have := rg_mem.mp ms; omega)) e.symm).elim
                · rw [if_neg c, if_neg d] at e
                  exact inj s u (rg_mem.mpr (by have := rg_mem.mp ms; omega)) (rg_mem.mpr (by have := rg_mem.mp mu; omega)) e
      · rintro σ H3 ⟨v2, v5, t, rfl, s3, hao3, ob3, hD3, rows, inj⟩
        dsimp only
        refine ret_of ?_
        intro W nW
        refine tc_rd (tvar_rd (v := .ref ao) rfl (tc_rd (tvar_rd (v := .ref D) rfl ?_)))
        refine ⟨upd_same, wdD ao D, rfl, by show 2 ≤ 15; decide, ?_⟩
        rw [wd_merge]
        have s4 : Same H3 (upd (upd H3 W (.dK [])) W (.dK (wdD ao D))) := same_updL (same_new (Same.refl _) nW) nW
        refine k W ao D t _ (s3.trans s4) ⟨upd_same, s4 _ _ hD3, ⟨xs, s4 _ _ hao3, ob3.fm (Fm.of (S := fun _ => False) s4)⟩, fun s s1 s2 => ?_, fun s u s1 s2 u1 u2 e => inj s u (rg_mem.mpr ⟨s1, s2⟩) (rg_mem.mpr ⟨u1, u2⟩) e, fun s s1 s2 => (rows s (rg_mem.mpr ⟨s1, s2⟩)).2.2⟩ ?_
        · obtain ⟨⟨ys, h1, h2⟩, _⟩ := rows s (rg_mem.mpr ⟨s1, s2⟩)
          exact ⟨ys, s4 _ _ h1, h2.mono s4⟩
        · rintro b (rfl | ⟨s, s1, s2, rfl⟩)
          · exact nao
          · exact (rows s (rg_mem.mpr ⟨s1, s2⟩)).2.1
end

end K1

set_option Elab.async false
set_option linter.all false
set_option maxRecDepth 100000
set_option maxHeartbeats 4000000
namespace K1
open PySem L2 W1
/-! ### playing in memory -/
theorem ve_obj {t : TE} {a ao ap : Addr} {σ : St} {H1 : Hp} (h : VE t (.ref a) σ H1) (hw : H1 a = some (.dK (wdD ao ap))) : VE (tDGet t (tC (.str "objects"))) (.ref ao) σ H1 := fun H2 s2 Q k => h H2 s2 _ ⟨a, _, rfl, .inl ⟨_, Sum.inr "objects", .inl (s2 _ _ hw), rfl, (wd_o (ap := ap)).symm⟩, k⟩
theorem ve_pls {t : TE} {a ao ap : Addr} {σ : St} {H1 : Hp} (h : VE t (.ref a) σ H1) (hw : H1 a = some (.dK (wdD ao ap))) : VE (tDGet t (tC (.str "pools"))) (.ref ap) σ H1 := fun H2 s2 Q k => h H2 s2 _ ⟨a, _, rfl, .inl ⟨_, Sum.inr "pools", .inl (s2 _ _ hw), rfl, (wd_p (ao := ao)).symm⟩, k⟩
theorem seqIx {i n : Nat} (h : i < n) : seqIndex? (i : Int) n = some i := by
  unfold seqIndex?
  simp only
  rw [if_neg (show ¬ ((i : Nat) : Int) < 0 by omega), if_pos]
  · rw [Int.toNat_natCast]
  · rw [Bool.and_eq_true]
    exact ⟨decide_eq_true (by omega), decide_eq_true (by omega)⟩
theorem okS_8 {s : Nat} (h : okS s) : 1 ≤ s ∧ s ≤ 8 := by
  unfold okS V1.okS at h
  omega
theorem WdAt'.same {H H' : Hp} {a ao ap : Addr} {r : Nat → Addr} {l : V1.LW} (h : WdAt' H a ao ap r l) (s : Same H H') : WdAt' H' a ao ap r l := h.fm (S := fun _ => False) (Fm.of s) (fun _ _ z => z)
theorem WdAt'.objs {H : Hp} {a ao ap : Addr} {r : Nat → Addr} {l : V1.LW} {ys : List V} {os : List (Pl × Nat)} (h : WdAt' H a ao ap r l) (o : Obs H ys os) : WdAt' (upd H ao (.lst ys)) a ao ap r ⟨os, l.pool⟩ := by
  obtain ⟨xs, h1, _⟩ := h.ob
  have f : Fm (fun c => c = ao) H (upd H ao (.lst ys)) := Fm.upd h1 rfl
  exact ⟨f.dk h.wd, f.dk h.pl, ⟨ys, upd_same, o.fm f⟩, fun s s1 s2 => by
    obtain ⟨zs, k1, k2⟩ := h.row s s1 s2
    exact ⟨zs, f.keep k1 (h.ne s s1 s2), k2.fm f⟩, h.inj, h.ne⟩
theorem WdAt'.put {H : Hp} {a ao ap : Addr} {r : Nat → Addr} {l : V1.LW} {ys : List V} {ps : List Pl} {s : Nat} (h : WdAt' H a ao ap r l) (s1 : 1 ≤ s) (s2 : s ≤ 8) (o : Ps H ys ps) : WdAt' (upd H (r s) (.lst ys)) a ao ap r ⟨l.objs, V1.putL l.pool s ps⟩ := by
  obtain ⟨xs, h1, _⟩ := h.row s s1 s2
  have f : Fm (fun c => c = r s) H (upd H (r s) (.lst ys)) := Fm.upd h1 rfl
  obtain ⟨zs, k1, k2⟩ := h.ob
  refine ⟨f.dk h.wd, f.dk h.pl, ⟨zs, f.keep k1 (fun z => h.ne s s1 s2 z.symm), k2.fm f⟩, fun t t1 t2 => ?_, h.inj, h.ne⟩
  obtain ⟨ws, j1, j2⟩ := h.row t t1 t2
  by_cases c : t = s
  · subst c
    refine ⟨ys, upd_same, ?_⟩
    show Ps _ ys (V1.putL l.pool t ps t)
    unfold V1.putL
    rw [if_pos rfl]
    exact o.fm f
  · refine ⟨ws, f.keep j1 (fun z => c (h.inj t s t1 t2 s1 s2 z)), ?_⟩
    show Ps _ ws (V1.putL l.pool s ps t)
    unfold V1.putL
    rw [if_neg c]
    exact j2.fm f
theorem Obs.snoc {H : Hp} {xs : List V} {os : List (Pl × Nat)} {t : Addr} {v : V} {x : Pl × Nat} (h : Obs H xs os) (ht : H t = some (.tup [v, nV x.2])) (hv : PlAt H v x.1) : Obs H (xs ++ [.ref t]) (os ++ [x]) := by
  refine ⟨by rw [List.length_append, List.length_append, h.1]; rfl, fun i y e => ?_⟩
  by_cases c : i < os.length
  · rw [List.getElem?_append_left c] at e
    obtain ⟨t', v', e1, e2⟩ := h.2 i y e
    exact ⟨t', v', by rw [List.getElem?_append_left (by rw [h.1]; exact c)]; exact e1, e2⟩
  · rw [List.getElem?_append_right (by omega)] at e
    obtain ⟨z, _⟩ := List.getElem?_eq_some_iff.mp e
    simp only [List.length_cons, List.length_nil] at z
    have ei : i = os.length := by omega
    subst ei
    rw [Nat.sub_self] at e
    cases e
    exact ⟨t, v, by rw [List.getElem?_append_right (by rw [h.1]; exact Nat.le_refl _), h.1, Nat.sub_self]; rfl, ht, hv⟩
theorem Obs.erase {H : Hp} {xs : List V} {os : List (Pl × Nat)} {j : Nat} (h : Obs H xs os) : Obs H (xs.eraseIdx j) (os.eraseIdx j) := by
  refine ⟨by rw [List.length_eraseIdx, List.length_eraseIdx, h.1], fun i y e => ?_⟩
  rw [V1.erase_get] at e ⊢
  split at e
  · rename_i c
    rw [if_pos c]
    exact h.2 _ _ e
  · rename_i c
    rw [if_neg c]
    exact h.2 _ _ e
theorem drop_cons {α : Type} {xs : List α} {i : Nat} {x : α} (h : xs[i]? = some x) : xs.drop i = x :: xs.drop (i + 1) := by
  obtain ⟨l, rfl⟩ := List.getElem?_eq_some_iff.mp h
  exact List.drop_eq_getElem_cons l
section
variable {P : Program} {w : World} {K : PySem.W.Frag} {mg : Str → Option Value} {base : Heap} {CP CM C : Addr}
def spPd : Sp := fun vs H Q _ => ∃ (a ao ap L : Addr) (r : Nat → Addr) (l l' : V1.LW) (xs : List V) (ts : List V1.St), vs = [.ref a, .ref L] ∧ WdAt' H a ao ap r l ∧ H L = some (.lst xs) ∧ StsAt H xs ts ∧ ¬ Ft ao r L ∧ V1.lplay l ts = some l' ∧ (∀ x ∈ l.objs, okS x.2) ∧ (∀ s, V1.St.make s ∈ ts → okS s) ∧ (∀ s, (l.pool s).length ≤ 1000) ∧ l.objs.length ≤ 1000 ∧ ts.length ≤ 1000 ∧
  ∀ H', Fm (Ft ao r) H H' → WdAt' H' a ao ap r l' → Q .non H'
theorem sc_law_played : FnScope ["_law_world", "_law_steps_here", "_law_way", "_law_number", "_law_place", "_law_size"] ["_law_world", "_law_steps_here"] (defScope (top 55)) := ⟨rfl, rfl, rfl, by decide +kernel, rfl, by decide +kernel, by decide +kernel⟩
theorem ok_played {f : Addr} {fd : FuncData} (F : Fun K "_law_played" "_law_played" (top 55) f fd) (B : Bl3 mg) : FnOk P w K mg base CX0 1 f fd ["_law_world", "_law_steps_here"] spPd := by
  refine F.ok sc_law_played (fun vs H Q E h => ?_) (fun cdv A outer s H vs Q E hr h => ?_)
  · obtain ⟨a, ao, ap, L, r, l, l', xs, ts, rfl, _⟩ := h
    rfl
  · obtain ⟨a, ao, ap, L, r, l, l', xs, ts, rfl, wd, hL, st, nL, pl, oz, mz, lp, lo, lt, k⟩ := h
    refine ⟨_, (pss_one (ps_for PassesOwn.never rfl (pi_list (pv 1)) (pg_tup rfl (pgs_cons (pg_name (i := 2) sc_law_played.nd rfl (Or.inl rfl)) (pgs_cons (pg_name (i := 3) sc_law_played.nd rfl (Or.inl rfl)) pgs_nil)))
        (pss_one (ps_if (pt_cmpR op_eq (pv 2) pe_str (nomark _)) (pss_one (ps_expr (pe_bm PySem.F.plainAttrs_list PySem.F.slot_list_append PySem.F.type_list_append mt_append (pe_dget (hr1 hr) (pv 0) pe_str (fun _ _ => rfl)) (pa_cons (pe_tup (pa_cons (pe_bm PySem.F.plainAttrs_list PySem.F.slot_list_pop PySem.F.type_list_pop mt_popAt (pe_dget (hr1 hr) (pe_dget (hr1 hr) (pv 0) pe_str (fun _ _ => rfl)) (pv 3) (fun _ _ => rfl)) (pa_cons pe_int pa_nil)) (pa_cons (pv 3) pa_nil))) pa_nil)))) (pss_cons (ps_asg (pe_bm PySem.F.plainAttrs_list PySem.F.slot_list_pop PySem.F.type_list_pop mt_popAt (pe_dget (hr1 hr) (pv 0) pe_str (fun _ _ => rfl)) (pa_cons (pv 3) pa_nil)) (pg_tup rfl (pgs_cons (pg_name (i := 4) sc_law_played.nd rfl (Or.inl rfl)) (pgs_cons (pg_name (i := 5) sc_law_played.nd rfl (Or.inl rfl)) pgs_nil))))
      (pss_one (ps_if (pt_cmpR op_eq (pv 2) pe_str (nomark _)) (pss_one (ps_expr (pe_bm PySem.F.plainAttrs_list PySem.F.slot_list_insert PySem.F.type_list_insert mt_insert (pe_dget (hr1 hr) (pe_dget (hr1 hr) (pv 0) pe_str (fun _ _ => rfl)) (pv 5) (fun _ _ => rfl)) (pa_cons pe_int (pa_cons (pv 4) pa_nil))))) pss_nil))))))), ?_⟩
    unfold tFor
    refine tvar_rd (v := .ref L) rfl ⟨L, rfl, ⟨xs, SqL.of hL⟩, ?_⟩
    have lxs := st.1
    refine for_it walk_list (fun i σ H1 => ∃ (v2 v3 v4 v5 : Option V) (l1 : V1.LW), σ = [some (.ref a), some (.ref L), v2, v3, v4, v5] ∧ Fm (Ft ao r) H H1 ∧ WdAt' H1 a ao ap r l1 ∧ V1.lplay l1 (ts.drop i) = some l' ∧ (∀ x ∈ l1.objs, okS x.2) ∧ (∀ s, (l1.pool s).length ≤ 1000 + i) ∧ l1.objs.length ≤ 1000 + i) ⟨none, none, none, none, l, rfl, Fm.refl, wd, pl, oz, lp, lo⟩ (fun i σ H1 _ z => by
      obtain ⟨_, _, _, _, _, _, f1, _⟩ := z
      exact SqL.of (f1.keep hL nL)) ?_ ?_
    · rintro i x σ H1 H2 hi ⟨v2, v3, v4, v5, l1, rfl, f1, wd1, pl1, oz1, lp1, lo1⟩ ⟨hx, s2⟩
      have hi' : i < ts.length := by omega
      have ht := List.getElem?_eq_getElem hi'
      obtain ⟨b, e1, e2⟩ := (st.fm f1).2 i _ ht
      generalize ts[i] = t at ht e2
      rw [drop_cons ht] at pl1
      have pl1 : (V1.lstep l1 t).bind (fun l2 => V1.lplay l2 (ts.drop (i + 1))) = some l' := pl1
      obtain ⟨l2, hs, pl2⟩ := Option.bind_eq_some_iff.mp pl1
      subst hx
      rw [s2] at e1
      cases e1
      have mt := List.mem_of_getElem? ht
      obtain ⟨os, hao, ob⟩ := wd1.ob
      have los := ob.1
      cases t with
      | make s =>
        have o8 := okS_8 (mz s mt)
        obtain ⟨ys, hr1, py⟩ := wd1.row s o8.1 o8.2
        cases q : l1.pool s with
        | nil =>
          simp only [V1.lstep, q] at hs
          cases hs
        | cons p ps =>
          simp only [V1.lstep, q] at hs
          cases hs
          rw [q] at py
          obtain ⟨y, ys, rfl⟩ : ∃ y zs, ys = y :: zs := by
            cases ys with
            | nil => cases py.1
            | cons y zs => exact ⟨y, zs, rfl⟩
          obtain ⟨py1, py2⟩ := py.tail
          refine pair2_rd (x := .str "make") (y := nV s) e2 ?_
          refine if_be (be_eqS (x := "make") (y := "make") (ve_var rfl) ve_c) fun H3 s3 => ⟨fun _ => ?_, fun z => absurd z (by decide +kernel)⟩
          have wd3 := wd1.same s3
          refine ve_obj (ve_var (v := .ref a) rfl) wd3.wd H3 (Same.refl _) _ ⟨.inl ⟨rfl, _, SqL.of (s3 _ _ hao)⟩, cons_rd (ttup_rd (tcons_rd ?_))⟩
          refine (ve_dget (w := r) (s := s) (ve_pls (ve_var (v := .ref a) rfl) wd3.wd) (ve_var (v := nV s) rfl) (.inl wd3.pl) (rg_mem.mpr o8)) H3 (Same.refl _) _ ⟨.inl ⟨rfl, _, SqL.of (s3 _ _ hr1)⟩, cons_rd (tc_rd ⟨r s, _, 0, 0, y, rfl, rfl, s3 _ _ hr1, by decide, by decide, seqIx (i := 0) (Nat.succ_pos _), rfl, ?_⟩)⟩
          rw [List.eraseIdx_cons_zero]
          have f4 : Fm (Ft ao r) H3 (upd H3 (r s) (.lst ys)) := Fm.upd (s3 _ _ hr1) (.inr ⟨s, o8.1, o8.2, rfl⟩)
          have wd4 := wd3.put o8.1 o8.2 (py2.mono s3)
          have hao4 : (upd H3 (r s) (.lst ys)) ao = some (.lst os) := by rw [upd_ne (fun z => wd1.ne s o8.1 o8.2 z.symm)]; exact s3 _ _ hao
          have ob4 := (ob.fm (Fm.of (S := fun _ => False) s3)).fm f4
          have pa4 := (py1.mono s3).fm f4
          generalize upd H3 (r s) (.lst ys) = H4 at f4 wd4 hao4 ob4 pa4 ⊢
          refine cons_rd (tvar_rd (v := nV s) rfl ⟨by show 2 ≤ sizeLine; decide, fun T nT => ?_⟩)
          have s5 := same_new (o := .tup [y, nV s]) (Same.refl H4) nT
          have hT : (upd H4 T (.tup [y, nV s])) T = some (.tup [y, nV s]) := upd_same
          generalize upd H4 T (.tup [y, nV s]) = H5 at s5 hT ⊢
          have hao5 := s5 _ _ hao4
          refine ⟨ao, os, .ref T, rfl, rfl, hao5, by rw [sizeLine_eq]; omega, ?_⟩
          have wd6 := (wd4.same s5).objs ((ob4.fm (Fm.of (S := fun _ => False) s5)).snoc (x := (p, s)) hT (pa4.mono s5))
          have f6 : Fm (Ft ao r) H5 (upd H5 ao (.lst (os ++ [.ref T]))) := Fm.upd hao5 (.inl rfl)
          refine ⟨_, _, _, _, _, rfl, f1.trans ((Fm.of s3).trans (f4.trans ((Fm.of s5).trans f6))), wd6, pl2, fun x m => ?_, fun u => ?_, ?_⟩
          · rcases List.mem_append.mp m with m | m
            · exact oz1 x m
            · rw [List.mem_singleton.mp m]
              exact mz s mt
          · show (V1.putL l1.pool s ps u).length ≤ _
            unfold V1.putL
            split
            · have := lp1 s
              rw [q, List.length_cons] at this
              omega
            · have := lp1 u
              omega
          · show (l1.objs ++ [(p, s)]).length ≤ _
            rw [List.length_append]
            show l1.objs.length + 1 ≤ _
            omega
      | free j =>
        obtain ⟨x, hxj, rfl⟩ : ∃ x, l1.objs[j]? = some x ∧ l2 = V1.LW.mk (l1.objs.eraseIdx j) (V1.putL l1.pool x.2 (x.1 :: l1.pool x.2)) := by
          obtain ⟨x, h1, h2⟩ := Option.map_eq_some_iff.mp (show (l1.objs[j]?).map _ = some l2 from hs)
          exact ⟨x, h1, h2.symm⟩
        have lj := (List.getElem?_eq_some_iff.mp hxj).1
        have o8 := okS_8 (oz1 x (List.mem_of_getElem? hxj))
        obtain ⟨T, y, o1, o2, o3⟩ := ob.2 j x hxj
        refine pair2_rd (x := .str "free") (y := nV j) e2 ?_
        refine if_be (be_eqS (x := "free") (y := "make") (ve_var rfl) ve_c) fun H3 s3 => ⟨fun z => absurd z (by decide +kernel), fun _ => ?_⟩
        have wd3 := wd1.same s3
        refine seq_rd (asgT ?_)
        refine ve_obj (ve_var (v := .ref a) rfl) wd3.wd H3 (Same.refl _) _ ⟨.inl ⟨rfl, _, SqL.of (s3 _ _ hao)⟩, cons_rd (tvar_rd (v := nV j) rfl ⟨ao, _, (j : Nat), j, _, rfl, rfl, s3 _ _ hao, by omega, by omega, seqIx (by omega), o1, ?_⟩)⟩
        have f4 : Fm (Ft ao r) H3 (upd H3 ao (.lst (os.eraseIdx j))) := Fm.upd (s3 _ _ hao) (.inl rfl)
        have ob3 := ob.fm (Fm.of (S := fun _ => False) s3)
        have wd4 := wd3.objs (ob3.erase (j := j))
        have o24 := f4.tup (s3 _ _ o2)
        have pa4 := (o3.mono s3).fm f4
        generalize upd H3 ao (.lst (os.eraseIdx j)) = H4 at f4 wd4 o24 pa4 ⊢
        refine pair2_rd (x := y) (y := nV x.2) o24 ?_
        refine next_rd ?_
        dsimp only
        have le : (l1.objs.eraseIdx j).length ≤ l1.objs.length := List.length_eraseIdx_le ..
        refine if_be (be_eqS (x := "free") (y := "free") (ve_var rfl) ve_c) fun H5 s5 => ⟨fun _ => ?_, fun z => ?_⟩
        · obtain ⟨ys, hr4, py⟩ := wd4.row x.2 o8.1 o8.2
          have wd5 := wd4.same s5
          have ly := py.1
          have ll := lp1 x.2
          have ly : ys.length = (l1.pool x.2).length := ly
          refine (ve_dget (w := r) (s := x.2) (ve_pls (ve_var (v := .ref a) rfl) wd5.wd) (ve_var (v := nV x.2) rfl) (.inl wd5.pl) (rg_mem.mpr o8)) H5 (Same.refl _) _ ⟨.inl ⟨rfl, _, SqL.of (s5 _ _ hr4)⟩, tcons_rd (tc_rd (cons_rd (tvar_rd (v := y) rfl ⟨r x.2, _, 0, y, rfl, rfl, s5 _ _ hr4, by rw [sizeLine_eq]; omega, by decide, by decide, ?_⟩)))⟩
          have f6 : Fm (Ft ao r) H5 (upd H5 (r x.2) (.lst (y :: ys))) := Fm.upd (s5 _ _ hr4) (.inr ⟨x.2, o8.1, o8.2, rfl⟩)
          have wd6 := wd5.put o8.1 o8.2 (Ps.cons (pa4.mono s5) (py.mono s5))
          refine ⟨_, _, _, _, _, rfl, f1.trans ((Fm.of s3).trans (f4.trans ((Fm.of s5).trans f6))), wd6, pl2, fun z m => oz1 z (List.mem_of_mem_eraseIdx m), fun u => ?_, ?_⟩
          · show (V1.putL l1.pool x.2 (x.1 :: l1.pool x.2) u).length ≤ _
            unfold V1.putL
            split
            · rw [List.length_cons]
              omega
            · have := lp1 u
              omega
          · show (l1.objs.eraseIdx j).length ≤ _
            omega
        · exact absurd z (by decide +kernel)
      | leave j =>
        obtain ⟨x, hxj, rfl⟩ : ∃ x, l1.objs[j]? = some x ∧ l2 = V1.LW.mk (l1.objs.eraseIdx j) l1.pool := by
          obtain ⟨x, h1, h2⟩ := Option.map_eq_some_iff.mp (show (l1.objs[j]?).map _ = some l2 from hs)
          exact ⟨x, h1, h2.symm⟩
        have lj := (List.getElem?_eq_some_iff.mp hxj).1
        have o8 := okS_8 (oz1 x (List.mem_of_getElem? hxj))
        obtain ⟨T, y, o1, o2, o3⟩ := ob.2 j x hxj
        refine pair2_rd (x := .str "leave") (y := nV j) e2 ?_
        refine if_be (be_eqS (x := "leave") (y := "make") (ve_var rfl) ve_c) fun H3 s3 => ⟨fun z => absurd z (by decide +kernel), fun _ => ?_⟩
        have wd3 := wd1.same s3
        refine seq_rd (asgT ?_)
        refine ve_obj (ve_var (v := .ref a) rfl) wd3.wd H3 (Same.refl _) _ ⟨.inl ⟨rfl, _, SqL.of (s3 _ _ hao)⟩, cons_rd (tvar_rd (v := nV j) rfl ⟨ao, _, (j : Nat), j, _, rfl, rfl, s3 _ _ hao, by omega, by omega, seqIx (by omega), o1, ?_⟩)⟩
        have f4 : Fm (Ft ao r) H3 (upd H3 ao (.lst (os.eraseIdx j))) := Fm.upd (s3 _ _ hao) (.inl rfl)
        have ob3 := ob.fm (Fm.of (S := fun _ => False) s3)
        have wd4 := wd3.objs (ob3.erase (j := j))
        have o24 := f4.tup (s3 _ _ o2)
        have pa4 := (o3.mono s3).fm f4
        generalize upd H3 ao (.lst (os.eraseIdx j)) = H4 at f4 wd4 o24 pa4 ⊢
        refine pair2_rd (x := y) (y := nV x.2) o24 ?_
        refine next_rd ?_
        dsimp only
        have le : (l1.objs.eraseIdx j).length ≤ l1.objs.length := List.length_eraseIdx_le ..
        refine if_be (be_eqS (x := "leave") (y := "free") (ve_var rfl) ve_c) fun H5 s5 => ⟨fun z => ?_, fun _ => ?_⟩
        · exact absurd z (by decide +kernel)
        · refine next_rd ?_
          dsimp only
          refine ⟨_, _, _, _, _, rfl, f1.trans ((Fm.of s3).trans (f4.trans (Fm.of s5))), wd4.same s5, pl2, fun z m => oz1 z (List.mem_of_mem_eraseIdx m), fun u => ?_, ?_⟩
          · have : (l1.pool u).length ≤ 1000 + i := lp1 u
            show (l1.pool u).length ≤ _
            omega
          · show (l1.objs.eraseIdx j).length ≤ _
            omega
    · rintro σ H1 ⟨v2, v3, v4, v5, l1, rfl, f1, wd1, pl1, _⟩
      rw [lxs, List.drop_length] at pl1
      cases pl1
      exact k H1 f1 wd1
end

end K1

set_option Elab.async false
set_option linter.all false
set_option maxRecDepth 100000
set_option maxHeartbeats 4000000
namespace K1
open PySem L2 W1
section
variable {P : Program} {w : World} {K : PySem.W.Frag} {mg : Str → Option Value} {base : Heap} {CP CM C : Addr}
def spTa : Sp := fun vs H Q _ => ∃ (s : Nat) (a : Addr) (xs : List V) (ps : List Pl) (q : Nat), vs = [nV s, .ref a] ∧ H a = some (.lst xs) ∧ Ps H xs ps ∧ ps[ps.length - 1]? = some (.pool s q) ∧ ps.length ≤ 1000 ∧ ∀ H', Same H H' → Q (nV (V1.stripF s ps ps.length (q + 1)).1) H'
theorem sc_law_tail : FnScope ["_law_size", "_law_row", "_law_many"] ["_law_size", "_law_row"] (defScope (top 56)) := ⟨rfl, rfl, rfl, by decide +kernel, rfl, by decide +kernel, by decide +kernel⟩
theorem ok_tail {f : Addr} {fd : FuncData} (F : Fun K "_law_tail" "_law_tail" (top 56) f fd) (B : Bl3 mg) : FnOk P w K mg base CX0 1 f fd ["_law_size", "_law_row"] spTa := by
  refine F.ok sc_law_tail (fun vs H Q E h => ?_) (fun cdv A outer s H vs Q E hr h => ?_)
  · obtain ⟨s, a, xs, ps, q, rfl, _⟩ := h
    rfl
  · obtain ⟨s, a, xs, ps, q, rfl, ha, hp, hl, lp, k⟩ := h
    refine ⟨_, (pss_cons (ps_set (i := 2) sc_law_tail.nd rfl (Or.inl rfl) (pe_callB call_len_seq rfl B.len PySem.boot_len (pa_cons (pv 1) pa_nil)))
      (pss_cons (ps_while PassesOwn.never (PW.pt (pw_and (pt_cmpR op_gt (pv 2) pe_int (nomark _)) (pw_and1 (pt_cmpR (op_eqD hr.units) (pe_ix ix_list (pv 1) (pe_op op_sub (pv 2) pe_int) (fun _ _ => rfl)) (pe_tup (pa_cons pe_str (pa_cons (pv 0) (pa_cons (pe_op op_add (pe_op op_sub (pe_ix ix_tup (pe_ix ix_list (pv 1) (pe_un un_neg pe_int) (fun _ _ => rfl)) pe_int (fun _ _ => rfl)) (pe_callB call_len_seq rfl B.len PySem.boot_len (pa_cons (pv 1) pa_nil))) (pv 2)) pa_nil)))) (nomark _)))))
        (pss_one (ps_set (i := 2) sc_law_tail.nd rfl (Or.inl rfl) (pe_op op_sub (pv 2) pe_int))))
      (pss_one (ps_ret (pv 2))))), ?_⟩
    have n0 : 0 < ps.length := by
      have := (List.getElem?_eq_some_iff.mp hl).1
      omega
    refine seq_rd (set_v (ve_lenL (ve_var (v := .ref a) rfl) ha) ?_)
    refine next_rd ?_
    dsimp only
    rw [hp.1]
    refine seq_rd (while_be (fun m σ H3 => ∃ g : Nat, σ = [some (nV s), some (.ref a), some (nV m)] ∧ Same H H3 ∧ m ≤ ps.length ∧ g + ps.length = q + 1 + m ∧ V1.stripF s ps m g = V1.stripF s ps ps.length (q + 1)) ps.length ⟨q + 1, rfl, Same.refl _, Nat.le_refl _, rfl, rfl⟩ ?_)
    rintro m σ H3 ⟨g, rfl, s3, hm, eg, st⟩
    have vl : ∀ {H5 : Hp}, VE (tVar 2) (nV m) [some (nV s), some (.ref a), some (nV m)] H5 := ve_var rfl
    have cA : BE (tTest (tOp (rI0 fun i j => .bl (decide (j < i))) (tVar 2) (tC (.int 0)))) (decide (0 < m)) [some (nV s), some (.ref a), some (nV m)] H3 := be_gtN (j := 0) vl ve_c
    have fin : (V1.stripF s ps m g).1 = m → ∀ H4, Same H3 H4 → Q (nV m) H4 := fun e H4 s4 => by
      have := k H4 (s3.trans s4)
      rw [← st, e] at this
      exact this
    by_cases m0 : m = 0
    · refine ⟨false, be_to (be_and (c := false) cA fun z => by rw [decide_eq_false (by omega)] at z; cases z) (by rw [decide_eq_false (by omega)]; rfl), fun H4 s4 => ⟨fun z => absurd z (by decide), fun _ => ?_⟩⟩
      exact ret_of (vl H4 (Same.refl _) _ (fin (by rw [m0]; rfl) H4 s4))
    · obtain ⟨n, rfl⟩ : ∃ n, m = n + 1 := ⟨m - 1, by omega⟩
      obtain ⟨p, hp2⟩ : ∃ p, ps[n]? = some p := ⟨_, List.getElem?_eq_getElem (by omega)⟩
      obtain ⟨v, hv2, pa⟩ := hp.2 n p hp2
      obtain ⟨vz, hvz, az, ez, pz⟩ := hp.2 _ _ hl
      subst ez
      have vm : ∀ {H5 : Hp}, VE (tOp (rI0 fun i j => .int (i - j)) (tVar 2) (tC (.int 1))) (nV n) [some (nV s), some (.ref a), some (nV (n + 1))] H5 := ve_subN (j := 1) vl ve_c (by omega)
      have hat : atI xs (-1) = some (.ref az) := by
        unfold atI ixN
        rw [if_neg (by omega), if_pos (by rw [hp.1]; omega)]
        show xs[((-1 : Int) + (xs.length : Nat)).toNat]? = _
        rw [hp.1, show ((-1 : Int) + (ps.length : Nat)).toNat = ps.length - 1 by omega]
        exact hvz
      have vlast : VE (tOp (rIxL K) (tVar 1) (tUn (rU fun i => .int (-i)) (tC (.int 1)))) (.ref az) [some (nV s), some (.ref a), some (nV (n + 1))] H3 := fun H2 s2 Q' k' => ⟨.ref a, rfl, 1, rfl, a, xs, -1, _, rfl, rfl, SqL.of (s2 _ _ (s3 _ _ ha)), hat, k'⟩
      have vfull : VE (tOp (rI0 fun i j => .int (i + j)) (tOp (rI0 fun i j => .int (i - j)) (tOp (rIxT K) (tOp (rIxL K) (tVar 1) (tUn (rU fun i => .int (-i)) (tC (.int 1)))) (tC (.int 2))) (tCB (fun xs H Q => ∃ p ys, xs = [V.ref p] ∧ (SqL K H p ys ∨ SqT K H p ys) ∧ Q (V.int (ys.length : Nat)) H) (tCons (tVar 1) tNil))) (tVar 2)) (.int ((g : Int) - 1)) [some (nV s), some (.ref a), some (nV (n + 1))] H3 := by
        have h1 := ve_add (ve_sub (i := (q : Nat)) (ve_ixT (K := K) (n := 2) (v := nV q) vlast (s3 _ _ pz) ve_c rfl) (ve_lenL (K := K) (ve_var (s := 1) (v := .ref a) rfl) (s3 _ _ ha))) (j := (n + 1 : Nat)) (ve_var (s := 2) (H1 := H3) (σ := [some (nV s), some (.ref a), some (nV (n + 1))]) rfl)
        rw [show ((q : Nat) : Int) - (xs.length : Nat) + ((n + 1 : Nat) : Int) = (g : Int) - 1 by rw [hp.1]; omega] at h1
        exact h1
      have cB : BE (tTest (tOp (rEqD K) (tOp (rIxL K) (tVar 1) (tOp (rI0 fun i j => .int (i - j)) (tVar 2) (tC (.int 1)))) (tTup (tCons (tC (.str "pool")) (tCons (tVar 0) (tCons (tOp (rI0 fun i j => .int (i + j)) (tOp (rI0 fun i j => .int (i - j)) (tOp (rIxT K) (tOp (rIxL K) (tVar 1) (tUn (rU fun i => .int (-i)) (tC (.int 1)))) (tC (.int 2))) (tCB (fun xs H Q => ∃ p ys, xs = [V.ref p] ∧ (SqL K H p ys ∨ SqT K H p ys) ∧ Q (V.int (ys.length : Nat)) H) (tCons (tVar 1) tNil))) (tVar 2)) tNil)))))) (decide (0 ≤ (g : Int) - 1) && decide (p = .pool s ((g : Int) - 1).toNat)) [some (nV s), some (.ref a), some (nV (n + 1))] H3 := by
        rw [← eqv_pool]
        refine be_eq (d := plD p) (dt_v (ve_ixL (ve_var (v := .ref a) rfl) (s3 _ _ ha) vm hv2) fun H2 s2 => by rw [hid_nil]; exact ((pa.mono s3).mono s2).at_) (dt_tup live_nil (dt_cons (dt_str strP) (dt_cons (dt_int (ve_var rfl)) (dt_cons (dt_int vfull) dt_nil))) (by show 3 ≤ sizeLine; decide)) (plD_ok p).1 rfl (plD_ok p).2 (shaped_pool _ _)
      refine ⟨_, be_and cA fun _ => cB, fun H4 s4 => ⟨fun z => ?_, fun z => ?_⟩⟩
      · rw [decide_eq_true (show 0 < n + 1 by omega), Bool.true_and, Bool.and_eq_true] at z
        have z1 := of_decide_eq_true z.1
        have z2 := of_decide_eq_true z.2
        obtain ⟨e, rfl⟩ : ∃ e, g = e + 1 := ⟨g - 1, by omega⟩
        rw [show (((e + 1 : Nat) : Int) - 1).toNat = e by omega] at z2
        refine ⟨nV (n + 1), rfl, (n + 1 : Nat), 1, rfl, rfl, ?_⟩
        refine ⟨n, by omega, e, ?_, s3.trans s4, by omega, by omega, ?_⟩
        · show [_, _, some (V.int (((n + 1 : Nat) : Int) - 1))] = _
          rw [show ((n + 1 : Nat) : Int) - 1 = (n : Nat) by omega]
          rfl
        · rw [← st, V1.stripF, if_pos ⟨by omega, by rw [hp2, z2]; rfl⟩]
          rfl
      · rw [decide_eq_true (show 0 < n + 1 by omega), Bool.true_and] at z
        refine ret_of (vl H4 (Same.refl _) _ (fin ?_ H4 s4))
        rw [V1.stripF, if_neg]
        rintro ⟨g0, e⟩
        rw [hp2] at e
        have e := Option.some.inj e
        rw [decide_eq_true (show 0 ≤ (g : Int) - 1 by omega), Bool.true_and] at z
        refine of_decide_eq_false z ?_
        rw [e, show ((g : Int) - 1).toNat = g - 1 by omega]
end

end K1

set_option linter.all false
namespace V1
theorem tail_le {w : Wd} {l : LW} {c s : Nat} (r : Rep w l c) {h : List Pl} {f : Nat} (can : CanF s (w.pool s) h f) : h.length + 60 ≤ (l.pool s).length + c := by
  obtain ⟨m, f0, ht, hl⟩ := r.tail s
  by_cases c : h.length ≤ m
  · omega
  · obtain ⟨k, hk⟩ : ∃ k, h.length = k + 1 := ⟨h.length - 1, by omega⟩
    have e1 := can.rest (k + 1) (by omega)
    have e2 := ht (k + 1) (by omega)
    have e3 := ht k (by omega)
    rw [e1] at e2
    injection e2 with _ e2
    rcases can.last k hk with z | z
    · omega
    · refine (z ?_).elim
      rw [e3]
      congr 1
      omega
/-- how a row goes on from its tail -/
theorem row_at {w : Wd} {l : LW} {c : Nat} (r : Rep w l c) (hc : c ≤ 40) (s : Nat) : ∃ q, (l.pool s)[(l.pool s).length - 1]? = some (.pool s q) ∧ (stripF s (l.pool s) (l.pool s).length (q + 1)).1 + 20 ≤ (l.pool s).length ∧
    ∃ F, ∀ k, (stripF s (l.pool s) (l.pool s).length (q + 1)).1 ≤ k → w.pool s k = .pool s (F + (k - (stripF s (l.pool s) (l.pool s).length (q + 1)).1)) := by
  obtain ⟨q, h1, can⟩ := row_can (s := s) r (by omega)
  have t := tail_le r can
  refine ⟨q, h1, ?_⟩
  generalize (stripF s (l.pool s) (l.pool s).length (q + 1)) = z at can t ⊢
  have rest := can.rest
  rw [List.length_take] at t
  have e : ((l.pool s).take z.1).length = z.1 := by rw [List.length_take]; omega
  rw [e] at rest
  exact ⟨by omega, z.2, rest⟩
/-- the front of that many places -/
theorem front_many {w : Wd} {l : LW} {c s T F m : Nat} (r : Rep w l c) (hm : T ≤ m) (hl : m < (l.pool s).length) (rest : ∀ k, T ≤ k → w.pool s k = .pool s (F + (k - T))) :
    (l.pool s)[m]? = some (.pool s (F + (m - T))) ∧ (∀ i, i < ((l.pool s).take m).length → ((l.pool s).take m)[i]? = some (w.pool s i)) ∧ ∀ k, ((l.pool s).take m).length ≤ k → w.pool s k = .pool s (F + (m - T) + (k - ((l.pool s).take m).length)) := by
  have e : ((l.pool s).take m).length = m := by rw [List.length_take]; omega
  refine ⟨by rw [r.row s m hl, rest m hm], fun i hi => ?_, fun k hk => ?_⟩
  · rw [e] at hi
    rw [List.getElem?_take, if_pos hi, r.row s i (by omega)]
  · rw [e] at hk ⊢
    rw [rest k (by omega)]
    congr 1
    omega
structure Part (w : Wd) (l : LW) (done zs : List Nat) (fr : Nat → List Pl) (f : Nat → Nat) : Prop where
  nd : zs.Nodup
  sub : ∀ s ∈ zs, s ∈ done
  at_ : ∀ s, ∀ i, i < (fr s).length → (fr s)[i]? = some (w.pool s i)
  rest : ∀ s ∈ zs, ∀ k, (fr s).length ≤ k → w.pool s k = .pool s (f s + (k - (fr s).length))
  left : ∀ s ∈ done, s ∉ zs → ∀ k, w.pool s k = .pool s k
  off : ∀ s, s ∉ zs → fr s = [] ∧ f s = 0
  few : ∀ s, (fr s).length ≤ (l.pool s).length
theorem Part.nil {w : Wd} {l : LW} : Part w l [] [] (fun _ => []) (fun _ => 0) :=
  ⟨List.nodup_nil, (fun s m => by cases m), (fun s i h => by cases h), (fun s m => by cases m), (fun s m => by cases m), (fun s _ => ⟨rfl, rfl⟩), fun s => Nat.zero_le _⟩
theorem Part.skip {w : Wd} {l : LW} {done zs : List Nat} {fr : Nat → List Pl} {f : Nat → Nat} {s : Nat} (p : Part w l done zs fr f) (h : ∀ k, w.pool s k = .pool s k) : Part w l (done ++ [s]) zs fr f :=
  ⟨p.nd, fun u m => List.mem_append_left _ (p.sub u m), p.at_, p.rest, fun u m n k => by
    rcases List.mem_append.mp m with m | m
    · exact p.left u m n k
    · rw [List.mem_singleton.mp m]
      exact h k, p.off, p.few⟩
theorem Part.add {w : Wd} {l : LW} {done zs : List Nat} {fr : Nat → List Pl} {f : Nat → Nat} {s : Nat} {h : List Pl} {g : Nat} (p : Part w l done zs fr f) (ns : s ∉ zs) (h1 : ∀ i, i < h.length → h[i]? = some (w.pool s i)) (h2 : ∀ k, h.length ≤ k → w.pool s k = .pool s (g + (k - h.length))) (h3 : h.length ≤ (l.pool s).length) :
    Part w l (done ++ [s]) (zs ++ [s]) (fun u => if u = s then h else fr u) (fun u => if u = s then g else f u) := by
  refine ⟨?_, fun u m => ?_, fun u i hi => ?_, fun u m k hk => ?_, fun u m n k => ?_, fun u n => ?_, fun u => ?_⟩
  · rw [List.nodup_append]
    refine ⟨p.nd, by simp, fun a ma b mb e => ?_⟩
    rw [List.mem_singleton.mp mb] at e
    exact ns (e ▸ ma)
  · rcases List.mem_append.mp m with m | m
    · exact List.mem_append_left _ (p.sub u m)
    · exact List.mem_append_right _ m
  · by_cases c : u = s
    · subst c
      simp only [if_pos] at hi ⊢
      exact h1 i hi
    · simp only [if_neg c] at hi ⊢
      exact p.at_ u i hi
  · by_cases c : u = s
    · subst c
      simp only [if_pos] at hk ⊢
      exact h2 k hk
    · simp only [if_neg c] at hk ⊢
      rcases List.mem_append.mp m with m | m
      · exact p.rest u m k hk
      · exact (c (List.mem_singleton.mp m)).elim
  · rcases List.mem_append.mp m with m | m
    · exact p.left u m (fun z => n (List.mem_append_left _ z)) k
    · exact (n (List.mem_append_right _ m)).elim
  · have c : u ≠ s := fun z => n (List.mem_append_right _ (by rw [z]; exact List.mem_singleton.mpr rfl))
    simp only [if_neg c]
    exact p.off u fun z => n (List.mem_append_left _ z)
  · by_cases c : u = s
    · subst c
      simp only [if_pos]
      exact h3
    · simp only [if_neg c]
      exact p.few u
theorem Part.fronts {w : Wd} {l : LW} {ord zs : List Nat} {fr : Nat → List Pl} {f : Nat → Nat} (p : Part w l ord zs fr f) (z : Sz w) (all : ∀ s, okS s → s ∈ ord) : FrontsOf w zs fr f := by
  refine ⟨p.nd, p.at_, fun s k hk => ?_, p.off⟩
  by_cases c : s ∈ zs
  · exact p.rest s c k hk
  · obtain ⟨o1, o2⟩ := p.off s c
    have still : w.pool s k = .pool s k := by
      by_cases d : s ∈ ord
      · exact p.left s d c k
      · exact z.still s (fun o => d (all s o)) k
    rw [still, o1, o2]
    congr 1
    simp
end V1

set_option Elab.async false
set_option linter.all false
set_option maxRecDepth 100000
set_option maxHeartbeats 4000000
namespace K1
open PySem L2 W1
section
variable {P : Program} {w : World} {K : PySem.W.Frag} {mg : Str → Option Value} {base : Heap} {CP CM C : Addr}
/-- fronts made since H0, in lists -/
def FrX (H0 H : Hp) (zs : List Nat) (t : Nat → Addr) (fr : Nat → List Pl) (f : Nat → Nat) : Prop := ∀ s ∈ zs, ∃ q xs, H (t s) = some (.tup [.ref q, nV (f s)]) ∧ H0 q = none ∧ H q = some (.lst xs) ∧ Ps H xs (fr s)
/-- a dict of fronts in lists, all of them new since H0 -/
def FrN (H0 H : Hp) (d : Addr) (zs : List Nat) (fr : Nat → List Pl) (f : Nat → Nat) : Prop := ∃ t, H d = some (.dK (kvz zs t)) ∧ FrX H0 H zs t fr f
theorem FrN.g {H0 H : Hp} {d : Addr} {zs : List Nat} {fr : Nat → List Pl} {f : Nat → Nat} (h : FrN H0 H d zs fr f) : FrG true H d zs fr f := by
  obtain ⟨t, e, x⟩ := h
  exact ⟨t, e, ⟨fun s m => by
    obtain ⟨q, xs, e1, _, e3, e4⟩ := x s m
    exact ⟨q, xs, e1, e3, e4⟩⟩⟩
theorem FrX.fm {S : Addr → Prop} {H0 H H' : Hp} {zs : List Nat} {t : Nat → Addr} {fr : Nat → List Pl} {f : Nat → Nat} (h : FrX H0 H zs t fr f) (g : Fm S H H') (n : ∀ b, S b → H0 b ≠ none) : FrX H0 H' zs t fr f := fun s m => by
  obtain ⟨q, xs, e1, e2, e3, e4⟩ := h s m
  exact ⟨q, xs, g.tup e1, e2, g.keep e3 (fun z => n q z e2), e4.fm g⟩
theorem FrX.updD {H0 H : Hp} {zs : List Nat} {t : Nat → Addr} {fr : Nat → List Pl} {f : Nat → Nat} {D : Addr} {ks : List (Key × V)} {o : HO} (h : FrX H0 H zs t fr f) (hD : H D = some (.dK ks)) : FrX H0 (upd H D o) zs t fr f := fun u m => by
  obtain ⟨q, xs, e1, e2, e3, e4⟩ := h u m
  have ne : ∀ {b : Addr} {ys : List V}, H b = some (.tup ys) → b ≠ D := fun {b ys} z e => by rw [e, hD] at z; cases z
  exact ⟨q, xs, by rw [upd_ne (ne e1)]; exact e1, e2, by rw [upd_ne (fun e => by rw [e, hD] at e3; cases e3)]; exact e3, e4.1, fun i p e => by
    obtain ⟨v, z1, b, z2, z3⟩ := e4.2 i p e
    exact ⟨v, z1, b, z2, by rw [upd_ne (ne z3)]; exact z3⟩⟩
theorem FrX.add {H0 H : Hp} {zs : List Nat} {t : Nat → Addr} {fr : Nat → List Pl} {f : Nat → Nat} {s g : Nat} {hh : List Pl} {T q : Addr} {xs : List V} (h : FrX H0 H zs t fr f) (nz : s ∉ zs) (h1 : H T = some (.tup [.ref q, nV g])) (h0 : H0 q = none) (h2 : H q = some (.lst xs)) (h3 : Ps H xs hh) : FrX H0 H (zs ++ [s]) (fun u => if u = s then T else t u) (fun u => if u = s then hh else fr u) (fun u => if u = s then g else f u) := fun u m => by
  by_cases c : u = s
  · subst c
    simp only [if_pos]
    exact ⟨q, xs, h1, h0, h2, h3⟩
  · simp only [if_neg c]
    refine h u ?_
    rcases List.mem_append.mp m with m | m
    · exact m
    · exact (c (List.mem_singleton.mp m)).elim
theorem lcL {t : TE} {a : Addr} {xs : List V} {g : TG} {tt : TT} {te : TE} {vs : List Nat} {σ : St} {H : Hp} {Q : VK} (h : VE t (.ref a) σ H) (ha : H a = some (.lst xs)) (Pv : Addr → Nat → Hp → Prop) (h0 : ∀ D, H D = none → Pv D 0 (upd H D (.lst []))) (hG : ∀ D i H1, i ≤ xs.length → Pv D i H1 → SqL K H1 a xs)
    (hs : ∀ D i x H1, H D = none → xs[i]? = some x → Pv D i H1 → g x (wipe σ vs) H1 fun σ2 H2 => wipe σ2 vs = wipe σ vs ∧ tt σ2 H2 fun b H3 =>
      if b = true then te σ2 H3 fun y H4 => ∃ acc, H4 D = some (.lst acc) ∧ acc.length < sizeLine ∧ Pv D (i + 1) (upd H4 D (.lst (acc ++ [y]))) else Pv D (i + 1) H3) (hd : ∀ D H1, H D = none → Pv D xs.length H1 → Q (.ref D) H1) : tLc (iList K t) g tt te vs σ H Q :=
  h H (Same.refl _) _ ⟨a, rfl, ⟨xs, SqL.of ha⟩, fun D nD => lc_it walk_list (Pv D) (h0 D nD) (hG D) (fun i x H1 H2 hi z y => by
    obtain ⟨rfl, hx⟩ := y
    exact hs D i x _ nD hx z) (fun H1 z => hd D H1 nD z)⟩
theorem orders {x : V} {L1 L2 L3 : Addr} {H : Hp} (m : x ∈ [V.ref L1, V.ref L2, V.ref L3]) (h1 : H L1 = some (.lst [.int 1, .int 2, .int 8, .int 5])) (h2 : H L2 = some (.lst [.int 5, .int 8, .int 2, .int 1])) (h3 : H L3 = some (.lst [.int 8, .int 1, .int 5, .int 2])) :
    ∃ (L : Addr) (ord : List Nat), x = .ref L ∧ H L = some (.lst (ord.map nV)) ∧ ord.length = 4 ∧ ord.Nodup ∧ (∀ s ∈ ord, 1 ≤ s ∧ s ≤ 8) ∧ ∀ s, okS s → s ∈ ord := by
  simp only [List.mem_cons, List.not_mem_nil, or_false] at m
  rcases m with rfl | rfl | rfl
  · exact ⟨L1, [1, 2, 8, 5], rfl, h1, rfl, by decide, by decide, fun s o => by rcases o with rfl | rfl | rfl <;> decide⟩
  · exact ⟨L2, [5, 8, 2, 1], rfl, h2, rfl, by decide, by decide, fun s o => by rcases o with rfl | rfl | rfl <;> decide⟩
  · exact ⟨L3, [8, 1, 5, 2], rfl, h3, rfl, by decide, by decide, fun s o => by rcases o with rfl | rfl | rfl <;> decide⟩
theorem tl4 {i j k l : Int} {σ : St} {H : Hp} {Q : VK} (h : ∀ L, H L = none → Q (.ref L) (upd H L (.lst [.int i, .int j, .int k, .int l]))) : tLst (tCons (tC (.int i)) (tCons (tC (.int j)) (tCons (tC (.int k)) (tCons (tC (.int l)) tNil)))) σ H Q :=
  tlst_rd (tcons_rd (tc_rd (tcons_rd (tc_rd (tcons_rd (tc_rd (cons_rd (tc_rd ⟨by show 4 ≤ sizeLine; decide, h⟩))))))))
theorem tifS_of {c : TT} {t u : TS} {D : Ends} {σ : St} {H : Hp} (h : c σ H fun b H1 => if b = true then t D σ H1 else u D σ H1) : tIfS c t u D σ H := h
def spPr : Sp := fun vs H Q _ => ∃ (src n Mx : Nat) (a ao ap : Addr) (r : Nat → Addr) (ww : V1.Wd) (l : V1.LW) (c : Nat), vs = [.ref src, .ref a] ∧ Src H src n ∧ n ≤ 900000 ∧ WdAt' H a ao ap r l ∧ ¬ Ft ao r src ∧ V1.Rep ww l c ∧ c ≤ 40 ∧ V1.Sz ww ∧ l.objs.length ≤ 1000 ∧ (∀ s, (l.pool s).length ≤ Mx) ∧ Mx ≤ 1000 ∧
  ∀ (T hd pd : Addr) (hv : List V) (zs : List Nat) (fr : Nat → List Pl) (f : Nat → Nat) (H' : Hp), H hd = none → H pd = none → Fm (fun c => c = src) H H' → Src H' src (n + 9) → H' T = some (.tup [.ref hd, .ref pd]) → H' hd = some (.lst hv) → Ps H' hv (V1.headsOf ww) → FrN H H' pd zs fr f → V1.FrontsOf ww zs fr f → (∀ s ∈ zs, 1 ≤ s ∧ s ≤ 8) → (∀ s, (fr s).length ≤ Mx) → Q (.ref T) H'
theorem sc_law_parts : FnScope ["_law_source_here", "_law_world", "_law_pools", "_law_size", "_law_row", "_law_many", "_law_place"] ["_law_source_here", "_law_world"] (defScope (top 57)) := ⟨rfl, rfl, rfl, by decide +kernel, rfl, by decide +kernel, by decide +kernel⟩
theorem ok_parts {f : Addr} {fd : FuncData} (F : Fun K "_law_parts" "_law_parts" (top 57) f fd) (B : Bl3 mg) (LDr : Cal P w K mg base CX0 1 "_law_draw" ["_law_source_here", "_law_bound"] spDr) (LPk : Cal P w K mg base CX0 2 "_law_pick" ["_law_source_here", "_law_items"] spPk) (LTa : Cal P w K mg base CX0 1 "_law_tail" ["_law_size", "_law_row"] spTa) : FnOk P w K mg base CX0 3 f fd ["_law_source_here", "_law_world"] spPr := by
  refine F.ok sc_law_parts (fun vs H Q E h => ?_) (fun cdv A outer s H vs Q E hr h => ?_)
  · obtain ⟨src, n, Mx, a, ao, ap, r, ww, l, c, rfl, _⟩ := h
    rfl
  · obtain ⟨src, n, Mx, a, ao, ap, r, ww, l, c, rfl, sr, hn, wd, ns, rep, hc, sz, lo, lp, hM, k⟩ := h
    refine ⟨_, (pss_cons (ps_set (i := 2) sc_law_parts.nd rfl (Or.inl rfl) pe_dnewK)
      (pss_cons (ps_for PassesOwn.never rfl (pi_list (pe_cal LPk hr (by omega) pass0 (pa_cons (pv 0) (pa_cons (pe_lst (pa_cons (pe_lst (pa_cons pe_int (pa_cons pe_int (pa_cons pe_int (pa_cons pe_int pa_nil))))) (pa_cons (pe_lst (pa_cons pe_int (pa_cons pe_int (pa_cons pe_int (pa_cons pe_int pa_nil))))) (pa_cons (pe_lst (pa_cons pe_int (pa_cons pe_int (pa_cons pe_int (pa_cons pe_int pa_nil))))) pa_nil)))) pa_nil)))) (pg_name (i := 3) sc_law_parts.nd rfl (Or.inl rfl))
        (pss_cons (ps_set (i := 4) sc_law_parts.nd rfl (Or.inl rfl) (pe_dget (hr1 hr) (pe_dget (hr1 hr) (pv 1) pe_str (fun _ _ => rfl)) (pv 3) (fun _ _ => rfl)))
      (pss_cons (ps_set (i := 5) sc_law_parts.nd rfl (Or.inl rfl) (pe_op op_add (pe_cal LTa hr (by omega) pass0 (pa_cons (pv 3) (pa_cons (pv 4) pa_nil))) (pe_cal LDr hr (by omega) pass0 (pa_cons (pv 0) (pa_cons pe_int pa_nil)))))
      (pss_one (ps_if (PW.pt (pw_or (pt_cmpR op_gt (pv 5) pe_int (nomark _)) (pw_or (pt_cmpR op_gt (pe_ix ix_tup (pe_ix ix_list (pv 4) pe_int (fun _ _ => rfl)) pe_int (fun _ _ => rfl)) pe_int (nomark _)) (pw_or1 (pt_cmpR op_eq (pe_cal LDr hr (by omega) pass0 (pa_cons (pv 0) (pa_cons pe_int pa_nil))) pe_int (nomark _)))))) (pss_one (ps_dput (hr1 hr) (pv 2) (pv 3) (pe_tup (pa_cons (pe_slice sl_list (pv 4) po_none (po_some (pv 5))) (pa_cons (pe_ix ix_tup (pe_ix ix_list (pv 4) (pv 5) (fun _ _ => rfl)) pe_int (fun _ _ => rfl)) pa_nil))) rfl)) pss_nil)))))
      (pss_one (ps_ret (pe_tup (pa_cons (pe_lc (own := [("_law_place", 6), ("_law_size", 3)]) (g := gTup K 2 (gCons (gName 6) (gCons (gName 3) (gNil)))) (te := tVar 6) (tt := tYes) rfl sc_law_parts.nd (pi_list (pe_dget (hr1 hr) (pv 1) pe_str (fun _ _ => rfl))) (blkOk_by (N := ["_law_source_here", "_law_world", "_law_pools", "_law_size", "_law_row", "_law_many", "_law_place"]) (sc := defScope (top 57)) (by decide +kernel)) (fun _ _ _ _ _ => pg_tup rfl (pgs_cons (pg_name (i := 6) sc_law_parts.nd rfl (Or.inl rfl)) (pgs_cons (pg_name (i := 3) sc_law_parts.nd rfl (Or.inl rfl)) pgs_nil))) (fun _ _ _ _ _ => pts_nil) (fun _ _ _ _ _ => pv 6)) (pa_cons (pv 2) pa_nil))))))), ?_⟩
    refine seq_rd (asg_of fun D nD => ?_)
    have s0 := same_new (o := .dK []) (Same.refl H) nD
    have hD0 : (upd H D (.dK [])) D = some (.dK []) := upd_same
    generalize upd H D (.dK []) = H0 at s0 hD0 ⊢
    refine next_rd ?_
    dsimp only
    refine seq_rd ?_
    unfold tFor
    refine tcall_rd (tcons_rd (tvar_rd (v := .ref src) rfl (cons_rd (tlst_rd (tcons_rd (tl4 fun L1 n1 => ?_))))))
    have s1 := same_new (o := .lst [.int 1, .int 2, .int 8, .int 5]) (Same.refl H0) n1
    have h1 : (upd H0 L1 (.lst [.int 1, .int 2, .int 8, .int 5])) L1 = some (.lst [.int 1, .int 2, .int 8, .int 5]) := upd_same
    generalize upd H0 L1 (.lst [.int 1, .int 2, .int 8, .int 5]) = H1 at s1 h1 ⊢
    refine tcons_rd (tl4 fun L2 n2 => ?_)
    have s2 := same_new (o := .lst [.int 5, .int 8, .int 2, .int 1]) (Same.refl H1) n2
    have h2 : (upd H1 L2 (.lst [.int 5, .int 8, .int 2, .int 1])) L2 = some (.lst [.int 5, .int 8, .int 2, .int 1]) := upd_same
    generalize upd H1 L2 (.lst [.int 5, .int 8, .int 2, .int 1]) = H2 at s2 h2 ⊢
    refine cons_rd (tl4 fun L3 n3 => ?_)
    have s3 := same_new (o := .lst [.int 8, .int 1, .int 5, .int 2]) (Same.refl H2) n3
    have h3 : (upd H2 L3 (.lst [.int 8, .int 1, .int 5, .int 2])) L3 = some (.lst [.int 8, .int 1, .int 5, .int 2]) := upd_same
    generalize upd H2 L3 (.lst [.int 8, .int 1, .int 5, .int 2]) = H3 at s3 h3 ⊢
    refine ⟨by show 3 ≤ sizeLine; decide, fun L4 n4 => ?_⟩
    have s4 := same_new (o := .lst [.ref L1, .ref L2, .ref L3]) (Same.refl H3) n4
    have h4 : (upd H3 L4 (.lst [.ref L1, .ref L2, .ref L3])) L4 = some (.lst [.ref L1, .ref L2, .ref L3]) := upd_same
    generalize upd H3 L4 (.lst [.ref L1, .ref L2, .ref L3]) = H4 at s4 h4 ⊢
    have s04 := s0.trans (s1.trans (s2.trans (s3.trans s4)))
    obtain ⟨zz, hsrc⟩ := sr.there
    have nsrc : H src ≠ none := by rw [hsrc]; exact nofun
    refine ⟨src, L4, _, n, rfl, h4, (fun z => nsrc (by rw [← z]; exact (s0.trans (s1.trans (s2.trans s3))).free n4)), (show 1 ≤ 3 by decide), (show 3 ≤ 1000 by decide), sr.mono s04, by omega, fun x H5 mx f5 sr5 => ?_⟩
    obtain ⟨L, ord, rfl, hL, l4, nd, o8, oall⟩ := orders mx ((s2.trans (s3.trans s4)) _ _ h1) ((s3.trans s4) _ _ h2) (s4 _ _ h3)
    have Lsrc : ¬ L = src := fun z => by
      rw [z] at hL
      obtain ⟨x0, y0, z0, e0, _⟩ := sr.ex
      rw [s04 _ _ e0] at hL
      have := congrArg (fun o => match o with | some (HO.lst xs) => xs.length | _ => 0) hL
      simp only [List.length_map] at this
      rw [l4] at this
      cases this
    have hL5 := f5.keep hL Lsrc
    refine ⟨L, rfl, ⟨_, SqL.of hL5⟩, ?_⟩
    have Dsrc : D ≠ src := fun z => nsrc (by rw [← z]; exact nD)
    have hD4 := (s1.trans (s2.trans (s3.trans s4))) _ _ hD0
    refine for_list (xs := ord.map nV) (fun i σ H6 => ∃ (v3 v4 v5 : Option V) (zs : List Nat) (fr : Nat → List Pl) (f : Nat → Nat) (t : Nat → Addr), σ = [some (.ref src), some (.ref a), some (.ref D), v3, v4, v5, none] ∧ Fm (fun c => c = src) H H6 ∧ Src H6 src (n + 1 + 2 * i) ∧ H6 L = some (.lst (ord.map nV)) ∧ H6 D = some (.dK (kvz zs t)) ∧ FrX H H6 zs t fr f ∧ V1.Part ww l (ord.take i) zs fr f)
      ⟨none, none, none, [], fun _ => [], fun _ => 0, fun _ => 0, rfl, (Fm.of s04).trans f5, sr5, hL5, f5.keep hD4 Dsrc, (fun s m => by cases m), V1.Part.nil⟩ (fun i σ H6 _ z => by
        obtain ⟨_, _, _, _, _, _, _, _, _, _, z, _⟩ := z
        exact SqL.of z) ?_ ?_
    · rintro i x σ H6 hi ⟨v3, v4, v5, zs, fr, f, t, rfl, f6, sr6, hL6, hD6, fx, pt⟩
      obtain ⟨s, hs, rfl⟩ : ∃ s : Nat, ord[i]? = some s ∧ x = nV s := by
        rw [List.getElem?_map] at hi
        cases e : ord[i]? with
        | none => rw [e] at hi; cases hi
        | some s => rw [e] at hi; cases hi; exact ⟨s, rfl, rfl⟩
      have i4 := (List.getElem?_eq_some_iff.mp hs).1
      have s8 := o8 s (List.mem_of_getElem? hs)
      have tk := start_drop _ _ _ hs
      have new : s ∉ zs := fun m => nodup_at nd hs (pt.sub s m)
      have wd6 := wd.fm f6 (fun b fb z => ns (z ▸ fb))
      obtain ⟨ys, hr6, py⟩ := wd6.row s s8.1 s8.2
      refine gname_rd ?_
      refine seq_rd (set_v (ve_dget (w := r) (s := s) (ve_pls (ve_var (v := .ref a) rfl) wd6.wd) (ve_var (v := nV s) rfl) (.inl wd6.pl) (rg_mem.mpr s8)) ?_)
      refine next_rd ?_
      dsimp only
      obtain ⟨q, hq, t20, F, rest⟩ := V1.row_at rep hc s
      generalize hT : (V1.stripF s (l.pool s) (l.pool s).length (q + 1)).1 = T at t20 rest
      refine seq_rd (asg_of (call_rd (va_cons (ve_var (v := nV s) rfl) (va_cons (ve_var (v := .ref (r s)) rfl) va_nil)) ⟨s, r s, ys, l.pool s, q, rfl, hr6, py, hq, Nat.le_trans (lp s) hM, fun H7 s7 => ?_⟩))
      rw [hT]
      refine call_rd (va_cons (ve_var (v := .ref src) rfl) (va_cons ve_c va_nil)) ⟨src, 3, n + 1 + 2 * i, rfl, sr6.mono s7, by omega, by decide, by decide, fun d H8 hd f8 sr8 => ⟨(T : Nat), (d : Nat), rfl, rfl, ?_⟩⟩
      refine next_rd ?_
      dsimp only
      obtain ⟨M, hM⟩ : ∃ M, M = T + d := ⟨_, rfl⟩
      rw [show V.int ((T : Nat) + (d : Nat) : Int) = nV M from by rw [hM]; rfl]
      obtain ⟨fm1, fm2, fm3⟩ := V1.front_many (m := M) rep (by omega) (by omega) rest
      have f68 := (Fm.of (S := fun c => c = src) s7).trans f8
      have rsrc : ¬ r s = src := fun z => ns (.inr ⟨s, s8.1, s8.2, z.symm⟩)
      have hr8 := f68.keep hr6 rsrc
      have py8 := py.fm f68
      have test : ∀ Q' : Bool → Hp → Prop, (∀ b H9, (b = false → M = 0 ∧ F = 0) → Fm (fun c => c = src) H8 H9 → Src H9 src (n + 1 + 2 * (i + 1)) → Q' b H9) →
          tOr (tTest (tOp (rI0 fun i j => .bl (decide (j < i))) (tVar 5) (tC (.int 0)))) (tOr (tTest (tOp (rI0 fun i j => .bl (decide (j < i))) (tOp (rIxT K) (tOp (rIxL K) (tVar 4) (tC (.int 0))) (tC (.int 2))) (tC (.int 0)))) (tTest (tOp rEq (tCall spDr [] E0 (tCons (tVar 0) (tCons (tC (.int 2)) tNil))) (tC (.int 0))))) [some (.ref src), some (.ref a), some (.ref D), some (nV s), some (.ref (r s)), some (nV M), none] H8 Q' := fun Q' kk => by
        have cA : BE (tTest (tOp (rI0 fun i j => .bl (decide (j < i))) (tVar 5) (tC (.int 0)))) (decide (0 < M)) [some (.ref src), some (.ref a), some (.ref D), some (nV s), some (.ref (r s)), some (nV M), none] H8 := be_gtN (j := 0) (ve_var rfl) ve_c
        unfold tOr
        refine cA H8 (Same.refl _) _ fun H9 s9 => ?_
        by_cases m0 : 0 < M
        · rw [decide_eq_true m0, if_pos rfl]
          exact kk true H9 (fun z => by cases z) (Fm.of s9) ((sr8.mono s9).le (by omega))
        · rw [decide_eq_false m0, if_neg (by decide)]
          have z0 : (l.pool s)[0]? = some (.pool s F) := by
            have := fm1
            rw [show M = 0 by omega] at this
            rw [this]
            congr 2
            omega
          obtain ⟨v0, hv0, b0, rfl, hb0⟩ := (py8.mono s9).2 0 _ z0
          have cB : BE (tTest (tOp (rI0 fun i j => .bl (decide (j < i))) (tOp (rIxT K) (tOp (rIxL K) (tVar 4) (tC (.int 0))) (tC (.int 2))) (tC (.int 0)))) (decide (0 < F)) [some (.ref src), some (.ref a), some (.ref D), some (nV s), some (.ref (r s)), some (nV M), none] H9 := be_gtN (j := 0) (ve_ixT (n := 2) (v := nV F) (ve_ixL (n := 0) (ve_var (v := .ref (r s)) rfl) (s9 _ _ hr8) ve_c hv0) hb0 ve_c rfl) ve_c
          refine cB H9 (Same.refl _) _ fun H10 s10 => ?_
          by_cases F0 : 0 < F
          · rw [decide_eq_true F0, if_pos rfl]
            exact kk true H10 (fun z => by cases z) (Fm.of (s9.trans s10)) ((sr8.mono (s9.trans s10)).le (by omega))
          · rw [decide_eq_false F0, if_neg (by decide)]
            refine call_rd (va_cons (ve_var (v := .ref src) rfl) (va_cons ve_c va_nil)) ⟨src, 2, n + 1 + 2 * i + 1, rfl, sr8.mono (s9.trans s10), by omega, by decide, by decide, fun d2 H11 hd2 f11 sr11 => ⟨rfl, _, rfl, ?_⟩⟩
            exact kk _ H11 (fun _ => ⟨by omega, by omega⟩) ((Fm.of (s9.trans s10)).trans f11) sr11
      refine tifS_of (test _ fun b H9 hb f9 sr9 => ?_)
      have f89 := f8.trans f9
      have f69 := (Fm.of (S := fun c => c = src) s7).trans f89
      have hL9 := f69.keep hL6 Lsrc
      have hD9 := f69.keep hD6 Dsrc
      have fx9 := fx.fm f69 (fun b e => by rw [e]; exact nsrc)
      have hr9 := f9.keep hr8 rsrc
      have py9 := py8.fm f9
      cases b with
      | false =>
        obtain ⟨m0, F0⟩ := hb rfl
        rw [if_neg (by decide)]
        refine next_rd ⟨_, _, _, zs, fr, f, t, rfl, f6.trans f69, sr9, hL9, hD9, fx9, ?_⟩
        rw [tk]
        refine pt.skip fun k => ?_
        rw [rest k (by omega)]
        congr 1
        omega
      | true =>
        rw [if_pos rfl]
        refine ttup_rd (tcons_rd (to_rd (ve_var (v := .ref (r s)) rfl) hr9 (ve_var (v := nV M) rfl) fun p np s10 => cons_rd ?_))
        have hp10 : (upd H9 p (.lst (ys.take M))) p = some (.lst (ys.take M)) := upd_same
        generalize upd H9 p (.lst (ys.take M)) = H10 at s10 hp10 ⊢
        obtain ⟨vm, hvm, bm, rfl, hbm⟩ := (py9.mono s10).2 M _ fm1
        refine (ve_ixT (n := 2) (v := nV (F + (M - T))) (ve_ixL (n := M) (ve_var (v := .ref (r s)) rfl) (s10 _ _ hr9) (ve_var (v := nV M) rfl) hvm) hbm ve_c rfl) H10 (Same.refl _) _ ⟨by show 2 ≤ sizeLine; decide, fun U nU => ?_⟩
        have s11 := same_new (o := .tup [.ref p, nV (F + (M - T))]) (Same.refl H10) nU
        have hU : (upd H10 U (.tup [.ref p, nV (F + (M - T))])) U = some (.tup [.ref p, nV (F + (M - T))]) := upd_same
        generalize upd H10 U (.tup [.ref p, nV (F + (M - T))]) = H11 at s11 hU ⊢
        have s911 := s10.trans s11
        have hD11 := s911 _ _ hD9
        have lz : zs.length ≤ 4 := by
          have := nodup_le 8 zs pt.nd fun u m => o8 u (List.mem_of_mem_take (pt.sub u m))
          have h2 := List.Nodup.length_le_of_subset pt.nd pt.sub
          rw [List.length_take] at h2
          omega
        refine ⟨.ref D, rfl, nV s, rfl, D, _, rfl, DPut.k (k := Sum.inl (s : Int)) hD11 (by rw [kvz_len, sizeLine_eq]; omega), ?_⟩
        rw [kvz_put new]
        have hp0 : H p = none := f6.free (f69.free np)
        have fD : ∀ {b : Addr} {o : HO}, H b = some o → b ≠ D := fun {b o} z e => by rw [e, nD] at z; cases z
        refine next_rd ⟨_, _, _, zs ++ [s], _, _, _, rfl, ((f6.trans f69).trans (Fm.of s911)).own nD, ?_, ?_, upd_same, ((fx9.fm (Fm.of (S := fun _ => False) s911) (fun b z => z.elim)).add (s := s) (g := F + (M - T)) (hh := (l.pool s).take M) new hU hp0 (s11 _ _ hp10) ((py9.mono s911).take M)).updD hD11, ?_⟩
        · have z := sr9.mono s911
          obtain ⟨x0, y0, z0, e0, r0⟩ := z.ex
          exact ⟨x0, y0, z0, by rw [upd_ne (fD hsrc)]; exact e0, r0⟩
        · rw [upd_ne (ne_of (s911 _ _ hL9) hD11 (fun z => nomatch z))]
          exact s911 _ _ hL9
        · rw [tk]
          exact pt.add new fm2 fm3 (by rw [List.length_take]; omega)
    · rintro σ H6 ⟨v3, v4, v5, zs, fr, f, t, rfl, f6, sr6, hL6, hD6, fx, pt⟩
      rw [List.length_map, List.take_length] at pt
      have fo := pt.fronts sz oall
      have wd6 := wd.fm f6 (fun b fb z => ns (z ▸ fb))
      obtain ⟨os, hao, ob⟩ := wd6.ob
      rw [List.length_map, l4] at sr6
      have los := ob.1
      refine ret_of (ttup_rd (tcons_rd (lcL (a := ao) (xs := os) (ve_obj (ve_var (v := .ref a) rfl) wd6.wd) hao (fun D2 j H7 => Same H6 H7 ∧ ∃ zs, H7 D2 = some (.lst zs) ∧ Ps H7 zs ((V1.headsOf ww).take j)) (fun D2 nD2 => ⟨same_new (Same.refl _) nD2, [], upd_same, Ps.nil⟩) (fun D2 j H7 _ z => SqL.of (z.1 _ _ hao)) (fun D2 j x H7 nD2 hx z => ?_) (fun D2 H7 nD2 z => cons_rd (tvar_rd (v := .ref D) rfl ⟨by show 2 ≤ sizeLine; decide, fun T nT => ?_⟩)))))
      · obtain ⟨s7, zs2, hD2, pz⟩ := z
        have lj := (List.getElem?_eq_some_iff.mp hx).1
        obtain ⟨o, ho⟩ : ∃ o, l.objs[j]? = some o := ⟨_, List.getElem?_eq_getElem (by omega)⟩
        obtain ⟨b, v, e1, e2, e3⟩ := ob.2 j o ho
        rw [hx] at e1
        cases e1
        refine pair2_rd (x := v) (y := nV o.2) (s7 _ _ e2) ⟨rfl, ?_⟩
        unfold tYes
        dsimp only
        rw [if_pos rfl]
        have hh : (V1.headsOf ww)[j]? = some o.1 := by
          unfold V1.headsOf
          rw [List.getElem?_map, ← rep.objs, ho]
          rfl
        have lz := pz.1
        rw [List.length_take] at lz
        refine tvar_rd (v := v) rfl ⟨zs2, hD2, by rw [sizeLine_eq]; omega, same_updL s7 nD2, zs2 ++ [v], upd_same, ?_⟩
        rw [start_drop _ _ _ hh]
        exact (pz.app (Ps.one (e3.mono s7))).fm (Fm.upd (S := fun c => c = D2) hD2 rfl)
      · obtain ⟨s7, zs2, hD2, pz⟩ := z
        have lh : os.length = (V1.headsOf ww).length := by rw [los, rep.objs]; exact (List.length_map ..).symm
        rw [lh, List.take_length] at pz
        have s8 := same_new (o := .tup [.ref D2, .ref D]) (Same.refl H7) nT
        have hT : (upd H7 T (.tup [.ref D2, .ref D])) T = some (.tup [.ref D2, .ref D]) := upd_same
        generalize upd H7 T (.tup [.ref D2, .ref D]) = H8 at s8 hT ⊢
        have s68 := s7.trans s8
        refine k T D2 D zs2 zs fr f H8 (f6.free nD2) nD (f6.trans (Fm.of s68)) ((sr6.mono s68).le (by omega)) hT (s8 _ _ hD2) (pz.mono s8) ⟨t, s68 _ _ hD6, fx.fm (S := fun _ => False) (Fm.of s68) fun b z => z.elim⟩ fo (fun s m => o8 s (pt.sub s m)) (fun s => Nat.le_trans (pt.few s) (lp s))
end

end K1

set_option linter.all false
namespace V1
theorem okT_make : ∀ {ts : List St} {n s : Nat}, okT n ts → St.make s ∈ ts → okS s
  | [], _, _, _, m => by cases m
  | .make u :: ts, n, s, h, m => by
    rcases List.mem_cons.mp m with e | m
    · cases e
      exact h.1
    · exact okT_make (ts := ts) h.2 m
  | .free i :: ts, n, s, h, m => by
    rcases List.mem_cons.mp m with e | m
    · cases e
    · exact okT_make (ts := ts) h.2 m
  | .leave i :: ts, n, s, h, m => by
    rcases List.mem_cons.mp m with e | m
    · cases e
    · exact okT_make (ts := ts) h.2 m
theorem lplay_len : ∀ {ts : List St} {l l' : LW} {N : Nat}, lplay l ts = some l' → (∀ s, (l.pool s).length ≤ N) → ∀ s, (l'.pool s).length ≤ N + ts.length
  | [], l, l', N, e, h, s => by
    cases e
    exact h s
  | t :: ts, l, l', N, e, h, s => by
    obtain ⟨l1, h1, h2⟩ := Option.bind_eq_some_iff.mp (show (lstep l t).bind (fun l' => lplay l' ts) = some l' from e)
    have k : ∀ s, (l1.pool s).length ≤ N + 1 := fun u => by
      cases t with
      | make s =>
        cases q : l.pool s with
        | nil => simp only [lstep, q] at h1; cases h1
        | cons x r =>
          simp only [lstep, q] at h1
          cases h1
          show (putL l.pool s r u).length ≤ _
          unfold putL
          split
          · have := h s
            rw [q, List.length_cons] at this
            omega
          · exact Nat.le_succ_of_le (h u)
      | free i =>
        obtain ⟨x, _, rfl⟩ := Option.map_eq_some_iff.mp (show (l.objs[i]?).map _ = some l1 from h1)
        show (putL l.pool x.2 (x.1 :: l.pool x.2) u).length ≤ _
        unfold putL
        split
        · rw [List.length_cons]
          exact Nat.succ_le_succ (h x.2)
        · exact Nat.le_succ_of_le (h u)
      | leave i =>
        obtain ⟨x, _, rfl⟩ := Option.map_eq_some_iff.mp (show (l.objs[i]?).map _ = some l1 from h1)
        exact Nat.le_succ_of_le (h u)
    have := lplay_len h2 k s
    rw [List.length_cons]
    omega
theorem ident_len {zs : List Nat} : (ident zs).objs.length = zs.length := by
  unfold ident
  simp
theorem sizes_ident {zs : List Nat} : sizes (ident zs) = zs := by
  unfold sizes
  apply List.ext_getElem?
  intro i
  rw [List.getElem?_map, ident_get]
  cases zs[i]? <;> rfl
theorem sizes_len {w : Wd} : (sizes w).length = w.objs.length := List.length_map ..
theorem sizes_map {e : Pl → Pl} {w : Wd} : sizes (mapW e w) = sizes w := by
  unfold sizes mapW
  simp only [List.map_map]
  rfl
theorem org_ident {zs : List Nat} {p : Pl} (h : End zs.length p) : org (ident zs) p = p := by
  cases p with
  | pool s k => rfl
  | obj i =>
    have h : i < zs.length := h
    show (((ident zs).objs[i]?).map (·.1)).getD (.obj i) = _
    rw [ident_get, List.getElem?_eq_getElem h]
    rfl
theorem sizes_ok {w : Wd} (z : Sz w) : ∀ s ∈ sizes w, okS s := fun s m => by
  obtain ⟨x, mx, rfl⟩ := List.mem_map.mp m
  exact (z.obj x mx).2
theorem alone_of {w w' a : Wd} {ts : List St} (h : play w ts = some w') (k : play (ident (sizes w)) ts = some a) : w' = mapW (org w) a := by
  rw [play_org, k] at h
  exact (Option.some.inj h).symm
theorem next_org {w w' a : Wd} {ts : List St} (h : play w ts = some w') (k : play (ident (sizes w)) ts = some a) : w'.objs.length = a.objs.length ∧ ∀ p, End a.objs.length p → org w' p = org w (org a p) := by
  rw [alone_of h k]
  exact ⟨List.length_map .., fun p hp => org_map hp⟩
theorem ok_alone {w a : Wd} {ts : List St} (k : play (ident (sizes w)) ts = some a) : Ok w.objs.length a := by
  have := ok_play (n := (sizes w).length) ok_ident k
  rwa [sizes_len] at this
theorem three {zs : List Nat} {W1 W2 W3 A0 A1 A2 : Wd} {t0 t1 t2 : List St} (p0 : play (ident zs) t0 = some W1) (a0 : play (ident (sizes (ident zs))) t0 = some A0) (p1 : play W1 t1 = some W2) (a1 : play (ident (sizes W1)) t1 = some A1) (p2 : play W2 t2 = some W3) (a2 : play (ident (sizes W2)) t2 = some A2) :
    A0 = W1 ∧ Ok zs.length W1 ∧ Ok zs.length W2 ∧ Ok zs.length W3 ∧ Ok W1.objs.length A1 ∧ Ok W2.objs.length A2 ∧ (W2.objs.length = A1.objs.length ∧ ∀ p, End A1.objs.length p → org W2 p = org W1 (org A1 p)) ∧ (W3.objs.length = A2.objs.length ∧ ∀ p, End A2.objs.length p → org W3 p = org W2 (org A2 p)) ∧
    ∃ X, Ok W1.objs.length X ∧ (X.objs.length = A2.objs.length ∧ ∀ p, End A2.objs.length p → org X p = org A1 (org A2 p)) ∧ (W3.objs.length = X.objs.length ∧ ∀ p, End X.objs.length p → org W3 p = org W1 (org X p)) := by
  have o1 : Ok zs.length W1 := ok_play ok_ident p0
  have o2 := ok_play o1 p1
  have o3 := ok_play o2 p2
  have n2 := next_org p1 a1
  have n3 := next_org p2 a2
  have k1 := ok_alone a1
  have k2 := ok_alone a2
  refine ⟨?_, o1, o2, o3, k1, k2, n2, n3, ?_⟩
  · rw [sizes_ident, p0] at a0
    exact (Option.some.inj a0).symm
  · have es : sizes A1 = sizes W2 := by rw [alone_of p1 a1, sizes_map]
    rw [← es] at a2
    obtain ⟨X, hX, lX, oX⟩ := two_stretches a1 a2
    refine ⟨X, ok_alone hX, ⟨lX, oX⟩, by rw [n3.1, lX], fun p hp => ?_⟩
    rw [lX] at hp
    have d := k2.dom p hp
    rw [n2.1] at d
    rw [n3.2 p hp, n2.2 _ d, oX p hp]
end V1

set_option linter.all false
namespace V1
/-! ### goals: where the address of a place goes -/
def lastG (L : List (Pl × Pl)) (p : Pl) : Option Pl := (L.reverse.find? fun x => decide (x.1 = p)).map (·.2)
theorem lastG_mem {L : List (Pl × Pl)} {p e : Pl} (h : lastG L p = some e) : (p, e) ∈ L := by
  unfold lastG at h
  obtain ⟨x, hx, rfl⟩ := Option.map_eq_some_iff.mp h
  have h1 := List.mem_of_find?_eq_some hx
  have h2 := List.find?_some hx
  have h2 := of_decide_eq_true h2
  obtain ⟨a, b⟩ := x
  simp only at h2
  subst h2
  exact List.mem_reverse.mp h1
theorem lastG_none {L : List (Pl × Pl)} {p : Pl} (h : lastG L p = none) : ∀ e, (p, e) ∉ L := fun e m => by
  unfold lastG at h
  rw [Option.map_eq_none_iff, List.find?_eq_none] at h
  exact h (p, e) (List.mem_reverse.mpr m) (decide_eq_true rfl)
def endsH (hs : List Pl) (n : Nat) : List (Pl × Pl) := (List.range n).filterMap fun i => (hs[i]?).map fun p => (p, Pl.obj i)
def endsP (s : Nat) (fs : List Pl) (n : Nat) : List (Pl × Pl) := (List.range n).filterMap fun i => (fs[i]?).map fun p => (p, Pl.pool s i)
def endsL (hs : List Pl) (zs : List Nat) (fr : Nat → List Pl) : List (Pl × Pl) := endsH hs hs.length ++ zs.flatMap fun s => endsP s (fr s) (fr s).length
theorem endsL_mem {hs : List Pl} {zs : List Nat} {fr : Nat → List Pl} {p e : Pl} : (p, e) ∈ endsL hs zs fr ↔ (∃ i, hs[i]? = some p ∧ e = .obj i) ∨ ∃ s ∈ zs, ∃ k, (fr s)[k]? = some p ∧ e = .pool s k := by
  unfold endsL endsH endsP
  rw [List.mem_append, List.mem_filterMap, List.mem_flatMap]
  constructor
  · rintro (⟨i, _, h⟩ | ⟨s, ms, h⟩)
    · obtain ⟨q, hq, e2⟩ := Option.map_eq_some_iff.mp h
      cases e2
      exact .inl ⟨i, hq, rfl⟩
    · obtain ⟨k, _, h⟩ := List.mem_filterMap.mp h
      obtain ⟨q, hq, e2⟩ := Option.map_eq_some_iff.mp h
      cases e2
      exact .inr ⟨s, ms, k, hq, rfl⟩
  · rintro (⟨i, h, rfl⟩ | ⟨s, ms, k, h, rfl⟩)
    · exact .inl ⟨i, List.mem_range.mpr (List.getElem?_eq_some_iff.mp h).1, by rw [h]; rfl⟩
    · exact .inr ⟨s, ms, List.mem_filterMap.mpr ⟨k, List.mem_range.mpr (List.getElem?_eq_some_iff.mp h).1, by rw [h]; rfl⟩⟩
/-- the goal of a place by the parts of a move -/
def goalD (n : Nat) (hs : List Pl) (zs : List Nat) (fr : Nat → List Pl) (f : Nat → Nat) (p : Pl) : Option Pl := match lastG (endsL hs zs fr) p with
  | some e => some e
  | none => match p with
    | .obj i => if hs.length ≤ i ∧ i < n then some (.obj i) else none
    | .pool s k => if f s ≤ k then some (.pool s (k - f s + (fr s).length)) else none
theorem goalD_some {n : Nat} {hs : List Pl} {zs : List Nat} {fr : Nat → List Pl} {f : Nat → Nat} {p e : Pl} (h : lastG (endsL hs zs fr) p = some e) : goalD n hs zs fr f p = some e := by
  unfold goalD
  rw [h]
theorem goalD_obj {n : Nat} {hs : List Pl} {zs : List Nat} {fr : Nat → List Pl} {f : Nat → Nat} {i : Nat} (h : lastG (endsL hs zs fr) (.obj i) = none) : goalD n hs zs fr f (.obj i) = if hs.length ≤ i ∧ i < n then some (.obj i) else none := by
  unfold goalD
  rw [h]
theorem goalD_pool {n : Nat} {hs : List Pl} {zs : List Nat} {fr : Nat → List Pl} {f : Nat → Nat} {s k : Nat} (h : lastG (endsL hs zs fr) (.pool s k) = none) : goalD n hs zs fr f (.pool s k) = if f s ≤ k then some (.pool s (k - f s + (fr s).length)) else none := by
  unfold goalD
  rw [h]
/-- a move's parts, told of a world in which every address is at one place -/
structure Parts (n0 : Nat) (w : Wd) (hs : List Pl) (zs : List Nat) (fr : Nat → List Pl) (f : Nat → Nat) : Prop where
  told : Told n0 w hs fr f
  off : ∀ s, s ∉ zs → fr s = [] ∧ f s = 0
theorem Parts.end_of {n0 : Nat} {w : Wd} {hs : List Pl} {zs : List Nat} {fr : Nat → List Pl} {f : Nat → Nat} (t : Parts n0 w hs zs fr f) {p e : Pl} (h : (p, e) ∈ endsL hs zs fr) : End w.objs.length e ∧ org w e = p := by
  rcases endsL_mem.mp h with ⟨i, hi, rfl⟩ | ⟨s, _, k, hk, rfl⟩
  · have li := (List.getElem?_eq_some_iff.mp hi).1
    rw [t.told.heads.at_ i li] at hi
    exact ⟨Nat.lt_of_lt_of_le li t.told.heads.le, Option.some.inj hi⟩
  · have lk := (List.getElem?_eq_some_iff.mp hk).1
    rw [(t.told.front s).at_ k lk] at hk
    exact ⟨trivial, Option.some.inj hk⟩
theorem Parts.goal {n0 : Nat} {w : Wd} {hs : List Pl} {zs : List Nat} {fr : Nat → List Pl} {f : Nat → Nat} (t : Parts n0 w hs zs fr f) {p e : Pl} : goalD w.objs.length hs zs fr f p = some e ↔ End w.objs.length e ∧ org w e = p := by
  constructor
  · intro h
    unfold goalD at h
    cases q : lastG (endsL hs zs fr) p with
    | some e' =>
      rw [q] at h
      cases h
      exact t.end_of (lastG_mem q)
    | none =>
      rw [q] at h
      cases p with
      | obj i =>
        dsimp only at h
        split at h
        · rename_i c
          cases h
          exact ⟨c.2, t.told.heads.rest i c.1 c.2⟩
        · cases h
      | pool s k =>
        dsimp only at h
        split at h
        · rename_i c
          cases h
          refine ⟨trivial, ?_⟩
          show w.pool s _ = _
          rw [(t.told.front s).rest _ (by omega)]
          congr 1
          omega
        · cases h
  · rintro ⟨he, ho⟩
    have key : ∀ e', (p, e') ∈ endsL hs zs fr → e' = e := fun e' m => by
      obtain ⟨h1, h2⟩ := t.end_of m
      exact t.told.ok.inj _ _ h1 he (by rw [h2, ho])
    unfold goalD
    cases q : lastG (endsL hs zs fr) p with
    | some e' => rw [key e' (lastG_mem q)]
    | none =>
      have none_ := lastG_none q
      cases e with
      | obj i =>
        have he : i < w.objs.length := he
        by_cases c : i < hs.length
        · refine (none_ (.obj i) (endsL_mem.mpr (.inl ⟨i, ?_, rfl⟩))).elim
          rw [t.told.heads.at_ i c]
          exact congrArg some ho
        · have r := t.told.heads.rest i (by omega) he
          have r : org w (.obj i) = .obj i := r
          rw [← ho, r]
          dsimp only
          rw [if_pos ⟨by omega, he⟩]
      | pool s k =>
        by_cases c : k < (fr s).length
        · refine (none_ (.pool s k) (endsL_mem.mpr (.inr ⟨s, ?_, k, ?_, rfl⟩))).elim
          · refine Classical.byContradiction fun z => ?_
            rw [(t.off s z).1] at c
            cases c
          · rw [(t.told.front s).at_ k c]
            exact congrArg some ho
        · have r := (t.told.front s).rest k (by omega)
          have r : org w (.pool s k) = .pool s (f s + (k - (fr s).length)) := r
          rw [← ho, r]
          dsimp only
          rw [if_pos (by omega)]
          congr 2
          omega
/-- every address of these places is at some place behind the stretch -/
def Covers (w : Wd) (N : Nat) : Prop := ∀ p, End N p → ∃ e, End w.objs.length e ∧ org w e = p
/-- where the stretch leads back: the world -/
def back (n : Nat) (hs : List Pl) (zs : List Nat) (fr : Nat → List Pl) (f : Nat → Nat) (N : Nat) : Wd :=
  ⟨(List.range N).map fun i => ((goalD n hs zs fr f (.obj i)).getD (.obj 0), 0), fun s k => (goalD n hs zs fr f (.pool s k)).getD (.obj 0)⟩
section
variable {n0 N : Nat} {w : Wd} {hs : List Pl} {zs : List Nat} {fr : Nat → List Pl} {f : Nat → Nat}
theorem back_len {n : Nat} : (back n hs zs fr f N).objs.length = N := by
  unfold back
  rw [List.length_map, List.length_range]
theorem Parts.back_org (t : Parts n0 w hs zs fr f) (c : Covers w N) {p : Pl} (h : End N p) : End w.objs.length (org (back w.objs.length hs zs fr f N) p) ∧ org w (org (back w.objs.length hs zs fr f N) p) = p := by
  obtain ⟨e, he, ho⟩ := c p h
  have g := t.goal.mpr ⟨he, ho⟩
  have eq : org (back w.objs.length hs zs fr f N) p = e := by
    cases p with
    | obj i =>
      have h : i < N := h
      have gi : (back w.objs.length hs zs fr f N).objs[i]? = some ((goalD w.objs.length hs zs fr f (.obj i)).getD (.obj 0), 0) := by
        show ((List.range N).map _)[i]? = _
        rw [List.getElem?_map, List.getElem?_range h]
        rfl
      rw [org_obj gi, g]
      rfl
    | pool s k =>
      show (goalD w.objs.length hs zs fr f (.pool s k)).getD (.obj 0) = e
      rw [g]
      rfl
  rw [eq]
  exact ⟨he, ho⟩
theorem Parts.org_back (t : Parts n0 w hs zs fr f) (c : Covers w N) (d : ∀ e, End w.objs.length e → End N (org w e)) {e : Pl} (h : End w.objs.length e) : org (back w.objs.length hs zs fr f N) (org w e) = e := by
  obtain ⟨h1, h2⟩ := t.back_org c (d e h)
  exact t.told.ok.inj _ _ h1 h h2
theorem Parts.back_pool (t : Parts n0 w hs zs fr f) (c : Covers w N) (s k : Nat) (hk : f s ≤ k) : (back w.objs.length hs zs fr f N).pool s k = .pool s ((fr s).length + (k - f s)) := by
  obtain ⟨h1, h2⟩ := t.back_org c (p := .pool s k) trivial
  refine t.told.ok.inj _ _ h1 trivial ?_
  have h2 : org w ((back w.objs.length hs zs fr f N).pool s k) = .pool s k := h2
  rw [h2]
  show _ = w.pool s _
  rw [(t.told.front s).rest _ (by omega)]
  congr 1
  omega
theorem Parts.back_ok (t : Parts n0 w hs zs fr f) (c : Covers w N) : Ok w.objs.length (back w.objs.length hs zs fr f N) := by
  refine ⟨fun p q hp hq e => ?_, fun p hp => ?_, fun s => ⟨f s, (fr s).length, fun k hk => t.back_pool c s k hk⟩⟩
  · rw [back_len] at hp hq
    rw [← (t.back_org c hp).2, ← (t.back_org c hq).2, e]
  · rw [back_len] at hp
    exact (t.back_org c hp).1
/-- heads and fronts that the program hands to the inverse -/
def backH (n : Nat) (hs : List Pl) (zs : List Nat) (fr : Nat → List Pl) (f : Nat → Nat) (N : Nat) : List Pl := (List.range (if N = n then hs.length else N)).map fun i => (goalD n hs zs fr f (.obj i)).getD (.obj 0)
def backF (n : Nat) (hs : List Pl) (zs : List Nat) (fr : Nat → List Pl) (f : Nat → Nat) (s : Nat) : List Pl := (List.range (f s)).map fun k => (goalD n hs zs fr f (.pool s k)).getD (.obj 0)
theorem back_gobj {n i : Nat} (h : i < N) : gObj (back n hs zs fr f N) i = (goalD n hs zs fr f (.obj i)).getD (.obj 0) := by
  have gi : (back n hs zs fr f N).objs[i]? = some ((goalD n hs zs fr f (.obj i)).getD (.obj 0), 0) := by
    show ((List.range N).map _)[i]? = _
    rw [List.getElem?_map, List.getElem?_range h]
    rfl
  exact org_obj gi
theorem Parts.backH_can (t : Parts n0 w hs zs fr f) (c : Covers w N) : CanH N (gObj (back w.objs.length hs zs fr f N)) ((backH w.objs.length hs zs fr f N).take (stripH (backH w.objs.length hs zs fr f N) (backH w.objs.length hs zs fr f N).length)) := by
  have len : (backH w.objs.length hs zs fr f N).length = if N = w.objs.length then hs.length else N := by
    unfold backH
    rw [List.length_map, List.length_range]
  have le : (backH w.objs.length hs zs fr f N).length ≤ N := by
    rw [len]
    have := t.told.heads.le
    split <;> omega
  refine stripH_can le (fun i hi => ?_) _ (Nat.le_refl _) fun i h1 h2 => ?_
  · have hN : i < N := Nat.lt_of_lt_of_le hi le
    unfold backH at hi ⊢
    rw [List.length_map, List.length_range] at hi
    rw [List.getElem?_map, List.getElem?_range hi, back_gobj hN]
    rfl
  · rw [len] at h1
    split at h1
    · rename_i e
      have hi : i < w.objs.length := by omega
      have r : org w (.obj i) = .obj i := t.told.heads.rest i h1 hi
      have g := t.goal.mpr ⟨(show End w.objs.length (.obj i) from hi), r⟩
      rw [back_gobj h2, g]
      rfl
    · omega
theorem Parts.backF_can (t : Parts n0 w hs zs fr f) (c : Covers w N) (s : Nat) : CanF s ((back w.objs.length hs zs fr f N).pool s) ((backF w.objs.length hs zs fr f s).take (stripF s (backF w.objs.length hs zs fr f s) (backF w.objs.length hs zs fr f s).length (fr s).length).1) (stripF s (backF w.objs.length hs zs fr f s) (backF w.objs.length hs zs fr f s).length (fr s).length).2 := by
  have len : (backF w.objs.length hs zs fr f s).length = f s := by
    unfold backF
    rw [List.length_map, List.length_range]
  refine stripF_can (fun i hi => ?_) _ _ (Nat.le_refl _) fun i hi => ?_
  · unfold backF at hi ⊢
    rw [List.length_map, List.length_range] at hi
    rw [List.getElem?_map, List.getElem?_range hi]
    rfl
  · rw [len] at hi ⊢
    exact t.back_pool c s i hi
/-! ### when every address is somewhere, by counting -/
theorem full_count : ∀ {N : Nat} {l : List Nat}, l.Nodup → (∀ i ∈ l, i < N) → (l.length = N ↔ ∀ i, i < N → i ∈ l)
  | 0, l, nd, h => by
    have : l = [] := by
      cases l with
      | nil => rfl
      | cons a l => exact absurd (h a List.mem_cons_self) (Nat.not_lt_zero _)
    subst this
    exact ⟨(fun _ i hi => by cases hi), fun _ => rfl⟩
  | N + 1, l, nd, h => by
    by_cases c : N ∈ l
    · have ih := full_count (N := N) (l := l.erase N) (nd.erase _) (fun i m => by
        have m2 := (List.Nodup.mem_erase_iff nd).mp m
        have := h i m2.2
        have := m2.1
        omega)
      have e := List.length_erase_of_mem c
      have p := List.length_pos_of_mem c
      constructor
      · intro z i hi
        by_cases ci : i = N
        · rw [ci]; exact c
        · exact List.mem_of_mem_erase (ih.mp (by omega) i (by omega))
      · intro z
        have := ih.mpr fun i hi => (List.Nodup.mem_erase_iff nd).mpr ⟨by omega, z i (by omega)⟩
        omega
    · have ih := full_count (N := N) nd (fun i m => by
        have := h i m
        have : i ≠ N := fun e => c (e ▸ m)
        omega)
      constructor
      · intro z
        have le : l.length ≤ N := by
          have : ∀ (n : Nat) (l : List Nat), l.Nodup → (∀ i ∈ l, i < n) → l.length ≤ n := fun n => by
            induction n with
            | zero =>
              intro l _ h
              cases l with
              | nil => exact Nat.le_refl _
              | cons a l => exact absurd (h a List.mem_cons_self) (Nat.not_lt_zero _)
            | succ n ihn =>
              intro l nd h
              by_cases c : n ∈ l
              · have e := List.length_erase_of_mem c
                have := ihn (l.erase n) (nd.erase _) fun i m => by
                  have m2 := (List.Nodup.mem_erase_iff nd).mp m
                  have := h i m2.2
                  have := m2.1
                  omega
                omega
              · have := ihn l nd fun i m => by
                  have := h i m
                  have : i ≠ n := fun e => c (e ▸ m)
                  omega
                omega
          exact this N l nd fun i m => by
            have := h i m
            have : i ≠ N := fun e => c (e ▸ m)
            omega
        omega
      · intro z
        exact (c (z N (by omega))).elim
def objI (ps : List Pl) : List Nat := ps.filterMap fun p => match p with | .obj i => some i | .pool _ _ => none
def poolI (s : Nat) (ps : List Pl) : List Nat := ps.filterMap fun p => match p with | .obj _ => none | .pool t k => if t = s then some k else none
theorem objI_mem {ps : List Pl} {i : Nat} : i ∈ objI ps ↔ Pl.obj i ∈ ps := by
  unfold objI
  rw [List.mem_filterMap]
  constructor
  · rintro ⟨p, m, e⟩
    cases p with
    | obj j => cases e; exact m
    | pool s k => cases e
  · intro m
    exact ⟨_, m, rfl⟩
theorem poolI_mem {s : Nat} {ps : List Pl} {k : Nat} : k ∈ poolI s ps ↔ Pl.pool s k ∈ ps := by
  unfold poolI
  rw [List.mem_filterMap]
  constructor
  · rintro ⟨p, m, e⟩
    cases p with
    | obj j => cases e
    | pool t j =>
      dsimp only at e
      split at e
      · rename_i c
        cases e
        rw [← c]
        exact m
      · cases e
  · intro m
    exact ⟨_, m, if_pos rfl⟩
theorem objI_nodup : ∀ {ps : List Pl}, ps.Nodup → (objI ps).Nodup
  | [], _ => List.nodup_nil
  | .obj i :: ps, h => by
    rw [List.nodup_cons] at h
    show (i :: objI ps).Nodup
    rw [List.nodup_cons]
    exact ⟨fun m => h.1 (objI_mem.mp m), objI_nodup h.2⟩
  | .pool s k :: ps, h => objI_nodup (ps := ps) (List.nodup_cons.mp h).2
theorem poolI_nodup {s : Nat} : ∀ {ps : List Pl}, ps.Nodup → (poolI s ps).Nodup
  | [], _ => List.nodup_nil
  | .obj i :: ps, h => poolI_nodup (ps := ps) (List.nodup_cons.mp h).2
  | .pool t k :: ps, h => by
    rw [List.nodup_cons] at h
    by_cases c : t = s
    · have e : poolI s (.pool t k :: ps) = k :: poolI s ps := by
        unfold poolI
        simp [c]
      rw [e, List.nodup_cons]
      exact ⟨fun m => h.1 (by rw [c]; exact poolI_mem.mp m), poolI_nodup h.2⟩
    · have e : poolI s (.pool t k :: ps) = poolI s ps := by
        unfold poolI
        simp [c]
      rw [e]
      exact poolI_nodup h.2
def allO (hs : List Pl) (zs : List Nat) (fr : Nat → List Pl) : List Pl := hs ++ zs.flatMap fr
theorem Parts.all_eq (t : Parts n0 w hs zs fr f) : allO hs zs fr = (endsOf hs.length zs fr).map (org w) := by
  unfold allO endsOf
  rw [List.map_append, List.map_map, List.map_flatMap]
  congr 1
  · apply List.ext_getElem?
    intro i
    by_cases c : i < hs.length
    · rw [t.told.heads.at_ i c, List.getElem?_map, List.getElem?_range c]
      rfl
    · rw [List.getElem?_eq_none (by omega), List.getElem?_eq_none (by rw [List.length_map, List.length_range]; omega)]
  · congr 1
    funext s
    apply List.ext_getElem?
    intro i
    by_cases c : i < (fr s).length
    · rw [(t.told.front s).at_ i c, List.getElem?_map, List.getElem?_map, List.getElem?_range c]
      rfl
    · rw [List.getElem?_eq_none (by omega), List.getElem?_eq_none (by rw [List.length_map, List.length_map, List.length_range]; omega)]
theorem Parts.ends (t : Parts n0 w hs zs fr f) {e : Pl} (h : e ∈ endsOf hs.length zs fr) : End w.objs.length e := by
  rcases ends_mem.mp h with ⟨i, hi, rfl⟩ | ⟨s, _, k, _, rfl⟩
  · exact Nat.lt_of_lt_of_le hi t.told.heads.le
  · exact trivial
theorem Parts.all_nodup (t : Parts n0 w hs zs fr f) (nd : zs.Nodup) : (allO hs zs fr).Nodup := by
  rw [t.all_eq]
  exact nodup_map (fun x mx y my e => t.told.ok.inj x y (t.ends mx) (t.ends my) e) (ends_nodup nd)
theorem Parts.all_mem (t : Parts n0 w hs zs fr f) {p : Pl} : p ∈ allO hs zs fr ↔ ∃ e ∈ endsOf hs.length zs fr, org w e = p := by
  rw [t.all_eq, List.mem_map]
/-- an end is among the heads and fronts, or stays, or is fresh -/
theorem Parts.cases_end (t : Parts n0 w hs zs fr f) {e : Pl} (h : End w.objs.length e) : e ∈ endsOf hs.length zs fr ∨ (∃ i, e = .obj i ∧ hs.length ≤ i ∧ i < w.objs.length ∧ org w e = .obj i) ∨ ∃ s k, e = .pool s k ∧ (fr s).length ≤ k ∧ org w e = .pool s (f s + (k - (fr s).length)) := by
  cases e with
  | obj i =>
    have h : i < w.objs.length := h
    by_cases c : i < hs.length
    · exact .inl (ends_mem.mpr (.inl ⟨i, c, rfl⟩))
    · exact .inr (.inl ⟨i, rfl, by omega, h, t.told.heads.rest i (by omega) h⟩)
  | pool s k =>
    by_cases c : k < (fr s).length
    · refine .inl (ends_mem.mpr (.inr ⟨s, ?_, k, c, rfl⟩))
      refine Classical.byContradiction fun z => ?_
      rw [(t.off s z).1] at c
      cases c
    · exact .inr (.inr ⟨s, k, rfl, by omega, (t.told.front s).rest k (by omega)⟩)
/-- the program's counts -/
theorem Parts.covers (t : Parts n0 w hs zs fr f) (nd : zs.Nodup) (hN : (∀ i, Pl.obj i ∈ allO hs zs fr → i < N) ∧ (hs.length < w.objs.length → w.objs.length ≤ N)) :
    (((objI (allO hs zs fr)).length + (w.objs.length - hs.length) = N) ∧ ∀ s ∈ zs, (poolI s (allO hs zs fr)).length = f s) ↔ Covers w N := by
  have fresh : ∀ s k, Pl.pool s k ∈ allO hs zs fr → k < f s := fun s k m => by
    unfold allO at m
    rcases List.mem_append.mp m with m | m
    · obtain ⟨i, hi⟩ := List.mem_iff_getElem?.mp m
      exact t.told.fresh.1 i s k hi
    · obtain ⟨u, _, mu⟩ := List.mem_flatMap.mp m
      obtain ⟨j, hj⟩ := List.mem_iff_getElem?.mp mu
      exact t.told.fresh.2 u j s k hj
  have ndA := t.all_nodup nd
  let O := objI (allO hs zs fr) ++ (List.range (w.objs.length - hs.length)).map (· + hs.length)
  have lenO : O.length = (objI (allO hs zs fr)).length + (w.objs.length - hs.length) := by
    show (objI (allO hs zs fr) ++ (List.range (w.objs.length - hs.length)).map (· + hs.length)).length = _
    rw [List.length_append, List.length_map, List.length_range]
  have memO : ∀ i, i ∈ O ↔ ∃ e, End w.objs.length e ∧ org w e = .obj i := fun i => by
    show i ∈ objI (allO hs zs fr) ++ (List.range (w.objs.length - hs.length)).map (· + hs.length) ↔ _
    rw [List.mem_append, objI_mem, t.all_mem]
    constructor
    · rintro (⟨e, me, he⟩ | m)
      · exact ⟨e, t.ends me, he⟩
      · obtain ⟨j, hj, rfl⟩ := List.mem_map.mp m
        have hj := List.mem_range.mp hj
        exact ⟨.obj (j + hs.length), (show _ < _ by omega), t.told.heads.rest _ (by omega) (by omega)⟩
    · rintro ⟨e, he, ho⟩
      rcases t.cases_end he with m | ⟨j, rfl, h1, h2, h3⟩ | ⟨s, k, rfl, _, h3⟩
      · exact .inl ⟨e, m, ho⟩
      · rw [ho] at h3
        cases h3
        exact .inr (List.mem_map.mpr ⟨i - hs.length, List.mem_range.mpr (by omega), by omega⟩)
      · rw [ho] at h3
        cases h3
  have ndO : O.Nodup := by
    show (objI (allO hs zs fr) ++ (List.range (w.objs.length - hs.length)).map (· + hs.length)).Nodup
    rw [List.nodup_append]
    refine ⟨objI_nodup ndA, nodup_map (fun x _ y _ e => by omega) List.nodup_range, fun a ma b mb e => ?_⟩
    subst e
    obtain ⟨j, hj, e⟩ := List.mem_map.mp mb
    have hj := List.mem_range.mp hj
    obtain ⟨x, mx, hx⟩ := t.all_mem.mp (objI_mem.mp ma)
    have hi : a < w.objs.length := by omega
    have r : org w (.obj a) = .obj a := t.told.heads.rest a (by omega) hi
    have := t.told.ok.inj x (.obj a) (t.ends mx) hi (by rw [hx, r])
    subst this
    rcases ends_mem.mp mx with ⟨i, hi, z⟩ | ⟨s, _, k, _, z⟩
    · cases z
      omega
    · cases z
  have lt : ∀ i ∈ O, i < N := fun i m => by
    rcases List.mem_append.mp m with m | m
    · exact hN.1 i (objI_mem.mp m)
    · obtain ⟨j, hj, rfl⟩ := List.mem_map.mp m
      have hj := List.mem_range.mp hj
      have := hN.2 (by omega)
      omega
  have memP : ∀ s k, k < f s → (k ∈ poolI s (allO hs zs fr) ↔ ∃ e, End w.objs.length e ∧ org w e = .pool s k) := fun s k hk => by
    rw [poolI_mem, t.all_mem]
    constructor
    · rintro ⟨e, me, he⟩
      exact ⟨e, t.ends me, he⟩
    · rintro ⟨e, he, ho⟩
      rcases t.cases_end he with m | ⟨j, rfl, _, _, h3⟩ | ⟨u, j, rfl, _, h3⟩
      · exact ⟨e, m, ho⟩
      · rw [ho] at h3
        cases h3
      · rw [ho] at h3
        injection h3 with h4 h5
        rw [← h4] at h5
        omega
  have cO := full_count ndO lt
  have cP : ∀ s, (poolI s (allO hs zs fr)).length = f s ↔ ∀ k, k < f s → k ∈ poolI s (allO hs zs fr) := fun s => full_count (poolI_nodup ndA) fun k m => fresh s k (poolI_mem.mp m)
  rw [← lenO, cO]
  constructor
  · rintro ⟨h1, h2⟩ p hp
    cases p with
    | obj i => exact (memO i).mp (h1 i hp)
    | pool s k =>
      by_cases c : k < f s
      · by_cases ms : s ∈ zs
        · exact (memP s k c).mp ((cP s).mp (h2 s ms) k c)
        · rw [(t.off s ms).2] at c
          cases c
      · refine ⟨.pool s ((fr s).length + (k - f s)), trivial, ?_⟩
        show w.pool s _ = _
        rw [(t.told.front s).rest _ (by omega)]
        congr 1
        omega
  · intro h
    exact ⟨fun i hi => (memO i).mpr (h (.obj i) hi), fun s _ => (cP s).mpr fun k hk => (memP s k hk).mpr (h (.pool s k) trivial)⟩
end
end V1

set_option Elab.async false
set_option linter.all false
set_option maxRecDepth 100000
set_option maxHeartbeats 4000000
namespace K1
open PySem L2 W1
/-! ### goal_of, is_end -/
theorem lastG_eq : @lastG = @V1.lastG := rfl
theorem endsL_eq : @endsL = @V1.endsL := rfl
def GoalIs (H : Hp) (v : V) (o : Option Pl) : Prop := match o with
  | some e => PlAt H v e
  | none => v = .non
theorem GoalIs.mono {H H' : Hp} {v : V} {o : Option Pl} (h : GoalIs H v o) (s : Same H H') : GoalIs H' v o := by
  cases o with
  | none => exact h
  | some e => exact PlAt.mono (show PlAt H v e from h) s
theorem be_geN {σ : St} {H1 : Hp} {t u : TE} {i j : Nat} (h : VE t (nV i) σ H1) (r : VE u (nV j) σ H1) : BE (tTest (tOp (rI0 fun i j => .bl (decide (j ≤ i))) t u)) (decide (j ≤ i)) σ H1 := fun H2 s Q k => h H2 s _ (r H2 s _ ⟨(i : Nat), (j : Nat), rfl, rfl, _, rfl, by
  rw [show decide (((j : Nat) : Int) ≤ ((i : Nat) : Int)) = decide (j ≤ i) from decide_eq_decide.mpr (by omega)]
  exact k H2 (Same.refl _)⟩)
theorem bv_ltN {σ : St} {H1 : Hp} {t u : TE} {i j : Nat} (h : VE t (nV i) σ H1) (r : VE u (nV j) σ H1) : BV (tOp (rI0 fun i j => .bl (decide (i < j))) t u) (decide (i < j)) σ H1 := fun H2 s Q k => h H2 s _ (r H2 s _ ⟨(i : Nat), (j : Nat), rfl, rfl, by
  show Q (.bl (decide (((i : Nat) : Int) < ((j : Nat) : Int)))) H2
  rw [show decide (((i : Nat) : Int) < ((j : Nat) : Int)) = decide (i < j) from decide_eq_decide.mpr (by omega)]
  exact k H2 (Same.refl _)⟩)
theorem be_chainN {σ : St} {H1 : Hp} {t u v : TE} {i j l : Nat} (h : VE t (nV i) σ H1) (r : VE u (nV j) σ H1) (g : VE v (nV l) σ H1) : BE (tTest (tChain (rI0 fun i j => .bl (decide (i ≤ j))) (rI0 fun i j => .bl (decide (i < j))) t u v)) (decide (i ≤ j ∧ j < l)) σ H1 := fun H2 s Q k => h H2 s _ (r H2 s _ ⟨(i : Nat), (j : Nat), rfl, rfl, decide (((i : Nat) : Int) ≤ ((j : Nat) : Int)), rfl, by
  by_cases c : i ≤ j
  · rw [if_pos (decide_eq_true (by omega))]
    refine g H2 s _ ⟨(j : Nat), (l : Nat), rfl, rfl, _, rfl, ?_⟩
    rw [show decide (((j : Nat) : Int) < ((l : Nat) : Int)) = decide (i ≤ j ∧ j < l) from decide_eq_decide.mpr ⟨fun z => ⟨c, by omega⟩, fun z => by omega⟩]
    exact k H2 (Same.refl _)
  · rw [if_neg (by rw [decide_eq_false (by omega)]; decide)]
    refine ⟨false, rfl, ?_⟩
    have := k H2 (Same.refl _)
    rw [decide_eq_false (fun z => c z.1)] at this
    exact this⟩)
section
variable {P : Program} {w : World} {K : PySem.W.Frag} {mg : Str → Option Value} {base : Heap} {CP CM C : Addr}
/-- a plan as it is read, its dict of fronts locked or not -/
structure PlanRd (CP : Addr) (H : Hp) (p : Addr) (n : Nat) (hs : List Pl) (zs : List Nat) (fr : Nat → List Pl) (f : Nat → Nat) : Prop where
  ex : ∃ (dx th df dg : Addr) (hv : List V) (t : Nat → Addr), H p = some (.ins CP dx (plF (.ref th) (nV n) (.ref df) (.ref dg))) ∧ H th = some (.tup hv) ∧ Ps H hv hs ∧ Rd H df (.dK (kvz zs t)) ∧ FrC false H zs t fr f ∧ GAt H dg (endsL hs zs fr)
  ok : PlanOk hs zs fr f
theorem rd_mono {H H' : Hp} {d : Addr} {u : HO} (h : Rd H d u) (s : Same H H') : Rd H' d u := by
  rcases h with h | ⟨o, h⟩
  · exact .inl (s _ _ h)
  · exact .inr ⟨o, s _ _ h⟩
theorem PlanRd.mono {CP : Addr} {H H' : Hp} {p : Addr} {n : Nat} {hs : List Pl} {zs : List Nat} {fr : Nat → List Pl} {f : Nat → Nat} (h : PlanRd CP H p n hs zs fr f) (s : Same H H') : PlanRd CP H' p n hs zs fr f := by
  obtain ⟨⟨dx, th, df, dg, hv, t, h1, h2, h3, h4, h5, h6⟩, o⟩ := h
  exact ⟨⟨dx, th, df, dg, hv, t, s _ _ h1, s _ _ h2, h3.mono s, rd_mono h4 s, h5.mono s, h6.mono s⟩, o⟩
theorem plF_4 (a b c d : V) : (plF a b c d).lookup ("goals" : Str) = some d := by
  unfold plF
  rw [lookup_putF, if_pos rfl]
theorem plF_inj {a b c d a' b' c' d' : V} (h : plF a b c d = plF a' b' c' d') : a = a' ∧ c = c' ∧ d = d' := by
  have h1 := plF_1 a b c d
  have h3 := plF_3 a b c d
  have h4 := plF_4 a b c d
  rw [h] at h1 h3 h4
  rw [plF_1] at h1
  rw [plF_3] at h3
  rw [plF_4] at h4
  exact ⟨(Option.some.inj h1).symm, (Option.some.inj h3).symm, (Option.some.inj h4).symm⟩
theorem PlanAt.rd {CP : Addr} {H : Hp} {p : Addr} {n : Nat} {hs : List Pl} {zs : List Nat} {fr : Nat → List Pl} {f : Nat → Nat} (h : PlanAt CP H p n hs zs fr f) : ∃ (dx th df dg : Addr) (hv : List V) (t : Nat → Addr), H p = some (.ins CP dx (plF (.ref th) (nV n) (.ref df) (.ref dg))) ∧ H th = some (.tup hv) ∧ Ps H hv hs ∧ H df = some (.dK (kvz zs t)) ∧ FrC false H zs t fr f ∧ GAt H dg (endsL hs zs fr) := by
  obtain ⟨⟨dx, th, df, dg, hv, h1, h2, h3, ⟨t, h4, h5⟩⟩, o, c, ⟨x1, x2, x3, x4, g1, g2⟩⟩ := h
  rw [h1] at g1
  have g1 := Option.some.inj g1
  injection g1 with _ _ g1
  obtain ⟨_, _, e⟩ := plF_inj g1
  injection e with e
  exact ⟨dx, th, df, dg, hv, t, h1, h2, h3, h4, h5, by rw [e]; exact g2⟩
theorem PlanAt.read {CP : Addr} {H : Hp} {p : Addr} {n : Nat} {hs : List Pl} {zs : List Nat} {fr : Nat → List Pl} {f : Nat → Nat} (h : PlanAt CP H p n hs zs fr f) : PlanRd CP H p n hs zs fr f := by
  obtain ⟨dx, th, df, dg, hv, t, h1, h2, h3, h4, h5, h6⟩ := h.rd
  exact ⟨⟨dx, th, df, dg, hv, t, h1, h2, h3, .inl h4, h5, h6⟩, h.ok⟩
theorem GAt.lkD {H H' : Hp} {d g : Addr} {ks : List (Key × V)} {L : List (Pl × Pl)} (h : GAt H g L) (hd : H d = some (.dK ks)) (l : Lk d H H') : GAt H' g L := by
  obtain ⟨kvs, e, v⟩ := h
  refine ⟨kvs, l _ _ e (fun z => by rw [z, hd] at e; cases e), v.no, fun q e' z => ?_⟩
  obtain ⟨b, e1, e2⟩ := v.yes q e' z
  exact ⟨b, e1, l _ _ e2 (fun z => by rw [z, hd] at e2; cases e2)⟩
def spFoR (CP : Addr) : Sp := fun vs H Q _ => ∃ (p : Addr) (s n : Nat) (hs : List Pl) (zs : List Nat) (fr : Nat → List Pl) (f : Nat → Nat), vs = [.ref p, nV s] ∧ PlanRd CP H p n hs zs fr f ∧ ∀ t q xs H', Same H H' → H' t = some (.tup [.ref q, nV (f s)]) → H' q = some (.tup xs) → Ps H' xs (fr s) → Q (.ref t) H'
theorem ok_front_ofR {f : Addr} {fd : FuncData} (F : Fun K "front_of" "front_of" (top 27) f fd) (T : NoPl K CP) : FnOk P w K mg base CX0 1 f fd ["plan", "size"] (spFoR CP) := by
  refine F.ok sc_front_of (fun vs H Q E h => ?_) (fun cdv A outer s H vs Q E hr h => ?_)
  · obtain ⟨p, s, n, hs, zs, fr, f, rfl, _⟩ := h
    rfl
  · obtain ⟨p, s, n, hs, zs, fr, f, rfl, ⟨⟨dx, th, df, dg, hv, t, h1, h2, h3, h4, h5, h6⟩, o⟩, k⟩ := h
    refine ⟨_, (pss_one (ps_ret (pe_ifExp (pt_cmp (pc_din (hr1 hr) (pv 1) (pe_fld (pv 0) rfl))) (pe_dget (hr1 hr) (pe_fld (pv 0) rfl) (pv 1) (fun _ _ => rfl)) (pe_tup (pa_cons (pe_tup pa_nil) (pa_cons pe_int pa_nil)))))), ?_⟩
    have vf : ∀ {H5 : Hp}, Same H H5 → VE (tFld K (tVar 0) "fronts") (.ref df) [some (.ref p), some (nV s)] H5 := fun s5 => ve_fld (ve_var (v := .ref p) rfl) (s5 _ _ h1) T.cl T.n3 (plF_3 _ _ _ _)
    refine ret_of (ifE_be (be_din (w := t) (ve_var (v := nV s) rfl) (vf (Same.refl _)) h4) fun H3 s3 => ⟨fun c => ?_, fun c => ?_⟩)
    · have m := of_decide_eq_true c
      obtain ⟨q, xs, t1, t2, t3⟩ := (h5.mono s3).each s m
      exact (ve_dget (w := t) (vf s3) (ve_var (v := nV s) rfl) (rd_mono h4 s3) m) H3 (Same.refl _) _ (k _ q xs H3 s3 t1 t2 t3)
    · have m := of_decide_eq_false c
      obtain ⟨o1, o2⟩ := o.off s m
      refine ttup_rd (tcons_rd (ttup_rd ⟨Nat.zero_le _, fun q nq => tcons_rd (tc_rd ⟨by show 2 ≤ sizeLine; decide, fun T nT => ?_⟩)⟩))
      have s4 := same_new (o := .tup []) s3 nq
      have s5 := same_new (o := .tup [.ref q, .int 0]) s4 nT
      refine k T q [] _ s5 ?_ ?_ ?_
      · rw [o2]
        exact upd_same
      · rw [upd_ne (ne_of_none upd_same nT)]
        exact upd_same
      · rw [o1]
        exact Ps.nil
def spGo (CP : Addr) : Sp := fun vs H Q _ => ∃ (p : Addr) (v : V) (pl : Pl) (n : Nat) (hs : List Pl) (zs : List Nat) (fr : Nat → List Pl) (f : Nat → Nat), vs = [.ref p, v] ∧ PlanRd CP H p n hs zs fr f ∧ PlAt H v pl ∧ ∀ v' H', Same H H' → GoalIs H' v' (V1.goalD n hs zs fr f pl) → Q v' H'
theorem sc_goal_of : FnScope ["plan", "place", "front", "fresh"] ["plan", "place"] (defScope (top 32)) := ⟨rfl, rfl, rfl, by decide +kernel, rfl, by decide +kernel, by decide +kernel⟩
theorem ok_goal_of {f : Addr} {fd : FuncData} (F : Fun K "goal_of" "goal_of" (top 32) f fd) (B : Bl3 mg) (T : NoPl K CP) (CFo : Cal P w K mg base CX0 1 "front_of" ["plan", "size"] (spFoR CP)) : FnOk P w K mg base CX0 2 f fd ["plan", "place"] (spGo CP) := by
  refine F.ok sc_goal_of (fun vs H Q E h => ?_) (fun cdv A outer s H vs Q E hr h => ?_)
  · obtain ⟨p, v, pl, n, hs, zs, fr, f, rfl, _⟩ := h
    rfl
  · obtain ⟨p, v, pl, n, hs, zs, fr, f, rfl, pa, ⟨b, rfl, hb⟩, k⟩ := h
    refine ⟨_, (pss_cons (ps_if (pt_cmp (pc_din (hr1 hr) (pv 1) (pe_fld (pv 0) rfl))) (pss_one (ps_ret (pe_dget (hr1 hr) (pe_fld (pv 0) rfl) (pv 1) (fun _ _ => rfl)))) pss_nil)
      (pss_cons (ps_if (pt_cmpR op_eq (pe_ix ix_tup (pv 1) pe_int (fun _ _ => rfl)) pe_str (nomark _)) (pss_one (ps_ret (pe_ifExp (pt_chain op_le op_lt (pe_callB call_len_seq rfl B.len PySem.boot_len (pa_cons (pe_fld (pv 0) rfl) pa_nil)) (pe_ix ix_tup (pv 1) pe_int (fun _ _ => rfl)) (pe_fld (pv 0) rfl)) (pv 1) pe_non))) pss_nil)
      (pss_cons (ps_asg (pe_cal CFo hr (by omega) pass0 (pa_cons (pv 0) (pa_cons (pe_ix ix_tup (pv 1) pe_int (fun _ _ => rfl)) pa_nil))) (pg_tup rfl (pgs_cons (pg_name (i := 2) sc_goal_of.nd rfl (Or.inl rfl)) (pgs_cons (pg_name (i := 3) sc_goal_of.nd rfl (Or.inl rfl)) pgs_nil))))
      (pss_one (ps_ret (pe_ifExp (pt_cmpR op_ge (pe_ix ix_tup (pv 1) pe_int (fun _ _ => rfl)) (pv 3) (nomark _)) (pe_tup (pa_cons pe_str (pa_cons (pe_ix ix_tup (pv 1) pe_int (fun _ _ => rfl)) (pa_cons (pe_op op_add (pe_op op_sub (pe_ix ix_tup (pv 1) pe_int (fun _ _ => rfl)) (pv 3)) (pe_callB call_len_seq rfl B.len PySem.boot_len (pa_cons (pv 2) pa_nil))) pa_nil)))) pe_non)))))), ?_⟩
    obtain ⟨dx0, th0, df0, dg, hv0, t0, hp, _, _, _, _, ⟨kvs, hg, gv⟩⟩ := pa.ex
    have vb : ∀ {H5 : Hp} {x y : Option V}, VE (tVar 1) (.ref b) [some (.ref p), some (.ref b), x, y] H5 := ve_var rfl
    have vg : ∀ {H5 : Hp} {x y : Option V}, Same H H5 → VE (tFld K (tVar 0) "goals") (.ref dg) [some (.ref p), some (.ref b), x, y] H5 := fun s5 => ve_fld (ve_var (v := .ref p) rfl) (s5 _ _ hp) T.cl T.n4 (plF_4 _ _ _ _)
    have c1 : BE (tB (tDIn (tVar 1) (tFld K (tVar 0) "goals"))) (valV kvs (plK pl)).isSome [some (.ref p), some (.ref b), none, none] H := be_bv fun H3 s3 Q q => vb H3 (Same.refl _) _ (vg s3 H3 (Same.refl _) _ ⟨dg, _, rfl, DGet.t (k := plK pl) (s3 _ _ hg) (by rw [← plV_key]; exact s3 _ _ hb), q H3 (Same.refl _)⟩)
    refine seq_rd (if_be c1 fun H1 s1 => ⟨fun z => ?_, fun z => ?_⟩)
    · cases q : lastG (endsL hs zs fr) pl with
      | none =>
        rw [gv.no pl q] at z
        cases z
      | some e =>
        obtain ⟨c, e1, e2⟩ := gv.yes pl e q
        refine ret_of (vg s1 H1 (Same.refl _) _ (vb H1 (Same.refl _) _ ⟨dg, .ref c, rfl, ?_, k (.ref c) H1 s1 ?_⟩))
        · have := DGet.t (k := plK pl) (a := dg) (b := b) (s1 _ _ hg) (by rw [← plV_key]; exact s1 _ _ hb)
          rw [e1] at this
          exact this
        · rw [V1.goalD_some (n := n) (f := f) q]
          exact ⟨c, rfl, s1 _ _ e2⟩
    · have q : lastG (endsL hs zs fr) pl = none := by
        cases q : lastG (endsL hs zs fr) pl with
        | none => rfl
        | some e =>
          obtain ⟨c, e1, _⟩ := gv.yes pl e q
          rw [e1] at z
          cases z
      refine next_rd ?_
      dsimp only
      have hb1 := s1 _ _ hb
      obtain ⟨⟨dx', th', df', dg', hv, t', h1, h2, h3, h4, h5, h6⟩, o⟩ := pa.mono s1
      cases pl with
      | obj i =>
        rw [V1.goalD_obj (n := n) (f := f) q] at k
        have hb1 : H1 b = some (.tup [.str "object", nV i]) := hb1
        have hl : hv.length = hs.length := h3.1
        refine seq_rd (if_be (be_eqS (ve_ixT (n := 0) vb hb1 ve_c rfl) ve_c) fun H2 s2 => ⟨fun _ => ?_, fun z => absurd z (by decide +kernel)⟩)
        have hb2 := s2 _ _ hb1
        have vh : VE (tCB (fun xs H Q => ∃ p ys, xs = [V.ref p] ∧ (SqL K H p ys ∨ SqT K H p ys) ∧ Q (V.int (ys.length : Nat)) H) (tCons (tFld K (tVar 0) "heads") tNil)) (nV hs.length) [some (.ref p), some (.ref b), none, none] H2 := by
          have := ve_lenT (K := K) (ve_fld (ve_var (s := 0) (v := .ref p) (σ := [some (.ref p), some (.ref b), none, none]) (H1 := H2) rfl) (s2 _ _ h1) T.cl T.n1 (plF_1 _ _ _ _)) (s2 _ _ h2)
          rw [hl] at this
          exact this
        refine ret_of (ifE_be (be_to (be_chainN (i := hs.length) (j := i) (l := n) vh (ve_ixT (n := 1) vb hb2 ve_c rfl) (ve_fld (ve_var (v := .ref p) rfl) (s2 _ _ h1) T.cl T.n2 (plF_2 _ _ _ _))) rfl) fun H3 s3 => ⟨fun z => ?_, fun z => ?_⟩)
        · rw [if_pos (of_decide_eq_true z)] at k
          exact vb H3 (Same.refl _) _ (k (.ref b) H3 ((s1.trans s2).trans s3) ⟨b, rfl, s3 _ _ hb2⟩)
        · rw [if_neg (of_decide_eq_false z)] at k
          exact tc_rd (k .non H3 ((s1.trans s2).trans s3) rfl)
      | pool t j =>
        rw [V1.goalD_pool (n := n) (f := f) q] at k
        have hb1 : H1 b = some (.tup [.str "pool", nV t, nV j]) := hb1
        refine seq_rd (if_be (be_eqS (ve_ixT (n := 0) vb hb1 ve_c rfl) ve_c) fun H2 s2 => ⟨fun z => absurd z (by decide +kernel), fun _ => ?_⟩)
        have hb2 := s2 _ _ hb1
        refine next_rd ?_
        dsimp only
        refine seq_rd (asgT (call_rd (va_cons (ve_var (v := .ref p) rfl) (va_cons (ve_ixT (n := 1) vb hb2 ve_c rfl) va_nil)) ⟨p, t, n, hs, zs, fr, f, rfl, pa.mono (s1.trans s2), fun a q xs H3 s3 t1 t2 t3 => pair2_rd t1 ?_⟩))
        refine next_rd ?_
        dsimp only
        have hb3 := s3 _ _ hb2
        have vq : ∀ {H5 : Hp}, VE (tVar 2) (.ref q) [some (.ref p), some (.ref b), some (.ref q), some (nV (f t))] H5 := ve_var rfl
        refine ret_of (ifE_be (b := decide (f t ≤ j)) ?_ fun H4 s4 => ⟨fun z => ?_, fun z => ?_⟩)
        · exact be_geN (i := j) (j := f t) (ve_ixT (n := 2) vb hb3 ve_c rfl) (ve_var rfl)
        · have c := of_decide_eq_true z
          rw [if_pos c] at k
          have hb4 := s4 _ _ hb3
          have num : VE (tOp (rI0 fun i j => V.int (i + j)) (tOp (rI0 fun i j => V.int (i - j)) (tOp (rIxT K) (tVar 1) (tC (.int 2))) (tVar 3)) (tCB (fun xs H Q => ∃ p ys, xs = [V.ref p] ∧ (SqL K H p ys ∨ SqT K H p ys) ∧ Q (V.int (ys.length : Nat)) H) (tCons (tVar 2) tNil))) (nV (j - f t + (fr t).length)) [some (.ref p), some (.ref b), some (.ref q), some (nV (f t))] H4 := by
            refine VE.to (ve_add (i := ((j - f t : Nat) : Int)) (j := (xs.length : Nat)) (ve_subN (i := j) (j := f t) (ve_ixT (n := 2) vb hb4 ve_c rfl) (ve_var rfl) c) (ve_lenT vq (s4 _ _ t2))) ?_
            rw [t3.1]
            omega
          refine ttup_rd (tcons_rd (tc_rd (tcons_rd ((ve_ixT (n := 1) vb hb4 ve_c rfl) H4 (Same.refl _) _ (cons_rd (num H4 (Same.refl _) _ ⟨by show 3 ≤ sizeLine; decide, fun U nU => ?_⟩))))))
          exact k (.ref U) _ ((((s1.trans s2).trans s3).trans s4).trans (same_new (Same.refl _) nU)) ⟨U, rfl, upd_same⟩
        · have c := of_decide_eq_false z
          rw [if_neg c] at k
          dsimp only
          exact tc_rd (k .non H4 (((s1.trans s2).trans s3).trans s4) rfl)
def endB (n : Nat) : Pl → Bool
  | .obj i => decide (i < n)
  | .pool _ _ => true
def spIe (CP : Addr) : Sp := fun vs H Q _ => ∃ (p : Addr) (v : V) (pl : Pl) (n : Nat) (hs : List Pl) (zs : List Nat) (fr : Nat → List Pl) (f : Nat → Nat), vs = [.ref p, v] ∧ PlanAt CP H p n hs zs fr f ∧ PlAt H v pl ∧ ∀ H', Same H H' → Q (.bl (endB n pl)) H'
theorem sc_is_end : FnScope ["plan", "place"] ["plan", "place"] (defScope (top 29)) := ⟨rfl, rfl, rfl, by decide +kernel, rfl, by decide +kernel, by decide +kernel⟩
theorem ok_is_end {f : Addr} {fd : FuncData} (F : Fun K "is_end" "is_end" (top 29) f fd) (T : NoPl K CP) : FnOk P w K mg base CX0 1 f fd ["plan", "place"] (spIe CP) := by
  refine F.ok sc_is_end (fun vs H Q E h => ?_) (fun cdv A outer s H vs Q E hr h => ?_)
  · obtain ⟨p, v, pl, n, hs, zs, fr, f, rfl, _⟩ := h
    rfl
  · obtain ⟨p, v, pl, n, hs, zs, fr, f, rfl, pa, ⟨b, rfl, hb⟩, k⟩ := h
    refine ⟨_, (pss_one (ps_ret (pe_or (pe_cmpR op_eq (pe_ix ix_tup (pv 1) pe_int (fun _ _ => rfl)) pe_str (nomark _)) (pe_one (pe_cmpR op_lt (pe_ix ix_tup (pv 1) pe_int (fun _ _ => rfl)) (pe_fld (pv 0) rfl) (nomark _)))))), ?_⟩
    obtain ⟨⟨dx, th, df, dg, hv, h1, h2, h3, h4⟩, o, _⟩ := id pa
    have vb : ∀ {H5 : Hp}, VE (tVar 1) (.ref b) [some (.ref p), some (.ref b)] H5 := ve_var rfl
    cases pl with
    | obj i =>
      have hb : H b = some (.tup [.str "object", nV i]) := hb
      refine ret_bv (bv_to (c := endB n (.obj i)) (bv_or (c := decide (i < n)) (bv_eqS (x := "object") (y := "pool") (ve_ixT (n := 0) vb hb ve_c rfl) ve_c) fun _ => bv_ltN (ve_ixT (n := 1) vb hb ve_c rfl) (ve_fld (ve_var (v := .ref p) rfl) h1 T.cl T.n2 (plF_2 _ _ _ _))) (by rw [decide_eq_false (by decide +kernel)]; rfl)) fun H3 s3 => k H3 s3
    | pool t j =>
      have hb : H b = some (.tup [.str "pool", nV t, nV j]) := hb
      refine ret_bv (bv_to (c := endB n (.pool t j)) (bv_or (c := true) (bv_eqS (x := "pool") (y := "pool") (ve_ixT (n := 0) vb hb ve_c rfl) ve_c) fun z => by rw [decide_eq_true rfl] at z; cases z) (by rw [decide_eq_true rfl]; rfl)) fun H3 s3 => k H3 s3
end

end K1

set_option linter.all false
namespace V1
/-- the least number above all objects that were there and are still -/
def Top (w : Wd) (N : Nat) : Prop := ∀ m, N ≤ m ↔ ∀ e i, End w.objs.length e → org w e = .obj i → i < m
structure Inv (w : Wd) (N : Nat) (wi : Wd) : Prop where
  len : wi.objs.length = N
  back : ∀ p, End N p → End w.objs.length (org wi p) ∧ org w (org wi p) = p
  ok : Ok w.objs.length wi
theorem Top.dom {w : Wd} {N : Nat} (t : Top w N) : ∀ e, End w.objs.length e → End N (org w e) := fun e he => by
  cases q : org w e with
  | obj i => exact (t N).mp (Nat.le_refl _) e i he q
  | pool s k => exact trivial
theorem Inv.there {n0 : Nat} {w wi : Wd} {N : Nat} (v : Inv w N wi) (o : Ok n0 w) (t : Top w N) {e : Pl} (h : End w.objs.length e) : org wi (org w e) = e := by
  obtain ⟨h1, h2⟩ := v.back _ (t.dom e h)
  exact o.inj _ _ h1 h h2
theorem Ok.top {n0 : Nat} {w : Wd} {N : Nat} (o : Ok n0 w) (t : Top w N) : Ok N w := ⟨o.inj, t.dom, o.tail⟩
/-- the inverse's own inverse is the stretch -/
theorem Inv.top {n0 : Nat} {w wi : Wd} {N : Nat} (v : Inv w N wi) (o : Ok n0 w) (t : Top w N) : Top wi w.objs.length := fun m => by
  constructor
  · intro h e i he ho
    rw [v.len] at he
    have := (v.back e he).1
    rw [ho] at this
    have : i < w.objs.length := this
    omega
  · intro h
    refine Classical.byContradiction fun c => ?_
    have hm : m < w.objs.length := by omega
    have he : End w.objs.length (.obj m) := hm
    have := h (org w (.obj m)) m (by rw [v.len]; exact t.dom _ he) (v.there o t he)
    omega
theorem Inv.covers {n0 : Nat} {w wi : Wd} {N : Nat} (v : Inv w N wi) (o : Ok n0 w) (t : Top w N) : Covers wi w.objs.length := fun e he => ⟨org w e, by rw [v.len]; exact t.dom e he, v.there o t he⟩
theorem Inv.twice {n0 : Nat} {w wi wii : Wd} {N : Nat} (v : Inv w N wi) (o : Ok n0 w) (t : Top w N) (u : Inv wi w.objs.length wii) : wii.objs.length = w.objs.length ∧ ∀ e, End w.objs.length e → org wii e = org w e := by
  refine ⟨u.len, fun e he => ?_⟩
  obtain ⟨h1, h2⟩ := u.back e he
  refine v.ok.inj _ _ h1 (by rw [v.len]; exact t.dom e he) ?_
  rw [h2, v.there o t he]
section
variable {n0 N : Nat} {w : Wd} {hs : List Pl} {zs : List Nat} {fr : Nat → List Pl} {f : Nat → Nat}
theorem Parts.inside (t : Parts n0 w hs zs fr f) (m : Nat) : ((∀ i, Pl.obj i ∈ allO hs zs fr → i < m) ∧ (hs.length < w.objs.length → w.objs.length ≤ m)) ↔ ∀ e i, End w.objs.length e → org w e = .obj i → i < m := by
  constructor
  · rintro ⟨h1, h2⟩ e i he ho
    rcases t.cases_end he with me | ⟨j, rfl, c1, c2, c3⟩ | ⟨s, k, rfl, _, c3⟩
    · exact h1 i (t.all_mem.mpr ⟨e, me, ho⟩)
    · rw [ho] at c3
      cases c3
      have := h2 (by omega)
      omega
    · rw [ho] at c3
      cases c3
  · intro h
    refine ⟨fun i mi => ?_, fun c => ?_⟩
    · obtain ⟨e, me, he⟩ := t.all_mem.mp mi
      exact h e i (t.ends me) he
    · have hi : End w.objs.length (.obj (w.objs.length - 1)) := show w.objs.length - 1 < w.objs.length by omega
      have r : org w (.obj (w.objs.length - 1)) = .obj (w.objs.length - 1) := t.told.heads.rest _ (by omega) (by omega)
      have := h _ _ hi r
      omega
theorem Parts.inv (t : Parts n0 w hs zs fr f) (c : Covers w N) : Inv w N (back w.objs.length hs zs fr f N) := ⟨back_len, fun p hp => t.back_org c hp, t.back_ok c⟩
theorem Parts.some_goal (t : Parts n0 w hs zs fr f) (c : Covers w N) : ∀ pl, End N pl → (goalD w.objs.length hs zs fr f pl).isSome = true := fun pl hp => by
  obtain ⟨e, he, ho⟩ := c pl hp
  rw [t.goal.mpr ⟨he, ho⟩]
  rfl
theorem poolI_le {s : Nat} {ps : List Pl} : (poolI s ps).length ≤ ps.length := List.length_filterMap_le _ _
theorem objI_le {ps : List Pl} : (objI ps).length ≤ ps.length := List.length_filterMap_le _ _
end
/-- worlds with the same origins -/
theorem CanH.congr {n : Nat} {g g' : Nat → Pl} {h : List Pl} (c : CanH n g h) (e : ∀ i, i < n → g i = g' i) : CanH n g' h :=
  ⟨c.le, fun i hi => by rw [c.at_ i hi, e i (Nat.lt_of_lt_of_le hi c.le)], fun i h1 h2 => by rw [← e i h2]; exact c.rest i h1 h2, fun m hm z => c.last m hm (by rw [e m (by have := c.le; omega)]; exact z)⟩
end V1

set_option linter.all false
namespace V1
/-! ### the places that the law knows -/
/-- objects that would leave are freed -/
def freed : St → St
  | .leave i => .free i
  | t => t
theorem okT_freed : ∀ {ts : List St} {n : Nat}, okT n ts → okT n (ts.map freed)
  | [], _, _ => trivial
  | .make s :: ts, n, h => ⟨h.1, okT_freed (ts := ts) h.2⟩
  | .free i :: ts, n, h => ⟨h.1, okT_freed (ts := ts) h.2⟩
  | .leave i :: ts, n, h => ⟨h.1, okT_freed (ts := ts) h.2⟩
/-- rows end where the pool goes on at its sixtieth place -/
def Row60 (w : Wd) (l : LW) : Prop := ∀ s k, (l.pool s).length ≤ k → w.pool s k = .pool s (60 + (k - (l.pool s).length))
theorem row60_step {w w' : Wd} {l l' : LW} {c : Nat} (r : Rep w l c) (z : Row60 w l) : ∀ {t : St}, step w t = some w' → lstep l t = some l' → Row60 w' l'
  | .make s, e, e' => by
    cases Option.some.inj (show some (Wd.mk (w.objs ++ [(w.pool s 0, s)]) (putP w.pool s (popS (w.pool s)))) = some w' from e)
    cases q : l.pool s with
    | nil => simp only [lstep, q] at e'; cases e'
    | cons x rs =>
      simp only [lstep, q] at e'
      cases e'
      intro u k hk
      have hk : (putL l.pool s rs u).length ≤ k := hk
      show putP w.pool s _ u k = .pool u (60 + (k - (putL l.pool s rs u).length))
      unfold putP putL at *
      by_cases cu : u = s
      · rw [if_pos cu] at hk ⊢
        rw [if_pos cu]
        show w.pool s (k + 1) = _
        have := z s (k + 1) (by rw [q, List.length_cons]; omega)
        rw [this, cu, q, List.length_cons]
        congr 1
        omega
      · rw [if_neg cu] at hk ⊢
        rw [if_neg cu]
        exact z u k hk
  | .free i, e, e' => by
    obtain ⟨x, hx, rfl⟩ := Option.map_eq_some_iff.mp (show (w.objs[i]?).map _ = some w' from e)
    obtain ⟨y, hy, rfl⟩ := Option.map_eq_some_iff.mp (show (l.objs[i]?).map _ = some l' from e')
    rw [r.objs, hx] at hy
    cases hy
    intro u k hk
    have hk : (putL l.pool x.2 (x.1 :: l.pool x.2) u).length ≤ k := hk
    show putP w.pool x.2 (pushS x.1 (w.pool x.2)) u k = .pool u (60 + (k - (putL l.pool x.2 (x.1 :: l.pool x.2) u).length))
    unfold putP putL at *
    by_cases cu : u = x.2
    · rw [if_pos cu] at hk ⊢
      rw [if_pos cu]
      rw [List.length_cons] at hk ⊢
      obtain ⟨k, rfl⟩ : ∃ j, k = j + 1 := ⟨k - 1, by omega⟩
      show w.pool x.2 k = _
      rw [z x.2 k (by omega), cu]
      congr 1
      omega
    · rw [if_neg cu] at hk ⊢
      rw [if_neg cu]
      exact z u k hk
  | .leave i, e, e' => by
    obtain ⟨x, hx, rfl⟩ := Option.map_eq_some_iff.mp (show (w.objs[i]?).map _ = some w' from e)
    obtain ⟨y, hy, rfl⟩ := Option.map_eq_some_iff.mp (show (l.objs[i]?).map _ = some l' from e')
    exact z
theorem row60_play : ∀ {ts : List St} {w w' : Wd} {l l' : LW} {c : Nat}, Rep w l c → c + ts.length ≤ 60 → Row60 w l → play w ts = some w' → lplay l ts = some l' → Row60 w' l'
  | [], w, w', l, l', c, _, _, z, e, e' => by cases e; cases e'; exact z
  | t :: ts, w, w', l, l', c, r, hc, z, e, e' => by
    rw [List.length_cons] at hc
    obtain ⟨w1, h1, h2⟩ := Option.bind_eq_some_iff.mp (show (step w t).bind (fun w' => play w' ts) = some w' from e)
    obtain ⟨l1, k1, k2⟩ := Option.bind_eq_some_iff.mp (show (lstep l t).bind (fun l' => lplay l' ts) = some l' from e')
    obtain ⟨l1', k3, r1⟩ := rep_step r (by omega) h1
    rw [k1] at k3
    cases k3
    exact row60_play r1 (by omega) (row60_step r z h1 k1) h2 k2
def rows8 : List Nat := [1, 2, 3, 4, 5, 6, 7, 8]
def known (w : Wd) (l : LW) : List Pl := headsOf w ++ rows8.flatMap l.pool
theorem known_org {w : Wd} {l : LW} {c : Nat} (r : Rep w l c) {p : Pl} (h : p ∈ known w l) : ∃ e, End w.objs.length e ∧ org w e = p := by
  unfold known at h
  rcases List.mem_append.mp h with m | m
  · obtain ⟨i, hi⟩ := List.mem_iff_getElem?.mp m
    have li := (List.getElem?_eq_some_iff.mp hi).1
    rw [heads_len] at li
    rw [heads_get li] at hi
    exact ⟨.obj i, li, Option.some.inj hi⟩
  · obtain ⟨s, _, m⟩ := List.mem_flatMap.mp m
    obtain ⟨k, hk⟩ := List.mem_iff_getElem?.mp m
    have lk := (List.getElem?_eq_some_iff.mp hk).1
    rw [r.row s k lk] at hk
    exact ⟨.pool s k, trivial, Option.some.inj hk⟩
theorem org_known {w : Wd} {l : LW} {c : Nat} (r : Rep w l c) (z : Row60 w l) (sz : Sz w) {e : Pl} (he : End w.objs.length e) (h : (∃ i, org w e = .obj i) ∨ ∃ s k, org w e = .pool s k ∧ s ∈ rows8 ∧ k < 60) : org w e ∈ known w l := by
  unfold known
  rw [List.mem_append]
  cases e with
  | obj i =>
    have he : i < w.objs.length := he
    exact .inl (List.mem_of_getElem? (heads_get he))
  | pool s k =>
    have h : (∃ i, w.pool s k = .obj i) ∨ ∃ u j, w.pool s k = .pool u j ∧ u ∈ rows8 ∧ j < 60 := h
    refine .inr (List.mem_flatMap.mpr ⟨s, ?_, ?_⟩)
    · rcases h with ⟨i, h⟩ | ⟨u, j, h, m, _⟩
      · refine Classical.byContradiction fun ns => ?_
        have : ¬ okS s := fun o => ns (by
          rcases o with rfl | rfl | rfl <;> decide)
        rw [sz.still s this k] at h
        cases h
      · rw [← sz.pool s k u j h]
        exact m
    · by_cases c : k < (l.pool s).length
      · have := r.row s k c
        exact List.mem_of_getElem? this
      · have := z s k (by omega)
        rw [this] at h
        rcases h with ⟨i, h⟩ | ⟨u, j, h, _, hj⟩
        · cases h
        · cases h
          omega
/-- the places that the law looks for -/
def begun (N : Nat) : List Pl := (List.range N).map Pl.obj ++ rows8.flatMap fun s => (List.range 60).map (Pl.pool s)
theorem begun_mem {N : Nat} {p : Pl} : p ∈ begun N ↔ (∃ i, i < N ∧ p = .obj i) ∨ ∃ s k, s ∈ rows8 ∧ k < 60 ∧ p = .pool s k := by
  unfold begun
  rw [List.mem_append, List.mem_map, List.mem_flatMap]
  constructor
  · rintro (⟨i, hi, e⟩ | ⟨s, hs, m⟩)
    · exact .inl ⟨i, List.mem_range.mp hi, e.symm⟩
    · obtain ⟨k, hk, e⟩ := List.mem_map.mp m
      exact .inr ⟨s, k, hs, List.mem_range.mp hk, e.symm⟩
  · rintro (⟨i, hi, e⟩ | ⟨s, k, hs, hk, e⟩)
    · exact .inl ⟨i, List.mem_range.mpr hi, e.symm⟩
    · exact .inr ⟨s, hs, List.mem_map.mpr ⟨k, List.mem_range.mpr hk, e.symm⟩⟩
theorem begun_end {N : Nat} {p : Pl} (h : p ∈ begun N) : End N p := by
  rcases begun_mem.mp h with ⟨i, hi, rfl⟩ | ⟨s, k, _, _, rfl⟩
  · exact hi
  · exact trivial
theorem covers_known {w : Wd} {l : LW} {c N : Nat} (r : Rep w l c) (z : Row60 w l) (sz : Sz w) : Covers w N ↔ ∀ p ∈ begun N, p ∈ known w l := by
  constructor
  · intro cv p m
    obtain ⟨e, he, ho⟩ := cv p (begun_end m)
    rw [← ho]
    refine org_known r z sz he ?_
    rw [ho]
    rcases begun_mem.mp m with ⟨i, hi, rfl⟩ | ⟨s, k, hs, hk, rfl⟩
    · exact .inl ⟨i, rfl⟩
    · exact .inr ⟨s, k, rfl, hs, hk⟩
  · intro h p hp
    cases p with
    | obj i => exact known_org r (h _ (begun_mem.mpr (.inl ⟨i, hp, rfl⟩)))
    | pool s k =>
      by_cases o : okS s
      · by_cases c : k < 60
        · exact known_org r (h _ (begun_mem.mpr (.inr ⟨s, k, by rcases o with rfl | rfl | rfl <;> decide, c, rfl⟩)))
        · refine ⟨.pool s ((l.pool s).length + (k - 60)), trivial, ?_⟩
          show w.pool s _ = _
          rw [z s _ (by omega)]
          congr 1
          omega
      · exact ⟨.pool s k, trivial, sz.still s o k⟩
theorem top_known {w : Wd} {l : LW} {c N : Nat} (r : Rep w l c) (z : Row60 w l) (sz : Sz w) (h : ∀ m, N ≤ m ↔ ∀ i ∈ objI (known w l), i < m) : Top w N := fun m => by
  rw [h m]
  constructor
  · intro k e i he ho
    exact k i (objI_mem.mpr (by rw [← ho]; exact org_known r z sz he (.inl ⟨i, ho⟩)))
  · intro k i mi
    obtain ⟨e, he, ho⟩ := known_org r (objI_mem.mp mi)
    exact k e i he ho
end V1

set_option Elab.async false
set_option linter.all false
set_option maxRecDepth 100000
set_option maxHeartbeats 4000000
namespace K1
open PySem L2 W1
/-! ### shift_of, is_inner, chain_from, is_cycle: for the powers of moves -/
def innerD (hs : List Pl) (fr : Nat → List Pl) : Pl → Bool
  | .obj i => decide (i < hs.length)
  | .pool s k => decide (k < (fr s).length)
section
variable {P : Program} {w : World} {K : PySem.W.Frag} {mg : Str → Option Value} {base : Heap} {CP CM C : Addr}
def spSo' (CP : Addr) : Sp := fun vs H Q _ => ∃ (p : Addr) (s n : Nat) (hs : List Pl) (zs : List Nat) (fr : Nat → List Pl) (f : Nat → Nat), vs = [.ref p, nV s] ∧ PlanRd CP H p n hs zs fr f ∧ ∀ H', Same H H' → Q (.int ((f s : Int) - (fr s).length)) H'
theorem sc_shift_of : FnScope ["plan", "size", "front", "fresh"] ["plan", "size"] (defScope (top 28)) := ⟨rfl, rfl, rfl, by decide +kernel, rfl, by decide +kernel, by decide +kernel⟩
theorem ok_shift_of {f : Addr} {fd : FuncData} (F : Fun K "shift_of" "shift_of" (top 28) f fd) (B : Bl3 mg) (CFo : Cal P w K mg base CX0 1 "front_of" ["plan", "size"] (spFoR CP)) : FnOk P w K mg base CX0 2 f fd ["plan", "size"] (spSo' CP) := by
  refine F.ok sc_shift_of (fun vs H Q E h => ?_) (fun cdv A outer s H vs Q E hr h => ?_)
  · obtain ⟨p, s, n, hs, zs, fr, f, rfl, _⟩ := h
    rfl
  · obtain ⟨p, s, n, hs, zs, fr, f, rfl, pa, k⟩ := h
    refine ⟨_, (pss_cons (ps_asg (pe_cal CFo hr (by omega) pass0 (pa_cons (pv 0) (pa_cons (pv 1) pa_nil))) (pg_tup rfl (pgs_cons (pg_name (i := 2) sc_shift_of.nd rfl (Or.inl rfl)) (pgs_cons (pg_name (i := 3) sc_shift_of.nd rfl (Or.inl rfl)) pgs_nil))))
      (pss_one (ps_ret (pe_op op_sub (pv 3) (pe_callB call_len_seq rfl B.len PySem.boot_len (pa_cons (pv 2) pa_nil)))))), ?_⟩
    refine seq_rd (asgT (call_rd (va_cons (ve_var (v := .ref p) rfl) (va_cons (ve_var (v := nV s) rfl) va_nil)) ⟨p, s, n, hs, zs, fr, f, rfl, pa, fun t q xs H1 s1 t1 t2 t3 => pair2_rd t1 ?_⟩))
    refine next_rd ?_
    dsimp only
    refine ret_of ((ve_sub (i := (f s : Nat)) (j := (xs.length : Nat)) (ve_var rfl) (ve_lenT (ve_var (v := .ref q) rfl) t2)) H1 (Same.refl _) _ ?_)
    rw [t3.1]
    exact k H1 s1
end

end K1

set_option Elab.async false
set_option linter.all false
set_option maxRecDepth 100000
set_option maxHeartbeats 4000000
namespace K1
open PySem L2 W1
/-! ### the methods goal, origin, inverse -/
section
variable {P : Program} {w : World} {K : PySem.W.Frag} {mg : Str → Option Value} {base : Heap} {CP CM C : Addr}
theorem MvW.congr {H : Hp} {v : V} {b : Nat} {w1 w2 : V1.Wd} (h : MvW CM CP H v b w1) (len : w2.objs.length = w1.objs.length) (e : ∀ p, V1.End w1.objs.length p → V1.org w2 p = V1.org w1 p) : MvW CM CP H v b w2 := by
  obtain ⟨hs, zs, fr, f, m, c1, c2, b1, b2⟩ := h.ex
  refine ⟨hs, zs, fr, f, by rw [len]; exact m, by rw [len]; exact c1.congr fun i hi => (e (.obj i) hi).symm, fun s => ?_, b1, b2⟩
  have : w2.pool s = w1.pool s := by
    funext k
    exact e (.pool s k) trivial
  rw [this]
  exact c2 s
theorem MvW.parts {H : Hp} {v : V} {b n0 : Nat} {ww : V1.Wd} (h : MvW CM CP H v b ww) (o : V1.Ok n0 ww) : ∃ (p dx q : Addr) (hs : List Pl) (zs : List Nat) (fr : Nat → List Pl) (f : Nat → Nat), v = .ref p ∧ H p = some (.ins CM dx (mvF q)) ∧ PlanAt CP H q ww.objs.length hs zs fr f ∧ V1.Parts n0 ww hs zs fr f ∧ hs.length ≤ b ∧ ∀ s, (fr s).length ≤ b := by
  obtain ⟨hs, zs, fr, f, ⟨p, dx, q, e, hp, pa⟩, c1, c2, b1, b2⟩ := h.ex
  exact ⟨p, dx, q, hs, zs, fr, f, e, hp, pa, ⟨⟨o, c1, c2⟩, pa.ok.off⟩, b1, b2⟩
def spMg (CM CP : Addr) : Sp := fun vs H Q _ => ∃ (v u : V) (b n0 : Nat) (ww : V1.Wd) (pl : Pl), vs = [v, u] ∧ MvW CM CP H v b ww ∧ V1.Ok n0 ww ∧ PlAt H u pl ∧ Okp pl ∧
  (∀ e v' H', Same H H' → V1.End ww.objs.length e → V1.org ww e = pl → PlAt H' v' e → Q v' H') ∧ ((∀ e, V1.End ww.objs.length e → V1.org ww e ≠ pl) → ∀ H', Same H H' → Q .non H')
theorem sc_Move_goal : FnScope ["self", "place"] ["self", "place"] (defScope (inClass (top 47) 4)) := ⟨rfl, rfl, rfl, by decide +kernel, rfl, by decide +kernel, by decide +kernel⟩
theorem ok_mgoal {f : Addr} {fd : FuncData} (F : Fun K "goal" "Move.goal" (inClass (top 47) 4) f fd) (T : NoMv K CM) (CPl : Cal P w K mg base CX0 4 "is_place" ["value"] spPl) (CGo : Cal P w K mg base CX0 2 "goal_of" ["plan", "place"] (spGo CP)) : FnOk P w K mg base CX0 5 f fd ["self", "place"] (spMg CM CP) := by
  refine F.ok sc_Move_goal (fun vs H Q E h => ?_) (fun cdv A outer s H vs Q E hr h => ?_)
  · obtain ⟨v, u, b, n0, ww, pl, rfl, _⟩ := h
    rfl
  · obtain ⟨v, u, b, n0, ww, pl, rfl, mv, ok, hu, op, k, kn⟩ := h
    refine ⟨_, (pss_cons (ps_if (pt_not (pt_val (pe_cal CPl hr (by omega) pass0 (pa_cons (pv 1) pa_nil)))) (pss_one ps_dead) pss_nil)
      (pss_one (ps_ret (pe_cal CGo hr (by omega) pass0 (pa_cons (pe_fld (pv 0) rfl) (pa_cons (pv 1) pa_nil)))))), ?_⟩
    obtain ⟨p, dx, q, hs, zs, fr, f, rfl, hp, pa, pt, b1, b2⟩ := mv.parts ok
    refine seq_rd (if_be (be_not (b := true) (be_bv (bv_call (va_cons (ve_var (v := u) rfl) va_nil) fun H2 s2 Q' kk => ⟨u, pl, rfl, hu.mono s2, op, kk⟩))) fun H1 s1 => ⟨fun z => absurd z (by decide), fun _ => ?_⟩)
    refine next_rd ?_
    dsimp only
    refine ret_of (call_rd (va_cons (ve_fld (ve_var (v := .ref p) rfl) (s1 _ _ hp) T.cl T.n1 (mvF_1 q)) (va_cons (ve_var (v := u) rfl) va_nil)) ⟨q, u, pl, _, hs, zs, fr, f, rfl, (pa.mono s1).read, hu.mono s1, fun v' H2 s2 g => ?_⟩)
    cases e : V1.goalD ww.objs.length hs zs fr f pl with
    | some e1 =>
      rw [e] at g
      obtain ⟨h1, h2⟩ := pt.goal.mp e
      exact k e1 v' H2 (s1.trans s2) h1 h2 g
    | none =>
      rw [e] at g
      have g : v' = .non := g
      subst g
      refine kn (fun e1 h1 h2 => ?_) H2 (s1.trans s2)
      rw [pt.goal.mpr ⟨h1, h2⟩] at e
      cases e
def spMo (CM CP : Addr) : Sp := fun vs H Q _ => ∃ (v u : V) (b n0 : Nat) (ww : V1.Wd) (pl : Pl), vs = [v, u] ∧ MvW CM CP H v b ww ∧ V1.Ok n0 ww ∧ PlAt H u pl ∧ Okp pl ∧ V1.End ww.objs.length pl ∧ ∀ v' H', Same H H' → PlAt H' v' (V1.org ww pl) → Q v' H'
theorem sc_Move_origin : FnScope ["self", "place"] ["self", "place"] (defScope (inClass (top 47) 3)) := ⟨rfl, rfl, rfl, by decide +kernel, rfl, by decide +kernel, by decide +kernel⟩
theorem ok_morigin {f : Addr} {fd : FuncData} (F : Fun K "origin" "Move.origin" (inClass (top 47) 3) f fd) (T : NoMv K CM) (CPl : Cal P w K mg base CX0 4 "is_place" ["value"] spPl) (CIe : Cal P w K mg base CX0 1 "is_end" ["plan", "place"] (spIe CP)) (COo : Cal P w K mg base CX0 2 "origin_of" ["plan", "place"] (spOo CP)) : FnOk P w K mg base CX0 5 f fd ["self", "place"] (spMo CM CP) := by
  refine F.ok sc_Move_origin (fun vs H Q E h => ?_) (fun cdv A outer s H vs Q E hr h => ?_)
  · obtain ⟨v, u, b, n0, ww, pl, rfl, _⟩ := h
    rfl
  · obtain ⟨v, u, b, n0, ww, pl, rfl, mv, ok, hu, op, he, k⟩ := h
    refine ⟨_, (pss_cons (ps_if (PW.pt (pw_or (pt_not (pt_val (pe_cal CPl hr (by omega) pass0 (pa_cons (pv 1) pa_nil)))) (pw_or1 (pt_not (pt_val (pe_cal CIe hr (by omega) pass0 (pa_cons (pe_fld (pv 0) rfl) (pa_cons (pv 1) pa_nil)))))))) (pss_one ps_dead) pss_nil)
      (pss_one (ps_ret (pe_cal COo hr (by omega) pass0 (pa_cons (pe_fld (pv 0) rfl) (pa_cons (pv 1) pa_nil)))))), ?_⟩
    obtain ⟨p, dx, q, hs, zs, fr, f, rfl, hp, pa, pt, b1, b2⟩ := mv.parts ok
    have eb : endB ww.objs.length pl = true := by
      cases pl with
      | obj i => exact decide_eq_true he
      | pool s k => rfl
    have c1 : BE (tNot (tB (tCall spPl [] E0 (tCons (tVar 1) tNil)))) (!true) [some (.ref p), some u] H := be_not (b := true) (be_bv (bv_call (va_cons (ve_var (v := u) rfl) va_nil) fun H2 s2 Q' kk => ⟨u, pl, rfl, hu.mono s2, op, kk⟩))
    have c2 : BE (tNot (tB (tCall (spIe CP) [] E0 (tCons (tFld K (tVar 0) "_plan") (tCons (tVar 1) tNil))))) (!true) [some (.ref p), some u] H := be_not (b := true) (be_bv (bv_call (va_cons (ve_fld (ve_var (v := .ref p) rfl) hp T.cl T.n1 (mvF_1 q)) (va_cons (ve_var (v := u) rfl) va_nil)) fun H2 s2 Q' kk => ⟨q, u, pl, _, hs, zs, fr, f, rfl, pa.mono s2, hu.mono s2, by rw [eb]; exact kk⟩))
    refine seq_rd (if_be (be_or c1 fun _ => c2) fun H1 s1 => ⟨fun z => absurd z (by decide), fun _ => ?_⟩)
    refine next_rd ?_
    dsimp only
    refine ret_of (call_rd (va_cons (ve_fld (ve_var (v := .ref p) rfl) (s1 _ _ hp) T.cl T.n1 (mvF_1 q)) (va_cons (ve_var (v := u) rfl) va_nil)) ⟨q, u, pl, _, hs, zs, fr, f, rfl, pa.mono s1, hu.mono s1, fun v' H2 s2 g => k v' H2 (s1.trans s2) ?_⟩)
    have e : V1.orgD hs fr f pl = V1.org ww pl := by
      cases pl with
      | obj i => exact V1.orgD_obj pt.told.heads he
      | pool s k => exact V1.orgD_pool (pt.told.front s)
    rw [← e]
    exact g
theorem all_len {hs : List Pl} {zs : List Nat} {fr : Nat → List Pl} {f : Nat → Nat} {b : Nat} (o : PlanOk hs zs fr f) (b1 : hs.length ≤ b) (b2 : ∀ s, (fr s).length ≤ b) : (V1.allO hs zs fr).length ≤ 9 * b := by
  unfold V1.allO
  rw [List.length_append]
  have h1 := frs_len (zs := zs) b2
  have h2 := o.lz
  have h3 : (frs zs fr).length ≤ 8 * b := Nat.le_trans h1 (Nat.mul_le_mul_right _ h2)
  have h4 : (zs.flatMap fr).length ≤ 8 * b := h3
  omega
end

end K1

set_option Elab.async false
set_option linter.all false
set_option maxRecDepth 100000
set_option maxHeartbeats 4000000
namespace K1
open PySem L2 W1
/-! ### Move.shift -/
section
variable {P : Program} {w : World} {K : PySem.W.Frag} {mg : Str → Option Value} {base : Heap} {CP CM C : Addr}
def spMs (CM CP : Addr) : Sp := fun vs H Q _ => ∃ (v : V) (s n : Nat) (hs : List Pl) (zs : List Nat) (fr : Nat → List Pl) (f : Nat → Nat), vs = [v, nV s] ∧ MvAt CM CP H v n hs zs fr f ∧ 1 ≤ s ∧ s ≤ 8 ∧ ∀ H', Same H H' → Q (.int ((f s : Int) - (fr s).length)) H'
theorem sc_Move_shift : FnScope ["self", "size"] ["self", "size"] (defScope (inClass (top 47) 5)) := ⟨rfl, rfl, rfl, by decide +kernel, rfl, by decide +kernel, by decide +kernel⟩
theorem ok_mshift {f : Addr} {fd : FuncData} (F : Fun K "shift" "Move.shift" (inClass (top 47) 5) f fd) (T : NoMv K CM) (CIs : Cal P w K mg base CX0 3 "is_size" ["value"] spIs) (CSo : Cal P w K mg base CX0 2 "shift_of" ["plan", "size"] (spSo' CP)) : FnOk P w K mg base CX0 5 f fd ["self", "size"] (spMs CM CP) := by
  refine F.ok sc_Move_shift (fun vs H Q E h => ?_) (fun cdv A outer s H vs Q E hr h => ?_)
  · obtain ⟨v, s, n, hs, zs, fr, f, rfl, _⟩ := h
    rfl
  · obtain ⟨v, s, n, hs, zs, fr, f, rfl, mv, c1, c2, k⟩ := h
    refine ⟨_, (pss_cons (ps_if (pt_not (pt_val (pe_cal CIs hr (by omega) pass0 (pa_cons (pv 1) pa_nil)))) (pss_one ps_dead) pss_nil)
      (pss_one (ps_ret (pe_cal CSo hr (by omega) pass0 (pa_cons (pe_fld (pv 0) rfl) (pa_cons (pv 1) pa_nil)))))), ?_⟩
    obtain ⟨p, dx, q, rfl, hp, pa⟩ := mv.ex
    refine seq_rd (if_be (be_not (b := true) (be_bv (bv_call (va_cons (ve_var (v := nV s) rfl) va_nil) fun H2 s2 Q' kk => ⟨(s : Int), rfl, by omega, by omega, kk H2 (Same.refl _)⟩))) fun H1 s1 => ⟨fun z => absurd z (by decide), fun _ => ?_⟩)
    refine next_rd ?_
    dsimp only
    refine ret_of (call_rd (va_cons (ve_fld (ve_var (v := .ref p) rfl) (s1 _ _ hp) T.cl T.n1 (mvF_1 q)) (va_cons (ve_var (v := nV s) rfl) va_nil)) ⟨q, s, n, hs, zs, fr, f, rfl, (pa.mono s1).read, fun H2 s2 => k H2 (s1.trans s2)⟩)
end

end K1

set_option Elab.async false
set_option linter.all false
set_option maxRecDepth 100000
set_option maxHeartbeats 4000000
namespace L2
open PySem PySem.Spec PyProof.Rows
section
variable {X : Cx}
/-- an expression that gives a dict, which is locked from there on -/
def tFrz (td : TE) : TE := fun σ H Q => td σ H fun v H1 => ∃ d kvs, v = .ref d ∧ H1 d = some (.dK kvs) ∧ ∀ od, Q (.ref d) (upd H1 d (.frz od (.dK kvs)))
theorem pe_frz {e : Expr} {td : TE} (h : PE X e td) : PE X e (tFrz td) := by
  refine ⟨fun pins s σ H Q I hw => thn (h.run pins s σ H _ I hw) fun u s1 z => ?_⟩
  obtain ⟨v, H1, I1, r, d, kvs, rfl, hd, q⟩ := z
  obtain ⟨od, I2⟩ := I1.lock hd True.intro
  exact ⟨.ref d, _, I2, r, q od⟩
end
/-- a dict comprehension over a walk, the keys ints or texts -/
theorem dc_it {J : It} {n : Nat} {G : Hp → Prop} {Y : Nat → Hp → V → Hp → Prop} (walk : Walk J n G Y) {g : TG} {tt : TT} {tk tv : TE} {vs : List Nat} {σ : St} {H1 : Hp} {D : Addr} {Qd : Hp → Prop} (Pv : Nat → Hp → Prop) (begin_ : Pv 0 (upd H1 D (.dK []))) (keep : ∀ i H, i ≤ n → Pv i H → G H)
    (turn : ∀ i x H H', i < n → Pv i H → Y i H x H' → g x (wipe σ vs) H' fun σ2 H2 => wipe σ2 vs = wipe σ vs ∧ tt σ2 H2 fun b H3 =>
      if b = true then tk σ2 H3 fun y H4 => tv σ2 H4 fun z H5 => ∃ kvs k, y = kV k ∧ H5 D = some (.dK kvs) ∧ kvs.length < sizeLine ∧ Pv (i + 1) (upd H5 D (.dK (putK kvs k z))) else Pv (i + 1) H3) (stop : ∀ H, Pv n H → Qd H) :
    ∃ W : Nat → Nat → Hp → Prop, (∃ m, W 0 m (upd H1 D (.dK []))) ∧ ∀ i m H, W i m H →
      (J.stop i H ∧ Qd H) ∨ (J.go i H ∧ ∃ Nx : Hp → Prop, (∀ H', Nx H' → ∃ m', m' < m ∧ W (i + 1) m' H') ∧ ∀ x H', J.yld i H x H' → g x (wipe σ vs) H' fun σ2 H2 => wipe σ2 vs = wipe σ vs ∧ tt σ2 H2 fun b H3 =>
        if b = true then tk σ2 H3 fun y H4 => tv σ2 H4 fun z H5 => ∃ kvs k, y = kV k ∧ H5 D = some (.dK kvs) ∧ kvs.length < sizeLine ∧ Nx (upd H5 D (.dK (putK kvs k z))) else Nx H3) := by
  refine ⟨fun i m H => i + m = n ∧ Pv i H, ⟨n, Nat.zero_add n, begin_⟩, fun i m H z => ?_⟩
  obtain ⟨im, p⟩ := z
  have hG := keep i H (by omega) p
  by_cases c : m = 0
  · obtain rfl : i = n := by omega
    exact .inl ⟨walk.stops H hG, stop H p⟩
  · have lt : i < n := by omega
    exact .inr ⟨walk.goes i H lt hG, Pv (i + 1), fun H' p' => ⟨m - 1, by omega, by omega, p'⟩, fun x H' y => turn i x H H' lt p (walk.yields i H x H' lt hG y)⟩
end L2

set_option Elab.async false
set_option linter.all false
set_option maxRecDepth 100000
set_option maxHeartbeats 4000000
namespace K1
open PySem L2 W1
/-! ### what a move shows -/
theorem hr64 {k : Nat} {A : Around} (r : Room k A) : A.units + 64 < cLine := by have := r.un; omega
/-- the places that objects() tells -/
def objsD (n : Nat) (hs : List Pl) : List Pl := hs ++ (List.range (n - hs.length)).map fun j => V1.Pl.obj (hs.length + j)
theorem objsD_eq {ww : V1.Wd} {hs : List Pl} (c : V1.CanH ww.objs.length (V1.gObj ww) hs) : objsD ww.objs.length hs = V1.headsOf ww := by
  apply List.ext_getElem?
  intro i
  unfold objsD
  have le := c.le
  by_cases h1 : i < hs.length
  · rw [List.getElem?_append_left h1, c.at_ i h1, V1.heads_get (by omega)]
  · rw [List.getElem?_append_right (by omega), List.getElem?_map]
    by_cases h2 : i < ww.objs.length
    · rw [List.getElem?_range (by omega), V1.heads_get h2]
      show some (V1.Pl.obj (hs.length + (i - hs.length))) = some (V1.gObj ww i)
      rw [c.rest i (by omega) h2]
      congr 2
      omega
    · rw [List.getElem?_eq_none (by rw [List.length_range]; omega), List.getElem?_eq_none (by rw [V1.heads_len]; omega)]
      rfl
section
variable {P : Program} {w : World} {K : PySem.W.Frag} {mg : Str → Option Value} {base : Heap} {CP CM C : Addr}
def spObP (CP : Addr) : Sp := fun vs H Q _ => ∃ (p : Addr) (n : Nat) (hs : List Pl) (zs : List Nat) (fr : Nat → List Pl) (f : Nat → Nat), vs = [.ref p] ∧ PlanAt CP H p n hs zs fr f ∧ n ≤ 10000 ∧ hs.length ≤ n ∧ ∀ q xs H', Same H H' → H q = none → H' q = some (.lst xs) → Ps H' xs (objsD n hs) → Q (.ref q) H'
theorem ok_objectsP {f : Addr} {fd : FuncData} (F : Fun K "objects_of" "objects_of" (top 25) f fd) (B : Bl3 mg) (T : NoPl K CP) : FnOk P w K mg base CX0 1 f fd ["plan"] (spObP CP) := by
  refine F.ok sc_objects_of (fun vs H Q E h => ?_) (fun cdv A outer s H vs Q E hr h => ?_)
  · obtain ⟨p, n, hs, zs, fr, f, rfl, _⟩ := h
    rfl
  · obtain ⟨p, n, hs, zs, fr, f, rfl, pa, n1, lh, k⟩ := h
    refine ⟨_, (pss_cons (ps_set (i := 1) sc_objects_of.nd rfl (Or.inl rfl) (pe_callTy (r := rLof K) call_list_of rfl B.list PyProof.Rows.boot_list (pa_cons (pe_fld (pv 0) rfl) pa_nil)))
      (pss_cons (ps_expr (pe_bm PySem.F.plainAttrs_list PySem.F.slot_list_extend PySem.F.type_list_extend mt_extendA (pv 1) (pa_cons (pe_lc (own := [("index", 2)]) (g := gName 2) (te := tTup (tCons (tC (.str "object")) (tCons (tVar 2) tNil))) (tt := tYes) rfl sc_objects_of.nd (pi_range2 rfl B.range (pa_cons (pe_callB call_len_seq rfl B.len PySem.boot_len (pa_cons (pe_fld (pv 0) rfl) pa_nil)) (pa_cons (pe_fld (pv 0) rfl) pa_nil))) (blkOk_by (N := ["plan", "places", "index"]) (sc := defScope (top 25)) (by decide +kernel)) (fun _ _ _ _ _ => pg_name (i := 2) sc_objects_of.nd rfl (Or.inl rfl)) (fun _ _ _ _ _ => pts_nil) (fun _ _ _ _ _ => pe_tup (pa_cons pe_str (pa_cons (pv 2) pa_nil)))) pa_nil)))
      (pss_one (ps_ret (pv 1))))), ?_⟩
    obtain ⟨⟨dx, th, df, dg, hv, h1, h2, h3, h4⟩, o, _⟩ := id pa
    have hl : hv.length = hs.length := h3.1
    have vp : ∀ {H5 : Hp} {x y : Option V}, VE (tVar 0) (.ref p) [some (.ref p), x, y] H5 := ve_var rfl
    refine seq_rd (asg_of (cb_rd (va_cons (ve_fld vp h1 T.cl T.n1 (plF_1 _ _ _ _)) va_nil) ⟨th, hv, rfl, .inr (SqT.of h2), fun q nq => ?_⟩))
    have s1 := same_new (o := .lst hv) (Same.refl H) nq
    have hq : (upd H q (.lst hv)) q = some (.lst hv) := upd_same
    generalize upd H q (.lst hv) = H1 at s1 hq ⊢
    refine next_rd ?_
    dsimp only
    refine seq_rd ⟨.ref q, rfl, .inl ⟨rfl, _, SqL.of hq⟩, cons_rd ?_⟩
    refine lcR2 (lo := (hv.length : Nat)) (hi := (n : Nat)) (va_cons (VE.to (i := (hv.length : Nat)) (ve_lenT (ve_fld vp (s1 _ _ h1) T.cl T.n1 (plF_1 _ _ _ _)) (s1 _ _ h2)) rfl) (va_cons (ve_fld vp (s1 _ _ h1) T.cl T.n2 (plF_2 _ _ _ _)) va_nil)) ⟨by omega, by omega, by omega, by omega⟩
      (fun D j H2 => Same H1 H2 ∧ ∃ xs, H2 D = some (.lst xs) ∧ Ps H2 xs ((List.range j).map fun i => V1.Pl.obj (hs.length + i))) (fun D nD => ⟨same_new (Same.refl _) nD, [], upd_same, Ps.nil⟩) (fun D j H2 nD hj z => ?_) (fun D H2 nD z => ?_)
    · obtain ⟨s2, xs, hD, px⟩ := z
      have lx := px.1
      rw [List.length_map, List.length_range] at lx
      refine ⟨rfl, ?_⟩
      unfold tYes
      dsimp only
      rw [if_pos rfl]
      have e0 : V.int (((hv.length : Nat) : Int) + j) = nV (hs.length + j) := by
        show V.int _ = V.int _
        congr 1
        omega
      rw [e0]
      refine ttup_rd (tcons_rd (tc_rd (cons_rd (tvar_rd (v := nV (hs.length + j)) rfl ⟨by show 2 ≤ sizeLine; decide, fun U nU => ?_⟩))))
      have s3 := same_new (o := .tup [.str "object", nV (hs.length + j)]) (Same.refl H2) nU
      have hU : (upd H2 U (.tup [.str "object", nV (hs.length + j)])) U = some (.tup (plV (.obj (hs.length + j)))) := upd_same
      generalize upd H2 U (.tup [.str "object", nV (hs.length + j)]) = H3 at s3 hU ⊢
      refine ⟨xs, s3 _ _ hD, by rw [sizeLine_eq]; omega, same_updL (s2.trans s3) nD, xs ++ [.ref U], upd_same, ?_⟩
      rw [List.range_succ, List.map_append]
      have p5 := (px.mono s3).app (Ps.one (H := H3) (v := .ref U) (p := V1.Pl.obj (hs.length + j)) ⟨U, rfl, hU⟩)
      exact ⟨p5.1, fun a pp e => by
        obtain ⟨v, z1, z2⟩ := p5.2 a pp e
        exact ⟨v, z1, upd_tup (s3 _ _ hD) z2⟩⟩
    · obtain ⟨s2, xs, hD, px⟩ := z
      have lx := px.1
      rw [List.length_map, List.length_range] at lx
      have hq2 := s2 _ _ hq
      have ej : (((n : Nat) : Int) - ((hv.length : Nat) : Int)).toNat = n - hs.length := by omega
      rw [ej] at px lx
      refine ⟨q, D, hv, xs, rfl, rfl, hq2, .inl hD, by rw [sizeLine_eq]; omega, ?_⟩
      refine next_rd (ret_of (tvar_rd (v := .ref q) rfl ?_))
      refine k q (hv ++ xs) _ (same_updL (s1.trans s2) nq) nq upd_same ?_
      have p5 := (h3.mono (s1.trans s2)).app px
      exact ⟨p5.1, fun a pp e => by
        obtain ⟨v, z1, z2⟩ := p5.2 a pp e
        exact ⟨v, z1, upd_tup hq2 z2⟩⟩
def spPs (CP : Addr) : Sp := fun vs H Q _ => ∃ (p : Addr) (n : Nat) (hs : List Pl) (zs : List Nat) (fr : Nat → List Pl) (f : Nat → Nat), vs = [.ref p] ∧ PlanAt CP H p n hs zs fr f ∧ ∀ q H', Same H H' → H q = none → FrN H H' q zs fr f → Q (.ref q) H'
theorem sc_pools_of : FnScope ["plan", "size"] ["plan"] (defScope (top 26)) := ⟨rfl, rfl, rfl, by decide +kernel, rfl, by decide +kernel, by decide +kernel⟩
theorem ok_pools_of {f : Addr} {fd : FuncData} (F : Fun K "pools_of" "pools_of" (top 26) f fd) (B : Bl3 mg) (T : NoPl K CP) : FnOk P w K mg base CX0 1 f fd ["plan"] (spPs CP) := by
  refine F.ok sc_pools_of (fun vs H Q E h => ?_) (fun cdv A outer s H vs Q E hr h => ?_)
  · obtain ⟨p, n, hs, zs, fr, f, rfl, _⟩ := h
    rfl
  · obtain ⟨p, n, hs, zs, fr, f, rfl, pa, k⟩ := h
    refine ⟨_, (pss_one (ps_ret (pe_dc (own := [("size", 1)]) (g := gName 1) (tt := tYes) (tk := tVar 1) (tv := tTup (tCons (tCB (rLof K) (tCons (tOp (rIxT K) (tDGet (tFld K (tVar 0) "fronts") (tVar 1)) (tC (.int 0))) tNil)) (tCons (tOp (rIxT K) (tDGet (tFld K (tVar 0) "fronts") (tVar 1)) (tC (.int 1))) tNil))) rfl sc_pools_of.nd (pi_list (pe_callB (call_sortedDI rfl) rfl B.sorted (by decide +kernel) (pa_cons (pe_fld (pv 0) rfl) pa_nil))) (blkOk_by (N := ["plan", "size"]) (sc := defScope (top 26)) (by decide +kernel)) (fun _ _ _ _ _ => pg_name (i := 1) sc_pools_of.nd rfl (Or.inl rfl)) (fun _ _ _ _ _ => pts_nil) (fun _ _ _ _ _ => pv 1) (fun _ _ _ _ _ => pe_tup (pa_cons (pe_callTy (r := rLof K) call_list_of rfl B.list PyProof.Rows.boot_list (pa_cons (pe_ix ix_tup (pe_dget (hr1 hr) (pe_fld (pv 0) rfl) (pv 1) (fun _ _ => rfl)) pe_int (fun _ _ => rfl)) pa_nil)) (pa_cons (pe_ix ix_tup (pe_dget (hr1 hr) (pe_fld (pv 0) rfl) (pv 1) (fun _ _ => rfl)) pe_int (fun _ _ => rfl)) pa_nil)))))), ?_⟩
    obtain ⟨⟨dx, th, df, dg, hv, h1, h2, h3, ⟨t, h4, h5⟩⟩, o, cn, _⟩ := id pa
    have vp : ∀ {H5 : Hp} {x : Option V}, Same H H5 → VE (tFld K (tVar 0) "fronts") (.ref df) [some (.ref p), x] H5 := fun s5 => ve_fld (ve_var (v := .ref p) rfl) (s5 _ _ h1) T.cl T.n3 (plF_3 _ _ _ _)
    refine ret_of ?_
    unfold tDc
    refine cb_rd (va_cons (vp (Same.refl _)) va_nil) ⟨df, _, zs.map (fun (s : Nat) => (s : Int)), rfl, .inl h4, (by rw [kvz_keys, List.map_map]; rfl), (by rw [List.length_map]; have := o.lz; omega), fun ns q perm rising nq => ?_⟩
    obtain ⟨ys, rfl, py, oy⟩ := sort_nat o.nz perm rising
    obtain rfl : ys = zs := sorted_same oy cn.1 fun s => py.mem_iff
    have s4 := same_new (o := .lst ((ys.map (fun (s : Nat) => (s : Int))).map V.int)) (Same.refl H) nq
    have hq : (upd H q (.lst ((ys.map (fun (s : Nat) => (s : Int))).map V.int))) q = some (.lst ((ys.map (fun (s : Nat) => (s : Int))).map V.int)) := upd_same
    generalize upd H q (.lst ((ys.map (fun (s : Nat) => (s : Int))).map V.int)) = H4 at s4 hq ⊢
    refine ⟨q, rfl, ⟨_, SqL.of hq⟩, fun D nD => ?_⟩
    have nD0 : H D = none := s4.free nD
    refine dc_it (walk_list (xs := (ys.map (fun (s : Nat) => (s : Int))).map V.int)) (fun i H5 => Same H4 H5 ∧ ∃ t', H5 D = some (.dK (kvz (ys.take i) t')) ∧ FrX H H5 (ys.take i) t' fr f) ⟨same_new (Same.refl _) nD, fun _ => 0, upd_same, fun s m => by cases m⟩ (fun i H5 _ z => SqL.of (z.1 _ _ hq)) ?_ ?_
    · rintro i x H5 H6 hi ⟨s5, t', hD, fx⟩ ⟨rfl, hx⟩
      rw [List.getElem?_map, List.getElem?_map] at hx
      cases hz : ys[i]? with
      | none => rw [hz] at hx; cases hx
      | some s =>
        rw [hz] at hx
        obtain rfl : x = nV s := (Option.some.inj hx).symm
        have m := List.mem_of_getElem? hz
        have s45 := s4.trans s5
        obtain ⟨q2, xs2, t1, t2, t3⟩ := (h5.mono s45).each s m
        have t2 : H6 q2 = some (.tup xs2) := t2
        refine gname_rd ⟨rfl, ?_⟩
        unfold tYes
        dsimp only
        rw [if_pos rfl]
        refine tvar_rd (v := nV s) rfl ?_
        have vg : ∀ {H7 : Hp}, Same H6 H7 → VE (tDGet (tFld K (tVar 0) "fronts") (tVar 1)) (.ref (t s)) [some (.ref p), some (nV s)] H7 := fun s7 => ve_dget (w := t) (vp (s45.trans s7)) (ve_var (v := nV s) rfl) (.inl (s7 _ _ (s45 _ _ h4))) m
        refine ttup_rd (tcons_rd (cb_rd (va_cons (ve_ixT (n := 0) (vg (Same.refl _)) t1 ve_c rfl) va_nil) ⟨q2, xs2, rfl, .inr (SqT.of t2), fun G nG => ?_⟩))
        have s6 := same_new (o := .lst xs2) (Same.refl H6) nG
        have hG : (upd H6 G (.lst xs2)) G = some (.lst xs2) := upd_same
        generalize upd H6 G (.lst xs2) = H7 at s6 hG ⊢
        refine cons_rd ((ve_ixT (n := 1) (vg s6) (s6 _ _ t1) ve_c rfl) H7 (Same.refl _) _ ⟨by show 2 ≤ sizeLine; decide, fun U nU => ?_⟩)
        have s8 := same_new (o := .tup [.ref G, nV (f s)]) (Same.refl H7) nU
        have hU : (upd H7 U (.tup [.ref G, nV (f s)])) U = some (.tup [.ref G, nV (f s)]) := upd_same
        generalize upd H7 U (.tup [.ref G, nV (f s)]) = H8 at s8 hU ⊢
        have ns : s ∉ ys.take i := nodup_at o.nz hz
        have s68 := s6.trans s8
        have hD8 := s68 _ _ hD
        have lz := o.lz
        refine ⟨_, Sum.inl ((s : Nat) : Int), rfl, hD8, by rw [kvz_len, List.length_take, sizeLine_eq]; omega, same_updL (s5.trans s68) nD, fun u => if u = s then U else t' u, by rw [upd_same, kvz_put ns, start_drop _ _ _ hz], ?_⟩
        rw [start_drop _ _ _ hz]
        have G0 : H G = none := s45.free nG
        have fx8 : FrX H H8 (ys.take i) t' fr f := fx.fm (S := fun _ => False) (Fm.of s68) fun b z => z.elim
        have fa := fx8.add (g := f s) (hh := fr s) (T := U) (q := G) (xs := xs2) ns hU G0 (s8 _ _ hG) (t3.mono s68)
        refine FrX.updD (ks := kvz (ys.take i) t') ?_ hD8
        intro u mu
        obtain ⟨q5, xs5, z1, z2, z3, z4⟩ := fa u mu
        refine ⟨q5, xs5, ?_, z2, z3, ?_⟩
        · by_cases c : u = s
          · subst c
            simpa using z1
          · simpa [c] using z1
        · by_cases c : u = s
          · subst c
            simpa using z4
          · simpa [c] using z4
    · rintro H5 ⟨s5, t', hD, fx⟩
      rw [List.length_map, List.length_map, List.take_length] at hD fx
      exact k D H5 (s4.trans s5) nD0 ⟨t', hD, fx⟩
def spMbP (CM CP : Addr) : Sp := fun vs H Q _ => ∃ (v : V) (b : Nat) (ww : V1.Wd), vs = [v] ∧ MvW CM CP H v b ww ∧ ww.objs.length ≤ 10000 ∧ ∀ q xs H', Same H H' → H q = none → H' q = some (.lst xs) → Ps H' xs (V1.headsOf ww) → Q (.ref q) H'
theorem ok_mobjects {f : Addr} {fd : FuncData} (F : Fun K "objects" "Move.objects" (inClass (top 47) 1) f fd) (T : NoMv K CM) (COb : Cal P w K mg base CX0 1 "objects_of" ["plan"] (spObP CP)) : FnOk P w K mg base CX0 2 f fd ["self"] (spMbP CM CP) := by
  refine F.ok sc_Move_objects (fun vs H Q E h => ?_) (fun cdv A outer s H vs Q E hr h => ?_)
  · obtain ⟨v, b, ww, rfl, _⟩ := h
    rfl
  · obtain ⟨v, b, ww, rfl, mv, n1, k⟩ := h
    refine ⟨_, (pss_one (ps_ret (pe_cal COb hr (by omega) pass0 (pa_cons (pe_fld (pv 0) rfl) pa_nil)))), ?_⟩
    obtain ⟨hs, zs, fr, f, ⟨p, dx, q, rfl, hp, pa⟩, c1, c2, b1, b2⟩ := mv.ex
    refine call_rd (va_cons (ve_pl T (ve_var (v := .ref p) rfl) hp) va_nil) ⟨q, _, hs, zs, fr, f, rfl, pa, n1, c1.le, fun q' xs H' s' n' h' p' => ?_⟩
    rw [objsD_eq c1] at p'
    exact k q' xs H' s' n' h' p'
def spMp (CM CP : Addr) : Sp := fun vs H Q _ => ∃ (v : V) (b : Nat) (ww : V1.Wd), vs = [v] ∧ MvW CM CP H v b ww ∧ ∀ q zs fr f H', Same H H' → H q = none → FrN H H' q zs fr f → (∀ s, V1.CanF s (ww.pool s) (fr s) (f s)) → zs.Pairwise (· < ·) → (∀ s, s ∈ zs ↔ ¬ (fr s = [] ∧ f s = 0)) → zs.length ≤ 8 → (∀ s, (fr s).length ≤ b) → Q (.ref q) H'
theorem sc_Move_pools : FnScope ["self"] ["self"] (defScope (inClass (top 47) 2)) := ⟨rfl, rfl, rfl, by decide +kernel, rfl, by decide +kernel, by decide +kernel⟩
theorem ok_mpools {f : Addr} {fd : FuncData} (F : Fun K "pools" "Move.pools" (inClass (top 47) 2) f fd) (T : NoMv K CM) (CPs : Cal P w K mg base CX0 1 "pools_of" ["plan"] (spPs CP)) : FnOk P w K mg base CX0 2 f fd ["self"] (spMp CM CP) := by
  refine F.ok sc_Move_pools (fun vs H Q E h => ?_) (fun cdv A outer s H vs Q E hr h => ?_)
  · obtain ⟨v, b, ww, rfl, _⟩ := h
    rfl
  · obtain ⟨v, b, ww, rfl, mv, k⟩ := h
    refine ⟨_, (pss_one (ps_ret (pe_cal CPs hr (by omega) pass0 (pa_cons (pe_fld (pv 0) rfl) pa_nil)))), ?_⟩
    obtain ⟨hs, zs, fr, f, ⟨p, dx, q, rfl, hp, pa⟩, c1, c2, b1, b2⟩ := mv.ex
    refine call_rd (va_cons (ve_pl T (ve_var (v := .ref p) rfl) hp) va_nil) ⟨q, _, hs, zs, fr, f, rfl, pa, fun q' H' s' n' h' => ?_⟩
    refine k q' zs fr f H' s' n' h' c2 pa.cn.1 (fun s => ⟨fun m => pa.cn.2 s m, fun z => ?_⟩) pa.ok.lz b2
    exact Classical.byContradiction fun c => z (pa.ok.off s c)
end

end K1

set_option Elab.async false
set_option linter.all false
set_option maxRecDepth 100000
set_option maxHeartbeats 4000000
namespace K1
open PySem L2 W1
/-! ### how long shown places are -/
def SmP : Pl → Prop
  | .obj i => i < 1000
  | .pool s k => s ≤ 8 ∧ k < 1000
def ShS (d : PyData) : Prop := d.showable = true ∧ d.shown.length ≤ 700000 ∧ d.depth ≤ 10
theorem ShS.ok {d : PyData} (h : ShS d) : ShOk d := ⟨h.1, by have := h.2.1; rw [sizeLine_eq]; omega, by have := h.2.2; omega⟩
theorem int_short {n : Nat} (h : n < 1000) : (PyData.int (n : Nat)).leavesShort 8 = true := by
  unfold PyData.leavesShort
  refine decide_eq_true ?_
  have e : ((Str.ofString (toString ((n : Nat) : Int))).length) ≤ 3 := PyProof.Rows.toString_length_le (v := ((n : Nat) : Int)) (by omega) (k := 3) (by decide) (by omega)
  show (PyData.shown (.int (n : Nat))).length ≤ 8
  unfold PyData.shown
  exact Nat.le_trans e (by decide)
theorem int_show {n : Nat} (h : n < 1000) : (PyData.int (n : Nat)).showable = true := by
  unfold PyData.showable
  refine decide_eq_true ?_
  have e : ((n : Nat) : Int).natAbs = n := Int.natAbs_natCast n
  rw [e]
  exact Nat.lt_of_le_of_lt (Nat.log2_le_self n) (by omega)
theorem int_weight {n : Nat} (h : n < 1000) : (PyData.int (n : Nat)).weight ≤ 10 := by
  unfold PyData.weight
  have e : ((n : Nat) : Int).natAbs = n := Int.natAbs_natCast n
  rw [e]
  split
  · omega
  · rename_i c
    have c : ¬ n = 0 := fun z => c (by rw [z]; rfl)
    have := (Nat.log2_lt c).mpr (show n < 2 ^ 10 by omega)
    omega
theorem plD_small {p : Pl} (h : SmP p) : (plD p).showable = true ∧ (plD p).leavesShort 8 = true ∧ (plD p).weight ≤ 30 ∧ (plD p).depth ≤ 1 := by
  cases p with
  | obj i =>
    have h : i < 1000 := h
    have w := int_weight h
    refine ⟨?_, ?_, ?_, by simp [plD, PyData.depth, PyData.depthAll]⟩
    · show PyData.showable (.tuple [.str "object", .int (i : Nat)]) = true
      unfold PyData.showable PyData.showableAll PyData.showableAll PyData.showableAll
      rw [int_show h]
      rfl
    · show PyData.leavesShort 8 (.tuple [.str "object", .int (i : Nat)]) = true
      unfold PyData.leavesShort PyData.leavesShortAll PyData.leavesShortAll PyData.leavesShortAll
      rw [int_short h, Bool.and_true, Bool.and_true]
      decide +kernel
    · show PyData.weight (.tuple [.str "object", .int (i : Nat)]) ≤ 30
      have e : PyData.weight (.tuple [.str "object", .int (i : Nat)]) = 6 + 1 + (PyData.weight (.int (i : Nat)) + 1 + 0) := rfl
      omega
  | pool s k =>
    obtain ⟨h1, h2⟩ : s ≤ 8 ∧ k < 1000 := h
    have w1 := int_weight (n := s) (by omega)
    have w2 := int_weight h2
    refine ⟨?_, ?_, ?_, by simp [plD, PyData.depth, PyData.depthAll]⟩
    · show PyData.showable (.tuple [.str "pool", .int (s : Nat), .int (k : Nat)]) = true
      unfold PyData.showable PyData.showableAll PyData.showableAll PyData.showableAll PyData.showableAll
      rw [int_show (n := s) (by omega), int_show h2]
      rfl
    · show PyData.leavesShort 8 (.tuple [.str "pool", .int (s : Nat), .int (k : Nat)]) = true
      unfold PyData.leavesShort PyData.leavesShortAll PyData.leavesShortAll PyData.leavesShortAll PyData.leavesShortAll
      rw [int_short (n := s) (by omega), int_short h2, Bool.and_true, Bool.and_true, Bool.and_true]
      decide +kernel
    · show PyData.weight (.tuple [.str "pool", .int (s : Nat), .int (k : Nat)]) ≤ 30
      have e : PyData.weight (.tuple [.str "pool", .int (s : Nat), .int (k : Nat)]) = 4 + 1 + (PyData.weight (.int (s : Nat)) + 1 + (PyData.weight (.int (k : Nat)) + 1 + 0)) := rfl
      omega
theorem plDs_small : ∀ {ps : List Pl}, (∀ p ∈ ps, SmP p) → PyData.showableAll (ps.map plD) = true ∧ PyData.leavesShortAll 8 (ps.map plD) = true ∧ PyData.weightAll (ps.map plD) ≤ 31 * ps.length ∧ PyData.depthAll (ps.map plD) ≤ 1
  | [], _ => ⟨rfl, rfl, Nat.le_refl _, by decide⟩
  | p :: ps, h => by
    obtain ⟨a1, a2, a3, a4⟩ := plD_small (h p List.mem_cons_self)
    obtain ⟨b1, b2, b3, b4⟩ := plDs_small fun q m => h q (List.mem_cons_of_mem _ m)
    refine ⟨?_, ?_, ?_, ?_⟩
    · rw [List.map_cons, PyData.showableAll, a1, b1]
      rfl
    · rw [List.map_cons, PyData.leavesShortAll, a2, b2]
      rfl
    · rw [List.map_cons, PyData.weightAll, List.length_cons]
      omega
    · rw [List.map_cons, PyData.depthAll]
      omega
theorem list_small {ps : List Pl} (h : ∀ p ∈ ps, SmP p) (few : ps.length ≤ 200) : ShS (.list (ps.map plD)) := by
  obtain ⟨b1, b2, b3, b4⟩ := plDs_small h
  have l : (PyData.list (ps.map plD)).leavesShort 8 = true := by
    unfold PyData.leavesShort
    exact b2
  have z := PyData.shown_le 8 (Nat.le_refl _) _ l
  have w : (PyData.list (ps.map plD)).weight = PyData.weightAll (ps.map plD) := by unfold PyData.weight; rfl
  rw [w] at z
  refine ⟨?_, by omega, ?_⟩
  · unfold PyData.showable
    exact b1
  · unfold PyData.depth
    omega
/-- the data of a dict of fronts, for showing -/
def frK (zs : List Nat) (fr : Nat → List Pl) (f : Nat → Nat) : PyData := .dict ((frD true zs fr f).map fun p => (.int p.1, p.2))
theorem frV_small {fr : Nat → List Pl} {f : Nat → Nat} {s : Nat} (h : ∀ p ∈ fr s, SmP p) (few : (fr s).length ≤ 200) (hf : f s < 1000) :
    (frV true fr f s).showable = true ∧ (frV true fr f s).leavesShort 8 = true ∧ (frV true fr f s).weight ≤ 6300 ∧ (frV true fr f s).depth ≤ 3 ∧ (frV true fr f s).hasDict = false := by
  obtain ⟨b1, b2, b3, b4⟩ := plDs_small h
  have w := int_weight hf
  have e : frV true fr f s = .tuple [.list ((fr s).map plD), .int (f s : Nat)] := rfl
  rw [e]
  refine ⟨?_, ?_, ?_, ?_, ?_⟩
  · unfold PyData.showable PyData.showableAll PyData.showableAll PyData.showableAll
    rw [int_show hf]
    show ((PyData.list ((fr s).map plD)).showable && (true && true)) = true
    unfold PyData.showable
    rw [b1]
    rfl
  · unfold PyData.leavesShort PyData.leavesShortAll PyData.leavesShortAll PyData.leavesShortAll
    rw [int_short hf]
    show ((PyData.list ((fr s).map plD)).leavesShort 8 && (true && true)) = true
    unfold PyData.leavesShort
    rw [b2]
    rfl
  · have : PyData.weight (.tuple [.list ((fr s).map plD), .int (f s : Nat)]) = PyData.weightAll ((fr s).map plD) + 1 + (PyData.weight (.int (f s : Nat)) + 1 + 0) := rfl
    omega
  · have : PyData.depth (.tuple [.list ((fr s).map plD), .int (f s : Nat)]) = max (PyData.depthAll ((fr s).map plD) + 1) (max 0 0) + 1 := rfl
    omega
  · obtain ⟨_, z, _⟩ := plDs_ok (fr s)
    have nd : (PyData.tuple [.list ((fr s).map plD), .int (f s : Nat)]).canLay0 = true := by
      have z2 : (PyData.list ((fr s).map plD)).canLay0 = true := by rw [PyData.canLay0]; exact z
      rw [PyData.canLay0, PyData.canLayAll0, PyData.canLayAll0, PyData.canLayAll0, z2]
      rfl
    exact PyData.hasDict_of_canLay _ nd
theorem frK_small : ∀ {zs : List Nat} {fr : Nat → List Pl} {f : Nat → Nat}, (∀ s ∈ zs, s ≤ 8 ∧ (∀ p ∈ fr s, SmP p) ∧ (fr s).length ≤ 200 ∧ f s < 1000) →
    PyData.showableKv ((frD true zs fr f).map fun p => (PyData.int p.1, p.2)) = true ∧ PyData.leavesShortKv 8 ((frD true zs fr f).map fun p => (PyData.int p.1, p.2)) = true ∧ PyData.weightKv ((frD true zs fr f).map fun p => (PyData.int p.1, p.2)) ≤ 6400 * zs.length ∧
      PyData.depthKv ((frD true zs fr f).map fun p => (PyData.int p.1, p.2)) ≤ 3 ∧ PyData.hasDictAll ((frD true zs fr f).map (·.2)) = false
  | [], _, _, _ => ⟨rfl, rfl, Nat.le_refl _, Nat.zero_le _, rfl⟩
  | s :: zs, fr, f, h => by
    obtain ⟨h1, h2, h3, h4⟩ := h s List.mem_cons_self
    obtain ⟨a1, a2, a3, a4, a5⟩ := frV_small h2 h3 h4
    obtain ⟨b1, b2, b3, b4, b5⟩ := frK_small (zs := zs) (fr := fr) (f := f) fun u m => h u (List.mem_cons_of_mem _ m)
    have i1 := int_show (n := s) (by omega)
    have i2 := int_short (n := s) (by omega)
    have i3 := int_weight (n := s) (by omega)
    have e : (frD true (s :: zs) fr f).map (fun p => (PyData.int p.1, p.2)) = (PyData.int (s : Nat), frV true fr f s) :: (frD true zs fr f).map fun p => (PyData.int p.1, p.2) := rfl
    rw [e]
    refine ⟨?_, ?_, ?_, ?_, ?_⟩
    · rw [PyData.showableKv, i1, a1, b1]
      rfl
    · rw [PyData.leavesShortKv, i2, a2, b2]
      rfl
    · rw [PyData.weightKv, List.length_cons]
      omega
    · have : PyData.depth (.int (s : Nat)) = 0 := by unfold PyData.depth; rfl
      unfold PyData.depthKv
      omega
    · show PyData.hasDictAll (frV true fr f s :: (frD true zs fr f).map (·.2)) = false
      rw [PyData.hasDictAll, a5, b5]
      rfl
theorem frK_sh {zs : List Nat} {fr : Nat → List Pl} {f : Nat → Nat} (few : zs.length ≤ 8) (h : ∀ s ∈ zs, s ≤ 8 ∧ (∀ p ∈ fr s, SmP p) ∧ (fr s).length ≤ 200 ∧ f s < 1000) : ShS (frK zs fr f) := by
  obtain ⟨b1, b2, b3, b4, _⟩ := frK_small h
  have l : (frK zs fr f).leavesShort 8 = true := by
    unfold frK PyData.leavesShort
    exact b2
  have z := PyData.shown_le 8 (Nat.le_refl _) _ l
  have w : (frK zs fr f).weight = PyData.weightKv ((frD true zs fr f).map fun p => (PyData.int p.1, p.2)) := by unfold frK PyData.weight; rfl
  rw [w] at z
  refine ⟨?_, by omega, ?_⟩
  · unfold frK PyData.showable
    exact b1
  · unfold frK PyData.depth
    omega
theorem list_shv {K : PySem.W.Frag} {H : Hp} {a : Addr} {xs : List V} {ps : List Pl} (ha : H a = some (.lst xs)) (h : Ps H xs ps) : ShV K H (.ref a) (.list (ps.map plD)) :=
  .dat ((At.lst ha h.atAll).dp (by obtain ⟨h1, _, _⟩ := plDs_ok ps; exact h1)) (PyData.hasDict_of_canLay _ (by obtain ⟨_, z, _⟩ := plDs_ok ps; rw [PyData.canLay0]; exact z))
theorem dict_shv {K : PySem.W.Frag} {H : Hp} {d : Addr} {zs : List Nat} {fr : Nat → List Pl} {f : Nat → Nat} (g : FrG true H d zs fr f) (h : ∀ s ∈ zs, s ≤ 8 ∧ (∀ p ∈ fr s, SmP p) ∧ (fr s).length ≤ 200 ∧ f s < 1000) : ShV K H (.ref d) (frK zs fr f) := by
  obtain ⟨a, ks, e, e1, e2, e3⟩ := frG_dic (K := K) g
  cases e
  exact .dic e1 e2 e3 (frK_small h).2.2.2.2
end K1

set_option Elab.async false
set_option linter.all false
set_option maxRecDepth 100000
set_option maxHeartbeats 4000000
namespace K1
open PySem L2 W1
/-! ### Move.__repr__ -/
def mvT (hs : List Pl) (zs : List Nat) (fr : Nat → List Pl) (f : Nat → Nat) : Str := ((((Str.empty ++ ("Move(" : Str)) ++ (PyData.list (hs.map plD)).shown) ++ (", " : Str)) ++ (frK zs fr f).shown) ++ (")" : Str)
/-- what a world shows is small -/
structure SmW (ww : V1.Wd) : Prop where
  n : ww.objs.length ≤ 200
  hd : ∀ p ∈ V1.headsOf ww, SmP p
  fr : ∀ s hs f, s ≤ 8 → V1.CanF s (ww.pool s) hs f → (∀ p ∈ hs, SmP p) ∧ hs.length ≤ 200 ∧ f < 1000
theorem SmW.heads {ww : V1.Wd} (h : SmW ww) : ShS (.list ((V1.headsOf ww).map plD)) := list_small h.hd (by rw [V1.heads_len]; exact h.n)
theorem SmW.each {ww : V1.Wd} {zs : List Nat} {fr : Nat → List Pl} {f : Nat → Nat} (h : SmW ww) (z8 : ∀ s ∈ zs, s ≤ 8) (c : ∀ s, V1.CanF s (ww.pool s) (fr s) (f s)) : ∀ s ∈ zs, s ≤ 8 ∧ (∀ p ∈ fr s, SmP p) ∧ (fr s).length ≤ 200 ∧ f s < 1000 := fun s m => ⟨z8 s m, h.fr s _ _ (z8 s m) (c s)⟩
section
variable {P : Program} {w : World} {K : PySem.W.Frag} {mg : Str → Option Value} {base : Heap} {CP CM C : Addr}
def spRp (CM CP : Addr) : Sp := fun vs H Q _ => ∃ (v : V) (b : Nat) (ww : V1.Wd), vs = [v] ∧ MvW CM CP H v b ww ∧ SmW ww ∧ ∀ zs fr f H', Same H H' → (∀ s, V1.CanF s (ww.pool s) (fr s) (f s)) → zs.Pairwise (· < ·) → (∀ s, s ∈ zs ↔ ¬ (fr s = [] ∧ f s = 0)) → Q (.str (mvT (V1.headsOf ww) zs fr f)) H'
theorem sc_Move___repr : FnScope ["self"] ["self"] (defScope (inClass (top 47) 14)) := ⟨rfl, rfl, rfl, by decide +kernel, rfl, by decide +kernel, by decide +kernel⟩
theorem ok_mrepr {f : Addr} {fd : FuncData} (F : Fun K "__repr__" "Move.__repr__" (inClass (top 47) 14) f fd) (T : NoMv K CM) (COb : Cal P w K mg base CX0 1 "objects_of" ["plan"] (spObP CP)) (CPs : Cal P w K mg base CX0 1 "pools_of" ["plan"] (spPs CP)) : FnG P w K mg base CX0 2 f fd ["self"] (spRp CM CP) := by
  refine F.okG sc_Move___repr (fun vs H Q E h => ?_) (fun cdv A outer s H vs Q E hg hr h => ?_)
  · obtain ⟨v, b, ww, rfl, _⟩ := h
    rfl
  · obtain ⟨v, b, ww, rfl, mv, sm, k⟩ := h
    refine ⟨_, (pss_one (ps_ret (pe_joined (.cons pe_str (.cons (pe_show hg (hr64 hr) (pe_cal COb hr (by omega) pass0 (pa_cons (pe_fld (pv 0) rfl) pa_nil))) (.cons pe_str (.cons (pe_show hg (hr64 hr) (pe_cal CPs hr (by omega) pass0 (pa_cons (pe_fld (pv 0) rfl) pa_nil))) (.cons pe_str .nil)))))))), ?_⟩
    obtain ⟨hs, zs, fr, f, ⟨p, dx, q, rfl, hp, pa⟩, c1, c2, b1, b2⟩ := mv.ex
    have sl := sizeLine_eq
    have e1 := sm.heads
    have n1 := sm.n
    refine ret_of ?_
    refine ⟨_, rfl, by rw [Str.length_append]; exact Nat.le_trans (show 5 ≤ 10 by decide) (by rw [sl]; decide), ?_⟩
    refine call_rd (va_cons (ve_pl T (ve_var (v := .ref p) rfl) hp) va_nil) ⟨q, _, hs, zs, fr, f, rfl, pa, by omega, c1.le, fun q1 xs H1 s1 q0 h1 p1 => ?_⟩
    rw [objsD_eq c1] at p1
    refine ⟨_, list_shv h1 p1, e1.ok, ?_⟩
    obtain ⟨w1, w2, _⟩ := id e1
    refine ⟨_, rfl, by rw [Str.length_append, Str.length_append]; have : (Str.empty.length + ("Move(" : Str).length) = 5 := rfl; omega, ?_⟩
    refine ⟨_, rfl, by rw [Str.length_append, Str.length_append, Str.length_append]; have : (Str.empty.length + ("Move(" : Str).length) = 5 := rfl; have : (", " : Str).length = 2 := rfl; omega, ?_⟩
    refine call_rd (va_cons (ve_pl T (ve_var (v := .ref p) rfl) (s1 _ _ hp)) va_nil) ⟨q, _, hs, zs, fr, f, rfl, pa.mono s1, fun q2 H2 s2 q20 h2 => ?_⟩
    have ea := sm.each (fun s m => (pa.ok.sz s m).2) c2
    have e2 := frK_sh (fr := fr) (f := f) pa.ok.lz ea
    refine ⟨_, dict_shv h2.g ea, e2.ok, ?_⟩
    obtain ⟨w3, w4, _⟩ := id e2
    refine ⟨_, rfl, by rw [Str.length_append, Str.length_append, Str.length_append, Str.length_append]; have : (Str.empty.length + ("Move(" : Str).length) = 5 := rfl; have : (", " : Str).length = 2 := rfl; omega, ?_⟩
    refine ⟨_, rfl, by rw [Str.length_append, Str.length_append, Str.length_append, Str.length_append, Str.length_append]; have : (Str.empty.length + ("Move(" : Str).length) = 5 := rfl; have : (", " : Str).length = 2 := rfl; have : (")" : Str).length = 1 := rfl; omega, ?_⟩
    refine k zs fr f H2 (s1.trans s2) c2 pa.cn.1 fun s => ⟨fun m => pa.cn.2 s m, fun z => ?_⟩
    exact Classical.byContradiction fun c => z (pa.ok.off s c)
end

end K1

set_option Elab.async false
set_option linter.all false
set_option maxRecDepth 100000
set_option maxHeartbeats 4000000
namespace K1
open PySem L2 W1
/-! ### places of played worlds are small -/
def SmL (l : V1.LW) : Prop := (∀ x ∈ l.objs, SmP x.1) ∧ ∀ s, s ≤ 8 → ∀ p ∈ l.pool s, SmP p
theorem SmL.start {zs : List Nat} (h : zs.length ≤ 900) : SmL (lw0 zs) := by
  refine ⟨fun x m => ?_, fun s hs p m => ?_⟩
  · obtain ⟨i, hi⟩ := List.mem_iff_getElem?.mp m
    have hi : (V1.ident zs).objs[i]? = some x := hi
    rw [V1.ident_get] at hi
    obtain ⟨u, hu, rfl⟩ := Option.map_eq_some_iff.mp hi
    have := (List.getElem?_eq_some_iff.mp hu).1
    show i < 1000
    omega
  · obtain ⟨k, hk, rfl⟩ := List.mem_map.mp (show p ∈ (List.range 60).map (V1.Pl.pool s) from m)
    have := List.mem_range.mp hk
    exact ⟨hs, by omega⟩
theorem SmL.step {l l' : V1.LW} (h : SmL l) : ∀ {t : V1.St}, V1.lstep l t = some l' → (∀ s, t = .make s → V1.okS s) → SmL l'
  | .make s, e, ok => by
    have s8 : s ≤ 8 := by rcases ok s rfl with c | c | c <;> omega
    cases q : l.pool s with
    | nil =>
      simp only [V1.lstep, q] at e
      cases e
    | cons x r =>
      simp only [V1.lstep, q] at e
      cases e
      have hx := h.2 s s8 x (by rw [q]; exact List.mem_cons_self)
      refine ⟨fun y m => ?_, fun u hu p m => ?_⟩
      · rcases List.mem_append.mp m with m | m
        · exact h.1 y m
        · rw [List.mem_singleton.mp m]
          exact hx
      · have m : p ∈ V1.putL l.pool s r u := m
        unfold V1.putL at m
        by_cases c : u = s
        · rw [if_pos c] at m
          exact h.2 s s8 p (by rw [q]; exact List.mem_cons_of_mem _ m)
        · rw [if_neg c] at m
          exact h.2 u hu p m
  | .free i, e, _ => by
    obtain ⟨x, hx, rfl⟩ := Option.map_eq_some_iff.mp (show (l.objs[i]?).map _ = some l' from e)
    have hs := h.1 x (List.mem_of_getElem? hx)
    refine ⟨fun y m => h.1 y (List.mem_of_mem_eraseIdx m), fun u hu p m => ?_⟩
    have m : p ∈ V1.putL l.pool x.2 (x.1 :: l.pool x.2) u := m
    unfold V1.putL at m
    by_cases c : u = x.2
    · rw [if_pos c] at m
      rcases List.mem_cons.mp m with rfl | m
      · exact hs
      · exact h.2 x.2 (c ▸ hu) p m
    · rw [if_neg c] at m
      exact h.2 u hu p m
  | .leave i, e, _ => by
    obtain ⟨x, hx, rfl⟩ := Option.map_eq_some_iff.mp (show (l.objs[i]?).map _ = some l' from e)
    exact ⟨fun y m => h.1 y (List.mem_of_mem_eraseIdx m), h.2⟩
theorem SmL.play : ∀ {ts : List V1.St} {l l' : V1.LW} {n : Nat}, SmL l → V1.okT n ts → V1.lplay l ts = some l' → SmL l'
  | [], _, _, _, h, _, e => by
    cases e
    exact h
  | t :: ts, l, l', n, h, ok, e => by
    obtain ⟨l1, h1, h2⟩ := Option.bind_eq_some_iff.mp (show (V1.lstep l t).bind (fun l' => V1.lplay l' ts) = some l' from e)
    have z := h.step h1 fun s c => V1.okT_make ok (by rw [c]; exact List.mem_cons_self)
    cases t with
    | make s => exact z.play ok.2 h2
    | free i => exact z.play ok.2 h2
    | leave i => exact z.play ok.2 h2
theorem SmL.world {ww : V1.Wd} {l : V1.LW} {c : Nat} (h : SmL l) (rep : V1.Rep ww l c) (hc : c ≤ 40) (n : ww.objs.length ≤ 200) (few : ∀ s, (l.pool s).length ≤ 200) : SmW ww := by
  refine ⟨n, fun p m => ?_, fun s hs f s8 can => ?_⟩
  · obtain ⟨x, mx, rfl⟩ := List.mem_map.mp (show p ∈ ww.objs.map (·.1) from m)
    exact h.1 x (by rw [rep.objs]; exact mx)
  · have t := V1.tail_le rep can
    have in_ : ∀ k, k < (l.pool s).length → ww.pool s k ∈ l.pool s := fun k hk => List.mem_of_getElem? (rep.row s k hk)
    have lf := few s
    refine ⟨fun p m => ?_, by omega, ?_⟩
    · obtain ⟨i, hi⟩ := List.mem_iff_getElem?.mp m
      have li := (List.getElem?_eq_some_iff.mp hi).1
      have e := can.at_ i li
      rw [hi] at e
      rw [Option.some.inj e]
      exact h.2 s s8 _ (in_ i (by omega))
    · have e := can.rest hs.length (Nat.le_refl _)
      have z := h.2 s s8 _ (in_ hs.length (by omega))
      rw [e, Nat.sub_self, Nat.add_zero] at z
      exact z.2
/-- the canonical fronts of a played world -/
theorem can_all {ww : V1.Wd} {l : V1.LW} {c : Nat} (rep : V1.Rep ww l c) (hc : c ≤ 40) : ∃ (fr : Nat → List Pl) (f : Nat → Nat), ∀ s, V1.CanF s (ww.pool s) (fr s) (f s) := by
  have one : ∀ s, ∃ x : List Pl × Nat, V1.CanF s (ww.pool s) x.1 x.2 := fun s => by
    obtain ⟨q, _, z⟩ := V1.row_can (s := s) rep (by omega)
    exact ⟨(_, _), z⟩
  exact ⟨fun s => (Classical.choose (one s)).1, fun s => (Classical.choose (one s)).2, fun s => Classical.choose_spec (one s)⟩
theorem can_still {s : Nat} {g : Nat → Pl} {h : List Pl} {f : Nat} (can : V1.CanF s g h f) (still : ∀ k, g k = .pool s k) : h = [] ∧ f = 0 := by
  have z : V1.CanF s g [] 0 := ⟨fun i hi => absurd hi (Nat.not_lt_zero _), fun i _ => by rw [still]; congr 1; show i = 0 + (i - 0); omega, fun m e => by cases e⟩
  exact can.uniq z
/-- where a row's tail starts, in the canonical data -/
theorem row_at2 {ww : V1.Wd} {l : V1.LW} {c : Nat} (rep : V1.Rep ww l c) (hc : c ≤ 40) {fr : Nat → List Pl} {f : Nat → Nat} (can : ∀ s, V1.CanF s (ww.pool s) (fr s) (f s)) (s : Nat) :
    ∃ q, (l.pool s)[(l.pool s).length - 1]? = some (.pool s q) ∧ (V1.stripF s (l.pool s) (l.pool s).length (q + 1)).1 = (fr s).length ∧ (l.pool s).take (fr s).length = fr s ∧ (fr s).length + 20 ≤ (l.pool s).length ∧ (l.pool s)[(fr s).length]? = some (.pool s (f s)) ∧ q + 1 + (fr s).length = f s + (l.pool s).length := by
  obtain ⟨q, h1, z⟩ := V1.row_can (s := s) rep (by omega)
  obtain ⟨e1, e2⟩ := (can s).uniq z
  have t := V1.tail_le rep (can s)
  have lz : (V1.stripF s (l.pool s) (l.pool s).length (q + 1)).1 = (fr s).length := by
    have := congrArg List.length e1
    rw [List.length_take] at this
    omega
  have h2 := rep.row s (fr s).length (by omega)
  have h3 := (can s).rest (fr s).length (Nat.le_refl _)
  rw [Nat.sub_self, Nat.add_zero] at h3
  have h4 := rep.row s ((l.pool s).length - 1) (by omega)
  rw [(can s).rest _ (by omega), h1] at h4
  injection h4 with h4
  injection h4 with _ h4
  refine ⟨q, h1, lz, ?_, by omega, by rw [h2, h3], by omega⟩
  rw [← lz, ← e1]
end K1

set_option Elab.async false
set_option linter.all false
set_option maxRecDepth 100000
set_option maxHeartbeats 4000000
namespace K1
open PySem L2 W1
/-! ### _law_short -/
section
variable {P : Program} {w : World} {K : PySem.W.Frag} {mg : Str → Option Value} {base : Heap} {CP CM C : Addr}
def nzB (fr : Nat → List Pl) (f : Nat → Nat) (s : Nat) : Bool := !decide (fr s = [] ∧ f s = 0)
theorem nzB_iff {fr : Nat → List Pl} {f : Nat → Nat} {s : Nat} : nzB fr f s = true ↔ ¬ (fr s = [] ∧ f s = 0) := by
  unfold nzB
  rw [Bool.not_eq_true', decide_eq_false_iff_not]
def spLs : Sp := fun vs H Q _ => ∃ (a ao ap : Addr) (r : Nat → Addr) (ww : V1.Wd) (l : V1.LW) (c : Nat), vs = [.ref a] ∧ WdAt' H a ao ap r l ∧ V1.Rep ww l c ∧ c ≤ 40 ∧ V1.Sz ww ∧ (∀ s, (l.pool s).length ≤ 1000) ∧
  ∀ q zs fr f H', Same H H' → H q = none → FrN H H' q zs fr f → (∀ s, V1.CanF s (ww.pool s) (fr s) (f s)) → zs.Pairwise (· < ·) → (∀ s, s ∈ zs ↔ ¬ (fr s = [] ∧ f s = 0)) → (∀ s ∈ zs, 1 ≤ s ∧ s ≤ 8) → Q (.ref q) H'
theorem sc_law_short : FnScope ["_law_world", "_law_found", "_law_size", "_law_row", "_law_many"] ["_law_world"] (defScope (top 58)) := ⟨rfl, rfl, rfl, by decide +kernel, rfl, by decide +kernel, by decide +kernel⟩
theorem ok_short {f : Addr} {fd : FuncData} (F : Fun K "_law_short" "_law_short" (top 58) f fd) (B : Bl3 mg) (LTa : Cal P w K mg base CX0 1 "_law_tail" ["_law_size", "_law_row"] spTa) : FnOk P w K mg base CX0 2 f fd ["_law_world"] spLs := by
  refine F.ok sc_law_short (fun vs H Q E h => ?_) (fun cdv A outer s H vs Q E hr h => ?_)
  · obtain ⟨a, ao, ap, r, ww, l, c, rfl, _⟩ := h
    rfl
  · obtain ⟨a, ao, ap, r, ww, l, c, rfl, wd, rep, hc, sz, lp, k⟩ := h
    refine ⟨_, (pss_cons (ps_set (i := 1) sc_law_short.nd rfl (Or.inl rfl) pe_dnewK)
      (pss_cons (ps_for PassesOwn.never rfl (pi_list (pe_callB (call_sortedDI rfl) rfl B.sorted (by decide +kernel) (pa_cons (pe_dget (hr1 hr) (pv 0) pe_str (fun _ _ => rfl)) pa_nil))) (pg_name (i := 2) sc_law_short.nd rfl (Or.inl rfl))
        (pss_cons (ps_set (i := 3) sc_law_short.nd rfl (Or.inl rfl) (pe_dget (hr1 hr) (pe_dget (hr1 hr) (pv 0) pe_str (fun _ _ => rfl)) (pv 2) (fun _ _ => rfl)))
      (pss_cons (ps_set (i := 4) sc_law_short.nd rfl (Or.inl rfl) (pe_cal LTa hr (by omega) pass0 (pa_cons (pv 2) (pa_cons (pv 3) pa_nil))))
      (pss_one (ps_if (PW.pt (pw_or (pt_cmpR op_gt (pv 4) pe_int (nomark _)) (pw_or1 (pt_cmpR op_gt (pe_ix ix_tup (pe_ix ix_list (pv 3) pe_int (fun _ _ => rfl)) pe_int (fun _ _ => rfl)) pe_int (nomark _))))) (pss_one (ps_dput (hr1 hr) (pv 1) (pv 2) (pe_tup (pa_cons (pe_slice sl_list (pv 3) po_none (po_some (pv 4))) (pa_cons (pe_ix ix_tup (pe_ix ix_list (pv 3) (pv 4) (fun _ _ => rfl)) pe_int (fun _ _ => rfl)) pa_nil))) rfl)) pss_nil)))))
      (pss_one (ps_ret (pv 1))))), ?_⟩
    obtain ⟨fr, f, can⟩ := can_all rep hc
    refine seq_rd (asg_of fun D nD => ?_)
    have s0 := same_new (o := .dK []) (Same.refl H) nD
    have hD0 : (upd H D (.dK [])) D = some (.dK []) := upd_same
    generalize upd H D (.dK []) = H0 at s0 hD0 ⊢
    refine next_rd ?_
    dsimp only
    refine seq_rd ?_
    unfold tFor
    have rl : (rg 8).length = 8 := rfl
    refine cb_rd (va_cons (ve_pls (ve_var (v := .ref a) rfl) (s0 _ _ wd.wd)) va_nil) ⟨ap, _, (rg 8).map (fun (s : Nat) => (s : Int)), rfl, .inl (s0 _ _ wd.pl), (by rw [kvz_keys, List.map_map]; rfl), (by rw [List.length_map, rl]; decide), fun ns L perm rising nL => ?_⟩
    obtain ⟨ys, rfl, py, oy⟩ := sort_nat (by decide) perm rising
    obtain rfl : ys = rg 8 := sorted_same oy (by decide) fun s => py.mem_iff
    have s1 := same_new (o := .lst (((rg 8).map (fun (s : Nat) => (s : Int))).map V.int)) (Same.refl H0) nL
    have hL : (upd H0 L (.lst (((rg 8).map (fun (s : Nat) => (s : Int))).map V.int))) L = some (.lst (((rg 8).map (fun (s : Nat) => (s : Int))).map V.int)) := upd_same
    generalize upd H0 L (.lst (((rg 8).map (fun (s : Nat) => (s : Int))).map V.int)) = H1 at s1 hL ⊢
    have hD1 := s1 _ _ hD0
    have DL : L ≠ D := fun z => by rw [z, hD1] at hL; cases hL
    refine ⟨L, rfl, ⟨_, SqL.of hL⟩, ?_⟩
    refine for_list (xs := ((rg 8).map (fun (s : Nat) => (s : Int))).map V.int) (fun i σ H6 => ∃ (v2 v3 v4 : Option V) (t : Nat → Addr), σ = [some (.ref a), some (.ref D), v2, v3, v4] ∧ Same H H6 ∧ H6 L = some (.lst (((rg 8).map (fun (s : Nat) => (s : Int))).map V.int)) ∧ H6 D = some (.dK (kvz (((rg 8).take i).filter (nzB fr f)) t)) ∧ FrX H H6 (((rg 8).take i).filter (nzB fr f)) t fr f)
      ⟨none, none, none, fun _ => 0, rfl, s0.trans s1, hL, hD1, fun s m => by cases m⟩ (fun i σ H6 _ z => by
        obtain ⟨_, _, _, _, _, _, z, _⟩ := z
        exact SqL.of z) ?_ ?_
    · rintro i x σ H6 hi ⟨v2, v3, v4, t, rfl, s6, hL6, hD6, fx⟩
      obtain ⟨s, hs, rfl⟩ : ∃ s : Nat, (rg 8)[i]? = some s ∧ x = nV s := by
        rw [List.getElem?_map, List.getElem?_map] at hi
        cases e : (rg 8)[i]? with
        | none => rw [e] at hi; cases hi
        | some s => rw [e] at hi; cases hi; exact ⟨s, rfl, rfl⟩
      have s8 := rg_mem.mp (List.mem_of_getElem? hs)
      have tk := start_drop _ _ _ hs
      have nd : (rg 8).Nodup := by decide
      have i8 := (List.getElem?_eq_some_iff.mp hs).1
      have new : s ∉ ((rg 8).take i).filter (nzB fr f) := fun m => nodup_at nd hs (List.mem_filter.mp m).1
      have wd6 := wd.same s6
      obtain ⟨ys, hr6, py⟩ := wd6.row s s8.1 s8.2
      refine gname_rd ?_
      refine seq_rd (set_v (ve_dget (w := r) (s := s) (ve_pls (ve_var (v := .ref a) rfl) wd6.wd) (ve_var (v := nV s) rfl) (.inl wd6.pl) (rg_mem.mpr s8)) ?_)
      refine next_rd ?_
      dsimp only
      obtain ⟨q, hq, eT, eF, room, mid, _⟩ := row_at2 rep hc can s
      refine seq_rd (asg_of (call_rd (va_cons (ve_var (v := nV s) rfl) (va_cons (ve_var (v := .ref (r s)) rfl) va_nil)) ⟨s, r s, ys, l.pool s, q, rfl, hr6, py, hq, lp s, fun H7 s7 => ?_⟩))
      rw [eT]
      refine next_rd ?_
      dsimp only
      have hr7 := s7 _ _ hr6
      have py7 := py.mono s7
      have test : ∀ Q' : Bool → Hp → Prop, (∀ b H9, (b = nzB fr f s) → Same H7 H9 → Q' b H9) →
          tOr (tTest (tOp (rI0 fun i j => .bl (decide (j < i))) (tVar 4) (tC (.int 0)))) (tTest (tOp (rI0 fun i j => .bl (decide (j < i))) (tOp (rIxT K) (tOp (rIxL K) (tVar 3) (tC (.int 0))) (tC (.int 2))) (tC (.int 0)))) [some (.ref a), some (.ref D), some (nV s), some (.ref (r s)), some (nV (fr s).length)] H7 Q' := fun Q' kk => by
        have cA : BE (tTest (tOp (rI0 fun i j => .bl (decide (j < i))) (tVar 4) (tC (.int 0)))) (decide (0 < (fr s).length)) [some (.ref a), some (.ref D), some (nV s), some (.ref (r s)), some (nV (fr s).length)] H7 := be_gtN (j := 0) (ve_var rfl) ve_c
        unfold tOr
        refine cA H7 (Same.refl _) _ fun H9 s9 => ?_
        by_cases m0 : 0 < (fr s).length
        · rw [decide_eq_true m0, if_pos rfl]
          exact kk true H9 (nzB_iff.mpr fun z => by rw [z.1] at m0; exact absurd m0 (by decide)).symm s9
        · rw [decide_eq_false m0, if_neg (by decide)]
          have z0 : (l.pool s)[0]? = some (.pool s (f s)) := by
            rw [← mid]
            congr 1
            omega
          obtain ⟨v0, hv0, b0, rfl, hb0⟩ := (py7.mono s9).2 0 _ z0
          have cB : BE (tTest (tOp (rI0 fun i j => .bl (decide (j < i))) (tOp (rIxT K) (tOp (rIxL K) (tVar 3) (tC (.int 0))) (tC (.int 2))) (tC (.int 0)))) (decide (0 < f s)) [some (.ref a), some (.ref D), some (nV s), some (.ref (r s)), some (nV (fr s).length)] H9 := be_gtN (j := 0) (ve_ixT (n := 2) (v := nV (f s)) (ve_ixL (n := 0) (ve_var (v := .ref (r s)) rfl) (s9 _ _ hr7) ve_c hv0) hb0 ve_c rfl) ve_c
          refine cB H9 (Same.refl _) _ fun H10 s10 => kk _ H10 ?_ (s9.trans s10)
          unfold nzB
          have e0 : fr s = [] := List.eq_nil_of_length_eq_zero (by omega)
          by_cases F0 : f s = 0
          · rw [decide_eq_true (show fr s = [] ∧ f s = 0 from ⟨e0, F0⟩), decide_eq_false (show ¬ 0 < f s by omega)]
            rfl
          · rw [decide_eq_false (show ¬ (fr s = [] ∧ f s = 0) from fun z => F0 z.2), decide_eq_true (show 0 < f s by omega)]
            rfl
      refine tifS_of (test _ fun b H9 hb s9 => ?_)
      have s79 := s7.trans s9
      have hL9 := s79 _ _ hL6
      have hD9 := s79 _ _ hD6
      have fx9 := fx.fm (S := fun _ => False) (Fm.of s79) fun b z => z.elim
      rw [tk, List.filter_append]
      cases b with
      | false =>
        rw [if_neg (by decide)]
        have e : [s].filter (nzB fr f) = [] := by
          rw [List.filter_cons, ← hb]
          rfl
        rw [e, List.append_nil]
        exact next_rd ⟨_, _, _, t, rfl, s6.trans s79, hL9, hD9, fx9⟩
      | true =>
        rw [if_pos rfl]
        have e : [s].filter (nzB fr f) = [s] := by
          rw [List.filter_cons, ← hb]
          rfl
        rw [e]
        have hr9 := s9 _ _ hr7
        have py9 := py7.mono s9
        refine ttup_rd (tcons_rd (to_rd (ve_var (v := .ref (r s)) rfl) hr9 (ve_var (v := nV (fr s).length) rfl) fun p np s10 => cons_rd ?_))
        have hp10 : (upd H9 p (.lst (ys.take (fr s).length))) p = some (.lst (ys.take (fr s).length)) := upd_same
        generalize upd H9 p (.lst (ys.take (fr s).length)) = H10 at s10 hp10 ⊢
        obtain ⟨vm, hvm, bm, rfl, hbm⟩ := (py9.mono s10).2 (fr s).length _ mid
        refine (ve_ixT (n := 2) (v := nV (f s)) (ve_ixL (n := (fr s).length) (ve_var (v := .ref (r s)) rfl) (s10 _ _ hr9) (ve_var (v := nV (fr s).length) rfl) hvm) hbm ve_c rfl) H10 (Same.refl _) _ ⟨by show 2 ≤ sizeLine; decide, fun U nU => ?_⟩
        have s11 := same_new (o := .tup [.ref p, nV (f s)]) (Same.refl H10) nU
        have hU : (upd H10 U (.tup [.ref p, nV (f s)])) U = some (.tup [.ref p, nV (f s)]) := upd_same
        generalize upd H10 U (.tup [.ref p, nV (f s)]) = H11 at s11 hU ⊢
        have s911 := s10.trans s11
        have hD11 := s911 _ _ hD9
        have lz : (((rg 8).take i).filter (nzB fr f)).length ≤ 8 := Nat.le_trans (List.length_filter_le ..) (by rw [List.length_take, rl]; exact Nat.min_le_right _ _)
        refine ⟨.ref D, rfl, nV s, rfl, D, _, rfl, DPut.k (k := Sum.inl (s : Int)) hD11 (by rw [kvz_len, sizeLine_eq]; omega), ?_⟩
        rw [kvz_put new]
        have hp0 : H p = none := s6.free (s79.free np)
        have fa := (fx9.fm (S := fun _ => False) (Fm.of s911) (fun b z => z.elim)).add (s := s) (g := f s) (hh := fr s) (T := U) (q := p) (xs := ys.take (fr s).length) new hU hp0 (s11 _ _ hp10) (by
          have z := (py9.mono s911).take (fr s).length
          rw [eF] at z
          exact z)
        refine next_rd ⟨_, _, _, fun u => if u = s then U else t u, rfl, same_updL ((s6.trans s79).trans s911) nD, ?_, upd_same, ?_⟩
        · rw [upd_ne DL]
          exact s911 _ _ hL9
        · refine FrX.updD (ks := kvz (((rg 8).take i).filter (nzB fr f)) t) ?_ hD11
          intro u mu
          obtain ⟨q5, xs5, z1, z2, z3, z4⟩ := fa u mu
          refine ⟨q5, xs5, ?_, z2, z3, ?_⟩
          · by_cases c : u = s
            · subst c
              simpa using z1
            · simpa [c] using z1
          · by_cases c : u = s
            · subst c
              simpa using z4
            · simpa [c] using z4
    · rintro σ H6 ⟨v2, v3, v4, t, rfl, s6, hL6, hD6, fx⟩
      rw [List.length_map, List.length_map, List.take_length] at hD6 fx
      dsimp only
      refine ret_of (tvar_rd (v := .ref D) rfl ?_)
      have mem : ∀ s, s ∈ (rg 8).filter (nzB fr f) ↔ ¬ (fr s = [] ∧ f s = 0) := fun s => by
        rw [List.mem_filter, nzB_iff, rg_mem]
        refine ⟨fun z => z.2, fun z => ⟨?_, z⟩⟩
        by_cases o : V1.okS s
        · exact okS_8 o
        · exact (z (can_still (can s) fun k => sz.still s o k)).elim
      exact k D _ fr f H6 s6 nD ⟨t, hD6, fx⟩ can (List.Pairwise.filter _ (by decide)) mem fun s m => rg_mem.mp (List.mem_filter.mp m).1
end

end K1

set_option Elab.async false
set_option linter.all false
set_option maxRecDepth 100000
set_option maxHeartbeats 4000000
namespace K1
open PySem L2 W1
theorem ifS_join {b : Bool} {A : TS} {D : Ends} {σ : St} {H : Hp} (Pj : St → Hp → Prop) (h : ∀ N : St → Hp → Prop, (∀ σ' H', Pj σ' H' → N σ' H') → if b = true then A { D with nx := N } σ H else tNext { D with nx := N } σ H) (k : ∀ σ' H', Pj σ' H' → D.nx σ' H') : if b = true then A D σ H else tNext D σ H := h D.nx k
theorem plD_self (p : Pl) : PyData.eqv (plD p) (plD p) = true := by
  cases p with
  | obj i =>
    show PyData.eqv (.tuple [.str "object", .int (i : Nat)]) (.tuple [.str "object", .int (i : Nat)]) = true
    simp [PyData.eqv, PyData.eqvAll]
  | pool s k =>
    show PyData.eqv (.tuple [.str "pool", .int (s : Nat), .int (k : Nat)]) (.tuple [.str "pool", .int (s : Nat), .int (k : Nat)]) = true
    simp [PyData.eqv, PyData.eqvAll]
section
variable {P : Program} {w : World} {K : PySem.W.Frag} {mg : Str → Option Value} {base : Heap} {CP CM C : Addr} {σ : St} {H : Hp}
theorem opT_rd {R : R2} {t u : TE} {Q : VK} (h : t σ H fun x H1 => u σ H1 fun y H2 => R x y H2 Q) : tOp R t u σ H Q := h
theorem dt_goal {E : XK} {t u : TE} {b n0 : Nat} {ww : V1.Wd} {v : V} {pl e : Pl} (ht : VE t v σ H) (mv : MvW CM CP H v b ww) (ok : V1.Ok n0 ww) (hu : ∀ H2, Same H H2 → ∀ Q : VK, (∀ x H3, Same H2 H3 → PlAt H3 x pl → Q x H3) → u σ H2 Q) (op : Okp pl) (he : V1.End ww.objs.length e) (ho : V1.org ww e = pl) :
    ∀ H2, Same H H2 → ∀ Q : VK, (∀ x H3, Same H2 H3 → PlAt H3 x e → Q x H3) → tMeth CM "goal" (spMg CM CP) [] E t (tCons u tNil) σ H2 Q := fun H2 s2 Q k => ht H2 s2 _ (by
  obtain ⟨p, dx, fs, rfl, hp, nl⟩ := (mv.mono s2).ins
  exact ⟨p, dx, fs, rfl, hp, nl "goal" (by decide +kernel), cons_rd (hu H2 s2 _ fun x H3 s3 px => ⟨.ref p, x, b, n0, ww, pl, rfl, mv.mono (s2.trans s3), ok, px, op, fun e1 v' H4 s4 h1 h2 pe => k v' H4 (s3.trans s4) (ok.inj e1 e h1 he (h2.trans ho.symm) ▸ pe), fun nc => (nc e he ho).elim⟩)⟩)
theorem dt_org {E : XK} {t u : TE} {b n0 : Nat} {ww : V1.Wd} {v : V} {pl : Pl} (ht : VE t v σ H) (mv : MvW CM CP H v b ww) (ok : V1.Ok n0 ww) (hu : ∀ H2, Same H H2 → ∀ Q : VK, (∀ x H3, Same H2 H3 → PlAt H3 x pl → Q x H3) → u σ H2 Q) (op : Okp pl) (he : V1.End ww.objs.length pl) :
    ∀ H2, Same H H2 → ∀ Q : VK, (∀ x H3, Same H2 H3 → PlAt H3 x (V1.org ww pl) → Q x H3) → tMeth CM "origin" (spMo CM CP) [] E t (tCons u tNil) σ H2 Q := fun H2 s2 Q k => ht H2 s2 _ (by
  obtain ⟨p, dx, fs, rfl, hp, nl⟩ := (mv.mono s2).ins
  exact ⟨p, dx, fs, rfl, hp, nl "origin" (by decide +kernel), cons_rd (hu H2 s2 _ fun x H3 s3 px => ⟨.ref p, x, b, n0, ww, pl, rfl, mv.mono (s2.trans s3), ok, px, op, he, fun v' H4 s4 pe => k v' H4 (s3.trans s4) pe⟩)⟩)
/-- goal(x) where no end has its origin there -/
theorem ve_nogoal {E : XK} {t u : TE} {b n0 : Nat} {ww : V1.Wd} {v : V} {pl : Pl} {H2 : Hp} {Q : VK} (ht : VE t v σ H) (mv : MvW CM CP H v b ww) (ok : V1.Ok n0 ww) (s2 : Same H H2) (hu : ∀ Q : VK, (∀ x H3, Same H2 H3 → PlAt H3 x pl → Q x H3) → u σ H2 Q) (op : Okp pl) (no : ∀ e, V1.End ww.objs.length e → V1.org ww e ≠ pl) (k : ∀ H3, Same H2 H3 → Q .non H3) :
    tMeth CM "goal" (spMg CM CP) [] E t (tCons u tNil) σ H2 Q := ht H2 s2 _ (by
  obtain ⟨p, dx, fs, rfl, hp, nl⟩ := (mv.mono s2).ins
  exact ⟨p, dx, fs, rfl, hp, nl "goal" (by decide +kernel), cons_rd (hu _ fun x H3 s3 px => ⟨.ref p, x, b, n0, ww, pl, rfl, mv.mono (s2.trans s3), ok, px, op, fun e1 v' H4 s4 h1 h2 pe => (no e1 h1 h2).elim, fun _ H4 s4 => k H4 (s3.trans s4)⟩)⟩)
/-- shift(s), in the canonical data of the world -/
theorem ve_shift {E : XK} {t u : TE} {b : Nat} {ww : V1.Wd} {v : V} {s : Nat} {h : List Pl} {g : Nat} (ht : VE t v σ H) (mv : MvW CM CP H v b ww) (hu : VE u (nV s) σ H) (can : V1.CanF s (ww.pool s) h g) (c1 : 1 ≤ s) (c2 : s ≤ 8) {H2 : Hp} (s2 : Same H H2) {Q : VK} (k : ∀ H3, Same H2 H3 → Q (.int ((g : Int) - h.length)) H3) :
    tMeth CM "shift" (spMs CM CP) [] E t (tCons u tNil) σ H2 Q := ht H2 s2 _ (by
  obtain ⟨hs, zs, fr, f, m, _, can2, _, _⟩ := (mv.mono s2).ex
  obtain ⟨e1, e2⟩ := can.uniq (can2 s)
  obtain ⟨p, dx, fs, rfl, hp, nl⟩ := (mv.mono s2).ins
  exact ⟨p, dx, fs, rfl, hp, nl "shift" (by decide +kernel), cons_rd (hu H2 s2 _ ⟨.ref p, s, ww.objs.length, hs, zs, fr, f, rfl, m, c1, c2, fun H3 s3 => by
    have := k H3 s3
    rw [e1, e2] at this
    exact this⟩)⟩)
theorem be_plne {t u : TE} {p : Pl} (h : ∀ H2, Same H H2 → ∀ Q : VK, (∀ x H3, Same H2 H3 → PlAt H3 x p → Q x H3) → t σ H2 Q) (r : ∀ H2, Same H H2 → ∀ Q : VK, (∀ x H3, Same H2 H3 → PlAt H3 x p → Q x H3) → u σ H2 Q) : BE (tTest (tOp (rNeD K) t u)) false σ H := fun H2 s Q k => h H2 s _ fun v H3 s3 a => r H3 (s.trans s3) _ fun w H4 s4 b => by
  refine ⟨plD p, plD p, (a.mono s4).at_.dp (plD_ok p).1, b.at_.dp (plD_ok p).1, (plD_ok p).2, (plD_ok p).2, _, rfl, ?_⟩
  rw [plD_self]
  exact k H4 (s3.trans s4)
end
theorem okp_heads {ww : V1.Wd} (sz : V1.Sz ww) : ∀ p ∈ V1.headsOf ww, Okp p := fun p m => by
  obtain ⟨x, mx, rfl⟩ := List.mem_map.mp m
  obtain ⟨h1, h2⟩ := sz.obj x mx
  cases e : x.1 with
  | obj i => trivial
  | pool u j =>
    rw [h1 u j e]
    exact okS_8 h2
theorem fronts_in' {ww : V1.Wd} {zs : List Nat} {fr : Nat → List Pl} {f : Nat → Nat} (sz : V1.Sz ww) (fo : V1.FrontsOf ww zs fr f) (z8 : ∀ s ∈ zs, 1 ≤ s ∧ s ≤ 8) (few : ∀ s, (fr s).length ≤ 1000) : PoolsIn zs fr := by
  have key : ∀ s ∈ zs, ∀ p ∈ fr s, ∀ u k, p = .pool u k → u = s := fun s m p mp u k e => by
    obtain ⟨i, hi⟩ := List.mem_iff_getElem?.mp mp
    have := fo.at_ s i (List.getElem?_eq_some_iff.mp hi).1
    rw [hi] at this
    exact sz.pool s i u k ((Option.some.inj this).symm.trans e)
  refine ⟨z8, fun s m p mp => ⟨?_, key s m p mp⟩, fun s => Nat.le_trans (few s) (by decide)⟩
  cases p with
  | obj i => trivial
  | pool u k =>
    rw [key s m _ mp u k rfl]
    exact z8 s m
theorem Fm.hide' {S T : Addr → Prop} {H H' H'' : Hp} (f : Fm S H H') (g : Fm T H' H'') (n : ∀ b, T b → H b = none ∨ S b) : Fm S H H'' := fun b o e => by
  rcases f b o e with h | ⟨s, xs, ys, rfl, h⟩
  · rcases g b o h with k | ⟨t, xs, ys, rfl, k⟩
    · exact .inl k
    · rcases n b t with z | z
      · rw [z] at e; cases e
      · exact .inr ⟨z, xs, ys, rfl, k⟩
  · rcases g b _ h with k | ⟨t, xs', ys', e', k⟩
    · exact .inr ⟨s, xs, ys, rfl, k⟩
    · exact .inr ⟨s, xs, ys', rfl, k⟩
theorem lw0_len {zs : List Nat} {s : Nat} : ((lw0 zs).pool s).length = 60 := by
  show ((List.range 60).map (V1.Pl.pool s)).length = 60
  rw [List.length_map, List.length_range]

theorem any_plD {ks : List Pl} {p : Pl} : ((ks.map plD).any fun z => PyData.eqv z (plD p)) = decide (p ∈ ks) := by
  induction ks with
  | nil => rfl
  | cons q ks ih =>
    rw [List.map_cons, List.any_cons, ih, plD_eqv]
    by_cases c : q = p
    · subst c
      simp
    · rw [decide_eq_false c, Bool.false_or]
      simp [List.mem_cons, Ne.symm c, eq_comm]
theorem shaped_plL (ps : List Pl) : SeqAt.shaped (.list (ps.map plD)) = true := by
  obtain ⟨_, h2, h3⟩ := plDs_ok ps
  unfold SeqAt.shaped
  rw [PyData.canLay0, h2, PyData.depth]
  simp
  omega
theorem plL_at {H : Hp} {a : Addr} {xs : List V} {ps : List Pl} (ha : H a = some (.lst xs)) (h : Ps H xs ps) : At H (.ref a) (.list (ps.map plD)) := .lst ha h.atAll
theorem plL_nd (ps : List Pl) : noDic (.list (ps.map plD)) = true := by
  obtain ⟨h1, _, _⟩ := plDs_ok ps
  exact h1
theorem eqv_nil (ds : List PyData) : PyData.eqv (.list ds) (.list []) = ds.isEmpty := by
  cases ds with
  | nil => rfl
  | cons a b => rfl

end K1

set_option Elab.async false
set_option linter.all false
set_option maxRecDepth 100000
set_option maxHeartbeats 4000000
namespace K1
open PySem L2 W1
/-! ### the law's questions of a move's origins -/
section
variable {P : Program} {w : World} {K : PySem.W.Frag} {mg : Str → Option Value} {base : Heap} {CP CM C : Addr} {σ : St} {H : Hp} {t u : TE}
/-- an expression that gives a place -/
abbrev PlE (t : TE) (p : Pl) (σ : St) (H : Hp) : Prop := ∀ H2, Same H H2 → ∀ Q : VK, (∀ x H3, Same H2 H3 → PlAt H3 x p → Q x H3) → t σ H2 Q
/-- an expression that gives a value, whatever it makes -/
abbrev IE (t : TE) (v : V) (σ : St) (H : Hp) : Prop := ∀ H2, Same H H2 → ∀ Q : VK, (∀ H3, Same H2 H3 → Q v H3) → t σ H2 Q
theorem ie_ve {v : V} (h : VE t v σ H) : IE t v σ H := fun H2 s2 Q k => h H2 s2 _ (k H2 (Same.refl _))
theorem pl_ve {v : V} {p : Pl} (h : VE t v σ H) (m : PlAt H v p) : PlE t p σ H := fun H2 s2 Q k => h H2 s2 _ (k v H2 (Same.refl _) (m.mono s2))
theorem pl_obj {n : Nat} (h : IE t (nV n) σ H) : PlE (tTup (tCons (tC (.str "object")) (tCons t tNil))) (.obj n) σ H := fun H2 s2 Q k =>
  ttup_rd (tcons_rd (tc_rd (cons_rd (h H2 s2 _ fun H3 s3 => ⟨by show 2 ≤ sizeLine; decide, fun U nU => k (.ref U) _ (s3.trans (same_new (Same.refl _) nU)) ⟨U, rfl, upd_same⟩⟩))))
theorem pl_pool {s n : Nat} (g : IE t (nV s) σ H) (h : IE u (nV n) σ H) : PlE (tTup (tCons (tC (.str "pool")) (tCons t (tCons u tNil)))) (.pool s n) σ H := fun H2 s2 Q k =>
  ttup_rd (tcons_rd (tc_rd (tcons_rd (g H2 s2 _ fun H3 s3 => cons_rd (h H3 (s2.trans s3) _ fun H4 s4 => ⟨by show 3 ≤ sizeLine; decide, fun U nU => k (.ref U) _ ((s3.trans s4).trans (same_new (Same.refl _) nU)) ⟨U, rfl, upd_same⟩⟩)))))
theorem be_neIE {i j : Int} (h : IE t (.int i) σ H) (r : IE u (.int j) σ H) : BE (tTest (tOp rNe t u)) (!decide (i = j)) σ H := fun H2 s Q k => h H2 s _ fun H3 s3 => r H3 (s.trans s3) _ fun H4 s4 => ⟨rfl, _, rfl, by
  rw [show decide (V.int i = V.int j) = decide (i = j) from decide_eq_decide.mpr ⟨V.int.inj, fun e => by rw [e]⟩]
  exact k H4 (s3.trans s4)⟩
theorem be_notinP {i j : Nat} {x : V} {kn : Addr} {vs : List V} {p : Pl} {ks : List Pl} (e1 : σ[i]? = some (some x)) (e2 : σ[j]? = some (some (.ref kn))) (pa : PlAt H x p) (hk : H kn = some (.lst vs)) (pk : Ps H vs ks) : BE (tTest (tOp (rNotInD K) (tVar i) (tVar j))) (!decide (p ∈ ks)) σ H := fun H2 s2 Q k => by
  refine opT_rd (tvar_rd (v := x) e1 (tvar_rd (v := .ref kn) e2 ⟨plD p, ks.map plD, (pa.mono s2).at_.dp (plD_ok p).1, (plL_at (s2 _ _ hk) (pk.mono s2)).dp (plL_nd ks), (plD_ok p).2, shaped_plL ks, _, rfl, ?_⟩))
  rw [any_plD]
  exact k H2 (Same.refl _)
theorem forR1 {ta : TA} {m : Int} {g : TG} {tb : TS} {D : Ends} (h : VA ta [.int m] σ H) (b : -(2 ^ 62) ≤ m ∧ m < 2 ^ 62) (Pv : Nat → St → Hp → Prop) (h0 : Pv 0 σ H)
    (hs : ∀ i σ H, i < m.toNat → Pv i σ H → g (.int (0 + i)) σ H fun σ2 H2 => tb { D with nx := Pv (i + 1), ct := Pv (i + 1), bk := D.nx } σ2 H2) (hd : ∀ σ H, Pv m.toNat σ H → D.nx σ H) : tFor (iRng1 ta) g tb D σ H :=
  h H (Same.refl _) _ ⟨m, rfl, b.1, b.2, for_range Pv h0 hs hd⟩
end
theorem okp_row {ww : V1.Wd} {s k : Nat} (sz : V1.Sz ww) (h1 : 1 ≤ s) (h2 : s ≤ 8) : Okp (ww.pool s k) := by
  cases e : ww.pool s k with
  | obj i => trivial
  | pool u j =>
    rw [sz.pool s k u j e]
    exact ⟨h1, h2⟩
section
variable {P : Program} {w : World} {K : PySem.W.Frag} {mg : Str → Option Value} {base : Heap} {CP CM C : Addr}
def spLo (CM CP : Addr) : Sp := fun vs H Q _ => ∃ (v : V) (b n0 : Nat) (a ao ap : Addr) (r : Nat → Addr) (ww : V1.Wd) (l : V1.LW) (c : Nat), vs = [v, .ref a] ∧ MvW CM CP H v b ww ∧ V1.Ok n0 ww ∧ WdAt' H a ao ap r l ∧ V1.Rep ww l c ∧ c ≤ 40 ∧ V1.Row60 ww l ∧ V1.Sz ww ∧ ww.objs.length ≤ 100 ∧ (∀ s, (l.pool s).length ≤ 200) ∧ ∀ H', Same H H' → Q (.bl true) H'
theorem sc_law_origins_right : FnScope ["_law_move", "_law_world", "_law_order", "_law_place", "_law_size", "_law_known", "_law_row", "_law_count", "_law_far", "_law_gone"] ["_law_move", "_law_world"] (defScope (top 60)) := ⟨rfl, rfl, rfl, by decide +kernel, rfl, by decide +kernel, by decide +kernel⟩
theorem ok_origins_right {f : Addr} {fd : FuncData} (F : Fun K "_law_origins_right" "_law_origins_right" (top 60) f fd) (B : Bl3 mg) (NM : NoMv K CM) (MG : MetW P w K mg base 5 CM "goal" ["self", "place"] (spMg CM CP)) (MO_ : MetW P w K mg base 5 CM "origin" ["self", "place"] (spMo CM CP)) (MS : MetW P w K mg base 5 CM "shift" ["self", "size"] (spMs CM CP)) : FnOk P w K mg base CX0 6 f fd ["_law_move", "_law_world"] (spLo CM CP) := by
  refine F.ok sc_law_origins_right (fun vs H Q E h => ?_) (fun cdv A outer s H vs Q E hr h => ?_)
  · obtain ⟨v, b, n0, a, ao, ap, r, ww, l, c, rfl, _⟩ := h
    rfl
  · obtain ⟨v, b, n0, a, ao, ap, r, ww, l, c, rfl, mv, ok, wd, rep, hc, r60, sz, n1, lp, k⟩ := h
    refine ⟨_, (pss_cons (ps_for PassesOwn.never rfl (pi_enum rfl B.enumerate (pa_cons (pe_dget (hr1 hr) (pv 1) pe_str (fun _ _ => rfl)) pa_nil)) (pg_tup rfl (pgs_cons (pg_name (i := 2) sc_law_origins_right.nd rfl (Or.inl rfl)) (pgs_cons (pg_tup rfl (pgs_cons (pg_name (i := 3) sc_law_origins_right.nd rfl (Or.inl rfl)) (pgs_cons (pg_name (i := 4) sc_law_origins_right.nd rfl (Or.inl rfl)) pgs_nil))) pgs_nil)))
        (pss_one (ps_if (PW.pt (pw_or (pt_cmpR (op_neD hr.units) (pe_mw MO_ NM.cl hr (by omega) (pv 0) (pa_cons (pe_tup (pa_cons pe_str (pa_cons (pv 2) pa_nil))) pa_nil)) (pv 3) (nomark _)) (pw_or1 (pt_cmpR (op_neD hr.units) (pe_mw MG NM.cl hr (by omega) (pv 0) (pa_cons (pv 3) pa_nil)) (pe_tup (pa_cons pe_str (pa_cons (pv 2) pa_nil))) (nomark _))))) (pss_one (ps_ret pe_bl)) pss_nil)))
      (pss_cons (ps_set (i := 5) sc_law_origins_right.nd rfl (Or.inr rfl) (pe_lc (own := [("_law_place", 3), ("_law_size", 4)]) (g := gTup K 2 (gCons (gName 3) (gCons (gName 4) (gNil)))) (te := tVar 3) (tt := tYes) rfl sc_law_origins_right.nd (pi_list (pe_dget (hr1 hr) (pv 1) pe_str (fun _ _ => rfl))) (blkOk_by (N := ["_law_move", "_law_world", "_law_order", "_law_place", "_law_size", "_law_known", "_law_row", "_law_count", "_law_far", "_law_gone"]) (sc := defScope (top 60)) (by decide +kernel)) (fun _ _ _ _ _ => pg_tup rfl (pgs_cons (pg_name (i := 3) sc_law_origins_right.nd rfl (Or.inl rfl)) (pgs_cons (pg_name (i := 4) sc_law_origins_right.nd rfl (Or.inl rfl)) pgs_nil))) (fun _ _ _ _ _ => pts_nil) (fun _ _ _ _ _ => pv 3)))
      (pss_cons (ps_for PassesOwn.never rfl (pi_range2 rfl B.range (pa_cons pe_int (pa_cons pe_int pa_nil))) (pg_name (i := 4) sc_law_origins_right.nd rfl (Or.inl rfl))
        (pss_cons (ps_set (i := 6) sc_law_origins_right.nd rfl (Or.inl rfl) (pe_dget (hr1 hr) (pe_dget (hr1 hr) (pv 1) pe_str (fun _ _ => rfl)) (pv 4) (fun _ _ => rfl)))
      (pss_cons (ps_set (i := 5) sc_law_origins_right.nd rfl (Or.inr rfl) (pe_op op_cat (pv 5) (pv 6)))
      (pss_cons (ps_for PassesOwn.never rfl (pi_range1 rfl B.range (pa_cons pe_int pa_nil)) (pg_name (i := 7) sc_law_origins_right.nd rfl (Or.inl rfl))
        (pss_one (ps_if (PW.pt (pw_or (pt_cmpR (op_neD hr.units) (pe_mw MO_ NM.cl hr (by omega) (pv 0) (pa_cons (pe_tup (pa_cons pe_str (pa_cons (pv 4) (pa_cons (pv 7) pa_nil)))) pa_nil)) (pe_ix ix_list (pv 6) (pv 7) (fun _ _ => rfl)) (nomark _)) (pw_or1 (pt_cmpR (op_neD hr.units) (pe_mw MG NM.cl hr (by omega) (pv 0) (pa_cons (pe_ix ix_list (pv 6) (pv 7) (fun _ _ => rfl)) pa_nil)) (pe_tup (pa_cons pe_str (pa_cons (pv 4) (pa_cons (pv 7) pa_nil)))) (nomark _))))) (pss_one (ps_ret pe_bl)) pss_nil)))
      (pss_cons (ps_if (pt_cmpR op_ne (pe_mw MS NM.cl hr (by omega) (pv 0) (pa_cons (pv 4) pa_nil)) (pe_op op_sub (pe_op op_add (pe_ix ix_tup (pe_ix ix_list (pv 6) (pe_un un_neg pe_int) (fun _ _ => rfl)) pe_int (fun _ _ => rfl)) pe_int) (pe_callB call_len_seq rfl B.len PySem.boot_len (pa_cons (pv 6) pa_nil))) (nomark _)) (pss_one (ps_ret pe_bl)) pss_nil)
      (pss_cons (ps_set (i := 8) sc_law_origins_right.nd rfl (Or.inl rfl) (pe_tup (pa_cons pe_str (pa_cons (pv 4) (pa_cons (pe_op op_pow pe_int pe_int) pa_nil)))))
      (pss_one (ps_if (PW.pt (pw_or (pt_cmpR (op_neD hr.units) (pe_mw MO_ NM.cl hr (by omega) (pv 0) (pa_cons (pv 8) pa_nil)) (pe_tup (pa_cons pe_str (pa_cons (pv 4) (pa_cons (pe_op op_add (pe_op op_pow pe_int pe_int) (pe_mw MS NM.cl hr (by omega) (pv 0) (pa_cons (pv 4) pa_nil))) pa_nil)))) (nomark _)) (pw_or1 (pt_cmpR (op_neD hr.units) (pe_mw MG NM.cl hr (by omega) (pv 0) (pa_cons (pe_mw MO_ NM.cl hr (by omega) (pv 0) (pa_cons (pv 8) pa_nil)) pa_nil)) (pv 8) (nomark _))))) (pss_one (ps_ret pe_bl)) pss_nil))))))))
      (pss_cons (ps_set (i := 9) sc_law_origins_right.nd rfl (Or.inl rfl) (pe_op op_cat (pe_lc (own := [("_law_order", 2)]) (g := gName 2) (te := tTup (tCons (tC (.str "object")) (tCons (tVar 2) tNil))) (tt := tYes) rfl sc_law_origins_right.nd (pi_range1 rfl B.range (pa_cons pe_int pa_nil)) (blkOk_by (N := ["_law_move", "_law_world", "_law_order", "_law_place", "_law_size", "_law_known", "_law_row", "_law_count", "_law_far", "_law_gone"]) (sc := defScope (top 60)) (by decide +kernel)) (fun _ _ _ _ _ => pg_name (i := 2) sc_law_origins_right.nd rfl (Or.inl rfl)) (fun _ _ _ _ _ => pts_nil) (fun _ _ _ _ _ => pe_tup (pa_cons pe_str (pa_cons (pv 2) pa_nil)))) (pe_lc (own := [("_law_count", 7)]) (g := gName 7) (te := tTup (tCons (tC (.str "pool")) (tCons (tC (.int 1)) (tCons (tVar 7) tNil)))) (tt := tYes) rfl sc_law_origins_right.nd (pi_range1 rfl B.range (pa_cons pe_int pa_nil)) (blkOk_by (N := ["_law_move", "_law_world", "_law_order", "_law_place", "_law_size", "_law_known", "_law_row", "_law_count", "_law_far", "_law_gone"]) (sc := defScope (top 60)) (by decide +kernel)) (fun _ _ _ _ _ => pg_name (i := 7) sc_law_origins_right.nd rfl (Or.inl rfl)) (fun _ _ _ _ _ => pts_nil) (fun _ _ _ _ _ => pe_tup (pa_cons pe_str (pa_cons pe_int (pa_cons (pv 7) pa_nil)))))))
      (pss_one (ps_ret (pe_cmpR (op_eqD hr.units) (pe_lc (own := [("_law_place", 3)]) (g := gName 3) (te := tC (.int 1)) (tt := tAnd (tTest (tOp (rNotInD K) (tVar 3) (tVar 5))) (tTest (tOp (fun x y H Q => y = .non ∧ Q (.bl (!decide (x = .non))) H) (tMeth CM "goal" (spMg CM CP) [] E0 (tVar 0) (tCons (tVar 3) tNil)) (tC .non)))) rfl sc_law_origins_right.nd (pi_list (pv 9)) (blkOk_by (N := ["_law_move", "_law_world", "_law_order", "_law_place", "_law_size", "_law_known", "_law_row", "_law_count", "_law_far", "_law_gone"]) (sc := defScope (top 60)) (by decide +kernel)) (fun _ _ _ _ _ => pg_name (i := 3) sc_law_origins_right.nd rfl (Or.inl rfl)) (fun _ _ _ _ _ => pts_one (PW.pt (pw_and (pt_cmpR (op_notInD (hr65 hr)) (pv 3) (pv 5) rfl) (pw_and1 (pt_cmpR op_notN (pe_mw MG NM.cl hr (by omega) (pv 0) (pa_cons (pv 3) pa_nil)) pe_non (nomark _)))))) (fun _ _ _ _ _ => pe_int)) (pe_lst pa_nil) (nomark _)))))))), ?_⟩
    obtain ⟨fr, f, can⟩ := can_all rep hc
    obtain ⟨os, hao, ob⟩ := wd.ob
    have los : os.length = ww.objs.length := by rw [ob.1, rep.objs]
    have lhw : (V1.headsOf ww).length = ww.objs.length := V1.heads_len
    have vw : ∀ {H5 : Hp} {σ : St}, σ[1]? = some (some (.ref a)) → Same H H5 → VE (tDGet (tVar 1) (tC (.str "pools"))) (.ref ap) σ H5 := fun e s5 => ve_pls (ve_var e) (s5 _ _ wd.wd)
    refine seq_rd ?_
    unfold tFor
    refine (va_cons (ve_obj (ve_var (v := .ref a) rfl) wd.wd) va_nil) H (Same.refl _) _ ⟨ao, os, rfl, SqL.of hao, ?_⟩
    refine for_it walk_enum (fun i σ H5 => ∃ (v2 v3 v4 : Option V), σ = [some v, some (.ref a), v2, v3, v4, none, none, none, none, none] ∧ Same H H5) ⟨none, none, none, rfl, Same.refl _⟩ (fun i σ H5 _ z => by
      obtain ⟨_, _, _, _, z⟩ := z
      exact SqL.of (z _ _ hao)) ?_ ?_
    · rintro i x σ H5 H6 hi ⟨v2, v3, v4, rfl, s5⟩ ⟨T, k1, x1, rfl, nT, rfl, e4, e5⟩
      cases e4
      have e5 : os[i]? = some x1 := e5
      obtain ⟨o, ho⟩ : ∃ o, l.objs[i]? = some o := ⟨_, List.getElem?_eq_getElem (by rw [rep.objs]; omega)⟩
      obtain ⟨bb, vv, e1, e2, e3⟩ := ob.2 i o ho
      rw [e5] at e1
      cases e1
      have s6 := same_new (o := .tup [.int (i : Nat), .ref bb]) (Same.refl H5) nT
      have hT : (upd H5 T (.tup [.int (i : Nat), .ref bb])) T = some (.tup [.int (i : Nat), .ref bb]) := upd_same
      generalize upd H5 T (.tup [.int (i : Nat), .ref bb]) = H6 at s6 hT ⊢
      have s06 := s5.trans s6
      refine ⟨T, [.int (i : Nat), .ref bb], rfl, SqT.of hT, rfl, .int (i : Nat), [.ref bb], rfl, .ref bb, [], rfl, ?_⟩
      refine pair2_rd (x := vv) (y := nV o.2) (s06 _ _ e2) ⟨rfl, ?_⟩
      have hh : (V1.headsOf ww)[i]? = some o.1 := by
        unfold V1.headsOf
        rw [List.getElem?_map, ← rep.objs, ho]
        rfl
      have ho1 : V1.org ww (.obj i) = o.1 := by
        rw [V1.org_obj (x := o) (by rw [← rep.objs]; exact ho)]
      have op : Okp o.1 := okp_heads sz _ (List.mem_of_getElem? hh)
      have en : V1.End ww.objs.length (.obj i) := by show i < _; omega
      have mv6 := mv.mono s06
      have pv3 := e3.mono s06
      have c1 := be_plne (K := K) (dt_org (E := E0) (t := tVar 0) (σ := [some v, some (.ref a), some (nV i), some vv, some (nV o.2), none, none, none, none, none]) (ve_var (v := v) rfl) mv6 ok (pl_obj (n := i) (ie_ve (ve_var (s := 2) rfl))) trivial en) (by rw [ho1]; exact pl_ve (ve_var (s := 3) (v := vv) rfl) pv3)
      have c2 := be_plne (K := K) (dt_goal (E := E0) (t := tVar 0) (σ := [some v, some (.ref a), some (nV i), some vv, some (nV o.2), none, none, none, none, none]) (ve_var (v := v) rfl) mv6 ok (pl_ve (ve_var (s := 3) (v := vv) rfl) pv3) op en ho1) (pl_obj (n := i) (ie_ve (ve_var (s := 2) rfl)))
      refine if_be (be_to (be_or c1 fun _ => c2) rfl) fun H7 s7 => ⟨fun z => absurd z (by decide), fun _ => next_rd ⟨_, _, _, rfl, s06.trans s7⟩⟩
    · rintro σ H5 ⟨v2, v3, v4, rfl, s5⟩
      dsimp only
      have hao5 := s5 _ _ hao
      refine seq_rd (asg_of (lcL (a := ao) (xs := os) (ve_obj (ve_var (v := .ref a) rfl) (s5 _ _ wd.wd)) hao5 (fun D2 j H9 => Same H5 H9 ∧ ∃ zs, H9 D2 = some (.lst zs) ∧ Ps H9 zs ((V1.headsOf ww).take j)) (fun D2 nD2 => ⟨same_new (Same.refl _) nD2, [], upd_same, Ps.nil⟩) (fun D2 j H9 _ z => SqL.of (z.1 _ _ hao5)) (fun D2 j x' H9 nD2 hx z => ?_) (fun kn0 H9 nk0 z => ?_)))
      · obtain ⟨s9, zs3, hD2, pz⟩ := z
        have lj := (List.getElem?_eq_some_iff.mp hx).1
        obtain ⟨o, ho⟩ : ∃ o, l.objs[j]? = some o := ⟨_, List.getElem?_eq_getElem (by rw [rep.objs]; omega)⟩
        obtain ⟨b1, v1, e1, e2, e3⟩ := ob.2 j o ho
        rw [hx] at e1
        cases e1
        refine pair2_rd (x := v1) (y := nV o.2) ((s5.trans s9) _ _ e2) ⟨rfl, ?_⟩
        unfold tYes
        dsimp only
        rw [if_pos rfl]
        have hh2 : (V1.headsOf ww)[j]? = some o.1 := by
          unfold V1.headsOf
          rw [List.getElem?_map, ← rep.objs, ho]
          rfl
        have lz3 := pz.1
        rw [List.length_take] at lz3
        refine tvar_rd (v := v1) rfl ⟨zs3, hD2, by rw [sizeLine_eq]; omega, same_updL s9 nD2, zs3 ++ [v1], upd_same, ?_⟩
        rw [start_drop _ _ _ hh2]
        exact (pz.app (Ps.one (e3.mono (s5.trans s9)))).fm (Fm.upd (S := fun c => c = D2) hD2 rfl)
      obtain ⟨s9, zs3, hkn0, pz0⟩ := z
      rw [los, ← lhw, List.take_length] at pz0
      have s09 := s5.trans s9
      refine next_rd ?_
      dsimp only
      refine seq_rd ?_
      refine forR2 (lo := 1) (hi := 9) (va_cons ve_int (va_cons ve_int va_nil)) ⟨by decide, by decide, by decide, by decide⟩ (fun i σ H10 => ∃ (kn : Addr) (vs : List V) (v2 v3 v4 v6 v7 v8 : Option V), σ = [some v, some (.ref a), v2, v3, v4, some (.ref kn), v6, v7, v8, none] ∧ Same H H10 ∧ H10 kn = some (.lst vs) ∧ Ps H10 vs (V1.headsOf ww ++ (rg i).flatMap l.pool) ∧ vs.length ≤ 100 + 200 * i)
        ⟨kn0, zs3, _, _, _, _, _, _, rfl, s09, hkn0, (by rw [show rg 0 = [] from rfl, List.flatMap_nil, List.append_nil]; exact pz0), by rw [pz0.1]; omega⟩ ?_ ?_
      · rintro i σ H10 hi ⟨kn, vs, v2, v3, v4, v6, v7, v8, rfl, s10, hkn, pk, lk⟩
        have i8 : i < 8 := hi
        rw [show (1 : Int) + (i : Nat) = ((i + 1 : Nat) : Int) by omega]
        obtain ⟨s, hs⟩ : ∃ s, s = i + 1 := ⟨_, rfl⟩
        have hrg : rg (i + 1) = rg i ++ [s] := by rw [rg_succ, hs]
        rw [hrg, ← hs]
        have s18 : 1 ≤ s ∧ s ≤ 8 := by omega
        refine gname_rd ?_
        have wd10 := wd.same s10
        obtain ⟨ys, hr10, py⟩ := wd10.row s s18.1 s18.2
        obtain ⟨q, hq, _, eF, room, mid, eq⟩ := row_at2 rep hc can s
        refine seq_rd (set_v (ve_dget (w := r) (s := s) (vw rfl s10) (ve_var (v := nV s) rfl) (.inl wd10.pl) (rg_mem.mpr s18)) ?_)
        refine next_rd ?_
        dsimp only
        have ly : ys.length = (l.pool s).length := py.1
        have lps := lp s
        refine seq_rd (asg_of (opT_rd (tvar_rd (v := .ref kn) rfl (tvar_rd (v := .ref (r s)) rfl ⟨kn, r s, vs, ys, rfl, rfl, hkn, hr10, by rw [sizeLine_eq]; omega, fun kn1 nk1 => ?_⟩))))
        have s11 := same_new (o := .lst (vs ++ ys)) (Same.refl H10) nk1
        have hk1 : (upd H10 kn1 (.lst (vs ++ ys))) kn1 = some (.lst (vs ++ ys)) := upd_same
        generalize upd H10 kn1 (.lst (vs ++ ys)) = H11 at s11 hk1 ⊢
        have s011 := s10.trans s11
        have pk1 : Ps H11 (vs ++ ys) (V1.headsOf ww ++ (rg i ++ [s]).flatMap l.pool) := by
          rw [List.flatMap_append, ← List.append_assoc]
          have : [s].flatMap l.pool = l.pool s := by simp
          rw [this]
          exact (pk.mono s11).app (py.mono s11)
        refine next_rd ?_
        dsimp only
        refine seq_rd ?_
        refine forR1 (m := 12) (va_cons ve_c va_nil) ⟨by decide, by decide⟩ (fun j σ H12 => ∃ v7 : Option V, σ = [some v, some (.ref a), v2, v3, some (nV s), some (.ref kn1), some (.ref (r s)), v7, v8, none] ∧ Same H11 H12) ⟨v7, rfl, Same.refl _⟩ ?_ ?_
        · rintro j σ H12 hj ⟨v7, rfl, s12⟩
          have hj : j < 12 := hj
          rw [show (0 : Int) + (j : Nat) = ((j : Nat) : Int) by omega]
          have e0 := rep.row s j (by omega)
          have s012 := s011.trans s12
          obtain ⟨vj, hvj, pvj⟩ := ((py.mono (s11.trans s12))).2 j _ e0
          have hr12 := (s11.trans s12) _ _ hr10
          have mv12 := mv.mono s012
          refine gname_rd ?_
          have eix : PlE (tOp (rIxL K) (tVar 6) (tVar 7)) (ww.pool s j) [some v, some (.ref a), v2, v3, some (nV s), some (.ref kn1), some (.ref (r s)), some (nV j), v8, none] H12 := pl_ve (ve_ixL (n := j) (ve_var (v := .ref (r s)) rfl) hr12 (ve_var (v := nV j) rfl) hvj) pvj
          have etu : PlE (tTup (tCons (tC (.str "pool")) (tCons (tVar 4) (tCons (tVar 7) tNil)))) (.pool s j) [some v, some (.ref a), v2, v3, some (nV s), some (.ref kn1), some (.ref (r s)), some (nV j), v8, none] H12 := pl_pool (ie_ve (ve_var rfl)) (ie_ve (ve_var rfl))
          have c1 := be_plne (K := K) (p := ww.pool s j) (dt_org (E := E0) (t := tVar 0) (pl := .pool s j) (ve_var (v := v) rfl) mv12 ok etu s18 trivial) eix
          have c2 := be_plne (K := K) (dt_goal (E := E0) (t := tVar 0) (e := .pool s j) (ve_var (v := v) rfl) mv12 ok eix (okp_row sz s18.1 s18.2) trivial rfl) etu
          refine if_be (be_to (be_or c1 fun _ => c2) rfl) fun H13 s13 => ⟨fun z => absurd z (by decide), fun _ => next_rd ⟨_, rfl, s12.trans s13⟩⟩
        · rintro σ H12 ⟨v7, rfl, s12⟩
          dsimp only
          have s012 := s011.trans s12
          have hr12 := (s11.trans s12) _ _ hr10
          have py12 := py.mono (s11.trans s12)
          have mv12 := mv.mono s012
          -- the shift
          obtain ⟨vz, hvz, az, ez, pz⟩ := py12.2 _ _ hq
          subst ez
          have hat : atI ys (-1) = some (.ref az) := by
            unfold atI ixN
            rw [if_neg (by omega), if_pos (by omega)]
            show ys[((-1 : Int) + (ys.length : Nat)).toNat]? = _
            rw [ly, show ((-1 : Int) + ((l.pool s).length : Nat)).toNat = (l.pool s).length - 1 by omega]
            exact hvz
          have vlast : VE (tOp (rIxL K) (tVar 6) (tUn (rU fun i => .int (-i)) (tC (.int 1)))) (.ref az) [some v, some (.ref a), v2, v3, some (nV s), some (.ref kn1), some (.ref (r s)), v7, v8, none] H12 := fun H2 s2 Q' k' => ⟨.ref (r s), rfl, 1, rfl, r s, ys, -1, _, rfl, rfl, SqL.of (s2 _ _ hr12), hat, k'⟩
          have vright := ve_sub (ve_add (i := (q : Nat)) (j := 1) (ve_ixT (K := K) (n := 2) (v := nV q) vlast pz ve_c rfl) ve_c) (ve_lenL (K := K) (ve_var (s := 6) (σ := [some v, some (.ref a), v2, v3, some (nV s), some (.ref kn1), some (.ref (r s)), v7, v8, none]) (H1 := H12) (v := .ref (r s)) rfl) hr12)
          have vsh : ∀ {v8 : Option V}, IE (tMeth CM "shift" (spMs CM CP) [] E0 (tVar 0) (tCons (tVar 4) tNil)) (.int ((f s : Int) - (fr s).length)) [some v, some (.ref a), v2, v3, some (nV s), some (.ref kn1), some (.ref (r s)), v7, v8, none] H12 := fun H2 s2 Q' k' => ve_shift (ve_var (v := v) rfl) mv12 (ve_var (v := nV s) rfl) (can s) s18.1 s18.2 s2 k'
          refine seq_rd (if_be (be_to (be_neIE vsh (ie_ve vright)) (by rw [decide_eq_true (by omega)])) fun H13 s13 => ⟨fun z => absurd z (by decide), fun _ => ?_⟩)
          refine next_rd ?_
          dsimp only
          -- the far place
          have vp : ∀ {σ : St} {H5 : Hp}, VE (tOp (rI CPow fun i j => .int (i ^ j.toNat)) (tC (.int 10)) (tC (.int 30))) (nV (10 ^ 30)) σ H5 := fun H2 s2 Q k => ⟨10, 30, rfl, rfl, ⟨by decide, by decide, by decide⟩, k⟩
          refine seq_rd (asg_of (pl_pool (s := s) (n := 10 ^ 30) (ie_ve (ve_var rfl)) (ie_ve vp) H13 (Same.refl _) _ fun far H14 s14 pf => ?_))
          refine next_rd ?_
          dsimp only
          have s214 := s13.trans s14
          have mv14 := mv12.mono s214
          have efar : PlE (tVar 8) (.pool s (10 ^ 30)) [some v, some (.ref a), v2, v3, some (nV s), some (.ref kn1), some (.ref (r s)), v7, some far, none] H14 := pl_ve (ve_var (v := far) rfl) pf
          have ero := dt_org (E := E0) (t := tVar 0) (ve_var (σ := [some v, some (.ref a), v2, v3, some (nV s), some (.ref kn1), some (.ref (r s)), v7, some far, none]) (v := v) rfl) mv14 ok efar s18 trivial
          have lim : (fr s).length ≤ 200 := by omega
          have far_ : V1.org ww (.pool s (10 ^ 30)) = .pool s (f s + (10 ^ 30 - (fr s).length)) := (can s).rest (10 ^ 30) (Nat.le_trans lim (by decide))
          have esum : IE (tOp (rI0 fun i j => .int (i + j)) (tOp (rI CPow fun i j => .int (i ^ j.toNat)) (tC (.int 10)) (tC (.int 30))) (tMeth CM "shift" (spMs CM CP) [] E0 (tVar 0) (tCons (tVar 4) tNil))) (nV (f s + (10 ^ 30 - (fr s).length))) [some v, some (.ref a), v2, v3, some (nV s), some (.ref kn1), some (.ref (r s)), v7, some far, none] H14 := fun H2 s2 Q' k' => opT_rd (vp H2 s2 _ (vsh (v8 := some far) H2 (s214.trans s2) _ fun H3 s3 => ⟨_, _, rfl, rfl, by
            have z := k' H3 s3
            have e : (((10 ^ 30 : Nat) : Int) + ((f s : Int) - ((fr s).length : Nat))) = ((f s + (10 ^ 30 - (fr s).length) : Nat) : Int) := by omega
            show Q' (V.int (((10 ^ 30 : Nat) : Int) + ((f s : Int) - ((fr s).length : Nat)))) H3
            rw [e]
            exact z⟩))
          have c1 := be_plne (K := K) ero (by rw [far_]; exact pl_pool (t := tVar 4) (ie_ve (ve_var rfl)) esum)
          have c2 := be_plne (K := K) (dt_goal (E := E0) (t := tVar 0) (e := .pool s (10 ^ 30)) (ve_var (v := v) rfl) mv14 ok ero (okp_row sz s18.1 s18.2) trivial rfl) efar
          refine if_be (be_to (be_or c1 fun _ => c2) rfl) fun H15 s15 => ⟨fun z => absurd z (by decide), fun _ => next_rd ⟨kn1, vs ++ ys, _, _, _, _, _, _, rfl, s012.trans (s214.trans s15), (s12.trans (s214.trans s15)) _ _ hk1, pk1.mono (s12.trans (s214.trans s15)), by rw [List.length_append]; omega⟩⟩
      · rintro σ H10 ⟨kn, vs, v2, v3, v4, v6, v7, v8, rfl, s10, hkn, pk, lk⟩
        dsimp only
        have e88 : ((9 : Int) - 1).toNat = 8 := rfl
        rw [e88] at pk lk
        have pk : Ps H10 vs (V1.known ww l) := pk
        -- the places that are gone
        refine seq_rd (asg_of (opT_rd (lcR1 (m := 8) (va_cons ve_int va_nil) ⟨by decide, by decide⟩ (fun R j H4 => Same H10 H4 ∧ ∃ ys, H4 R = some (.lst ys) ∧ Ps H4 ys ((List.range j).map V1.Pl.obj)) (fun R nR => ⟨same_new (Same.refl _) nR, [], upd_same, Ps.nil⟩) (fun R j H4 nR hj z => ?_) (fun R H4 nR z => ?_))))
        · obtain ⟨s4, ys, hR, py⟩ := z
          have hj : j < 8 := hj
          refine ⟨rfl, ?_⟩
          unfold tYes
          dsimp only
          rw [if_pos rfl]
          rw [show (0 : Int) + (j : Nat) = ((j : Nat) : Int) by omega]
          refine ttup_rd (tcons_rd (tc_rd (cons_rd (tvar_rd (v := nV j) rfl ⟨by show 2 ≤ sizeLine; decide, fun U nU => ?_⟩))))
          have s5 := same_new (o := .tup [.str "object", nV j]) (Same.refl H4) nU
          have hU : (upd H4 U (.tup [.str "object", nV j])) U = some (.tup [.str "object", nV j]) := upd_same
          generalize upd H4 U (.tup [.str "object", nV j]) = H5 at s5 hU ⊢
          have hR5 := s5 _ _ hR
          have ly := py.1
          rw [List.length_map, List.length_range] at ly
          refine ⟨ys, hR5, by rw [sizeLine_eq]; omega, same_updL (s4.trans s5) nR, ys ++ [.ref U], upd_same, ?_⟩
          rw [List.range_succ, List.map_append]
          have p5 := (py.mono s5).app (Ps.one (H := H5) (v := .ref U) (p := V1.Pl.obj j) ⟨U, rfl, hU⟩)
          exact ⟨p5.1, fun a p e => by
            obtain ⟨v, z1, z2⟩ := p5.2 a p e
            exact ⟨v, z1, upd_tup hR5 z2⟩⟩
        obtain ⟨s4, g1, hR, pg1⟩ := z
        refine lcR1 (m := 9) (va_cons ve_int va_nil) ⟨by decide, by decide⟩ (fun R2 j H5 => Same H4 H5 ∧ ∃ ys, H5 R2 = some (.lst ys) ∧ Ps H5 ys ((List.range j).map (V1.Pl.pool 1))) (fun R nR => ⟨same_new (Same.refl _) nR, [], upd_same, Ps.nil⟩) (fun R j H5 nR hj z => ?_) (fun R2 H5 nR2 z => ?_)
        · obtain ⟨s4, ys, hR, py⟩ := z
          have hj : j < 9 := hj
          refine ⟨rfl, ?_⟩
          unfold tYes
          dsimp only
          rw [if_pos rfl]
          rw [show (0 : Int) + (j : Nat) = ((j : Nat) : Int) by omega]
          refine ttup_rd (tcons_rd (tc_rd (tcons_rd (tc_rd (cons_rd (tvar_rd (v := nV j) rfl ⟨by show 3 ≤ sizeLine; decide, fun U nU => ?_⟩))))))
          have s5 := same_new (o := .tup [.str "pool", .int 1, nV j]) (Same.refl H5) nU
          have hU : (upd H5 U (.tup [.str "pool", .int 1, nV j])) U = some (.tup [.str "pool", .int 1, nV j]) := upd_same
          generalize upd H5 U (.tup [.str "pool", .int 1, nV j]) = H6 at s5 hU ⊢
          have hR5 := s5 _ _ hR
          have ly := py.1
          rw [List.length_map, List.length_range] at ly
          refine ⟨ys, hR5, by rw [sizeLine_eq]; omega, same_updL (s4.trans s5) nR, ys ++ [.ref U], upd_same, ?_⟩
          rw [List.range_succ, List.map_append]
          have p5 := (py.mono s5).app (Ps.one (H := H6) (v := .ref U) (p := V1.Pl.pool 1 j) ⟨U, rfl, hU⟩)
          exact ⟨p5.1, fun a p e => by
            obtain ⟨v, z1, z2⟩ := p5.2 a p e
            exact ⟨v, z1, upd_tup hR5 z2⟩⟩
        obtain ⟨s5, g2, hR2, pg2⟩ := z
        have l1 : g1.length = 8 := by rw [pg1.1]; rfl
        have l2 : g2.length = 9 := by rw [pg2.1]; rfl
        refine ⟨R, R2, g1, g2, rfl, rfl, s5 _ _ hR, hR2, by rw [sizeLine_eq]; omega, fun G nG => ?_⟩
        have s6 := same_new (o := .lst (g1 ++ g2)) (Same.refl H5) nG
        have hG : (upd H5 G (.lst (g1 ++ g2))) G = some (.lst (g1 ++ g2)) := upd_same
        generalize upd H5 G (.lst (g1 ++ g2)) = H6 at s6 hG ⊢
        have pg : Ps H6 (g1 ++ g2) ((List.range 8).map V1.Pl.obj ++ (List.range 9).map (V1.Pl.pool 1)) := (pg1.mono (s5.trans s6)).app (pg2.mono s6)
        have s106 := s4.trans (s5.trans s6)
        have s06 := s10.trans s106
        have hkn6 := s106 _ _ hkn
        have pk6 := pk.mono s106
        have mv6 := mv.mono s06
        refine next_rd ?_
        dsimp only
        refine ret_of (opT_rd (lcL (a := G) (xs := g1 ++ g2) (ve_var (v := .ref G) rfl) hG (fun D j H7 => Same H6 H7 ∧ H7 D = some (.lst [])) (fun D nD => ⟨same_new (Same.refl _) nD, upd_same⟩) (fun D j H7 _ z => SqL.of (z.1 _ _ hG)) (fun D j x H7 nD hx z => ?_) (fun D H7 nD z => ?_)))
        · obtain ⟨s7, hD⟩ := z
          obtain ⟨p, hp, pa⟩ := pg.back hx
          have pa := pa.mono s7
          refine gname_rd ⟨rfl, ?_⟩
          have mp := List.mem_of_getElem? hp
          have cA := be_notinP (K := K) (σ := [some v, some (.ref a), v2, some x, v4, some (.ref kn), v6, v7, v8, some (.ref G)]) (i := 3) (j := 5) rfl rfl pa (s7 _ _ hkn6) (pk6.mono s7)
          have whole : BE (tAnd (tTest (tOp (rNotInD K) (tVar 3) (tVar 5))) (tTest (tOp (fun x y H Q => y = .non ∧ Q (.bl (!decide (x = .non))) H) (tMeth CM "goal" (spMg CM CP) [] E0 (tVar 0) (tCons (tVar 3) tNil)) (tC .non)))) false [some v, some (.ref a), v2, some x, v4, some (.ref kn), v6, v7, v8, some (.ref G)] H7 := by
            by_cases m : p ∈ V1.known ww l
            · exact be_to (be_and (c := false) cA fun z => by rw [decide_eq_true m] at z; cases z) (by rw [decide_eq_true m]; rfl)
            · refine be_to (be_and (c := false) cA fun z => ?_) (by rw [Bool.and_false])
              intro H8 s8 Q' k'
              have op : Okp p := by
                rcases List.mem_append.mp mp with mm | mm
                · obtain ⟨i, _, rfl⟩ := List.mem_map.mp mm
                  trivial
                · obtain ⟨i, _, rfl⟩ := List.mem_map.mp mm
                  exact ⟨by decide, by decide⟩
              have no : ∀ e, V1.End ww.objs.length e → V1.org ww e ≠ p := fun e he ho => m (by
                rw [← ho]
                refine V1.org_known rep r60 sz he ?_
                rw [ho]
                rcases List.mem_append.mp mp with mm | mm
                · obtain ⟨i, _, rfl⟩ := List.mem_map.mp mm
                  exact .inl ⟨i, rfl⟩
                · obtain ⟨i, hi, rfl⟩ := List.mem_map.mp mm
                  have := List.mem_range.mp hi
                  exact .inr ⟨1, i, rfl, by decide, by omega⟩)
              exact opT_rd (ve_nogoal (E := E0) (t := tVar 0) (ve_var (v := v) rfl) (mv6.mono s7) ok s8 (fun Q2 k2 => tvar_rd (v := x) rfl (k2 x H8 (Same.refl _) (pa.mono s8))) op no fun H9 s9 => ⟨rfl, _, rfl, k' H9 s9⟩)
          refine whole H7 (Same.refl _) _ fun H8 s8 => ?_
          rw [if_neg (by decide)]
          exact ⟨s7.trans s8, s8 _ _ hD⟩
        · obtain ⟨s7, hD⟩ := z
          refine tlst_rd ⟨Nat.zero_le _, fun N nN => ?_⟩
          have s8 := same_new (o := .lst []) (Same.refl H7) nN
          have hN : (upd H7 N (.lst [])) N = some (.lst []) := upd_same
          generalize upd H7 N (.lst []) = H8 at s8 hN ⊢
          refine ⟨.list [], .list [], (plL_at (ps := []) (s8 _ _ hD) Ps.nil).dp rfl, (plL_at (ps := []) hN Ps.nil).dp rfl, shaped_plL [], shaped_plL [], ?_⟩
          exact k H8 (s06.trans (s7.trans s8))
end

end K1

set_option Elab.async false
set_option linter.all false
set_option maxRecDepth 100000
set_option maxHeartbeats 4000000
namespace K1
open PySem L2 W1
/-! ### pieces of the law -/
section
variable {P : Program} {w : World} {K : PySem.W.Frag} {mg : Str → Option Value} {base : Heap} {CP CM C : Addr} {σ : St} {H : Hp} {t u : TE}
/-- a dict of tuples of a list and a number, the lists no longer than n -/
def LS (zs : List Nat) (t : Nat → Addr) (H : Hp) (n : Nat) : Prop := ∀ s ∈ zs, ∃ q xs g, H (t s) = some (.tup [.ref q, nV g]) ∧ H q = some (.lst xs) ∧ xs.length ≤ n
theorem LS.same {zs : List Nat} {t : Nat → Addr} {H H' : Hp} {n : Nat} (h : LS zs t H n) (s : Same H H') : LS zs t H' n := fun u m => by
  obtain ⟨q, xs, g, e1, e2, e3⟩ := h u m
  exact ⟨q, xs, g, s _ _ e1, s _ _ e2, e3⟩
theorem FrX.ls {H0 H : Hp} {zs : List Nat} {t : Nat → Addr} {fr : Nat → List Pl} {f : Nat → Nat} {n : Nat} (h : FrX H0 H zs t fr f) (few : ∀ s, (fr s).length ≤ n) : LS zs t H n := fun s m => by
  obtain ⟨q, xs, e1, _, e3, e4⟩ := h s m
  exact ⟨q, xs, f s, e1, e3, by rw [e4.1]; exact few s⟩
/-- its lists -/
def Lq (zs : List Nat) (t : Nat → Addr) (H : Hp) : Addr → Prop := fun b => ∃ s ∈ zs, ∃ g, H (t s) = some (.tup [.ref b, nV g])
theorem FrX.lq {H0 H : Hp} {zs : List Nat} {t : Nat → Addr} {fr : Nat → List Pl} {f : Nat → Nat} (h : FrX H0 H zs t fr f) : ∀ b, Lq zs t H b → H0 b = none := fun b z => by
  obtain ⟨s, m, g, e⟩ := z
  obtain ⟨q, xs, e1, e2, _⟩ := h s m
  rw [e] at e1
  cases e1
  exact e2
/-- None at the end of each list of a locked dict of fronts -/
theorem each_none {D : Ends} {d : Addr} {od : Obj} {zs : List Nat} {t : Nat → Addr} {n : Nat} (l9 : 10 < σ.length) (hd : H d = some (.frz od (.dK (kvz zs t)))) (ls : LS zs t H n) (hn : n + zs.length ≤ 100000)
    (k : ∀ x9 x10 H', Fm (Lq zs t H) H H' → H' d = some (.frz od (.dK (kvz zs t))) → D.nx ((σ.set 9 x9).set 10 x10) H') :
    ∃ W : Nat → Nat → St → Hp → Prop, (∃ m, W 0 m σ H) ∧ ∀ i m σ H, W i m σ H →
      ((Itd d od (kvz zs t)).stop i H ∧ D.nx σ H) ∨ ((Itd d od (kvz zs t)).go i H ∧ ∃ N : St → Hp → Prop, (∀ σ' H', N σ' H' → ∃ m', m' < m ∧ W (i + 1) m' σ' H') ∧ ∀ x H', (Itd d od (kvz zs t)).yld i H x H' → gTup K 2 (gCons (gName 9) (gCons (gName 10) gNil)) x σ H' fun σ2 H2 => (tDrop (tBM K "list" rAppend (tVar 9) (tCons (tC .non) tNil))) { D with nx := N, ct := N, bk := D.nx } σ2 H2) := by
  refine for_it walk_values (tb := tDrop (tBM K "list" rAppend (tVar 9) (tCons (tC .non) tNil))) (fun i σ' H' => (∃ x9 x10, σ' = (σ.set 9 x9).set 10 x10) ∧ Fm (Lq zs t H) H H' ∧ H' d = some (.frz od (.dK (kvz zs t))) ∧ LS zs t H' (n + i)) ⟨⟨σ[9]'(by omega), σ[10]'(by omega), ?_⟩, Fm.refl, hd, ls⟩ (fun i σ' H' _ z => z.2.2.1) ?_ ?_
  · rw [List.set_getElem_self, List.set_getElem_self]
  · rintro i x σ' H2 H1 hi ⟨⟨x9, x10, rfl⟩, f1, hd1, ls1⟩ ⟨rfl, k0, hk⟩
    obtain ⟨s, hs, rfl, rfl⟩ := kvz_get hk
    have m := List.mem_of_getElem? hs
    obtain ⟨q, xs, g, e1, e2, e3⟩ := ls1 s m
    rw [kvz_len] at hi
    refine pair2_rd (x := .ref q) (y := nV g) e1 ?_
    have e9 : (((((σ.set 9 x9).set 10 x10).set 9 (some (.ref q))).set 10 (some (nV g))))[9]? = some (some (.ref q)) := by
      rw [List.getElem?_set_ne (by decide), List.getElem?_set_self]
      rw [List.length_set, List.length_set]
      omega
    refine ⟨.ref q, e9, .inl ⟨rfl, _, SqL.of e2⟩, cons_rd (tc_rd ⟨q, xs, .non, rfl, rfl, e2, by rw [sizeLine_eq]; omega, ?_⟩)⟩
    have back : Lq zs t H q := by
      obtain ⟨q0, xs0, g0, a1, a2, a3⟩ := ls s m
      have := f1.tup a1
      rw [e1] at this
      cases this
      exact ⟨s, m, g, a1⟩
    have fu : Fm (Lq zs t H) H1 (upd H1 q (.lst (xs ++ [.non]))) := Fm.upd e2 back
    have qd : d ≠ q := fun z => by rw [z, e2] at hd1; cases hd1
    refine ⟨⟨some (.ref q), some (nV g), ?_⟩, f1.trans fu, by rw [upd_ne qd]; exact hd1, fun u mu => ?_⟩
    · rw [List.set_comm _ _ (by decide : (10 : Nat) ≠ 9), List.set_set, List.set_set]
    · obtain ⟨q2, xs2, g2, a1, a2, a3⟩ := ls1 u mu
      by_cases c : q2 = q
      · subst c
        rw [e2] at a2
        cases a2
        exact ⟨q2, xs ++ [.non], g2, fu.tup a1, upd_same, by rw [List.length_append]; show _ + 1 ≤ _; omega⟩
      · exact ⟨q2, xs2, g2, fu.tup a1, by rw [upd_ne c]; exact a2, by omega⟩
  · rintro σ' H1 ⟨⟨x9, x10, rfl⟩, f1, hd1, _⟩
    exact k x9 x10 H1 f1 hd1
theorem same_of_fm {S : Addr → Prop} {H0 H H' : Hp} (s : Same H0 H) (f : Fm S H H') (n : ∀ b, S b → H0 b = none) : Same H0 H' := fun b o e => by
  rcases f b o (s b o e) with h | ⟨z, _⟩
  · exact h
  · rw [n b z] at e
    cases e
/-- a dict that is not the plan's own is cleared -/
theorem MvW.clear {v : V} {b : Nat} {ww : V1.Wd} {d : Addr} {zs : List Nat} {t : Nat → Addr} (h : MvW CM CP H v b ww) (hd : H d = some (.dK (kvz zs t))) (ls : ∀ s ∈ zs, ∃ q xs g, H (t s) = some (.tup [.ref q, nV g]) ∧ H q = some (.lst xs)) : MvW CM CP (upd H d (.dK [])) v b ww := by
  cases zs with
  | nil =>
    refine h.mono fun c o e => ?_
    by_cases z : c = d
    · subst z
      rw [hd] at e
      rw [upd_same]
      exact e
    · rw [upd_ne z]
      exact e
  | cons s zs =>
    obtain ⟨hs, z2, fr, f, ⟨p, dx, q, e, hp, pa⟩, r⟩ := h.ex
    have l : Lk d H (upd H d (.dK [])) := Lk.start
    have nI : ∀ {c C dx : Addr} {fs : List (Str × V)}, H c = some (.ins C dx fs) → c ≠ d := fun z e => by rw [e, hd] at z; cases z
    have nT : ∀ {c : Addr} {xs : List V}, H c = some (.tup xs) → c ≠ d := fun z e => by rw [e, hd] at z; cases z
    refine ⟨hs, z2, fr, f, ⟨p, dx, q, e, l _ _ hp (nI hp), ?_⟩, r⟩
    obtain ⟨⟨dx2, th, df, dg, hv, h1, h2, h3, ⟨t2, h4, h5⟩⟩, o, c, ⟨x1, x2, x3, x4, g1, ⟨kvs, g2, g3⟩⟩⟩ := pa
    have nf : df ≠ d := fun z => by
      rw [z, hd] at h4
      cases z2 with
      | nil => cases h4
      | cons s2 z2 =>
        unfold kvz at h4
        rw [List.map_cons, List.map_cons] at h4
        injection h4 with h4
        injection h4 with h4
        injection h4 with h4 _
        injection h4 with _ h4
        injection h4 with h4
        obtain ⟨q1, xs1, g1, a1, a2⟩ := ls s List.mem_cons_self
        obtain ⟨q3, xs3, b1, b2, _⟩ := h5.each s2 List.mem_cons_self
        rw [h4, b1] at a1
        have a1 := Option.some.inj a1
        injection a1 with a1
        injection a1 with a1 _
        injection a1 with a1
        have b2 : H q3 = some (.tup xs3) := b2
        rw [← a1, b2] at a2
        cases a2
    have ng : x4 ≠ d := fun z => by rw [z, hd] at g2; cases g2
    refine ⟨⟨dx2, th, df, dg, hv, l _ _ h1 (nI h1), l _ _ h2 (nT h2), l.ps h3 hd, ⟨t2, l _ _ h4 nf, l.frc h5 hd⟩⟩, o, c, ⟨x1, x2, x3, x4, l _ _ g1 (nI g1), kvs, l _ _ g2 ng, ?_⟩⟩
    exact g3.upd' hd (fun xs => nofun)
/-- an expression that gives a move told of a world -/
def EM (CM CP : Addr) (t : TE) (b : Nat) (ww : V1.Wd) (σ : St) (H : Hp) : Prop := ∀ H2, Same H H2 → ∀ Q : VK, (∀ v H3, Same H2 H3 → MvW CM CP H3 v b ww → Q v H3) → t σ H2 Q
theorem em_ve {v : V} {b : Nat} {ww : V1.Wd} (h : VE t v σ H) (m : MvW CM CP H v b ww) : EM CM CP t b ww σ H := fun H2 s2 Q k => h H2 s2 _ (k v H2 (Same.refl _) (m.mono s2))
theorem em_make {hd' pd : Addr} {hv : List V} {zs2 : List Nat} {fr : Nat → List Pl} {f : Nat → Nat} {ww : V1.Wd} {n : Nat} (ht : VE t (.ref hd') σ H) (hu : VE u (.ref pd) σ H) (hh : H hd' = some (.lst hv)) (ph : Ps H hv (V1.headsOf ww)) (fg : FrG true H pd zs2 fr f) (fo : V1.FrontsOf ww zs2 fr f) (z8 : ∀ s ∈ zs2, 1 ≤ s ∧ s ≤ 8) (few : ∀ s, (fr s).length ≤ 100) (okw : V1.Ok n ww) (sz : V1.Sz ww) (n1 : ww.objs.length ≤ 100) :
    EM CM CP (tMake CM (spMvI CM CP) [] E0 (tCons t (tCons u tNil))) 100 ww σ H := fun H2 s2 Q k => by
  refine tmake_rd (tcons_rd (ht H2 s2 _ (cons_rd (hu H2 s2 _ fun x dx nx ndx ne => ?_))))
  have mk := made_same (H := H2) (H1 := upd (upd H2 dx (.own x)) x (.ins CM dx [])) nx ndx (fun b o e n => e)
  have smk := s2.trans mk
  refine ⟨x, dx, _, _, rfl, upd_same, .inr ⟨hd', pd, hv, V1.headsOf ww, zs2, fr, f, rfl, rfl, smk _ _ hh, ph.mono smk, okp_heads sz, fg.mono smk, ⟨by rw [V1.heads_len]; omega, fo.nd, z8, fun s => Nat.le_trans (few s) (by decide), fo.off⟩, fronts_in' sz fo z8 (fun s => Nat.le_trans (few s) (by decide)), V1.origins_nodup okw fo, V1.origins_fresh okw fo, fun H8 ys l8 mvA => ⟨rfl, ?_⟩⟩⟩
  have s8 := made_same nx ndx l8
  rw [V1.heads_len] at mvA
  refine k _ H8 s8 ⟨_, ys, _, _, mvA, ?_, V1.fronts_can fo, ?_, fun s => ?_⟩
  · have := V1.heads_can (w := ww)
    rw [V1.heads_len] at this
    exact this
  · rw [List.length_take]
    refine Nat.le_trans (Nat.min_le_right _ _) ?_
    rw [V1.heads_len]
    omega
  · show ((fr s).take _).length ≤ _
    rw [List.length_take]
    have := few s
    omega
end

end K1

set_option Elab.async false
set_option linter.all false
set_option maxRecDepth 100000
set_option maxHeartbeats 4000000
namespace K1
open PySem L2 W1
/-! ### what the law is due to be told -/
/-- the pair of a world's places and its short fronts -/
structure DueAt (H0 H : Hp) (T D : Addr) (ww : V1.Wd) : Prop where
  ex : ∃ (L : Addr) (xs : List V) (zs : List Nat) (fr : Nat → List Pl) (f : Nat → Nat), H T = some (.tup [.ref L, .ref D]) ∧ H0 L = none ∧ H L = some (.lst xs) ∧ Ps H xs (V1.headsOf ww) ∧ FrN H0 H D zs fr f ∧ (∀ s, V1.CanF s (ww.pool s) (fr s) (f s)) ∧ zs.Pairwise (· < ·) ∧ (∀ s, s ∈ zs ↔ ¬ (fr s = [] ∧ f s = 0)) ∧ (∀ s ∈ zs, 1 ≤ s ∧ s ≤ 8)
theorem DueAt.fm {S : Addr → Prop} {H0 H H' : Hp} {T D : Addr} {ww : V1.Wd} (h : DueAt H0 H T D ww) (s : Fm S H H') (n : ∀ b, S b → H0 b ≠ none) : DueAt H0 H' T D ww := by
  obtain ⟨L, xs, zs, fr, f, e1, e0, e2, e3, ⟨t, e4, e5⟩, r⟩ := h.ex
  exact ⟨L, xs, zs, fr, f, s.tup e1, e0, s.keep e2 (fun z => n L z e0), e3.fm s, ⟨t, s.dk e4, e5.fm s n⟩, r⟩
theorem DueAt.mono {H0 H H' : Hp} {T D : Addr} {ww : V1.Wd} (h : DueAt H0 H T D ww) (s : Same H H') : DueAt H0 H' T D ww := h.fm (S := fun _ => False) (Fm.of s) fun b z => z.elim
theorem DueAt.there {H0 H : Hp} {T D : Addr} {ww : V1.Wd} (h : DueAt H0 H T D ww) : (∃ xs, H T = some (.tup xs)) ∧ H D ≠ none := by
  obtain ⟨L, xs, zs, fr, f, e1, e0, e2, e3, ⟨t, e4, _⟩, r⟩ := h.ex
  exact ⟨⟨_, e1⟩, by rw [e4]; exact nofun⟩
theorem Pairwise.nodup' {zs : List Nat} (h : zs.Pairwise (· < ·)) : zs.Nodup := h.imp fun z => by omega
theorem dict_iff {zs ys : List Nat} {fr fr' : Nat → List Pl} {f f' : Nat → Nat} (a1 : zs.Pairwise (· < ·)) (a2 : ∀ s, s ∈ zs ↔ ¬ (fr s = [] ∧ f s = 0)) (b1 : ys.Pairwise (· < ·)) (b2 : ∀ s, s ∈ ys ↔ ¬ (fr' s = [] ∧ f' s = 0)) :
    ((frD true zs fr f).length == (frD true ys fr' f').length && eqKv (frD true ys fr' f') (frD true zs fr f)) = true ↔ ∀ s, fr s = fr' s ∧ f s = f' s := by
  rw [frD_eq (Pairwise.nodup' a1) (Pairwise.nodup' b1)]
  constructor
  · rintro ⟨m, e⟩ s
    by_cases c : s ∈ zs
    · exact e s c
    · have h1 := Classical.byContradiction fun z => c ((a2 s).mpr z)
      have h2 := Classical.byContradiction fun z => c ((m s).mpr ((b2 s).mpr z))
      rw [h1.1, h1.2, h2.1, h2.2]
      exact ⟨rfl, rfl⟩
  · intro e
    refine ⟨fun s => ?_, fun s _ => e s⟩
    rw [a2, b2, (e s).1, (e s).2]
theorem mvT_eq {hs : List Pl} {zs ys : List Nat} {fr fr' : Nat → List Pl} {f f' : Nat → Nat} (a1 : zs.Pairwise (· < ·)) (a2 : ∀ s, s ∈ zs ↔ ¬ (fr s = [] ∧ f s = 0)) (b1 : ys.Pairwise (· < ·)) (b2 : ∀ s, s ∈ ys ↔ ¬ (fr' s = [] ∧ f' s = 0)) (e : ∀ s, fr s = fr' s ∧ f s = f' s) :
    mvT hs zs fr f = (((("Move(" : Str) ++ (PyData.list (hs.map plD)).shown) ++ (", " : Str)) ++ (frK ys fr' f').shown) ++ (")" : Str) := by
  obtain rfl : fr = fr' := funext fun s => (e s).1
  obtain rfl : f = f' := funext fun s => (e s).2
  obtain rfl : zs = ys := sorted_same a1 b1 fun s => by rw [a2, b2]
  unfold mvT
  rw [PySem.Str.append_left_empty (x := Str.empty) rfl]
section
variable {P : Program} {w : World} {K : PySem.W.Frag} {mg : Str → Option Value} {base : Heap} {CP CM C : Addr} {σ : St} {H : Hp} {t u : TE}
theorem em_objects {E : XK} {v : V} {b : Nat} {ww : V1.Wd} (ht : VE t v σ H) (mv : MvW CM CP H v b ww) (n1 : ww.objs.length ≤ 10000) {H2 : Hp} (s2 : Same H H2) {Q : VK} (k : ∀ q xs H3, Same H2 H3 → H2 q = none → H3 q = some (.lst xs) → Ps H3 xs (V1.headsOf ww) → Q (.ref q) H3) :
    tMeth CM "objects" (spMbP CM CP) [] E t tNil σ H2 Q := ht H2 s2 _ (by
  obtain ⟨p, dx, fs, rfl, hp, nl⟩ := (mv.mono s2).ins
  exact ⟨p, dx, fs, rfl, hp, nl "objects" (by decide +kernel), ⟨.ref p, b, ww, rfl, mv.mono s2, n1, k⟩⟩)
theorem em_pools {E : XK} {v : V} {b : Nat} {ww : V1.Wd} (ht : VE t v σ H) (mv : MvW CM CP H v b ww) {H2 : Hp} (s2 : Same H H2) {Q : VK} (k : ∀ q zs fr f H', Same H2 H' → H2 q = none → FrN H2 H' q zs fr f → (∀ s, V1.CanF s (ww.pool s) (fr s) (f s)) → zs.Pairwise (· < ·) → (∀ s, s ∈ zs ↔ ¬ (fr s = [] ∧ f s = 0)) → zs.length ≤ 8 → (∀ s, (fr s).length ≤ b) → Q (.ref q) H') :
    tMeth CM "pools" (spMp CM CP) [] E t tNil σ H2 Q := ht H2 s2 _ (by
  obtain ⟨p, dx, fs, rfl, hp, nl⟩ := (mv.mono s2).ins
  exact ⟨p, dx, fs, rfl, hp, nl "pools" (by decide +kernel), ⟨.ref p, b, ww, rfl, mv.mono s2, k⟩⟩)
theorem em_repr {v : V} {b : Nat} {ww : V1.Wd} (ht : VE t v σ H) (mv : MvW CM CP H v b ww) (sm : SmW ww) {H2 : Hp} (s2 : Same H H2) {Q : VK} (k : ∀ zs fr f H', Same H2 H' → (∀ s, V1.CanF s (ww.pool s) (fr s) (f s)) → zs.Pairwise (· < ·) → (∀ s, s ∈ zs ↔ ¬ (fr s = [] ∧ f s = 0)) → Q (.str (mvT (V1.headsOf ww) zs fr f)) H') :
    tCB (rOwnR CM (spRp CM CP)) (tCons t tNil) σ H2 Q := cons_rd (ht H2 s2 _ (by
  obtain ⟨p, dx, fs, rfl, hp, nl⟩ := (mv.mono s2).ins
  exact ⟨p, dx, fs, rfl, hp, ⟨.ref p, b, ww, rfl, mv.mono s2, sm, fun zs fr f H' s' c1 c2 c3 => ⟨_, rfl, k zs fr f H' s' c1 c2 c3⟩⟩⟩))
theorem be_pairT {v : V} {b : Nat} {ww : V1.Wd} {T D : Addr} {H0 : Hp} (hv : VE t v σ H) (mv : MvW CM CP H v b ww) (n1 : ww.objs.length ≤ 10000) (hu : VE u (.ref T) σ H) (due : DueAt H0 H T D ww) :
    BE (tTest (tOp (rPair true K) (tTup (tCons (tMeth CM "objects" (spMbP CM CP) [] E0 t tNil) (tCons (tMeth CM "pools" (spMp CM CP) [] E0 t tNil) tNil))) u)) false σ H := fun H2 s2 Q k => by
  refine opT_rd (ttup_rd (tcons_rd (em_objects hv mv n1 s2 fun q xs H3 s3 nq hq pq => cons_rd (em_pools hv mv (s2.trans s3) fun d zs fr f H4 s4 nd fn can srt iff lz few => ⟨by show 2 ≤ sizeLine; decide, fun U nU => ?_⟩))))
  have s5 := same_new (o := .tup [.ref q, .ref d]) (Same.refl H4) nU
  have hU : (upd H4 U (.tup [.ref q, .ref d])) U = some (.tup [.ref q, .ref d]) := upd_same
  generalize upd H4 U (.tup [.ref q, .ref d]) = H5 at s5 hU ⊢
  have s25 := s3.trans (s4.trans s5)
  refine hu H5 (s2.trans s25) _ ?_
  obtain ⟨L, ys, z2, fr2, f2, e1, _, e2, e3, e4, c2, srt2, iff2, z8⟩ := (due.mono (s2.trans s25)).ex
  have h4 := fn.g.mono s5
  have ne : V.ref d ≠ V.ref D := fun z => by
    injection z with z
    rw [z] at nd
    have := (due.mono (s2.trans s3)).there.2
    exact this nd
  refine ⟨U, T, _, _, _, _, .list ((V1.headsOf ww).map plD), .list ((V1.headsOf ww).map plD), _, _, rfl, rfl, hU, e1, (plL_at ((s4.trans s5) _ _ hq) (pq.mono (s4.trans s5))).dp (plL_nd _), (plL_at e2 e3).dp (plL_nd _), shaped_plL _, shaped_plL _, frG_dic h4, frG_dic e4.g, ne, frD_shp, frD_shp, _, rfl, ?_⟩
  rw [PyData.eqv, plDs_eqv, decide_eq_true rfl, (dict_iff srt iff srt2 iff2).mpr fun s => (can s).uniq (c2 s)]
  exact k H5 s25
theorem be_reprT {v : V} {b : Nat} {ww : V1.Wd} {T D : Addr} {H0 : Hp} (hv : VE t v σ H) (mv : MvW CM CP H v b ww) (sm : SmW ww) (hu : VE u (.ref T) σ H) (due : DueAt H0 H T D ww) :
    BE (tTest (tOp rNe (tCB (rOwnR CM (spRp CM CP)) (tCons t tNil)) (tOp (fun x y H Q => ∃ i j, x = .str i ∧ y = .str j ∧ i.length + j.length ≤ sizeLine ∧ Q (.str (i ++ j)) H) (tOp (fun x y H Q => ∃ i j, x = .str i ∧ y = .str j ∧ i.length + j.length ≤ sizeLine ∧ Q (.str (i ++ j)) H) (tOp (fun x y H Q => ∃ i j, x = .str i ∧ y = .str j ∧ i.length + j.length ≤ sizeLine ∧ Q (.str (i ++ j)) H) (tOp (fun x y H Q => ∃ i j, x = .str i ∧ y = .str j ∧ i.length + j.length ≤ sizeLine ∧ Q (.str (i ++ j)) H) (tC (.str "Move(")) (tCB (rShow K) (tCons (tOp (rIxT K) u (tC (.int 0))) tNil))) (tC (.str ", "))) (tCB (rShow K) (tCons (tOp (rIxT K) u (tC (.int 1))) tNil))) (tC (.str ")"))))) false σ H := fun H2 s2 Q k => by
  refine opT_rd (em_repr hv mv sm s2 fun zs fr f H3 s3 can srt iff => ?_)
  have s23 := s2.trans s3
  obtain ⟨L, ys, z2, fr2, f2, e1, _, e2, e3, e4, c2, srt2, iff2, z8⟩ := (due.mono s23).ex
  have v0 : VE (tOp (rIxT K) u (tC (.int 0))) (.ref L) σ H3 := ve_ixT (n := 0) (fun H4 s4 => hu H4 (s23.trans s4)) e1 ve_c rfl
  have v1 : VE (tOp (rIxT K) u (tC (.int 1))) (.ref D) σ H3 := ve_ixT (n := 1) (fun H4 s4 => hu H4 (s23.trans s4)) e1 ve_c rfl
  have sl := sizeLine_eq
  have a1 := sm.heads
  obtain ⟨w1, w2, _⟩ := id a1
  have ea := sm.each (fun s m => (z8 s m).2) c2
  have lz : z2.length ≤ 8 := nodup_le 8 z2 (Pairwise.nodup' srt2) z8
  have a2 := frK_sh (fr := fr2) (f := f2) lz ea
  obtain ⟨w3, w4, _⟩ := id a2
  have l1 : ("Move(" : Str).length = 5 := rfl
  have l2 : (", " : Str).length = 2 := rfl
  have l3 : (")" : Str).length = 1 := rfl
  refine opT_rd (opT_rd (opT_rd (opT_rd (tc_rd (cons_rd (v0 H3 (Same.refl _) _ ⟨_, _, rfl, list_shv e2 e3, a1.ok, ⟨_, _, rfl, rfl, by omega, tc_rd ⟨_, _, rfl, rfl, by rw [Str.length_append]; omega, ?_⟩⟩⟩))))))
  refine cons_rd (v1 H3 (Same.refl _) _ ⟨_, _, rfl, dict_shv e4.g ea, a2.ok, ⟨_, _, rfl, rfl, by rw [Str.length_append, Str.length_append]; omega, tc_rd ⟨_, _, rfl, rfl, by rw [Str.length_append, Str.length_append, Str.length_append]; omega, ?_⟩⟩⟩)
  refine ⟨rfl, _, rfl, ?_⟩
  rw [mvT_eq srt iff srt2 iff2 fun s => (can s).uniq (c2 s), decide_eq_true rfl]
  exact k H3 s3
/-! ### moves beside one another -/
theorem mvw_eq {b c : Nat} {w1 w2 : V1.Wd} {neg : Bool} (h : EM CM CP t b w1 σ H) (g : EM CM CP u c w2 σ H) {fr1 fr2 : Nat → List Pl} {f1 f2 : Nat → Nat} (c1 : ∀ s, V1.CanF s (w1.pool s) (fr1 s) (f1 s)) (c2 : ∀ s, V1.CanF s (w2.pool s) (fr2 s) (f2 s)) {H2 : Hp} (s2 : Same H H2) {Q : VK}
    (k : ∀ (r : Bool) H3, Same H2 H3 → (r = true ↔ V1.headsOf w1 = V1.headsOf w2 ∧ ∀ s, fr1 s = fr2 s ∧ f1 s = f2 s) → Q (.bl (neg != r)) H3) : tOp (rOwnE CM (spEqG CM CP K) E0 neg) t u σ H2 Q := h H2 s2 _ fun v H3 s3 mv => g H3 (s2.trans s3) _ fun u' H4 s4 mu => by
  obtain ⟨p, dx, fs, rfl, hp, _⟩ := (mv.mono s4).ins
  obtain ⟨q, dy, gs, rfl, hq, _⟩ := mu.ins
  obtain ⟨h1, z1, fa, ga, m1, d1, e1, _, _⟩ := (mv.mono s4).ex
  obtain ⟨h2, z2, fb, gb, m2, d2, e2, _, _⟩ := mu.ex
  refine ⟨p, dx, fs, rfl, hp, .ins hq, ⟨.ref p, .ref q, _, h1, z1, fa, ga, rfl, m1, .inl ⟨_, h2, z2, fb, gb, m2, fun r H5 s5 iff => ⟨r, rfl, k r H5 ((s3.trans s4).trans s5) (iff.trans ?_)⟩⟩⟩⟩
  have ua := fun s => (c1 s).uniq (e1 s)
  have ub := fun s => (c2 s).uniq (e2 s)
  have fr_ : (∀ s, fa s = fb s ∧ ga s = gb s) ↔ ∀ s, fr1 s = fr2 s ∧ f1 s = f2 s := by
    constructor
    · intro z s
      rw [(ua s).1, (ua s).2, (ub s).1, (ub s).2]
      exact z s
    · intro z s
      rw [← (ua s).1, ← (ua s).2, ← (ub s).1, ← (ub s).2]
      exact z s
  have hd_ : (w1.objs.length = w2.objs.length ∧ h1 = h2) ↔ V1.headsOf w1 = V1.headsOf w2 := by
    constructor
    · rintro ⟨n, e⟩
      rw [← objsD_eq d1, ← objsD_eq d2, n, e]
    · intro e
      have n : w1.objs.length = w2.objs.length := by
        have := congrArg List.length e
        rw [V1.heads_len, V1.heads_len] at this
        exact this
      refine ⟨n, ?_⟩
      rw [← n] at d2
      refine (d1.congr fun i hi => ?_).uniq d2
      have z1 := V1.heads_get (w := w1) hi
      have z2 := V1.heads_get (w := w2) (i := i) (by omega)
      rw [e, z2] at z1
      exact (Option.some.inj z1).symm
  rw [← and_assoc, hd_, fr_]
theorem mvw_other {v : V} {b : Nat} {ww : V1.Wd} {T : String} (h : VE t v σ H) (mv : MvW CM CP H v b ww) (mT : T ∈ (["tuple", "str"] : List String)) {H2 : Hp} (s2 : Same H H2) (hu : ∀ Q' : VK, (∀ H3 x, Same H2 H3 → (∀ H4, Same H3 H4 → TyX K H4 x (.type T)) → RightV CM H3 x → Q' x H3) → u σ H2 Q') {Q : VK} (k : ∀ H3, Same H2 H3 → Q (.bl false) H3) :
    tOp (rOwnE CM (spEqG CM CP K) E0 false) t u σ H2 Q := h H2 s2 _ (hu _ fun H3 x s3 ty rv => by
  obtain ⟨p, dx, fs, rfl, hp, _⟩ := (mv.mono (s2.trans s3)).ins
  obtain ⟨h1, z1, fa, ga, m1, d1, e1, _, _⟩ := (mv.mono (s2.trans s3)).ex
  exact ⟨p, dx, fs, rfl, hp, rv, ⟨.ref p, x, _, h1, z1, fa, ga, rfl, m1, .inr ⟨⟨T, mT, ty⟩, fun H5 s5 => ⟨false, rfl, k H5 (s3.trans s5)⟩⟩⟩⟩)
end

end K1

set_option Elab.async false
set_option linter.all false
set_option maxRecDepth 100000
set_option maxHeartbeats 4000000
namespace K1
open PySem L2 W1
/-! ### pieces of the law, more -/
theorem tpar_rd {i j : Nat} {ta : TA} {D : Ends} {σ : St} {H : Hp} (h : ta σ H fun vs H1 => ∃ v w, vs = [v, w] ∧ D.nx ((σ.set i (some v)).set j (some w)) H1) : tPar i j ta D σ H := h
theorem LS.snoc {zs : List Nat} {t : Nat → Addr} {H : Hp} {n : Nat} {l : Addr} {xs : List V} {v : V} (h : LS zs t H n) (e : H l = some (.lst xs)) : LS zs t (upd H l (.lst (xs ++ [v]))) (n + 1) := fun u m => by
  obtain ⟨q, ys, g, e1, e2, e3⟩ := h u m
  have c1 : t u ≠ l := fun z => by rw [z, e] at e1; cases e1
  by_cases c : q = l
  · subst c
    rw [e] at e2
    cases e2
    exact ⟨q, xs ++ [v], g, by rw [upd_ne c1]; exact e1, upd_same, by rw [List.length_append]; show _ + 1 ≤ _; omega⟩
  · exact ⟨q, ys, g, by rw [upd_ne c1]; exact e1, by rw [upd_ne c]; exact e2, by omega⟩
theorem LS.lk {zs : List Nat} {t : Nat → Addr} {H H' : Hp} {n : Nat} {d : Addr} {ks : List (Key × V)} (h : LS zs t H n) (hd : H d = some (.dK ks)) (l : Lk d H H') : LS zs t H' n := fun u m => by
  obtain ⟨q, ys, g, e1, e2, e3⟩ := h u m
  exact ⟨q, ys, g, l _ _ e1 (fun z => by rw [z, hd] at e1; cases e1), l _ _ e2 (fun z => by rw [z, hd] at e2; cases e2), e3⟩
theorem LS.some {S : Addr → Prop} {zs : List Nat} {t : Nat → Addr} {H H' : Hp} {n : Nat} (h : LS zs t H n) (f : Fm S H H') : ∀ s ∈ zs, ∃ q xs g, H' (t s) = some (.tup [.ref q, nV g]) ∧ H' q = some (.lst xs) := fun u m => by
  obtain ⟨q, ys, g, e1, e2, e3⟩ := h u m
  rcases f q _ e2 with z | ⟨_, _, zs', _, z⟩
  · exact ⟨q, ys, g, f.tup e1, z⟩
  · exact ⟨q, zs', g, f.tup e1, z⟩
theorem Lq.none {zs : List Nat} {t : Nat → Addr} {H0 H1 H : Hp} {fr : Nat → List Pl} {f : Nat → Nat} (h : FrX H0 H1 zs t fr f) (keep : ∀ c xs, H1 c = some (.tup xs) → H c = some (.tup xs)) : ∀ b, Lq zs t H b → H0 b = none := fun b z => by
  obtain ⟨s, m, g, e⟩ := z
  obtain ⟨q, xs, e1, e2, _⟩ := h s m
  rw [keep _ _ e1] at e
  cases e
  exact e2
theorem fm_lock {S : Addr → Prop} {H H' : Hp} {d : Addr} {o : HO} {ks : List (Key × V)} (hd : H d = some (.dK ks)) (f : Fm S (upd H d o) H') : Fm S H (upd H' d (.dK ks)) := fun b u e => by
  by_cases c : b = d
  · subst c
    rw [hd] at e
    exact .inl (by rw [upd_same]; exact e)
  · rcases f b u (by rw [upd_ne c]; exact e) with z | ⟨s, xs, ys, z1, z2⟩
    · exact .inl (by rw [upd_ne c]; exact z)
    · exact .inr ⟨s, xs, ys, z1, by rw [upd_ne c]; exact z2⟩
/-- a played world, as the law plays it -/
theorem world_of {zs : List Nat} {ts : List V1.St} (oz : ∀ s ∈ zs, V1.okS s) (lz : zs.length ≤ 5) (okt : V1.okT zs.length ts) (lt : ts.length ≤ 14) : ∃ (ww : V1.Wd) (l : V1.LW) (c : Nat), V1.lplay (lw0 zs) ts = some l ∧ V1.Rep ww l c ∧ c ≤ 40 ∧ V1.Sz ww ∧ V1.Ok zs.length ww ∧ V1.Row60 ww l ∧ ww.objs.length ≤ 19 ∧ (∀ s, (l.pool s).length ≤ 74) ∧ SmW ww := by
  have szI := V1.sz_ident oz
  obtain ⟨ww, pw, sz, lw⟩ := V1.play_ok (w := V1.ident zs) (by rw [V1.ident_len]; exact okt) szI
  obtain ⟨l, pl, rep⟩ := V1.rep_play (rep0 (zs := zs)) (by omega) pw
  have okw : V1.Ok zs.length ww := V1.ok_play V1.ok_ident pw
  have r60 : V1.Row60 ww l := V1.row60_play (rep0 (zs := zs)) (by omega) (fun s k hk => by
    rw [lw0_len] at hk ⊢
    show V1.Pl.pool s k = _
    congr 1
    omega) pw pl
  rw [V1.ident_len] at lw
  have llen := V1.lplay_len pl (N := 60) (fun s => by rw [lw0_len]; exact Nat.le_refl _)
  have l74 : ∀ s, (l.pool s).length ≤ 74 := fun s => Nat.le_trans (llen s) (by omega)
  exact ⟨ww, l, 0 + ts.length, pl, rep, by omega, sz, okw, r60, by omega, l74, ((SmL.start (by omega)).play okt pl).world rep (by omega) (by omega) fun s => Nat.le_trans (l74 s) (by decide)⟩
section
variable {P : Program} {w : World} {K : PySem.W.Frag} {mg : Str → Option Value} {base : Heap} {CP CM C : Addr}
theorem due_rd {a ao ap : Addr} {r : Nat → Addr} {ww : V1.Wd} {l : V1.LW} {c i : Nat} {y0 y1 y2 y3 y4 y5 y6 y7 y8 y9 y10 y11 y12 y13 y14 y15 y16 y17 : Option V} {H : Hp} {Q : VK} (hi : i < 11) (e : ([y0, y1, y2, y3, y4, y5, y6, y7, y8, y9, y10, y11, y12, y13, y14, y15, y16, y17] : St)[i]? = some (some (.ref a))) (wd : WdAt' H a ao ap r l) (rep : V1.Rep ww l c) (hc : c ≤ 40) (sz : V1.Sz ww) (lp : ∀ s, (l.pool s).length ≤ 1000) (n1 : ww.objs.length ≤ 1000)
    (k : ∀ T D H', Same H H' → H D = none → DueAt H H' T D ww → Q (.ref T) H') :
    tTup (tCons (tLc (iList K (tDGet (tVar i) (tC (.str "objects")))) (gTup K 2 (gCons (gName 11) (gCons (gName 12) gNil))) tYes (tVar 11) [11, 12]) (tCons (tCall spLs [] E0 (tCons (tVar i) tNil)) tNil)) [y0, y1, y2, y3, y4, y5, y6, y7, y8, y9, y10, y11, y12, y13, y14, y15, y16, y17] H Q := by
  obtain ⟨os, hao, ob⟩ := wd.ob
  have los : os.length = ww.objs.length := by rw [ob.1, rep.objs]
  have lhw : (V1.headsOf ww).length = ww.objs.length := V1.heads_len
  refine ttup_rd (tcons_rd (lcL (a := ao) (xs := os) (ve_obj (ve_var (v := .ref a) e) wd.wd) hao (fun D2 j H9 => Same H H9 ∧ ∃ zs, H9 D2 = some (.lst zs) ∧ Ps H9 zs ((V1.headsOf ww).take j)) (fun D2 nD2 => ⟨same_new (Same.refl _) nD2, [], upd_same, Ps.nil⟩) (fun D2 j H9 _ z => SqL.of (z.1 _ _ hao)) (fun D2 j x' H9 nD2 hx z => ?_) (fun L H9 nL z => ?_)))
  · obtain ⟨s9, zs3, hD2, pz⟩ := z
    have lj := (List.getElem?_eq_some_iff.mp hx).1
    obtain ⟨o, ho⟩ : ∃ o, l.objs[j]? = some o := ⟨_, List.getElem?_eq_getElem (by rw [rep.objs]; omega)⟩
    obtain ⟨b1, v1, e1, e2, e3⟩ := ob.2 j o ho
    rw [hx] at e1
    cases e1
    refine pair2_rd (x := v1) (y := nV o.2) (s9 _ _ e2) ⟨rfl, ?_⟩
    unfold tYes
    dsimp only
    rw [if_pos rfl]
    have hh2 : (V1.headsOf ww)[j]? = some o.1 := by
      unfold V1.headsOf
      rw [List.getElem?_map, ← rep.objs, ho]
      rfl
    have lz3 := pz.1
    rw [List.length_take] at lz3
    refine tvar_rd (v := v1) rfl ⟨zs3, hD2, by rw [sizeLine_eq]; omega, same_updL s9 nD2, zs3 ++ [v1], upd_same, ?_⟩
    rw [start_drop _ _ _ hh2]
    exact (pz.app (Ps.one (e3.mono s9))).fm (Fm.upd (S := fun c => c = D2) hD2 rfl)
  · obtain ⟨s9, xs, hL, pz⟩ := z
    rw [los, ← lhw, List.take_length] at pz
    refine cons_rd (call_rd (va_cons (ve_var (v := .ref a) e) va_nil) ⟨a, ao, ap, r, ww, l, c, rfl, wd.same s9, rep, hc, sz, lp, fun D zs fr f H10 s10 nD fn can srt iff z8 => ⟨by show 2 ≤ sizeLine; decide, fun T nT => ?_⟩⟩)
    have s11 := same_new (o := .tup [.ref L, .ref D]) (Same.refl H10) nT
    have hT : (upd H10 T (.tup [.ref L, .ref D])) T = some (.tup [.ref L, .ref D]) := upd_same
    generalize upd H10 T (.tup [.ref L, .ref D]) = H11 at s11 hT ⊢
    obtain ⟨t, e4, e5⟩ := fn
    refine k T D H11 (s9.trans (s10.trans s11)) (s9.free nD) ⟨L, xs, zs, fr, f, hT, nL, (s10.trans s11) _ _ hL, pz.mono (s10.trans s11), ⟨t, s11 _ _ e4, fun u m => ?_⟩, can, srt, iff, z8⟩
    obtain ⟨q, ys, x1, x2, x3, x4⟩ := e5 u m
    exact ⟨q, ys, s11 _ _ x1, s9.free x2, s11 _ _ x3, x4.mono s11⟩
end

end K1

set_option Elab.async false
set_option linter.all false
set_option maxRecDepth 100000
set_option maxHeartbeats 4000000
namespace K1
open PySem L2 W1
section
variable {P : Program} {w : World} {K : PySem.W.Frag} {mg : Str → Option Value} {base : Heap} {CP CM C : Addr}
def spRi : Sp := fun vs H Q _ => ∃ (src n : Nat), vs = [.ref src] ∧ Src H src n ∧ n ≤ 800000 ∧ ∀ H', Fm (fun c => c = src) H H' → Src H' src (n + 200) → Q (.bl true) H'
theorem sc_law_right : FnScope ["_law_source_here", "_law_sizes_here", "_law_steps_here", "_law_others", "_law_world", "_law_other", "_law_objects", "_law_pools", "_law_move", "_law_front", "_law_fresh", "_law_place", "_law_size", "_law_due", "_law_turn", "_law_again", "_law_second", "_law_second_due"] ["_law_source_here"] (defScope (top 61)) := ⟨rfl, rfl, rfl, by decide +kernel, rfl, by decide +kernel, by decide +kernel⟩
theorem ok_right {f : Addr} {fd : FuncData} (F : Fun K "_law_right" "_law_right" (top 61) f fd) (B : Bl3 mg) (Br : mg "repr" = none) (NM : NoMv K CM)
    (LDr : Cal P w K mg base CX0 1 "_law_draw" ["_law_source_here", "_law_bound"] spDr) (LPk : Cal P w K mg base CX0 2 "_law_pick" ["_law_source_here", "_law_items"] spPk) (LSz : Cal P w K mg base CX0 3 "_law_sizes" ["_law_source_here", "_law_most"] spSz) (LPl : Cal P w K mg base CX0 1 "_law_places" ["_law_sizes_here"] spPlc)
    (LSt : Cal P w K mg base CX0 3 "_law_steps" ["_law_source_here", "_law_count", "_law_most"] spSt) (LPd : Cal P w K mg base CX0 1 "_law_played" ["_law_world", "_law_steps_here"] spPd) (LPa : Cal P w K mg base CX0 3 "_law_parts" ["_law_source_here", "_law_world"] spPr) (LSh : Cal P w K mg base CX0 2 "_law_short" ["_law_world"] spLs) (LOr : Cal P w K mg base CX0 6 "_law_origins_right" ["_law_move", "_law_world"] (spLo CM CP))
    (OB : MetW P w K mg base 2 CM "objects" ["self"] (spMbP CM CP)) (PO : MetW P w K mg base 2 CM "pools" ["self"] (spMp CM CP)) (RP : OwnR P w K mg base 2 CM ["self"] (spRp CM CP)) (OQ : OwnE P w K mg base CX0 1 CM ["self", "other"] (spEqG CM CP K)) (MV : Mkr P w K mg base CX0 8 "Move" CM mvP (spMvI CM CP)) :
    FnG P w K mg base CX0 10 f fd ["_law_source_here"] spRi := by
  refine F.okG sc_law_right (fun vs H Q E h => ?_) (fun cdv A outer s H vs Q E hg hr h => ?_)
  · obtain ⟨src, n, rfl, _⟩ := h
    rfl
  · obtain ⟨src, n, rfl, sr, hn, k⟩ := h
    refine ⟨_, (pss_cons (ps_set (i := 1) sc_law_right.nd rfl (Or.inl rfl) (pe_cal LSz hr (by omega) pass0 (pa_cons (pv 0) (pa_cons pe_int pa_nil))))
      (pss_cons (ps_par (i := 2) (j := 3) (by rfl) sc_law_right.nd rfl rfl (by decide) rfl rfl (pa_cons (pe_cal LSt hr (by omega) pass0 (pa_cons (pv 0) (pa_cons (pe_callB call_len_seq rfl B.len PySem.boot_len (pa_cons (pv 1) pa_nil)) (pa_cons pe_int pa_nil)))) (pa_cons (pe_cal LSt hr (by omega) pass0 (pa_cons (pv 0) (pa_cons (pe_callB call_len_seq rfl B.len PySem.boot_len (pa_cons (pv 1) pa_nil)) (pa_cons pe_int pa_nil)))) pa_nil)) (by rfl))
      (pss_cons (ps_par (i := 4) (j := 5) (by rfl) sc_law_right.nd rfl rfl (by decide) rfl rfl (pa_cons (pe_cal LPl hr (by omega) pass0 (pa_cons (pv 1) pa_nil)) (pa_cons (pe_cal LPl hr (by omega) pass0 (pa_cons (pv 1) pa_nil)) pa_nil)) (by rfl))
      (pss_cons (ps_expr (pe_cal LPd hr (by omega) pass0 (pa_cons (pv 4) (pa_cons (pv 2) pa_nil))))
      (pss_cons (ps_expr (pe_cal LPd hr (by omega) pass0 (pa_cons (pv 5) (pa_cons (pv 3) pa_nil))))
      (pss_cons (ps_asg (pe_cal LPa hr (by omega) pass0 (pa_cons (pv 0) (pa_cons (pv 4) pa_nil))) (pg_tup rfl (pgs_cons (pg_name (i := 6) sc_law_right.nd rfl (Or.inl rfl)) (pgs_cons (pg_name (i := 7) sc_law_right.nd rfl (Or.inl rfl)) pgs_nil))))
      (pss_cons (ps_set (i := 8) sc_law_right.nd rfl (Or.inl rfl) (pe_mkr MV hr (by omega) pass0 (pa_cons (pv 6) (pa_cons (pv 7) pa_nil))))
      (pss_cons (ps_expr (pe_bm PySem.F.plainAttrs_list PySem.F.slot_list_append PySem.F.type_list_append mt_append (pv 6) (pa_cons pe_non pa_nil)))
      (pss_cons (ps_lock (ps_for PassesOwn.never rfl (pi_values (pv 7)) (pg_tup rfl (pgs_cons (pg_name (i := 9) sc_law_right.nd rfl (Or.inl rfl)) (pgs_cons (pg_name (i := 10) sc_law_right.nd rfl (Or.inl rfl)) pgs_nil))) (pss_one (ps_expr (pe_bm PySem.F.plainAttrs_list PySem.F.slot_list_append PySem.F.type_list_append mt_append (pv 9) (pa_cons pe_non pa_nil))))))
      (pss_cons (ps_expr (pe_dclear (pv 7)))
      (pss_cons (ps_set (i := 13) sc_law_right.nd rfl (Or.inl rfl) (pe_tup (pa_cons (pe_lc (own := [("_law_place", 11), ("_law_size", 12)]) (g := gTup K 2 (gCons (gName 11) (gCons (gName 12) (gNil)))) (te := tVar 11) (tt := tYes) rfl sc_law_right.nd (pi_list (pe_dget (hr1 hr) (pv 4) pe_str (fun _ _ => rfl))) (blkOk_by (N := ["_law_source_here", "_law_sizes_here", "_law_steps_here", "_law_others", "_law_world", "_law_other", "_law_objects", "_law_pools", "_law_move", "_law_front", "_law_fresh", "_law_place", "_law_size", "_law_due", "_law_turn", "_law_again", "_law_second", "_law_second_due"]) (sc := defScope (top 61)) (by decide +kernel)) (fun _ _ _ _ _ => pg_tup rfl (pgs_cons (pg_name (i := 11) sc_law_right.nd rfl (Or.inl rfl)) (pgs_cons (pg_name (i := 12) sc_law_right.nd rfl (Or.inl rfl)) pgs_nil))) (fun _ _ _ _ _ => pts_nil) (fun _ _ _ _ _ => pv 11)) (pa_cons (pe_cal LSh hr (by omega) pass0 (pa_cons (pv 4) pa_nil)) pa_nil))))
      (pss_cons (ps_for PassesOwn.never rfl (pi_range1 rfl B.range (pa_cons pe_int pa_nil)) (pg_name (i := 14) sc_law_right.nd rfl (Or.inl rfl))
        (pss_cons (ps_if (PW.pt (pw_or (pt_cmpR (op_pair true (hr68 hr)) (pe_tup (pa_cons (pe_mw0 OB NM.cl hr (by omega) (pv 8)) (pa_cons (pe_mw0 PO NM.cl hr (by omega) (pv 8)) pa_nil))) (pv 13) (nomark _)) (pw_or1 (pt_cmpR op_ne (pe_callB (cr_ownR RP hg (hr.mono (by omega))) rfl Br PyProof.Rows.boot_repr (pa_cons (pv 8) pa_nil)) (pe_op op_add_str (pe_op op_add_str (pe_op op_add_str (pe_op op_add_str pe_str (pe_callB (cr_show hg (hr64 hr)) rfl Br PyProof.Rows.boot_repr (pa_cons (pe_ix ix_tup (pv 13) pe_int (fun _ _ => rfl)) pa_nil))) pe_str) (pe_callB (cr_show hg (hr64 hr)) rfl Br PyProof.Rows.boot_repr (pa_cons (pe_ix ix_tup (pv 13) pe_int (fun _ _ => rfl)) pa_nil))) pe_str) (nomark _))))) (pss_one (ps_ret pe_bl)) pss_nil)
      (pss_cons (ps_expr (pe_bm PySem.F.plainAttrs_list PySem.F.slot_list_append PySem.F.type_list_append mt_append (pe_mw0 OB NM.cl hr (by omega) (pv 8)) (pa_cons pe_non pa_nil)))
      (pss_cons (ps_for PassesOwn.never rfl (pi_values (pe_frz (pe_mw0 PO NM.cl hr (by omega) (pv 8)))) (pg_tup rfl (pgs_cons (pg_name (i := 9) sc_law_right.nd rfl (Or.inl rfl)) (pgs_cons (pg_name (i := 10) sc_law_right.nd rfl (Or.inl rfl)) pgs_nil))) (pss_one (ps_expr (pe_bm PySem.F.plainAttrs_list PySem.F.slot_list_append PySem.F.type_list_append mt_append (pv 9) (pa_cons pe_non pa_nil)))))
      (pss_one (ps_expr (pe_dclear (pe_mw0 PO NM.cl hr (by omega) (pv 8)))))))))
      (pss_cons (ps_if (pt_not (pt_val (pe_cal LOr hr (by omega) pass0 (pa_cons (pv 8) (pa_cons (pv 4) pa_nil))))) (pss_one (ps_ret pe_bl)) pss_nil)
      (pss_cons (ps_par (i := 15) (j := 16) (by rfl) sc_law_right.nd rfl rfl (by decide) rfl rfl (pa_cons (pe_cal LPa hr (by omega) pass0 (pa_cons (pv 0) (pa_cons (pv 4) pa_nil))) (pa_cons (pe_cal LPa hr (by omega) pass0 (pa_cons (pv 0) (pa_cons (pv 5) pa_nil))) pa_nil)) (by rfl))
      (pss_cons (ps_if (PW.pt (pw_or (pt_cmpR (op_neOwn OQ (hr.mono (by omega)) pass0) (pv 8) (pe_mkr MV hr (by omega) pass0 (pa_cons (pe_ix ix_tup (pv 15) pe_int (fun _ _ => rfl)) (pa_cons (pe_ix ix_tup (pv 15) pe_int (fun _ _ => rfl)) pa_nil))) (nomark _)) (pw_or (pt_cmpR (op_eqOwn OQ (hr.mono (by omega)) pass0) (pv 8) (pv 13) (nomark _)) (pw_or1 (pt_cmpR (op_eqOwn OQ (hr.mono (by omega)) pass0) (pv 8) (pe_callB (cr_ownR RP hg (hr.mono (by omega))) rfl Br PyProof.Rows.boot_repr (pa_cons (pv 8) pa_nil)) (nomark _)))))) (pss_one (ps_ret pe_bl)) pss_nil)
      (pss_cons (ps_set (i := 17) sc_law_right.nd rfl (Or.inl rfl) (pe_tup (pa_cons (pe_lc (own := [("_law_place", 11), ("_law_size", 12)]) (g := gTup K 2 (gCons (gName 11) (gCons (gName 12) (gNil)))) (te := tVar 11) (tt := tYes) rfl sc_law_right.nd (pi_list (pe_dget (hr1 hr) (pv 5) pe_str (fun _ _ => rfl))) (blkOk_by (N := ["_law_source_here", "_law_sizes_here", "_law_steps_here", "_law_others", "_law_world", "_law_other", "_law_objects", "_law_pools", "_law_move", "_law_front", "_law_fresh", "_law_place", "_law_size", "_law_due", "_law_turn", "_law_again", "_law_second", "_law_second_due"]) (sc := defScope (top 61)) (by decide +kernel)) (fun _ _ _ _ _ => pg_tup rfl (pgs_cons (pg_name (i := 11) sc_law_right.nd rfl (Or.inl rfl)) (pgs_cons (pg_name (i := 12) sc_law_right.nd rfl (Or.inl rfl)) pgs_nil))) (fun _ _ _ _ _ => pts_nil) (fun _ _ _ _ _ => pv 11)) (pa_cons (pe_cal LSh hr (by omega) pass0 (pa_cons (pv 5) pa_nil)) pa_nil))))
      (pss_one (ps_ret (pe_cmpR op_eq (pe_cmpR (op_eqOwn OQ (hr.mono (by omega)) pass0) (pv 8) (pe_mkr MV hr (by omega) pass0 (pa_cons (pe_ix ix_tup (pv 16) pe_int (fun _ _ => rfl)) (pa_cons (pe_ix ix_tup (pv 16) pe_int (fun _ _ => rfl)) pa_nil))) (nomark _)) (pe_cmpR (op_pair false (hr68 hr)) (pv 13) (pv 17) (nomark _)) (nomark _)))))))))))))))))))), ?_⟩
    refine seq_rd (asg_of (call_rd (va_cons (ve_var (v := .ref src) rfl) (va_cons ve_c va_nil)) ⟨src, 5, n, rfl, sr, by omega, by decide, fun q zs H1 f1 sr1 nq hq oz lz => ?_⟩))
    refine next_rd ?_
    dsimp only
    obtain ⟨zz, hsrc⟩ := sr.there
    have nsrc : H src ≠ none := by rw [hsrc]; exact nofun
    have qsrc : q ≠ src := fun z => nsrc (by rw [← z]; exact nq)
    have lzm : (zs.map nV).length = zs.length := List.length_map ..
    -- two rows of steps
    refine seq_rd (tpar_rd (tcons_rd (call_rd (va_cons (ve_var (v := .ref src) rfl) (va_cons (ve_lenL (ve_var (v := .ref q) rfl) hq) (va_cons ve_c va_nil))) ⟨src, (zs.map nV).length, 14, n + 6, rfl, sr1, by omega, by decide, by omega, fun L1 xs1 ts1 H2 f2 sr2 nL1 hL1 st1 okt1 lt1 => ?_⟩)))
    have hq2 := f2.keep hq qsrc
    refine cons_rd (call_rd (va_cons (ve_var (v := .ref src) rfl) (va_cons (ve_lenL (ve_var (v := .ref q) rfl) hq2) (va_cons ve_c va_nil))) ⟨src, (zs.map nV).length, 14, n + 35, rfl, sr2, by omega, by decide, by omega, fun L2 xs2 ts2 H3 f3 sr3 nL2 hL2 st2 okt2 lt2 => ⟨_, _, rfl, ?_⟩⟩)
    rw [lzm] at okt1 okt2
    refine next_rd ?_
    dsimp only
    have hq3 := f3.keep hq2 qsrc
    obtain ⟨zz1, hsrc1⟩ := sr1.there
    obtain ⟨zz3, hsrc3⟩ := sr3.there
    have L1src : L1 ≠ src := fun z => by rw [z, hsrc1] at nL1; cases nL1
    have hL13 := f3.keep hL1 L1src
    have st13 := st1.fm f3
    -- two worlds
    refine seq_rd (tpar_rd (tcons_rd (call_rd (va_cons (ve_var (v := .ref q) rfl) va_nil) ⟨q, zs, rfl, hq3, by omega, fun a1 ao1 ap1 r1 H4 s4 wd1 nf1 => ?_⟩)))
    refine cons_rd (call_rd (va_cons (ve_var (v := .ref q) rfl) va_nil) ⟨q, zs, rfl, s4 _ _ hq3, by omega, fun a2 ao2 ap2 r2 H5 s5 wd2 nf2 => ⟨_, _, rfl, ?_⟩⟩)
    refine next_rd ?_
    dsimp only
    have dis : ∀ b, Ft ao1 r1 b → ¬ Ft ao2 r2 b := fun b z y => by
      obtain ⟨xs, e⟩ := wd1.lists b z
      rw [nf2 b y] at e
      cases e
    have s35 := s4.trans s5
    obtain ⟨ww1, l1, c1, pl1, rep1, hc1, sz1, ok1, r601, n1, lp1, sm1⟩ := world_of oz lz okt1 lt1
    obtain ⟨ww2, l2, c2, pl2, rep2, hc2, sz2, ok2, r602, n2, lp2, sm2⟩ := world_of oz lz okt2 lt2
    have szI := V1.sz_ident oz
    have L1f : ¬ Ft ao1 r1 L1 := fun z => by have := nf1 _ z; rw [hL13] at this; cases this
    have L1f2 : ¬ Ft ao2 r2 L1 := fun z => by have := nf2 _ z; rw [s4 _ _ hL13] at this; cases this
    have L2f : ¬ Ft ao2 r2 L2 := fun z => by have := nf2 _ z; rw [s4 _ _ hL2] at this; cases this
    have L2f1 : ¬ Ft ao1 r1 L2 := fun z => by have := nf1 _ z; rw [hL2] at this; cases this
    refine seq_rd (call_rd (va_cons (ve_var (v := .ref a1) rfl) (va_cons (ve_var (v := .ref L1) rfl) va_nil)) ⟨a1, ao1, ap1, L1, r1, lw0 zs, l1, xs1, ts1, rfl, wd1.same s5, s35 _ _ hL13, st13.fm (Fm.of (S := fun _ => False) s35), L1f, pl1, fun x m => (szI.obj x m).2, fun s m => V1.okT_make okt1 m, fun s => by rw [lw0_len]; decide, by show (V1.ident zs).objs.length ≤ _; rw [V1.ident_len]; omega, by omega, fun H6 f6 wd16 => ?_⟩)
    refine next_rd ?_
    dsimp only
    have wd26 := wd2.fm f6 fun b z y => dis b y z
    refine seq_rd (call_rd (va_cons (ve_var (v := .ref a2) rfl) (va_cons (ve_var (v := .ref L2) rfl) va_nil)) ⟨a2, ao2, ap2, L2, r2, lw0 zs, l2, xs2, ts2, rfl, wd26, f6.keep (s35 _ _ hL2) L2f1, (st2.fm (Fm.of (S := fun _ => False) s35)).fm f6, L2f, pl2, fun x m => (szI.obj x m).2, fun s m => V1.okT_make okt2 m, fun s => by rw [lw0_len]; decide, by show (V1.ident zs).objs.length ≤ _; rw [V1.ident_len]; omega, by omega, fun H7 f7 wd27 => ?_⟩)
    refine next_rd ?_
    dsimp only
    have wd17 := wd16.fm f7 dis
    have d1src : ¬ Ft ao1 r1 src := fun z => by have := nf1 _ z; rw [hsrc3] at this; cases this
    have d2src : ¬ Ft ao2 r2 src := fun z => by have := nf2 _ z; rw [s4 _ _ hsrc3] at this; cases this
    have sr7 : Src H7 src (n + 64) := (((sr3.mono s35).keep f6 d1src).keep f7 d2src).le (by omega)
    obtain ⟨zz7, hsrc7⟩ := sr7.there
    have f13 : Fm (fun c => c = src) H H3 := (f1.trans f2).trans f3
    have f17 : Fm (fun c => c = src) H H7 := ((f13.trans (Fm.of s35)).hide' f6 fun b z => .inl (f13.free (nf1 b z))).hide' f7 fun b z => .inl ((f13.trans (Fm.of s4)).free (nf2 b z))
    -- the move's parts
    refine seq_rd (asgT (call_rd (va_cons (ve_var (v := .ref src) rfl) (va_cons (ve_var (v := .ref a1) rfl) va_nil)) ⟨src, n + 64, 74, a1, ao1, ap1, r1, ww1, l1, c1, rfl, sr7, by omega, wd17, d1src, rep1, hc1, sz1, by rw [rep1.objs]; omega, lp1, by decide, fun T hd pd hv zs2 fr f H8 nhd npd f8 sr8 hT hh ph fx fo z8 few => ?_⟩))
    refine pair2_rd (x := .ref hd) (y := .ref pd) hT ?_
    refine next_rd ?_
    dsimp only
    refine seq_rd (asg_of (em_make (ve_var (v := .ref hd) rfl) (ve_var (v := .ref pd) rfl) hh ph fx.g fo z8 (fun s => Nat.le_trans (few s) (by decide)) ok1 sz1 (by omega) H8 (Same.refl _) _ fun x H9 s9 mv9 => ?_))
    refine next_rd ?_
    dsimp only
    obtain ⟨t, hpd8, fxx⟩ := fx
    have hh9 := s9 _ _ hh
    have hpd9 := s9 _ _ hpd8
    -- what it was made of is changed
    refine seq_rd ⟨.ref hd, rfl, .inl ⟨rfl, _, SqL.of hh9⟩, cons_rd (tc_rd ⟨hd, hv, .non, rfl, rfl, hh9, by rw [sizeLine_eq, ph.1, V1.heads_len]; omega, ?_⟩)⟩
    have f910 : Fm (fun b => b = hd) H9 (upd H9 hd (.lst (hv ++ [.non]))) := Fm.upd hh9 rfl
    have ls10 : LS zs2 t (upd H9 hd (.lst (hv ++ [.non]))) 75 := ((fxx.ls few).same s9).snoc hh9
    generalize upd H9 hd (.lst (hv ++ [.non])) = H10 at f910 ls10 ⊢
    refine next_rd ?_
    dsimp only
    have hpd10 := f910.dk hpd9
    have lz2 : zs2.length ≤ 8 := nodup_le 8 zs2 fo.nd z8
    refine seq_rd ⟨pd, _, hpd10, trivial, fun od => ?_⟩
    change iVals _ _ _ _
    change tVar 7 _ _ _
    refine tvar_rd (v := .ref pd) rfl ⟨pd, od, kvz zs2 t, rfl, upd_same, ?_⟩
    refine each_none (n := 75) (show 10 < 18 by decide) upd_same (ls10.lk hpd10 Lk.start) (by omega) fun x9 x10 H11 f11 hd11 => ?_
    refine ⟨hd11, ?_⟩
    have hq_none : ∀ b, Lq zs2 t (upd H10 pd (.frz od (.dK (kvz zs2 t)))) b → H7 b = none := Lq.none fxx fun c xs e => by
      rw [upd_ne (fun z => by rw [z, hpd8] at e; cases e)]
      exact f910.tup (s9 _ _ e)
    have f1012 := fm_lock hpd10 f11
    have hpd12 : (upd H11 pd (.dK (kvz zs2 t))) pd = some (.dK (kvz zs2 t)) := upd_same
    generalize upd H11 pd (.dK (kvz zs2 t)) = H12 at f1012 hpd12 ⊢
    refine next_rd ?_
    dsimp only
    have mv12 := (mv9.fm f910).fm f1012
    have f712 : Fm (fun c => c = src) H7 H12 := ((f8.trans (Fm.of s9)).hide' f910 fun b z => .inl (by rw [z]; exact nhd)).hide' f1012 fun b z => .inl (hq_none b z)
    have hdsrc : hd ≠ src := fun z => by rw [z, hsrc7] at nhd; cases nhd
    have pdsrc : src ≠ pd := fun z => by rw [← z, hsrc7] at npd; cases npd
    have sr12 : Src H12 src (n + 73) := ((sr8.mono s9).keep f910 (fun z => hdsrc z.symm)).keep f1012 fun z => by have := hq_none _ z; rw [hsrc7] at this; cases this
    refine seq_rd ⟨.ref pd, rfl, .inr (.inr (.inl ⟨rfl, .inl ⟨_, hpd12⟩⟩)), pd, _, rfl, rfl, hpd12, ?_⟩
    have mv13 := mv12.clear hpd12 (ls10.some f1012)
    have f713 : Fm (fun c => c = src) H7 (upd H12 pd (.dK [])) := f712.own npd
    have sr13 : Src (upd H12 pd (.dK [])) src (n + 73) := by
      obtain ⟨x0, y0, z0, e0, r0⟩ := sr12.ex
      exact ⟨x0, y0, z0, by rw [upd_ne pdsrc]; exact e0, r0⟩
    generalize upd H12 pd (.dK []) = H13 at mv13 f713 sr13 ⊢
    refine next_rd ?_
    dsimp only
    have wd113 := wd17.fm f713 fun b z e => d1src (e ▸ z)
    have wd213 := wd27.fm f713 fun b z e => d2src (e ▸ z)
    have f113 := f17.trans f713
    obtain ⟨zz13, hsrc13⟩ := sr13.there
    -- what is due
    refine seq_rd (asg_of (due_rd (i := 4) (by decide) rfl wd113 rep1 hc1 sz1 (fun s => Nat.le_trans (lp1 s) (by decide)) (by omega) fun TD D1 H14 s14 nD1 due1 => ?_))
    refine next_rd ?_
    dsimp only
    have mv14 := mv13.mono s14
    refine seq_rd ?_
    refine forR1 (m := 2) (va_cons ve_c va_nil) ⟨by decide, by decide⟩ (fun j σ H' => ∃ x9 x10 x11 x12 x14, σ = [some (.ref src), some (.ref q), some (.ref L1), some (.ref L2), some (.ref a1), some (.ref a2), some (.ref hd), some (.ref pd), some x, x9, x10, x11, x12, some (.ref TD), x14, none, none, none] ∧ Same H14 H') ⟨_, _, _, _, _, rfl, Same.refl _⟩ ?_ ?_
    · rintro j σ H15 hj ⟨x9, x10, x11, x12, x14, rfl, s15⟩
      have mv15 := mv14.mono s15
      have due15 := due1.mono s15
      refine gname_rd ?_
      have vm : ∀ {H' : Hp} {z9 z10 z14 : Option V}, VE (tVar 8) x [some (.ref src), some (.ref q), some (.ref L1), some (.ref L2), some (.ref a1), some (.ref a2), some (.ref hd), some (.ref pd), some x, z9, z10, x11, x12, some (.ref TD), z14, none, none, none] H' := ve_var rfl
      have vd : ∀ {H' : Hp} {z9 z10 z14 : Option V}, VE (tVar 13) (.ref TD) [some (.ref src), some (.ref q), some (.ref L1), some (.ref L2), some (.ref a1), some (.ref a2), some (.ref hd), some (.ref pd), some x, z9, z10, x11, x12, some (.ref TD), z14, none, none, none] H' := ve_var rfl
      refine seq_rd (if_be (be_to (be_or (be_pairT vm mv15 (by omega) vd due15) fun _ => be_reprT vm mv15 sm1 vd due15) rfl) fun H16 s16 => ⟨fun z => absurd z (by decide), fun _ => ?_⟩)
      refine next_rd ?_
      dsimp only
      have s1516 := s15.trans s16
      refine seq_rd (em_objects vm (mv14.mono s1516) (by omega) (Same.refl _) fun q2 xq H17 s17 nq2 hq2 pq2 => ?_)
      refine ⟨.inl ⟨rfl, _, SqL.of hq2⟩, cons_rd (tc_rd ⟨q2, xq, .non, rfl, rfl, hq2, by rw [sizeLine_eq, pq2.1, V1.heads_len]; omega, ?_⟩)⟩
      have s18 : Same H16 (upd H17 q2 (.lst (xq ++ [.non]))) := same_updL s17 nq2
      generalize upd H17 q2 (.lst (xq ++ [.non])) = H18 at s18 ⊢
      refine next_rd ?_
      dsimp only
      have s1518 := s1516.trans s18
      refine seq_rd ?_
      change iVals _ _ _ _
      change tFrz _ _ _ _
      change tMeth _ _ _ _ _ _ _ _ _ _
      refine em_pools vm (mv14.mono s1518) (Same.refl _) fun d zs3 fr3 f3' H19 s19 nd fn can srt iff lz3 few3 => ?_
      obtain ⟨t3, hd3, fx3⟩ := fn
      refine ⟨d, _, rfl, hd3, fun od => ⟨d, od, kvz zs3 t3, rfl, upd_same, ?_⟩⟩
      refine each_none (n := 100) (show 10 < 18 by decide) upd_same ((fx3.ls few3).lk hd3 Lk.start) (by omega) fun y9 y10 H20 f20 hd20 => ?_
      have s20 : Same H18 H20 := same_of_fm (same_updL s19 nd) f20 (Lq.none fx3 fun c xs e => by
        rw [upd_ne (fun z => by rw [z, hd3] at e; cases e)]
        exact e)
      have s1520 := s1518.trans s20
      refine next_rd ?_
      dsimp only
      refine em_pools vm (mv14.mono s1520) (Same.refl _) fun d zs3 fr3 f3' H21 s21 nd fn can srt iff lz3 few3 => ?_
      obtain ⟨t3, hd3, fx3⟩ := fn
      refine ⟨.inr (.inr (.inl ⟨rfl, .inl ⟨_, hd3⟩⟩)), d, _, rfl, rfl, hd3, ?_⟩
      exact next_rd ⟨_, _, _, _, _, rfl, s1520.trans (same_updL s21 nd)⟩
    · rintro σ H15 ⟨x9, x10, x11, x12, x14, rfl, s15⟩
      dsimp only
      have s1315 := s14.trans s15
      have mv15 := mv14.mono s15
      have wd115 := wd113.same s1315
      have wd215 := wd213.same s1315
      have sr15 := sr13.mono s1315
      have due15 := due1.mono s15
      refine seq_rd (if_be (be_not (b := true) (be_bv (bv_call (va_cons (ve_var (v := x) rfl) (va_cons (ve_var (v := .ref a1) rfl) va_nil)) fun H2 s2 Q' kk => ⟨x, 100, zs.length, a1, ao1, ap1, r1, ww1, l1, c1, rfl, mv15.mono s2, ok1, wd115.same s2, rep1, hc1, r601, sz1, by omega, fun s => Nat.le_trans (lp1 s) (by decide), kk⟩))) fun H16 s16 => ⟨fun z => absurd z (by decide), fun _ => ?_⟩)
      refine next_rd ?_
      dsimp only
      have sr16 := sr15.mono s16
      obtain ⟨zz16, hsrc16⟩ := sr16.there
      -- again, and the other world
      refine seq_rd (tpar_rd (tcons_rd (call_rd (va_cons (ve_var (v := .ref src) rfl) (va_cons (ve_var (v := .ref a1) rfl) va_nil)) ⟨src, n + 73, 74, a1, ao1, ap1, r1, ww1, l1, c1, rfl, sr16, by omega, wd115.same s16, d1src, rep1, hc1, sz1, by rw [rep1.objs]; omega, lp1, by decide, fun T1 hd1 pd1 hv1 zs1 fr1 f1' H17 nhd1 npd1 f17' sr17 hT1 hh1 ph1 fx1 fo1 z81 few1 => ?_⟩)))
      have wd217 := (wd215.same s16).fm f17' fun b z e => d2src (e ▸ z)
      refine cons_rd (call_rd (va_cons (ve_var (v := .ref src) rfl) (va_cons (ve_var (v := .ref a2) rfl) va_nil)) ⟨src, n + 82, 74, a2, ao2, ap2, r2, ww2, l2, c2, rfl, sr17, by omega, wd217, d2src, rep2, hc2, sz2, by rw [rep2.objs]; omega, lp2, by decide, fun T2 hd2 pd2 hv2 zs2' fr2 f2' H18 nhd2 npd2 f18 sr18 hT2 hh2 ph2 fx2 fo2 z82 few2 => ⟨_, _, rfl, ?_⟩⟩)
      refine next_rd ?_
      dsimp only
      have hd1src : hd1 ≠ src := fun z => by rw [z, hsrc16] at nhd1; cases nhd1
      have hT1' := f18.tup hT1
      have hh1' := f18.keep hh1 hd1src
      have ph1' := ph1.fm f18
      have fx1' : FrN H16 H18 pd1 zs1 fr1 f1' := by
        obtain ⟨t1, e1, e2⟩ := fx1
        exact ⟨t1, f18.dk e1, e2.fm f18 fun b z => by rw [z, hsrc16]; exact nofun⟩
      have f1618 := f17'.trans f18
      have mv18 := (mv15.mono s16).fm f1618
      have due18 := (due15.mono s16).fm f1618 fun b z => by rw [z, hsrc13]; exact nofun
      have wd218 := wd217.fm f18 fun b z e => d2src (e ▸ z)
      have f1318 : Fm (fun c => c = src) H13 H18 := (Fm.of (s1315.trans s16)).trans f1618
      obtain ⟨L0, xs0, zd1, g1, k1, _, _, _, _, _, can1, srt1, iff1, _⟩ := id due1.ex
      have vm : ∀ {H' : Hp} {z17 : Option V}, VE (tVar 8) x [some (.ref src), some (.ref q), some (.ref L1), some (.ref L2), some (.ref a1), some (.ref a2), some (.ref hd), some (.ref pd), some x, x9, x10, x11, x12, some (.ref TD), x14, some (.ref T1), some (.ref T2), z17] H' := ve_var rfl
      have vd : ∀ {H' : Hp} {z17 : Option V}, VE (tVar 13) (.ref TD) [some (.ref src), some (.ref q), some (.ref L1), some (.ref L2), some (.ref a1), some (.ref a2), some (.ref hd), some (.ref pd), some x, x9, x10, x11, x12, some (.ref TD), x14, some (.ref T1), some (.ref T2), z17] H' := ve_var rfl
      have e15 : EM CM CP (tMake CM (spMvI CM CP) [] E0 (tCons (tOp (rIxT K) (tVar 15) (tC (.int 0))) (tCons (tOp (rIxT K) (tVar 15) (tC (.int 1))) tNil))) 100 ww1 [some (.ref src), some (.ref q), some (.ref L1), some (.ref L2), some (.ref a1), some (.ref a2), some (.ref hd), some (.ref pd), some x, x9, x10, x11, x12, some (.ref TD), x14, some (.ref T1), some (.ref T2), none] H18 :=
        em_make (ve_ixT (n := 0) (ve_var (v := .ref T1) rfl) hT1' ve_c rfl) (ve_ixT (n := 1) (ve_var (v := .ref T1) rfl) hT1' ve_c rfl) hh1' ph1' fx1'.g fo1 z81 (fun s => Nat.le_trans (few1 s) (by decide)) ok1 sz1 (by omega)
      have cA : BE (tTest (tOp (rOwnE CM (spEqG CM CP K) E0 true) (tVar 8) (tMake CM (spMvI CM CP) [] E0 (tCons (tOp (rIxT K) (tVar 15) (tC (.int 0))) (tCons (tOp (rIxT K) (tVar 15) (tC (.int 1))) tNil))))) false [some (.ref src), some (.ref q), some (.ref L1), some (.ref L2), some (.ref a1), some (.ref a2), some (.ref hd), some (.ref pd), some x, x9, x10, x11, x12, some (.ref TD), x14, some (.ref T1), some (.ref T2), none] H18 := fun H2 s2 Q' kk =>
        mvw_eq (em_ve vm mv18) e15 can1 can1 s2 fun r H3 s3 iff => ⟨_, rfl, by
          rw [iff.mpr ⟨rfl, fun s => ⟨rfl, rfl⟩⟩]
          exact kk H3 s3⟩
      have cB : BE (tTest (tOp (rOwnE CM (spEqG CM CP K) E0 false) (tVar 8) (tVar 13))) false [some (.ref src), some (.ref q), some (.ref L1), some (.ref L2), some (.ref a1), some (.ref a2), some (.ref hd), some (.ref pd), some x, x9, x10, x11, x12, some (.ref TD), x14, some (.ref T1), some (.ref T2), none] H18 := fun H2 s2 Q' kk =>
        mvw_other (T := "tuple") vm mv18 (by simp) s2 (fun Q2 k2 => vd H2 (Same.refl _) _ (by
          obtain ⟨⟨ys, e⟩, _⟩ := (due18.mono s2).there
          exact k2 H2 _ (Same.refl _) (fun H4 s4 => .base (.tup (s4 _ _ e))) (.tup e))) fun H3 s3 => ⟨_, rfl, kk H3 s3⟩
      have cC : BE (tTest (tOp (rOwnE CM (spEqG CM CP K) E0 false) (tVar 8) (tCB (rOwnR CM (spRp CM CP)) (tCons (tVar 8) tNil)))) false [some (.ref src), some (.ref q), some (.ref L1), some (.ref L2), some (.ref a1), some (.ref a2), some (.ref hd), some (.ref pd), some x, x9, x10, x11, x12, some (.ref TD), x14, some (.ref T1), some (.ref T2), none] H18 := fun H2 s2 Q' kk =>
        mvw_other (T := "str") vm mv18 (by simp) s2 (fun Q2 k2 => em_repr vm mv18 sm1 s2 fun zs fr f H3 s3 _ _ _ => k2 H3 _ s3 (fun H4 s4 => .base (.str _)) (.str _)) fun H3 s3 => ⟨_, rfl, kk H3 s3⟩
      refine seq_rd (if_be (be_to (be_or cA fun _ => be_or cB fun _ => cC) rfl) fun H19 s19 => ⟨fun z => absurd z (by decide), fun _ => ?_⟩)
      refine next_rd ?_
      dsimp only
      refine seq_rd (asg_of (due_rd (i := 5) (by decide) rfl (wd218.same s19) rep2 hc2 sz2 (fun s => Nat.le_trans (lp2 s) (by decide)) (by omega) fun TE2 D2 H20 s20 nD2 due2 => ?_))
      refine next_rd ?_
      dsimp only
      have s1820 := s19.trans s20
      obtain ⟨L9, xs9, zd2, g2, k2, _, _, _, _, _, can2, srt2, iff2, _⟩ := id due2.ex
      have e16 : EM CM CP (tMake CM (spMvI CM CP) [] E0 (tCons (tOp (rIxT K) (tVar 16) (tC (.int 0))) (tCons (tOp (rIxT K) (tVar 16) (tC (.int 1))) tNil))) 100 ww2 [some (.ref src), some (.ref q), some (.ref L1), some (.ref L2), some (.ref a1), some (.ref a2), some (.ref hd), some (.ref pd), some x, x9, x10, x11, x12, some (.ref TD), x14, some (.ref T1), some (.ref T2), some (.ref TE2)] H20 :=
        em_make (ve_ixT (n := 0) (ve_var (v := .ref T2) rfl) (s1820 _ _ hT2) ve_c rfl) (ve_ixT (n := 1) (ve_var (v := .ref T2) rfl) (s1820 _ _ hT2) ve_c rfl) (s1820 _ _ hh2) (ph2.mono s1820) (fx2.g.mono s1820) fo2 z82 (fun s => Nat.le_trans (few2 s) (by decide)) ok2 sz2 (by omega)
      refine ret_of (opT_rd (mvw_eq (em_ve vm (mv18.mono s1820)) e16 can1 can2 (Same.refl _) fun r H21 s21 iff => ?_))
      have s1821 := s1820.trans s21
      refine opT_rd (vd H21 (Same.refl _) _ (tvar_rd (v := .ref TE2) rfl ?_))
      obtain ⟨M1, ys1, zp1, p1, j1, e11, _, e12, e13, e14, cn1, sr1', if1, _⟩ := (due18.mono s1821).ex
      obtain ⟨M2, ys2, zp2, p2, j2, e21, _, e22, e23, e24, cn2, sr2', if2, _⟩ := (due2.mono s21).ex
      have ne : V.ref D1 ≠ V.ref D2 := fun z => by
        injection z with z
        exact ((due18.mono s19).there.2) (by rw [z]; exact nD2)
      refine ⟨TD, TE2, _, _, _, _, .list ((V1.headsOf ww1).map plD), .list ((V1.headsOf ww2).map plD), _, _, rfl, rfl, e11, e21, (plL_at e12 e13).dp (plL_nd _), (plL_at e22 e23).dp (plL_nd _), shaped_plL _, shaped_plL _, frG_dic e14.g, frG_dic e24.g, ne, frD_shp, frD_shp, ?_⟩
      have eb : (PyData.eqv (.list ((V1.headsOf ww1).map plD)) (.list ((V1.headsOf ww2).map plD)) && ((frD true zp1 p1 j1).length == (frD true zp2 p2 j2).length && eqKv (frD true zp2 p2 j2) (frD true zp1 p1 j1))) = r := by
        rw [Bool.eq_iff_iff, Bool.and_eq_true, PyData.eqv, plDs_eqv, decide_eq_true_iff, dict_iff sr1' if1 sr2' if2, iff]
        have u1 := fun s => (can1 s).uniq (cn1 s)
        have u2 := fun s => (can2 s).uniq (cn2 s)
        constructor
        · rintro ⟨h1, h2⟩
          refine ⟨h1, fun s => ?_⟩
          rw [(u1 s).1, (u1 s).2, (u2 s).1, (u2 s).2]
          exact h2 s
        · rintro ⟨h1, h2⟩
          refine ⟨h1, fun s => ?_⟩
          rw [← (u1 s).1, ← (u1 s).2, ← (u2 s).1, ← (u2 s).2]
          exact h2 s
      rw [eb]
      refine ⟨rfl, ?_⟩
      rw [decide_eq_true rfl]
      exact k H21 (f113.trans (f1318.trans (Fm.of s1821))) ((sr18.mono s1821).le (by omega))
end

end K1

set_option Elab.async false
set_option linter.all false
set_option maxRecDepth 100000
set_option maxHeartbeats 4000000
namespace K1
open PySem L2 W1
section
variable {P : Program} {w : World} {K : PySem.W.Frag} {mg : Str → Option Value} {base : Heap} {CP CM C : Addr}
/-! ### the cells and the source -/
theorem ve_ixS {σ : St} {H1 : Hp} {t u : TE} {q : Addr} {xs : List V} {n : Nat} {v : V} (h : VE t (.ref q) σ H1) (hq : SqL K H1 q xs) (r : VE u (nV n) σ H1) (e : xs[n]? = some v) : VE (tOp (rIxL K) t u) v σ H1 :=
  fun H2 s Q k => h H2 s _ (r H2 s _ ⟨q, xs, _, v, rfl, rfl, sqL_mono hq s, atI_nat e, k⟩)
def spCa (K : PySem.W.Frag) : Sp := fun vs H Q _ => ∃ (p : Addr) (xs : List Int) (i : Nat), vs = [.ref p, nV i] ∧ SqL K H p (xs.map V.int) ∧ ∀ c H', Same H H' → Q (.int c) H'
theorem sc_law_cell_at : FnScope ["_law_script", "_law_k"] ["_law_script", "_law_k"] (defScope (top 49)) := ⟨rfl, rfl, rfl, by decide +kernel, rfl, by decide +kernel, by decide +kernel⟩
theorem ok_cell_at {f : Addr} {fd : FuncData} (F : Fun K "_law_cell_at" "_law_cell_at" (top 49) f fd) (B : Bl3 mg) : FnOk P w K mg base CX0 1 f fd ["_law_script", "_law_k"] (spCa K) := by
  refine F.ok sc_law_cell_at (fun vs H Q E h => ?_) (fun cdv A outer s H vs Q E hr h => ?_)
  · obtain ⟨p, xs, i, rfl, _⟩ := h
    rfl
  · obtain ⟨p, xs, i, rfl, hp, k⟩ := h
    refine ⟨_, (pss_cons (ps_if (pt_cmpR op_lt (pv 1) (pe_callB call_len_seq rfl B.len PySem.boot_len (pa_cons (pv 0) pa_nil)) (nomark _)) (pss_one (ps_ret (pe_ix ix_list (pv 0) (pv 1) (fun _ _ => rfl)))) pss_nil)
      (pss_one (ps_ret pe_int))), ?_⟩
    refine seq_rd (if_be (be_ltN (i := i) (j := (xs.map V.int).length) (ve_var rfl) (ve_lenS (a := p) rfl hp)) fun H3 s3 => ⟨fun z => ?_, fun z => ?_⟩)
    · have hi := of_decide_eq_true z
      rw [List.length_map] at hi
      refine ret_of ((ve_ixS (n := i) (v := .int xs[i]) (ve_var (v := .ref p) rfl) (sqL_mono hp s3) (ve_var (v := nV i) rfl) (by rw [List.getElem?_map, List.getElem?_eq_getElem hi]; rfl)) H3 (Same.refl _) _ (k _ H3 s3))
    · refine next_rd ?_
      dsimp only
      exact ret_of (k 0 H3 s3)
def spSo : Sp := fun vs H Q _ => ∃ (c : Int), vs = [.int c] ∧ ∀ L H', Same H H' → H L = none → Src H' L 0 → Q (.ref L) H'
theorem sc_law_source : FnScope ["_law_cell"] ["_law_cell"] (defScope (top 50)) := ⟨rfl, rfl, rfl, by decide +kernel, rfl, by decide +kernel, by decide +kernel⟩
theorem ok_source {f : Addr} {fd : FuncData} (F : Fun K "_law_source" "_law_source" (top 50) f fd) (B : Bl3 mg) : FnOk P w K mg base CX0 1 f fd ["_law_cell"] spSo := by
  refine F.ok sc_law_source (fun vs H Q E h => ?_) (fun cdv A outer s H vs Q E hr h => ?_)
  · obtain ⟨c, rfl, _⟩ := h
    rfl
  · obtain ⟨c, rfl, k⟩ := h
    refine ⟨_, (pss_one (ps_ret (pe_lst (pa_cons (pe_op op_mul (pv 0) (pe_callTy call_int1 rfl B.int PyProof.Rows.boot_int (pa_cons (pe_cmpR op_ge (pv 0) (pe_op op_pow pe_int pe_int) (nomark _)) pa_nil))) (pa_cons (pe_op op_mod (pe_callTy call_int1 rfl B.int PyProof.Rows.boot_int (pa_cons (pv 0) pa_nil)) pe_int) (pa_cons pe_int pa_nil)))))), ?_⟩
    have vp : VE (tOp (rI CPow fun i j => .int (i ^ j.toNat)) (tC (.int 10)) (tC (.int 18))) (.int (10 ^ 18)) [some (.int c)] H := fun H2 s2 Q k => ⟨10, 18, rfl, rfl, ⟨by decide, by decide, by decide⟩, k⟩
    refine ret_of (tlst_rd (tcons_rd ?_))
    refine ⟨.int c, rfl, (ve_intB (ve_geI (ve_var (v := .int c) rfl) vp)) H (Same.refl _) _ ⟨c, _, rfl, rfl, .inr ?_, ?_⟩⟩
    · split <;> exact ⟨by decide, by decide⟩
    · refine tcons_rd ((ve_mod (i := c) (j := 2147483647) (ve_intI (ve_var (v := .int c) rfl)) ve_c (by decide)) H (Same.refl _) _ (cons_rd (tc_rd ⟨by show 3 ≤ sizeLine; decide, fun L nL => k L _ (same_new (Same.refl _) nL) nL ⟨_, _, 0, upd_same, ?_, Int.emod_nonneg _ (by decide), Int.emod_lt_of_pos _ (by decide), by decide, by decide⟩⟩)))
      split
      · rename_i z
        have := of_decide_eq_true z
        omega
      · omega
end
section
variable {P : Program} {w : World} {K : PySem.W.Frag} {mg : Str → Option Value} {base : Heap} {CP CM C : Addr}
def spLaw (K : PySem.W.Frag) : Sp := fun vs H Q _ => ∃ (a : Addr) (ns : List Int), vs = [.ref a] ∧ SqL K H a (ns.map V.int) ∧ ns.length ≤ 63 ∧ ∀ H', Q (.bl true) H'
theorem ilist_rd {t : TE} {σ : St} {H : Hp} {R : It → Hp → Prop} (h : t σ H fun x H1 => ∃ a, x = .ref a ∧ (∃ xs, SqL K H1 a xs) ∧ R (Itl K a) H1) : iList K t σ H R := h
theorem cut_memV {xs : List V} {lo hi : Option Int} {x : V} (h : x ∈ cutV xs lo hi) : x ∈ xs := by
  unfold cutV at h
  exact List.mem_of_mem_drop (List.mem_of_mem_take h)
theorem sc_law : FnScope ["_law_script", "_law_cell", "_law_source_here", "_law_turn"] ["_law_script"] (defScope (top 62)) := ⟨rfl, rfl, rfl, by decide +kernel, rfl, by decide +kernel, by decide +kernel⟩
theorem ok_law {f : Addr} {fd : FuncData} (F : Fun K "law" "law" (top 62) f fd) (B : Bl3 mg) (LCa : Cal P w K mg base CX0 1 "_law_cell_at" ["_law_script", "_law_k"] (spCa K)) (LSo : Cal P w K mg base CX0 1 "_law_source" ["_law_cell"] spSo) (LRi : CalG P w K mg base CX0 10 "_law_right" ["_law_source_here"] spRi) : FnG P w K mg base CX0 11 f fd ["_law_script"] (spLaw K) := by
  refine F.okG sc_law (fun vs H Q E h => ?_) (fun cdv A outer s H vs Q E hg hr h => ?_)
  · obtain ⟨a, ns, rfl, _⟩ := h
    rfl
  · obtain ⟨a, ns, rfl, ha, n63, k⟩ := h
    refine ⟨_, (pss_cons (ps_for PassesOwn.never rfl (pi_list (pe_op op_cat (pe_lst (pa_cons (pe_cal LCa hr (by omega) pass0 (pa_cons (pv 0) (pa_cons pe_int pa_nil))) pa_nil)) (pe_slice sl_list (pv 0) (po_some pe_int) (po_some pe_int)))) (pg_name (i := 1) sc_law.nd rfl (Or.inl rfl))
        (pss_cons (ps_set (i := 2) sc_law.nd rfl (Or.inl rfl) (pe_cal LSo hr (by omega) pass0 (pa_cons (pv 1) pa_nil)))
      (pss_one (ps_for PassesOwn.never rfl (pi_range1 rfl B.range (pa_cons pe_int pa_nil)) (pg_name (i := 3) sc_law.nd rfl (Or.inl rfl))
        (pss_one (ps_if (pt_not (pt_val (pe_calG LRi hg hr (by omega) pass0 (pa_cons (pv 2) pa_nil)))) (pss_one (ps_ret pe_bl)) pss_nil))))))
      (pss_one (ps_ret pe_bl))), ?_⟩
    refine seq_rd ?_
    change iList _ _ _ _ _
    refine ilist_rd (opT_rd (tlst_rd (cons_rd (call_rd (va_cons (ve_var (v := .ref a) rfl) (va_cons ve_c va_nil)) ⟨a, ns, 0, rfl, ha, fun c0 H1 s1 => ⟨by show 1 ≤ sizeLine; decide, fun X nX => ?_⟩⟩))))
    have s2 := same_new (o := .lst [.int c0]) (Same.refl H1) nX
    have hX : (upd H1 X (.lst [.int c0])) X = some (.lst [.int c0]) := upd_same
    generalize upd H1 X (.lst [.int c0]) = H2 at s2 hX ⊢
    refine ⟨.ref a, rfl, 1, rfl, 6, rfl, a, _, rfl, sqL_mono ha (s1.trans s2), fun Y nY => ?_⟩
    have s3 := same_new (o := .lst (cutV (ns.map V.int) (some 1) (some 6))) (Same.refl H2) nY
    have hY : (upd H2 Y (.lst (cutV (ns.map V.int) (some 1) (some 6)))) Y = some (.lst (cutV (ns.map V.int) (some 1) (some 6))) := upd_same
    generalize upd H2 Y (.lst (cutV (ns.map V.int) (some 1) (some 6))) = H3 at s3 hY ⊢
    have lc := cutV_length (ns.map V.int) (some 1) (some 6)
    rw [List.length_map] at lc
    refine ⟨X, Y, _, _, rfl, rfl, s3 _ _ hX, hY, by rw [sizeLine_eq]; show 1 + _ ≤ _; omega, fun Z nZ => ?_⟩
    have hZ : (upd H3 Z (.lst ([.int c0] ++ cutV (ns.map V.int) (some 1) (some 6)))) Z = some (.lst ([.int c0] ++ cutV (ns.map V.int) (some 1) (some 6))) := upd_same
    generalize upd H3 Z (.lst ([.int c0] ++ cutV (ns.map V.int) (some 1) (some 6))) = H4 at hZ ⊢
    have inN : ∀ x ∈ [V.int c0] ++ cutV (ns.map V.int) (some 1) (some 6), ∃ c, x = .int c := fun x m => by
      rcases List.mem_append.mp m with m | m
      · exact ⟨c0, List.mem_singleton.mp m⟩
      · obtain ⟨c, _, e⟩ := List.mem_map.mp (cut_memV m)
        exact ⟨c, e.symm⟩
    generalize [V.int c0] ++ cutV (ns.map V.int) (some 1) (some 6) = cs at hZ inN
    refine ⟨Z, rfl, ⟨_, SqL.of hZ⟩, ?_⟩
    refine for_list (xs := cs) (fun i σ H5 => ∃ (v1 v2 v3 : Option V), σ = [some (.ref a), v1, v2, v3] ∧ H5 Z = some (.lst cs)) ⟨none, none, none, rfl, hZ⟩ (fun i σ H5 _ z => by
      obtain ⟨_, _, _, _, z⟩ := z
      exact SqL.of z) ?_ ?_
    · rintro i x σ H5 hx ⟨v1, v2, v3, rfl, hZ5⟩
      obtain ⟨c, rfl⟩ := inN x (List.mem_of_getElem? hx)
      refine gname_rd ?_
      refine seq_rd (asg_of (call_rd (va_cons (ve_var (v := .int c) rfl) va_nil) ⟨c, rfl, fun src H6 s6 nsrc sr => ?_⟩))
      have hZ6 := s6 _ _ hZ5
      have Zsrc : Z ≠ src := fun z => by rw [← z, hZ5] at nsrc; cases nsrc
      refine next_rd ?_
      dsimp only
      refine forR1 (m := 3) (va_cons ve_c va_nil) ⟨by decide, by decide⟩ (fun j σ H7 => ∃ (v3 : Option V), σ = [some (.ref a), some (.int c), some (.ref src), v3] ∧ Src H7 src (200 * j) ∧ H7 Z = some (.lst cs)) ⟨v3, rfl, sr, hZ6⟩ ?_ ?_
      · rintro j σ H7 hj ⟨v3, rfl, sr7, hZ7⟩
        have hj : j < 3 := hj
        refine gname_rd (tifS_of ?_)
        refine call_rd (va_cons (ve_var (v := .ref src) rfl) va_nil) ⟨src, 200 * j, rfl, sr7, by omega, fun H8 f8 sr8 => ⟨true, rfl, ?_⟩⟩
        dsimp only
        rw [if_neg (by decide)]
        refine next_rd ?_
        exact ⟨_, rfl, sr8.le (by omega), f8.keep hZ7 Zsrc⟩
      · rintro σ H7 ⟨v3, rfl, sr7, hZ7⟩
        exact ⟨_, _, _, rfl, hZ7⟩
    · rintro σ H5 ⟨v1, v2, v3, rfl, _⟩
      dsimp only
      exact ret_of (k H5)
end

end K1

set_option Elab.async false
set_option linter.all false
set_option maxRecDepth 100000
set_option maxHeartbeats 8000000
namespace K1
open PySem PySem.Spec PyProof.Rows L2 PySem.K1X
section
variable {K : PySem.W.Frag}

theorem fun_of {x q : Str} {st : Stmt} {f : Addr} {fd : FuncData} (F : FunD K x q (defArgs st) (defBody st) (defScope st) [] [] f fd) : Fun K x q st f fd := by
  obtain ⟨oc, od, dV, kV, doc, pm, an, cdv, ct, osl, e, lk, hcd, hD, _⟩ := F.ex
  rcases hD with ⟨_, rfl⟩ | ⟨z, _⟩
  · exact ⟨⟨oc, od, kV, doc, pm, an, cdv, ct, osl, e, lk, hcd⟩, F.kp⟩
  · exact absurd rfl z
end
theorem facts {P : Program} {w : World} {K : PySem.W.Frag} {h : Heap} {mg : Str → Option Value} {f : Addr} (X : K.In h) (G : h.Ns mainGlobals mg) (hfm : mg ("law" : Str) = some (.ref f)) (c : He.SaysX hfa hfn hts [] exB w h K) :
    ∃ fd : FuncData, (∀ (s : Shared) (v : Value), BindsTo s fd ⟨[v], []⟩ [("_law_script", v)]) ∧ ∀ base : Heap, K.In base → base.Ns mainGlobals mg → FnG P w K mg base CX0 11 f fd ["_law_script"] (spLaw K) := by
  have cd : He.SaysD hfa hfn K := c.t.d
  have e := hfm.symm.trans (He.glo_ok X G (cd.fact 35 (f := .glo "law") rfl))
  cases e
  obtain ⟨fd0, D0⟩ := cd.def_ 0 rfl
  have F0 : Fun K "is_integer" "is_integer" (top 3) (He.fAd K ("is_integer", none)) fd0 := fun_of D0
  have b0 : Binds K fd0 ["value"] [] := D0.bindsN fun _ _ _ _ _ _ us hl => match us, hl with | [_], _ => rfl
  obtain ⟨fd1, D1⟩ := cd.def_ 1 rfl
  have F1 : Fun K "is_within" "is_within" (top 4) (He.fAd K ("is_within", none)) fd1 := fun_of D1
  have b1 : Binds K fd1 ["value", "least", "most"] [] := D1.bindsN fun _ _ _ _ _ _ us hl => match us, hl with | [_, _, _], _ => rfl
  obtain ⟨fd2, D2⟩ := cd.def_ 2 rfl
  have F2 : Fun K "is_count" "is_count" (top 5) (He.fAd K ("is_count", none)) fd2 := fun_of D2
  have b2 : Binds K fd2 ["value"] [] := D2.bindsN fun _ _ _ _ _ _ us hl => match us, hl with | [_], _ => rfl
  obtain ⟨fd3, D3⟩ := cd.def_ 3 rfl
  have F3 : Fun K "is_size" "is_size" (top 6) (He.fAd K ("is_size", none)) fd3 := fun_of D3
  have b3 : Binds K fd3 ["value"] [] := D3.bindsN fun _ _ _ _ _ _ us hl => match us, hl with | [_], _ => rfl
  obtain ⟨fd4, D4⟩ := cd.def_ 4 rfl
  have F4 : Fun K "is_word" "is_word" (top 7) (He.fAd K ("is_word", none)) fd4 := fun_of D4
  have b4 : Binds K fd4 ["value", "word"] [] := D4.bindsN fun _ _ _ _ _ _ us hl => match us, hl with | [_, _], _ => rfl
  obtain ⟨fd5, D5⟩ := cd.def_ 5 rfl
  have F5 : Fun K "is_place" "is_place" (top 15) (He.fAd K ("is_place", none)) fd5 := fun_of D5
  have b5 : Binds K fd5 ["value"] [] := D5.bindsN fun _ _ _ _ _ _ us hl => match us, hl with | [_], _ => rfl
  obtain ⟨fd6, D6⟩ := cd.def_ 6 rfl
  have F6 : Fun K "is_pool" "is_pool" (top 16) (He.fAd K ("is_pool", none)) fd6 := fun_of D6
  have b6 : Binds K fd6 ["value", "size"] [] := D6.bindsN fun _ _ _ _ _ _ us hl => match us, hl with | [_, _], _ => rfl
  obtain ⟨fd7, D7⟩ := cd.def_ 7 rfl
  have F7 : Fun K "are_pools" "are_pools" (top 17) (He.fAd K ("are_pools", none)) fd7 := fun_of D7
  have b7 : Binds K fd7 ["value"] [] := D7.bindsN fun _ _ _ _ _ _ us hl => match us, hl with | [_], _ => rfl
  obtain ⟨fd8, D8⟩ := cd.def_ 8 rfl
  have F8 : Fun K "origins_of" "origins_of" (top 18) (He.fAd K ("origins_of", none)) fd8 := fun_of D8
  have b8 : Binds K fd8 ["heads", "fronts"] [] := D8.bindsN fun _ _ _ _ _ _ us hl => match us, hl with | [_, _], _ => rfl
  obtain ⟨fd9, D9⟩ := cd.def_ 9 rfl
  have F9 : Fun K "fresh_of" "fresh_of" (top 19) (He.fAd K ("fresh_of", none)) fd9 := fun_of D9
  have b9 : Binds K fd9 ["fronts", "size"] [] := D9.bindsN fun _ _ _ _ _ _ us hl => match us, hl with | [_, _], _ => rfl
  obtain ⟨fd10, D10⟩ := cd.def_ 10 rfl
  have F10 : Fun K "has_origin_twice" "has_origin_twice" (top 20) (He.fAd K ("has_origin_twice", none)) fd10 := fun_of D10
  have b10 : Binds K fd10 ["heads", "fronts"] [] := D10.bindsN fun _ _ _ _ _ _ us hl => match us, hl with | [_, _], _ => rfl
  obtain ⟨fd11, D11⟩ := cd.def_ 11 rfl
  have F11 : Fun K "checked_plan" "checked_plan" (top 21) (He.fAd K ("checked_plan", none)) fd11 := fun_of D11
  have b11 : Binds K fd11 ["objects", "pools"] [] := D11.bindsN fun _ _ _ _ _ _ us hl => match us, hl with | [_, _], _ => rfl
  obtain ⟨fd12, D12⟩ := cd.def_ 12 rfl
  have F12 : Fun K "shortened_heads" "shortened_heads" (top 22) (He.fAd K ("shortened_heads", none)) fd12 := fun_of D12
  have b12 : Binds K fd12 ["heads"] [] := D12.bindsN fun _ _ _ _ _ _ us hl => match us, hl with | [_], _ => rfl
  obtain ⟨fd13, D13⟩ := cd.def_ 13 rfl
  have F13 : Fun K "shortened_fronts" "shortened_fronts" (top 23) (He.fAd K ("shortened_fronts", none)) fd13 := fun_of D13
  have b13 : Binds K fd13 ["fronts"] [] := D13.bindsN fun _ _ _ _ _ _ us hl => match us, hl with | [_], _ => rfl
  obtain ⟨fd14, D14⟩ := cd.def_ 14 rfl
  have F14 : Fun K "goals_in" "goals_in" (top 24) (He.fAd K ("goals_in", none)) fd14 := fun_of D14
  have b14 : Binds K fd14 ["heads", "fronts"] [] := D14.bindsN fun _ _ _ _ _ _ us hl => match us, hl with | [_, _], _ => rfl
  obtain ⟨fd15, D15⟩ := cd.def_ 15 rfl
  have F15 : Fun K "objects_of" "objects_of" (top 25) (He.fAd K ("objects_of", none)) fd15 := fun_of D15
  have b15 : Binds K fd15 ["plan"] [] := D15.bindsN fun _ _ _ _ _ _ us hl => match us, hl with | [_], _ => rfl
  obtain ⟨fd16, D16⟩ := cd.def_ 16 rfl
  have F16 : Fun K "pools_of" "pools_of" (top 26) (He.fAd K ("pools_of", none)) fd16 := fun_of D16
  have b16 : Binds K fd16 ["plan"] [] := D16.bindsN fun _ _ _ _ _ _ us hl => match us, hl with | [_], _ => rfl
  obtain ⟨fd17, D17⟩ := cd.def_ 17 rfl
  have F17 : Fun K "front_of" "front_of" (top 27) (He.fAd K ("front_of", none)) fd17 := fun_of D17
  have b17 : Binds K fd17 ["plan", "size"] [] := D17.bindsN fun _ _ _ _ _ _ us hl => match us, hl with | [_, _], _ => rfl
  obtain ⟨fd18, D18⟩ := cd.def_ 18 rfl
  have F18 : Fun K "shift_of" "shift_of" (top 28) (He.fAd K ("shift_of", none)) fd18 := fun_of D18
  have b18 : Binds K fd18 ["plan", "size"] [] := D18.bindsN fun _ _ _ _ _ _ us hl => match us, hl with | [_, _], _ => rfl
  obtain ⟨fd19, D19⟩ := cd.def_ 19 rfl
  have F19 : Fun K "origin_of" "origin_of" (top 31) (He.fAd K ("origin_of", none)) fd19 := fun_of D19
  have b19 : Binds K fd19 ["plan", "place"] [] := D19.bindsN fun _ _ _ _ _ _ us hl => match us, hl with | [_, _], _ => rfl
  obtain ⟨fd20, D20⟩ := cd.def_ 20 rfl
  have F20 : Fun K "goal_of" "goal_of" (top 32) (He.fAd K ("goal_of", none)) fd20 := fun_of D20
  have b20 : Binds K fd20 ["plan", "place"] [] := D20.bindsN fun _ _ _ _ _ _ us hl => match us, hl with | [_, _], _ => rfl
  obtain ⟨fd21, D21⟩ := cd.def_ 21 rfl
  have F21 : Fun K "is_end" "is_end" (top 29) (He.fAd K ("is_end", none)) fd21 := fun_of D21
  have b21 : Binds K fd21 ["plan", "place"] [] := D21.bindsN fun _ _ _ _ _ _ us hl => match us, hl with | [_, _], _ => rfl
  obtain ⟨fd22, D22⟩ := cd.def_ 22 rfl
  have F22 : Fun K "_law_cell_at" "_law_cell_at" (top 49) (He.fAd K ("_law_cell_at", none)) fd22 := fun_of D22
  have b22 : Binds K fd22 ["_law_script", "_law_k"] [] := D22.bindsN fun _ _ _ _ _ _ us hl => match us, hl with | [_, _], _ => rfl
  obtain ⟨fd23, D23⟩ := cd.def_ 23 rfl
  have F23 : Fun K "_law_source" "_law_source" (top 50) (He.fAd K ("_law_source", none)) fd23 := fun_of D23
  have b23 : Binds K fd23 ["_law_cell"] [] := D23.bindsN fun _ _ _ _ _ _ us hl => match us, hl with | [_], _ => rfl
  obtain ⟨fd24, D24⟩ := cd.def_ 24 rfl
  have F24 : Fun K "_law_draw" "_law_draw" (top 51) (He.fAd K ("_law_draw", none)) fd24 := fun_of D24
  have b24 : Binds K fd24 ["_law_source_here", "_law_bound"] [] := D24.bindsN fun _ _ _ _ _ _ us hl => match us, hl with | [_, _], _ => rfl
  obtain ⟨fd25, D25⟩ := cd.def_ 25 rfl
  have F25 : Fun K "_law_pick" "_law_pick" (top 52) (He.fAd K ("_law_pick", none)) fd25 := fun_of D25
  have b25 : Binds K fd25 ["_law_source_here", "_law_items"] [] := D25.bindsN fun _ _ _ _ _ _ us hl => match us, hl with | [_, _], _ => rfl
  obtain ⟨fd26, D26⟩ := cd.def_ 26 rfl
  have F26 : Fun K "_law_places" "_law_places" (top 53) (He.fAd K ("_law_places", none)) fd26 := fun_of D26
  have b26 : Binds K fd26 ["_law_sizes_here"] [] := D26.bindsN fun _ _ _ _ _ _ us hl => match us, hl with | [_], _ => rfl
  obtain ⟨fd27, D27⟩ := cd.def_ 27 rfl
  have F27 : Fun K "_law_steps" "_law_steps" (top 54) (He.fAd K ("_law_steps", none)) fd27 := fun_of D27
  have b27 : Binds K fd27 ["_law_source_here", "_law_count", "_law_most"] [] := D27.bindsN fun _ _ _ _ _ _ us hl => match us, hl with | [_, _, _], _ => rfl
  obtain ⟨fd28, D28⟩ := cd.def_ 28 rfl
  have F28 : Fun K "_law_played" "_law_played" (top 55) (He.fAd K ("_law_played", none)) fd28 := fun_of D28
  have b28 : Binds K fd28 ["_law_world", "_law_steps_here"] [] := D28.bindsN fun _ _ _ _ _ _ us hl => match us, hl with | [_, _], _ => rfl
  obtain ⟨fd29, D29⟩ := cd.def_ 29 rfl
  have F29 : Fun K "_law_tail" "_law_tail" (top 56) (He.fAd K ("_law_tail", none)) fd29 := fun_of D29
  have b29 : Binds K fd29 ["_law_size", "_law_row"] [] := D29.bindsN fun _ _ _ _ _ _ us hl => match us, hl with | [_, _], _ => rfl
  obtain ⟨fd30, D30⟩ := cd.def_ 30 rfl
  have F30 : Fun K "_law_parts" "_law_parts" (top 57) (He.fAd K ("_law_parts", none)) fd30 := fun_of D30
  have b30 : Binds K fd30 ["_law_source_here", "_law_world"] [] := D30.bindsN fun _ _ _ _ _ _ us hl => match us, hl with | [_, _], _ => rfl
  obtain ⟨fd31, D31⟩ := cd.def_ 31 rfl
  have F31 : Fun K "_law_short" "_law_short" (top 58) (He.fAd K ("_law_short", none)) fd31 := fun_of D31
  have b31 : Binds K fd31 ["_law_world"] [] := D31.bindsN fun _ _ _ _ _ _ us hl => match us, hl with | [_], _ => rfl
  obtain ⟨fd32, D32⟩ := cd.def_ 32 rfl
  have F32 : Fun K "_law_sizes" "_law_sizes" (top 59) (He.fAd K ("_law_sizes", none)) fd32 := fun_of D32
  have b32 : Binds K fd32 ["_law_source_here", "_law_most"] [] := D32.bindsN fun _ _ _ _ _ _ us hl => match us, hl with | [_, _], _ => rfl
  obtain ⟨fd33, D33⟩ := cd.def_ 33 rfl
  have F33 : Fun K "_law_origins_right" "_law_origins_right" (top 60) (He.fAd K ("_law_origins_right", none)) fd33 := fun_of D33
  have b33 : Binds K fd33 ["_law_move", "_law_world"] [] := D33.bindsN fun _ _ _ _ _ _ us hl => match us, hl with | [_, _], _ => rfl
  obtain ⟨fd34, D34⟩ := cd.def_ 34 rfl
  have F34 : Fun K "_law_right" "_law_right" (top 61) (He.fAd K ("_law_right", none)) fd34 := fun_of D34
  have b34 : Binds K fd34 ["_law_source_here"] [] := D34.bindsN fun _ _ _ _ _ _ us hl => match us, hl with | [_], _ => rfl
  obtain ⟨fd35, D35⟩ := cd.def_ 35 rfl
  have F35 : Fun K "law" "law" (top 62) (He.fAd K ("law", none)) fd35 := fun_of D35
  have b35 : Binds K fd35 ["_law_script"] [] := D35.bindsN fun _ _ _ _ _ _ us hl => match us, hl with | [_], _ => rfl
  obtain ⟨fd36, D36⟩ := cd.def_ 36 rfl
  have F36 : Fun K "__init__" "Plan.__init__" (inClass (top 14) 0) (He.fAd K ("Plan", some "__init__")) fd36 := fun_of D36
  have b36 : Binds K fd36 ["self", "heads", "many", "fronts"] [] := D36.bindsN fun _ _ _ _ _ _ us hl => match us, hl with | [_, _, _, _], _ => rfl
  obtain ⟨fd37, D37⟩ := cd.def_ 37 rfl
  have F37 : Fun K "__init__" "Move.__init__" (inClass (top 47) 0) (He.fAd K ("Move", some "__init__")) fd37 := fun_of D37
  have b37 : Binds K fd37 ["self", "objects", "pools"] [] := D37.bindsN fun _ _ _ _ _ _ us hl => match us, hl with | [_, _, _], _ => rfl
  obtain ⟨fd38, D38⟩ := cd.def_ 38 rfl
  have F38 : Fun K "objects" "Move.objects" (inClass (top 47) 1) (He.fAd K ("Move", some "objects")) fd38 := fun_of D38
  have b38 : Binds K fd38 ["self"] [] := D38.bindsN fun _ _ _ _ _ _ us hl => match us, hl with | [_], _ => rfl
  obtain ⟨fd39, D39⟩ := cd.def_ 39 rfl
  have F39 : Fun K "pools" "Move.pools" (inClass (top 47) 2) (He.fAd K ("Move", some "pools")) fd39 := fun_of D39
  have b39 : Binds K fd39 ["self"] [] := D39.bindsN fun _ _ _ _ _ _ us hl => match us, hl with | [_], _ => rfl
  obtain ⟨fd40, D40⟩ := cd.def_ 40 rfl
  have F40 : Fun K "origin" "Move.origin" (inClass (top 47) 3) (He.fAd K ("Move", some "origin")) fd40 := fun_of D40
  have b40 : Binds K fd40 ["self", "place"] [] := D40.bindsN fun _ _ _ _ _ _ us hl => match us, hl with | [_, _], _ => rfl
  obtain ⟨fd41, D41⟩ := cd.def_ 41 rfl
  have F41 : Fun K "goal" "Move.goal" (inClass (top 47) 4) (He.fAd K ("Move", some "goal")) fd41 := fun_of D41
  have b41 : Binds K fd41 ["self", "place"] [] := D41.bindsN fun _ _ _ _ _ _ us hl => match us, hl with | [_, _], _ => rfl
  obtain ⟨fd42, D42⟩ := cd.def_ 42 rfl
  have F42 : Fun K "shift" "Move.shift" (inClass (top 47) 5) (He.fAd K ("Move", some "shift")) fd42 := fun_of D42
  have b42 : Binds K fd42 ["self", "size"] [] := D42.bindsN fun _ _ _ _ _ _ us hl => match us, hl with | [_, _], _ => rfl
  obtain ⟨fd43, D43⟩ := cd.def_ 43 rfl
  have F43 : Fun K "__eq__" "Move.__eq__" (inClass (top 47) 13) (He.fAd K ("Move", some "__eq__")) fd43 := fun_of D43
  have b43 : Binds K fd43 ["self", "other"] [] := D43.bindsN fun _ _ _ _ _ _ us hl => match us, hl with | [_, _], _ => rfl
  obtain ⟨fd44, D44⟩ := cd.def_ 44 rfl
  have F44 : Fun K "__repr__" "Move.__repr__" (inClass (top 47) 14) (He.fAd K ("Move", some "__repr__")) fd44 := fun_of D44
  have b44 : Binds K fd44 ["self"] [] := D44.bindsN fun _ _ _ _ _ _ us hl => match us, hl with | [_], _ => rfl
  have zisinstance := He.free_ok X G (cd.fact 38 (f := .free "isinstance") rfl)
  have zint := He.free_ok X G (cd.fact 39 (f := .free "int") rfl)
  have zbool := He.free_ok X G (cd.fact 40 (f := .free "bool") rfl)
  have zstr := He.free_ok X G (cd.fact 41 (f := .free "str") rfl)
  have zlist := He.free_ok X G (cd.fact 42 (f := .free "list") rfl)
  have ztuple := He.free_ok X G (cd.fact 43 (f := .free "tuple") rfl)
  have zlen := He.free_ok X G (cd.fact 44 (f := .free "len") rfl)
  have zall := He.free_ok X G (cd.fact 45 (f := .free "all") rfl)
  have zenumerate := He.free_ok X G (cd.fact 46 (f := .free "enumerate") rfl)
  have zrange := He.free_ok X G (cd.fact 47 (f := .free "range") rfl)
  have zmax := He.free_ok X G (cd.fact 48 (f := .free "max") rfl)
  have zmin := He.free_ok X G (cd.fact 49 (f := .free "min") rfl)
  have zdivmod := He.free_ok X G (cd.fact 50 (f := .free "divmod") rfl)
  have zzip := He.free_ok X G (cd.fact 51 (f := .free "zip") rfl)
  have zsorted := He.free_ok X G (cd.fact 52 (f := .free "sorted") rfl)
  have zdict := He.free_ok X G (cd.fact 53 (f := .free "dict") rfl)
  have zrepr := He.free_ok X G (cd.fact 54 (f := .free "repr") rfl)
  have B0 : Blt mg := ⟨zisinstance, zint, zbool, zstr, zlist, ztuple, zlen, zall, zenumerate, zrange, zmax⟩
  have B2 : Bl2 mg := { toBlt := B0, min := zmin, divmod := zdivmod, zip := zzip, sorted := zsorted }
  have B : Bl3 mg := { toBl2 := B2, dict := zdict }
  have TP : NoPl K (He.ga K "Plan") := ⟨He.cls_ok (cd.fact 55 (f := .cls "Plan") rfl), He.noat_ok (cd.fact 57 (f := .noat "Plan" "heads") rfl), He.noat_ok (cd.fact 58 (f := .noat "Plan" "many") rfl), He.noat_ok (cd.fact 59 (f := .noat "Plan" "fronts") rfl), He.noat_ok (cd.fact 60 (f := .noat "Plan" "goals") rfl)⟩
  have NM : NoMv K (He.ga K "Move") := ⟨He.cls_ok (cd.fact 61 (f := .cls "Move") rfl), He.noat_ok (cd.fact 63 (f := .noat "Move" "_plan") rfl)⟩
  obtain ⟨xsp, x2⟩ := He.ba c.more
  obtain ⟨xtk, x2⟩ := He.ba x2
  obtain ⟨xne, x2⟩ := He.ba x2
  obtain ⟨pc, x2⟩ := He.ba x2
  obtain ⟨po, x2⟩ := He.ba x2
  obtain ⟨pk, x2⟩ := He.ba x2
  obtain ⟨pt0, x2⟩ := He.ba x2
  obtain ⟨pt1, x2⟩ := He.ba x2
  obtain ⟨pt2, x2⟩ := He.ba x2
  obtain ⟨pt3, x2⟩ := He.ba x2
  obtain ⟨pt4, x2⟩ := He.ba x2
  obtain ⟨pt5, x2⟩ := He.ba x2
  obtain ⟨mc, x2⟩ := He.ba x2
  obtain ⟨mo, x2⟩ := He.ba x2
  obtain ⟨mk, x2⟩ := He.ba x2
  obtain ⟨mt0, x2⟩ := He.ba x2
  obtain ⟨mt1, x2⟩ := He.ba x2
  obtain ⟨mt2, x2⟩ := He.ba x2
  obtain ⟨mt3, x2⟩ := He.ba x2
  obtain ⟨mt4, x2⟩ := He.ba x2
  have mt5 := x2
  have Ip : IsM K (He.ga K "Plan") := ⟨TP.cl, of_decide_eq_true pc, of_decide_eq_true xsp, of_decide_eq_true xtk, of_decide_eq_true po, of_decide_eq_true pk, fun t mt => by
    simp only [List.mem_cons, List.not_mem_nil, or_false] at mt
    rcases mt with rfl | rfl | rfl | rfl | rfl | rfl
    · exact of_decide_eq_true pt0
    · exact of_decide_eq_true pt1
    · exact of_decide_eq_true pt2
    · exact of_decide_eq_true pt3
    · exact of_decide_eq_true pt4
    · exact of_decide_eq_true pt5⟩
  have Im : IsM K (He.ga K "Move") := ⟨NM.cl, of_decide_eq_true mc, of_decide_eq_true xsp, of_decide_eq_true xtk, of_decide_eq_true mo, of_decide_eq_true mk, fun t mt => by
    simp only [List.mem_cons, List.not_mem_nil, or_false] at mt
    rcases mt with rfl | rfl | rfl | rfl | rfl | rfl
    · exact of_decide_eq_true mt0
    · exact of_decide_eq_true mt1
    · exact of_decide_eq_true mt2
    · exact of_decide_eq_true mt3
    · exact of_decide_eq_true mt4
    · exact of_decide_eq_true mt5⟩
  have gP := He.glo_ok X G (cd.fact 36 (f := .glo "Plan") rfl)
  have gM := He.glo_ok X G (cd.fact 37 (f := .glo "Move") rfl)
  have bA := FunD.bindsA (ps := ["_law_script"]) D35 fun _ _ _ _ _ _ us hl => match us, hl with | [_], _ => rfl
  refine ⟨fd35, fun s v => bA s [v] rfl, fun base _ _ => ?_⟩
  have C1 : Cal P w K mg base CX0 1 "is_integer" ["value"] spInteger := ⟨_, _, ok_is_integer F0 B0, He.glo_ok X G (cd.fact 0 (f := .glo "is_integer") rfl), D0.kp, b0⟩
  have C2 : Cal P w K mg base CX0 2 "is_within" ["value", "least", "most"] spWithin := ⟨_, _, ok_is_within F1 B0 C1, He.glo_ok X G (cd.fact 1 (f := .glo "is_within") rfl), D1.kp, b1⟩
  have CIc : Cal P w K mg base CX0 2 "is_count" ["value"] spIc := ⟨_, _, ok_is_count F2 C1, He.glo_ok X G (cd.fact 2 (f := .glo "is_count") rfl), D2.kp, b2⟩
  have CIs : Cal P w K mg base CX0 3 "is_size" ["value"] spIs := ⟨_, _, ok_is_size F3 C2, He.glo_ok X G (cd.fact 3 (f := .glo "is_size") rfl), D3.kp, b3⟩
  have CIw : Cal P w K mg base CX0 1 "is_word" ["value", "word"] spIw := ⟨_, _, ok_is_word F4 B, He.glo_ok X G (cd.fact 4 (f := .glo "is_word") rfl), D4.kp, b4⟩
  have CPl : Cal P w K mg base CX0 4 "is_place" ["value"] spPl := ⟨_, _, ok_is_place F5 B CIw CIc CIs, He.glo_ok X G (cd.fact 5 (f := .glo "is_place") rfl), D5.kp, b5⟩
  have COr : Cal P w K mg base CX0 1 "origins_of" ["heads", "fronts"] spOr := ⟨_, _, ok_origins_of F8 B, He.glo_ok X G (cd.fact 8 (f := .glo "origins_of") rfl), D8.kp, b8⟩
  have CFf : Cal P w K mg base CX0 1 "fresh_of" ["fronts", "size"] spFf := ⟨_, _, ok_fresh_of F9, He.glo_ok X G (cd.fact 9 (f := .glo "fresh_of") rfl), D9.kp, b9⟩
  have CHt : Cal P w K mg base CX0 2 "has_origin_twice" ["heads", "fronts"] spHt := ⟨_, _, ok_has_origin_twice F10 B COr CFf, He.glo_ok X G (cd.fact 10 (f := .glo "has_origin_twice") rfl), D10.kp, b10⟩
  have CSh : Cal P w K mg base CX0 1 "shortened_heads" ["heads"] spSh := ⟨_, _, ok_shortened_heads F12 B, He.glo_ok X G (cd.fact 12 (f := .glo "shortened_heads") rfl), D12.kp, b12⟩
  have CSf : Cal P w K mg base CX0 1 "shortened_fronts" ["fronts"] spSf := ⟨_, _, ok_shortened_fronts F13 B, He.glo_ok X G (cd.fact 13 (f := .glo "shortened_fronts") rfl), D13.kp, b13⟩
  have CGi : Cal P w K mg base CX0 1 "goals_in" ["heads", "fronts"] spGi := ⟨_, _, ok_goals_in F14 B, He.glo_ok X G (cd.fact 14 (f := .glo "goals_in") rfl), D14.kp, b14⟩
  have MP : Mkr P w K mg base CX0 2 "Plan" (He.ga K "Plan") ["self", "heads", "many", "fronts"] (spPlI (He.ga K "Plan")) := ⟨_, _, He.mkr_ok (cd.fact 56 (f := .mkr "Plan") rfl), ok_plI F36 TP CSh CSf CGi, He.glo_ok X G (cd.fact 36 (f := .glo "Plan") rfl), b36⟩
  have CFo : Cal P w K mg base CX0 1 "front_of" ["plan", "size"] (spFo (He.ga K "Plan")) := ⟨_, _, ok_front_of F17 TP, He.glo_ok X G (cd.fact 17 (f := .glo "front_of") rfl), D17.kp, b17⟩
  have COo : Cal P w K mg base CX0 2 "origin_of" ["plan", "place"] (spOo (He.ga K "Plan")) := ⟨_, _, ok_origin_of F19 B TP CFo, He.glo_ok X G (cd.fact 19 (f := .glo "origin_of") rfl), D19.kp, b19⟩
  have CPo : Cal P w K mg base CX0 5 "is_pool" ["value", "size"] spPo := ⟨_, _, ok_is_pool F6 B CPl CIc, He.glo_ok X G (cd.fact 6 (f := .glo "is_pool") rfl), D6.kp, b6⟩
  have CAp : Cal P w K mg base CX0 6 "are_pools" ["value"] spAp := ⟨_, _, ok_are_pools F7 B CIs CPo, He.glo_ok X G (cd.fact 7 (f := .glo "are_pools") rfl), D7.kp, b7⟩
  have CCp : Cal P w K mg base CX0 7 "checked_plan" ["objects", "pools"] (spCp (He.ga K "Plan")) := ⟨_, _, ok_checked_plan F11 B CPl CAp CHt MP, He.glo_ok X G (cd.fact 11 (f := .glo "checked_plan") rfl), D11.kp, b11⟩
  have MV : Mkr P w K mg base CX0 8 "Move" (He.ga K "Move") ["self", "objects", "pools"] (spMvI (He.ga K "Move") (He.ga K "Plan")) := ⟨_, _, He.mkr_ok (cd.fact 62 (f := .mkr "Move") rfl), ok_mvI F37 B NM gP Ip CCp, He.glo_ok X G (cd.fact 37 (f := .glo "Move") rfl), b37⟩
  have mQ := He.meth_ok (cd.fact 69 (f := .meth "Move" "__eq__") rfl)
  have OQ : OwnE P w K mg base CX0 1 (He.ga K "Move") ["self", "other"] (spEqG (He.ga K "Move") (He.ga K "Plan") K) := ⟨⟨_, _, ok_meqG F43 B NM TP gM Im, mQ.at_, mQ.fn, b43⟩, of_decide_eq_true xne, of_decide_eq_true mo⟩
  have COb : Cal P w K mg base CX0 1 "objects_of" ["plan"] (spObP (He.ga K "Plan")) := ⟨_, _, ok_objectsP F15 B TP, He.glo_ok X G (cd.fact 15 (f := .glo "objects_of") rfl), D15.kp, b15⟩
  have CPs : Cal P w K mg base CX0 1 "pools_of" ["plan"] (spPs (He.ga K "Plan")) := ⟨_, _, ok_pools_of F16 B TP, He.glo_ok X G (cd.fact 16 (f := .glo "pools_of") rfl), D16.kp, b16⟩
  have mR := He.meth_ok (cd.fact 70 (f := .meth "Move" "__repr__") rfl)
  have RP : OwnR P w K mg base 2 (He.ga K "Move") ["self"] (spRp (He.ga K "Move") (He.ga K "Plan")) := ⟨⟨_, _, ok_mrepr F44 NM COb CPs, mR.at_, mR.fn, b44⟩⟩
  have OB : MetW P w K mg base 2 (He.ga K "Move") "objects" ["self"] (spMbP (He.ga K "Move") (He.ga K "Plan")) := ⟨_, _, He.meth_ok (cd.fact 64 (f := .meth "Move" "objects") rfl), ok_mobjects F38 NM COb, b38⟩
  have PO : MetW P w K mg base 2 (He.ga K "Move") "pools" ["self"] (spMp (He.ga K "Move") (He.ga K "Plan")) := ⟨_, _, He.meth_ok (cd.fact 65 (f := .meth "Move" "pools") rfl), ok_mpools F39 NM CPs, b39⟩
  have LDr : Cal P w K mg base CX0 1 "_law_draw" ["_law_source_here", "_law_bound"] spDr := ⟨_, _, ok_draw F24 B, He.glo_ok X G (cd.fact 24 (f := .glo "_law_draw") rfl), D24.kp, b24⟩
  have LPk : Cal P w K mg base CX0 2 "_law_pick" ["_law_source_here", "_law_items"] spPk := ⟨_, _, ok_pick F25 B LDr, He.glo_ok X G (cd.fact 25 (f := .glo "_law_pick") rfl), D25.kp, b25⟩
  have LSz : Cal P w K mg base CX0 3 "_law_sizes" ["_law_source_here", "_law_most"] spSz := ⟨_, _, ok_sizes F32 B LDr LPk, He.glo_ok X G (cd.fact 32 (f := .glo "_law_sizes") rfl), D32.kp, b32⟩
  have LSt : Cal P w K mg base CX0 3 "_law_steps" ["_law_source_here", "_law_count", "_law_most"] spSt := ⟨_, _, ok_steps F27 B LDr LPk, He.glo_ok X G (cd.fact 27 (f := .glo "_law_steps") rfl), D27.kp, b27⟩
  have LPl : Cal P w K mg base CX0 1 "_law_places" ["_law_sizes_here"] spPlc := ⟨_, _, ok_places F26 B, He.glo_ok X G (cd.fact 26 (f := .glo "_law_places") rfl), D26.kp, b26⟩
  have LPd : Cal P w K mg base CX0 1 "_law_played" ["_law_world", "_law_steps_here"] spPd := ⟨_, _, ok_played F28 B, He.glo_ok X G (cd.fact 28 (f := .glo "_law_played") rfl), D28.kp, b28⟩
  have LTa : Cal P w K mg base CX0 1 "_law_tail" ["_law_size", "_law_row"] spTa := ⟨_, _, ok_tail F29 B, He.glo_ok X G (cd.fact 29 (f := .glo "_law_tail") rfl), D29.kp, b29⟩
  have LPa : Cal P w K mg base CX0 3 "_law_parts" ["_law_source_here", "_law_world"] spPr := ⟨_, _, ok_parts F30 B LDr LPk LTa, He.glo_ok X G (cd.fact 30 (f := .glo "_law_parts") rfl), D30.kp, b30⟩
  have CFr : Cal P w K mg base CX0 1 "front_of" ["plan", "size"] (spFoR (He.ga K "Plan")) := ⟨_, _, ok_front_ofR F17 TP, He.glo_ok X G (cd.fact 17 (f := .glo "front_of") rfl), D17.kp, b17⟩
  have CGo : Cal P w K mg base CX0 2 "goal_of" ["plan", "place"] (spGo (He.ga K "Plan")) := ⟨_, _, ok_goal_of F20 B TP CFr, He.glo_ok X G (cd.fact 20 (f := .glo "goal_of") rfl), D20.kp, b20⟩
  have CIe : Cal P w K mg base CX0 1 "is_end" ["plan", "place"] (spIe (He.ga K "Plan")) := ⟨_, _, ok_is_end F21 TP, He.glo_ok X G (cd.fact 21 (f := .glo "is_end") rfl), D21.kp, b21⟩
  have MG : MetW P w K mg base 5 (He.ga K "Move") "goal" ["self", "place"] (spMg (He.ga K "Move") (He.ga K "Plan")) := ⟨_, _, He.meth_ok (cd.fact 67 (f := .meth "Move" "goal") rfl), ok_mgoal F41 NM CPl CGo, b41⟩
  have MO_ : MetW P w K mg base 5 (He.ga K "Move") "origin" ["self", "place"] (spMo (He.ga K "Move") (He.ga K "Plan")) := ⟨_, _, He.meth_ok (cd.fact 66 (f := .meth "Move" "origin") rfl), ok_morigin F40 NM CPl CIe COo, b40⟩
  have CSo : Cal P w K mg base CX0 2 "shift_of" ["plan", "size"] (spSo' (He.ga K "Plan")) := ⟨_, _, ok_shift_of F18 B CFr, He.glo_ok X G (cd.fact 18 (f := .glo "shift_of") rfl), D18.kp, b18⟩
  have MS : MetW P w K mg base 5 (He.ga K "Move") "shift" ["self", "size"] (spMs (He.ga K "Move") (He.ga K "Plan")) := ⟨_, _, He.meth_ok (cd.fact 68 (f := .meth "Move" "shift") rfl), ok_mshift F42 NM CIs CSo, b42⟩
  have LSh : Cal P w K mg base CX0 2 "_law_short" ["_law_world"] spLs := ⟨_, _, ok_short F31 B LTa, He.glo_ok X G (cd.fact 31 (f := .glo "_law_short") rfl), D31.kp, b31⟩
  have LOr : Cal P w K mg base CX0 6 "_law_origins_right" ["_law_move", "_law_world"] (spLo (He.ga K "Move") (He.ga K "Plan")) := ⟨_, _, ok_origins_right F33 B NM MG MO_ MS, He.glo_ok X G (cd.fact 33 (f := .glo "_law_origins_right") rfl), D33.kp, b33⟩
  have LCa : Cal P w K mg base CX0 1 "_law_cell_at" ["_law_script", "_law_k"] (spCa K) := ⟨_, _, ok_cell_at F22 B, He.glo_ok X G (cd.fact 22 (f := .glo "_law_cell_at") rfl), D22.kp, b22⟩
  have LSo : Cal P w K mg base CX0 1 "_law_source" ["_law_cell"] spSo := ⟨_, _, ok_source F23 B, He.glo_ok X G (cd.fact 23 (f := .glo "_law_source") rfl), D23.kp, b23⟩
  have LRi : CalG P w K mg base CX0 10 "_law_right" ["_law_source_here"] spRi := ⟨_, _, ok_right F34 B zrepr NM LDr LPk LSz LPl LSt LPd LPa LSh LOr OB PO RP OQ MV, He.glo_ok X G (cd.fact 34 (f := .glo "_law_right") rfl), D34.kp, b34⟩
  exact ok_law F35 B LCa LSo LRi
end K1
open PySem PySem.W PySem.Calls PyProof.Rows
set_option maxRecDepth 100000 in
set_option maxHeartbeats 0 in
theorem PySem.Challenge.cw_roundheap_k23_places_of_moves_holds : PySem.Challenge.rw_roundheap_k23_places_of_moves.Holds := by
  w_on; o_law
  refine HandSHeadRun.head_imp (r := OpenLaw.row PySem.Challenge.rw_roundheap_k23_places_of_moves) (q := view (OpenLaw.row PySem.Challenge.rw_roundheap_k23_places_of_moves).prog [0, 62]) (H := K1.hhk) (ob := K1.hob) (M := 8000) (loose := K1.hnm) (d := HandSHeadRun.topDef (OpenLaw.row PySem.Challenge.rw_roundheap_k23_places_of_moves).prog 62) (kwd := []) K1.hob_eq
    K1.hrun (by kernel_rfl) (by kernel_rfl) (by kernel_rfl) (by rfl) (by first | assumption | decide +kernel) (by decide +kernel) ⟨rfl, rfl, rfl, rfl, rfl, by decide +kernel⟩ ?hw ?hc
  case hw => w_witness2
  case hc =>
    refine L2.walk_ofG (l := PySem.Challenge.rw_roundheap_k23_places_of_moves) (n := 63) (k := 11) (x := "_law_script") (CT := L2.CX0) rfl (by decide) (by kernel_rfl) ⟨rfl, by decide, by decide⟩ ?F (fun _ _ _ _ z => z)
    intro w mg fa h Y G hmg0
    obtain ⟨K, KX, c⟩ := Y
    have hmg : mg ("law" : PySem.Str) = some (.ref fa) := by
      have e : (HandSHeadRun.topDef (OpenLaw.row PySem.Challenge.rw_roundheap_k23_places_of_moves).prog 62).name = ("law" : PySem.Str) := by kernel_rfl
      rw [← e]
      exact hmg0
    obtain ⟨fd, hb, hF⟩ := K1.facts (P := (PySem.Challenge.rw_roundheap_k23_places_of_moves).prog) (w := w) KX G hmg c
    exact ⟨K, fd, K1.spLaw K, KX, hb, fun H a ns hl _ hS => ⟨a, ns, rfl, hS, hl, fun _ => rfl⟩, hF⟩
