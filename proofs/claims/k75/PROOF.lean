import PyProof.Rows.All
import Wide.All
import OpenK.AllK
import Wide.FinOn
import HandS.ForMost
import HandS.IsInst
import HandS.Conv
import HandS.Style
import HandS.More
import HandS.Evl
import HandS.Zip
import HandS.SetFor
import HandS.Sort
import HandS.Wide
import HandS.Deep
import KE.SortData
import PyProof.ReprRoads
import HandS.Exc
import HandS.ExcOwn
import HandS.ExcIs
import HandS.ExcValue
import HandS.Small
import HandS.FStr
import HandS.WordsExc
import KE.KDictZip
import HandS.RaiseMore
import HandS.SortKw
import KE.DatumOrd
import KE.KUnpackStar
import HandS.GenList
import HandS.AnyAll
import HandS.EndTab
import PySem.Challenge.RW_farorders_k75_whole_listers_and_lists_ap
set_option Elab.async false
set_option linter.all false
set_option maxRecDepth 100000
namespace Fo
open PySem PySem.Spec PyProof.Rows L2
/-! ### lists and orders -/
def rg (n : Nat) : List Int := (List.range n).map fun k => ((k : Nat) : Int)
def IsOrd (n : Nat) (ns : List Int) : Prop := ns.Perm (rg n)
theorem rg_len (n : Nat) : (rg n).length = n := by
  unfold rg
  rw [List.length_map, List.length_range]
theorem rg_mem {n : Nat} {x : Int} : x ∈ rg n ↔ 0 ≤ x ∧ x < n := by
  unfold rg
  rw [List.mem_map]
  constructor
  · rintro ⟨k, hk, rfl⟩
    have := List.mem_range.mp hk
    omega
  · rintro ⟨h0, h1⟩
    exact ⟨x.toNat, List.mem_range.mpr (by omega), by omega⟩
theorem rg_nodup (n : Nat) : (rg n).Nodup := by
  unfold rg
  exact List.Pairwise.map _ (fun a b h e => h (by omega)) List.nodup_range
theorem rg_sorted (n : Nat) : (rg n).Pairwise (· ≤ ·) := by
  unfold rg
  exact List.Pairwise.map _ (fun a b h => by omega) List.pairwise_lt_range
theorem rg_V (n : Nat) : rgV 0 (n : Int) = (rg n).map V.int := by
  unfold rgV rg
  rw [List.map_map, show ((n : Int) - 0).toNat = n by omega]
  apply List.map_congr_left
  intro a _
  show V.int (0 + (a : Int)) = V.int (a : Int)
  rw [Int.zero_add]
theorem IsOrd.len {n : Nat} {ns : List Int} (h : IsOrd n ns) : ns.length = n := (List.Perm.length_eq h).trans (rg_len n)
theorem IsOrd.mem {n : Nat} {ns : List Int} (h : IsOrd n ns) {x : Int} (m : x ∈ ns) : 0 ≤ x ∧ x < n := rg_mem.mp ((List.Perm.mem_iff h).mp m)
theorem IsOrd.nodup {n : Nat} {ns : List Int} (h : IsOrd n ns) : ns.Nodup := (List.Perm.nodup_iff h).mpr (rg_nodup n)
/-- two sorted lists of the same things are one -/
theorem sorted_eq : ∀ {a b : List Int}, a.Perm b → a.Pairwise (· ≤ ·) → b.Pairwise (· ≤ ·) → a = b := by
  intro a b hp ha hb
  exact List.Perm.eq_of_pairwise (fun x y _ _ h1 h2 => by omega) ha hb hp
/-- the things at p and p + 1 change places -/
def sw (xs : List Int) (p : Nat) : List Int := (xs.set p (xs.getD (p + 1) 0)).set (p + 1) (xs.getD p 0)
theorem split2 : ∀ {xs : List Int} {p : Nat}, p + 1 < xs.length → ∃ A a b B, xs = A ++ a :: b :: B ∧ A.length = p
  | [], p, h => by simp at h
  | [_], p, h => by simp at h
  | a :: b :: r, 0, _ => ⟨[], a, b, r, rfl, rfl⟩
  | a :: b :: r, p + 1, h => by
    obtain ⟨A, x, y, B, e, l⟩ := split2 (xs := b :: r) (p := p) (by simpa using h)
    exact ⟨a :: A, x, y, B, by rw [e]; rfl, by rw [List.length_cons, l]⟩
theorem sw_at : ∀ (A : List Int) (a b : Int) (B : List Int), sw (A ++ a :: b :: B) A.length = A ++ b :: a :: B
  | [], a, b, B => rfl
  | x :: A, a, b, B => by
    have ih := sw_at A a b B
    unfold sw at ih ⊢
    show x :: _ = x :: _
    exact congrArg (x :: ·) ih
theorem sw_perm {xs : List Int} {p : Nat} (h : p + 1 < xs.length) : (sw xs p).Perm xs := by
  obtain ⟨A, a, b, B, rfl, rfl⟩ := split2 h
  rw [sw_at]
  exact List.Perm.append_left A (List.Perm.swap a b B)
theorem sw_len (xs : List Int) (p : Nat) : (sw xs p).length = xs.length := by
  unfold sw
  rw [List.length_set, List.length_set]
theorem sw_ord {n : Nat} {xs : List Int} {p : Nat} (o : IsOrd n xs) (h : p + 1 < n) : IsOrd n (sw xs p) :=
  (sw_perm (by rw [o.len]; exact h)).trans o
theorem sw_V {xs : List Int} {p : Nat} {a b : Int} (ha : xs[p]? = some a) (hb : xs[p + 1]? = some b) : ((xs.map V.int).set p (V.int b)).set (p + 1) (V.int a) = (sw xs p).map V.int := by
  unfold sw
  rw [List.getD_eq_getElem?_getD, List.getD_eq_getElem?_getD, ha, hb, List.map_set, List.map_set]
  rfl
theorem pop_ins {xs : List Int} {p : Nat} {a : Int} (h : p + 1 < xs.length) (ha : xs[p]? = some a) : (xs.eraseIdx p).take (p + 1) ++ [a] ++ (xs.eraseIdx p).drop (p + 1) = sw xs p := by
  obtain ⟨A, x, y, B, rfl, rfl⟩ := split2 h
  have ex : x = a := by
    rw [List.getElem?_append_right (Nat.le_refl _), Nat.sub_self] at ha
    exact Option.some.inj ha
  subst ex
  rw [sw_at, List.eraseIdx_append_of_length_le (Nat.le_refl _), Nat.sub_self]
  show (A ++ y :: B).take (A.length + 1) ++ [x] ++ (A ++ y :: B).drop (A.length + 1) = _
  rw [List.take_append, List.drop_append]
  have t : A.length + 1 - A.length = 1 := by omega
  rw [t, List.take_of_length_le (by omega), List.drop_of_length_le (by omega)]
  simp
/-- the order at a walk's end -/
def wEnd (xs : List Int) (ws : List Int) : List Int := ws.foldl (fun x p => sw x p.toNat) xs
theorem wEnd_more {xs ws : List Int} {i : Nat} {p : Int} (h : ws[i]? = some p) : wEnd xs (ws.take (i + 1)) = sw (wEnd xs (ws.take i)) p.toNat := by
  unfold wEnd
  rw [List.take_add_one, h, List.foldl_append]
  rfl
theorem wEnd_ord {n : Nat} {xs : List Int} (o : IsOrd n xs) : ∀ {ws : List Int}, (∀ p ∈ ws, 0 ≤ p ∧ p + 1 < n) → IsOrd n (wEnd xs ws) := by
  intro ws
  induction ws generalizing xs with
  | nil => intro _; exact o
  | cons p ws ih =>
    intro h
    have hp := h p List.mem_cons_self
    exact ih (sw_ord o (by omega)) fun q hq => h q (List.mem_cons_of_mem _ hq)
theorem nodup_len : ∀ {l m : List Int}, l.Nodup → (∀ x ∈ l, x ∈ m) → l.length ≤ m.length
  | [], m, _, _ => Nat.zero_le _
  | a :: l, m, hn, hs => by
    obtain ⟨h1, h2⟩ := List.nodup_cons.mp hn
    have ha := hs a List.mem_cons_self
    have ih := nodup_len (l := l) (m := m.erase a) h2 fun x hx => by
      have ne : x ≠ a := fun e => h1 (by rw [← e]; exact hx)
      exact (List.mem_erase_of_ne ne).mpr (hs x (List.mem_cons_of_mem _ hx))
    rw [List.length_erase_of_mem ha] at ih
    have : 0 < m.length := List.length_pos_of_mem ha
    rw [List.length_cons]
    omega
theorem int_at {ns : List Int} {i : Nat} {x : Int} (h : ns[i]? = some x) : (ns.map V.int)[i]? = some (V.int x) := by
  rw [List.getElem?_map, h]
  rfl
theorem int_at_inv {ns : List Int} {i : Nat} {v : V} (h : (ns.map V.int)[i]? = some v) : ∃ x, ns[i]? = some x ∧ v = V.int x := by
  rw [List.getElem?_map] at h
  cases e : ns[i]? with
  | none => rw [e] at h; cases h
  | some x => rw [e] at h; exact ⟨x, rfl, (Option.some.inj h).symm⟩
theorem line_small {n : Nat} (h : n ≤ 16777216) : n ≤ sizeLine := by rw [sizeLine_eq]; exact h
theorem line_lt {n : Nat} (h : n < 16777216) : n < sizeLine := by rw [sizeLine_eq]; exact h
/-! ### data of ints -/
theorem dp_ints {K : PySem.W.Frag} {H : Hp} : ∀ ns : List Int, DpAll K H (ns.map V.int) (ns.map PyData.int)
  | [] => .nil
  | n :: r => .cons (.int n) (dp_ints r)
theorem dp_list {K : PySem.W.Frag} {H : Hp} {a : Addr} {ns : List Int} (h : H a = some (.lst (ns.map V.int))) : Dp K H (.ref a) (.list (ns.map PyData.int)) := .lst (SqL.of h) (dp_ints ns)
theorem eqv_int (i j : Int) : PyData.eqv (.int i) (.int j) = (i == j) := rfl
end Fo
namespace Fo
open PySem PySem.Spec PyProof.Rows L2
abbrev dI (ns : List Int) : List PyData := ns.map PyData.int
abbrev dL (ns : List Int) : PyData := .list (dI ns)
abbrev dLL (l : List (List Int)) : PyData := .list (l.map dL)
theorem lay_ints : ∀ ns : List Int, PyData.canLayAll0 (dI ns) = true
  | [] => rfl
  | n :: r => by
    show (PyData.canLay0 (.int n) && PyData.canLayAll0 (dI r)) = true
    rw [lay_ints r]
    rfl
theorem depth_ints : ∀ ns : List Int, PyData.depthAll (dI ns) = 0
  | [] => by simp [PyData.depthAll]
  | n :: r => by
    show PyData.depthAll (.int n :: dI r) = 0
    rw [PyData.depthAll, depth_ints r]
    simp [PyData.depth]
theorem lay_list (ns : List Int) : PyData.canLay0 (dL ns) = true := by
  rw [PyData.canLay0]
  exact lay_ints ns
theorem depth_list (ns : List Int) : PyData.depth (dL ns) = 1 := by
  rw [PyData.depth, depth_ints]
theorem shaped_list (ns : List Int) : SeqAt.shaped (dL ns) = true := by
  unfold SeqAt.shaped
  rw [lay_list, depth_list]
  rfl
theorem lay_lists : ∀ l : List (List Int), PyData.canLayAll0 (l.map dL) = true
  | [] => rfl
  | n :: r => by
    show (PyData.canLay0 (dL n) && PyData.canLayAll0 (r.map dL)) = true
    rw [lay_lists r, lay_list]
    rfl
theorem depth_lists : ∀ l : List (List Int), PyData.depthAll (l.map dL) ≤ 1
  | [] => by simp [PyData.depthAll]
  | n :: r => by
    show PyData.depthAll (dL n :: r.map dL) ≤ 1
    rw [PyData.depthAll, depth_list]
    have := depth_lists r
    omega
theorem shaped_lists (l : List (List Int)) : SeqAt.shaped (dLL l) = true := by
  unfold SeqAt.shaped
  rw [Bool.and_eq_true_iff]
  constructor
  · rw [PyData.canLay0]
    exact lay_lists l
  · apply decide_eq_true
    rw [PyData.depth]
    have := depth_lists l
    omega
theorem eqv_list (ns : List Int) : PyData.eqv (dL ns) (dL ns) = true := SeqAt.eqv_refl _ (lay_list ns)
theorem eqv_lists (l : List (List Int)) : PyData.eqv (dLL l) (dLL l) = true := SeqAt.eqv_refl _ (SeqAt.canLay_of_shaped (shaped_lists l))
theorem eqvAll_ints : ∀ a b : List Int, PyData.eqvAll (dI a) (dI b) = decide (a = b)
  | [], [] => by simp [PyData.eqvAll]
  | [], _ :: _ => by simp [PyData.eqvAll]
  | _ :: _, [] => by simp [PyData.eqvAll]
  | x :: a, y :: b => by
    show PyData.eqvAll (.int x :: dI a) (.int y :: dI b) = _
    rw [PyData.eqvAll, eqvAll_ints a b]
    show ((x == y) && decide (a = b)) = decide (x :: a = y :: b)
    by_cases h : x = y
    · subst h
      simp
    · simp [h]
theorem eqv_ints (a b : List Int) : PyData.eqv (dL a) (dL b) = decide (a = b) := by
  rw [PyData.eqv]
  exact eqvAll_ints a b
end Fo
namespace Fo
open PySem PySem.Spec PyProof.Rows L2
/-! ### slices of ints -/
def cutI (ws : List Int) (lo hi : Option Int) : List Int := (ws.drop (HT.sIx ws.length 0 lo)).take (HT.sIx ws.length ws.length hi - HT.sIx ws.length 0 lo)
theorem cut_ints (ws : List Int) (lo hi : Option Int) : cutV (ws.map V.int) lo hi = (cutI ws lo hi).map V.int := by
  unfold cutV cutI
  rw [List.length_map, List.map_take, List.map_drop]
theorem cutI_mem {ws : List Int} {lo hi : Option Int} {x : Int} (h : x ∈ cutI ws lo hi) : x ∈ ws := List.mem_of_mem_drop (List.mem_of_mem_take h)
theorem cutI_len (ws : List Int) (lo hi : Option Int) : (cutI ws lo hi).length ≤ ws.length := by
  unfold cutI
  rw [List.length_take, List.length_drop]
  omega
theorem cutI_head (ws : List Int) (k : Nat) : cutI ws none (some (k : Int)) = ws.take k := by
  unfold cutI
  rw [HT.sIx_none, HT.sIx_nat, List.drop_zero, Nat.sub_zero]
  by_cases h : k ≤ ws.length
  · rw [Nat.min_eq_left h]
  · rw [Nat.min_eq_right (by omega), List.take_length, List.take_of_length_le (by omega)]
theorem cutI_tail (ws : List Int) (k : Nat) : cutI ws (some (k : Int)) none = ws.drop k := by
  unfold cutI
  rw [HT.sIx_none, HT.sIx_nat]
  by_cases h : k ≤ ws.length
  · rw [Nat.min_eq_left h, List.take_of_length_le (by rw [List.length_drop]; exact Nat.le_refl _)]
  · rw [Nat.min_eq_right (by omega), List.drop_of_length_le (Nat.le_refl _), List.drop_of_length_le (by omega), List.take_nil]
end Fo
namespace Fo
open PySem PySem.Spec PyProof.Rows L2
/-! ### the text -/
def topS (i : Nat) : Stmt := PySem.Challenge.pw_farorders_k75_whole_listers_and_lists_ap.main.body.getD i (.Pass ⟨0, 0, 0, 0⟩)
abbrev s_wall : Stmt := topS 0
abbrev s_OrderError : Stmt := topS 2
abbrev s_NoOrder : Stmt := topS 3
abbrev s_NoWay : Stmt := topS 4
abbrev s_NoFit : Stmt := topS 5
abbrev s_NoNumber : Stmt := topS 6
abbrev s_TooMany : Stmt := topS 7
abbrev s_is_whole : Stmt := topS 10
abbrev s_check_way : Stmt := topS 11
abbrev s_check_from : Stmt := topS 12
abbrev s_check_size : Stmt := topS 13
abbrev s_check_few : Stmt := topS 14
abbrev s_check_apart : Stmt := topS 15
abbrev s_is_order : Stmt := topS 20
abbrev s_check_order : Stmt := topS 21
abbrev s_check_orders : Stmt := topS 22
abbrev s_check_fit : Stmt := topS 23
abbrev s_is_order_list : Stmt := topS 24
abbrev s_places_in : Stmt := topS 25
abbrev s_seats_in : Stmt := topS 26
abbrev s_how_far : Stmt := topS 27
abbrev s_known_far : Stmt := topS 28
abbrev s_far_by_swap : Stmt := topS 29
abbrev s_far_by_spot : Stmt := topS 30
abbrev s_far_by_shift : Stmt := topS 31
abbrev s_all_orders : Stmt := topS 32
abbrev s_orders_with : Stmt := topS 33
abbrev s_count_orders : Stmt := topS 34
abbrev s_lies_apart : Stmt := topS 37
abbrev s_are_far : Stmt := topS 38
abbrev s_is_far : Stmt := topS 39
abbrev s_longest_apart : Stmt := topS 40
abbrev s_longest_from : Stmt := topS 41
abbrev s_far_ones : Stmt := topS 42
abbrev s_first_apart : Stmt := topS 43
abbrev s_check_many : Stmt := topS 45
abbrev s_Lister : Stmt := topS 48
abbrev s_Lister___init__ : Stmt := inClass (topS 48) 0
abbrev s_Lister_come : Stmt := inClass (topS 48) 1
abbrev s_Lister_drop : Stmt := inClass (topS 48) 2
abbrev s_Lister_change_to : Stmt := inClass (topS 48) 3
abbrev s_Lister_undo : Stmt := inClass (topS 48) 4
abbrev s_Lister_orders : Stmt := inClass (topS 48) 5
abbrev s_Lister_least_apart : Stmt := inClass (topS 48) 6
abbrev s_Lister_first_more : Stmt := inClass (topS 48) 7
abbrev s_Lister_how_many_more : Stmt := inClass (topS 48) 8
abbrev s_known_within : Stmt := topS 50
abbrev s_swap_counts : Stmt := topS 51
abbrev s_swap_counts_with_one_more : Stmt := topS 52
abbrev s_spot_counts : Stmt := topS 53
abbrev s_count_all_moved : Stmt := topS 54
abbrev s_shift_within : Stmt := topS 55
abbrev s_things_near : Stmt := topS 56
abbrev s_one_place_further : Stmt := topS 57
abbrev s_bounds_by_rounds : Stmt := topS 59
abbrev s_law_cell_at : Stmt := topS 61
abbrev s_law_stir : Stmt := topS 62
abbrev s_law_deck : Stmt := topS 63
abbrev s_law_next : Stmt := topS 64
abbrev s_law_all : Stmt := topS 65
abbrev s_law_filled : Stmt := topS 66
abbrev s_law_lengths_right : Stmt := topS 67
abbrev s_law : Stmt := topS 68
/-- a def of the text, where it stands -/
structure Df (K : PySem.W.Frag) (mg : Str → Option Value) (x : Str) (st : Stmt) (ps : List Str) (f : Addr) (fd : FuncData) : Prop where
  F : Fun K x x st f fd
  b : Binds K fd ps []
  g : mg x = some (.ref f)
/-- the built-in names as they were -/
structure Bi (mg : Str → Option Value) : Prop where
  ValueError : mg "ValueError" = none
  abs : mg "abs" = none
  all : mg "all" = none
  bool : mg "bool" = none
  enumerate : mg "enumerate" = none
  int : mg "int" = none
  isinstance : mg "isinstance" = none
  len : mg "len" = none
  list : mg "list" = none
  max : mg "max" = none
  min : mg "min" = none
  range : mg "range" = none
  sorted : mg "sorted" = none
  str : mg "str" = none
  sum : mg "sum" = none
end Fo
namespace Fo
open PySem PySem.Spec PyProof.Rows L2
theorem same_new {H : Hp} {p : Addr} {o : HO} (h : H p = none) : Same H (upd H p o) := fun b x e => by
  rw [upd_ne (ne_of_none e h)]
  exact e
theorem at2_0 {x y : V} : atI [x, y] 0 = some x := rfl
theorem at2_1 {x y : V} : atI [x, y] 1 = some y := rfl
end Fo
namespace Fo
open PySem PySem.Spec PyProof.Rows L2
theorem pop_perm : ∀ {xs : List Int} {k : Nat} {y : Int}, xs[k]? = some y → (y :: xs.eraseIdx k).Perm xs
  | [], k, y, h => by simp at h
  | a :: r, 0, y, h => by
    have e : a = y := Option.some.inj h
    subst e
    exact List.Perm.refl _
  | a :: r, k + 1, y, h => by
    have ih := pop_perm (xs := r) (k := k) (y := y) h
    show (y :: a :: r.eraseIdx k).Perm (a :: r)
    exact (List.Perm.swap a y _).trans (List.Perm.cons a ih)
theorem map_erase : ∀ (xs : List Int) (k : Nat), (xs.map V.int).eraseIdx k = (xs.eraseIdx k).map V.int
  | [], k => rfl
  | a :: r, 0 => rfl
  | a :: r, k + 1 => congrArg (V.int a :: ·) (map_erase r k)
/-- what len asks of a list or a tuple -/
abbrev rLenS (K : PySem.W.Frag) : List V → Hp → VK → Prop := fun xs H Q => ∃ p ys, xs = [.ref p] ∧ (SqL K H p ys ∨ SqT K H p ys) ∧ Q (.int ys.length) H
theorem seq_ix {i : Int} {k n : Nat} (e : i = (k : Int)) (h : k < n) : seqIndex? i n = some k := by
  subst e
  unfold seqIndex?
  have h1 : ¬ ((k : Int) < 0) := by omega
  simp only [h1, if_false]
  have h2 : (decide ((0 : Int) ≤ (k : Int)) && decide ((k : Int) < (n : Int))) = true := by
    simp
    omega
  rw [if_pos h2, Int.toNat_natCast]
theorem ix_n {i : Int} {k n : Nat} (e : i = (k : Int)) (h : k < n) : ixN n i = some k := by
  subst e
  unfold ixN
  rw [if_pos (by omega), if_pos (by omega), Int.toNat_natCast]
end Fo
namespace Fo
open PySem PySem.Spec PyProof.Rows L2
abbrev rMax2 : List V → Hp → VK → Prop := fun xs H Q => ∃ i j, xs = [.int i, .int j] ∧ Q (.int (if j > i then j else i)) H
abbrev rMin2 : List V → Hp → VK → Prop := fun xs H Q => ∃ i j, xs = [.int i, .int j] ∧ Q (.int (if j < i then j else i)) H
abbrev rInt1 : List V → Hp → VK → Prop := fun xs H Q => (∃ i, xs = [.int i] ∧ Q (.int i) H) ∨ ∃ k, xs = [.bl k] ∧ Q (.int (if k then 1 else 0)) H
theorem filter_more {l : List Int} {m : Nat} {x : Int} (p : Int → Bool) (h : l[m]? = some x) : (l.take (m + 1)).filter p = (l.take m).filter p ++ (if p x then [x] else []) := by
  rw [List.take_add_one, h, List.filter_append]
  show _ ++ List.filter p [x] = _
  rw [List.filter_cons]
  rfl
end Fo
namespace Fo
open PySem PySem.Spec PyProof.Rows L2
/-- what is tracked lies elsewhere than the table of modules -/
def SysAt (base : Heap) : Prop := ∃ o, base.get? sysModules = some o
/-! defs that ask repr: they want to know that no other repr is under way (A.guards) -/
structure FnG (P : Program) (w : World) (K : PySem.W.Frag) (mg : Str → Option Value) (base : Heap) (k : Nat) (f : Addr) (fd : FuncData) (ps : List Str) (sp : Sp) : Prop where
  len : ∀ vs H Q E, sp vs H Q E → vs.length = ps.length
  go : ∀ (A : Around) (outer : List Env) (s : Shared) (H : Hp) (args : Args) (us : List Value) (vs : List V) (Q : VK) (E : XK), A.guards = some [] → Room k A → Env0 P w K mg base A outer s H → BindsTo s fd args (ps.zip us) → Vals vs us → sp vs H Q E → codeAny (model P w) A (.call (.ref f) args) (CR CX0 outer P w H s Q E) s
section
variable {P : Program} {w : World} {K : PySem.W.Frag} {mg : Str → Option Value} {base : Heap}
/-- as Fun.ok -/
theorem okG {y qual : Str} {st : Stmt} {f : Addr} {fd : FuncData} {N ps : List Str} {k : Nat} {sp : Sp} (F : Fun K y qual st f fd) (S : FnScope N ps (defScope st)) (len : ∀ vs H Q E, sp vs H Q E → vs.length = ps.length)
    (body : ∀ (cdv : Value) (A : Around) (outer : List Env) (s : Shared) (H : Hp) (vs : List V) (Q : VK) (E : XK), A.guards = some [] → Room k (A.deeper (envOfC qual (defScope st) s.heap.objs.size f cdv)) → sp vs H Q E →
      ∃ t, PSs (cxOf CX0 P w K mg base N qual (defScope st) f cdv A outer s H E).nox (defBody st) t ∧ t { nx := fun _ H' => Q .non H', rt := Q } (start N vs) H) : FnG P w K mg base (k + 1) f fd ps sp := by
  obtain ⟨oc, od, kV, dc, pm, an, cdv, ct, osl, rfl, lk, hcd⟩ := F.ex
  refine ⟨len, fun A outer s H args us vs Q E gA rm ev bn rv h => ?_⟩
  have kin : K.In s.heap := ev.mod.kin.keeps fun b o e => (ev.bs b o e).1
  have nol : s.heap.NoLimit := ev.mod.nolimit.keeps fun b o e => (ev.bs b o e).1
  refine codeAny_call_function rm.depth (kin _ _ lk) rfl S.co S.gen rfl (PySem.W.codeRec_of kin hcd) (bn _ _ _ _ ?_)
  refine wpAny_newFunctionEnv_cells S.kind (fun yv hy => ?_) fun env he s1 inc => ?_
  · rcases S.par yv.1 (List.of_mem_zip hy).1 with z | z
    · exact .inl z
    · exact .inr ⟨z, PySem.W.cellsFrom_some _ _ _ (.inl z)⟩
  · subst he
    refine ⟨nol.keeps inc.toInCall.keep, codeAny_func ?_⟩
    obtain ⟨t, pt, qt⟩ := body cdv A outer s H vs Q E gA (rm.deeper _) h
    have J : Inv (cxOf CX0 P w K mg base N qual (defScope st) f cdv A outer s H E) [] (start N vs) H s1 := inv_start S rm.hd ev (len _ _ _ _ h) rv inc
    refine wpAny_mono (pt.nox.run [] s1 (start N vs) H _ J qt) (fun fl s' z => ?_) fun _ _ z => z
    cases fl with
    | brk => exact z.choose_spec.choose_spec.2.elim
    | cont => exact z.choose_spec.choose_spec.2.elim
    | next =>
      obtain ⟨σ', H', J', q⟩ := z
      exact ⟨V.non, H', J'.os, J'.bare, J'.base, J'.hok, rfl, q⟩
    | ret u =>
      obtain ⟨v, σ', H', J', r', q⟩ := z
      exact ⟨v, H', J'.os, J'.bare, J'.base, J'.hok, r', q⟩
end
section
variable {X : Cx}
/-- the call of such a def -/
theorem pe_callG {k : Nat} {f : Addr} {fd : FuncData} {ps : List Str} {sp : Sp} {y : Str} {p pos : Pos} {e : Expr} {es : List Expr} {t : TA} (F : FnG X.prog X.w X.K X.mg X.base k f fd ps sp) (gA : X.A.guards = some []) (hr : Room k X.A) (hg : Gl X y) (hm : X.mg y = some (.ref f)) (hk : PySem.W.keepIn X.K (.ref f) = true) (hb : Binds X.K fd ps [])
    (ha : PA X (e :: es) t) (hdb : (y == ("__debug__" : Str)) = false := by decide) (he : starEach (e :: es) X.env = (false, eval e X.env) :: starEach es X.env := by rfl) (hpl : (backTo pos (starEach es X.env)).any (·.1) = false := by rfl) :
    PE X (.Call (.Name y p) (e :: es) [] pos) (tCall sp [] E0 t) := by
  refine ⟨fun pins s σ H Q I h => wpAny_Call_Name_kw (ld_glob I hg hm (PySem.W.callWith_K (h₀ := X.base) I.ok.mod.kin hk (thn (ha.run pos pins s σ H _ I h) fun us s1 ⟨vs, H1, I1, r, q⟩ => ⟨I1.kIn, ?_⟩) he hpl) hdb)⟩
  have r2 : Vals (vs ++ []) (us ++ []) := r.append .nil
  have hl : (us ++ []).length = ps.length := by rw [← r2.length]; exact F.len _ _ _ _ q
  refine wpAny_call (codeAny_mono (F.go X.A X.stack s1 H1 ⟨us, []⟩ (us ++ []) (vs ++ []) Q E0 gA hr I1.env0 (hb s1 us I1.kIn hl) r2 q) fun rs s' hq => ?_)
  match rs, hq with
  | .error _, hq => exact hq.elim
  | .ok (.ret u), hq => exact I1.after hq
  | .ok .next, hq => exact False.elim hq
  | .ok .brk, hq => exact False.elim hq
  | .ok .cont, hq => exact False.elim hq
end
/-! the end of such a law -/
section
variable {P : Program} {w : World} {K : PySem.W.Frag} {mg mb : Str → Option Value} {k : Nat} {fa a : Addr} {fd : FuncData} {y : Str} {sp : Sp} {s : Shared} {us : List Value} {ns : List Int}
theorem lawG_at (kin : K.In s.heap) (ng : s.heap.Ns mainGlobals mg) (nb : s.heap.Ns builtinsNs mb) (eb : ∀ x : Str, x ≠ "__name__" → mb x = bootBuiltins x) (lim : s.heap.NoLimit) (eg : s.gens = #[]) (oa : s.heap.get? a = some { cls := .type "list", data := .seq us.toArray }) (rm : Room k callerA)
    (sy : ∃ m, s.heap.Ns sysModules m) (F : ∀ base : Heap, K.In base → base.Ns mainGlobals mg → SysAt base → FnG P w K mg base k fa fd [y] sp) (bn : ∀ (s : Shared) (u : Value), BindsTo s fd ⟨[u], []⟩ [(y, u)]) {H : Hp} (only : Only H) (hok : HOk P w H s.heap) (h1 : ∀ b, H b ≠ none → b = a) (h2 : H a ≠ none → K.lookup a = none) (h : sp [.ref a] H (fun v _ => v = .bl true) fun _ _ _ => False) :
    codeAny (model P w) callerA (.call (.ref fa) ⟨[.ref a], []⟩) (fun r s' => r = .ok (.ret (.bool true)) ∧ OldK s.heap s'.heap ∧ s'.os = s.os ∧ AllBare s'.gens) s := by
  have trk : ∀ {b : Addr} {u : HO}, H b = some u → b = a := fun {b u} e => h1 b (by rw [e]; exact fun z => nomatch z)
  have noD : ∀ {b : Addr} {o : Obj} {es : Array DictEntry} {ep : Nat}, s.heap.get? b = some o → o.data = .dict es ep → H b = none := fun {b o es ep} e dd => by
    cases q : H b with
    | none => rfl
    | some u =>
      have eq := trk q
      rw [eq, oa] at e
      cases e
      cases (show Data.seq us.toArray _ = Data.dict es ep from dd)
  have nsB : ∀ {b : Addr} {m : Str → Option Value}, s.heap.Ns b m → (hidT s.heap H).Ns b m := fun {b m} ⟨o, es, ep, e, dd, r⟩ => ⟨o, es, ep, hidT_get e (noD e dd), dd, r⟩
  have kinB : K.In (hidT s.heap H) := fun b o e => hidT_get (kin b o e) (by
    cases q : H b with
    | none => rfl
    | some u =>
      have eq := trk q
      rw [eq] at e q
      rw [h2 (by rw [q]; exact fun z => nomatch z)] at e
      cases e)
  have md : Mod K mg (hidT s.heap H) := ⟨kinB, nsB ng, ⟨mb, nsB nb, eb⟩, let ⟨mc, l1, l2⟩ := lim; ⟨mc, nsB l1, l2⟩⟩
  have noF : ∀ b : Addr, b ∉ ([] : List Addr) := fun b z => nomatch z
  have ev : Env0 P w K mg (hidT s.heap H) callerA [] s H := ⟨rfl, md, fun b o e => of_hidT e, Nat.le_of_eq (hidT_size _ _), trivial, fun b z => absurd (show b ∈ ([] : List Addr) from z) (noF b), hok, .of_eq eg⟩
  have sB : SysAt (hidT s.heap H) := by
    obtain ⟨m, z⟩ := sy
    obtain ⟨o, _, _, e, _⟩ := nsB z
    exact ⟨o, e⟩
  refine codeAny_mono ((F _ kinB (nsB ng) sB).go callerA [] s H ⟨[.ref a], []⟩ [.ref a] [.ref a] _ _ rfl rm ev (bn s (.ref a)) (.cons rfl .nil) h) fun rs s' z => ?_
  match rs, z with
  | .error _, z => exact z.elim
  | .ok .next, z => exact False.elim z
  | .ok .brk, z => exact False.elim z
  | .ok .cont, z => exact False.elim z
  | .ok (.ret u), z =>
    obtain ⟨v, H', os, ba, un, hok', rv, q⟩ := z
    obtain rfl : v = .bl true := q
    obtain rfl : u = Value.bool true := rv
    refine ⟨rfl, OldK.of_keep fun b o e => ?_, os, ba⟩
    rcases only b with z | ⟨ob, xs, z⟩
    · exact un.keep b o e z (fun y => absurd (show b ∈ ([] : List Addr) from y) (noF b)) (noF b)
    · obtain ⟨g1, _⟩ := hok b _ z
      obtain ⟨g2, _⟩ := hok' b _ (un.frzs b ob _ z)
      rw [e] at g1
      cases g1
      exact g2
theorem lawG (kin : K.In s.heap) (ng : s.heap.Ns mainGlobals mg) (nb : s.heap.Ns builtinsNs mb) (eb : ∀ x : Str, x ≠ "__name__" → mb x = bootBuiltins x) (lim : s.heap.NoLimit) (eg : s.gens = #[]) (oa : s.heap.get? a = some { cls := .type "list", data := .seq us.toArray }) (hi : IntsAre us ns) (hl : ns.length ≤ sizeLine) (rm : Room k callerA)
    (sy : ∃ m, s.heap.Ns sysModules m) (F : ∀ base : Heap, K.In base → base.Ns mainGlobals mg → SysAt base → FnG P w K mg base k fa fd [y] sp) (bn : ∀ (s : Shared) (u : Value), BindsTo s fd ⟨[u], []⟩ [(y, u)]) (hsp : ∀ H : Hp, Only H → SqL K H a (ns.map V.int) → sp [.ref a] H (fun v _ => v = .bl true) fun _ _ _ => False) :
    codeAny (model P w) callerA (.call (.ref fa) ⟨[.ref a], []⟩) (fun r s' => r = .ok (.ret (.bool true)) ∧ OldK s.heap s'.heap ∧ s'.os = s.os ∧ AllBare s'.gens) s := by
  have rv := vals_ints hi
  have el := hi.length
  cases hk : K.lookup a with
  | some o =>
    have e := kin a o hk
    rw [oa] at e
    cases e
    have o0 : Only (fun _ => none) := fun _ => .inl rfl
    exact lawG_at kin ng nb eb lim eg oa rm sy F bn o0 (fun b u z => absurd (show (none : Option HO) = some u from z) (fun y => nomatch y)) (fun b z => absurd rfl z) (fun z => absurd rfl z) (hsp _ o0 (.inr ⟨_, us.toArray, _, hk, rfl, rfl, rfl, by rw [List.size_toArray, el]; exact hl, by simpa using rv⟩))
  | none =>
    obtain ⟨ob, eo⟩ : ∃ ob : Obj, ob = { cls := .type "list", data := .seq us.toArray } := ⟨_, rfl⟩
    obtain ⟨H, eH⟩ : ∃ H : Hp, H = fun b => if b = a then some (.frz ob (.lst (ns.map V.int))) else none := ⟨_, rfl⟩
    have ha : H a = some (.frz ob (.lst (ns.map V.int))) := by rw [eH]; exact if_pos rfl
    have hb : ∀ b, b ≠ a → H b = none := fun b z => by rw [eH]; exact if_neg z
    have on : Only H := fun b => by
      by_cases z : b = a
      · rw [z]
        exact .inr ⟨_, _, ha⟩
      · exact .inl (hb b z)
    refine lawG_at kin ng nb eb lim eg oa rm sy F bn on (fun b u z => ?_) (fun b z => ?_) (fun _ => hk) (hsp H on (.inl (.inr ⟨ob, ha⟩)))
    · by_cases y : b = a
      · subst y
        rw [ha] at z
        cases z
        rw [eo]
        exact ⟨oa, by rw [List.length_map]; exact hl, us, _, rv, oa⟩
      · rw [hb b y] at z
        cases z
    · by_cases y : b = a
      · exact y
      · exact absurd (hb b y) z
end
theorem walkG {l : PySem.W.OpenLaw} {n k : Nat} {q : Program} {loose : List Str} {XP : (Str → Option Value) → Heap → Prop} {YP : World → Heap → Prop} {d : DefRec} {K : Params → PySem.W.Frag} {sp : World → Sp} {y : Str} (hn : l.most = some n) (hn2 : n ≤ sizeLine) (hdf : d.params.defaults = []) (rm : Room k callerA) (hY : ∀ (w : World) (h : Heap), YP w h → (K w.params).In h) (him : importsNone q = true)
    (F : ∀ (w : World) (mg : Str → Option Value) (fa : Addr) (h : Heap), (K w.params).In h → h.Ns mainGlobals mg → mg d.name = some (.ref fa) → ∃ fd : FuncData, (∀ (s : Shared) (u : Value), BindsTo s fd ⟨[u], []⟩ [(y, u)]) ∧ ∀ base : Heap, (K w.params).In base → base.Ns mainGlobals mg → SysAt base → FnG l.prog w (K w.params) mg base k fa fd [y] (sp w))
    (hsp : ∀ (w : World) (H : Hp) (a : Addr) (ns : List Int), ns.length ≤ n → Only H → SqL (K w.params) H a (ns.map V.int) → sp w [.ref a] H (fun v _ => v = .bl true) fun _ _ _ => False) : PySem.W.WalkO q loose XP YP l.row.toRowW d [] (fun f vs => PySem.call f vs) := by
  refine Att.attach_call hn hdf fun w sA sB mg mb fa o1 pm cd dc ad us ns G Y ho hd hcd hmg hob hin hle hge => ?_
  have KX := hY w _ Y
  obtain ⟨fd, hb, hF⟩ := F w mg fa _ KX G.T.g hmg
  obtain ⟨mm, sy, _⟩ := (G.T.seer him).mods
  exact lawG KX G.T.g G.T.b G.T.builtins G.T.nolimit hge hob hin (Nat.le_trans hle hn2) rm ⟨mm, sy⟩ hF hb fun H hH hS => hsp w H ad ns hle hH hS
end Fo
namespace Fo
open PySem PySem.Spec PyProof.Rows L2
/-! an error that was caught is known behind the try, too -/
def ExV (cls : Value) (d : Option Addr) (a : Addr) : HO := .ext fun h => ∃ oe : Obj, h.get? a = some oe ∧ Zc cls d oe ∧ ∃ vs, oe.data = .fields vs
theorem exV_ok {P : Program} {w : World} {H : Hp} {h : Heap} {a : Addr} {cls : Value} {d : Option Addr} {oe : Obj} (e : h.get? a = some oe) (z : Zc cls d oe) (f : ∃ vs, oe.data = .fields vs) : ObjOk P w H h a (ExV cls d a) :=
  ⟨⟨oe, e, z, f⟩, ⟨oe, e⟩, fun _ _ ⟨o, q, r⟩ k => ⟨o, k o q, r⟩⟩
theorem inv_track {X : Cx} {pins : List (Addr × Obj)} {σ : L2.St} {H : Hp} {s : Shared} {a : Addr} {o : HO} (I : Inv X pins σ H s) (na : H a = none) (n0 : X.s_0.heap.get? a = none) (nL : a ≠ X.env.locals) (nC : ∀ x c, X.env.cells.lookup x = some c → c ≠ a) (nP : ∀ p ∈ X.pn ++ pins, p.1 ≠ a) (new : ObjOk X.prog X.w (upd H a o) s.heap a o) :
    Inv X pins σ (upd H a o) s := by
  have n1 : ∀ b u, X.s_0.heap.get? b = some u → b ≠ a := fun b u e z => by rw [z, n0] at e; cases e
  refine ⟨I.ok, I.os, I.bare, ⟨I.base.keep, I.base.slot, fun b u e n hq => ?_, I.base.there, fun b xs e => ?_, fun b u xs e => ?_, fun b ps e => ?_⟩, I.loc, I.cell, ?_, fun x c e => ?_, fun p hp => ?_, I.hok.laidN (fun _ _ e => e) na new, I.len⟩
  · rw [upd_ne (n1 b u e)]
    exact I.base.free b u e n hq
  · have q := I.base.tups b xs e
    rw [upd_ne (ne_of_none q na)]
    exact q
  · have q := I.base.frzs b u xs e
    rw [upd_ne (ne_of_none q na)]
    exact q
  · obtain ⟨m, q⟩ := I.base.tbls b ps e
    exact ⟨m, by rw [upd_ne (ne_of_none q na)]; exact q⟩
  · rw [upd_ne (Ne.symm nL)]
    exact I.free
  · rw [upd_ne (nC x c e)]
    exact I.freeC x c e
  · obtain ⟨e, n, ne, nf, d⟩ := I.pin p hp
    exact ⟨e, by rw [upd_ne (nP p hp)]; exact n, ne, nf, d⟩
/-- what an «except x as n» wishes, the error known behind it -/
def wAsK (K : PySem.W.Frag) (c : Value) (i : Nat) (ts : Addr → Value → Option Addr → TS) (Wout : WX) (D : Ends) : WX := fun cls d σ H =>
  ∃ b, PySem.W.exmOne K cls c = some b ∧ (b = true → ∀ a, H a = none → ts a cls d ⟨fun σ' H' => D.nx (σ'.set i none) (upd H' a (ExV cls d a)), fun v H' => D.rt v (upd H' a (ExV cls d a)), fun σ' H' => D.bk (σ'.set i none) (upd H' a (ExV cls d a)), fun σ' H' => D.ct (σ'.set i none) (upd H' a (ExV cls d a))⟩ (σ.set i (some (.ref a))) H) ∧ (b = false → Wout cls d σ H)
section
variable {X : Cx} {x n : Str} {c : Value} {i : Nat} {body suite : List Stmt} {b₀ : Stmt} {np pos pos' : Pos} {tb : WX → TS} {ts : Addr → Value → Option Addr → TS} {Wout : WX}
theorem ps_try_k (hs : X.stack = X.env :: X.outer) (hf : X.env.frame = some X.env.locals) (hex : X.ex = []) (hN : X.N.Nodup) (hi : X.N[i]? = some n) (hln : X.env.kindOf n = some .local) (hc : Names X x c) (tk : Takes X Wout)
    (hb : ∀ (W : WX) (pn : List (Addr × Obj)) (xe : Value → Shared → Prop), Takes (X.tr pn xe) W → PassesOwn (model X.prog X.w) X.A X.env xe → PSs (X.tr pn xe) body (tb W)) (hsu : ∀ (a : Addr) (oe : Obj) (cls : Value) (d : Option Addr) (pn : List (Addr × Obj)), Zc cls d oe → (∃ vs, oe.data = .fields vs) → PSs (X.suite a ((a, oe) :: pn)) (b₀ :: suite) (ts a cls d)) : PS X (.Try body [.ExceptHandler (some (.Name x np)) (some n) (b₀ :: suite) pos'] [] [] pos) (fun D σ H => tb (wAsK X.K c i ts Wout D) D σ H) := by
  refine ⟨fun pins s σ H D I hw => ?_⟩
  have okX := I.ok
  have frX : X.A.frames = some (X.env :: X.outer) := by rw [okX.frames, hs]
  have lcN : Loc X.env.scope n := .inl hln
  refine wpAny_Try_except (wpAny_mono ((hb (wAsK X.K c i ts Wout D) (X.pn ++ pins) (fun e s₁ => wpAny (model X.prog X.w) X.A (noteFrame e X.env) (fun _ s₂ => wpAny (model X.prog X.w) X.A (setFlight e none) (fun _ s₃ => wpAny (model X.prog X.w) X.A (handleBy e X.env [.ExceptHandler (some (.Name x np)) (some n) (b₀ :: suite) pos']) (SP X pins D) X.xe s₃) X.xe s₂) X.xe s₁) (fun u s' xx => ?_) PassesOwn.looking).run [] s σ H D (I.toTry _) hw) (fun fl s1 hsp => ?_) (fun _ _ he => he))
  · obtain ⟨a, Bg, sI, pins', σ', H', cls, d, rfl, J', nb, up, sky, na, os, ag, b, hb1, hyes, hno⟩ := xx
    have Ja : Inv X pins σ' H' sI := J'.ofTry okX
    have skyE : Sky Bg (X.env :: X.outer) a (Zc cls d) X.env.locals s'.heap := by rw [← hs]; exact sky
    show wpAny (model X.prog X.w) X.A (noteFrame (.ref a) X.env) _ _ _
    refine Sky.land Zc.steady frX hf skyE fun h3 fl3 up3 => ?_
    have Jb : Inv X pins σ' H' { s' with heap := h3 } := Ja.landed nb fl3.1 (up.trans up3) os ag
    obtain ⟨oe3, vs3, he3, hz3, hd3⟩ := fl3.there
    have nfr : a ∉ frs (X.env :: X.outer) := fun hm => by
      obtain ⟨_, o', e', hnf⟩ := fl3.2.2.1.mem hm
      rw [he3] at e'
      cases e'
      exact hnf _ hd3
    have nL : a ≠ X.env.locals := fun z => nfr (List.mem_filterMap.mpr ⟨X.env, List.mem_cons_self, by rw [hf, z]⟩)
    have nF : a ∉ X.fs := fun hm => by
      obtain ⟨e, hem, q⟩ := List.mem_filterMap.mp hm
      exact nfr (List.mem_filterMap.mpr ⟨e, List.mem_cons_of_mem _ hem, q⟩)
    have nB : Bg.get? a = none := fl3.2.1
    have n0 : X.s_0.heap.get? a = none := by
      cases e : X.s_0.heap.get? a with
      | none => rfl
      | some o =>
        obtain ⟨o', q⟩ := Ja.base.there a o e (by rw [hex]; exact fun z => nomatch z)
        have z := nb a o' q (by rw [hs]; exact nfr)
        rw [nB] at z
        cases z
    have nP : ∀ p ∈ X.pn ++ pins, p.1 ≠ a := fun p hp z => by
      obtain ⟨e, _, ne, nf, _⟩ := Ja.pin p hp
      have q := nb p.1 p.2 e (fun hm => by
        rcases List.mem_cons.mp (Ja.stkSub p.1 hm) with y | y
        · exact ne y
        · exact nf y)
      rw [z, nB] at q
      cases q
    have Sb := Jb.suite he3 hd3 na nL nF
    refine wpAny_handleBy_cons (codeAny_handlers_test ?_) (by intro q; cases q)
    have tyA : PySem.W.Looks (model X.prog X.w) h3 (typeOf (.ref a)) cls := fun A Q E s k q => wpAny_typeOf_ref (k _ _ he3) (by rw [hz3.1]; exact q)
    have exA := PySem.W.exm_one (M := model X.prog X.w) (Jb.kIn) tyA hb1
    have nameA : ∀ {Q : Value → Shared → Prop} {E : Value → Shared → Prop}, Q c { s' with heap := h3 } → wpAny (model X.prog X.w) (X.A.mark (some (.ref a))) (eval (.Name x np) X.env) Q E { s' with heap := h3 } := fun {Q E} q => by
      rcases hc with ⟨hg, hdbg, hm | ⟨hm, hv, hnn⟩⟩
      · exact ld_glob (X := X.suite a ((a, oe3) :: (X.pn ++ pins))) Sb hg hm q hdbg
      · exact ld_blt (X := X.suite a ((a, oe3) :: (X.pn ++ pins))) Sb hg hm hv q hnn hdbg
    refine nameA (exA.here ?_)
    cases b with
    | false =>
      show wpAny _ X.A (handleBy (.ref a) X.env []) _ _ _
      refine wpAny_handleBy_nil ?_
      obtain ⟨k1, k2, k3, oe, vs, T, oT, ts', he, hz, hd, h1, hr⟩ := id fl3
      unfold PySem.passOn
      refine wpAny_bind (wpAny_field he hd h1 ?_)
      rw [if_neg (show ¬ ((Value.ref T == Value.none) = true) from by simp)]
      have out : wpAny (model X.prog X.w) X.A (setFlight (.ref a) X.env.frame) (fun _ s4 => wpAny (model X.prog X.w) X.A (throw (.ref a) : Sem Flow) (SP X pins D) X.xe s4) X.xe { s' with heap := h3 } := by
        rw [hf]
        exact HandSPX.setFlight_upZ fl3 fun h4 hh4 up4 => wpAny_throw (tk _ _ ⟨a, Bg, sI, pins, σ', H', cls, d, rfl, Ja, nb, (up.trans up3).trans up4, .inr (.inr (by rw [hs]; exact hh4)), na, os, ag, hno rfl⟩)
      first
        | exact wpAny_bind (wpAny_pure (wpAny_bind out))
        | exact wpAny_bind out
    | true =>
      refine codeAny_handlers_suite_as (HandSPX.lands_againZ fl3 fun h4 fl4 up4 => ?_)
      have Jc : Inv X pins σ' H' { s' with heap := h4 } := Ja.landed nb fl4.1 ((up.trans up3).trans up4) os ag
      obtain ⟨oe4, vs4, he4, hz4, hd4⟩ := fl4.there
      have Sc := Jc.suite he4 hd4 na nL nF
      refine store_ok (X := X.suite a ((a, oe4) :: (X.pn ++ pins))) (v := .ref a) Sc hN hi lcN rfl (fun s5 S5 => ?_) (.inr hln)
      refine wpAny_mono ((hsu a oe4 cls d (X.pn ++ pins) hz4 ⟨_, hd4⟩).run [] s5 _ H' _ S5 (hyes rfl a na)) (fun fl s6 hsp => ?_) (fun _ _ z => False.elim z)
      have fin : ∀ {σ6 : L2.St} {H6 : Hp} {Q : Shared → Prop}, Inv (X.suite a ((a, oe4) :: (X.pn ++ pins))) [] σ6 H6 s6 → (∀ s7, Inv X pins (σ6.set i none) (upd H6 a (ExV cls d a)) s7 → Q s7) → wpAny (model X.prog X.w) X.A (do bindName X.env n .none; unbindBehindTheSuite X.env n pos') (fun _ s7 => Q s7) X.xe s6 := fun {σ6 H6 Q} S6 hq =>
        gone_ok (X := X.suite a ((a, oe4) :: (X.pn ++ pins))) S6 hN hi hln fun s7 S7 => by
          obtain ⟨g7, n7, _, _, _⟩ := S7.pin (a, oe4) (List.mem_append.mpr (.inl List.mem_cons_self))
          have U7 : Inv X pins (σ6.set i none) H6 s7 := S7.unsuite okX
          refine hq s7 (inv_track U7 n7 n0 nL (fun y cc e z => ?_) nP (exV_ok g7 hz4 ⟨_, hd4⟩))
          obtain ⟨v, o, ho, hdo⟩ := U7.cell y cc e
          rw [z, show s7.heap.get? a = some oe4 from g7] at ho
          cases ho
          rw [hd4] at hdo
          cases hdo
      cases fl with
      | next => obtain ⟨σ6, H6, S6, q6⟩ := hsp; exact fin S6 fun s7 J7 => ⟨_, _, J7, q6⟩
      | brk => obtain ⟨σ6, H6, S6, q6⟩ := hsp; exact fin S6 fun s7 J7 => ⟨_, _, J7, q6⟩
      | cont => obtain ⟨σ6, H6, S6, q6⟩ := hsp; exact fin S6 fun s7 J7 => ⟨_, _, J7, q6⟩
      | ret u => obtain ⟨v6, σ6, H6, S6, r6, q6⟩ := hsp; exact fin S6 fun s7 J7 => ⟨_, _, _, J7, r6, q6⟩
  · cases fl with
    | next => obtain ⟨σ', H', J', q⟩ := hsp; exact wpAny_execs_nil ⟨σ', H', J'.ofTry okX, q⟩
    | brk => obtain ⟨σ', H', J', q⟩ := hsp; exact ⟨σ', H', J'.ofTry okX, q⟩
    | cont => obtain ⟨σ', H', J', q⟩ := hsp; exact ⟨σ', H', J'.ofTry okX, q⟩
    | ret u => obtain ⟨v, σ', H', J', r, q⟩ := hsp; exact ⟨v, σ', H', J'.ofTry okX, r, q⟩
end
/-! isinstance of such an error -/
theorem inst_of {X : Cx} {pins : List (Addr × Obj)} {σ : L2.St} {H : Hp} {s : Shared} {a C : Addr} (I : Inv X pins σ H s) (h : H a = some (ExV (.ref C) none a)) : ∃ oe, PySem.W.InstAt s.heap a oe C none := by
  obtain ⟨⟨oe, g, ⟨h1, h2⟩, vs, hv⟩, _, _⟩ := I.hok a _ h
  obtain ⟨oc, od, oda, osl⟩ := oe
  dsimp only at h1 h2 hv
  subst h1 h2 hv
  exact ⟨_, g, rfl, rfl, trivial⟩
/-- types, errors among them -/
inductive TyZ (K : PySem.W.Frag) (H : Hp) : V → Value → Prop where
  | x {v : V} {t : Value} (h : TyX K H v t) : TyZ K H v t
  | exc {a C : Addr} (h : H a = some (ExV (.ref C) none a)) (c : ExcC K C) : TyZ K H (.ref a) (.ref C)
theorem kitz_of {X : Cx} {pins : List (Addr × Obj)} {σ : L2.St} {H : Hp} {s : Shared} {v : V} {u t : Value} (I : Inv X pins σ H s) (rv : RelV v u) (ty : TyZ X.K H v t) : ∃ Pz : Heap → Prop, PySem.W.KitX X.K u t Pz ∧ Pz s.heap ∧ u ≠ .builtin "__main__.__loader__#opaque" := by
  cases ty with
  | x h => exact kit_of I rv h
  | @exc a C h c =>
    cases (show u = Value.ref a from rv)
    obtain ⟨oe, J⟩ := inst_of I h
    exact ⟨_, PySem.W.handS_kitx_exc c.hg c.hk c.hs c.hd c.ha c.hn c.ht c.hm, J, fun z => nomatch z⟩
def rIsZ (K : PySem.W.Frag) : List V → Hp → VK → Prop := fun xs H Q => ∃ (v c : V) (t u : Value) (b : Bool), xs = [v, c] ∧ ClsV c u ∧ TyZ K H v t ∧ PySem.W.kitOne K t u = some b ∧ Q (.bl b) H
def rIsZT (K : PySem.W.Frag) : List V → Hp → VK → Prop := fun xs H Q => ∃ (v : V) (tp : Addr) (cs : List V) (t : Value) (us : List Value) (b : Bool), xs = [v, .ref tp] ∧ H tp = some (.tup cs) ∧ Paired ClsV cs us ∧ TyZ K H v t ∧ PySem.W.kitAny K t us = some b ∧ Q (.bl b) H
theorem call_isZ {X : Cx} : CallR X (.builtin "isinstance") (rIsZ X.K) := by
  intro pins s σ H xs us Q I r h
  obtain ⟨v, c, t, u, b, rfl, k, ty, e, q⟩ := h
  obtain ⟨w1, w2, rfl, r1, r2⟩ := vals2 r
  obtain rfl := k.eq r2
  obtain ⟨Pz, Z, p, hx⟩ := kitz_of I r1 ty
  exact PySem.W.kia_one Z I.kIn p e hx fun tk => ⟨.bl b, H, I.tok tk, rfl, q⟩
theorem call_isZT {X : Cx} : CallR X (.builtin "isinstance") (rIsZT X.K) := by
  intro pins s σ H xs us Q I r h
  obtain ⟨v, tp, cs, t, ws, b, rfl, hT, k, ty, e, q⟩ := h
  obtain ⟨w1, w2, rfl, r1, r2⟩ := vals2 r
  cases (show w2 = Value.ref tp from r2)
  obtain ⟨Pz, Z, p, hx⟩ := kitz_of I r1 ty
  obtain ⟨_, its, rv, ob, h1, h2, n, h3⟩ := (show ObjOk X.prog X.w H s.heap tp (.tup cs) from I.hok tp _ hT)
  obtain rfl := ClsV.all k rv
  obtain ⟨oc, od, dt, sl⟩ := ob
  simp only at h2 h3
  subst h2 h3
  exact PySem.W.kia_tup Z I.kIn p h1 e hx fun tk => ⟨.bl b, H, I.tok tk, rfl, q⟩
end Fo
namespace Fo
open PySem PySem.Spec PyProof.Rows L2
/-! isinstance of the error that the suite holds, whatever class it has -/
def rIsP (K : PySem.W.Frag) (a : Addr) (cls : Value) (d : Option Addr) : List V → Hp → VK → Prop := fun xs H Q => ∃ (C : Addr) (c : V) (u : Value) (b : Bool), cls = .ref C ∧ d = none ∧ ExcC K C ∧ xs = [.ref a, c] ∧ ClsV c u ∧ PySem.W.kitOne K (.ref C) u = some b ∧ Q (.bl b) H
def rIsPT (K : PySem.W.Frag) (a : Addr) (cls : Value) (d : Option Addr) : List V → Hp → VK → Prop := fun xs H Q => ∃ (C : Addr) (tp : Addr) (cs : List V) (us : List Value) (b : Bool), cls = .ref C ∧ d = none ∧ ExcC K C ∧ xs = [.ref a, .ref tp] ∧ H tp = some (.tup cs) ∧ Paired ClsV cs us ∧ PySem.W.kitAny K (.ref C) us = some b ∧ Q (.bl b) H
theorem inst_pin {X : Cx} {pins pn : List (Addr × Obj)} {σ : L2.St} {H : Hp} {s : Shared} {a C : Addr} {oe : Obj} (I : Inv (X.suite a ((a, oe) :: pn)) pins σ H s) (hz : Zc (.ref C) none oe) (hf : ∃ vs, oe.data = .fields vs) : PySem.W.InstAt s.heap a oe C none := by
  obtain ⟨hget, _⟩ := I.pin (a, oe) (List.mem_append.mpr (.inl List.mem_cons_self))
  obtain ⟨vs, hv⟩ := hf
  obtain ⟨oc, od, oda, osl⟩ := oe
  obtain ⟨h1, h2⟩ := hz
  dsimp only at h1 h2 hv
  subst h1 h2 hv
  exact ⟨hget, rfl, rfl, trivial⟩
theorem call_isP {X : Cx} {a : Addr} {cls : Value} {d : Option Addr} {oe : Obj} {pn : List (Addr × Obj)} (hz : Zc cls d oe) (hf : ∃ vs, oe.data = .fields vs) : CallR (X.suite a ((a, oe) :: pn)) (.builtin "isinstance") (rIsP X.K a cls d) := by
  intro pins s σ H xs us Q I r h
  obtain ⟨C, c, u, b, rfl, rfl, ec, rfl, k, e, q⟩ := h
  obtain ⟨w1, w2, rfl, r1, r2⟩ := vals2 r
  obtain rfl := k.eq r2
  cases (show w1 = Value.ref a from r1)
  exact PySem.W.kia_one (PySem.W.handS_kitx_exc ec.hg ec.hk ec.hs ec.hd ec.ha ec.hn ec.ht ec.hm) I.kIn (inst_pin I hz hf) e (fun z => nomatch z) fun tk => ⟨.bl b, H, I.tok tk, rfl, q⟩
theorem call_isPT {X : Cx} {a : Addr} {cls : Value} {d : Option Addr} {oe : Obj} {pn : List (Addr × Obj)} (hz : Zc cls d oe) (hf : ∃ vs, oe.data = .fields vs) : CallR (X.suite a ((a, oe) :: pn)) (.builtin "isinstance") (rIsPT X.K a cls d) := by
  intro pins s σ H xs us Q I r h
  obtain ⟨C, tp, cs, ws, b, rfl, rfl, ec, rfl, hT, k, e, q⟩ := h
  obtain ⟨w1, w2, rfl, r1, r2⟩ := vals2 r
  cases (show w1 = Value.ref a from r1)
  cases (show w2 = Value.ref tp from r2)
  obtain ⟨_, its, rv, ob, h1, h2, n, h3⟩ := (show ObjOk _ _ H s.heap tp (.tup cs) from I.hok tp _ hT)
  obtain rfl := ClsV.all k rv
  obtain ⟨oc, od, dt, sl⟩ := ob
  simp only at h2 h3
  subst h2 h3
  exact PySem.W.kia_tup (PySem.W.handS_kitx_exc ec.hg ec.hk ec.hs ec.hd ec.ha ec.hn ec.ht ec.hm) I.kIn (inst_pin I hz hf) h1 e (fun z => nomatch z) fun tk => ⟨.bl b, H, I.tok tk, rfl, q⟩
theorem ix_listP {X : Cx} {a : Addr} {pn : List (Addr × Obj)} : IxR (X.suite a pn) (rIxL X.K) := ix_list
/-- none of several classes -/
theorem any_no {K : PySem.W.Frag} {t : Value} : ∀ {us : List Value}, (∀ u ∈ us, PySem.W.kitOne K t u = some false) → PySem.W.kitAny K t us = some false
  | [], _ => rfl
  | u :: r, h => by
    unfold PySem.W.kitAny
    rw [h u List.mem_cons_self]
    exact any_no fun x hx => h x (List.mem_cons_of_mem _ hx)
theorem any_yes {K : PySem.W.Frag} {t u : Value} : ∀ {us : List Value}, (∀ u ∈ us, ∃ b, PySem.W.kitOne K t u = some b) → u ∈ us → PySem.W.kitOne K t u = some true → PySem.W.kitAny K t us = some true
  | [], _, h, _ => absurd h List.not_mem_nil
  | w :: r, h, hu, e => by
    unfold PySem.W.kitAny
    obtain ⟨b, hb⟩ := h w List.mem_cons_self
    rw [hb]
    cases b with
    | true => rfl
    | false =>
      rcases List.mem_cons.mp hu with rfl | hu
      · rw [hb] at e
        cases e
      · exact any_yes (fun x hx => h x (List.mem_cons_of_mem _ hx)) hu e
end Fo
namespace Fo
open PySem PySem.Spec PyProof.Rows L2
/-! things of any kind, as data; repr of them -/
def keyD : Key → PyData
  | .inl i => .int i
  | .inr x => .str x
inductive Kvs : List (Key × V) → List (PyData × PyData) → Prop
  | nil : Kvs [] []
  | cons {k : Key} {i : Int} {r : List (Key × V)} {s : List (PyData × PyData)} : Kvs r s → Kvs ((k, .int i) :: r) ((keyD k, .int i) :: s)
mutual
inductive Dq (H : Hp) : V → PyData → Prop
  | non : Dq H .non .none
  | bl (b : Bool) : Dq H (.bl b) (.bool b)
  | int (i : Int) : Dq H (.int i) (.int i)
  | str (x : Str) : Dq H (.str x) (.str x)
  | lst {a : Addr} {xs : List V} {ds : List PyData} : H a = some (.lst xs) → DqAll H xs ds → Dq H (.ref a) (.list ds)
  | tup {a : Addr} {xs : List V} {ds : List PyData} : H a = some (.tup xs) → DqAll H xs ds → Dq H (.ref a) (.tuple ds)
  | dic {a : Addr} {kvs : List (Key × V)} {ks : List (PyData × PyData)} : H a = some (.dK kvs) → Kvs kvs ks → Dq H (.ref a) (.dict ks)
inductive DqAll (H : Hp) : List V → List PyData → Prop
  | nil : DqAll H [] []
  | cons {v : V} {vs : List V} {d : PyData} {ds : List PyData} : Dq H v d → DqAll H vs ds → DqAll H (v :: vs) (d :: ds)
end
mutual
theorem Dq.keep {H H' : Hp} (k : ∀ b o, H b = some o → H' b = some o) : ∀ (d : PyData) (v : V), Dq H v d → Dq H' v d
  | .none, _, h => by cases h; exact .non
  | .bool b, _, h => by cases h; exact .bl b
  | .int i, _, h => by cases h; exact .int i
  | .str x, _, h => by cases h; exact .str x
  | .list ds, _, h => by
    cases h with
    | lst e a => exact .lst (k _ _ e) (DqAll.keep k ds _ a)
  | .tuple ds, _, h => by
    cases h with
    | tup e a => exact .tup (k _ _ e) (DqAll.keep k ds _ a)
  | .dict ks, _, h => by
    cases h with
    | dic e a => exact .dic (k _ _ e) a
theorem DqAll.keep {H H' : Hp} (k : ∀ b o, H b = some o → H' b = some o) : ∀ (ds : List PyData) (vs : List V), DqAll H vs ds → DqAll H' vs ds
  | [], _, h => by cases h; exact .nil
  | d :: ds, _, h => by
    cases h with
    | cons h1 h2 => exact .cons (Dq.keep k d _ h1) (DqAll.keep k ds _ h2)
end
theorem Dq.same {H H' : Hp} {d : PyData} {v : V} (h : Dq H v d) (s : Same H H') : Dq H' v d := Dq.keep s d v h
theorem DqAll.same {H H' : Hp} {ds : List PyData} {vs : List V} (h : DqAll H vs ds) (s : Same H H') : DqAll H' vs ds := DqAll.keep s ds vs h
theorem DqAll.len {H : Hp} : ∀ {ds : List PyData} {vs : List V}, DqAll H vs ds → vs.length = ds.length
  | [], _, h => by cases h; rfl
  | d :: ds, _, h => by
    cases h with
    | cons h1 h2 => rw [List.length_cons, List.length_cons, DqAll.len h2]
theorem DqAll.get {H : Hp} : ∀ {ds : List PyData} {vs : List V} {i : Nat} {v : V}, DqAll H vs ds → vs[i]? = some v → ∃ d, ds[i]? = some d ∧ Dq H v d
  | [], _, i, v, h, e => by cases h; simp at e
  | d :: ds, _, 0, v, h, e => by
    cases h with
    | cons h1 h2 =>
      cases (Option.some.inj e)
      exact ⟨d, rfl, h1⟩
  | d :: ds, _, i + 1, v, h, e => by
    cases h with
    | cons h1 h2 => exact DqAll.get (i := i) h2 e
theorem DqAll.app {H : Hp} : ∀ {ds es : List PyData} {vs us : List V}, DqAll H vs ds → DqAll H us es → DqAll H (vs ++ us) (ds ++ es)
  | [], _, _, _, h, g => by cases h; exact g
  | d :: ds, _, _, _, h, g => by
    cases h with
    | cons h1 h2 => exact .cons h1 (DqAll.app h2 g)
theorem DqAll.take {H : Hp} : ∀ {ds : List PyData} {vs : List V} (n : Nat), DqAll H vs ds → DqAll H (vs.take n) (ds.take n)
  | [], _, n, h => by cases h; rw [List.take_nil, List.take_nil]; exact .nil
  | d :: ds, _, 0, h => .nil
  | d :: ds, _, n + 1, h => by
    cases h with
    | cons h1 h2 => exact .cons h1 (DqAll.take n h2)
theorem DqAll.drop {H : Hp} : ∀ {ds : List PyData} {vs : List V} (n : Nat), DqAll H vs ds → DqAll H (vs.drop n) (ds.drop n)
  | [], _, n, h => by cases h; rw [List.drop_nil, List.drop_nil]; exact .nil
  | d :: ds, _, 0, h => h
  | d :: ds, _, n + 1, h => by
    cases h with
    | cons h1 h2 => exact DqAll.drop n h2
theorem dq_ints {H : Hp} : ∀ ns : List Int, DqAll H (ns.map V.int) (ns.map PyData.int)
  | [] => .nil
  | n :: r => .cons (.int n) (dq_ints r)
theorem dq_list {H : Hp} {a : Addr} {ns : List Int} (h : H a = some (.lst (ns.map V.int))) : Dq H (.ref a) (.list (ns.map PyData.int)) := .lst h (dq_ints ns)
section
variable {X : Cx} {pins : List (Addr × Obj)} {σ : L2.St} {H : Hp} {s : Shared}
theorem not_sys (I : Inv X pins σ H s) (z : SysAt X.base) {a : Addr} {o : HO} (e : H a = some o) : sysModules ≠ a := fun q => by
  obtain ⟨ob, eb⟩ := z
  have := (I.env0.bs _ _ eb).2
  rw [q, e] at this
  cases this
theorem kvs_reads (h : Heap) : ∀ {kvs : List (Key × V)} {ks : List (PyData × PyData)} {vs : List (Key × Value)} {es : List DictEntry}, Kvs kvs ks → KV kvs vs → Pairs (mixKind X.prog X.w) es vs → ReadsAll h (es.map (·.key)) (ks.map (·.1)) [] ∧ ReadsAll h (es.map (·.val)) (ks.map (·.2)) []
  | [], _, _, _, q, r, p => by
    cases q
    cases r
    cases p
    exact ⟨.nil, .nil⟩
  | kv :: kvs, _, _, _, q, r, p => by
    cases q with
    | cons q' =>
      cases r with
      | cons r1 r2 =>
        cases p with
        | cons p1 p2 =>
          obtain ⟨hk, hv⟩ := r1
          obtain ⟨t1, t2⟩ := kvs_reads h q' r2 (by assumption)
          obtain ⟨tv, ev⟩ := hv
          rename_i kk ii ss bb l2 ee ees p3
          have e1 : ∃ u, Reads h ee.key (keyD kk) u ∧ u = [] := by
            have p1' : keyIs bb.1 ee.key = true := p1
            rw [← hk] at p1'
            rcases keyIs_shape p1' with ⟨i, t, a1, a2⟩ | ⟨x, t, a1, a2⟩
            · have a1 : kk = Sum.inl i := a1
              rw [a2, a1]
              exact ⟨_, .int i t, rfl⟩
            · have a1 : kk = Sum.inr x := a1
              rw [a2, a1]
              exact ⟨_, .str x t, rfl⟩
          obtain ⟨_, e1, rfl⟩ := e1
          refine ⟨ReadsAll.cons e1 t1, ReadsAll.cons (as := []) (d := .int ii) ?_ t2⟩
          show Reads h ee.val _ _
          rw [p2, ev]
          exact .int ii tv
mutual
theorem Dq.reads (I : Inv X pins σ H s) (z : SysAt X.base) : ∀ (d : PyData) (v : V) (u : Value), Dq H v d → RelV v u → ∃ as, Reads s.heap u d as ∧ sysModules ∉ as
  | .none, _, _, h, r => by
    cases h
    cases r
    exact ⟨_, .none, List.not_mem_nil⟩
  | .bool b, _, _, h, r => by
    cases h
    cases r
    exact ⟨_, .bool b, List.not_mem_nil⟩
  | .int i, _, _, h, r => by
    cases h
    obtain ⟨t, rfl⟩ := r
    exact ⟨_, .int i t, List.not_mem_nil⟩
  | .str x, _, _, h, r => by
    cases h
    obtain ⟨t, rfl⟩ := r
    exact ⟨_, .str x t, List.not_mem_nil⟩
  | .list ds, _, _, h, r => by
    cases h with
    | lst e ha =>
      cases r
      obtain ⟨its, rv, ⟨o, n, ho, hc, _, hd⟩, _⟩ := I.list (SqL.of e)
      obtain ⟨as, hr, hn⟩ := Dq.readsAll I z ds _ its ha rv
      exact ⟨_, .list ho hc hd hr, fun q => by
        rcases List.mem_cons.mp q with q | q
        · exact not_sys I z e q
        · exact hn q⟩
  | .tuple ds, _, _, h, r => by
    cases h with
    | tup e ha =>
      cases r
      obtain ⟨its, rv, ⟨o, ho, hc, n, hd⟩, _⟩ := I.tuple (SqT.of e)
      obtain ⟨as, hr, hn⟩ := Dq.readsAll I z ds _ its ha rv
      exact ⟨_, .tuple ho hc hd hr, hn⟩
  | .dict ks, _, _, h, r => by
    cases h with
    | dic e hk =>
      cases r
      obtain ⟨_, nsys, vs, rel, dof⟩ := dk_of I.hok e
      obtain ⟨ep, ob, es, ho, exd, hdat, hko, hpr, hnd⟩ := dof.dictAt
      obtain ⟨r1, r2⟩ := kvs_reads (X := X) s.heap hk rel hpr
      exact ⟨_, .dict ho exd.1 hdat r1 r2, fun q => by
        rcases List.mem_cons.mp q with q | q
        · exact not_sys I z e q
        · cases q⟩
theorem Dq.readsAll (I : Inv X pins σ H s) (z : SysAt X.base) : ∀ (ds : List PyData) (vs : List V) (us : List Value), DqAll H vs ds → Vals vs us → ∃ as, ReadsAll s.heap us ds as ∧ sysModules ∉ as
  | [], _, _, h, r => by
    cases h
    cases r
    exact ⟨_, .nil, List.not_mem_nil⟩
  | d :: ds, _, _, h, r => by
    cases h with
    | cons h1 h2 =>
      cases r with
      | cons r1 r2 =>
        obtain ⟨as, q1, n1⟩ := Dq.reads I z d _ _ h1 r1
        obtain ⟨bs, q2, n2⟩ := Dq.readsAll I z ds _ _ h2 r2
        exact ⟨_, .cons q1 q2, fun q => by
          rcases List.mem_append.mp q with q | q
          · exact n1 q
          · exact n2 q⟩
end
/-- fit to be shown -/
structure Rp (m : Nat) (d : PyData) : Prop where
  show' : d.showable = true
  len : d.shown.length ≤ m
  dep : d.depth ≤ 20
/-- repr of a thing -/
def rReprD : List V → Hp → VK → Prop := fun xs H Q => ∃ (v : V) (d : PyData) (m : Nat), xs = [v] ∧ Dq H v d ∧ Rp m d ∧ m ≤ 16777216 ∧ Q (.str d.shown) H
theorem call_reprD {k : Nat} (g : X.A.guards = some []) (rm : Room k X.A) (z : SysAt X.base) : CallR X (.builtin "repr") rReprD := by
  intro pins s σ H xs us Q I r h
  obtain ⟨v, d, m, rfl, hd, rp, hm, q⟩ := h
  obtain ⟨u, rfl, ru⟩ := vals1 r
  have hun := rm.un
  have hdp := rp.dep
  have hsz : d.shown.length ≤ sizeLine := by rw [sizeLine_eq]; exact Nat.le_trans rp.len hm
  obtain ⟨as, rd, ns⟩ := Dq.reads I z d v u hd ru
  have big : ∀ {a : Addr}, u = .ref a → wpAny (model X.prog X.w) X.A (PySem.call (.builtin "repr") [u]) (EP X pins σ Q) X.xe s := fun {a} e => by
    subst e
    exact repr_of_reads' rd rp.show' (fun _ => ns) g (by omega) (fun _ _ e => e) (fun h' tk' tk kp => ⟨.str d.shown, H, I.kept (t' := tk) kp, ⟨_, rfl⟩, q⟩) hsz
  cases hd with
  | non =>
    cases ru
    have e : PyData.shown .none = "None" := by rw [PyData.shown]
    rw [e] at q
    exact PySem.P.repr_of_none ⟨.str _, H, I.tok _, ⟨_, rfl⟩, q⟩
  | bl b =>
    cases ru
    have e : PyData.shown (.bool b) = (if b = true then Str.ofString "True" else Str.ofString "False") := by rw [PyData.shown]
    rw [e] at q
    exact PySem.P.repr_of_bool ⟨.str _, H, I.tok _, ⟨_, rfl⟩, q⟩
  | int i =>
    obtain ⟨t, rfl⟩ := ru
    have e : PyData.shown (.int i) = Str.ofString (toString i) := by rw [PyData.shown]
    rw [e] at q
    exact PySem.P.repr_of_int (by have := rp.show'; rw [PyData.showable] at this; exact of_decide_eq_true this) ⟨.str _, H, I.tok _, ⟨_, rfl⟩, q⟩
  | str x =>
    obtain ⟨t, rfl⟩ := ru
    have e : PyData.shown (.str x) = reprText x := by rw [PyData.shown]
    rw [e] at q hsz
    exact PySem.P.repr_of_str ⟨.str _, H, I.tok _, ⟨_, rfl⟩, q⟩ hsz
  | lst e _ => exact big ru
  | tup e _ => exact big ru
  | dic e _ => exact big ru
end
/-! how long the texts are -/
theorem textFrom_le : ∀ (ts : List Str) (k : Nat) (acc : Str), (textFrom k acc ts).length ≤ acc.length + piled ts
  | [], k, acc => by rw [textFrom]; exact Nat.le_add_right _ _
  | t :: ts, k, acc => by
    rw [textFrom, piled_cons]
    have := textFrom_le ts (k + 1) (acc ++ Str.ofString (if k > 0 then ", " else "") ++ t)
    have e : (Str.ofString (if k > 0 then ", " else "")).length ≤ 2 := by split <;> decide
    rw [strLen_append, strLen_append] at this
    omega
theorem listText_le (ts : List Str) : (listText ts).length ≤ piled ts + 2 := by
  unfold listText
  have := textFrom_le ts 0 (Str.ofString "[")
  rw [strLen_append]
  have e1 : (Str.ofString "[").length = 1 := rfl
  have e2 : (Str.ofString "]").length = 1 := rfl
  omega
theorem piled_le : ∀ {ts : List Str} {m : Nat}, (∀ t ∈ ts, t.length ≤ m) → piled ts ≤ ts.length * (m + 2)
  | [], m, _ => by rw [piled_nil]; exact Nat.zero_le _
  | t :: ts, m, h => by
    rw [piled_cons, List.length_cons, Nat.succ_mul]
    have h1 := piled_le (ts := ts) fun x hx => h x (List.mem_cons_of_mem _ hx)
    have h2 := h t List.mem_cons_self
    omega
theorem join_le (ts : List Str) : (Str.join ", " ts).length ≤ piled ts := by
  by_cases h : ts = []
  · subst h
    decide
  · have := join_length_add ts h
    omega
theorem shownAll_eq : ∀ xs : List PyData, PyData.shownAll xs = xs.map PyData.shown
  | [] => by rw [PyData.shownAll]; rfl
  | x :: xs => by rw [PyData.shownAll, shownAll_eq xs]; rfl
theorem showableAll_of : ∀ {xs : List PyData}, (∀ x ∈ xs, PyData.showable x = true) → PyData.showableAll xs = true
  | [], _ => by rw [PyData.showableAll]
  | x :: xs, h => by rw [PyData.showableAll, h x List.mem_cons_self, showableAll_of fun y hy => h y (List.mem_cons_of_mem _ hy)]; rfl
theorem depthAll_of : ∀ {xs : List PyData} {k : Nat}, (∀ x ∈ xs, PyData.depth x ≤ k) → PyData.depthAll xs ≤ k
  | [], _, _ => by rw [PyData.depthAll]; exact Nat.zero_le _
  | x :: xs, k, h => by
    rw [PyData.depthAll]
    have h1 := h x List.mem_cons_self
    have h2 := depthAll_of fun y hy => h y (List.mem_cons_of_mem _ hy)
    exact Nat.max_le.mpr ⟨h1, h2⟩
/-- shown in m signs, k deep -/
structure Rq (m k : Nat) (d : PyData) : Prop where
  s : d.showable = true
  l : d.shown.length ≤ m
  d : d.depth ≤ k
theorem Rq.rp {m k : Nat} {d : PyData} (h : Rq m k d) (hk : k ≤ 20) : Rp m d := ⟨h.s, h.l, Nat.le_trans h.d hk⟩
theorem Rq.mono {m k m' k' : Nat} {d : PyData} (h : Rq m k d) (hm : m ≤ m') (hk : k ≤ k') : Rq m' k' d := ⟨h.s, Nat.le_trans h.l hm, Nat.le_trans h.d hk⟩
theorem rq_none : Rq 110 0 .none := ⟨by rw [PyData.showable], by rw [PyData.shown]; decide, by rw [PyData.depth]; exact Nat.le_refl _⟩
theorem rq_bool (b : Bool) : Rq 110 0 (.bool b) := ⟨by rw [PyData.showable], by rw [PyData.shown]; cases b <;> decide, by rw [PyData.depth]; exact Nat.le_refl _⟩
theorem rq_int {i : Int} (h : i.natAbs.log2 < 100) : Rq 110 0 (.int i) := by
  refine ⟨by rw [PyData.showable]; exact decide_eq_true (by omega), ?_, by rw [PyData.depth]; exact Nat.le_refl _⟩
  rw [PyData.shown]
  have := int_text_length_le (k := 100) (by decide) h
  show (Str.ofString (toString i)).length ≤ 110
  rw [PySem.ofString_length]
  omega
theorem rq_str {x : Str} (h : (reprText x).length ≤ 110) : Rq 110 0 (.str x) := ⟨by rw [PyData.showable], by rw [PyData.shown]; exact h, by rw [PyData.depth]; exact Nat.le_refl _⟩
theorem rq_list {xs : List PyData} {m k n : Nat} (h : ∀ x ∈ xs, Rq m k x) (hn : xs.length ≤ n) : Rq (n * (m + 2) + 2) (k + 1) (.list xs) := by
  refine ⟨by rw [PyData.showable]; exact showableAll_of fun x hx => (h x hx).s, ?_, by rw [PyData.depth]; exact Nat.succ_le_succ (depthAll_of fun x hx => (h x hx).d)⟩
  rw [PyData.shown, shownAll_eq]
  have h1 := listText_le (xs.map PyData.shown)
  have h2 := piled_le (ts := xs.map PyData.shown) (m := m) fun t ht => by
    obtain ⟨x, hx, rfl⟩ := List.mem_map.mp ht
    exact (h x hx).l
  rw [List.length_map] at h2
  have h3 := Nat.mul_le_mul_right (m + 2) hn
  omega
theorem rq_tup {xs : List PyData} {m k n : Nat} (h : ∀ x ∈ xs, Rq m k x) (hn : xs.length ≤ n) : Rq (n * (m + 2) + 3) (k + 1) (.tuple xs) := by
  refine ⟨by rw [PyData.showable]; exact showableAll_of fun x hx => (h x hx).s, ?_, by rw [PyData.depth]; exact Nat.succ_le_succ (depthAll_of fun x hx => (h x hx).d)⟩
  rw [PyData.shown, shownAll_eq]
  unfold tupleText
  rw [strLen_append, strLen_append]
  have h1 := join_le (xs.map PyData.shown)
  have h2 := piled_le (ts := xs.map PyData.shown) (m := m) fun t ht => by
    obtain ⟨x, hx, rfl⟩ := List.mem_map.mp ht
    exact (h x hx).l
  rw [List.length_map] at h2
  have h3 := Nat.mul_le_mul_right (m + 2) hn
  have e1 : (Str.ofString "(").length = 1 := rfl
  have e2 : (Str.ofString (if ((xs.map PyData.shown).length == 1) = true then ",)" else ")")).length ≤ 2 := by split <;> decide
  omega
theorem showableKv_of : ∀ {ks : List (PyData × PyData)}, (∀ p ∈ ks, PyData.showable p.1 = true ∧ PyData.showable p.2 = true) → PyData.showableKv ks = true
  | [], _ => by rw [PyData.showableKv]
  | (a, b) :: ks, h => by
    obtain ⟨h1, h2⟩ := h (a, b) List.mem_cons_self
    rw [PyData.showableKv, h1, h2, showableKv_of fun y hy => h y (List.mem_cons_of_mem _ hy)]
    rfl
theorem depthKv_of : ∀ {ks : List (PyData × PyData)} {k : Nat}, (∀ p ∈ ks, PyData.depth p.1 ≤ k ∧ PyData.depth p.2 ≤ k) → PyData.depthKv ks ≤ k
  | [], _, _ => by rw [PyData.depthKv]; exact Nat.zero_le _
  | (a, b) :: ks, k, h => by
    rw [PyData.depthKv]
    obtain ⟨h1, h3⟩ := h (a, b) List.mem_cons_self
    exact Nat.max_le.mpr ⟨Nat.max_le.mpr ⟨h1, h3⟩, depthKv_of fun y hy => h y (List.mem_cons_of_mem _ hy)⟩
theorem shownKv_map : ∀ ks : List (PyData × PyData), PyData.shownKv ks = ks.map fun p => p.1.shown ++ Str.ofString ": " ++ p.2.shown
  | [] => by rw [PyData.shownKv]; rfl
  | (a, b) :: ks => by rw [PyData.shownKv, shownKv_map ks]; rfl
theorem rq_dict {ks : List (PyData × PyData)} {m k n : Nat} (h : ∀ p ∈ ks, Rq m k p.1 ∧ Rq m k p.2) (hn : ks.length ≤ n) : Rq (n * (2 * m + 4) + 2) (k + 1) (.dict ks) := by
  refine ⟨by rw [PyData.showable]; exact showableKv_of fun p hp => ⟨(h p hp).1.s, (h p hp).2.s⟩, ?_, by rw [PyData.depth]; exact Nat.succ_le_succ (depthKv_of fun p hp => ⟨(h p hp).1.d, (h p hp).2.d⟩)⟩
  rw [PyData.shown, shownKv_map]
  unfold dictText
  rw [strLen_append, strLen_append]
  have h1 := join_le (ks.map fun p => p.1.shown ++ Str.ofString ": " ++ p.2.shown)
  have h2 := piled_le (ts := ks.map fun p => p.1.shown ++ Str.ofString ": " ++ p.2.shown) (m := 2 * m + 2) fun t ht => by
    obtain ⟨p, hp, rfl⟩ := List.mem_map.mp ht
    have a1 := (h p hp).1.l
    have a2 := (h p hp).2.l
    have e3 : (Str.ofString ": ").length = 2 := rfl
    rw [strLen_append, strLen_append]
    omega
  rw [List.length_map, show 2 * m + 2 + 2 = 2 * m + 4 by omega] at h2
  have h3 := Nat.mul_le_mul_right (2 * m + 4) hn
  have e1 : (Str.ofString "{").length = 1 := rfl
  have e2 : (Str.ofString "}").length = 1 := rfl
  omega
end Fo
namespace Fo
open PySem PySem.Spec PyProof.Rows L2
/-! dict(enumerate(xs)) of a list of ints -/
def enumKV : Nat → List Int → List (Key × V)
  | _, [] => []
  | i, x :: r => (.inl (i : Int), .int x) :: enumKV (i + 1) r
theorem enumKV_len : ∀ (i : Nat) (ns : List Int), (enumKV i ns).length = ns.length
  | _, [] => rfl
  | i, x :: r => by rw [enumKV, List.length_cons, List.length_cons, enumKV_len (i + 1) r]
def enumD : Nat → List Int → List (PyData × PyData)
  | _, [] => []
  | i, x :: r => (.int (i : Int), .int x) :: enumD (i + 1) r
theorem enumD_len : ∀ (i : Nat) (ns : List Int), (enumD i ns).length = ns.length
  | _, [] => rfl
  | i, x :: r => by rw [enumD, List.length_cons, List.length_cons, enumD_len (i + 1) r]
theorem enum_kvs : ∀ (i : Nat) (ns : List Int), Kvs (enumKV i ns) (enumD i ns)
  | _, [] => .nil
  | i, x :: r => .cons (k := .inl (i : Int)) (enum_kvs (i + 1) r)
theorem enumD_mem : ∀ {i : Nat} {ns : List Int} {p : PyData × PyData}, p ∈ enumD i ns → ∃ (j : Nat) (x : Int), p = (.int (j : Int), .int x) ∧ j < i + ns.length ∧ x ∈ ns
  | _, [], _, h => absurd h List.not_mem_nil
  | i, x :: r, p, h => by
    rcases List.mem_cons.mp h with h | h
    · exact ⟨i, x, h, by rw [List.length_cons]; omega, List.mem_cons_self⟩
    · obtain ⟨j, y, e, hj, hy⟩ := enumD_mem h
      exact ⟨j, y, e, by rw [List.length_cons]; omega, List.mem_cons_of_mem _ hy⟩
theorem merge_enum : ∀ (ns : List Int) (acc : List (Key × V)) (i : Nat), (∀ p ∈ acc, ∃ j : Nat, p.1 = .inl (j : Int) ∧ j < i) → mergeK acc (enumKV i ns) = acc ++ enumKV i ns
  | [], acc, i, _ => by
    rw [enumKV, List.append_nil]
    rfl
  | x :: r, acc, i, h => by
    have e : valV acc (.inl (i : Int)) = none := by
      unfold valV
      rw [Option.map_eq_none_iff, List.find?_eq_none]
      intro p hp hd
      obtain ⟨j, ej, hj⟩ := h p hp
      have := of_decide_eq_true hd
      rw [ej] at this
      injection this with this
      omega
    show mergeK (putK acc (.inl (i : Int)) (.int x)) (enumKV (i + 1) r) = _
    rw [putK_new _ e, merge_enum r _ (i + 1) (fun p hp => ?_), List.append_assoc]
    · rfl
    · rcases List.mem_append.mp hp with hp | hp
      · obtain ⟨j, ej, hj⟩ := h p hp
        exact ⟨j, ej, by omega⟩
      · rw [List.mem_singleton.mp hp]
        exact ⟨i, rfl, by omega⟩
/-- what the dict holds, by the list's own values -/
def enumV : Nat → List Value → List (Key × Value)
  | _, [] => []
  | i, x :: r => (.inl (i : Int), x) :: enumV (i + 1) r
theorem enumV_len : ∀ (i : Nat) (us : List Value), (enumV i us).length = us.length
  | _, [] => rfl
  | i, x :: r => by rw [enumV, List.length_cons, List.length_cons, enumV_len (i + 1) r]
theorem enumV_at : ∀ {j i : Nat} {us : List Value} {v : Value}, us[j]? = some v → (enumV i us)[j]? = some (.inl ((i + j : Nat) : Int), v)
  | _, _, [], _, h => by simp at h
  | 0, i, x :: r, v, h => by
    cases (Option.some.inj h)
    rfl
  | j + 1, i, x :: r, v, h => by
    have := enumV_at (j := j) (i := i + 1) (us := r) h
    rw [show i + (j + 1) = i + 1 + j by omega]
    exact this
theorem enumV_rel : ∀ {i : Nat} {ns : List Int} {us : List Value}, Vals (ns.map V.int) us → KV (enumKV i ns) (enumV i us)
  | _, [], _, h => by cases h; exact .nil
  | i, x :: r, _, h => by
    cases h with
    | cons h1 h2 => exact .cons ⟨rfl, h1⟩ (enumV_rel h2)
section
variable {X : Cx}
def tDictEnum (K : PySem.W.Frag) (te : TE) : TE := fun σ H Q => te σ H fun x H1 => ∃ (a : Addr) (ns : List Int), x = .ref a ∧ SqL K H1 a (ns.map V.int) ∧ ∀ p, H1 p = none → Q (.ref p) (upd H1 p (.dK (enumKV 0 ns)))
theorem pe_dictEnum {e : Expr} {te : TE} {p q pos qos : Pos} (calm : X.calm = true) (gd : Gl X "dict") (md : X.mg "dict" = none) (ge : Gl X "enumerate") (me : X.mg "enumerate" = none) (he : PE X e te)
    (st : starEach [Expr.Call (.Name "enumerate" q) [e] [] qos] X.env = [(false, eval (Expr.Call (.Name "enumerate" q) [e] [] qos) X.env)] := by rfl) (su : starEach [e] X.env = [(false, eval e X.env)] := by rfl) :
    PE X (.Call (.Name "dict" p) [.Call (.Name "enumerate" q) [e] [] qos] [] pos) (tDictEnum X.K te) := by
  refine ⟨fun pins s σ H Q I h => ?_⟩
  refine wpAny_Call_Name_kw (ld_blt I gd md (u := .type "dict") (by decide +kernel) ?_ (by decide +kernel) (by decide +kernel))
  rw [st]
  refine PySem.callWith_type1 ?_
  refine wpAny_Call_Name_kw (ld_blt I ge me (u := .type "enumerate") (by decide +kernel) ?_ (by decide +kernel) (by decide +kernel))
  rw [su]
  refine PySem.callWith_type1 (thn (he.run pins s σ H _ I h) fun u s1 ⟨x, H1, I1, r1, a, ns, ex, sq, qk⟩ => ?_)
  subst ex
  obtain rfl : u = Value.ref a := r1
  obtain ⟨its, rv, pl, hz⟩ := I1.list sq
  have hlt := Heap.lt_size pl.isList.choose_spec.1
  refine call_enumerate_list pl.isList fun h' en it sz kp => ?_
  have I2 : Inv X pins σ H1 { s1 with heap := h' } := I1.kept (t' := s1.toks) kp
  have lis : h'.IsList a its.toArray := pl.isList.at fun o e => kp _ _ e
  have ln : its.length = ns.length := by rw [← rv.length, List.length_map]
  have hzn : ns.length ≤ sizeLine := by rw [List.length_map] at hz; exact hz
  refine PySem.call_dict_pairs (knd := mixKind X.prog X.w) (kvs := enumV 0 its) (PairArg.enumerate (s1.heap.objs.size + 1) s1.heap.objs.size a (Nat.succ_ne_self _) (Nat.ne_of_lt (Nat.lt_succ_of_lt hlt)) (Nat.ne_of_lt hlt) its.toArray) (I.ok.hd calm) ⟨⟨_, en⟩, it, lis⟩ ⟨by rw [enumV_len]; simp, fun i key v hr => ?_⟩ (by simp only [List.size_toArray]; omega) fun h2 tk hd2 kp2 => ?_
  · obtain ⟨⟨t, rfl⟩, hv⟩ := hr
    refine ⟨.inl (i : Int), ?_, ?_⟩
    · have := enumV_at (j := i) (i := 0) (us := its) (v := v) (by simpa using hv)
      rw [Nat.zero_add] at this
      exact this
    · show Value.isInt (i : Int) (.int (i : Int) t) = true
      simp [Value.isInt]
  · have em : KV (enumKV 0 ns) (merged [] (enumV 0 its)) := by
      have := KV.merge (enumV_rel (i := 0) rv) (.nil : KV (κ := Key) [] [])
      rw [merge_enum ns [] 0 (fun p hp => absurd hp List.not_mem_nil)] at this
      exact this
    have nn : H1 h'.objs.size = none := I2.hok.fresh (Nat.le_refl _)
    refine ⟨.ref h'.objs.size, upd H1 h'.objs.size (.dK (enumKV 0 ns)), I1.laid (t' := tk) (fun b o e => kp2 b o (fun z => ?_) (kp b o e)) (by rw [sz]; omega) (show ObjOk X.prog X.w _ _ _ (.dK (enumKV 0 ns)) from ⟨by rw [enumKV_len]; exact hzn, beq_eq_false_iff_ne.mpr (Nat.ne_of_gt I2.big), merged [] (enumV 0 its), em, hd2⟩), rfl, qk _ nn⟩
    have := Heap.lt_size e
    simp only [List.mem_cons, List.not_mem_nil, or_false] at z
    rcases z with z | z
    · rw [z] at this
      exact absurd this (Nat.not_lt.mpr (Nat.le_succ _))
    · rw [z] at this
      exact absurd this (Nat.lt_irrefl _)
end
end Fo
namespace Fo
open PySem PySem.Spec PyProof.Rows L2
/-! kinds of things -/
def tyD : PyData → String
  | .none => "NoneType"
  | .bool _ => "bool"
  | .int _ => "int"
  | .str _ => "str"
  | .list _ => "list"
  | .tuple _ => "tuple"
  | .dict _ => "dict"
theorem dq_ty {K : PySem.W.Frag} {H : Hp} {v : V} {d : PyData} (h : Dq H v d) : TyX K H v (.type (tyD d)) := by
  cases h with
  | non => exact .base .non
  | bl b => exact .base (.bl b)
  | int i => exact .base (.int i)
  | str x => exact .base (.str x)
  | lst e _ => exact .base (.lst e)
  | tup e _ => exact .base (.tup e)
  | dic e _ => exact .base (.dK e)
def isIntD : PyData → Bool
  | .int _ => true
  | .bool _ => true
  | _ => false
def isBoolD : PyData → Bool
  | .bool _ => true
  | _ => false
def isListD : PyData → Bool
  | .list _ => true
  | _ => false
def isStrD : PyData → Bool
  | .str _ => true
  | _ => false
theorem kit_intD {K : PySem.W.Frag} : ∀ d : PyData, PySem.W.kitOne K (.type (tyD d)) (.type "int") = some (isIntD d)
  | .none => show PySem.W.kitOne K (.type "NoneType") (.type "int") = some false from kit_ty (by decide +kernel)
  | .bool _ => show PySem.W.kitOne K (.type "bool") (.type "int") = some true from kit_ty (by decide +kernel)
  | .int _ => show PySem.W.kitOne K (.type "int") (.type "int") = some true from kit_ty (by decide +kernel)
  | .str _ => show PySem.W.kitOne K (.type "str") (.type "int") = some false from kit_ty (by decide +kernel)
  | .list _ => show PySem.W.kitOne K (.type "list") (.type "int") = some false from kit_ty (by decide +kernel)
  | .tuple _ => show PySem.W.kitOne K (.type "tuple") (.type "int") = some false from kit_ty (by decide +kernel)
  | .dict _ => show PySem.W.kitOne K (.type "dict") (.type "int") = some false from kit_ty (by decide +kernel)
theorem kit_boolD {K : PySem.W.Frag} : ∀ d : PyData, PySem.W.kitOne K (.type (tyD d)) (.type "bool") = some (isBoolD d)
  | .none => show PySem.W.kitOne K (.type "NoneType") (.type "bool") = some false from kit_ty (by decide +kernel)
  | .bool _ => show PySem.W.kitOne K (.type "bool") (.type "bool") = some true from kit_ty (by decide +kernel)
  | .int _ => show PySem.W.kitOne K (.type "int") (.type "bool") = some false from kit_ty (by decide +kernel)
  | .str _ => show PySem.W.kitOne K (.type "str") (.type "bool") = some false from kit_ty (by decide +kernel)
  | .list _ => show PySem.W.kitOne K (.type "list") (.type "bool") = some false from kit_ty (by decide +kernel)
  | .tuple _ => show PySem.W.kitOne K (.type "tuple") (.type "bool") = some false from kit_ty (by decide +kernel)
  | .dict _ => show PySem.W.kitOne K (.type "dict") (.type "bool") = some false from kit_ty (by decide +kernel)
theorem kit_listD {K : PySem.W.Frag} : ∀ d : PyData, PySem.W.kitOne K (.type (tyD d)) (.type "list") = some (isListD d)
  | .none => show PySem.W.kitOne K (.type "NoneType") (.type "list") = some false from kit_ty (by decide +kernel)
  | .bool _ => show PySem.W.kitOne K (.type "bool") (.type "list") = some false from kit_ty (by decide +kernel)
  | .int _ => show PySem.W.kitOne K (.type "int") (.type "list") = some false from kit_ty (by decide +kernel)
  | .str _ => show PySem.W.kitOne K (.type "str") (.type "list") = some false from kit_ty (by decide +kernel)
  | .list _ => show PySem.W.kitOne K (.type "list") (.type "list") = some true from kit_ty (by decide +kernel)
  | .tuple _ => show PySem.W.kitOne K (.type "tuple") (.type "list") = some false from kit_ty (by decide +kernel)
  | .dict _ => show PySem.W.kitOne K (.type "dict") (.type "list") = some false from kit_ty (by decide +kernel)
theorem kit_strD {K : PySem.W.Frag} : ∀ d : PyData, PySem.W.kitOne K (.type (tyD d)) (.type "str") = some (isStrD d)
  | .none => show PySem.W.kitOne K (.type "NoneType") (.type "str") = some false from kit_ty (by decide +kernel)
  | .bool _ => show PySem.W.kitOne K (.type "bool") (.type "str") = some false from kit_ty (by decide +kernel)
  | .int _ => show PySem.W.kitOne K (.type "int") (.type "str") = some false from kit_ty (by decide +kernel)
  | .str _ => show PySem.W.kitOne K (.type "str") (.type "str") = some true from kit_ty (by decide +kernel)
  | .list _ => show PySem.W.kitOne K (.type "list") (.type "str") = some false from kit_ty (by decide +kernel)
  | .tuple _ => show PySem.W.kitOne K (.type "tuple") (.type "str") = some false from kit_ty (by decide +kernel)
  | .dict _ => show PySem.W.kitOne K (.type "dict") (.type "str") = some false from kit_ty (by decide +kernel)
def wholeD : PyData → Bool
  | .int _ => true
  | _ => false
def GoodD (d : PyData) : Prop := ∃ ns : List Int, d = .list (ns.map PyData.int) ∧ IsOrd ns.length ns ∧ 1 ≤ ns.length ∧ ns.length ≤ 12
theorem all_ints : ∀ {ds : List PyData}, ds.all wholeD = true → ∃ ns : List Int, ds = ns.map PyData.int
  | [], _ => ⟨[], rfl⟩
  | d :: ds, h => by
    rw [List.all_cons, Bool.and_eq_true] at h
    obtain ⟨ns, e⟩ := all_ints h.2
    cases d with
    | int i => exact ⟨i :: ns, by rw [e]; rfl⟩
    | _ => cases h.1
theorem dq_intsV {H : Hp} : ∀ {ns : List Int} {vs : List V}, DqAll H vs (ns.map PyData.int) → vs = ns.map V.int
  | [], _, h => by cases h; rfl
  | n :: r, _, h => by
    rw [List.map_cons] at h
    cases h with
    | cons h1 h2 =>
      cases h1
      rw [dq_intsV h2]
      rfl
theorem intD_inj : ∀ {a b : List Int}, a.map PyData.int = b.map PyData.int → a = b
  | [], [], _ => rfl
  | [], _ :: _, h => by cases h
  | _ :: _, [], h => by cases h
  | x :: a, y :: b, h => by
    rw [List.map_cons, List.map_cons] at h
    injection h with h1 h2
    injection h1 with h1
    rw [h1, intD_inj h2]
theorem good_all {ds : List PyData} (h : GoodD (.list ds)) : ds.all wholeD = true := by
  obtain ⟨ns, e, _⟩ := h
  injection e with e
  rw [e, List.all_eq_true]
  intro x hx
  obtain ⟨i, _, rfl⟩ := List.mem_map.mp hx
  rfl
def spWholeD : Sp := fun vs H Q _ => ∃ (v : V) (d : PyData), vs = [v] ∧ Dq H v d ∧ Q (.bl (wholeD d)) H
def spIsOrdD : Sp := fun vs H Q _ => ∃ (v : V) (d : PyData), vs = [v] ∧ Dq H v d ∧ ∀ (b : Bool) (H' : Hp), (b = true ↔ GoodD d) → Same H H' → Q (.bl b) H'
def spGoodL : Sp := fun vs H Q _ => ∃ (v : V) (d : PyData), vs = [v] ∧ Dq H v d ∧ ∀ (b : Bool) (H' : Hp), (b = true ↔ GoodD d) → Same H H' → Q (.bl b) H'
theorem not_good {d : PyData} (h : isListD d = false) : (false = true ↔ GoodD d) := by
  refine ⟨fun z => absurd z Bool.false_ne_true, fun z => ?_⟩
  obtain ⟨ns, e, _⟩ := z
  rw [e] at h
  cases h
theorem not_good_len {ds : List PyData} (h : ds.length < 1 ∨ 12 < ds.length) : (false = true ↔ GoodD (.list ds)) := by
  refine ⟨fun z => absurd z Bool.false_ne_true, fun z => ?_⟩
  obtain ⟨ns, e, _, h1, h2⟩ := z
  injection e with e
  rw [e, List.length_map] at h
  omega
theorem not_good_all {ds : List PyData} (h : ds.all wholeD = false) : (false = true ↔ GoodD (.list ds)) := ⟨fun z => absurd z Bool.false_ne_true, fun z => by rw [good_all z] at h; cases h⟩
theorem all_map_id (ds : List PyData) : (ds.map wholeD).all id = ds.all wholeD := by
  rw [List.all_map]
  rfl
theorem perm_sub : ∀ {a b : List Int}, a.Nodup → (∀ x ∈ a, x ∈ b) → b.length ≤ a.length → a.Perm b
  | [], b, _, _, h => by
    have : b = [] := List.eq_nil_of_length_eq_zero (Nat.le_zero.mp h)
    rw [this]
  | x :: a, b, nd, sub, h => by
    have hx := sub x List.mem_cons_self
    have nx := (List.nodup_cons.mp nd).1
    have h1 := List.length_erase_of_mem hx
    rw [List.length_cons] at h
    refine List.Perm.trans (List.Perm.cons x (perm_sub (b := b.erase x) (List.nodup_cons.mp nd).2 (fun y hy => ?_) (by omega))) (List.perm_cons_erase hx).symm
    exact (List.mem_erase_of_ne (fun z => nx (by rw [← z]; exact hy))).mpr (sub y (List.mem_cons_of_mem _ hy))
theorem ord_of {ns : List Int} (nd : ns.Nodup) (h : ∀ x ∈ ns, 0 ≤ x ∧ x < (ns.length : Int)) : IsOrd ns.length ns := by
  have sub : ∀ x ∈ ns, x ∈ rg ns.length := fun x hx => rg_mem.mpr (h x hx)
  exact perm_sub nd sub (by rw [rg_len]; exact Nat.le_refl _)
theorem inV_ints (t : Int) : ∀ row : List Int, inV (.int t) (row.map V.int) = decide (t ∈ row)
  | [] => rfl
  | x :: r => by
    have ih := inV_ints t r
    unfold inV at ih ⊢
    have eqI : eqV (.int x) (.int t) = decide (x = t) := by
      unfold eqV
      by_cases e : x = t
      · subst e
        simp
      · simp [e]
    rw [List.map_cons, List.any_cons, ih, eqI]
    by_cases e : x = t
    · subst e
      simp
    · have e1 : ¬ t = x := fun z => e z.symm
      simp [e, e1]
theorem flatI (row : List Int) : (row.map V.int).all flatV = true := by
  rw [List.all_eq_true]
  intro x hx
  obtain ⟨i, _, rfl⟩ := List.mem_map.mp hx
  rfl
section
variable {P : Program} {w : World} {K : PySem.W.Frag} {mg : Str → Option Value} {base : Heap}
theorem scWholeD : FnScope ["thing"] ["thing"] (defScope s_is_whole) := ⟨rfl, rfl, rfl, by decide +kernel, rfl, by decide +kernel, by decide +kernel⟩
theorem ok_wholeD {f : Addr} {fd : FuncData} {k : Nat} (T : Df K mg "is_whole" s_is_whole ["thing"] f fd) (B : Bi mg) : FnOk P w K mg base CX0 (k + 1) f fd ["thing"] spWholeD := by
  refine T.F.ok scWholeD (fun vs H Q E h => ?_) (fun cdv A outer s H vs Q E hr h => ?_)
  · obtain ⟨v, d, rfl, _⟩ := h
    rfl
  · obtain ⟨v, d, rfl, hd, q⟩ := h
    refine ⟨_, 
      (pss_one (ps_ret (pe_and (pe_callB call_isi (by rfl) B.isinstance (by decide +kernel) (pa_cons (pv 0) (pa_cons (pe_bltn (v := .ty "int") (by rfl) B.int (by decide +kernel) rfl) pa_nil))) (pe_one (pe_not (pe_callB call_isi (by rfl) B.isinstance (by decide +kernel) (pa_cons (pv 0) (pa_cons (pe_bltn (v := .ty "bool") (by rfl) B.bool (by decide +kernel) rfl) pa_nil)))))))), ?_⟩
    refine ⟨_, rfl, _, _, _, _, isIntD d, rfl, .ty _, dq_ty hd, kit_intD d, _, rfl, ?_⟩
    cases d with
    | int i => exact iteT ⟨_, rfl, _, _, _, _, false, rfl, .ty _, dq_ty hd, kit_boolD _, false, rfl, q⟩
    | bool b => exact iteT ⟨_, rfl, _, _, _, _, true, rfl, .ty _, dq_ty hd, kit_boolD _, true, rfl, q⟩
    | _ => exact iteF q
theorem scIsOrdD : FnScope ["thing", "number"] ["thing"] (defScope s_is_order) := ⟨rfl, rfl, rfl, by decide +kernel, rfl, by decide +kernel, by decide +kernel⟩
set_option maxHeartbeats 2000000 in
theorem ok_isOrdD {f fW : Addr} {fd fdW : FuncData} {k : Nat} {t : Tok} (T : Df K mg "is_order" s_is_order ["thing"] f fd) (T_is_whole : Df K mg "is_whole" s_is_whole ["thing"] fW fdW) (B : Bi mg) (mM : mg "MOST_THINGS" = some (.int 12 t)) : FnOk P w K mg base CX0 (k + 2) f fd ["thing"] spIsOrdD := by
  have G_is_whole : FnOk P w K mg base CX0 (k + 1) fW fdW ["thing"] spWholeD := ok_wholeD T_is_whole B
  refine T.F.ok scIsOrdD (fun vs H Q E h => ?_) (fun cdv A outer s H vs Q E hr h => ?_)
  · obtain ⟨v, d, rfl, _⟩ := h
    rfl
  · obtain ⟨v, d, rfl, hd, q⟩ := h
    refine ⟨_, 
      (pss_cons (ps_if (PW.pt (pw_or (pt_not (pt_val (pe_callB call_isi (by rfl) B.isinstance (by decide +kernel) (pa_cons (pv 0) (pa_cons (pe_bltn (v := .ty "list") (by rfl) B.list (by decide +kernel) rfl) pa_nil))))) (pw_or (pt_cmpR op_lt (pe_callB call_len_seq (by rfl) B.len PySem.boot_len (pa_cons (pv 0) pa_nil)) pe_int (nomark _)) (pw_or1 (pt_cmpR op_gt (pe_callB call_len_seq (by rfl) B.len PySem.boot_len (pa_cons (pv 0) pa_nil)) (pe_glob (v := .int 12) (by rfl) mM ⟨_, rfl⟩) (nomark _))))))
        (pss_one (ps_ret pe_bl))
        pss_nil)
      (pss_cons (ps_if (pt_not (pt_val (pe_callB (cr_all rfl) (by rfl) B.all (by decide +kernel) (pa_cons (pe_lc (own := [("number", 1)]) (g := (gName 1)) (tt := tYes) (te := (tCall spWholeD [] E0 (tCons (tVar 1) tNil))) rfl scIsOrdD.nd (pi_list (pv 0)) (blkOk_by (N := ["thing", "number"]) (sc := defScope s_is_order) (by decide +kernel)) (fun _ _ _ _ _ => (pg_name (i := 1) scIsOrdD.nd rfl (.inl rfl))) (fun _ _ _ _ _ => pts_nil) (fun _ _ _ _ _ => (pe_call G_is_whole hr (by rfl) T_is_whole.g T_is_whole.F.kp T_is_whole.b .nil pass0 (pa_cons (pv 1) pa_nil)))) pa_nil))))
        (pss_one (ps_ret pe_bl))
        pss_nil)
      (pss_one (ps_ret (pe_cmpR (op_eqD hr.units) (pe_callB cr_sorted (by rfl) B.sorted (by decide +kernel) (pa_cons (pv 0) pa_nil)) (pe_listRg rfl (by rfl) B.list (prg_1 (by rfl) B.range (pe_callB call_len_seq (by rfl) B.len PySem.boot_len (pa_cons (pv 0) pa_nil)))) (nomark _)))))), ?_⟩
    refine ⟨_, rfl, _, _, _, _, isListD d, rfl, .ty _, dq_ty hd, kit_listD d, _, rfl, ?_⟩
    cases hl : isListD d with
    | false => exact iteT (iteT (q _ _ (not_good hl) (Same.refl _)))
    | true =>
      cases hd with
      | @lst a xs ds e al =>
        have hlen := al.len
        refine iteF ?_
        refine ⟨_, rfl, a, _, rfl, .inl (SqL.of e), _, 1, rfl, rfl, _, rfl, ite2 (fun c => ?_) (fun c => ?_)⟩
        · exact iteT (q _ _ (not_good_len (.inl (by have := of_decide_eq_true c; omega))) (Same.refl _))
        have c1 : 1 ≤ ds.length := by
          by_cases z : ds.length < 1
          · exact absurd (decide_eq_true (show ((xs.length : Nat) : Int) < 1 by omega)) c
          · omega
        refine ⟨_, rfl, a, _, rfl, .inl (SqL.of e), _, 12, rfl, rfl, _, rfl, ite2 (fun c => ?_) (fun c => ?_)⟩
        · exact q _ _ (not_good_len (.inr (by have := of_decide_eq_true c; omega))) (Same.refl _)
        have c2 : ds.length ≤ 12 := by
          by_cases z : 12 < ds.length
          · exact absurd (decide_eq_true (show (12 : Int) < ((xs.length : Nat) : Int) by omega)) c
          · omega
        refine ⟨_, rfl, a, rfl, ⟨_, SqL.of e⟩, fun p np => ?_⟩
        refine lc_list (K := K) (a := a) (xs := xs) (fun i H3 => H3 p = some (.lst (((ds.take i).map wholeD).map V.bl)) ∧ Same H H3) ⟨upd_same, same_new np⟩ (fun i H3 _ hP => SqL.of (hP.2 _ _ e)) (fun i x H3 hx hP => ?_) (fun H3 hP => ?_)
        · obtain ⟨hp3, sm⟩ := hP
          obtain ⟨d, ed, hd⟩ := al.get hx
          have hi := (List.getElem?_eq_some_iff.mp ed).1
          refine ⟨rfl, _, rfl, x, d, rfl, hd.same sm, _, hp3, line_lt (by rw [List.length_map, List.length_map, List.length_take]; omega), ?_, fun b o eb => ?_⟩
          · rw [upd_same, List.take_add_one, ed, List.map_append, List.map_append]
            rfl
          · rw [upd_ne (ne_of_none eb np)]
            exact sm _ _ eb
        · obtain ⟨hp3, sm⟩ := hP
          rw [hlen, List.take_length] at hp3
          have e3 := sm _ _ e
          refine ⟨p, _, rfl, SqL.of hp3, _, rfl, ?_⟩
          rw [all_map_id]
          cases ha : ds.all wholeD with
          | false => exact iteT (q _ _ (not_good_all ha) sm)
          | true =>
            obtain ⟨ns, ens⟩ := all_ints ha
            subst ens
            have exs := dq_intsV al
            subst exs
            rw [List.length_map] at c1 c2 hlen
            refine iteF ?_
            refine ⟨_, rfl, a, ns, rfl, SqL.of e3, by omega, fun ns' s1 hperm hsrt ns1 => ?_⟩
            have e4 := same_new (o := .lst (ns'.map V.int)) ns1 _ _ e3
            refine ⟨_, rfl, a, _, rfl, .inl (SqL.of e4), _, rfl, RgOk.of_le (by omega) (by rw [List.length_map]; omega) (by omega) (by omega), fun s2 ns2 => ?_⟩
            rw [List.length_map]
            have h1 : (upd (upd H3 s1 (.lst (ns'.map V.int))) s2 (.lst (rgV 0 (ns.length : Int)))) s1 = some (.lst (ns'.map V.int)) := same_new ns2 _ _ upd_same
            have h2 : (upd (upd H3 s1 (.lst (ns'.map V.int))) s2 (.lst (rgV 0 (ns.length : Int)))) s2 = some (.lst ((rg ns.length).map V.int)) := by rw [upd_same, rg_V]
            refine ⟨_, _, dp_list h1, dp_list h2, shaped_list _, shaped_list _, ?_⟩
            rw [show PyData.eqv (.list (ns'.map PyData.int)) (.list ((rg ns.length).map PyData.int)) = decide (ns' = rg ns.length) from eqv_ints _ _]
            refine q _ _ ⟨fun z => ?_, fun z => ?_⟩ ((sm.trans (same_new ns1)).trans (same_new ns2))
            · have z := of_decide_eq_true z
              rw [z] at hperm
              exact ⟨ns, rfl, hperm.symm, c1, c2⟩
            · obtain ⟨ms, em, ho, _⟩ := z
              injection em with em
              have em := intD_inj em
              subst em
              exact decide_eq_true (sorted_eq (hperm.trans ho) hsrt (rg_sorted _))
      | _ => cases hl
end
end Fo
namespace Fo
open PySem PySem.Spec PyProof.Rows L2
/-! ### lists of lists -/
def LL (H : Hp) : List Addr → List (List Int) → Prop
  | [], [] => True
  | a :: as, r :: rs => H a = some (.lst (r.map V.int)) ∧ LL H as rs
  | _, _ => False
theorem LL.len {H : Hp} : ∀ {as : List Addr} {rs : List (List Int)}, LL H as rs → as.length = rs.length
  | [], [], _ => rfl
  | [], _ :: _, h => h.elim
  | _ :: _, [], h => h.elim
  | a :: as, r :: rs, h => by rw [List.length_cons, List.length_cons, LL.len h.2]
theorem LL.keep {H H' : Hp} : ∀ {as : List Addr} {rs : List (List Int)}, LL H as rs → (∀ a ∈ as, ∀ o, H a = some o → H' a = some o) → LL H' as rs
  | [], [], _, _ => trivial
  | [], _ :: _, h, _ => h.elim
  | _ :: _, [], h, _ => h.elim
  | a :: as, r :: rs, h, k => ⟨k a List.mem_cons_self _ h.1, LL.keep h.2 fun b hb => k b (List.mem_cons_of_mem _ hb)⟩
theorem LL.same {H H' : Hp} {as : List Addr} {rs : List (List Int)} (h : LL H as rs) (s : Same H H') : LL H' as rs := h.keep fun a _ o e => s a o e
theorem LL.get {H : Hp} : ∀ {as : List Addr} {rs : List (List Int)} {i : Nat} {a : Addr}, LL H as rs → as[i]? = some a → ∃ r, rs[i]? = some r ∧ H a = some (.lst (r.map V.int))
  | [], [], _, _, _, e => by simp at e
  | [], _ :: _, _, _, h, _ => h.elim
  | _ :: _, [], _, _, h, _ => h.elim
  | a :: as, r :: rs, 0, b, h, e => by
    have e2 : a = b := Option.some.inj e
    subst e2
    exact ⟨r, rfl, h.1⟩
  | a :: as, r :: rs, i + 1, b, h, e => LL.get (i := i) h.2 e
theorem LL.tracked {H : Hp} {as : List Addr} {rs : List (List Int)} (h : LL H as rs) {a : Addr} (ha : a ∈ as) : ∃ o, H a = some o := by
  obtain ⟨i, hi⟩ := List.mem_iff_getElem?.mp ha
  obtain ⟨r, _, e⟩ := h.get hi
  exact ⟨_, e⟩
theorem LL.snoc {H : Hp} : ∀ {as : List Addr} {rs : List (List Int)} {a : Addr} {r : List Int}, LL H as rs → H a = some (.lst (r.map V.int)) → LL H (as ++ [a]) (rs ++ [r])
  | [], [], _, _, _, e => ⟨e, trivial⟩
  | [], _ :: _, _, _, h, _ => h.elim
  | _ :: _, [], _, _, h, _ => h.elim
  | b :: as, s :: rs, _, _, h, e => ⟨h.1, LL.snoc h.2 e⟩
theorem LL.drop {H : Hp} : ∀ {as : List Addr} {rs : List (List Int)} (k : Nat), LL H as rs → LL H (as.drop k) (rs.drop k)
  | as, rs, 0, h => h
  | [], [], k + 1, _ => trivial
  | [], _ :: _, _ + 1, h => h.elim
  | _ :: _, [], _ + 1, h => h.elim
  | _ :: as, _ :: rs, k + 1, h => LL.drop k h.2
theorem dp_LL {K : PySem.W.Frag} {H : Hp} : ∀ {as : List Addr} {rs : List (List Int)}, LL H as rs → DpAll K H (as.map V.ref) (rs.map dL)
  | [], [], _ => .nil
  | [], _ :: _, h => h.elim
  | _ :: _, [], h => h.elim
  | _ :: _, _ :: _, h => .cons (dp_list h.1) (dp_LL h.2)
theorem dp_lists {K : PySem.W.Frag} {H : Hp} {l : Addr} {as : List Addr} {rs : List (List Int)} (hl : H l = some (.lst (as.map V.ref))) (h : LL H as rs) : Dp K H (.ref l) (dLL rs) := .lst (SqL.of hl) (dp_LL h)
theorem ref_at {as : List Addr} {i : Nat} {a : Addr} (h : as[i]? = some a) : (as.map V.ref)[i]? = some (V.ref a) := by
  rw [List.getElem?_map, h]
  rfl
theorem ref_at_inv {as : List Addr} {i : Nat} {v : V} (h : (as.map V.ref)[i]? = some v) : ∃ a, as[i]? = some a ∧ v = V.ref a := by
  rw [List.getElem?_map] at h
  cases e : as[i]? with
  | none => rw [e] at h; cases h
  | some x => rw [e] at h; exact ⟨x, rfl, (Option.some.inj h).symm⟩
theorem cutV_tail (xs : List V) (k : Nat) : cutV xs (some (k : Int)) none = xs.drop k := by
  unfold cutV
  rw [HT.sIx_none, HT.sIx_nat]
  by_cases h : k ≤ xs.length
  · rw [Nat.min_eq_left h, List.take_of_length_le (by rw [List.length_drop]; exact Nat.le_refl _)]
  · rw [Nat.min_eq_right (by omega), List.drop_of_length_le (Nat.le_refl _), List.drop_of_length_le (by omega), List.take_nil]
end Fo
namespace Fo
open PySem PySem.Spec PyProof.Rows L2
/-- a loop over enumerate of a list that stands still -/
theorem for_enumL {K : PySem.W.Frag} {a : Addr} {xs : List V} {g : TG} {tb : TS} {D : Ends} {σ : L2.St} {H : Hp} (Pv : Nat → L2.St → Hp → Prop) (h0 : Pv 0 σ H) (hq : ∀ i σ H, Pv i σ H → SqL K H a xs)
    (hs : ∀ (i : Nat) (x : V) (T : Addr) (σ : L2.St) (H : Hp), xs[i]? = some x → Pv i σ H → H T = none → g (.ref T) σ (upd H T (.tup [.int (i : Nat), x])) fun σ2 H2 => tb { D with nx := Pv (i + 1), ct := Pv (i + 1), bk := D.nx } σ2 H2) (hd : ∀ σ H, Pv xs.length σ H → D.nx σ H) :
    ∃ W : Nat → Nat → L2.St → Hp → Prop, (∃ m, W 0 m σ H) ∧ ∀ i m σ H, W i m σ H →
      ((Ite K a).stop i H ∧ D.nx σ H) ∨ ((Ite K a).go i H ∧ ∃ N : L2.St → Hp → Prop, (∀ σ' H', N σ' H' → ∃ m', m' < m ∧ W (i + 1) m' σ' H') ∧ ∀ v H', (Ite K a).yld i H v H' → g v σ H' fun σ2 H2 => tb { D with nx := N, ct := N, bk := D.nx } σ2 H2) := by
  refine ⟨fun i m σ H => m = xs.length - i ∧ i ≤ xs.length ∧ Pv i σ H, ⟨xs.length, rfl, Nat.zero_le _, h0⟩, ?_⟩
  rintro i m σ H ⟨rfl, hi, p⟩
  have qx := hq i σ H p
  by_cases hlt : i < xs.length
  · have hx : xs[i]? = some xs[i] := List.getElem?_eq_getElem hlt
    refine .inr ⟨⟨xs, _, qx, hx⟩, Pv (i + 1), fun σ' H' p' => ⟨xs.length - (i + 1), by omega, rfl, hlt, p'⟩, fun v H' y => ?_⟩
    obtain ⟨T, x', rfl, hT, rfl, f1⟩ := y
    exact hs i x' T σ H (f1 xs qx) p hT
  · have e : i = xs.length := by omega
    subst e
    exact .inl ⟨⟨xs, qx, Nat.le_refl _⟩, hd σ H p⟩
/-- a comprehension over enumerate of a list that stands still -/
theorem lc_enumL {K : PySem.W.Frag} {a : Addr} {xs : List V} {g : TG} {tt : TT} {te : TE} {vs : List Nat} {σ : L2.St} {H1 : Hp} {D : Addr} {Qd : Hp → Prop} (Pv : Nat → Hp → Prop) (h0 : Pv 0 (upd H1 D (.lst []))) (hl : ∀ i H, i ≤ xs.length → Pv i H → SqL K H a xs)
    (hs : ∀ (i : Nat) (x : V) (T : Addr) (H : Hp), xs[i]? = some x → Pv i H → H T = none → g (.ref T) (wipe σ vs) (upd H T (.tup [.int (i : Nat), x])) fun σ2 H2 => wipe σ2 vs = wipe σ vs ∧ tt σ2 H2 fun b H3 =>
      if b = true then te σ2 H3 fun y H4 => ∃ acc, H4 D = some (.lst acc) ∧ acc.length < sizeLine ∧ Pv (i + 1) (upd H4 D (.lst (acc ++ [y]))) else Pv (i + 1) H3) (hd : ∀ H, Pv xs.length H → Qd H) :
    ∃ W : Nat → Nat → Hp → Prop, (∃ m, W 0 m (upd H1 D (.lst []))) ∧ ∀ i m H, W i m H →
      ((Ite K a).stop i H ∧ Qd H) ∨ ((Ite K a).go i H ∧ ∃ Nx : Hp → Prop, (∀ H', Nx H' → ∃ m', m' < m ∧ W (i + 1) m' H') ∧ ∀ x H', (Ite K a).yld i H x H' → g x (wipe σ vs) H' fun σ2 H2 => wipe σ2 vs = wipe σ vs ∧ tt σ2 H2 fun b H3 =>
        if b = true then te σ2 H3 fun y H4 => ∃ acc, H4 D = some (.lst acc) ∧ acc.length < sizeLine ∧ Nx (upd H4 D (.lst (acc ++ [y]))) else Nx H3) := by
  refine ⟨fun i m H => m = xs.length - i ∧ i ≤ xs.length ∧ Pv i H, ⟨xs.length, by simp, Nat.zero_le _, h0⟩, ?_⟩
  rintro i m H ⟨rfl, hi, p⟩
  have q := hl i H hi p
  by_cases hlt : i < xs.length
  · refine .inr ⟨⟨xs, xs[i], q, by simp [hlt]⟩, Pv (i + 1), fun H' p' => ⟨xs.length - (i + 1), by omega, rfl, hlt, p'⟩, fun x H' y => ?_⟩
    obtain ⟨T, x', rfl, hT, rfl, f1⟩ := y
    exact hs i x' T H (f1 xs q) p hT
  · have e : i = xs.length := by omega
    subst e
    exact .inl ⟨⟨xs, q, Nat.le_refl _⟩, hd H p⟩
/-! ### the back of an order -/
def IsBack (ns ps : List Int) : Prop := ps.length = ns.length ∧ ∀ (j : Nat) (x : Int), ns[j]? = some x → ps[x.toNat]? = some (j : Int)
theorem ord_at {n : Nat} {ns : List Int} (o : IsOrd n ns) {t : Nat} (h : t < n) : ∃ j : Nat, j < n ∧ ns[j]? = some (t : Int) := by
  have m : (t : Int) ∈ ns := (List.Perm.mem_iff o).mpr (rg_mem.mpr ⟨by omega, by omega⟩)
  obtain ⟨j, hj⟩ := List.mem_iff_getElem?.mp m
  exact ⟨j, by have := (List.getElem?_eq_some_iff.mp hj).1; rw [o.len] at this; exact this, hj⟩
theorem ord_ix {n : Nat} {ns : List Int} (o : IsOrd n ns) {j : Nat} (h : j < n) : ∃ x : Int, ns[j]? = some x ∧ 0 ≤ x ∧ x < n := by
  have hj : j < ns.length := by rw [o.len]; exact h
  exact ⟨ns[j], List.getElem?_eq_getElem hj, o.mem (List.getElem_mem hj)⟩
theorem back_eq {n : Nat} {ns a b : List Int} (o : IsOrd n ns) (ha : IsBack ns a) (hb : IsBack ns b) : a = b := by
  apply List.ext_getElem?
  intro t
  by_cases h : t < n
  · obtain ⟨j, _, hj⟩ := ord_at o h
    have h1 := ha.2 j _ hj
    have h2 := hb.2 j _ hj
    rw [Int.toNat_natCast] at h1 h2
    rw [h1, h2]
  · rw [List.getElem?_eq_none (by rw [ha.1, o.len]; omega), List.getElem?_eq_none (by rw [hb.1, o.len]; omega)]
def behindL (ns ms : List Int) : List Int := ms.map fun p => ns.getD p.toNat 0
theorem behind_at {ns ms : List Int} {i : Nat} {p x : Int} (hp : ms[i]? = some p) (hx : ns[p.toNat]? = some x) : (behindL ns ms)[i]? = some x := by
  unfold behindL
  rw [List.getElem?_map, hp]
  show some (ns.getD p.toNat 0) = some x
  rw [List.getD_eq_getElem?_getD, hx]
  rfl
theorem behind_len (ns ms : List Int) : (behindL ns ms).length = ms.length := by
  unfold behindL
  rw [List.length_map]
theorem take_more {l : List Int} {i : Nat} {x : Int} (h : l[i]? = some x) : l.take (i + 1) = l.take i ++ [x] := by
  rw [List.take_add_one, h]
  rfl
theorem flat_ints : ∀ ns : List Int, (ns.map V.int).all flatV = true
  | [] => rfl
  | n :: r => by
    show (flatV (V.int n) && (r.map V.int).all flatV) = true
    rw [flat_ints r]
    rfl
theorem eqV_int (i j : Int) : eqV (.int i) (.int j) = (i == j) := rfl
end Fo
namespace Fo
open PySem PySem.Spec PyProof.Rows L2
/-! ### sorted(rows), rows a list of lists of whole numbers -/
def rowsR (ps : List (Addr × List Int)) : List (Addr × List Int) := ps.mergeSort fun p q => decide (p.2 ≤ q.2)
def rSortedR (K : PySem.W.Frag) : List V → Hp → VK → Prop := fun vs H Q => ∃ (a : Addr) (ps : List (Addr × List Int)), vs = [V.ref a] ∧ SqL K H a (ps.map fun p => V.ref p.1) ∧ (∀ p ∈ ps, Dp K H (.ref p.1) (dL p.2)) ∧
  ∀ q, H q = none → Q (.ref q) (upd H q (.lst ((rowsR ps).map fun p => V.ref p.1)))
theorem each_refs : ∀ {ps : List (Addr × List Int)} {us : List Value}, Vals (ps.map fun p => V.ref p.1) us → PySem.W.EachIs (fun v (p : Addr × List Int) => v = Value.ref p.1) us ps
  | [], _, .nil => .nil
  | p :: ps, _, .cons r t => .cons r (each_refs t)
theorem refs_each : ∀ {ps : List (Addr × List Int)} {us : List Value}, PySem.W.EachIs (fun v (p : Addr × List Int) => v = Value.ref p.1) us ps → Vals (ps.map fun p => V.ref p.1) us
  | _, _, .nil => .nil
  | _, _, .cons r t => .cons r (refs_each t)
theorem each_all {R S : Value → (Addr × List Int) → Prop} : ∀ {us : List Value} {ps : List (Addr × List Int)}, PySem.W.EachIs R us ps → (∀ v p, p ∈ ps → R v p → S v p) → PySem.W.EachIs S us ps
  | _, _, .nil, _ => .nil
  | _, _, .cons r t, h => .cons (h _ _ List.mem_cons_self r) (each_all t fun v p hp => h v p (List.mem_cons_of_mem _ hp))
theorem cr_sortedR {X : Cx} (hu : X.A.units + 64 < cLine) : CallR X (.builtin "sorted") (rSortedR X.K) := by
  intro pins s σ H vs us Q J rel hz
  obtain ⟨a, ps, ev, sq, hd, q⟩ := hz
  subst ev
  obtain ⟨its, rv, hl, hlen⟩ := J.list sq
  rw [Vals.ref1 rel]
  have e := each_refs rv
  have el := rv.length
  rw [List.length_map] at el hlen
  refine PySem.W.sorted_data (enc := fun p : Addr × List Int => .list (p.2.map .int)) hl.isList e (each_all e fun v p hp hv => ?_) (PySem.W.AllAlike.of fun b b' => ?_) (PySem.W.Sortable.others fun b => ⟨(fun z => by cases z), (fun xs z => by cases z)⟩) hlen (fun b _ => ?_) fun out ol eo => ?_
  · subst hv
    exact Dp.reads J _ _ _ (hd p hp) rfl
  · show PySem.W.alike (.list (b.2.map .int)) (.list (b'.2.map .int)) = true
    simp only [PySem.W.alike]
    exact PySem.W.alike_ints _ _
  · show X.A.units + 2 + (dL b.2).depth < cLine
    rw [depth_list]
    omega
  · rw [PySem.W.dataLe_rows (fun p : Addr × List Int => p.2)] at eo
    obtain ⟨ep, he⟩ := PyProof.Rows.sortedAll_at s.heap its out.toArray
    have hl2 : ((rowsR ps).map fun p => V.ref p.1).length ≤ sizeLine := by
      unfold rowsR
      rw [List.length_map, List.length_mergeSort]
      exact hlen
    exact ⟨.ref _, upd H (s.heap.objs.size + 1) (.lst ((rowsR ps).map fun p => V.ref p.1)), J.laid (t' := s.toks) (fun _ _ => PyProof.Rows.sortedAll_old) (Nat.le_succ _) ⟨hl2, out, ep, refs_each eo, he⟩, rfl, q _ (J.hok.fresh (Nat.le_succ _))⟩
theorem rows_le_total (a b : Addr × List Int) : (decide (a.2 ≤ b.2) || decide (b.2 ≤ a.2)) = true := by
  rcases List.le_total a.2 b.2 with h | h
  · rw [decide_eq_true h]; rfl
  · rw [decide_eq_true h, Bool.or_true]
theorem rowsR_perm (ps : List (Addr × List Int)) : (rowsR ps).Perm ps := List.mergeSort_perm _ _
theorem rowsR_sorted (ps : List (Addr × List Int)) : ((rowsR ps).map (·.2)).Pairwise (· ≤ ·) := by
  have h := List.pairwise_mergeSort (le := fun p q : Addr × List Int => decide (p.2 ≤ q.2)) (fun a b c h1 h2 => decide_eq_true (List.le_trans (of_decide_eq_true h1) (of_decide_eq_true h2))) rows_le_total ps
  exact List.pairwise_map.mpr (h.imp fun h => of_decide_eq_true h)
end Fo
namespace Fo
open PySem PySem.Spec PyProof.Rows L2
theorem units65 {k : Nat} {A : Around} (r : Room k A) : A.units + 65 < cLine := by have := r.un; omega
theorem any_row (rs : List (List Int)) (o : List Int) : ((rs.map dL).any fun z => PyData.eqv z (dL o)) = decide (o ∈ rs) := by
  induction rs with
  | nil => rfl
  | cons a rs ih =>
    rw [List.map_cons, List.any_cons, ih, eqv_ints]
    by_cases c : a = o
    · subst c; simp
    · have c2 : ¬ o = a := fun e => c e.symm
      simp [c, c2]
end Fo
namespace Fo
open PySem PySem.Spec PyProof.Rows L2
/-! defs that refuse -/
section
variable {P : Program} {w : World} {K : PySem.W.Frag} {mg : Str → Option Value} {base : Heap} {k : Nat} {f : Addr} {fd : FuncData} {ps : List Str}
theorem fn_up {sp : Sp} (F : FnOk P w K mg base CX0 k f fd ps sp) : FnOk P w K mg base (L2.CX P w) k f fd ps sp :=
  ⟨F.len, fun A outer s H args us vs Q E hr e0 hb hv hs => codeAny_mono (F.run A outer s H args us vs Q E hr e0 hb hv hs) fun r s' h => match r, h with
    | .error _, h => h.elim
    | .ok (.ret _), h => h
    | .ok .next, h => h
    | .ok .brk, h => h
    | .ok .cont, h => h⟩
theorem fn_or {CX : CXT} {sp sp' : Sp} (F : FnOk P w K mg base CX k f fd ps sp) (G : FnOk P w K mg base CX k f fd ps sp') : FnOk P w K mg base CX k f fd ps (fun vs H Q E => sp vs H Q E ∨ sp' vs H Q E) :=
  ⟨fun vs H Q E h => h.elim (F.len vs H Q E) (G.len vs H Q E), fun A outer s H args us vs Q E hr e0 hb hv hs => hs.elim (F.run A outer s H args us vs Q E hr e0 hb hv) (G.run A outer s H args us vs Q E hr e0 hb hv)⟩
def spNever : Sp := fun _ _ _ _ => False
theorem fn_never {CX : CXT} : FnOk P w K mg base CX k f fd ps spNever := ⟨fun _ _ _ _ h => h.elim, fun _ _ _ _ _ _ _ _ _ _ _ _ _ h => h.elim⟩
end
/-- an error class of the program, over ValueError -/
structure ExK (K : PySem.W.Frag) (mg : Str → Option Value) (x : Str) (C : Addr) : Prop where
  g : mg x = some (.ref C)
  q : PySem.W.excIn K C [.type "ValueError", .type "Exception", .type "BaseException", .type "object"] "ValueError.__new__" = true
  kp : PySem.W.keepIn K (.ref C) = true
  sb : PySem.W.subIn K (.ref C) (.type "BaseException") = some true
  ty : PySem.W.typeIn K (.ref C) = some (.type "type")
  ec : ExcC K C
section
variable {X : Cx}
theorem ps_raiseK {W : WX} {x m : Str} {C : Addr} {j : Nat} {p p2 pos pos' : Pos} (hc : X.calm = true) (tk : Takes X W) (c : ExK X.K X.mg x C) (hg : Gl X x) (hdb : (x == ("__debug__" : Str)) = false := by decide) :
    PS X (.Raise (some (.Call (.Name x p) [.Constant (.str m) j p2] [] pos)) none pos') (fun _ σ H => W (.ref C) none σ H) :=
  ps_raise hc tk (pmk_own PySem.F.excBase_ValueError c.q c.g c.kp (raises_own c.sb c.ty) hg hdb)
theorem ps_raiseA {W : WX} {x : Str} {C : Addr} {e : Expr} {ta : TE} {p pos pos' : Pos} (hc : X.calm = true) (tk : Takes X W) (c : ExK X.K X.mg x C) (hg : Gl X x) (he : PE X e ta) (hdb : (x == ("__debug__" : Str)) = false := by decide)
    (hs : starEach [e] X.env = (false, eval e X.env) :: starEach [] X.env := by rfl) :
    PS X (.Raise (some (.Call (.Name x p) [e] [] pos)) none pos') (fun _ σ H => ta σ H fun _ H1 => W (.ref C) none σ H1) :=
  ps_raise hc tk (SkE.pmk_own1 PySem.F.excBase_ValueError c.q c.g c.kp (raises_own c.sb c.ty) hg he hs hdb)
end
end Fo
namespace Fo
open PySem PySem.Spec PyProof.Rows L2
abbrev rListOf (K : PySem.W.Frag) : List V → Hp → VK → Prop := fun xs H Q => ∃ p ys, xs = [.ref p] ∧ (SqL K H p ys ∨ SqT K H p ys) ∧ ∀ l, H l = none → Q (.ref l) (upd H l (.lst ys))
/-! min(xs, default=None); methods that may raise -/
def rMinDef (K : PySem.W.Frag) : List V → List V → Hp → VK → Prop := fun xs zs H Q => ∃ (a : Addr) (ns : List Int), xs = [V.ref a] ∧ zs = [V.non] ∧ SqL K H a (ns.map V.int) ∧ (ns = [] → Q .non H) ∧ ∀ m, m ∈ ns → (∀ y, y ∈ ns → m ≤ y) → Q (.int m) H
theorem hold_ints {h : Heap} : ∀ {ns : List Int} {us : List Value}, Vals (ns.map V.int) us → PySem.W.HoldAll h us ns
  | [], _, r => by cases r; exact PySem.W.HoldAll.nil
  | n :: ns, _, r => by
    cases r with
    | cons r1 r2 =>
      obtain ⟨t, rfl⟩ := r1
      exact PySem.W.HoldAll.cons (PySem.W.holds_int n t) (hold_ints r2)
theorem minOf_spec (x : Int) : ∀ ys : List Int, PySem.W.minOf x ys ∈ x :: ys ∧ ∀ y ∈ x :: ys, PySem.W.minOf x ys ≤ y := by
  intro ys
  induction ys generalizing x with
  | nil => exact ⟨List.mem_cons_self, fun y hy => by rw [List.mem_singleton.mp hy]; exact Int.le_refl _⟩
  | cons z r ih =>
    have e : PySem.W.minOf x (z :: r) = PySem.W.minOf (if PySem.W.DatumOrd.lt z x = true then z else x) r := rfl
    rw [e]
    have hl : PySem.W.DatumOrd.lt z x = decide (z < x) := rfl
    rw [hl]
    by_cases c : z < x
    · rw [if_pos (decide_eq_true c)]
      obtain ⟨i1, i2⟩ := ih z
      refine ⟨List.mem_cons_of_mem _ i1, fun y hy => ?_⟩
      rcases List.mem_cons.mp hy with rfl | hy
      · have := i2 z List.mem_cons_self
        omega
      · exact i2 y hy
    · rw [if_neg (fun q => c (of_decide_eq_true q))]
      obtain ⟨i1, i2⟩ := ih x
      refine ⟨?_, fun y hy => ?_⟩
      · rcases List.mem_cons.mp i1 with i1 | i1
        · rw [i1]
          exact List.mem_cons_self
        · exact List.mem_cons_of_mem _ (List.mem_cons_of_mem _ i1)
      · rcases List.mem_cons.mp hy with rfl | hy
        · exact i2 y List.mem_cons_self
        · rcases List.mem_cons.mp hy with rfl | hy
          · have := i2 x List.mem_cons_self
            omega
          · exact i2 y (List.mem_cons_of_mem _ hy)
theorem cr_minDef {X : Cx} (hu : X.A.units + 64 < cLine) (calm : X.calm = true) : CallRK X (.builtin "min") [Str.ofString "default"] (rMinDef X.K) := by
  intro pins s σ H vs zs us ws Q I r rz h
  obtain ⟨a, ns, rfl, rfl, hs, q0, q⟩ := h
  obtain rfl := Vals.ref1 r
  obtain ⟨w1, rfl, e1⟩ := vals1 rz
  obtain rfl : w1 = Value.none := e1
  obtain ⟨its, rv, pl, _⟩ := I.list hs
  refine PySem.W.min_list_datum_default (I.ok.hd calm) pl.isList (hold_ints rv) (by show _ + 1 + 0 < _; omega) (fun e h' tk kp => ?_) fun y ys i v h' tk e hi hv kp => ?_
  · exact ⟨.non, H, I.kept (t' := tk) kp, rfl, q0 e⟩
  · obtain ⟨m1, m2⟩ := minOf_spec y ys
    obtain ⟨t, rfl⟩ := PySem.W.int_of_holds hv
    exact ⟨.int _, H, I.kept (t' := tk) kp, ⟨t, rfl⟩, q _ (by rw [e]; exact m1) fun z hz => m2 z (by rw [← e]; exact hz)⟩
theorem pe_minDef {X : Cx} {e d : Expr} {te td : TE} {p kp pos : Pos} (hu : X.A.units + 64 < cLine) (calm : X.calm = true) (hg : Gl X "min") (hm : X.mg "min" = none) (he : PE X e te) (hd : PE X d td)
    (b1 : backTo pos (starEach (e :: []) X.env) = (false, eval e X.env) :: backTo pos (starEach [] X.env) := by rfl) (b2 : (backTo pos (starEach (e :: []) X.env)).any (·.1) = false := by rfl) (b3 : (backToKw pos (keywordEach [⟨some "default", d, kp⟩] X.env)).all (·.1.isSome) = true := by rfl)
    (b4 : (backToKw pos (keywordEach [⟨some "default", d, kp⟩] X.env)).any (·.1.isNone) = false := by rfl) (b6 : starEach [e] X.env = (false, eval e X.env) :: starEach [] X.env := by rfl) (b5 : (backToKw pos (keywordEach [⟨some "default", d, kp⟩] X.env)).filterMap (·.1) = [Str.ofString "default"] := by rfl) :
    PE X (.Call (.Name "min" p) [e] [⟨some "default", d, kp⟩] pos) (tCKw (rMinDef X.K) (tCons te tNil) (tCons td tNil)) :=
  pe_callBK (cr_minDef hu calm) hg hm (by decide +kernel) (pa_cons he pa_nil (hs := b6)) (pk_cons hd pk_nil) (he := b1) (hpl := b2) (hall := b3) (hnone := b4) (hks := b5)
/-- a method that may raise, without arguments and with them -/
def tMethS (C : Addr) (m : Str) (sp : Sp) (E : L2.St → XK) (ta : TE) (t : TA) : TE := fun σ H Q => ta σ H fun x H1 => ∃ a dx fs, x = .ref a ∧ H1 a = some (.ins C dx fs) ∧ fs.lookup m = none ∧ t σ H1 fun vs H2 => sp (x :: vs) H2 Q (E σ)
section
variable {X : Cx} {CX : CXT} {k : Nat} {f C : Addr} {fd : FuncData} {ps : List Str} {sp : Sp} {E : L2.St → XK} {m : Str} {pos apos : Pos} {e o : Expr} {es : List Expr} {ta : TE} {t : TA} {pl : Sem Bool}
theorem pe_meth0S (ho : PE X o ta) (cl : Cls X.K C) (me : Meth X.K C m f) (F : FnOk X.prog X.w X.K X.mg X.base CX k f fd ps sp) (rm : Room k X.A) (bi : Binds X.K fd ps []) (pa : ∀ σ, PassesAt CX X σ (E σ))
    (ht : eval (.Call (.Attribute o m apos) [] [] pos) X.env = (do let ov ← eval o X.env; standAt apos.atName; let (f, first) ← holding [ov] (getMethod ov m pl); callWith pos f first (backTo pos (starEach [] X.env)) (backToKw pos (keywordEach [] X.env))) := by rfl) :
    PE X (.Call (.Attribute o m apos) [] [] pos) (tMethS C m sp E ta tNil) :=
  ⟨fun pins s σ H Q I w => PySem.W.methodCall_KW (pl := pl) (thn (ho.run pins s σ H _ I w) fun u s1 ⟨x, H1, I1, rx, a, dx, fs, ex, ea, l, q⟩ => by
    cases ex
    cases (show u = Value.ref a from rx)
    exact getmeth_ok I1 ea cl me l (PySem.W.callWith_K0 (first := [.ref a]) I1.kIn me.kp (run_fnS (us := [.ref a]) (vs := [.ref a]) F rm bi (pa σ) I1 (.cons rfl .nil) q))) ht⟩
theorem pe_methS (ho : PE X o ta) (cl : Cls X.K C) (me : Meth X.K C m f) (F : FnOk X.prog X.w X.K X.mg X.base CX k f fd ps sp) (rm : Room k X.A) (bi : Binds X.K fd ps []) (pa : ∀ σ, PassesAt CX X σ (E σ)) (as : PA X (e :: es) t)
    (st : starEach (e :: es) X.env = (false, eval e X.env) :: starEach es X.env := by rfl) (na : (backTo pos (starEach es X.env)).any (·.1) = false := by rfl)
    (ht : eval (.Call (.Attribute o m apos) (e :: es) [] pos) X.env = (do let ov ← eval o X.env; standAt apos.atName; let (f, first) ← holding [ov] (getMethod ov m pl); callWith pos f first (backTo pos (starEach (e :: es) X.env)) (backToKw pos (keywordEach [] X.env))) := by rfl) :
    PE X (.Call (.Attribute o m apos) (e :: es) [] pos) (tMethS C m sp E ta t) :=
  ⟨fun pins s σ H Q I w => PySem.W.methodCall_KW (pl := pl) (thn (ho.run pins s σ H _ I w) fun u s1 ⟨x, H1, I1, rx, a, dx, fs, ex, ea, l, q⟩ => by
    cases ex
    cases (show u = Value.ref a from rx)
    exact getmeth_ok I1 ea cl me l (PySem.W.callWith_K (first := [.ref a]) (h₀ := X.base) I.ok.mod.kin me.kp (thn (as.run pos pins s1 σ H1 _ I1 q) fun us s2 ⟨vs, H2, I2, r, q2⟩ => ⟨I2.kIn, run_fnS (us := .ref a :: us) (vs := .ref a :: vs) F rm bi (pa σ) I2 (.cons rfl r) q2⟩) st na)) ht⟩
end
/-- a method of the text, where it stands -/
structure Dm (K : PySem.W.Frag) (C : Addr) (x q : Str) (st : Stmt) (ps : List Str) (f : Addr) (fd : FuncData) : Prop where
  F : Fun K x q st f fd
  b : Binds K fd ps []
  m : PySem.W.findIn K (.ref C) x = some (some (.ref f)) ∧ PySem.W.isFn K (.ref f) = true
theorem Dm.me {K : PySem.W.Frag} {C : Addr} {x q : Str} {st : Stmt} {ps : List Str} {f : Addr} {fd : FuncData} (d : Dm K C x q st ps f fd) : Meth K C x f := ⟨d.m.1, d.m.2, d.F.kp⟩
end Fo
namespace Fo
open PySem PySem.Spec PyProof.Rows L2
/-! ### sums -/
def ind (b : Bool) : Nat := if b then 1 else 0
def sumN (l : List Int) (f : Int → Nat) : Nat := (l.map f).sum
theorem sumN_nil (f : Int → Nat) : sumN [] f = 0 := rfl
theorem sumN_cons (a : Int) (l : List Int) (f : Int → Nat) : sumN (a :: l) f = f a + sumN l f := by
  unfold sumN
  rw [List.map_cons, List.sum_cons]
theorem sumN_append (l m : List Int) (f : Int → Nat) : sumN (l ++ m) f = sumN l f + sumN m f := by
  unfold sumN
  rw [List.map_append, List.sum_append]
theorem sumN_perm {l m : List Int} (h : l.Perm m) (f : Int → Nat) : sumN l f = sumN m f := by
  induction h with
  | nil => rfl
  | cons x _ ih => rw [sumN_cons, sumN_cons, ih]
  | swap x y l => rw [sumN_cons, sumN_cons, sumN_cons, sumN_cons]; omega
  | trans _ _ h1 h2 => exact h1.trans h2
theorem sumN_congr {l : List Int} {f g : Int → Nat} (h : ∀ x ∈ l, f x = g x) : sumN l f = sumN l g := by
  unfold sumN
  rw [List.map_congr_left h]
theorem sumN_map (l : List Int) (g : Int → Int) (f : Int → Nat) : sumN (l.map g) f = sumN l (fun x => f (g x)) := by
  unfold sumN
  rw [List.map_map]
  rfl
theorem sumN_zero {l : List Int} {f : Int → Nat} (h : ∀ x ∈ l, f x = 0) : sumN l f = 0 := by
  rw [sumN_congr h]
  induction l with
  | nil => rfl
  | cons a l ih => rw [sumN_cons, ih fun x hx => h x (List.mem_cons_of_mem _ hx)]
theorem sumN_add (l : List Int) (f g : Int → Nat) : sumN l (fun x => f x + g x) = sumN l f + sumN l g := by
  induction l with
  | nil => rfl
  | cons a l ih => rw [sumN_cons, sumN_cons, sumN_cons, ih]; omega
theorem sumN_swap (l m : List Int) (f : Int → Int → Nat) : sumN l (fun i => sumN m (fun j => f i j)) = sumN m (fun j => sumN l (fun i => f i j)) := by
  induction l with
  | nil => exact (sumN_zero fun x _ => rfl).symm
  | cons a l ih =>
    rw [sumN_cons, ih, ← sumN_add]
    exact sumN_congr fun x _ => by rw [sumN_cons]
theorem filter_len (l : List Int) (p : Int → Bool) : (l.filter p).length = sumN l (fun x => ind (p x)) := by
  induction l with
  | nil => rfl
  | cons a l ih =>
    rw [sumN_cons, List.filter_cons]
    unfold ind at ih ⊢
    cases p a
    · simp only [Bool.false_eq_true, if_false]; omega
    · simp only [if_true, List.length_cons]; omega
/-! ### a list by its places -/
def g0 (s : List Int) (i : Int) : Int := s.getD i.toNat 0
theorem g0_at {s : List Int} {i : Nat} {x : Int} (h : s[i]? = some x) : g0 s (i : Int) = x := by
  unfold g0
  rw [Int.toNat_natCast, List.getD_eq_getElem?_getD, h]
  rfl
theorem by_places (s : List Int) : s = (rg s.length).map (g0 s) := by
  apply List.ext_getElem?
  intro i
  unfold rg
  rw [List.getElem?_map, List.getElem?_map]
  by_cases h : i < s.length
  · rw [List.getElem?_range h, List.getElem?_eq_getElem h]
    show some s[i] = some (g0 s (i : Int))
    rw [g0_at (List.getElem?_eq_getElem h)]
  · rw [List.getElem?_eq_none (by omega), List.getElem?_eq_none (by rw [List.length_range]; omega)]
    rfl
theorem rg_succ (n : Nat) : rg (n + 1) = rg n ++ [(n : Int)] := by
  unfold rg
  rw [List.range_succ, List.map_append]
  rfl
/-- how many of the later ones are less -/
def cntL (s : List Int) (i : Nat) : Nat := ((s.drop (i + 1)).filter (fun x => decide (x < g0 s i))).length
def invF (n : Nat) (a : Int → Int) : Nat := sumN (rg n) fun i => sumN (rg n) fun j => ind (decide (i < j) && decide (a j < a i))
def invN (s : List Int) : Nat := sumN (rg s.length) fun i => cntL s i.toNat
theorem drop_sum (n i : Nat) (f : Int → Nat) : sumN ((rg n).drop (i + 1)) f = sumN (rg n) fun j => if (i : Int) < j then f j else 0 := by
  induction n with
  | zero => rfl
  | succ n ih =>
    rw [rg_succ, sumN_append, ← ih, List.drop_append, sumN_append, rg_len]
    congr 1
    by_cases h : i + 1 ≤ n
    · rw [show i + 1 - n = 0 by omega, List.drop_zero, sumN_cons, sumN_cons, sumN_nil, sumN_nil, if_pos (by omega)]
    · rw [show i + 1 - n = (i - n) + 1 by omega, List.drop_succ_cons, List.drop_nil, sumN_cons, sumN_nil, sumN_nil, if_neg (by omega)]
theorem cnt_sum (s : List Int) (i : Nat) : cntL s i = sumN (rg s.length) fun j => ind (decide ((i : Int) < j) && decide (g0 s j < g0 s i)) := by
  unfold cntL
  rw [filter_len]
  have e : s.drop (i + 1) = ((rg s.length).drop (i + 1)).map (g0 s) := by
    rw [List.map_drop, ← by_places]
  rw [e, sumN_map, drop_sum]
  apply sumN_congr
  intro j _
  unfold ind
  by_cases h : (i : Int) < j
  · simp [h]
  · simp [h]
theorem inv_eq (s : List Int) : invN s = invF s.length (g0 s) := by
  unfold invN invF
  apply sumN_congr
  intro i hi
  have := rg_mem.mp hi
  rw [cnt_sum, Int.toNat_of_nonneg this.1]
/-! ### places of things -/
def pos (ys : List Int) (x : Int) : Int := ((ys.idxOf x : Nat) : Int)
def seatsL (xs ys : List Int) : List Int := xs.map (pos ys)
theorem pos_of {n : Nat} {ys : List Int} (o : IsOrd n ys) {j : Nat} {x : Int} (h : ys[j]? = some x) : pos ys x = (j : Int) := by
  obtain ⟨hj, e⟩ := List.getElem?_eq_some_iff.mp h
  have m : x ∈ ys := List.mem_of_getElem? h
  have hi : ys.idxOf x < ys.length := List.idxOf_lt_length_iff.mpr m
  have h2 : ys[ys.idxOf x]? = some x := by
    rw [List.getElem?_eq_getElem hi]
    exact congrArg some (List.getElem_idxOf hi)
  unfold pos
  rw [nd_ix o.nodup h2 h]
theorem pos_at {n : Nat} {ys : List Int} (o : IsOrd n ys) {x : Int} (h0 : 0 ≤ x) (h1 : x < n) : ∃ j : Nat, j < n ∧ ys[j]? = some x ∧ pos ys x = (j : Int) := by
  obtain ⟨j, hj, e⟩ := ord_at o (t := x.toNat) (by omega)
  rw [Int.toNat_of_nonneg h0] at e
  exact ⟨j, hj, e, pos_of o e⟩
theorem back_pos {n : Nat} {ys ps : List Int} (o : IsOrd n ys) (h : IsBack ys ps) {x : Int} (h0 : 0 ≤ x) (h1 : x < n) : ps[x.toNat]? = some (pos ys x) := by
  obtain ⟨j, hj, e, ep⟩ := pos_at o h0 h1
  rw [ep]
  exact h.2 j x e
theorem seats_len (xs ys : List Int) : (seatsL xs ys).length = xs.length := by
  unfold seatsL
  rw [List.length_map]
theorem seats_at {xs ys : List Int} {i : Nat} {x : Int} (h : xs[i]? = some x) : (seatsL xs ys)[i]? = some (pos ys x) := by
  unfold seatsL
  rw [List.getElem?_map, h]
  rfl
theorem seats_self {n : Nat} {ys : List Int} (o : IsOrd n ys) : seatsL ys ys = rg n := by
  apply List.ext_getElem?
  intro i
  by_cases h : i < n
  · obtain ⟨x, hx, _⟩ := ord_ix o h
    rw [seats_at hx, pos_of o hx]
    unfold rg
    rw [List.getElem?_map, List.getElem?_range h]
    rfl
  · rw [List.getElem?_eq_none (by rw [seats_len, o.len]; omega), List.getElem?_eq_none (by rw [rg_len]; omega)]
theorem seats_ord {n : Nat} {xs ys : List Int} (ox : IsOrd n xs) (oy : IsOrd n ys) : IsOrd n (seatsL xs ys) := by
  have h : (seatsL xs ys).Perm (seatsL ys ys) := List.Perm.map _ (ox.trans oy.symm)
  rw [seats_self oy] at h
  exact h
theorem g0_ord {n : Nat} {s : List Int} (o : IsOrd n s) : s = (rg n).map (g0 s) := by
  have e := by_places s
  rw [o.len] at e
  exact e
/-- inversions from the other side -/
theorem inv_turn {n : Nat} {s t : List Int} (os : IsOrd n s) (ot : IsOrd n t) (h : ∀ u ∈ rg n, g0 s (g0 t u) = u) : invN s = invN t := by
  rw [inv_eq, inv_eq, os.len, ot.len]
  unfold invF
  have p1 : ∀ f : Int → Nat, sumN (rg n) f = sumN (rg n) fun u => f (g0 t u) := fun f => by
    have e : sumN ((rg n).map (g0 t)) f = sumN (rg n) fun u => f (g0 t u) := sumN_map _ _ _
    rw [← e, ← g0_ord ot]
    exact (sumN_perm ot f).symm
  rw [p1]
  rw [sumN_congr (g := fun u => sumN (rg n) fun v => ind (decide (g0 t u < g0 t v) && decide (v < u))) (fun u hu => by
    rw [p1]
    exact sumN_congr fun v hv => by rw [h u hu, h v hv])]
  rw [sumN_swap]
  apply sumN_congr
  intro v _
  apply sumN_congr
  intro u _
  rw [Bool.and_comm]
theorem seats_turn {n : Nat} {xs ys : List Int} (ox : IsOrd n xs) (oy : IsOrd n ys) : ∀ u ∈ rg n, g0 (seatsL xs ys) (g0 (seatsL ys xs) u) = u := by
  intro u hu
  have hb := rg_mem.mp hu
  obtain ⟨y, hy, y0, y1⟩ := ord_ix oy (j := u.toNat) (by omega)
  have e1 : g0 (seatsL ys xs) u = pos xs y := by
    have := g0_at (seats_at (ys := xs) hy)
    rw [Int.toNat_of_nonneg hb.1] at this
    exact this
  obtain ⟨j, hj, ej, pj⟩ := pos_at ox y0 y1
  rw [e1, pj, g0_at (seats_at (ys := ys) ej), pos_of oy hy]
  omega
/-! ### how far two orders are -/
def farSwap (xs ys : List Int) : Int := ((invN (seatsL xs ys) : Nat) : Int)
def spotL (xs ys : List Int) : List Int := (rg xs.length).filter fun p => !decide (g0 xs p = g0 ys p)
def farSpot (xs ys : List Int) : Int := (((spotL xs ys).length : Nat) : Int)
def absI (i : Int) : Int := if i < 0 then -i else i
def gapsL (xs ys : List Int) : List Int := (rg xs.length).map fun p => absI (p - g0 (seatsL xs ys) p)
def maxL (l : List Int) : Int := l.foldr max 0
def farShift (xs ys : List Int) : Int := maxL (gapsL xs ys)
theorem maxL_of : ∀ {l : List Int} {m : Int}, (∀ x ∈ l, 0 ≤ x) → m ∈ l → (∀ x ∈ l, x ≤ m) → maxL l = m := by
  intro l m h0 hm hle
  have key : ∀ l : List Int, (∀ x ∈ l, x ≤ m) → maxL l ≤ m := by
    intro l hl
    induction l with
    | nil => exact h0 m hm
    | cons a l ih =>
      show max a (maxL l) ≤ m
      have h1 := hl a List.mem_cons_self
      have h2 := ih fun x hx => hl x (List.mem_cons_of_mem _ hx)
      omega
  have key2 : ∀ l : List Int, ∀ x ∈ l, x ≤ maxL l := by
    intro l
    induction l with
    | nil => intro x hx; exact absurd hx List.not_mem_nil
    | cons a l ih =>
      intro x hx
      show x ≤ max a (maxL l)
      rcases List.mem_cons.mp hx with rfl | hx
      · omega
      · have := ih x hx
        omega
  have := key l hle
  have := key2 l m hm
  omega
theorem gaps_nonneg (xs ys : List Int) : ∀ x ∈ gapsL xs ys, 0 ≤ x := by
  intro x hx
  obtain ⟨p, _, rfl⟩ := List.mem_map.mp hx
  unfold absI
  split <;> omega
theorem maxL_mem {l : List Int} (h0 : ∀ x ∈ l, 0 ≤ x) (hl : 0 < l.length) : maxL l ∈ l ∧ ∀ x ∈ l, x ≤ maxL l := by
  induction l with
  | nil => exact absurd hl (Nat.lt_irrefl _)
  | cons a l ih =>
    show max a (maxL l) ∈ a :: l ∧ ∀ x ∈ a :: l, x ≤ max a (maxL l)
    by_cases c : 0 < l.length
    · obtain ⟨h1, h2⟩ := ih (fun x hx => h0 x (List.mem_cons_of_mem _ hx)) c
      constructor
      · by_cases d : maxL l ≤ a
        · rw [Int.max_eq_left d]
          exact List.mem_cons_self
        · rw [Int.max_eq_right (by omega)]
          exact List.mem_cons_of_mem _ h1
      · intro x hx
        rcases List.mem_cons.mp hx with rfl | hx
        · omega
        · have := h2 x hx
          omega
    · have e : l = [] := List.eq_nil_of_length_eq_zero (by omega)
      subst e
      have := h0 a List.mem_cons_self
      have e2 : max a (maxL []) = a := by show max a 0 = a; omega
      rw [e2]
      exact ⟨List.mem_cons_self, fun x hx => by rw [List.mem_singleton.mp hx]; exact Int.le_refl _⟩
theorem farSwap_turn {n : Nat} {xs ys : List Int} (ox : IsOrd n xs) (oy : IsOrd n ys) : farSwap ys xs = farSwap xs ys := by
  unfold farSwap
  rw [inv_turn (seats_ord ox oy) (seats_ord oy ox) (seats_turn ox oy)]
theorem inv_rg (n : Nat) : invN (rg n) = 0 := by
  rw [inv_eq]
  unfold invF
  apply sumN_zero
  intro i hi
  apply sumN_zero
  intro j hj
  rw [rg_len] at hi hj
  have hi2 := rg_mem.mp hi
  have hj2 := rg_mem.mp hj
  have e : ∀ k : Int, k ∈ rg n → g0 (rg n) k = k := fun k hk => by
    have := rg_mem.mp hk
    have z : (rg n)[k.toNat]? = some k := by
      unfold rg
      rw [List.getElem?_map, List.getElem?_range (by omega)]
      show some ((k.toNat : Nat) : Int) = some k
      rw [Int.toNat_of_nonneg this.1]
    have z2 := g0_at z
    rw [Int.toNat_of_nonneg this.1] at z2
    exact z2
  rw [e i hi, e j hj]
  unfold ind
  by_cases c : i < j
  · have d : ¬ j < i := by omega
    simp [c, d]
  · simp [c]
theorem farSwap_self {n : Nat} {xs : List Int} (ox : IsOrd n xs) : farSwap xs xs = 0 := by
  unfold farSwap
  rw [seats_self ox, inv_rg]
  rfl
theorem farSpot_turn {xs ys : List Int} (h : xs.length = ys.length) : farSpot ys xs = farSpot xs ys := by
  unfold farSpot spotL
  rw [h]
  congr 3
  funext p
  congr 1
  by_cases c : g0 ys p = g0 xs p
  · rw [decide_eq_true c, decide_eq_true c.symm]
  · rw [decide_eq_false c, decide_eq_false fun e => c e.symm]
theorem farSpot_self (xs : List Int) : farSpot xs xs = 0 := by
  unfold farSpot spotL
  have e : ((rg xs.length).filter fun p => !decide (g0 xs p = g0 xs p)) = [] := by
    rw [List.filter_eq_nil_iff]
    intro a _
    simp
  rw [e]
  rfl
theorem gaps_len (xs ys : List Int) : (gapsL xs ys).length = xs.length := by
  unfold gapsL
  rw [List.length_map, rg_len]
theorem gaps_sub {n : Nat} {xs ys : List Int} (ox : IsOrd n xs) (oy : IsOrd n ys) : ∀ g ∈ gapsL ys xs, g ∈ gapsL xs ys := by
  intro g hg
  obtain ⟨u, hu, rfl⟩ := List.mem_map.mp hg
  rw [oy.len] at hu
  have hb := (seats_ord oy ox).mem (x := g0 (seatsL ys xs) u) (by
    have e := g0_ord (seats_ord oy ox)
    rw [e]
    exact List.mem_map.mpr ⟨u, hu, by rw [← e]⟩)
  refine List.mem_map.mpr ⟨g0 (seatsL ys xs) u, by rw [ox.len]; exact rg_mem.mpr hb, ?_⟩
  rw [seats_turn ox oy u hu]
  unfold absI
  split <;> split <;> omega
theorem farShift_turn {n : Nat} {xs ys : List Int} (ox : IsOrd n xs) (oy : IsOrd n ys) (hn : 1 ≤ n) : farShift ys xs = farShift xs ys := by
  unfold farShift
  obtain ⟨h1, h2⟩ := maxL_mem (gaps_nonneg xs ys) (by rw [gaps_len, ox.len]; exact hn)
  exact maxL_of (gaps_nonneg ys xs) (gaps_sub oy ox _ h1) fun x hx => h2 x (gaps_sub ox oy x hx)
theorem farShift_self {n : Nat} {xs : List Int} (ox : IsOrd n xs) (hn : 1 ≤ n) : farShift xs xs = 0 := by
  unfold farShift
  have z : ∀ g ∈ gapsL xs xs, g = 0 := by
    intro g hg
    obtain ⟨u, hu, rfl⟩ := List.mem_map.mp hg
    rw [ox.len] at hu
    have hb := rg_mem.mp hu
    rw [seats_self ox]
    have e : (rg n)[u.toNat]? = some u := by
      unfold rg
      rw [List.getElem?_map, List.getElem?_range (by omega)]
      show some ((u.toNat : Nat) : Int) = some u
      rw [Int.toNat_of_nonneg hb.1]
    have z2 := g0_at e
    rw [Int.toNat_of_nonneg hb.1] at z2
    rw [z2]
    unfold absI
    split <;> omega
  obtain ⟨h1, _⟩ := maxL_mem (gaps_nonneg xs xs) (by rw [gaps_len, ox.len]; exact hn)
  exact z _ h1
end Fo
namespace Fo
open PySem PySem.Spec PyProof.Rows L2
/-! ### turned pairs, one after the other -/
def invR : List Int → Nat
  | [] => 0
  | x :: r => (r.filter (fun z => decide (z < x))).length + invR r
theorem rg_cons (n : Nat) : rg (n + 1) = 0 :: (rg n).map (· + 1) := by
  unfold rg
  rw [List.range_succ_eq_map, List.map_cons, List.map_map, List.map_map]
  rfl
theorem inv_NR : ∀ s : List Int, invN s = invR s
  | [] => rfl
  | x :: r => by
    have ih := inv_NR r
    unfold invN at ih ⊢
    rw [List.length_cons, rg_cons, sumN_cons, sumN_map]
    show cntL (x :: r) (0 : Int).toNat + _ = (r.filter (fun z => decide (z < x))).length + invR r
    rw [← ih]
    have e1 : cntL (x :: r) (0 : Int).toNat = (r.filter (fun z => decide (z < x))).length := rfl
    rw [e1]
    congr 1
    apply sumN_congr
    intro i hi
    have hb := rg_mem.mp hi
    obtain ⟨j, rfl⟩ : ∃ j : Nat, i = (j : Int) := ⟨i.toNat, by omega⟩
    rw [show ((j : Int) + 1).toNat = j + 1 by omega, Int.toNat_natCast]
    unfold cntL
    have e2 : g0 (x :: r) ((j + 1 : Nat) : Int) = g0 r (j : Int) := by
      unfold g0
      rw [Int.toNat_natCast, Int.toNat_natCast]
      rfl
    rw [e2]
    rfl
theorem filt_perm {a b : List Int} (h : a.Perm b) (p : Int → Bool) : (a.filter p).length = (b.filter p).length := (h.filter p).length_eq
theorem invR_at : ∀ (A : List Int) (a b : Int) (B : List Int), b < a → invR (A ++ a :: b :: B) = invR (A ++ b :: a :: B) + 1
  | [], a, b, B, h => by
    show ((b :: B).filter (fun z => decide (z < a))).length + ((B.filter (fun z => decide (z < b))).length + invR B) = ((a :: B).filter (fun z => decide (z < b))).length + ((B.filter (fun z => decide (z < a))).length + invR B) + 1
    rw [List.filter_cons, List.filter_cons, decide_eq_true h, decide_eq_false (show ¬ a < b by omega), if_pos rfl, if_neg (by decide), List.length_cons]
    omega
  | x :: A, a, b, B, h => by
    have ih := invR_at A a b B h
    show ((A ++ a :: b :: B).filter (fun z => decide (z < x))).length + invR (A ++ a :: b :: B) = ((A ++ b :: a :: B).filter (fun z => decide (z < x))).length + invR (A ++ b :: a :: B) + 1
    rw [ih, filt_perm (List.Perm.append_left A (List.Perm.swap b a B))]
    omega
theorem invR_sw {s : List Int} {p : Nat} {a b : Int} (ha : s[p]? = some a) (hb : s[p + 1]? = some b) (h : b < a) : invR s = invR (sw s p) + 1 := by
  have hl := (List.getElem?_eq_some_iff.mp hb).1
  obtain ⟨A, x, y, B, rfl, rfl⟩ := split2 hl
  have ex : x = a := by
    rw [List.getElem?_append_right (Nat.le_refl _), Nat.sub_self] at ha
    exact Option.some.inj ha
  have ey : y = b := by
    rw [List.getElem?_append_right (by omega), show A.length + 1 - A.length = 1 by omega] at hb
    exact Option.some.inj hb
  subst ex ey
  rw [sw_at, invR_at A x y B h]
def firstDesc : List Int → Option Nat
  | [] => none
  | [_] => none
  | x :: y :: r => if y < x then some 0 else (firstDesc (y :: r)).map (· + 1)
theorem fd_cons (x y : Int) (r : List Int) : firstDesc (x :: y :: r) = if y < x then some 0 else (firstDesc (y :: r)).map (· + 1) := by rw [firstDesc]
theorem fd_some : ∀ {s : List Int} {p : Nat} {a b : Int}, (∀ (j : Nat) (u v : Int), j < p → s[j]? = some u → s[j + 1]? = some v → u ≤ v) → s[p]? = some a → s[p + 1]? = some b → b < a → firstDesc s = some p
  | [], p, a, b, _, ha, _, _ => by simp at ha
  | [_], p, a, b, _, _, hb, _ => by simp at hb
  | x :: y :: r, 0, a, b, _, ha, hb, h => by
    have e1 : x = a := Option.some.inj ha
    have e2 : y = b := Option.some.inj hb
    rw [fd_cons, if_pos (by omega)]
  | x :: y :: r, p + 1, a, b, hl, ha, hb, h => by
    have h0 : x ≤ y := hl 0 x y (by omega) rfl rfl
    have ih := fd_some (s := y :: r) (p := p) (a := a) (b := b) (fun j u v hj hu hv => hl (j + 1) u v (by omega) hu hv) ha hb h
    rw [fd_cons, if_neg (by omega), ih]
    rfl
theorem fd_none : ∀ {s : List Int}, (∀ (j : Nat) (u v : Int), s[j]? = some u → s[j + 1]? = some v → u ≤ v) → firstDesc s = none
  | [], _ => rfl
  | [_], _ => rfl
  | x :: y :: r, hl => by
    have h0 : x ≤ y := hl 0 x y rfl rfl
    have ih := fd_none (s := y :: r) (fun j u v hu hv => hl (j + 1) u v hu hv)
    rw [fd_cons, if_neg (by omega), ih]
    rfl
theorem fd_at : ∀ {s : List Int} {p : Nat}, firstDesc s = some p → ∃ a b, s[p]? = some a ∧ s[p + 1]? = some b ∧ b < a ∧ ∀ (j : Nat) (u v : Int), j < p → s[j]? = some u → s[j + 1]? = some v → u ≤ v
  | [], p, h => by cases h
  | [_], p, h => by cases h
  | x :: y :: r, p, h => by
    rw [fd_cons] at h
    by_cases c : y < x
    · rw [if_pos c] at h
      cases h
      exact ⟨x, y, rfl, rfl, c, fun j u v hj => absurd hj (Nat.not_lt_zero _)⟩
    · rw [if_neg c] at h
      cases e : firstDesc (y :: r) with
      | none => rw [e] at h; cases h
      | some q =>
        rw [e] at h
        have ep : q + 1 = p := Option.some.inj h
        subst ep
        obtain ⟨a, b, ha, hb, hlt, hl⟩ := fd_at e
        refine ⟨a, b, ha, hb, hlt, fun j u v hj hu hv => ?_⟩
        cases j with
        | zero =>
          have e1 : x = u := Option.some.inj hu
          have e2 : y = v := Option.some.inj hv
          omega
        | succ j => exact hl j u v (by omega) hu hv
theorem fd_sorted : ∀ {s : List Int}, firstDesc s = none → s.Pairwise (· ≤ ·)
  | [], _ => List.Pairwise.nil
  | [_], _ => List.pairwise_singleton _ _
  | x :: y :: r, h => by
    rw [fd_cons] at h
    by_cases c : y < x
    · rw [if_pos c] at h; cases h
    · rw [if_neg c] at h
      have e : firstDesc (y :: r) = none := by
        cases e : firstDesc (y :: r) with
        | none => rfl
        | some q => rw [e] at h; cases h
      have ih := fd_sorted e
      refine List.Pairwise.cons (fun z hz => ?_) ih
      rcases List.mem_cons.mp hz with rfl | hz
      · omega
      · have := (List.pairwise_cons.mp ih).1 z hz
        omega
theorem invR_sorted : ∀ {s : List Int}, s.Pairwise (· ≤ ·) → invR s = 0
  | [], _ => rfl
  | x :: r, h => by
    obtain ⟨h1, h2⟩ := List.pairwise_cons.mp h
    show (r.filter (fun z => decide (z < x))).length + invR r = 0
    rw [invR_sorted h2, List.filter_eq_nil_iff.mpr (fun z hz => by
      have := h1 z hz
      simp
      omega)]
    rfl
theorem fd_pos {s : List Int} (h : 0 < invR s) : ∃ p, firstDesc s = some p := by
  cases e : firstDesc s with
  | none => rw [invR_sorted (fd_sorted e)] at h; omega
  | some p => exact ⟨p, rfl⟩
/-- the first of the shortest walks, of at most m places -/
def gw : Nat → List Int → List Int
  | 0, _ => []
  | m + 1, s => match firstDesc s with
    | none => []
    | some p => (p : Int) :: gw m (sw s p)
abbrev walkL (s : List Int) : List Int := gw (invR s) s
theorem walk_none {s : List Int} (h : firstDesc s = none) : walkL s = [] := by
  unfold walkL
  rw [invR_sorted (fd_sorted h)]
  rfl
theorem walk_some {s : List Int} {p : Nat} (h : firstDesc s = some p) : walkL s = (p : Int) :: walkL (sw s p) := by
  obtain ⟨a, b, ha, hb, hlt, _⟩ := fd_at h
  unfold walkL
  rw [invR_sw ha hb hlt, gw, h]
theorem walk_len : ∀ (m : Nat) (s : List Int), invR s = m → (walkL s).length = m
  | 0, s, h => by
    unfold walkL
    rw [h]
    rfl
  | m + 1, s, h => by
    obtain ⟨p, hp⟩ := fd_pos (s := s) (by omega)
    obtain ⟨a, b, ha, hb, hlt, _⟩ := fd_at hp
    rw [walk_some hp, List.length_cons, walk_len m (sw s p) (by have := invR_sw ha hb hlt; omega)]
theorem invR_len (s : List Int) : invR s ≤ s.length * s.length := by
  induction s with
  | nil => exact Nat.le_refl _
  | cons x r ih =>
    show (r.filter _).length + invR r ≤ (r.length + 1) * (r.length + 1)
    have h1 : (r.filter (fun z => decide (z < x))).length ≤ r.length := List.length_filter_le _ _
    have h2 : (r.length + 1) * (r.length + 1) = r.length * r.length + r.length + r.length + 1 := by
      rw [Nat.add_mul, Nat.mul_add]
      omega
    omega
theorem seats_sw {xs ys : List Int} {p : Nat} (h : p + 1 < xs.length) : seatsL (sw xs p) ys = sw (seatsL xs ys) p := by
  obtain ⟨A, a, b, B, rfl, rfl⟩ := split2 h
  rw [sw_at]
  unfold seatsL
  rw [List.map_append, List.map_cons, List.map_cons, List.map_append, List.map_cons, List.map_cons]
  have e := sw_at (A.map (pos ys)) (pos ys a) (pos ys b) (B.map (pos ys))
  rw [List.length_map] at e
  exact e.symm
theorem cut_sw {xs : List Int} {p : Nat} {a b : Int} (ha : xs[p]? = some a) (hb : xs[p + 1]? = some b) : xs.take p ++ [b, a] ++ xs.drop (p + 2) = sw xs p := by
  have hl := (List.getElem?_eq_some_iff.mp hb).1
  obtain ⟨A, x, y, B, rfl, rfl⟩ := split2 hl
  have ex : x = a := by
    rw [List.getElem?_append_right (Nat.le_refl _), Nat.sub_self] at ha
    exact Option.some.inj ha
  have ey : y = b := by
    rw [List.getElem?_append_right (by omega), show A.length + 1 - A.length = 1 by omega] at hb
    exact Option.some.inj hb
  subst ex ey
  rw [sw_at, List.take_left, List.drop_append, List.drop_of_length_le (by omega), show A.length + 2 - A.length = 2 by omega]
  simp
theorem filt_map (l : List Int) (f : Int → Int) (p : Int → Bool) : ((l.map f).filter p).length = (l.filter (fun x => p (f x))).length := by
  rw [List.filter_map, List.length_map]
  rfl
end Fo
namespace Fo
open PySem PySem.Spec PyProof.Rows L2
theorem pos_ord {n : Nat} {xs : List Int} (o : IsOrd n xs) : IsOrd n ((rg n).map (pos xs)) := by
  have h : ((rg n).map (pos xs)).Perm (seatsL xs xs) := List.Perm.map _ o.symm
  rw [seats_self o] at h
  exact h
theorem pos_in {n : Nat} {xs : List Int} (o : IsOrd n xs) {t : Int} (h : t ∈ rg n) : pos xs t ∈ rg n := by
  have := (pos_ord o).mem (List.mem_map.mpr ⟨t, h, rfl⟩)
  exact rg_mem.mpr this
theorem pos_inj {n : Nat} {xs : List Int} (o : IsOrd n xs) {t u : Int} (ht : t ∈ rg n) (hu : u ∈ rg n) (e : pos xs t = pos xs u) : t = u := by
  have h1 := rg_mem.mp ht
  have h2 := rg_mem.mp hu
  obtain ⟨i, _, ei, pi⟩ := pos_at o h1.1 h1.2
  obtain ⟨j, _, ej, pj⟩ := pos_at o h2.1 h2.2
  have : i = j := by omega
  subst this
  exact Option.some.inj (ei.symm.trans ej)
/-- a sum over the places is a sum over the things -/
theorem sum_pos {n : Nat} {xs : List Int} (o : IsOrd n xs) (f : Int → Nat) : sumN (rg n) f = sumN (rg n) fun t => f (pos xs t) := by
  have e : sumN ((rg n).map (pos xs)) f = sumN (rg n) fun t => f (pos xs t) := sumN_map _ _ _
  rw [← e]
  exact (sumN_perm (pos_ord o) f).symm
theorem sum_g0 {n : Nat} {xs : List Int} (o : IsOrd n xs) (f : Int → Nat) : sumN (rg n) f = sumN (rg n) fun p => f (g0 xs p) := by
  have e : sumN ((rg n).map (g0 xs)) f = sumN (rg n) fun t => f (g0 xs t) := sumN_map _ _ _
  rw [← e, ← g0_ord o]
  exact (sumN_perm o f).symm
theorem g0_pos {n : Nat} {xs : List Int} (o : IsOrd n xs) {t : Int} (h : t ∈ rg n) : g0 xs (pos xs t) = t := by
  have h1 := rg_mem.mp h
  obtain ⟨j, _, ej, pj⟩ := pos_at o h1.1 h1.2
  rw [pj]
  exact g0_at ej
theorem pos_g0 {n : Nat} {xs : List Int} (o : IsOrd n xs) {p : Int} (h : p ∈ rg n) : pos xs (g0 xs p) = p := by
  have h1 := rg_mem.mp h
  obtain ⟨x, hx, _⟩ := ord_ix o (j := p.toNat) (by omega)
  have e := g0_at hx
  rw [Int.toNat_of_nonneg h1.1] at e
  rw [e, pos_of o hx]
  omega
theorem g0_in {n : Nat} {xs : List Int} (o : IsOrd n xs) {p : Int} (h : p ∈ rg n) : g0 xs p ∈ rg n := by
  have h1 := rg_mem.mp h
  obtain ⟨x, hx, x0, x1⟩ := ord_ix o (j := p.toNat) (by omega)
  have e := g0_at hx
  rw [Int.toNat_of_nonneg h1.1] at e
  rw [e]
  exact rg_mem.mpr ⟨x0, x1⟩
end Fo
namespace Fo
open PySem PySem.Spec PyProof.Rows L2
/-! ### all orders of few things -/
def extO (n : Nat) (o : List Int) : List (List Int) := ((rg n).filter fun t => !decide (t ∈ o)).map fun t => o ++ [t]
def allK (n : Nat) : Nat → List (List Int)
  | 0 => [[]]
  | k + 1 => (allK n k).flatMap (extO n)
theorem allK_row {n : Nat} : ∀ (k : Nat) (r : List Int), r ∈ allK n k → r.length = k ∧ r.Nodup ∧ ∀ x ∈ r, x ∈ rg n
  | 0, r, h => by
    rw [List.mem_singleton.mp h]
    exact ⟨rfl, List.nodup_nil, fun x hx => absurd hx List.not_mem_nil⟩
  | k + 1, r, h => by
    obtain ⟨o, ho, hr⟩ := List.mem_flatMap.mp h
    obtain ⟨h1, h2, h3⟩ := allK_row k o ho
    obtain ⟨t, ht, rfl⟩ := List.mem_map.mp hr
    obtain ⟨ht1, ht2⟩ := List.mem_filter.mp ht
    have hto : t ∉ o := by simpa using ht2
    refine ⟨by rw [List.length_append, h1]; rfl, ?_, fun x hx => ?_⟩
    · rw [List.nodup_append]
      refine ⟨h2, List.nodup_cons.mpr ⟨List.not_mem_nil, List.nodup_nil⟩, fun x hx y hy e => ?_⟩
      rw [List.mem_singleton.mp hy] at e
      exact hto (by rw [← e]; exact hx)
    · rcases List.mem_append.mp hx with hx | hx
      · exact h3 x hx
      · rw [List.mem_singleton.mp hx]
        exact ht1
theorem extO_len (n : Nat) (o : List Int) : (extO n o).length ≤ n := by
  unfold extO
  rw [List.length_map]
  have := List.length_filter_le (fun t => !decide (t ∈ o)) (rg n)
  rw [rg_len] at this
  exact this
theorem flat_len (n : Nat) : ∀ l : List (List Int), (l.flatMap (extO n)).length ≤ l.length * n
  | [] => Nat.zero_le _
  | o :: l => by
    rw [List.flatMap_cons, List.length_append, List.length_cons, Nat.add_mul, Nat.one_mul]
    have := flat_len n l
    have := extO_len n o
    omega
theorem allK_len {n : Nat} (hn : n ≤ 6) : ∀ k, k ≤ n → (allK n k).length ≤ 6 ^ k
  | 0, _ => Nat.le_refl _
  | k + 1, hk => by
    have ih := allK_len hn k (by omega)
    have h1 : (allK n (k + 1)).length ≤ (allK n k).length * n := flat_len n (allK n k)
    have h2 : (allK n k).length * n ≤ 6 ^ k * 6 := Nat.mul_le_mul ih hn
    rw [Nat.pow_succ]
    omega
theorem pow6 {k : Nat} (h : k ≤ 6) : 6 ^ k ≤ 46656 := by
  have : 6 ^ k ≤ 6 ^ 6 := Nat.pow_le_pow_right (by decide) h
  exact this
theorem nodup_count : ∀ {l : List Int}, l.Nodup → ∀ a, l.count a = if a ∈ l then 1 else 0
  | [], _, a => by simp
  | b :: l, h, a => by
    obtain ⟨h1, h2⟩ := List.nodup_cons.mp h
    have ih := nodup_count h2 a
    rw [List.count_cons, ih]
    by_cases c : b = a
    · subst c
      simp [h1]
    · have c2 : ¬ a = b := fun e => c e.symm
      simp [c, c2]
theorem nodup_ord {n : Nat} {s : List Int} (hl : s.length = n) (hn : s.Nodup) (hb : ∀ x ∈ s, x ∈ rg n) : IsOrd n s := by
  unfold IsOrd
  rw [List.perm_iff_count]
  intro a
  rw [nodup_count hn, nodup_count (rg_nodup n)]
  by_cases c : a ∈ s
  · rw [if_pos c, if_pos (hb a c)]
  · rw [if_neg c]
    by_cases d : a ∈ rg n
    · exfalso
      have := nodup_len (l := a :: s) (m := rg n) (List.nodup_cons.mpr ⟨c, hn⟩) fun x hx => by
        rcases List.mem_cons.mp hx with rfl | hx
        · exact d
        · exact hb x hx
      rw [List.length_cons, rg_len] at this
      omega
    · rw [if_neg d]
theorem all_ord {n : Nat} {r : List Int} (h : r ∈ allK n n) : IsOrd n r := by
  obtain ⟨h1, h2, h3⟩ := allK_row n r h
  exact nodup_ord h1 h2 h3
theorem inV_int (t : Int) : ∀ row : List Int, inV (.int t) (row.map V.int) = decide (t ∈ row)
  | [] => rfl
  | a :: r => by
    have ih := inV_int t r
    unfold inV at ih ⊢
    rw [List.map_cons, List.any_cons, ih, eqV_int]
    by_cases c : a = t
    · subst c
      simp
    · have c2 : ¬ t = a := fun e => c e.symm
      simp [c, c2]
theorem ext_more {n : Nat} {o : List Int} (j : Nat) : ((rg (j + 1)).filter fun t => !decide (t ∈ o)).map (fun t => o ++ [t]) = (((rg j).filter fun t => !decide (t ∈ o)).map fun t => o ++ [t]) ++ (if (j : Int) ∈ o then [] else [o ++ [(j : Int)]]) := by
  rw [rg_succ, List.filter_append, List.map_append, List.filter_cons]
  congr 1
  by_cases c : (j : Int) ∈ o
  · rw [decide_eq_true c, if_pos c]
    rfl
  · rw [decide_eq_false c, if_neg c]
    rfl
/-! ### comprehensions with two fors: a list, then a range -/
theorem lc2_list {K : PySem.W.Frag} {a : Addr} {xs : List V} {g : TG} {tt : TT} {wi1 : TI} {g1 : TG} {tt1 : TT} {te : TE} {vs vs1 : List Nat} {σ : L2.St} {H1 : Hp} {D : Addr} {Qd : Hp → Prop} (Pv : Nat → Hp → Prop) (h0 : Pv 0 (upd H1 D (.lst []))) (hl : ∀ i H, i ≤ xs.length → Pv i H → SqL K H a xs)
    (hs : ∀ i x H, xs[i]? = some x → Pv i H → g x (wipe σ vs) H fun σ2 H2 => wipe σ2 vs = wipe σ vs ∧ tt σ2 H2 fun b H3 =>
      if b = true then wi1 σ2 H3 fun J1 H4 => ∃ W1 : Nat → Nat → Hp → Prop, (∃ m, W1 0 m H4) ∧ ∀ j k H, W1 j k H →
        (J1.stop j H ∧ Pv (i + 1) H) ∨ (J1.go j H ∧ ∃ Nx1 : Hp → Prop, (∀ H', Nx1 H' → ∃ k', k' < k ∧ W1 (j + 1) k' H') ∧ ∀ x H', J1.yld j H x H' → g1 x (wipe σ2 vs1) H' fun σ3 H5 => wipe σ3 vs1 = wipe σ2 vs1 ∧ tt1 σ3 H5 fun b H6 =>
          if b = true then te σ3 H6 fun y H7 => ∃ acc, H7 D = some (.lst acc) ∧ acc.length < sizeLine ∧ Nx1 (upd H7 D (.lst (acc ++ [y]))) else Nx1 H6)
      else Pv (i + 1) H3) (hd : ∀ H, Pv xs.length H → Qd H) :
    ∃ W : Nat → Nat → Hp → Prop, (∃ m, W 0 m (upd H1 D (.lst []))) ∧ ∀ i m H, W i m H →
      ((Itl K a).stop i H ∧ Qd H) ∨ ((Itl K a).go i H ∧ ∃ Nx : Hp → Prop, (∀ H', Nx H' → ∃ m', m' < m ∧ W (i + 1) m' H') ∧ ∀ x H', (Itl K a).yld i H x H' → g x (wipe σ vs) H' fun σ2 H2 => wipe σ2 vs = wipe σ vs ∧ tt σ2 H2 fun b H3 =>
        if b = true then wi1 σ2 H3 fun J1 H4 => ∃ W1 : Nat → Nat → Hp → Prop, (∃ m, W1 0 m H4) ∧ ∀ j k H, W1 j k H →
          (J1.stop j H ∧ Nx H) ∨ (J1.go j H ∧ ∃ Nx1 : Hp → Prop, (∀ H', Nx1 H' → ∃ k', k' < k ∧ W1 (j + 1) k' H') ∧ ∀ x H', J1.yld j H x H' → g1 x (wipe σ2 vs1) H' fun σ3 H5 => wipe σ3 vs1 = wipe σ2 vs1 ∧ tt1 σ3 H5 fun b H6 =>
            if b = true then te σ3 H6 fun y H7 => ∃ acc, H7 D = some (.lst acc) ∧ acc.length < sizeLine ∧ Nx1 (upd H7 D (.lst (acc ++ [y]))) else Nx1 H6)
        else Nx H3) := by
  refine ⟨fun i m H => m = xs.length - i ∧ i ≤ xs.length ∧ Pv i H, ⟨xs.length, by simp, Nat.zero_le _, h0⟩, ?_⟩
  rintro i m H ⟨rfl, hi, p⟩
  have q := hl i H hi p
  by_cases hlt : i < xs.length
  · refine .inr ⟨⟨xs, xs[i], q, by simp [hlt]⟩, Pv (i + 1), fun H' p' => ⟨xs.length - (i + 1), by omega, rfl, hlt, p'⟩, fun x H' y => ?_⟩
    obtain ⟨e, y⟩ := y
    subst e
    exact hs i x _ (y _ q) p
  · have e : i = xs.length := by omega
    subst e
    exact .inl ⟨⟨xs, q, Nat.le_refl _⟩, hd H p⟩
theorem in_range {lo : Int} {n : Nat} {g1 : TG} {tt1 : TT} {te : TE} {vs1 : List Nat} {σ2 : L2.St} {H4 : Hp} {D : Addr} {Nx : Hp → Prop} (Pw : Nat → Hp → Prop) (h0 : Pw 0 H4)
    (hs : ∀ j H, j < n → Pw j H → g1 (.int (lo + j)) (wipe σ2 vs1) H fun σ3 H5 => wipe σ3 vs1 = wipe σ2 vs1 ∧ tt1 σ3 H5 fun b H6 =>
      if b = true then te σ3 H6 fun y H7 => ∃ acc, H7 D = some (.lst acc) ∧ acc.length < sizeLine ∧ Pw (j + 1) (upd H7 D (.lst (acc ++ [y]))) else Pw (j + 1) H6) (hd : ∀ H, Pw n H → Nx H) :
    ∃ W1 : Nat → Nat → Hp → Prop, (∃ m, W1 0 m H4) ∧ ∀ j k H, W1 j k H →
      ((Itr lo n).stop j H ∧ Nx H) ∨ ((Itr lo n).go j H ∧ ∃ Nx1 : Hp → Prop, (∀ H', Nx1 H' → ∃ k', k' < k ∧ W1 (j + 1) k' H') ∧ ∀ x H', (Itr lo n).yld j H x H' → g1 x (wipe σ2 vs1) H' fun σ3 H5 => wipe σ3 vs1 = wipe σ2 vs1 ∧ tt1 σ3 H5 fun b H6 =>
        if b = true then te σ3 H6 fun y H7 => ∃ acc, H7 D = some (.lst acc) ∧ acc.length < sizeLine ∧ Nx1 (upd H7 D (.lst (acc ++ [y]))) else Nx1 H6) := by
  refine ⟨fun j m H => m = n - j ∧ j ≤ n ∧ Pw j H, ⟨n, by simp, Nat.zero_le _, h0⟩, ?_⟩
  rintro j m H ⟨rfl, hi, p⟩
  by_cases hlt : j < n
  · refine .inr ⟨hlt, Pw (j + 1), fun H' p' => ⟨n - (j + 1), by omega, rfl, hlt, p'⟩, fun x H' y => ?_⟩
    obtain ⟨e, y⟩ := y
    subst e y
    exact hs j _ hlt p
  · have e : j = n := by omega
    subst e
    exact .inl ⟨Nat.le_refl _, hd H p⟩
end Fo
namespace Fo
open PySem PySem.Spec PyProof.Rows L2
def spWhole : Sp := fun vs H Q _ => ∃ i : Int, vs = [.int i] ∧ Q (.bl true) H
section
variable {P : Program} {w : World} {K : PySem.W.Frag} {mg : Str → Option Value} {base : Heap}
theorem scWhole : FnScope ["thing"] ["thing"] (defScope s_is_whole) := ⟨rfl, rfl, rfl, by decide +kernel, rfl, by decide +kernel, by decide +kernel⟩
theorem ok_whole {f : Addr} {fd : FuncData} {k : Nat} (T : Df K mg "is_whole" s_is_whole ["thing"] f fd) (B : Bi mg) : FnOk P w K mg base CX0 (k + 1) f fd ["thing"] spWhole := by
  refine T.F.ok scWhole (fun vs H Q E h => ?_) (fun cdv A outer s H vs Q E hr h => ?_)
  · obtain ⟨i, rfl, _⟩ := h
    rfl
  · obtain ⟨i, rfl, q⟩ := h
    refine ⟨_, pss_one (ps_ret (pe_and (pe_callB call_isi (by rfl) B.isinstance (by decide +kernel) (pa_cons (pv 0) (pa_cons (pe_bltn (v := .ty "int") (by rfl) B.int (by decide +kernel) rfl) pa_nil)))
      (pe_one (pe_not (pe_callB call_isi (by rfl) B.isinstance (by decide +kernel) (pa_cons (pv 0) (pa_cons (pe_bltn (v := .ty "bool") (by rfl) B.bool (by decide +kernel) rfl) pa_nil))))))), ?_⟩
    refine ⟨_, rfl, _, _, _, _, true, rfl, .ty _, .base (.int _), kit_ty (by decide +kernel), true, rfl, iteT ?_⟩
    exact ⟨_, rfl, _, _, _, _, false, rfl, .ty _, .base (.int _), kit_ty (by decide +kernel), false, rfl, q⟩
end
end Fo
namespace Fo
open PySem PySem.Spec PyProof.Rows L2
/-! ### whole numbers, orders -/
def spIsOrd : Sp := fun vs H Q _ => ∃ (a : Addr) (n : Nat) (ns : List Int), vs = [.ref a] ∧ H a = some (.lst (ns.map V.int)) ∧ IsOrd n ns ∧ 1 ≤ n ∧ n ≤ 12 ∧ ∀ H', Same H H' → Q (.bl true) H'
def spCheck : Sp := fun vs H Q _ => ∃ (a : Addr) (n : Nat) (ns : List Int), vs = [.ref a] ∧ H a = some (.lst (ns.map V.int)) ∧ IsOrd n ns ∧ 1 ≤ n ∧ n ≤ 12 ∧ ∀ H', Same H H' → Q .non H'
section
variable {P : Program} {w : World} {K : PySem.W.Frag} {mg : Str → Option Value} {base : Heap}
theorem scIsOrd : FnScope ["thing", "number"] ["thing"] (defScope s_is_order) := ⟨rfl, rfl, rfl, by decide +kernel, rfl, by decide +kernel, by decide +kernel⟩
theorem all_true (n : Nat) : (List.replicate n true).all id = true := by simp
set_option maxHeartbeats 2000000 in
theorem ok_is_order {f fW : Addr} {fd fdW : FuncData} {k : Nat} {t : Tok} (T : Df K mg "is_order" s_is_order ["thing"] f fd) (TW : Df K mg "is_whole" s_is_whole ["thing"] fW fdW) (B : Bi mg) (mM : mg "MOST_THINGS" = some (.int 12 t)) : FnOk P w K mg base CX0 (k + 2) f fd ["thing"] spIsOrd := by
  have GW : FnOk P w K mg base CX0 (k + 1) fW fdW ["thing"] spWhole := ok_whole TW B
  refine T.F.ok scIsOrd (fun vs H Q E h => ?_) (fun cdv A outer s H vs Q E hr h => ?_)
  · obtain ⟨a, n, ns, rfl, _⟩ := h
    rfl
  · obtain ⟨a, n, ns, rfl, hl, ho, hn1, hn2, q⟩ := h
    have hlm : (ns.map V.int).length = n := by rw [List.length_map, ho.len]
    refine ⟨_, pss_cons (ps_if (PW.pt (pw_or (pt_not (pt_val (pe_callB call_isi (by rfl) B.isinstance (by decide +kernel) (pa_cons (pv 0) (pa_cons (pe_bltn (v := .ty "list") (by rfl) B.list (by decide +kernel) rfl) pa_nil)))))
        (pw_or (pt_cmpR op_lt (pe_callB call_len_seq (by rfl) B.len PySem.boot_len (pa_cons (pv 0) pa_nil)) pe_int (nomark _)) (pw_or1 (pt_cmpR op_gt (pe_callB call_len_seq (by rfl) B.len PySem.boot_len (pa_cons (pv 0) pa_nil)) (pe_glob (v := .int 12) (by rfl) mM ⟨_, rfl⟩) (nomark _))))))
        (pss_one (ps_ret pe_bl)) pss_nil)
      (pss_cons (ps_if (pt_not (pt_val (pe_callB (cr_all rfl) (by rfl) B.all (by decide +kernel) (pa_cons (pe_lc (own := [("number", 1)]) (g := gName 1) (tt := tYes) (te := tCall spWhole [] E0 (tCons (tVar 1) tNil)) rfl scIsOrd.nd (pi_list (pv 0)) (blkOk_by (N := ["thing", "number"]) (sc := defScope s_is_order) (by decide +kernel)) (fun _ _ _ _ _ => pg_name (i := 1) scIsOrd.nd rfl (.inl rfl)) (fun _ _ _ _ _ => pts_nil)
          (fun _ _ _ _ _ => pe_call GW hr (by rfl) TW.g TW.F.kp TW.b .nil pass0 (pa_cons (pv 1) pa_nil))) pa_nil)))) (pss_one (ps_ret pe_bl)) pss_nil)
      (pss_one (ps_ret (pe_cmpR (op_eqD hr.units) (pe_callB cr_sorted (by rfl) B.sorted (by decide +kernel) (pa_cons (pv 0) pa_nil)) (pe_listRg rfl (by rfl) B.list (prg_1 (by rfl) B.range (pe_callB call_len_seq (by rfl) B.len PySem.boot_len (pa_cons (pv 0) pa_nil)))) (nomark _))))), ?_⟩
    refine ⟨_, rfl, _, _, _, _, true, rfl, .ty _, .base (.lst hl), kit_ty (by decide +kernel), true, rfl, iteF ?_⟩
    refine ⟨_, rfl, a, _, rfl, .inl (SqL.of hl), _, 1, rfl, rfl, _, rfl, ite2 (fun c => absurd (of_decide_eq_true c) (by rw [hlm]; omega)) (fun _ => ?_)⟩
    refine ⟨_, rfl, a, _, rfl, .inl (SqL.of hl), _, 12, rfl, rfl, _, rfl, ite2 (fun c => absurd (of_decide_eq_true c) (by rw [hlm]; omega)) (fun _ => ?_)⟩
    refine ⟨_, rfl, a, rfl, ⟨_, SqL.of hl⟩, fun p np => ?_⟩
    refine lc_list (K := K) (a := a) (xs := ns.map V.int) (fun i H3 => H3 p = some (.lst ((List.replicate i true).map V.bl)) ∧ Same H H3) ⟨upd_same, same_new np⟩ (fun i H3 _ hP => SqL.of (hP.2 _ _ hl)) (fun i x H3 hx hP => ?_) (fun H3 hP => ?_)
    · obtain ⟨y, ey, rfl⟩ := int_at_inv hx
      obtain ⟨hp3, sm⟩ := hP
      refine ⟨rfl, _, rfl, y, rfl, _, hp3, line_lt (by
        rw [List.length_map, List.length_replicate]
        have := (List.getElem?_eq_some_iff.mp hx).1
        omega), ?_, fun b o e => ?_⟩
      · rw [upd_same, List.replicate_succ', List.map_append]
        rfl
      · rw [upd_ne (ne_of_none e np)]
        exact sm _ _ e
    · obtain ⟨hp3, sm⟩ := hP
      have hl3 := sm _ _ hl
      refine ⟨p, _, rfl, SqL.of hp3, _, rfl, ?_⟩
      rw [all_true]
      refine iteF ?_
      refine ⟨_, rfl, a, ns, rfl, SqL.of hl3, by rw [ho.len]; omega, fun ns' s1 hperm hsrt ns1 => ?_⟩
      have hl4 := same_new (o := .lst (ns'.map V.int)) ns1 _ _ hl3
      refine ⟨_, rfl, a, _, rfl, .inl (SqL.of hl4), _, rfl, RgOk.of_le (by omega) (by rw [hlm]; omega) (by omega) (by omega), fun s2 ns2 => ?_⟩
      have e1 : ns' = rg n := sorted_eq (hperm.trans ho) hsrt (rg_sorted n)
      subst e1
      rw [hlm]
      have h1 : (upd (upd H3 s1 (.lst ((rg n).map V.int))) s2 (.lst (rgV 0 (n : Int)))) s1 = some (.lst ((rg n).map V.int)) := same_new ns2 _ _ upd_same
      have h2 : (upd (upd H3 s1 (.lst ((rg n).map V.int))) s2 (.lst (rgV 0 (n : Int)))) s2 = some (.lst ((rg n).map V.int)) := by rw [upd_same, rg_V]
      refine ⟨_, _, dp_list h1, dp_list h2, shaped_list _, shaped_list _, ?_⟩
      rw [eqv_list]
      exact q _ ((sm.trans (same_new ns1)).trans (same_new ns2))
theorem scCheck : FnScope ["thing"] ["thing"] (defScope s_check_order) := ⟨rfl, rfl, rfl, by decide +kernel, rfl, by decide +kernel, by decide +kernel⟩
theorem ok_check {f fO fW : Addr} {fd fdO fdW : FuncData} {k : Nat} {t : Tok} (T : Df K mg "check_order" s_check_order ["thing"] f fd) (TO : Df K mg "is_order" s_is_order ["thing"] fO fdO) (TW : Df K mg "is_whole" s_is_whole ["thing"] fW fdW) (B : Bi mg) (mM : mg "MOST_THINGS" = some (.int 12 t)) : FnOk P w K mg base CX0 (k + 3) f fd ["thing"] spCheck := by
  have GO : FnOk P w K mg base CX0 (k + 2) fO fdO ["thing"] spIsOrd := ok_is_order TO TW B mM
  refine T.F.ok scCheck (fun vs H Q E h => ?_) (fun cdv A outer s H vs Q E hr h => ?_)
  · obtain ⟨a, n, ns, rfl, _⟩ := h
    rfl
  · obtain ⟨a, n, ns, rfl, hl, ho, hn1, hn2, q⟩ := h
    refine ⟨_, pss_one (ps_if (pt_not (pt_val (pe_call GO hr (by rfl) TO.g TO.F.kp TO.b .nil pass0 (pa_cons (pv 0) pa_nil)))) (pss_one ps_never) pss_nil), ?_⟩
    exact ⟨_, rfl, a, n, ns, rfl, hl, ho, hn1, hn2, fun H' sm => ⟨_, rfl, iteF (q H' sm)⟩⟩
end
end Fo
namespace Fo
open PySem PySem.Spec PyProof.Rows L2
def IsWay (w : Str) : Prop := w = "swap" ∨ w = "spot" ∨ w = "shift"
theorem n1 : ¬ (("spot" : Str) = "swap") := by decide +kernel
theorem n2 : ¬ (("shift" : Str) = "swap") := by decide +kernel
theorem n3 : ¬ (("shift" : Str) = "spot") := by decide +kernel
/-- the ways as the top has written them -/
structure Wy (K : PySem.W.Frag) (mg : Str → Option Value) (aW : Addr) : Prop where
  g : mg "WAYS" = some (.ref aW)
  t : ∀ H : Hp, SqT K H aW [.str "swap", .str "spot", .str "shift"]
theorem wy_mk {K : PySem.W.Frag} {mg : Str → Option Value} {aW : Addr} {dd : Option Addr} {n : Nat} {t1 t2 t3 : Tok} {sl : Array (Option Value)} (g : mg "WAYS" = some (.ref aW)) (l : K.lookup aW = some ⟨.type "tuple", dd, .seq #[.str "swap" t1, .str "spot" t2, .str "shift" t3] n, sl⟩) : Wy K mg aW :=
  ⟨g, fun H => .inr ⟨_, _, _, l, rfl, rfl, line_small (by show 3 ≤ 16777216; decide), .cons ⟨_, rfl⟩ (.cons ⟨_, rfl⟩ (.cons ⟨_, rfl⟩ .nil))⟩⟩
def spWay : Sp := fun vs H Q _ => ∃ (w : Str), vs = [.str w] ∧ IsWay w ∧ Q .non H
section
variable {P : Program} {w : World} {K : PySem.W.Frag} {mg : Str → Option Value} {base : Heap}
theorem scWay : FnScope ["thing"] ["thing"] (defScope s_check_way) := ⟨rfl, rfl, rfl, by decide +kernel, rfl, by decide +kernel, by decide +kernel⟩
theorem ok_way {f aW : Addr} {fd : FuncData} {k : Nat} (T : Df K mg "check_way" s_check_way ["thing"] f fd) (W : Wy K mg aW) (B : Bi mg) : FnOk P w K mg base CX0 (k + 1) f fd ["thing"] spWay := by
  refine T.F.ok scWay (fun vs H Q E h => ?_) (fun cdv A outer s H vs Q E hr h => ?_)
  · obtain ⟨z, rfl, _⟩ := h
    rfl
  · obtain ⟨z, rfl, hz, q⟩ := h
    refine ⟨_, 
      (pss_one (ps_if (PW.pt (pw_or (pt_not (pt_val (pe_callB call_isi (by rfl) B.isinstance (by decide +kernel) (pa_cons (pv 0) (pa_cons (pe_bltn (v := .ty "str") (by rfl) B.str (by decide +kernel) rfl) pa_nil))))) (pw_or1 (pt_cmpR op_notIn_seq (pv 0) (pe_glob (v := .ref aW) (by rfl) W.g rfl) (by rfl)))))
        (pss_one ps_never)
        pss_nil)), ?_⟩
    refine ⟨_, rfl, _, _, _, _, true, rfl, .ty _, .base (.str _), kit_ty (by decide +kernel), true, rfl, iteF ?_⟩
    rcases hz with rfl | rfl | rfl
    · exact ⟨_, rfl, aW, _, rfl, .inr (W.t H), rfl, rfl, _, rfl, ite2 (fun c => absurd c (by decide +kernel)) (fun _ => q)⟩
    · exact ⟨_, rfl, aW, _, rfl, .inr (W.t H), rfl, rfl, _, rfl, ite2 (fun c => absurd c (by decide +kernel)) (fun _ => q)⟩
    · exact ⟨_, rfl, aW, _, rfl, .inr (W.t H), rfl, rfl, _, rfl, ite2 (fun c => absurd c (by decide +kernel)) (fun _ => q)⟩
end
end Fo
namespace Fo
open PySem PySem.Spec PyProof.Rows L2
def spFrom : Sp := fun vs H Q _ => ∃ (r least : Int), vs = [.int r, .int least] ∧ least ≤ r ∧ Q .non H
section
variable {P : Program} {w : World} {K : PySem.W.Frag} {mg : Str → Option Value} {base : Heap}
theorem scFrom : FnScope ["thing", "least"] ["thing", "least"] (defScope s_check_from) := ⟨rfl, rfl, rfl, by decide +kernel, rfl, by decide +kernel, by decide +kernel⟩
theorem ok_from {f fW : Addr} {fd fdW : FuncData} {k : Nat} (T : Df K mg "check_from" s_check_from ["thing", "least"] f fd) (T_is_whole : Df K mg "is_whole" s_is_whole ["thing"] fW fdW) (B : Bi mg) : FnOk P w K mg base CX0 (k + 2) f fd ["thing", "least"] spFrom := by
  have G_is_whole : FnOk P w K mg base CX0 (k + 1) fW fdW ["thing"] spWhole := ok_whole T_is_whole B
  refine T.F.ok scFrom (fun vs H Q E h => ?_) (fun cdv A outer s H vs Q E hr h => ?_)
  · obtain ⟨r, least, rfl, _⟩ := h
    rfl
  · obtain ⟨r, least, rfl, hle, q⟩ := h
    refine ⟨_, 
      (pss_one (ps_if (PW.pt (pw_or (pt_not (pt_val (pe_call G_is_whole hr (by rfl) T_is_whole.g T_is_whole.F.kp T_is_whole.b .nil pass0 (pa_cons (pv 0) pa_nil)))) (pw_or1 (pt_cmpR op_lt (pv 0) (pv 1) (nomark _)))))
        (pss_one ps_never)
        pss_nil)), ?_⟩
    refine ⟨_, rfl, r, rfl, _, rfl, iteF ?_⟩
    exact ⟨_, rfl, _, rfl, r, least, rfl, rfl, _, rfl, ite2 (fun z => absurd (of_decide_eq_true z) (by omega)) (fun _ => q)⟩
end
end Fo
namespace Fo
open PySem PySem.Spec PyProof.Rows L2
def spSize : Sp := fun vs H Q _ => ∃ (n most : Int), vs = [.int n, .int most] ∧ 1 ≤ n ∧ n ≤ most ∧ Q .non H
section
variable {P : Program} {w : World} {K : PySem.W.Frag} {mg : Str → Option Value} {base : Heap}
theorem scSize : FnScope ["thing", "most"] ["thing", "most"] (defScope s_check_size) := ⟨rfl, rfl, rfl, by decide +kernel, rfl, by decide +kernel, by decide +kernel⟩
theorem ok_size {f fW : Addr} {fd fdW : FuncData} {k : Nat} (T : Df K mg "check_size" s_check_size ["thing", "most"] f fd) (T_is_whole : Df K mg "is_whole" s_is_whole ["thing"] fW fdW) (B : Bi mg) : FnOk P w K mg base CX0 (k + 2) f fd ["thing", "most"] spSize := by
  have G_is_whole : FnOk P w K mg base CX0 (k + 1) fW fdW ["thing"] spWhole := ok_whole T_is_whole B
  refine T.F.ok scSize (fun vs H Q E h => ?_) (fun cdv A outer s H vs Q E hr h => ?_)
  · obtain ⟨n, most, rfl, _⟩ := h
    rfl
  · obtain ⟨n, most, rfl, h1, h2, q⟩ := h
    refine ⟨_, 
      (pss_one (ps_if (PW.pt (pw_or (pt_not (pt_val (pe_call G_is_whole hr (by rfl) T_is_whole.g T_is_whole.F.kp T_is_whole.b .nil pass0 (pa_cons (pv 0) pa_nil)))) (pw_or (pt_cmpR op_lt (pv 0) pe_int (nomark _)) (pw_or1 (pt_cmpR op_gt (pv 0) (pv 1) (nomark _))))))
        (pss_one ps_never)
        pss_nil)), ?_⟩
    refine ⟨_, rfl, n, rfl, _, rfl, iteF ?_⟩
    refine ⟨_, rfl, n, 1, rfl, rfl, _, rfl, ite2 (fun z => absurd (of_decide_eq_true z) (by omega)) (fun _ => ?_)⟩
    exact ⟨_, rfl, _, rfl, n, most, rfl, rfl, _, rfl, ite2 (fun z => absurd (of_decide_eq_true z) (by omega)) (fun _ => q)⟩
end
end Fo
namespace Fo
open PySem PySem.Spec PyProof.Rows L2
def spApart : Sp := fun vs H Q _ => ∃ (w : Str) (n most d : Int), vs = [.str w, .int n, .int most, .int d] ∧ IsWay w ∧ 1 ≤ n ∧ n ≤ most ∧ 1 ≤ d ∧ Q .non H
section
variable {P : Program} {w : World} {K : PySem.W.Frag} {mg : Str → Option Value} {base : Heap}
theorem scApart : FnScope ["way", "n", "most", "d"] ["way", "n", "most", "d"] (defScope s_check_apart) := ⟨rfl, rfl, rfl, by decide +kernel, rfl, by decide +kernel, by decide +kernel⟩
theorem ok_apart {f f1 f2 f3 fW aW : Addr} {fd d1 d2 d3 dW : FuncData} {k : Nat} (T : Df K mg "check_apart" s_check_apart ["way", "n", "most", "d"] f fd) (T_check_way : Df K mg "check_way" s_check_way ["thing"] f1 d1) (T_check_size : Df K mg "check_size" s_check_size ["thing", "most"] f2 d2) (T_check_from : Df K mg "check_from" s_check_from ["thing", "least"] f3 d3) (T_is_whole : Df K mg "is_whole" s_is_whole ["thing"] fW dW) (W : Wy K mg aW) (B : Bi mg) : FnOk P w K mg base CX0 (k + 3) f fd ["way", "n", "most", "d"] spApart := by
  have G_check_way : FnOk P w K mg base CX0 (k + 2) f1 d1 ["thing"] spWay := ok_way (k := k + 1) T_check_way W B
  have G_check_size : FnOk P w K mg base CX0 (k + 2) f2 d2 ["thing", "most"] spSize := ok_size T_check_size T_is_whole B
  have G_check_from : FnOk P w K mg base CX0 (k + 2) f3 d3 ["thing", "least"] spFrom := ok_from T_check_from T_is_whole B
  refine T.F.ok scApart (fun vs H Q E h => ?_) (fun cdv A outer s H vs Q E hr h => ?_)
  · obtain ⟨w, n, most, d, rfl, _⟩ := h
    rfl
  · obtain ⟨w, n, most, d, rfl, hw, h1, h2, h3, q⟩ := h
    refine ⟨_, 
      (pss_cons (ps_expr (pe_call G_check_way hr (by rfl) T_check_way.g T_check_way.F.kp T_check_way.b .nil pass0 (pa_cons (pv 0) pa_nil)))
      (pss_cons (ps_expr (pe_call G_check_size hr (by rfl) T_check_size.g T_check_size.F.kp T_check_size.b .nil pass0 (pa_cons (pv 1) (pa_cons (pv 2) pa_nil))))
      (pss_one (ps_expr (pe_call G_check_from hr (by rfl) T_check_from.g T_check_from.F.kp T_check_from.b .nil pass0 (pa_cons (pv 3) (pa_cons pe_int pa_nil))))))), ?_⟩
    exact ⟨_, rfl, w, rfl, hw, _, rfl, _, rfl, n, most, rfl, h1, h2, _, rfl, d, 1, rfl, h3, q⟩
end
end Fo
namespace Fo
open PySem PySem.Spec PyProof.Rows L2
def spChecks : Sp := fun vs H Q _ => ∃ (a b : Addr) (n m : Nat) (ns ms : List Int), vs = [.ref a, .ref b] ∧ H a = some (.lst (ns.map V.int)) ∧ H b = some (.lst (ms.map V.int)) ∧ IsOrd n ns ∧ 1 ≤ n ∧ n ≤ 12 ∧ IsOrd m ms ∧ 1 ≤ m ∧ m ≤ 12 ∧ ∀ H', Same H H' → Q .non H'
def spFit : Sp := fun vs H Q _ => ∃ (a b : Addr) (ns ms : List Int), vs = [.ref a, .ref b] ∧ H a = some (.lst (ns.map V.int)) ∧ H b = some (.lst (ms.map V.int)) ∧ ns.length = ms.length ∧ Q .non H
def spBehind : Sp := fun vs H Q _ => ∃ (a b : Addr) (n : Nat) (ns ms : List Int), vs = [.ref a, .ref b] ∧ H a = some (.lst (ns.map V.int)) ∧ H b = some (.lst (ms.map V.int)) ∧ IsOrd n ns ∧ IsOrd n ms ∧ 1 ≤ n ∧ n ≤ 12 ∧
  ∀ (l : Addr) (H' : Hp), H l = none → H' l = some (.lst ((behindL ns ms).map V.int)) → Same H H' → Q (.ref l) H'
section
variable {P : Program} {w : World} {K : PySem.W.Frag} {mg : Str → Option Value} {base : Heap}
theorem scChecks : FnScope ["one", "other"] ["one", "other"] (defScope s_check_orders) := ⟨rfl, rfl, rfl, by decide +kernel, rfl, by decide +kernel, by decide +kernel⟩
theorem ok_checks {f fC : Addr} {fd fdC : FuncData} {k : Nat} (T : Df K mg "check_orders" s_check_orders ["one", "other"] f fd) (T_check_order : Df K mg "check_order" s_check_order ["thing"] fC fdC) (G_check_order : FnOk P w K mg base CX0 k fC fdC ["thing"] spCheck) : FnOk P w K mg base CX0 (k + 1) f fd ["one", "other"] spChecks := by
  refine T.F.ok scChecks (fun vs H Q E h => ?_) (fun cdv A outer s H vs Q E hr h => ?_)
  · obtain ⟨a, b, n, m, ns, ms, rfl, _⟩ := h
    rfl
  · obtain ⟨a, b, n, m, ns, ms, rfl, ha, hb, o1, n1, n2, o2, m1, m2, q⟩ := h
    refine ⟨_, 
      (pss_cons (ps_expr (pe_call G_check_order hr (by rfl) T_check_order.g T_check_order.F.kp T_check_order.b .nil pass0 (pa_cons (pv 0) pa_nil)))
      (pss_one (ps_expr (pe_call G_check_order hr (by rfl) T_check_order.g T_check_order.F.kp T_check_order.b .nil pass0 (pa_cons (pv 1) pa_nil))))), ?_⟩
    refine ⟨_, rfl, a, n, ns, rfl, ha, o1, n1, n2, fun H1 s1 => ?_⟩
    exact ⟨_, rfl, b, m, ms, rfl, s1 _ _ hb, o2, m1, m2, fun H2 s2 => q H2 (s1.trans s2)⟩
theorem scFit : FnScope ["one", "other"] ["one", "other"] (defScope s_check_fit) := ⟨rfl, rfl, rfl, by decide +kernel, rfl, by decide +kernel, by decide +kernel⟩
theorem ok_fit {f : Addr} {fd : FuncData} {k : Nat} (T : Df K mg "check_fit" s_check_fit ["one", "other"] f fd) (B : Bi mg) : FnOk P w K mg base CX0 (k + 1) f fd ["one", "other"] spFit := by
  refine T.F.ok scFit (fun vs H Q E h => ?_) (fun cdv A outer s H vs Q E hr h => ?_)
  · obtain ⟨a, b, ns, ms, rfl, _⟩ := h
    rfl
  · obtain ⟨a, b, ns, ms, rfl, ha, hb, e, q⟩ := h
    refine ⟨_, 
      (pss_one (ps_if (pt_cmpR op_ne (pe_callB call_len_seq (by rfl) B.len PySem.boot_len (pa_cons (pv 0) pa_nil)) (pe_callB call_len_seq (by rfl) B.len PySem.boot_len (pa_cons (pv 1) pa_nil)) (nomark _))
        (pss_one ps_never)
        pss_nil)), ?_⟩
    refine ⟨_, rfl, a, _, rfl, .inl (SqL.of ha), _, rfl, b, _, rfl, .inl (SqL.of hb), rfl, _, rfl, ?_⟩
    rw [List.length_map, List.length_map, e]
    exact iteNS rfl q
end
end Fo
namespace Fo
open PySem PySem.Spec PyProof.Rows L2
def farW (w : Str) (xs ys : List Int) : Int := if w = "swap" then farSwap xs ys else if w = "spot" then farSpot xs ys else farShift xs ys
theorem farW_swap (xs ys : List Int) : farW "swap" xs ys = farSwap xs ys := if_pos rfl
theorem farW_spot (xs ys : List Int) : farW "spot" xs ys = farSpot xs ys := by
  unfold farW
  rw [if_neg n1, if_pos rfl]
theorem farW_shift (xs ys : List Int) : farW "shift" xs ys = farShift xs ys := by
  unfold farW
  rw [if_neg n2, if_neg n3]
theorem farW_turn {w : Str} {n : Nat} {xs ys : List Int} (ox : IsOrd n xs) (oy : IsOrd n ys) (hn : 1 ≤ n) : farW w ys xs = farW w xs ys := by
  unfold farW
  rw [farSwap_turn ox oy, farSpot_turn (by rw [ox.len, oy.len]), farShift_turn ox oy hn]
theorem farW_self {w : Str} {n : Nat} {xs : List Int} (ox : IsOrd n xs) (hn : 1 ≤ n) : farW w xs xs = 0 := by
  unfold farW
  rw [farSwap_self ox, farSpot_self, farShift_self ox hn]
  split
  · rfl
  · split <;> rfl
abbrev rAbs : List V → Hp → VK → Prop := fun xs H Q => ∃ i, xs = [.int i] ∧ Q (.int (if i < 0 then -i else i)) H
def spFar : Sp := fun vs H Q _ => ∃ (w : Str) (a b : Addr) (n : Nat) (xs ys : List Int), vs = [.str w, .ref a, .ref b] ∧ IsWay w ∧ H a = some (.lst (xs.map V.int)) ∧ H b = some (.lst (ys.map V.int)) ∧ IsOrd n xs ∧ IsOrd n ys ∧ 1 ≤ n ∧ n ≤ 12 ∧ ∀ (H' : Hp), Same H H' → Q (.int (farW w xs ys)) H'
end Fo
namespace Fo
open PySem PySem.Spec PyProof.Rows L2
def two (vs : List V) (H : Hp) (a b : Addr) (n : Nat) (xs ys : List Int) : Prop := vs = [.ref a, .ref b] ∧ H a = some (.lst (xs.map V.int)) ∧ H b = some (.lst (ys.map V.int)) ∧ IsOrd n xs ∧ IsOrd n ys ∧ 1 ≤ n ∧ n ≤ 12
end Fo
namespace Fo
open PySem PySem.Spec PyProof.Rows L2
def spPlaces : Sp := fun vs H Q _ => ∃ (a : Addr) (n : Nat) (ns : List Int), vs = [.ref a] ∧ H a = some (.lst (ns.map V.int)) ∧ IsOrd n ns ∧ 1 ≤ n ∧ n ≤ 12 ∧
  ∀ (ps : List Int) (l : Addr) (H' : Hp), IsBack ns ps → H l = none → H' l = some (.lst (ps.map V.int)) → Same H H' → Q (.ref l) H'
section
variable {P : Program} {w : World} {K : PySem.W.Frag} {mg : Str → Option Value} {base : Heap}
theorem scPlaces : FnScope ["order", "places", "place", "thing"] ["order"] (defScope s_places_in) := ⟨rfl, rfl, rfl, by decide +kernel, rfl, by decide +kernel, by decide +kernel⟩
set_option maxHeartbeats 2000000 in
theorem ok_places {f : Addr} {fd : FuncData} {k : Nat} (T : Df K mg "places_in" s_places_in ["order"] f fd) (B : Bi mg) : FnOk P w K mg base CX0 (k + 1) f fd ["order"] spPlaces := by
  refine T.F.ok scPlaces (fun vs H Q E h => ?_) (fun cdv A outer s H vs Q E hr h => ?_)
  · obtain ⟨a, n, ns, rfl, _⟩ := h
    rfl
  · obtain ⟨a, n, ns, rfl, ha, ho, hn1, hn2, q⟩ := h
    have hlm : (ns.map V.int).length = n := by rw [List.length_map, ho.len]
    have hz : ∀ m : Nat, (List.replicate m [V.int 0]).flatten = (List.replicate m (0 : Int)).map V.int := by
      intro m
      induction m with
      | zero => rfl
      | succ m ih => rw [List.replicate_succ, List.replicate_succ, List.flatten_cons, ih]; rfl
    refine ⟨_, 
      (pss_cons (ps_set (i := 1) scPlaces.nd rfl (.inl rfl) (pe_op op_rep (pe_lst (pa_cons pe_int pa_nil)) (pe_callB call_len_seq (by rfl) B.len PySem.boot_len (pa_cons (pv 0) pa_nil))))
      (pss_cons (ps_for PassesOwn.never rfl (pi_enum (by rfl) B.enumerate (pa_cons (pv 0) pa_nil)) (pg_tup (by rfl) (pgs_cons (pg_name (i := 2) scPlaces.nd rfl (.inl rfl)) (pgs_cons (pg_name (i := 3) scPlaces.nd rfl (.inl rfl)) pgs_nil)))
        (pss_one (ps_asg (pv 2) (pg_sub (pv 1) (pv 3) set_list))))
      (pss_one (ps_ret (pv 1))))), ?_⟩
    refine ⟨line_small (by show 1 ≤ 16777216; decide), fun z nz => ?_⟩
    have s1 := same_new (o := .lst [.int 0]) nz
    refine ⟨_, rfl, a, _, rfl, .inl (SqL.of (s1 _ _ ha)), z, _, _, rfl, rfl, upd_same, by omega, by rw [hlm]; omega, line_small (by rw [hlm, Int.toNat_natCast]; show 1 * n ≤ _; omega), fun l nl => ?_⟩
    have s2 := s1.trans (same_new (o := .lst (List.replicate (((ns.map V.int).length : Nat) : Int).toNat [V.int 0]).flatten) nl)
    have nHl : H l = none := s1.free nl
    refine ⟨_, rfl, a, _, rfl, SqL.of (s2 _ _ ha), ?_⟩
    refine for_enumL (xs := ns.map V.int) (fun i σ H3 => ∃ (y2 y3 : Option V) (ps : List Int), σ = [some (.ref a), some (.ref l), y2, y3] ∧ H3 l = some (.lst (ps.map V.int)) ∧ ps.length = n ∧ (∀ (j : Nat) (x : Int), j < i → ns[j]? = some x → ps[x.toNat]? = some (j : Int)) ∧ Same H H3)
      ⟨none, none, List.replicate n 0, rfl, by rw [upd_same, hz, hlm, Int.toNat_natCast], by rw [List.length_replicate], fun j x hj => absurd hj (Nat.not_lt_zero _), s2⟩ (fun i σ H3 hP => by obtain ⟨_, _, _, _, _, _, _, sm⟩ := hP; exact SqL.of (sm _ _ ha)) (fun i x t σ H3 hx hP nt => ?_) (fun σ H3 hP => ?_)
    · obtain ⟨y2, y3, ps, rfl, hl3, el, hat, sm⟩ := hP
      obtain ⟨y, ey, rfl⟩ := int_at_inv hx
      have hy := ho.mem (List.mem_of_getElem? ey)
      have s3 := same_new (o := .tup [.int (i : Nat), .int y]) nt
      have hl4 := s3 _ _ hl3
      refine ⟨t, _, rfl, .inl (.inl upd_same), rfl, _, _, rfl, _, _, rfl, rfl, ?_⟩
      refine ⟨_, rfl, _, rfl, _, rfl, l, _, _, y.toNat, rfl, rfl, hl4, ix_n (by omega) (by rw [List.length_map]; omega), ?_⟩
      refine ⟨_, _, ps.set y.toNat (i : Int), rfl, by rw [upd_same, List.map_set], by rw [List.length_set]; exact el, fun j x hj hx2 => ?_, fun c o e => ?_⟩
      · by_cases c : j = i
        · subst c
          have e1 : x = y := Option.some.inj (hx2.symm.trans ey)
          subst e1
          rw [List.getElem?_set_self (by omega)]
        · have hx3 := ho.mem (List.mem_of_getElem? hx2)
          have ne : y.toNat ≠ x.toNat := fun e => c (nd_ix ho.nodup hx2 (by rw [ey]; congr 1; omega))
          rw [List.getElem?_set_ne ne]
          exact hat j x (by omega) hx2
      · rw [upd_ne (ne_of_none e nHl)]
        exact s3 _ _ (sm _ _ e)
    · obtain ⟨y2, y3, ps, rfl, hl3, el, hat, sm⟩ := hP
      rw [hlm] at hat
      refine ⟨_, rfl, q ps l H3 ⟨by rw [el, ho.len], fun j x hx => hat j x ?_ hx⟩ nHl hl3 sm⟩
      have := (List.getElem?_eq_some_iff.mp hx).1
      rw [ho.len] at this
      exact this
end
end Fo
namespace Fo
open PySem PySem.Spec PyProof.Rows L2
theorem g0_getD {s : List Int} {i : Nat} {x : Int} (h : s[i]? = some x) : g0 s i = x := g0_at h
def spSeats : Sp := fun vs H Q _ => ∃ (a b : Addr) (n : Nat) (xs ys : List Int), two vs H a b n xs ys ∧ ∀ (l : Addr) (H' : Hp), H l = none → H' l = some (.lst ((seatsL xs ys).map V.int)) → Same H H' → Q (.ref l) H'
section
variable {P : Program} {w : World} {K : PySem.W.Frag} {mg : Str → Option Value} {base : Heap}
theorem scSeats : FnScope ["one", "other", "places", "thing"] ["one", "other"] (defScope s_seats_in) := ⟨rfl, rfl, rfl, by decide +kernel, rfl, by decide +kernel, by decide +kernel⟩
set_option maxHeartbeats 2000000 in
theorem ok_seats {f fP : Addr} {fd fdP : FuncData} {k : Nat} (T : Df K mg "seats_in" s_seats_in ["one", "other"] f fd) (T_places_in : Df K mg "places_in" s_places_in ["order"] fP fdP) (B : Bi mg) : FnOk P w K mg base CX0 (k + 2) f fd ["one", "other"] spSeats := by
  have G_places_in : FnOk P w K mg base CX0 (k + 1) fP fdP ["order"] spPlaces := ok_places T_places_in B
  refine T.F.ok scSeats (fun vs H Q E h => ?_) (fun cdv A outer s H vs Q E hr h => ?_)
  · obtain ⟨a, b, n, xs, ys, ⟨rfl, _⟩, _⟩ := h
    rfl
  · obtain ⟨a, b, n, xs, ys, ⟨rfl, ha, hb, ox, oy, hn1, hn2⟩, q⟩ := h
    refine ⟨_, 
      (pss_cons (ps_set (i := 2) scSeats.nd rfl (.inr rfl) (pe_call G_places_in hr (by rfl) T_places_in.g T_places_in.F.kp T_places_in.b .nil pass0 (pa_cons (pv 1) pa_nil)))
      (pss_one (ps_ret (pe_lc (own := [("thing", 3)]) (g := (gName 3)) (tt := tYes) (te := (tOp (rIxL K) (tVar 2) (tVar 3))) rfl scSeats.nd (pi_list (pv 0)) (blkOk_by (N := ["one", "other", "places", "thing"]) (sc := defScope s_seats_in) (by decide +kernel)) (fun _ _ _ _ _ => (pg_name (i := 3) scSeats.nd rfl (.inl rfl))) (fun _ _ _ _ _ => pts_nil) (fun _ _ _ _ _ => (pe_ix ix_list (pv 2) (pv 3) (fun _ _ => rfl))))))), ?_⟩
    refine ⟨_, rfl, b, n, ys, rfl, hb, oy, hn1, hn2, fun ps l H1 hps nl hl s1 => ?_⟩
    refine ⟨_, rfl, a, rfl, ⟨_, SqL.of (s1 _ _ ha)⟩, fun D nD => ?_⟩
    have nHD : H D = none := s1.free nD
    refine lc_list (K := K) (a := a) (xs := xs.map V.int) (fun i H3 => H3 D = some (.lst (((seatsL xs ys).take i).map V.int)) ∧ H3 l = some (.lst (ps.map V.int)) ∧ Same H H3) ⟨upd_same, same_new nD _ _ hl, s1.trans (same_new nD)⟩ (fun i H3 _ hP => SqL.of (hP.2.2 _ _ ha)) (fun i x H3 hx hP => ?_) (fun H3 hP => ?_)
    · obtain ⟨y, ey, rfl⟩ := int_at_inv hx
      obtain ⟨hD3, hl3, sm⟩ := hP
      have hy := ox.mem (List.mem_of_getElem? ey)
      have hi := (List.getElem?_eq_some_iff.mp ey).1
      rw [ox.len] at hi
      refine ⟨rfl, _, rfl, _, rfl, l, _, _, _, rfl, rfl, SqL.of hl3, at_of (j := y.toNat) (by omega) (int_at (back_pos oy hps hy.1 hy.2)), _, hD3, line_lt (by rw [List.length_map, List.length_take]; omega), ?_, ?_, fun c o e => ?_⟩
      · rw [upd_same, take_more (seats_at ey), List.map_append]
        rfl
      · rw [upd_ne (ne_of_none hl nD)]
        exact hl3
      · rw [upd_ne (ne_of_none e nHD)]
        exact sm _ _ e
    · obtain ⟨hD3, hl3, sm⟩ := hP
      rw [List.take_of_length_le (by rw [seats_len, List.length_map]; exact Nat.le_refl _)] at hD3
      exact q D H3 nHD hD3 sm
end
end Fo
namespace Fo
open PySem PySem.Spec PyProof.Rows L2
def spSwap : Sp := fun vs H Q _ => ∃ (a b : Addr) (n : Nat) (xs ys : List Int), two vs H a b n xs ys ∧ ∀ (H' : Hp), Same H H' → Q (.int (farSwap xs ys)) H'
def spSpot : Sp := fun vs H Q _ => ∃ (a b : Addr) (n : Nat) (xs ys : List Int), two vs H a b n xs ys ∧ ∀ (H' : Hp), Same H H' → Q (.int (farSpot xs ys)) H'
def spShift : Sp := fun vs H Q _ => ∃ (a b : Addr) (n : Nat) (xs ys : List Int), two vs H a b n xs ys ∧ ∀ (H' : Hp), Same H H' → Q (.int (farShift xs ys)) H'
section
variable {P : Program} {w : World} {K : PySem.W.Frag} {mg : Str → Option Value} {base : Heap}
theorem scSwap : FnScope ["one", "other", "seats", "turned", "place", "seat", "later"] ["one", "other"] (defScope s_far_by_swap) := ⟨rfl, rfl, rfl, by decide +kernel, rfl, by decide +kernel, by decide +kernel⟩
set_option maxHeartbeats 2000000 in
theorem ok_swap {f fP : Addr} {fd fdP : FuncData} {k : Nat} (T : Df K mg "far_by_swap" s_far_by_swap ["one", "other"] f fd) (T_seats_in : Df K mg "seats_in" s_seats_in ["one", "other"] fP fdP) (G_seats_in : FnOk P w K mg base CX0 k fP fdP ["one", "other"] spSeats) (B : Bi mg) : FnOk P w K mg base CX0 (k + 1) f fd ["one", "other"] spSwap := by
  refine T.F.ok scSwap (fun vs H Q E h => ?_) (fun cdv A outer s H vs Q E hr h => ?_)
  · obtain ⟨a, b, n, xs, ys, ⟨rfl, _⟩, _⟩ := h
    rfl
  · obtain ⟨a, b, n, xs, ys, ⟨rfl, ha, hb, ox, oy, hn1, hn2⟩, q⟩ := h
    refine ⟨_, 
      (pss_cons (ps_set (i := 2) scSwap.nd rfl (.inl rfl) (pe_call G_seats_in hr (by rfl) T_seats_in.g T_seats_in.F.kp T_seats_in.b .nil pass0 (pa_cons (pv 0) (pa_cons (pv 1) pa_nil))))
      (pss_cons (ps_set (i := 3) scSwap.nd rfl (.inl rfl) pe_int)
      (pss_cons (ps_for PassesOwn.never rfl (pi_enum (by rfl) B.enumerate (pa_cons (pv 2) pa_nil)) (pg_tup (by rfl) (pgs_cons (pg_name (i := 4) scSwap.nd rfl (.inl rfl)) (pgs_cons (pg_name (i := 5) scSwap.nd rfl (.inr rfl)) pgs_nil)))
        (pss_one (ps_aug (i := 3) scSwap.nd rfl (.inl rfl) (pe_callB call_len_seq (by rfl) B.len PySem.boot_len (pa_cons (pe_lc (own := [("later", 6)]) (g := (gName 6)) (tt := (tTest (tOp (rI0 fun i j => .bl (decide (i < j))) (tVar 6) (tVar 5)))) (te := (tVar 6)) rfl scSwap.nd (pi_list (pe_slice sl_list (pv 2) (po_some (pe_op op_add (pv 4) pe_int)) po_none)) (blkOk_by (N := ["one", "other", "seats", "turned", "place", "seat", "later"]) (sc := defScope s_far_by_swap) (by decide +kernel)) (fun _ _ _ _ _ => (pg_name (i := 6) scSwap.nd rfl (.inl rfl))) (fun _ _ _ _ _ => (pts_one (pt_cmpR op_lt (pv 6) (pv 5) (nomark _)))) (fun _ _ _ _ _ => (pv 6))) pa_nil)) ip_add)))
      (pss_one (ps_ret (pv 3)))))), ?_⟩
    refine ⟨_, rfl, _, rfl, a, b, n, xs, ys, ⟨rfl, ha, hb, ox, oy, hn1, hn2⟩, fun l H1 nl hl s1 => ?_⟩
    have os := seats_ord ox oy
    refine ⟨_, rfl, l, _, rfl, SqL.of hl, ?_⟩
    refine for_enumL (xs := (seatsL xs ys).map V.int) (fun i σ H3 => ∃ (y4 y5 y6 : Option V), σ = [some (.ref a), some (.ref b), some (.ref l), some (.int ((sumN (rg i) (fun p => cntL (seatsL xs ys) p.toNat) : Nat) : Int)), y4, y5, y6] ∧ H3 l = some (.lst ((seatsL xs ys).map V.int)) ∧ Same H H3)
      ⟨none, none, none, rfl, hl, s1⟩ (fun i σ H3 hP => by obtain ⟨_, _, _, _, hl3, _⟩ := hP; exact SqL.of hl3) (fun i x t σ H3 hx hP nt => ?_) (fun σ H3 hP => ?_)
    · obtain ⟨y4, y5, y6, rfl, hl3, sm⟩ := hP
      obtain ⟨y, ey, rfl⟩ := int_at_inv hx
      have hi := (List.getElem?_eq_some_iff.mp ey).1
      rw [os.len] at hi
      have s3 := same_new (o := .tup [.int (i : Nat), .int y]) nt
      refine ⟨t, _, rfl, .inl (.inl upd_same), rfl, _, _, rfl, _, _, rfl, rfl, ?_⟩
      refine ⟨_, rfl, _, rfl, _, rfl, (i : Int), 1, rfl, rfl, _, rfl, l, _, rfl, SqL.of (s3 _ _ hl3), fun c nc => ?_⟩
      have s4 := s3.trans (same_new (o := .lst (cutV ((seatsL xs ys).map V.int) (some ((i : Int) + 1)) none)) nc)
      have ecut : cutV ((seatsL xs ys).map V.int) (some ((i : Int) + 1)) none = (((seatsL xs ys).drop (i + 1)).map V.int) := by
        rw [cut_ints, show (i : Int) + 1 = ((i + 1 : Nat) : Int) by omega, cutI_tail]
      have hc4 : (upd (upd H3 t (.tup [.int (i : Nat), .int y])) c (.lst (cutV ((seatsL xs ys).map V.int) (some ((i : Int) + 1)) none))) c = some (.lst (((seatsL xs ys).drop (i + 1)).map V.int)) := by rw [upd_same, ecut]
      refine ⟨c, rfl, ⟨_, SqL.of hc4⟩, fun D nD => ?_⟩
      have ncD : c ≠ D := ne_of_none hc4 nD
      refine lc_list (K := K) (a := c) (xs := ((seatsL xs ys).drop (i + 1)).map V.int) (fun m H5 => H5 D = some (.lst (((((seatsL xs ys).drop (i + 1)).take m).filter (fun z => decide (z < g0 (seatsL xs ys) i))).map V.int)) ∧ H5 c = some (.lst (((seatsL xs ys).drop (i + 1)).map V.int)) ∧ Same H3 H5)
        ⟨upd_same, by rw [upd_ne ncD]; exact hc4, s4.trans (same_new nD)⟩ (fun m H5 _ hP => SqL.of hP.2.1) (fun m x H5 hx hP => ?_) (fun H5 hP => ?_)
      · obtain ⟨hD5, hc5, s5⟩ := hP
        obtain ⟨z, ez, rfl⟩ := int_at_inv hx
        have eg : g0 (seatsL xs ys) i = y := g0_at ey
        refine ⟨rfl, _, rfl, _, rfl, z, y, rfl, rfl, _, rfl, ite2 (fun c => ?_) (fun c => ?_)⟩
        · have hz : z < y := of_decide_eq_true c
          refine ⟨_, rfl, _, hD5, line_lt ?_, ?_, by rw [upd_ne ncD]; exact hc5, fun u o e => ?_⟩
          · rw [List.length_map]
            refine Nat.lt_of_le_of_lt (List.length_filter_le _ _) ?_
            rw [List.length_take, List.length_drop, os.len]
            omega
          · rw [upd_same, filter_more _ ez, eg, decide_eq_true hz, if_pos rfl, List.map_append]
            rfl
          · rw [upd_ne (ne_of_none (s4 _ _ e) nD)]
            exact s5 _ _ e
        · refine ⟨?_, hc5, s5⟩
          rw [filter_more _ ez, eg, decide_eq_false (fun hz => c (decide_eq_true hz)), if_neg (by decide), List.append_nil]
          rw [eg] at hD5
          exact hD5
      · obtain ⟨hD5, hc5, s5⟩ := hP
        rw [List.length_map, List.take_length] at hD5
        refine ⟨D, _, rfl, .inl (SqL.of hD5), _, _, rfl, rfl, ?_⟩
        refine ⟨some (.int (i : Int)), some (.int y), y6, ?_, s5 _ _ hl3, sm.trans s5⟩
        rw [rg_succ, sumN_append, sumN_cons, sumN_nil, List.length_map]
        show [some (.ref a), some (.ref b), some (.ref l), some (V.int (((sumN (rg i) (fun p => cntL (seatsL xs ys) p.toNat) : Nat) : Int) + ((cntL (seatsL xs ys) i : Nat) : Int))), some (.int (i : Int)), some (.int y), y6] = _
        rw [Int.toNat_natCast, Int.natCast_add, Nat.add_zero]
    · obtain ⟨y4, y5, y6, rfl, hl3, sm⟩ := hP
      refine ⟨_, rfl, ?_⟩
      have z := q H3 sm
      unfold farSwap invN at z
      rw [List.length_map]
      exact z
theorem scSpot : FnScope ["one", "other", "place"] ["one", "other"] (defScope s_far_by_spot) := ⟨rfl, rfl, rfl, by decide +kernel, rfl, by decide +kernel, by decide +kernel⟩
set_option maxHeartbeats 2000000 in
theorem ok_spot {f : Addr} {fd : FuncData} {k : Nat} (T : Df K mg "far_by_spot" s_far_by_spot ["one", "other"] f fd) (B : Bi mg) : FnOk P w K mg base CX0 (k + 1) f fd ["one", "other"] spSpot := by
  refine T.F.ok scSpot (fun vs H Q E h => ?_) (fun cdv A outer s H vs Q E hr h => ?_)
  · obtain ⟨a, b, n, xs, ys, ⟨rfl, _⟩, _⟩ := h
    rfl
  · obtain ⟨a, b, n, xs, ys, ⟨rfl, ha, hb, ox, oy, hn1, hn2⟩, q⟩ := h
    have hxl : (xs.map V.int).length = n := by rw [List.length_map, ox.len]
    refine ⟨_, 
      (pss_one (ps_ret (pe_callB call_len_seq (by rfl) B.len PySem.boot_len (pa_cons (pe_lc (own := [("place", 2)]) (g := (gName 2)) (tt := (tTest (tOp rNe (tOp (rIxL K) (tVar 0) (tVar 2)) (tOp (rIxL K) (tVar 1) (tVar 2))))) (te := (tVar 2)) rfl scSpot.nd (pi_range1 (by rfl) B.range (pa_cons (pe_callB call_len_seq (by rfl) B.len PySem.boot_len (pa_cons (pv 0) pa_nil)) pa_nil)) (blkOk_by (N := ["one", "other", "place"]) (sc := defScope s_far_by_spot) (by decide +kernel)) (fun _ _ _ _ _ => (pg_name (i := 2) scSpot.nd rfl (.inl rfl))) (fun _ _ _ _ _ => (pts_one (pt_cmpR op_ne (pe_ix ix_list (pv 0) (pv 2) (fun _ _ => rfl)) (pe_ix ix_list (pv 1) (pv 2) (fun _ _ => rfl)) (nomark _)))) (fun _ _ _ _ _ => (pv 2))) pa_nil)))), ?_⟩
    refine ⟨_, rfl, a, _, rfl, .inl (SqL.of ha), _, rfl, by omega, by rw [hxl]; omega, fun D nD => ?_⟩
    rw [hxl, Int.toNat_natCast]
    refine lc_range (lo := 0) (n := n) (fun m H3 => H3 D = some (.lst (((rg m).filter (fun p => !decide (g0 xs p = g0 ys p))).map V.int)) ∧ Same H H3) ⟨upd_same, same_new nD⟩ (fun m H3 hm hP => ?_) (fun H3 hP => ?_)
    · obtain ⟨hD3, sm⟩ := hP
      obtain ⟨x, ex, _⟩ := ord_ix ox hm
      obtain ⟨y, ey, _⟩ := ord_ix oy hm
      have gx : g0 xs (m : Int) = x := g0_at ex
      have gy : g0 ys (m : Int) = y := g0_at ey
      have fm : ((rg (m + 1)).filter fun p => !decide (g0 xs p = g0 ys p)) = ((rg m).filter fun p => !decide (g0 xs p = g0 ys p)) ++ (if x = y then [] else [(m : Int)]) := by
        rw [rg_succ, List.filter_append, List.filter_cons, gx, gy]
        congr 1
        by_cases c : x = y
        · simp [c]
        · simp [c]
      refine ⟨rfl, _, rfl, _, rfl, a, _, _, _, rfl, rfl, SqL.of (sm _ _ ha), at_of (j := m) (by omega) (int_at ex), _, rfl, _, rfl, b, _, _, _, rfl, rfl, SqL.of (sm _ _ hb), at_of (j := m) (by omega) (int_at ey), rfl, _, rfl, ?_⟩
      by_cases c : x = y
      · subst c
        refine iteNS rfl ⟨?_, sm⟩
        rw [fm, if_pos rfl, List.append_nil]
        exact hD3
      · rw [decide_eq_false (fun e => c (V.int.inj e))]
        refine iteT ⟨_, rfl, _, hD3, line_lt ?_, ?_, fun u o e => ?_⟩
        · rw [List.length_map]
          refine Nat.lt_of_le_of_lt (List.length_filter_le _ _) ?_
          rw [rg_len]
          omega
        · rw [upd_same, fm, if_neg c, List.map_append, Int.zero_add]
          rfl
        · rw [upd_ne (ne_of_none e nD)]
          exact sm _ _ e
    · obtain ⟨hD3, sm⟩ := hP
      refine ⟨D, _, rfl, .inl (SqL.of hD3), ?_⟩
      have z := q H3 sm
      unfold farSpot spotL at z
      rw [ox.len] at z
      rw [List.length_map]
      exact z
theorem scShift : FnScope ["one", "other", "place", "seat"] ["one", "other"] (defScope s_far_by_shift) := ⟨rfl, rfl, rfl, by decide +kernel, rfl, by decide +kernel, by decide +kernel⟩
set_option maxHeartbeats 2000000 in
theorem ok_shift {f fP : Addr} {fd fdP : FuncData} {k : Nat} (T : Df K mg "far_by_shift" s_far_by_shift ["one", "other"] f fd) (T_seats_in : Df K mg "seats_in" s_seats_in ["one", "other"] fP fdP) (G_seats_in : FnOk P w K mg base CX0 k fP fdP ["one", "other"] spSeats) (B : Bi mg) : FnOk P w K mg base CX0 (k + 1) f fd ["one", "other"] spShift := by
  refine T.F.ok scShift (fun vs H Q E h => ?_) (fun cdv A outer s H vs Q E hr h => ?_)
  · obtain ⟨a, b, n, xs, ys, ⟨rfl, _⟩, _⟩ := h
    rfl
  · obtain ⟨a, b, n, xs, ys, ⟨rfl, ha, hb, ox, oy, hn1, hn2⟩, q⟩ := h
    refine ⟨_, 
      (pss_one (ps_ret (pe_callB (cr_max rfl) (by rfl) B.max (by decide +kernel) (pa_cons (pe_lc (own := [("place", 2), ("seat", 3)]) (g := (gTup K 2 (gCons (gName 2) (gCons (gName 3) gNil)))) (tt := tYes) (te := (tCB rAbs (tCons (tOp (rI0 fun i j => .int (i - j)) (tVar 2) (tVar 3)) tNil))) rfl scShift.nd (pi_enum (by rfl) B.enumerate (pa_cons (pe_call G_seats_in hr (by rfl) T_seats_in.g T_seats_in.F.kp T_seats_in.b .nil pass0 (pa_cons (pv 0) (pa_cons (pv 1) pa_nil))) pa_nil)) (blkOk_by (N := ["one", "other", "place", "seat"]) (sc := defScope s_far_by_shift) (by decide +kernel)) (fun _ _ _ _ _ => (pg_tup (by rfl) (pgs_cons (pg_name (i := 2) scShift.nd rfl (.inl rfl)) (pgs_cons (pg_name (i := 3) scShift.nd rfl (.inl rfl)) pgs_nil)))) (fun _ _ _ _ _ => pts_nil) (fun _ _ _ _ _ => (pe_callB call_abs (by rfl) B.abs (by decide +kernel) (pa_cons (pe_op op_sub (pv 2) (pv 3)) pa_nil)))) pa_nil)))), ?_⟩
    have os := seats_ord ox oy
    refine ⟨_, rfl, _, rfl, a, b, n, xs, ys, ⟨rfl, ha, hb, ox, oy, hn1, hn2⟩, fun l H1 nl hl s1 => ?_⟩
    refine ⟨l, _, rfl, SqL.of hl, fun D nD => ?_⟩
    have nlD : l ≠ D := ne_of_none hl nD
    have nHD : H D = none := s1.free nD
    refine lc_enumL (K := K) (a := l) (xs := (seatsL xs ys).map V.int) (fun m H3 => H3 D = some (.lst (((gapsL xs ys).take m).map V.int)) ∧ H3 l = some (.lst ((seatsL xs ys).map V.int)) ∧ Same H H3) ⟨upd_same, by rw [upd_ne nlD]; exact hl, s1.trans (same_new nD)⟩ (fun m H3 _ hP => SqL.of hP.2.1) (fun m x t H3 hx hP nt => ?_) (fun H3 hP => ?_)
    · obtain ⟨hD3, hl3, sm⟩ := hP
      obtain ⟨y, ey, rfl⟩ := int_at_inv hx
      have hi := (List.getElem?_eq_some_iff.mp ey).1
      rw [os.len] at hi
      have s3 := same_new (o := .tup [.int (m : Nat), .int y]) nt
      have eg : (gapsL xs ys)[m]? = some (absI ((m : Int) - y)) := by
        unfold gapsL rg
        rw [List.map_map, List.getElem?_map, List.getElem?_range (by rw [ox.len]; exact hi)]
        show some (absI ((m : Int) - g0 (seatsL xs ys) (m : Int))) = _
        rw [g0_at ey]
      refine ⟨t, _, rfl, .inl (.inl upd_same), rfl, _, _, rfl, _, _, rfl, rfl, rfl, ?_⟩
      refine ⟨_, rfl, _, rfl, (m : Int), y, rfl, rfl, _, rfl, _, s3 _ _ hD3, line_lt (by rw [List.length_map, List.length_take, gaps_len, ox.len]; omega), ?_, ?_, fun u o e => ?_⟩
      · rw [upd_same, take_more eg, List.map_append]
        rfl
      · rw [upd_ne nlD]
        exact s3 _ _ hl3
      · rw [upd_ne (ne_of_none e nHD)]
        exact s3 _ _ (sm _ _ e)
    · obtain ⟨hD3, hl3, sm⟩ := hP
      rw [List.take_of_length_le (by rw [gaps_len, List.length_map, seats_len]; exact Nat.le_refl _)] at hD3
      refine ⟨D, gapsL xs ys, rfl, SqL.of hD3, by rw [gaps_len, ox.len]; exact hn1, fun m hm hle => ?_⟩
      have e : farShift xs ys = m := maxL_of (gaps_nonneg xs ys) hm hle
      rw [← e]
      exact q H3 sm
theorem scKnown : FnScope ["way", "one", "other"] ["way", "one", "other"] (defScope s_known_far) := ⟨rfl, rfl, rfl, by decide +kernel, rfl, by decide +kernel, by decide +kernel⟩
theorem ok_known {f f4 f5 f6 : Addr} {fd d4 d5 d6 : FuncData} {k : Nat} (T : Df K mg "known_far" s_known_far ["way", "one", "other"] f fd) (T_far_by_swap : Df K mg "far_by_swap" s_far_by_swap ["one", "other"] f4 d4) (T_far_by_spot : Df K mg "far_by_spot" s_far_by_spot ["one", "other"] f5 d5) (T_far_by_shift : Df K mg "far_by_shift" s_far_by_shift ["one", "other"] f6 d6)
    (G_far_by_swap : FnOk P w K mg base CX0 k f4 d4 ["one", "other"] spSwap) (G_far_by_spot : FnOk P w K mg base CX0 k f5 d5 ["one", "other"] spSpot) (G_far_by_shift : FnOk P w K mg base CX0 k f6 d6 ["one", "other"] spShift) :
    FnOk P w K mg base CX0 (k + 1) f fd ["way", "one", "other"] spFar := by
  refine T.F.ok scKnown (fun vs H Q E h => ?_) (fun cdv A outer s H vs Q E hr h => ?_)
  · obtain ⟨z, a, b, n, xs, ys, rfl, _⟩ := h
    rfl
  · obtain ⟨z, a, b, n, xs, ys, rfl, hz, ha, hb, ox, oy, hn1, hn2, q⟩ := h
    refine ⟨_, 
      (pss_cons (ps_if (pt_cmpR op_eq (pv 0) pe_str (nomark _))
        (pss_one (ps_ret (pe_call G_far_by_swap hr (by rfl) T_far_by_swap.g T_far_by_swap.F.kp T_far_by_swap.b .nil pass0 (pa_cons (pv 1) (pa_cons (pv 2) pa_nil)))))
        pss_nil)
      (pss_cons (ps_if (pt_cmpR op_eq (pv 0) pe_str (nomark _))
        (pss_one (ps_ret (pe_call G_far_by_spot hr (by rfl) T_far_by_spot.g T_far_by_spot.F.kp T_far_by_spot.b .nil pass0 (pa_cons (pv 1) (pa_cons (pv 2) pa_nil)))))
        pss_nil)
      (pss_one (ps_ret (pe_call G_far_by_shift hr (by rfl) T_far_by_shift.g T_far_by_shift.F.kp T_far_by_shift.b .nil pass0 (pa_cons (pv 1) (pa_cons (pv 2) pa_nil))))))), ?_⟩
    rcases hz with rfl | rfl | rfl
    · refine ⟨_, rfl, rfl, _, rfl, ite2 (fun _ => ?_) (fun c => absurd (by decide +kernel) c)⟩
      exact ⟨_, rfl, _, rfl, a, b, n, xs, ys, ⟨rfl, ha, hb, ox, oy, hn1, hn2⟩, fun H2 s2 => by rw [← farW_swap]; exact q H2 s2⟩
    · refine ⟨_, rfl, rfl, _, rfl, ite2 (fun c => absurd c (by decide +kernel)) (fun _ => ?_)⟩
      refine ⟨_, rfl, rfl, _, rfl, ite2 (fun _ => ?_) (fun c => absurd (by decide +kernel) c)⟩
      exact ⟨_, rfl, _, rfl, a, b, n, xs, ys, ⟨rfl, ha, hb, ox, oy, hn1, hn2⟩, fun H2 s2 => by rw [← farW_spot]; exact q H2 s2⟩
    · refine ⟨_, rfl, rfl, _, rfl, ite2 (fun c => absurd c (by decide +kernel)) (fun _ => ?_)⟩
      refine ⟨_, rfl, rfl, _, rfl, ite2 (fun c => absurd c (by decide +kernel)) (fun _ => ?_)⟩
      exact ⟨_, rfl, _, rfl, a, b, n, xs, ys, ⟨rfl, ha, hb, ox, oy, hn1, hn2⟩, fun H2 s2 => by rw [← farW_shift]; exact q H2 s2⟩
end
end Fo
namespace Fo
open PySem PySem.Spec PyProof.Rows L2
def spFew : Sp := fun vs H Q _ => ∃ (n m : Int), vs = [.int n, .int m] ∧ n ≤ m ∧ Q .non H
section
variable {P : Program} {w : World} {K : PySem.W.Frag} {mg : Str → Option Value} {base : Heap}
theorem scFew : FnScope ["n", "most"] ["n", "most"] (defScope s_check_few) := ⟨rfl, rfl, rfl, by decide +kernel, rfl, by decide +kernel, by decide +kernel⟩
theorem ok_few {f : Addr} {fd : FuncData} {k : Nat} (T : Df K mg "check_few" s_check_few ["n", "most"] f fd) : FnOk P w K mg base CX0 (k + 1) f fd ["n", "most"] spFew := by
  refine T.F.ok scFew (fun vs H Q E h => ?_) (fun cdv A outer s H vs Q E hr h => ?_)
  · obtain ⟨n, m, rfl, _⟩ := h
    rfl
  · obtain ⟨n, m, rfl, hl, q⟩ := h
    refine ⟨_, 
      (pss_one (ps_if (pt_cmpR op_gt (pv 0) (pv 1) (nomark _))
        (pss_one ps_never)
        pss_nil)), ?_⟩
    exact ⟨_, rfl, _, rfl, n, m, rfl, rfl, _, rfl, ite2 (fun c => absurd (of_decide_eq_true c) (by omega)) (fun _ => q)⟩
end
end Fo
namespace Fo
open PySem PySem.Spec PyProof.Rows L2
section
variable {P : Program} {w : World} {K : PySem.W.Frag} {mg : Str → Option Value} {base : Heap}
theorem scFar : FnScope ["way", "one", "other"] ["way", "one", "other"] (defScope s_how_far) := ⟨rfl, rfl, rfl, by decide +kernel, rfl, by decide +kernel, by decide +kernel⟩
theorem ok_far {f f1 f2 f3 f4 : Addr} {fd d1 d2 d3 d4 : FuncData} {k : Nat} (T : Df K mg "how_far" s_how_far ["way", "one", "other"] f fd) (T_check_orders : Df K mg "check_orders" s_check_orders ["one", "other"] f1 d1) (T_check_way : Df K mg "check_way" s_check_way ["thing"] f2 d2) (T_check_fit : Df K mg "check_fit" s_check_fit ["one", "other"] f3 d3) (T_known_far : Df K mg "known_far" s_known_far ["way", "one", "other"] f4 d4)
    (G_check_orders : FnOk P w K mg base CX0 k f1 d1 ["one", "other"] spChecks) (G_check_way : FnOk P w K mg base CX0 k f2 d2 ["thing"] spWay) (G_check_fit : FnOk P w K mg base CX0 k f3 d3 ["one", "other"] spFit) (G_known_far : FnOk P w K mg base CX0 k f4 d4 ["way", "one", "other"] spFar) :
    FnOk P w K mg base CX0 (k + 1) f fd ["way", "one", "other"] spFar := by
  refine T.F.ok scFar (fun vs H Q E h => ?_) (fun cdv A outer s H vs Q E hr h => ?_)
  · obtain ⟨z, a, b, n, xs, ys, rfl, _⟩ := h
    rfl
  · obtain ⟨z, a, b, n, xs, ys, rfl, hz, ha, hb, ox, oy, hn1, hn2, q⟩ := h
    refine ⟨_, 
      (pss_cons (ps_expr (pe_call G_check_orders hr (by rfl) T_check_orders.g T_check_orders.F.kp T_check_orders.b .nil pass0 (pa_cons (pv 1) (pa_cons (pv 2) pa_nil))))
      (pss_cons (ps_expr (pe_call G_check_way hr (by rfl) T_check_way.g T_check_way.F.kp T_check_way.b .nil pass0 (pa_cons (pv 0) pa_nil)))
      (pss_cons (ps_expr (pe_call G_check_fit hr (by rfl) T_check_fit.g T_check_fit.F.kp T_check_fit.b .nil pass0 (pa_cons (pv 1) (pa_cons (pv 2) pa_nil))))
      (pss_one (ps_ret (pe_call G_known_far hr (by rfl) T_known_far.g T_known_far.F.kp T_known_far.b .nil pass0 (pa_cons (pv 0) (pa_cons (pv 1) (pa_cons (pv 2) pa_nil))))))))), ?_⟩
    refine ⟨_, rfl, _, rfl, a, b, n, n, xs, ys, rfl, ha, hb, ox, hn1, hn2, oy, hn1, hn2, fun H1 s1 => ?_⟩
    refine ⟨_, rfl, z, rfl, hz, ?_⟩
    refine ⟨_, rfl, _, rfl, a, b, xs, ys, rfl, s1 _ _ ha, s1 _ _ hb, by rw [ox.len, oy.len], ?_⟩
    exact ⟨_, rfl, _, rfl, _, rfl, z, a, b, n, xs, ys, rfl, hz, s1 _ _ ha, s1 _ _ hb, ox, oy, hn1, hn2, fun H2 s2 => q H2 (s1.trans s2)⟩
end
end Fo
namespace Fo
open PySem PySem.Spec PyProof.Rows L2
/-! ### how far, by things -/
theorem sumN_le {l : List Int} {f g : Int → Nat} (h : ∀ x ∈ l, f x ≤ g x) : sumN l f ≤ sumN l g := by
  induction l with
  | nil => exact Nat.le_refl _
  | cons a l ih =>
    rw [sumN_cons, sumN_cons]
    have h1 := h a List.mem_cons_self
    have h2 := ih fun x hx => h x (List.mem_cons_of_mem _ hx)
    omega
theorem sumN_one {l : List Int} {f : Int → Nat} {x : Int} (h : x ∈ l) : f x ≤ sumN l f := by
  induction l with
  | nil => exact absurd h List.not_mem_nil
  | cons a l ih =>
    rw [sumN_cons]
    rcases List.mem_cons.mp h with rfl | h
    · omega
    · have := ih h
      omega
theorem ind_le {a : Bool} {n : Nat} (h : a = true → 1 ≤ n) : ind a ≤ n := by
  unfold ind
  cases a
  · exact Nat.zero_le _
  · exact h rfl
theorem ind_true {a : Bool} (h : a = true) : ind a = 1 := by rw [h]; rfl
theorem g0_seats {n : Nat} {xs ys : List Int} (o : IsOrd n xs) {p : Int} (h : p ∈ rg n) : g0 (seatsL xs ys) p = pos ys (g0 xs p) := by
  have h1 := rg_mem.mp h
  obtain ⟨x, hx, _⟩ := ord_ix o (j := p.toNat) (by omega)
  have e := g0_at hx
  have e2 := g0_at (seats_at (ys := ys) hx)
  rw [Int.toNat_of_nonneg h1.1] at e e2
  rw [e, e2]
def dT (xs ys : List Int) (t u : Int) : Nat := ind (decide (pos xs t < pos xs u) && decide (pos ys u < pos ys t))
def swT (n : Nat) (xs ys : List Int) : Nat := sumN (rg n) fun t => sumN (rg n) fun u => dT xs ys t u
def spT (n : Nat) (xs ys : List Int) : Nat := sumN (rg n) fun t => ind (!decide (pos xs t = pos ys t))
def shL (n : Nat) (xs ys : List Int) : List Int := (rg n).map fun t => absI (pos xs t - pos ys t)
theorem swap_T {n : Nat} {xs ys : List Int} (ox : IsOrd n xs) (oy : IsOrd n ys) : farSwap xs ys = ((swT n xs ys : Nat) : Int) := by
  unfold farSwap
  rw [inv_eq, seats_len, ox.len]
  unfold invF swT
  congr 1
  rw [sum_pos ox]
  apply sumN_congr
  intro t ht
  rw [sum_pos ox]
  apply sumN_congr
  intro u hu
  unfold dT
  rw [g0_seats ox (pos_in ox ht), g0_seats ox (pos_in ox hu), g0_pos ox ht, g0_pos ox hu]
theorem spot_T {n : Nat} {xs ys : List Int} (ox : IsOrd n xs) (oy : IsOrd n ys) : farSpot xs ys = ((spT n xs ys : Nat) : Int) := by
  unfold farSpot spotL spT
  rw [filter_len, ox.len]
  congr 1
  rw [sum_g0 ox (fun t => ind (!decide (pos xs t = pos ys t)))]
  apply sumN_congr
  intro p hp
  rw [pos_g0 ox hp]
  by_cases c : g0 xs p = g0 ys p
  · rw [decide_eq_true c, c, pos_g0 oy hp, decide_eq_true rfl]
  · have d : ¬ (p = pos ys (g0 xs p)) := fun e => c (by
      have := g0_pos oy (g0_in ox hp)
      rw [← e] at this
      exact this.symm)
    rw [decide_eq_false c, decide_eq_false d]
theorem shift_mem {n : Nat} {xs ys : List Int} (ox : IsOrd n xs) : ∀ g, g ∈ gapsL xs ys ↔ g ∈ shL n xs ys := by
  intro g
  unfold gapsL shL
  rw [ox.len, List.mem_map, List.mem_map]
  constructor
  · rintro ⟨p, hp, rfl⟩
    exact ⟨g0 xs p, g0_in ox hp, by rw [pos_g0 ox hp, g0_seats ox hp]⟩
  · rintro ⟨t, ht, rfl⟩
    exact ⟨pos xs t, pos_in ox ht, by rw [g0_seats ox (pos_in ox ht), g0_pos ox ht]⟩
theorem shift_T {n : Nat} {xs ys : List Int} (ox : IsOrd n xs) (hn : 1 ≤ n) : (∃ t ∈ rg n, farShift xs ys = absI (pos xs t - pos ys t)) ∧ ∀ t ∈ rg n, absI (pos xs t - pos ys t) ≤ farShift xs ys := by
  obtain ⟨h1, h2⟩ := maxL_mem (gaps_nonneg xs ys) (by rw [gaps_len, ox.len]; exact hn)
  constructor
  · obtain ⟨t, ht, e⟩ := List.mem_map.mp ((shift_mem ox _).mp h1)
    exact ⟨t, ht, e.symm⟩
  · intro t ht
    exact h2 _ ((shift_mem ox _).mpr (List.mem_map.mpr ⟨t, ht, rfl⟩))
theorem shift_of {n : Nat} {xs ys : List Int} {m : Int} (ox : IsOrd n xs) (h : ∃ t ∈ rg n, m = absI (pos xs t - pos ys t)) (hle : ∀ t ∈ rg n, absI (pos xs t - pos ys t) ≤ m) : farShift xs ys = m := by
  obtain ⟨t, ht, e⟩ := h
  refine maxL_of (gaps_nonneg xs ys) ((shift_mem ox _).mpr (List.mem_map.mpr ⟨t, ht, e.symm⟩)) fun x hx => ?_
  obtain ⟨u, hu, rfl⟩ := List.mem_map.mp ((shift_mem ox _).mp hx)
  exact hle u hu
/-! ### alike just where 0 -/
theorem invR_zero : ∀ {s : List Int}, invR s = 0 → s.Pairwise (· ≤ ·)
  | [], _ => List.Pairwise.nil
  | x :: r, h => by
    have h' : (r.filter (fun z => decide (z < x))).length + invR r = 0 := h
    refine List.Pairwise.cons (fun z hz => ?_) (invR_zero (by omega))
    have e : r.filter (fun z => decide (z < x)) = [] := List.eq_nil_of_length_eq_zero (by omega)
    have := List.filter_eq_nil_iff.mp e z hz
    simp at this
    exact this
theorem same_of_pos {n : Nat} {xs ys : List Int} (ox : IsOrd n xs) (oy : IsOrd n ys) (h : ∀ p ∈ rg n, pos ys (g0 xs p) = p) : xs = ys := by
  rw [g0_ord ox, g0_ord oy]
  apply List.map_congr_left
  intro p hp
  have e := g0_pos oy (g0_in ox hp)
  rw [h p hp] at e
  exact e.symm
theorem farW_zero {w : Str} {n : Nat} {xs ys : List Int} (hw : IsWay w) (ox : IsOrd n xs) (oy : IsOrd n ys) (hn : 1 ≤ n) (h : farW w xs ys = 0) : xs = ys := by
  rcases hw with rfl | rfl | rfl
  · rw [farW_swap] at h
    unfold farSwap at h
    rw [inv_NR] at h
    have hs := invR_zero (s := seatsL xs ys) (by omega)
    have e := sorted_eq (seats_ord ox oy) hs (rg_sorted n)
    refine same_of_pos ox oy fun p hp => ?_
    rw [← g0_seats ox hp, e]
    have h1 := rg_mem.mp hp
    have z : (rg n)[p.toNat]? = some p := by
      unfold rg
      rw [List.getElem?_map, List.getElem?_range (by omega)]
      show some ((p.toNat : Nat) : Int) = some p
      rw [Int.toNat_of_nonneg h1.1]
    have z2 := g0_at z
    rw [Int.toNat_of_nonneg h1.1] at z2
    exact z2
  · rw [farW_spot] at h
    unfold farSpot spotL at h
    have e : ((rg xs.length).filter fun p => !decide (g0 xs p = g0 ys p)) = [] := List.eq_nil_of_length_eq_zero (by omega)
    rw [g0_ord ox, g0_ord oy]
    apply List.map_congr_left
    intro p hp
    have := List.filter_eq_nil_iff.mp e p (by rw [ox.len]; exact hp)
    simpa using this
  · rw [farW_shift] at h
    have h2 := (shift_T (ys := ys) ox hn).2
    rw [h] at h2
    refine same_of_pos ox oy fun p hp => ?_
    have := h2 _ (g0_in ox hp)
    rw [pos_g0 ox hp] at this
    unfold absI at this
    split at this <;> omega
/-! ### by a third one never shorter -/
theorem farW_third {w : Str} {n : Nat} {xs ys zs : List Int} (hw : IsWay w) (ox : IsOrd n xs) (oy : IsOrd n ys) (oz : IsOrd n zs) (hn : 1 ≤ n) : farW w xs ys ≤ farW w xs zs + farW w zs ys := by
  rcases hw with rfl | rfl | rfl
  · rw [farW_swap, farW_swap, farW_swap, swap_T ox oy, swap_T ox oz, swap_T oz oy]
    have : swT n xs ys ≤ swT n xs zs + swT n zs ys := by
      unfold swT
      rw [← sumN_add]
      apply sumN_le
      intro t ht
      rw [← sumN_add]
      apply sumN_le
      intro u hu
      unfold dT
      apply ind_le
      intro h
      rw [Bool.and_eq_true] at h
      have h1 := of_decide_eq_true h.1
      have h2 := of_decide_eq_true h.2
      by_cases c : pos zs u < pos zs t
      · rw [ind_true (by rw [decide_eq_true h1, decide_eq_true c]; rfl)]
        omega
      · have ne : pos zs t ≠ pos zs u := fun e => by
          have := pos_inj oz ht hu e
          subst this
          omega
        rw [ind_true (a := decide (pos zs t < pos zs u) && decide (pos ys u < pos ys t)) (by rw [decide_eq_true (show pos zs t < pos zs u by omega), decide_eq_true h2]; rfl)]
        omega
    omega
  · rw [farW_spot, farW_spot, farW_spot, spot_T ox oy, spot_T ox oz, spot_T oz oy]
    have : spT n xs ys ≤ spT n xs zs + spT n zs ys := by
      unfold spT
      rw [← sumN_add]
      apply sumN_le
      intro t _
      apply ind_le
      intro h
      by_cases c : pos xs t = pos zs t
      · have d : ¬ (pos zs t = pos ys t) := fun e => by
          rw [c, e] at h
          simp at h
        rw [ind_true (a := !decide (pos zs t = pos ys t)) (by rw [decide_eq_false d]; rfl)]
        omega
      · rw [ind_true (a := !decide (pos xs t = pos zs t)) (by rw [decide_eq_false c]; rfl)]
        omega
    omega
  · rw [farW_shift, farW_shift, farW_shift]
    obtain ⟨t, ht, e⟩ := (shift_T (ys := ys) ox hn).1
    have h1 := (shift_T (ys := zs) ox hn).2 t ht
    have h2 := (shift_T (ys := ys) oz hn).2 t ht
    rw [e]
    unfold absI at h1 h2 ⊢
    split at h1 <;> split at h2 <;> split <;> omega
/-! ### called otherwise, and from behind -/
/-- two pairs of orders whose things stand alike -/
theorem farW_called {w : Str} {n : Nat} {xs ys xs' ys' : List Int} {r : Int → Int} (hw : IsWay w) (ox : IsOrd n xs) (oy : IsOrd n ys) (ox' : IsOrd n xs') (oy' : IsOrd n ys') (hn : 1 ≤ n) (hr : IsOrd n ((rg n).map r)) (h1 : ∀ t ∈ rg n, pos xs' (r t) = pos xs t) (h2 : ∀ t ∈ rg n, pos ys' (r t) = pos ys t) : farW w xs' ys' = farW w xs ys := by
  have sr : ∀ f : Int → Nat, sumN (rg n) f = sumN (rg n) fun t => f (r t) := fun f => by
    have e : sumN ((rg n).map r) f = sumN (rg n) fun t => f (r t) := sumN_map _ _ _
    rw [← e]
    exact (sumN_perm hr f).symm
  have rin : ∀ t ∈ rg n, r t ∈ rg n := fun t ht => rg_mem.mpr (hr.mem (List.mem_map.mpr ⟨t, ht, rfl⟩))
  have ron : ∀ t' ∈ rg n, ∃ t ∈ rg n, r t = t' := fun t' ht' => List.mem_map.mp ((List.Perm.mem_iff hr).mpr ht')
  rcases hw with rfl | rfl | rfl
  · rw [farW_swap, farW_swap, swap_T ox' oy', swap_T ox oy]
    congr 1
    unfold swT
    rw [sr]
    apply sumN_congr
    intro t ht
    rw [sr]
    apply sumN_congr
    intro u hu
    unfold dT
    rw [h1 t ht, h1 u hu, h2 t ht, h2 u hu]
  · rw [farW_spot, farW_spot, spot_T ox' oy', spot_T ox oy]
    congr 1
    unfold spT
    rw [sr]
    apply sumN_congr
    intro t ht
    rw [h1 t ht, h2 t ht]
  · rw [farW_shift, farW_shift]
    obtain ⟨⟨t, ht, e⟩, hle⟩ := shift_T (ys := ys) ox hn
    refine shift_of ox' ⟨r t, rin t ht, by rw [h1 t ht, h2 t ht]; exact e⟩ fun t' ht' => ?_
    obtain ⟨u, hu, rfl⟩ := ron t' ht'
    rw [h1 u hu, h2 u hu]
    exact hle u hu
theorem behind_ord {n : Nat} {ns ms : List Int} (o1 : IsOrd n ns) (o2 : IsOrd n ms) : IsOrd n (behindL ns ms) := by
  have h : (behindL ns ms).Perm ((rg n).map (g0 ns)) := List.Perm.map _ o2
  rw [← g0_ord o1] at h
  exact h.trans o1
theorem behind_pos {n : Nat} {zs xs : List Int} (oz : IsOrd n zs) (ox : IsOrd n xs) : ∀ t ∈ rg n, pos (behindL zs xs) (g0 zs t) = pos xs t := by
  intro t ht
  have h1 := rg_mem.mp ht
  obtain ⟨j, _, ej, pj⟩ := pos_at ox h1.1 h1.2
  obtain ⟨z, hz, _⟩ := ord_ix oz (j := t.toNat) (by omega)
  have e := g0_at hz
  rw [Int.toNat_of_nonneg h1.1] at e
  rw [e, pj]
  exact pos_of (behind_ord oz ox) (behind_at ej hz)
theorem rev_pos {n : Nat} {xs : List Int} (ox : IsOrd n xs) : ∀ t ∈ rg n, pos xs.reverse t = (n : Int) - 1 - pos xs t := by
  intro t ht
  have h1 := rg_mem.mp ht
  obtain ⟨j, hj, ej, pj⟩ := pos_at ox h1.1 h1.2
  have hl := ox.len
  have er : xs.reverse[n - 1 - j]? = some t := by
    rw [List.getElem?_reverse (by omega), hl, show n - 1 - (n - 1 - j) = j by omega]
    exact ej
  rw [pj, pos_of (n := n) ((List.reverse_perm xs).trans ox) er]
  omega
theorem farW_rev {w : Str} {n : Nat} {xs ys : List Int} (hw : IsWay w) (ox : IsOrd n xs) (oy : IsOrd n ys) (hn : 1 ≤ n) : farW w xs.reverse ys.reverse = farW w xs ys := by
  have ox' : IsOrd n xs.reverse := (List.reverse_perm xs).trans ox
  have oy' : IsOrd n ys.reverse := (List.reverse_perm ys).trans oy
  rcases hw with rfl | rfl | rfl
  · rw [farW_swap, farW_swap, swap_T ox' oy', swap_T ox oy]
    congr 1
    unfold swT
    rw [sumN_swap]
    apply sumN_congr
    intro t ht
    apply sumN_congr
    intro u hu
    unfold dT
    rw [rev_pos ox u hu, rev_pos ox t ht, rev_pos oy u hu, rev_pos oy t ht]
    congr 1
    congr 1
    · by_cases c : pos xs t < pos xs u
      · rw [decide_eq_true c, decide_eq_true (by omega)]
      · rw [decide_eq_false c, decide_eq_false (by omega)]
    · by_cases c : pos ys u < pos ys t
      · rw [decide_eq_true c, decide_eq_true (by omega)]
      · rw [decide_eq_false c, decide_eq_false (by omega)]
  · rw [farW_spot, farW_spot, spot_T ox' oy', spot_T ox oy]
    congr 1
    unfold spT
    apply sumN_congr
    intro t ht
    rw [rev_pos ox t ht, rev_pos oy t ht]
    by_cases c : pos xs t = pos ys t
    · rw [decide_eq_true c, decide_eq_true (by omega)]
    · rw [decide_eq_false c, decide_eq_false (by omega)]
  · rw [farW_shift, farW_shift]
    have ea : ∀ t ∈ rg n, absI (pos xs.reverse t - pos ys.reverse t) = absI (pos xs t - pos ys t) := fun t ht => by
      rw [rev_pos ox t ht, rev_pos oy t ht]
      unfold absI
      split <;> split <;> omega
    obtain ⟨⟨t, ht, e⟩, hle⟩ := shift_T (ys := ys) ox hn
    exact shift_of ox' ⟨t, ht, by rw [ea t ht]; exact e⟩ fun u hu => by rw [ea u hu]; exact hle u hu
/-! ### how far at most -/
theorem invR_two (s : List Int) : 2 * invR s + s.length ≤ s.length * s.length := by
  induction s with
  | nil => exact Nat.le_refl _
  | cons x r ih =>
    show 2 * ((r.filter _).length + invR r) + (r.length + 1) ≤ (r.length + 1) * (r.length + 1)
    have h1 : (r.filter (fun z => decide (z < x))).length ≤ r.length := List.length_filter_le _ _
    have h2 : (r.length + 1) * (r.length + 1) = r.length * r.length + r.length + r.length + 1 := by
      rw [Nat.add_mul, Nat.mul_add]
      omega
    omega
theorem swap_most {n : Nat} {xs ys : List Int} (ox : IsOrd n xs) : 2 * farSwap xs ys ≤ (n : Int) * ((n : Int) - 1) := by
  unfold farSwap
  rw [inv_NR]
  have h := invR_two (seatsL xs ys)
  rw [seats_len, ox.len] at h
  have e : (n : Int) * ((n : Int) - 1) = ((n * n : Nat) : Int) - (n : Int) := by
    rw [Int.mul_sub, Int.mul_one, Int.natCast_mul]
  rw [e]
  omega
theorem spot_most {n : Nat} {xs ys : List Int} (ox : IsOrd n xs) : farSpot xs ys ≤ n := by
  unfold farSpot spotL
  rw [ox.len]
  have h := List.length_filter_le (fun p => !decide (g0 xs p = g0 ys p)) (rg n)
  rw [rg_len] at h
  omega
theorem spot_one {n : Nat} {xs ys : List Int} (ox : IsOrd n xs) (oy : IsOrd n ys) : farSpot xs ys ≠ 1 := by
  intro h
  unfold farSpot at h
  obtain ⟨p, hp⟩ := List.length_eq_one_iff.mp (show (spotL xs ys).length = 1 by omega)
  have mem : ∀ q, q ∈ spotL xs ys ↔ q ∈ rg n ∧ g0 xs q ≠ g0 ys q := fun q => by
    unfold spotL
    rw [List.mem_filter, ox.len]
    simp
  have hpm := (mem p).mp (by rw [hp]; exact List.mem_cons_self)
  have hq := pos_in oy (g0_in ox hpm.1)
  have e := g0_pos oy (g0_in ox hpm.1)
  have nq : pos ys (g0 xs p) ≠ p := fun z => hpm.2 (by rw [z] at e; exact e.symm)
  have same : g0 xs (pos ys (g0 xs p)) = g0 ys (pos ys (g0 xs p)) := by
    by_cases c : g0 xs (pos ys (g0 xs p)) = g0 ys (pos ys (g0 xs p))
    · exact c
    · have := (mem _).mpr ⟨hq, c⟩
      rw [hp] at this
      exact absurd (List.mem_singleton.mp this) nq
  rw [e] at same
  have e2 := pos_g0 ox hq
  rw [same, pos_g0 ox hpm.1] at e2
  exact nq e2.symm
theorem shift_most {n : Nat} {xs ys : List Int} (ox : IsOrd n xs) (oy : IsOrd n ys) (hn : 1 ≤ n) : farShift xs ys ≤ (n : Int) - 1 := by
  obtain ⟨t, ht, e⟩ := (shift_T (ys := ys) ox hn).1
  have h1 := rg_mem.mp (pos_in ox ht)
  have h2 := rg_mem.mp (pos_in oy ht)
  rw [e]
  unfold absI
  split <;> omega
theorem below_sum (n : Nat) : ∀ b : Nat, b ≤ n → sumN (rg n) (fun j => ind (decide (j < (b : Int)))) = b := by
  induction n with
  | zero => intro b hb; have : b = 0 := by omega
            subst this; rfl
  | succ n ih =>
    intro b hb
    rw [rg_succ, sumN_append, sumN_cons, sumN_nil]
    by_cases c : b = n + 1
    · subst c
      rw [sumN_congr (g := fun j => ind (decide (j < (n : Int)))) (fun j hj => by
        have := rg_mem.mp hj
        rw [decide_eq_true this.2, decide_eq_true (show j < ((n + 1 : Nat) : Int) by omega)]), ih n (Nat.le_refl _), ind_true (decide_eq_true (by omega))]
    · rw [ih b (by omega), decide_eq_false (show ¬ ((n : Int) < (b : Int)) by omega)]
      rfl
/-- so many others stand the other way round as a thing is shifted -/
theorem turned_most {n : Nat} {xs ys : List Int} (ox : IsOrd n xs) (oy : IsOrd n ys) {t : Int} (ht : t ∈ rg n) : pos ys t - pos xs t ≤ ((sumN (rg n) (fun u => dT xs ys t u) : Nat) : Int) := by
  have h1 := rg_mem.mp (pos_in ox ht)
  have h2 := rg_mem.mp (pos_in oy ht)
  have ea := below_sum n (pos xs t).toNat (by omega)
  have eb := below_sum n (pos ys t).toNat (by omega)
  rw [sum_pos ox] at ea
  rw [sum_pos oy] at eb
  rw [Int.toNat_of_nonneg h1.1] at ea
  rw [Int.toNat_of_nonneg h2.1] at eb
  have : sumN (rg n) (fun u => ind (decide (pos ys u < pos ys t))) ≤ sumN (rg n) (fun u => ind (decide (pos xs u < pos xs t))) + sumN (rg n) (fun u => dT xs ys t u) := by
    rw [← sumN_add]
    apply sumN_le
    intro u hu
    apply ind_le
    intro h
    have hlt := of_decide_eq_true h
    by_cases c : pos xs u < pos xs t
    · rw [ind_true (decide_eq_true c)]
      omega
    · have ne : pos xs t ≠ pos xs u := fun e => by
        have := pos_inj ox ht hu e
        subst this
        omega
      unfold dT
      rw [ind_true (a := decide (pos xs t < pos xs u) && decide (pos ys u < pos ys t)) (by rw [decide_eq_true (show pos xs t < pos xs u by omega), decide_eq_true hlt]; rfl)]
      omega
  omega
theorem dT_turn (xs ys : List Int) (t u : Int) : dT ys xs t u = dT xs ys u t := by
  unfold dT
  rw [Bool.and_comm]
theorem turned_abs {n : Nat} {xs ys : List Int} (ox : IsOrd n xs) (oy : IsOrd n ys) {t : Int} (ht : t ∈ rg n) : absI (pos xs t - pos ys t) ≤ ((sumN (rg n) (fun u => dT xs ys t u) : Nat) : Int) + ((sumN (rg n) (fun u => dT xs ys u t) : Nat) : Int) := by
  have h1 := turned_most ox oy ht
  have h2 := turned_most oy ox ht
  rw [sumN_congr (g := fun u => dT xs ys u t) (fun u _ => dT_turn xs ys t u)] at h2
  unfold absI
  split <;> omega
theorem shift_swap {n : Nat} {xs ys : List Int} (ox : IsOrd n xs) (oy : IsOrd n ys) (hn : 1 ≤ n) : farShift xs ys ≤ farSwap xs ys := by
  obtain ⟨t, ht, e⟩ := (shift_T (ys := ys) ox hn).1
  have h1 := turned_most ox oy ht
  have h2 := turned_most oy ox ht
  have b1 : sumN (rg n) (fun u => dT xs ys t u) ≤ swT n xs ys := sumN_one (f := fun t => sumN (rg n) fun u => dT xs ys t u) ht
  have b2 : sumN (rg n) (fun u => dT ys xs t u) ≤ swT n ys xs := sumN_one (f := fun t => sumN (rg n) fun u => dT ys xs t u) ht
  have e1 := swap_T ox oy
  have e2 := swap_T oy ox
  have e3 := farSwap_turn ox oy
  rw [e]
  unfold absI
  split <;> omega
theorem spot_swap {n : Nat} {xs ys : List Int} (ox : IsOrd n xs) (oy : IsOrd n ys) : farSpot xs ys ≤ 2 * farSwap xs ys := by
  rw [spot_T ox oy, swap_T ox oy]
  have : spT n xs ys ≤ swT n xs ys + swT n xs ys := by
    have e : swT n xs ys = sumN (rg n) fun t => sumN (rg n) fun u => dT xs ys u t := by
      unfold swT
      rw [sumN_swap]
    have e2 : swT n xs ys + swT n xs ys = sumN (rg n) fun t => sumN (rg n) (fun u => dT xs ys t u) + sumN (rg n) (fun u => dT xs ys u t) := by
      rw [sumN_add, ← e]
      rfl
    rw [e2]
    unfold spT
    apply sumN_le
    intro t ht
    apply ind_le
    intro h
    have ha := turned_abs ox oy ht
    have ne : ¬ (pos xs t = pos ys t) := fun z => by
      rw [z] at h
      simp at h
    unfold absI at ha
    split at ha <;> omega
  omega
/-! ### backs -/
theorem back_list {n : Nat} {ns ps : List Int} (o : IsOrd n ns) (h : IsBack ns ps) : ps = (rg n).map (pos ns) := by
  apply List.ext_getElem?
  intro t
  by_cases c : t < n
  · have e := back_pos o h (x := (t : Int)) (by omega) (by omega)
    rw [Int.toNat_natCast] at e
    rw [e]
    unfold rg
    rw [List.map_map, List.getElem?_map, List.getElem?_range c]
    rfl
  · rw [List.getElem?_eq_none (by rw [h.1, o.len]; omega), List.getElem?_eq_none (by rw [List.length_map, rg_len]; omega)]
theorem back_ord {n : Nat} {ns ps : List Int} (o : IsOrd n ns) (h : IsBack ns ps) : IsOrd n ps := by
  rw [back_list o h]
  exact pos_ord o
theorem back_g0 {n : Nat} {ns ps : List Int} (o : IsOrd n ns) (h : IsBack ns ps) : ∀ t ∈ rg n, g0 ps t = pos ns t := by
  intro t ht
  have h1 := rg_mem.mp ht
  have e := g0_at (back_pos o h h1.1 h1.2)
  rw [Int.toNat_of_nonneg h1.1] at e
  exact e
theorem back_back {n : Nat} {ns ps : List Int} (o : IsOrd n ns) (h : IsBack ns ps) : IsBack ps ns := by
  refine ⟨h.1.symm, fun j x hx => ?_⟩
  have hj := (List.getElem?_eq_some_iff.mp hx).1
  rw [h.1, o.len] at hj
  obtain ⟨i, hi, ei, pi⟩ := pos_at o (x := (j : Int)) (by omega) (by omega)
  have e := back_pos o h (x := (j : Int)) (by omega) (by omega)
  rw [Int.toNat_natCast, hx] at e
  have ex : x = (i : Int) := (Option.some.inj e).trans pi
  rw [ex, Int.toNat_natCast]
  exact ei
theorem spot_back {n : Nat} {xs ys ps qs : List Int} (ox : IsOrd n xs) (oy : IsOrd n ys) (hp : IsBack xs ps) (hq : IsBack ys qs) : farSpot ps qs = farSpot xs ys := by
  rw [spot_T ox oy]
  unfold farSpot spotL spT
  rw [filter_len, hp.1, ox.len]
  congr 1
  apply sumN_congr
  intro t ht
  rw [back_g0 ox hp t ht, back_g0 oy hq t ht]
theorem behind_back {n : Nat} {xs ps : List Int} (ox : IsOrd n xs) (hp : IsBack xs ps) : behindL xs ps = rg n := by
  rw [back_list ox hp]
  unfold behindL
  rw [List.map_map]
  have e : (rg n).map ((fun p => xs.getD p.toNat 0) ∘ pos xs) = (rg n).map (fun t => t) := List.map_congr_left fun t ht => g0_pos ox ht
  rw [e, List.map_id']
theorem behind_assoc {n : Nat} {xs ys zs : List Int} (ox : IsOrd n xs) (oy : IsOrd n ys) (oz : IsOrd n zs) : behindL (behindL xs ys) zs = behindL xs (behindL ys zs) := by
  apply List.ext_getElem?
  intro i
  by_cases c : i < n
  · obtain ⟨z, hz, z0, z1⟩ := ord_ix oz c
    obtain ⟨y, hy, y0, y1⟩ := ord_ix oy (j := z.toNat) (by omega)
    obtain ⟨x, hx, _⟩ := ord_ix ox (j := y.toNat) (by omega)
    rw [behind_at hz (behind_at hy hx), behind_at (behind_at hz hy) hx]
  · rw [List.getElem?_eq_none (by rw [behind_len, oz.len]; omega), List.getElem?_eq_none (by rw [behind_len, behind_len, oz.len]; omega)]
end Fo
namespace L2
open PySem PySem.Spec PyProof.Rows PySem.W
/-! first, *others = a list -/
section
variable {X : Cx} {pos : Pos}
theorem pgs_star {e : Expr} {es : List Expr} {p : Pos} {t : TG} {u : TGs} (h1 : PG X e t) (h2 : PGs X es u)
    (hs : (assignEach (.Starred e p :: es) X.env).map (·.2) = assign e X.env :: (assignEach es X.env).map (·.2) := by rfl) : PGs X (.Starred e p :: es) (gCons t u) := by
  refine ⟨fun pins s σ H vs us Q I r h => ?_⟩
  obtain ⟨v, vr, e1, h⟩ := h
  subst e1
  cases r with
  | cons r rr =>
    rw [hs]
    refine assignInOrder_cons (thn (h1.run pins s σ H _ _ _ I r h) fun _ s1 ⟨σ1, H1, I1, q1⟩ => ?_)
    exact h2.run pins s1 σ1 H1 _ _ Q I1 rr q1
def gStar1 (K : PySem.W.Frag) (t : TGs) : TG := fun v σ H Q => ∃ a x xs, v = .ref a ∧ SqL K H a (x :: xs) ∧ xs.length < 16384 ∧ ∀ D, H D = none → t [x, .ref D] σ (upd H D (.lst xs)) Q
theorem pg_star1 {e1 e2 : Expr} {p : Pos} {k : Nat} {t : TGs} (hc : X.calm = true) (h : PGs X [e1, .Starred e2 p] t)
    (hn : (assignEach [e1, .Starred e2 p] X.env).length = 2 := by rfl) (hst : (assignEach [e1, .Starred e2 p] X.env).findIdx? (·.1) = some 1 := by rfl) : PG X (.Tuple [e1, .Starred e2 p] k pos) (gStar1 X.K t) := by
  refine ⟨fun pins s σ H v u Q I r hw => ?_⟩
  obtain ⟨a, x, xs, e0, hq, hz, hw⟩ := hw
  subst e0
  cases r
  obtain ⟨its, rv, pl, _⟩ := I.list hq
  cases rv with
  | cons r0 rr =>
    rename_i ux uxs
    have hh : X.A.handled = none := I.ok.hd hc
    have hl : s.heap.IsList a (ux :: uxs).toArray := by
      obtain ⟨o, m, e, c, d, q⟩ := pl
      exact ⟨o, e, c, m, q⟩
    have hlen : uxs.length = xs.length := rr.length.symm
    rw [PyProof.Rows.assign_Tuple]
    refine wpAny_bind (wpAny_standAt ?_)
    unfold unpack
    rw [hn, hst]
    refine wpAny_bind (wpAny_holding ?_)
    have hlt : a ≠ s.heap.objs.size := by obtain ⟨o, ho, _⟩ := hl; exact Nat.ne_of_lt (Heap.lt_size ho)
    unfold unpackItems
    refine wpAny_bind ?_
    unfold notIterableAtAll
    refine wpAny_bind (wpAny_specialOf hl.typeIs slot_list_iter.lookup ?_)
    refine wpAny_pure ?_
    simp only [Bool.false_eq_true, if_false]
    refine wpAny_bind (wpAny_holding (wpAny_pyIter_list hl ?_))
    have hsz : (ux :: uxs).toArray.size = uxs.length + 1 := by simp
    refine wpAny_bind (wpAny_holding (kun_draw hlt 1 0 _ _ ⟨_, Heap.get?_push_size _ rfl, rfl, rfl⟩ (hl.push _) (by omega) fun h₁ hit₁ hs₁ => ?_))
    have hl₁ : h₁.IsList a (ux :: uxs).toArray := (hl.push _).extBut hs₁.extBut hlt
    rw [Nat.zero_add] at hit₁
    have hit₁' := hit₁
    obtain ⟨oi, hoi, _⟩ := hit₁'
    have hl₁' := hl₁
    obtain ⟨ol, hol, _⟩ := hl₁'
    rw [List.drop_zero]
    show wpAny _ _ (if ([ux] : List Value).length < 1 then _ else _) _ _ _
    rw [if_neg (by simp)]
    refine wpAny_bind (wpAny_holding (kun_collect (s := { s with heap := h₁ }) (T := "list_iterator") (.inr (.inr (.inl rfl))) (Walks.list (A := X.A.in1) hh s.heap.objs.size a hlt (ux :: uxs).toArray) (fun j u st => st.1.typeIs) (k := 1) (by omega) ⟨hit₁, hl₁⟩ (Heap.lt_size hoi) (Heap.lt_size hol) (fun h₂ tk hk => ?_) (by rw [sizeLine_eq]; omega)))
    show wpAny _ _ (if uxs.length < 2 - 1 - 1 then _ else _) _ _ _
    rw [if_neg (by omega)]
    show wpAny _ _ (newList (uxs.take (uxs.length - 0)) >>= fun d => pure ([ux] ++ [d] ++ uxs.drop (uxs.length - 0))) _ _ _
    rw [Nat.sub_zero, List.take_length, List.drop_length]
    have he : ∀ b o, s.heap.get? b = some o → h₂.get? b = some o := fun b o e => by
      have hb : b ≠ s.heap.objs.size := Nat.ne_of_lt (Heap.lt_size e)
      exact hk b o hb (hs₁.extBut b o hb (Heap.get?_push_of_some _ e))
    have I1 : Inv X pins σ H { s with heap := h₂, toks := tk } := I.kept he
    refine wpAny_bind (wpAny_newList ?_ (by rw [sizeLine_eq]; omega))
    refine wpAny_pure ?_
    have I2 : Inv X pins σ (upd H h₂.objs.size (.lst xs)) { s with heap := h₂.push (seqObj "list" uxs.toArray 0), toks := tk } :=
      I1.laid (t' := tk) (fun b u e => Heap.get?_push_of_some _ e) (Nat.le_refl _)
        (show ObjOk X.prog X.w _ _ _ (.lst xs) from ⟨by rw [sizeLine_eq]; omega, uxs, 0, rr, Heap.get?_push_size _ rfl⟩)
    exact h.run pins _ σ _ [x, .ref h₂.objs.size] [ux, .ref h₂.objs.size] Q I2 (.cons r0 (.cons rfl .nil)) (hw _ (I1.hok.fresh (Nat.le_refl _)))
end
end L2
namespace Fo
open PySem PySem.Spec PyProof.Rows L2
/-! a Lister between two calls -/
/-- rows that stand: where each one is, and what it holds -/
def RP (H : Hp) (t : Addr) (ps : List (Addr × List Int)) : Prop := H t = some (.lst (ps.map fun p => V.ref p.1)) ∧ ∀ p ∈ ps, H p.1 = some (.lst (p.2.map V.int))
abbrev rws (ps : List (Addr × List Int)) : List (List Int) := ps.map (·.2)
theorem RP.same {H H' : Hp} {t : Addr} {ps : List (Addr × List Int)} (h : RP H t ps) (s : Same H H') : RP H' t ps := ⟨s _ _ h.1, fun p hp => s _ _ (h.2 p hp)⟩
def fldsL (w : Str) (n d : Int) (t e : Addr) : List (Str × V) := [("way", .str w), ("n", .int n), ("d", .int d), ("taken", .ref t), ("earlier", .ref e)]
theorem n_wn : (("n" : Str) == "way") = false := by decide +kernel
theorem n_wd : (("d" : Str) == "way") = false := by decide +kernel
theorem n_nd : (("d" : Str) == "n") = false := by decide +kernel
theorem n_wt : (("taken" : Str) == "way") = false := by decide +kernel
theorem n_nt : (("taken" : Str) == "n") = false := by decide +kernel
theorem n_dt : (("taken" : Str) == "d") = false := by decide +kernel
theorem n_we : (("earlier" : Str) == "way") = false := by decide +kernel
theorem n_ne : (("earlier" : Str) == "n") = false := by decide +kernel
theorem n_de : (("earlier" : Str) == "d") = false := by decide +kernel
theorem n_te : (("earlier" : Str) == "taken") = false := by decide +kernel
section
variable {w : Str} {n d : Int} {t e t' : Addr}
theorem fl_w : (fldsL w n d t e).lookup ("way" : Str) = some (V.str w) := by unfold fldsL; rw [List.lookup_cons_self]
theorem fl_n : (fldsL w n d t e).lookup ("n" : Str) = some (V.int n) := by unfold fldsL; rw [List.lookup_cons, n_wn, List.lookup_cons_self]
theorem fl_d : (fldsL w n d t e).lookup ("d" : Str) = some (V.int d) := by unfold fldsL; rw [List.lookup_cons, n_wd, List.lookup_cons, n_nd, List.lookup_cons_self]
theorem fl_t : (fldsL w n d t e).lookup ("taken" : Str) = some (V.ref t) := by unfold fldsL; rw [List.lookup_cons, n_wt, List.lookup_cons, n_nt, List.lookup_cons, n_dt, List.lookup_cons_self]
theorem fl_e : (fldsL w n d t e).lookup ("earlier" : Str) = some (V.ref e) := by unfold fldsL; rw [List.lookup_cons, n_we, List.lookup_cons, n_ne, List.lookup_cons, n_de, List.lookup_cons, n_te, List.lookup_cons_self]
theorem fl_no {m : Str} (h1 : (m == "way") = false) (h2 : (m == "n") = false) (h3 : (m == "d") = false) (h4 : (m == "taken") = false) (h5 : (m == "earlier") = false) : (fldsL w n d t e).lookup m = none := by
  unfold fldsL
  rw [List.lookup_cons, h1, List.lookup_cons, h2, List.lookup_cons, h3, List.lookup_cons, h4, List.lookup_cons, h5]
  rfl
end
/-- a Lister at a, its stack at e: rs its orders, ss those ahead of them, the last at the end -/
structure LsAt (C : Addr) (H : Hp) (a e : Addr) (X : List Addr) (w : Str) (n : Nat) (d : Int) (rs : List (List Int)) (ss : List (List (List Int))) : Prop where
  ex : ∃ (dx t : Addr) (ps : List (Addr × List Int)) (st : List (Addr × List (Addr × List Int))), H a = some (.ins C dx (fldsL w n d t e)) ∧ H e = some (.lst (st.map fun q => V.ref q.1)) ∧ RP H t ps ∧ rws ps = rs ∧ (∀ q ∈ st, RP H q.1 q.2) ∧ st.map (fun q => rws q.2) = ss ∧
    e ∈ X ∧ t ∉ X ∧ (∀ p ∈ ps, p.1 ∉ X) ∧ ∀ q ∈ st, q.1 ∉ X ∧ ∀ p ∈ q.2, p.1 ∉ X
  tr : ∀ x ∈ X, ∃ o, H x = some o
  wy : IsWay w
  n1 : 1 ≤ n
  n2 : n ≤ 8
  d1 : 1 ≤ d
  ord : ∀ r ∈ rs, IsOrd n r
  ords : ∀ s ∈ ss, ∀ r ∈ s, IsOrd n r
/-- what stays while a Lister is changed -/
def KpL (a e : Addr) (H H' : Hp) : Prop := ∀ b o, H b = some o → b ≠ a → b ≠ e → H' b = some o
theorem KpL.of_same {a e : Addr} {H H' : Hp} (s : Same H H') : KpL a e H H' := fun b o h _ _ => s b o h
theorem KpL.trans {a e : Addr} {H H1 H2 : Hp} (k : KpL a e H H1) (l : KpL a e H1 H2) : KpL a e H H2 := fun b o h n1 n2 => l b o (k b o h n1 n2) n1 n2
theorem LsAt.same {C : Addr} {H H' : Hp} {a e : Addr} {X : List Addr} {w : Str} {n : Nat} {d : Int} {rs : List (List Int)} {ss : List (List (List Int))} (h : LsAt C H a e X w n d rs ss) (s : Same H H') : LsAt C H' a e X w n d rs ss := by
  obtain ⟨⟨dx, t, ps, st, e1, e2, e3, e4, e5, e6, e7⟩, tr, r⟩ := h
  exact ⟨⟨dx, t, ps, st, s _ _ e1, s _ _ e2, e3.same s, e4, fun q hq => (e5 q hq).same s, e6, e7⟩, fun x hx => (tr x hx).imp fun o h => s _ _ h, by assumption, by assumption, by assumption, by assumption, by assumption, by assumption⟩
/-- the class, as the top has made it -/
structure TxL (K : PySem.W.Frag) (mg : Str → Option Value) (C fI : Addr) : Prop where
  cl : Cls K C
  mkx : Mk K C fI
  g : mg "Lister" = some (.ref C)
  nW : NoAttr K C "way"
  nN : NoAttr K C "n"
  nD : NoAttr K C "d"
  nT : NoAttr K C "taken"
  nE : NoAttr K C "earlier"
theorem ka : ¬ (("way" : Str) = "n") ∧ ¬ (("way" : Str) = "d") ∧ ¬ (("way" : Str) = "taken") ∧ ¬ (("way" : Str) = "earlier") ∧ ¬ (("n" : Str) = "d") ∧ ¬ (("n" : Str) = "taken") ∧ ¬ (("n" : Str) = "earlier") ∧ ¬ (("d" : Str) = "taken") ∧ ¬ (("d" : Str) = "earlier") ∧ ¬ (("taken" : Str) = "earlier") := by decide +kernel
theorem put_t (w : Str) (n d : Int) (t e t' : Addr) : putF "taken" (.ref t') (fldsL w n d t e) = fldsL w n d t' e := by
  obtain ⟨-, -, k1, -, -, k2, -, k3, -, -⟩ := ka
  unfold fldsL
  rw [putF, if_neg k1, putF, if_neg k2, putF, if_neg k3, putF, if_pos rfl]
theorem pl {f : Str} {v : V} : ∀ {fs : List (Str × V)} {n : Nat}, fs.length ≤ n → (putF f v fs).length ≤ n + 1
  | [], _, _ => Nat.succ_le_succ (Nat.zero_le _)
  | p :: fs, n, h => by
    unfold putF
    split
    · exact Nat.le_succ_of_le h
    · exact Nat.succ_le_succ (by cases n with | zero => exact absurd h (Nat.not_succ_le_zero _) | succ n => exact pl (Nat.le_of_succ_le_succ h))
theorem put_init (w : Str) (n d : Int) (t e : Addr) : putF "earlier" (.ref e) (putF "taken" (.ref t) (putF "d" (.int d) (putF "n" (.int n) (putF "way" (.str w) [])))) = fldsL w n d t e := by
  obtain ⟨k1, k2, k3, k4, k5, k6, k7, k8, k9, k10⟩ := ka
  unfold fldsL
  simp only [putF, if_neg k1, if_neg k2, if_neg k3, if_neg k4, if_neg k5, if_neg k6, if_neg k7, if_neg k8, if_neg k9, if_neg k10]
theorem RP.kpl {C dx : Addr} {fs : List (Str × V)} {a e t : Addr} {ps : List (Addr × List Int)} {H H' : Hp} (h : RP H t ps) (k : KpL a e H H') (ha : H a = some (.ins C dx fs)) (nt : t ≠ e) (np : ∀ p ∈ ps, p.1 ≠ e) : RP H' t ps :=
  ⟨k _ _ h.1 (ne_of h.1 ha (by intro z; cases z)) nt, fun p hp => k _ _ (h.2 p hp) (ne_of (h.2 p hp) ha (by intro z; cases z)) (np p hp)⟩
theorem RP.at {H : Hp} {t : Addr} {ps : List (Addr × List Int)} (h : RP H t ps) {i : Nat} {x : V} (hx : (ps.map fun p => V.ref p.1)[i]? = some x) : ∃ p, ps[i]? = some p ∧ x = .ref p.1 ∧ H p.1 = some (.lst (p.2.map V.int)) := by
  rw [List.getElem?_map] at hx
  cases e : ps[i]? with
  | none => rw [e] at hx; cases hx
  | some p => rw [e] at hx; exact ⟨p, rfl, (Option.some.inj hx).symm, h.2 p (List.mem_of_getElem? e)⟩
theorem rp_dps {K : PySem.W.Frag} {H : Hp} : ∀ {ps : List (Addr × List Int)}, (∀ p ∈ ps, H p.1 = some (.lst (p.2.map V.int))) → DpAll K H (ps.map fun p => V.ref p.1) ((rws ps).map dL)
  | [], _ => .nil
  | p :: ps, h => .cons (dp_list (h p List.mem_cons_self)) (rp_dps fun q hq => h q (List.mem_cons_of_mem _ hq))
theorem RP.dp {K : PySem.W.Frag} {H : Hp} {t : Addr} {ps : List (Addr × List Int)} (h : RP H t ps) : Dp K H (.ref t) (dLL (rws ps)) := .lst (SqL.of h.1) (rp_dps h.2)
theorem rws_at {ps : List (Addr × List Int)} {i : Nat} {p : Addr × List Int} (h : ps[i]? = some p) : (rws ps)[i]? = some p.2 := by rw [List.getElem?_map, h]; rfl
theorem take_p {α : Type} {ps : List α} {i : Nat} {p : α} (h : ps[i]? = some p) : ps.take (i + 1) = ps.take i ++ [p] := by rw [List.take_add_one, h]; rfl
theorem filter_p {α : Type} {ps : List α} {i : Nat} {p : α} (f : α → Bool) (h : ps[i]? = some p) : (ps.take (i + 1)).filter f = (ps.take i).filter f ++ (if f p = true then [p] else []) := by
  rw [take_p h, List.filter_append]
  show _ ++ List.filter f [p] = _
  rw [List.filter_cons]
  rfl
theorem trK {a e : Addr} {X : List Addr} {H H' : Hp} {o1 o2 : HO} (tr : ∀ x ∈ X, ∃ o, H x = some o) (k : KpL a e H H') (h1 : H' a = some o1) (h2 : H' e = some o2) : ∀ x ∈ X, ∃ o, H' x = some o := fun x hx => by
  obtain ⟨o, h⟩ := tr x hx
  by_cases c : x = a
  · exact ⟨o1, c ▸ h1⟩
  · by_cases c2 : x = e
    · exact ⟨o2, c2 ▸ h2⟩
    · exact ⟨o, k x o h c c2⟩
theorem LsAt.growL {C : Addr} {H H' : Hp} {a e : Addr} {X ys : List Addr} {w : Str} {n : Nat} {d : Int} {rs : List (List Int)} {ss : List (List (List Int))} (L : LsAt C H a e X w n d rs ss) (s : Same H H') (ny : ∀ y ∈ ys, H y = none ∧ ∃ o, H' y = some o) : LsAt C H' a e (ys ++ X) w n d rs ss := by
  obtain ⟨⟨dx, t, ps, st, e1, e2, e3, e4, e5, e6, eX, tX, pX, sX⟩, tr, r⟩ := L
  have ne : ∀ {b : Addr} {o : HO}, H b = some o → b ∉ X → b ∉ ys ++ X := fun {b o} h1 h2 z => by
    rcases List.mem_append.mp z with z | z
    · rw [(ny b z).1] at h1
      cases h1
    · exact h2 z
  refine ⟨⟨dx, t, ps, st, s _ _ e1, s _ _ e2, e3.same s, e4, fun q hq => (e5 q hq).same s, e6, List.mem_append_right _ eX, ne e3.1 tX, fun p hp => ne (e3.2 p hp) (pX p hp), fun q hq => ⟨ne (e5 q hq).1 (sX q hq).1, fun p hp => ne ((e5 q hq).2 p hp) ((sX q hq).2 p hp)⟩⟩, fun x hx => ?_, by assumption, by assumption, by assumption, by assumption, by assumption, by assumption⟩
  rcases List.mem_append.mp hx with hx | hx
  · exact (ny x hx).2
  · exact (tr x hx).imp fun o h => s _ _ h
def spInitL (C : Addr) : Sp := fun vs H Q _ => ∃ (a dx : Addr) (X : List Addr) (w : Str) (n : Nat) (d : Int), vs = [.ref a, .str w, .int n, .int d] ∧ H a = some (.ins C dx []) ∧ IsWay w ∧ 1 ≤ n ∧ n ≤ 8 ∧ 1 ≤ d ∧ (∀ x ∈ X, ∃ o, H x = some o) ∧ a ∉ X ∧
  ∀ (e : Addr) (H' : Hp), H e = none → LsAt C H' a e (e :: X) w n d [] [] → (∀ b o, H b = some o → b ≠ a → H' b = some o) → Q .non H'
def spManyOk : Sp := fun vs H Q _ => ∃ m : Int, vs = [.int m] ∧ m ≤ 120 ∧ Q .non H
def nearR (w : Str) (xs : List Int) (d : Int) (rs : List (List Int)) : List (List Int) := rs.filter fun r => decide (farW w xs r < d)
/-- new rows at l -/
def NewRows (H H' : Hp) (l : Addr) (qs : List (Addr × List Int)) : Prop := RP H' l qs ∧ H l = none ∧ ∀ q ∈ qs, H q.1 = none
def spComeL (C : Addr) : Sp := fun vs H Q _ => ∃ (a e o : Addr) (X : List Addr) (w : Str) (n : Nat) (d : Int) (rs : List (List Int)) (ss : List (List (List Int))) (xs : List Int), vs = [.ref a, .ref o] ∧ LsAt C H a e X w n d rs ss ∧ H o = some (.lst (xs.map V.int)) ∧ IsOrd n xs ∧ rs.length < 120 ∧ ss.length < 1000 ∧
  ∀ (l : Addr) (qs : List (Addr × List Int)) (rs' : List (List Int)) (ss' : List (List (List Int))) (H' : Hp), rws qs = nearR w xs d rs → (qs = [] → rs'.Perm (rs ++ [xs]) ∧ rs'.Pairwise (· ≤ ·) ∧ ss' = ss ++ [rs]) → (qs ≠ [] → rs' = rs ∧ ss' = ss) → NewRows H H' l qs → LsAt C H' a e (l :: (qs.map (·.1) ++ X)) w n d rs' ss' → KpL a e H H' → Q (.ref l) H'
def spChangeL (C : Addr) : Sp := fun vs H Q _ => ∃ (a e l : Addr) (X : List Addr) (w : Str) (n : Nat) (d : Int) (rs : List (List Int)) (ss : List (List (List Int))) (qs : List (Addr × List Int)), vs = [.ref a, .ref l] ∧ LsAt C H a e X w n d rs ss ∧ RP H l qs ∧ l ∉ X ∧ (∀ q ∈ qs, q.1 ∉ X) ∧ (∀ r ∈ rws qs, IsOrd n r) ∧ ss.length < 1000 ∧
  ∀ H', LsAt C H' a e X w n d (rws qs) (ss ++ [rs]) → KpL a e H H' → Q .non H'
def spDropL (C : Addr) : Sp := fun vs H Q _ => ∃ (a e o : Addr) (X : List Addr) (w : Str) (n : Nat) (d : Int) (rs : List (List Int)) (ss : List (List (List Int))) (xs : List Int), vs = [.ref a, .ref o] ∧ LsAt C H a e X w n d rs ss ∧ H o = some (.lst (xs.map V.int)) ∧ xs ∈ rs ∧ IsOrd n xs ∧ ss.length < 1000 ∧ rs.length ≤ 120 ∧
  ∀ H', LsAt C H' a e X w n d (rs.filter fun r => !decide (r = xs)) (ss ++ [rs]) → KpL a e H H' → Q .non H'
def spUndoL (C cN : Addr) : Sp := fun vs H Q E => ∃ (a e : Addr) (X : List Addr) (w : Str) (n : Nat) (d : Int) (rs : List (List Int)) (ss : List (List (List Int))), vs = [.ref a] ∧ LsAt C H a e X w n d rs ss ∧ (∀ r0 ss0, ss = ss0 ++ [r0] → ∀ H', LsAt C H' a e X w n d r0 ss0 → KpL a e H H' → Q .non H') ∧ (ss = [] → E (.ref cN) none H)
def spUndoN (C : Addr) : Sp := fun vs H Q _ => ∃ (a e : Addr) (X : List Addr) (w : Str) (n : Nat) (d : Int) (rs r0 : List (List Int)) (ss0 : List (List (List Int))), vs = [.ref a] ∧ LsAt C H a e X w n d rs (ss0 ++ [r0]) ∧ ∀ H', LsAt C H' a e X w n d r0 ss0 → KpL a e H H' → Q .non H'
def spLeast0 (C : Addr) : Sp := fun vs H Q _ => ∃ (a e : Addr) (X : List Addr) (w : Str) (n : Nat) (d : Int) (ss : List (List (List Int))), vs = [.ref a] ∧ LsAt C H a e X w n d [] ss ∧ ∀ H', Same H H' → Q .non H'
def spOrdersL (C : Addr) : Sp := fun vs H Q _ => ∃ (a e : Addr) (X : List Addr) (w : Str) (n : Nat) (d : Int) (rs : List (List Int)) (ss : List (List (List Int))), vs = [.ref a] ∧ LsAt C H a e X w n d rs ss ∧ rs.length ≤ 120 ∧ ∀ (l : Addr) (qs : List (Addr × List Int)) (H' : Hp), rws qs = rs → NewRows H H' l qs → Same H H' → Q (.ref l) H'
section
variable {P : Program} {w : World} {K : PySem.W.Frag} {mg : Str → Option Value} {base : Heap}
theorem scManyOk : FnScope ["many"] ["many"] (defScope s_check_many) := ⟨rfl, rfl, rfl, by decide +kernel, rfl, by decide +kernel, by decide +kernel⟩
theorem ok_manyOk {f : Addr} {fd : FuncData} {k : Nat} {tO : Tok} (T : Df K mg "check_many" s_check_many ["many"] f fd) (mO : mg "MOST_ORDERS" = some (.int 120 tO)) : FnOk P w K mg base CX0 (k + 1) f fd ["many"] spManyOk := by
  refine T.F.ok scManyOk (fun vs H Q E h => ?_) (fun cdv A outer s H vs Q E hr h => ?_)
  · obtain ⟨m, rfl, _⟩ := h
    rfl
  · obtain ⟨m, rfl, hm, q⟩ := h
    refine ⟨_, 
      (pss_one (ps_if (pt_cmpR op_gt (pv 0) (pe_glob (v := .int 120) (by rfl) mO ⟨_, rfl⟩) (nomark _))
        (pss_one ps_never)
        pss_nil)), ?_⟩
    refine ⟨_, rfl, m, 120, rfl, rfl, _, rfl, ?_⟩
    rw [decide_eq_false (show ¬ (120 : Int) < m by omega)]
    exact iteF q
end
end Fo
namespace Fo
open PySem PySem.Spec PyProof.Rows L2
def nearL (w : Str) (n : Nat) (xs : List Int) (r : Int) : List (List Int) := (allK n n).filter fun o => decide (farW w xs o ≤ r)
theorem filter_moreL {l : List (List Int)} {m : Nat} {x : List Int} (p : List Int → Bool) (h : l[m]? = some x) : (l.take (m + 1)).filter p = (l.take m).filter p ++ (if p x then [x] else []) := by
  rw [List.take_add_one, h, List.filter_append]
  show _ ++ List.filter p [x] = _
  rw [List.filter_cons]
  rfl
theorem extend_LL {H : Hp} : ∀ {as bs : List Addr} {rs ss : List (List Int)}, LL H as rs → LL H bs ss → LL H (as ++ bs) (rs ++ ss)
  | [], _, [], _, _, h => h
  | [], _, _ :: _, _, h, _ => h.elim
  | _ :: _, _, [], _, h, _ => h.elim
  | _ :: _, _, _ :: _, _, h, h2 => ⟨h.1, extend_LL h.2 h2⟩
end Fo
namespace Fo
open PySem PySem.Spec PyProof.Rows L2
theorem rows_eq {a b : List (List Int)} (hp : a.Perm b) (ha : a.Pairwise (· ≤ ·)) (hb : b.Pairwise (· ≤ ·)) : a = b := List.Perm.eq_of_pairwise (fun x y _ _ h1 h2 => List.le_antisymm h1 h2) ha hb hp
/-- all orders stand in order -/
theorem extO_sorted (n : Nat) (o : List Int) : (extO n o).Pairwise (· < ·) := by
  unfold extO
  rw [List.pairwise_map]
  have h : (rg n).Pairwise (· < ·) := by
    unfold rg
    exact List.Pairwise.map _ (fun a b h => by omega) List.pairwise_lt_range
  exact (h.filter _).imp fun {a b} h => by
    induction o with
    | nil => exact List.cons_lt_cons_iff.mpr (.inl h)
    | cons x o ih => exact List.cons_lt_cons_iff.mpr (.inr ⟨rfl, ih⟩)
theorem lt_snoc {a b : List Int} (hl : a.length = b.length) (h : a < b) (x y : Int) : a ++ [x] < b ++ [y] := by
  induction a generalizing b with
  | nil =>
    match b, hl with
    | [], _ => exact absurd h (List.lt_irrefl _)
  | cons u a ih =>
    match b, hl with
    | v :: b, hl =>
      rcases List.cons_lt_cons_iff.mp h with h1 | ⟨h1, h2⟩
      · exact List.cons_lt_cons_iff.mpr (.inl h1)
      · exact List.cons_lt_cons_iff.mpr (.inr ⟨h1, ih (by simpa using hl) h2⟩)
theorem allK_sorted {n : Nat} : ∀ k, (allK n k).Pairwise (· < ·)
  | 0 => List.pairwise_singleton _ _
  | k + 1 => by
    show List.Pairwise _ ((allK n k).flatMap (extO n))
    rw [List.pairwise_flatMap]
    refine ⟨fun o _ => extO_sorted n o, (allK_sorted k).imp_of_mem fun {a b} ha hb h x hx y hy => ?_⟩
    obtain ⟨t, _, rfl⟩ := List.mem_map.mp hx
    obtain ⟨u, _, rfl⟩ := List.mem_map.mp hy
    exact lt_snoc (by rw [(allK_row k a ha).1, (allK_row k b hb).1]) h t u
theorem near_sorted {w : Str} {n : Nat} {xs : List Int} {r : Int} : (nearL w n xs r).Pairwise (· ≤ ·) := ((allK_sorted n).filter _).imp fun h => List.le_of_lt h
end Fo
namespace Fo
open PySem PySem.Spec PyProof.Rows L2
/-! ### all orders: each once -/
theorem allK_mem {n : Nat} : ∀ (k : Nat) (r : List Int), r.length = k → r.Nodup → (∀ x ∈ r, x ∈ rg n) → r ∈ allK n k
  | 0, r, hl, _, _ => by rw [List.length_eq_zero_iff.mp hl]; exact List.mem_cons_self
  | k + 1, r, hl, hn, hs => by
    have hne : r ≠ [] := fun e => by rw [e] at hl; cases hl
    have e := List.dropLast_concat_getLast hne
    rw [← e] at hn hs ⊢
    rw [List.nodup_append] at hn
    have ih := allK_mem k r.dropLast (by rw [List.length_dropLast, hl]; rfl) hn.1 fun x hx => hs x (List.mem_append.mpr (.inl hx))
    refine List.mem_flatMap.mpr ⟨_, ih, List.mem_map.mpr ⟨r.getLast hne, List.mem_filter.mpr ⟨hs _ (List.mem_append.mpr (.inr (List.mem_singleton.mpr rfl))), ?_⟩, rfl⟩⟩
    rw [decide_eq_false (fun z => hn.2.2 _ z _ (List.mem_singleton.mpr rfl) rfl)]
    rfl
theorem ord_mem {n : Nat} {r : List Int} (o : IsOrd n r) : r ∈ allK n n := allK_mem n r o.len o.nodup fun x hx => rg_mem.mpr (o.mem hx)
theorem allK_nodup {n : Nat} : ∀ k, (allK n k).Nodup
  | 0 => List.nodup_cons.mpr ⟨List.not_mem_nil, List.nodup_nil⟩
  | k + 1 => by
    have ih := allK_nodup (n := n) k
    show List.Pairwise _ ((allK n k).flatMap (extO n))
    rw [List.pairwise_flatMap]
    refine ⟨fun o _ => ?_, ih.imp fun {a b} hab x hx y hy e => ?_⟩
    · unfold extO
      refine List.Pairwise.map _ (fun a b h e => h ?_) ((rg_nodup n).filter _)
      have := List.append_cancel_left e
      exact (List.cons.inj this).1
    · obtain ⟨t, _, rfl⟩ := List.mem_map.mp hx
      obtain ⟨u, _, rfl⟩ := List.mem_map.mp hy
      exact hab (List.append_inj_left' e rfl)
theorem nodup_lenG : ∀ {l m : List (List Int)}, l.Nodup → (∀ x ∈ l, x ∈ m) → l.length ≤ m.length
  | [], m, _, _ => Nat.zero_le _
  | a :: l, m, hn, hs => by
    obtain ⟨h1, h2⟩ := List.nodup_cons.mp hn
    have ha := hs a List.mem_cons_self
    have ih := nodup_lenG (l := l) (m := m.erase a) h2 fun x hx => by
      have ne : x ≠ a := fun e => h1 (by rw [← e]; exact hx)
      exact (List.mem_erase_of_ne ne).mpr (hs x (List.mem_cons_of_mem _ hx))
    rw [List.length_erase_of_mem ha] at ih
    have : 0 < m.length := List.length_pos_of_mem ha
    rw [List.length_cons]
    omega
theorem nodup_perm {l m : List (List Int)} (hl : l.Nodup) (hm : m.Nodup) (h : ∀ x, x ∈ l ↔ x ∈ m) : l.Perm m := by
  rw [List.perm_iff_count]
  intro a
  have c : ∀ {l : List (List Int)}, l.Nodup → l.count a = if a ∈ l then 1 else 0 := by
    intro l hl
    by_cases ha : a ∈ l
    · rw [if_pos ha]
      have h1 := List.nodup_iff_count.mp hl a
      have h2 := List.count_pos_iff.mpr ha
      omega
    · rw [if_neg ha]
      exact List.count_eq_zero.mpr ha
  rw [c hl, c hm]
  by_cases ha : a ∈ l
  · rw [if_pos ha, if_pos ((h a).mp ha)]
  · rw [if_neg ha, if_neg (fun z => ha ((h a).mpr z))]
theorem seats_inj {n : Nat} {xs a b : List Int} (ox : IsOrd n xs) (oa : IsOrd n a) (ob : IsOrd n b) (e : seatsL a xs = seatsL b xs) : a = b := by
  apply List.ext_getElem?
  intro i
  by_cases h : i < n
  · obtain ⟨x, ex, x0, x1⟩ := ord_ix oa h
    obtain ⟨y, ey, y0, y1⟩ := ord_ix ob h
    have h1 := seats_at (ys := xs) ex
    have h2 := seats_at (ys := xs) ey
    rw [e, h2] at h1
    have h3 := Option.some.inj h1
    rw [ex, ey, pos_inj ox (rg_mem.mpr ⟨x0, x1⟩) (rg_mem.mpr ⟨y0, y1⟩) h3.symm]
  · rw [List.getElem?_eq_none (by rw [oa.len]; omega), List.getElem?_eq_none (by rw [ob.len]; omega)]
/-- all orders, called by their seats in one of them, are all orders -/
theorem seats_all {n : Nat} {xs : List Int} (ox : IsOrd n xs) : ((allK n n).map fun o => seatsL o xs).Perm (allK n n) := by
  have hnd : ((allK n n).map fun o => seatsL o xs).Nodup := by
    show List.Pairwise _ _
    rw [List.pairwise_map]
    exact (allK_nodup n).imp_of_mem fun ha hb h e => h (seats_inj ox (all_ord ha) (all_ord hb) e)
  have hsub : ∀ x ∈ (allK n n).map fun o => seatsL o xs, x ∈ allK n n := fun x h => by
    obtain ⟨o, ho, rfl⟩ := List.mem_map.mp h
    exact ord_mem (seats_ord (all_ord ho) ox)
  refine nodup_perm hnd (allK_nodup n) fun x => ⟨hsub x, fun h => Classical.byContradiction fun hx => ?_⟩
  have hl := nodup_lenG (l := x :: (allK n n).map fun o => seatsL o xs) (m := allK n n) (List.nodup_cons.mpr ⟨hx, hnd⟩) fun y hy => by
    rcases List.mem_cons.mp hy with rfl | hy
    · exact h
    · exact hsub y hy
  rw [List.length_cons, List.length_map] at hl
  omega
end Fo
namespace Fo
open PySem PySem.Spec PyProof.Rows L2
/-! ### orders within, with things called or places put otherwise -/
theorem map_all {n : Nat} {g : List Int → List Int} (hg : ∀ o, IsOrd n o → IsOrd n (g o)) (hi : ∀ a b, IsOrd n a → IsOrd n b → g a = g b → a = b) : ((allK n n).map g).Perm (allK n n) := by
  have hnd : ((allK n n).map g).Nodup := by
    show List.Pairwise _ _
    rw [List.pairwise_map]
    exact (allK_nodup n).imp_of_mem fun ha hb h e => h (hi _ _ (all_ord ha) (all_ord hb) e)
  have hsub : ∀ x ∈ (allK n n).map g, x ∈ allK n n := fun x h => by
    obtain ⟨o, ho, rfl⟩ := List.mem_map.mp h
    exact ord_mem (hg _ (all_ord ho))
  refine nodup_perm hnd (allK_nodup n) fun x => ⟨hsub x, fun h => Classical.byContradiction fun hx => ?_⟩
  have hl := nodup_lenG (l := x :: (allK n n).map g) (m := allK n n) (List.nodup_cons.mpr ⟨hx, hnd⟩) fun y hy => by
    rcases List.mem_cons.mp hy with rfl | hy
    · exact h
    · exact hsub y hy
  rw [List.length_cons, List.length_map] at hl
  omega
theorem near_map {w : Str} {n : Nat} {xs : List Int} {r : Int} {g : List Int → List Int} (hg : ∀ o, IsOrd n o → IsOrd n (g o)) (hi : ∀ a b, IsOrd n a → IsOrd n b → g a = g b → a = b) (hf : ∀ o, IsOrd n o → farW w (g xs) (g o) = farW w xs o) : ((nearL w n xs r).map g).Perm (nearL w n (g xs) r) := by
  have h := (map_all hg hi).filter fun o => decide (farW w (g xs) o ≤ r)
  rw [List.filter_map] at h
  have e : (allK n n).filter ((fun o => decide (farW w (g xs) o ≤ r)) ∘ g) = nearL w n xs r := by
    unfold nearL
    apply List.filter_congr
    intro o ho
    show decide (farW w (g xs) (g o) ≤ r) = _
    rw [hf o (all_ord ho)]
  rw [e] at h
  exact h
theorem back_is {n : Nat} {ns : List Int} (o : IsOrd n ns) : IsBack ns ((rg n).map (pos ns)) := by
  refine ⟨by rw [List.length_map, rg_len, o.len], fun j x hx => ?_⟩
  have hb := o.mem (List.mem_of_getElem? hx)
  unfold rg
  rw [List.map_map, List.getElem?_map, List.getElem?_range (by omega)]
  show some (pos ns ((x.toNat : Nat) : Int)) = _
  rw [show ((x.toNat : Nat) : Int) = x by omega, pos_of o hx]
theorem behind_first {n : Nat} {o : List Int} (oo : IsOrd n o) : behindL (rg n) o = o := by
  unfold behindL
  have e : o.map (fun p => (rg n).getD p.toNat 0) = o.map id := by
    apply List.map_congr_left
    intro p hp
    have hb := oo.mem hp
    unfold rg
    rw [List.getD_eq_getElem?_getD, List.getElem?_map, List.getElem?_range (by omega)]
    show ((p.toNat : Nat) : Int) = p
    omega
  rw [e, List.map_id]
theorem behind_last {n : Nat} {o : List Int} (oo : IsOrd n o) : behindL o (rg n) = o := by
  have h := by_places o
  rw [oo.len] at h
  exact h.symm
theorem rg_ord (n : Nat) : IsOrd n (rg n) := List.Perm.refl _
theorem behind_inj {n : Nat} {z a b : List Int} (oz : IsOrd n z) (oa : IsOrd n a) (ob : IsOrd n b) (e : behindL z a = behindL z b) : a = b := by
  have hb := back_is oz
  have op := back_ord oz hb
  have h := congrArg (behindL ((rg n).map (pos z))) e
  rw [← behind_assoc op oz oa, ← behind_assoc op oz ob, behind_back op (back_back oz hb), behind_first oa, behind_first ob] at h
  exact h
theorem behind_inj2 {n : Nat} {z a b : List Int} (oz : IsOrd n z) (oa : IsOrd n a) (ob : IsOrd n b) (e : behindL a z = behindL b z) : a = b := by
  have hb := back_is oz
  have op := back_ord oz hb
  have h := congrArg (fun l => behindL l ((rg n).map (pos z))) e
  rw [behind_assoc oa oz op, behind_assoc ob oz op, behind_back oz hb, behind_last oa, behind_last ob] at h
  exact h
theorem far_behind {w : Str} {n : Nat} {z xs o : List Int} (hw : IsWay w) (oz : IsOrd n z) (ox : IsOrd n xs) (oo : IsOrd n o) (hn : 1 ≤ n) : farW w (behindL z xs) (behindL z o) = farW w xs o :=
  farW_called (r := g0 z) hw ox oo (behind_ord oz ox) (behind_ord oz oo) hn (by rw [← g0_ord oz]; exact oz) (behind_pos oz ox) (behind_pos oz oo)
theorem g0_behind {n : Nat} {xs z : List Int} (oz : IsOrd n z) {p : Int} (hp : p ∈ rg n) : g0 (behindL xs z) p = g0 xs (g0 z p) := by
  obtain ⟨h0, h1⟩ := rg_mem.mp hp
  obtain ⟨x, ex, _⟩ := ord_ix oz (j := p.toNat) (by omega)
  have ep : p = ((p.toNat : Nat) : Int) := by omega
  have e1 : g0 z p = x := by rw [ep]; exact g0_at ex
  unfold behindL
  rw [e1, ep]
  have : (z.map fun p => xs.getD p.toNat 0)[p.toNat]? = some (xs.getD x.toNat 0) := by rw [List.getElem?_map, ex]; rfl
  rw [g0_at this]
  rfl
theorem spot_behind {n : Nat} {z xs o : List Int} (oz : IsOrd n z) (ox : IsOrd n xs) (oo : IsOrd n o) : farSpot (behindL xs z) (behindL o z) = farSpot xs o := by
  unfold farSpot spotL
  rw [behind_len, oz.len, ox.len, filter_len, filter_len, sum_g0 oz (fun p => ind (!decide (g0 xs p = g0 o p)))]
  congr 1
  apply sumN_congr
  intro p hp
  rw [g0_behind oz hp, g0_behind oz hp]
theorem rev_ord {n : Nat} {o : List Int} (oo : IsOrd n o) : IsOrd n o.reverse := (List.reverse_perm o).trans oo
theorem rev_inj {a b : List Int} (e : a.reverse = b.reverse) : a = b := by rw [← List.reverse_reverse a, e, List.reverse_reverse]
/-! lists of rows as pairs -/
theorem LL_zip {H : Hp} : ∀ {as : List Addr} {rs : List (List Int)}, LL H as rs → (as.zip rs).map (·.1) = as ∧ (as.zip rs).map (·.2) = rs ∧ ∀ p ∈ as.zip rs, H p.1 = some (.lst (p.2.map V.int))
  | [], [], _ => ⟨rfl, rfl, fun p hp => absurd hp List.not_mem_nil⟩
  | [], _ :: _, h => h.elim
  | _ :: _, [], h => h.elim
  | a :: as, r :: rs, h => by
    obtain ⟨h1, h2, h3⟩ := LL_zip h.2
    refine ⟨congrArg (a :: ·) h1, congrArg (r :: ·) h2, fun p hp => ?_⟩
    rcases List.mem_cons.mp hp with rfl | hp
    · exact h.1
    · exact h3 p hp
theorem LL_ps {H : Hp} : ∀ {qs : List (Addr × List Int)}, (∀ p ∈ qs, H p.1 = some (.lst (p.2.map V.int))) → LL H (qs.map (·.1)) (qs.map (·.2))
  | [], _ => trivial
  | q :: qs, h => ⟨h q List.mem_cons_self, LL_ps fun p hp => h p (List.mem_cons_of_mem _ hp)⟩
/-- what is sorted of rows -/
theorem sorted_rows {K : PySem.W.Frag} {H : Hp} {D : Addr} {bs : List Addr} {rs ss : List (List Int)} (hD : H D = some (.lst (bs.map V.ref))) (hL : LL H bs rs) (hp : rs.Perm ss) (hs : ss.Pairwise (· ≤ ·)) :
    ∃ ps : List (Addr × List Int), SqL K H D (ps.map fun p => V.ref p.1) ∧ (∀ p ∈ ps, Dp K H (.ref p.1) (dL p.2)) ∧ ∀ l, H l = none → ∃ cs : List Addr, ((rowsR ps).map fun p => V.ref p.1) = cs.map V.ref ∧ LL (upd H l (.lst (cs.map V.ref))) cs ss ∧ ∀ c ∈ cs, c ∈ bs := by
  obtain ⟨h1, h2, h3⟩ := LL_zip hL
  have e1 : bs.map V.ref = (bs.zip rs).map fun p => V.ref p.1 := by
    have h4 := congrArg (List.map V.ref) h1
    rw [List.map_map] at h4
    exact h4.symm
  refine ⟨bs.zip rs, SqL.of (by rw [hD, e1]), fun p hp2 => dp_list (h3 p hp2), fun l nl => ⟨(rowsR (bs.zip rs)).map (·.1), by rw [List.map_map]; rfl, ?_, fun c hc => ?_⟩⟩
  · have e3 : (rowsR (bs.zip rs)).map (·.2) = ss := by
      refine rows_eq (((rowsR_perm _).map _).trans ?_) (rowsR_sorted _) hs
      rw [h2]
      exact hp
    rw [← e3]
    refine LL_ps fun p hp2 => ?_
    have h4 := h3 p ((rowsR_perm _).mem_iff.mp hp2)
    rw [upd_ne (ne_of_none h4 nl)]
    exact h4
  · obtain ⟨p, hp2, rfl⟩ := List.mem_map.mp hc
    have := (rowsR_perm _).mem_iff.mp hp2
    rw [← h1]
    exact List.mem_map.mpr ⟨p, this, rfl⟩
end Fo
namespace Fo
open PySem PySem.Spec PyProof.Rows L2
def spAllO : Sp := fun vs H Q _ => ∃ n : Nat, vs = [.int n] ∧ 1 ≤ n ∧ n ≤ 6 ∧ ∀ (l : Addr) (as : List Addr) (H' : Hp), H l = none → H' l = some (.lst (as.map V.ref)) → LL H' as (allK n n) → (∀ a ∈ as, H a = none ∧ a ≠ l) → as.Nodup → Same H H' → Q (.ref l) H'
end Fo
namespace Fo
open PySem PySem.Spec PyProof.Rows L2
/-- an inner for over a list that stands still -/
theorem in_list {K : PySem.W.Frag} {a : Addr} {xs : List V} {g1 : TG} {tt1 : TT} {te : TE} {vs1 : List Nat} {σ2 : L2.St} {H4 : Hp} {D : Addr} {Nx : Hp → Prop} (Pw : Nat → Hp → Prop) (h0 : Pw 0 H4) (hl : ∀ i H, i ≤ xs.length → Pw i H → SqL K H a xs)
    (hs : ∀ j x H, xs[j]? = some x → Pw j H → g1 x (wipe σ2 vs1) H fun σ3 H5 => wipe σ3 vs1 = wipe σ2 vs1 ∧ tt1 σ3 H5 fun b H6 =>
      if b = true then te σ3 H6 fun y H7 => ∃ acc, H7 D = some (.lst acc) ∧ acc.length < sizeLine ∧ Pw (j + 1) (upd H7 D (.lst (acc ++ [y]))) else Pw (j + 1) H6) (hd : ∀ H, Pw xs.length H → Nx H) :
    ∃ W1 : Nat → Nat → Hp → Prop, (∃ m, W1 0 m H4) ∧ ∀ j k H, W1 j k H →
      ((Itl K a).stop j H ∧ Nx H) ∨ ((Itl K a).go j H ∧ ∃ Nx1 : Hp → Prop, (∀ H', Nx1 H' → ∃ k', k' < k ∧ W1 (j + 1) k' H') ∧ ∀ x H', (Itl K a).yld j H x H' → g1 x (wipe σ2 vs1) H' fun σ3 H5 => wipe σ3 vs1 = wipe σ2 vs1 ∧ tt1 σ3 H5 fun b H6 =>
        if b = true then te σ3 H6 fun y H7 => ∃ acc, H7 D = some (.lst acc) ∧ acc.length < sizeLine ∧ Nx1 (upd H7 D (.lst (acc ++ [y]))) else Nx1 H6) := by
  refine ⟨fun j m H => m = xs.length - j ∧ j ≤ xs.length ∧ Pw j H, ⟨xs.length, by simp, Nat.zero_le _, h0⟩, ?_⟩
  rintro j m H ⟨rfl, hi, p⟩
  have q := hl j H hi p
  by_cases hlt : j < xs.length
  · refine .inr ⟨⟨xs, xs[j], q, by simp [hlt]⟩, Pw (j + 1), fun H' p' => ⟨xs.length - (j + 1), by omega, rfl, hlt, p'⟩, fun x H' y => ?_⟩
    obtain ⟨e, y⟩ := y
    subst e
    exact hs j x _ (y _ q) p
  · have e : j = xs.length := by omega
    subst e
    exact .inl ⟨⟨xs, q, Nat.le_refl _⟩, hd H p⟩
/-! ### orders with choices -/
def extC (ch : List Int) (o : List Int) : List (List Int) := (ch.filter fun t => !decide (t ∈ o)).map fun t => o ++ [t]
def ordW (chs : List (List Int)) : List (List Int) := chs.foldl (fun b ch => b.flatMap (extC ch)) [[]]
theorem ordW_more {chs : List (List Int)} {i : Nat} {ch : List Int} (h : chs[i]? = some ch) : ordW (chs.take (i + 1)) = (ordW (chs.take i)).flatMap (extC ch) := by
  unfold ordW
  rw [List.take_add_one, h, List.foldl_append]
  rfl
theorem extC_more {ch : List Int} {o : List Int} {j : Nat} {t : Int} (h : ch[j]? = some t) : extC (ch.take (j + 1)) o = extC (ch.take j) o ++ (if t ∈ o then [] else [o ++ [t]]) := by
  unfold extC
  rw [List.take_add_one, h, List.filter_append, List.map_append]
  congr 1
  show List.map _ (List.filter _ [t]) = _
  rw [List.filter_cons]
  by_cases c : t ∈ o
  · rw [decide_eq_true c, if_pos c]
    rfl
  · rw [decide_eq_false c, if_neg c]
    rfl
theorem extC_len (ch o : List Int) : (extC ch o).length ≤ ch.length := by
  unfold extC
  rw [List.length_map]
  exact List.length_filter_le _ _
theorem flatC_len (ch : List Int) : ∀ l : List (List Int), (l.flatMap (extC ch)).length ≤ l.length * ch.length
  | [] => Nat.zero_le _
  | o :: l => by
    rw [List.flatMap_cons, List.length_append, List.length_cons, Nat.add_mul, Nat.one_mul]
    have := flatC_len ch l
    have := extC_len ch o
    omega
theorem ordW_all (n : Nat) : ∀ i, ordW (List.replicate i (rg n)) = allK n i
  | 0 => rfl
  | i + 1 => by
    have h := ordW_more (chs := List.replicate (i + 1) (rg n)) (i := i) (ch := rg n) (by rw [List.getElem?_replicate, if_pos (by omega)])
    rw [List.take_of_length_le (by rw [List.length_replicate]; omega), List.take_replicate, Nat.min_eq_left (by omega), ordW_all n i] at h
    exact h
theorem ordW_rows : ∀ (i : Nat) (chs : List (List Int)), ∀ r ∈ ordW (chs.take i), r.length ≤ i
  | 0, chs, r, h => by
    rw [List.take_zero] at h
    rw [List.mem_singleton.mp h]
    exact Nat.le_refl _
  | i + 1, chs, r, h => by
    cases e : chs[i]? with
    | none =>
      have : chs.take (i + 1) = chs.take i := by rw [List.take_add_one, e]; simp
      rw [this] at h
      exact Nat.le_succ_of_le (ordW_rows i chs r h)
    | some ch =>
      rw [ordW_more e] at h
      obtain ⟨o, ho, hr⟩ := List.mem_flatMap.mp h
      obtain ⟨t, _, rfl⟩ := List.mem_map.mp hr
      have := ordW_rows i chs o ho
      rw [List.length_append]
      show _ + 1 ≤ _
      omega
def spOrdW : Sp := fun vs H Q _ => ∃ (c : Addr) (cs : List Addr) (chs : List (List Int)), vs = [.ref c] ∧ H c = some (.lst (cs.map V.ref)) ∧ LL H cs chs ∧ chs.length ≤ 12 ∧ (∀ ch ∈ chs, ch.length ≤ 12) ∧ (∀ i, i ≤ chs.length → (ordW (chs.take i)).length ≤ 100000) ∧
  ∀ (l : Addr) (as : List Addr) (H' : Hp), H l = none → H' l = some (.lst (as.map V.ref)) → LL H' as (ordW chs) → (∀ a ∈ as, H a = none ∧ a ≠ l) → as.Nodup → Same H H' → Q (.ref l) H'
section
variable {P : Program} {w : World} {K : PySem.W.Frag} {mg : Str → Option Value} {base : Heap}
theorem scOrdW : FnScope ["choices", "begun", "things", "start", "thing"] ["choices"] (defScope s_orders_with) := ⟨rfl, rfl, rfl, by decide +kernel, rfl, by decide +kernel, by decide +kernel⟩
set_option maxHeartbeats 4000000 in
theorem ok_ordW {f : Addr} {fd : FuncData} {k : Nat} (T : Df K mg "orders_with" s_orders_with ["choices"] f fd) (B : Bi mg) : FnOk P w K mg base CX0 (k + 1) f fd ["choices"] spOrdW := by
  refine T.F.ok scOrdW (fun vs H Q E h => ?_) (fun cdv A outer s H vs Q E hr h => ?_)
  · obtain ⟨c, cs, chs, rfl, _⟩ := h
    rfl
  · obtain ⟨c0, ks, chs, rfl, hc, hLc, hcl, hch, hsz, q⟩ := h
    have hkl := hLc.len
    refine ⟨_, 
      (pss_cons (ps_set (i := 1) scOrdW.nd rfl (.inl rfl) (pe_lst (pa_cons (pe_lst pa_nil) pa_nil)))
      (pss_cons (ps_for PassesOwn.never rfl (pi_list (pv 0)) (pg_name (i := 2) scOrdW.nd rfl (.inr rfl))
        (pss_one (ps_setLc2 (i := 1) (own := [("start", 3), ("thing", 4)]) (vs1 := [4]) (wi1 := iList K (tVar 2)) (g := (gName 3)) (tt := tYes) (g1 := (gName 4)) (tt1 := (tTest (tOp (rIn K true) (tVar 4) (tVar 3)))) (te := (tOp rCat (tVar 3) (tLst (tCons (tVar 4) tNil)))) (by rfl) scOrdW.nd rfl rfl (sw_true rfl rfl rfl (by decide +kernel)) (pi_list (pv 1)) (blkOk_by (N := ["choices", "begun", "things", "start", "thing"]) (sc := defScope s_orders_with) (by decide +kernel)) (by decide) (fun _ _ _ _ _ => (pg_name (i := 3) scOrdW.nd rfl (.inl rfl))) (fun _ _ _ _ _ => pts_nil) (fun _ _ _ _ _ => (pi_list (pv 2))) (fun _ _ _ _ _ => (pg_name (i := 4) scOrdW.nd rfl (.inl rfl))) (fun _ _ _ _ _ => (pts_one (pt_cmpR op_notIn_seq (pv 4) (pv 3) (by rfl)))) (fun _ _ _ _ _ => (pe_op op_cat (pv 3) (pe_lst (pa_cons (pv 4) pa_nil)))))))
      (pss_one (ps_ret (pv 1))))), ?_⟩
    refine ⟨Nat.zero_le _, fun e0 ne0 => ⟨line_small (by show 1 ≤ 16777216; decide), fun bg nbg => ?_⟩⟩
    have s0 := same_new (o := .lst []) ne0
    have s1 := same_new (o := .lst [.ref e0]) nbg
    have nHbg : H bg = none := s0.free nbg
    have neb : e0 ≠ bg := ne_of_none upd_same nbg
    refine ⟨_, rfl, c0, rfl, ⟨_, SqL.of (s1 _ _ (s0 _ _ hc))⟩, ?_⟩
    refine for_list (xs := ks.map V.ref) (fun i σ H3 => ∃ (bg : Addr) (y2 y3 y4 : Option V) (as : List Addr), σ = [some (.ref c0), some (.ref bg), y2, y3, y4] ∧ H bg = none ∧ H3 bg = some (.lst (as.map V.ref)) ∧ LL H3 as (ordW (chs.take i)) ∧ (∀ c ∈ as, H c = none ∧ c ≠ bg) ∧ as.Nodup ∧ Same H H3)
      ⟨bg, _, _, _, [e0], rfl, nHbg, upd_same, ⟨s1 _ _ upd_same, trivial⟩, fun c hc => by rw [List.mem_singleton.mp hc]; exact ⟨ne0, neb⟩, List.nodup_cons.mpr ⟨List.not_mem_nil, List.nodup_nil⟩, s0.trans s1⟩ (fun i σ H3 _ hP => by obtain ⟨_, _, _, _, _, _, _, _, _, _, _, sm⟩ := hP; exact SqL.of (sm _ _ hc)) (fun i x σ H3 hx hP => ?_) (fun σ H3 hP => ?_)
    · obtain ⟨bg, y2, y3, y4, as, rfl, nbg, hb3, hLL, hfr, hnd, sm⟩ := hP
      obtain ⟨kc, ek, rfl⟩ := ref_at_inv hx
      obtain ⟨ch, ech, hkc⟩ := hLc.get ek
      have hi := (List.getElem?_eq_some_iff.mp ech).1
      have hchl := hch ch (List.mem_of_getElem? ech)
      have hlen := hLL.len
      have hal := hsz i (by omega)
      have hkc3 := sm _ _ hkc
      refine ⟨_, rfl, bg, rfl, ⟨_, SqL.of hb3⟩, fun D nD => ?_⟩
      have nHD : H D = none := sm.free nD
      refine lc2_list (K := K) (a := bg) (xs := as.map V.ref) (fun m H4 => ∃ cs : List Addr, H4 D = some (.lst (cs.map V.ref)) ∧ LL H4 cs (((ordW (chs.take i)).take m).flatMap (extC ch)) ∧ (∀ c ∈ cs, H3 c = none ∧ c ≠ D) ∧ cs.Nodup ∧ Same H3 H4)
        ⟨[], upd_same, trivial, fun c hc => absurd hc List.not_mem_nil, List.nodup_nil, same_new nD⟩ (fun m H4 _ hP => by obtain ⟨_, _, _, _, _, s4⟩ := hP; exact SqL.of (s4 _ _ hb3)) (fun m x H4 hx hP => ?_) (fun H4 hP => ?_)
      · obtain ⟨cs, hD4, hLc4, hfc, hndc, s4⟩ := hP
        obtain ⟨r, er, rfl⟩ := ref_at_inv hx
        obtain ⟨row, erow, hrow⟩ := hLL.get er
        have hrl := ordW_rows i chs row (List.mem_of_getElem? erow)
        refine ⟨rfl, ?_⟩
        refine ⟨_, rfl, kc, rfl, ⟨_, SqL.of (s4 _ _ hkc3)⟩, ?_⟩
        refine in_list (K := K) (a := kc) (xs := ch.map V.int) (fun j H5 => ∃ cs : List Addr, H5 D = some (.lst (cs.map V.ref)) ∧ LL H5 cs (((ordW (chs.take i)).take m).flatMap (extC ch) ++ extC (ch.take j) row) ∧ (∀ c ∈ cs, H3 c = none ∧ c ≠ D) ∧ cs.Nodup ∧ Same H3 H5)
          ⟨cs, hD4, by rw [show extC (ch.take 0) row = [] from rfl, List.append_nil]; exact hLc4, hfc, hndc, s4⟩ (fun j H5 _ hP => by obtain ⟨_, _, _, _, _, s5⟩ := hP; exact SqL.of (s5 _ _ hkc3)) (fun j x H5 hx hP => ?_) (fun H5 hP => ?_)
        · obtain ⟨cs5, hD5, hL5, hf5, hnd5, s5⟩ := hP
          obtain ⟨t, et, rfl⟩ := int_at_inv hx
          have hrow5 := s5 _ _ hrow
          refine ⟨rfl, _, rfl, _, rfl, r, _, rfl, .inl (SqL.of hrow5), rfl, flat_ints row, _, rfl, ?_⟩
          show if (!inV (.int t) (row.map V.int)) = true then _ else _
          rw [inV_int]
          have em := extC_more (o := row) et
          by_cases c : t ∈ row
          · rw [decide_eq_true c]
            refine iteF ⟨cs5, hD5, ?_, hf5, hnd5, s5⟩
            rw [em, if_pos c, List.append_nil]
            exact hL5
          · rw [decide_eq_false c]
            refine iteT ⟨_, rfl, _, rfl, line_small (by show 1 ≤ 16777216; decide), fun p np => ?_⟩
            have sp1 := same_new (o := .lst [.int t]) np
            refine ⟨r, p, _, _, rfl, rfl, sp1 _ _ hrow5, upd_same, line_small (by rw [List.length_map]; show _ + 1 ≤ _; omega), fun z nz => ?_⟩
            have sp2 := same_new (o := .lst (row.map V.int ++ [.int t])) nz
            have hD6 := sp2 _ _ (sp1 _ _ hD5)
            have nzD : z ≠ D := (ne_of_none (sp1 _ _ hD5) nz).symm
            have hl5 := hL5.len
            have hcount : cs5.length < 16777216 := by
              have h1 : (((ordW (chs.take i)).take m).flatMap (extC ch) ++ extC (ch.take j) row).length ≤ ((ordW (chs.take i)).take m).length * ch.length + ch.length := by
                rw [List.length_append]
                have a1 := flatC_len ch ((ordW (chs.take i)).take m)
                have a2 := extC_len (ch.take j) row
                rw [List.length_take] at a2
                omega
              have h2 : ((ordW (chs.take i)).take m).length * ch.length ≤ 100000 * 12 := Nat.mul_le_mul (by rw [List.length_take]; omega) hchl
              omega
            refine ⟨_, hD6, line_lt (by rw [List.length_map]; exact hcount), cs5 ++ [z], by rw [upd_same, List.map_append]; rfl, ?_, fun c hc => ?_, ?_, fun u ob e => ?_⟩
            · rw [em, if_neg c, ← List.append_assoc]
              refine LL.snoc (((hL5.same sp1).same sp2).keep fun u hu ob e => by rw [upd_ne (hf5 u hu).2]; exact e) ?_
              rw [upd_ne nzD, upd_same, List.map_append]
              rfl
            · rcases List.mem_append.mp hc with hc | hc
              · exact hf5 c hc
              · rw [List.mem_singleton.mp hc]
                exact ⟨(s5.trans sp1).free nz, nzD⟩
            · rw [List.nodup_append]
              refine ⟨hnd5, List.nodup_cons.mpr ⟨List.not_mem_nil, List.nodup_nil⟩, fun x hx y hy e => ?_⟩
              rw [List.mem_singleton.mp hy] at e
              obtain ⟨ob, eo⟩ := hL5.tracked hx
              rw [e] at eo
              have := sp1 _ _ eo
              rw [nz] at this
              cases this
            · rw [upd_ne (ne_of_none e nD)]
              exact sp2 _ _ (sp1 _ _ (s5 _ _ e))
        · obtain ⟨cs5, hD5, hL5, hf5, hnd5, s5⟩ := hP
          refine ⟨cs5, hD5, ?_, hf5, hnd5, s5⟩
          rw [List.length_map, List.take_length] at hL5
          rw [List.take_add_one, erow, List.flatMap_append]
          show LL H5 cs5 (_ ++ (extC ch row ++ []))
          rw [List.append_nil]
          exact hL5
      · obtain ⟨cs, hD4, hLc4, hfc, hndc, s4⟩ := hP
        rw [List.length_map, hlen, List.take_length] at hLc4
        refine ⟨D, _, _, _, cs, rfl, nHD, hD4, ?_, fun c hc => ⟨sm.free (hfc c hc).1, (hfc c hc).2⟩, hndc, sm.trans s4⟩
        rw [ordW_more ech]
        exact hLc4
    · obtain ⟨bg, y2, y3, y4, as, rfl, nbg, hb3, hLL, hfr, hnd, sm⟩ := hP
      rw [List.length_map, hkl, List.take_length] at hLL
      exact ⟨_, rfl, q bg as H3 nbg hb3 hLL hfr hnd sm⟩
theorem LL_rep {H : Hp} {a : Addr} {r : List Int} (h : H a = some (.lst (r.map V.int))) : ∀ m, LL H (List.replicate m a) (List.replicate m r)
  | 0 => trivial
  | m + 1 => ⟨h, LL_rep h m⟩
theorem rep_flat (v : V) : ∀ m : Nat, (List.replicate m [v]).flatten = List.replicate m v
  | 0 => rfl
  | m + 1 => by rw [List.replicate_succ, List.flatten_cons, rep_flat v m]; rfl
theorem scAllO : FnScope ["n"] ["n"] (defScope s_all_orders) := ⟨rfl, rfl, rfl, by decide +kernel, rfl, by decide +kernel, by decide +kernel⟩
theorem ok_all_orders {f f1 : Addr} {fd d1 : FuncData} {k : Nat} (T : Df K mg "all_orders" s_all_orders ["n"] f fd) (T_orders_with : Df K mg "orders_with" s_orders_with ["choices"] f1 d1) (B : Bi mg) : FnOk P w K mg base CX0 (k + 2) f fd ["n"] spAllO := by
  have G_orders_with : FnOk P w K mg base CX0 (k + 1) f1 d1 ["choices"] spOrdW := ok_ordW T_orders_with B
  refine T.F.ok scAllO (fun vs H Q E h => ?_) (fun cdv A outer s H vs Q E hr h => ?_)
  · obtain ⟨n, rfl, _⟩ := h
    rfl
  · obtain ⟨n, rfl, hn1, hn2, q⟩ := h
    refine ⟨_, 
      (pss_one (ps_ret (pe_call G_orders_with hr (by rfl) T_orders_with.g T_orders_with.F.kp T_orders_with.b .nil pass0 (pa_cons (pe_op op_rep (pe_lst (pa_cons (pe_listRg rfl (by rfl) B.list (prg_1 (by rfl) B.range (pv 0))) pa_nil)) (pv 0)) pa_nil)))), ?_⟩
    refine ⟨_, rfl, n, rfl, RgOk.of_le (by omega) (by omega) (by omega) (by omega), fun l nl => ?_⟩
    have t1 := same_new (o := .lst (rgV 0 (n : Int))) nl
    have hl : (upd H l (.lst (rgV 0 (n : Int)))) l = some (.lst ((rg n).map V.int)) := by rw [upd_same, rg_V]
    refine ⟨line_small (by show 1 ≤ 16777216; decide), fun l1 nl1 => ?_⟩
    have t2 := same_new (o := .lst [.ref l]) nl1
    refine ⟨_, rfl, l1, _, _, rfl, rfl, upd_same, by omega, by omega, line_small (by rw [Int.toNat_natCast]; show 1 * n ≤ _; omega), fun l2 nl2 => ?_⟩
    have t3 := same_new (o := .lst (List.replicate ((n : Nat) : Int).toNat [V.ref l]).flatten) nl2
    have tt := (t1.trans t2).trans t3
    refine ⟨l2, List.replicate n l, List.replicate n (rg n), rfl, by rw [upd_same, Int.toNat_natCast, rep_flat, List.map_replicate], LL_rep (t3 _ _ (t2 _ _ hl)) n, by rw [List.length_replicate]; omega, fun ch hc => ?_, fun i hi => ?_, fun r as H' nr hr hLL hfr hnd s' => ?_⟩
    · rw [(List.mem_replicate.mp hc).2, rg_len]
      omega
    · rw [List.length_replicate] at hi
      rw [List.take_replicate, Nat.min_eq_left hi, ordW_all]
      have h1 := allK_len hn2 i hi
      have h2 := pow6 (show i ≤ 6 by omega)
      omega
    · rw [ordW_all] at hLL
      exact q r as H' (tt.free nr) hr hLL (fun c hc => ⟨tt.free (hfr c hc).1, (hfr c hc).2⟩) hnd (tt.trans s')
end
end Fo
namespace Fo
open PySem PySem.Spec PyProof.Rows L2 GenW
/-! all(test for x in ..) where the test calls defs of the program -/
/-- around a generator's block that all() walks -/
abbrev gArd (A : Around) (ce : Env) : Around := A.in1.in1.deeper ce
theorem room_gen {k : Nat} {A : Around} {ce : Env} (r : Room (k + 1) A) : Room k (gArd A ce) := by
  obtain ⟨h1, h2, h3⟩ := r
  refine ⟨h1, ?_, ?_⟩
  · show A.depth + 1 + 3 * k + 5 < _
    omega
  · show A.units + 1 + 1 + 3 + 16 * k + 200 < _
    omega
theorem over_gl {A : Around} {el : Expr} {gs : List Comprehension} {sc : Scope} {p : Pos} {it ac : Value} {ce : Env} : A.over (.compLoop (.GeneratorExp el gs sc p) 0 it ac ce) [] = A.deeper ce := by
  first
    | rfl
    | (obtain ⟨a1, a2, a3, a4, a5⟩ := A; simp [Around.over, Around.deeper, marksOver, frameCount, unitsOf, envsOf, guardsOf, pushEnvs, pushGuards, Code.envs, Code.env?, Code.isFrame, Code.guards, Code.isGuard, Code.weight, Code.frames, Code.isCreation, Code.isCaller, Code.cUnits])
abbrev gCx (X : Cx) (s : Shared) (H : Hp) (ce : Env) (fp : List Addr) (pn : List (Addr × Obj)) : Cx := { X with A := gArd X.A ce, s_0 := s, H_0 := H, env := ce, outer := X.stack, stack := ce :: X.stack, ex := fp, fn := fun _ => false, pn := pn, xe := fun _ _ => False }
/-- the scope of a generator expression without cells of its own -/
structure GSc (sc : Scope) : Prop where
  co : sc.isCoroutine = false
  cell : ∀ y ∈ sc.names, y.2 ≠ .cell
  dot : sc.names.lookup (".0" : Str) = some NameKind.local
def gscB (sc : Scope) : Bool := !sc.isCoroutine && sc.names.all (fun y => y.2 != .cell) && sc.names.lookup (".0" : Str) == some NameKind.local
theorem gsc_by {sc : Scope} (h : gscB sc = true) : GSc sc := by
  unfold gscB at h
  simp only [Bool.and_eq_true, List.all_eq_true, bne_iff_ne, ne_eq, beq_iff_eq, Bool.not_eq_true'] at h
  exact ⟨h.1.1, h.1.2, h.2⟩
/-- what happens while a generator sleeps -/
def Aft (s s' : Shared) : Prop := s'.os = s.os ∧ AllBare s'.gens ∧ ∀ b o, s.heap.get? b = some o → s'.heap.get? b = some o

section
variable {X : Cx} {pins : List (Addr × Obj)} {σ : L2.St} {H : Hp} {s : Shared}
theorem gen_start {sc : Scope} {own : List (Str × Nat)} {fp : List Addr} {code : Value} {h2 : Heap} {g2 : Array GenState} {t2 : Nat} {m : Str → Option Value} {a : Addr} {go : Obj} (I : Inv X pins σ H s) (ok : BlkOk X.N X.env.scope sc own) (gs : GSc sc) (hN : X.N.Nodup) (hc : X.calm = true)
    (hfp : ∀ b ∈ fp, FpOk X pins H b ∧ b < s.heap.objs.size) (hn : h2.Ns s.heap.objs.size m) (kp : ∀ b o, s.heap.get? b = some o → h2.get? b = some o) (ha : s.heap.objs.size < a) (hgo : h2.get? a = some go) (hgd : ∀ v, go.data ≠ .cell v) (hbr : AllBare g2) :
    Inv (gCx X s H (genEnv sc (cloFrom X.env.cells sc.names []) s.heap.objs.size code builtinsNs X.env) fp [(a, go)]) [] (wipe σ (own.map (·.2))) H { s with heap := h2, gens := g2, toks := t2 } := by
  have fr : ∀ y ∈ sc.names, y.2 = .free → ∃ c, X.env.cells.lookup y.1 = some c := fun y hy e => by
    rcases ok.free y hy e with k | k
    · exact I.ok.has _ (.inl k)
    · exact I.ok.has _ (.inr k)
  have cm : ∀ {y c}, (cloFrom X.env.cells sc.names []).lookup y = some c → X.env.cells.lookup y = some c ∧ c < s.heap.objs.size := fun {y c} e => by
    rcases cloFrom_mem (PySem.mem_of_lookup e) with hm | ⟨h1, rfl⟩
    · cases hm
    · obtain ⟨c, hc⟩ := fr _ h1 rfl
      rw [hc]
      obtain ⟨w, z⟩ := I.cell _ _ hc
      exact ⟨rfl, z.lt⟩
  have look : ∀ {y}, sc.names.lookup y = some .free → ∃ c, (cloFrom X.env.cells sc.names []).lookup y = some c ∧ X.env.cells.lookup y = some c := fun {y} hl => by
    obtain ⟨c', e'⟩ := mem_lookup (cloFrom_has (cells := X.env.cells) (acc := []) (PySem.mem_of_lookup hl))
    exact ⟨c', e', (cm e').1⟩
  have nst : ∀ b, s.heap.objs.size ≤ b → b ∉ frs X.stack := fun b hb z => by
    rcases List.mem_cons.mp (I.stkSub b z) with q | q
    · rw [q] at hb
      exact absurd (Nat.lt_of_lt_of_le I.lt hb) (Nat.lt_irrefl _)
    · exact I.nofs hb q
  have okB : (gCx X s H (genEnv sc (cloFrom X.env.cells sc.names []) s.heap.objs.size code builtinsNs X.env) fp [(a, go)]).Ok := by
    refine ⟨I.ok.mod, ok.kind, I.ok.glob, rfl, Nat.le_refl _, fun y z c e1 e2 => I.ok.inj y z c (cm e1).1 (cm e2).1, fun y hy => ?_, fun y c z e => (by cases z), fun _ => I.ok.hd hc, Around.frames_deeper (A := X.A.in1.in1) I.ok.frames, .inr ⟨rfl, rfl⟩,
      fun b hb => ⟨Nat.ne_of_lt (hfp b hb).2, fun y c e z => (hfp b hb).1.2.2.2.2.1 y c (cm e).1 z⟩, I.bs, Nat.le_trans I.ok.bsz I.sz, fun b o e hb => ?_, fun b hb z => ?_, I.stack, I.stkFree⟩
    · have hy : sc.names.lookup y = some .cell ∨ sc.names.lookup y = some .free := hy
      rcases hy with hy | hy
      · exact absurd rfl (gs.cell _ (PySem.mem_of_lookup hy))
      · obtain ⟨c, h1, _⟩ := look hy
        exact ⟨c, h1⟩
    · rcases (hfp b hb).1.2.2.2.1 with z | z
      · exact I.ok.noex b o e z
      · exact absurd (Nat.lt_of_lt_of_le (Heap.lt_size e) (Nat.le_trans I.ok.bsz z)) (Nat.lt_irrefl _)
    · rcases List.mem_cons.mp (I.stkSub b z) with q | q
      · exact (hfp b hb).1.2.1 q
      · exact (hfp b hb).1.2.2.1 q
  refine ⟨okB, rfl, hbr, Un.kept kp, ⟨m, hn, fun i y av e1 e2 e3 => ?_⟩, fun y c e => ?_, I.hok.fresh (Nat.le_refl _), fun y c e => I.freeC y c (cm e).1, fun p hp => ?_, I.hok.kept kp, by rw [wipe_length]; exact I.len⟩
  · obtain ⟨e2, hne⟩ := wipe_some e2
    have no : ∀ k, sc.names.lookup y = some k → ¬ (k = .local ∨ k = .cell) := fun k hk hh => by
      rcases ok.own _ (PySem.mem_of_lookup hk) hh with e' | e'
      · obtain ⟨p, hp, hpy⟩ := List.mem_map.mp e'
        have e3 := ok.ix p hp
        have : p.1 = y := hpy
        rw [this] at e3
        exact hne (List.mem_map.mpr ⟨p, hp, nodup_ix hN e3 e1⟩)
      · exact e' (List.mem_of_getElem? e1)
    have hfr : sc.names.lookup y = some .free := by
      have e3 : sc.names.lookup y = some .local ∨ sc.names.lookup y = some .cell ∨ sc.names.lookup y = some .free := e3
      rcases e3 with e3 | e3 | e3
      · exact absurd (.inl rfl) (no _ e3)
      · exact absurd (.inr rfl) (no _ e3)
      · exact e3
    obtain ⟨m', _, hl⟩ := I.loc
    have hvis : Vis X.env.scope y := (ok.free _ (PySem.mem_of_lookup hfr) rfl).elim (fun k => .inr (.inl k)) (fun k => .inr (.inr k))
    obtain ⟨w, r, q⟩ := hl i y av e1 e2 hvis
    refine ⟨w, r, .inr ⟨.inr hfr, ?_⟩⟩
    obtain ⟨c, h1, h3⟩ := look hfr
    rcases q with ⟨k, _⟩ | ⟨_, c', e', z⟩
    · have k : X.env.scope.names.lookup y = some .local := k
      rcases ok.free _ (PySem.mem_of_lookup hfr) rfl with k' | k' <;> rw [show X.env.scope.names.lookup y = _ from k'] at k <;> cases k
    · rw [h3] at e'
      cases e'
      exact ⟨c, h1, z.keeps kp⟩
  · obtain ⟨w, z⟩ := I.cell y c (cm e).1
    exact ⟨w, z.keeps kp⟩
  · have e : p = (a, go) := by simpa using hp
    subst e
    exact ⟨hgo, I.hok.fresh (Nat.le_of_lt ha), Nat.ne_of_gt ha, nst _ (Nat.le_of_lt ha), hgd⟩
end

/-- an item is out: a truth; behind False nothing is asked any more -/
def gY (Y : Cx) (w : L2.St) (Qf : Hp → Prop) (a : Addr) (g : Nat) : Protocol := fun _ _ v s kap => ∃ b, v = .bool b ∧ s.heap.IsGen a g ∧ s.heap.NoLimit ∧ AllBare s.gens ∧
  if b = true then ∀ s'', Aft s s'' → kap (.send .none) s'' else ∃ H, Inv Y [] w H s ∧ Qf H
def gR (Y : Cx) (w : L2.St) (Qt : Hp → Prop) : Nat → Shared → Shared → Prop := fun _ _ s => ∃ H, Inv Y [] w H s ∧ Qt H

theorem gen_loop {Y : Cx} {A : Around} {el tg iter : Expr} {sc : Scope} {pos : Pos} {it : Addr} {fp : List Addr} {tn : Nat → Heap → Prop} {J : It} {gt : TG} {te : TE} {vs : List Nat} {σ0 : L2.St} {a : Addr} {g : Nat} {go : Obj} {Qt Qf : Hp → Prop} {W : Nat → Nat → Hp → Prop}
    (hA : Y.A = A.deeper Y.env) (hc : Y.calm = true) (hx : Y.xe = fun _ _ => False) (hex : Y.ex = fp) (hpn : Y.pn = [(a, go)]) (hgo : ∀ h : Heap, h.get? a = some go → h.IsGen a g) (haf : a ∉ fp) (hco : Y.env.scope.isCoroutine = false)
    (T : Turn Y.prog Y.w Y.K tg J fp it tn) (pg : PG Y tg gt) (pe : PE Y el te)
    (turn : ∀ i m H, W i m H → (J.stop i H ∧ Qt H) ∨ (J.go i H ∧ ∀ x H', J.yld i H x H' → gt x (wipe σ0 vs) H' fun σ2 H3 => wipe σ2 vs = wipe σ0 vs ∧ te σ2 H3 fun y H4 => ∃ b, y = .bl b ∧ if b = true then ∃ m', m' < m ∧ W (i + 1) m' H4 else Qf H4)) :
    ∀ (n i m : Nat) (H : Hp) (s₀ s : Shared), m < n → W i m H → Inv Y [] (wipe σ0 vs) H s → tn i s.heap → (∀ b ∈ fp, H b = none) →
      Seg (model Y.prog Y.w) A (fun n s₀ r s₁ => r = .ok .next ∧ gR Y (wipe σ0 vs) Qt n s₀ s₁) (gY Y (wipe σ0 vs) Qf a g) n s₀ (.compLoop (.GeneratorExp el [⟨tg, iter, [], 0⟩] sc pos) 0 (.ref it) .none Y.env)
        ((model Y.prog Y.w).den (.compLoop (.GeneratorExp el [⟨tg, iter, [], 0⟩] sc pos) 0 (.ref it) .none Y.env)) [] s := by
  have ov : A.over (.compLoop (.GeneratorExp el [⟨tg, iter, [], 0⟩] sc pos) 0 (.ref it) .none Y.env) [] = Y.A := over_gl.trans hA.symm
  have fpo : ∀ {H' : Hp} {s' : Shared} {σ' : L2.St}, Inv Y [] σ' H' s' → (∀ b ∈ fp, H' b = none) → ∀ b ∈ fp, FpOk Y [] H' b := fun {H' s' σ'} I' hn b hb => by
    have hb' : b ∈ Y.ex := by rw [hex]; exact hb
    refine ⟨hn b hb, (I'.ok.exf b hb').1, I'.ok.exfs b hb', .inl hb', fun x c e => (I'.ok.exf b hb').2 x c e, fun p hp z => ?_⟩
    rw [hpn] at hp
    have e : p = (a, go) := by simpa using hp
    rw [e] at z
    have z : a = b := z
    exact haf (by rw [z]; exact hb)
  intro n
  induction n with
  | zero =>
    intro i m H s₀ s hm
    omega
  | succ n ih =>
    intro i m H s₀ s hm w I st nf
    show Seg _ A _ _ _ s₀ _ ((compTurn (.GeneratorExp el [⟨tg, iter, [], 0⟩] sc pos) 0 (.ref it) .none Y.env).onRaise (leaving Y.env)) [] s
    rw [compTurn_gen, Sem.onRaise_eq_wrap]
    refine seg_bind_wrap (wpAny_standAt ?_)
    refine seg_bind_wrap ?_
    rw [ov]
    rcases turn i m H w with ⟨stop, q⟩ | ⟨go', step⟩
    · refine thnF (T.done Y rfl rfl rfl hc i [] s _ H (fun _ _ => False) I (fpo I nf) st stop) fun r s6 ⟨hr, I6⟩ => ?_
      subst hr
      exact seg_end (.ok .next) ⟨rfl, H, I6, q⟩
    · refine thnF (T.item Y rfl rfl rfl hc i [] s _ H (fun _ _ => False) I (fpo I nf) st go') fun r s6 ⟨u, hr, h6⟩ => ?_
      subst hr
      refine seg_bind_wrap ?_
      rw [ov]
      refine thnF h6 fun _ s7 ⟨x, H7, I7, r7, y7, st7, n7⟩ => ?_
      have I7' := I7.pinned (fpo I7 n7) (T.obj _ _ st7)
      refine seg_bind_wrap ?_
      rw [ov]
      have hs := pg.run _ s7 _ H7 x u _ I7' r7 (step x H7 y7)
      rw [hx] at hs
      refine thnF hs fun _ s8 ⟨σ8, H8, I8, hw8, q8⟩ => ?_
      refine seg_bind_wrap (wpAny_pure ?_)
      simp only [if_true]
      have hy : ∀ v, yieldOut Y.env v = yieldValue v := fun v => by simp only [yieldOut, hco, Bool.false_eq_true, if_false]
      simp only [hy]
      rw [Sem.bind_eq_wrap', Sem.bind_eq_wrap', Sem.wrap_wrap, Sem.wrap_wrap]
      refine seg_wrap ?_
      rw [ov]
      have hp := pe.run _ s8 σ8 H8 _ I8 q8
      rw [hx] at hp
      refine thnF hp fun v s9 ⟨yv, H9, I9, r9, b, eb, q9⟩ => ?_
      subst eb
      obtain rfl : v = Value.bool b := r9
      have pin9 : ∀ c ∈ fp, ∀ o, s7.heap.get? c = some o → s9.heap.get? c = some o ∧ H9 c = none := fun c hc' o e =>
        let z := I9.pin (c, o) (List.mem_append_right _ (List.mem_append_right _ (mem_pinsAt hc' e)))
        ⟨z.1, z.2.1⟩
      have I10 : Inv Y [] (wipe σ0 vs) H9 s9 := (I9.unpinned (pins := [])).weak (by rw [← hw8, wipe_length]) fun j v e => by
        rw [← hw8] at e
        exact (wipe_some e).1
      have st9 : tn (i + 1) s9.heap := T.keep _ _ _ st7 fun c hc' o e => (pin9 c hc' o e).1
      have nf9 : ∀ c ∈ fp, H9 c = none := fun c hc' => by
        obtain ⟨o, e, _⟩ := T.obj _ _ st7 c hc'
        exact (pin9 c hc' o e).2
      have hga : s9.heap.get? a = some go := (I10.pin (a, go) (by rw [hpn]; simp)).1
      refine seg_at (seg_yield rfl rfl rfl ⟨b, rfl, hgo _ hga, I10.nolimit, I10.bare, ?_⟩)
      cases b with
      | false =>
        rw [if_neg Bool.false_ne_true] at q9 ⊢
        exact ⟨H9, I10, q9⟩
      | true =>
        rw [if_pos rfl] at q9 ⊢
        obtain ⟨m', hm', w'⟩ := q9
        intro s'' ⟨ho, hb, hk⟩
        exact seg_again rfl (ih (i + 1) m' H9 s'' s'' (by omega) w' (I10.call' (ch := []) ho (Un.kept hk) (I10.hok.kept hk) hb fun b z => by simp at z) (T.keep _ _ _ st9 fun b _ o e => hk b o e) nf9)

theorem gen_begin {P : Program} {w : World} {A : Around} {R : GenEnd} {Yp : Protocol} {n : Nat} {s₀ s : Shared} {el tg iter : Expr} {sc : Scope} {pos : Pos} {it : Addr} {ce : Env}
    (lp : Seg (model P w) A R Yp n s₀ (.compLoop (.GeneratorExp el [⟨tg, iter, [], 0⟩] sc pos) 0 (.ref it) .none ce) ((model P w).den (.compLoop (.GeneratorExp el [⟨tg, iter, [], 0⟩] sc pos) 0 (.ref it) .none ce)) [] s)
    (self : ∀ (B : Around) (Q : Value → Shared → Prop) (E : Value → Shared → Prop), Q (.ref it) s → wpAny (model P w) B (pyIter (.ref it)) Q E s) :
    Seg (model P w) A R Yp n s₀ (.compStart (.GeneratorExp el [⟨tg, iter, [], 0⟩] sc pos) 0 (.ref it) .none ce) ((model P w).den (.compStart (.GeneratorExp el [⟨tg, iter, [], 0⟩] sc pos) 0 (.ref it) .none ce)) [] s := by
  show Seg _ A _ _ _ s₀ _ ((compStart (.GeneratorExp el [⟨tg, iter, [], 0⟩] sc pos) 0 (.ref it) .none ce).onRaise (leaving ce)) [] s
  unfold compStart
  rw [Sem.onRaise_eq_wrap]
  show Seg _ A _ _ _ s₀ _ ((ask >>= _).wrap _ _ _ _) [] s
  refine seg_bind_wrap (wpAny_askSetting ?_)
  split
  · exact seg_again rfl lp
  · first
      | exact seg_bind_wrap (wpAny_rule (seg_bind_wrap (wpAny_standAt (seg_bind_wrap (self _ _ _ (seg_again rfl lp))))))
      | (refine seg_bind_wrap (wpAny_rule ?_); show Seg _ A _ _ _ s₀ _ ((standAt iter.pos >>= _).wrap _ _ _ _) [] s; exact seg_bind_wrap (wpAny_standAt (seg_bind_wrap (self _ _ _ (seg_again rfl lp)))))

theorem all_loop {Y : Cx} {A : Around} {a : Addr} {g : Nat} {w : L2.St} {Qt Qf : Hp → Prop} {R : Result → Shared → Prop} (hh : A.handled = none) (hd : A.depth < recursionLimit)
    (ht : ∀ s H s', Inv Y [] w H s → Qt H → Aft s s' → R (.ok (.ret (.bool true))) s') (hf : ∀ s H s', Inv Y [] w H s → Qf H → Aft s s' → R (.ok (.ret (.bool false))) s') :
    ∀ (n : Nat) (s : Shared), s.heap.IsGen a g → s.heap.NoLimit →
      (∃ gs, s.gens[g]? = some gs ∧ gs.Goes (model Y.prog Y.w) A.in1.in1 (fun n s₀ r s₁ => r = .ok .next ∧ gR Y w Qt n s₀ s₁) (gY Y w Qf a g) n (.send .none) (s.setGen g .running)) →
      codeAny (model Y.prog Y.w) A (.builtin "all.loop" ⟨[.ref a], []⟩) R s := by
  intro n
  induction n with
  | zero =>
    intro s hg hl ⟨gs, hgs, hgo⟩
    refine codeAny_builtin F.entry_all_loop ?_
    rw [Around.under_plainId F.plain_all_loop _]
    show wpAny _ A.in1 (pyNext (.ref a) >>= _) _ _ s
    refine wpAny_bind (wpAny_pyNext_genexpQ (A := A.in1) (P := gR Y w Qt) hh hl hd hg hgs hgo (fun v s₁ gs' hb hv => ?_) (fun s₁ hp h' hk => ?_))
    · obtain ⟨b, rfl, hg1, hl1, hb1, q⟩ := hv
      refine wpAny_bind (wpAny_holding (wpAny_truthy_bool ?_))
      refine wpAny_bind (wpAny_letGo ?_)
      cases b with
      | true =>
        rw [if_pos rfl] at q
        exact (q s₁ ⟨rfl, hb1, fun _ _ e => e⟩).elim
      | false =>
        rw [if_neg Bool.false_ne_true] at q
        obtain ⟨H, I, qf⟩ := q
        simp only [Bool.false_eq_true, if_false]
        exact wpAny_bind (wpAny_rule (wpAny_pure (hf s₁ H _ I qf ⟨rfl, allBare_setGen hb1 hb, fun _ _ e => e⟩)))
    · obtain ⟨H, I, qt⟩ := hp
      exact wpAny_bind (wpAny_rule (wpAny_pure (ht s₁ H _ I qt ⟨rfl, allBare_setGen I.bare rfl, hk⟩)))
  | succ n ih =>
    intro s hg hl ⟨gs, hgs, hgo⟩
    have hgl : g + 1 ≤ s.gens.size := (Array.getElem?_eq_some_iff.mp hgs).1
    refine codeAny_builtin F.entry_all_loop ?_
    rw [Around.under_plainId F.plain_all_loop _]
    show wpAny _ A.in1 (pyNext (.ref a) >>= _) _ _ s
    refine wpAny_bind (wpAny_gsz (n := g + 1) hgl (wpAny_pyNext_genexpQ (A := A.in1) (P := gR Y w Qt) hh hl hd hg hgs hgo (fun v s₁ gs' hb hv => ?_) (fun s₁ hp h' hk => ?_)))
    · intro hsz
      obtain ⟨b, rfl, hg1, hl1, hb1, q⟩ := hv
      refine wpAny_bind (wpAny_holding (wpAny_truthy_bool ?_))
      refine wpAny_bind (wpAny_letGo ?_)
      cases b with
      | true =>
        rw [if_pos rfl] at q
        simp only [if_true]
        have hsz1 : g < s₁.gens.size := by
          rw [setGen_size] at hsz
          exact hsz
        refine wpAny_pure ⟨plainId_quiet F.plain_all_loop _, ih _ hg1 hl1 ⟨gs', setGen_at hsz1, ?_⟩⟩
        exact q _ ⟨rfl, allBare_setGen (allBare_setGen hb1 hb) rfl, fun _ _ e => e⟩
      | false =>
        rw [if_neg Bool.false_ne_true] at q
        obtain ⟨H, I, qf⟩ := q
        simp only [Bool.false_eq_true, if_false]
        exact wpAny_bind (wpAny_rule (wpAny_pure (hf s₁ H _ I qf ⟨rfl, allBare_setGen hb1 hb, fun _ _ e => e⟩)))
    · intro _
      obtain ⟨H, I, qt⟩ := hp
      exact wpAny_bind (wpAny_rule (wpAny_pure (ht s₁ H _ I qt ⟨rfl, allBare_setGen I.bare rfl, hk⟩)))
end Fo
namespace Fo
open PySem PySem.Spec PyProof.Rows L2 GenW
/-- all(test for target in iter): W by the turn and a measure -/
def tAllG (P : Addr) (wi : TI) (gt : TG) (te : TE) (vs : List Nat) : TE := fun σ H Q => wi σ H fun J H1 => GxR.TabG H1 P ∧ ∀ H2, GxR.Tabbed P H1 H2 → ∃ W : Nat → Nat → Hp → Prop, (∃ m, W 0 m H2) ∧ ∀ i m H, W i m H →
  (J.stop i H ∧ Q (.bl true) H) ∨ (J.go i H ∧ ∀ x H', J.yld i H x H' → gt x (wipe σ vs) H' fun σ2 H3 => wipe σ2 vs = wipe σ vs ∧ te σ2 H3 fun y H4 => ∃ b, y = .bl b ∧ if b = true then ∃ m', m' < m ∧ W (i + 1) m' H4 else Q (.bl false) H4)
section
variable {X : Cx}
set_option maxHeartbeats 4000000 in
theorem pe_allG {c P : Addr} {el tg iter : Expr} {sc : Scope} {own : List (Str × Nat)} {p pos gpos : Pos} {wi : TI} {gt : TG} {te : TE} {k : Nat} (hc : X.calm = true) (hN : X.N.Nodup) (hr : Room k X.A) (hg : Gl X "all") (hm : X.mg "all" = none) (hb : bootBuiltins "all" = some (.builtin "all"))
    (TB : LamX.TabB X.base X.mg c P) (hcode : X.env.code = .ref c) (hi : PI X tg iter wi) (ok : BlkOk X.N X.env.scope sc own) (gs : GSc sc)
    (hgt : ∀ (s : Shared) (H : Hp) (C : Addr) (cl : List (Str × Addr)) (cd : Value) (fp : List Addr) (pn : List (Addr × Obj)), PG (gCx X s H (genEnv sc cl C cd builtinsNs X.env) fp pn) tg gt)
    (he : ∀ (s : Shared) (H : Hp) (C : Addr) (cl : List (Str × Addr)) (cd : Value) (fp : List Addr) (pn : List (Addr × Obj)), PE (gCx X s H (genEnv sc cl C cd builtinsNs X.env) fp pn) el te)
    (hs : ∀ v, genFold iter X.env v = pure v := by intro _; rfl)
    (hst : starEach [.GeneratorExp el [⟨tg, iter, [], 0⟩] sc gpos] X.env = (false, eval (.GeneratorExp el [⟨tg, iter, [], 0⟩] sc gpos) X.env) :: starEach [] X.env := by rfl) :
    PE X (.Call (.Name "all" p) [.GeneratorExp el [⟨tg, iter, [], 0⟩] sc gpos] [] pos) (tAllG P wi gt te (own.map (·.2))) := by
  refine ⟨fun pins s σ H Q I hq => ?_⟩
  have fr : ∀ y ∈ sc.names, y.2 = .free → ∃ c, X.env.cells.lookup y.1 = some c := fun y hy e => by
    rcases ok.free y hy e with k | k
    · exact I.ok.has _ (.inl k)
    · exact I.ok.has _ (.inr k)
  refine wpAny_Call_Name_kw (ld_blt I hg hm hb ?_)
  refine PyProof.Rows.callWith_builtin1 ?_ hst (by rfl)
  rw [hst]
  show wpAny _ _ (spliced ((false, eval (.GeneratorExp el [⟨tg, iter, [], 0⟩] sc gpos) X.env) :: backTo pos (starEach [] X.env))) _ _ s
  refine Calls.spliced_cons ?_
  refine wpAny_GeneratorExp_make gs.co (closure_ok fr) gs.cell gs.dot ok.kind (by have := hr.dp; omega) ?_ hs
  refine thn (hi.run pins s σ H _ I hq) fun xv s1 hx => thn hx fun itv s2 h2 => ?_
  obtain ⟨it, fp, tn, J, H1, rfl, I2, T, st2, f2, ⟨ps, hP, htp⟩, q⟩ := h2
  refine ⟨I2.nolimit, ?_⟩
  have hPs : s2.heap.get? P = some { cls := .none, data := .fields ps } := I2.hok P _ hP
  have cd : PySem.W.CodeHd s2.heap c P := TB.code.keeps fun b u e => I2.bk b u e
  have szf : ∀ b ∈ fp, b < s2.heap.objs.size := fun b hb => by
    obtain ⟨o, e, _⟩ := T.obj _ _ st2 b hb
    exact Heap.lt_size e
  have nP : ∀ b ∈ fp, b ≠ P := fun b hb z => by
    have z2 := (f2 b hb).1
    rw [z, hP] at z2
    cases z2
  have cont : ∀ (code : Value) (h3 : Heap) (tk : Nat) (more : Array Value), (∀ b o, b ≠ P → s2.heap.get? b = some o → h3.get? b = some o) → s2.heap.objs.size ≤ h3.objs.size → h3.get? P = some { cls := .none, data := .fields (ps ++ more) } → TriplesOk (ps ++ more).toList →
      wpAny (model X.prog X.w) X.A (builtinsFor X.env.globals X.env.builtins) (fun bi s₄ =>
        ∀ h', h'.Ns s₄.heap.objs.size (fun y => if y = ".0" then some (Value.ref it) else none) → Heap.SameBut s₄.heap.objs.size (s₄.heap.push { cls := .type "frame", data := .dict #[] }) h' →
          wpAny (model X.prog X.w) X.A (spliced (backTo pos (starEach [] X.env))) (fun us s5 => wpAny (model X.prog X.w) X.A (call (.builtin "all") (Value.ref h'.objs.size :: us)) (EP X pins σ Q) X.xe s5) X.xe { s₄ with
            gens := s₄.gens.push (.fresh (.compStart (.GeneratorExp el [⟨tg, iter, [], 0⟩] sc gpos) 0 (.ref it) .none (genEnv sc (cloFrom X.env.cells sc.names []) s₄.heap.objs.size code bi X.env))),
            toks := s₄.toks + 1 + 1 + 1,
            heap := h'.push { cls := .type "generator", data := .fields #[.int s₄.gens.size 0, .str "<genexpr>" (s₄.toks + 1), .str (X.env.qual ++ "<genexpr>") (s₄.toks + 1 + 1)] } }) X.xe { s2 with heap := h3, toks := tk } := by
    intro code h3 tk more kp3 sz3 hP3 ht3
    obtain ⟨bm, ob, e1, e2, e3, e4, e5, e6, e7, e8⟩ := TB.bm
    have I3 : Inv X pins σ (upd H1 P (.tbl (ps ++ more))) { s2 with heap := h3, toks := tk } := GxR.inv_tab (h' := h3) (g' := s2.gens) (d' := s2.drawn) (t' := tk) I2 hP kp3 hP3 I2.bare
    have nsg : h3.Ns X.env.globals X.mg := by
      rw [I2.ok.glob]
      obtain ⟨og, es, ep, eg, r⟩ := I2.mod.glob.keeps I2.bk
      exact ⟨og, es, ep, kp3 _ og TB.gP eg, r⟩
    refine wpAny_builtinsFor (m := X.mg) nsg e1 e2 (kp3 _ _ e4 (I2.bk _ _ e5)) e6 e7 e8 ?_
    intro h' hn' hs'
    refine Calls.spliced_nil ?_
    have sz' : h'.objs.size = h3.objs.size + 1 := by rw [hs'.1, Heap.size_push]
    have kp' : ∀ b o, h3.get? b = some o → h'.get? b = some o := fun b o e => hs'.extBut b o (Nat.ne_of_lt (Heap.lt_size e)) (Heap.get?_push_of_some _ e)
    generalize hgo : ({ cls := .type "generator", data := .fields #[.int s2.gens.size 0, .str "<genexpr>" (tk + 1), .str (X.env.qual ++ "<genexpr>") (tk + 1 + 1)] } : Obj) = go
    have hget : (h'.push go).get? h'.objs.size = some go := by
      rw [← hgo]
      exact Heap.get?_push_size _ rfl
    have hgen : ∀ h : Heap, h.get? h'.objs.size = some go → h.IsGen h'.objs.size s2.gens.size := fun h e => by
      rw [← hgo] at e
      exact ⟨_, _, _, e, rfl, rfl, rfl⟩
    have hgd : ∀ v, go.data ≠ .cell v := fun v z => by
      rw [← hgo] at z
      cases z
    have tb : GxR.Tabbed P H1 (upd H1 P (.tbl (ps ++ more))) := ⟨⟨ps ++ more, upd_same, ht3⟩, fun b hb => upd_ne hb⟩
    obtain ⟨W, ⟨m0, w0⟩, turn⟩ := q _ tb
    have f3 : ∀ b ∈ fp, FpOk X pins (upd H1 P (.tbl (ps ++ more))) b ∧ b < h3.objs.size := fun b hb => by
      refine ⟨⟨?_, (f2 b hb).2⟩, Nat.lt_of_lt_of_le (szf b hb) sz3⟩
      rw [upd_ne (nP b hb)]
      exact (f2 b hb).1
    have kp5 : ∀ b o, h3.get? b = some o → (h'.push go).get? b = some o := fun b o e => Heap.get?_push_of_some _ (kp' b o e)
    have st5 : tn 0 (h'.push go) := T.keep _ _ _ st2 fun b hb o e => kp5 b o (kp3 b o (nP b hb) e)
    generalize hce : genEnv sc (cloFrom X.env.cells sc.names []) h3.objs.size code builtinsNs X.env = ce
    have hgl : s2.gens.size < (s2.gens.push (.fresh (.compStart (.GeneratorExp el [⟨tg, iter, [], 0⟩] sc gpos) 0 (.ref it) .none ce))).size := by
      rw [Array.size_push]
      exact Nat.lt_succ_self _
    have bare5 : AllBare (s2.gens.push (.fresh (.compStart (.GeneratorExp el [⟨tg, iter, [], 0⟩] sc gpos) 0 (.ref it) .none ce))) := I2.bare.push rfl
    have I6 := gen_start (h2 := h'.push go) (g2 := (({ s2 with heap := h'.push go, gens := s2.gens.push (.fresh (.compStart (.GeneratorExp el [⟨tg, iter, [], 0⟩] sc gpos) 0 (.ref it) .none ce)) } : Shared).setGen s2.gens.size .running).gens) (t2 := tk + 1 + 1 + 1) (code := code) (go := go) I3 ok gs hN hc f3 (hn'.push go) kp5 (by show h3.objs.size < h'.objs.size; omega) hget hgd (allBare_setGen bare5 rfl)
    have pg := hgt { s2 with heap := h3, toks := tk } (upd H1 P (.tbl (ps ++ more))) h3.objs.size (cloFrom X.env.cells sc.names []) code fp [(h'.objs.size, go)]
    have pe := he { s2 with heap := h3, toks := tk } (upd H1 P (.tbl (ps ++ more))) h3.objs.size (cloFrom X.env.cells sc.names []) code fp [(h'.objs.size, go)]
    have hsc : ce.scope = sc := by rw [← hce]; rfl
    change Inv (gCx X { s2 with heap := h3, toks := tk } (upd H1 P (.tbl (ps ++ more))) (genEnv sc (cloFrom X.env.cells sc.names []) h3.objs.size code builtinsNs X.env) fp [(h'.objs.size, go)]) [] _ _ _ at I6
    rw [hce] at I6 pg pe
    refine call_function_tree F.kind_all F.plain_all F.entry_all (F.args_all1 _) ?_
    unfold Builtin.«all»
    refine wpAny_bind (m := oneArg "all" _) (wpAny_pure ?_)
    refine wpAny_bind (wpAny_pyIter_gen (hgen _ hget) ?_)
    have back : ∀ {s7 s8 : Shared} {H7 : Hp}, Inv (gCx X { s2 with heap := h3, toks := tk } (upd H1 P (.tbl (ps ++ more))) ce fp [(h'.objs.size, go)]) [] (wipe σ (own.map (·.2))) H7 s7 → Aft s7 s8 → Inv X pins σ H7 s8 := fun {s7 s8 H7} I7 af => by
      obtain ⟨o1, o2, o3⟩ := af
      exact I3.call' (ch := fp) (o1.trans I7.os) (I7.base.trans (Un.kept o3)) (I7.hok.kept o3) o2 fun b hb => ⟨(f3 b hb).1.2.2.2.1, (f3 b hb).1.2.1, (f3 b hb).1.2.2.2.2.1, (f3 b hb).1.2.2.2.2.2⟩
    refine wpAny_pure ⟨plainId_quiet F.plain_all_loop _, all_loop (Y := gCx X { s2 with heap := h3, toks := tk } (upd H1 P (.tbl (ps ++ more))) ce fp [(h'.objs.size, go)]) (A := X.A) (a := h'.objs.size) (g := s2.gens.size) (w := wipe σ (own.map (·.2))) (Qt := fun H => Q (.bl true) H) (Qf := fun H => Q (.bl false) H) hr.hd (by have := hr.dp; omega) (fun s7 H7 s8 I7 q7 af => ?_) (fun s7 H7 s8 I7 q7 af => ?_) (m0 + 1) _ (hgen _ hget) (I3.nolimit.keeps kp5) ⟨_, Array.getElem?_push_size .., rfl, ?_⟩⟩
    · exact ⟨.bl true, H7, back I7 af, rfl, q7⟩
    · exact ⟨.bl false, H7, back I7 af, rfl, q7⟩
    · refine gen_begin ?_ (fun B Q' E' h => T.self B 0 _ Q' E' st5 h)
      have lp := gen_loop (A := X.A.in1.in1) (Y := gCx X { s2 with heap := h3, toks := tk } (upd H1 P (.tbl (ps ++ more))) ce fp [(h'.objs.size, go)]) (iter := iter) (sc := sc) (pos := gpos) (σ0 := σ) (vs := own.map (·.2)) (Qt := fun H => Q (.bl true) H) (Qf := fun H => Q (.bl false) H) (g := s2.gens.size) rfl hc rfl rfl rfl hgen (fun z => by
        have h9 : (h'.objs.size : Nat) < h3.objs.size := (f3 _ z).2
        omega) (by show ce.scope.isCoroutine = false; rw [hsc]; exact gs.co) T pg pe turn (m0 + 1) 0 m0 (upd H1 P (.tbl (ps ++ more)))
      exact lp _ _ (Nat.lt_succ_self _) w0 I6 st5 fun b hb => (f3 b hb).1.1
  cases hf : codeAmong gpos ps.toList with
  | none =>
    refine wpAny_genexprCodeX hcode (cd.code hPs htp) (cd.tab hPs) hf fun c' h' tk hx hge hlt hco' _ htab' _ => ?_
    obtain ⟨o1, vs, f1, tf, fl, tg', inF, tx, tt, op, _, _, _, _, _, _, _, _, _, htr, _⟩ := hco'
    exact cont _ h' tk _ hx (Nat.le_trans hge (Nat.le_of_lt hlt)) htab'.2 htr
  | some cv =>
    refine wpAny_genexprCode_hit hcode (cd.code hPs htp) hf ?_
    have e : ps ++ #[] = ps := by simp
    exact cont cv s2.heap s2.toks #[] (fun b o _ e => e) (Nat.le_refl _) (by rw [e]; exact hPs) (by rw [e]; exact htp)
end
end Fo
namespace Fo
open PySem PySem.Spec PyProof.Rows L2
/-! what stays where tables of code objects may grow -/
def KeepT (H H' : Hp) : Prop := (∀ b o, H b = some o → (∀ q, o ≠ .tbl q) → H' b = some o) ∧ ∀ b q, H b = some (.tbl q) → ∃ q', H' b = some (.tbl q') ∧ (TriplesOk q.toList → TriplesOk q'.toList)
theorem KeepT.refl (H : Hp) : KeepT H H := ⟨fun _ _ e _ => e, fun _ q e => ⟨q, e, id⟩⟩
theorem KeepT.of_same {H H' : Hp} (h : Same H H') : KeepT H H' := ⟨fun b o e _ => h b o e, fun b q e => ⟨q, h b _ e, id⟩⟩
theorem KeepT.trans {H H1 H2 : Hp} (a : KeepT H H1) (b : KeepT H1 H2) : KeepT H H2 := by
  refine ⟨fun c o e f => b.1 c o (a.1 c o e f) f, fun c q e => ?_⟩
  obtain ⟨q1, e1, t1⟩ := a.2 c q e
  obtain ⟨q2, e2, t2⟩ := b.2 c q1 e1
  exact ⟨q2, e2, fun z => t2 (t1 z)⟩
theorem KeepT.free {H H' : Hp} (a : KeepT H H') {p : Addr} (np : H' p = none) : H p = none := by
  cases e : H p with
  | none => rfl
  | some o =>
    cases o with
    | tbl q =>
      obtain ⟨q', e', _⟩ := a.2 p q e
      rw [np] at e'
      cases e'
    | _ =>
      have z := a.1 p _ e (fun q z => by cases z)
      rw [np] at z
      cases z
theorem KeepT.lst {H H' : Hp} (a : KeepT H H') {p : Addr} {xs : List V} (e : H p = some (.lst xs)) : H' p = some (.lst xs) := a.1 p _ e (fun q z => by cases z)
theorem KeepT.seq {K : PySem.W.Frag} {H H' : Hp} (a : KeepT H H') {p : Addr} {xs : List V} (e : SqL K H p xs) : SqL K H' p xs := by
  rcases e with (e | ⟨o, e⟩) | e
  · exact .inl (.inl (a.1 p _ e (fun q z => by cases z)))
  · exact .inl (.inr ⟨o, a.1 p _ e (fun q z => by cases z)⟩)
  · exact .inr e
theorem KeepT.tab {H H' : Hp} (a : KeepT H H') {P : Addr} (t : GxR.TabG H P) : GxR.TabG H' P := by
  obtain ⟨q, e, z⟩ := t
  obtain ⟨q', e', t'⟩ := a.2 P q e
  exact ⟨q', e', t' z⟩
theorem KeepT.of_tabbed {P : Addr} {H H' : Hp} (t : GxR.TabG H P) (h : GxR.Tabbed P H H') : KeepT H H' := by
  obtain ⟨q0, e0, z0⟩ := t
  obtain ⟨⟨q1, e1, z1⟩, k⟩ := h
  refine ⟨fun b o e f => ?_, fun b q e => ?_⟩
  · rw [k b (fun z => by rw [z, e0] at e; exact f q0 (Option.some.inj e).symm)]
    exact e
  · by_cases hb : b = P
    · rw [hb] at e ⊢
      exact ⟨q1, e1, fun _ => z1⟩
    · exact ⟨q, by rw [k b hb]; exact e, id⟩
/-- the same but for the object at d -/
def KeepTD (d : Addr) (H H' : Hp) : Prop := (∀ b o, H b = some o → b ≠ d → (∀ q, o ≠ .tbl q) → H' b = some o) ∧ ∀ b q, H b = some (.tbl q) → b ≠ d → ∃ q', H' b = some (.tbl q') ∧ (TriplesOk q.toList → TriplesOk q'.toList)
theorem LL.keepT {H H' : Hp} {as : List Addr} {rs : List (List Int)} (h : LL H as rs) (s : KeepT H H') : LL H' as rs := by
  induction as generalizing rs with
  | nil => cases rs with
    | nil => trivial
    | cons _ _ => exact h.elim
  | cons a as ih => cases rs with
    | nil => exact h.elim
    | cons r rs => exact ⟨s.lst h.1, ih h.2⟩
/-- a def with the code object that it runs by -/
structure DfC (K : PySem.W.Frag) (mg : Str → Option Value) (x : Str) (st : Stmt) (ps : List Str) (f : Addr) (fd : FuncData) (c : Addr) : Prop where
  F : Fun K x x st f fd
  b : Binds K fd ps []
  g : mg x = some (.ref f)
  c : fd.code = .ref c
theorem fun_okC {P : Program} {w : World} {K : PySem.W.Frag} {mg : Str → Option Value} {base : Heap} {x qual : Str} {st : Stmt} {f c : Addr} {fd : FuncData} {N ps : List Str} {k : Nat} {sp : Sp} (F : Fun K x qual st f fd) (hc : fd.code = .ref c) (S : FnScope N ps (defScope st))
    (len : ∀ vs H Q E, sp vs H Q E → vs.length = ps.length)
    (body : ∀ (A : Around) (outer : List Env) (s : Shared) (H : Hp) (vs : List V) (Q : VK) (E : XK), Room k (A.deeper (envOfC qual (defScope st) s.heap.objs.size f (.ref c))) → sp vs H Q E →
      ∃ t, PSs (cxOf CX0 P w K mg base N qual (defScope st) f (.ref c) A outer s H E).nox (defBody st) t ∧ t { nx := fun _ H' => Q .non H', rt := Q } (start N vs) H) : FnOk P w K mg base CX0 (k + 1) f fd ps sp := by
  obtain ⟨oc, od, kV, doc, pm, an, cdv, ct, osl, rfl, lk, hcd⟩ := F.ex
  obtain rfl : cdv = .ref c := hc
  refine fn_of lk hcd S len fun A outer s H vs Q E hr hsp => ?_
  obtain ⟨t, h1, h2⟩ := body A outer s H vs Q E hr hsp
  exact ⟨t, h1.nox, h2⟩
/-- over a list that stands still -/
theorem all_list {K : PySem.W.Frag} {a : Addr} {xs : List V} {gt : TG} {te : TE} {vs : List Nat} {σ : L2.St} {H : Hp} {Q : VK} (Pv : Nat → Hp → Prop) (h0 : Pv 0 H) (hl : ∀ i H, i ≤ xs.length → Pv i H → SqL K H a xs)
    (hs : ∀ i x H, xs[i]? = some x → Pv i H → gt x (wipe σ vs) H fun σ2 H3 => wipe σ2 vs = wipe σ vs ∧ te σ2 H3 fun y H4 => ∃ b, y = .bl b ∧ if b = true then Pv (i + 1) H4 else Q (.bl false) H4) (hd : ∀ H, Pv xs.length H → Q (.bl true) H)
    (mono : ∀ (x : V) (H : Hp) (p q : V → Hp → Prop), (∀ y H, p y H → q y H) → (gt x (wipe σ vs) H fun σ2 H3 => wipe σ2 vs = wipe σ vs ∧ te σ2 H3 p) → (gt x (wipe σ vs) H fun σ2 H3 => wipe σ2 vs = wipe σ vs ∧ te σ2 H3 q)) :
    ∃ W : Nat → Nat → Hp → Prop, (∃ m, W 0 m H) ∧ ∀ i m H, W i m H →
      ((Itl K a).stop i H ∧ Q (.bl true) H) ∨ ((Itl K a).go i H ∧ ∀ x H', (Itl K a).yld i H x H' → gt x (wipe σ vs) H' fun σ2 H3 => wipe σ2 vs = wipe σ vs ∧ te σ2 H3 fun y H4 => ∃ b, y = .bl b ∧ if b = true then ∃ m', m' < m ∧ W (i + 1) m' H4 else Q (.bl false) H4) := by
  refine ⟨fun j m H => m = xs.length - j ∧ j ≤ xs.length ∧ Pv j H, ⟨xs.length, by simp, Nat.zero_le _, h0⟩, ?_⟩
  rintro j m H ⟨rfl, hi, p⟩
  have q := hl j H hi p
  by_cases hlt : j < xs.length
  · refine .inr ⟨⟨xs, xs[j], q, by simp [hlt]⟩, fun x H' y => ?_⟩
    obtain ⟨e, y⟩ := y
    subst e
    refine mono x _ _ _ (fun z H4 hz => ?_) (hs j x _ (y _ q) p)
    obtain ⟨b, eb, r⟩ := hz
    refine ⟨b, eb, ?_⟩
    cases b with
    | true => exact ⟨xs.length - (j + 1), by omega, rfl, hlt, r⟩
    | false => exact r
  · have e : j = xs.length := by omega
    subst e
    exact .inl ⟨⟨xs, q, Nat.le_refl _⟩, hd H p⟩
end Fo
namespace Fo
open PySem PySem.Spec PyProof.Rows L2
def farAll (w : Str) (d : Int) (xs : List Int) (rs : List (List Int)) : Bool := rs.all fun o => decide (d ≤ farW w xs o)
theorem farAll_nil {w : Str} {d : Int} {xs : List Int} : farAll w d xs [] = true := rfl
theorem farAll_more {w : Str} {d : Int} {xs : List Int} {rs : List (List Int)} {i : Nat} {r : List Int} (h : rs[i]? = some r) : farAll w d xs (rs.take (i + 1)) = (farAll w d xs (rs.take i) && decide (d ≤ farW w xs r)) := by
  unfold farAll
  rw [List.take_add_one, h, List.all_append]
  show (_ && (decide (d ≤ farW w xs r) && true)) = _
  rw [Bool.and_true]
theorem farAll_false {w : Str} {d : Int} {xs : List Int} {rs : List (List Int)} {i : Nat} {r : List Int} (h : rs[i]? = some r) (hf : decide (d ≤ farW w xs r) = false) : farAll w d xs rs = false := by
  unfold farAll
  rw [List.all_eq_false]
  exact ⟨r, List.mem_of_getElem? h, by rw [hf]; decide⟩
/-- a list of orders, told whether all of them are so far -/
def spIsFar (Pt : Addr) : Sp := fun vs H Q _ => ∃ (w : Str) (d : Int) (a l : Addr) (n : Nat) (xs : List Int) (bs : List Addr) (rs : List (List Int)), vs = [.str w, .int d, .ref a, .ref l] ∧ IsWay w ∧ H a = some (.lst (xs.map V.int)) ∧ IsOrd n xs ∧ 1 ≤ n ∧ n ≤ 12 ∧
  H l = some (.lst (bs.map V.ref)) ∧ LL H bs rs ∧ (∀ r ∈ rs, IsOrd n r) ∧ GxR.TabG H Pt ∧ ∀ H', KeepT H H' → Q (.bl (farAll w d xs rs)) H'
section
variable {P : Program} {w : World} {K : PySem.W.Frag} {mg : Str → Option Value} {base : Heap}
theorem scIsFar : FnScope ["way", "d", "order", "others", "other"] ["way", "d", "order", "others"] (defScope s_is_far) := ⟨rfl, rfl, rfl, by decide +kernel, rfl, by decide +kernel, by decide +kernel⟩
set_option maxHeartbeats 2000000 in
theorem ok_isFar {f f1 c Pt : Addr} {fd d1 : FuncData} {k : Nat} (T : DfC K mg "is_far" s_is_far ["way", "d", "order", "others"] f fd c) (TB : LamX.TabB base mg c Pt) (T_known_far : Df K mg "known_far" s_known_far ["way", "one", "other"] f1 d1) (G_known_far : FnOk P w K mg base CX0 k f1 d1 ["way", "one", "other"] spFar) (B : Bi mg) :
    FnOk P w K mg base CX0 (k + 2) f fd ["way", "d", "order", "others"] (spIsFar Pt) := by
  refine fun_okC T.F T.c scIsFar (fun vs H Q E h => ?_) (fun A outer s H vs Q E hr h => ?_)
  · obtain ⟨z, d, a, l, n, xs, bs, rs, rfl, _⟩ := h
    rfl
  · obtain ⟨z, d, a, l, n, xs, bs, rs, rfl, hz, ha, ox, hn1, hn2, hl, hL, ho, ht, q⟩ := h
    refine ⟨_, 
      (pss_one (ps_ret (pe_allG (own := [("other", 4)]) (gt := (gName 4)) (te := (tOp (rI0 fun i j => .bl (decide (j ≤ i))) (tCall spFar [] E0 (tCons (tVar 0) (tCons (tVar 2) (tCons (tVar 4) tNil)))) (tVar 1))) rfl scIsFar.nd hr (by rfl) B.all (by decide +kernel) TB rfl (pi_list (pv 3)) (blkOk_by (N := ["way", "d", "order", "others", "other"]) (sc := defScope s_is_far) (by decide +kernel)) (gsc_by (by decide +kernel)) (fun _ _ _ _ _ _ _ => (pg_name (i := 4) scIsFar.nd rfl (.inl rfl))) (fun _ _ _ _ _ _ _ => (pe_cmpR op_ge (pe_call G_known_far (room_gen hr) (by rfl) T_known_far.g T_known_far.F.kp T_known_far.b .nil pass0 (pa_cons (pv 0) (pa_cons (pv 2) (pa_cons (pv 4) pa_nil)))) (pv 1) (nomark _)))))), ?_⟩
    refine ⟨_, rfl, l, rfl, ⟨_, SqL.of hl⟩, ht, fun H2 tb => ?_⟩
    have k2 := KeepT.of_tabbed ht tb
    refine all_list (K := K) (a := l) (xs := bs.map V.ref) (fun i H3 => KeepT H H3 ∧ farAll z d xs (rs.take i) = true) ⟨k2, rfl⟩ (fun i H3 _ hP => SqL.of (hP.1.lst hl)) (fun i x H3 hx hP => ?_) (fun H3 hP => ?_) (fun x H3 p p' hpq h => ?_)
    · obtain ⟨k3, hall⟩ := hP
      obtain ⟨r, er, rfl⟩ := ref_at_inv hx
      obtain ⟨row, erow, hrow⟩ := hL.get er
      refine ⟨rfl, _, rfl, _, rfl, _, rfl, z, a, r, n, xs, row, rfl, hz, k3.lst ha, k3.lst hrow, ox, ho _ (List.mem_of_getElem? erow), hn1, hn2, fun H4 s4 => ?_⟩
      have k4 := k3.trans (KeepT.of_same s4)
      refine ⟨_, rfl, _, _, rfl, rfl, _, rfl, ?_⟩
      cases hb : decide (d ≤ farW z xs row) with
      | true => exact ⟨k4, by rw [farAll_more erow, hall, hb]; rfl⟩
      | false =>
        have z2 := q H4 k4
        rw [farAll_false erow hb] at z2
        exact z2
    · obtain ⟨k3, hall⟩ := hP
      rw [List.length_map, hL.len, List.take_length] at hall
      have z2 := q H3 k3
      rw [hall] at z2
      exact z2
    · obtain ⟨e1, i1, e2, i3, e3, i4, e4, zz, a', b', n', xs', ys', e5, r1, r2, r3, r4, r5, r6, r7, r8⟩ := h
      exact ⟨e1, i1, e2, i3, e3, i4, e4, zz, a', b', n', xs', ys', e5, r1, r2, r3, r4, r5, r6, r7, fun H4 s4 => by
        obtain ⟨j, ej, u1, u2, e6, e7, e8⟩ := r8 H4 s4
        exact ⟨j, ej, u1, u2, e6, e7, hpq _ _ e8⟩⟩
end
end Fo
namespace Fo
open PySem PySem.Spec PyProof.Rows L2
/-! ### a deck: a list of drawn numbers that never gets empty -/
def DqAt (H : Hp) (d : Addr) : Prop := ∃ ms : List Int, H d = some (.lst (ms.map V.int)) ∧ 1 ≤ ms.length ∧ ms.length ≤ 1200 ∧ ∀ m ∈ ms, 0 ≤ m ∧ m < 2147483648
def KeepD (d : Addr) (H H' : Hp) : Prop := ∀ b o, H b = some o → b ≠ d → H' b = some o
theorem KeepD.refl (d : Addr) (H : Hp) : KeepD d H H := fun _ _ e _ => e
theorem KeepD.trans {d : Addr} {H H1 H2 : Hp} (a : KeepD d H H1) (b : KeepD d H1 H2) : KeepD d H H2 := fun c o e f => b c o (a c o e f) f
theorem KeepD.of_same {d : Addr} {H H' : Hp} (h : Same H H') : KeepD d H H' := fun b o e _ => h b o e
theorem KeepD.new {d : Addr} {H : Hp} {p : Addr} {o : HO} (e : H p = none) : KeepD d H (upd H p o) := KeepD.of_same (same_new e)
theorem KeepD.none {d : Addr} {H H1 : Hp} (k : KeepD d H H1) {p : Addr} (np : H1 p = none) (nf : p ≠ d) : H p = none := by
  cases e : H p with
  | none => rfl
  | some o =>
    have z := k p o e nf
    rw [np] at z
    cases z
theorem DqAt.same {H H' : Hp} {d : Addr} (h : DqAt H d) (s : Same H H') : DqAt H' d := by
  obtain ⟨ms, e, r⟩ := h
  exact ⟨ms, s _ _ e, r⟩
theorem DqAt.ne {H : Hp} {d : Addr} (h : DqAt H d) {p : Addr} (e : H p = none) : p ≠ d := by
  obtain ⟨ms, e1, _⟩ := h
  exact (ne_of_none e1 e).symm
theorem DqAt.upd {H : Hp} {d : Addr} (h : DqAt H d) {p : Addr} {o : HO} (n1 : p ≠ d) : DqAt (upd H p o) d := by
  obtain ⟨ms, e, r⟩ := h
  exact ⟨ms, by rw [upd_ne n1.symm]; exact e, r⟩
theorem DqAt.new {H : Hp} {d : Addr} (h : DqAt H d) {p : Addr} {o : HO} (e : H p = none) : DqAt (L2.upd H p o) d := h.upd (h.ne e)
def spCell (K : PySem.W.Frag) : Sp := fun vs H Q _ => ∃ (a : Addr) (ns : List Int) (k : Nat), vs = [.ref a, .int k] ∧ SqL K H a (ns.map V.int) ∧ ∀ (v : Int), Q (.int v) H
def spStir : Sp := fun vs H Q _ => ∃ (c k : Int), vs = [.int c, .int k] ∧ 0 ≤ k ∧ k ≤ 1200 ∧ ∀ (v : Int), 0 ≤ v → v < 2147483648 → Q (.int v) H
def spDeckN : Sp := fun vs H Q _ => ∃ (c : Int) (many : Nat), vs = [.int c, .int many] ∧ 1 ≤ many ∧ many ≤ 1200 ∧ ∀ (d : Addr) (H' : Hp), H d = none → DqAt H' d → Same H H' → Q (.ref d) H'
def spNext : Sp := fun vs H Q _ => ∃ (d : Addr), vs = [.ref d] ∧ DqAt H d ∧ ∀ (v : Int) (H' : Hp), 0 ≤ v → v < 2147483648 → DqAt H' d → KeepD d H H' → Q (.int v) H'
def spOrderN : Sp := fun vs H Q _ => ∃ (d : Addr) (n : Nat), vs = [.ref d, .int n] ∧ DqAt H d ∧ n ≤ 12 ∧
  ∀ (ns : List Int) (l : Addr) (H' : Hp), IsOrd n ns → H l = none → H' l = some (.lst (ns.map V.int)) → l ≠ d → DqAt H' d → KeepD d H H' → Q (.ref l) H'
def spNearN : Sp := fun vs H Q _ => ∃ (d o : Addr) (n : Nat) (ns : List Int), vs = [.ref d, .ref o] ∧ DqAt H d ∧ H o = some (.lst (ns.map V.int)) ∧ IsOrd n ns ∧ 1 ≤ n ∧ n ≤ 12 ∧
  ∀ (ms : List Int) (l : Addr) (H' : Hp), IsOrd n ms → H l = none → H' l = some (.lst (ms.map V.int)) → l ≠ d → DqAt H' d → KeepD d H H' → Q (.ref l) H'
theorem mod_b (x : Int) {m : Int} (h : 0 < m) : 0 ≤ x % m ∧ x % m < m := ⟨Int.emod_nonneg x (by omega), Int.emod_lt_of_pos x h⟩
theorem mul_b {x y a b : Int} (hx : 0 ≤ x) (hxa : x ≤ a) (hy : 0 ≤ y) (hyb : y ≤ b) : 0 ≤ x * y ∧ x * y ≤ a * b := ⟨Int.mul_nonneg hx hy, Int.mul_le_mul hxa hyb hy (by omega)⟩
section
variable {P : Program} {w : World} {K : PySem.W.Frag} {mg : Str → Option Value} {base : Heap}
theorem scCell : FnScope ["script", "k"] ["script", "k"] (defScope s_law_cell_at) := ⟨rfl, rfl, rfl, by decide +kernel, rfl, by decide +kernel, by decide +kernel⟩
theorem ok_cell {f : Addr} {fd : FuncData} {k : Nat} (T : Df K mg "_law_cell_at" s_law_cell_at ["script", "k"] f fd) (B : Bi mg) : FnOk P w K mg base CX0 (k + 1) f fd ["script", "k"] (spCell K) := by
  refine T.F.ok scCell (fun vs H Q E h => ?_) (fun cdv A outer s H vs Q E hr h => ?_)
  · obtain ⟨a, ns, k, rfl, _⟩ := h
    rfl
  · obtain ⟨a, ns, k, rfl, hS, q⟩ := h
    refine ⟨_, 
      (pss_cons (ps_if (pt_cmpR op_lt (pv 1) (pe_callB call_len_seq (by rfl) B.len PySem.boot_len (pa_cons (pv 0) pa_nil)) (nomark _))
        (pss_one (ps_ret (pe_ix ix_list (pv 0) (pv 1) (fun _ _ => rfl))))
        pss_nil)
      (pss_one (ps_ret pe_int))), ?_⟩
    refine ⟨_, rfl, _, rfl, a, _, rfl, .inl hS, (k : Int), _, rfl, rfl, _, rfl, ite2 (fun c => ?_) (fun _ => q 0)⟩
    have hl : (k : Int) < (((ns.map V.int).length : Nat) : Int) := of_decide_eq_true c
    rw [List.length_map] at hl
    exact ⟨_, rfl, _, rfl, a, _, _, _, rfl, rfl, hS, at_of (j := k) rfl (int_at (List.getElem?_eq_getElem (show k < ns.length by omega))), q _⟩
theorem scStir : FnScope ["cell", "k", "one"] ["cell", "k"] (defScope s_law_stir) := ⟨rfl, rfl, rfl, by decide +kernel, rfl, by decide +kernel, by decide +kernel⟩
theorem ok_stir {f : Addr} {fd : FuncData} {k : Nat} (T : Df K mg "_law_stir" s_law_stir ["cell", "k"] f fd) (B : Bi mg) : FnOk P w K mg base CX0 (k + 1) f fd ["cell", "k"] spStir := by
  refine T.F.ok scStir (fun vs H Q E h => ?_) (fun cdv A outer s H vs Q E hr h => ?_)
  · obtain ⟨c, k, rfl, _⟩ := h
    rfl
  · obtain ⟨c, k, rfl, k0, k1, q⟩ := h
    refine ⟨_, 
      (Evl.pss_cut (ps_set (i := 2) scStir.nd rfl (.inl rfl) (pe_op op_mod (pe_op op_mul (pe_op op_add (pe_op op_add (pe_op op_mod (pv 0) pe_int) (pe_op op_mul pe_int (pv 1))) pe_int) pe_int) pe_int))
      (Evl.pss_cut (ps_set (i := 2) scStir.nd rfl (.inl rfl) (pe_op op_mod (pe_op op_mul (pv 2) (pv 2)) pe_int))
      (pss_one (ps_ret (pe_op op_fdiv (pe_op op_mod (pe_op op_mul (pe_op op_add (pv 2) (pe_op op_mul pe_int (pv 1))) pe_int) pe_int) pe_int))))), ?_⟩
    refine ⟨fun τ G => ∃ x : Int, 0 ≤ x ∧ x < 2147483647 ∧ τ = [some (.int c), some (.int k), some (.int x)] ∧ G = H, ?_, fun τ G hM => ?_⟩
    · exact ⟨_, rfl, c, 2147483629, rfl, rfl, (show (0 : Int) < 2147483629 by decide), _, rfl, 9973, k, rfl, rfl, .inl ⟨by decide, by decide⟩, _, _, rfl, rfl, _, 5, rfl, rfl, _, 48271, rfl, rfl, .inr ⟨by decide, by decide⟩, _, 2147483647, rfl, rfl, (show (0 : Int) < 2147483647 by decide), _, (mod_b _ (by decide)).1, (mod_b _ (by decide)).2, rfl, rfl⟩
    obtain ⟨x, x0, x1, rfl, e1⟩ := hM
    subst e1
    refine ⟨fun τ G' => ∃ y : Int, 0 ≤ y ∧ y < 2147483587 ∧ τ = [some (.int c), some (.int k), some (.int y)] ∧ G' = G, ?_, fun τ G' hM => ?_⟩
    · exact ⟨_, rfl, _, rfl, x, x, rfl, rfl, .inl ⟨by omega, by omega⟩, _, 2147483587, rfl, rfl, (show (0 : Int) < 2147483587 by decide), _, (mod_b _ (by decide)).1, (mod_b _ (by decide)).2, rfl, rfl⟩
    obtain ⟨y, y0, y1, rfl, e1⟩ := hM
    subst e1
    have h1 := mod_b ((y + 7919 * k) * 16807) (m := 2147483563) (by decide)
    exact ⟨_, rfl, _, rfl, 7919, k, rfl, rfl, .inl ⟨by decide, by decide⟩, _, _, rfl, rfl, _, 16807, rfl, rfl, .inr ⟨by decide, by decide⟩, _, 2147483563, rfl, rfl, (show (0 : Int) < 2147483563 by decide), _, 8, rfl, rfl, ⟨by decide, by decide⟩, q _ (by omega) (by omega)⟩
theorem scDeckN : FnScope ["cell", "many", "found", "digits", "k", "number"] ["cell", "many"] (defScope s_law_deck) := ⟨rfl, rfl, rfl, by decide +kernel, rfl, by decide +kernel, by decide +kernel⟩
set_option maxHeartbeats 2000000 in
theorem ok_deckN {f fS : Addr} {fd fdS : FuncData} {k : Nat} (T : Df K mg "_law_deck" s_law_deck ["cell", "many"] f fd) (T__law_stir : Df K mg "_law_stir" s_law_stir ["cell", "k"] fS fdS) (B : Bi mg) : FnOk P w K mg base CX0 (k + 2) f fd ["cell", "many"] spDeckN := by
  have G__law_stir : FnOk P w K mg base CX0 (k + 1) fS fdS ["cell", "k"] spStir := ok_stir T__law_stir B
  refine T.F.ok scDeckN (fun vs H Q E h => ?_) (fun cdv A outer s H vs Q E hr h => ?_)
  · obtain ⟨c, m, rfl, _⟩ := h
    rfl
  · obtain ⟨c, m, rfl, m1, m2, q⟩ := h
    refine ⟨_, 
      (pss_cons (ps_set (i := 2) scDeckN.nd rfl (.inl rfl) (pe_lst pa_nil))
      (pss_cons (ps_set (i := 3) scDeckN.nd rfl (.inl rfl) (pv 0))
      (pss_cons (ps_for PassesOwn.never rfl (pi_range1 (by rfl) B.range (pa_cons (pv 1) pa_nil)) (pg_name (i := 4) scDeckN.nd rfl (.inl rfl))
        (pss_cons (ps_set (i := 5) scDeckN.nd rfl (.inl rfl) (pe_call G__law_stir hr (by rfl) T__law_stir.g T__law_stir.F.kp T__law_stir.b .nil pass0 (pa_cons (pv 0) (pa_cons (pv 4) pa_nil))))
        (Evl.pss_cut (ps_if (pt_cmpR op_ge (pv 0) (pe_op op_pow pe_int pe_int) (nomark _))
          (pss_one (ps_set (i := 5) scDeckN.nd rfl (.inl rfl) (pe_op op_mod (pv 3) pe_int)))
          pss_nil)
        (pss_cons (ps_set (i := 3) scDeckN.nd rfl (.inl rfl) (pe_op op_fdiv (pv 3) pe_int))
        (pss_one (ps_expr (pe_bm PySem.F.plainAttrs_list PySem.F.slot_list_append PySem.F.type_list_append mt_append (pv 2) (pa_cons (pv 5) pa_nil))))))))
      (pss_one (ps_ret (pe_revL (pv 2))))))), ?_⟩
    refine ⟨line_small (by show 0 ≤ 16777216; decide), fun l nl => ⟨_, rfl, ?_⟩⟩
    refine ⟨_, rfl, m, rfl, by omega, by omega, ?_⟩
    rw [Int.toNat_natCast]
    refine for_range (n := m) (fun i σ H3 => ∃ (x : Int) (y4 y5 : Option V) (ms : List Int), σ = [some (.int c), some (.int m), some (.ref l), some (.int x), y4, y5] ∧ H3 l = some (.lst (ms.map V.int)) ∧ ms.length = i ∧ (∀ z ∈ ms, 0 ≤ z ∧ z < 2147483648) ∧ Same H H3)
      ⟨c, none, none, [], rfl, upd_same, rfl, (fun _ h => absurd h List.not_mem_nil), same_new nl⟩ (fun i σ H3 hi hP => ?_) (fun σ H3 hP => ?_)
    · obtain ⟨x, y4, y5, ms, rfl, hl3, el, hb, s3⟩ := hP
      refine ⟨_, rfl, _, rfl, c, _, rfl, by omega, by omega, fun v v0 v1 => ?_⟩
      refine ⟨fun τ G => ∃ z : Int, 0 ≤ z ∧ z < 2147483648 ∧ τ = [some (.int c), some (.int m), some (.ref l), some (.int x), some (.int (0 + (i : Int))), some (.int z)] ∧ G = H3, ?_, fun τ G hM => ?_⟩
      · refine ⟨_, rfl, 10, 18, rfl, rfl, ⟨by decide, by decide, by decide⟩, c, _, rfl, rfl, _, rfl, ite2 (fun _ => ?_) (fun _ => ⟨v, v0, v1, rfl, rfl⟩)⟩
        have h1 := mod_b x (m := 720720) (by decide)
        exact ⟨_, rfl, x, 720720, rfl, rfl, (show (0 : Int) < 720720 by decide), _, h1.1, by omega, rfl, rfl⟩
      obtain ⟨z, z0, z1, rfl, e1⟩ := hM
      subst e1
      refine ⟨_, rfl, x, 720720, rfl, rfl, ⟨by decide, by decide⟩, ?_⟩
      refine ⟨_, rfl, .inl ⟨rfl, _, SqL.of hl3⟩, _, rfl, l, _, _, rfl, rfl, hl3, line_lt (by rw [List.length_map]; omega), ?_⟩
      refine ⟨_, _, _, ms ++ [z], rfl, by rw [upd_same, List.map_append]; rfl, by rw [List.length_append, el]; rfl, fun u hu => ?_, fun b o e => ?_⟩
      · rcases List.mem_append.mp hu with h | h
        · exact hb u h
        · rw [List.mem_singleton.mp h]
          exact ⟨z0, z1⟩
      · rw [upd_ne (ne_of_none e nl)]
        exact s3 _ _ e
    · obtain ⟨x, y4, y5, ms, rfl, hl3, el, hb, s3⟩ := hP
      refine ⟨_, rfl, l, _, rfl, SqL.of hl3, fun p np => ?_⟩
      have hHp : H p = none := by
        cases e : H p with
        | none => rfl
        | some o =>
          have z := s3 p o e
          rw [np] at z
          cases z
      refine q p _ hHp ⟨ms.reverse, by rw [upd_same, List.map_reverse], by rw [List.length_reverse]; omega, by rw [List.length_reverse]; omega, fun z hz => hb z (List.mem_reverse.mp hz)⟩ (s3.trans (same_new np))
theorem scNext : FnScope ["deck"] ["deck"] (defScope s_law_next) := ⟨rfl, rfl, rfl, by decide +kernel, rfl, by decide +kernel, by decide +kernel⟩
set_option maxHeartbeats 2000000 in
theorem ok_next {f fS : Addr} {fd fdS : FuncData} {k : Nat} (T : Df K mg "_law_next" s_law_next ["deck"] f fd) (T__law_stir : Df K mg "_law_stir" s_law_stir ["cell", "k"] fS fdS) (B : Bi mg) : FnOk P w K mg base CX0 (k + 2) f fd ["deck"] spNext := by
  have G__law_stir : FnOk P w K mg base CX0 (k + 1) fS fdS ["cell", "k"] spStir := ok_stir T__law_stir B
  refine T.F.ok scNext (fun vs H Q E h => ?_) (fun cdv A outer s H vs Q E hr h => ?_)
  · obtain ⟨d, rfl, _⟩ := h
    rfl
  · obtain ⟨d, rfl, ⟨ms, hd, l1, l2, hb⟩, q⟩ := h
    refine ⟨_, 
      (Evl.pss_cut (ps_if (pt_cmpR op_eq (pe_callB call_len_seq (by rfl) B.len PySem.boot_len (pa_cons (pv 0) pa_nil)) pe_int (nomark _))
        (pss_one (ps_expr (pe_bm PySem.F.plainAttrs_list PySem.F.slot_list_insert PySem.F.type_list_insert mt_insert (pv 0) (pa_cons pe_int (pa_cons (pe_op op_mul (pe_call G__law_stir hr (by rfl) T__law_stir.g T__law_stir.F.kp T__law_stir.b .nil pass0 (pa_cons (pe_ix ix_list (pv 0) pe_int (fun _ _ => rfl)) (pa_cons pe_int pa_nil))) (pe_callTy call_int1 (by rfl) B.int (by decide +kernel) (pa_cons (pe_cmpR op_gt (pe_ix ix_list (pv 0) pe_int (fun _ _ => rfl)) pe_int (nomark _)) pa_nil))) pa_nil)))))
        pss_nil)
      (pss_one (ps_ret (pe_bm0 PySem.F.plainAttrs_list PySem.F.slot_list_pop PySem.F.type_list_pop mt_pop (pv 0))))), ?_⟩
    refine ⟨fun τ G => ∃ ks : List Int, τ = [some (.ref d)] ∧ G d = some (.lst (ks.map V.int)) ∧ 2 ≤ ks.length ∧ ks.length ≤ 1200 ∧ (∀ z ∈ ks, 0 ≤ z ∧ z < 2147483648) ∧ KeepD d H G, ?_, fun τ G hM => ?_⟩
    · refine ⟨_, rfl, d, _, rfl, .inl (SqL.of hd), rfl, _, rfl, ite2 (fun c => ?_) (fun c => ?_)⟩
      · have hl : ms.length = 1 := by
          have z : V.int (((ms.map V.int).length : Nat) : Int) = V.int 1 := of_decide_eq_true c
          have z2 : (((ms.map V.int).length : Nat) : Int) = 1 := V.int.inj z
          rw [List.length_map] at z2
          omega
        obtain ⟨x, rfl⟩ := List.length_eq_one_iff.mp hl
        have hx := hb x List.mem_cons_self
        refine ⟨_, rfl, .inl ⟨rfl, _, SqL.of hd⟩, _, rfl, d, _, 0, _, rfl, rfl, SqL.of hd, rfl, x, 7, rfl, by decide, by decide, fun v v0 v1 => ⟨_, rfl, d, _, 0, _, rfl, rfl, SqL.of hd, rfl, x, 0, rfl, rfl, .inr ⟨_, rfl, v, _, rfl, rfl, .inl ⟨by omega, by omega⟩, ?_⟩⟩⟩
        refine ⟨d, _, 0, _, rfl, rfl, hd, line_lt (by show 1 < 16777216; decide), by decide, by decide, ?_⟩
        obtain ⟨u, eu, u0, u1⟩ : ∃ u : Int, v * (if decide ((0 : Int) < x) = true then 1 else 0) = u ∧ 0 ≤ u ∧ u < 2147483648 := by
          by_cases c : (0 : Int) < x
          · rw [decide_eq_true c, if_pos rfl, Int.mul_one]
            exact ⟨v, rfl, v0, v1⟩
          · rw [decide_eq_false c, if_neg (by decide), Int.mul_zero]
            exact ⟨0, rfl, by decide, by decide⟩
        refine ⟨[u, x], rfl, ?_, by show 2 ≤ 2; decide, by show 2 ≤ 1200; decide, fun z hz => ?_, fun b o e nb => by rw [upd_ne nb]; exact e⟩
        · rw [upd_same]
          dsimp only
          rw [eu]
          rfl
        · rcases List.mem_cons.mp hz with rfl | hz
          · exact ⟨u0, u1⟩
          · rw [List.mem_singleton.mp hz]
            exact hx
      · refine ⟨ms, rfl, hd, ?_, l2, hb, KeepD.refl _ _⟩
        by_cases e : ms.length = 1
        · exfalso
          apply c
          apply decide_eq_true
          rw [List.length_map, e]
          rfl
        · omega
    obtain ⟨ks, rfl, hk, l3, l4, hb3, kp⟩ := hM
    obtain ⟨y, ey⟩ : ∃ y, ks[ks.length - 1]? = some y := ⟨ks[ks.length - 1]'(by omega), List.getElem?_eq_getElem (by omega)⟩
    have hy := hb3 y (List.mem_of_getElem? ey)
    refine ⟨_, rfl, .inl ⟨rfl, _, SqL.of hk⟩, d, _, _, rfl, rfl, hk, by rw [List.length_map]; exact int_at ey, ?_⟩
    refine q y _ hy.1 hy.2 ⟨ks.dropLast, by rw [upd_same, List.map_dropLast], by rw [List.length_dropLast]; omega, by rw [List.length_dropLast]; omega, fun z hz => hb3 z ((List.dropLast_prefix ks).subset hz)⟩ (kp.trans fun b o e nb => by rw [upd_ne nb]; exact e)
end
end Fo
namespace Fo
open PySem PySem.Spec PyProof.Rows L2
theorem ins_perm (xs : List Int) (k : Nat) (y : Int) : (xs.take k ++ [y] ++ xs.drop k).Perm (y :: xs) := by
  rw [List.append_assoc]
  have h1 : (xs.take k ++ ([y] ++ xs.drop k)).Perm ([y] ++ (xs.take k ++ xs.drop k)) := by
    rw [← List.append_assoc, ← List.append_assoc]
    exact List.Perm.append_right _ List.perm_append_comm
  rw [List.take_append_drop] at h1
  exact h1
theorem set2_perm {xs : List Int} {p q : Nat} {a b : Int} (ha : xs[p]? = some a) (hb : xs[q]? = some b) : ((xs.set p b).set q a).Perm xs := by
  obtain ⟨h1, e1⟩ := List.getElem?_eq_some_iff.mp ha
  obtain ⟨h2, e2⟩ := List.getElem?_eq_some_iff.mp hb
  rw [← e1, ← e2]
  exact List.set_set_perm h1 h2
theorem set2_V (xs : List Int) (p q : Nat) (a b : Int) : ((xs.map V.int).set p (V.int b)).set q (V.int a) = ((xs.set p b).set q a).map V.int := by
  rw [List.map_set, List.map_set]
section
variable {P : Program} {w : World} {K : PySem.W.Frag} {mg : Str → Option Value} {base : Heap}
end
end Fo
namespace Fo
open PySem PySem.Spec PyProof.Rows L2
theorem lc_zipL {K : PySem.W.Frag} {a b : Addr} {xs ys : List V} {g : TG} {tt : TT} {te : TE} {vs : List Nat} {σ : L2.St} {H1 : Hp} {D : Addr} {Qd : Hp → Prop} (hlen : xs.length = ys.length) (Pv : Nat → Hp → Prop) (h0 : Pv 0 (upd H1 D (.lst []))) (hl : ∀ i H, i ≤ xs.length → Pv i H → SqL K H a xs ∧ SqL K H b ys)
    (hs : ∀ (i : Nat) (x y : V) (T : Addr) (H : Hp), xs[i]? = some x → ys[i]? = some y → Pv i H → H T = none → g (.ref T) (wipe σ vs) (upd H T (.tup [x, y])) fun σ2 H2 => wipe σ2 vs = wipe σ vs ∧ tt σ2 H2 fun b H3 =>
      if b = true then te σ2 H3 fun y H4 => ∃ acc, H4 D = some (.lst acc) ∧ acc.length < sizeLine ∧ Pv (i + 1) (upd H4 D (.lst (acc ++ [y]))) else Pv (i + 1) H3) (hd : ∀ H, Pv xs.length H → Qd H) :
    ∃ W : Nat → Nat → Hp → Prop, (∃ m, W 0 m (upd H1 D (.lst []))) ∧ ∀ i m H, W i m H →
      ((Itz K a b).stop i H ∧ Qd H) ∨ ((Itz K a b).go i H ∧ ∃ Nx : Hp → Prop, (∀ H', Nx H' → ∃ m', m' < m ∧ W (i + 1) m' H') ∧ ∀ x H', (Itz K a b).yld i H x H' → g x (wipe σ vs) H' fun σ2 H2 => wipe σ2 vs = wipe σ vs ∧ tt σ2 H2 fun b H3 =>
        if b = true then te σ2 H3 fun y H4 => ∃ acc, H4 D = some (.lst acc) ∧ acc.length < sizeLine ∧ Nx (upd H4 D (.lst (acc ++ [y]))) else Nx H3) := by
  refine ⟨fun i m H => m = xs.length - i ∧ i ≤ xs.length ∧ Pv i H, ⟨xs.length, by simp, Nat.zero_le _, h0⟩, ?_⟩
  rintro i m H ⟨rfl, hi, p⟩
  obtain ⟨q1, q2⟩ := hl i H hi p
  by_cases hlt : i < xs.length
  · refine .inr ⟨⟨xs, ys, xs[i], ys[i], q1, q2, by simp [hlt], List.getElem?_eq_getElem (by omega)⟩, Pv (i + 1), fun H' p' => ⟨xs.length - (i + 1), by omega, rfl, hlt, p'⟩, fun x H' y => ?_⟩
    obtain ⟨T, x', y', rfl, hT, rfl, f1, f2⟩ := y
    exact hs i x' y' T H (f1 xs q1) (f2 ys q2) p hT
  · have e : i = xs.length := by omega
    subst e
    exact .inl ⟨⟨xs, ys, q1, q2, .inl (Nat.le_refl _)⟩, hd H p⟩
end Fo
namespace Fo
open PySem PySem.Spec PyProof.Rows L2
/-- a dict that has for each thing of an order its place -/
def PlD (kvs : List (Key × V)) (xs : List Int) : Prop := ∀ x ∈ xs, valV kvs (Sum.inl x) = some (.int (pos xs x))
def spPlD : Sp := fun vs H Q _ => ∃ (a : Addr) (n : Nat) (xs : List Int), vs = [.ref a] ∧ H a = some (.lst (xs.map V.int)) ∧ IsOrd n xs ∧ n ≤ 12 ∧ ∀ (d : Addr) (kvs : List (Key × V)) (H' : Hp), H d = none → H' d = some (.dK kvs) → PlD kvs xs → Same H H' → Q (.ref d) H'
section
variable {P : Program} {w : World} {K : PySem.W.Frag} {mg : Str → Option Value} {base : Heap}
end
end Fo
namespace Fo
open PySem PySem.Spec PyProof.Rows L2
/-! xs.count(y), flat items -/
section
variable {X : Cx}
def rCntF (K : PySem.W.Frag) : V → List V → Hp → VK → Prop := fun x xs H Q => ∃ (a : Addr) (ys : List V) (y : V), x = V.ref a ∧ xs = [y] ∧ SqL K H a ys ∧ flatV y = true ∧ ys.all flatV = true ∧ Q (.int (ys.countP (fun z => eqV z y) : Nat)) H
theorem cnt_flat {y : V} : ∀ {ys : List V} {us : List Value}, Vals ys us → ys.all flatV = true → us.countP (eqU y) = ys.countP fun z => eqV z y
  | [], _, r, _ => by cases r; rfl
  | x :: ys, _, r, f => by
    cases r with
    | cons r1 r2 =>
      rw [List.all_cons, Bool.and_eq_true_iff] at f
      rw [List.countP_cons, List.countP_cons, cnt_flat r2 f.2, eqU_of r1 f.1]
theorem mt_cntF : MtR X "list.count" (rCntF X.K) := by
  intro pins s σ H x xs v us Q I rx rxs h
  obtain ⟨a, ys, y, rfl, rfl, hs, fy, fys, q⟩ := h
  cases rx
  cases rxs with
  | cons ry rt =>
    rename_i uy ut
    cases rt
    obtain ⟨its, rv, ⟨⟨cls, dd, data, sl⟩, n, ho, hc, hdn, hd⟩, hlen⟩ := I.list hs
    simp only at hc hd
    subst hc hd
    refine call_meets PySem.F.slot_list_count ⟨_, ho, rfl⟩ PySem.F.entry_list_count (PySem.F.args_list_count_2 _ _)
      (SeqAt.list_countAt a its.toArray n dd sl uy (eqU y)) ⟨ho, fun u' hu' => mem_eqAt ry fy rv fys u' (by simpa using hu'), ?_⟩
    have ec : its.toArray.toList.countP (eqU y) = ys.countP fun z => eqV z y := cnt_flat rv fys
    refine ⟨.int (ys.countP (fun z => eqV z y) : Nat), H, I.tok _, ⟨s.toks, ?_⟩, q⟩
    show Value.int ((its.toArray.toList.countP (eqU y) : Nat) : Int) s.toks = Value.int ((ys.countP (fun z => eqV z y) : Nat) : Int) s.toks
    rw [ec]
end
end Fo
namespace Fo
open PySem PySem.Spec PyProof.Rows L2
/-- C is the i-th of the nine error classes, and none of the others -/
structure KdY (K : PySem.W.Frag) (c : Nat → Addr) (C : Addr) (i : Nat) : Prop where
  ec : ExcC K C
  ks : ∀ j, j < 9 → PySem.W.kitOne K (.ref C) (.ref (c j)) = some (decide (j = i))
  ve : PySem.W.kitOne K (.ref C) (.type "ValueError") = some true
  lt : i < 9
def cls9 (a0 a1 a2 a3 a4 a5 a6 a7 a8 : Addr) : Nat → Addr
  | 0 => a0
  | 1 => a1
  | 2 => a2
  | 3 => a3
  | 4 => a4
  | 5 => a5
  | 6 => a6
  | 7 => a7
  | _ => a8
theorem kd_mk9 {K : PySem.W.Frag} {C a0 a1 a2 a3 a4 a5 a6 a7 a8 : Addr} {i : Nat} (ec : ExcC K C) (h0 : PySem.W.kitOne K (.ref C) (.ref a0) = some (decide (0 = i))) (h1 : PySem.W.kitOne K (.ref C) (.ref a1) = some (decide (1 = i))) (h2 : PySem.W.kitOne K (.ref C) (.ref a2) = some (decide (2 = i))) (h3 : PySem.W.kitOne K (.ref C) (.ref a3) = some (decide (3 = i))) (h4 : PySem.W.kitOne K (.ref C) (.ref a4) = some (decide (4 = i))) (h5 : PySem.W.kitOne K (.ref C) (.ref a5) = some (decide (5 = i))) (h6 : PySem.W.kitOne K (.ref C) (.ref a6) = some (decide (6 = i))) (h7 : PySem.W.kitOne K (.ref C) (.ref a7) = some (decide (7 = i))) (h8 : PySem.W.kitOne K (.ref C) (.ref a8) = some (decide (8 = i))) (ve : PySem.W.kitOne K (.ref C) (.type "ValueError") = some true) (lt : i < 9) : KdY K (cls9 a0 a1 a2 a3 a4 a5 a6 a7 a8) C i := by
  refine ⟨ec, fun j hj => ?_, ve, lt⟩
  rcases (show j = 0 ∨ j = 1 ∨ j = 2 ∨ j = 3 ∨ j = 4 ∨ j = 5 ∨ j = 6 ∨ j = 7 ∨ j = 8 by omega) with rfl | rfl | rfl | rfl | rfl | rfl | rfl | rfl | rfl
  · exact h0
  · exact h1
  · exact h2
  · exact h3
  · exact h4
  · exact h5
  · exact h6
  · exact h7
  · exact h8
def spKindsY (K : PySem.W.Frag) (c : Nat → Addr) : Sp := fun vs H Q _ => ∃ (a C : Addr) (i : Nat), vs = [.ref a, .int i] ∧ H a = some (ExV (.ref C) none a) ∧ KdY K c C i ∧ ∀ H', Same H H' → Q (.bl true) H'
abbrev dB (bs : List Bool) : PyData := .list (bs.map PyData.bool)
theorem dp_bools {K : PySem.W.Frag} {H : Hp} : ∀ bs : List Bool, DpAll K H (bs.map V.bl) (bs.map PyData.bool)
  | [] => .nil
  | b :: r => .cons (.bl b) (dp_bools r)
theorem dp_boolL {K : PySem.W.Frag} {H : Hp} {a : Addr} {bs : List Bool} (h : H a = some (.lst (bs.map V.bl))) : Dp K H (.ref a) (dB bs) := .lst (SqL.of h) (dp_bools bs)
theorem lay_bools : ∀ bs : List Bool, PyData.canLayAll0 (bs.map PyData.bool) = true
  | [] => rfl
  | b :: r => by
    show (PyData.canLay0 (.bool b) && PyData.canLayAll0 (r.map PyData.bool)) = true
    rw [lay_bools r]
    rfl
theorem depth_bools : ∀ bs : List Bool, PyData.depthAll (bs.map PyData.bool) = 0
  | [] => by simp [PyData.depthAll]
  | b :: r => by
    show PyData.depthAll (.bool b :: r.map PyData.bool) = 0
    rw [PyData.depthAll, depth_bools r]
    simp [PyData.depth]
theorem shaped_bools (bs : List Bool) : SeqAt.shaped (dB bs) = true := by
  unfold SeqAt.shaped
  rw [Bool.and_eq_true_iff]
  constructor
  · rw [PyData.canLay0]
    exact lay_bools bs
  · apply decide_eq_true
    rw [PyData.depth, depth_bools]
    decide
theorem eqv_bools (bs : List Bool) : PyData.eqv (dB bs) (dB bs) = true := SeqAt.eqv_refl _ (SeqAt.canLay_of_shaped (shaped_bools bs))
/-- bools and a new list of them -/
theorem nb (bs : List Bool) {H : Hp} {p : Addr} (np : H p = none) : Same H (upd H p (.lst (bs.map V.bl))) ∧ (upd H p (.lst (bs.map V.bl))) p = some (.lst (bs.map V.bl)) := ⟨same_new np, upd_same⟩
section
variable {P : Program} {w : World} {K : PySem.W.Frag} {mg : Str → Option Value} {base : Heap}
end
end Fo

namespace Fo
open PySem PySem.Spec PyProof.Rows L2
def wordY (i : Nat) : Str := match i with
  | 0 => "NoOrder"
  | 1 => "NoWay"
  | 2 => "NoFit"
  | 4 => "NoNumber"
  | _ => "TooMany"
def spWordY (K : PySem.W.Frag) (c : Nat → Addr) : Sp := fun vs H Q _ => ∃ (a C : Addr) (i : Nat), vs = [.ref a] ∧ H a = some (ExV (.ref C) none a) ∧ KdY K c C i ∧ (i = 0 ∨ i = 1 ∨ i = 2 ∨ i = 4 ∨ i = 5) ∧ ∀ H', Same H H' → Q (.str (wordY i)) H'
theorem first_true {bs : List Bool} {j : Nat} (h : ∀ m, m < j → bs[m]? = some false) : ∀ (m : Nat) (z : V), m < j → (bs.map V.bl)[m]? = some z → eqV z (.bl true) = false := fun m z hm hz => by
  rw [List.getElem?_map, h m hm] at hz
  cases hz
  rfl
theorem no_four {K : PySem.W.Frag} {c : Nat → Addr} {C : Addr} {i : Nat} (kd : KdY K c C i) (hi : i = 0 ∨ i = 1 ∨ i = 2 ∨ i = 4 ∨ i = 5) : PySem.W.kitAny K (.ref C) [.ref (c 7), .ref (c 3), .ref (c 8), .ref (c 6)] = some false := any_no fun u hu => by
  simp only [List.mem_cons, List.not_mem_nil, or_false] at hu
  rcases hu with rfl | rfl | rfl | rfl
  · rw [kd.ks 7 (by decide), decide_eq_false (by omega)]
  · rw [kd.ks 3 (by decide), decide_eq_false (by omega)]
  · rw [kd.ks 8 (by decide), decide_eq_false (by omega)]
  · rw [kd.ks 6 (by decide), decide_eq_false (by omega)]
def at4 (i : Nat) : Nat := match i with
  | 0 => 0
  | 1 => 1
  | 2 => 2
  | 4 => 3
  | _ => 4
section
variable {P : Program} {w : World} {K : PySem.W.Frag} {mg : Str → Option Value} {base : Heap}
end
end Fo
namespace Fo
open PySem PySem.Spec PyProof.Rows L2
/-! ### counts of orders, as the program reckons them -/
def addAt (l : List Int) (i : Nat) (v : Int) : List Int := l.set i (l.getD i 0 + v)
def swIn (m : Int) (far : Nat) : Nat → List Int → List Int
  | 0, l => l
  | p + 1, l => addAt (swIn m far p l) (far + p) m
def swOut (c : List Int) (b : Nat) : Nat → List Int
  | 0 => List.replicate (c.length + b) 0
  | i + 1 => swIn (c.getD i 0) i (b + 1) (swOut c b i)
def swNext (c : List Int) (b : Nat) : List Int := swOut c b c.length
def swC : Nat → List Int
  | 0 => [1]
  | k + 1 => swNext (swC k) (k + 1)
theorem addAt_len (l : List Int) (i : Nat) (v : Int) : (addAt l i v).length = l.length := List.length_set
theorem swIn_len (m : Int) (far : Nat) : ∀ (p : Nat) (l : List Int), (swIn m far p l).length = l.length
  | 0, _ => rfl
  | p + 1, l => by rw [swIn, addAt_len, swIn_len m far p l]
theorem swOut_len (c : List Int) (b : Nat) : ∀ i : Nat, (swOut c b i).length = c.length + b
  | 0 => List.length_replicate
  | i + 1 => by rw [swOut, swIn_len, swOut_len c b i]
def triN : Nat → Nat
  | 0 => 0
  | k + 1 => triN k + (k + 1)
theorem swC_len : ∀ k : Nat, (swC k).length = 1 + triN k
  | 0 => rfl
  | k + 1 => by
    show (swOut (swC k) (k + 1) (swC k).length).length = 1 + (triN k + (k + 1))
    rw [swOut_len, swC_len k]
    omega
theorem tri_le : ∀ k : Nat, k < 12 → triN k ≤ 66 ∧ triN k < (k + 1) * (k + 1) := by decide
theorem swC_good : ∀ k : Nat, k < 12 → (swC k).all (fun x => decide (0 ≤ x)) = true ∧ (swC k).head? = some 1 ∧ (swC k).sum ≤ 479001600 := by decide +kernel
/-! by places -/
def chN (n : Nat) : Nat → Int
  | 0 => 1
  | r + 1 => chN n r * ((n : Int) - r) / (r + 1)
def mvN : Nat → Int × Int
  | 0 => (1, 1)
  | k + 1 => ((mvN k).1 * (k + 1) + -(mvN k).2, -(mvN k).2)
def spC (n : Nat) : List Int := (List.range (n + 1)).map fun r => chN n r * (mvN r).1
theorem ch_small : ∀ n : Nat, n < 13 → ∀ r : Nat, r < 14 → 0 ≤ chN n r ∧ chN n r ≤ 1000 := by decide +kernel
theorem mv_small : ∀ n : Nat, n < 13 → 0 ≤ (mvN n).1 ∧ (mvN n).1 ≤ 479001600 ∧ -1 ≤ (mvN n).2 ∧ (mvN n).2 ≤ 1 := by decide +kernel
theorem spC_good : ∀ n : Nat, n < 13 → (spC n).all (fun x => decide (0 ≤ x)) = true ∧ (spC n).head? = some 1 ∧ (spC n).sum ≤ 479001600 := by decide +kernel
def facN : Nat → Int
  | 0 => 1
  | k + 1 => facN k * (k + 1)
theorem fac_small : ∀ n : Nat, n < 13 → 0 < facN n ∧ facN n ≤ 479001600 := by decide +kernel
def noneN : Nat → List Int
  | 0 => [1, 0]
  | k + 1 => noneN k ++ [((k : Int) + 2 - 1) * ((noneN k).getD (k + 1) 0 + (noneN k).getD k 0)]
theorem spC_law : ∀ n : Nat, n < 13 → spC n = (List.range (n + 1)).map fun r => facN n / facN r / facN (n - r) * (noneN (n - 1)).getD r 0 := by decide +kernel
theorem noneN_len : ∀ k : Nat, (noneN k).length = k + 2
  | 0 => rfl
  | k + 1 => by
    rw [noneN, List.length_append, noneN_len k]
    rfl
theorem noneN_small : ∀ k : Nat, k < 12 → (noneN k).all (fun x => decide (0 ≤ x) && decide (x ≤ 479001600)) = true := by decide +kernel
/-- the sum of a beginning of good counts -/
theorem sum_nonneg : ∀ l : List Int, l.all (fun x => decide (0 ≤ x)) = true → 0 ≤ l.sum
  | [], _ => Int.le_refl _
  | a :: l, h => by
    rw [List.all_cons, Bool.and_eq_true] at h
    have := of_decide_eq_true h.1
    have := sum_nonneg l h.2
    rw [List.sum_cons]
    omega
theorem sum_take {l : List Int} {k : Nat} (h : l.all (fun x => decide (0 ≤ x)) = true) (h1 : l.head? = some 1) (hk : 0 < k) : 1 ≤ (l.take k).sum ∧ (l.take k).sum ≤ l.sum := by
  match l, h1, k, hk with
  | a :: r, h1, k + 1, _ =>
    have e : a = 1 := Option.some.inj h1
    subst e
    rw [List.all_cons, Bool.and_eq_true] at h
    rw [List.take_succ_cons, List.sum_cons, List.sum_cons]
    have hs : (r.take k).sum + (r.drop k).sum = r.sum := by rw [← List.sum_append, List.take_append_drop]
    have h2 := h.2
    rw [← List.take_append_drop k r, List.all_append, Bool.and_eq_true] at h2
    have := sum_nonneg _ h2.1
    have := sum_nonneg _ h2.2
    omega
end Fo
namespace Fo
open PySem PySem.Spec PyProof.Rows L2
/-! ### counts by shift: beginnings by the set of their things -/
def lookN (l : List (Nat × Int)) (k : Nat) : Int := ((l.find? fun p => decide (p.1 = k)).map (·.2)).getD 0
def putN (l : List (Nat × Int)) (k : Nat) (v : Int) : List (Nat × Int) := if l.any (fun p => decide (p.1 = k)) then l.map (fun p => if p.1 = k then (p.1, v) else p) else l ++ [(k, v)]
def keysN (l : List (Nat × Int)) : List Nat := l.map (·.1)
def totN (l : List (Nat × Int)) : Int := (l.map (·.2)).sum
def stIn (u : Nat) (m : Int) (lo : Nat) : Nat → List (Nat × Int) → List (Nat × Int)
  | 0, l => l
  | j + 1, l => if u.testBit (lo + j) then stIn u m lo j l else putN (stIn u m lo j l) (u + 2 ^ (lo + j)) (lookN (stIn u m lo j l) (u + 2 ^ (lo + j)) + m)
def stOut (d : List (Nat × Int)) (lo c : Nat) : Nat → List (Nat × Int)
  | 0 => []
  | i + 1 => stIn (d.getD i (0, 0)).1 (d.getD i (0, 0)).2 lo c (stOut d lo c i)
def loP (p : Nat) (r : Int) : Nat := (max 0 ((p : Int) - r)).toNat
def ctP (n p : Nat) (r : Int) : Nat := (min (n : Int) ((p : Int) + r + 1)).toNat - loP p r
def shD (n : Nat) (r : Int) : Nat → List (Nat × Int)
  | 0 => [(0, 1)]
  | p + 1 => stOut (shD n r p) (loP p r) (ctP n p r) (shD n r p).length
def shN (n : Nat) (r : Int) : Int := totN (shD n r n)
theorem any_keys (l : List (Nat × Int)) (k : Nat) : l.any (fun p => decide (p.1 = k)) = decide (k ∈ keysN l) := by
  induction l with
  | nil => rfl
  | cons p l ih =>
    rw [List.any_cons, ih]
    unfold keysN
    rw [List.map_cons]
    by_cases c : p.1 = k
    · subst c; simp
    · have c2 : ¬ k = p.1 := fun e => c e.symm
      simp [c, c2]
theorem put_keys (l : List (Nat × Int)) (k : Nat) (v : Int) : keysN (putN l k v) = if k ∈ keysN l then keysN l else keysN l ++ [k] := by
  unfold putN
  rw [any_keys]
  by_cases c : k ∈ keysN l
  · rw [decide_eq_true c, if_pos rfl, if_pos c]
    unfold keysN
    rw [List.map_map]
    apply List.map_congr_left
    intro p _
    show (if p.1 = k then (p.1, v) else p).1 = p.1
    split <;> rfl
  · rw [decide_eq_false c, if_neg (by decide), if_neg c]
    unfold keysN
    rw [List.map_append]
    rfl
theorem put_nodup {l : List (Nat × Int)} {k : Nat} {v : Int} (h : (keysN l).Nodup) : (keysN (putN l k v)).Nodup := by
  rw [put_keys]
  split
  · exact h
  · rename_i c
    rw [List.nodup_append]
    refine ⟨h, List.nodup_cons.mpr ⟨List.not_mem_nil, List.nodup_nil⟩, fun x hx y hy e => ?_⟩
    rw [List.mem_singleton.mp hy] at e
    exact c (by rw [← e]; exact hx)
theorem put_mem {l : List (Nat × Int)} {k x : Nat} {v : Int} : x ∈ keysN (putN l k v) ↔ x ∈ keysN l ∨ x = k := by
  rw [put_keys]
  split
  · rename_i c
    exact ⟨.inl, fun h => h.elim id fun e => by rw [e]; exact c⟩
  · rw [List.mem_append, List.mem_singleton]
theorem look_cons (p : Nat × Int) (l : List (Nat × Int)) (k : Nat) : lookN (p :: l) k = if p.1 = k then p.2 else lookN l k := by
  unfold lookN
  rw [List.find?_cons]
  by_cases c : p.1 = k
  · rw [decide_eq_true c, if_pos c]; rfl
  · rw [decide_eq_false c, if_neg c]
theorem put_cons (p : Nat × Int) (l : List (Nat × Int)) (k : Nat) (v : Int) (hn : (keysN (p :: l)).Nodup) : putN (p :: l) k v = if p.1 = k then (p.1, v) :: l else p :: putN l k v := by
  by_cases c : p.1 = k
  · rw [if_pos c]
    unfold putN
    rw [List.any_cons, decide_eq_true c, Bool.true_or, if_pos rfl, List.map_cons, if_pos c]
    congr 1
    have e : l.map (fun p => if p.1 = k then (p.1, v) else p) = l.map id := by
      apply List.map_congr_left
      intro q hq
      have : q.1 ≠ k := fun e => (List.nodup_cons.mp hn).1 (by
        show p.1 ∈ keysN l
        rw [c, ← e]
        exact List.mem_map.mpr ⟨q, hq, rfl⟩)
      rw [if_neg this]
      rfl
    rw [e, List.map_id]
  · rw [if_neg c]
    unfold putN
    rw [List.any_cons, decide_eq_false c, Bool.false_or]
    by_cases d : (l.any fun p => decide (p.1 = k)) = true
    · rw [if_pos d, if_pos d, List.map_cons, if_neg c]
    · rw [if_neg d, if_neg d]
      rfl
theorem put_tot : ∀ (l : List (Nat × Int)) (k : Nat) (m : Int), (keysN l).Nodup → totN (putN l k (lookN l k + m)) = totN l + m
  | [], k, m, _ => by
    show 0 + m + 0 = 0 + m
    omega
  | p :: l, k, m, hn => by
    have ih := put_tot l k m (List.nodup_cons.mp hn).2
    rw [put_cons p l k _ hn, look_cons]
    unfold totN at ih ⊢
    by_cases c : p.1 = k
    · rw [if_pos c, if_pos c, List.map_cons, List.map_cons, List.sum_cons, List.sum_cons]
      omega
    · rw [if_neg c, if_neg c, List.map_cons, List.map_cons, List.sum_cons, List.sum_cons, ih]
      omega
def PosN (l : List (Nat × Int)) : Prop := ∀ p ∈ l, 0 < p.2
theorem look_nonneg {l : List (Nat × Int)} (h : PosN l) (k : Nat) : 0 ≤ lookN l k := by
  induction l with
  | nil => exact Int.le_refl _
  | cons p l ih =>
    rw [look_cons]
    split
    · have := h p List.mem_cons_self; omega
    · exact ih fun q hq => h q (List.mem_cons_of_mem _ hq)
theorem put_pos {l : List (Nat × Int)} (h : PosN l) {k : Nat} {v : Int} (hv : 0 < v) : PosN (putN l k v) := by
  intro p hp
  unfold putN at hp
  split at hp
  · obtain ⟨q, hq, e⟩ := List.mem_map.mp hp
    rw [← e]
    split
    · exact hv
    · exact h q hq
  · rcases List.mem_append.mp hp with hp | hp
    · exact h p hp
    · rw [List.mem_singleton.mp hp]
      exact hv
theorem nodupN_len : ∀ {l m : List Nat}, l.Nodup → (∀ x ∈ l, x ∈ m) → l.length ≤ m.length
  | [], m, _, _ => Nat.zero_le _
  | a :: l, m, hn, hs => by
    obtain ⟨h1, h2⟩ := List.nodup_cons.mp hn
    have ha := hs a List.mem_cons_self
    have ih := nodupN_len (l := l) (m := m.erase a) h2 fun x hx => by
      have ne : x ≠ a := fun e => h1 (by rw [← e]; exact hx)
      exact (List.mem_erase_of_ne ne).mpr (hs x (List.mem_cons_of_mem _ hx))
    rw [List.length_erase_of_mem ha] at ih
    have : 0 < m.length := List.length_pos_of_mem ha
    rw [List.length_cons]
    omega
/-- what holds of the beginnings: no key twice, keys below 2 ^ 12, each counted -/
structure GoodW (l : List (Nat × Int)) : Prop where
  nd : (keysN l).Nodup
  lt : ∀ k ∈ keysN l, k < 4096
  pos : PosN l
theorem GoodW.len {l : List (Nat × Int)} (h : GoodW l) : l.length ≤ 4096 := by
  have h1 : (keysN l).length ≤ (List.range 4096).length := by
    have hsub : ∀ x ∈ keysN l, x ∈ List.range 4096 := fun x hx => List.mem_range.mpr (h.lt x hx)
    exact nodupN_len h.nd hsub
  rw [List.length_range] at h1
  unfold keysN at h1
  rw [List.length_map] at h1
  exact h1
theorem bit_and {u t : Nat} (h : u.testBit t = false) : u &&& 2 ^ t = 0 := by
  apply Nat.eq_of_testBit_eq
  intro i
  rw [Nat.testBit_and, Nat.testBit_two_pow, Nat.zero_testBit]
  by_cases c : t = i
  · subst c; simp [h]
  · simp [c]
theorem bit_add {u t : Nat} (h : u.testBit t = false) (hu : u < 4096) (ht : t < 12) : u + 2 ^ t = u ||| 2 ^ t := by
  have e := bit_and h
  have h2 : 2 ^ t < 4096 := Nat.pow_lt_pow_right (n := 12) (by decide) ht
  have b := BitVec.add_eq_or_of_and_eq_zero (w := 13) (BitVec.ofNat 13 u) (BitVec.ofNat 13 (2 ^ t)) (by
    apply BitVec.eq_of_toNat_eq
    rw [BitVec.toNat_and, BitVec.toNat_ofNat, BitVec.toNat_ofNat, Nat.mod_eq_of_lt (by omega), Nat.mod_eq_of_lt (by omega), e]
    rfl)
  have c := congrArg BitVec.toNat b
  rw [BitVec.toNat_or, BitVec.toNat_add, BitVec.toNat_ofNat, BitVec.toNat_ofNat, Nat.mod_eq_of_lt (show u < 2 ^ 13 by omega), Nat.mod_eq_of_lt (show 2 ^ t < 2 ^ 13 by omega), Nat.mod_eq_of_lt (show u + 2 ^ t < 2 ^ 13 by omega)] at c
  exact c
theorem bit_lt {u t : Nat} (h : u.testBit t = false) (hu : u < 4096) (ht : t < 12) : u + 2 ^ t < 4096 := by
  rw [bit_add h hu ht]
  exact Nat.or_lt_two_pow (n := 12) hu (Nat.pow_lt_pow_right (by decide) ht)
theorem put_good {l : List (Nat × Int)} (h : GoodW l) {u t : Nat} {m : Int} (hb : u.testBit t = false) (hu : u < 4096) (ht : t < 12) (hm : 0 < m) : GoodW (putN l (u + 2 ^ t) (lookN l (u + 2 ^ t) + m)) :=
  ⟨put_nodup h.nd, fun k hk => (put_mem.mp hk).elim (h.lt k) fun e => by rw [e]; exact bit_lt hb hu ht, put_pos h.pos (by have := look_nonneg h.pos (u + 2 ^ t); omega)⟩
theorem stIn_good {u : Nat} {m : Int} {lo : Nat} (hu : u < 4096) (hm : 0 < m) : ∀ (j : Nat) (l : List (Nat × Int)), GoodW l → lo + j ≤ 12 → GoodW (stIn u m lo j l) ∧ totN (stIn u m lo j l) ≤ totN l + j * m ∧ (∀ k ∈ keysN l, k ∈ keysN (stIn u m lo j l)) ∧ ∀ i, i < j → u.testBit (lo + i) = false → u + 2 ^ (lo + i) ∈ keysN (stIn u m lo j l)
  | 0, l, h, _ => ⟨h, by show totN l ≤ totN l + 0 * m; omega, fun k hk => hk, fun i hi => absurd hi (Nat.not_lt_zero _)⟩
  | j + 1, l, h, hj => by
    obtain ⟨h1, h2, h3, h4⟩ := stIn_good (lo := lo) hu hm j l h (by omega)
    have em : ((j + 1 : Nat) : Int) * m = (j : Int) * m + m := by rw [Int.natCast_add, Int.add_mul]; omega
    rw [stIn]
    split
    · rename_i c
      refine ⟨h1, by omega, h3, fun i hi hb => ?_⟩
      by_cases e : i = j
      · subst e; rw [hb] at c; cases c
      · exact h4 i (by omega) hb
    · rename_i c
      have hb : u.testBit (lo + j) = false := by simpa using c
      refine ⟨put_good h1 hb hu (by omega) hm, by rw [put_tot _ _ _ h1.nd]; omega, fun k hk => put_mem.mpr (.inl (h3 k hk)), fun i hi hb2 => ?_⟩
      by_cases e : i = j
      · subst e; exact put_mem.mpr (.inr rfl)
      · exact put_mem.mpr (.inl (h4 i (by omega) hb2))
theorem getD_at {d : List (Nat × Int)} {i : Nat} (h : i < d.length) : d.getD i (0, 0) = d[i] := by
  rw [List.getD_eq_getElem?_getD, List.getElem?_eq_getElem h]
  rfl
theorem take_tot {d : List (Nat × Int)} {i : Nat} (h : i < d.length) : totN (d.take (i + 1)) = totN (d.take i) + (d.getD i (0, 0)).2 := by
  unfold totN
  rw [List.take_add_one, List.getElem?_eq_getElem h, List.map_append, List.sum_append, getD_at h]
  show _ + (d[i].2 + 0) = _
  omega
theorem stOut_good {d : List (Nat × Int)} {lo c : Nat} (hd : GoodW d) (hc : lo + c ≤ 12) : ∀ i, i ≤ d.length → GoodW (stOut d lo c i) ∧ totN (stOut d lo c i) ≤ 12 * totN (d.take i) ∧ ∀ j, j < i → ∀ t, t < c → (d.getD j (0, 0)).1.testBit (lo + t) = false → (d.getD j (0, 0)).1 + 2 ^ (lo + t) ∈ keysN (stOut d lo c i)
  | 0, _ => ⟨⟨List.nodup_nil, fun k hk => absurd hk List.not_mem_nil, fun p hp => absurd hp List.not_mem_nil⟩, by rw [List.take_zero]; show (0 : Int) ≤ 12 * 0; decide, fun j hj => absurd hj (Nat.not_lt_zero _)⟩
  | i + 1, hi => by
    obtain ⟨h1, h2, h3⟩ := stOut_good hd hc i (by omega)
    have hmem : d.getD i (0, 0) ∈ d := by rw [getD_at (by omega)]; exact List.getElem_mem _
    have hm := hd.pos _ hmem
    have hu := hd.lt _ (List.mem_map.mpr ⟨_, hmem, rfl⟩)
    obtain ⟨g1, g2, g3, g4⟩ := stIn_good (lo := lo) hu hm c (stOut d lo c i) h1 hc
    refine ⟨g1, ?_, fun j hj t ht hb => ?_⟩
    · rw [take_tot (by omega)]
      have h12 : (c : Int) * (d.getD i (0, 0)).2 ≤ 12 * (d.getD i (0, 0)).2 := Int.mul_le_mul_of_nonneg_right (by omega) (by omega)
      show totN (stIn _ _ _ _ _) ≤ _
      omega
    · by_cases e : j = i
      · subst e; exact g4 t ht hb
      · exact g3 _ (h3 j (by omega) t ht hb)
theorem lo_ct {n p : Nat} {r : Int} (hn : n ≤ 12) (hp : p < n) (hr : 0 ≤ r) : loP p r + ctP n p r ≤ 12 ∧ loP p r ≤ p ∧ p < loP p r + ctP n p r := by
  unfold ctP loP
  omega
theorem one_bits (p : Nat) : (2 ^ p - 1).testBit p = false ∧ 2 ^ p - 1 + 2 ^ p = 2 ^ (p + 1) - 1 := by
  refine ⟨by simp, ?_⟩
  rw [Nat.pow_succ]
  have := Nat.two_pow_pos p
  omega
theorem shD_good {n : Nat} {r : Int} (hn : n ≤ 12) (hr : 0 ≤ r) : ∀ p, p ≤ n → GoodW (shD n r p) ∧ totN (shD n r p) ≤ 12 ^ p ∧ 2 ^ p - 1 ∈ keysN (shD n r p)
  | 0, _ => ⟨⟨by show [0].Nodup; decide, by show ∀ k ∈ [0], k < 4096; decide, by intro p hp; rw [List.mem_singleton.mp hp]; decide⟩, by show (1 : Int) + 0 ≤ 12 ^ 0; decide, by show 0 ∈ [0]; decide⟩
  | p + 1, hp => by
    obtain ⟨h1, h2, h3⟩ := shD_good hn hr p (by omega)
    obtain ⟨l1, l2, l3⟩ := lo_ct (r := r) hn (show p < n by omega) hr
    obtain ⟨g1, g2, g3⟩ := stOut_good h1 l1 (shD n r p).length (Nat.le_refl _)
    rw [List.take_length] at g2
    refine ⟨g1, ?_, ?_⟩
    · show totN (stOut _ _ _ _) ≤ 12 ^ (p + 1)
      rw [Int.pow_succ]
      omega
    · obtain ⟨b1, b2⟩ := one_bits p
      obtain ⟨q, hq, eq⟩ := List.mem_map.mp h3
      obtain ⟨j, hj, ej⟩ := List.getElem_of_mem hq
      have e : (shD n r p).getD j (0, 0) = q := by rw [getD_at hj, ej]
      have := g3 j hj (p - loP p r) (by omega) (by rw [e, eq, show loP p r + (p - loP p r) = p by omega]; exact b1)
      rw [e, eq, show loP p r + (p - loP p r) = p by omega, b2] at this
      exact this
theorem tot_pos {l : List (Nat × Int)} (h : PosN l) (hl : l ≠ []) : 0 < totN l := by
  have nn : ∀ m : List (Nat × Int), PosN m → 0 ≤ totN m := by
    intro m
    induction m with
    | nil => intro _; exact Int.le_refl _
    | cons p m ih =>
      intro h
      have a := h p List.mem_cons_self
      have b := ih fun q hq => h q (List.mem_cons_of_mem _ hq)
      unfold totN at b ⊢
      rw [List.map_cons, List.sum_cons]
      omega
  match l, h, hl with
  | p :: l, h, _ =>
    have a := h p List.mem_cons_self
    have b := nn l fun q hq => h q (List.mem_cons_of_mem _ hq)
    unfold totN at b ⊢
    rw [List.map_cons, List.sum_cons]
    omega
theorem shN_good {n : Nat} {r : Int} (hn : n ≤ 12) (hr : 0 ≤ r) : 1 ≤ shN n r ∧ shN n r ≤ 8916100448256 := by
  obtain ⟨h1, h2, h3⟩ := shD_good hn hr n (Nat.le_refl _)
  have hne : shD n r n ≠ [] := fun e => by rw [e] at h3; cases h3
  have h4 := tot_pos h1.pos hne
  refine ⟨h4, Int.le_trans h2 ?_⟩
  have h5 : (12 : Nat) ^ n ≤ 12 ^ 12 := Nat.pow_le_pow_right (by decide) hn
  have h6 : (((12 : Nat) ^ n : Nat) : Int) ≤ ((12 ^ 12 : Nat) : Int) := Int.ofNat_le.mpr h5
  rw [Int.natCast_pow] at h6
  exact h6
/-- a reach beyond all is as n's own -/
theorem shD_far {n : Nat} {r : Int} (hr : (n : Int) ≤ r) : ∀ p, p ≤ n → shD n r p = shD n n p
  | 0, _ => rfl
  | p + 1, hp => by
    rw [shD, shD, shD_far hr p (by omega)]
    have e1 : loP p r = loP p n := by unfold loP; omega
    have e2 : ctP n p r = ctP n p n := by unfold ctP; rw [e1]; omega
    rw [e1, e2]
theorem shN_far {n : Nat} {r : Int} : shN n (min (n : Int) r) = shN n r := by
  unfold shN
  by_cases c : (n : Int) ≤ r
  · rw [shD_far c n (Nat.le_refl _), Int.min_eq_left c]
  · rw [Int.min_eq_right (by omega)]
end Fo
namespace Fo
open PySem PySem.Spec PyProof.Rows L2
/-! ### rules of my own: xs[i] op= e, sum(d.values()) -/
section
variable {X : Cx}
def rGetL (K : PySem.W.Frag) : V → V → Hp → VK → Prop := fun o i H Q => ∃ p xs k v, o = .ref p ∧ i = .int k ∧ SqL K H p xs ∧ 0 ≤ k ∧ atI xs k = some v ∧ Q v H
theorem get_list : PGet X (rGetL X.K) := by
  intro pins s σ H o i ov iv Q J ro ri hz
  obtain ⟨p, xs, k, v, eo, ei, sq, k0, at', q⟩ := hz
  subst eo ei
  cases ro
  obtain ⟨tk, ek⟩ := ri
  subst ek
  obtain ⟨its, rl, pl, hlen⟩ := J.list sq
  obtain ⟨j, a1, a2, a3, a4, a5⟩ := atI_get at'
  obtain ⟨u, eu, ru⟩ := rl.get a2
  have l1 := rl.length
  have l2 := line63
  have ej : k.toNat = j := by
    rw [seqIndex_of k0 a5] at a1
    exact Option.some.inj a1
  exact wpAny_getItem_list pl.isList k0 (by omega) (by rw [ej]; simpa using eu) ⟨v, H, J, ru, q⟩
def tSumVals (td : TE) : TE := fun σ H Q => td σ H fun x H1 => ∃ (a : Addr) (kvs : List (Key × V)) (is : List Int), x = V.ref a ∧ H1 a = some (.dK kvs) ∧ kvs.map (·.2) = is.map V.int ∧ Q (.int is.sum) H1
theorem preSum_list (is : List Int) : ∀ n, n ≤ is.length → preSum (fun i => is.getD i 0) n = (is.take n).sum
  | 0, _ => rfl
  | n + 1, h => by
    have e : is[n]? = some is[n] := List.getElem?_eq_getElem (by omega)
    rw [List.take_add_one, e, List.sum_append, ← preSum_list is n (by omega)]
    show preSum _ n + is.getD n 0 = _
    rw [List.getD_eq_getElem?_getD, e]
    show _ + is[n] = _ + (is[n] + 0)
    omega
theorem pe_sumVals {o : Expr} {p pos apos mpos : Pos} {td : TE} (calm : X.calm = true) (gl : Gl X "sum") (mn : X.mg "sum" = none) (hd : PE X o td)
    (ab : attributeBase o "values" X.env (eval o X.env) = eval o X.env := by rfl) (ln : (apos.endLine == mpos.line) = true := by rfl)
    (st : starEach [Expr.Call (.Attribute o "values" apos) [] [] mpos] X.env = [(false, eval (Expr.Call (.Attribute o "values" apos) [] [] mpos) X.env)] := by rfl) :
    PE X (.Call (.Name "sum" p) [.Call (.Attribute o "values" apos) [] [] mpos] [] pos) (tSumVals td) := by
  refine ⟨fun pins s σ H Q J hw => ?_⟩
  refine wpAny_Call_Name_kw (ld_blt J gl mn (u := .builtin "sum") (by decide +kernel) ?_ (by decide +kernel) (by decide +kernel))
  rw [st]
  refine PySem.callWith_builtin1 (wpAny_Call_method0_late ab ln (thn (hd.run pins s σ H _ J hw) fun v s1 ⟨x, H1, J1, r1, a, kvs, is, ex, ha, hv, q⟩ => ?_))
  subst ex
  obtain rfl : v = Value.ref a := r1
  obtain ⟨_, nsys, vs, rel, dof⟩ := dk_of J1.hok ha
  obtain ⟨ep, dat⟩ := dof.dictAt
  obtain ⟨ob, es, ho, exd, hdat, hko, hpr, hnd⟩ := id dat
  refine ⟨"dict", "dict.values", F.plainAttrs_dict, F.slot_dict_values, F.type_dict_values, ⟨ob, ho, exd.1⟩, fun b e => ?_, Calls.callWith_builtin rfl (PySem.evalArgs_none ?_)⟩
  · cases e
    exact ⟨ob, ho, exd.2.1⟩
  refine call_meetsIn F.slot_dict_values ⟨ob, ho, exd.1⟩ F.entry_dict_values (F.args_dict_values_1 _) (meets_dict_values (mixKind X.prog X.w) a nsys) ⟨⟨vs, dof⟩, ?_⟩
  generalize hv1 : s1.heap.push { cls := .type "dict_values", data := .fields #[.ref a] } = hp1
  have kp1 : ∀ b u, s1.heap.get? b = some u → hp1.get? b = some u := fun b u e => by rw [← hv1]; exact Heap.get?_push_of_some _ e
  have dat1 : hp1.DictAt (mixKind X.prog X.w) a vs ep := dat.keep kp1
  have sz : hp1.objs.size = s1.heap.objs.size + 1 := by rw [← hv1]; exact Heap.size_push _ _
  have lt : a < s1.heap.objs.size := Heap.lt_size ho
  have len : vs.length = is.length := by
    have e1 := congrArg List.length hv
    rw [List.length_map, List.length_map] at e1
    exact (KV.length rel).symm.trans e1
  have vals : ∀ (i : Nat) (v : Value), (∃ k, vs[i]? = some (k, v)) → ∃ t, v = Value.int (is.getD i 0) t := fun i v ⟨k, hk⟩ => by
    obtain ⟨x, g1, g2⟩ : ∃ x, kvs[i]? = some (k, x) ∧ RelV x v := KV.at' rel hk
    have e1 : (kvs.map (·.2))[i]? = some x := by
      rw [List.getElem?_map, g1]
      rfl
    rw [hv, List.getElem?_map] at e1
    obtain ⟨j, hj, e2⟩ := Option.map_eq_some_iff.mp e1
    subst e2
    obtain ⟨t, e3⟩ := g2
    refine ⟨t, ?_⟩
    rw [e3, List.getD_eq_getElem?_getD, hj]
    rfl
  have hvw : hp1.get? s1.heap.objs.size = some { cls := .type "dict_values", data := .fields #[.ref a] } := by rw [← hv1]; exact Heap.get?_push_size _ rfl
  refine call_sum_walkG (wpAny_pyIter_values (v := s1.heap.objs.size) (d := a) ⟨_, hvw, rfl, rfl⟩ dat1 ?_)
  refine ⟨_, _, _, _, _, _, fun i => is.getD i 0, rfl, Walks.dictValues (knd := mixKind X.prog X.w) (A := X.A.in1) (J.ok.hd calm) hp1.objs.size a (by rw [sz]; exact Nat.ne_of_lt (Nat.lt_succ_of_lt lt)) vs ep,
    ⟨⟨_, Heap.get?_push_size _ rfl, rfl, rfl⟩, dat1.keep fun b u e => Heap.get?_push_of_some _ e⟩, fun b hb => ?_, vals, fun h' tk t' hk => ?_⟩
  · show b < (hp1.push _).objs.size
    rw [Heap.size_push]
    rcases List.mem_cons.mp hb with e | hb
    · rw [e]
      exact Nat.lt_succ_self _
    · rw [List.mem_singleton.mp hb, sz]
      exact Nat.lt_succ_of_lt (Nat.lt_succ_of_lt lt)
  · refine ⟨.int _, H1, J1.kept (t' := tk) fun b u e => hk b u (fun hm => ?_) (Heap.get?_push_of_some _ (kp1 b u e)), ⟨t', rfl⟩, ?_⟩
    · have e1 : b = hp1.objs.size := List.mem_singleton.mp hm
      have e2 := Heap.lt_size e
      rw [sz] at e1
      rw [e1] at e2
      exact absurd e2 (Nat.not_lt.mpr (Nat.le_succ _))
    · rw [len, preSum_list is _ (Nat.le_refl _), List.take_length]
      exact q
end
/-- a loop over the items of a dict that stands still -/
theorem for_items {d : Addr} {od : Obj} {kvs : List (Key × V)} {g : TG} {tb : TS} {D : Ends} {σ : L2.St} {H : Hp} (Pv : Nat → L2.St → Hp → Prop) (h0 : Pv 0 σ H) (hq : ∀ i σ H, Pv i σ H → H d = some (.frz od (.dK kvs)))
    (hs : ∀ (i : Nat) (k : Key) (v : V) (T : Addr) (σ : L2.St) (H : Hp), kvs[i]? = some (k, v) → Pv i σ H → H T = none → g (.ref T) σ (upd H T (.tup [kV k, v])) fun σ2 H2 => tb { D with nx := Pv (i + 1), ct := Pv (i + 1), bk := D.nx } σ2 H2) (hd : ∀ σ H, Pv kvs.length σ H → D.nx σ H) :
    ∃ W : Nat → Nat → L2.St → Hp → Prop, (∃ m, W 0 m σ H) ∧ ∀ i m σ H, W i m σ H →
      ((Iti d od kvs).stop i H ∧ D.nx σ H) ∨ ((Iti d od kvs).go i H ∧ ∃ N : L2.St → Hp → Prop, (∀ σ' H', N σ' H' → ∃ m', m' < m ∧ W (i + 1) m' σ' H') ∧ ∀ v H', (Iti d od kvs).yld i H v H' → g v σ H' fun σ2 H2 => tb { D with nx := N, ct := N, bk := D.nx } σ2 H2) := by
  refine ⟨fun i m σ H => m = kvs.length - i ∧ i ≤ kvs.length ∧ Pv i σ H, ⟨kvs.length, rfl, Nat.zero_le _, h0⟩, ?_⟩
  rintro i m σ H ⟨rfl, hi, p⟩
  have qx := hq i σ H p
  by_cases hlt : i < kvs.length
  · refine .inr ⟨⟨qx, hlt⟩, Pv (i + 1), fun σ' H' p' => ⟨kvs.length - (i + 1), by omega, rfl, hlt, p'⟩, fun v H' y => ?_⟩
    obtain ⟨T, k, x, hk, rfl, hT, rfl⟩ := y
    exact hs i k x T σ H hk p hT
  · have e : i = kvs.length := by omega
    subst e
    exact .inl ⟨⟨qx, Nat.le_refl _⟩, hd σ H p⟩
/-- .. over its keys -/
theorem for_keys {d : Addr} {od : Obj} {kvs : List (Key × V)} {g : TG} {tb : TS} {D : Ends} {σ : L2.St} {H : Hp} (Pv : Nat → L2.St → Hp → Prop) (h0 : Pv 0 σ H) (hq : ∀ i σ H, Pv i σ H → H d = some (.frz od (.dK kvs)))
    (hs : ∀ (i : Nat) (k : Key) (v : V) (σ : L2.St) (H : Hp), kvs[i]? = some (k, v) → Pv i σ H → g (kV k) σ H fun σ2 H2 => tb { D with nx := Pv (i + 1), ct := Pv (i + 1), bk := D.nx } σ2 H2) (hd : ∀ σ H, Pv kvs.length σ H → D.nx σ H) :
    ∃ W : Nat → Nat → L2.St → Hp → Prop, (∃ m, W 0 m σ H) ∧ ∀ i m σ H, W i m σ H →
      ((Itk d od kvs).stop i H ∧ D.nx σ H) ∨ ((Itk d od kvs).go i H ∧ ∃ N : L2.St → Hp → Prop, (∀ σ' H', N σ' H' → ∃ m', m' < m ∧ W (i + 1) m' σ' H') ∧ ∀ v H', (Itk d od kvs).yld i H v H' → g v σ H' fun σ2 H2 => tb { D with nx := N, ct := N, bk := D.nx } σ2 H2) := by
  refine ⟨fun i m σ H => m = kvs.length - i ∧ i ≤ kvs.length ∧ Pv i σ H, ⟨kvs.length, rfl, Nat.zero_le _, h0⟩, ?_⟩
  rintro i m σ H ⟨rfl, hi, p⟩
  have qx := hq i σ H p
  by_cases hlt : i < kvs.length
  · refine .inr ⟨⟨qx, hlt⟩, Pv (i + 1), fun σ' H' p' => ⟨kvs.length - (i + 1), by omega, rfl, hlt, p'⟩, fun v H' y => ?_⟩
    obtain ⟨rfl, k, x, hk, rfl⟩ := y
    exact hs i k x σ _ hk p
  · have e : i = kvs.length := by omega
    subst e
    exact .inl ⟨⟨qx, Nat.le_refl _⟩, hd σ H p⟩
end Fo
namespace Fo
open PySem PySem.Spec PyProof.Rows L2
/-! ### the program's counts -/
def spFac : Sp := fun vs H Q _ => ∃ n : Nat, vs = [.int n] ∧ n ≤ 12 ∧ Q (.int (facN n)) H
def spNewL (F : Nat → List Int) : Sp := fun vs H Q _ => ∃ n : Nat, vs = [.int n] ∧ 1 ≤ n ∧ n ≤ 12 ∧ ∀ (l : Addr) (H' : Hp), H l = none → H' l = some (.lst ((F n).map V.int)) → Same H H' → Q (.ref l) H'
def spSwC : Sp := spNewL fun n => swC (n - 1)
def spSpC : Sp := spNewL spC
def spSwM : Sp := fun vs H Q _ => ∃ (a : Addr) (c : List Int) (b : Nat), vs = [.ref a, .int b] ∧ H a = some (.lst (c.map V.int)) ∧ c.length ≤ 100 ∧ b ≤ 12 ∧ ∀ (l : Addr) (H' : Hp), H l = none → H' l = some (.lst ((swNext c b).map V.int)) → Same H H' → Q (.ref l) H'
def spMv : Sp := fun vs H Q _ => ∃ n : Nat, vs = [.int n] ∧ n ≤ 12 ∧ Q (.int (mvN n).1) H
def dN (l : List (Nat × Int)) : List (Key × V) := l.map fun p => (Sum.inl ((p.1 : Nat) : Int), V.int p.2)
def nearT (lo c : Nat) : List Int := (List.range c).map fun j => (((lo + j : Nat)) : Int)
def spNearT : Sp := fun vs H Q _ => ∃ (p n : Nat) (r : Int), vs = [.int p, .int n, .int r] ∧ p < n ∧ n ≤ 12 ∧ 0 ≤ r ∧ ∀ (l : Addr) (H' : Hp), H l = none → H' l = some (.lst ((nearT (loP p r) (ctP n p r)).map V.int)) → Same H H' → Q (.ref l) H'
def spFurther : Sp := fun vs H Q _ => ∃ (a b : Addr) (d : List (Nat × Int)) (lo c : Nat), vs = [.ref a, .ref b] ∧ H a = some (.dK (dN d)) ∧ GoodW d ∧ H b = some (.lst ((nearT lo c).map V.int)) ∧ lo + c ≤ 12 ∧ ∀ (l : Addr) (H' : Hp), H l = none → H' l = some (.dK (dN (stOut d lo c d.length))) → Same H H' → Q (.ref l) H'
def spShN : Sp := fun vs H Q _ => ∃ (n : Nat) (r : Int), vs = [.int n, .int r] ∧ 1 ≤ n ∧ n ≤ 12 ∧ 0 ≤ r ∧ ∀ H', Same H H' → Q (.int (shN n r)) H'
def inW (w : Str) (n : Nat) (r : Int) : Int := if w = "swap" then ((swC (n - 1)).take (r + 1).toNat).sum else if w = "spot" then ((spC n).take (r + 1).toNat).sum else shN n r
def IsWy (w : Str) : Prop := w = "swap" ∨ w = "spot" ∨ w = "shift"
def spKW : Sp := fun vs H Q _ => ∃ (w : Str) (n : Nat) (r : Int), vs = [.str w, .int n, .int r] ∧ IsWay w ∧ 1 ≤ n ∧ n ≤ 12 ∧ 0 ≤ r ∧ ∀ H', Same H H' → Q (.int (inW w n r)) H'
theorem inW_swap (n : Nat) (r : Int) : inW "swap" n r = ((swC (n - 1)).take (r + 1).toNat).sum := by unfold inW; rw [if_pos rfl]
theorem inW_spot (n : Nat) (r : Int) : inW "spot" n r = ((spC n).take (r + 1).toNat).sum := by unfold inW; rw [if_neg n1, if_pos rfl]
theorem inW_shift (n : Nat) (r : Int) : inW "shift" n r = shN n r := by unfold inW; rw [if_neg n2, if_neg n3]
theorem inW_good {w : Str} {n : Nat} {r : Int} (hw : IsWay w) (h1 : 1 ≤ n) (h2 : n ≤ 12) (hr : 0 ≤ r) : 1 ≤ inW w n r ∧ inW w n r ≤ 8916100448256 := by
  rcases hw with rfl | rfl | rfl
  · rw [inW_swap]
    obtain ⟨a, b, c⟩ := swC_good (n - 1) (by omega)
    have := sum_take (k := (r + 1).toNat) a b (by omega)
    omega
  · rw [inW_spot]
    obtain ⟨a, b, c⟩ := spC_good n (by omega)
    have := sum_take (k := (r + 1).toNat) a b (by omega)
    omega
  · rw [inW_shift]
    exact shN_good h2 hr
theorem zeros_flat : ∀ m : Nat, (List.replicate m [V.int 0]).flatten = (List.replicate m (0 : Int)).map V.int
  | 0 => rfl
  | m + 1 => by
    rw [List.replicate_succ, List.replicate_succ, List.flatten_cons, zeros_flat m]
    rfl
theorem addAt_V {l : List Int} {i : Nat} {v : Int} : (l.map V.int).set i (V.int (l.getD i 0 + v)) = (addAt l i v).map V.int := by
  unfold addAt
  rw [List.map_set]
theorem getD_some {l : List Int} {i : Nat} (h : i < l.length) : l[i]? = some (l.getD i 0) := by
  rw [List.getD_eq_getElem?_getD, List.getElem?_eq_getElem h]
  rfl
theorem dN_get (l : List (Nat × Int)) (k : Nat) : (valV (dN l) (Sum.inl (k : Int))).getD (V.int 0) = V.int (lookN l k) := by
  induction l with
  | nil => rfl
  | cons p l ih =>
    rw [look_cons]
    by_cases c : p.1 = k
    · rw [if_pos c]
      show (valV ((Sum.inl ((p.1 : Nat) : Int), V.int p.2) :: dN l) (Sum.inl (k : Int))).getD (V.int 0) = _
      rw [valV_pos (by rw [c])]
      rfl
    · rw [if_neg c]
      show (valV ((Sum.inl ((p.1 : Nat) : Int), V.int p.2) :: dN l) (Sum.inl (k : Int))).getD (V.int 0) = _
      rw [valV_neg (fun e => c (by have := Sum.inl.inj e; omega))]
      exact ih
theorem dN_any (l : List (Nat × Int)) (k : Nat) : ((dN l).any fun kv => decide (kv.1 = Sum.inl (k : Int))) = l.any fun p => decide (p.1 = k) := by
  unfold dN
  rw [List.any_map]
  congr 1
  funext p
  show decide (Sum.inl ((p.1 : Nat) : Int) = (Sum.inl (k : Int) : Key)) = decide (p.1 = k)
  by_cases c : p.1 = k
  · rw [c]; simp
  · rw [decide_eq_false c, decide_eq_false (fun e => c (by have := Sum.inl.inj e; omega))]
theorem dN_put (l : List (Nat × Int)) (k : Nat) (v : Int) : putK (dN l) (Sum.inl (k : Int)) (V.int v) = dN (putN l k v) := by
  unfold putK putN
  rw [dN_any]
  split
  · unfold dN
    rw [List.map_map, List.map_map]
    apply List.map_congr_left
    intro p _
    show (if Sum.inl ((p.1 : Nat) : Int) = (Sum.inl (k : Int) : Key) then _ else _) = _
    by_cases c : p.1 = k
    · subst c
      rw [if_pos rfl]
      show _ = (Sum.inl _, V.int (if p.1 = p.1 then (p.1, v) else p).2)
      rw [if_pos rfl]
      show _ = (Sum.inl (((if p.1 = p.1 then (p.1, v) else p).1 : Nat) : Int), V.int v)
      rw [if_pos rfl]
    · rw [if_neg (fun e => c (by have := Sum.inl.inj e; omega))]
      show _ = (Sum.inl (((if p.1 = k then (p.1, v) else p).1 : Nat) : Int), V.int (if p.1 = k then (p.1, v) else p).2)
      rw [if_neg c]
  · unfold dN
    rw [List.map_append]
    rfl
theorem dN_len (l : List (Nat × Int)) : (dN l).length = l.length := List.length_map _
theorem dN_at {l : List (Nat × Int)} {i : Nat} {k : Key} {v : V} (h : (dN l)[i]? = some (k, v)) : i < l.length ∧ k = Sum.inl (((l.getD i (0, 0)).1 : Nat) : Int) ∧ v = V.int (l.getD i (0, 0)).2 := by
  unfold dN at h
  rw [List.getElem?_map] at h
  cases e : l[i]? with
  | none => rw [e] at h; cases h
  | some p =>
    rw [e] at h
    have h2 := Option.some.inj h
    have hi := (List.getElem?_eq_some_iff.mp e).1
    rw [List.getD_eq_getElem?_getD, e]
    exact ⟨hi, (Prod.mk.inj h2).1.symm, (Prod.mk.inj h2).2.symm⟩
theorem near_at {lo c j : Nat} (h : j < c) : (nearT lo c)[j]? = some (((lo + j : Nat)) : Int) := by
  unfold nearT
  rw [List.getElem?_map, List.getElem?_range h]
  rfl
theorem near_len (lo c : Nat) : (nearT lo c).length = c := by unfold nearT; rw [List.length_map, List.length_range]
theorem near_V {p n : Nat} {r : Int} (hp : p < n) (hr : 0 ≤ r) : rgV (max 0 ((p : Int) - r)) (min (n : Int) ((p : Int) + r + 1)) = (nearT (loP p r) (ctP n p r)).map V.int := by
  unfold rgV nearT
  have e : (min (n : Int) ((p : Int) + r + 1) - max 0 ((p : Int) - r)).toNat = ctP n p r := by
    unfold ctP loP
    omega
  rw [e, List.map_map]
  apply List.map_congr_left
  intro a _
  show V.int (max 0 ((p : Int) - r) + (a : Int)) = V.int ((loP p r + a : Nat) : Int)
  congr 1
  unfold loP
  omega
theorem bit_read {u t : Nat} (hu : u < 4096) (ht : t < 12) : decide (V.int (Builtin.bitAnd (u : Int) (1 * 2 ^ ((t : Nat) : Int).toNat)) = V.int 0) = !u.testBit t := by
  rw [Int.one_mul, Int.toNat_natCast, show ((2 : Int) ^ t) = ((2 ^ t : Nat) : Int) by rw [Int.natCast_pow]; rfl, bitAnd_pp (Int.natCast_nonneg _) (Int.natCast_nonneg _), Int.toNat_natCast, Int.toNat_natCast]
  cases h : u.testBit t with
  | false =>
    rw [bit_and h]
    rfl
  | true =>
    rw [decide_eq_false]
    · rfl
    · intro e
      have e2 : u &&& 2 ^ t = 0 := by have := V.int.inj e; omega
      have e3 := congrArg (fun x => Nat.testBit x t) e2
      simp [h] at e3
theorem bit_or {u t : Nat} (h : u.testBit t = false) (hu : u < 4096) (ht : t < 12) : Builtin.bitOr (u : Int) (1 * 2 ^ ((t : Nat) : Int).toNat) = ((u + 2 ^ t : Nat) : Int) := by
  rw [Int.one_mul, Int.toNat_natCast, show ((2 : Int) ^ t) = ((2 ^ t : Nat) : Int) by rw [Int.natCast_pow]; rfl, bitOr_and, bitAnd_pp (Int.natCast_nonneg _) (Int.natCast_nonneg _), Int.toNat_natCast, Int.toNat_natCast, bit_and h]
  omega
section
variable {P : Program} {w : World} {K : PySem.W.Frag} {mg : Str → Option Value} {base : Heap}
theorem scSwM : FnScope ["counts", "behind", "more", "far", "many", "passed"] ["counts", "behind"] (defScope s_swap_counts_with_one_more) := ⟨rfl, rfl, rfl, by decide +kernel, rfl, by decide +kernel, by decide +kernel⟩
set_option maxHeartbeats 1000000 in
theorem ok_swM {f : Addr} {fd : FuncData} {k : Nat} (T : Df K mg "swap_counts_with_one_more" s_swap_counts_with_one_more ["counts", "behind"] f fd) (B : Bi mg) : FnOk P w K mg base CX0 (k + 1) f fd ["counts", "behind"] spSwM := by
  refine T.F.ok scSwM (fun vs H Q E h => ?_) (fun cdv A outer s H vs Q E hr h => ?_)
  · obtain ⟨a, c, b, rfl, _⟩ := h
    rfl
  · obtain ⟨a, c, b, rfl, ha, hc, hb, q⟩ := h
    have hlm : (c.map V.int).length = c.length := List.length_map _
    refine ⟨_, 
      (pss_cons (ps_set (i := 2) scSwM.nd rfl (.inl rfl) (pe_op op_rep (pe_lst (pa_cons pe_int pa_nil)) (pe_op op_add (pe_callB call_len_seq (by rfl) B.len PySem.boot_len (pa_cons (pv 0) pa_nil)) (pv 1))))
      (pss_cons (ps_for PassesOwn.never rfl (pi_enum (by rfl) B.enumerate (pa_cons (pv 0) pa_nil)) (pg_tup (by rfl) (pgs_cons (pg_name (i := 3) scSwM.nd rfl (.inl rfl)) (pgs_cons (pg_name (i := 4) scSwM.nd rfl (.inl rfl)) pgs_nil)))
        (pss_one (ps_for PassesOwn.never rfl (pi_range1 (by rfl) B.range (pa_cons (pe_op op_add (pv 1) pe_int) pa_nil)) (pg_name (i := 5) scSwM.nd rfl (.inl rfl))
          (pss_one (ps_augS (pv 2) (pe_op op_add (pv 3) (pv 5)) get_list (pv 4) ip_add set_list)))))
      (pss_one (ps_ret (pv 2))))), ?_⟩
    refine ⟨line_small (by show 1 ≤ 16777216; decide), fun z nz => ?_⟩
    have s1 := same_new (o := .lst [.int 0]) nz
    refine ⟨_, rfl, a, _, rfl, .inl (SqL.of (s1 _ _ ha)), _, rfl, _, _, rfl, rfl, z, _, _, rfl, rfl, upd_same, by omega, by omega, line_small (by rw [hlm]; show 1 * _ ≤ _; omega), fun l nl => ?_⟩
    have en : ((((c.map V.int).length : Nat) : Int) + (b : Int)).toNat = c.length + b := by rw [hlm]; omega
    have s2 := s1.trans (same_new (o := .lst (List.replicate ((((c.map V.int).length : Nat) : Int) + (b : Int)).toNat [V.int 0]).flatten) nl)
    have hl0 : (upd (upd H z (.lst [.int 0])) l (.lst (List.replicate ((((c.map V.int).length : Nat) : Int) + (b : Int)).toNat [V.int 0]).flatten)) l = some (.lst ((swOut c b 0).map V.int)) := by rw [upd_same, en, zeros_flat]; rfl
    have nHl : H l = none := s1.free nl
    generalize upd (upd H z (.lst [.int 0])) l (.lst (List.replicate ((((c.map V.int).length : Nat) : Int) + (b : Int)).toNat [V.int 0]).flatten) = H1 at s2 hl0 ⊢
    refine ⟨_, rfl, a, _, rfl, SqL.of (s2 _ _ ha), ?_⟩
    refine for_enumL (xs := c.map V.int) (fun i σ H3 => ∃ (y3 y4 y5 : Option V), σ = [some (.ref a), some (.int b), some (.ref l), y3, y4, y5] ∧ H3 l = some (.lst ((swOut c b i).map V.int)) ∧ Same H H3)
      ⟨_, _, _, rfl, hl0, s2⟩ (fun i σ H3 hW => by obtain ⟨_, _, _, _, _, sm⟩ := hW; exact SqL.of (sm _ _ ha)) (fun i x t σ H3 hx hW nt => ?_) (fun σ H3 hW => ?_)
    · obtain ⟨y3, y4, y5, rfl, hl3, sm⟩ := hW
      obtain ⟨y, ey, rfl⟩ := int_at_inv hx
      have hi := (List.getElem?_eq_some_iff.mp ey).1
      have eg : c.getD i 0 = y := by rw [List.getD_eq_getElem?_getD, ey]; rfl
      have st := same_new (o := .tup [.int (i : Nat), .int y]) nt
      have hl4 := st _ _ hl3
      have sm4 := sm.trans st
      have ht4 : (upd H3 t (.tup [.int (i : Nat), .int y])) t = some (.tup [.int (i : Nat), .int y]) := upd_same
      generalize upd H3 t (.tup [.int (i : Nat), .int y]) = H4 at ht4 hl4 sm4 ⊢
      refine ⟨t, _, rfl, .inl (.inl ht4), rfl, _, _, rfl, _, _, rfl, rfl, ?_⟩
      refine ⟨_, rfl, (b : Int), 1, rfl, rfl, _, rfl, by omega, by omega, ?_⟩
      rw [show ((b : Int) + 1).toNat = b + 1 by omega]
      refine for_range (lo := 0) (n := b + 1) (fun j σ H5 => ∃ (y5 : Option V), σ = [some (.ref a), some (.int b), some (.ref l), some (.int (i : Nat)), some (.int y), y5] ∧ H5 l = some (.lst ((swIn y i j (swOut c b i)).map V.int)) ∧ Same H H5) ⟨_, rfl, hl4, sm4⟩ (fun j σ H5 hj hW => ?_) (fun σ H5 hW => ?_)
      · obtain ⟨z5, rfl, hl5, sm5⟩ := hW
        have hlen : (swIn y i j (swOut c b i)).length = c.length + b := by rw [swIn_len, swOut_len]
        have hij : i + j < (swIn y i j (swOut c b i)).length := by omega
        refine ⟨_, rfl, _, rfl, _, rfl, _, _, rfl, rfl, l, _, _, _, rfl, rfl, SqL.of hl5, by omega, at_of (j := i + j) (by omega) (int_at (getD_some hij)), _, rfl, _, _, rfl, rfl, l, _, _, i + j, rfl, rfl, hl5, ix_n (by omega) (by rw [List.length_map]; exact hij), _, rfl, ?_, fun u o e => ?_⟩
        · rw [upd_same, addAt_V]
          rfl
        · rw [upd_ne (ne_of_none e nHl)]
          exact sm5 _ _ e
      · obtain ⟨z5, rfl, hl5, sm5⟩ := hW
        refine ⟨_, _, _, rfl, ?_, sm5⟩
        rw [swOut, eg]
        exact hl5
    · obtain ⟨y3, y4, y5, rfl, hl3, sm⟩ := hW
      rw [hlm] at hl3
      exact ⟨_, rfl, q l H3 nHl hl3 sm⟩
theorem scSwC : FnScope ["n", "counts", "behind"] ["n"] (defScope s_swap_counts) := ⟨rfl, rfl, rfl, by decide +kernel, rfl, by decide +kernel, by decide +kernel⟩
theorem ok_swC {f f1 : Addr} {fd d1 : FuncData} {k : Nat} (T : Df K mg "swap_counts" s_swap_counts ["n"] f fd) (T_swap_counts_with_one_more : Df K mg "swap_counts_with_one_more" s_swap_counts_with_one_more ["counts", "behind"] f1 d1) (B : Bi mg) : FnOk P w K mg base CX0 (k + 2) f fd ["n"] spSwC := by
  have G_swap_counts_with_one_more : FnOk P w K mg base CX0 (k + 1) f1 d1 ["counts", "behind"] spSwM := ok_swM T_swap_counts_with_one_more B
  refine T.F.ok scSwC (fun vs H Q E h => ?_) (fun cdv A outer s H vs Q E hr h => ?_)
  · obtain ⟨n, rfl, _⟩ := h
    rfl
  · obtain ⟨n, rfl, hn1, hn2, q⟩ := h
    refine ⟨_, 
      (pss_cons (ps_set (i := 1) scSwC.nd rfl (.inl rfl) (pe_lst (pa_cons pe_int pa_nil)))
      (pss_cons (ps_for PassesOwn.never rfl (pi_range2 (by rfl) B.range (pa_cons pe_int (pa_cons (pv 0) pa_nil))) (pg_name (i := 2) scSwC.nd rfl (.inl rfl))
        (pss_one (ps_set (i := 1) scSwC.nd rfl (.inl rfl) (pe_call G_swap_counts_with_one_more hr (by rfl) T_swap_counts_with_one_more.g T_swap_counts_with_one_more.F.kp T_swap_counts_with_one_more.b .nil pass0 (pa_cons (pv 1) (pa_cons (pv 2) pa_nil))))))
      (pss_one (ps_ret (pv 1))))), ?_⟩
    refine ⟨line_small (by show 1 ≤ 16777216; decide), fun l nl => ?_⟩
    have s1 := same_new (o := .lst [.int 1]) nl
    refine ⟨_, rfl, 1, (n : Int), rfl, ⟨by omega, by omega, by omega, by omega⟩, ?_⟩
    rw [show ((n : Int) - 1).toNat = n - 1 by omega]
    refine for_range (lo := 1) (n := n - 1) (fun i σ H1 => ∃ (l : Addr) (y2 : Option V), σ = [some (.int n), some (.ref l), y2] ∧ H l = none ∧ H1 l = some (.lst ((swC i).map V.int)) ∧ Same H H1) ⟨l, _, rfl, nl, upd_same, s1⟩ (fun i σ H1 hi hW => ?_) (fun σ H1 hW => ?_)
    · obtain ⟨l, y2, rfl, nl, hl, sm⟩ := hW
      refine ⟨_, rfl, _, rfl, l, swC i, i + 1, by show _ = [V.ref l, V.int ((i + 1 : Nat) : Int)]; rw [show ((i + 1 : Nat) : Int) = 1 + (i : Int) by omega]; rfl, hl, by rw [swC_len]; have := (tri_le i (by omega)).1; omega, by omega, fun l2 H2 nl2 hl2 s2 => ?_⟩
      exact ⟨l2, _, rfl, sm.free nl2, hl2, sm.trans s2⟩
    · obtain ⟨l, y2, rfl, nl, hl, sm⟩ := hW
      exact ⟨_, rfl, q l H1 nl hl sm⟩
end
end Fo
namespace Fo
open PySem PySem.Spec PyProof.Rows L2
theorem max_if (i j : Int) : (if j > i then j else i) = max i j := by split <;> omega
theorem min_if (i j : Int) : (if j < i then j else i) = min i j := by split <;> omega
theorem dN_val : ∀ {l : List (Nat × Int)} {i : Nat}, (keysN l).Nodup → i < l.length → valV (dN l) (Sum.inl (((l.getD i (0, 0)).1 : Nat) : Int)) = some (V.int (l.getD i (0, 0)).2)
  | [], i, _, h => absurd h (Nat.not_lt_zero _)
  | p :: l, 0, _, _ => valV_pos rfl
  | p :: l, i + 1, hn, h => by
    obtain ⟨h1, h2⟩ := List.nodup_cons.mp hn
    have ih := dN_val (l := l) (i := i) h2 (by simpa using h)
    have hi : i < l.length := by simpa using h
    show valV ((Sum.inl ((p.1 : Nat) : Int), V.int p.2) :: dN l) (Sum.inl (((l.getD i (0, 0)).1 : Nat) : Int)) = some (V.int (l.getD i (0, 0)).2)
    rw [valV_neg (fun e => h1 (by
      have e2 : p.1 = (l.getD i (0, 0)).1 := by have := Sum.inl.inj e; omega
      exact List.mem_map.mpr ⟨l.getD i (0, 0), by rw [getD_at hi]; exact List.getElem_mem _, e2.symm⟩))]
    exact ih
theorem dN_sum (l : List (Nat × Int)) : (dN l).map (·.2) = (l.map (·.2)).map V.int := by
  unfold dN
  rw [List.map_map, List.map_map]
  rfl
section
variable {P : Program} {w : World} {K : PySem.W.Frag} {mg : Str → Option Value} {base : Heap}
theorem scMv : FnScope ["n", "many", "sign", "things"] ["n"] (defScope s_count_all_moved) := ⟨rfl, rfl, rfl, by decide +kernel, rfl, by decide +kernel, by decide +kernel⟩
theorem ok_mv {f : Addr} {fd : FuncData} {k : Nat} (T : Df K mg "count_all_moved" s_count_all_moved ["n"] f fd) (B : Bi mg) : FnOk P w K mg base CX0 (k + 1) f fd ["n"] spMv := by
  refine T.F.ok scMv (fun vs H Q E h => ?_) (fun cdv A outer s H vs Q E hr h => ?_)
  · obtain ⟨n, rfl, _⟩ := h
    rfl
  · obtain ⟨n, rfl, hn, q⟩ := h
    refine ⟨_, 
      (pss_cons (ps_set (i := 1) scMv.nd rfl (.inl rfl) pe_int)
      (pss_cons (ps_set (i := 2) scMv.nd rfl (.inl rfl) pe_int)
      (pss_cons (ps_for PassesOwn.never rfl (pi_range2 (by rfl) B.range (pa_cons pe_int (pa_cons (pe_op op_add (pv 0) pe_int) pa_nil))) (pg_name (i := 3) scMv.nd rfl (.inl rfl))
        (pss_cons (ps_set (i := 2) scMv.nd rfl (.inl rfl) (pe_un un_neg (pv 2)))
        (pss_one (ps_set (i := 1) scMv.nd rfl (.inl rfl) (pe_op op_add (pe_op op_mul (pv 1) (pv 3)) (pv 2))))))
      (pss_one (ps_ret (pv 1)))))), ?_⟩
    refine ⟨_, rfl, (n : Int), 1, rfl, rfl, 1, _, rfl, ⟨by omega, by omega, by omega, by omega⟩, ?_⟩
    rw [show ((n : Int) + 1 - 1).toNat = n by omega]
    refine for_range (lo := 1) (n := n) (fun i σ H1 => ∃ y2 : Option V, σ = [some (.int n), some (.int (mvN i).1), some (.int (mvN i).2), y2] ∧ H1 = H) ⟨_, rfl, rfl⟩ (fun i σ H1 hi hW => ?_) (fun σ H1 hW => ?_)
    · obtain ⟨y2, rfl, rfl⟩ := hW
      have hf := mv_small i (by omega)
      refine ⟨_, rfl, _, rfl, _, rfl, _, rfl, _, _, rfl, rfl, .inl ⟨by omega, by omega⟩, _, rfl, _, _, rfl, rfl, some (.int (1 + (i : Int))), ?_, rfl⟩
      show [some (V.int (n : Int)), some (V.int ((mvN i).1 * (1 + (i : Int)) + -(mvN i).2)), some (V.int (-(mvN i).2)), some (V.int (1 + (i : Int)))] = _
      rw [Int.add_comm 1 (i : Int)]
      rfl
    · obtain ⟨y2, rfl, rfl⟩ := hW
      exact ⟨_, rfl, q⟩
theorem scSpC : FnScope ["n", "counts", "choices", "r"] ["n"] (defScope s_spot_counts) := ⟨rfl, rfl, rfl, by decide +kernel, rfl, by decide +kernel, by decide +kernel⟩
set_option maxHeartbeats 1000000 in
theorem ok_spC {f f1 : Addr} {fd d1 : FuncData} {k : Nat} (T : Df K mg "spot_counts" s_spot_counts ["n"] f fd) (T_count_all_moved : Df K mg "count_all_moved" s_count_all_moved ["n"] f1 d1) (B : Bi mg) : FnOk P w K mg base CX0 (k + 2) f fd ["n"] spSpC := by
  have G_count_all_moved : FnOk P w K mg base CX0 (k + 1) f1 d1 ["n"] spMv := ok_mv T_count_all_moved B
  refine T.F.ok scSpC (fun vs H Q E h => ?_) (fun cdv A outer s H vs Q E hr h => ?_)
  · obtain ⟨n, rfl, _⟩ := h
    rfl
  · obtain ⟨n, rfl, hn1, hn2, q⟩ := h
    refine ⟨_, 
      (pss_cons (ps_set (i := 1) scSpC.nd rfl (.inl rfl) (pe_lst pa_nil))
      (pss_cons (ps_set (i := 2) scSpC.nd rfl (.inl rfl) pe_int)
      (pss_cons (ps_for PassesOwn.never rfl (pi_range1 (by rfl) B.range (pa_cons (pe_op op_add (pv 0) pe_int) pa_nil)) (pg_name (i := 3) scSpC.nd rfl (.inl rfl))
        (pss_cons (ps_expr (pe_bm PySem.F.plainAttrs_list PySem.F.slot_list_append PySem.F.type_list_append mt_append (pv 1) (pa_cons (pe_op op_mul (pv 2) (pe_call G_count_all_moved hr (by rfl) T_count_all_moved.g T_count_all_moved.F.kp T_count_all_moved.b .nil pass0 (pa_cons (pv 3) pa_nil))) pa_nil)))
        (pss_one (ps_set (i := 2) scSpC.nd rfl (.inl rfl) (pe_op op_fdiv (pe_op op_mul (pv 2) (pe_op op_sub (pv 0) (pv 3))) (pe_op op_add (pv 3) pe_int))))))
      (pss_one (ps_ret (pv 1)))))), ?_⟩
    refine ⟨Nat.zero_le _, fun l nl => ?_⟩
    have s1 := same_new (o := .lst []) nl
    refine ⟨_, rfl, (n : Int), 1, rfl, rfl, _, rfl, by omega, by omega, ?_⟩
    rw [show ((n : Int) + 1).toNat = n + 1 by omega]
    refine for_range (lo := 0) (n := n + 1) (fun i σ H1 => ∃ (y3 : Option V), σ = [some (.int n), some (.ref l), some (.int (chN n i)), y3] ∧ H1 l = some (.lst (((List.range i).map fun r => chN n r * (mvN r).1).map V.int)) ∧ Same H H1) ⟨_, rfl, upd_same, s1⟩ (fun i σ H1 hi hW => ?_) (fun σ H1 hW => ?_)
    · obtain ⟨y3, rfl, hl, sm⟩ := hW
      have hc := ch_small n (by omega) i (by omega)
      refine ⟨_, rfl, .inl ⟨rfl, _, SqL.of hl⟩, _, rfl, _, rfl, i, by rw [Int.zero_add]; rfl, by omega, _, _, rfl, rfl, .inl ⟨by omega, by omega⟩, l, _, _, rfl, rfl, hl, line_lt (by rw [List.length_map, List.length_map, List.length_range]; omega), ?_⟩
      refine ⟨_, rfl, _, rfl, _, rfl, (n : Int), _, rfl, rfl, _, _, rfl, rfl, .inl ⟨by omega, by omega⟩, _, rfl, _, 1, rfl, rfl, _, _, rfl, rfl, ⟨by omega, by omega⟩, some (.int (0 + (i : Int))), ?_, ?_, fun u o e => ?_⟩
      · show [some (V.int (n : Int)), some (V.ref l), some (V.int (chN n i * ((n : Int) - (0 + (i : Int))) / (0 + (i : Int) + 1))), some (V.int (0 + (i : Int)))] = _
        rw [Int.zero_add]
        rfl
      · rw [upd_same, List.range_succ, List.map_append, List.map_append]
        rfl
      · rw [upd_ne (ne_of_none e nl)]
        exact sm _ _ e
    · obtain ⟨y3, rfl, hl, sm⟩ := hW
      exact ⟨_, rfl, q l H1 nl hl sm⟩
theorem scNearT : FnScope ["place", "n", "r"] ["place", "n", "r"] (defScope s_things_near) := ⟨rfl, rfl, rfl, by decide +kernel, rfl, by decide +kernel, by decide +kernel⟩
theorem ok_nearT {f : Addr} {fd : FuncData} {k : Nat} (T : Df K mg "things_near" s_things_near ["place", "n", "r"] f fd) (B : Bi mg) : FnOk P w K mg base CX0 (k + 1) f fd ["place", "n", "r"] spNearT := by
  refine T.F.ok scNearT (fun vs H Q E h => ?_) (fun cdv A outer s H vs Q E hr h => ?_)
  · obtain ⟨p, n, r, rfl, _⟩ := h
    rfl
  · obtain ⟨p, n, r, rfl, hp, hn, hr0, q⟩ := h
    refine ⟨_, 
      (pss_one (ps_ret (pe_listRg rfl (by rfl) B.list (prg_2 (by rfl) B.range (pe_callB (call_max2 rfl) (by rfl) B.max (by decide +kernel) (pa_cons pe_int (pa_cons (pe_op op_sub (pv 0) (pv 2)) pa_nil))) (pe_callB (call_min2 rfl) (by rfl) B.min (by decide +kernel) (pa_cons (pv 1) (pa_cons (pe_op op_add (pe_op op_add (pv 0) (pv 2)) pe_int) pa_nil))))))), ?_⟩
    refine ⟨_, rfl, _, rfl, _, _, rfl, rfl, _, _, rfl, _, rfl, _, rfl, _, rfl, _, _, rfl, rfl, _, _, rfl, rfl, _, _, rfl, ?_⟩
    rw [max_if, min_if]
    refine ⟨_, _, rfl, rfl, RgOk.of_le (by omega) (by omega) (by omega) (by omega), fun l nl => ?_⟩
    exact q l _ nl (by rw [upd_same, near_V hp hr0]) (same_new nl)
theorem scFurther : FnScope ["beginnings", "near", "longer", "used", "many", "thing", "bit"] ["beginnings", "near"] (defScope s_one_place_further) := ⟨rfl, rfl, rfl, by decide +kernel, rfl, by decide +kernel, by decide +kernel⟩
set_option maxHeartbeats 2000000 in
theorem ok_further {f : Addr} {fd : FuncData} {k : Nat} (T : Df K mg "one_place_further" s_one_place_further ["beginnings", "near"] f fd) (B : Bi mg) : FnOk P w K mg base CX0 (k + 1) f fd ["beginnings", "near"] spFurther := by
  refine T.F.ok scFurther (fun vs H Q E h => ?_) (fun cdv A outer s H vs Q E hr h => ?_)
  · obtain ⟨a, b, d, lo, c, rfl, _⟩ := h
    rfl
  · obtain ⟨a, b, d, lo, c, rfl, ha, hd, hb, hc, q⟩ := h
    refine ⟨_, 
      (pss_cons (ps_set (i := 2) scFurther.nd rfl (.inl rfl) pe_dnewK)
      (pss_cons (ps_lock (ps_for PassesOwn.never rfl (pi_items (pv 0)) (pg_tup (by rfl) (pgs_cons (pg_name (i := 3) scFurther.nd rfl (.inl rfl)) (pgs_cons (pg_name (i := 4) scFurther.nd rfl (.inl rfl)) pgs_nil)))
        (pss_one (ps_for PassesOwn.never rfl (pi_list (pv 1)) (pg_name (i := 5) scFurther.nd rfl (.inl rfl))
          (pss_cons (ps_set (i := 6) scFurther.nd rfl (.inl rfl) (pe_op op_shl pe_int (pv 5)))
          (pss_one (ps_if (pt_cmpR op_eq (pe_op op_and (pv 3) (pv 6)) pe_int (nomark _))
            (pss_one (ps_dput (hu_of hr) (pv 2) (pe_op op_or (pv 3) (pv 6)) (pe_op op_add (pe_dget2 (hu_of hr) (pv 2) (pe_op op_or (pv 3) (pv 6)) pe_int ⟨by rfl, by rfl, by rfl, by rfl⟩) (pv 4)) (by rfl)))
            pss_nil)))))))
      (pss_one (ps_ret (pv 2))))), ?_⟩
    refine fun l nl => ?_
    have s1 := same_new (o := .dK []) nl
    have nla : l ≠ a := (ne_of_none ha nl).symm
    have nlb : l ≠ b := (ne_of_none hb nl).symm
    have nba : b ≠ a := fun z => by rw [z, ha] at hb; cases hb
    refine ⟨a, _, s1 _ _ ha, trivial, fun od => ?_⟩
    refine ⟨_, rfl, a, od, _, rfl, upd_same, ?_⟩
    refine for_items (od := od) (kvs := dN d) (fun i σ H3 => ∃ (y3 y4 y5 y6 : Option V), σ = [some (.ref a), some (.ref b), some (.ref l), y3, y4, y5, y6] ∧ H3 l = some (.dK (dN (stOut d lo c i))) ∧ H3 a = some (.frz od (.dK (dN d))) ∧ (∀ u o, H u = some o → u ≠ a → H3 u = some o))
      ⟨_, _, _, _, rfl, by rw [upd_ne nla]; exact upd_same, upd_same, fun u o e nu => by rw [upd_ne nu]; exact s1 _ _ e⟩ (fun i σ H3 hW => by obtain ⟨_, _, _, _, _, _, h3, _⟩ := hW; exact h3) (fun i kk v t σ H3 hx hW nt => ?_) (fun σ H3 hW => ?_)
    · obtain ⟨y3, y4, y5, y6, rfl, hl3, ha3, kp⟩ := hW
      obtain ⟨hi, rfl, rfl⟩ := dN_at hx
      obtain ⟨g1, _, _⟩ := stOut_good hd hc i (by omega)
      have hmem : d.getD i (0, 0) ∈ d := by rw [getD_at hi]; exact List.getElem_mem _
      have hm := hd.pos _ hmem
      have hu := hd.lt _ (List.mem_map.mpr ⟨_, hmem, rfl⟩)
      generalize hux : (d.getD i (0, 0)).1 = ux at hu
      generalize hmx : (d.getD i (0, 0)).2 = mx at hm
      have st := same_new (o := .tup [kV (Sum.inl ((ux : Nat) : Int)), .int mx]) nt
      have hl4 := st _ _ hl3
      have ha4 := st _ _ ha3
      have kp4 : ∀ u o, H u = some o → u ≠ a → (upd H3 t (.tup [kV (Sum.inl ((ux : Nat) : Int)), .int mx])) u = some o := fun u o e nu => st _ _ (kp u o e nu)
      have ht4 : (upd H3 t (.tup [kV (Sum.inl ((ux : Nat) : Int)), .int mx])) t = some (.tup [kV (Sum.inl ((ux : Nat) : Int)), .int mx]) := upd_same
      generalize upd H3 t (.tup [kV (Sum.inl ((ux : Nat) : Int)), .int mx]) = H4 at ht4 hl4 ha4 kp4 ⊢
      refine ⟨t, _, rfl, .inl (.inl ht4), rfl, _, _, rfl, _, _, rfl, rfl, ?_⟩
      refine ⟨_, rfl, b, rfl, ⟨_, SqL.of (kp4 _ _ hb nba)⟩, ?_⟩
      refine for_list (xs := (nearT lo c).map V.int) (fun j σ H5 => ∃ (y5 y6 : Option V), σ = [some (.ref a), some (.ref b), some (.ref l), some (.int ((ux : Nat) : Int)), some (.int mx), y5, y6] ∧ H5 l = some (.dK (dN (stIn ux mx lo j (stOut d lo c i)))) ∧ H5 a = some (.frz od (.dK (dN d))) ∧ (∀ u o, H u = some o → u ≠ a → H5 u = some o))
        ⟨_, _, rfl, hl4, ha4, kp4⟩ (fun j σ H5 _ hW => by obtain ⟨_, _, _, _, _, kp5⟩ := hW; exact SqL.of (kp5 _ _ hb nba)) (fun j x σ H5 hx hW => ?_) (fun σ H5 hW => ?_)
      · obtain ⟨z5, z6, rfl, hl5, ha5, kp5⟩ := hW
        obtain ⟨y, ey, rfl⟩ := int_at_inv hx
        have hj := (List.getElem?_eq_some_iff.mp ey).1
        rw [near_len] at hj
        rw [near_at hj] at ey
        have ey2 := Option.some.inj ey
        subst ey2
        obtain ⟨k1, _, _, _⟩ := stIn_good (lo := lo) hu hm j _ g1 (by omega)
        have hln := k1.len
        refine ⟨_, rfl, 1, _, rfl, rfl, ⟨by omega, by omega, by decide⟩, ?_⟩
        refine ⟨_, rfl, _, rfl, _, _, rfl, rfl, rfl, _, rfl, ?_⟩
        rw [bit_read hu (show lo + j < 12 by omega)]
        cases htb : ux.testBit (lo + j) with
        | true =>
          refine iteF ⟨_, _, rfl, ?_, ha5, kp5⟩
          rw [stIn, htb, if_pos rfl]
          exact hl5
        | false =>
          refine iteT ?_
          have eb := bit_or htb hu (show lo + j < 12 by omega)
          have eg : DGet H5 l (V.int (Builtin.bitOr (ux : Int) (1 * 2 ^ (((lo + j : Nat)) : Int).toNat))) (valV (dN (stIn ux mx lo j (stOut d lo c i))) (Sum.inl ((ux + 2 ^ (lo + j) : Nat) : Int))) := by
            rw [eb]
            exact DGet.k (k := Sum.inl _) hl5
          have ep : DPut H5 l (V.int (Builtin.bitOr (ux : Int) (1 * 2 ^ (((lo + j : Nat)) : Int).toNat))) (V.int (lookN (stIn ux mx lo j (stOut d lo c i)) (ux + 2 ^ (lo + j)) + mx)) (upd H5 l (.dK (dN (stIn ux mx lo (j + 1) (stOut d lo c i))))) := by
            rw [eb, stIn, htb, if_neg (by decide), ← dN_put]
            exact DPut.k (k := Sum.inl _) hl5 (line_lt (by rw [dN_len]; omega))
          refine ⟨_, rfl, l, rfl, .inl ⟨_, .inl hl5⟩, _, rfl, _, rfl, _, _, rfl, rfl, _, eg, _, rfl, _, _, dN_get _ _, rfl, _, rfl, _, rfl, _, rfl, _, _, rfl, rfl, l, _, rfl, ep, _, _, rfl, upd_same, ?_, fun u o e nu => ?_⟩
          · rw [upd_ne nla.symm]
            exact ha5
          · rw [upd_ne (ne_of_none e nl)]
            exact kp5 u o e nu
      · obtain ⟨z5, z6, rfl, hl5, ha5, kp5⟩ := hW
        rw [List.length_map, near_len] at hl5
        refine ⟨_, _, _, _, rfl, ?_, ha5, kp5⟩
        rw [stOut, hux, hmx]
        exact hl5
    · obtain ⟨y3, y4, y5, y6, rfl, hl3, ha3, kp⟩ := hW
      rw [dN_len] at hl3
      refine ⟨ha3, _, rfl, q l _ nl (by rw [upd_ne nla]; exact hl3) fun u o e => ?_⟩
      by_cases c : u = a
      · subst c
        rw [upd_same]
        rw [ha] at e
        exact e
      · rw [upd_ne c]
        exact kp u o e c
theorem scShN : FnScope ["n", "r", "beginnings", "place", "near"] ["n", "r"] (defScope s_shift_within) := ⟨rfl, rfl, rfl, by decide +kernel, rfl, by decide +kernel, by decide +kernel⟩
set_option maxHeartbeats 1000000 in
theorem ok_shN {f f1 f2 : Addr} {fd d1 d2 : FuncData} {k : Nat} (T : Df K mg "shift_within" s_shift_within ["n", "r"] f fd) (T_things_near : Df K mg "things_near" s_things_near ["place", "n", "r"] f1 d1) (T_one_place_further : Df K mg "one_place_further" s_one_place_further ["beginnings", "near"] f2 d2) (B : Bi mg) : FnOk P w K mg base CX0 (k + 2) f fd ["n", "r"] spShN := by
  have G_things_near : FnOk P w K mg base CX0 (k + 1) f1 d1 ["place", "n", "r"] spNearT := ok_nearT T_things_near B
  have G_one_place_further : FnOk P w K mg base CX0 (k + 1) f2 d2 ["beginnings", "near"] spFurther := ok_further T_one_place_further B
  refine T.F.ok scShN (fun vs H Q E h => ?_) (fun cdv A outer s H vs Q E hr h => ?_)
  · obtain ⟨n, r, rfl, _⟩ := h
    rfl
  · obtain ⟨n, r, rfl, hn1, hn2, hr0, q⟩ := h
    refine ⟨_, 
      (pss_cons (ps_set (i := 2) scShN.nd rfl (.inl rfl) (pe_disp (pps_cons pe_int pe_int pps_nil) (by rfl) (by rfl) (fun z => by cases z) (by decide)))
      (pss_cons (ps_for PassesOwn.never rfl (pi_range1 (by rfl) B.range (pa_cons (pv 0) pa_nil)) (pg_name (i := 3) scShN.nd rfl (.inl rfl))
        (pss_cons (ps_set (i := 4) scShN.nd rfl (.inl rfl) (pe_call G_things_near hr (by rfl) T_things_near.g T_things_near.F.kp T_things_near.b .nil pass0 (pa_cons (pv 3) (pa_cons (pv 0) (pa_cons (pv 1) pa_nil)))))
        (pss_one (ps_set (i := 2) scShN.nd rfl (.inl rfl) (pe_call G_one_place_further hr (by rfl) T_one_place_further.g T_one_place_further.F.kp T_one_place_further.b .nil pass0 (pa_cons (pv 2) (pa_cons (pv 4) pa_nil)))))))
      (pss_one (ps_ret (pe_sumVals rfl (by rfl) B.sum (pv 2)))))), ?_⟩
    refine fun l nl => ⟨upd_same, [(Sum.inl 0, .int 1)], rfl, by decide, ?_⟩
    have s1 : Same H (upd (upd H l (.dK [])) l (.dK (mergeK [] [(Sum.inl 0, .int 1)]))) := fun u o e => by rw [upd_ne (ne_of_none e nl), upd_ne (ne_of_none e nl)]; exact e
    refine ⟨_, rfl, n, rfl, by omega, by omega, ?_⟩
    rw [Int.toNat_natCast]
    refine for_range (n := n) (fun i σ H1 => ∃ (l : Addr) (y3 y4 : Option V), σ = [some (.int n), some (.int r), some (.ref l), y3, y4] ∧ H1 l = some (.dK (dN (shD n r i))) ∧ Same H H1) ⟨l, _, _, rfl, by rw [upd_same]; rfl, s1⟩ (fun i σ H1 hi hW => ?_) (fun σ H1 hW => ?_)
    · obtain ⟨l, y3, y4, rfl, hl, sm⟩ := hW
      obtain ⟨g1, _, _⟩ := shD_good (r := r) hn2 hr0 i (by omega)
      obtain ⟨l1, _, _⟩ := lo_ct (r := r) hn2 hi hr0
      refine ⟨_, rfl, _, rfl, _, rfl, i, n, r, by rw [Int.zero_add]; rfl, hi, hn2, hr0, fun p H2 np hp s2 => ?_⟩
      refine ⟨_, rfl, _, rfl, l, p, _, _, _, rfl, s2 _ _ hl, g1, hp, l1, fun l2 H3 nl2 hl2 s3 => ?_⟩
      exact ⟨l2, _, _, rfl, hl2, (sm.trans s2).trans s3⟩
    · obtain ⟨l, y3, y4, rfl, hl, sm⟩ := hW
      exact ⟨_, rfl, l, _, _, rfl, hl, dN_sum _, q H1 sm⟩
theorem scKW : FnScope ["way", "n", "r"] ["way", "n", "r"] (defScope s_known_within) := ⟨rfl, rfl, rfl, by decide +kernel, rfl, by decide +kernel, by decide +kernel⟩
theorem ok_kw {f f1 f2 f3 f4 f5 f6 f7 : Addr} {fd d1 d2 d3 d4 d5 d6 d7 : FuncData} {k : Nat} (T : Df K mg "known_within" s_known_within ["way", "n", "r"] f fd) (T_swap_counts : Df K mg "swap_counts" s_swap_counts ["n"] f1 d1) (T_spot_counts : Df K mg "spot_counts" s_spot_counts ["n"] f2 d2) (T_shift_within : Df K mg "shift_within" s_shift_within ["n", "r"] f3 d3) (T4 : Df K mg "swap_counts_with_one_more" s_swap_counts_with_one_more ["counts", "behind"] f4 d4) (T5 : Df K mg "count_all_moved" s_count_all_moved ["n"] f5 d5) (T6 : Df K mg "things_near" s_things_near ["place", "n", "r"] f6 d6) (T7 : Df K mg "one_place_further" s_one_place_further ["beginnings", "near"] f7 d7) (B : Bi mg) : FnOk P w K mg base CX0 (k + 3) f fd ["way", "n", "r"] spKW := by
  have G_swap_counts : FnOk P w K mg base CX0 (k + 2) f1 d1 ["n"] spSwC := ok_swC T_swap_counts T4 B
  have G_spot_counts : FnOk P w K mg base CX0 (k + 2) f2 d2 ["n"] spSpC := ok_spC T_spot_counts T5 B
  have G_shift_within : FnOk P w K mg base CX0 (k + 2) f3 d3 ["n", "r"] spShN := ok_shN T_shift_within T6 T7 B
  refine T.F.ok scKW (fun vs H Q E h => ?_) (fun cdv A outer s H vs Q E hr h => ?_)
  · obtain ⟨wy, n, r, rfl, _⟩ := h
    rfl
  · obtain ⟨wy, n, r, rfl, hw, hn1, hn2, hr0, q⟩ := h
    refine ⟨_, 
      (pss_cons (ps_if (pt_cmpR op_eq (pv 0) pe_str (nomark _))
        (pss_one (ps_ret (pe_callB (cr_sum rfl) (by rfl) B.sum (by decide +kernel) (pa_cons (pe_slice sl_list (pe_call G_swap_counts hr (by rfl) T_swap_counts.g T_swap_counts.F.kp T_swap_counts.b .nil pass0 (pa_cons (pv 1) pa_nil)) po_none (po_some (pe_op op_add (pv 2) pe_int))) pa_nil))))
        pss_nil)
      (pss_cons (ps_if (pt_cmpR op_eq (pv 0) pe_str (nomark _))
        (pss_one (ps_ret (pe_callB (cr_sum rfl) (by rfl) B.sum (by decide +kernel) (pa_cons (pe_slice sl_list (pe_call G_spot_counts hr (by rfl) T_spot_counts.g T_spot_counts.F.kp T_spot_counts.b .nil pass0 (pa_cons (pv 1) pa_nil)) po_none (po_some (pe_op op_add (pv 2) pe_int))) pa_nil))))
        pss_nil)
      (pss_one (ps_ret (pe_call G_shift_within hr (by rfl) T_shift_within.g T_shift_within.F.kp T_shift_within.b .nil pass0 (pa_cons (pv 1) (pa_cons (pv 2) pa_nil))))))), ?_⟩
    have er : r + 1 = (((r + 1).toNat : Nat) : Int) := by omega
    rcases hw with rfl | rfl | rfl
    · refine ⟨_, rfl, rfl, _, rfl, ite2 (fun _ => ?_) (fun c => absurd (by decide +kernel) c)⟩
      refine ⟨_, rfl, n, rfl, hn1, hn2, fun l H1 nl hl s1 => ?_⟩
      refine ⟨_, rfl, r, 1, rfl, rfl, _, rfl, l, _, rfl, SqL.of hl, fun p np => ?_⟩
      refine ⟨p, (swC (n - 1)).take (r + 1).toNat, rfl, SqL.of (by rw [upd_same, cut_ints, er, cutI_head, Int.toNat_natCast]), ?_⟩
      rw [← inW_swap]
      exact q _ (s1.trans (same_new np))
    · refine ⟨_, rfl, rfl, _, rfl, ite2 (fun c => absurd c (by decide +kernel)) (fun _ => ?_)⟩
      refine ⟨_, rfl, rfl, _, rfl, ite2 (fun _ => ?_) (fun c => absurd (by decide +kernel) c)⟩
      refine ⟨_, rfl, n, rfl, hn1, hn2, fun l H1 nl hl s1 => ?_⟩
      refine ⟨_, rfl, r, 1, rfl, rfl, _, rfl, l, _, rfl, SqL.of hl, fun p np => ?_⟩
      refine ⟨p, (spC n).take (r + 1).toNat, rfl, SqL.of (by rw [upd_same, cut_ints, er, cutI_head, Int.toNat_natCast]), ?_⟩
      rw [← inW_spot]
      exact q _ (s1.trans (same_new np))
    · refine ⟨_, rfl, rfl, _, rfl, ite2 (fun c => absurd c (by decide +kernel)) (fun _ => ?_)⟩
      refine ⟨_, rfl, rfl, _, rfl, ite2 (fun c => absurd c (by decide +kernel)) (fun _ => ?_)⟩
      exact ⟨_, rfl, _, rfl, n, r, rfl, hn1, hn2, hr0, fun H1 s1 => by rw [← inW_shift]; exact q H1 s1⟩
end
end Fo
namespace Fo
open PySem PySem.Spec PyProof.Rows L2
def spCount : Sp := fun vs H Q _ => ∃ (w : Str) (n : Nat) (r : Int), vs = [.str w, .int n, .int r] ∧ IsWay w ∧ 1 ≤ n ∧ n ≤ 12 ∧ 0 ≤ r ∧ Q .non H
def atW (w : Str) (n : Nat) (r : Int) : Int := if r = 0 then inW w n 0 else inW w n r - inW w n (r - 1)
def spAt : Sp := fun vs H Q _ => ∃ (w : Str) (n : Nat) (r : Int), vs = [.str w, .int n, .int r] ∧ IsWay w ∧ 1 ≤ n ∧ n ≤ 12 ∧ 0 ≤ r ∧ ∀ H', Same H H' → Q (.int (atW w n r)) H'
section
variable {P : Program} {w : World} {K : PySem.W.Frag} {mg : Str → Option Value} {base : Heap}
end
end Fo
namespace Fo
open PySem PySem.Spec PyProof.Rows L2
section
variable {P : Program} {w : World} {K : PySem.W.Frag} {mg : Str → Option Value} {base : Heap}
theorem scChangeL : FnScope ["self", "orders"] ["self", "orders"] (defScope s_Lister_change_to) := ⟨rfl, rfl, rfl, by decide +kernel, rfl, by decide +kernel, by decide +kernel⟩
theorem ok_changeL {C_Lister fI f : Addr} {fd : FuncData} {k : Nat} (T : Dm K C_Lister "change_to" "Lister.change_to" s_Lister_change_to ["self", "orders"] f fd) (TC : TxL K mg C_Lister fI) : FnOk P w K mg base CX0 (k + 1) f fd ["self", "orders"] (spChangeL C_Lister) := by
  refine T.F.ok scChangeL (fun vs H Q E h => ?_) (fun cdv A outer s H vs Q E hr h => ?_)
  · obtain ⟨a, e, l, X, w, n, d, rs, ss, qs, rfl, _⟩ := h
    rfl
  · obtain ⟨a, e, l, X, w, n, d, rs, ss, qs, rfl, L, hl, nlX, nqX, oq, hz, q⟩ := h
    obtain ⟨dx, t, ps, st, ha, he, ht, ert, hst, ess, heX, ntX, npX, nsX⟩ := L.ex
    have nte : t ≠ e := fun z => ntX (z ▸ heX)
    have npe : ∀ p ∈ ps, p.1 ≠ e := fun p hp z => npX p hp (z ▸ heX)
    have nse : ∀ q ∈ st, q.1 ≠ e ∧ ∀ p ∈ q.2, p.1 ≠ e := fun q hq => ⟨fun z => (nsX q hq).1 (z ▸ heX), fun p hp z => (nsX q hq).2 p hp (z ▸ heX)⟩
    have nae : a ≠ e := ne_of ha he (by intro z; cases z)
    have nle : l ≠ e := fun z => nlX (z ▸ heX)
    have nqe : ∀ q ∈ qs, q.1 ≠ e := fun q hq z => nqX q hq (z ▸ heX)
    have nla : l ≠ a := ne_of hl.1 ha (by intro z; cases z)
    refine ⟨_, 
      (pss_cons (ps_expr (pe_bm PySem.F.plainAttrs_list PySem.F.slot_list_append PySem.F.type_list_append mt_append (pe_fld (pv 0) rfl) (pa_cons (pe_fld (pv 0) rfl) pa_nil)))
      (pss_one (ps_fld (pv 0) (pv 1) rfl))), ?_⟩
    refine ⟨_, rfl, a, _, dx, _, _, rfl, ha, TC.cl, TC.nE, fl_e, ?_⟩
    refine ⟨.inl ⟨rfl, _, SqL.of he⟩, ?_⟩
    refine ⟨_, rfl, a, _, dx, _, _, rfl, ha, TC.cl, TC.nT, fl_t, ?_⟩
    refine ⟨e, _, _, rfl, rfl, he, line_lt (by rw [List.length_map, ← List.length_map (f := fun q : Addr × List (Addr × List Int) => rws q.2), ess]; omega), ?_⟩
    refine ⟨_, rfl, _, rfl, a, _, dx, _, rfl, (by rw [upd_ne nae]; exact ha), TC.cl, TC.nT, (by show 5 < 1000; decide), ?_⟩
    rw [put_t]
    have kp : KpL a e H (upd (upd H e (.lst ((st.map fun q => V.ref q.1) ++ [V.ref t]))) a (.ins C_Lister dx (fldsL w n d l e))) := fun b o h n1 n2 => by rw [upd_ne n1, upd_ne n2]; exact h
    refine q _ ⟨⟨dx, l, qs, st ++ [(t, ps)], upd_same, (by rw [upd_ne nae.symm, upd_same, List.map_append]; rfl), hl.kpl kp ha nle nqe, rfl, fun q hq => ?_, ?_, heX, nlX, nqX, fun q hq => ?_⟩, trK L.tr kp upd_same (by rw [upd_ne nae.symm, upd_same]), L.wy, L.n1, L.n2, L.d1, oq, fun s hs r hr => ?_⟩ kp
    · rcases List.mem_append.mp hq with hq | hq
      · exact (hst q hq).kpl kp ha (nse q hq).1 (nse q hq).2
      · rw [List.mem_singleton.mp hq]
        exact ht.kpl kp ha nte npe
    · rw [List.map_append, ess, ← ert]
      rfl
    · rcases List.mem_append.mp hq with hq | hq
      · exact nsX q hq
      · rw [List.mem_singleton.mp hq]
        exact ⟨ntX, npX⟩
    · rcases List.mem_append.mp hs with hs | hs
      · exact L.ords s hs r hr
      · rw [List.mem_singleton.mp hs] at hr
        exact L.ord r hr
theorem scInitL : FnScope ["self", "way", "n", "d"] ["self", "way", "n", "d"] (defScope s_Lister___init__) := ⟨rfl, rfl, rfl, by decide +kernel, rfl, by decide +kernel, by decide +kernel⟩
theorem ok_initL {C_Lister fI f f1 : Addr} {fd d1 : FuncData} {k : Nat} {tK : Tok} (T : Dm K C_Lister "__init__" "Lister.__init__" s_Lister___init__ ["self", "way", "n", "d"] f fd) (TC : TxL K mg C_Lister fI) (T_check_apart : Df K mg "check_apart" s_check_apart ["way", "n", "most", "d"] f1 d1) (G_check_apart : FnOk P w K mg base CX0 k f1 d1 ["way", "n", "most", "d"] spApart) (mK : mg "MOST_KEPT" = some (.int 8 tK)) : FnOk P w K mg base CX0 (k + 1) f fd ["self", "way", "n", "d"] (spInitL C_Lister) := by
  refine T.F.ok scInitL (fun vs H Q E h => ?_) (fun cdv A outer s H vs Q E hr h => ?_)
  · obtain ⟨a, dx, X, w, n, d, rfl, _⟩ := h
    rfl
  · obtain ⟨a, dx, X, w, n, d, rfl, ha, hw, h1, h2, h3, htr, naX, q⟩ := h
    refine ⟨_, 
      (pss_cons (ps_expr (pe_call G_check_apart hr (by rfl) T_check_apart.g T_check_apart.F.kp T_check_apart.b .nil pass0 (pa_cons (pv 1) (pa_cons (pv 2) (pa_cons (pe_glob (v := .int 8) (by rfl) mK ⟨_, rfl⟩) (pa_cons (pv 3) pa_nil))))))
      (pss_cons (ps_fld (pv 0) (pv 1) rfl)
      (pss_cons (ps_fld (pv 0) (pv 2) rfl)
      (pss_cons (ps_fld (pv 0) (pv 3) rfl)
      (pss_cons (ps_fld (pv 0) (pe_lst pa_nil) rfl)
      (pss_one (ps_fld (pv 0) (pe_lst pa_nil) rfl))))))), ?_⟩
    refine ⟨_, rfl, _, rfl, _, rfl, w, n, 8, d, rfl, hw, by omega, by omega, h3, ?_⟩
    refine ⟨_, rfl, _, rfl, a, _, dx, _, rfl, ha, TC.cl, TC.nW, (by show 0 < 1000; decide), ?_⟩
    refine ⟨_, rfl, _, rfl, a, _, dx, _, rfl, upd_same, TC.cl, TC.nN, (by show 1 < 1000; decide), ?_⟩
    refine ⟨_, rfl, _, rfl, a, _, dx, _, rfl, upd_same, TC.cl, TC.nD, (Nat.lt_of_le_of_lt (pl (pl (Nat.le_refl 0))) (by decide)), ?_⟩
    refine ⟨by decide, fun t nt => ?_⟩
    have nta : a ≠ t := ne_of_none upd_same nt
    refine ⟨_, rfl, a, _, dx, _, rfl, (by rw [upd_ne nta]; exact upd_same), TC.cl, TC.nT, (Nat.lt_of_le_of_lt (pl (pl (pl (Nat.le_refl 0)))) (by decide)), ?_⟩
    refine ⟨by decide, fun e ne => ?_⟩
    have nae : a ≠ e := ne_of_none upd_same ne
    have nte : t ≠ e := ne_of_none (by rw [upd_ne nta.symm, upd_same]) ne
    refine ⟨_, rfl, a, _, dx, _, rfl, (by rw [upd_ne nae]; exact upd_same), TC.cl, TC.nE, (Nat.lt_of_le_of_lt (pl (pl (pl (pl (Nat.le_refl 0))))) (by decide)), ?_⟩
    rw [put_init]
    have hte : H t = none := by rw [← nt, upd_ne nta.symm, upd_ne nta.symm, upd_ne nta.symm]
    have hee : H e = none := by rw [← ne, upd_ne nae.symm, upd_ne nte.symm, upd_ne nae.symm, upd_ne nae.symm, upd_ne nae.symm]
    have kp : ∀ b o, H b = some o → b ≠ a → (upd (upd (upd (upd (upd (upd (upd H a (.ins C_Lister dx (putF "way" (.str w) []))) a (.ins C_Lister dx (putF "n" (.int n) (putF "way" (.str w) [])))) a (.ins C_Lister dx (putF "d" (.int d) (putF "n" (.int n) (putF "way" (.str w) []))))) t (.lst [])) a (.ins C_Lister dx (putF "taken" (.ref t) (putF "d" (.int d) (putF "n" (.int n) (putF "way" (.str w) [])))))) e (.lst [])) a (.ins C_Lister dx (fldsL w n d t e))) b = some o := fun b o h nb => by
      rw [upd_ne nb, upd_ne (ne_of_none h hee), upd_ne nb, upd_ne (ne_of_none h hte), upd_ne nb, upd_ne nb, upd_ne nb]
      exact h
    refine q e _ hee ⟨⟨dx, t, [], [], upd_same, (by rw [upd_ne nae.symm, upd_same]; rfl), ⟨(by rw [upd_ne nta.symm, upd_ne nte, upd_ne nta.symm, upd_same]; rfl), fun p hp => absurd hp List.not_mem_nil⟩, rfl, fun p hp => absurd hp List.not_mem_nil, rfl, List.mem_cons_self, fun hm => ?_, fun p hp => absurd hp List.not_mem_nil, fun p hp => absurd hp List.not_mem_nil⟩, fun x hx => ?_, hw, h1, h2, h3, fun r hr => absurd hr List.not_mem_nil, fun r hr => absurd hr List.not_mem_nil⟩ fun b o h nb => kp b o h nb
    · rcases List.mem_cons.mp hm with z | hm
      · exact nte z
      · obtain ⟨o, ho⟩ := htr t hm
        rw [hte] at ho
        cases ho
    · rcases List.mem_cons.mp hx with rfl | hx
      · exact ⟨_, by rw [upd_ne nae.symm, upd_same]⟩
      · obtain ⟨o, ho⟩ := htr x hx
        exact ⟨o, kp x o ho fun z => naX (z ▸ hx)⟩
end
end Fo
namespace Fo
open PySem PySem.Spec PyProof.Rows L2
/-! what a Lister could take besides -/
def freeL (w : Str) (n : Nat) (d : Int) (rs : List (List Int)) : List (List Int) := (allK n n).filter fun o => farAll w d o rs
theorem KeepT.rp {H H' : Hp} {t : Addr} {ps : List (Addr × List Int)} (k : KeepT H H') (h : RP H t ps) : RP H' t ps := ⟨k.lst h.1, fun p hp => k.lst (h.2 p hp)⟩
theorem LsAt.keepT {C : Addr} {H H' : Hp} {a e : Addr} {X : List Addr} {w : Str} {n : Nat} {d : Int} {rs : List (List Int)} {ss : List (List (List Int))} (h : LsAt C H a e X w n d rs ss) (k : KeepT H H') : LsAt C H' a e X w n d rs ss := by
  obtain ⟨⟨dx, t, ps, st, e1, e2, e3, e4, e5, e6, e7⟩, tr, r⟩ := h
  refine ⟨⟨dx, t, ps, st, k.1 _ _ e1 (fun q z => by cases z), k.lst e2, k.rp e3, e4, fun q hq => k.rp (e5 q hq), e6, e7⟩, fun x hx => ?_, by assumption, by assumption, by assumption, by assumption, by assumption, by assumption⟩
  obtain ⟨o, ho⟩ := tr x hx
  cases hn : H' x with
  | some o' => exact ⟨o', rfl⟩
  | none => rw [k.free hn] at ho; cases ho
theorem rws_LL {H : Hp} : ∀ {ps : List (Addr × List Int)}, (∀ p ∈ ps, H p.1 = some (.lst (p.2.map V.int))) → LL H (ps.map (·.1)) (rws ps)
  | [], _ => trivial
  | p :: ps, h => ⟨h p List.mem_cons_self, rws_LL fun q hq => h q (List.mem_cons_of_mem _ hq)⟩
theorem RP.two {H : Hp} {t : Addr} {ps : List (Addr × List Int)} (h : RP H t ps) : H t = some (.lst ((ps.map (·.1)).map V.ref)) ∧ LL H (ps.map (·.1)) (rws ps) := ⟨by rw [List.map_map]; exact h.1, rws_LL h.2⟩
def spMoreL (C Pt : Addr) : Sp := fun vs H Q _ => ∃ (a e : Addr) (X : List Addr) (w : Str) (n : Nat) (d : Int) (rs : List (List Int)) (ss : List (List (List Int))), vs = [.ref a] ∧ LsAt C H a e X w n d rs ss ∧ n ≤ 6 ∧ GxR.TabG H Pt ∧ ∀ H', KeepT H H' → Q (.int ((freeL w n d rs).length : Nat)) H'
def spFirstL (C Pt : Addr) : Sp := fun vs H Q _ => ∃ (a e : Addr) (X : List Addr) (w : Str) (n : Nat) (d : Int) (rs : List (List Int)) (ss : List (List (List Int))), vs = [.ref a] ∧ LsAt C H a e X w n d rs ss ∧ n ≤ 6 ∧ GxR.TabG H Pt ∧
  (freeL w n d rs = [] → ∀ H', KeepT H H' → Q .non H') ∧ ∀ (x : List Int) (xs : List (List Int)) (l : Addr) (H' : Hp), freeL w n d rs = x :: xs → H l = none → H' l = some (.lst (x.map V.int)) → KeepT H H' → Q (.ref l) H'
section
variable {P : Program} {w : World} {K : PySem.W.Frag} {mg : Str → Option Value} {base : Heap}
theorem scMoreL : FnScope ["self", "order"] ["self"] (defScope s_Lister_how_many_more) := ⟨rfl, rfl, rfl, by decide +kernel, rfl, by decide +kernel, by decide +kernel⟩
set_option maxHeartbeats 2000000 in
theorem ok_moreL {C_Lister fI f f1 f2 f3 Pt : Addr} {fd d1 d2 d3 : FuncData} {k c0 : Nat} {tk : Tok} (T : Dm K C_Lister "how_many_more" "Lister.how_many_more" s_Lister_how_many_more ["self"] f fd) (T_Lister : TxL K mg C_Lister fI) (T_check_few : Df K mg "check_few" s_check_few ["n", "most"] f1 d1) (G_check_few : FnOk P w K mg base CX0 k f1 d1 ["n", "most"] spFew) (T_all_orders : Df K mg "all_orders" s_all_orders ["n"] f2 d2) (G_all_orders : FnOk P w K mg base CX0 k f2 d2 ["n"] spAllO)
    (T_is_far : DfC K mg "is_far" s_is_far ["way", "d", "order", "others"] f3 d3 c0) (G_is_far : FnOk P w K mg base CX0 k f3 d3 ["way", "d", "order", "others"] (spIsFar Pt)) (B : Bi mg) (mL : mg "MOST_LISTED" = some (.int 6 tk)) : FnOk P w K mg base CX0 (k + 1) f fd ["self"] (spMoreL C_Lister Pt) := by
  refine T.F.ok scMoreL (fun vs H Q E h => ?_) (fun cdv A outer s H vs Q E hr h => ?_)
  · obtain ⟨a, e, X, w, n, d, rs, ss, rfl, _⟩ := h
    rfl
  · obtain ⟨a, e, X, w, n, d, rs, ss, rfl, L, hn6, ht, q⟩ := h
    refine ⟨_, 
      (pss_cons (ps_expr (pe_call G_check_few hr (by rfl) T_check_few.g T_check_few.F.kp T_check_few.b .nil pass0 (pa_cons (pe_fld (pv 0) rfl) (pa_cons (pe_glob (v := .int 6) (by rfl) mL ⟨_, rfl⟩) pa_nil))))
      (pss_one (ps_ret (pe_callB call_len_seq (by rfl) B.len PySem.boot_len (pa_cons (pe_lc (own := [("order", 1)]) (g := (gName 1)) (tt := (tB (tCall (spIsFar Pt) [] E0 (tCons (tFld K (tVar 0) "way") (tCons (tFld K (tVar 0) "d") (tCons (tVar 1) (tCons (tFld K (tVar 0) "taken") tNil))))))) (te := (tVar 1)) rfl scMoreL.nd (pi_list (pe_call G_all_orders hr (by rfl) T_all_orders.g T_all_orders.F.kp T_all_orders.b .nil pass0 (pa_cons (pe_fld (pv 0) rfl) pa_nil))) (blkOk_by (N := ["self", "order"]) (sc := defScope s_Lister_how_many_more) (by decide +kernel)) (fun _ _ _ _ _ => (pg_name (i := 1) scMoreL.nd rfl (.inl rfl))) (fun _ _ _ _ _ => (pts_one (pt_val (pe_call G_is_far hr (by rfl) T_is_far.g T_is_far.F.kp T_is_far.b .nil pass0 (pa_cons (pe_fld (pv 0) rfl) (pa_cons (pe_fld (pv 0) rfl) (pa_cons (pv 1) (pa_cons (pe_fld (pv 0) rfl) pa_nil)))))))) (fun _ _ _ _ _ => (pv 1))) pa_nil))))), ?_⟩
    obtain ⟨dx, t, ps, st, ha, he, htk, ert, _⟩ := L.ex
    refine ⟨_, rfl, a, _, dx, _, _, rfl, ha, T_Lister.cl, T_Lister.nN, fl_n, (n : Int), 6, rfl, by omega, ?_⟩
    refine ⟨_, rfl, a, _, dx, _, _, rfl, ha, T_Lister.cl, T_Lister.nN, fl_n, n, rfl, L.n1, hn6, fun r as H2 nr hr2 hLL hfr hnd s2 => ?_⟩
    refine ⟨r, rfl, ⟨_, SqL.of hr2⟩, fun D nD => ?_⟩
    have hlen := hLL.len
    have hal := allK_len (Nat.le_trans hn6 (by decide)) n (Nat.le_refl _)
    have L2 := L.same s2
    have ht2 := (KeepT.of_same s2).tab ht
    have hp6 := pow6 hn6
    refine lc_list (K := K) (a := r) (xs := as.map V.ref) (fun i H3 => ∃ ys : List V, H3 D = some (.lst ys) ∧ ys.length = (((allK n n).take i).filter fun o => farAll w d o rs).length ∧ KeepT H2 H3) ⟨[], upd_same, rfl, KeepT.of_same (same_new nD)⟩ (fun i H3 _ hP => by obtain ⟨_, _, _, k3⟩ := hP; exact SqL.of (k3.lst hr2)) (fun i x H3 hx hP => ?_) (fun H3 hP => ?_)
    · obtain ⟨ys, hD3, el, k3⟩ := hP
      obtain ⟨c, ec, rfl⟩ := ref_at_inv hx
      obtain ⟨row, erow, hrow⟩ := hLL.get ec
      have L3 := L2.keepT k3
      obtain ⟨dx3, t3, ps3, st3, ha3, he3, ht3, ert3, _⟩ := L3.ex
      refine ⟨rfl, _, rfl, a, _, dx3, _, _, rfl, ha3, T_Lister.cl, T_Lister.nW, fl_w, ?_⟩
      refine ⟨_, rfl, a, _, dx3, _, _, rfl, ha3, T_Lister.cl, T_Lister.nD, fl_d, _, rfl, ?_⟩
      refine ⟨_, rfl, a, _, dx3, _, _, rfl, ha3, T_Lister.cl, T_Lister.nT, fl_t, ?_⟩
      have hn8 := L.n2
      refine ⟨w, d, c, t3, n, row, ps3.map (·.1), rs, rfl, L.wy, k3.lst hrow, all_ord (List.mem_of_getElem? erow), L.n1, by omega, ht3.two.1, by rw [← ert3]; exact ht3.two.2, L.ord, k3.tab ht2, fun H4 k4 => ?_⟩
      have k34 := k3.trans k4
      refine ⟨_, rfl, ?_⟩
      cases hb : farAll w d row rs with
      | true =>
        refine iteT ⟨_, rfl, _, k4.lst hD3, ?_, _, upd_same, ?_, ?_⟩
        · have h1 := List.length_filter_le (fun o => farAll w d o rs) ((allK n n).take i)
          rw [List.length_take] at h1
          exact line_lt (by omega)
        · rw [filter_p _ erow, if_pos hb, List.length_append, List.length_append, el]
          rfl
        · exact ⟨fun b o e f => by rw [upd_ne (ne_of_none e nD)]; exact k34.1 b o e f, fun b qq e => by rw [upd_ne (ne_of_none e nD)]; exact k34.2 b qq e⟩
      | false =>
        refine iteF ⟨ys, k4.lst hD3, ?_, k34⟩
        rw [filter_p _ erow, if_neg (by rw [hb]; decide), List.append_nil]
        exact el
    · obtain ⟨ys, hD3, el, k3⟩ := hP
      rw [List.length_map, hlen, List.take_length] at el
      refine ⟨D, _, rfl, .inl (SqL.of hD3), ?_⟩
      rw [el]
      exact q H3 ((KeepT.of_same s2).trans k3)
theorem scFirstL : FnScope ["self", "order"] ["self"] (defScope s_Lister_first_more) := ⟨rfl, rfl, rfl, by decide +kernel, rfl, by decide +kernel, by decide +kernel⟩
set_option maxHeartbeats 2000000 in
theorem ok_firstL {C_Lister fI f f1 f2 f3 Pt : Addr} {fd d1 d2 d3 : FuncData} {k c0 : Nat} {tk : Tok} (T : Dm K C_Lister "first_more" "Lister.first_more" s_Lister_first_more ["self"] f fd) (T_Lister : TxL K mg C_Lister fI) (T_check_few : Df K mg "check_few" s_check_few ["n", "most"] f1 d1) (G_check_few : FnOk P w K mg base CX0 k f1 d1 ["n", "most"] spFew) (T_all_orders : Df K mg "all_orders" s_all_orders ["n"] f2 d2) (G_all_orders : FnOk P w K mg base CX0 k f2 d2 ["n"] spAllO)
    (T_is_far : DfC K mg "is_far" s_is_far ["way", "d", "order", "others"] f3 d3 c0) (G_is_far : FnOk P w K mg base CX0 k f3 d3 ["way", "d", "order", "others"] (spIsFar Pt)) (B : Bi mg) (mL : mg "MOST_LISTED" = some (.int 6 tk)) : FnOk P w K mg base CX0 (k + 1) f fd ["self"] (spFirstL C_Lister Pt) := by
  refine T.F.ok scFirstL (fun vs H Q E h => ?_) (fun cdv A outer s H vs Q E hr h => ?_)
  · obtain ⟨a, e, X, w, n, d, rs, ss, rfl, _⟩ := h
    rfl
  · obtain ⟨a, e, X, w, n, d, rs, ss, rfl, L, hn6, ht, q1, q2⟩ := h
    refine ⟨_, 
      (pss_cons (ps_expr (pe_call G_check_few hr (by rfl) T_check_few.g T_check_few.F.kp T_check_few.b .nil pass0 (pa_cons (pe_fld (pv 0) rfl) (pa_cons (pe_glob (v := .int 6) (by rfl) mL ⟨_, rfl⟩) pa_nil))))
      (pss_cons (ps_for PassesOwn.never rfl (pi_list (pe_call G_all_orders hr (by rfl) T_all_orders.g T_all_orders.F.kp T_all_orders.b .nil pass0 (pa_cons (pe_fld (pv 0) rfl) pa_nil))) (pg_name (i := 1) scFirstL.nd rfl (.inl rfl))
        (pss_one (ps_if (pt_val (pe_call G_is_far hr (by rfl) T_is_far.g T_is_far.F.kp T_is_far.b .nil pass0 (pa_cons (pe_fld (pv 0) rfl) (pa_cons (pe_fld (pv 0) rfl) (pa_cons (pv 1) (pa_cons (pe_fld (pv 0) rfl) pa_nil))))))
          (pss_one (ps_ret (pv 1)))
          pss_nil)))
      (pss_one (ps_ret pe_non)))), ?_⟩
    obtain ⟨dx, t, ps, st, ha, he, htk, ert, _⟩ := L.ex
    refine ⟨_, rfl, a, _, dx, _, _, rfl, ha, T_Lister.cl, T_Lister.nN, fl_n, (n : Int), 6, rfl, by omega, ?_⟩
    refine ⟨_, rfl, a, _, dx, _, _, rfl, ha, T_Lister.cl, T_Lister.nN, fl_n, n, rfl, L.n1, hn6, fun r as H2 nr hr2 hLL hfr hnd s2 => ?_⟩
    have hlen := hLL.len
    have L2 := L.same s2
    have ht2 := (KeepT.of_same s2).tab ht
    refine ⟨r, rfl, ⟨_, SqL.of hr2⟩, ?_⟩
    refine for_list (xs := as.map V.ref) (fun i σ H3 => ∃ (y1 : Option V), σ = [some (.ref a), y1] ∧ (((allK n n).take i).filter fun o => farAll w d o rs) = [] ∧ KeepT H2 H3) ⟨_, rfl, rfl, KeepT.refl _⟩ (fun i σ H3 _ hP => by obtain ⟨_, _, _, k3⟩ := hP; exact SqL.of (k3.lst hr2)) (fun i x σ H3 hx hP => ?_) (fun σ H3 hP => ?_)
    · obtain ⟨y1, rfl, el, k3⟩ := hP
      obtain ⟨c, ec, rfl⟩ := ref_at_inv hx
      obtain ⟨row, erow, hrow⟩ := hLL.get ec
      have hca : c ∈ as := List.mem_of_getElem? ec
      have L3 := L2.keepT k3
      obtain ⟨dx3, t3, ps3, st3, ha3, he3, ht3, ert3, _⟩ := L3.ex
      refine ⟨_, rfl, a, _, dx3, _, _, rfl, ha3, T_Lister.cl, T_Lister.nW, fl_w, ?_⟩
      refine ⟨_, rfl, a, _, dx3, _, _, rfl, ha3, T_Lister.cl, T_Lister.nD, fl_d, _, rfl, ?_⟩
      refine ⟨_, rfl, a, _, dx3, _, _, rfl, ha3, T_Lister.cl, T_Lister.nT, fl_t, ?_⟩
      have hn8 := L.n2
      refine ⟨w, d, c, t3, n, row, ps3.map (·.1), rs, rfl, L.wy, k3.lst hrow, all_ord (List.mem_of_getElem? erow), L.n1, by omega, ht3.two.1, by rw [← ert3]; exact ht3.two.2, L.ord, k3.tab ht2, fun H4 k4 => ?_⟩
      have k34 := k3.trans k4
      refine ⟨_, rfl, ?_⟩
      cases hb : farAll w d row rs with
      | true =>
        refine iteT ⟨_, rfl, ?_⟩
        obtain ⟨zs, ez⟩ : ∃ zs, freeL w n d rs = row :: zs := by
          refine ⟨((allK n n).drop (i + 1)).filter fun o => farAll w d o rs, ?_⟩
          unfold freeL
          have e1 := filter_p (fun o => farAll w d o rs) erow
          rw [if_pos hb, el] at e1
          rw [show (allK n n).filter (fun o => farAll w d o rs) = ((allK n n).take (i + 1) ++ (allK n n).drop (i + 1)).filter fun o => farAll w d o rs by rw [List.take_append_drop], List.filter_append, e1]
          rfl
        exact q2 row zs c H4 ez (hfr c hca).1 (k34.lst hrow) ((KeepT.of_same s2).trans k34)
      | false =>
        refine iteF ⟨_, rfl, ?_, k34⟩
        rw [filter_p _ erow, if_neg (by rw [hb]; decide), List.append_nil]
        exact el
    · obtain ⟨y1, rfl, el, k3⟩ := hP
      rw [List.length_map, hlen, List.take_length] at el
      exact q1 el H3 ((KeepT.of_same s2).trans k3)
end
end Fo
namespace Fo
open PySem PySem.Spec PyProof.Rows L2
section
variable {P : Program} {w : World} {K : PySem.W.Frag} {mg : Str → Option Value} {base : Heap}
theorem scLAll : FnScope ["n", "found", "turn", "longer", "row", "thing"] ["n"] (defScope s_law_all) := ⟨rfl, rfl, rfl, by decide +kernel, rfl, by decide +kernel, by decide +kernel⟩
set_option maxHeartbeats 4000000 in
theorem ok_law_all {f : Addr} {fd : FuncData} {k : Nat} (T : Df K mg "_law_all" s_law_all ["n"] f fd) (B : Bi mg) : FnOk P w K mg base CX0 (k + 1) f fd ["n"] spAllO := by
  refine T.F.ok scLAll (fun vs H Q E h => ?_) (fun cdv A outer s H vs Q E hr h => ?_)
  · obtain ⟨n, rfl, _⟩ := h
    rfl
  · obtain ⟨n, rfl, hn1, hn2, q⟩ := h
    refine ⟨_, 
      (pss_cons (ps_set (i := 1) scLAll.nd rfl (.inl rfl) (pe_lst (pa_cons (pe_lst pa_nil) pa_nil)))
      (pss_cons (ps_for PassesOwn.never rfl (pi_range1 (by rfl) B.range (pa_cons (pv 0) pa_nil)) (pg_name (i := 2) scLAll.nd rfl (.inl rfl))
        (pss_cons (ps_set (i := 3) scLAll.nd rfl (.inl rfl) (pe_lst pa_nil))
        (pss_cons (ps_for PassesOwn.never rfl (pi_list (pv 1)) (pg_name (i := 4) scLAll.nd rfl (.inr rfl))
          (pss_one (ps_expr (pe_bm PySem.F.plainAttrs_list PySem.F.slot_list_extend PySem.F.type_list_extend mt_extend (pv 3) (pa_cons (pe_lc (own := [("thing", 5)]) (g := (gName 5)) (tt := (tTest (tOp (rIn K true) (tVar 5) (tVar 4)))) (te := (tOp rCat (tVar 4) (tLst (tCons (tVar 5) tNil)))) rfl scLAll.nd (pi_range1 (by rfl) B.range (pa_cons (pv 0) pa_nil)) (blkOk_by (N := ["n", "found", "turn", "longer", "row", "thing"]) (sc := defScope s_law_all) (by decide +kernel)) (fun _ _ _ _ _ => (pg_name (i := 5) scLAll.nd rfl (.inl rfl))) (fun _ _ _ _ _ => (pts_one (pt_cmpR op_notIn_seq (pv 5) (pv 4) (by rfl)))) (fun _ _ _ _ _ => (pe_op op_cat (pv 4) (pe_lst (pa_cons (pv 5) pa_nil))))) pa_nil)))))
        (pss_one (ps_set (i := 1) scLAll.nd rfl (.inl rfl) (pv 3))))))
      (pss_one (ps_ret (pv 1))))), ?_⟩
    refine ⟨Nat.zero_le _, fun e0 ne0 => ⟨line_small (by show 1 ≤ 16777216; decide), fun bg nbg => ?_⟩⟩
    have s0 := same_new (o := .lst []) ne0
    have s1 := same_new (o := .lst [.ref e0]) nbg
    have nHbg : H bg = none := s0.free nbg
    have neb : e0 ≠ bg := ne_of_none upd_same nbg
    refine ⟨_, rfl, n, rfl, by omega, by omega, ?_⟩
    rw [Int.toNat_natCast]
    refine for_range (n := n) (fun i σ H3 => ∃ (bg : Addr) (y2 y3 y4 y5 : Option V) (as : List Addr), σ = [some (.int n), some (.ref bg), y2, y3, y4, y5] ∧ H bg = none ∧ H3 bg = some (.lst (as.map V.ref)) ∧ LL H3 as (allK n i) ∧ (∀ c ∈ as, H c = none ∧ c ≠ bg) ∧ as.Nodup ∧ Same H H3)
      ⟨bg, _, _, _, _, [e0], rfl, nHbg, upd_same, ⟨s1 _ _ upd_same, trivial⟩, fun c hc => by rw [List.mem_singleton.mp hc]; exact ⟨ne0, neb⟩, List.nodup_cons.mpr ⟨List.not_mem_nil, List.nodup_nil⟩, s0.trans s1⟩ (fun i σ H3 hi hP => ?_) (fun σ H3 hP => ?_)
    · obtain ⟨bg, y2, y3, y4, y5, as, rfl, nbg, hb3, hLL, hfr, hnd, sm⟩ := hP
      have hlen := hLL.len
      have hal := allK_len hn2 i (by omega)
      have hp6 := pow6 (show i ≤ 6 by omega)
      refine ⟨Nat.zero_le _, fun lg nlg => ?_⟩
      have nHlg : H lg = none := sm.free nlg
      have nbl : bg ≠ lg := ne_of_none hb3 nlg
      have slg := same_new (o := .lst []) nlg
      refine ⟨_, rfl, bg, rfl, ⟨_, SqL.of (slg _ _ hb3)⟩, ?_⟩
      refine for_list (xs := as.map V.ref) (fun m σ H4 => ∃ (y4 y5 : Option V) (cs : List Addr), σ = [some (.int n), some (.ref bg), some (.int (0 + (i : Int))), some (.ref lg), y4, y5] ∧ H4 lg = some (.lst (cs.map V.ref)) ∧ LL H4 cs (((allK n i).take m).flatMap (extO n)) ∧ (∀ c ∈ cs, H3 c = none ∧ c ≠ lg) ∧ cs.Nodup ∧ Same H3 H4)
        ⟨_, _, [], rfl, upd_same, trivial, fun c hc => absurd hc List.not_mem_nil, List.nodup_nil, slg⟩ (fun m σ H4 _ hP => by obtain ⟨_, _, _, _, _, _, _, _, s4⟩ := hP; exact SqL.of (s4 _ _ hb3)) (fun m x σ H4 hx hP => ?_) (fun σ H4 hP => ?_)
      · obtain ⟨z4, z5, cs, rfl, hlg4, hLc, hfc, hndc, s4⟩ := hP
        obtain ⟨r, er, rfl⟩ := ref_at_inv hx
        obtain ⟨row, erow, hrow⟩ := hLL.get er
        have hrl := (allK_row i row (List.mem_of_getElem? erow)).1
        have hrow4 := s4 _ _ hrow
        refine ⟨_, rfl, .inl ⟨rfl, _, SqL.of hlg4⟩, _, rfl, n, rfl, by omega, by omega, fun D nD => ?_⟩
        rw [Int.toNat_natCast]
        have nlD : lg ≠ D := ne_of_none hlg4 nD
        refine lc_range (lo := 0) (n := n) (fun j H5 => ∃ ds : List Addr, H5 D = some (.lst (ds.map V.ref)) ∧ LL H5 ds (((rg j).filter fun t => !decide (t ∈ row)).map fun t => row ++ [t]) ∧ (∀ c ∈ ds, H4 c = none ∧ c ≠ D) ∧ ds.Nodup ∧ Same H4 H5)
          ⟨[], upd_same, trivial, fun c hc => absurd hc List.not_mem_nil, List.nodup_nil, same_new nD⟩ (fun j H5 hj hP => ?_) (fun H5 hP => ?_)
        · obtain ⟨ds, hD5, hL5, hf5, hnd5, s5⟩ := hP
          have hrow5 := s5 _ _ hrow4
          refine ⟨rfl, _, rfl, _, rfl, r, _, rfl, .inl (SqL.of hrow5), rfl, flat_ints row, _, rfl, ?_⟩
          show if (!inV (.int (0 + (j : Int))) (row.map V.int)) = true then _ else _
          rw [inV_int, Int.zero_add]
          have em := ext_more (n := n) (o := row) j
          by_cases c : (j : Int) ∈ row
          · rw [decide_eq_true c]
            refine iteF ⟨ds, hD5, ?_, hf5, hnd5, s5⟩
            rw [em, if_pos c, List.append_nil]
            exact hL5
          · rw [decide_eq_false c]
            refine iteT ⟨_, rfl, _, rfl, line_small (by show 1 ≤ 16777216; decide), fun p np => ?_⟩
            have sp1 := same_new (o := .lst [.int (j : Int)]) np
            refine ⟨r, p, _, _, rfl, rfl, sp1 _ _ hrow5, upd_same, line_small (by rw [List.length_map, hrl]; show _ + 1 ≤ _; omega), fun z nz => ?_⟩
            have sp2 := same_new (o := .lst (row.map V.int ++ [.int (j : Int)])) nz
            have nzD : z ≠ D := (ne_of_none (sp1 _ _ hD5) nz).symm
            have hl5 := hL5.len
            have hcount : ds.length ≤ j := by
              rw [hl5, List.length_map]
              have a2 := List.length_filter_le (fun t => !decide (t ∈ row)) (rg j)
              rw [rg_len] at a2
              exact a2
            refine ⟨_, sp2 _ _ (sp1 _ _ hD5), line_lt (by rw [List.length_map]; omega), ds ++ [z], by rw [upd_same, List.map_append]; rfl, ?_, fun c hc => ?_, ?_, fun u ob e => ?_⟩
            · rw [em, if_neg c]
              refine LL.snoc (((hL5.same sp1).same sp2).keep fun u hu ob e => by rw [upd_ne (hf5 u hu).2]; exact e) ?_
              rw [upd_ne nzD, upd_same, List.map_append]
              rfl
            · rcases List.mem_append.mp hc with hc | hc
              · exact hf5 c hc
              · rw [List.mem_singleton.mp hc]
                exact ⟨(s5.trans sp1).free nz, nzD⟩
            · rw [List.nodup_append]
              refine ⟨hnd5, List.nodup_cons.mpr ⟨List.not_mem_nil, List.nodup_nil⟩, fun x hx y hy e => ?_⟩
              rw [List.mem_singleton.mp hy] at e
              obtain ⟨ob, eo⟩ := hL5.tracked hx
              rw [e] at eo
              have := sp1 _ _ eo
              rw [nz] at this
              cases this
            · rw [upd_ne (ne_of_none e nD)]
              exact sp2 _ _ (sp1 _ _ (s5 _ _ e))
        · obtain ⟨ds, hD5, hL5, hf5, hnd5, s5⟩ := hP
          have hlg5 := s5 _ _ hlg4
          have hcl := hLc.len
          have hdl := hL5.len
          have hext : ds.length ≤ n := by
            rw [hdl]
            exact extO_len n row
          have hcn : cs.length ≤ 46656 * 6 := by
            rw [hcl]
            refine Nat.le_trans (flat_len n _) (Nat.mul_le_mul ?_ hn2)
            rw [List.length_take]
            omega
          refine ⟨lg, D, _, _, rfl, rfl, hlg5, hD5, line_small (by rw [List.length_map, List.length_map]; omega), ?_⟩
          refine ⟨_, _, cs ++ ds, rfl, by rw [upd_same, List.map_append], ?_, fun c hc => ?_, ?_, fun u ob e => ?_⟩
          · rw [List.take_add_one, erow, List.flatMap_append]
            show LL _ _ (_ ++ (extO n row ++ []))
            rw [List.append_nil]
            refine extend_LL ((hLc.same s5).keep fun u hu ob e => by rw [upd_ne (hfc u hu).2]; exact e) (hL5.keep fun u hu ob e => ?_)
            rw [upd_ne (show u ≠ lg from fun z => by have := (hf5 u hu).1; rw [z, hlg4] at this; cases this)]
            exact e
          · rcases List.mem_append.mp hc with hc | hc
            · exact hfc c hc
            · exact ⟨s4.free (hf5 c hc).1, fun z => by have := (hf5 c hc).1; rw [z, hlg4] at this; cases this⟩
          · rw [List.nodup_append]
            refine ⟨hndc, hnd5, fun x hx y hy e => ?_⟩
            subst e
            obtain ⟨ob, eo⟩ := hLc.tracked hx
            rw [(hf5 x hy).1] at eo
            cases eo
          · rw [upd_ne (ne_of_none e nlg)]
            exact s5 _ _ (s4 _ _ e)
      · obtain ⟨z4, z5, cs, rfl, hlg4, hLc, hfc, hndc, s4⟩ := hP
        rw [List.length_map, hlen, List.take_length] at hLc
        exact ⟨_, rfl, lg, _, _, _, _, cs, rfl, nHlg, hlg4, hLc, fun c hc => ⟨sm.free (hfc c hc).1, (hfc c hc).2⟩, hndc, sm.trans s4⟩
    · obtain ⟨bg, y2, y3, y4, y5, as, rfl, nbg, hb3, hLL, hfr, hnd, sm⟩ := hP
      exact ⟨_, rfl, q bg as H3 nbg hb3 hLL hfr hnd sm⟩
end
end Fo
namespace Fo
open PySem PySem.Spec PyProof.Rows L2
/-! ### how many orders are how far -/
/-- one less than n reaches all -/
theorem shD_last {n : Nat} (h : 1 ≤ n) : ∀ p, p ≤ n → shD n ((n : Nat) : Int) p = shD n (((n - 1 : Nat)) : Int) p
  | 0, _ => rfl
  | p + 1, hp => by
    rw [shD, shD, shD_last h p (by omega)]
    have e1 : loP p ((n : Nat) : Int) = loP p (((n - 1 : Nat)) : Int) := by unfold loP; omega
    have e2 : ctP n p ((n : Nat) : Int) = ctP n p (((n - 1 : Nat)) : Int) := by unfold ctP; rw [e1]; omega
    rw [e1, e2]
theorem shN_last {n : Nat} (h : 1 ≤ n) : shN n ((n : Nat) : Int) = shN n (((n - 1 : Nat)) : Int) := by
  unfold shN
  rw [shD_last h n (Nat.le_refl _)]
/-- how far an order is from 0, 1, .. -/
def fW (w : Str) (s : List Int) : Nat := if w = "swap" then invR s else if w = "spot" then ((rg s.length).filter fun p => !decide (p = g0 s p)).length else (maxL ((rg s.length).map fun p => absI (p - g0 s p))).toNat
theorem farW_seats {w : Str} {n : Nat} {xs o : List Int} (ox : IsOrd n xs) (oo : IsOrd n o) (hn : 1 ≤ n) : farW w xs o = ((fW w (seatsL o xs) : Nat) : Int) := by
  rw [← farW_turn ox oo hn]
  have os := seats_ord oo ox
  unfold farW fW
  split
  · unfold farSwap
    rw [inv_NR]
  · split
    · unfold farSpot spotL
      rw [oo.len, os.len]
      congr 2
      apply List.filter_congr
      intro p hp
      rw [g0_seats oo hp]
      congr 1
      by_cases c : g0 o p = g0 xs p
      · rw [decide_eq_true c, c, pos_g0 ox hp, decide_eq_true rfl]
      · rw [decide_eq_false c, decide_eq_false (fun e => c (by rw [e, g0_pos ox (g0_in oo hp), ← e]))]
    · have nn : 0 ≤ maxL (gapsL o xs) := by
        obtain ⟨h1, _⟩ := maxL_mem (gaps_nonneg o xs) (by rw [gaps_len, oo.len]; exact hn)
        exact gaps_nonneg o xs _ h1
      unfold farShift
      have e : gapsL o xs = (rg (seatsL o xs).length).map fun p => absI (p - g0 (seatsL o xs) p) := by
        unfold gapsL
        rw [seats_len]
      rw [← e]
      omega
theorem count_seats {w : Str} {n : Nat} {xs : List Int} (ox : IsOrd n xs) (hn : 1 ≤ n) (p : Int → Bool) : ((allK n n).filter fun o => p (farW w xs o)).length = (((allK n n).map (fW w)).filter fun v => p ((v : Nat) : Int)).length := by
  have h1 : ((allK n n).filter fun o => p (farW w xs o)) = (allK n n).filter fun o => p ((fW w (seatsL o xs) : Nat) : Int) := by
    apply List.filter_congr
    intro o ho
    rw [farW_seats ox (all_ord ho) hn]
  have h2 := ((seats_all ox).map (fW w)).filter (fun v => p ((v : Nat) : Int))
  have h3 := h2.length_eq
  rw [h1, ← h3, List.map_map, List.filter_map, List.length_map]
  rfl
/-! counts by a list of how many -/
def histN (L : List Nat) (m : Nat) : List Int := L.foldl (fun acc v => addAt acc v 1) (List.replicate m 0)
theorem sum_addAt : ∀ (l : List Int) (v k : Nat), v < l.length → ((addAt l v 1).take k).sum = (l.take k).sum + if v < k then 1 else 0
  | [], v, k, h => absurd h (Nat.not_lt_zero _)
  | a :: l, 0, 0, _ => rfl
  | a :: l, 0, k + 1, _ => by
    show a + 1 + (l.take k).sum = a + (l.take k).sum + if 0 < k + 1 then 1 else 0
    rw [if_pos (by omega)]
    omega
  | a :: l, v + 1, 0, _ => rfl
  | a :: l, v + 1, k + 1, h => by
    have ih := sum_addAt l v k (by simpa using h)
    show a + ((addAt l v 1).take k).sum = a + (l.take k).sum + if v + 1 < k + 1 then 1 else 0
    rw [ih]
    by_cases c : v < k
    · rw [if_pos c, if_pos (by omega)]; omega
    · rw [if_neg c, if_neg (by omega)]; omega
theorem hist_fold (k : Nat) : ∀ (L : List Nat) (acc : List Int), (∀ v ∈ L, v < acc.length) → ((L.foldl (fun acc v => addAt acc v 1) acc).take k).sum = (acc.take k).sum + (((L.filter fun v => decide (v < k)).length : Nat) : Int)
  | [], acc, _ => by show _ = _ + 0; rw [Int.add_zero]; rfl
  | v :: L, acc, h => by
    have ih := hist_fold k L (addAt acc v 1) fun u hu => by rw [addAt_len]; exact h u (List.mem_cons_of_mem _ hu)
    rw [List.foldl_cons, ih, sum_addAt acc v k (h v List.mem_cons_self), List.filter_cons]
    by_cases c : v < k
    · rw [decide_eq_true c, if_pos c, if_pos rfl, List.length_cons]
      omega
    · rw [decide_eq_false c, if_neg c, if_neg (by decide)]
      omega
theorem hist_sum {L : List Nat} {m : Nat} (h : ∀ v ∈ L, v < m) (k : Nat) : ((histN L m).take k).sum = (((L.filter fun v => decide (v < k)).length : Nat) : Int) := by
  unfold histN
  rw [hist_fold k L _ (by rw [List.length_replicate]; exact h)]
  have z : ∀ j : Nat, ((List.replicate j (0 : Int)).take k).sum = 0 := by
    intro j
    rw [List.take_replicate]
    generalize min k j = i
    induction i with
    | zero => rfl
    | succ i ih => rw [List.replicate_succ, List.sum_cons, ih]; rfl
  rw [z]
  omega
def Ls (n : Nat) : List Nat := (allK n n).map (fW "swap")
def Lp (n : Nat) : List Nat := (allK n n).map (fW "spot")
def Lf (n : Nat) : List Nat := (allK n n).map (fW "shift")
def chk (L : List Nat) (c : List Int) : Bool := L.all (fun v => decide (v < c.length)) && decide (histN L c.length = c)
theorem chk_s : ∀ n : Nat, n < 7 → 1 ≤ n → chk (Ls n) (swC (n - 1)) = true := by decide +kernel
theorem chk_p : ∀ n : Nat, n < 7 → 1 ≤ n → chk (Lp n) (spC n) = true := by decide +kernel
theorem chk_f : ∀ n : Nat, n < 7 → 1 ≤ n → ((Lf n).all (fun v => decide (v < n)) && decide ((List.range n).map (fun r => ((histN (Lf n) n).take (r + 1)).sum) = (List.range n).map fun r => shN n ((r : Nat) : Int))) = true := by decide +kernel
theorem le_lt {L : List Nat} {r : Int} (hr : 0 ≤ r) : (L.filter fun v => decide (((v : Nat) : Int) ≤ r)) = L.filter fun v => decide (v < (r + 1).toNat) := by
  apply List.filter_congr
  intro v _
  by_cases c : ((v : Nat) : Int) ≤ r
  · rw [decide_eq_true c, decide_eq_true (by omega)]
  · rw [decide_eq_false c, decide_eq_false (by omega)]
/-- as many orders of few things are within r as are counted -/
theorem count_in {w : Str} {n : Nat} {xs : List Int} {r : Int} (hw : IsWay w) (ox : IsOrd n xs) (h1 : 1 ≤ n) (h2 : n ≤ 6) (hr : 0 ≤ r) : ((((allK n n).filter fun o => decide (farW w xs o ≤ r)).length : Nat) : Int) = inW w n r := by
  rw [count_seats (p := fun v => decide (v ≤ r)) ox h1, le_lt hr]
  rcases hw with rfl | rfl | rfl
  · have c := chk_s n (by omega) h1
    unfold chk at c
    rw [Bool.and_eq_true] at c
    have c1 : ∀ v ∈ Ls n, v < (swC (n - 1)).length := fun v hv => of_decide_eq_true (List.all_eq_true.mp c.1 v hv)
    have c2 := of_decide_eq_true c.2
    have := hist_sum c1 (r + 1).toNat
    rw [c2] at this
    rw [inW_swap, this]
    rfl
  · have c := chk_p n (by omega) h1
    unfold chk at c
    rw [Bool.and_eq_true] at c
    have c1 : ∀ v ∈ Lp n, v < (spC n).length := fun v hv => of_decide_eq_true (List.all_eq_true.mp c.1 v hv)
    have c2 := of_decide_eq_true c.2
    have := hist_sum c1 (r + 1).toNat
    rw [c2] at this
    rw [inW_spot, this]
    rfl
  · have c := chk_f n (by omega) h1
    rw [Bool.and_eq_true] at c
    have c1 : ∀ v ∈ Lf n, v < n := fun v hv => of_decide_eq_true (List.all_eq_true.mp c.1 v hv)
    have c2 := of_decide_eq_true c.2
    have at' : ∀ j : Nat, j < n → ((histN (Lf n) n).take (j + 1)).sum = shN n ((j : Nat) : Int) := fun j hj => by
      have e := congrArg (fun l => l[j]?) c2
      simp only [List.getElem?_map, List.getElem?_range hj, Option.map_some] at e
      exact Option.some.inj e
    rw [inW_shift]
    show (((Lf n).filter fun v => decide (v < (r + 1).toNat)).length : Int) = _
    by_cases d : r < n
    · obtain ⟨j, rfl⟩ : ∃ j : Nat, r = (j : Int) := ⟨r.toNat, by omega⟩
      rw [← at' j (by omega), hist_sum c1, show ((j : Int) + 1).toNat = j + 1 by omega]
    · have hlen : (histN (Lf n) n).take (r + 1).toNat = (histN (Lf n) n).take (n - 1 + 1) := by
        have hl : (histN (Lf n) n).length = n := by
          unfold histN
          have : ∀ (L : List Nat) (acc : List Int), (L.foldl (fun acc v => addAt acc v 1) acc).length = acc.length := by
            intro L
            induction L with
            | nil => intro acc; rfl
            | cons v L ih => intro acc; rw [List.foldl_cons, ih, addAt_len]
          rw [this, List.length_replicate]
        rw [List.take_of_length_le (by omega), List.take_of_length_le (by omega)]
      rw [← hist_sum c1, hlen, at' (n - 1) (by omega), ← shN_far (r := r)]
      rw [show min (n : Int) r = (n : Int) by omega, shN_last (by omega)]
end Fo
namespace Fo
open PySem PySem.Spec PyProof.Rows L2
section
variable {P : Program} {w : World} {K : PySem.W.Frag} {mg : Str → Option Value} {base : Heap}
theorem scFac : FnScope ["n", "many", "things"] ["n"] (defScope s_count_orders) := ⟨rfl, rfl, rfl, by decide +kernel, rfl, by decide +kernel, by decide +kernel⟩
theorem ok_fac {f : Addr} {fd : FuncData} {k : Nat} (T : Df K mg "count_orders" s_count_orders ["n"] f fd) (B : Bi mg) : FnOk P w K mg base CX0 (k + 1) f fd ["n"] spFac := by
  refine T.F.ok scFac (fun vs H Q E h => ?_) (fun cdv A outer s H vs Q E hr h => ?_)
  · obtain ⟨n, rfl, _⟩ := h
    rfl
  · obtain ⟨n, rfl, hn, q⟩ := h
    refine ⟨_, 
      (pss_cons (ps_set (i := 1) scFac.nd rfl (.inl rfl) pe_int)
      (pss_cons (ps_for PassesOwn.never rfl (pi_range2 (by rfl) B.range (pa_cons pe_int (pa_cons (pe_op op_add (pv 0) pe_int) pa_nil))) (pg_name (i := 2) scFac.nd rfl (.inl rfl))
        (pss_one (ps_aug (i := 1) scFac.nd rfl (.inl rfl) (pv 2) iop_mul)))
      (pss_one (ps_ret (pv 1))))), ?_⟩
    refine ⟨_, rfl, (n : Int), 1, rfl, rfl, 1, _, rfl, ⟨by omega, by omega, by omega, by omega⟩, ?_⟩
    rw [show ((n : Int) + 1 - 1).toNat = n by omega]
    refine for_range (lo := 1) (n := n) (fun i σ H1 => ∃ y2 : Option V, σ = [some (.int n), some (.int (facN i)), y2] ∧ H1 = H) ⟨_, rfl, rfl⟩ (fun i σ H1 hi hW => ?_) (fun σ H1 hW => ?_)
    · obtain ⟨y2, rfl, rfl⟩ := hW
      have hf := fac_small i (by omega)
      refine ⟨_, rfl, _, rfl, _, _, rfl, rfl, .inl ⟨by omega, by omega⟩, some (.int (1 + (i : Int))), ?_, rfl⟩
      show [some (V.int (n : Int)), some (V.int (facN i * (1 + (i : Int)))), some (V.int (1 + (i : Int)))] = _
      rw [Int.add_comm 1 (i : Int)]
      rfl
    · obtain ⟨y2, rfl, rfl⟩ := hW
      exact ⟨_, rfl, q⟩
end
end Fo
namespace Fo
open PySem PySem.Spec PyProof.Rows L2
def leastB (w : Str) (n : Nat) (d : Int) : Int := (facN n + inW w n (d - 1) - 1) / inW w n (d - 1)
def mostB (w : Str) (n : Nat) (d : Int) : Int := facN n / inW w n ((d - 1) / 2)
def spBounds : Sp := fun vs H Q _ => ∃ (w : Str) (n : Nat) (d : Int), vs = [.str w, .int n, .int d] ∧ IsWay w ∧ 1 ≤ n ∧ n ≤ 12 ∧ 1 ≤ d ∧ ∀ (t : Addr) (H' : Hp), H t = none → H' t = some (.tup [.int (leastB w n d), .int (mostB w n d)]) → Same H H' → Q (.ref t) H'
theorem wide_in {w : Str} {n : Nat} {r i : Int} (hw : IsWay w) (h1 : 1 ≤ n) (h2 : n ≤ 12) (hr : 0 ≤ r) : CDivW i (inW w n r) := by
  obtain ⟨a, b⟩ := inW_good hw h1 h2 hr
  have e : (2 : Nat) ^ 44 = 17592186044416 := by decide
  exact wide_div (b := 44) (by omega) (by omega) (by decide) (by decide)
section
variable {P : Program} {w : World} {K : PySem.W.Frag} {mg : Str → Option Value} {base : Heap}
theorem scBounds : FnScope ["way", "n", "d", "orders", "most", "wide", "least"] ["way", "n", "d"] (defScope s_bounds_by_rounds) := ⟨rfl, rfl, rfl, by decide +kernel, rfl, by decide +kernel, by decide +kernel⟩
theorem ok_bounds {f f1 f2 f3 : Addr} {fd d1 d2 d3 : FuncData} {k : Nat} {tk : Tok} (T : Df K mg "bounds_by_rounds" s_bounds_by_rounds ["way", "n", "d"] f fd) (T_check_apart : Df K mg "check_apart" s_check_apart ["way", "n", "most", "d"] f1 d1) (T_count_orders : Df K mg "count_orders" s_count_orders ["n"] f2 d2) (T_known_within : Df K mg "known_within" s_known_within ["way", "n", "r"] f3 d3)
    (G_check_apart : FnOk P w K mg base CX0 k f1 d1 ["way", "n", "most", "d"] spApart) (G_count_orders : FnOk P w K mg base CX0 k f2 d2 ["n"] spFac) (G_known_within : FnOk P w K mg base CX0 k f3 d3 ["way", "n", "r"] spKW) (B : Bi mg) (mM : mg "MOST_THINGS" = some (.int 12 tk)) : FnOk P w K mg base CX0 (k + 1) f fd ["way", "n", "d"] spBounds := by
  refine T.F.ok scBounds (fun vs H Q E h => ?_) (fun cdv A outer s H vs Q E hr h => ?_)
  · obtain ⟨wy, n, d, rfl, _⟩ := h
    rfl
  · obtain ⟨wy, n, d, rfl, hw, hn1, hn2, hd, q⟩ := h
    refine ⟨_, 
      (pss_cons (ps_expr (pe_call G_check_apart hr (by rfl) T_check_apart.g T_check_apart.F.kp T_check_apart.b .nil pass0 (pa_cons (pv 0) (pa_cons (pv 1) (pa_cons (pe_glob (v := .int 12) (by rfl) mM ⟨_, rfl⟩) (pa_cons (pv 2) pa_nil))))))
      (pss_cons (ps_set (i := 3) scBounds.nd rfl (.inl rfl) (pe_call G_count_orders hr (by rfl) T_count_orders.g T_count_orders.F.kp T_count_orders.b .nil pass0 (pa_cons (pv 1) pa_nil)))
      (pss_cons (ps_set (i := 4) scBounds.nd rfl (.inl rfl) (pe_op op_fdivW (pv 3) (pe_call G_known_within hr (by rfl) T_known_within.g T_known_within.F.kp T_known_within.b .nil pass0 (pa_cons (pv 0) (pa_cons (pv 1) (pa_cons (pe_op op_fdiv (pe_op op_sub (pv 2) pe_int) pe_int) pa_nil))))))
      (pss_cons (ps_set (i := 5) scBounds.nd rfl (.inl rfl) (pe_call G_known_within hr (by rfl) T_known_within.g T_known_within.F.kp T_known_within.b .nil pass0 (pa_cons (pv 0) (pa_cons (pv 1) (pa_cons (pe_op op_sub (pv 2) pe_int) pa_nil)))))
      (pss_cons (ps_set (i := 6) scBounds.nd rfl (.inl rfl) (pe_op op_fdivW (pe_op op_sub (pe_op op_add (pv 3) (pv 5)) pe_int) (pv 5)))
      (pss_one (ps_ret (pe_tup (pa_cons (pv 6) (pa_cons (pv 4) pa_nil)))))))))), ?_⟩
    refine ⟨_, rfl, _, rfl, _, rfl, wy, n, 12, d, rfl, hw, by omega, by omega, hd, ?_⟩
    refine ⟨_, rfl, n, rfl, hn2, ?_⟩
    have hd2 : 0 ≤ (d - 1) / 2 := by omega
    refine ⟨_, rfl, _, rfl, _, rfl, _, rfl, d, 1, rfl, rfl, _, 2, rfl, rfl, ⟨by decide, by decide⟩, wy, n, (d - 1) / 2, rfl, hw, hn1, hn2, hd2, fun H1 s1 => ?_⟩
    refine ⟨_, _, rfl, rfl, wide_in hw hn1 hn2 hd2, ?_⟩
    refine ⟨_, rfl, _, rfl, _, rfl, d, 1, rfl, rfl, wy, n, d - 1, rfl, hw, hn1, hn2, by omega, fun H2 s2 => ?_⟩
    refine ⟨_, rfl, _, rfl, _, _, rfl, rfl, _, 1, rfl, rfl, _, rfl, _, _, rfl, rfl, wide_in hw hn1 hn2 (by omega), ?_⟩
    refine ⟨_, rfl, _, rfl, line_small (by show 2 ≤ 16777216; decide), fun t nt => ?_⟩
    exact q t _ ((s1.trans s2).free nt) upd_same ((s1.trans s2).trans (same_new nt))
end
end Fo
namespace Fo
open PySem PySem.Spec PyProof.Rows L2
theorem farW_nonneg (w : Str) (xs ys : List Int) : 0 ≤ farW w xs ys := by
  unfold farW
  split
  · unfold farSwap; omega
  · split
    · unfold farSpot; omega
    · unfold farShift
      have : ∀ l : List Int, 0 ≤ maxL l := fun l => by
        induction l with
        | nil => exact Int.le_refl _
        | cons a l ih => show 0 ≤ max a (maxL l); omega
      exact this _
end Fo
namespace Fo
open PySem PySem.Spec PyProof.Rows L2
def stepF (w : Str) (d : Int) (acc : List (List Int)) (o : List Int) : List (List Int) := if farAll w d o acc = true then acc ++ [o] else acc
def firstL (w : Str) (d : Int) (os : List (List Int)) : List (List Int) := os.foldl (stepF w d) []
theorem firstL_more {w : Str} {d : Int} {os : List (List Int)} {i : Nat} {o : List Int} (h : os[i]? = some o) : firstL w d (os.take (i + 1)) = stepF w d (firstL w d (os.take i)) o := by
  unfold firstL
  rw [List.take_add_one, h, List.foldl_append]
  rfl
theorem firstL_snoc (w : Str) (d : Int) (os : List (List Int)) (o : List Int) : firstL w d (os ++ [o]) = stepF w d (firstL w d os) o := by
  unfold firstL
  rw [List.foldl_append]
  rfl
theorem firstL_sub (w : Str) (d : Int) (os : List (List Int)) : ∀ i, i ≤ os.length → (firstL w d (os.take i)).Sublist (os.take i)
  | 0, _ => by
    rw [List.take_zero]
    exact List.Sublist.refl _
  | i + 1, h => by
    have ih := firstL_sub w d os i (by omega)
    have e : os[i]? = some os[i] := List.getElem?_eq_getElem h
    rw [firstL_more e, List.take_add_one, e]
    unfold stepF
    split
    · exact ih.append (List.Sublist.refl _)
    · exact ih.trans (List.sublist_append_left _ _)
theorem firstL_subset (w : Str) (d : Int) (os : List (List Int)) {o : List Int} (h : o ∈ firstL w d os) : o ∈ os := by
  have z := firstL_sub w d os os.length (Nat.le_refl _)
  rw [List.take_length] at z
  exact z.subset h
theorem first_one {w : Str} {n : Nat} (hw : IsWay w) (hn : 1 ≤ n) (os : List (List Int)) (ho : ∀ o ∈ os, IsOrd n o) (hnd : os.Nodup) : firstL w 1 os = os := by
  have key : ∀ i, i ≤ os.length → firstL w 1 (os.take i) = os.take i := by
    intro i
    induction i with
    | zero =>
      intro _
      rw [List.take_zero]
      rfl
    | succ i ih =>
      intro h
      have e : os[i]? = some os[i] := List.getElem?_eq_getElem h
      rw [firstL_more e, ih (by omega), List.take_add_one, e]
      unfold stepF
      rw [if_pos]
      · rfl
      unfold farAll
      rw [List.all_eq_true]
      intro r hr
      apply decide_eq_true
      have h0 := farW_nonneg w os[i] r
      have hne : farW w os[i] r ≠ 0 := fun z => by
        have e2 := farW_zero hw (ho _ (List.getElem_mem h)) (ho _ (List.mem_of_mem_take hr)) hn z
        obtain ⟨j, hj⟩ := List.mem_iff_getElem?.mp hr
        rw [List.getElem?_take] at hj
        split at hj
        · rename_i hlt
          rw [← e2] at hj
          have := (List.getElem?_inj (l := os) (i := j) (j := i) (by omega) hnd).mp (hj.trans e.symm)
          omega
        · cases hj
      omega
  have z := key os.length (Nat.le_refl _)
  rw [List.take_length] at z
  exact z
theorem far_none {w : Str} {d : Int} {xs : List Int} {rs : List (List Int)} : (rs.filter (fun o => decide (farW w xs o < d)) = []) ↔ farAll w d xs rs = true := by
  unfold farAll
  rw [List.filter_eq_nil_iff, List.all_eq_true]
  constructor
  · intro h r hr
    have z := h r hr
    apply decide_eq_true
    have : ¬ farW w xs r < d := fun q => z (decide_eq_true q)
    omega
  · intro h r hr q
    have z := of_decide_eq_true (h r hr)
    have q' := of_decide_eq_true q
    omega
def spFirst (Pt : Addr) : Sp := fun vs H Q _ => ∃ (w : Str) (n : Nat) (d : Int), vs = [.str w, .int n, .int d] ∧ IsWay w ∧ 1 ≤ n ∧ n ≤ 6 ∧ 1 ≤ d ∧ GxR.TabG H Pt ∧
  ∀ (l : Addr) (as : List Addr) (H' : Hp), H l = none → H' l = some (.lst (as.map V.ref)) → LL H' as (firstL w d (allK n n)) → (∀ a ∈ as, H a = none ∧ a ≠ l) → as.Nodup → KeepT H H' → Q (.ref l) H'
def spLFirst : Sp := fun vs H Q _ => ∃ (w : Str) (n : Nat) (d : Int), vs = [.str w, .int n, .int d] ∧ IsWay w ∧ 1 ≤ n ∧ n ≤ 6 ∧ 1 ≤ d ∧
  ∀ (l : Addr) (as : List Addr) (H' : Hp), H l = none → H' l = some (.lst (as.map V.ref)) → LL H' as (firstL w d (allK n n)) → (∀ a ∈ as, H a = none ∧ a ≠ l) → as.Nodup → Same H H' → Q (.ref l) H'
section
variable {P : Program} {w : World} {K : PySem.W.Frag} {mg : Str → Option Value} {base : Heap}
theorem scFirst : FnScope ["way", "n", "d", "taken", "order"] ["way", "n", "d"] (defScope s_first_apart) := ⟨rfl, rfl, rfl, by decide +kernel, rfl, by decide +kernel, by decide +kernel⟩
set_option maxHeartbeats 2000000 in
theorem ok_first {f f1 f2 f3 Pt : Addr} {fd d1 d2 d3 : FuncData} {k c0 : Nat} {tk : Tok} (T : Df K mg "first_apart" s_first_apart ["way", "n", "d"] f fd) (T_check_apart : Df K mg "check_apart" s_check_apart ["way", "n", "most", "d"] f1 d1) (T_all_orders : Df K mg "all_orders" s_all_orders ["n"] f2 d2) (T_is_far : DfC K mg "is_far" s_is_far ["way", "d", "order", "others"] f3 d3 c0)
    (G_check_apart : FnOk P w K mg base CX0 k f1 d1 ["way", "n", "most", "d"] spApart) (G_all_orders : FnOk P w K mg base CX0 k f2 d2 ["n"] spAllO) (G_is_far : FnOk P w K mg base CX0 k f3 d3 ["way", "d", "order", "others"] (spIsFar Pt)) (B : Bi mg) (mL : mg "MOST_LISTED" = some (.int 6 tk)) :
    FnOk P w K mg base CX0 (k + 1) f fd ["way", "n", "d"] (spFirst Pt) := by
  refine T.F.ok scFirst (fun vs H Q E h => ?_) (fun cdv A outer s H vs Q E hr h => ?_)
  · obtain ⟨z, n, d, rfl, _⟩ := h
    rfl
  · obtain ⟨z, n, d, rfl, hz, hn1, hn2, hd, ht, q⟩ := h
    refine ⟨_, 
      (pss_cons (ps_expr (pe_call G_check_apart hr (by rfl) T_check_apart.g T_check_apart.F.kp T_check_apart.b .nil pass0 (pa_cons (pv 0) (pa_cons (pv 1) (pa_cons (pe_glob (v := .int 6) (by rfl) mL ⟨_, rfl⟩) (pa_cons (pv 2) pa_nil))))))
      (pss_cons (ps_set (i := 3) scFirst.nd rfl (.inl rfl) (pe_lst pa_nil))
      (pss_cons (ps_for PassesOwn.never rfl (pi_list (pe_call G_all_orders hr (by rfl) T_all_orders.g T_all_orders.F.kp T_all_orders.b .nil pass0 (pa_cons (pv 1) pa_nil))) (pg_name (i := 4) scFirst.nd rfl (.inl rfl))
        (pss_one (ps_if (pt_val (pe_call G_is_far hr (by rfl) T_is_far.g T_is_far.F.kp T_is_far.b .nil pass0 (pa_cons (pv 0) (pa_cons (pv 2) (pa_cons (pv 4) (pa_cons (pv 3) pa_nil))))))
          (pss_one (ps_expr (pe_bm PySem.F.plainAttrs_list PySem.F.slot_list_append PySem.F.type_list_append mt_append (pv 3) (pa_cons (pv 4) pa_nil))))
          pss_nil)))
      (pss_one (ps_ret (pv 3)))))), ?_⟩
    refine ⟨_, rfl, _, rfl, _, rfl, z, (n : Int), 6, d, rfl, hz, by omega, by omega, hd, ?_⟩
    refine ⟨Nat.zero_le _, fun l nl => ?_⟩
    have s0 := same_new (o := .lst []) nl
    refine ⟨_, rfl, n, rfl, hn1, hn2, fun r as H2 nr hr2 hLL hfr hnd s2 => ?_⟩
    have hl2 : H2 l = some (.lst []) := s2 _ _ upd_same
    have nrl : r ≠ l := fun z => by rw [z, upd_same] at nr; cases nr
    have hlen := hLL.len
    have hal := allK_len hn2 n (Nat.le_refl _)
    have hp6 := pow6 hn2
    refine ⟨r, rfl, ⟨_, SqL.of hr2⟩, ?_⟩
    refine for_list (xs := as.map V.ref) (fun m σ H3 => ∃ (y4 : Option V) (bs : List Addr), σ = [some (.str z), some (.int n), some (.int d), some (.ref l), y4] ∧ H3 l = some (.lst (bs.map V.ref)) ∧ LL H3 bs (firstL z d ((allK n n).take m)) ∧ bs.Sublist (as.take m) ∧ KeepT H H3 ∧ H3 r = some (.lst (as.map V.ref)) ∧ LL H3 as (allK n n))
      ⟨_, [], rfl, hl2, trivial, List.nil_sublist _, KeepT.of_same (s0.trans s2), hr2, hLL⟩ (fun m σ H3 _ hP => by obtain ⟨_, _, _, _, _, _, _, h7, _⟩ := hP; exact SqL.of h7) (fun m x σ H3 hx hP => ?_) (fun σ H3 hP => ?_)
    · obtain ⟨y4, bs, rfl, hl3, hLb, hsub, k3, hr3, hL3⟩ := hP
      obtain ⟨c, ec, rfl⟩ := ref_at_inv hx
      obtain ⟨row, erow, hrow⟩ := hL3.get ec
      have etk : as.take (m + 1) = as.take m ++ [c] := by rw [List.take_add_one, ec]; rfl
      have hca : c ∈ as := List.mem_of_getElem? ec
      have hcl : c ≠ l := fun z => by have := (hfr c hca).1; rw [z, upd_same] at this; cases this
      have hbl : ∀ u ∈ as, u ≠ l := fun u hu z => by have := (hfr u hu).1; rw [z, upd_same] at this; cases this
      refine ⟨_, rfl, _, rfl, _, rfl, _, rfl, z, d, c, l, n, row, bs, _, rfl, hz, hrow, all_ord (List.mem_of_getElem? erow), hn1, by omega, hl3, hLb, fun o ho => all_ord (List.mem_of_mem_take (firstL_subset _ _ _ ho)), k3.tab ht, fun H4 k4 => ?_⟩
      have k34 := k3.trans k4
      refine ⟨_, rfl, ?_⟩
      cases hb : farAll z d row (firstL z d ((allK n n).take m)) with
      | true =>
        refine iteT ⟨_, rfl, .inl ⟨rfl, _, SqL.of (k4.lst hl3)⟩, _, rfl, l, _, _, rfl, rfl, k4.lst hl3, line_lt ?_, ?_⟩
        · rw [List.length_map]
          have := hsub.length_le
          rw [List.length_take] at this
          omega
        refine ⟨_, bs ++ [c], rfl, by rw [upd_same, List.map_append]; rfl, ?_, ?_, ⟨fun b o e f => ?_, fun b qq e => ?_⟩, by rw [upd_ne nrl]; exact k4.lst hr3, (hL3.keepT k4).keep fun u hu o e => by rw [upd_ne (hbl u hu)]; exact e⟩
        · rw [firstL_more erow]
          unfold stepF
          rw [hb, if_pos rfl]
          refine LL.snoc ((hLb.keepT k4).keep fun u hu o e => by rw [upd_ne (hbl u (List.mem_of_mem_take (hsub.subset hu)))]; exact e) ?_
          rw [upd_ne hcl]
          exact k4.lst hrow
        · rw [etk]
          exact hsub.append (List.Sublist.refl _)
        · rw [upd_ne (ne_of_none e nl)]
          exact k34.1 b o e f
        · rw [upd_ne (ne_of_none e nl)]
          exact k34.2 b qq e
      | false =>
        refine iteF ⟨_, bs, rfl, k4.lst hl3, ?_, ?_, k34, k4.lst hr3, hL3.keepT k4⟩
        · rw [firstL_more erow]
          unfold stepF
          rw [hb, if_neg Bool.false_ne_true]
          exact hLb.keepT k4
        · rw [etk]
          exact hsub.trans (List.sublist_append_left _ _)
    · obtain ⟨y4, bs, rfl, hl3, hLb, hsub, k3, hr3, hL3⟩ := hP
      rw [List.length_map, hlen, List.take_length] at hLb
      refine ⟨_, rfl, q l bs H3 nl hl3 hLb (fun c hc => ?_) ?_ k3⟩
      · have hca : c ∈ as := List.mem_of_mem_take (hsub.subset hc)
        exact ⟨s0.free (hfr c hca).1, fun z => by have := (hfr c hca).1; rw [z, upd_same] at this; cases this⟩
      · exact (hnd.sublist (List.take_sublist _ as)).sublist hsub
end
end Fo
namespace Fo
open PySem PySem.Spec PyProof.Rows L2
/-! lists that lie apart -/
theorem cutV_takeN (xs : List V) (i : Nat) : cutV xs none (some (i : Int)) = xs.take i := by
  unfold cutV
  rw [HT.sIx_none, HT.sIx_nat, List.drop_zero, Nat.sub_zero]
  by_cases hh : i ≤ xs.length
  · rw [Nat.min_eq_left hh]
  · rw [Nat.min_eq_right (by omega), List.take_length, List.take_of_length_le (by omega)]
theorem LL.takeN {H : Hp} : ∀ {as : List Addr} {rs : List (List Int)} (k : Nat), LL H as rs → LL H (as.take k) (rs.take k)
  | _, _, 0, _ => trivial
  | [], [], _ + 1, _ => trivial
  | [], _ :: _, _ + 1, h => h.elim
  | _ :: _, [], _ + 1, h => h.elim
  | _ :: _, _ :: _, k + 1, h => ⟨h.1, LL.takeN k h.2⟩
theorem LL.dropN {H : Hp} : ∀ {as : List Addr} {rs : List (List Int)} (k : Nat), LL H as rs → LL H (as.drop k) (rs.drop k)
  | _, _, 0, h => h
  | [], [], _ + 1, _ => trivial
  | [], _ :: _, _ + 1, h => h.elim
  | _ :: _, [], _ + 1, h => h.elim
  | _ :: _, _ :: _, k + 1, h => LL.dropN k h.2
theorem LL.appN {H : Hp} : ∀ {as bs : List Addr} {rs ss : List (List Int)}, LL H as rs → LL H bs ss → LL H (as ++ bs) (rs ++ ss)
  | [], _, [], _, _, h => h
  | _ :: _, _, _ :: _, _, a, h => ⟨a.1, LL.appN a.2 h⟩
  | [], _, _ :: _, _, a, _ => a.elim
  | _ :: _, _, [], _, a, _ => a.elim
/-- any two, the later first, lie so far apart -/
def UpA (w : Str) (d : Int) (rs : List (List Int)) : Prop := rs.Pairwise fun a b => d ≤ farW w b a
theorem upA_of {w : Str} {d : Int} {rs : List (List Int)} (h : ∀ i o, rs[i]? = some o → farAll w d o (rs.take i) = true) : UpA w d rs := by
  unfold UpA
  rw [List.pairwise_iff_getElem]
  intro i j hi hj hij
  have z := h j rs[j] (List.getElem?_eq_getElem hj)
  unfold farAll at z
  rw [List.all_eq_true] at z
  refine of_decide_eq_true (z rs[i] ?_)
  have : (rs.take j)[i]? = some rs[i] := by rw [List.getElem?_take, if_pos hij]; exact List.getElem?_eq_getElem hi
  exact List.mem_of_getElem? this
theorem upA_fold {w : Str} {d : Int} : ∀ (os acc : List (List Int)), UpA w d acc → UpA w d (os.foldl (stepF w d) acc)
  | [], _, h => h
  | o :: os, acc, h => by
    refine upA_fold os _ ?_
    unfold stepF
    split
    · rename_i c
      unfold UpA
      rw [List.pairwise_append]
      refine ⟨h, List.pairwise_cons.mpr ⟨fun x m => absurd m List.not_mem_nil, List.Pairwise.nil⟩, fun x hx y hy => ?_⟩
      rw [List.mem_singleton.mp hy]
      unfold farAll at c
      rw [List.all_eq_true] at c
      exact of_decide_eq_true (c x hx)
    · exact h
theorem upA_first (w : Str) (d : Int) (os : List (List Int)) : UpA w d (firstL w d os) := upA_fold os [] List.Pairwise.nil
theorem firstL_one {w : Str} {d : Int} {o : List Int} {os : List (List Int)} : 1 ≤ (firstL w d (o :: os)).length := by
  have key : ∀ (os acc : List (List Int)), acc.length ≤ (os.foldl (stepF w d) acc).length := by
    intro os
    induction os with
    | nil => exact fun _ => Nat.le_refl _
    | cons b os ih =>
      intro acc
      refine Nat.le_trans ?_ (ih _)
      unfold stepF
      split
      · rw [List.length_append]; omega
      · exact Nat.le_refl _
  exact key os (stepF w d [] o)
/-- so far apart, that none lies near two -/
theorem near_two {w : Str} {n : Nat} {d e : Int} {o x y : List Int} (hw : IsWay w) (hn : 1 ≤ n) (oo : IsOrd n o) (ox : IsOrd n x) (oy : IsOrd n y) (hd : d ≤ farW w y x) (hx : farW w o x ≤ e) (hy : farW w o y ≤ e) (he : 2 * e < d) : False := by
  have t := farW_third (xs := y) (ys := x) (zs := o) hw oy ox oo hn
  have s := farW_turn (w := w) oo oy hn
  omega
theorem nodup_upA {w : Str} {n : Nat} {d : Int} {rs : List (List Int)} (hn : 1 ≤ n) (ho : ∀ r ∈ rs, IsOrd n r) (hd : 1 ≤ d) (hu : UpA w d rs) : rs.Nodup := by
  refine List.Pairwise.imp_of_mem (fun {a b} ma mb h e => ?_) hu
  have := farW_self (w := w) (ho b mb) hn
  rw [e] at h
  omega
end Fo
namespace Fo
open PySem PySem.Spec PyProof.Rows L2
/-! the longest list that lies apart -/
def ApL (w : Str) (d : Int) (rs : List (List Int)) : Prop := rs.Pairwise fun a b => d ≤ farW w a b
def farO (w : Str) (d : Int) (o : List Int) (rs : List (List Int)) : List (List Int) := rs.filter fun x => decide (d ≤ farW w o x)
theorem apL_cons {w : Str} {d : Int} {o : List Int} {s rs : List (List Int)} (hs : s.Sublist (farO w d o rs)) (h : ApL w d s) : ApL w d (o :: s) :=
  List.pairwise_cons.mpr ⟨fun x m => of_decide_eq_true (List.mem_filter.mp (hs.subset m)).2, h⟩
theorem apL_sub {w : Str} {d : Int} {o : List Int} {s rs : List (List Int)} (hs : s.Sublist rs) (h : ApL w d (o :: s)) : s.Sublist (farO w d o rs) := by
  have h1 := (List.pairwise_cons.mp h).1
  have e : s.filter (fun x => decide (d ≤ farW w o x)) = s := List.filter_eq_self.mpr fun x m => decide_eq_true (h1 x m)
  rw [← e]
  exact hs.filter _
/-- what a search comes to -/
structure LfR (w : Str) (d : Int) (taken rest best b : List (List Int)) : Prop where
  one : b = best ∨ ∃ s, s.Sublist rest ∧ ApL w d s ∧ b = taken ++ s
  le : best.length ≤ b.length
  most : ∀ s, s.Sublist rest → ApL w d s → taken.length + s.length ≤ b.length
/-- what it has come to ahead of place i -/
structure LfI (w : Str) (d : Int) (taken rest best : List (List Int)) (i : Nat) (b : List (List Int)) : Prop where
  one : b = best ∨ ∃ s, s.Sublist rest ∧ ApL w d s ∧ b = taken ++ s
  le : best.length ≤ b.length
  tl : taken.length ≤ b.length
  most : ∀ s, s.Sublist rest → ApL w d s → taken.length + s.length ≤ b.length ∨ s.Sublist (rest.drop i)
section
variable {w : Str} {d : Int} {taken rest best b : List (List Int)}
theorem lf_start : LfI w d taken rest best 0 (if taken.length > best.length then taken else best) := by
  split
  · rename_i h
    exact ⟨.inr ⟨[], List.nil_sublist _, List.Pairwise.nil, (List.append_nil _).symm⟩, by omega, Nat.le_refl _, fun s hs _ => .inr (by rw [List.drop_zero]; exact hs)⟩
  · exact ⟨.inl rfl, Nat.le_refl _, by omega, fun s hs _ => .inr (by rw [List.drop_zero]; exact hs)⟩
theorem lf_stop {i : Nat} (h : LfI w d taken rest best i b) (hl : taken.length + rest.length ≤ b.length + i) : LfR w d taken rest best b := by
  refine ⟨h.one, h.le, fun s hs ha => ?_⟩
  rcases h.most s hs ha with h1 | h1
  · exact h1
  · have h2 := h1.length_le
    rw [List.length_drop] at h2
    have := h.tl
    omega
theorem lf_end (h : LfI w d taken rest best rest.length b) : LfR w d taken rest best b := lf_stop h (by have := h.tl; omega)
theorem lf_step {i : Nat} {o : List Int} {b' : List (List Int)} (h : LfI w d taken rest best i b) (ho : rest[i]? = some o) (r : LfR w d (taken ++ [o]) (farO w d o (rest.drop (i + 1))) b b') : LfI w d taken rest best (i + 1) b' := by
  have hi := (List.getElem?_eq_some_iff.mp ho).1
  have hd : rest.drop i = o :: rest.drop (i + 1) := by
    rw [List.drop_eq_getElem_cons hi]
    congr 1
    exact (List.getElem?_eq_some_iff.mp ho).2
  refine ⟨?_, Nat.le_trans h.le r.le, Nat.le_trans h.tl r.le, fun s hs ha => ?_⟩
  · rcases r.one with e | ⟨s, hs, ha, e⟩
    · rw [e]
      exact h.one
    · refine .inr ⟨o :: s, ?_, apL_cons hs ha, by rw [e, List.append_assoc]; rfl⟩
      have h1 : s.Sublist (rest.drop (i + 1)) := hs.trans List.filter_sublist
      have h2 : (o :: s).Sublist (rest.drop i) := by rw [hd]; exact h1.cons_cons o
      exact h2.trans (List.drop_sublist _ _)
  · rcases h.most s hs ha with h1 | h1
    · exact .inl (Nat.le_trans h1 r.le)
    · rw [hd] at h1
      cases h1 with
      | cons _ h1 => exact .inr h1
      | cons_cons _ h1 =>
        rename_i s'
        refine .inl ?_
        have h2 := r.most s' (apL_sub h1 ha) (List.pairwise_cons.mp ha).2
        rw [List.length_append] at h2
        simp only [List.length_cons, List.length_nil] at h2 ⊢
        omega
end
theorem apL_two {w : Str} {n : Nat} {d : Int} (hn : 1 ≤ n) : ∀ {rs : List (List Int)}, (∀ r ∈ rs, IsOrd n r) → ApL w d rs → ∀ x ∈ rs, ∀ y ∈ rs, x ≠ y → d ≤ farW w x y
  | [], _, _, x, hx, _, _, _ => absurd hx List.not_mem_nil
  | a :: rs, ho, h, x, hx, y, hy, ne => by
    obtain ⟨h1, h2⟩ := List.pairwise_cons.mp h
    have oa := ho a List.mem_cons_self
    rcases List.mem_cons.mp hx with e | hx
    · rcases List.mem_cons.mp hy with e2 | hy
      · exact absurd (e.trans e2.symm) ne
      · rw [e]; exact h1 y hy
    · rcases List.mem_cons.mp hy with e | hy
      · rw [e, farW_turn oa (ho x (List.mem_cons_of_mem _ hx)) hn]
        exact h1 x hx
      · exact apL_two hn (fun r m => ho r (List.mem_cons_of_mem _ m)) h2 x hx y hy ne
theorem apL_nodup {w : Str} {n : Nat} {d : Int} {rs : List (List Int)} (hn : 1 ≤ n) (hd : 1 ≤ d) (ho : ∀ r ∈ rs, IsOrd n r) (h : ApL w d rs) : rs.Nodup := by
  refine List.Pairwise.imp_of_mem (fun {a b} ma mb h e => ?_) h
  have := farW_self (w := w) (ho b mb) hn
  rw [e] at h
  omega
theorem apL_of {w : Str} {d : Int} {rs : List (List Int)} (nd : rs.Nodup) (h : ∀ x ∈ rs, ∀ y ∈ rs, x ≠ y → d ≤ farW w x y) : ApL w d rs := List.Pairwise.imp_of_mem (fun {a b} ma mb ne => h a ma b mb ne) nd
/-- all of it called otherwise, the first one as 0, 1, .. -/
theorem called_far {w : Str} {n : Nat} {z x y : List Int} (hw : IsWay w) (hn : 1 ≤ n) (oz : IsOrd n z) (ox : IsOrd n x) (oy : IsOrd n y) : farW w (behindL z x) (behindL z y) = farW w x y := by
  have hb : IsOrd n ((rg n).map fun t => g0 z t) := by
    have e : (rg n).map (fun t => g0 z t) = z := by
      have h := by_places z
      rw [oz.len] at h
      exact h.symm
    rw [e]
    exact oz
  exact farW_called (r := fun t => g0 z t) hw ox oy (behind_ord oz ox) (behind_ord oz oy) hn hb (behind_pos oz ox) (behind_pos oz oy)
theorem longest_most {w : Str} {n : Nat} {d : Int} {tl b : List (List Int)} (hw : IsWay w) (hn : 1 ≤ n) (hd : 1 ≤ d) (hk : allK n n = rg n :: tl) (r : LfR w d [rg n] (farO w d (rg n) tl) [] b) :
    (∀ x ∈ b, IsOrd n x) ∧ ApL w d b ∧ 1 ≤ b.length ∧ ∀ ss, (∀ x ∈ ss, IsOrd n x) → ApL w d ss → ss.length ≤ b.length := by
  have h1 : 1 ≤ b.length := by
    have := r.most [] (List.nil_sublist _) List.Pairwise.nil
    simpa using this
  have or : ∀ x ∈ rg n :: tl, IsOrd n x := fun x m => all_ord (by rw [hk]; exact m)
  have hb : ∃ s, s.Sublist (farO w d (rg n) tl) ∧ ApL w d s ∧ b = [rg n] ++ s := by
    rcases r.one with e | e
    · rw [e] at h1
      exact absurd h1 (by decide)
    · exact e
  obtain ⟨s, hs, ha, rfl⟩ := hb
  refine ⟨fun x m => ?_, apL_cons hs ha, h1, fun ss os as => ?_⟩
  · rcases List.mem_cons.mp m with rfl | m
    · exact or _ List.mem_cons_self
    · exact or x (List.mem_cons_of_mem _ (List.mem_filter.mp (hs.subset m)).1)
  cases ss with
  | nil => exact Nat.zero_le _
  | cons a t =>
    have oa := os a List.mem_cons_self
    have ot : ∀ x ∈ t, IsOrd n x := fun x m => os x (List.mem_cons_of_mem _ m)
    have bk := back_is oa
    have oz := back_ord oa bk
    obtain ⟨z, hz⟩ : ∃ z, z = (rg n).map (pos a) := ⟨_, rfl⟩
    rw [← hz] at bk oz
    have ez : behindL z a = rg n := behind_back oz (back_back oa bk)
    have nd := apL_nodup hn hd os as
    obtain ⟨nda, ndt⟩ := List.nodup_cons.mp nd
    have og : ∀ x ∈ t, IsOrd n (behindL z x) := fun x m => behind_ord oz (ot x m)
    have far1 : ∀ x ∈ t, d ≤ farW w (rg n) (behindL z x) := fun x m => by
      rw [← ez, called_far hw hn oz oa (ot x m)]
      exact (List.pairwise_cons.mp as).1 x m
    have hall := allK_nodup (n := n) n
    rw [hk] at hall
    have ndF : (farO w d (rg n) tl).Nodup := (List.nodup_cons.mp hall).2.filter _
    have hm : ∀ x ∈ t, behindL z x ∈ farO w d (rg n) tl := fun x m => by
      refine List.mem_filter.mpr ⟨?_, decide_eq_true (far1 x m)⟩
      have h := ord_mem (og x m)
      rw [hk] at h
      rcases List.mem_cons.mp h with e | h
      · have h2 := far1 x m
        rw [e, farW_self (show IsOrd n (rg n) from List.Perm.refl _) hn] at h2
        omega
      · exact h
    have ndg : (t.map (behindL z)).Nodup := by
      show List.Pairwise _ _
      rw [List.pairwise_map]
      exact ndt.imp_of_mem fun ma mb h e => h (behind_inj oz (ot _ ma) (ot _ mb) e)
    let s' := (farO w d (rg n) tl).filter fun x => decide (x ∈ t.map (behindL z))
    have nds : s'.Nodup := ndF.filter _
    have ms : ∀ x, x ∈ s' ↔ x ∈ t.map (behindL z) := fun x => by
      constructor
      · exact fun h => of_decide_eq_true (List.mem_filter.mp h).2
      · intro h
        obtain ⟨y, my, rfl⟩ := List.mem_map.mp h
        exact List.mem_filter.mpr ⟨hm y my, decide_eq_true h⟩
    have pl : s'.length = t.length := by
      have := (nodup_perm nds ndg ms).length_eq
      rw [List.length_map] at this
      exact this
    have as' : ApL w d s' := apL_of nds fun x hx y hy ne => by
      obtain ⟨u, mu, rfl⟩ := List.mem_map.mp ((ms x).mp hx)
      obtain ⟨v, mv, rfl⟩ := List.mem_map.mp ((ms y).mp hy)
      rw [called_far hw hn oz (ot u mu) (ot v mv)]
      exact apL_two hn ot (List.pairwise_cons.mp as).2 u mu v mv fun e => ne (by rw [e])
    have := r.most s' List.filter_sublist as'
    rw [pl] at this
    simp only [List.length_cons, List.length_nil] at this ⊢
    omega
end Fo
namespace Fo
open PySem PySem.Spec PyProof.Rows L2
section
variable {P : Program} {w : World} {K : PySem.W.Frag} {mg : Str → Option Value} {base : Heap}
theorem scOrdersL : FnScope ["self", "order"] ["self"] (defScope s_Lister_orders) := ⟨rfl, rfl, rfl, by decide +kernel, rfl, by decide +kernel, by decide +kernel⟩
theorem ok_ordersL {C_Lister fI f : Addr} {fd : FuncData} {k : Nat} (T : Dm K C_Lister "orders" "Lister.orders" s_Lister_orders ["self"] f fd) (TC : TxL K mg C_Lister fI) (B : Bi mg) : FnOk P w K mg base CX0 (k + 1) f fd ["self"] (spOrdersL C_Lister) := by
  refine T.F.ok scOrdersL (fun vs H Q E h => ?_) (fun cdv A outer s H vs Q E hr h => ?_)
  · obtain ⟨a, e, X, w, n, d, rs, ss, rfl, _⟩ := h
    rfl
  · obtain ⟨a, e, X, w, n, d, rs, ss, rfl, L, hl, q⟩ := h
    obtain ⟨dx, t, ps, st, ha, he, ht, ert, hst, ess, heX, ntX, npX, nsX⟩ := L.ex
    have nte : t ≠ e := fun z => ntX (z ▸ heX)
    have npe : ∀ p ∈ ps, p.1 ≠ e := fun p hp z => npX p hp (z ▸ heX)
    have nse : ∀ q ∈ st, q.1 ≠ e ∧ ∀ p ∈ q.2, p.1 ≠ e := fun q hq => ⟨fun z => (nsX q hq).1 (z ▸ heX), fun p hp z => (nsX q hq).2 p hp (z ▸ heX)⟩
    have hpl : ps.length ≤ 120 := by rw [← ert, List.length_map] at hl; exact hl
    refine ⟨_, 
      (pss_one (ps_ret (pe_lc (own := [("order", 1)]) (g := (gName 1)) (tt := tYes) (te := (tCB (rListOf K) (tCons (tVar 1) tNil))) rfl scOrdersL.nd (pi_list (pe_fld (pv 0) rfl)) (blkOk_by (N := ["self", "order"]) (sc := defScope s_Lister_orders) (by decide +kernel)) (fun _ _ _ _ _ => (pg_name (i := 1) scOrdersL.nd rfl (.inl rfl))) (fun _ _ _ _ _ => pts_nil) (fun _ _ _ _ _ => (pe_callTy call_list_of (by rfl) B.list (by decide +kernel) (pa_cons (pv 1) pa_nil)))))), ?_⟩
    refine ⟨_, rfl, a, _, dx, _, _, rfl, ha, TC.cl, TC.nT, fl_t, t, rfl, ⟨_, SqL.of ht.1⟩, fun D nD => ?_⟩
    refine lc_list (K := K) (a := t) (xs := ps.map fun p => V.ref p.1) (fun i H3 => ∃ bs : List (Addr × List Int), RP H3 D bs ∧ rws bs = rs.take i ∧ (∀ b ∈ bs, H b.1 = none ∧ b.1 ≠ D) ∧ Same H H3)
      ⟨[], ⟨upd_same, fun p hp => absurd hp List.not_mem_nil⟩, rfl, fun p hp => absurd hp List.not_mem_nil, same_new nD⟩ (fun i H3 _ hP => by obtain ⟨_, _, _, _, sm⟩ := hP; exact SqL.of (sm _ _ ht.1)) (fun i x H3 hx hP => ?_) (fun H3 hP => ?_)
    · obtain ⟨bs, hb, eb, nb, sm⟩ := hP
      obtain ⟨p, ep, rfl, hp⟩ := ht.at hx
      have hbl : bs.length ≤ 120 := by
        have := congrArg List.length eb
        rw [List.length_map, List.length_take] at this
        omega
      refine ⟨rfl, _, rfl, p.1, _, rfl, .inl (SqL.of (sm _ _ hp)), fun c nc => ?_⟩
      have s4 := same_new (o := .lst (p.2.map V.int)) nc
      have npc : D ≠ c := ne_of_none hb.1 nc
      refine ⟨_, s4 _ _ hb.1, line_lt (by rw [List.length_map]; omega), bs ++ [(c, p.2)], ⟨by rw [upd_same, List.map_append]; rfl, fun u hu => ?_⟩, ?_, fun u hu => ?_, fun b o h => ?_⟩
      · rcases List.mem_append.mp hu with hu | hu
        · rw [upd_ne (nb u hu).2]
          exact s4 _ _ (hb.2 u hu)
        · rw [List.mem_singleton.mp hu, upd_ne npc.symm, upd_same]
      · rw [take_p (by rw [← ert]; exact rws_at ep), ← eb]
        show List.map _ (bs ++ [(c, p.2)]) = _
        rw [List.map_append]
        rfl
      · rcases List.mem_append.mp hu with hu | hu
        · exact nb u hu
        · rw [List.mem_singleton.mp hu]
          exact ⟨sm.free nc, npc.symm⟩
      · rw [upd_ne (ne_of_none h nD)]
        exact s4 _ _ (sm _ _ h)
    · obtain ⟨bs, hb, eb, nb, sm⟩ := hP
      rw [List.length_map, List.take_of_length_le (by rw [← ert, List.length_map]; exact Nat.le_refl _)] at eb
      exact q D bs H3 eb ⟨hb, nD, fun u hu => (nb u hu).1⟩ sm
theorem scDropL : FnScope ["self", "order", "other"] ["self", "order"] (defScope s_Lister_drop) := ⟨rfl, rfl, rfl, by decide +kernel, rfl, by decide +kernel, by decide +kernel⟩
theorem ok_dropL {C_Lister fI f f1 f2 : Addr} {fd d1 d2 : FuncData} {k : Nat} (T : Dm K C_Lister "drop" "Lister.drop" s_Lister_drop ["self", "order"] f fd) (T_Lister : TxL K mg C_Lister fI) (T_check_order : Df K mg "check_order" s_check_order ["thing"] f1 d1) (G_check_order : FnOk P w K mg base CX0 k f1 d1 ["thing"] spCheck)
    (T_Lister_change_to : Dm K C_Lister "change_to" "Lister.change_to" s_Lister_change_to ["self", "orders"] f2 d2) (G_Lister_change_to : FnOk P w K mg base CX0 k f2 d2 ["self", "orders"] (spChangeL C_Lister)) (B : Bi mg) : FnOk P w K mg base CX0 (k + 1) f fd ["self", "order"] (spDropL C_Lister) := by
  refine T.F.ok scDropL (fun vs H Q E h => ?_) (fun cdv A outer s H vs Q E hr h => ?_)
  · obtain ⟨a, e, o, X, w, n, d, rs, ss, xs, rfl, _⟩ := h
    rfl
  · obtain ⟨a, e, o, X, w, n, d, rs, ss, xs, rfl, L, ho, hx, hox, hz, hrl, q⟩ := h
    obtain ⟨dx, t, ps, st, ha, he, ht, ert, hst, ess, heX, ntX, npX, nsX⟩ := L.ex
    have nte : t ≠ e := fun z => ntX (z ▸ heX)
    have npe : ∀ p ∈ ps, p.1 ≠ e := fun p hp z => npX p hp (z ▸ heX)
    have nse : ∀ q ∈ st, q.1 ≠ e ∧ ∀ p ∈ q.2, p.1 ≠ e := fun q hq => ⟨fun z => (nsX q hq).1 (z ▸ heX), fun p hp z => (nsX q hq).2 p hp (z ▸ heX)⟩
    have hpl : ps.length ≤ 120 := by rw [← ert, List.length_map] at hrl; exact hrl
    refine ⟨_, 
      (pss_cons (ps_expr (pe_call G_check_order hr (by rfl) T_check_order.g T_check_order.F.kp T_check_order.b .nil pass0 (pa_cons (pv 1) pa_nil)))
      (pss_cons (ps_if (pt_cmpR (op_notInD (units65 hr)) (pv 1) (pe_fld (pv 0) rfl) (by rfl))
        (pss_one ps_never)
        pss_nil)
      (pss_one (ps_expr (pe_meth (pv 0) T_Lister.cl T_Lister_change_to.me G_Lister_change_to hr T_Lister_change_to.b .nil pass0 (pa_cons (pe_lc (own := [("other", 2)]) (g := (gName 2)) (tt := (tTest (tOp (rNeD K) (tVar 2) (tVar 1)))) (te := (tVar 2)) rfl scDropL.nd (pi_list (pe_fld (pv 0) rfl)) (blkOk_by (N := ["self", "order", "other"]) (sc := defScope s_Lister_drop) (by decide +kernel)) (fun _ _ _ _ _ => (pg_name (i := 2) scDropL.nd rfl (.inl rfl))) (fun _ _ _ _ _ => (pts_one (pt_cmpR (op_neD hr.units) (pv 2) (pv 1) (nomark _)))) (fun _ _ _ _ _ => (pv 2))) pa_nil)))))), ?_⟩
    refine ⟨_, rfl, o, n, xs, rfl, ho, hox, L.n1, by have := L.n2; omega, fun H1 s1 => ?_⟩
    have L1 := L.same s1
    have ha1 := s1 _ _ ha
    have ht1 := ht.same s1
    refine ⟨_, rfl, _, rfl, a, _, dx, _, _, rfl, ha1, T_Lister.cl, T_Lister.nT, fl_t, _, _, dp_list (s1 _ _ ho), ht1.dp, shaped_list _, shaped_lists _, _, rfl, ?_⟩
    rw [any_row, ert, decide_eq_true hx]
    refine iteF ?_
    refine ⟨_, rfl, a, dx, _, rfl, ha1, fl_no (by decide +kernel) (by decide +kernel) (by decide +kernel) (by decide +kernel) (by decide +kernel), ?_⟩
    refine ⟨_, rfl, a, _, dx, _, _, rfl, ha1, T_Lister.cl, T_Lister.nT, fl_t, t, rfl, ⟨_, SqL.of ht1.1⟩, fun D nD => ?_⟩
    have nDX : D ∉ X := fun hm => by
      obtain ⟨o, ho⟩ := L1.tr D hm
      rw [nD] at ho
      cases ho
    refine lc_list (K := K) (a := t) (xs := ps.map fun p => V.ref p.1) (fun i H3 => H3 = upd H1 D (.lst (((ps.take i).filter fun p => !decide (p.2 = xs)).map fun p => V.ref p.1)))
      rfl (fun i H3 _ hP => by rw [hP]; exact SqL.of (same_new nD _ _ ht1.1)) (fun i x H3 hx hP => ?_) (fun H3 hP => ?_)
    · obtain ⟨p, ep, rfl, hp⟩ := ht1.at hx
      subst hP
      refine ⟨rfl, _, rfl, _, rfl, _, _, dp_list (same_new nD _ _ hp), dp_list (same_new nD _ _ (s1 _ _ ho)), shaped_list _, shaped_list _, _, rfl, ite2 (fun z => ?_) (fun z => ?_)⟩
      · rw [eqv_ints] at z
        refine ⟨_, rfl, _, upd_same, line_lt ?_, ?_⟩
        · rw [List.length_map]
          have := List.length_filter_le (fun p : Addr × List Int => !decide (p.2 = xs)) (ps.take i)
          rw [List.length_take] at this
          omega
        · rw [filter_p _ ep, if_pos z, List.map_append, upd_upd]
          rfl
      · rw [eqv_ints] at z
        rw [filter_p _ ep, if_neg z, List.append_nil]
    · subst hP
      rw [List.length_map, List.take_length]
      have hs := same_new (o := .lst ((ps.filter fun p => !decide (p.2 = xs)).map fun p => V.ref p.1)) nD
      refine ⟨a, e, D, X, w, n, d, rs, ss, ps.filter (fun p => !decide (p.2 = xs)), rfl, L1.same hs, ⟨upd_same, fun p hp => hs _ _ (ht1.2 p (List.mem_filter.mp hp).1)⟩, nDX, fun p hp => npX p (List.mem_filter.mp hp).1, fun r hr => ?_, hz, fun H' L' k' => ?_⟩
      · obtain ⟨p, hp, rfl⟩ := List.mem_map.mp hr
        exact L.ord _ (by rw [← ert]; exact List.mem_map_of_mem (List.mem_filter.mp hp).1)
      · refine q H' ?_ (((KpL.of_same (s1.trans hs))).trans k')
        have e1 : rws (ps.filter fun p => !decide (p.2 = xs)) = rs.filter fun r => !decide (r = xs) := by
          rw [← ert]
          show List.map _ (List.filter _ _) = List.filter _ (List.map _ _)
          rw [List.filter_map]
          rfl
        rw [← e1]
        exact L'
end
end Fo
namespace Fo
open PySem PySem.Spec PyProof.Rows L2
/-! how far apart the nearest two are, of any orders -/
def prs (w : Str) (rs : List (List Int)) : Nat → List Int
  | 0 => []
  | i + 1 => prs w rs i ++ (match rs[i]? with
    | some x => (rs.take i).map (farW w x)
    | none => [])
theorem prs_at {w : Str} {rs : List (List Int)} {i : Nat} {x : List Int} (h : rs[i]? = some x) : prs w rs (i + 1) = prs w rs i ++ (rs.take i).map (farW w x) := by
  show _ ++ (match rs[i]? with | some x => (rs.take i).map (farW w x) | none => []) = _
  rw [h]
theorem prs_len {w : Str} {rs : List (List Int)} : ∀ i, (prs w rs i).length ≤ i * i
  | 0 => Nat.le_refl _
  | i + 1 => by
    have ih := prs_len (w := w) (rs := rs) i
    cases h : rs[i]? with
    | none =>
      show (prs w rs i ++ (match rs[i]? with | some x => (rs.take i).map (farW w x) | none => [])).length ≤ _
      rw [h, List.append_nil]
      exact Nat.le_trans ih (Nat.mul_le_mul (Nat.le_succ _) (Nat.le_succ _))
    | some x =>
      rw [prs_at h, List.length_append, List.length_map, List.length_take]
      have : (i + 1) * (i + 1) = i * i + 2 * i + 1 := by rw [Nat.add_mul, Nat.mul_add]; omega
      omega
theorem cut_take (xs : List V) (i : Nat) : cutV xs none (some (i : Int)) = xs.take i := by
  unfold cutV
  rw [HT.sIx_none, HT.sIx_nat]
  by_cases h : i ≤ xs.length
  · rw [Nat.min_eq_left h]
    simp
  · rw [Nat.min_eq_right (by omega)]
    simp
    rw [List.take_of_length_le (by omega)]
def spLeastL (C : Addr) : Sp := fun vs H Q _ => ∃ (a e : Addr) (X : List Addr) (w : Str) (n : Nat) (d : Int) (rs : List (List Int)) (ss : List (List (List Int))), vs = [.ref a] ∧ LsAt C H a e X w n d rs ss ∧ rs.length ≤ 120 ∧
  (prs w rs rs.length = [] → ∀ H', Same H H' → Q .non H') ∧ ∀ m H', Same H H' → m ∈ prs w rs rs.length → (∀ y ∈ prs w rs rs.length, m ≤ y) → Q (.int m) H'
section
variable {P : Program} {w : World} {K : PySem.W.Frag} {mg : Str → Option Value} {base : Heap}
theorem scLeastL : FnScope ["self", "place", "order", "other"] ["self"] (defScope s_Lister_least_apart) := ⟨rfl, rfl, rfl, by decide +kernel, rfl, by decide +kernel, by decide +kernel⟩
set_option maxHeartbeats 2000000 in
theorem ok_leastL {C_Lister fI f f1 : Addr} {fd d1 : FuncData} {k : Nat} (T : Dm K C_Lister "least_apart" "Lister.least_apart" s_Lister_least_apart ["self"] f fd) (T_Lister : TxL K mg C_Lister fI) (T_known_far : Df K mg "known_far" s_known_far ["way", "one", "other"] f1 d1) (G_known_far : FnOk P w K mg base CX0 k f1 d1 ["way", "one", "other"] spFar) (B : Bi mg) : FnOk P w K mg base CX0 (k + 1) f fd ["self"] (spLeastL C_Lister) := by
  refine T.F.ok scLeastL (fun vs H Q E h => ?_) (fun cdv A outer s H vs Q E hr h => ?_)
  · obtain ⟨a, e, X, w, n, d, rs, ss, rfl, _⟩ := h
    rfl
  · obtain ⟨a, e, X, w, n, d, rs, ss, rfl, L, hrl, q1, q2⟩ := h
    obtain ⟨dx, t, ps, st, ha, he, ht, ert, _⟩ := L.ex
    have hn8 := L.n2
    have hpl : ps.length = rs.length := by rw [← ert, List.length_map]
    refine ⟨_, 
      (pss_one (ps_ret (pe_minDef hr.units rfl (by rfl) B.min (pe_lc2 (own := [("place", 1), ("order", 2), ("other", 3)]) (vs1 := [3]) (wi1 := iList K (tSl (rSlL K) (tFld K (tVar 0) "taken") tNoPart (tPart (tVar 1)))) (g := (gTup K 2 (gCons (gName 1) (gCons (gName 2) gNil)))) (tt := tYes) (g1 := (gName 3)) (tt1 := tYes) (te := (tCall spFar [] E0 (tCons (tFld K (tVar 0) "way") (tCons (tVar 2) (tCons (tVar 3) tNil))))) rfl scLeastL.nd (pi_enum (by rfl) B.enumerate (pa_cons (pe_fld (pv 0) rfl) pa_nil)) (blkOk_by (N := ["self", "place", "order", "other"]) (sc := defScope s_Lister_least_apart) (by decide +kernel)) (by decide) (fun _ _ _ _ _ => (pg_tup (by rfl) (pgs_cons (pg_name (i := 1) scLeastL.nd rfl (.inl rfl)) (pgs_cons (pg_name (i := 2) scLeastL.nd rfl (.inl rfl)) pgs_nil)))) (fun _ _ _ _ _ => pts_nil) (fun _ _ _ _ _ => (pi_list (pe_slice sl_list (pe_fld (pv 0) rfl) po_none (po_some (pv 1))))) (fun _ _ _ _ _ => (pg_name (i := 3) scLeastL.nd rfl (.inl rfl))) (fun _ _ _ _ _ => pts_nil) (fun _ _ _ _ _ => (pe_call G_known_far hr (by rfl) T_known_far.g T_known_far.F.kp T_known_far.b .nil pass0 (pa_cons (pe_fld (pv 0) rfl) (pa_cons (pv 2) (pa_cons (pv 3) pa_nil)))))) pe_non))), ?_⟩
    refine ⟨_, rfl, a, _, dx, _, _, rfl, ha, T_Lister.cl, T_Lister.nT, fl_t, t, _, rfl, SqL.of ht.1, fun D nD => ?_⟩
    refine ⟨fun i m G => m = rs.length - i ∧ i ≤ rs.length ∧ G D = some (.lst ((prs w rs i).map V.int)) ∧ Same H G, ⟨_, rfl, Nat.zero_le _, upd_same, same_new nD⟩, fun i m G hM => ?_⟩
    obtain ⟨rfl, hi, hD, sm⟩ := hM
    by_cases hlt : i < rs.length
    · have hps : i < ps.length := by omega
      refine .inr ⟨⟨_, (ps.map fun p => V.ref p.1)[i]'(by rw [List.length_map]; exact hps), SqL.of (sm _ _ ht.1), by simp [hps]⟩, fun G => G D = some (.lst ((prs w rs (i + 1)).map V.int)) ∧ Same H G, fun G p => ⟨rs.length - (i + 1), by omega, rfl, hlt, p.1, p.2⟩, fun x G' y => ?_⟩
      obtain ⟨T0, x', rfl, nT, rfl, f1⟩ := y
      obtain ⟨p, ep, rfl, hp⟩ := (ht.same sm).at (f1 _ (SqL.of (sm _ _ ht.1)))
      have er : rs[i]? = some p.2 := by rw [← ert]; exact rws_at ep
      have s1 := same_new (o := .tup [.int (i : Nat), .ref p.1]) nT
      have sm1 := sm.trans s1
      refine ⟨T0, _, rfl, .inl (.inl upd_same), rfl, _, _, rfl, _, _, rfl, rfl, rfl, ?_⟩
      refine ⟨_, rfl, a, _, dx, _, _, rfl, sm1 _ _ ha, T_Lister.cl, T_Lister.nT, fl_t, _, rfl, _, rfl, t, _, rfl, SqL.of (sm1 _ _ ht.1), fun c nc => ?_⟩
      rw [cut_take]
      have s2 := same_new (o := .lst ((ps.map fun p => V.ref p.1).take i)) nc
      have sm2 := sm1.trans s2
      have ncD : c ≠ D := fun z => by rw [z, s1 _ _ hD] at nc; cases nc
      refine ⟨c, rfl, ⟨_, SqL.of upd_same⟩, ?_⟩
      refine ⟨fun j k G => k = i - j ∧ j ≤ i ∧ G D = some (.lst ((prs w rs i ++ (rs.take j).map (farW w p.2)).map V.int)) ∧ G c = some (.lst ((ps.map fun p => V.ref p.1).take i)) ∧ Same H G, ⟨_, rfl, Nat.zero_le _, by rw [List.take_zero, List.map_nil, List.append_nil]; exact s2 _ _ (s1 _ _ hD), upd_same, sm2⟩, fun j k G hM => ?_⟩
      obtain ⟨rfl, hj, hD3, hc3, sm3⟩ := hM
      by_cases hlj : j < i
      · have hpj : j < ps.length := by omega
        refine .inr ⟨⟨_, ((ps.map fun p => V.ref p.1).take i)[j]'(by rw [List.length_take, List.length_map]; omega), SqL.of hc3, List.getElem?_eq_getElem _⟩, fun G => G D = some (.lst ((prs w rs i ++ (rs.take (j + 1)).map (farW w p.2)).map V.int)) ∧ G c = some (.lst ((ps.map fun p => V.ref p.1).take i)) ∧ Same H G, fun G p => ⟨i - (j + 1), by omega, rfl, hlj, p⟩, fun x G' y => ?_⟩
        obtain ⟨e0, y⟩ := y
        subst e0
        have hx := y _ (SqL.of hc3)
        rw [List.getElem?_take_of_lt hlj] at hx
        obtain ⟨r, eqr, rfl, hr3⟩ := (ht.same sm3).at hx
        have er2 : rs[j]? = some r.2 := by rw [← ert]; exact rws_at eqr
        refine ⟨rfl, _, rfl, a, _, dx, _, _, rfl, sm3 _ _ ha, T_Lister.cl, T_Lister.nW, fl_w, _, rfl, _, rfl, w, p.1, r.1, n, p.2, r.2, rfl, L.wy, sm3 _ _ (ht.2 p (List.mem_of_getElem? ep)), hr3, L.ord _ (List.mem_of_getElem? er), L.ord _ (List.mem_of_getElem? er2), L.n1, by omega, fun G4 s4 => ?_⟩
        have hl1 := prs_len (w := w) (rs := rs) i
        have hsq : i * i ≤ 120 * 120 := Nat.mul_le_mul (by omega) (by omega)
        refine ⟨_, s4 _ _ hD3, line_lt ?_, by rw [upd_same, take_p er2]; simp [List.map_append, List.append_assoc], by rw [upd_ne ncD]; exact s4 _ _ hc3, fun b o hb => ?_⟩
        · rw [List.length_map, List.length_append, List.length_map, List.length_take]
          omega
        · rw [upd_ne (ne_of_none hb nD)]
          exact s4 _ _ (sm3 _ _ hb)
      · obtain rfl : j = i := by omega
        refine .inl ⟨⟨_, SqL.of hc3, by rw [List.length_take]; exact Nat.min_le_left _ _⟩, ?_, sm3⟩
        rw [prs_at er]
        exact hD3
    · obtain rfl : i = rs.length := by omega
      refine .inl ⟨⟨_, SqL.of (sm _ _ ht.1), by rw [List.length_map]; omega⟩, D, _, rfl, rfl, SqL.of hD, fun z => q1 z _ sm, fun m hm hle => q2 m _ sm hm hle⟩
end
end Fo
namespace Fo
open PySem PySem.Spec PyProof.Rows L2
def spFarOnes : Sp := fun vs H Q _ => ∃ (w : Str) (d : Int) (a l : Addr) (n : Nat) (xs : List Int) (bs : List Addr) (rs : List (List Int)), vs = [.str w, .int d, .ref a, .ref l] ∧ IsWay w ∧ H a = some (.lst (xs.map V.int)) ∧ IsOrd n xs ∧ 1 ≤ n ∧ n ≤ 12 ∧ H l = some (.lst (bs.map V.ref)) ∧ LL H bs rs ∧ (∀ r ∈ rs, IsOrd n r) ∧ rs.length ≤ 1000 ∧
  ∀ (l' : Addr) (as' : List Addr) (H' : Hp), H l' = none → H' l' = some (.lst (as'.map V.ref)) → as'.Sublist bs → LL H' as' (farO w d xs rs) → Same H H' → Q (.ref l') H'
/-- a search of which fewer than N are left -/
def spLF (N : Nat) : Sp := fun vs H Q _ => ∃ (w : Str) (d : Int) (t r b : Addr) (n : Nat) (ta ra ba : List Addr) (ts rs bs : List (List Int)), vs = [.str w, .int d, .ref t, .ref r, .ref b] ∧ IsWay w ∧ 1 ≤ n ∧ n ≤ 12 ∧ H t = some (.lst (ta.map V.ref)) ∧ LL H ta ts ∧ H r = some (.lst (ra.map V.ref)) ∧ LL H ra rs ∧ H b = some (.lst (ba.map V.ref)) ∧ LL H ba bs ∧ (∀ x ∈ rs, IsOrd n x) ∧ rs.length < N ∧ ts.length + rs.length ≤ 1000 ∧
  ∀ (l : Addr) (as : List Addr) (ss : List (List Int)) (H' : Hp), (l = t ∨ l = b ∨ H l = none) → (∀ x ∈ as, x ∈ ta ∨ x ∈ ra ∨ x ∈ ba) → H' l = some (.lst (as.map V.ref)) → LL H' as ss → LfR w d ts rs bs ss → Same H H' → Q (.ref l) H'
def spLongest : Sp := fun vs H Q _ => ∃ (w : Str) (n : Nat) (d : Int), vs = [.str w, .int n, .int d] ∧ IsWay w ∧ 1 ≤ n ∧ n ≤ 4 ∧ 1 ≤ d ∧
  ∀ (l : Addr) (as : List Addr) (ss : List (List Int)) (H' : Hp), H l = none → (∀ x ∈ as, H x = none) → H' l = some (.lst (as.map V.ref)) → LL H' as ss → (∀ x ∈ ss, IsOrd n x) → ApL w d ss → 1 ≤ ss.length → (∀ us, (∀ x ∈ us, IsOrd n x) → ApL w d us → us.length ≤ ss.length) → Same H H' → Q (.ref l) H'
theorem allK_head : ∀ n, n ≤ 4 → 1 ≤ n → ∃ tl, allK n n = rg n :: tl ∧ tl.length < 24 := by
  have h : ∀ n, n ≤ 4 → 1 ≤ n → (allK n n).head? = some (rg n) ∧ (allK n n).length ≤ 24 := by decide +kernel
  intro n h4 h1
  obtain ⟨a, b⟩ := h n h4 h1
  match hk : allK n n, a, b with
  | x :: tl, a, b => exact ⟨tl, by rw [Option.some.inj a], by rw [List.length_cons] at b; omega⟩
theorem far_more {w : Str} {d : Int} {o x : List Int} {rs : List (List Int)} {i : Nat} (h : rs[i]? = some x) : farO w d o (rs.take (i + 1)) = farO w d o (rs.take i) ++ (if d ≤ farW w o x then [x] else []) := by
  unfold farO
  rw [List.take_add_one, h, List.filter_append]
  congr 1
  show List.filter _ [x] = _
  rw [List.filter_cons]
  by_cases c : d ≤ farW w o x
  · rw [if_pos (decide_eq_true c), if_pos c]; rfl
  · rw [if_neg (fun z => c (of_decide_eq_true z)), if_neg c]; rfl
section
variable {P : Program} {w : World} {K : PySem.W.Frag} {mg : Str → Option Value} {base : Heap}
theorem scFO : FnScope ["way", "d", "order", "others", "other"] ["way", "d", "order", "others"] (defScope s_far_ones) := ⟨rfl, rfl, rfl, by decide +kernel, rfl, by decide +kernel, by decide +kernel⟩
set_option maxHeartbeats 2000000 in
theorem ok_farOnes {f f1 : Addr} {fd d1 : FuncData} {k : Nat} (T : Df K mg "far_ones" s_far_ones ["way", "d", "order", "others"] f fd) (T_known_far : Df K mg "known_far" s_known_far ["way", "one", "other"] f1 d1) (G_known_far : FnOk P w K mg base CX0 k f1 d1 ["way", "one", "other"] spFar) (B : Bi mg) : FnOk P w K mg base CX0 (k + 1) f fd ["way", "d", "order", "others"] spFarOnes := by
  refine T.F.ok scFO (fun vs H Q E h => ?_) (fun cdv A outer s H vs Q E hr h => ?_)
  · obtain ⟨z, d, a, l, n, xs, bs, rs, rfl, _⟩ := h
    rfl
  · obtain ⟨z, d, a, l, n, xs, bs, rs, rfl, hz, ha, ox, hn1, hn2, hl, hL, ho, hlen, q⟩ := h
    have hbl := hL.len
    refine ⟨_, 
      (pss_one (ps_ret (pe_lc (own := [("other", 4)]) (g := (gName 4)) (tt := (tTest (tOp (rI0 fun i j => .bl (decide (j ≤ i))) (tCall spFar [] E0 (tCons (tVar 0) (tCons (tVar 2) (tCons (tVar 4) tNil)))) (tVar 1)))) (te := (tVar 4)) rfl scFO.nd (pi_list (pv 3)) (blkOk_by (N := ["way", "d", "order", "others", "other"]) (sc := defScope s_far_ones) (by decide +kernel)) (fun _ _ _ _ _ => (pg_name (i := 4) scFO.nd rfl (.inl rfl))) (fun _ _ _ _ _ => (pts_one (pt_cmpR op_ge (pe_call G_known_far hr (by rfl) T_known_far.g T_known_far.F.kp T_known_far.b .nil pass0 (pa_cons (pv 0) (pa_cons (pv 2) (pa_cons (pv 4) pa_nil)))) (pv 1) (nomark _)))) (fun _ _ _ _ _ => (pv 4))))), ?_⟩
    refine ⟨_, rfl, l, rfl, ⟨_, SqL.of hl⟩, fun p np => ?_⟩
    refine lc_list (K := K) (a := l) (xs := bs.map V.ref) (fun i G => ∃ cs : List Addr, G p = some (.lst (cs.map V.ref)) ∧ cs.Sublist (bs.take i) ∧ LL G cs (farO z d xs (rs.take i)) ∧ Same H G) ⟨[], upd_same, List.nil_sublist _, trivial, same_new np⟩ (fun i G _ hP => by obtain ⟨_, _, _, _, sm⟩ := hP; exact SqL.of (sm _ _ hl)) (fun i x G hx hP => ?_) (fun G hP => ?_)
    · obtain ⟨c0, ec, rfl⟩ := ref_at_inv hx
      obtain ⟨cs, hp, hsub, hLc, sm⟩ := hP
      obtain ⟨row, er, hc⟩ := (hL.same sm).get ec
      have hbl2 : cs.length ≤ 1000 := by
        have := hsub.length_le
        rw [List.length_take] at this
        omega
      refine ⟨rfl, _, rfl, _, rfl, _, rfl, z, a, c0, n, xs, row, rfl, hz, sm _ _ ha, hc, ox, ho row (List.mem_of_getElem? er), hn1, hn2, fun G4 s4 => ?_⟩
      have et : bs.take (i + 1) = bs.take i ++ [c0] := by rw [List.take_add_one, ec]; rfl
      refine ⟨_, rfl, _, _, rfl, rfl, _, rfl, ite2 (fun z2 => ?_) (fun z2 => ?_)⟩
      · replace z2 := of_decide_eq_true z2
        refine ⟨_, rfl, _, s4 _ _ hp, line_lt (by rw [List.length_map]; omega), cs ++ [c0], by rw [upd_same, List.map_append]; rfl, ?_, ?_, fun b o e => ?_⟩
        · rw [et]
          exact hsub.append (List.Sublist.refl _)
        · rw [far_more er, if_pos z2]
          refine LL.snoc ((hLc.same s4).keep fun u hu o e => ?_) ?_
          · obtain ⟨ob, eo⟩ := (hL.same (sm.trans s4)).tracked (List.mem_of_mem_take (hsub.subset hu))
            have nup : u ≠ p := fun y => by
              obtain ⟨ob2, eo2⟩ := hL.tracked (List.mem_of_mem_take (hsub.subset hu))
              rw [y, np] at eo2
              cases eo2
            rw [upd_ne nup]
            exact e
          · have ncp : c0 ≠ p := fun y => by
              obtain ⟨ob2, eo2⟩ := hL.tracked (List.mem_of_getElem? ec)
              rw [y, np] at eo2
              cases eo2
            rw [upd_ne ncp]
            exact s4 _ _ hc
        · rw [upd_ne (ne_of_none e np)]
          exact s4 _ _ (sm _ _ e)
      · refine ⟨cs, s4 _ _ hp, ?_, ?_, sm.trans s4⟩
        · rw [et]
          exact hsub.trans (List.sublist_append_left _ _)
        · rw [far_more er, if_neg (fun y => z2 (decide_eq_true y)), List.append_nil]
          exact hLc.same s4
    · obtain ⟨cs, hp, hsub, hLc, sm⟩ := hP
      rw [List.take_of_length_le (by rw [List.length_map]; omega)] at hLc
      exact q p cs G np hp (hsub.trans (List.take_sublist _ _)) hLc sm
theorem scLF : FnScope ["way", "d", "taken", "rest", "best", "place", "order", "far"] ["way", "d", "taken", "rest", "best"] (defScope s_longest_from) := ⟨rfl, rfl, rfl, by decide +kernel, rfl, by decide +kernel, by decide +kernel⟩
set_option maxHeartbeats 4000000 in
theorem ok_lf1 {f f1 : Addr} {fd d1 : FuncData} {k N : Nat} (T_longest_from : Df K mg "longest_from" s_longest_from ["way", "d", "taken", "rest", "best"] f fd) (T_far_ones : Df K mg "far_ones" s_far_ones ["way", "d", "order", "others"] f1 d1) (G_far_ones : FnOk P w K mg base CX0 k f1 d1 ["way", "d", "order", "others"] spFarOnes) (G_longest_from : FnOk P w K mg base CX0 k f fd ["way", "d", "taken", "rest", "best"] (spLF N)) (B : Bi mg) : FnOk P w K mg base CX0 (k + 1) f fd ["way", "d", "taken", "rest", "best"] (spLF (N + 1)) := by
  refine T_longest_from.F.ok scLF (fun vs H Q E h => ?_) (fun cdv A outer s H vs Q E hr h => ?_)
  · obtain ⟨z, d, t, r, b, n, ta, ra, ba, ts, rs, bs, rfl, _⟩ := h
    rfl
  · obtain ⟨z, d, t, r, b, n, ta, ra, ba, ts, rs, bs, rfl, hz, hn1, hn2, ht, hTL, hr0, hRL, hb, hBL, ho, hN, hlen, q⟩ := h
    have lt := hTL.len
    have lr := hRL.len
    have lb := hBL.len
    refine ⟨_, 
      (Evl.pss_cut (ps_if (pt_cmpR op_gt (pe_callB call_len_seq (by rfl) B.len PySem.boot_len (pa_cons (pv 2) pa_nil)) (pe_callB call_len_seq (by rfl) B.len PySem.boot_len (pa_cons (pv 4) pa_nil)) (nomark _))
        (pss_one (ps_set (i := 4) scLF.nd rfl (.inl rfl) (pv 2)))
        pss_nil)
      (pss_cons (ps_for PassesOwn.never rfl (pi_enum (by rfl) B.enumerate (pa_cons (pv 3) pa_nil)) (pg_tup (by rfl) (pgs_cons (pg_name (i := 5) scLF.nd rfl (.inl rfl)) (pgs_cons (pg_name (i := 6) scLF.nd rfl (.inl rfl)) pgs_nil)))
        (pss_cons (ps_if (pt_cmpR op_le (pe_op op_sub (pe_op op_add (pe_callB call_len_seq (by rfl) B.len PySem.boot_len (pa_cons (pv 2) pa_nil)) (pe_callB call_len_seq (by rfl) B.len PySem.boot_len (pa_cons (pv 3) pa_nil))) (pv 5)) (pe_callB call_len_seq (by rfl) B.len PySem.boot_len (pa_cons (pv 4) pa_nil)) (nomark _))
          (pss_one (ps_ret (pv 4)))
          pss_nil)
        (pss_cons (ps_set (i := 7) scLF.nd rfl (.inl rfl) (pe_call G_far_ones hr (by rfl) T_far_ones.g T_far_ones.F.kp T_far_ones.b .nil pass0 (pa_cons (pv 0) (pa_cons (pv 1) (pa_cons (pv 6) (pa_cons (pe_slice sl_list (pv 3) (po_some (pe_op op_add (pv 5) pe_int)) po_none) pa_nil))))))
        (pss_one (ps_set (i := 4) scLF.nd rfl (.inl rfl) (pe_call G_longest_from hr (by rfl) T_longest_from.g T_longest_from.F.kp T_longest_from.b .nil pass0 (pa_cons (pv 0) (pa_cons (pv 1) (pa_cons (pe_op op_cat (pv 2) (pe_lst (pa_cons (pv 6) pa_nil))) (pa_cons (pv 7) (pa_cons (pv 4) pa_nil)))))))))))
      (pss_one (ps_ret (pv 4))))), ?_⟩
    -- best
    refine ⟨fun τ G => ∃ (b0 : Addr) (b0a : List Addr) (b0s : List (List Int)), τ = [some (.str z), some (.int d), some (.ref t), some (.ref r), some (.ref b0), none, none, none] ∧ (b0 = t ∨ b0 = b) ∧ (∀ x ∈ b0a, x ∈ ta ∨ x ∈ ba) ∧ H b0 = some (.lst (b0a.map V.ref)) ∧ LL H b0a b0s ∧ LfI z d ts rs bs 0 b0s ∧ G = H, ?_, fun τ G hM => ?_⟩
    · refine ⟨_, rfl, t, _, rfl, .inl (SqL.of ht), _, rfl, b, _, rfl, .inl (SqL.of hb), _, _, rfl, rfl, _, rfl, ite2 (fun c => ?_) (fun c => ?_)⟩
      · replace c := of_decide_eq_true c
        rw [List.length_map, List.length_map] at c
        have hs := lf_start (w := z) (d := d) (taken := ts) (rest := rs) (best := bs)
        rw [if_pos (by omega)] at hs
        exact ⟨_, rfl, t, ta, ts, rfl, .inl rfl, fun x m => .inl m, ht, hTL, hs, rfl⟩
      · have c' : ¬ ts.length > bs.length := fun y => c (decide_eq_true (by rw [List.length_map, List.length_map]; omega))
        have hs := lf_start (w := z) (d := d) (taken := ts) (rest := rs) (best := bs)
        rw [if_neg c'] at hs
        exact ⟨b, ba, bs, rfl, .inr rfl, fun x m => .inr m, hb, hBL, hs, rfl⟩
    obtain ⟨b0, b0a, b0s, rfl, hb0, hb0a, hbb, hBB, hI, rfl⟩ := hM
    refine ⟨_, rfl, r, _, rfl, SqL.of hr0, ?_⟩
    refine for_enumL (K := K) (a := r) (xs := ra.map V.ref) (fun i σ H1 => ∃ (y5 y6 y7 : Option V) (c : Addr) (ca : List Addr) (cs : List (List Int)), σ = [some (.str z), some (.int d), some (.ref t), some (.ref r), some (.ref c), y5, y6, y7] ∧ (c = t ∨ c = b ∨ G c = none) ∧ (∀ x ∈ ca, x ∈ ta ∨ x ∈ ra ∨ x ∈ ba) ∧ H1 c = some (.lst (ca.map V.ref)) ∧ LL H1 ca cs ∧ LfI z d ts rs bs i cs ∧ Same G H1) ⟨_, _, _, b0, b0a, b0s, rfl, hb0.imp id .inl, fun x m => (hb0a x m).imp id .inr, hbb, hBB, hI, Same.refl G⟩ (fun i σ H1 hP => by obtain ⟨_, _, _, _, _, _, _, _, _, _, _, _, sm⟩ := hP; exact SqL.of (sm _ _ hr0)) (fun i x T2 σ H1 hx hP nT => ?_) (fun σ H1 hP => ?_)
    · obtain ⟨y5, y6, y7, c, ca, cs, rfl, hc0, hca, hc, hCL, hI, sm⟩ := hP
      obtain ⟨c0, ec, rfl⟩ := ref_at_inv hx
      have s1 := same_new (o := .tup [.int (i : Nat), .ref c0]) nT
      have sm1 := sm.trans s1
      obtain ⟨row, er, hrow⟩ := (hRL.same sm1).get ec
      have hi := (List.getElem?_eq_some_iff.mp er).1
      have lc := hCL.len
      refine ⟨T2, _, rfl, .inl (.inl upd_same), rfl, _, _, rfl, _, _, rfl, rfl, ?_⟩
      have hc1 := s1 _ _ hc
      refine ⟨_, rfl, t, _, rfl, .inl (SqL.of (sm1 _ _ ht)), _, rfl, r, _, rfl, .inl (SqL.of (sm1 _ _ hr0)), _, _, rfl, rfl, _, rfl, _, _, rfl, rfl, _, rfl, c, _, rfl, .inl (SqL.of hc1), _, _, rfl, rfl, _, rfl, ite2 (fun z2 => ?_) (fun _ => ?_)⟩
      · replace z2 := of_decide_eq_true z2
        simp only [List.length_map] at z2
        refine ⟨_, rfl, ?_⟩
        exact q c ca cs _ hc0 hca hc1 (hCL.same s1) (lf_stop hI (by omega)) sm1
      -- those behind it that are far
      refine ⟨_, rfl, _, rfl, _, rfl, _, rfl, _, rfl, (i : Int), 1, rfl, rfl, _, rfl, r, _, rfl, SqL.of (sm1 _ _ hr0), fun u nu => ?_⟩
      rw [show (i : Int) + 1 = ((i + 1 : Nat) : Int) by omega, cutV_tail, ← List.map_drop]
      have s2 := same_new (o := .lst ((ra.drop (i + 1)).map V.ref)) nu
      have sm2 := sm1.trans s2
      have hRd : LL _ (ra.drop (i + 1)) (rs.drop (i + 1)) := LL.dropN (i + 1) (hRL.same sm2)
      refine ⟨z, d, c0, u, n, row, _, _, rfl, hz, s2 _ _ hrow, ho row (List.mem_of_getElem? er), hn1, hn2, upd_same, hRd, fun x m => ho x (List.mem_of_mem_drop m), by rw [List.length_drop]; omega, fun fl fa H3 nfl hfl hfa hFL s3 => ?_⟩
      have sm3 := sm2.trans s3
      -- further
      refine ⟨_, rfl, _, rfl, _, rfl, _, rfl, line_small (by show 1 ≤ 16777216; decide), fun v nv => ?_⟩
      have s4 := same_new (o := .lst [.ref c0]) nv
      refine ⟨t, v, _, _, rfl, rfl, (sm3.trans s4) _ _ ht, upd_same, line_small (by rw [List.length_map]; show _ + 1 ≤ 16777216; omega), fun v2 nv2 => ?_⟩
      have s5 := same_new (o := .lst (ta.map V.ref ++ [.ref c0])) nv2
      have s45 := s4.trans s5
      have sm5 := sm3.trans s45
      have hv2 : (upd (upd H3 v (.lst [.ref c0])) v2 (.lst (ta.map V.ref ++ [.ref c0]))) v2 = some (.lst ((ta ++ [c0]).map V.ref)) := by rw [upd_same, List.map_append]; rfl
      have hrow5 := ((s2.trans s3).trans s45) _ _ hrow
      have hc5 := ((s2.trans s3).trans s45) _ _ hc1
      have hC5 := (hCL.same s1).same ((s2.trans s3).trans s45)
      refine ⟨_, rfl, _, rfl, ?_⟩
      have lf2 : (farO z d row (rs.drop (i + 1))).length ≤ rs.length - (i + 1) := by
        have := List.length_filter_le (fun x => decide (d ≤ farW z row x)) (rs.drop (i + 1))
        rw [List.length_drop] at this
        exact this
      have lts := hTL.len
      refine ⟨z, d, v2, fl, c, n, ta ++ [c0], fa, ca, ts ++ [row], farO z d row (rs.drop (i + 1)), cs, rfl, hz, hn1, hn2, hv2, LL.snoc (hTL.same sm5) hrow5, s45 _ _ hfl, hFL.same s45, hc5, hC5, fun x m => ho x (List.mem_of_mem_drop (List.mem_filter.mp m).1), by omega, by rw [List.length_append]; show ts.length + 1 + _ ≤ 1000; omega, fun l as ss H6 hl has hl6 hL6 hR s6 => ?_⟩
      refine ⟨_, _, _, l, as, ss, rfl, ?_, fun x m => ?_, hl6, hL6, lf_step hI er hR, sm5.trans s6⟩
      · rcases hl with rfl | rfl | h
        · exact .inr (.inr ((sm3.trans s4).free nv2))
        · exact hc0
        · exact .inr (.inr (sm5.free h))
      · rcases has x m with h | h | h
        · rcases List.mem_append.mp h with h | h
          · exact .inl h
          · rw [List.mem_singleton.mp h]
            exact .inr (.inl (List.mem_of_getElem? ec))
        · exact .inr (.inl (List.mem_of_mem_drop (hfa.subset h)))
        · exact hca x h
    · obtain ⟨y5, y6, y7, c, ca, cs, rfl, hc0, hca, hc, hCL, hI, sm⟩ := hP
      rw [List.length_map, lr] at hI
      exact ⟨_, rfl, q c ca cs _ hc0 hca hc hCL (lf_end hI) sm⟩
theorem fn_lf0 {f : Addr} {fd : FuncData} {k : Nat} : FnOk P w K mg base CX0 k f fd ["way", "d", "taken", "rest", "best"] (spLF 0) :=
  ⟨fun _ _ _ _ h => by obtain ⟨_, _, _, _, _, _, _, _, _, _, _, _, _, _, _, _, _, _, _, _, _, _, _, h, _⟩ := h; exact absurd h (Nat.not_lt_zero _), fun _ _ _ _ _ _ _ _ _ _ _ _ _ h => by obtain ⟨_, _, _, _, _, _, _, _, _, _, _, _, _, _, _, _, _, _, _, _, _, _, _, h, _⟩ := h; exact absurd h (Nat.not_lt_zero _)⟩
theorem ok_lf {f f1 : Addr} {fd d1 : FuncData} {k : Nat} (T_longest_from : Df K mg "longest_from" s_longest_from ["way", "d", "taken", "rest", "best"] f fd) (T_far_ones : Df K mg "far_ones" s_far_ones ["way", "d", "order", "others"] f1 d1) (GF : ∀ j, FnOk P w K mg base CX0 (j + k) f1 d1 ["way", "d", "order", "others"] spFarOnes) (B : Bi mg) : ∀ N, FnOk P w K mg base CX0 (N + k) f fd ["way", "d", "taken", "rest", "best"] (spLF N)
  | 0 => fn_lf0
  | N + 1 => by
    have h := ok_lf1 T_longest_from T_far_ones (GF N) (ok_lf T_longest_from T_far_ones GF B N) B
    rw [show N + 1 + k = N + k + 1 by omega]
    exact h
theorem scLg : FnScope ["way", "n", "d", "first", "others"] ["way", "n", "d"] (defScope s_longest_apart) := ⟨rfl, rfl, rfl, by decide +kernel, rfl, by decide +kernel, by decide +kernel⟩
set_option maxHeartbeats 2000000 in
theorem ok_longest {f f1 f2 f3 f4 : Addr} {fd d1 d2 d3 d4 : FuncData} {k : Nat} {tk : Tok} (T : Df K mg "longest_apart" s_longest_apart ["way", "n", "d"] f fd) (T_check_apart : Df K mg "check_apart" s_check_apart ["way", "n", "most", "d"] f1 d1) (T_all_orders : Df K mg "all_orders" s_all_orders ["n"] f2 d2) (T_longest_from : Df K mg "longest_from" s_longest_from ["way", "d", "taken", "rest", "best"] f3 d3) (T_far_ones : Df K mg "far_ones" s_far_ones ["way", "d", "order", "others"] f4 d4) (G_check_apart : FnOk P w K mg base CX0 k f1 d1 ["way", "n", "most", "d"] spApart) (G_all_orders : FnOk P w K mg base CX0 k f2 d2 ["n"] spAllO) (G_longest_from : FnOk P w K mg base CX0 k f3 d3 ["way", "d", "taken", "rest", "best"] (spLF 24)) (G_far_ones : FnOk P w K mg base CX0 k f4 d4 ["way", "d", "order", "others"] spFarOnes) (B : Bi mg) (mS : mg "MOST_SEARCHED" = some (.int 4 tk)) : FnOk P w K mg base CX0 (k + 1) f fd ["way", "n", "d"] spLongest := by
  refine T.F.ok scLg (fun vs H Q E h => ?_) (fun cdv A outer s H vs Q E hr h => ?_)
  · obtain ⟨z, n, d, rfl, _⟩ := h
    rfl
  · obtain ⟨z, n, d, rfl, hz, hn1, hn4, hd, q⟩ := h
    obtain ⟨tl, hk, htl⟩ := allK_head n hn4 hn1
    refine ⟨_, 
      (pss_cons (ps_expr (pe_call G_check_apart hr (by rfl) T_check_apart.g T_check_apart.F.kp T_check_apart.b .nil pass0 (pa_cons (pv 0) (pa_cons (pv 1) (pa_cons (pe_glob (v := .int 4) (by rfl) mS ⟨_, rfl⟩) (pa_cons (pv 2) pa_nil))))))
      (pss_cons (ps_asg (pe_call G_all_orders hr (by rfl) T_all_orders.g T_all_orders.F.kp T_all_orders.b .nil pass0 (pa_cons (pv 1) pa_nil)) (pg_star1 (by rfl) (pgs_cons (pg_name (i := 3) scLg.nd rfl (.inl rfl)) (pgs_star (pg_name (i := 4) scLg.nd rfl (.inl rfl)) pgs_nil))))
      (pss_one (ps_ret (pe_call G_longest_from hr (by rfl) T_longest_from.g T_longest_from.F.kp T_longest_from.b .nil pass0 (pa_cons (pv 0) (pa_cons (pv 2) (pa_cons (pe_lst (pa_cons (pv 3) pa_nil)) (pa_cons (pe_call G_far_ones hr (by rfl) T_far_ones.g T_far_ones.F.kp T_far_ones.b .nil pass0 (pa_cons (pv 0) (pa_cons (pv 2) (pa_cons (pv 3) (pa_cons (pv 4) pa_nil))))) (pa_cons (pe_lst pa_nil) pa_nil)))))))))), ?_⟩
    refine ⟨_, rfl, _, rfl, _, rfl, z, (n : Int), 4, d, rfl, hz, by omega, by omega, hd, ?_⟩
    refine ⟨_, rfl, n, rfl, hn1, by omega, fun al aas H2 nal hal hLL nas nda s2 => ?_⟩
    rw [hk] at hLL
    match aas, hLL with
    | [], h => exact h.elim
    | f0 :: oa, hLL =>
    obtain ⟨hf0, hOL⟩ := hLL
    have lo := hOL.len
    have or : ∀ x ∈ rg n :: tl, IsOrd n x := fun x m => all_ord (by rw [hk]; exact m)
    refine ⟨al, _, _, rfl, SqL.of hal, by rw [List.length_map]; omega, fun D nD => ?_⟩
    have s3 := same_new (o := .lst (oa.map V.ref)) nD
    refine ⟨_, _, rfl, _, _, rfl, rfl, ?_⟩
    refine ⟨_, rfl, _, rfl, _, rfl, line_small (by show 1 ≤ 16777216; decide), fun u nu => ?_⟩
    have s4 := same_new (o := .lst [.ref f0]) nu
    have s34 := s3.trans s4
    refine ⟨_, rfl, _, rfl, _, rfl, _, rfl, z, d, f0, D, n, rg n, oa, tl, rfl, hz, s34 _ _ hf0, or _ List.mem_cons_self, hn1, by omega, s4 _ _ upd_same, hOL.same s34, fun x m => or x (List.mem_cons_of_mem _ m), by omega, fun fl fa H5 nfl hfl hfa hFL s5 => ?_⟩
    refine ⟨by decide, fun e ne => ?_⟩
    have s6 := same_new (o := .lst []) ne
    have s36 := s34.trans (s5.trans s6)
    have lf2 : (farO z d (rg n) tl).length ≤ tl.length := List.length_filter_le _ _
    refine ⟨z, d, u, fl, e, n, [f0], fa, [], [rg n], farO z d (rg n) tl, [], rfl, hz, hn1, by omega, (s5.trans s6) _ _ upd_same, ⟨s36 _ _ hf0, trivial⟩, s6 _ _ hfl, hFL.same s6, upd_same, trivial, fun x m => or x (List.mem_cons_of_mem _ (List.mem_filter.mp m).1), by omega, by show 1 + _ ≤ 1000; omega, fun l as ss H7 hl has hl7 hL7 hR s7 => ?_⟩
    obtain ⟨g1, g2, g3, g4⟩ := longest_most hz hn1 hd hk hR
    have s27 := s2.trans (s36.trans s7)
    refine q l as ss H7 ?_ (fun x m => ?_) hl7 hL7 g1 g2 g3 g4 s27
    · rcases hl with rfl | rfl | h
      · exact (s2.trans s3).free nu
      · exact (s2.trans (s34.trans s5)).free ne
      · exact (s2.trans s36).free h
    · rcases has x m with h | h | h
      · rw [List.mem_singleton.mp h]
        exact (nas f0 List.mem_cons_self).1
      · exact (nas x (List.mem_cons_of_mem _ (hfa.subset h))).1
      · exact absurd h List.not_mem_nil
end
end Fo
namespace Fo
open PySem PySem.Spec PyProof.Rows L2
/-- a list of orders of n things -/
structure OL (H : Hp) (l : Addr) (as : List Addr) (rs : List (List Int)) (n : Nat) : Prop where
  top : H l = some (.lst (as.map V.ref))
  ll : LL H as rs
  ord : ∀ r ∈ rs, IsOrd n r
  n1 : 1 ≤ n
  n2 : n ≤ 12
theorem OL.same {H H' : Hp} {l : Addr} {as : List Addr} {rs : List (List Int)} {n : Nat} (h : OL H l as rs n) (s : Same H H') : OL H' l as rs n := ⟨s _ _ h.top, h.ll.same s, h.ord, h.n1, h.n2⟩
theorem OL.keepD {H H' : Hp} {l d : Addr} {as : List Addr} {rs : List (List Int)} {n : Nat} (h : OL H l as rs n) (s : KeepD d H H') (nl : l ≠ d) (na : d ∉ as) : OL H' l as rs n :=
  ⟨s _ _ h.top nl, h.ll.keep fun a ha o e => s a o e (fun q => na (by rw [← q]; exact ha)), h.ord, h.n1, h.n2⟩
end Fo
namespace Fo
open PySem PySem.Spec PyProof.Rows L2
def spOLst : Sp := fun vs H Q _ => ∃ (l : Addr) (as : List Addr) (rs : List (List Int)) (n : Nat), vs = [.ref l] ∧ OL H l as rs n ∧ rs.length ≤ 1000 ∧ ∀ H', Same H H' → Q (.bl true) H'
theorem take_more' {α : Type} {l : List α} {i : Nat} {x : α} (h : l[i]? = some x) : l.take (i + 1) = l.take i ++ [x] := by
  rw [List.take_add_one, h]
  rfl
section
variable {P : Program} {w : World} {K : PySem.W.Frag} {mg : Str → Option Value} {base : Heap}
theorem scOLst : FnScope ["thing", "each", "order"] ["thing"] (defScope s_is_order_list) := ⟨rfl, rfl, rfl, by decide +kernel, rfl, by decide +kernel, by decide +kernel⟩
set_option maxHeartbeats 2000000 in
theorem ok_olst {f f1 : Addr} {fd d1 : FuncData} {k : Nat} (T : Df K mg "is_order_list" s_is_order_list ["thing"] f fd) (T_is_order : Df K mg "is_order" s_is_order ["thing"] f1 d1) (G_is_order : FnOk P w K mg base CX0 k f1 d1 ["thing"] spIsOrd) (B : Bi mg) : FnOk P w K mg base CX0 (k + 1) f fd ["thing"] spOLst := by
  refine T.F.ok scOLst (fun vs H Q E h => ?_) (fun cdv A outer s H vs Q E hr h => ?_)
  · obtain ⟨l, as, rs, n, rfl, _⟩ := h
    rfl
  · obtain ⟨l, as, rs, n, rfl, hO, hlen, q⟩ := h
    have hal := hO.ll.len
    refine ⟨_, 
      (pss_cons (ps_if (PW.pt (pw_or (pt_not (pt_val (pe_callB call_isi (by rfl) B.isinstance (by decide +kernel) (pa_cons (pv 0) (pa_cons (pe_bltn (v := .ty "list") (by rfl) B.list (by decide +kernel) rfl) pa_nil))))) (pw_or1 (pt_not (pt_val (pe_callB (cr_all rfl) (by rfl) B.all (by decide +kernel) (pa_cons (pe_lc (own := [("each", 1)]) (g := (gName 1)) (tt := tYes) (te := (tCall spIsOrd [] E0 (tCons (tVar 1) tNil))) rfl scOLst.nd (pi_list (pv 0)) (blkOk_by (N := ["thing", "each", "order"]) (sc := defScope s_is_order_list) (by decide +kernel)) (fun _ _ _ _ _ => (pg_name (i := 1) scOLst.nd rfl (.inl rfl))) (fun _ _ _ _ _ => pts_nil) (fun _ _ _ _ _ => (pe_call G_is_order hr (by rfl) T_is_order.g T_is_order.F.kp T_is_order.b .nil pass0 (pa_cons (pv 1) pa_nil)))) pa_nil)))))))
        (pss_one (ps_ret pe_bl))
        pss_nil)
      (pss_one (ps_ret (pe_callB (cr_all rfl) (by rfl) B.all (by decide +kernel) (pa_cons (pe_lc (own := [("order", 2)]) (g := (gName 2)) (tt := tYes) (te := (tOp rEq (tCB (rLenS K) (tCons (tVar 2) tNil)) (tCB (rLenS K) (tCons (tOp (rIxL K) (tVar 0) (tC (.int 0))) tNil)))) rfl scOLst.nd (pi_list (pv 0)) (blkOk_by (N := ["thing", "each", "order"]) (sc := defScope s_is_order_list) (by decide +kernel)) (fun _ _ _ _ _ => (pg_name (i := 2) scOLst.nd rfl (.inl rfl))) (fun _ _ _ _ _ => pts_nil) (fun _ _ _ _ _ => (pe_cmpR op_eq (pe_callB call_len_seq (by rfl) B.len PySem.boot_len (pa_cons (pv 2) pa_nil)) (pe_callB call_len_seq (by rfl) B.len PySem.boot_len (pa_cons (pe_ix ix_list (pv 0) pe_int (fun _ _ => rfl)) pa_nil)) (nomark _)))) pa_nil))))), ?_⟩
    refine ⟨_, rfl, _, _, _, _, true, rfl, .ty _, .base (.lst hO.top), kit_ty (by decide +kernel), true, rfl, iteF ?_⟩
    refine ⟨_, rfl, l, rfl, ⟨_, SqL.of hO.top⟩, fun p np => ?_⟩
    refine lc_list (K := K) (a := l) (xs := as.map V.ref) (fun i H3 => H3 p = some (.lst ((List.replicate i true).map V.bl)) ∧ Same H H3) ⟨upd_same, same_new np⟩ (fun i H3 _ hP => SqL.of (hP.2 _ _ hO.top)) (fun i x H3 hx hP => ?_) (fun H3 hP => ?_)
    · obtain ⟨a, ea, rfl⟩ := ref_at_inv hx
      obtain ⟨hp3, sm⟩ := hP
      obtain ⟨r, er, ha⟩ := (hO.ll.same sm).get ea
      refine ⟨rfl, _, rfl, a, n, r, rfl, ha, hO.ord r (List.mem_of_getElem? er), hO.n1, hO.n2, fun H4 s4 => ⟨_, s4 _ _ hp3, line_lt (by
        rw [List.length_map, List.length_replicate]
        have := (List.getElem?_eq_some_iff.mp ea).1
        omega), ?_, fun b o e => ?_⟩⟩
      · rw [upd_same, List.replicate_succ', List.map_append]
        rfl
      · rw [upd_ne (ne_of_none e np)]
        exact s4 _ _ (sm _ _ e)
    · obtain ⟨hp3, sm⟩ := hP
      have h3 := hO.same sm
      refine ⟨p, _, rfl, SqL.of hp3, _, rfl, ?_⟩
      rw [all_true]
      refine iteF ?_
      refine ⟨_, rfl, l, rfl, ⟨_, SqL.of h3.top⟩, fun p2 np2 => ?_⟩
      refine lc_list (K := K) (a := l) (xs := as.map V.ref) (fun i H5 => H5 p2 = some (.lst ((List.replicate i true).map V.bl)) ∧ Same H3 H5) ⟨upd_same, same_new np2⟩ (fun i H5 _ hP => SqL.of (hP.2 _ _ h3.top)) (fun i x H5 hx hP => ?_) (fun H5 hP => ?_)
      · obtain ⟨a, ea, rfl⟩ := ref_at_inv hx
        obtain ⟨hp5, sm5⟩ := hP
        have h5 := h3.same sm5
        obtain ⟨r, er, ha⟩ := h5.ll.get ea
        have hi := (List.getElem?_eq_some_iff.mp ea).1
        obtain ⟨a0, ea0⟩ : ∃ a0, as[0]? = some a0 := ⟨as[0]'(by omega), List.getElem?_eq_getElem (by omega)⟩
        obtain ⟨r0, er0, ha0⟩ := h5.ll.get ea0
        have l1 := (h5.ord r (List.mem_of_getElem? er)).len
        have l2 := (h5.ord r0 (List.mem_of_getElem? er0)).len
        refine ⟨rfl, _, rfl, a, _, rfl, .inl (SqL.of ha), _, rfl, l, _, 0, _, rfl, rfl, SqL.of h5.top, at_of (j := 0) rfl (ref_at ea0), a0, _, rfl, .inl (SqL.of ha0), rfl, ?_⟩
        refine ⟨_, hp5, line_lt (by rw [List.length_map, List.length_replicate]; omega), ?_, fun b o e => ?_⟩
        · rw [upd_same, List.replicate_succ', List.map_append, List.length_map, List.length_map, l1, l2, decide_eq_true rfl]
          rfl
        · rw [upd_ne (ne_of_none e np2)]
          exact sm5 _ _ e
      · obtain ⟨hp5, sm5⟩ := hP
        refine ⟨p2, _, rfl, SqL.of hp5, ?_⟩
        rw [all_true]
        exact q _ (sm.trans sm5)
end
end Fo
namespace Fo
open PySem PySem.Spec PyProof.Rows L2
theorem upA_to {w : Str} {d : Int} {rs : List (List Int)} (h : UpA w d rs) {i : Nat} {o : List Int} (e : rs[i]? = some o) : farAll w d o (rs.take i) = true := by
  unfold farAll
  rw [List.all_eq_true]
  intro x m
  obtain ⟨j, hj⟩ := List.mem_iff_getElem?.mp m
  rw [List.getElem?_take] at hj
  split at hj
  · rename_i hlt
    have hi := (List.getElem?_eq_some_iff.mp e).1
    have h2 := List.pairwise_iff_getElem.mp h j i (by omega) hi hlt
    rw [(List.getElem?_eq_some_iff.mp hj).2, (List.getElem?_eq_some_iff.mp e).2] at h2
    exact decide_eq_true h2
  · cases hj
def spAreFar (Pt : Addr) : Sp := fun vs H Q _ => ∃ (w : Str) (d : Int) (l : Addr) (as : List Addr) (rs : List (List Int)) (n : Nat), vs = [.str w, .int d, .ref l] ∧ IsWay w ∧ OL H l as rs n ∧ rs.length ≤ 1000 ∧ GxR.TabG H Pt ∧ ∀ (b : Bool) H', (b = true ↔ UpA w d rs) → KeepT H H' → Q (.bl b) H'
def spLies (Pt : Addr) : Sp := fun vs H Q _ => ∃ (w : Str) (d : Int) (l : Addr) (as : List Addr) (rs : List (List Int)) (n : Nat), vs = [.str w, .int n, .int d, .ref l] ∧ IsWay w ∧ 1 ≤ d ∧ OL H l as rs n ∧ rs.length ≤ 1000 ∧ GxR.TabG H Pt ∧ ∀ (b : Bool) H', (b = true ↔ UpA w d rs) → KeepT H H' → Q (.bl b) H'
section
variable {P : Program} {w : World} {K : PySem.W.Frag} {mg : Str → Option Value} {base : Heap}
theorem scAF : FnScope ["way", "d", "orders", "place", "order"] ["way", "d", "orders"] (defScope s_are_far) := ⟨rfl, rfl, rfl, by decide +kernel, rfl, by decide +kernel, by decide +kernel⟩
set_option maxHeartbeats 2000000 in
theorem ok_areFar {f f3 Pt : Addr} {fd d3 : FuncData} {k c0 : Nat} (T : Df K mg "are_far" s_are_far ["way", "d", "orders"] f fd) (T_is_far : DfC K mg "is_far" s_is_far ["way", "d", "order", "others"] f3 d3 c0) (G_is_far : FnOk P w K mg base CX0 k f3 d3 ["way", "d", "order", "others"] (spIsFar Pt)) (B : Bi mg) : FnOk P w K mg base CX0 (k + 1) f fd ["way", "d", "orders"] (spAreFar Pt) := by
  refine T.F.ok scAF (fun vs H Q E h => ?_) (fun cdv A outer s H vs Q E hr h => ?_)
  · obtain ⟨z, d, l, as, rs, n, rfl, _⟩ := h
    rfl
  · obtain ⟨z, d, l, as, rs, n, rfl, hz, hO, hlen, ht, q⟩ := h
    have hal := hO.ll.len
    refine ⟨_, 
      (pss_cons (ps_for PassesOwn.never rfl (pi_enum (by rfl) B.enumerate (pa_cons (pv 2) pa_nil)) (pg_tup (by rfl) (pgs_cons (pg_name (i := 3) scAF.nd rfl (.inl rfl)) (pgs_cons (pg_name (i := 4) scAF.nd rfl (.inl rfl)) pgs_nil)))
        (pss_one (ps_if (pt_not (pt_val (pe_call G_is_far hr (by rfl) T_is_far.g T_is_far.F.kp T_is_far.b .nil pass0 (pa_cons (pv 0) (pa_cons (pv 1) (pa_cons (pv 4) (pa_cons (pe_slice sl_list (pv 2) po_none (po_some (pv 3))) pa_nil)))))))
          (pss_one (ps_ret pe_bl))
          pss_nil)))
      (pss_one (ps_ret pe_bl))), ?_⟩
    refine ⟨_, rfl, l, _, rfl, SqL.of hO.top, ?_⟩
    refine for_enumL (K := K) (a := l) (xs := as.map V.ref) (fun i σ G => ∃ y3 y4, σ = [some (.str z), some (.int d), some (.ref l), y3, y4] ∧ (∀ j o, j < i → rs[j]? = some o → farAll z d o (rs.take j) = true) ∧ KeepT H G) ⟨_, _, rfl, fun j o hj => absurd hj (Nat.not_lt_zero _), KeepT.refl H⟩ (fun i σ G hP => by obtain ⟨_, _, _, _, kG⟩ := hP; exact SqL.of (kG.lst hO.top)) (fun i x T2 σ G hx hP nT => ?_) (fun σ G hP => ?_)
    · obtain ⟨y3, y4, rfl, hF, kG⟩ := hP
      obtain ⟨c0, ec, rfl⟩ := ref_at_inv hx
      have s0 := same_new (o := .tup [.int (i : Nat), .ref c0]) nT
      have k0 := kG.trans (KeepT.of_same s0)
      obtain ⟨o, eo, hc⟩ := (hO.ll.keepT k0).get ec
      have hi := (List.getElem?_eq_some_iff.mp eo).1
      refine ⟨T2, _, rfl, .inl (.inl upd_same), rfl, _, _, rfl, _, _, rfl, rfl, ?_⟩
      refine ⟨_, rfl, _, rfl, _, rfl, _, rfl, _, rfl, _, rfl, l, _, rfl, SqL.of (k0.lst hO.top), fun c nc => ?_⟩
      rw [cutV_takeN, ← List.map_take]
      have k1 := k0.trans (KeepT.of_same (same_new (o := .lst ((as.take i).map V.ref)) nc))
      have hc1 := same_new (o := .lst ((as.take i).map V.ref)) nc _ _ hc
      refine ⟨z, d, c0, c, n, o, as.take i, rs.take i, rfl, hz, hc1, hO.ord o (List.mem_of_getElem? eo), hO.n1, hO.n2, upd_same, LL.takeN i (hO.ll.keepT k1), fun r m => hO.ord r (List.mem_of_mem_take m), k1.tab ht, fun H2 k2 => ?_⟩
      have k12 := k1.trans k2
      refine ⟨_, rfl, ?_⟩
      cases hb : farAll z d o (rs.take i) with
      | true => exact iteF ⟨_, _, rfl, fun j o' hj e => by
          by_cases c : j < i
          · exact hF j o' c e
          · obtain rfl : j = i := by omega
            rw [eo] at e
            cases e
            exact hb, k12⟩
      | false => exact iteT (q false H2 ⟨fun z => absurd z (by decide), fun u => by rw [upA_to u eo] at hb; cases hb⟩ k12)
    · obtain ⟨y3, y4, rfl, hF, kG⟩ := hP
      exact (q true G ⟨fun _ => upA_of fun i o e => hF i o (by rw [List.length_map, hal]; exact (List.getElem?_eq_some_iff.mp e).1) e, fun _ => rfl⟩ kG)
theorem scLA : FnScope ["way", "n", "d", "thing", "order"] ["way", "n", "d", "thing"] (defScope s_lies_apart) := ⟨rfl, rfl, rfl, by decide +kernel, rfl, by decide +kernel, by decide +kernel⟩
set_option maxHeartbeats 2000000 in
theorem ok_lies {f f1 f2 f3 Pt : Addr} {fd d1 d2 d3 : FuncData} {k : Nat} {tk : Tok} (T : Df K mg "lies_apart" s_lies_apart ["way", "n", "d", "thing"] f fd) (T_check_apart : Df K mg "check_apart" s_check_apart ["way", "n", "most", "d"] f1 d1) (T_is_order_list : Df K mg "is_order_list" s_is_order_list ["thing"] f2 d2) (T_are_far : Df K mg "are_far" s_are_far ["way", "d", "orders"] f3 d3) (G_check_apart : FnOk P w K mg base CX0 k f1 d1 ["way", "n", "most", "d"] spApart) (G_is_order_list : FnOk P w K mg base CX0 k f2 d2 ["thing"] spOLst) (G_are_far : FnOk P w K mg base CX0 k f3 d3 ["way", "d", "orders"] (spAreFar Pt)) (B : Bi mg) (mM : mg "MOST_THINGS" = some (.int 12 tk)) : FnOk P w K mg base CX0 (k + 1) f fd ["way", "n", "d", "thing"] (spLies Pt) := by
  refine T.F.ok scLA (fun vs H Q E h => ?_) (fun cdv A outer s H vs Q E hr h => ?_)
  · obtain ⟨z, d, l, as, rs, n, rfl, _⟩ := h
    rfl
  · obtain ⟨z, d, l, as, rs, n, rfl, hz, hd, hO, hlen, ht, q⟩ := h
    have hal := hO.ll.len
    have hn1 := hO.n1
    have hn2 := hO.n2
    refine ⟨_, 
      (pss_cons (ps_expr (pe_call G_check_apart hr (by rfl) T_check_apart.g T_check_apart.F.kp T_check_apart.b .nil pass0 (pa_cons (pv 0) (pa_cons (pv 1) (pa_cons (pe_glob (v := .int 12) (by rfl) mM ⟨_, rfl⟩) (pa_cons (pv 2) pa_nil))))))
      (pss_cons (ps_if (PW.pt (pw_or (pt_not (pt_val (pe_call G_is_order_list hr (by rfl) T_is_order_list.g T_is_order_list.F.kp T_is_order_list.b .nil pass0 (pa_cons (pv 3) pa_nil)))) (pw_or1 (pt_not (pt_val (pe_callB (cr_all rfl) (by rfl) B.all (by decide +kernel) (pa_cons (pe_lc (own := [("order", 4)]) (g := (gName 4)) (tt := tYes) (te := (tOp rEq (tCB (rLenS K) (tCons (tVar 4) tNil)) (tVar 1))) rfl scLA.nd (pi_list (pv 3)) (blkOk_by (N := ["way", "n", "d", "thing", "order"]) (sc := defScope s_lies_apart) (by decide +kernel)) (fun _ _ _ _ _ => (pg_name (i := 4) scLA.nd rfl (.inl rfl))) (fun _ _ _ _ _ => pts_nil) (fun _ _ _ _ _ => (pe_cmpR op_eq (pe_callB call_len_seq (by rfl) B.len PySem.boot_len (pa_cons (pv 4) pa_nil)) (pv 1) (nomark _)))) pa_nil)))))))
        (pss_one (ps_ret pe_bl))
        pss_nil)
      (pss_one (ps_ret (pe_call G_are_far hr (by rfl) T_are_far.g T_are_far.F.kp T_are_far.b .nil pass0 (pa_cons (pv 0) (pa_cons (pv 2) (pa_cons (pv 3) pa_nil)))))))), ?_⟩
    refine ⟨_, rfl, _, rfl, _, rfl, z, (n : Int), 12, d, rfl, hz, by omega, by omega, hd, ?_⟩
    refine ⟨_, rfl, l, as, rs, n, rfl, hO, hlen, fun H1 s1 => ⟨true, rfl, iteF ?_⟩⟩
    have h3 := hO.same s1
    refine ⟨_, rfl, l, rfl, ⟨_, SqL.of h3.top⟩, fun p2 np2 => ?_⟩
    refine lc_list (K := K) (a := l) (xs := as.map V.ref) (fun i H5 => H5 p2 = some (.lst ((List.replicate i true).map V.bl)) ∧ Same H1 H5) ⟨upd_same, same_new np2⟩ (fun i H5 _ hP => SqL.of (hP.2 _ _ h3.top)) (fun i x H5 hx hP => ?_) (fun H5 hP => ?_)
    · obtain ⟨a, ea, rfl⟩ := ref_at_inv hx
      obtain ⟨hp5, sm5⟩ := hP
      have h5 := h3.same sm5
      obtain ⟨r, er, ha⟩ := h5.ll.get ea
      have hi := (List.getElem?_eq_some_iff.mp ea).1
      have l1 := (h5.ord r (List.mem_of_getElem? er)).len
      refine ⟨rfl, _, rfl, a, _, rfl, .inl (SqL.of ha), _, rfl, rfl, ?_⟩
      refine ⟨_, hp5, line_lt (by rw [List.length_map, List.length_replicate]; omega), ?_, fun b o e => ?_⟩
      · rw [upd_same, List.replicate_succ', List.map_append, List.length_map, l1, decide_eq_true rfl]
        rfl
      · rw [upd_ne (ne_of_none e np2)]
        exact sm5 _ _ e
    · obtain ⟨hp5, sm5⟩ := hP
      refine ⟨p2, _, rfl, SqL.of hp5, _, rfl, ?_⟩
      rw [all_true]
      refine iteF ?_
      have s15 := s1.trans sm5
      refine ⟨_, rfl, _, rfl, _, rfl, z, d, l, as, rs, n, rfl, hz, hO.same s15, hlen, (KeepT.of_same s15).tab ht, fun b H6 hb k6 => ?_⟩
      exact q b H6 hb ((KeepT.of_same s15).trans k6)
end
end Fo
namespace Fo
open PySem PySem.Spec PyProof.Rows L2
/-! lists that lie apart, and how many orders lie round them -/
theorem far_max {w : Str} {n : Nat} {x y : List Int} (hw : IsWay w) (h1 : 1 ≤ n) (h5 : n ≤ 5) (ox : IsOrd n x) (oy : IsOrd n y) : farW w x y ≤ (n : Int) * (n : Int) := by
  have a := swap_most (n := n) (xs := x) (ys := y) ox
  have b := spot_most (n := n) (xs := x) (ys := y) ox
  have c := shift_most (n := n) (xs := x) (ys := y) ox oy h1
  rcases hw with rfl | rfl | rfl
  · rw [farW_swap]
    rcases (show n = 1 ∨ n = 2 ∨ n = 3 ∨ n = 4 ∨ n = 5 by omega) with rfl | rfl | rfl | rfl | rfl <;> omega
  · rw [farW_spot]
    rcases (show n = 1 ∨ n = 2 ∨ n = 3 ∨ n = 4 ∨ n = 5 by omega) with rfl | rfl | rfl | rfl | rfl <;> omega
  · rw [farW_shift]
    rcases (show n = 1 ∨ n = 2 ∨ n = 3 ∨ n = 4 ∨ n = 5 by omega) with rfl | rfl | rfl | rfl | rfl <;> omega
theorem near_all {w : Str} {n : Nat} {x : List Int} (hw : IsWay w) (h1 : 1 ≤ n) (h5 : n ≤ 5) (ox : IsOrd n x) : nearL w n x ((n : Int) * (n : Int)) = allK n n := by
  unfold nearL
  exact List.filter_eq_self.mpr fun o m => decide_eq_true (far_max hw h1 h5 ox (all_ord m))
theorem near_min {w : Str} {n : Nat} {x : List Int} {r : Int} (hw : IsWay w) (h1 : 1 ≤ n) (h5 : n ≤ 5) (ox : IsOrd n x) : nearL w n x (min r ((n : Int) * (n : Int))) = nearL w n x r := by
  unfold nearL
  apply List.filter_congr
  intro o m
  have h := far_max hw h1 h5 ox (all_ord m)
  by_cases c : farW w x o ≤ r
  · rw [decide_eq_true c, decide_eq_true (by omega)]
  · rw [decide_eq_false c, decide_eq_false (by omega)]
theorem split_len {α : Type} (p : α → Bool) : ∀ l : List α, l.length = (l.filter p).length + (l.filter fun x => !p x).length
  | [] => rfl
  | a :: l => by
    have h := split_len p l
    rw [List.filter_cons, List.filter_cons]
    cases p a <;> simp <;> omega
theorem filter_filter_le {α : Type} (p q : α → Bool) (l : List α) : ((l.filter q).filter p).length ≤ (l.filter p).length := (List.filter_sublist.filter p).length_le
/-- that all are covered -/
theorem cover_len {α β : Type} (p : β → α → Bool) : ∀ (F : List β) (A : List α), (∀ o ∈ A, ∃ f ∈ F, p f o = true) → A.length ≤ (F.map fun f => (A.filter (p f)).length).sum
  | [], A, h => by
    cases A with
    | nil => exact Nat.le_refl _
    | cons a _ =>
      obtain ⟨_, m, _⟩ := h a List.mem_cons_self
      exact absurd m List.not_mem_nil
  | f :: F, A, h => by
    rw [List.map_cons, List.sum_cons, split_len (p f) A]
    have ih := cover_len p F (A.filter fun x => !p f x) fun o m => by
      obtain ⟨mo, ho⟩ := List.mem_filter.mp m
      obtain ⟨g, mg, hg⟩ := h o mo
      rcases List.mem_cons.mp mg with rfl | mg
      · rw [hg] at ho; cases ho
      · exact ⟨g, mg, hg⟩
    have le : (F.map fun g => ((A.filter fun x => !p f x).filter (p g)).length).sum ≤ (F.map fun g => (A.filter (p g)).length).sum := by
      clear ih h
      induction F with
      | nil => exact Nat.le_refl _
      | cons g F ih =>
        rw [List.map_cons, List.map_cons, List.sum_cons, List.sum_cons]
        have := filter_filter_le (p g) (fun x => !p f x) A
        omega
    omega
/-- that none is told twice -/
theorem pack_len {α β : Type} (p : β → α → Bool) : ∀ (F : List β) (A : List α), F.Pairwise (fun f g => ∀ o ∈ A, p f o = true → p g o = true → False) → (F.map fun f => (A.filter (p f)).length).sum ≤ A.length
  | [], _, _ => Nat.zero_le _
  | f :: F, A, h => by
    obtain ⟨h1, h2⟩ := List.pairwise_cons.mp h
    rw [List.map_cons, List.sum_cons, split_len (p f) A]
    have ih := pack_len p F (A.filter fun x => !p f x) (h2.imp fun hp o m => hp o (List.mem_filter.mp m).1)
    have e : ∀ g ∈ F, ((A.filter fun x => !p f x).filter (p g)) = A.filter (p g) := fun g mg => by
      rw [List.filter_filter]
      apply List.filter_congr
      intro o mo
      cases hg : p g o with
      | false => rfl
      | true =>
        cases hf : p f o with
        | false => rfl
        | true => exact (h1 g mg o mo hf hg).elim
    have e2 : (F.map fun g => ((A.filter fun x => !p f x).filter (p g)).length) = F.map fun g => (A.filter (p g)).length := List.map_congr_left fun g mg => by rw [e g mg]
    rw [e2] at ih
    omega
theorem sum_const {α : Type} {f : α → Nat} {c : Nat} : ∀ {l : List α}, (∀ x ∈ l, f x = c) → (l.map f).sum = l.length * c
  | [], _ => by simp
  | a :: l, h => by
    rw [List.map_cons, List.sum_cons, sum_const fun x m => h x (List.mem_cons_of_mem _ m), h a List.mem_cons_self, List.length_cons, Nat.add_mul]
    omega
/-- how many lie within r of any order -/
theorem near_len30 {w : Str} {n : Nat} {x : List Int} {r : Int} (hw : IsWay w) (ox : IsOrd n x) (h1 : 1 ≤ n) (h5 : n ≤ 6) (hr : 0 ≤ r) : (((nearL w n x r).length : Nat) : Int) = inW w n r := count_in hw ox h1 h5 hr
theorem pack_all {w : Str} {n : Nat} {d e : Int} {rs : List (List Int)} {c : Nat} (hw : IsWay w) (h1 : 1 ≤ n) (h6 : n ≤ 6) (ho : ∀ x ∈ rs, IsOrd n x) (he : 0 ≤ e) (hd : 2 * e < d) (hp : rs.Pairwise fun a b => d ≤ farW w a b) (hc : (c : Int) = inW w n e) : rs.length * c ≤ (allK n n).length := by
  have h := pack_len (fun f o => decide (farW w f o ≤ e)) rs (allK n n) (List.Pairwise.imp_of_mem (fun {a b} ma mb hab o mo ha hb => by
    have oo := all_ord mo
    have t := farW_third (xs := a) (ys := b) (zs := o) hw (ho a ma) (ho b mb) oo h1
    have s := farW_turn (w := w) (ho b mb) oo h1
    have ha' := of_decide_eq_true ha
    have hb' := of_decide_eq_true hb
    omega) hp)
  rw [sum_const (c := c) fun x mx => ?_] at h
  · exact h
  · have := near_len30 hw (ho x mx) h1 h6 he
    unfold nearL at this
    omega
theorem first_sub {w : Str} {d : Int} : ∀ (os acc : List (List Int)), ∀ f ∈ acc, f ∈ os.foldl (stepF w d) acc
  | [], _, _, m => m
  | o :: os, acc, f, m => by
    refine first_sub os _ f ?_
    unfold stepF
    split
    · exact List.mem_append_left _ m
    · exact m
/-- each order lies near one that is taken -/
theorem first_near {w : Str} {n : Nat} {d : Int} (hn : 1 ≤ n) (hd : 1 ≤ d) : ∀ (os acc : List (List Int)), (∀ o ∈ os, IsOrd n o) → ∀ o ∈ os, ∃ f ∈ os.foldl (stepF w d) acc, farW w o f ≤ d - 1
  | [], _, _, _, m => absurd m List.not_mem_nil
  | a :: os, acc, ho, o, m => by
    rcases List.mem_cons.mp m with rfl | m
    · cases hb : farAll w d o acc with
      | true =>
        refine ⟨o, first_sub os _ o (by unfold stepF; rw [if_pos hb]; exact List.mem_append_right _ List.mem_cons_self), ?_⟩
        rw [farW_self (ho o List.mem_cons_self) hn]
        omega
      | false =>
        unfold farAll at hb
        have hb' : ¬ (acc.all fun o' => decide (d ≤ farW w o o')) = true := by rw [hb]; decide
        rw [List.all_eq_true] at hb'
        have : ∃ f ∈ acc, ¬ d ≤ farW w o f := Classical.byContradiction fun z => hb' fun f mf => decide_eq_true (Classical.byContradiction fun y => z ⟨f, mf, y⟩)
        obtain ⟨f, mf, hf⟩ := this
        refine ⟨f, first_sub os _ f ?_, by omega⟩
        unfold stepF
        split
        · exact List.mem_append_left _ mf
        · exact mf
    · exact first_near hn hd os _ (fun x mx => ho x (List.mem_cons_of_mem _ mx)) o m
theorem cover_first {w : Str} {n : Nat} {d : Int} {c : Nat} (hw : IsWay w) (h1 : 1 ≤ n) (h6 : n ≤ 6) (hd : 1 ≤ d) (hc : (c : Int) = inW w n (d - 1)) : (allK n n).length ≤ (firstL w d (allK n n)).length * c := by
  have ho : ∀ x ∈ firstL w d (allK n n), IsOrd n x := fun x m => all_ord (firstL_subset _ _ _ m)
  have h := cover_len (fun f o => decide (farW w f o ≤ d - 1)) (firstL w d (allK n n)) (allK n n) fun o mo => by
    obtain ⟨f, mf, hf⟩ := first_near (w := w) (d := d) h1 hd (allK n n) [] (fun x m => all_ord m) o mo
    refine ⟨f, mf, decide_eq_true ?_⟩
    rw [farW_turn (all_ord mo) (ho f mf) h1]
    exact hf
  rw [sum_const (c := c) fun x mx => ?_] at h
  · exact h
  · have := near_len30 hw (ho x mx) h1 h6 (show 0 ≤ d - 1 by omega)
    unfold nearL at this
    omega
theorem filter_single {α : Type} {p : α → Bool} {x : α} : ∀ {l : List α}, l.Nodup → x ∈ l → p x = true → (∀ y ∈ l, p y = true → y = x) → l.filter p = [x]
  | [], _, m, _, _ => absurd m List.not_mem_nil
  | a :: l, nd, m, hx, h => by
    obtain ⟨na, nl⟩ := List.nodup_cons.mp nd
    rw [List.filter_cons]
    rcases List.mem_cons.mp m with rfl | m
    · rw [if_pos hx]
      congr 1
      exact List.filter_eq_nil_iff.mpr fun y my hy => na (by rw [← h y (List.mem_cons_of_mem _ my) hy]; exact my)
    · rw [if_neg (fun c => na (by rw [h a List.mem_cons_self c]; exact m))]
      exact filter_single nl m hx fun y my => h y (List.mem_cons_of_mem _ my)
theorem near_mem {w : Str} {n : Nat} {x f : List Int} {r : Int} (of : IsOrd n f) : f ∈ nearL w n x r ↔ farW w x f ≤ r := by
  unfold nearL
  rw [List.mem_filter]
  exact ⟨fun h => of_decide_eq_true h.2, fun h => ⟨ord_mem of, decide_eq_true h⟩⟩
end Fo
namespace Fo
open PySem PySem.Spec PyProof.Rows L2
/-! bounds and lists: the reckoning -/
theorem fac_all : ∀ n, n ≤ 6 → (((allK n n).length : Nat) : Int) = facN n := by decide +kernel
theorem in_len {w : Str} {n : Nat} {r : Int} (hw : IsWay w) (h1 : 1 ≤ n) (h6 : n ≤ 6) (hr : 0 ≤ r) : (((nearL w n (rg n) r).length : Nat) : Int) = inW w n r := near_len30 hw (List.Perm.refl _) h1 h6 hr
theorem in_pos {w : Str} {n : Nat} {r : Int} (hw : IsWay w) (h1 : 1 ≤ n) (h6 : n ≤ 6) (hr : 0 ≤ r) : 1 ≤ inW w n r := by
  have o0 : IsOrd n (rg n) := List.Perm.refl _
  have m : rg n ∈ nearL w n (rg n) r := by
    unfold nearL
    exact List.mem_filter.mpr ⟨ord_mem o0, decide_eq_true (by rw [farW_self o0 h1]; exact hr)⟩
  have := List.length_pos_of_mem m
  have e := in_len hw h1 h6 hr
  omega
theorem in_le {w : Str} {n : Nat} {r : Int} (hw : IsWay w) (h1 : 1 ≤ n) (h6 : n ≤ 6) (hr : 0 ≤ r) : inW w n r ≤ facN n := by
  rw [← in_len hw h1 h6 hr, ← fac_all n h6]
  have := List.length_filter_le (fun o => decide (farW w (rg n) o ≤ r)) (allK n n)
  unfold nearL
  omega
theorem in_mono {w : Str} {n : Nat} {r r' : Int} (hw : IsWay w) (h1 : 1 ≤ n) (h6 : n ≤ 6) (hr : 0 ≤ r) (h : r ≤ r') : inW w n r ≤ inW w n r' := by
  rw [← in_len hw h1 h6 hr, ← in_len hw h1 h6 (by omega)]
  unfold nearL
  have : ((allK n n).filter fun o => decide (farW w (rg n) o ≤ r)).length ≤ ((allK n n).filter fun o => decide (farW w (rg n) o ≤ r')).length := by
    have key : ∀ l : List (List Int), (l.filter fun o => decide (farW w (rg n) o ≤ r)).length ≤ (l.filter fun o => decide (farW w (rg n) o ≤ r')).length := by
      intro l
      induction l with
      | nil => exact Nat.le_refl _
      | cons a l ih =>
        rw [List.filter_cons, List.filter_cons]
        by_cases c : farW w (rg n) a ≤ r
        · rw [if_pos (decide_eq_true c), if_pos (decide_eq_true (by omega))]
          simp only [List.length_cons]; omega
        · rw [if_neg (fun z => c (of_decide_eq_true z))]
          split
          · simp only [List.length_cons]; omega
          · exact ih
    exact key _
  omega
theorem in_zero {w : Str} {n : Nat} (hw : IsWay w) (h1 : 1 ≤ n) (h6 : n ≤ 6) : inW w n 0 = 1 := by
  have o0 : IsOrd n (rg n) := List.Perm.refl _
  have e : nearL w n (rg n) 0 = [rg n] := by
    unfold nearL
    refine filter_single (allK_nodup (n := n) n) (ord_mem o0) (decide_eq_true (by rw [farW_self o0 h1]; exact Int.le_refl _)) fun y my hy => ?_
    have h := of_decide_eq_true hy
    have h0 := farW_nonneg w (rg n) y
    exact (farW_zero hw o0 (all_ord my) h1 (by omega)).symm
  have := in_len hw h1 h6 (Int.le_refl 0)
  rw [e] at this
  simpa using this.symm
theorem div_b (E x : Int) (hx : 0 < x) : E / x * x ≤ E ∧ E < (E / x + 1) * x := ⟨Int.ediv_mul_le E (by omega), Int.lt_ediv_add_one_mul_self E hx⟩
theorem ceil_b (E x : Int) (hx : 0 < x) : ((E + x - 1) / x - 1) * x < E ∧ E ≤ (E + x - 1) / x * x := by
  obtain ⟨a, b⟩ := div_b (E + x - 1) x hx
  rw [Int.add_mul, Int.one_mul] at b
  rw [Int.sub_mul, Int.one_mul]
  omega
theorem div_le_of {E x k : Int} (hx : 0 < x) (h : k * x ≤ E) : k ≤ E / x := (Int.le_ediv_iff_mul_le hx).mpr h
theorem ceil_le_of {E x k : Int} (hx : 0 < x) (h : E ≤ k * x) : (E + x - 1) / x ≤ k := by
  have e : (E + x - 1) / x < k + 1 := Int.ediv_lt_of_lt_mul hx (by rw [Int.add_mul, Int.one_mul]; omega)
  omega
theorem least_le {w : Str} {n : Nat} {d : Int} (hw : IsWay w) (h1 : 1 ≤ n) (h6 : n ≤ 6) (hd : 1 ≤ d) : leastB w n d ≤ (((firstL w d (allK n n)).length : Nat) : Int) := by
  unfold leastB
  have e := in_len hw h1 h6 (show 0 ≤ d - 1 by omega)
  have p := in_pos hw h1 h6 (show 0 ≤ d - 1 by omega)
  have c := cover_first hw h1 h6 hd e
  rw [← fac_all n h6]
  refine ceil_le_of (by omega) ?_
  rw [← e]
  exact_mod_cast c
theorem most_ge {w : Str} {n : Nat} {d : Int} {ss : List (List Int)} (hw : IsWay w) (h1 : 1 ≤ n) (h6 : n ≤ 6) (hd : 1 ≤ d) (os : ∀ x ∈ ss, IsOrd n x) (as : ApL w d ss) : ((ss.length : Nat) : Int) ≤ mostB w n d := by
  unfold mostB
  have e := in_len hw h1 h6 (show 0 ≤ (d - 1) / 2 by omega)
  have p := in_pos hw h1 h6 (show 0 ≤ (d - 1) / 2 by omega)
  have c := pack_all hw h1 h6 os (show 0 ≤ (d - 1) / 2 by omega) (by omega) as e
  rw [← fac_all n h6]
  refine div_le_of (by omega) ?_
  rw [← e]
  exact_mod_cast c
end Fo
namespace Fo
open PySem PySem.Spec PyProof.Rows L2
abbrev dLLL (l : List (List (List Int))) : PyData := .list (l.map dLL)
theorem lay_lists3 : ∀ l : List (List (List Int)), PyData.canLayAll0 (l.map dLL) = true
  | [] => rfl
  | n :: r => by
    show (PyData.canLay0 (dLL n) && PyData.canLayAll0 (r.map dLL)) = true
    rw [lay_lists3 r, SeqAt.canLay_of_shaped (shaped_lists n)]
    rfl
theorem depth_lists3 : ∀ l : List (List (List Int)), PyData.depthAll (l.map dLL) ≤ 2
  | [] => by simp [PyData.depthAll]
  | n :: r => by
    show PyData.depthAll (dLL n :: r.map dLL) ≤ 2
    rw [PyData.depthAll, PyData.depth]
    have := depth_lists3 r
    have := depth_lists n
    omega
theorem shaped_lists3 (l : List (List (List Int))) : SeqAt.shaped (dLLL l) = true := by
  unfold SeqAt.shaped
  rw [Bool.and_eq_true_iff]
  constructor
  · rw [PyData.canLay0]
    exact lay_lists3 l
  · apply decide_eq_true
    rw [PyData.depth]
    have := depth_lists3 l
    omega
theorem eqv_isN (l : List PyData) : PyData.eqv (.list l) (.list []) = l.isEmpty := by
  cases l with
  | nil => exact eqv_lists []
  | cons d r => rfl
theorem rowsP_eq {a b : List (List Int)} (hp : a.Perm b) (ha : a.Pairwise (· ≤ ·)) (hb : b.Pairwise (· ≤ ·)) : a = b := List.Perm.eq_of_pairwise (fun x y _ _ h1 h2 => List.le_antisymm h1 h2) ha hb hp
def spTooNear : Sp := fun vs H Q _ => ∃ (h o : Addr) (w : Str) (n : Nat) (d : Int) (ps : List (Addr × List Int)) (xs : List Int), vs = [.str w, .int d, .ref h, .ref o] ∧ IsWay w ∧ RP H h ps ∧ (∀ r ∈ rws ps, IsOrd n r) ∧ ps.length ≤ 120 ∧ H o = some (.lst (xs.map V.int)) ∧ IsOrd n xs ∧ 1 ≤ n ∧ n ≤ 12 ∧
  ∀ (l : Addr) (qs : List (Addr × List Int)) (H' : Hp), (rws qs).Perm (nearR w xs d (rws ps)) → (rws qs).Pairwise (· ≤ ·) → NewRows H H' l qs → Same H H' → Q (.ref l) H'
def spFreeL : Sp := fun vs H Q _ => ∃ (D h : Addr) (w : Str) (n : Nat) (d : Int) (ps : List (Addr × List Int)), vs = [.ref D, .str w, .int n, .int d, .ref h] ∧ DqAt H D ∧ RP H h ps ∧ h ≠ D ∧ (∀ p ∈ ps, p.1 ≠ D) ∧ (∀ r ∈ rws ps, IsOrd n r) ∧ ps.length ≤ 120 ∧ 1 ≤ n ∧ n ≤ 12 ∧
  ∀ (ns : List Int) (l : Addr) (H' : Hp), IsOrd n ns → H l = none → H' l = some (.lst (ns.map V.int)) → l ≠ D → DqAt H' D → KeepD D H H' → Q (.ref l) H'
section
variable {P : Program} {w : World} {K : PySem.W.Frag} {mg : Str → Option Value} {base : Heap}
end
end Fo
namespace Fo
open PySem PySem.Spec PyProof.Rows L2
/-! k73: the law's own lists, beside a Lister -/
def srt (rs : List (List Int)) : List (List Int) := (rowsR (rs.map fun r => ((0 : Addr), r))).map (·.2)
theorem srt_perm (rs : List (List Int)) : (srt rs).Perm rs := by
  have h := (rowsR_perm (rs.map fun r => ((0 : Addr), r))).map (·.2)
  rw [List.map_map] at h
  have e : rs.map ((·.2) ∘ fun r => ((0 : Addr), r)) = rs := List.map_id _
  rw [e] at h
  exact h
theorem srt_nil : srt [] = [] := List.eq_nil_of_length_eq_zero (by rw [(srt_perm []).length_eq]; rfl)
theorem srt_sorted (rs : List (List Int)) : (srt rs).Pairwise (· ≤ ·) := rowsR_sorted _
theorem srt_eq {a rs : List (List Int)} (hp : a.Perm rs) (ha : a.Pairwise (· ≤ ·)) : a = srt rs := rowsP_eq (hp.trans (srt_perm rs).symm) ha (srt_sorted rs)
theorem srt_filter (f : List Int → Bool) (rs : List (List Int)) : (srt rs).filter f = srt (rs.filter f) := srt_eq ((srt_perm rs).filter f) ((srt_sorted rs).filter f)
theorem erase_filter {x : List Int} : ∀ {l : List (List Int)} {j : Nat}, l.Nodup → l[j]? = some x → l.eraseIdx j = l.filter fun r => !decide (r = x)
  | [], _, _, h => by simp at h
  | y :: l, 0, hn, h => by
    obtain rfl : y = x := Option.some.inj h
    obtain ⟨h1, h2⟩ := List.nodup_cons.mp hn
    rw [List.filter_cons, if_neg (by simp), List.eraseIdx_cons_zero]
    exact (List.filter_eq_self.mpr fun r hr => by
      have : r ≠ y := fun z => h1 (z ▸ hr)
      simp [this]).symm
  | y :: l, j + 1, hn, h => by
    obtain ⟨h1, h2⟩ := List.nodup_cons.mp hn
    have hx : l[j]? = some x := by simpa using h
    have ne : y ≠ x := fun z => h1 (z ▸ List.mem_of_getElem? hx)
    rw [List.filter_cons, if_pos (by simp [ne]), List.eraseIdx_cons_succ, erase_filter h2 hx]
theorem tops_ne {a e D h A : Addr} {l : List Addr} (nd : (a :: e :: D :: h :: A :: l).Nodup) : (a ≠ e ∧ a ≠ D ∧ a ≠ h ∧ a ≠ A ∧ e ≠ D ∧ e ≠ h ∧ e ≠ A ∧ D ≠ h ∧ D ≠ A ∧ h ≠ A) ∧ a ∉ l ∧ e ∉ l ∧ D ∉ l ∧ h ∉ l ∧ A ∉ l ∧ l.Nodup := by
  simp only [List.nodup_cons, List.mem_cons, not_or] at nd
  grind
theorem LsAt.out {C : Addr} {H H' : Hp} {a e y : Addr} {X : List Addr} {w : Str} {n : Nat} {d : Int} {rs : List (List Int)} {ss : List (List (List Int))} (L : LsAt C H a e X w n d rs ss) (k : ∀ b o, H b = some o → b ≠ y → H' b = some o) (hy : y ∈ X) (ha : a ≠ y) (he : e ≠ y) (ty : ∃ o, H' y = some o) : LsAt C H' a e X w n d rs ss := by
  obtain ⟨⟨dx, t, ps, st, e1, e2, e3, e4, e5, e6, eX, tX, pX, sX⟩, tr, r⟩ := L
  have rk : ∀ {t : Addr} {ps : List (Addr × List Int)}, RP H t ps → t ∉ X → (∀ p ∈ ps, p.1 ∉ X) → RP H' t ps := fun h h1 h2 => ⟨k _ _ h.1 fun z => h1 (z ▸ hy), fun p hp => k _ _ (h.2 p hp) fun z => h2 p hp (z ▸ hy)⟩
  refine ⟨⟨dx, t, ps, st, k _ _ e1 ha, k _ _ e2 he, rk e3 tX pX, e4, fun q hq => rk (e5 q hq) (sX q hq).1 (sX q hq).2, e6, eX, tX, pX, sX⟩, fun x hx => ?_, by assumption, by assumption, by assumption, by assumption, by assumption, by assumption⟩
  by_cases c : x = y
  · exact c ▸ ty
  · obtain ⟨o, ho⟩ := tr x hx
    exact ⟨o, k x o ho c⟩
theorem LsAt.sub {C : Addr} {H : Hp} {a e : Addr} {X X' : List Addr} {w : Str} {n : Nat} {d : Int} {rs : List (List Int)} {ss : List (List (List Int))} (L : LsAt C H a e X w n d rs ss) (h : ∀ x ∈ X', x ∈ X) (he : e ∈ X') : LsAt C H a e X' w n d rs ss := by
  obtain ⟨⟨dx, t, ps, st, e1, e2, e3, e4, e5, e6, eX, tX, pX, sX⟩, tr, r⟩ := L
  exact ⟨⟨dx, t, ps, st, e1, e2, e3, e4, e5, e6, he, fun z => tX (h _ z), fun p hp z => pX p hp (h _ z), fun q hq => ⟨fun z => (sX q hq).1 (h _ z), fun p hp z => (sX q hq).2 p hp (h _ z)⟩⟩, fun x hx => tr x (h x hx), by assumption, by assumption, by assumption, by assumption, by assumption, by assumption⟩
theorem LsAt.grow {C : Addr} {H H' : Hp} {a e y : Addr} {X : List Addr} {w : Str} {n : Nat} {d : Int} {rs : List (List Int)} {ss : List (List (List Int))} (L : LsAt C H a e X w n d rs ss) (s : Same H H') (ny : H y = none) (ty : ∃ o, H' y = some o) : LsAt C H' a e (y :: X) w n d rs ss := by
  obtain ⟨⟨dx, t, ps, st, e1, e2, e3, e4, e5, e6, eX, tX, pX, sX⟩, tr, r⟩ := L
  have ne : ∀ {b : Addr} {o : HO}, H b = some o → b ∉ X → b ∉ y :: X := fun {b o} h1 h2 z => by
    rcases List.mem_cons.mp z with z | z
    · rw [z, ny] at h1
      cases h1
    · exact h2 z
  refine ⟨⟨dx, t, ps, st, s _ _ e1, s _ _ e2, e3.same s, e4, fun q hq => (e5 q hq).same s, e6, List.mem_cons_of_mem _ eX, ne e3.1 tX, fun p hp => ne (e3.2 p hp) (pX p hp), fun q hq => ⟨ne (e5 q hq).1 (sX q hq).1, fun p hp => ne ((e5 q hq).2 p hp) ((sX q hq).2 p hp)⟩⟩, fun x hx => ?_, by assumption, by assumption, by assumption, by assumption, by assumption, by assumption⟩
  rcases List.mem_cons.mp hx with rfl | hx
  · exact ty
  · exact (tr x hx).imp fun o h => s _ _ h
theorem DqAt.keep {H H' : Hp} {d : Addr} (h : DqAt H d) (k : ∀ o, H d = some o → H' d = some o) : DqAt H' d := by
  obtain ⟨ms, e, r⟩ := h
  exact ⟨ms, k _ e, r⟩
theorem sub4 {e D h A x : Addr} (hx : x ∈ [e, D, h, A]) : x ∈ [A, h, e, D] := by
  simp only [List.mem_cons, List.not_mem_nil, or_false] at hx ⊢
  grind
abbrev tops (D a e h A : Addr) (st : List (Addr × List (Addr × List Int))) : List Addr := a :: e :: D :: h :: A :: st.map (·.1)
structure LwAt (C : Addr) (H : Hp) (D a e h A : Addr) (w : Str) (n : Nat) (d : Int) (rs : List (List Int)) (ss : List (List (List Int))) (ps : List (Addr × List Int)) (st : List (Addr × List (Addr × List Int))) (mp ms : Nat) : Prop where
  dq : DqAt H D
  ls : LsAt C H a e (e :: D :: h :: A :: st.map (·.1)) w n d rs ss
  hh : RP H h ps
  hA : H A = some (.lst (st.map fun q => V.ref q.1))
  hst : ∀ q ∈ st, RP H q.1 q.2
  nd : (tops D a e h A st).Nodup
  nr : ∀ p ∈ ps, p.1 ∉ tops D a e h A st
  nrs : ∀ q ∈ st, ∀ p ∈ q.2, p.1 ∉ tops D a e h A st
  l1 : ps.length ≤ mp
  l2 : st.length ≤ ms
  l3 : ∀ q ∈ st, q.2.length ≤ mp
  u1 : (rws ps).Nodup
  u2 : ∀ q ∈ st, (rws q.2).Nodup
  od : ∀ r ∈ rws ps, IsOrd n r
  ods : ∀ q ∈ st, ∀ r ∈ rws q.2, IsOrd n r
section
variable {C : Addr} {H H' : Hp} {D a e h A : Addr} {w : Str} {n : Nat} {d : Int} {rs rs' : List (List Int)} {ss ss' : List (List (List Int))} {ps : List (Addr × List Int)} {st : List (Addr × List (Addr × List Int))} {mp ms mp' ms' : Nat}
theorem LwAt.same (W : LwAt C H D a e h A w n d rs ss ps st mp ms) (s : Same H H') : LwAt C H' D a e h A w n d rs ss ps st mp ms :=
  { W with dq := W.dq.keep (fun o h => s _ _ h), ls := W.ls.same s, hh := W.hh.same s, hA := s _ _ W.hA, hst := fun q hq => (W.hst q hq).same s }
theorem LwAt.mono (W : LwAt C H D a e h A w n d rs ss ps st mp ms) (h1 : mp ≤ mp') (h2 : ms ≤ ms') : LwAt C H D a e h A w n d rs ss ps st mp' ms' :=
  { W with l1 := Nat.le_trans W.l1 h1, l2 := Nat.le_trans W.l2 h2, l3 := fun q hq => Nat.le_trans (W.l3 q hq) h1 }
theorem LwAt.draw (W : LwAt C H D a e h A w n d rs ss ps st mp ms) (k : KeepD D H H') (q : DqAt H' D) : LwAt C H' D a e h A w n d rs ss ps st mp ms := by
  obtain ⟨⟨n1, n2, n3, n4, n5, n6, n7, n8, n9, n10⟩, m1, m2, m3, m4, m5, m6⟩ := tops_ne W.nd
  have tq : ∃ o, H' D = some o := by obtain ⟨ms, e, _⟩ := q; exact ⟨_, e⟩
  have rD : ∀ {p : Addr}, p ∉ tops D a e h A st → p ≠ D := fun hp z => hp (by rw [z]; simp [tops])
  exact { W with dq := q, ls := W.ls.out k (by simp) n2 n5 tq, hh := ⟨k _ _ W.hh.1 n8.symm, fun p hp => k _ _ (W.hh.2 p hp) (rD (W.nr p hp))⟩, hA := k _ _ W.hA n9.symm, hst := fun q hq => ⟨k _ _ (W.hst q hq).1 fun z => m3 (z ▸ List.mem_map_of_mem hq), fun p hp => k _ _ ((W.hst q hq).2 p hp) (rD (W.nrs q hq p hp))⟩ }
theorem LwAt.lst (W : LwAt C H D a e h A w n d rs ss ps st mp ms) (k : KpL a e H H') (L : LsAt C H' a e (e :: D :: h :: A :: st.map (·.1)) w n d rs' ss') : LwAt C H' D a e h A w n d rs' ss' ps st mp ms := by
  obtain ⟨⟨n1, n2, n3, n4, n5, n6, n7, n8, n9, n10⟩, m1, m2, m3, m4, m5, m6⟩ := tops_ne W.nd
  have rA : ∀ {p : Addr}, p ∉ tops D a e h A st → p ≠ a ∧ p ≠ e := fun hp => ⟨fun z => hp (by rw [z]; simp [tops]), fun z => hp (by rw [z]; simp [tops])⟩
  exact { W with dq := W.dq.keep (fun o h => k _ _ h n2.symm n5.symm), ls := L, hh := ⟨k _ _ W.hh.1 n3.symm n6.symm, fun p hp => k _ _ (W.hh.2 p hp) (rA (W.nr p hp)).1 (rA (W.nr p hp)).2⟩, hA := k _ _ W.hA n4.symm n7.symm, hst := fun q hq => ⟨k _ _ (W.hst q hq).1 (fun z => m1 (z ▸ List.mem_map_of_mem hq)) (fun z => m2 (z ▸ List.mem_map_of_mem hq)), fun p hp => k _ _ ((W.hst q hq).2 p hp) (rA (W.nrs q hq p hp)).1 (rA (W.nrs q hq p hp)).2⟩ }
/-- held changed in place -/
theorem LwAt.held {qs : List (Addr × List Int)} (W : LwAt C H D a e h A w n d rs ss ps st mp ms) (hq : ∀ p ∈ qs, H p.1 = some (.lst (p.2.map V.int))) (nq : ∀ p ∈ qs, p.1 ∉ tops D a e h A st) (lq : qs.length ≤ mp') (hm : mp ≤ mp') (uq : (rws qs).Nodup) (oq : ∀ r ∈ rws qs, IsOrd n r) : LwAt C (upd H h (.lst (qs.map fun p => V.ref p.1))) D a e h A w n d rs ss qs st mp' ms := by
  obtain ⟨⟨n1, n2, n3, n4, n5, n6, n7, n8, n9, n10⟩, m1, m2, m3, m4, m5, m6⟩ := tops_ne W.nd
  have k : ∀ b o, H b = some o → b ≠ h → (upd H h (.lst (qs.map fun p => V.ref p.1))) b = some o := fun b o e z => by rw [upd_ne z]; exact e
  have rh : ∀ {p : Addr}, p ∉ tops D a e h A st → p ≠ h := fun hp z => hp (by rw [z]; simp [tops])
  exact { dq := W.dq.keep (fun o h => k _ _ h n8), ls := W.ls.out k (by simp) n3 n6 ⟨_, upd_same⟩, hh := ⟨upd_same, fun p hp => k _ _ (hq p hp) (rh (nq p hp))⟩, hA := k _ _ W.hA n10.symm, hst := fun q hq => ⟨k _ _ (W.hst q hq).1 fun z => m4 (z ▸ List.mem_map_of_mem hq), fun p hp => k _ _ ((W.hst q hq).2 p hp) (rh (W.nrs q hq p hp))⟩,
          nd := W.nd, nr := nq, nrs := W.nrs, l1 := lq, l2 := W.l2, l3 := fun q hq => Nat.le_trans (W.l3 q hq) hm, u1 := uq, u2 := W.u2, od := oq, ods := W.ods }
theorem LwAt.tr (W : LwAt C H D a e h A w n d rs ss ps st mp ms) : ∀ x ∈ tops D a e h A st, ∃ o, H x = some o := fun x hx => by
  rcases List.mem_cons.mp hx with rfl | hx
  · obtain ⟨dx, t, ps, st, e1, _⟩ := W.ls.ex
    exact ⟨_, e1⟩
  · exact W.ls.tr x hx
theorem LwAt.new (W : LwAt C H D a e h A w n d rs ss ps st mp ms) {x : Addr} (nx : H x = none) : x ∉ tops D a e h A st := fun hx => by
  obtain ⟨o, ho⟩ := W.tr x hx
  rw [nx] at ho
  cases ho
/-- a copy of held put ahead -/
theorem LwAt.ahead {c : Addr} (W : LwAt C H D a e h A w n d rs ss ps st mp ms) (nc : H c = none) (hc : H' c = some (.lst (ps.map fun p => V.ref p.1))) (s : Same H H') : LwAt C (upd H' A (.lst ((st ++ [(c, ps)]).map fun q => V.ref q.1))) D a e h A w n d rs ss ps (st ++ [(c, ps)]) mp (ms + 1) := by
  have nct := W.new nc
  have W' := W.same s
  obtain ⟨⟨n1, n2, n3, n4, n5, n6, n7, n8, n9, n10⟩, m1, m2, m3, m4, m5, m6⟩ := tops_ne W.nd
  have k : ∀ b o, H' b = some o → b ≠ A → (upd H' A (.lst ((st ++ [(c, ps)]).map fun q => V.ref q.1))) b = some o := fun b o e z => by rw [upd_ne z]; exact e
  have rA : ∀ {p : Addr}, p ∉ tops D a e h A st → p ≠ A := fun hp z => hp (by rw [z]; simp [tops])
  have et : ∀ x, x ∈ tops D a e h A (st ++ [(c, ps)]) ↔ x ∈ tops D a e h A st ∨ x = c := fun x => by
    simp only [tops, List.map_append, List.map_cons, List.map_nil, List.mem_cons, List.mem_append, List.not_mem_nil, or_false]
    grind
  have row : ∀ {p : Addr × List Int}, H p.1 = some (.lst (p.2.map V.int)) → p.1 ∉ tops D a e h A st → p.1 ∉ tops D a e h A (st ++ [(c, ps)]) := fun {p} hp h1 z => by
    rcases (et _).mp z with z | z
    · exact h1 z
    · rw [z, nc] at hp
      cases hp
  have L1 : LsAt C H' a e (c :: e :: D :: h :: A :: st.map (·.1)) w n d rs ss := W.ls.grow s nc ⟨_, hc⟩
  have L2 : LsAt C H' a e (e :: D :: h :: A :: (st ++ [(c, ps)]).map (·.1)) w n d rs ss := L1.sub (fun x hx => by
    simp only [List.map_append, List.map_cons, List.map_nil, List.mem_cons, List.mem_append, List.not_mem_nil, or_false] at hx ⊢
    grind) List.mem_cons_self
  have mem : ∀ {q : Addr × List (Addr × List Int)}, q ∈ st ++ [(c, ps)] → q ∈ st ∨ q = (c, ps) := fun hq => (List.mem_append.mp hq).imp id List.mem_singleton.mp
  refine { dq := W'.dq.keep (fun o h => k _ _ h n9), ls := L2.out k (by simp) n4 n7 ⟨_, upd_same⟩, hh := ⟨k _ _ W'.hh.1 n10, fun p hp => k _ _ (W'.hh.2 p hp) (rA (W.nr p hp))⟩, hA := upd_same, hst := fun q hq => ?_, nd := ?_, nr := fun p hp => row (W.hh.2 p hp) (W.nr p hp), nrs := fun q hq p hp => ?_, l1 := W.l1, l2 := by rw [List.length_append]; exact Nat.succ_le_succ W.l2, l3 := fun q hq => ?_, u1 := W.u1, u2 := fun q hq => ?_, od := W.od, ods := fun q hq => ?_ }
  · rcases mem hq with hq | rfl
    · exact ⟨k _ _ (W'.hst q hq).1 fun z => m5 (z ▸ List.mem_map_of_mem hq), fun p hp => k _ _ ((W'.hst q hq).2 p hp) (rA (W.nrs q hq p hp))⟩
    · exact ⟨k _ _ hc fun z => nct (by rw [show c = A from z]; simp [tops]), fun p hp => k _ _ (W'.hh.2 p hp) (rA (W.nr p hp))⟩
  · have e1 : tops D a e h A (st ++ [(c, ps)]) = tops D a e h A st ++ [c] := by simp [tops]
    rw [e1]
    exact List.nodup_append.mpr ⟨W.nd, by simp, fun x hx y hy z => by rw [List.mem_singleton.mp hy] at z; exact nct (z ▸ hx)⟩
  · rcases mem hq with hq | rfl
    · exact row ((W.hst q hq).2 p hp) (W.nrs q hq p hp)
    · exact row (W.hh.2 p hp) (W.nr p hp)
  · rcases mem hq with hq | rfl
    · exact W.l3 q hq
    · exact W.l1
  · rcases mem hq with hq | rfl
    · exact W.u2 q hq
    · exact W.u1
  · rcases mem hq with hq | rfl
    · exact W.ods q hq
    · exact W.od
/-- the last put ahead taken up -/
theorem LwAt.back {c : Addr} {qs : List (Addr × List Int)} (W : LwAt C H D a e h A w n d rs ss ps (st ++ [(c, qs)]) mp ms) : LwAt C (upd H A (.lst (st.map fun q => V.ref q.1))) D a e c A w n d rs ss qs st mp ms := by
  obtain ⟨⟨n1, n2, n3, n4, n5, n6, n7, n8, n9, n10⟩, m1, m2, m3, m4, m5, m6⟩ := tops_ne W.nd
  have k : ∀ b o, H b = some o → b ≠ A → (upd H A (.lst (st.map fun q => V.ref q.1))) b = some o := fun b o e z => by rw [upd_ne z]; exact e
  have rA : ∀ {p : Addr}, p ∉ tops D a e h A (st ++ [(c, qs)]) → p ≠ A := fun hp z => hp (by rw [z]; simp [tops])
  have et : ∀ x, x ∈ tops D a e c A st → x ∈ tops D a e h A (st ++ [(c, qs)]) := fun x hx => by
    simp only [tops, List.map_append, List.map_cons, List.map_nil, List.mem_cons, List.mem_append, List.not_mem_nil, or_false] at hx ⊢
    grind
  have mc : (c, qs) ∈ st ++ [(c, qs)] := List.mem_append_right _ List.mem_cons_self
  have ml : ∀ {q}, q ∈ st → q ∈ st ++ [(c, qs)] := fun hq => List.mem_append_left _ hq
  have L2 : LsAt C H a e (e :: D :: c :: A :: st.map (·.1)) w n d rs ss := W.ls.sub (fun x hx => by
    simp only [List.map_append, List.map_cons, List.map_nil, List.mem_cons, List.mem_append, List.not_mem_nil, or_false] at hx ⊢
    grind) List.mem_cons_self
  have rp : ∀ q ∈ st ++ [(c, qs)], RP (upd H A (.lst (st.map fun q => V.ref q.1))) q.1 q.2 := fun q hq => ⟨k _ _ (W.hst q hq).1 fun z => m5 (z ▸ List.mem_map_of_mem hq), fun p hp => k _ _ ((W.hst q hq).2 p hp) (rA (W.nrs q hq p hp))⟩
  refine { dq := W.dq.keep (fun o h => k _ _ h n9), ls := L2.out k (by simp) n4 n7 ⟨_, upd_same⟩, hh := rp _ mc, hA := upd_same, hst := fun q hq => rp q (ml hq), nd := ?_, nr := fun p hp z => W.nrs _ mc p hp (et _ z), nrs := fun q hq p hp z => W.nrs q (ml hq) p hp (et _ z), l1 := W.l3 _ mc, l2 := ?_, l3 := fun q hq => W.l3 q (ml hq), u1 := W.u2 _ mc, u2 := fun q hq => W.u2 q (ml hq), od := W.ods _ mc, ods := fun q hq => W.ods q (ml hq) }
  · have hn := W.nd
    simp only [tops, List.map_append, List.map_cons, List.map_nil, List.nodup_cons, List.nodup_append, List.mem_cons, List.mem_append, List.not_mem_nil, or_false, not_or] at hn ⊢
    grind
  · have := W.l2
    rw [List.length_append] at this
    exact Nat.le_of_succ_le this
theorem LsAt.obj {X : List Addr} (L : LsAt C H a e X w n d rs ss) (m : Str) (h1 : (m == "way") = false) (h2 : (m == "n") = false) (h3 : (m == "d") = false) (h4 : (m == "taken") = false) (h5 : (m == "earlier") = false) : ∃ dx fs, H a = some (.ins C dx fs) ∧ fs.lookup m = none := by
  obtain ⟨dx, t, ps, st, ha, _⟩ := L.ex
  exact ⟨dx, _, ha, fl_no h1 h2 h3 h4 h5⟩
theorem tst2 {K : PySem.W.Frag} {σ : L2.St} {Q : Bool → Hp → Prop} {i s : Nat} {x c0 : Int} {h : Addr} {ds : List PyData} (hi : ∀ Q' : VK, Q' (.int x) H → tVar i σ H Q') (hs : ∀ Q' : VK, Q' (.ref h) H → tVar s σ H Q') (hd : ∀ H1, Same H H1 → Dp K H1 (.ref h) (.list ds)) (sh : SeqAt.shaped (.list ds) = true)
    (qt : ∀ H1, Same H H1 → x = c0 → ds ≠ [] → Q true H1) (qf : ∀ H1, Same H H1 → Q false H1) : tAnd (tTest (tOp rEq (tVar i) (tC (.int c0)))) (tTest (tOp (rNeD K) (tVar s) (tLst tNil))) σ H Q := by
  apply hi
  refine ⟨rfl, _, rfl, ite2 (fun c => ?_) (fun _ => qf H (Same.refl _))⟩
  have c1 : x = c0 := V.int.inj (of_decide_eq_true c)
  apply hs
  refine ⟨by decide, fun u nu => ?_⟩
  have s1 := same_new (o := .lst []) nu
  refine ⟨_, _, hd _ s1, dp_list (ns := []) upd_same, sh, shaped_list _, _, rfl, ?_⟩
  cases ds with
  | nil => 
    rw [show PyData.eqv (.list []) (dL []) = true from eqv_list []]
    exact qf _ s1
  | cons z r => exact qt _ s1 c1 (by simp)
theorem rp_dp3 {K : PySem.W.Frag} : ∀ {st : List (Addr × List (Addr × List Int))}, (∀ q ∈ st, RP H q.1 q.2) → DpAll K H (st.map fun q => V.ref q.1) ((st.map fun q => rws q.2).map dLL)
  | [], _ => .nil
  | q :: st, h => .cons ((h q List.mem_cons_self).dp) (rp_dp3 fun r hr => h r (List.mem_cons_of_mem _ hr))
/-- at the bottom of all stands nothing -/
def HD (st : List (Addr × List (Addr × List Int))) (ps : List (Addr × List Int)) : Prop := ((st.map fun q => rws q.2) ++ [rws ps]).head? = some []
theorem HD.push {c : Addr} {qs : List (Addr × List Int)} (h : HD st ps) : HD (st ++ [(c, ps)]) qs := by
  unfold HD at *
  rw [List.map_append]
  cases st with
  | nil => exact h
  | cons q r => exact h
theorem HD.pop {c : Addr} {qs : List (Addr × List Int)} (h : HD (st ++ [(c, qs)]) ps) : HD st qs := by
  unfold HD at *
  rw [List.map_append] at h
  cases st with
  | nil => exact h
  | cons q r => exact h
theorem HD.nil (h : HD [] ps) : rws ps = [] := Option.some.inj h
theorem erase_map {α β : Type} (f : α → β) : ∀ (l : List α) (j : Nat), (l.map f).eraseIdx j = (l.eraseIdx j).map f
  | [], j => by simp
  | a :: r, 0 => by simp
  | a :: r, j + 1 => by
    have ih := erase_map f r j
    simp [ih]
theorem mod_ix (v : Int) {m : Nat} (h : 0 < m) : ∃ j : Nat, v % ((m : Nat) : Int) = (j : Int) ∧ j < m := by
  have h1 := mod_b v (m := ((m : Nat) : Int)) (by omega)
  exact ⟨(v % ((m : Nat) : Int)).toNat, by omega, by omega⟩
theorem tops_snoc {c x : Addr} {qs : List (Addr × List Int)} (hx : x ∈ tops D a e h A (st ++ [(c, qs)])) : x ∈ tops D a e h A st ∨ x = c := by
  simp only [tops, List.map_append, List.map_cons, List.map_nil, List.mem_cons, List.mem_append, List.not_mem_nil, or_false] at hx ⊢
  grind
theorem tops_back {c x : Addr} {qs : List (Addr × List Int)} (hx : x ∈ tops D a e c A st) : x ∈ tops D a e h A (st ++ [(c, qs)]) := by
  simp only [tops, List.map_append, List.map_cons, List.map_nil, List.mem_cons, List.mem_append, List.not_mem_nil, or_false] at hx ⊢
  grind
theorem last_of {α : Type} (l : List α) (f : α → V) (x : α) : ((l ++ [x]).map f)[((l ++ [x]).map f).length - 1]? = some (f x) := by
  rw [List.map_append, List.length_append]
  show (l.map f ++ [f x])[(l.map f).length + 1 - 1]? = _
  rw [Nat.add_sub_cancel, List.getElem?_append_right (Nat.le_refl _), Nat.sub_self]
  rfl
theorem last_drop {α : Type} (l : List α) (f : α → V) (x : α) : ((l ++ [x]).map f).dropLast = l.map f := by
  rw [List.map_append]
  exact List.dropLast_concat
theorem row_srt (ps : List (Addr × List Int)) : rws (rowsR ps) = srt (rws ps) := srt_eq ((rowsR_perm ps).map _) (rowsR_sorted ps)
theorem eqv_ne {l : List (List Int)} (h : l ≠ []) : PyData.eqv (dLL l) (dL []) = false := by
  cases l with
  | nil => exact absurd rfl h
  | cons => rfl
theorem srt_len (l : List (List Int)) : (srt l).length = l.length := (srt_perm l).length_eq
theorem LwAt.len (W : LwAt C H D a e h A w n d rs ss ps st mp ms) : (rws ps).length ≤ mp := by rw [List.length_map]; exact W.l1
end
end Fo
namespace Fo
open PySem PySem.Spec PyProof.Rows L2
/-! k75: lists filled one by one, and how long they are -/
theorem fill_skip {w : Str} {d : Int} {acc : List (List Int)} : ∀ {l : List (List Int)}, (∀ o ∈ l, farAll w d o acc = false) → l.foldl (stepF w d) acc = acc
  | [], _ => rfl
  | o :: l, h => by
    rw [List.foldl_cons]
    have e : stepF w d acc o = acc := by
      unfold stepF
      rw [h o List.mem_cons_self]
      rfl
    rw [e]
    exact fill_skip fun x m => h x (List.mem_cons_of_mem _ m)
def FillI (w : Str) (d : Int) (os fs : List (List Int)) : Prop := ∃ pre post, os = pre ++ post ∧ fs = firstL w d pre ∧ ∀ o ∈ pre, farAll w d o fs = false
theorem FillI.start (w : Str) (d : Int) (os : List (List Int)) : FillI w d os [] := ⟨[], os, rfl, rfl, fun _ m => absurd m List.not_mem_nil⟩
theorem firstL_app (w : Str) (d : Int) (a b : List (List Int)) : firstL w d (a ++ b) = b.foldl (stepF w d) (firstL w d a) := by
  unfold firstL
  rw [List.foldl_append]
theorem FillI.sub {w : Str} {d : Int} {os fs : List (List Int)} (h : FillI w d os fs) : fs.Sublist os := by
  obtain ⟨pre, post, rfl, rfl, _⟩ := h
  have z := firstL_sub w d pre pre.length (Nat.le_refl _)
  rw [List.take_length] at z
  exact z.trans (List.sublist_append_left _ _)
theorem far_snoc5 {w : Str} {d : Int} {rs : List (List Int)} {o x : List Int} : farAll w d o (rs ++ [x]) = (farAll w d o rs && decide (d ≤ farW w o x)) := by
  unfold farAll
  rw [List.all_append]
  simp
theorem FillI.step {w : Str} {n : Nat} {d : Int} {os fs xs : List (List Int)} {x : List Int} (h : FillI w d os fs) (hn : 1 ≤ n) (hd : 1 ≤ d) (ho : ∀ o ∈ os, IsOrd n o) (e : (os.filter fun o => farAll w d o fs) = x :: xs) : FillI w d os (fs ++ [x]) ∧ farAll w d x fs = true ∧ x ∈ os := by
  obtain ⟨pre, post, rfl, hf, hp⟩ := h
  have e0 : (pre.filter fun o => farAll w d o fs) = [] := List.filter_eq_nil_iff.mpr fun o m => by rw [hp o m]; decide
  rw [List.filter_append, e0, List.nil_append] at e
  obtain ⟨l1, l2, rfl, h1, h2, _⟩ := List.filter_eq_cons_iff.mp e
  have h1' : ∀ o ∈ l1, farAll w d o fs = false := fun o m => by
    have := h1 o m
    cases hb : farAll w d o fs with
    | true => exact absurd hb this
    | false => rfl
  have mx : x ∈ pre ++ (l1 ++ x :: l2) := List.mem_append_right _ (List.mem_append_right _ List.mem_cons_self)
  refine ⟨⟨pre ++ l1 ++ [x], l2, by simp, ?_, fun o m => ?_⟩, h2, mx⟩
  · rw [firstL_app, firstL_app, ← hf, fill_skip h1']
    show _ = stepF w d fs x
    unfold stepF
    rw [if_pos h2]
  · rw [far_snoc5]
    rcases List.mem_append.mp m with m | m
    · rcases List.mem_append.mp m with m | m
      · rw [hp o m]; rfl
      · rw [h1' o m]; rfl
    · rw [List.mem_singleton.mp m, farW_self (ho x mx) hn, decide_eq_false (by omega), Bool.and_false]
theorem FillI.done {w : Str} {d : Int} {os fs : List (List Int)} (h : FillI w d os fs) (e : (os.filter fun o => farAll w d o fs) = []) : firstL w d os = fs := by
  obtain ⟨pre, post, rfl, hf, hp⟩ := h
  rw [firstL_app, ← hf]
  refine fill_skip fun o m => ?_
  have := List.filter_eq_nil_iff.mp e o (List.mem_append_right _ m)
  cases hb : farAll w d o fs with
  | true => exact absurd hb this
  | false => rfl
theorem filter_lt {α : Type} {p q : α → Bool} {x : α} : ∀ {l : List α}, (∀ y, q y = true → p y = true) → x ∈ l → p x = true → q x = false → (l.filter q).length < (l.filter p).length
  | [], _, m, _, _ => absurd m List.not_mem_nil
  | y :: l, h, m, hp, hq => by
    have le : ∀ l : List α, (l.filter q).length ≤ (l.filter p).length := fun l => by
      induction l with
      | nil => exact Nat.le_refl _
      | cons z l ih =>
        rw [List.filter_cons, List.filter_cons]
        cases hz : q z with
        | true => rw [h z hz]; simpa using ih
        | false => cases p z <;> simp <;> omega
    rw [List.filter_cons, List.filter_cons]
    rcases List.mem_cons.mp m with rfl | m
    · rw [hp, hq]
      have := le l
      simp
      omega
    · have ih := filter_lt h m hp hq
      cases hz : q y with
      | true => rw [h y hz]; simpa using ih
      | false => cases p y <;> simp <;> omega
theorem free_lt {w : Str} {n : Nat} {d : Int} {fs : List (List Int)} {x : List Int} (hn : 1 ≤ n) (hd : 1 ≤ d) (mx : x ∈ allK n n) (hx : farAll w d x fs = true) : (freeL w n d (fs ++ [x])).length < (freeL w n d fs).length := by
  unfold freeL
  refine filter_lt (x := x) (fun y hy => ?_) mx hx ?_
  · rw [far_snoc5, Bool.and_eq_true] at hy
    exact hy.1
  · rw [far_snoc5, farW_self (all_ord mx) hn, decide_eq_false (by omega), Bool.and_false]
/-- each order of all is there or too near to one that is -/
def Full (w : Str) (n : Nat) (d : Int) (rs : List (List Int)) : Prop := freeL w n d rs = []
theorem full_near {w : Str} {n : Nat} {d : Int} {rs : List (List Int)} (h : Full w n d rs) {o : List Int} (m : o ∈ allK n n) : ∃ f ∈ rs, farW w o f ≤ d - 1 := by
  have hb := List.filter_eq_nil_iff.mp h o m
  unfold farAll at hb
  rw [List.all_eq_true] at hb
  have : ∃ f ∈ rs, ¬ d ≤ farW w o f := Classical.byContradiction fun z => hb fun f mf => decide_eq_true (Classical.byContradiction fun y => z ⟨f, mf, y⟩)
  obtain ⟨f, mf, hf⟩ := this
  exact ⟨f, mf, by omega⟩
theorem least_full {w : Str} {n : Nat} {d : Int} {rs : List (List Int)} (hw : IsWay w) (h1 : 1 ≤ n) (h6 : n ≤ 6) (hd : 1 ≤ d) (ho : ∀ x ∈ rs, IsOrd n x) (hf : Full w n d rs) : leastB w n d ≤ ((rs.length : Nat) : Int) := by
  have e := in_len hw h1 h6 (show 0 ≤ d - 1 by omega)
  have p := in_pos hw h1 h6 (show 0 ≤ d - 1 by omega)
  have h := cover_len (fun f o => decide (farW w f o ≤ d - 1)) rs (allK n n) fun o mo => by
    obtain ⟨f, mf, hf⟩ := full_near hf mo
    refine ⟨f, mf, decide_eq_true ?_⟩
    rw [farW_turn (all_ord mo) (ho f mf) h1]
    exact hf
  rw [sum_const (c := (nearL w n (rg n) (d - 1)).length) fun x mx => ?_] at h
  · unfold leastB
    rw [← fac_all n h6]
    refine ceil_le_of (by omega) ?_
    rw [← e]
    exact_mod_cast h
  · have := near_len30 hw (ho x mx) h1 h6 (show 0 ≤ d - 1 by omega)
    unfold nearL at this e ⊢
    omega
theorem firstL_ap {w : Str} {n : Nat} {d : Int} {os : List (List Int)} (hn : 1 ≤ n) (hd : 1 ≤ d) (ho : ∀ o ∈ os, IsOrd n o) : UpA w d (firstL w d os) := upA_first w d os
theorem ap_up {w : Str} {n : Nat} {d : Int} {rs : List (List Int)} (hn : 1 ≤ n) (ho : ∀ r ∈ rs, IsOrd n r) (h : ApL w d rs) : UpA w d rs := List.Pairwise.imp_of_mem (fun {a b} ma mb hab => by
  rw [farW_turn (ho a ma) (ho b mb) hn]; exact hab) h
theorem up_ap {w : Str} {n : Nat} {d : Int} {rs : List (List Int)} (hn : 1 ≤ n) (ho : ∀ r ∈ rs, IsOrd n r) (h : UpA w d rs) : ApL w d rs := List.Pairwise.imp_of_mem (fun {a b} ma mb hab => by
  rw [farW_turn (ho b mb) (ho a ma) hn]; exact hab) h
end Fo
namespace Fo
open PySem PySem.Spec PyProof.Rows L2
/-! the least apart does not hang on the order of the list -/
theorem prs_mem {w : Str} {n : Nat} {rs : List (List Int)} (ho : ∀ r ∈ rs, IsOrd n r) (hn : 1 ≤ n) (nd : rs.Nodup) : ∀ i, i ≤ rs.length → ∀ y, y ∈ prs w rs i ↔ ∃ x, x ∈ rs.take i ∧ ∃ z, z ∈ rs.take i ∧ x ≠ z ∧ y = farW w x z
  | 0, _, y => ⟨fun h => absurd h List.not_mem_nil, fun ⟨x, hx, _⟩ => absurd hx (by rw [List.take_zero]; exact List.not_mem_nil)⟩
  | i + 1, hi, y => by
    have ih := prs_mem (w := w) ho hn nd i (Nat.le_of_succ_le hi) y
    have er : rs[i]? = some (rs[i]'hi) := List.getElem?_eq_getElem hi
    generalize rs[i]'hi = r at er
    have hr : r ∈ rs := List.mem_of_getElem? er
    have et := take_p er
    have nr : r ∉ rs.take i := fun h => by
      have h2 : (rs.take (i + 1)).Nodup := nd.sublist (List.take_sublist _ _)
      rw [et] at h2
      exact (List.nodup_append.mp h2).2.2 r h r (List.mem_singleton.mpr rfl) rfl
    rw [prs_at er, List.mem_append, ih, et]
    constructor
    · rintro (⟨x, hx, z, hz, h⟩ | h)
      · exact ⟨x, List.mem_append_left _ hx, z, List.mem_append_left _ hz, h⟩
      · obtain ⟨o, h1, rfl⟩ := List.mem_map.mp h
        exact ⟨r, List.mem_append_right _ (List.mem_singleton.mpr rfl), o, List.mem_append_left _ h1, fun q => nr (q ▸ h1), rfl⟩
    · rintro ⟨x, hx, z, hz, nxz, rfl⟩
      rcases List.mem_append.mp hx with hx | hx
      · rcases List.mem_append.mp hz with hz | hz
        · exact .inl ⟨x, hx, z, hz, nxz, rfl⟩
        · rw [List.mem_singleton.mp hz]
          refine .inr (List.mem_map.mpr ⟨x, hx, ?_⟩)
          exact (farW_turn (ho x (List.mem_of_mem_take hx)) (ho r hr) hn)
      · rw [List.mem_singleton.mp hx] at nxz ⊢
        rcases List.mem_append.mp hz with hz | hz
        · exact .inr (List.mem_map.mpr ⟨z, hz, rfl⟩)
        · exact absurd (List.mem_singleton.mp hz).symm nxz
theorem prs_perm {w : Str} {n : Nat} {rs qs : List (List Int)} (hp : rs.Perm qs) (ho : ∀ r ∈ rs, IsOrd n r) (hn : 1 ≤ n) (nd : rs.Nodup) (y : Int) : y ∈ prs w rs rs.length ↔ y ∈ prs w qs qs.length := by
  rw [prs_mem ho hn nd _ (Nat.le_refl _), prs_mem (fun r hr => ho r (hp.mem_iff.mpr hr)) hn (hp.nodup_iff.mp nd) _ (Nat.le_refl _), List.take_length, List.take_length]
  constructor
  · rintro ⟨x, hx, z, hz, h⟩
    exact ⟨x, hp.mem_iff.mp hx, z, hp.mem_iff.mp hz, h⟩
  · rintro ⟨x, hx, z, hz, h⟩
    exact ⟨x, hp.mem_iff.mpr hx, z, hp.mem_iff.mpr hz, h⟩
/-- outside of some addresses all stays -/
theorem LsAt.outY {C : Addr} {H H' : Hp} {a e : Addr} {Y : Addr → Prop} {X : List Addr} {w : Str} {n : Nat} {d : Int} {rs : List (List Int)} {ss : List (List (List Int))} (L : LsAt C H a e X w n d rs ss) (k : ∀ b o, H b = some o → ¬ Y b → H' b = some o) (hy : ∀ y, Y y → y ∈ X) (ha : ¬ Y a) (he : ¬ Y e) (ty : ∀ y ∈ X, Y y → ∃ o, H' y = some o) : LsAt C H' a e X w n d rs ss := by
  obtain ⟨⟨dx, t, ps, st, e1, e2, e3, e4, e5, e6, eX, tX, pX, sX⟩, tr, r⟩ := L
  have rk : ∀ {t : Addr} {ps : List (Addr × List Int)}, RP H t ps → t ∉ X → (∀ p ∈ ps, p.1 ∉ X) → RP H' t ps := fun h h1 h2 => ⟨k _ _ h.1 fun z => h1 (hy _ z), fun p hp => k _ _ (h.2 p hp) fun z => h2 p hp (hy _ z)⟩
  refine ⟨⟨dx, t, ps, st, k _ _ e1 ha, k _ _ e2 he, rk e3 tX pX, e4, fun q hq => rk (e5 q hq) (sX q hq).1 (sX q hq).2, e6, eX, tX, pX, sX⟩, fun x hx => ?_, by assumption, by assumption, by assumption, by assumption, by assumption, by assumption⟩
  by_cases c : Y x
  · exact ty x hx c
  · obtain ⟨o, ho⟩ := tr x hx
    exact ⟨o, k x o ho c⟩
end Fo
namespace Fo
open PySem PySem.Spec PyProof.Rows L2
section
variable {P : Program} {w : World} {K : PySem.W.Frag} {mg : Str → Option Value} {base : Heap}
theorem rws_perm {ps qs : List (Addr × List Int)} (h : ps.Perm qs) : (rws ps).Perm (rws qs) := h.map _
theorem scComeL : FnScope ["self", "order", "near", "other"] ["self", "order"] (defScope s_Lister_come) := ⟨rfl, rfl, rfl, by decide +kernel, rfl, by decide +kernel, by decide +kernel⟩
set_option maxHeartbeats 2000000 in
theorem ok_comeL {C_Lister fI f f1 f2 f3 f4 : Addr} {fd d1 d2 d3 d4 : FuncData} {k : Nat} (T : Dm K C_Lister "come" "Lister.come" s_Lister_come ["self", "order"] f fd) (T_Lister : TxL K mg C_Lister fI) (T_check_order : Df K mg "check_order" s_check_order ["thing"] f1 d1) (G_check_order : FnOk P w K mg base CX0 k f1 d1 ["thing"] spCheck)
    (T_check_many : Df K mg "check_many" s_check_many ["many"] f3 d3) (G_check_many : FnOk P w K mg base CX0 k f3 d3 ["many"] spManyOk) (T_known_far : Df K mg "known_far" s_known_far ["way", "one", "other"] f4 d4) (G_known_far : FnOk P w K mg base CX0 k f4 d4 ["way", "one", "other"] spFar)
    (T_Lister_change_to : Dm K C_Lister "change_to" "Lister.change_to" s_Lister_change_to ["self", "orders"] f2 d2) (G_Lister_change_to : FnOk P w K mg base CX0 k f2 d2 ["self", "orders"] (spChangeL C_Lister)) (B : Bi mg) : FnOk P w K mg base CX0 (k + 1) f fd ["self", "order"] (spComeL C_Lister) := by
  refine T.F.ok scComeL (fun vs H Q E h => ?_) (fun cdv A outer s H vs Q E hr h => ?_)
  · obtain ⟨a, e, o, X, w, n, d, rs, ss, xs, rfl, _⟩ := h
    rfl
  · obtain ⟨a, e, o, X, w, n, d, rs, ss, xs, rfl, L, ho, hx, hrl, hz, q⟩ := h
    obtain ⟨dx, t, ps, st, ha, he, ht, ert, hst, ess, heX, ntX, npX, nsX⟩ := L.ex
    have nte : t ≠ e := fun z => ntX (z ▸ heX)
    have npe : ∀ p ∈ ps, p.1 ≠ e := fun p hp z => npX p hp (z ▸ heX)
    have nse : ∀ q ∈ st, q.1 ≠ e ∧ ∀ p ∈ q.2, p.1 ≠ e := fun q hq => ⟨fun z => (nsX q hq).1 (z ▸ heX), fun p hp z => (nsX q hq).2 p hp (z ▸ heX)⟩
    have hpl : ps.length < 120 := by rw [← ert, List.length_map] at hrl; exact hrl
    have hn2 := L.n2
    refine ⟨_, 
      (pss_cons (ps_expr (pe_call G_check_order hr (by rfl) T_check_order.g T_check_order.F.kp T_check_order.b .nil pass0 (pa_cons (pv 1) pa_nil)))
      (pss_cons (ps_if (pt_cmpR op_ne (pe_callB call_len_seq (by rfl) B.len PySem.boot_len (pa_cons (pv 1) pa_nil)) (pe_fld (pv 0) rfl) (nomark _))
        (pss_one ps_never)
        pss_nil)
      (pss_cons (ps_expr (pe_call G_check_many hr (by rfl) T_check_many.g T_check_many.F.kp T_check_many.b .nil pass0 (pa_cons (pe_op op_add (pe_callB call_len_seq (by rfl) B.len PySem.boot_len (pa_cons (pe_fld (pv 0) rfl) pa_nil)) pe_int) pa_nil)))
      (pss_cons (ps_setLc (i := 2) (own := [("other", 3)]) (g := (gName 3)) (tt := (tTest (tOp (rI0 fun i j => .bl (decide (i < j))) (tCall spFar [] E0 (tCons (tFld K (tVar 0) "way") (tCons (tVar 1) (tCons (tVar 3) tNil)))) (tFld K (tVar 0) "d")))) (te := (tCB (rListOf K) (tCons (tVar 3) tNil))) (by rfl) scComeL.nd rfl rfl (sw_true rfl rfl rfl (by decide +kernel)) (pi_list (pe_fld (pv 0) rfl)) (blkOk_by (N := ["self", "order", "near", "other"]) (sc := defScope s_Lister_come) (by decide +kernel)) (fun _ _ _ _ _ => (pg_name (i := 3) scComeL.nd rfl (.inl rfl))) (fun _ _ _ _ _ => (pts_one (pt_cmpR op_lt (pe_call G_known_far hr (by rfl) T_known_far.g T_known_far.F.kp T_known_far.b .nil pass0 (pa_cons (pe_fld (pv 0) rfl) (pa_cons (pv 1) (pa_cons (pv 3) pa_nil)))) (pe_fld (pv 0) rfl) (nomark _)))) (fun _ _ _ _ _ => (pe_callTy call_list_of (by rfl) B.list (by decide +kernel) (pa_cons (pv 3) pa_nil))))
      (Evl.pss_cut (ps_if (pt_cmpR op_eq (pe_callB call_len_seq (by rfl) B.len PySem.boot_len (pa_cons (pv 2) pa_nil)) pe_int (nomark _))
        (pss_one (ps_expr (pe_meth (pv 0) T_Lister.cl T_Lister_change_to.me G_Lister_change_to hr T_Lister_change_to.b .nil pass0 (pa_cons (pe_callB (cr_sortedR hr.units) (by rfl) B.sorted (by decide +kernel) (pa_cons (pe_op op_cat (pe_fld (pv 0) rfl) (pe_lst (pa_cons (pe_callTy call_list_of (by rfl) B.list (by decide +kernel) (pa_cons (pv 1) pa_nil)) pa_nil))) pa_nil)) pa_nil))))
        pss_nil)
      (pss_one (ps_ret (pv 2)))))))), ?_⟩
    refine ⟨_, rfl, o, n, xs, rfl, ho, hx, L.n1, by omega, fun H1 s1 => ?_⟩
    have L1 := L.same s1
    have ha1 := s1 _ _ ha
    have ht1 := ht.same s1
    have ho1 := s1 _ _ ho
    refine ⟨_, rfl, o, _, rfl, .inl (SqL.of ho1), _, rfl, a, _, dx, _, _, rfl, ha1, T_Lister.cl, T_Lister.nN, fl_n, rfl, _, rfl, ?_⟩
    rw [List.length_map, hx.len, decide_eq_true rfl]
    refine iteF ?_
    refine ⟨_, rfl, a, _, dx, _, _, rfl, ha1, T_Lister.cl, T_Lister.nT, fl_t, t, _, rfl, .inl (SqL.of ht1.1), _, _, rfl, rfl, _, rfl, by rw [List.length_map]; omega, ?_⟩
    refine ⟨_, rfl, a, _, dx, _, _, rfl, ha1, T_Lister.cl, T_Lister.nT, fl_t, t, rfl, ⟨_, SqL.of ht1.1⟩, fun D nD => ?_⟩
    have nHD : H D = none := s1.free nD
    refine lc_list (K := K) (a := t) (xs := ps.map fun p => V.ref p.1) (fun i H3 => ∃ bs : List (Addr × List Int), RP H3 D bs ∧ rws bs = nearR w xs d (rs.take i) ∧ bs.length ≤ 120 ∧ (∀ b ∈ bs, H1 b.1 = none ∧ b.1 ≠ D) ∧ Same H1 H3)
      ⟨[], ⟨upd_same, fun p hp => absurd hp List.not_mem_nil⟩, rfl, Nat.zero_le _, fun p hp => absurd hp List.not_mem_nil, same_new nD⟩ (fun i H3 _ hP => by obtain ⟨_, _, _, _, _, sm⟩ := hP; exact SqL.of (sm _ _ ht1.1)) (fun i x H3 hxi hP => ?_) (fun H3 hP => ?_)
    · obtain ⟨bs, hb, eb, lb, nb, sm⟩ := hP
      obtain ⟨p, ep, rfl, hp⟩ := ht1.at hxi
      have er : rs[i]? = some p.2 := by rw [← ert]; exact rws_at ep
      refine ⟨rfl, _, rfl, a, _, dx, _, _, rfl, sm _ _ ha1, T_Lister.cl, T_Lister.nW, fl_w, _, rfl, _, rfl, w, o, p.1, n, xs, p.2, rfl, L.wy, sm _ _ ho1, sm _ _ hp, hx, L.ord _ (List.mem_of_getElem? er), L.n1, by omega, fun H4 s4 => ?_⟩
      have t4 := sm.trans s4
      refine ⟨_, rfl, a, _, dx, _, _, rfl, t4 _ _ ha1, T_Lister.cl, T_Lister.nD, fl_d, _, _, rfl, rfl, _, rfl, ite2 (fun z => ?_) (fun z => ?_)⟩
      · refine ⟨_, rfl, p.1, _, rfl, .inl (SqL.of (t4 _ _ hp)), fun c nc => ?_⟩
        have s5 := same_new (o := .lst (p.2.map V.int)) nc
        have hb4 := hb.same s4
        have npc : D ≠ c := ne_of_none hb4.1 nc
        have hi : i < 120 := by
          have := (List.getElem?_eq_some_iff.mp ep).1
          omega
        have hbl : bs.length ≤ i := by
          have := congrArg List.length eb
          have h2 := List.length_filter_le (fun r => decide (farW w xs r < d)) (rs.take i)
          rw [List.length_map] at this
          rw [List.length_take] at h2
          unfold nearR at this
          omega
        refine ⟨_, s5 _ _ hb4.1, line_lt (by rw [List.length_map]; omega), bs ++ [(c, p.2)], ⟨by rw [upd_same, List.map_append]; rfl, fun u hu => ?_⟩, ?_, by rw [List.length_append]; show _ + 1 ≤ _; omega, fun u hu => ?_, fun b ob h => ?_⟩
        · rcases List.mem_append.mp hu with hu | hu
          · rw [upd_ne (nb u hu).2]
            exact s5 _ _ (hb4.2 u hu)
          · rw [List.mem_singleton.mp hu, upd_ne npc.symm, upd_same]
        · unfold nearR at eb ⊢
          rw [filter_p _ er, if_pos z, ← eb]
          show List.map _ (bs ++ [(c, p.2)]) = _
          rw [List.map_append]
          rfl
        · rcases List.mem_append.mp hu with hu | hu
          · exact nb u hu
          · rw [List.mem_singleton.mp hu]
            exact ⟨t4.free nc, npc.symm⟩
        · rw [upd_ne (ne_of_none h nD)]
          exact s5 _ _ (t4 _ _ h)
      · refine ⟨bs, hb.same s4, ?_, lb, nb, t4⟩
        unfold nearR at eb ⊢
        rw [filter_p _ er, if_neg z, List.append_nil]
        exact eb
    · obtain ⟨bs, hb, eb, lb, nb, sm⟩ := hP
      rw [List.length_map, List.take_of_length_le (by rw [← ert, List.length_map]; exact Nat.le_refl _)] at eb
      have s13 := s1.trans sm
      have L3 : LsAt C_Lister H3 a e (D :: (bs.map (·.1) ++ X)) w n d rs ss := L1.growL (ys := D :: bs.map fun b : Addr × List Int => b.1) sm fun y hy => by
        rcases List.mem_cons.mp hy with rfl | hy
        · exact ⟨nD, _, hb.1⟩
        · obtain ⟨b, hb2, rfl⟩ := List.mem_map.mp hy
          exact ⟨(nb b hb2).1, _, hb.2 b hb2⟩
      have ntr : ∀ {x : Addr} {o : HO}, H1 x = some o → x ∉ X → x ∉ D :: (bs.map (·.1) ++ X) := fun {x o} hx h1 hm => by
        rcases List.mem_cons.mp hm with rfl | hm
        · rw [nD] at hx; cases hx
        · rcases List.mem_append.mp hm with hm | hm
          · obtain ⟨b, hb2, rfl⟩ := List.mem_map.mp hm
            rw [(nb b hb2).1] at hx
            cases hx
          · exact h1 hm
      have ha3 := s13 _ _ ha
      have ht3 := ht.same s13
      have nDa : D ≠ a := fun z => by rw [z, ha1] at nD; cases nD
      have nDe : D ≠ e := fun z => by rw [z, s1 _ _ he] at nD; cases nD
      have nbe : ∀ b ∈ bs, b.1 ≠ e := fun b hb z => by
        have h2 := (nb b hb).1
        rw [z, s1 _ _ he] at h2
        cases h2
      have nbH : ∀ b ∈ bs, H b.1 = none := fun b hb => s1.free (nb b hb).1
      refine ⟨fun σ' H' => σ' = [some (.ref a), some (.ref o), some (.ref D), none] ∧ ∃ rs' ss', (bs = [] → rs'.Perm (rs ++ [xs]) ∧ rs'.Pairwise (· ≤ ·) ∧ ss' = ss ++ [rs]) ∧ (bs ≠ [] → rs' = rs ∧ ss' = ss) ∧ LsAt C_Lister H' a e (D :: (bs.map (·.1) ++ X)) w n d rs' ss' ∧ RP H' D bs ∧ KpL a e H H', ?_, fun σ' H' hM => ?_⟩
      · refine ⟨_, rfl, D, _, rfl, .inl (SqL.of hb.1), rfl, _, rfl, ite2 (fun z => ?_) (fun z => ?_)⟩
        · have eb0 : bs = [] := by
            have z2 := V.int.inj (of_decide_eq_true z)
            rw [List.length_map] at z2
            exact List.eq_nil_of_length_eq_zero (by omega)
          refine ⟨_, rfl, a, dx, _, rfl, ha3, fl_no (by decide +kernel) (by decide +kernel) (by decide +kernel) (by decide +kernel) (by decide +kernel), ?_⟩
          refine ⟨_, rfl, a, _, dx, _, _, rfl, ha3, T_Lister.cl, T_Lister.nT, fl_t, _, rfl, o, _, rfl, .inl (SqL.of (s13 _ _ ho)), fun c nc => ?_⟩
          have s5 := same_new (o := .lst (xs.map V.int)) nc
          refine ⟨(by show 1 ≤ sizeLine; decide), fun u nu => ?_⟩
          have s6 := same_new (o := .lst [V.ref c]) nu
          refine ⟨t, u, _, _, rfl, rfl, s6 _ _ (s5 _ _ ht3.1), upd_same, ?_, fun v nv => ?_⟩
          · refine Nat.le_of_lt (line_lt ?_)
            rw [List.length_map]
            show _ + 1 < _
            omega
          have s7 := same_new (o := .lst (ps.map (fun p => V.ref p.1) ++ [V.ref c])) nv
          have ev : ps.map (fun p => V.ref p.1) ++ [V.ref c] = (ps ++ [(c, xs)]).map fun p => V.ref p.1 := by
            rw [List.map_append]
            rfl
          have hall : ∀ p ∈ ps ++ [(c, xs)], (upd (upd (upd H3 c (.lst (xs.map V.int))) u (.lst [V.ref c])) v (.lst (ps.map (fun p => V.ref p.1) ++ [V.ref c]))) p.1 = some (.lst (p.2.map V.int)) := fun p hp => by
            rcases List.mem_append.mp hp with hp | hp
            · exact s7 _ _ (s6 _ _ (s5 _ _ (ht3.2 p hp)))
            · rw [List.mem_singleton.mp hp]
              exact s7 _ _ (s6 _ _ upd_same)
          refine ⟨v, ps ++ [(c, xs)], rfl, by rw [← ev]; exact SqL.of upd_same, fun p hp => dp_list (hall p hp), fun y ny => ?_⟩
          have s8 := same_new (o := .lst ((rowsR (ps ++ [(c, xs)])).map fun p => V.ref p.1)) ny
          have s58 := s5.trans (s6.trans (s7.trans s8))
          have he3 := s13 _ _ he
          have nHX : ∀ {b : Addr} {G : Hp}, Same H3 G → G b = none → b ∉ D :: (bs.map (·.1) ++ X) := fun sG h hm => by
            obtain ⟨o, ho⟩ := L3.tr _ hm
            rw [sG _ _ ho] at h
            cases h
          refine ⟨a, e, y, _, w, n, d, rs, ss, rowsR (ps ++ [(c, xs)]), rfl, L3.same s58, ⟨upd_same, fun p hp => s8 _ _ (hall p ((rowsR_perm _).mem_iff.mp hp))⟩, nHX (s5.trans (s6.trans s7)) ny, fun p hp => ?_, fun r hr => ?_, hz, fun H' L' k' => ?_⟩
          · rcases List.mem_append.mp ((rowsR_perm _).mem_iff.mp hp) with hp | hp
            · exact ntr (ht1.2 p hp) (npX p hp)
            · rw [List.mem_singleton.mp hp]
              exact nHX (Same.refl _) nc
          · obtain ⟨p, hp, rfl⟩ := List.mem_map.mp hr
            rcases List.mem_append.mp ((rowsR_perm _).mem_iff.mp hp) with hp | hp
            · exact L.ord _ (by rw [← ert]; exact List.mem_map_of_mem hp)
            · rw [List.mem_singleton.mp hp]
              exact hx
          · have kk := (KpL.of_same (a := a) (e := e) s58).trans k'
            refine ⟨rfl, _, _, fun _ => ⟨?_, rowsR_sorted _, rfl⟩, fun z2 => absurd eb0 z2, L', hb.kpl kk ha3 nDe nbe, (KpL.of_same s13).trans kk⟩
            have := rws_perm (rowsR_perm (ps ++ [(c, xs)]))
            rw [show rws (ps ++ [(c, xs)]) = rs ++ [xs] by rw [← ert]; show List.map _ _ = _; rw [List.map_append]; rfl] at this
            exact this
        · have nb0 : bs ≠ [] := fun z2 => z (by rw [z2]; rfl)
          exact ⟨rfl, rs, ss, fun z2 => absurd z2 nb0, fun _ => ⟨rfl, rfl⟩, L3, hb, KpL.of_same s13⟩
      · obtain ⟨rfl, rs', ss', c1, c2, L', hb', kk⟩ := hM
        exact ⟨_, rfl, q D bs rs' ss' H' eb c1 c2 ⟨hb', nHD, nbH⟩ L' kk⟩
end
end Fo
namespace Fo
open PySem PySem.Spec PyProof.Rows L2
/-- rows told by addresses and by lists are rows told by pairs -/
theorem rp_of_LL {H : Hp} {l : Addr} : ∀ {as : List Addr} {rs : List (List Int)}, LL H as rs → ∃ ps : List (Addr × List Int), ps.map (·.1) = as ∧ rws ps = rs ∧ ∀ p ∈ ps, H p.1 = some (.lst (p.2.map V.int))
  | [], [], _ => ⟨[], rfl, rfl, fun p hp => absurd hp List.not_mem_nil⟩
  | [], _ :: _, h => h.elim
  | _ :: _, [], h => h.elim
  | a :: as, r :: rs, h => by
    obtain ⟨ps, e1, e2, h3⟩ := rp_of_LL (l := l) h.2
    refine ⟨(a, r) :: ps, by rw [List.map_cons, e1], by show r :: rws ps = _; rw [e2], fun p hp => ?_⟩
    rcases List.mem_cons.mp hp with rfl | hp
    · exact h.1
    · exact h3 p hp
theorem rp_of_LL2 {H : Hp} {l : Addr} {as : List Addr} {rs : List (List Int)} (hl : H l = some (.lst (as.map V.ref))) (h : LL H as rs) : ∃ ps, RP H l ps ∧ rws ps = rs ∧ ps.map (·.1) = as := by
  obtain ⟨ps, e1, e2, h3⟩ := rp_of_LL (l := l) h
  refine ⟨ps, ⟨?_, h3⟩, e2, e1⟩
  rw [hl, ← e1, List.map_map]
  rfl
/-- the least of distances that are the same, in whatever order they stand -/
theorem least_same {xs ys : List Int} {m k : Int} (h : ∀ y, y ∈ xs ↔ y ∈ ys) (hm : m ∈ xs) (lm : ∀ y ∈ xs, m ≤ y) (hk : k ∈ ys) (lk : ∀ y ∈ ys, k ≤ y) : m = k := by
  have h1 := lm k ((h k).mpr hk)
  have h2 := lk m ((h m).mp hm)
  omega
end Fo
namespace Fo
open PySem PySem.Spec PyProof.Rows L2
/-! k71: a Lister and what the law holds of it -/
structure TwL (C : Addr) (H : Hp) (D a e h : Addr) (X : List Addr) (w : Str) (n : Nat) (d : Int) (rs : List (List Int)) (ss : List (List (List Int))) (ps : List (Addr × List Int)) : Prop where
  dq : DqAt H D
  ls : LsAt C H a e X w n d rs ss
  hh : RP H h ps
  nd : a ≠ D ∧ e ≠ D ∧ h ≠ D ∧ a ≠ h ∧ e ≠ h
  x : D ∈ X ∧ h ∈ X ∧ e ∈ X
  rp : ∀ p ∈ ps, p.1 ≠ a ∧ p.1 ≠ e ∧ p.1 ≠ D ∧ p.1 ≠ h
  u : (rws ps).Nodup
  od : ∀ r ∈ rws ps, IsOrd n r
section
variable {C : Addr} {H H' H0 : Hp} {D a e h : Addr} {X : List Addr} {w : Str} {n : Nat} {d : Int} {rs rs' : List (List Int)} {ss ss' : List (List (List Int))} {ps qs : List (Addr × List Int)}
theorem TwL.same (W : TwL C H D a e h X w n d rs ss ps) (s : Same H H') : TwL C H' D a e h X w n d rs ss ps := { W with dq := W.dq.same s, ls := W.ls.same s, hh := W.hh.same s }
theorem TwL.draw (W : TwL C H D a e h X w n d rs ss ps) (k : KeepD D H H') (q : DqAt H' D) : TwL C H' D a e h X w n d rs ss ps := by
  have tq : ∃ o, H' D = some o := by obtain ⟨ms, e, _⟩ := q; exact ⟨_, e⟩
  exact { W with dq := q, ls := W.ls.out k W.x.1 W.nd.1 W.nd.2.1 tq, hh := ⟨k _ _ W.hh.1 W.nd.2.2.1, fun p hp => k _ _ (W.hh.2 p hp) (W.rp p hp).2.2.1⟩ }
theorem TwL.keepT (W : TwL C H D a e h X w n d rs ss ps) (k : KeepT H H') : TwL C H' D a e h X w n d rs ss ps := by
  obtain ⟨ms, e1, r⟩ := W.dq
  exact { W with dq := ⟨ms, k.lst e1, r⟩, ls := W.ls.keepT k, hh := k.rp W.hh }
theorem TwL.kpl (W : TwL C H D a e h X w n d rs ss ps) (k : KpL a e H H') (l : LsAt C H' a e X w n d rs' ss') : TwL C H' D a e h X w n d rs' ss' ps := by
  obtain ⟨n1, n2, n3, n4, n5⟩ := W.nd
  exact { W with dq := W.dq.keep fun o hb => k _ _ hb n1.symm n2.symm, ls := l, hh := ⟨k _ _ W.hh.1 n4.symm n5.symm, fun p hp => k _ _ (W.hh.2 p hp) (W.rp p hp).1 (W.rp p hp).2.1⟩ }
theorem TwL.held (W : TwL C H D a e h X w n d rs ss ps) (hq : ∀ p ∈ qs, H p.1 = some (.lst (p.2.map V.int))) (nq : ∀ p ∈ qs, p.1 ≠ a ∧ p.1 ≠ e ∧ p.1 ≠ D ∧ p.1 ≠ h) (uq : (rws qs).Nodup) (oq : ∀ r ∈ rws qs, IsOrd n r) : TwL C (upd H h (.lst (qs.map fun p => V.ref p.1))) D a e h X w n d rs ss qs := by
  obtain ⟨n1, n2, n3, n4, n5⟩ := W.nd
  have k : ∀ b o, H b = some o → b ≠ h → (upd H h (.lst (qs.map fun p => V.ref p.1))) b = some o := fun b o e z => by rw [upd_ne z]; exact e
  exact { W with dq := W.dq.keep fun o hb => k _ _ hb n3.symm, ls := W.ls.out k W.x.2.1 n4 n5 ⟨_, upd_same⟩, hh := ⟨upd_same, fun p hp => k _ _ (hq p hp) (nq p hp).2.2.2⟩, rp := nq, u := uq, od := oq }
theorem TwL.new (W : TwL C H D a e h X w n d rs ss ps) {x : Addr} (nx : H x = none) : x ≠ a ∧ x ≠ e ∧ x ≠ D ∧ x ≠ h := by
  obtain ⟨dx, t, qs, st, e1, e2, _⟩ := W.ls.ex
  obtain ⟨ms, e3, _⟩ := W.dq
  exact ⟨fun z => (by rw [z, e1] at nx; cases nx), fun z => (by rw [z, e2] at nx; cases nx), fun z => (by rw [z, e3] at nx; cases nx), fun z => (by rw [z, W.hh.1] at nx; cases nx)⟩
theorem KeepTD.refl (D : Addr) (H : Hp) : KeepTD D H H := ⟨fun _ _ e _ _ => e, fun _ q e _ => ⟨q, e, id⟩⟩
theorem KeepTD.step (k : KeepTD D H0 H) (s : ∀ b o, (∃ o', H0 b = some o') → b ≠ D → H b = some o → H' b = some o) : KeepTD D H0 H' := by
  refine ⟨fun b o e n f => s b o ⟨_, e⟩ n (k.1 b o e n f), fun b q e n => ?_⟩
  obtain ⟨q1, e1, t1⟩ := k.2 b q e n
  exact ⟨q1, s b _ ⟨_, e⟩ n e1, t1⟩
theorem KeepTD.same (k : KeepTD D H0 H) (s : Same H H') : KeepTD D H0 H' := k.step fun b o _ _ e => s b o e
theorem KeepTD.draw (k : KeepTD D H0 H) (s : KeepD D H H') : KeepTD D H0 H' := k.step fun b o _ n e => s b o e n
theorem KeepTD.kpl (k : KeepTD D H0 H) (s : KpL a e H H') (na : H0 a = none) (ne : H0 e = none) : KeepTD D H0 H' := k.step fun b o ⟨_, h⟩ _ hb => s b o hb (ne_of_none h na) (ne_of_none h ne)
theorem KeepTD.updN {x : Addr} {o : HO} (k : KeepTD D H0 H) (nx : H0 x = none) : KeepTD D H0 (upd H x o) := k.step fun b o' ⟨_, h⟩ _ hb => by rw [upd_ne (ne_of_none h nx)]; exact hb
theorem KeepTD.keepT (k : KeepTD D H0 H) (s : KeepT H H') : KeepTD D H0 H' := by
  refine ⟨fun b o e n f => s.1 b o (k.1 b o e n f) f, fun b q e n => ?_⟩
  obtain ⟨q1, e1, t1⟩ := k.2 b q e n
  obtain ⟨q2, e2, t2⟩ := s.2 b q1 e1
  exact ⟨q2, e2, fun z => t2 (t1 z)⟩
theorem KeepTD.tab (k : KeepTD D H H') {P : Addr} (t : GxR.TabG H P) (q : DqAt H D) : GxR.TabG H' P := by
  obtain ⟨q0, e, z⟩ := t
  have nP : P ≠ D := fun h => by
    obtain ⟨ms, e1, _⟩ := q
    rw [h, e1] at e
    cases e
  obtain ⟨q', e', t'⟩ := k.2 P q0 e nP
  exact ⟨q', e', t' z⟩
theorem KeepTD.free (k : KeepTD D H H') {x : Addr} (nx : H' x = none) (hx : x ≠ D) : H x = none := by
  cases e : H x with
  | none => rfl
  | some o =>
    cases o with
    | tbl q => obtain ⟨q', e', _⟩ := k.2 x q e hx; rw [nx] at e'; cases e'
    | _ => have := k.1 x _ e hx (fun q z => by cases z); rw [nx] at this; cases this
theorem KeepTD.over (t : KeepT H0 H) (k : KeepTD D H H') (nD : H0 D = none) : KeepT H0 H' := by
  refine ⟨fun b o e f => k.1 b o (t.1 b o e f) (ne_of_none e nD) f, fun b q e => ?_⟩
  obtain ⟨q1, e1, t1⟩ := t.2 b q e
  obtain ⟨q2, e2, t2⟩ := k.2 b q1 e1 (ne_of_none e nD)
  exact ⟨q2, e2, fun z => t2 (t1 z)⟩
theorem far_snoc {w : Str} {d : Int} {rs : List (List Int)} {o x : List Int} : farAll w d o (rs ++ [x]) = (farAll w d o rs && decide (d ≤ farW w o x)) := by
  unfold farAll
  rw [List.all_append]
  simp
end
end Fo
namespace Fo
open PySem PySem.Spec PyProof.Rows L2
def spFilled (C Pt : Addr) : Sp := fun vs H Q _ => ∃ (w : Str) (n : Nat) (d : Int), vs = [.str w, .int n, .int d] ∧ IsWay w ∧ 1 ≤ n ∧ n ≤ 5 ∧ 1 ≤ d ∧ GxR.TabG H Pt ∧
  ∀ (a e : Addr) (ss : List (List (List Int))) (H' : Hp), H a = none → H e = none → LsAt C H' a e [e] w n d (firstL w d (allK n n)) ss → KeepT H H' → Q (.ref a) H'
def OrdV (H : Hp) (w : Str) (n : Nat) (d : Int) (rs : List (List Int)) (v : V) : Prop := (freeL w n d rs = [] ∧ v = .non) ∨ ∃ x xs l, freeL w n d rs = x :: xs ∧ v = .ref l ∧ H l = some (.lst (x.map V.int))
def Fld75 (C : Addr) (H0 : Hp) (a e : Addr) (wy : Str) (n : Nat) (d : Int) (m : Nat) (σ : L2.St) (G : Hp) : Prop := ∃ (fs : List (List Int)) (ss : List (List (List Int))) (v : V), σ = [some (.str wy), some (.int n), some (.int d), some (.ref a), some (.int ((freeL wy n d fs).length : Nat)), some v] ∧ LsAt C G a e [e] wy n d fs ss ∧ FillI wy d (allK n n) fs ∧ OrdV G wy n d fs v ∧ ss.length = fs.length ∧ KeepT H0 G ∧ m = (freeL wy n d fs).length
theorem allK_120 : ∀ n, n ≤ 5 → (allK n n).length ≤ 120 := by decide +kernel
theorem LsAt.fin {C : Addr} {H : Hp} {a e : Addr} {X : List Addr} {w : Str} {n : Nat} {d : Int} {rs : List (List Int)} {ss : List (List (List Int))} (L : LsAt C H a e X w n d rs ss) : (∃ dx fl, H a = some (.ins C dx fl) ∧ fl.lookup ("how_many_more" : Str) = none) ∧ (∃ dx fl, H a = some (.ins C dx fl) ∧ fl.lookup ("first_more" : Str) = none) ∧ (∃ dx fl, H a = some (.ins C dx fl) ∧ fl.lookup ("come" : Str) = none) ∧ (∃ dx fl, H a = some (.ins C dx fl) ∧ fl.lookup ("orders" : Str) = none) ∧ (∃ dx fl, H a = some (.ins C dx fl) ∧ fl.lookup ("least_apart" : Str) = none) ∧ (∃ dx fl, H a = some (.ins C dx fl) ∧ fl.lookup ("drop" : Str) = none) :=
  ⟨L.obj "how_many_more" (by decide +kernel) (by decide +kernel) (by decide +kernel) (by decide +kernel) (by decide +kernel), L.obj "first_more" (by decide +kernel) (by decide +kernel) (by decide +kernel) (by decide +kernel) (by decide +kernel), L.obj "come" (by decide +kernel) (by decide +kernel) (by decide +kernel) (by decide +kernel) (by decide +kernel), L.obj "orders" (by decide +kernel) (by decide +kernel) (by decide +kernel) (by decide +kernel) (by decide +kernel), L.obj "least_apart" (by decide +kernel) (by decide +kernel) (by decide +kernel) (by decide +kernel) (by decide +kernel), L.obj "drop" (by decide +kernel) (by decide +kernel) (by decide +kernel) (by decide +kernel) (by decide +kernel)⟩
theorem KeepT.kpl {a e : Addr} {H0 H H' : Hp} (k : KeepT H0 H) (s : KpL a e H H') (na : H0 a = none) (ne : H0 e = none) : KeepT H0 H' := by
  refine ⟨fun b o h f => s b o (k.1 b o h f) (ne_of_none h na) (ne_of_none h ne), fun b q h => ?_⟩
  obtain ⟨q', e', t⟩ := k.2 b q h
  exact ⟨q', s b _ e' (ne_of_none h na) (ne_of_none h ne), t⟩
section
variable {P : Program} {w : World} {K : PySem.W.Frag} {mg : Str → Option Value} {base : Heap}
theorem scFld : FnScope ["way", "n", "d", "lister", "many", "order"] ["way", "n", "d"] (defScope s_law_filled) := ⟨rfl, rfl, rfl, by decide +kernel, rfl, by decide +kernel, by decide +kernel⟩
set_option maxHeartbeats 8000000 in
theorem ok_filled {C_Lister Pt fI f g1 g2 g3 : Addr} {fd dI b1 b2 b3 : FuncData} {k : Nat} (T : Df K mg "_law_filled" s_law_filled ["way", "n", "d"] f fd) (T_Lister : TxL K mg C_Lister fI) (T_Lister_init : Dm K C_Lister "__init__" "Lister.__init__" s_Lister___init__ ["self", "way", "n", "d"] fI dI) (T_Lister_come : Dm K C_Lister "come" "Lister.come" s_Lister_come ["self", "order"] g1 b1) (T_Lister_how_many_more : Dm K C_Lister "how_many_more" "Lister.how_many_more" s_Lister_how_many_more ["self"] g2 b2) (T_Lister_first_more : Dm K C_Lister "first_more" "Lister.first_more" s_Lister_first_more ["self"] g3 b3)
    (G_Lister_init : FnOk P w K mg base CX0 k fI dI ["self", "way", "n", "d"] (spInitL C_Lister)) (G_Lister_come : FnOk P w K mg base CX0 (k + 1) g1 b1 ["self", "order"] (spComeL C_Lister)) (G_Lister_how_many_more : FnOk P w K mg base CX0 (k + 1) g2 b2 ["self"] (spMoreL C_Lister Pt)) (G_Lister_first_more : FnOk P w K mg base CX0 (k + 1) g3 b3 ["self"] (spFirstL C_Lister Pt)) (B : Bi mg) :
    FnOk P w K mg base CX0 (k + 2) f fd ["way", "n", "d"] (spFilled C_Lister Pt) := by
  refine T.F.ok scFld (fun vs H Q E h => ?_) (fun cdv A outer s H vs Q E hr h => ?_)
  · obtain ⟨w, n, d, rfl, _⟩ := h
    rfl
  · obtain ⟨wy, n, d, rfl, hw, hn1, hn2, hd, tab, q⟩ := h
    refine ⟨_, 
      (pss_cons (ps_set (i := 3) scFld.nd rfl (.inl rfl) (pe_make T_Lister.mkx G_Lister_init hr (by rfl) T_Lister.g T_Lister_init.b .nil pass0 (pa_cons (pv 0) (pa_cons (pv 1) (pa_cons (pv 2) pa_nil)))))
      (pss_cons (ps_set (i := 4) scFld.nd rfl (.inl rfl) (pe_meth0 (pv 3) T_Lister.cl T_Lister_how_many_more.me G_Lister_how_many_more hr T_Lister_how_many_more.b .nil pass0))
      (Evl.pss_cut (ps_set (i := 5) scFld.nd rfl (.inl rfl) (pe_meth0 (pv 3) T_Lister.cl T_Lister_first_more.me G_Lister_first_more hr T_Lister_first_more.b .nil pass0))
      (pss_cons (ps_while PassesOwn.never (pt_cmpR op_notN (pv 5) pe_non (nomark _))
        (pss_cons (ps_if (PW.pt (pw_or (pt_cmpR (op_neD hr.units) (pe_meth (pv 3) T_Lister.cl T_Lister_come.me G_Lister_come hr T_Lister_come.b .nil pass0 (pa_cons (pv 5) pa_nil)) (pe_lst pa_nil) (nomark _)) (pw_or1 (pt_cmpR op_ge (pe_meth0 (pv 3) T_Lister.cl T_Lister_how_many_more.me G_Lister_how_many_more hr T_Lister_how_many_more.b .nil pass0) (pv 4) (nomark _)))))
          (pss_one (ps_ret pe_non))
          pss_nil)
        (pss_cons (ps_set (i := 4) scFld.nd rfl (.inl rfl) (pe_meth0 (pv 3) T_Lister.cl T_Lister_how_many_more.me G_Lister_how_many_more hr T_Lister_how_many_more.b .nil pass0))
        (pss_one (ps_set (i := 5) scFld.nd rfl (.inl rfl) (pe_meth0 (pv 3) T_Lister.cl T_Lister_first_more.me G_Lister_first_more hr T_Lister_first_more.b .nil pass0))))))
      (pss_cons (ps_if (pt_cmpR op_ne (pv 4) pe_int (nomark _))
        (pss_one (ps_ret pe_non))
        pss_nil)
      (pss_one (ps_ret (pv 3)))))))), ?_⟩
    -- the Lister
    refine ⟨_, rfl, _, rfl, _, rfl, fun a dx na ndx nxa => ?_⟩
    have n2a : (upd H dx (.own a)) a = none := by rw [upd_ne nxa.symm]; exact na
    have sm1 := (same_new (o := .own a) ndx).trans (same_new (o := .ins C_Lister dx []) n2a)
    refine ⟨a, dx, [], wy, n, d, rfl, upd_same, hw, hn1, by omega, hd, fun x hx => absurd hx List.not_mem_nil, List.not_mem_nil, fun e H1 ne L1 k1 => ⟨rfl, ?_⟩⟩
    have s01 : Same H H1 := fun b o hb => k1 b o (sm1 b o hb) (ne_of_none hb na)
    have nHe : H e = none := sm1.free ne
    have hall : ∀ o ∈ allK n n, IsOrd n o := fun o m => all_ord m
    -- what could be taken
    have kT1 := KeepT.of_same s01
    obtain ⟨⟨dx1, fl1, ha1, hno1⟩, _⟩ := L1.fin
    refine ⟨_, rfl, a, dx1, fl1, rfl, ha1, hno1, a, e, [e], wy, n, d, [], [], rfl, L1, by omega, kT1.tab tab, fun H2 k2 => ?_⟩
    have kT2 := kT1.trans k2
    have L2 := L1.keepT k2
    obtain ⟨_, ⟨dx2, fl2, ha2, hno2⟩, _⟩ := L2.fin
    refine ⟨fun σ G => Fld75 C_Lister H a e wy n d (freeL wy n d []).length σ G, ⟨_, rfl, a, dx2, fl2, rfl, ha2, hno2, a, e, [e], wy, n, d, [], [], rfl, L2, by omega, kT2.tab tab, fun ez H3 k3 => ?_, fun x xs l H3 ez nl hl k3 => ?_⟩, fun σ H3 hM => ?_⟩
    · exact ⟨[], [], _, rfl, L2.keepT k3, .start _ _ _, .inl ⟨ez, rfl⟩, rfl, kT2.trans k3, rfl⟩
    · exact ⟨[], [], _, rfl, L2.keepT k3, .start _ _ _, .inr ⟨x, xs, l, ez, rfl, hl⟩, rfl, kT2.trans k3, rfl⟩
    refine ⟨fun m σ G => Fld75 C_Lister H a e wy n d m σ G, ⟨_, hM⟩, fun m σ G hW => ?_⟩
    clear hM kT2 L2 ha2 hno2 kT1 L1 ha1 hno1 k1 s01 k2 ne
    obtain ⟨fs, ss, v, rfl, L, hF, hv, hss, kT, rfl⟩ := hW
    have lfs := hF.sub.length_le
    have l120 := allK_120 n hn2
    obtain ⟨⟨dx1, fl1, ha1, hno1⟩, ⟨dx2, fl2, ha2, hno2⟩, ⟨dx3, fl3, ha3, hno3⟩, _⟩ := L.fin
    rcases hv with ⟨ez, rfl⟩ | ⟨x, xs, l, ez, rfl, hl⟩
    · refine ⟨_, rfl, rfl, _, rfl, iteF ?_⟩
      refine ⟨_, rfl, rfl, _, rfl, iteNS (congrArg V.int (by rw [ez]; rfl)) ?_⟩
      refine ⟨_, rfl, q a e ss G na nHe ?_ kT⟩
      rw [hF.done ez]
      exact L
    · refine ⟨_, rfl, rfl, _, rfl, iteT ⟨fun σ' G' => ∃ m', m' < (freeL wy n d fs).length ∧ Fld75 C_Lister H a e wy n d m' σ' G', fun _ _ h => h, ?_⟩⟩
      obtain ⟨hF2, hx, mx⟩ := hF.step hn1 hd hall ez
      have ox := hall x mx
      have lf2 := hF2.sub.length_le
      rw [List.length_append, List.length_singleton] at lf2
      have hlt := free_lt hn1 hd mx hx
      refine ⟨_, rfl, a, dx3, fl3, rfl, ha3, hno3, _, rfl, a, e, l, [e], wy, n, d, fs, ss, x, rfl, L, hl, ox, by omega, by omega, fun l9 qs9 rs9 ss9 H9 e9 r1 r2 nr9 L9 k9 => ?_⟩
      have q9 : qs9 = [] := List.eq_nil_of_length_eq_zero (by
        have := congrArg List.length (e9.trans (far_none.mpr hx))
        rw [List.length_map] at this
        exact this)
      obtain ⟨p9, so9, es9⟩ := r1 q9
      have er : rs9 = fs ++ [x] := rowsP_eq p9 so9 (List.Pairwise.sublist hF2.sub ((allK_sorted n).imp fun h => List.le_of_lt h))
      refine ⟨by decide, fun u nu => ?_⟩
      have s6 := same_new (o := .lst []) nu
      refine ⟨_, _, (nr9.1.same s6).dp, dp_list (ns := []) upd_same, shaped_lists _, shaped_list _, _, rfl, ?_⟩
      rw [show PyData.eqv (dLL (rws qs9)) (dL []) = true by rw [q9]; exact eqv_list []]
      refine iteF ?_
      have L10 : LsAt C_Lister (upd H9 u (.lst [])) a e [e] wy n d (fs ++ [x]) ss9 := by
        rw [← er]
        exact (L9.sub (fun y hy => List.mem_cons_of_mem _ (List.mem_append_right _ hy)) List.mem_cons_self).same s6
      have kT10 := (kT.kpl k9 na nHe).trans (KeepT.of_same s6)
      generalize upd H9 u (.lst []) = H10 at L10 kT10 ⊢
      have hss9 : ss9.length = (fs ++ [x]).length := by rw [es9, List.length_append, List.length_append, hss]; rfl
      obtain ⟨⟨dx4, fl4, ha4, hno4⟩, _⟩ := L10.fin
      refine ⟨_, rfl, a, dx4, fl4, rfl, ha4, hno4, a, e, [e], wy, n, d, _, ss9, rfl, L10, by omega, kT10.tab tab, fun H11 k11 => ⟨_, rfl, _, _, rfl, rfl, _, rfl, ite2 (fun c => absurd (of_decide_eq_true c) (by omega)) (fun _ => ?_)⟩⟩
      have kT11 := kT10.trans k11
      have L11 := L10.keepT k11
      obtain ⟨⟨dx5, fl5, ha5, hno5⟩, _⟩ := L11.fin
      refine ⟨_, rfl, a, dx5, fl5, rfl, ha5, hno5, a, e, [e], wy, n, d, _, ss9, rfl, L11, by omega, kT11.tab tab, fun H12 k12 => ?_⟩
      have kT12 := kT11.trans k12
      have L12 := L11.keepT k12
      obtain ⟨_, ⟨dx6, fl6, ha6, hno6⟩, _⟩ := L12.fin
      refine ⟨_, rfl, a, dx6, fl6, rfl, ha6, hno6, a, e, [e], wy, n, d, _, ss9, rfl, L12, by omega, kT12.tab tab, fun ez3 H13 k13 => ?_, fun x3 xs3 l3 H13 ez3 nl3 hl3 k13 => ?_⟩
      · exact ⟨_, hlt, fs ++ [x], ss9, _, rfl, L12.keepT k13, hF2, .inl ⟨ez3, rfl⟩, hss9, kT12.trans k13, rfl⟩
      · exact ⟨_, hlt, fs ++ [x], ss9, _, rfl, L12.keepT k13, hF2, .inr ⟨x3, xs3, l3, ez3, rfl, hl3⟩, hss9, kT12.trans k13, rfl⟩
end
end Fo
namespace Fo
open PySem PySem.Spec PyProof.Rows L2
def spLen75 (Pt : Addr) : Sp := fun vs H Q _ => ∃ (w : Str) (n : Nat) (d : Int) (l : Addr) (as : List Addr) (rs : List (List Int)), vs = [.str w, .int n, .int d, .ref l] ∧ IsWay w ∧ n ≤ 5 ∧ 1 ≤ d ∧ OL H l as rs n ∧ ApL w d rs ∧ Full w n d rs ∧ rs.length ≤ 120 ∧ GxR.TabG H Pt ∧ ∀ H', KeepT H H' → Q (.bl true) H'
section
variable {P : Program} {w : World} {K : PySem.W.Frag} {mg : Str → Option Value} {base : Heap}
theorem scLen : FnScope ["way", "n", "d", "orders", "least", "most"] ["way", "n", "d", "orders"] (defScope s_law_lengths_right) := ⟨rfl, rfl, rfl, by decide +kernel, rfl, by decide +kernel, by decide +kernel⟩
set_option maxHeartbeats 4000000 in
theorem ok_len75 {Pt f f1 f2 f3 : Addr} {fd d1 d2 d3 : FuncData} {k : Nat} (T : Df K mg "_law_lengths_right" s_law_lengths_right ["way", "n", "d", "orders"] f fd) (T_bounds_by_rounds : Df K mg "bounds_by_rounds" s_bounds_by_rounds ["way", "n", "d"] f1 d1) (T_lies_apart : Df K mg "lies_apart" s_lies_apart ["way", "n", "d", "thing"] f2 d2) (T_longest_apart : Df K mg "longest_apart" s_longest_apart ["way", "n", "d"] f3 d3)
    (G_bounds_by_rounds : FnOk P w K mg base CX0 k f1 d1 ["way", "n", "d"] spBounds) (G_lies_apart : FnOk P w K mg base CX0 k f2 d2 ["way", "n", "d", "thing"] (spLies Pt)) (G_longest_apart : FnOk P w K mg base CX0 k f3 d3 ["way", "n", "d"] spLongest) (B : Bi mg) :
    FnOk P w K mg base CX0 (k + 1) f fd ["way", "n", "d", "orders"] (spLen75 Pt) := by
  refine T.F.ok scLen (fun vs H Q E h => ?_) (fun cdv A outer s H vs Q E hr h => ?_)
  · obtain ⟨w, n, d, l, as, rs, rfl, _⟩ := h
    rfl
  · obtain ⟨wy, n, d, l, as, rs, rfl, hw, hn2, hd, hO, hA, hF, hlen, tab, q⟩ := h
    refine ⟨_, 
      (pss_cons (ps_asg (pe_call G_bounds_by_rounds hr (by rfl) T_bounds_by_rounds.g T_bounds_by_rounds.F.kp T_bounds_by_rounds.b .nil pass0 (pa_cons (pv 0) (pa_cons (pv 1) (pa_cons (pv 2) pa_nil)))) (pg_tup (by rfl) (pgs_cons (pg_name (i := 4) scLen.nd rfl (.inl rfl)) (pgs_cons (pg_name (i := 5) scLen.nd rfl (.inl rfl)) pgs_nil))))
      (pss_cons (ps_if (PW.pt (pw_or (pt_not (pt_chain op_le op_le (pv 4) (pe_callB call_len_seq (by rfl) B.len PySem.boot_len (pa_cons (pv 3) pa_nil)) (pv 5))) (pw_or1 (pt_cmpR op_notBl (pe_call G_lies_apart hr (by rfl) T_lies_apart.g T_lies_apart.F.kp T_lies_apart.b .nil pass0 (pa_cons (pv 0) (pa_cons (pv 1) (pa_cons (pv 2) (pa_cons (pv 3) pa_nil))))) pe_bl (nomark _)))))
        (pss_one (ps_ret pe_bl))
        pss_nil)
      (pss_one (ps_ret (pe_or (pe_cmpR op_gt (pv 1) pe_int (nomark _)) (pe_one (pe_cmpR op_le (pe_callB call_len_seq (by rfl) B.len PySem.boot_len (pa_cons (pv 3) pa_nil)) (pe_callB call_len_seq (by rfl) B.len PySem.boot_len (pa_cons (pe_call G_longest_apart hr (by rfl) T_longest_apart.g T_longest_apart.F.kp T_longest_apart.b .nil pass0 (pa_cons (pv 0) (pa_cons (pv 1) (pa_cons (pv 2) pa_nil)))) pa_nil)) (nomark _)))))))), ?_⟩
    have hn1 := hO.n1
    have ho := hO.ord
    have hll := hO.ll.len
    have b1 := least_full hw hn1 (by omega) hd ho hF
    have b2 := most_ge hw hn1 (by omega) hd ho hA
    refine ⟨_, rfl, _, rfl, _, rfl, wy, n, d, rfl, hw, hn1, by omega, hd, fun t H1 nt ht s1 => ⟨t, _, rfl, SqT.of ht, rfl, _, _, rfl, _, _, rfl, rfl, ?_⟩⟩
    have hO1 := hO.same s1
    refine ⟨_, rfl, _, rfl, l, _, rfl, .inl (SqL.of hO1.top), _, _, rfl, rfl, _, rfl, ite2 (fun _ => ?_) (fun c => absurd (decide_eq_true (by rw [List.length_map, hll]; exact b1)) c)⟩
    refine ⟨_, rfl, _, _, rfl, rfl, _, rfl, ?_⟩
    rw [decide_eq_true (show (((as.map V.ref).length : Nat) : Int) ≤ mostB wy n d by rw [List.length_map, hll]; exact b2)]
    refine iteF ?_
    refine ⟨_, rfl, _, rfl, _, rfl, _, rfl, wy, d, l, as, rs, n, rfl, hw, hd, hO1, by omega, (KeepT.of_same s1).tab tab, fun b H2 hb k2 => ?_⟩
    obtain rfl : b = true := hb.mpr (ap_up hn1 ho hA)
    refine ⟨true, true, rfl, rfl, _, rfl, iteF ?_⟩
    have kT2 := (KeepT.of_same s1).trans k2
    have top2 := k2.lst hO1.top
    refine ⟨_, rfl, _, _, rfl, rfl, ?_⟩
    by_cases c : (4 : Int) < (n : Int)
    · refine ⟨_, rfl, ?_⟩
      rw [decide_eq_true c]
      exact q _ kT2
    · refine ⟨_, rfl, ?_⟩
      rw [decide_eq_false c]
      refine ⟨_, rfl, l, _, rfl, .inl (SqL.of top2), _, rfl, _, rfl, _, rfl, wy, n, d, rfl, hw, hn1, by omega, hd, fun l3 as3 ss3 H3 nl3 na3 hl3 hL3 ho3 hA3 h13 hm3 s3 => ?_⟩
      refine ⟨l3, _, rfl, .inl (SqL.of hl3), _, _, rfl, rfl, ?_⟩
      show Q (.bl (decide ((((as.map V.ref).length : Nat) : Int) ≤ (((as3.map V.ref).length : Nat) : Int)))) _
      rw [decide_eq_true (by rw [List.length_map, List.length_map, hll, hL3.len]; exact_mod_cast hm3 rs ho hA)]
      exact q _ (kT2.trans (KeepT.of_same s3))
end
end Fo
namespace Fo
open PySem PySem.Spec PyProof.Rows L2
def spLaw (K : PySem.W.Frag) (Pt : Addr) : Sp := fun vs H Q _ => ∃ (a : Addr) (ns : List Int), vs = [.ref a] ∧ SqL K H a (ns.map V.int) ∧ ns.length ≤ 63 ∧ GxR.TabG H Pt ∧ ∀ H', Q (.bl true) H'
theorem turns2 (n : Nat) : ∃ m : Nat, (if (if 2 < (n : Int) then 2 else (n : Int)) > 1 then (if 2 < (n : Int) then 2 else (n : Int)) else 1) = (m : Int) ∧ m ≤ 2 := by
  by_cases c : 2 < (n : Int)
  · exact ⟨2, by rw [if_pos c]; rfl, by decide⟩
  · rw [if_neg c]
    by_cases c2 : (n : Int) > 1
    · exact ⟨n, by rw [if_pos c2], by omega⟩
    · exact ⟨1, by rw [if_neg c2]; rfl, by decide⟩
theorem first_full {w : Str} {n : Nat} {d : Int} (hn : 1 ≤ n) (hd : 1 ≤ d) : Full w n d (firstL w d (allK n n)) := by
  refine List.filter_eq_nil_iff.mpr fun o m hb => ?_
  obtain ⟨f, mf, hf⟩ := first_near (w := w) (d := d) hn hd (allK n n) [] (fun x m => all_ord m) o m
  unfold farAll at hb
  rw [List.all_eq_true] at hb
  have := of_decide_eq_true (hb f mf)
  omega
theorem full_of {w : Str} {n : Nat} {d : Int} {rs : List (List Int)} (h : ∀ o ∈ allK n n, ∃ f ∈ rs, farW w o f < d) : Full w n d rs := by
  refine List.filter_eq_nil_iff.mpr fun o m hb => ?_
  obtain ⟨f, mf, hf⟩ := h o m
  unfold farAll at hb
  rw [List.all_eq_true] at hb
  have := of_decide_eq_true (hb f mf)
  omega
/-- while all orders come in a drawn order -/
structure Cm75 (w : Str) (n : Nat) (d : Int) (rs ls : List (List Int)) : Prop where
  nd : rs.Nodup
  so : rs.Pairwise (· ≤ ·)
  far : ∀ x ∈ rs, ∀ y ∈ rs, x ≠ y → d ≤ farW w x y
  all : ∀ o ∈ allK n n, o ∈ ls ∨ ∃ f ∈ rs, farW w o f < d
theorem Cm75.start {w : Str} {n : Nat} {d : Int} : Cm75 w n d [] (allK n n) := ⟨List.nodup_nil, List.Pairwise.nil, fun x h => absurd h List.not_mem_nil, fun o h => .inl h⟩
theorem Cm75.taken {w : Str} {n : Nat} {d : Int} {rs rs' ls : List (List Int)} {x : List Int} (C : Cm75 w n d rs ls) (hn : 1 ≤ n) (hd : 1 ≤ d) (ho : ∀ r ∈ rs, IsOrd n r) (ox : IsOrd n x) (e : nearR w x d rs = []) (p : rs'.Perm (rs ++ [x])) (so : rs'.Pairwise (· ≤ ·)) : Cm75 w n d rs' (ls.filter fun r => !decide (r = x)) := by
  have hf : ∀ r ∈ rs, d ≤ farW w x r := fun r m => by
    have := List.filter_eq_nil_iff.mp e r m
    simp only [decide_eq_true_eq] at this
    omega
  have nx : x ∉ rs := fun m => by
    have := hf x m
    rw [farW_self ox hn] at this
    omega
  have mem : ∀ {y}, y ∈ rs' ↔ y ∈ rs ∨ y = x := fun {y} => by rw [p.mem_iff, List.mem_append, List.mem_singleton]
  refine ⟨p.nodup_iff.mpr (List.nodup_append.mpr ⟨C.nd, by simp, fun a ha b hb z => by rw [List.mem_singleton.mp hb] at z; exact nx (z ▸ ha)⟩), so, fun a ha b hb ne => ?_, fun o mo => ?_⟩
  · rcases mem.mp ha with ha | rfl
    · rcases mem.mp hb with hb | rfl
      · exact C.far a ha b hb ne
      · rw [farW_turn ox (ho a ha) hn]
        exact hf a ha
    · rcases mem.mp hb with hb | rfl
      · exact hf b hb
      · exact absurd rfl ne
  · by_cases c : o = x
    · subst c
      exact .inr ⟨o, mem.mpr (.inr rfl), by rw [farW_self ox hn]; omega⟩
    · rcases C.all o mo with h | ⟨f, mf, hf⟩
      · exact .inl (List.mem_filter.mpr ⟨h, by simp [c]⟩)
      · exact .inr ⟨f, mem.mpr (.inl mf), hf⟩
theorem Cm75.near {w : Str} {n : Nat} {d : Int} {rs ls : List (List Int)} {x : List Int} (C : Cm75 w n d rs ls) (e : nearR w x d rs ≠ []) : Cm75 w n d rs (ls.filter fun r => !decide (r = x)) := by
  refine ⟨C.nd, C.so, C.far, fun o mo => ?_⟩
  by_cases c : o = x
  · subst c
    cases h : nearR w o d rs with
    | nil => exact absurd h e
    | cons f r =>
      have m : f ∈ nearR w o d rs := by rw [h]; exact List.mem_cons_self
      obtain ⟨m1, m2⟩ := List.mem_filter.mp m
      exact .inr ⟨f, m1, of_decide_eq_true m2⟩
  · rcases C.all o mo with h | h
    · exact .inl (List.mem_filter.mpr ⟨h, by simp [c]⟩)
    · exact .inr h
section
variable {P : Program} {w : World} {K : PySem.W.Frag} {mg : Str → Option Value} {base : Heap}
theorem scLaw : FnScope ["script", "k", "deck", "way", "n", "d", "lister", "other", "left", "order", "one", "due", "orders", "some", "at", "gone", "held"] ["script"] (defScope s_law) := ⟨rfl, rfl, rfl, by decide +kernel, rfl, by decide +kernel, by decide +kernel⟩
set_option maxHeartbeats 32000000 in
theorem ok_law {C_Lister Pt f f1 f2 f3 f4 f5 f6 f7 f8 fI g1 g2 g3 g4 g5 g6 : Addr} {fd d1 d2 d3 d4 d5 d6 d7 d8 dI b1 b2 b3 b4 b5 b6 : FuncData} (T : Fun K "law" "law" s_law f fd) (T_Lister : TxL K mg C_Lister fI) (T_Lister_init : Dm K C_Lister "__init__" "Lister.__init__" s_Lister___init__ ["self", "way", "n", "d"] fI dI) (T_Lister_come : Dm K C_Lister "come" "Lister.come" s_Lister_come ["self", "order"] g1 b1) (T_Lister_drop : Dm K C_Lister "drop" "Lister.drop" s_Lister_drop ["self", "order"] g2 b2) (T_Lister_orders : Dm K C_Lister "orders" "Lister.orders" s_Lister_orders ["self"] g3 b3) (T_Lister_least_apart : Dm K C_Lister "least_apart" "Lister.least_apart" s_Lister_least_apart ["self"] g4 b4) (T_Lister_how_many_more : Dm K C_Lister "how_many_more" "Lister.how_many_more" s_Lister_how_many_more ["self"] g5 b5) (T_Lister_first_more : Dm K C_Lister "first_more" "Lister.first_more" s_Lister_first_more ["self"] g6 b6)
    (T__law_deck : Df K mg "_law_deck" s_law_deck ["cell", "many"] f1 d1) (T__law_cell_at : Df K mg "_law_cell_at" s_law_cell_at ["script", "k"] f2 d2) (T__law_next : Df K mg "_law_next" s_law_next ["deck"] f3 d3) (T__law_filled : Df K mg "_law_filled" s_law_filled ["way", "n", "d"] f4 d4) (T_first_apart : Df K mg "first_apart" s_first_apart ["way", "n", "d"] f5 d5) (T__law_lengths_right : Df K mg "_law_lengths_right" s_law_lengths_right ["way", "n", "d", "orders"] f6 d6) (T__law_all : Df K mg "_law_all" s_law_all ["n"] f7 d7) (T_how_far : Df K mg "how_far" s_how_far ["way", "one", "other"] f8 d8)
    (G_Lister_init : FnOk P w K mg base CX0 49 fI dI ["self", "way", "n", "d"] (spInitL C_Lister)) (G_Lister_come : FnOk P w K mg base CX0 50 g1 b1 ["self", "order"] (spComeL C_Lister)) (G_Lister_drop : FnOk P w K mg base CX0 50 g2 b2 ["self", "order"] (spDropL C_Lister)) (G_Lister_orders : FnOk P w K mg base CX0 50 g3 b3 ["self"] (spOrdersL C_Lister)) (G_Lister_least_apart : FnOk P w K mg base CX0 50 g4 b4 ["self"] (spLeastL C_Lister)) (G_Lister_how_many_more : FnOk P w K mg base CX0 50 g5 b5 ["self"] (spMoreL C_Lister Pt)) (G_Lister_first_more : FnOk P w K mg base CX0 50 g6 b6 ["self"] (spFirstL C_Lister Pt))
    (G__law_deck : FnOk P w K mg base CX0 50 f1 d1 ["cell", "many"] spDeckN) (G__law_cell_at : FnOk P w K mg base CX0 50 f2 d2 ["script", "k"] (spCell K)) (G__law_next : FnOk P w K mg base CX0 50 f3 d3 ["deck"] spNext) (G__law_filled : FnOk P w K mg base CX0 50 f4 d4 ["way", "n", "d"] (spFilled C_Lister Pt)) (G_first_apart : FnOk P w K mg base CX0 50 f5 d5 ["way", "n", "d"] (spFirst Pt)) (G__law_lengths_right : FnOk P w K mg base CX0 50 f6 d6 ["way", "n", "d", "orders"] (spLen75 Pt)) (G__law_all : FnOk P w K mg base CX0 50 f7 d7 ["n"] spAllO) (G_how_far : FnOk P w K mg base CX0 50 f8 d8 ["way", "one", "other"] spFar) (B : Bi mg) :
    FnOk P w K mg base CX0 51 f fd ["script"] (spLaw K Pt) := by
  refine T.ok scLaw (fun vs H Q E h => ?_) (fun cdv A outer s H vs Q E hr h => ?_)
  · obtain ⟨a, ns, rfl, _⟩ := h
    rfl
  · obtain ⟨b0, ns, rfl, hS, hlen, htab, q⟩ := h
    refine ⟨_, 
      (pss_cons (ps_for PassesOwn.never rfl (pi_range1 (by rfl) B.range (pa_cons (pe_callB (call_max2 rfl) (by rfl) B.max (by decide +kernel) (pa_cons pe_int (pa_cons (pe_callB (call_min2 rfl) (by rfl) B.min (by decide +kernel) (pa_cons (pe_callB call_len_seq (by rfl) B.len PySem.boot_len (pa_cons (pv 0) pa_nil)) (pa_cons pe_int pa_nil))) pa_nil))) pa_nil)) (pg_name (i := 1) scLaw.nd rfl (.inl rfl))
        (pss_cons (ps_set (i := 2) scLaw.nd rfl (.inl rfl) (pe_call G__law_deck hr (by rfl) T__law_deck.g T__law_deck.F.kp T__law_deck.b .nil pass0 (pa_cons (pe_call G__law_cell_at hr (by rfl) T__law_cell_at.g T__law_cell_at.F.kp T__law_cell_at.b .nil pass0 (pa_cons (pv 0) (pa_cons (pv 1) pa_nil))) (pa_cons pe_int pa_nil))))
        (pss_cons (ps_set (i := 3) scLaw.nd rfl (.inr rfl) (pe_ix ix_list (pe_lst (pa_cons pe_str (pa_cons pe_str (pa_cons pe_str pa_nil)))) (pe_op op_mod (pe_call G__law_next hr (by rfl) T__law_next.g T__law_next.F.kp T__law_next.b .nil pass0 (pa_cons (pv 2) pa_nil)) pe_int) (fun _ _ => rfl)))
        (pss_cons (ps_set (i := 4) scLaw.nd rfl (.inl rfl) (pe_op op_add pe_int (pe_op op_mod (pe_call G__law_next hr (by rfl) T__law_next.g T__law_next.F.kp T__law_next.b .nil pass0 (pa_cons (pv 2) pa_nil)) (pe_ix ix_list (pe_lst (pa_cons pe_int (pa_cons pe_int pa_nil))) (pv 1) (fun _ _ => rfl)))))
        (pss_cons (ps_set (i := 5) scLaw.nd rfl (.inr rfl) (pe_op op_add pe_int (pe_op op_mod (pe_call G__law_next hr (by rfl) T__law_next.g T__law_next.F.kp T__law_next.b .nil pass0 (pa_cons (pv 2) pa_nil)) pe_int)))
        (Evl.pss_cut (ps_if (pt_cmpR op_eq (pv 4) pe_int (nomark _))
          (pss_one (ps_set (i := 5) scLaw.nd rfl (.inr rfl) (pe_callB (call_max2 rfl) (by rfl) B.max (by decide +kernel) (pa_cons (pv 5) (pa_cons pe_int pa_nil)))))
          pss_nil)
        (Evl.pss_cut (ps_set (i := 6) scLaw.nd rfl (.inl rfl) (pe_call G__law_filled hr (by rfl) T__law_filled.g T__law_filled.F.kp T__law_filled.b .nil pass0 (pa_cons (pv 3) (pa_cons (pv 4) (pa_cons (pv 5) pa_nil)))))
        (pss_cons (ps_if (PW.pt (pw_or (pt_cmpR op_isN (pv 6) pe_non (nomark _)) (pw_or1 (pt_cmpR (op_neD hr.units) (pe_meth0 (pv 6) T_Lister.cl T_Lister_orders.me G_Lister_orders hr T_Lister_orders.b .nil pass0) (pe_call G_first_apart hr (by rfl) T_first_apart.g T_first_apart.F.kp T_first_apart.b .nil pass0 (pa_cons (pv 3) (pa_cons (pv 4) (pa_cons (pv 5) pa_nil)))) (nomark _)))))
          (pss_one (ps_ret pe_bl))
          pss_nil)
        (Evl.pss_cut (ps_if (pt_not (pt_val (pe_call G__law_lengths_right hr (by rfl) T__law_lengths_right.g T__law_lengths_right.F.kp T__law_lengths_right.b .nil pass0 (pa_cons (pv 3) (pa_cons (pv 4) (pa_cons (pv 5) (pa_cons (pe_meth0 (pv 6) T_Lister.cl T_Lister_orders.me G_Lister_orders hr T_Lister_orders.b .nil pass0) pa_nil)))))))
          (pss_one (ps_ret pe_bl))
          pss_nil)
        (pss_cons (ps_set (i := 7) scLaw.nd rfl (.inl rfl) (pe_make T_Lister.mkx G_Lister_init hr (by rfl) T_Lister.g T_Lister_init.b .nil pass0 (pa_cons (pv 3) (pa_cons (pv 4) (pa_cons (pv 5) pa_nil)))))
        (pss_cons (ps_set (i := 8) scLaw.nd rfl (.inl rfl) (pe_call G__law_all hr (by rfl) T__law_all.g T__law_all.F.kp T__law_all.b .nil pass0 (pa_cons (pv 4) pa_nil)))
        (pss_cons (ps_for PassesOwn.never rfl (pi_list (pe_call G__law_all hr (by rfl) T__law_all.g T__law_all.F.kp T__law_all.b .nil pass0 (pa_cons (pv 4) pa_nil))) (pg_name (i := 9) scLaw.nd rfl (.inl rfl))
          (pss_cons (ps_set (i := 10) scLaw.nd rfl (.inr rfl) (pe_bm PySem.F.plainAttrs_list PySem.F.slot_list_pop PySem.F.type_list_pop mt_popAt (pv 8) (pa_cons (pe_op op_mod (pe_call G__law_next hr (by rfl) T__law_next.g T__law_next.F.kp T__law_next.b .nil pass0 (pa_cons (pv 2) pa_nil)) (pe_callB call_len_seq (by rfl) B.len PySem.boot_len (pa_cons (pv 8) pa_nil))) pa_nil)))
          (pss_cons (ps_setLc (i := 11) (own := [("held", 16)]) (g := (gName 16)) (tt := (tTest (tOp (rI0 fun i j => .bl (decide (i < j))) (tCall spFar [] E0 (tCons (tVar 3) (tCons (tVar 16) (tCons (tVar 10) tNil)))) (tVar 5)))) (te := (tVar 16)) (by rfl) scLaw.nd rfl rfl (sw_true rfl rfl rfl (by decide +kernel)) (pi_list (pe_meth0 (pv 7) T_Lister.cl T_Lister_orders.me G_Lister_orders hr T_Lister_orders.b .nil pass0)) (blkOk_by (N := ["script", "k", "deck", "way", "n", "d", "lister", "other", "left", "order", "one", "due", "orders", "some", "at", "gone", "held"]) (sc := defScope s_law) (by decide +kernel)) (fun _ _ _ _ _ => (pg_name (i := 16) scLaw.nd rfl (.inl rfl))) (fun _ _ _ _ _ => (pts_one (pt_cmpR op_lt (pe_call G_how_far hr (by rfl) T_how_far.g T_how_far.F.kp T_how_far.b .nil pass0 (pa_cons (pv 3) (pa_cons (pv 16) (pa_cons (pv 10) pa_nil)))) (pv 5) (nomark _)))) (fun _ _ _ _ _ => (pv 16)))
          (pss_one (ps_if (pt_cmpR (op_neD hr.units) (pe_meth (pv 7) T_Lister.cl T_Lister_come.me G_Lister_come hr T_Lister_come.b .nil pass0 (pa_cons (pe_callTy call_list_of (by rfl) B.list (by decide +kernel) (pa_cons (pv 10) pa_nil)) pa_nil)) (pv 11) (nomark _))
            (pss_one (ps_ret pe_bl))
            pss_nil)))))
        (pss_cons (ps_set (i := 12) scLaw.nd rfl (.inl rfl) (pe_meth0 (pv 7) T_Lister.cl T_Lister_orders.me G_Lister_orders hr T_Lister_orders.b .nil pass0))
        (pss_cons (ps_if (PW.pt (pw_or (pt_cmpR op_notN (pe_meth0 (pv 7) T_Lister.cl T_Lister_first_more.me G_Lister_first_more hr T_Lister_first_more.b .nil pass0) pe_non (nomark _)) (pw_or (pt_cmpR op_ne (pe_meth0 (pv 7) T_Lister.cl T_Lister_how_many_more.me G_Lister_how_many_more hr T_Lister_how_many_more.b .nil pass0) pe_int (nomark _)) (pw_or1 (pt_not (pt_val (pe_call G__law_lengths_right hr (by rfl) T__law_lengths_right.g T__law_lengths_right.F.kp T__law_lengths_right.b .nil pass0 (pa_cons (pv 3) (pa_cons (pv 4) (pa_cons (pv 5) (pa_cons (pv 12) pa_nil)))))))))))
          (pss_one (ps_ret pe_bl))
          pss_nil)
        (pss_cons (ps_set (i := 13) scLaw.nd rfl (.inl rfl) (pe_lst pa_nil))
        (pss_cons (ps_for PassesOwn.never rfl (pi_enum (by rfl) B.enumerate (pa_cons (pv 12) pa_nil)) (pg_tup (by rfl) (pgs_cons (pg_name (i := 14) scLaw.nd rfl (.inl rfl)) (pgs_cons (pg_name (i := 10) scLaw.nd rfl (.inr rfl)) pgs_nil)))
          (pss_one (ps_expr (pe_bm PySem.F.plainAttrs_list PySem.F.slot_list_extend PySem.F.type_list_extend mt_extend (pv 13) (pa_cons (pe_lc (own := [("held", 16)]) (g := (gName 16)) (tt := tYes) (te := (tCall spFar [] E0 (tCons (tVar 3) (tCons (tVar 10) (tCons (tVar 16) tNil))))) rfl scLaw.nd (pi_list (pe_slice sl_list (pv 12) po_none (po_some (pv 14)))) (blkOk_by (N := ["script", "k", "deck", "way", "n", "d", "lister", "other", "left", "order", "one", "due", "orders", "some", "at", "gone", "held"]) (sc := defScope s_law) (by decide +kernel)) (fun _ _ _ _ _ => (pg_name (i := 16) scLaw.nd rfl (.inl rfl))) (fun _ _ _ _ _ => pts_nil) (fun _ _ _ _ _ => (pe_call G_how_far hr (by rfl) T_how_far.g T_how_far.F.kp T_how_far.b .nil pass0 (pa_cons (pv 3) (pa_cons (pv 10) (pa_cons (pv 16) pa_nil)))))) pa_nil)))))
        (Evl.pss_cut (ps_if (PW.pt (pw_and (pt_cmpR op_gt (pe_callB call_len_seq (by rfl) B.len PySem.boot_len (pa_cons (pv 12) pa_nil)) pe_int (nomark _)) (pw_and1 (PW.pt (pw_or (pt_cmpR op_ne (pe_meth0 (pv 7) T_Lister.cl T_Lister_least_apart.me G_Lister_least_apart hr T_Lister_least_apart.b .nil pass0) (pe_callB (cr_min rfl) (by rfl) B.min (by decide +kernel) (pa_cons (pv 13) pa_nil)) (nomark _)) (pw_or1 (pt_cmpR op_lt (pe_callB (cr_min rfl) (by rfl) B.min (by decide +kernel) (pa_cons (pv 13) pa_nil)) (pv 5) (nomark _))))))))
          (pss_one (ps_ret pe_bl))
          pss_nil)
        (pss_cons (ps_set (i := 15) scLaw.nd rfl (.inl rfl) (pe_ix ix_list (pv 12) (pe_op op_mod (pe_call G__law_next hr (by rfl) T__law_next.g T__law_next.F.kp T__law_next.b .nil pass0 (pa_cons (pv 2) pa_nil)) (pe_callB call_len_seq (by rfl) B.len PySem.boot_len (pa_cons (pv 12) pa_nil))) (fun _ _ => rfl)))
        (pss_cons (ps_expr (pe_meth (pv 7) T_Lister.cl T_Lister_drop.me G_Lister_drop hr T_Lister_drop.b .nil pass0 (pa_cons (pv 15) pa_nil)))
        (pss_one (ps_if (PW.pt (pw_or (pt_cmpR (op_neD hr.units) (pe_meth (pv 7) T_Lister.cl T_Lister_come.me G_Lister_come hr T_Lister_come.b .nil pass0 (pa_cons (pv 15) pa_nil)) (pe_lst pa_nil) (nomark _)) (pw_or1 (pt_cmpR (op_neD hr.units) (pe_meth0 (pv 7) T_Lister.cl T_Lister_orders.me G_Lister_orders hr T_Lister_orders.b .nil pass0) (pv 12) (nomark _)))))
          (pss_one (ps_ret pe_bl))
          pss_nil)))))))))))))))))))))
      (pss_one (ps_ret pe_bl))), ?_⟩
    refine ⟨_, rfl, b0, _, rfl, .inl hS, _, 2, rfl, 1, _, rfl, _, rfl, ?_⟩
    obtain ⟨m, em, hm⟩ := turns2 (ns.map V.int).length
    refine ⟨by rw [em]; omega, by rw [em]; omega, ?_⟩
    rw [em, Int.toNat_natCast]
    refine for_range (n := m) (fun i σ H3 => ∃ (y1 y2 y3 y4 y5 y6 y7 y8 y9 y10 y11 y12 y13 y14 y15 : Option V), σ = [some (.ref b0), y1, y2, y3, y4, y5, y6, y7, y8, y9, y10, y11, y12, y13, y14, y15, none] ∧ KeepT H H3)
      ⟨_, _, _, _, _, _, _, _, _, _, _, _, _, _, _, rfl, KeepT.refl _⟩ (fun k0 σ H3 hk hP => ?_) (fun σ H3 hP => q _)
    obtain ⟨y1, y2, y3, y4, y5, y6, y7, y8, y9, y10, y11, y12, y13, y14, y15, rfl, kT3⟩ := hP
    refine ⟨_, rfl, _, rfl, b0, ns, k0, by rw [show (0 + (k0 : Int)) = (k0 : Int) by omega]; rfl, kT3.seq hS, fun c => ⟨c, 260, rfl, by decide, by decide, fun D H4 nD D4 s4 => ?_⟩⟩
    have nHD : H D = none := kT3.free nD
    -- way
    refine ⟨line_small (by show 3 ≤ 16777216; decide), fun t1 nt1 => ?_⟩
    have D5 := D4.new (o := .lst [.str "swap", .str "spot", .str "shift"]) nt1
    have nt1D := D4.ne nt1
    refine ⟨_, rfl, D, rfl, D5, fun v1 H6 _ _ D6 k6 => ⟨v1, 3, rfl, rfl, (show (0 : Int) < 3 by decide), ?_⟩⟩
    have m1 := mod_b v1 (m := 3) (by decide)
    obtain ⟨wy, ew, hw⟩ : ∃ wy : Str, atI [V.str "swap", V.str "spot", V.str "shift"] (v1 % 3) = some (.str wy) ∧ IsWay wy := by
      have : v1 % 3 = 0 ∨ v1 % 3 = 1 ∨ v1 % 3 = 2 := by omega
      rcases this with h | h | h <;> rw [h]
      · exact ⟨_, rfl, .inl rfl⟩
      · exact ⟨_, rfl, .inr (.inl rfl)⟩
      · exact ⟨_, rfl, .inr (.inr rfl)⟩
    refine ⟨t1, _, _, _, rfl, rfl, SqL.of (k6 t1 _ upd_same nt1D), ew, ?_⟩
    have kk6 : KeepD D H4 H6 := (KeepD.new nt1).trans k6
    have sF : Same H3 H6 := fun b o e => kk6 b o (s4 b o e) (ne_of_none e nD)
    have kT6 := kT3.trans (KeepT.of_same sF)
    clear kk6 k6 D4 D5 s4 sF nt1 nt1D nD kT3
    -- n and d
    refine ⟨_, rfl, D, rfl, D6, fun v2 H7 _ _ D7 k7 => ⟨line_small (by show 2 ≤ 16777216; decide), fun t2 nt2 => ?_⟩⟩
    have s8 := same_new (o := .lst [.int 5, .int 4]) nt2
    obtain ⟨mm, emm, hmm1, hmm2⟩ : ∃ mm : Nat, atI [V.int 5, V.int 4] (0 + (k0 : Int)) = some (.int mm) ∧ 1 ≤ mm ∧ mm ≤ 5 := by
      rcases (show k0 = 0 ∨ k0 = 1 by omega) with rfl | rfl
      · exact ⟨5, rfl, by decide, by decide⟩
      · exact ⟨4, rfl, by decide, by decide⟩
    refine ⟨_, rfl, t2, _, _, _, rfl, rfl, SqL.of upd_same, emm, v2, _, rfl, rfl, by omega, 1, _, rfl, rfl, ?_⟩
    have m2 := mod_b v2 (m := (mm : Int)) (by omega)
    obtain ⟨n, en, hn1, hn2⟩ : ∃ n : Nat, 1 + v2 % (mm : Int) = (n : Int) ∧ 1 ≤ n ∧ n ≤ 5 := ⟨(1 + v2 % (mm : Int)).toNat, by omega, by omega, by omega⟩
    show gName 4 (V.int (1 + v2 % (mm : Int))) _ _ _
    rw [en]
    refine ⟨_, rfl, D, rfl, D7.same s8, fun v3 H9 _ _ D9 k9 => ⟨v3, 5, rfl, rfl, (show (0 : Int) < 5 by decide), 1, _, rfl, rfl, ?_⟩⟩
    have m3 := mod_b v3 (m := 5) (by decide)
    have kT9 := KeepTD.over kT6 ((((KeepTD.refl D H6).draw k7).same s8).draw k9) nHD
    clear k7 s8 k9 D7 nt2 D6 kT6
    refine ⟨fun τ G => ∃ d : Int, 1 ≤ d ∧ τ = [some (.ref b0), some (.int (0 + (k0 : Int))), some (.ref D), some (.str wy), some (.int n), some (.int d), y6, y7, y8, y9, y10, y11, y12, y13, y14, y15, none] ∧ G = H9, ?_, fun τ G hM => ?_⟩
    · refine ⟨_, rfl, rfl, _, rfl, ite2 (fun _ => ⟨_, rfl, _, _, rfl, ?_⟩) (fun _ => ⟨_, by omega, rfl, rfl⟩)⟩
      refine ⟨_, ?_, rfl, rfl⟩
      split <;> omega
    obtain ⟨d, hd, rfl, rfl⟩ := hM
    clear m3 m2
    -- the first Lister
    refine ⟨fun τ G => (∃ y6 : V, τ = [some (.ref b0), some (.int (0 + (k0 : Int))), some (.ref D), some (.str wy), some (.int n), some (.int d), some y6, y7, y8, y9, y10, y11, y12, y13, y14, y15, none] ∧ ∃ (a e : Addr) (ss : List (List (List Int))), y6 = .ref a ∧ LsAt C_Lister G a e [e] wy n d (firstL wy d (allK n n)) ss) ∧ DqAt G D ∧ KeepT H G, ?_, fun τ G hM => ?_⟩
    · refine ⟨_, rfl, _, rfl, _, rfl, wy, n, d, rfl, hw, hn1, hn2, hd, kT9.tab htab, fun a0 e0 ss0 H10 na0 ne0 L10 k10 => ?_⟩
      refine ⟨⟨_, rfl, a0, e0, ss0, rfl, L10⟩, ?_, kT9.trans k10⟩
      obtain ⟨ms, e1, r⟩ := D9
      exact ⟨ms, k10.lst e1, r⟩
    obtain ⟨⟨_, rfl, a0, e0, ss0, rfl, L0⟩, DG, kG⟩ := hM
    clear kT9 D9
    have ho1 : ∀ r ∈ firstL wy d (allK n n), IsOrd n r := fun r m => all_ord (firstL_subset _ _ _ m)
    have hl1 : (firstL wy d (allK n n)).length ≤ 120 := by
      have z := firstL_sub wy d (allK n n) (allK n n).length (Nat.le_refl _)
      rw [List.take_length] at z
      exact Nat.le_trans z.length_le (allK_120 n hn2)
    refine ⟨_, rfl, rfl, _, rfl, iteF ?_⟩
    obtain ⟨_, _, _, ⟨dx1, fl1, ha1, hno1⟩, _⟩ := L0.fin
    refine ⟨_, rfl, a0, dx1, fl1, rfl, ha1, hno1, a0, e0, [e0], wy, n, d, _, ss0, rfl, L0, hl1, fun l qs H11 e2 nr s11 => ?_⟩
    have kT11 := kG.trans (KeepT.of_same s11)
    refine ⟨_, rfl, _, rfl, _, rfl, wy, n, d, rfl, hw, hn1, by omega, hd, kT11.tab htab, fun l2 as2 H12 nl2 hl2 hL2 na2 nd2 k12 => ?_⟩
    refine ⟨_, _, (k12.rp nr.1).dp, dp_lists hl2 hL2, shaped_lists _, shaped_lists _, _, rfl, ?_⟩
    rw [e2, eqv_lists]
    refine iteF ?_
    have kT12 := kT11.trans k12
    have L12 := (L0.same s11).keepT k12
    have D12 : DqAt H12 D := by
      obtain ⟨ms, e1, r⟩ := DG.same s11
      exact ⟨ms, k12.lst e1, r⟩
    clear L0 kG DG s11 kT11 k12 nr ha1 hno1 hl2 hL2 na2 nd2 nl2
    refine ⟨fun τ G => τ = [some (.ref b0), some (.int (0 + (k0 : Int))), some (.ref D), some (.str wy), some (.int n), some (.int d), some (.ref a0), y7, y8, y9, y10, y11, y12, y13, y14, y15, none] ∧ DqAt G D ∧ KeepT H G, ?_, fun τ G hM => ?_⟩
    · obtain ⟨_, _, _, ⟨dx1, fl1, ha1, hno1⟩, _⟩ := L12.fin
      refine ⟨_, rfl, _, rfl, _, rfl, _, rfl, a0, dx1, fl1, rfl, ha1, hno1, a0, e0, [e0], wy, n, d, _, ss0, rfl, L12, hl1, fun l qs H13 e2 nr s13 => ?_⟩
      refine ⟨wy, n, d, l, qs.map (·.1), rws qs, rfl, hw, hn2, hd, ⟨nr.1.two.1, nr.1.two.2, by rw [e2]; exact ho1, hn1, by omega⟩, by rw [e2]; exact up_ap hn1 ho1 (upA_first _ _ _), by rw [e2]; exact first_full hn1 hd, by rw [e2]; exact hl1, (kT12.trans (KeepT.of_same s13)).tab htab, fun H14 k14 => ⟨true, rfl, iteF ⟨rfl, ?_, (kT12.trans (KeepT.of_same s13)).trans k14⟩⟩⟩
      obtain ⟨ms, e1, r⟩ := D12.same s13
      exact ⟨ms, k14.lst e1, r⟩
    obtain ⟨rfl, DG, kG⟩ := hM
    clear D12 kT12 L12
    have tD : ∃ o, G D = some o := by obtain ⟨ms, e, _⟩ := DG; exact ⟨_, e⟩
    -- the other Lister
    refine ⟨_, rfl, _, rfl, _, rfl, fun a dx na ndx nxa => ?_⟩
    have n2a : (upd G dx (.own a)) a = none := by rw [upd_ne nxa.symm]; exact na
    have sm1 := (same_new (o := .own a) ndx).trans (same_new (o := .ins C_Lister dx []) n2a)
    have naD : a ≠ D := DG.ne na
    refine ⟨a, dx, [D], wy, n, d, rfl, upd_same, hw, hn1, by omega, hd, fun x hx => (by rw [List.mem_singleton.mp hx]; obtain ⟨o, ho⟩ := tD; exact ⟨o, sm1 _ _ ho⟩), fun hm => naD (List.mem_singleton.mp hm), fun e H1 ne L1 k1 => ⟨rfl, ?_⟩⟩
    have s01 : Same G H1 := fun b o hb => k1 b o (sm1 b o hb) (ne_of_none hb na)
    have nGe : G e = none := sm1.free ne
    have neD : e ≠ D := DG.ne nGe
    refine ⟨_, rfl, n, rfl, hn1, by omega, fun h as H2 nh hh hLL hfr hnd s12 => ?_⟩
    have nGh : G h = none := s01.free nh
    have nhD : h ≠ D := DG.ne nGh
    obtain ⟨es, hes, ees, eas⟩ := rp_of_LL2 hh hLL
    have nodup := allK_nodup (n := n) n
    have W0 : TwL C_Lister H2 D a e h (h :: e :: [D]) wy n d [] [] es := by
      obtain ⟨dx', t', ps', st', x1, x2, _⟩ := L1.ex
      have hx : ∀ p ∈ es, H1 p.1 = none ∧ p.1 ≠ h := fun p hp => hfr p.1 (by rw [← eas]; exact List.mem_map_of_mem hp)
      exact { dq := (DG.same s01).same s12, ls := L1.grow s12 nh ⟨_, hh⟩, hh := hes, nd := ⟨naD, neD, nhD, fun z => (by rw [← z, x1] at nh; cases nh), fun z => (by rw [← z, x2] at nh; cases nh)⟩, x := ⟨by simp, by simp, by simp⟩, rp := fun p hp => ⟨fun z => (by have := (hx p hp).1; rw [z, x1] at this; cases this), fun z => (by have := (hx p hp).1; rw [z, x2] at this; cases this), (DG.same s01).ne (hx p hp).1, (hx p hp).2⟩, u := by rw [ees]; exact nodup, od := fun r hr => all_ord (by rw [← ees]; exact hr) }
    have K0 : KeepTD D G H2 := ((KeepTD.refl D G).same s01).same s12
    clear L1 k1 s01 sm1 n2a ndx nxa hLL hfr hnd s12 hh nh ne
    refine ⟨_, rfl, n, rfl, hn1, by omega, fun l2 as2 H5 nl2 hl2 hLL2 hfr2 hnd2 s25 => ?_⟩
    have W5 := W0.same s25
    have K5 := K0.same s25
    have n2 := W0.new nl2
    have lall : as2.length = (allK n n).length := hLL2.len
    have les : es.length = (allK n n).length := by rw [← ees, List.length_map]
    have l120 := allK_120 n hn2
    clear W0 K0 s25 hLL2 hfr2 hnd2
    refine ⟨l2, rfl, ⟨_, SqL.of hl2⟩, ?_⟩
    refine for_list (xs := as2.map V.ref) (fun i σ G1 => ∃ (rs : List (List Int)) (ss : List (List (List Int))) (ps : List (Addr × List Int)) (y9 y10 y11 : Option V), σ = [some (.ref b0), some (.int (0 + (k0 : Int))), some (.ref D), some (.str wy), some (.int n), some (.int d), some (.ref a0), some (.ref a), some (.ref h), y9, y10, y11, y12, y13, y14, y15, none] ∧ TwL C_Lister G1 D a e h (h :: e :: [D]) wy n d rs ss ps ∧ G1 l2 = some (.lst (as2.map V.ref)) ∧ KeepTD D G G1 ∧ ps.length + i = (allK n n).length ∧ rs.length ≤ i ∧ ss.length ≤ i ∧ Cm75 wy n d rs (rws ps))
      ⟨[], [], es, _, _, _, rfl, W5, hl2, K5, les, Nat.le_refl _, Nat.le_refl _, by rw [ees]; exact .start⟩ (fun i σ G1 _ hP => by obtain ⟨_, _, _, _, _, _, _, _, hl, _⟩ := hP; exact SqL.of hl) (fun i x σ G1 hx hP => ?_) (fun σ G1 hP => ?_)
    · obtain ⟨rs, ss, ps, y9, y10, y11, rfl, W, hlc, KD, hpl, hrl, hsl, hC⟩ := hP
      have hi : i < as2.length := by
        have := (List.getElem?_eq_some_iff.mp hx).1
        rw [List.length_map] at this
        exact this
      have hpp : 0 < ps.length := by omega
      -- one
      refine ⟨_, rfl, .inl ⟨rfl, _, SqL.of W.hh.1⟩, _, rfl, D, rfl, W.dq, fun v7 G2 _ _ D2 k2 => ?_⟩
      have W2 := W.draw k2 D2
      obtain ⟨j, ej, hj⟩ := mod_ix v7 hpp
      refine ⟨_, rfl, h, _, rfl, .inl (SqL.of W2.hh.1), v7, _, rfl, rfl, (show (0 : Int) < _ by rw [List.length_map]; omega), ?_⟩
      obtain ⟨p, ep⟩ : ∃ p, ps[j]? = some p := ⟨ps[j], List.getElem?_eq_getElem hj⟩
      have mp := List.mem_of_getElem? ep
      refine ⟨h, _, _, j, V.ref p.1, rfl, rfl, W2.hh.1, by rw [List.length_map, ej]; omega, by rw [List.length_map, ej]; omega, seq_ix (by rw [List.length_map, ej]) (by rw [List.length_map]; exact hj), (by rw [List.getElem?_map, ep]; rfl), ?_⟩
      rw [erase_map]
      have me : ∀ {x}, x ∈ ps.eraseIdx j → x ∈ ps := fun hx => List.mem_of_mem_eraseIdx hx
      have er : rws (ps.eraseIdx j) = (rws ps).filter fun r => !decide (r = p.2) := by
        rw [← erase_filter W2.u (rws_at ep)]
        exact (erase_map _ _ _).symm
      have W3 := W2.held (qs := ps.eraseIdx j) (fun x hx => W2.hh.2 x (me hx)) (fun x hx => W2.rp x (me hx)) (by rw [er]; exact W2.u.filter _) (fun r hr => by rw [er] at hr; exact W2.od r (List.mem_filter.mp hr).1)
      have hp3 : (upd G2 h (.lst ((ps.eraseIdx j).map fun p => V.ref p.1))) p.1 = some (.lst (p.2.map V.int)) := by rw [upd_ne (W2.rp p mp).2.2.2]; exact W2.hh.2 p mp
      have hl3 : (upd G2 h (.lst ((ps.eraseIdx j).map fun p => V.ref p.1))) l2 = some (.lst (as2.map V.ref)) := by rw [upd_ne n2.2.2.2]; exact k2 _ _ hlc n2.2.2.1
      have K3 : KeepTD D G (upd G2 h (.lst ((ps.eraseIdx j).map fun p => V.ref p.1))) := (KD.draw k2).updN nGh
      have op : IsOrd n p.2 := W2.od _ (List.mem_map_of_mem mp)
      have pn := W2.rp p mp
      have lpe : (ps.eraseIdx j).length + 1 = ps.length := by rw [List.length_eraseIdx, if_pos hj]; omega
      generalize upd G2 h (.lst ((ps.eraseIdx j).map fun p => V.ref p.1)) = G3 at W3 hp3 hl3 K3 ⊢
      generalize ps.eraseIdx j = qs at W3 er lpe me ⊢
      clear W W2 k2 D2 hlc KD
      -- those too near
      obtain ⟨_, _, _, ⟨dx1, fl1, ha1, hno1⟩, _⟩ := W3.ls.fin
      refine ⟨_, rfl, a, dx1, fl1, rfl, ha1, hno1, a, e, _, wy, n, d, _, ss, rfl, W3.ls, by omega, fun l4 qs4 G4 e4 nr4 s4 => ⟨l4, rfl, ⟨_, SqL.of nr4.1.1⟩, fun M nM => ?_⟩⟩
      have sM := same_new (o := .lst []) nM
      have nMt := (W3.same s4).new nM
      have ors := W3.ls.ord
      refine lc_list (K := K) (a := l4) (xs := qs4.map fun p => V.ref p.1) (fun j H6 => ∃ bs : List (Addr × List Int), RP H6 M bs ∧ rws bs = ((rws qs4).take j).filter (fun r => decide (farW wy r p.2 < d)) ∧ (∀ b ∈ bs, b ∈ qs4) ∧ Same G4 H6)
        ⟨[], ⟨upd_same, fun p hp => absurd hp List.not_mem_nil⟩, rfl, fun p hp => absurd hp List.not_mem_nil, sM⟩ (fun j H6 _ hP => by obtain ⟨_, _, _, _, sm⟩ := hP; exact SqL.of (sm _ _ nr4.1.1)) (fun j x H6 hxi hP => ?_) (fun H6 hP => ?_)
      · obtain ⟨bs, hb, eb, mb, sm⟩ := hP
        obtain ⟨r, eqr, rfl, hr⟩ := (nr4.1.same sm).at hxi
        have er2 := rws_at eqr
        have orr : IsOrd n r.2 := ors _ (by rw [← e4]; exact List.mem_of_getElem? er2)
        have hjl : j < qs4.length := (List.getElem?_eq_some_iff.mp eqr).1
        have lq4 : qs4.length = rs.length := by rw [← e4, List.length_map]
        refine ⟨rfl, _, rfl, _, rfl, _, rfl, wy, r.1, p.1, n, r.2, p.2, rfl, hw, hr, sm _ _ (s4 _ _ hp3), orr, op, hn1, by omega, fun H7 s7 => ⟨_, rfl, _, _, rfl, rfl, _, rfl, ?_⟩⟩
        have hb7 := hb.same s7
        have sm7 := sm.trans s7
        have hbl : bs.length ≤ j := by
          have h1 := congrArg List.length eb
          have h2 := List.length_filter_le (fun r => decide (farW wy r p.2 < d)) ((rws qs4).take j)
          rw [List.length_map] at h1
          rw [List.length_take] at h2
          omega
        refine ite2 (fun c => ?_) (fun c => ?_)
        · refine ⟨_, rfl, _, hb7.1, line_lt (by rw [List.length_map]; omega), bs ++ [r], ⟨by rw [upd_same, List.map_append]; rfl, fun r' hr' => ?_⟩, ?_, fun r' hr' => ?_, fun b o hb' => ?_⟩
          · have hm : r' ∈ qs4 := by
              rcases List.mem_append.mp hr' with hr' | hr'
              · exact mb r' hr'
              · rw [List.mem_singleton.mp hr']; exact List.mem_of_getElem? eqr
            have h0 := nr4.1.2 r' hm
            rw [upd_ne (ne_of_none h0 nM)]
            exact sm7 _ _ h0
          · rw [filter_p _ er2, if_pos c, ← eb]
            show List.map _ (bs ++ [r]) = _
            rw [List.map_append]
            rfl
          · rcases List.mem_append.mp hr' with hr' | hr'
            · exact mb r' hr'
            · rw [List.mem_singleton.mp hr']; exact List.mem_of_getElem? eqr
          · rw [upd_ne (ne_of_none hb' nM)]
            exact sm7 _ _ hb'
        · refine ⟨bs, hb7, ?_, mb, sm7⟩
          rw [filter_p _ er2, if_neg c, List.append_nil]
          exact eb
      obtain ⟨bs, hb, eb, mb, sm⟩ := hP
      rw [List.length_map, List.take_of_length_le (by rw [List.length_map]; exact Nat.le_refl _), e4] at eb
      have eb2 : rws bs = nearR wy p.2 d rs := by
        rw [eb]
        unfold nearR
        exact List.filter_congr fun r mr => by rw [farW_turn op (ors r mr) hn1]
      have s46 := s4.trans sm
      have W6 := W3.same s46
      have nbs : ∀ b ∈ bs, b.1 ≠ a ∧ b.1 ≠ e := fun b m => by
        have := W3.new (nr4.2.2 b (mb b m))
        exact ⟨this.1, this.2.1⟩
      have hp6 := s46 _ _ hp3
      have hl6 := s46 _ _ hl3
      have K6 := K3.same s46
      obtain ⟨_, _, ⟨dx2, fl2, ha2, hno2⟩, _⟩ := W6.ls.fin
      refine ⟨_, rfl, a, dx2, fl2, rfl, ha2, hno2, _, rfl, p.1, _, rfl, .inl (SqL.of hp6), fun c nc => ?_⟩
      have s7 := same_new (o := .lst (p.2.map V.int)) nc
      have W7 := W6.same s7
      have hb7 := hb.same s7
      have hl7 := s7 _ _ hl6
      have K7 := K6.same s7
      refine ⟨a, e, c, h :: e :: [D], wy, n, d, rs, ss, p.2, rfl, W7.ls, upd_same, op, by omega, by omega, fun l9 qs9 rs9 ss9 H9 e9 r1 r2 nr9 L9 k9 => ?_⟩
      have W9 := W7.kpl k9 (L9.sub (fun x hx => List.mem_cons_of_mem _ (List.mem_append_right _ hx)) (by simp))
      have K9 := K7.kpl k9 na nGe
      have hl9 := k9 _ _ hl7 n2.1 n2.2.1
      have hb9 : RP H9 M bs := ⟨k9 _ _ hb7.1 nMt.1 nMt.2.1, fun b m => k9 _ _ (hb7.2 b m) (nbs b m).1 (nbs b m).2⟩
      refine ⟨_, rfl, _, _, nr9.1.dp, hb9.dp, shaped_lists _, shaped_lists _, _, rfl, ?_⟩
      rw [e9, eb2, eqv_lists]
      refine iteF ?_
      by_cases q9 : qs9 = []
      · obtain ⟨p9, so9, es9⟩ := r1 q9
        have en0 : nearR wy p.2 d rs = [] := by rw [← e9, q9]; rfl
        refine ⟨rs9, ss9, qs, _, _, _, rfl, W9, hl9, K9, by omega, ?_, ?_, ?_⟩
        · rw [p9.length_eq, List.length_append, List.length_singleton]
          omega
        · rw [es9, List.length_append, List.length_singleton]
          omega
        · rw [er]
          exact hC.taken hn1 hd ors op en0 p9 so9
      · obtain ⟨rfl, rfl⟩ := r2 q9
        refine ⟨rs9, ss9, qs, _, _, _, rfl, W9, hl9, K9, by omega, Nat.le_succ_of_le hrl, Nat.le_succ_of_le hsl, ?_⟩
        rw [er]
        refine hC.near fun z => q9 (List.eq_nil_of_length_eq_zero ?_)
        have := congrArg List.length (e9.trans z)
        rw [List.length_map] at this
        exact this
    · obtain ⟨rs, ss, ps, y9, y10, y11, rfl, W, hlc, KD, hpl, hrl, hsl, hC⟩ := hP
      rw [List.length_map, lall] at hpl hrl hsl
      have hp0 : ps = [] := List.eq_nil_of_length_eq_zero (by omega)
      subst hp0
      have ors := W.ls.ord
      have hFull : Full wy n d rs := full_of fun o mo => (hC.all o mo).resolve_left (fun h => absurd h List.not_mem_nil)
      have hAp : ApL wy d rs := apL_of hC.nd hC.far
      have rl : rs.length ≤ 120 := by omega
      have kt : ∀ {G' : Hp}, KeepTD D G G' → KeepT H G' := fun k => KeepTD.over kG k nHD
      obtain ⟨_, _, _, ⟨dx1, fl1, ha1, hno1⟩, _⟩ := W.ls.fin
      refine ⟨_, rfl, a, dx1, fl1, rfl, ha1, hno1, a, e, _, wy, n, d, _, ss, rfl, W.ls, rl, fun lo os G2 eo nro s2 => ?_⟩
      have nlo := W.new nro.2.1
      have nos : ∀ b ∈ os, b.1 ≠ a ∧ b.1 ≠ e ∧ b.1 ≠ D ∧ b.1 ≠ h := fun b m => W.new (nro.2.2 b m)
      have W2 := W.same s2
      have K2 := KD.same s2
      have hO2 := nro.1
      have los : os.length = rs.length := by rw [← eo, List.length_map]
      clear W KD hlc ha1 hno1 nro s2
      obtain ⟨⟨dx3, fl3, ha3, hno3⟩, ⟨dx2, fl2, ha2, hno2⟩, _⟩ := W2.ls.fin
      refine ⟨_, rfl, a, dx2, fl2, rfl, ha2, hno2, a, e, _, wy, n, d, _, ss, rfl, W2.ls, by omega, (kt K2).tab htab, fun ez G3 k3 => ⟨rfl, _, rfl, iteF ?_⟩, fun x xs l G3 ez _ _ _ => absurd (hFull.symm.trans ez) (by simp)⟩
      have W3 := W2.keepT k3
      have K3 := K2.keepT k3
      have hO3 := k3.rp hO2
      obtain ⟨⟨dx3, fl3, ha3, hno3⟩, _⟩ := W3.ls.fin
      refine ⟨_, rfl, a, dx3, fl3, rfl, ha3, hno3, a, e, _, wy, n, d, _, ss, rfl, W3.ls, by omega, (kt K3).tab htab, fun G4 k4 => ⟨rfl, _, rfl, iteNS (congrArg V.int (by rw [show freeL wy n d rs = [] from hFull]; rfl)) ?_⟩⟩
      have W4 := W3.keepT k4
      have K4 := K3.keepT k4
      have hO4 := k4.rp hO3
      refine ⟨_, rfl, _, rfl, _, rfl, _, rfl, wy, n, d, lo, os.map (·.1), rws os, rfl, hw, hn2, hd, ⟨hO4.two.1, hO4.two.2, by rw [eo]; exact ors, hn1, by omega⟩, by rw [eo]; exact hAp, by rw [eo]; exact hFull, by rw [eo]; exact rl, (kt K4).tab htab, fun G5 k5 => ⟨true, rfl, iteF ?_⟩⟩
      have W5 := W4.keepT k5
      have K5 := K4.keepT k5
      have hO5 := k5.rp hO4
      clear W2 W3 W4 K2 K3 K4 hO2 hO3 hO4 k3 k4 k5 ha2 ha3 hno2 hno3
      -- the distances
      refine ⟨by decide, fun so nso => ?_⟩
      have s6 := same_new (o := .lst []) nso
      refine ⟨_, rfl, lo, _, rfl, SqL.of (s6 _ _ hO5.1), ?_⟩
      refine for_enumL (xs := os.map fun p => V.ref p.1) (fun i σ H3 => ∃ (y9 y10 y11 y14 y15 : Option V), σ = [some (.ref b0), some (.int (0 + (k0 : Int))), some (.ref D), some (.str wy), some (.int n), some (.int d), some (.ref a0), some (.ref a), some (.ref h), y9, y10, y11, some (.ref lo), some (.ref so), y14, y15, none] ∧ H3 so = some (.lst ((prs wy (rws os) i).map V.int)) ∧ Same G5 H3)
        ⟨_, _, _, _, _, rfl, upd_same, s6⟩ (fun i σ H3 hP => by obtain ⟨_, _, _, _, _, _, _, sm⟩ := hP; exact SqL.of (sm _ _ hO5.1)) (fun i x t σ H3 hx hP nt => ?_) (fun σ H3 hP => ?_)
      · obtain ⟨y9, y10, y11, y14, y15, rfl, hso, sm⟩ := hP
        obtain ⟨p, ep, rfl, hp⟩ := hO5.at hx
        have er := rws_at ep
        have op := ors _ (by rw [← eo]; exact List.mem_of_getElem? er)
        have s3 := same_new (o := .tup [.int (i : Nat), .ref p.1]) nt
        have hi : i < os.length := (List.getElem?_eq_some_iff.mp ep).1
        refine ⟨t, _, rfl, .inl (.inl upd_same), rfl, _, _, rfl, _, _, rfl, rfl, ?_⟩
        have sm3 := sm.trans s3
        have hso3 := s3 _ _ hso
        generalize upd H3 t (.tup [.int (i : Nat), .ref p.1]) = H4 at sm3 hso3 ⊢
        refine ⟨_, rfl, .inl ⟨rfl, _, SqL.of hso3⟩, _, rfl, _, rfl, _, rfl, lo, _, rfl, SqL.of (sm3 _ _ hO5.1), fun c nc => ?_⟩
        rw [cut_take]
        have s5 := same_new (o := .lst ((os.map fun p => V.ref p.1).take i)) nc
        have sm5 := sm3.trans s5
        have hso5 := s5 _ _ hso3
        have hc5 : (upd H4 c (.lst ((os.map fun p => V.ref p.1).take i))) c = some (.lst ((os.map fun p => V.ref p.1).take i)) := upd_same
        generalize upd H4 c (.lst ((os.map fun p => V.ref p.1).take i)) = H5 at sm5 hso5 hc5 ⊢
        refine ⟨c, rfl, ⟨_, SqL.of hc5⟩, fun M nM => ?_⟩
        have sM := same_new (o := .lst []) nM
        have hl1 := prs_len (w := wy) (rs := rws os) i
        have hsq : i * i ≤ 120 * 120 := Nat.mul_le_mul (by omega) (by omega)
        refine lc_list (K := K) (a := c) (xs := (os.map fun p => V.ref p.1).take i) (fun j H6 => H6 M = some (.lst ((((rws os).take j).map (farW wy p.2)).map V.int)) ∧ Same H5 H6)
          ⟨upd_same, sM⟩ (fun j H6 _ hP => SqL.of (hP.2 _ _ hc5)) (fun j x H6 hx hP => ?_) (fun H6 hP => ?_)
        · obtain ⟨hM, s6⟩ := hP
          have hj : j < i := by
            have := (List.getElem?_eq_some_iff.mp hx).1
            rw [List.length_take] at this
            omega
          rw [List.getElem?_take_of_lt hj] at hx
          have sm6 := sm5.trans s6
          obtain ⟨r, eqr, rfl, hr3⟩ := (hO5.same sm6).at hx
          have er2 := rws_at eqr
          refine ⟨rfl, _, rfl, _, rfl, _, rfl, wy, p.1, r.1, n, p.2, r.2, rfl, hw, sm6 _ _ hp, hr3, op, ors _ (by rw [← eo]; exact List.mem_of_getElem? er2), hn1, by omega, fun H7 s7 => ?_⟩
          refine ⟨_, s7 _ _ hM, line_lt ?_, by rw [upd_same, take_p er2]; simp, fun b o hb => ?_⟩
          · rw [List.length_map, List.length_map, List.length_take]
            omega
          · rw [upd_ne (ne_of_none hb nM)]
            exact s7 _ _ (s6 _ _ hb)
        · obtain ⟨hM, s6⟩ := hP
          have hso6 := s6 _ _ hso5
          refine ⟨so, M, _, _, rfl, rfl, hso6, hM, ?_, ?_⟩
          · refine line_small ?_
            rw [List.length_map, List.length_map, List.length_map, List.length_take, List.length_take, List.length_map]
            show _ ≤ 16777216
            omega
          · refine ⟨_, _, _, _, _, rfl, ?_, fun b o hb => ?_⟩
            · rw [upd_same, prs_at er, List.map_append]
              rw [show ((os.map fun p => V.ref p.1).take i).length = i by rw [List.length_take, List.length_map]; omega]
            · rw [upd_ne (ne_of_none hb nso)]
              exact s6 _ _ (sm5 _ _ hb)
      obtain ⟨y9, y10, y11, y14, y15, rfl, hso, sm⟩ := hP
      rw [List.length_map, los, eo] at hso
      have W6 := W5.same sm
      have K6 := K5.same sm
      have hO6 := hO5.same sm
      clear W5 K5 hO5 sm s6 nso
      refine ⟨fun τ G' => τ = [some (.ref b0), some (.int (0 + (k0 : Int))), some (.ref D), some (.str wy), some (.int n), some (.int d), some (.ref a0), some (.ref a), some (.ref h), y9, y10, y11, some (.ref lo), some (.ref so), y14, y15, none] ∧ TwL C_Lister G' D a e h (h :: e :: [D]) wy n d rs ss [] ∧ KeepTD D G G' ∧ RP G' lo os, ?_, fun τ G' hM => ?_⟩
      · refine ⟨_, rfl, lo, _, rfl, .inl (SqL.of hO6.1), _, _, rfl, rfl, _, rfl, ite2 (fun c => ?_) (fun c => iteF ⟨rfl, W6, K6, hO6⟩)⟩
        have hl2 : 1 < rs.length := by
          have := of_decide_eq_true c
          rw [List.length_map, los] at this
          omega
        have n0 : prs wy rs rs.length ≠ [] := fun z => by
          have m0 : rs[0]'(by omega) ∈ rs := List.getElem_mem _
          have m1 : rs[1]'hl2 ∈ rs := List.getElem_mem _
          have ne : rs[0]'(by omega) ≠ rs[1]'hl2 := fun z => by
            have := (List.pairwise_iff_getElem.mp hC.nd) 0 1 (by omega) hl2 (by decide)
            exact this z
          have := (prs_mem (w := wy) ors hn1 hC.nd rs.length (Nat.le_refl _) (farW wy (rs[0]'(by omega)) (rs[1]'hl2))).mpr ⟨_, by rw [List.take_length]; exact m0, _, by rw [List.take_length]; exact m1, ne, rfl⟩
          rw [z] at this
          exact absurd this List.not_mem_nil
        obtain ⟨_, _, _, _, ⟨dx4, fl4, ha4, hno4⟩, _⟩ := W6.ls.fin
        refine ⟨_, rfl, a, dx4, fl4, rfl, ha4, hno4, a, e, _, wy, n, d, _, ss, rfl, W6.ls, rl, fun ez => absurd ez n0, fun m G7 s7 hm hle => ?_⟩
        refine ⟨_, rfl, so, _, rfl, SqL.of (s7 _ _ hso), List.length_pos_iff.mpr n0, fun m' hm' hle' => ⟨rfl, _, rfl, iteNS (congrArg V.int (Int.le_antisymm (hle _ hm') (hle' _ hm))) ?_⟩⟩
        refine ⟨_, rfl, so, _, rfl, SqL.of (s7 _ _ hso), List.length_pos_iff.mpr n0, fun m2 hm2 _ => ⟨_, rfl, _, _, rfl, rfl, _, rfl, ite2 (fun c2 => ?_) (fun _ => ?_)⟩⟩
        · exfalso
          obtain ⟨x, hx, z, hz, ne, e2⟩ := (prs_mem (w := wy) ors hn1 hC.nd rs.length (Nat.le_refl _) m2).mp hm2
          rw [List.take_length] at hx hz
          have h3 := hC.far x hx z hz ne
          have h4 := of_decide_eq_true c2
          omega
        · exact ⟨rfl, W6.same s7, K6.same s7, hO6.same s7⟩
      obtain ⟨rfl, W7, K7, hO7⟩ := hM
      clear W6 K6 hO6 hso
      -- one dropped and come again
      have hr0 : 0 < rs.length := by
        obtain ⟨f, mf, _⟩ := full_near hFull (ord_mem (n := n) (List.Perm.refl (rg n)))
        exact List.length_pos_of_mem mf
      refine ⟨_, rfl, _, rfl, D, rfl, W7.dq, fun v8 G8 _ _ D8 k8 => ?_⟩
      have W8 := W7.draw k8 D8
      have K8 := K7.draw k8
      have hO8 : RP G8 lo os := ⟨k8 _ _ hO7.1 nlo.2.2.1, fun b m => k8 _ _ (hO7.2 b m) (nos b m).2.2.1⟩
      obtain ⟨j, ej, hj⟩ := mod_ix v8 (m := os.length) (by omega)
      obtain ⟨g, eg⟩ : ∃ g, os[j]? = some g := ⟨os[j], List.getElem?_eq_getElem hj⟩
      have mg := List.mem_of_getElem? eg
      have mg2 : g.2 ∈ rs := by rw [← eo]; exact List.mem_map_of_mem mg
      have og := ors _ mg2
      refine ⟨_, rfl, lo, _, rfl, .inl (SqL.of hO8.1), v8, _, rfl, rfl, (show (0 : Int) < _ by rw [List.length_map]; omega), lo, _, _, V.ref g.1, rfl, rfl, SqL.of hO8.1, at_of (j := j) (by rw [List.length_map, ej]) (by rw [List.getElem?_map, eg]; rfl), ?_⟩
      obtain ⟨_, _, _, _, _, ⟨dx5, fl5, ha5, hno5⟩⟩ := W8.ls.fin
      refine ⟨_, rfl, a, dx5, fl5, rfl, ha5, hno5, _, rfl, a, e, g.1, _, wy, n, d, rs, ss, g.2, rfl, W8.ls, hO8.2 g mg, mg2, og, by omega, rl, fun G9 L9 k9 => ?_⟩
      have W9 := W8.kpl k9 L9
      have K9 := K8.kpl k9 na nGe
      have hO9 : RP G9 lo os := ⟨k9 _ _ hO8.1 nlo.1 nlo.2.1, fun b m => k9 _ _ (hO8.2 b m) (nos b m).1 (nos b m).2.1⟩
      have nf : nearR wy g.2 d (rs.filter fun r => !decide (r = g.2)) = [] := by
        refine List.filter_eq_nil_iff.mpr fun r mr hr => ?_
        obtain ⟨m1, m2⟩ := List.mem_filter.mp mr
        have ne : r ≠ g.2 := by simpa using m2
        have := hC.far g.2 mg2 r m1 ne.symm
        have := of_decide_eq_true hr
        omega
      have lf : (rs.filter fun r => !decide (r = g.2)).length < rs.length := by
        have h1 := List.length_filter_le (fun r => !decide (r = g.2)) rs
        refine Nat.lt_of_le_of_ne h1 fun z => ?_
        have := List.length_filter_eq_length_iff.mp z g.2 mg2
        simp at this
      obtain ⟨_, _, ⟨dx6, fl6, ha6, hno6⟩, _⟩ := W9.ls.fin
      refine ⟨_, rfl, a, dx6, fl6, rfl, ha6, hno6, _, rfl, a, e, g.1, _, wy, n, d, _, _, g.2, rfl, W9.ls, hO9.2 g mg, og, by omega, by rw [List.length_append, List.length_singleton]; omega, fun l10 qs10 rs10 ss10 G10 e10 r1 r2 nr10 L10 k10 => ⟨by decide, fun u nu => ?_⟩⟩
      have q10 : qs10 = [] := List.eq_nil_of_length_eq_zero (by
        have := congrArg List.length (e10.trans nf)
        rw [List.length_map] at this
        exact this)
      obtain ⟨p10, so10, es10⟩ := r1 q10
      have pr : (rs.filter fun r => !decide (r = g.2)) ++ [g.2] |>.Perm rs := by
        refine nodup_perm (List.nodup_append.mpr ⟨hC.nd.filter _, by simp, fun x hx y hy z => ?_⟩) hC.nd fun x => ?_
        · rw [List.mem_singleton.mp hy] at z
          rw [z] at hx
          simp at hx
        · rw [List.mem_append, List.mem_filter, List.mem_singleton]
          constructor
          · rintro (⟨h1, _⟩ | rfl)
            · exact h1
            · exact mg2
          · intro h1
            by_cases c : x = g.2
            · exact .inr c
            · exact .inl ⟨h1, by simp [c]⟩
      have er10 : rs10 = rs := rowsP_eq (p10.trans pr) so10 hC.so
      have s11 := same_new (o := .lst []) nu
      refine ⟨_, _, (nr10.1.same s11).dp, dp_list (ns := []) upd_same, shaped_lists _, shaped_list _, _, rfl, ?_⟩
      rw [show PyData.eqv (dLL (rws qs10)) (dL []) = true by rw [q10]; exact eqv_list []]
      refine iteF ?_
      have W10 := (W9.kpl k10 (L10.sub (fun x hx => List.mem_cons_of_mem _ (List.mem_append_right _ hx)) (by simp))).same s11
      have K10 := (K9.kpl k10 na nGe).same s11
      have hO10 : RP (upd G10 u (.lst [])) lo os := RP.same ⟨k10 _ _ hO9.1 nlo.1 nlo.2.1, fun b m => k10 _ _ (hO9.2 b m) (nos b m).1 (nos b m).2.1⟩ s11
      generalize upd G10 u (.lst []) = G11 at W10 K10 hO10 ⊢
      obtain ⟨_, _, _, ⟨dx7, fl7, ha7, hno7⟩, _⟩ := W10.ls.fin
      refine ⟨_, rfl, a, dx7, fl7, rfl, ha7, hno7, a, e, _, wy, n, d, _, _, rfl, W10.ls, by rw [er10]; exact rl, fun l12 qs12 G12 e12 nr12 s12 => ⟨_, rfl, _, _, nr12.1.dp, (hO10.same s12).dp, shaped_lists _, shaped_lists _, _, rfl, ?_⟩⟩
      rw [e12, er10, eo, eqv_lists]
      exact iteF ⟨_, _, _, _, _, _, _, _, _, _, _, _, _, _, _, rfl, kt (K10.same s12)⟩
end
end Fo
namespace Fo
open PySem PySem.Spec PyProof.Rows L2
/-! the end of a law that reaches tables of code objects -/
theorem tab_code {K : PySem.W.Frag} {x : Str} {c P f : Addr} {oc : Value} {od : Option Addr} {fd : FuncData} {osl : Array (Option Value)} (t : PySem.W.tabIn K x = some (c, P)) (a : PySem.W.nsIn K mainGlobals x = some (some (.ref f))) (l : K.lookup f = some ⟨oc, od, .func fd, osl⟩) : fd.code = .ref c := by
  unfold PySem.W.tabIn at t
  rw [a] at t
  simp only [l] at t
  split at t
  · rename_i c' e
    rw [e]
    split at t
    · split at t
      · cases t
        rfl
      · cases t
    · cases t
  · cases t
theorem tab_mk {K : PySem.W.Frag} {x : Str} {c P f : Addr} {oc o2 cd : Value} {od d2 : Option Addr} {osl s2 : Array (Option Value)} {nm ql : Str} {ar : Arguments} {bd : List Stmt} {sc : Scope} {dV kV dc pm ct : Value} {an : Option Addr} {vs : Array Value}
    (a : PySem.W.nsIn K mainGlobals x = some (some (.ref f))) (l : K.lookup f = some ⟨oc, od, .func (PySem.W.fnOf nm ql ar bd sc dV kV dc pm an cd ct), osl⟩) (e : cd = .ref c) (u : K.lookup c = some ⟨o2, d2, .fields vs, s2⟩) (v : vs[11]? = some (.ref P)) : PySem.W.tabIn K x = some (c, P) := by
  subst e
  have hc : (PySem.W.fnOf nm ql ar bd sc dV kV dc pm an (.ref c) ct).code = .ref c := rfl
  unfold PySem.W.tabIn
  rw [a]
  simp only [l, hc, u, v]
def TabsOf (q : Program) (K : PySem.W.Frag) (h : Heap) : Prop := ∀ (y : Str) (c P : Addr), ((recsOf q).any fun e => e.name == y) = true → PySem.W.tabIn K y = some (c, P) → PySem.W.CodeHd h c P ∧ h.get? P = some { cls := .none, data := .fields #[] }
theorem walk_tab {l : PySem.W.OpenLaw} {n k : Nat} {q : Program} {loose : List Str} {XP : (Str → Option Value) → Heap → Prop} {YP : World → Heap → Prop} {d : DefRec} {K : Params → PySem.W.Frag} {CX : World → CXT} {x : Str}
    (hn : l.most = some n) (hn2 : n ≤ sizeLine) (hdf : d.params.defaults = []) (hr : Room k callerA) (hY : ∀ (w : World) (h : Heap), YP w h → (K w.params).In h)
    (F : ∀ (w : World) (mg : Str → Option Value) (fa : Addr) (h : Heap), (K w.params).In h → h.Ns mainGlobals mg → mg d.name = some (.ref fa) → TabsOf q (K w.params) h → LamX.LawAtS l w (K w.params) (CX w) k n x mg fa h)
    (hX : ∀ (w : World) (H : Hp) (s : Shared) (e : Value) (s' : Shared), CX w [] H s (fun _ _ _ => False) e s' → False) :
    PySem.W.WalkO q loose XP YP l.row.toRowW d [] (fun f vs => PySem.call f vs) := by
  refine Att.attach_callB hn hdf fun w sA sB mg mb fa o1 pm cd dc ad us ns G Y ho hd hcd hmg hob hin hle hbi hge => ?_
  have KX := hY w _ Y
  have tabs : TabsOf q (K w.params) sB.heap := fun y c P hy ht => by
    obtain ⟨e, he⟩ := Option.isSome_iff_exists.mp ((List.find?_isSome (p := fun e : DefRec => e.name == y) (xs := recsOf q)).mpr (by
      obtain ⟨z, z1, z2⟩ := List.any_eq_true.mp hy
      exact ⟨z, z1, z2⟩))
    exact PySem.W.tab_of G.T KX he ht
  obtain ⟨fd, cs, sp, hT, nT, C, hb, hsp, hF⟩ := F w mg fa _ KX G.T.g hmg tabs
  exact LamX.law_callTs KX G.T.g G.T.b G.T.builtins G.T.nolimit hge hT nT C G.T.bmain hob hin (Nat.le_trans hle hn2) hr hF hb (fun H hH hS => hsp H ad ns hle hbi hH hS) fun H e s' => hX w H sB e s'
end Fo
--LEVEL 51
--TABS is_far
--CLASSOBJ Lister way n d taken earlier
--LAWCALL ok_law F_law T_Lister T_Lister_init T_Lister_come T_Lister_drop T_Lister_orders T_Lister_least_apart T_Lister_how_many_more T_Lister_first_more T__law_deck T__law_cell_at T__law_next T__law_filled T_first_apart T__law_lengths_right T__law_all T_how_far (ok_initL (k := 48) T_Lister_init T_Lister T_check_apart (ok_apart (k := 45) T_check_apart T_check_way T_check_size T_check_from T_is_whole m_WAYS B) m_MOST_KEPT) (ok_comeL (k := 49) T_Lister_come T_Lister T_check_order (ok_check (k := 46) T_check_order T_is_order T_is_whole B m_MOST_THINGS) T_check_many (ok_manyOk (k := 48) T_check_many m_MOST_ORDERS) T_known_far (ok_known (k := 48) T_known_far T_far_by_swap T_far_by_spot T_far_by_shift (ok_swap (k := 47) T_far_by_swap T_seats_in (ok_seats (k := 45) T_seats_in T_places_in B) B) (ok_spot (k := 47) T_far_by_spot B) (ok_shift (k := 47) T_far_by_shift T_seats_in (ok_seats (k := 45) T_seats_in T_places_in B) B)) T_Lister_change_to (ok_changeL (k := 48) T_Lister_change_to T_Lister) B) (ok_dropL (k := 49) T_Lister_drop T_Lister T_check_order (ok_check (k := 46) T_check_order T_is_order T_is_whole B m_MOST_THINGS) T_Lister_change_to (ok_changeL (k := 48) T_Lister_change_to T_Lister) B) (ok_ordersL (k := 49) T_Lister_orders T_Lister B) (ok_leastL (k := 49) T_Lister_least_apart T_Lister T_known_far (ok_known (k := 48) T_known_far T_far_by_swap T_far_by_spot T_far_by_shift (ok_swap (k := 47) T_far_by_swap T_seats_in (ok_seats (k := 45) T_seats_in T_places_in B) B) (ok_spot (k := 47) T_far_by_spot B) (ok_shift (k := 47) T_far_by_shift T_seats_in (ok_seats (k := 45) T_seats_in T_places_in B) B)) B) (ok_moreL (k := 49) T_Lister_how_many_more T_Lister T_check_few (ok_few (k := 48) T_check_few) T_all_orders (ok_all_orders (k := 47) T_all_orders T_orders_with B) T_is_far (ok_isFar (k := 47) T_is_far TB_is_far T_known_far (ok_known (k := 46) T_known_far T_far_by_swap T_far_by_spot T_far_by_shift (ok_swap (k := 45) T_far_by_swap T_seats_in (ok_seats (k := 43) T_seats_in T_places_in B) B) (ok_spot (k := 45) T_far_by_spot B) (ok_shift (k := 45) T_far_by_shift T_seats_in (ok_seats (k := 43) T_seats_in T_places_in B) B)) B) B m_MOST_LISTED) (ok_firstL (k := 49) T_Lister_first_more T_Lister T_check_few (ok_few (k := 48) T_check_few) T_all_orders (ok_all_orders (k := 47) T_all_orders T_orders_with B) T_is_far (ok_isFar (k := 47) T_is_far TB_is_far T_known_far (ok_known (k := 46) T_known_far T_far_by_swap T_far_by_spot T_far_by_shift (ok_swap (k := 45) T_far_by_swap T_seats_in (ok_seats (k := 43) T_seats_in T_places_in B) B) (ok_spot (k := 45) T_far_by_spot B) (ok_shift (k := 45) T_far_by_shift T_seats_in (ok_seats (k := 43) T_seats_in T_places_in B) B)) B) B m_MOST_LISTED) (ok_deckN (k := 48) T__law_deck T__law_stir B) (ok_cell (k := 49) T__law_cell_at B) (ok_next (k := 48) T__law_next T__law_stir B) (ok_filled (k := 48) T__law_filled T_Lister T_Lister_init T_Lister_come T_Lister_how_many_more T_Lister_first_more (ok_initL (k := 47) T_Lister_init T_Lister T_check_apart (ok_apart (k := 44) T_check_apart T_check_way T_check_size T_check_from T_is_whole m_WAYS B) m_MOST_KEPT) (ok_comeL (k := 48) T_Lister_come T_Lister T_check_order (ok_check (k := 45) T_check_order T_is_order T_is_whole B m_MOST_THINGS) T_check_many (ok_manyOk (k := 47) T_check_many m_MOST_ORDERS) T_known_far (ok_known (k := 47) T_known_far T_far_by_swap T_far_by_spot T_far_by_shift (ok_swap (k := 46) T_far_by_swap T_seats_in (ok_seats (k := 44) T_seats_in T_places_in B) B) (ok_spot (k := 46) T_far_by_spot B) (ok_shift (k := 46) T_far_by_shift T_seats_in (ok_seats (k := 44) T_seats_in T_places_in B) B)) T_Lister_change_to (ok_changeL (k := 47) T_Lister_change_to T_Lister) B) (ok_moreL (k := 48) T_Lister_how_many_more T_Lister T_check_few (ok_few (k := 47) T_check_few) T_all_orders (ok_all_orders (k := 46) T_all_orders T_orders_with B) T_is_far (ok_isFar (k := 46) T_is_far TB_is_far T_known_far (ok_known (k := 45) T_known_far T_far_by_swap T_far_by_spot T_far_by_shift (ok_swap (k := 44) T_far_by_swap T_seats_in (ok_seats (k := 42) T_seats_in T_places_in B) B) (ok_spot (k := 44) T_far_by_spot B) (ok_shift (k := 44) T_far_by_shift T_seats_in (ok_seats (k := 42) T_seats_in T_places_in B) B)) B) B m_MOST_LISTED) (ok_firstL (k := 48) T_Lister_first_more T_Lister T_check_few (ok_few (k := 47) T_check_few) T_all_orders (ok_all_orders (k := 46) T_all_orders T_orders_with B) T_is_far (ok_isFar (k := 46) T_is_far TB_is_far T_known_far (ok_known (k := 45) T_known_far T_far_by_swap T_far_by_spot T_far_by_shift (ok_swap (k := 44) T_far_by_swap T_seats_in (ok_seats (k := 42) T_seats_in T_places_in B) B) (ok_spot (k := 44) T_far_by_spot B) (ok_shift (k := 44) T_far_by_shift T_seats_in (ok_seats (k := 42) T_seats_in T_places_in B) B)) B) B m_MOST_LISTED) B) (ok_first (k := 49) T_first_apart T_check_apart T_all_orders T_is_far (ok_apart (k := 46) T_check_apart T_check_way T_check_size T_check_from T_is_whole m_WAYS B) (ok_all_orders (k := 47) T_all_orders T_orders_with B) (ok_isFar (k := 47) T_is_far TB_is_far T_known_far (ok_known (k := 46) T_known_far T_far_by_swap T_far_by_spot T_far_by_shift (ok_swap (k := 45) T_far_by_swap T_seats_in (ok_seats (k := 43) T_seats_in T_places_in B) B) (ok_spot (k := 45) T_far_by_spot B) (ok_shift (k := 45) T_far_by_shift T_seats_in (ok_seats (k := 43) T_seats_in T_places_in B) B)) B) B m_MOST_LISTED) (ok_len75 (k := 49) T__law_lengths_right T_bounds_by_rounds T_lies_apart T_longest_apart (ok_bounds (k := 48) T_bounds_by_rounds T_check_apart T_count_orders T_known_within (ok_apart (k := 45) T_check_apart T_check_way T_check_size T_check_from T_is_whole m_WAYS B) (ok_fac (k := 47) T_count_orders B) (ok_kw (k := 45) T_known_within T_swap_counts T_spot_counts T_shift_within T_swap_counts_with_one_more T_count_all_moved T_things_near T_one_place_further B) B m_MOST_THINGS) (ok_lies (k := 48) T_lies_apart T_check_apart T_is_order_list T_are_far (ok_apart (k := 45) T_check_apart T_check_way T_check_size T_check_from T_is_whole m_WAYS B) (ok_olst (k := 47) T_is_order_list T_is_order (ok_is_order (k := 45) T_is_order T_is_whole B m_MOST_THINGS) B) (ok_areFar (k := 47) T_are_far T_is_far (ok_isFar (k := 45) T_is_far TB_is_far T_known_far (ok_known (k := 44) T_known_far T_far_by_swap T_far_by_spot T_far_by_shift (ok_swap (k := 43) T_far_by_swap T_seats_in (ok_seats (k := 41) T_seats_in T_places_in B) B) (ok_spot (k := 43) T_far_by_spot B) (ok_shift (k := 43) T_far_by_shift T_seats_in (ok_seats (k := 41) T_seats_in T_places_in B) B)) B) B) B m_MOST_THINGS) (ok_longest (k := 48) T_longest_apart T_check_apart T_all_orders T_longest_from T_far_ones (ok_apart (k := 45) T_check_apart T_check_way T_check_size T_check_from T_is_whole m_WAYS B) (ok_all_orders (k := 46) T_all_orders T_orders_with B) (ok_lf (k := 24) T_longest_from T_far_ones (fun j => (ok_farOnes (k := j + 23) T_far_ones T_known_far (ok_known (k := j + 22) T_known_far T_far_by_swap T_far_by_spot T_far_by_shift (ok_swap (k := j + 21) T_far_by_swap T_seats_in (ok_seats (k := j + 19) T_seats_in T_places_in B) B) (ok_spot (k := j + 21) T_far_by_spot B) (ok_shift (k := j + 21) T_far_by_shift T_seats_in (ok_seats (k := j + 19) T_seats_in T_places_in B) B)) B)) B 24) (ok_farOnes (k := 47) T_far_ones T_known_far (ok_known (k := 46) T_known_far T_far_by_swap T_far_by_spot T_far_by_shift (ok_swap (k := 45) T_far_by_swap T_seats_in (ok_seats (k := 43) T_seats_in T_places_in B) B) (ok_spot (k := 45) T_far_by_spot B) (ok_shift (k := 45) T_far_by_shift T_seats_in (ok_seats (k := 43) T_seats_in T_places_in B) B)) B) B m_MOST_SEARCHED) B) (ok_law_all (k := 49) T__law_all B) (ok_far (k := 49) T_how_far T_check_orders T_check_way T_check_fit T_known_far (ok_checks (k := 48) T_check_orders T_check_order (ok_check (k := 45) T_check_order T_is_order T_is_whole B m_MOST_THINGS)) (ok_way (k := 48) T_check_way m_WAYS B) (ok_fit (k := 48) T_check_fit B) (ok_known (k := 48) T_known_far T_far_by_swap T_far_by_spot T_far_by_shift (ok_swap (k := 47) T_far_by_swap T_seats_in (ok_seats (k := 45) T_seats_in T_places_in B) B) (ok_spot (k := 47) T_far_by_spot B) (ok_shift (k := 47) T_far_by_shift T_seats_in (ok_seats (k := 45) T_seats_in T_places_in B) B))) B
namespace Fo
open PySem PySem.Spec PyProof.Rows L2
set_option maxHeartbeats 8000000 in
theorem all_mk {l : PySem.W.OpenLaw} {w : World} {K : PySem.W.Frag} {h : Heap} {mg : Str → Option Value} {fa : Addr} (X : K.In h) (G : h.Ns mainGlobals mg) (hfa : mg "law" = some (.ref fa))
    {f0 f1 f2 f3 f4 f5 f6 f7 f8 f9 f10 f11 f12 f13 f14 f15 f16 f17 f18 f19 f20 f21 f22 f23 f24 f25 f26 f27 f28 f29 f30 f31 f32 f33 f34 f35 f36 f37 f38 f39 f40 f41 f42 f43 f44 f45 : Addr} {od0 an0 od1 an1 od2 an2 od3 an3 od4 an4 od5 an5 od6 an6 od7 an7 od8 an8 od9 an9 od10 an10 od11 an11 od12 an12 od13 an13 od14 an14 od15 an15 od16 an16 od17 an17 od18 an18 od19 an19 od20 an20 od21 an21 od22 an22 od23 an23 od24 an24 od25 an25 od26 an26 od27 an27 od28 an28 od29 an29 od30 an30 od31 an31 od32 an32 od33 an33 od34 an34 od35 an35 od36 an36 od37 an37 od38 an38 od39 an39 od40 an40 od41 an41 od42 an42 od43 an43 od44 an44 od45 an45 : Option Addr} {sl0 sl1 sl2 sl3 sl4 sl5 sl6 sl7 sl8 sl9 sl10 sl11 sl12 sl13 sl14 sl15 sl16 sl17 sl18 sl19 sl20 sl21 sl22 sl23 sl24 sl25 sl26 sl27 sl28 sl29 sl30 sl31 sl32 sl33 sl34 sl35 sl36 sl37 sl38 sl39 sl40 sl41 sl42 sl43 sl44 sl45 : Array (Option Value)} {oc0 kV0 dc0 pm0 cd0 ct0 oc1 kV1 dc1 pm1 cd1 ct1 oc2 kV2 dc2 pm2 cd2 ct2 oc3 kV3 dc3 pm3 cd3 ct3 oc4 kV4 dc4 pm4 cd4 ct4 oc5 kV5 dc5 pm5 cd5 ct5 oc6 kV6 dc6 pm6 cd6 ct6 oc7 kV7 dc7 pm7 cd7 ct7 oc8 kV8 dc8 pm8 cd8 ct8 oc9 kV9 dc9 pm9 cd9 ct9 oc10 kV10 dc10 pm10 cd10 ct10 oc11 kV11 dc11 pm11 cd11 ct11 oc12 kV12 dc12 pm12 cd12 ct12 oc13 kV13 dc13 pm13 cd13 ct13 oc14 kV14 dc14 pm14 cd14 ct14 oc15 kV15 dc15 pm15 cd15 ct15 oc16 kV16 dc16 pm16 cd16 ct16 oc17 kV17 dc17 pm17 cd17 ct17 oc18 kV18 dc18 pm18 cd18 ct18 oc19 kV19 dc19 pm19 cd19 ct19 oc20 kV20 dc20 pm20 cd20 ct20 oc21 kV21 dc21 pm21 cd21 ct21 oc22 kV22 dc22 pm22 cd22 ct22 oc23 kV23 dc23 pm23 cd23 ct23 oc24 kV24 dc24 pm24 cd24 ct24 oc25 kV25 dc25 pm25 cd25 ct25 oc26 kV26 dc26 pm26 cd26 ct26 oc27 kV27 dc27 pm27 cd27 ct27 oc28 kV28 dc28 pm28 cd28 ct28 oc29 kV29 dc29 pm29 cd29 ct29 oc30 kV30 dc30 pm30 cd30 ct30 oc31 kV31 dc31 pm31 cd31 ct31 oc32 kV32 dc32 pm32 cd32 ct32 oc33 kV33 dc33 pm33 cd33 ct33 oc34 kV34 dc34 pm34 cd34 ct34 oc35 kV35 dc35 pm35 cd35 ct35 oc36 kV36 dc36 pm36 cd36 ct36 oc37 kV37 dc37 pm37 cd37 ct37 oc38 kV38 dc38 pm38 cd38 ct38 oc39 kV39 dc39 pm39 cd39 ct39 oc40 kV40 dc40 pm40 cd40 ct40 oc41 kV41 dc41 pm41 cd41 ct41 oc42 kV42 dc42 pm42 cd42 ct42 oc43 kV43 dc43 pm43 cd43 ct43 oc44 kV44 dc44 pm44 cd44 ct44 oc45 kV45 dc45 pm45 cd45 ct45 : Value} {tk_MOST_THINGS tk_MOST_LISTED tk_MOST_ORDERS tk_MOST_SEARCHED tk_MOST_KEPT : Tok} {aW : Addr} {ddW : Option Addr} {nW : Nat} {tW1 tW2 tW3 : Tok} {slW : Array (Option Value)} {C_Lister fm0 fm1 fm2 fm3 fm4 fm5 fm6 fm7 : Addr} {odm0 anm0 odm1 anm1 odm2 anm2 odm3 anm3 odm4 anm4 odm5 anm5 odm6 anm6 odm7 anm7 : Option Addr} {slm0 slm1 slm2 slm3 slm4 slm5 slm6 slm7 : Array (Option Value)} {ocm0 kVm0 dcm0 pmm0 cdm0 ctm0 ocm1 kVm1 dcm1 pmm1 cdm1 ctm1 ocm2 kVm2 dcm2 pmm2 cdm2 ctm2 ocm3 kVm3 dcm3 pmm3 cdm3 ctm3 ocm4 kVm4 dcm4 pmm4 cdm4 ctm4 ocm5 kVm5 dcm5 pmm5 cdm5 ctm5 ocm6 kVm6 dcm6 pmm6 cdm6 ctm6 ocm7 kVm7 dcm7 pmm7 cdm7 ctm7 : Value}
    (a0 : PySem.W.nsIn K mainGlobals "is_whole" = some (some (.ref f0))) (l0 : K.lookup f0 = some ⟨oc0, od0, .func (PySem.W.fnOf "is_whole" "is_whole" (defArgs s_is_whole) (defBody s_is_whole) (defScope s_is_whole) .none kV0 dc0 pm0 an0 cd0 ct0), sl0⟩) (c0 : PySem.W.codeIn K cd0 "is_whole" = true) (k0 : PySem.W.keepIn K (.ref f0) = true)
    (a1 : PySem.W.nsIn K mainGlobals "check_way" = some (some (.ref f1))) (l1 : K.lookup f1 = some ⟨oc1, od1, .func (PySem.W.fnOf "check_way" "check_way" (defArgs s_check_way) (defBody s_check_way) (defScope s_check_way) .none kV1 dc1 pm1 an1 cd1 ct1), sl1⟩) (c1 : PySem.W.codeIn K cd1 "check_way" = true) (k1 : PySem.W.keepIn K (.ref f1) = true)
    (a2 : PySem.W.nsIn K mainGlobals "check_from" = some (some (.ref f2))) (l2 : K.lookup f2 = some ⟨oc2, od2, .func (PySem.W.fnOf "check_from" "check_from" (defArgs s_check_from) (defBody s_check_from) (defScope s_check_from) .none kV2 dc2 pm2 an2 cd2 ct2), sl2⟩) (c2 : PySem.W.codeIn K cd2 "check_from" = true) (k2 : PySem.W.keepIn K (.ref f2) = true)
    (a3 : PySem.W.nsIn K mainGlobals "check_size" = some (some (.ref f3))) (l3 : K.lookup f3 = some ⟨oc3, od3, .func (PySem.W.fnOf "check_size" "check_size" (defArgs s_check_size) (defBody s_check_size) (defScope s_check_size) .none kV3 dc3 pm3 an3 cd3 ct3), sl3⟩) (c3 : PySem.W.codeIn K cd3 "check_size" = true) (k3 : PySem.W.keepIn K (.ref f3) = true)
    (a4 : PySem.W.nsIn K mainGlobals "check_few" = some (some (.ref f4))) (l4 : K.lookup f4 = some ⟨oc4, od4, .func (PySem.W.fnOf "check_few" "check_few" (defArgs s_check_few) (defBody s_check_few) (defScope s_check_few) .none kV4 dc4 pm4 an4 cd4 ct4), sl4⟩) (c4 : PySem.W.codeIn K cd4 "check_few" = true) (k4 : PySem.W.keepIn K (.ref f4) = true)
    (a5 : PySem.W.nsIn K mainGlobals "check_apart" = some (some (.ref f5))) (l5 : K.lookup f5 = some ⟨oc5, od5, .func (PySem.W.fnOf "check_apart" "check_apart" (defArgs s_check_apart) (defBody s_check_apart) (defScope s_check_apart) .none kV5 dc5 pm5 an5 cd5 ct5), sl5⟩) (c5 : PySem.W.codeIn K cd5 "check_apart" = true) (k5 : PySem.W.keepIn K (.ref f5) = true)
    (a6 : PySem.W.nsIn K mainGlobals "is_order" = some (some (.ref f6))) (l6 : K.lookup f6 = some ⟨oc6, od6, .func (PySem.W.fnOf "is_order" "is_order" (defArgs s_is_order) (defBody s_is_order) (defScope s_is_order) .none kV6 dc6 pm6 an6 cd6 ct6), sl6⟩) (c6 : PySem.W.codeIn K cd6 "is_order" = true) (k6 : PySem.W.keepIn K (.ref f6) = true)
    (a7 : PySem.W.nsIn K mainGlobals "check_order" = some (some (.ref f7))) (l7 : K.lookup f7 = some ⟨oc7, od7, .func (PySem.W.fnOf "check_order" "check_order" (defArgs s_check_order) (defBody s_check_order) (defScope s_check_order) .none kV7 dc7 pm7 an7 cd7 ct7), sl7⟩) (c7 : PySem.W.codeIn K cd7 "check_order" = true) (k7 : PySem.W.keepIn K (.ref f7) = true)
    (a8 : PySem.W.nsIn K mainGlobals "check_orders" = some (some (.ref f8))) (l8 : K.lookup f8 = some ⟨oc8, od8, .func (PySem.W.fnOf "check_orders" "check_orders" (defArgs s_check_orders) (defBody s_check_orders) (defScope s_check_orders) .none kV8 dc8 pm8 an8 cd8 ct8), sl8⟩) (c8 : PySem.W.codeIn K cd8 "check_orders" = true) (k8 : PySem.W.keepIn K (.ref f8) = true)
    (a9 : PySem.W.nsIn K mainGlobals "check_fit" = some (some (.ref f9))) (l9 : K.lookup f9 = some ⟨oc9, od9, .func (PySem.W.fnOf "check_fit" "check_fit" (defArgs s_check_fit) (defBody s_check_fit) (defScope s_check_fit) .none kV9 dc9 pm9 an9 cd9 ct9), sl9⟩) (c9 : PySem.W.codeIn K cd9 "check_fit" = true) (k9 : PySem.W.keepIn K (.ref f9) = true)
    (a10 : PySem.W.nsIn K mainGlobals "is_order_list" = some (some (.ref f10))) (l10 : K.lookup f10 = some ⟨oc10, od10, .func (PySem.W.fnOf "is_order_list" "is_order_list" (defArgs s_is_order_list) (defBody s_is_order_list) (defScope s_is_order_list) .none kV10 dc10 pm10 an10 cd10 ct10), sl10⟩) (c10 : PySem.W.codeIn K cd10 "is_order_list" = true) (k10 : PySem.W.keepIn K (.ref f10) = true)
    (a11 : PySem.W.nsIn K mainGlobals "places_in" = some (some (.ref f11))) (l11 : K.lookup f11 = some ⟨oc11, od11, .func (PySem.W.fnOf "places_in" "places_in" (defArgs s_places_in) (defBody s_places_in) (defScope s_places_in) .none kV11 dc11 pm11 an11 cd11 ct11), sl11⟩) (c11 : PySem.W.codeIn K cd11 "places_in" = true) (k11 : PySem.W.keepIn K (.ref f11) = true)
    (a12 : PySem.W.nsIn K mainGlobals "seats_in" = some (some (.ref f12))) (l12 : K.lookup f12 = some ⟨oc12, od12, .func (PySem.W.fnOf "seats_in" "seats_in" (defArgs s_seats_in) (defBody s_seats_in) (defScope s_seats_in) .none kV12 dc12 pm12 an12 cd12 ct12), sl12⟩) (c12 : PySem.W.codeIn K cd12 "seats_in" = true) (k12 : PySem.W.keepIn K (.ref f12) = true)
    (a13 : PySem.W.nsIn K mainGlobals "how_far" = some (some (.ref f13))) (l13 : K.lookup f13 = some ⟨oc13, od13, .func (PySem.W.fnOf "how_far" "how_far" (defArgs s_how_far) (defBody s_how_far) (defScope s_how_far) .none kV13 dc13 pm13 an13 cd13 ct13), sl13⟩) (c13 : PySem.W.codeIn K cd13 "how_far" = true) (k13 : PySem.W.keepIn K (.ref f13) = true)
    (a14 : PySem.W.nsIn K mainGlobals "known_far" = some (some (.ref f14))) (l14 : K.lookup f14 = some ⟨oc14, od14, .func (PySem.W.fnOf "known_far" "known_far" (defArgs s_known_far) (defBody s_known_far) (defScope s_known_far) .none kV14 dc14 pm14 an14 cd14 ct14), sl14⟩) (c14 : PySem.W.codeIn K cd14 "known_far" = true) (k14 : PySem.W.keepIn K (.ref f14) = true)
    (a15 : PySem.W.nsIn K mainGlobals "far_by_swap" = some (some (.ref f15))) (l15 : K.lookup f15 = some ⟨oc15, od15, .func (PySem.W.fnOf "far_by_swap" "far_by_swap" (defArgs s_far_by_swap) (defBody s_far_by_swap) (defScope s_far_by_swap) .none kV15 dc15 pm15 an15 cd15 ct15), sl15⟩) (c15 : PySem.W.codeIn K cd15 "far_by_swap" = true) (k15 : PySem.W.keepIn K (.ref f15) = true)
    (a16 : PySem.W.nsIn K mainGlobals "far_by_spot" = some (some (.ref f16))) (l16 : K.lookup f16 = some ⟨oc16, od16, .func (PySem.W.fnOf "far_by_spot" "far_by_spot" (defArgs s_far_by_spot) (defBody s_far_by_spot) (defScope s_far_by_spot) .none kV16 dc16 pm16 an16 cd16 ct16), sl16⟩) (c16 : PySem.W.codeIn K cd16 "far_by_spot" = true) (k16 : PySem.W.keepIn K (.ref f16) = true)
    (a17 : PySem.W.nsIn K mainGlobals "far_by_shift" = some (some (.ref f17))) (l17 : K.lookup f17 = some ⟨oc17, od17, .func (PySem.W.fnOf "far_by_shift" "far_by_shift" (defArgs s_far_by_shift) (defBody s_far_by_shift) (defScope s_far_by_shift) .none kV17 dc17 pm17 an17 cd17 ct17), sl17⟩) (c17 : PySem.W.codeIn K cd17 "far_by_shift" = true) (k17 : PySem.W.keepIn K (.ref f17) = true)
    (a18 : PySem.W.nsIn K mainGlobals "all_orders" = some (some (.ref f18))) (l18 : K.lookup f18 = some ⟨oc18, od18, .func (PySem.W.fnOf "all_orders" "all_orders" (defArgs s_all_orders) (defBody s_all_orders) (defScope s_all_orders) .none kV18 dc18 pm18 an18 cd18 ct18), sl18⟩) (c18 : PySem.W.codeIn K cd18 "all_orders" = true) (k18 : PySem.W.keepIn K (.ref f18) = true)
    (a19 : PySem.W.nsIn K mainGlobals "orders_with" = some (some (.ref f19))) (l19 : K.lookup f19 = some ⟨oc19, od19, .func (PySem.W.fnOf "orders_with" "orders_with" (defArgs s_orders_with) (defBody s_orders_with) (defScope s_orders_with) .none kV19 dc19 pm19 an19 cd19 ct19), sl19⟩) (c19 : PySem.W.codeIn K cd19 "orders_with" = true) (k19 : PySem.W.keepIn K (.ref f19) = true)
    (a20 : PySem.W.nsIn K mainGlobals "count_orders" = some (some (.ref f20))) (l20 : K.lookup f20 = some ⟨oc20, od20, .func (PySem.W.fnOf "count_orders" "count_orders" (defArgs s_count_orders) (defBody s_count_orders) (defScope s_count_orders) .none kV20 dc20 pm20 an20 cd20 ct20), sl20⟩) (c20 : PySem.W.codeIn K cd20 "count_orders" = true) (k20 : PySem.W.keepIn K (.ref f20) = true)
    (a21 : PySem.W.nsIn K mainGlobals "lies_apart" = some (some (.ref f21))) (l21 : K.lookup f21 = some ⟨oc21, od21, .func (PySem.W.fnOf "lies_apart" "lies_apart" (defArgs s_lies_apart) (defBody s_lies_apart) (defScope s_lies_apart) .none kV21 dc21 pm21 an21 cd21 ct21), sl21⟩) (c21 : PySem.W.codeIn K cd21 "lies_apart" = true) (k21 : PySem.W.keepIn K (.ref f21) = true)
    (a22 : PySem.W.nsIn K mainGlobals "are_far" = some (some (.ref f22))) (l22 : K.lookup f22 = some ⟨oc22, od22, .func (PySem.W.fnOf "are_far" "are_far" (defArgs s_are_far) (defBody s_are_far) (defScope s_are_far) .none kV22 dc22 pm22 an22 cd22 ct22), sl22⟩) (c22 : PySem.W.codeIn K cd22 "are_far" = true) (k22 : PySem.W.keepIn K (.ref f22) = true)
    (a23 : PySem.W.nsIn K mainGlobals "is_far" = some (some (.ref f23))) (l23 : K.lookup f23 = some ⟨oc23, od23, .func (PySem.W.fnOf "is_far" "is_far" (defArgs s_is_far) (defBody s_is_far) (defScope s_is_far) .none kV23 dc23 pm23 an23 cd23 ct23), sl23⟩) (c23 : PySem.W.codeIn K cd23 "is_far" = true) (k23 : PySem.W.keepIn K (.ref f23) = true)
    (a24 : PySem.W.nsIn K mainGlobals "longest_apart" = some (some (.ref f24))) (l24 : K.lookup f24 = some ⟨oc24, od24, .func (PySem.W.fnOf "longest_apart" "longest_apart" (defArgs s_longest_apart) (defBody s_longest_apart) (defScope s_longest_apart) .none kV24 dc24 pm24 an24 cd24 ct24), sl24⟩) (c24 : PySem.W.codeIn K cd24 "longest_apart" = true) (k24 : PySem.W.keepIn K (.ref f24) = true)
    (a25 : PySem.W.nsIn K mainGlobals "longest_from" = some (some (.ref f25))) (l25 : K.lookup f25 = some ⟨oc25, od25, .func (PySem.W.fnOf "longest_from" "longest_from" (defArgs s_longest_from) (defBody s_longest_from) (defScope s_longest_from) .none kV25 dc25 pm25 an25 cd25 ct25), sl25⟩) (c25 : PySem.W.codeIn K cd25 "longest_from" = true) (k25 : PySem.W.keepIn K (.ref f25) = true)
    (a26 : PySem.W.nsIn K mainGlobals "far_ones" = some (some (.ref f26))) (l26 : K.lookup f26 = some ⟨oc26, od26, .func (PySem.W.fnOf "far_ones" "far_ones" (defArgs s_far_ones) (defBody s_far_ones) (defScope s_far_ones) .none kV26 dc26 pm26 an26 cd26 ct26), sl26⟩) (c26 : PySem.W.codeIn K cd26 "far_ones" = true) (k26 : PySem.W.keepIn K (.ref f26) = true)
    (a27 : PySem.W.nsIn K mainGlobals "first_apart" = some (some (.ref f27))) (l27 : K.lookup f27 = some ⟨oc27, od27, .func (PySem.W.fnOf "first_apart" "first_apart" (defArgs s_first_apart) (defBody s_first_apart) (defScope s_first_apart) .none kV27 dc27 pm27 an27 cd27 ct27), sl27⟩) (c27 : PySem.W.codeIn K cd27 "first_apart" = true) (k27 : PySem.W.keepIn K (.ref f27) = true)
    (a28 : PySem.W.nsIn K mainGlobals "check_many" = some (some (.ref f28))) (l28 : K.lookup f28 = some ⟨oc28, od28, .func (PySem.W.fnOf "check_many" "check_many" (defArgs s_check_many) (defBody s_check_many) (defScope s_check_many) .none kV28 dc28 pm28 an28 cd28 ct28), sl28⟩) (c28 : PySem.W.codeIn K cd28 "check_many" = true) (k28 : PySem.W.keepIn K (.ref f28) = true)
    (a29 : PySem.W.nsIn K mainGlobals "known_within" = some (some (.ref f29))) (l29 : K.lookup f29 = some ⟨oc29, od29, .func (PySem.W.fnOf "known_within" "known_within" (defArgs s_known_within) (defBody s_known_within) (defScope s_known_within) .none kV29 dc29 pm29 an29 cd29 ct29), sl29⟩) (c29 : PySem.W.codeIn K cd29 "known_within" = true) (k29 : PySem.W.keepIn K (.ref f29) = true)
    (a30 : PySem.W.nsIn K mainGlobals "swap_counts" = some (some (.ref f30))) (l30 : K.lookup f30 = some ⟨oc30, od30, .func (PySem.W.fnOf "swap_counts" "swap_counts" (defArgs s_swap_counts) (defBody s_swap_counts) (defScope s_swap_counts) .none kV30 dc30 pm30 an30 cd30 ct30), sl30⟩) (c30 : PySem.W.codeIn K cd30 "swap_counts" = true) (k30 : PySem.W.keepIn K (.ref f30) = true)
    (a31 : PySem.W.nsIn K mainGlobals "swap_counts_with_one_more" = some (some (.ref f31))) (l31 : K.lookup f31 = some ⟨oc31, od31, .func (PySem.W.fnOf "swap_counts_with_one_more" "swap_counts_with_one_more" (defArgs s_swap_counts_with_one_more) (defBody s_swap_counts_with_one_more) (defScope s_swap_counts_with_one_more) .none kV31 dc31 pm31 an31 cd31 ct31), sl31⟩) (c31 : PySem.W.codeIn K cd31 "swap_counts_with_one_more" = true) (k31 : PySem.W.keepIn K (.ref f31) = true)
    (a32 : PySem.W.nsIn K mainGlobals "spot_counts" = some (some (.ref f32))) (l32 : K.lookup f32 = some ⟨oc32, od32, .func (PySem.W.fnOf "spot_counts" "spot_counts" (defArgs s_spot_counts) (defBody s_spot_counts) (defScope s_spot_counts) .none kV32 dc32 pm32 an32 cd32 ct32), sl32⟩) (c32 : PySem.W.codeIn K cd32 "spot_counts" = true) (k32 : PySem.W.keepIn K (.ref f32) = true)
    (a33 : PySem.W.nsIn K mainGlobals "count_all_moved" = some (some (.ref f33))) (l33 : K.lookup f33 = some ⟨oc33, od33, .func (PySem.W.fnOf "count_all_moved" "count_all_moved" (defArgs s_count_all_moved) (defBody s_count_all_moved) (defScope s_count_all_moved) .none kV33 dc33 pm33 an33 cd33 ct33), sl33⟩) (c33 : PySem.W.codeIn K cd33 "count_all_moved" = true) (k33 : PySem.W.keepIn K (.ref f33) = true)
    (a34 : PySem.W.nsIn K mainGlobals "shift_within" = some (some (.ref f34))) (l34 : K.lookup f34 = some ⟨oc34, od34, .func (PySem.W.fnOf "shift_within" "shift_within" (defArgs s_shift_within) (defBody s_shift_within) (defScope s_shift_within) .none kV34 dc34 pm34 an34 cd34 ct34), sl34⟩) (c34 : PySem.W.codeIn K cd34 "shift_within" = true) (k34 : PySem.W.keepIn K (.ref f34) = true)
    (a35 : PySem.W.nsIn K mainGlobals "things_near" = some (some (.ref f35))) (l35 : K.lookup f35 = some ⟨oc35, od35, .func (PySem.W.fnOf "things_near" "things_near" (defArgs s_things_near) (defBody s_things_near) (defScope s_things_near) .none kV35 dc35 pm35 an35 cd35 ct35), sl35⟩) (c35 : PySem.W.codeIn K cd35 "things_near" = true) (k35 : PySem.W.keepIn K (.ref f35) = true)
    (a36 : PySem.W.nsIn K mainGlobals "one_place_further" = some (some (.ref f36))) (l36 : K.lookup f36 = some ⟨oc36, od36, .func (PySem.W.fnOf "one_place_further" "one_place_further" (defArgs s_one_place_further) (defBody s_one_place_further) (defScope s_one_place_further) .none kV36 dc36 pm36 an36 cd36 ct36), sl36⟩) (c36 : PySem.W.codeIn K cd36 "one_place_further" = true) (k36 : PySem.W.keepIn K (.ref f36) = true)
    (a37 : PySem.W.nsIn K mainGlobals "bounds_by_rounds" = some (some (.ref f37))) (l37 : K.lookup f37 = some ⟨oc37, od37, .func (PySem.W.fnOf "bounds_by_rounds" "bounds_by_rounds" (defArgs s_bounds_by_rounds) (defBody s_bounds_by_rounds) (defScope s_bounds_by_rounds) .none kV37 dc37 pm37 an37 cd37 ct37), sl37⟩) (c37 : PySem.W.codeIn K cd37 "bounds_by_rounds" = true) (k37 : PySem.W.keepIn K (.ref f37) = true)
    (a38 : PySem.W.nsIn K mainGlobals "_law_cell_at" = some (some (.ref f38))) (l38 : K.lookup f38 = some ⟨oc38, od38, .func (PySem.W.fnOf "_law_cell_at" "_law_cell_at" (defArgs s_law_cell_at) (defBody s_law_cell_at) (defScope s_law_cell_at) .none kV38 dc38 pm38 an38 cd38 ct38), sl38⟩) (c38 : PySem.W.codeIn K cd38 "_law_cell_at" = true) (k38 : PySem.W.keepIn K (.ref f38) = true)
    (a39 : PySem.W.nsIn K mainGlobals "_law_stir" = some (some (.ref f39))) (l39 : K.lookup f39 = some ⟨oc39, od39, .func (PySem.W.fnOf "_law_stir" "_law_stir" (defArgs s_law_stir) (defBody s_law_stir) (defScope s_law_stir) .none kV39 dc39 pm39 an39 cd39 ct39), sl39⟩) (c39 : PySem.W.codeIn K cd39 "_law_stir" = true) (k39 : PySem.W.keepIn K (.ref f39) = true)
    (a40 : PySem.W.nsIn K mainGlobals "_law_deck" = some (some (.ref f40))) (l40 : K.lookup f40 = some ⟨oc40, od40, .func (PySem.W.fnOf "_law_deck" "_law_deck" (defArgs s_law_deck) (defBody s_law_deck) (defScope s_law_deck) .none kV40 dc40 pm40 an40 cd40 ct40), sl40⟩) (c40 : PySem.W.codeIn K cd40 "_law_deck" = true) (k40 : PySem.W.keepIn K (.ref f40) = true)
    (a41 : PySem.W.nsIn K mainGlobals "_law_next" = some (some (.ref f41))) (l41 : K.lookup f41 = some ⟨oc41, od41, .func (PySem.W.fnOf "_law_next" "_law_next" (defArgs s_law_next) (defBody s_law_next) (defScope s_law_next) .none kV41 dc41 pm41 an41 cd41 ct41), sl41⟩) (c41 : PySem.W.codeIn K cd41 "_law_next" = true) (k41 : PySem.W.keepIn K (.ref f41) = true)
    (a42 : PySem.W.nsIn K mainGlobals "_law_all" = some (some (.ref f42))) (l42 : K.lookup f42 = some ⟨oc42, od42, .func (PySem.W.fnOf "_law_all" "_law_all" (defArgs s_law_all) (defBody s_law_all) (defScope s_law_all) .none kV42 dc42 pm42 an42 cd42 ct42), sl42⟩) (c42 : PySem.W.codeIn K cd42 "_law_all" = true) (k42 : PySem.W.keepIn K (.ref f42) = true)
    (a43 : PySem.W.nsIn K mainGlobals "_law_filled" = some (some (.ref f43))) (l43 : K.lookup f43 = some ⟨oc43, od43, .func (PySem.W.fnOf "_law_filled" "_law_filled" (defArgs s_law_filled) (defBody s_law_filled) (defScope s_law_filled) .none kV43 dc43 pm43 an43 cd43 ct43), sl43⟩) (c43 : PySem.W.codeIn K cd43 "_law_filled" = true) (k43 : PySem.W.keepIn K (.ref f43) = true)
    (a44 : PySem.W.nsIn K mainGlobals "_law_lengths_right" = some (some (.ref f44))) (l44 : K.lookup f44 = some ⟨oc44, od44, .func (PySem.W.fnOf "_law_lengths_right" "_law_lengths_right" (defArgs s_law_lengths_right) (defBody s_law_lengths_right) (defScope s_law_lengths_right) .none kV44 dc44 pm44 an44 cd44 ct44), sl44⟩) (c44 : PySem.W.codeIn K cd44 "_law_lengths_right" = true) (k44 : PySem.W.keepIn K (.ref f44) = true)
    (a45 : PySem.W.nsIn K mainGlobals "law" = some (some (.ref f45))) (l45 : K.lookup f45 = some ⟨oc45, od45, .func (PySem.W.fnOf "law" "law" (defArgs s_law) (defBody s_law) (defScope s_law) .none kV45 dc45 pm45 an45 cd45 ct45), sl45⟩) (c45 : PySem.W.codeIn K cd45 "law" = true) (k45 : PySem.W.keepIn K (.ref f45) = true)
    (g_MOST_THINGS : PySem.W.nsIn K mainGlobals "MOST_THINGS" = some (some (.int 12 tk_MOST_THINGS)))
    (g_MOST_LISTED : PySem.W.nsIn K mainGlobals "MOST_LISTED" = some (some (.int 6 tk_MOST_LISTED)))
    (g_MOST_ORDERS : PySem.W.nsIn K mainGlobals "MOST_ORDERS" = some (some (.int 120 tk_MOST_ORDERS)))
    (g_MOST_SEARCHED : PySem.W.nsIn K mainGlobals "MOST_SEARCHED" = some (some (.int 4 tk_MOST_SEARCHED)))
    (g_MOST_KEPT : PySem.W.nsIn K mainGlobals "MOST_KEPT" = some (some (.int 8 tk_MOST_KEPT)))
    (g_WAYS : PySem.W.nsIn K mainGlobals "WAYS" = some (some (.ref aW))) (l_WAYS : K.lookup aW = some ⟨.type "tuple", ddW, .seq #[.str "swap" tW1, .str "spot" tW2, .str "shift" tW3] nW, slW⟩)
    (aC_Lister : PySem.W.nsIn K mainGlobals "Lister" = some (some (.ref C_Lister)))
    (am0 : PySem.W.findIn K (.ref C_Lister) "__init__" = some (some (.ref fm0))) (im0 : PySem.W.isFn K (.ref fm0) = true) (lm0 : K.lookup fm0 = some ⟨ocm0, odm0, .func (PySem.W.fnOf "__init__" "Lister.__init__" (defArgs s_Lister___init__) (defBody s_Lister___init__) (defScope s_Lister___init__) .none kVm0 dcm0 pmm0 anm0 cdm0 ctm0), slm0⟩) (cm0 : PySem.W.codeIn K cdm0 "Lister.__init__" = true) (km0 : PySem.W.keepIn K (.ref fm0) = true)
    (am1 : PySem.W.findIn K (.ref C_Lister) "come" = some (some (.ref fm1))) (im1 : PySem.W.isFn K (.ref fm1) = true) (lm1 : K.lookup fm1 = some ⟨ocm1, odm1, .func (PySem.W.fnOf "come" "Lister.come" (defArgs s_Lister_come) (defBody s_Lister_come) (defScope s_Lister_come) .none kVm1 dcm1 pmm1 anm1 cdm1 ctm1), slm1⟩) (cm1 : PySem.W.codeIn K cdm1 "Lister.come" = true) (km1 : PySem.W.keepIn K (.ref fm1) = true)
    (am2 : PySem.W.findIn K (.ref C_Lister) "drop" = some (some (.ref fm2))) (im2 : PySem.W.isFn K (.ref fm2) = true) (lm2 : K.lookup fm2 = some ⟨ocm2, odm2, .func (PySem.W.fnOf "drop" "Lister.drop" (defArgs s_Lister_drop) (defBody s_Lister_drop) (defScope s_Lister_drop) .none kVm2 dcm2 pmm2 anm2 cdm2 ctm2), slm2⟩) (cm2 : PySem.W.codeIn K cdm2 "Lister.drop" = true) (km2 : PySem.W.keepIn K (.ref fm2) = true)
    (am3 : PySem.W.findIn K (.ref C_Lister) "change_to" = some (some (.ref fm3))) (im3 : PySem.W.isFn K (.ref fm3) = true) (lm3 : K.lookup fm3 = some ⟨ocm3, odm3, .func (PySem.W.fnOf "change_to" "Lister.change_to" (defArgs s_Lister_change_to) (defBody s_Lister_change_to) (defScope s_Lister_change_to) .none kVm3 dcm3 pmm3 anm3 cdm3 ctm3), slm3⟩) (cm3 : PySem.W.codeIn K cdm3 "Lister.change_to" = true) (km3 : PySem.W.keepIn K (.ref fm3) = true)
    (am4 : PySem.W.findIn K (.ref C_Lister) "orders" = some (some (.ref fm4))) (im4 : PySem.W.isFn K (.ref fm4) = true) (lm4 : K.lookup fm4 = some ⟨ocm4, odm4, .func (PySem.W.fnOf "orders" "Lister.orders" (defArgs s_Lister_orders) (defBody s_Lister_orders) (defScope s_Lister_orders) .none kVm4 dcm4 pmm4 anm4 cdm4 ctm4), slm4⟩) (cm4 : PySem.W.codeIn K cdm4 "Lister.orders" = true) (km4 : PySem.W.keepIn K (.ref fm4) = true)
    (am5 : PySem.W.findIn K (.ref C_Lister) "least_apart" = some (some (.ref fm5))) (im5 : PySem.W.isFn K (.ref fm5) = true) (lm5 : K.lookup fm5 = some ⟨ocm5, odm5, .func (PySem.W.fnOf "least_apart" "Lister.least_apart" (defArgs s_Lister_least_apart) (defBody s_Lister_least_apart) (defScope s_Lister_least_apart) .none kVm5 dcm5 pmm5 anm5 cdm5 ctm5), slm5⟩) (cm5 : PySem.W.codeIn K cdm5 "Lister.least_apart" = true) (km5 : PySem.W.keepIn K (.ref fm5) = true)
    (am6 : PySem.W.findIn K (.ref C_Lister) "first_more" = some (some (.ref fm6))) (im6 : PySem.W.isFn K (.ref fm6) = true) (lm6 : K.lookup fm6 = some ⟨ocm6, odm6, .func (PySem.W.fnOf "first_more" "Lister.first_more" (defArgs s_Lister_first_more) (defBody s_Lister_first_more) (defScope s_Lister_first_more) .none kVm6 dcm6 pmm6 anm6 cdm6 ctm6), slm6⟩) (cm6 : PySem.W.codeIn K cdm6 "Lister.first_more" = true) (km6 : PySem.W.keepIn K (.ref fm6) = true)
    (am7 : PySem.W.findIn K (.ref C_Lister) "how_many_more" = some (some (.ref fm7))) (im7 : PySem.W.isFn K (.ref fm7) = true) (lm7 : K.lookup fm7 = some ⟨ocm7, odm7, .func (PySem.W.fnOf "how_many_more" "Lister.how_many_more" (defArgs s_Lister_how_many_more) (defBody s_Lister_how_many_more) (defScope s_Lister_how_many_more) .none kVm7 dcm7 pmm7 anm7 cdm7 ctm7), slm7⟩) (cm7 : PySem.W.codeIn K cdm7 "Lister.how_many_more" = true) (km7 : PySem.W.keepIn K (.ref fm7) = true)
    (pgC : PySem.W.plainGet K C_Lister Str.empty = true) (hdC : PySem.W.hasDictIn K C_Lister = true) (poC : PySem.W.plainOver K C_Lister = true) (saC : PySem.W.findIn K (.ref C_Lister) "__setattr__" = some (some (.builtin "object.__setattr__"))) (mkC : PySem.W.makesIn K C_Lister = true) (kcC : PySem.W.keepIn K (.ref C_Lister) = true)
    (nf_way : PySem.W.findIn K (.ref C_Lister) "way" = some none)
    (nf_n : PySem.W.findIn K (.ref C_Lister) "n" = some none)
    (nf_d : PySem.W.findIn K (.ref C_Lister) "d" = some none)
    (nf_taken : PySem.W.findIn K (.ref C_Lister) "taken" = some none)
    (nf_earlier : PySem.W.findIn K (.ref C_Lister) "earlier" = some none)
    (z_ValueError : PySem.W.nsIn K mainGlobals "ValueError" = some none)
    (z_abs : PySem.W.nsIn K mainGlobals "abs" = some none)
    (z_all : PySem.W.nsIn K mainGlobals "all" = some none)
    (z_bool : PySem.W.nsIn K mainGlobals "bool" = some none)
    (z_enumerate : PySem.W.nsIn K mainGlobals "enumerate" = some none)
    (z_int : PySem.W.nsIn K mainGlobals "int" = some none)
    (z_isinstance : PySem.W.nsIn K mainGlobals "isinstance" = some none)
    (z_len : PySem.W.nsIn K mainGlobals "len" = some none)
    (z_list : PySem.W.nsIn K mainGlobals "list" = some none)
    (z_max : PySem.W.nsIn K mainGlobals "max" = some none)
    (z_min : PySem.W.nsIn K mainGlobals "min" = some none)
    (z_range : PySem.W.nsIn K mainGlobals "range" = some none)
    (z_sorted : PySem.W.nsIn K mainGlobals "sorted" = some none)
    (z_str : PySem.W.nsIn K mainGlobals "str" = some none)
    (z_sum : PySem.W.nsIn K mainGlobals "sum" = some none)
    {tc_is_far tp_is_far : Addr} {to_is_far : Value} {td_is_far : Option Addr} {tv_is_far : Array Value} {ts_is_far : Array (Option Value)}
    (e_is_far : cd23 = .ref tc_is_far) (u_is_far : K.lookup tc_is_far = some ⟨to_is_far, td_is_far, .fields tv_is_far, ts_is_far⟩) (v_is_far : tv_is_far[11]? = some (.ref tp_is_far)) (n_is_far : K.lookup tp_is_far = none)
    (tabs : ∀ y ∈ ["is_far"], ∀ c P, PySem.W.tabIn K y = some (c, P) → PySem.W.CodeHd h c P ∧ h.get? P = some { cls := .none, data := .fields #[] })
    : LamX.LawAtS l w K CX0 51 63 "script" mg fa h := by
  have e := hfa.symm.trans (PySem.W.mg_of X G a45)
  cases e
  have t_is_far := tab_mk a23 l23 e_is_far u_is_far v_is_far
  have F0 := fun_mk (st := s_is_whole) l0 c0 k0
  have F1 := fun_mk (st := s_check_way) l1 c1 k1
  have F2 := fun_mk (st := s_check_from) l2 c2 k2
  have F3 := fun_mk (st := s_check_size) l3 c3 k3
  have F4 := fun_mk (st := s_check_few) l4 c4 k4
  have F5 := fun_mk (st := s_check_apart) l5 c5 k5
  have F6 := fun_mk (st := s_is_order) l6 c6 k6
  have F7 := fun_mk (st := s_check_order) l7 c7 k7
  have F8 := fun_mk (st := s_check_orders) l8 c8 k8
  have F9 := fun_mk (st := s_check_fit) l9 c9 k9
  have F10 := fun_mk (st := s_is_order_list) l10 c10 k10
  have F11 := fun_mk (st := s_places_in) l11 c11 k11
  have F12 := fun_mk (st := s_seats_in) l12 c12 k12
  have F13 := fun_mk (st := s_how_far) l13 c13 k13
  have F14 := fun_mk (st := s_known_far) l14 c14 k14
  have F15 := fun_mk (st := s_far_by_swap) l15 c15 k15
  have F16 := fun_mk (st := s_far_by_spot) l16 c16 k16
  have F17 := fun_mk (st := s_far_by_shift) l17 c17 k17
  have F18 := fun_mk (st := s_all_orders) l18 c18 k18
  have F19 := fun_mk (st := s_orders_with) l19 c19 k19
  have F20 := fun_mk (st := s_count_orders) l20 c20 k20
  have F21 := fun_mk (st := s_lies_apart) l21 c21 k21
  have F22 := fun_mk (st := s_are_far) l22 c22 k22
  have F23 := fun_mk (st := s_is_far) l23 c23 k23
  have F24 := fun_mk (st := s_longest_apart) l24 c24 k24
  have F25 := fun_mk (st := s_longest_from) l25 c25 k25
  have F26 := fun_mk (st := s_far_ones) l26 c26 k26
  have F27 := fun_mk (st := s_first_apart) l27 c27 k27
  have F28 := fun_mk (st := s_check_many) l28 c28 k28
  have F29 := fun_mk (st := s_known_within) l29 c29 k29
  have F30 := fun_mk (st := s_swap_counts) l30 c30 k30
  have F31 := fun_mk (st := s_swap_counts_with_one_more) l31 c31 k31
  have F32 := fun_mk (st := s_spot_counts) l32 c32 k32
  have F33 := fun_mk (st := s_count_all_moved) l33 c33 k33
  have F34 := fun_mk (st := s_shift_within) l34 c34 k34
  have F35 := fun_mk (st := s_things_near) l35 c35 k35
  have F36 := fun_mk (st := s_one_place_further) l36 c36 k36
  have F37 := fun_mk (st := s_bounds_by_rounds) l37 c37 k37
  have F38 := fun_mk (st := s_law_cell_at) l38 c38 k38
  have F39 := fun_mk (st := s_law_stir) l39 c39 k39
  have F40 := fun_mk (st := s_law_deck) l40 c40 k40
  have F41 := fun_mk (st := s_law_next) l41 c41 k41
  have F42 := fun_mk (st := s_law_all) l42 c42 k42
  have F43 := fun_mk (st := s_law_filled) l43 c43 k43
  have F44 := fun_mk (st := s_law_lengths_right) l44 c44 k44
  have F45 := fun_mk (st := s_law) l45 c45 k45
  have T_is_whole : Df K mg "is_whole" s_is_whole ["thing"] f0 _ := ⟨F0, F0.binds (ps := ["thing"]) (fun _ _ _ _ _ _ us hl => match us, hl with | [_], _ => rfl), PySem.W.mg_of X G a0⟩
  have T_check_way : Df K mg "check_way" s_check_way ["thing"] f1 _ := ⟨F1, F1.binds (ps := ["thing"]) (fun _ _ _ _ _ _ us hl => match us, hl with | [_], _ => rfl), PySem.W.mg_of X G a1⟩
  have T_check_from : Df K mg "check_from" s_check_from ["thing", "least"] f2 _ := ⟨F2, F2.binds (ps := ["thing", "least"]) (fun _ _ _ _ _ _ us hl => match us, hl with | [_, _], _ => rfl), PySem.W.mg_of X G a2⟩
  have T_check_size : Df K mg "check_size" s_check_size ["thing", "most"] f3 _ := ⟨F3, F3.binds (ps := ["thing", "most"]) (fun _ _ _ _ _ _ us hl => match us, hl with | [_, _], _ => rfl), PySem.W.mg_of X G a3⟩
  have T_check_few : Df K mg "check_few" s_check_few ["n", "most"] f4 _ := ⟨F4, F4.binds (ps := ["n", "most"]) (fun _ _ _ _ _ _ us hl => match us, hl with | [_, _], _ => rfl), PySem.W.mg_of X G a4⟩
  have T_check_apart : Df K mg "check_apart" s_check_apart ["way", "n", "most", "d"] f5 _ := ⟨F5, F5.binds (ps := ["way", "n", "most", "d"]) (fun _ _ _ _ _ _ us hl => match us, hl with | [_, _, _, _], _ => rfl), PySem.W.mg_of X G a5⟩
  have T_is_order : Df K mg "is_order" s_is_order ["thing"] f6 _ := ⟨F6, F6.binds (ps := ["thing"]) (fun _ _ _ _ _ _ us hl => match us, hl with | [_], _ => rfl), PySem.W.mg_of X G a6⟩
  have T_check_order : Df K mg "check_order" s_check_order ["thing"] f7 _ := ⟨F7, F7.binds (ps := ["thing"]) (fun _ _ _ _ _ _ us hl => match us, hl with | [_], _ => rfl), PySem.W.mg_of X G a7⟩
  have T_check_orders : Df K mg "check_orders" s_check_orders ["one", "other"] f8 _ := ⟨F8, F8.binds (ps := ["one", "other"]) (fun _ _ _ _ _ _ us hl => match us, hl with | [_, _], _ => rfl), PySem.W.mg_of X G a8⟩
  have T_check_fit : Df K mg "check_fit" s_check_fit ["one", "other"] f9 _ := ⟨F9, F9.binds (ps := ["one", "other"]) (fun _ _ _ _ _ _ us hl => match us, hl with | [_, _], _ => rfl), PySem.W.mg_of X G a9⟩
  have T_is_order_list : Df K mg "is_order_list" s_is_order_list ["thing"] f10 _ := ⟨F10, F10.binds (ps := ["thing"]) (fun _ _ _ _ _ _ us hl => match us, hl with | [_], _ => rfl), PySem.W.mg_of X G a10⟩
  have T_places_in : Df K mg "places_in" s_places_in ["order"] f11 _ := ⟨F11, F11.binds (ps := ["order"]) (fun _ _ _ _ _ _ us hl => match us, hl with | [_], _ => rfl), PySem.W.mg_of X G a11⟩
  have T_seats_in : Df K mg "seats_in" s_seats_in ["one", "other"] f12 _ := ⟨F12, F12.binds (ps := ["one", "other"]) (fun _ _ _ _ _ _ us hl => match us, hl with | [_, _], _ => rfl), PySem.W.mg_of X G a12⟩
  have T_how_far : Df K mg "how_far" s_how_far ["way", "one", "other"] f13 _ := ⟨F13, F13.binds (ps := ["way", "one", "other"]) (fun _ _ _ _ _ _ us hl => match us, hl with | [_, _, _], _ => rfl), PySem.W.mg_of X G a13⟩
  have T_known_far : Df K mg "known_far" s_known_far ["way", "one", "other"] f14 _ := ⟨F14, F14.binds (ps := ["way", "one", "other"]) (fun _ _ _ _ _ _ us hl => match us, hl with | [_, _, _], _ => rfl), PySem.W.mg_of X G a14⟩
  have T_far_by_swap : Df K mg "far_by_swap" s_far_by_swap ["one", "other"] f15 _ := ⟨F15, F15.binds (ps := ["one", "other"]) (fun _ _ _ _ _ _ us hl => match us, hl with | [_, _], _ => rfl), PySem.W.mg_of X G a15⟩
  have T_far_by_spot : Df K mg "far_by_spot" s_far_by_spot ["one", "other"] f16 _ := ⟨F16, F16.binds (ps := ["one", "other"]) (fun _ _ _ _ _ _ us hl => match us, hl with | [_, _], _ => rfl), PySem.W.mg_of X G a16⟩
  have T_far_by_shift : Df K mg "far_by_shift" s_far_by_shift ["one", "other"] f17 _ := ⟨F17, F17.binds (ps := ["one", "other"]) (fun _ _ _ _ _ _ us hl => match us, hl with | [_, _], _ => rfl), PySem.W.mg_of X G a17⟩
  have T_all_orders : Df K mg "all_orders" s_all_orders ["n"] f18 _ := ⟨F18, F18.binds (ps := ["n"]) (fun _ _ _ _ _ _ us hl => match us, hl with | [_], _ => rfl), PySem.W.mg_of X G a18⟩
  have T_orders_with : Df K mg "orders_with" s_orders_with ["choices"] f19 _ := ⟨F19, F19.binds (ps := ["choices"]) (fun _ _ _ _ _ _ us hl => match us, hl with | [_], _ => rfl), PySem.W.mg_of X G a19⟩
  have T_count_orders : Df K mg "count_orders" s_count_orders ["n"] f20 _ := ⟨F20, F20.binds (ps := ["n"]) (fun _ _ _ _ _ _ us hl => match us, hl with | [_], _ => rfl), PySem.W.mg_of X G a20⟩
  have T_lies_apart : Df K mg "lies_apart" s_lies_apart ["way", "n", "d", "thing"] f21 _ := ⟨F21, F21.binds (ps := ["way", "n", "d", "thing"]) (fun _ _ _ _ _ _ us hl => match us, hl with | [_, _, _, _], _ => rfl), PySem.W.mg_of X G a21⟩
  have T_are_far : Df K mg "are_far" s_are_far ["way", "d", "orders"] f22 _ := ⟨F22, F22.binds (ps := ["way", "d", "orders"]) (fun _ _ _ _ _ _ us hl => match us, hl with | [_, _, _], _ => rfl), PySem.W.mg_of X G a22⟩
  have T_is_far : DfC K mg "is_far" s_is_far ["way", "d", "order", "others"] f23 _ tc_is_far := ⟨F23, F23.binds (ps := ["way", "d", "order", "others"]) (fun _ _ _ _ _ _ us hl => match us, hl with | [_, _, _, _], _ => rfl), PySem.W.mg_of X G a23, tab_code t_is_far a23 l23⟩
  have T_longest_apart : Df K mg "longest_apart" s_longest_apart ["way", "n", "d"] f24 _ := ⟨F24, F24.binds (ps := ["way", "n", "d"]) (fun _ _ _ _ _ _ us hl => match us, hl with | [_, _, _], _ => rfl), PySem.W.mg_of X G a24⟩
  have T_longest_from : Df K mg "longest_from" s_longest_from ["way", "d", "taken", "rest", "best"] f25 _ := ⟨F25, F25.binds (ps := ["way", "d", "taken", "rest", "best"]) (fun _ _ _ _ _ _ us hl => match us, hl with | [_, _, _, _, _], _ => rfl), PySem.W.mg_of X G a25⟩
  have T_far_ones : Df K mg "far_ones" s_far_ones ["way", "d", "order", "others"] f26 _ := ⟨F26, F26.binds (ps := ["way", "d", "order", "others"]) (fun _ _ _ _ _ _ us hl => match us, hl with | [_, _, _, _], _ => rfl), PySem.W.mg_of X G a26⟩
  have T_first_apart : Df K mg "first_apart" s_first_apart ["way", "n", "d"] f27 _ := ⟨F27, F27.binds (ps := ["way", "n", "d"]) (fun _ _ _ _ _ _ us hl => match us, hl with | [_, _, _], _ => rfl), PySem.W.mg_of X G a27⟩
  have T_check_many : Df K mg "check_many" s_check_many ["many"] f28 _ := ⟨F28, F28.binds (ps := ["many"]) (fun _ _ _ _ _ _ us hl => match us, hl with | [_], _ => rfl), PySem.W.mg_of X G a28⟩
  have T_known_within : Df K mg "known_within" s_known_within ["way", "n", "r"] f29 _ := ⟨F29, F29.binds (ps := ["way", "n", "r"]) (fun _ _ _ _ _ _ us hl => match us, hl with | [_, _, _], _ => rfl), PySem.W.mg_of X G a29⟩
  have T_swap_counts : Df K mg "swap_counts" s_swap_counts ["n"] f30 _ := ⟨F30, F30.binds (ps := ["n"]) (fun _ _ _ _ _ _ us hl => match us, hl with | [_], _ => rfl), PySem.W.mg_of X G a30⟩
  have T_swap_counts_with_one_more : Df K mg "swap_counts_with_one_more" s_swap_counts_with_one_more ["counts", "behind"] f31 _ := ⟨F31, F31.binds (ps := ["counts", "behind"]) (fun _ _ _ _ _ _ us hl => match us, hl with | [_, _], _ => rfl), PySem.W.mg_of X G a31⟩
  have T_spot_counts : Df K mg "spot_counts" s_spot_counts ["n"] f32 _ := ⟨F32, F32.binds (ps := ["n"]) (fun _ _ _ _ _ _ us hl => match us, hl with | [_], _ => rfl), PySem.W.mg_of X G a32⟩
  have T_count_all_moved : Df K mg "count_all_moved" s_count_all_moved ["n"] f33 _ := ⟨F33, F33.binds (ps := ["n"]) (fun _ _ _ _ _ _ us hl => match us, hl with | [_], _ => rfl), PySem.W.mg_of X G a33⟩
  have T_shift_within : Df K mg "shift_within" s_shift_within ["n", "r"] f34 _ := ⟨F34, F34.binds (ps := ["n", "r"]) (fun _ _ _ _ _ _ us hl => match us, hl with | [_, _], _ => rfl), PySem.W.mg_of X G a34⟩
  have T_things_near : Df K mg "things_near" s_things_near ["place", "n", "r"] f35 _ := ⟨F35, F35.binds (ps := ["place", "n", "r"]) (fun _ _ _ _ _ _ us hl => match us, hl with | [_, _, _], _ => rfl), PySem.W.mg_of X G a35⟩
  have T_one_place_further : Df K mg "one_place_further" s_one_place_further ["beginnings", "near"] f36 _ := ⟨F36, F36.binds (ps := ["beginnings", "near"]) (fun _ _ _ _ _ _ us hl => match us, hl with | [_, _], _ => rfl), PySem.W.mg_of X G a36⟩
  have T_bounds_by_rounds : Df K mg "bounds_by_rounds" s_bounds_by_rounds ["way", "n", "d"] f37 _ := ⟨F37, F37.binds (ps := ["way", "n", "d"]) (fun _ _ _ _ _ _ us hl => match us, hl with | [_, _, _], _ => rfl), PySem.W.mg_of X G a37⟩
  have T__law_cell_at : Df K mg "_law_cell_at" s_law_cell_at ["script", "k"] f38 _ := ⟨F38, F38.binds (ps := ["script", "k"]) (fun _ _ _ _ _ _ us hl => match us, hl with | [_, _], _ => rfl), PySem.W.mg_of X G a38⟩
  have T__law_stir : Df K mg "_law_stir" s_law_stir ["cell", "k"] f39 _ := ⟨F39, F39.binds (ps := ["cell", "k"]) (fun _ _ _ _ _ _ us hl => match us, hl with | [_, _], _ => rfl), PySem.W.mg_of X G a39⟩
  have T__law_deck : Df K mg "_law_deck" s_law_deck ["cell", "many"] f40 _ := ⟨F40, F40.binds (ps := ["cell", "many"]) (fun _ _ _ _ _ _ us hl => match us, hl with | [_, _], _ => rfl), PySem.W.mg_of X G a40⟩
  have T__law_next : Df K mg "_law_next" s_law_next ["deck"] f41 _ := ⟨F41, F41.binds (ps := ["deck"]) (fun _ _ _ _ _ _ us hl => match us, hl with | [_], _ => rfl), PySem.W.mg_of X G a41⟩
  have T__law_all : Df K mg "_law_all" s_law_all ["n"] f42 _ := ⟨F42, F42.binds (ps := ["n"]) (fun _ _ _ _ _ _ us hl => match us, hl with | [_], _ => rfl), PySem.W.mg_of X G a42⟩
  have T__law_filled : Df K mg "_law_filled" s_law_filled ["way", "n", "d"] f43 _ := ⟨F43, F43.binds (ps := ["way", "n", "d"]) (fun _ _ _ _ _ _ us hl => match us, hl with | [_, _, _], _ => rfl), PySem.W.mg_of X G a43⟩
  have T__law_lengths_right : Df K mg "_law_lengths_right" s_law_lengths_right ["way", "n", "d", "orders"] f44 _ := ⟨F44, F44.binds (ps := ["way", "n", "d", "orders"]) (fun _ _ _ _ _ _ us hl => match us, hl with | [_, _, _, _], _ => rfl), PySem.W.mg_of X G a44⟩
  have FM0 := fun_mk (st := s_Lister___init__) lm0 cm0 km0
  have T_Lister_init : Dm K C_Lister "__init__" "Lister.__init__" s_Lister___init__ ["self", "way", "n", "d"] fm0 _ := ⟨FM0, FM0.binds (ps := ["self", "way", "n", "d"]) (fun _ _ _ _ _ _ us hl => match us, hl with | [_, _, _, _], _ => rfl), am0, im0⟩
  have FM1 := fun_mk (st := s_Lister_come) lm1 cm1 km1
  have T_Lister_come : Dm K C_Lister "come" "Lister.come" s_Lister_come ["self", "order"] fm1 _ := ⟨FM1, FM1.binds (ps := ["self", "order"]) (fun _ _ _ _ _ _ us hl => match us, hl with | [_, _], _ => rfl), am1, im1⟩
  have FM2 := fun_mk (st := s_Lister_drop) lm2 cm2 km2
  have T_Lister_drop : Dm K C_Lister "drop" "Lister.drop" s_Lister_drop ["self", "order"] fm2 _ := ⟨FM2, FM2.binds (ps := ["self", "order"]) (fun _ _ _ _ _ _ us hl => match us, hl with | [_, _], _ => rfl), am2, im2⟩
  have FM3 := fun_mk (st := s_Lister_change_to) lm3 cm3 km3
  have T_Lister_change_to : Dm K C_Lister "change_to" "Lister.change_to" s_Lister_change_to ["self", "orders"] fm3 _ := ⟨FM3, FM3.binds (ps := ["self", "orders"]) (fun _ _ _ _ _ _ us hl => match us, hl with | [_, _], _ => rfl), am3, im3⟩
  have FM4 := fun_mk (st := s_Lister_orders) lm4 cm4 km4
  have T_Lister_orders : Dm K C_Lister "orders" "Lister.orders" s_Lister_orders ["self"] fm4 _ := ⟨FM4, FM4.binds (ps := ["self"]) (fun _ _ _ _ _ _ us hl => match us, hl with | [_], _ => rfl), am4, im4⟩
  have FM5 := fun_mk (st := s_Lister_least_apart) lm5 cm5 km5
  have T_Lister_least_apart : Dm K C_Lister "least_apart" "Lister.least_apart" s_Lister_least_apart ["self"] fm5 _ := ⟨FM5, FM5.binds (ps := ["self"]) (fun _ _ _ _ _ _ us hl => match us, hl with | [_], _ => rfl), am5, im5⟩
  have FM6 := fun_mk (st := s_Lister_first_more) lm6 cm6 km6
  have T_Lister_first_more : Dm K C_Lister "first_more" "Lister.first_more" s_Lister_first_more ["self"] fm6 _ := ⟨FM6, FM6.binds (ps := ["self"]) (fun _ _ _ _ _ _ us hl => match us, hl with | [_], _ => rfl), am6, im6⟩
  have FM7 := fun_mk (st := s_Lister_how_many_more) lm7 cm7 km7
  have T_Lister_how_many_more : Dm K C_Lister "how_many_more" "Lister.how_many_more" s_Lister_how_many_more ["self"] fm7 _ := ⟨FM7, FM7.binds (ps := ["self"]) (fun _ _ _ _ _ _ us hl => match us, hl with | [_], _ => rfl), am7, im7⟩
  have T_Lister : TxL K mg C_Lister fm0 := ⟨⟨pgC, hdC, poC, saC⟩, ⟨mkC, am0, im0, kcC⟩, PySem.W.mg_of X G aC_Lister, nf_way, nf_n, nf_d, nf_taken, nf_earlier⟩
  have B : Bi mg := ⟨PySem.W.mg_none_of X G z_ValueError, PySem.W.mg_none_of X G z_abs, PySem.W.mg_none_of X G z_all, PySem.W.mg_none_of X G z_bool, PySem.W.mg_none_of X G z_enumerate, PySem.W.mg_none_of X G z_int, PySem.W.mg_none_of X G z_isinstance, PySem.W.mg_none_of X G z_len, PySem.W.mg_none_of X G z_list, PySem.W.mg_none_of X G z_max, PySem.W.mg_none_of X G z_min, PySem.W.mg_none_of X G z_range, PySem.W.mg_none_of X G z_sorted, PySem.W.mg_none_of X G z_str, PySem.W.mg_none_of X G z_sum⟩
  have m_WAYS := wy_mk (PySem.W.mg_of X G g_WAYS) l_WAYS
  have m_MOST_THINGS := PySem.W.mg_of X G g_MOST_THINGS
  have m_MOST_LISTED := PySem.W.mg_of X G g_MOST_LISTED
  have m_MOST_ORDERS := PySem.W.mg_of X G g_MOST_ORDERS
  have m_MOST_SEARCHED := PySem.W.mg_of X G g_MOST_SEARCHED
  have m_MOST_KEPT := PySem.W.mg_of X G g_MOST_KEPT
  refine ⟨PySem.W.fnOf "law" "law" (defArgs s_law) (defBody s_law) (defScope s_law) .none kV45 dc45 pm45 an45 cd45 ct45, [(tc_is_far, tp_is_far)], spLaw K tp_is_far, ?_, ?_, ?_, fun s v => .of_eq rfl, fun H a ns hl _ hT hS => ⟨a, ns, rfl, hS, hl, ⟨#[], hT (tc_is_far, tp_is_far) (by simp), trivial⟩, fun _ => rfl⟩, fun base _ _ TBs => ?_⟩
  · rintro p hp
    simp only [List.mem_cons, List.not_mem_nil, or_false] at hp
    rcases hp with rfl
    · exact (tabs "is_far" (by simp) _ _ t_is_far).2
  · rintro p hp
    simp only [List.mem_cons, List.not_mem_nil, or_false] at hp
    rcases hp with rfl
    · exact n_is_far
  · rintro p hp
    simp only [List.mem_cons, List.not_mem_nil, or_false] at hp
    rcases hp with rfl
    · exact (tabs "is_far" (by simp) _ _ t_is_far).1
  have TB_is_far := TBs (tc_is_far, tp_is_far) (by simp)
  exact ok_law F45 T_Lister T_Lister_init T_Lister_come T_Lister_drop T_Lister_orders T_Lister_least_apart T_Lister_how_many_more T_Lister_first_more T__law_deck T__law_cell_at T__law_next T__law_filled T_first_apart T__law_lengths_right T__law_all T_how_far (ok_initL (k := 48) T_Lister_init T_Lister T_check_apart (ok_apart (k := 45) T_check_apart T_check_way T_check_size T_check_from T_is_whole m_WAYS B) m_MOST_KEPT) (ok_comeL (k := 49) T_Lister_come T_Lister T_check_order (ok_check (k := 46) T_check_order T_is_order T_is_whole B m_MOST_THINGS) T_check_many (ok_manyOk (k := 48) T_check_many m_MOST_ORDERS) T_known_far (ok_known (k := 48) T_known_far T_far_by_swap T_far_by_spot T_far_by_shift (ok_swap (k := 47) T_far_by_swap T_seats_in (ok_seats (k := 45) T_seats_in T_places_in B) B) (ok_spot (k := 47) T_far_by_spot B) (ok_shift (k := 47) T_far_by_shift T_seats_in (ok_seats (k := 45) T_seats_in T_places_in B) B)) T_Lister_change_to (ok_changeL (k := 48) T_Lister_change_to T_Lister) B) (ok_dropL (k := 49) T_Lister_drop T_Lister T_check_order (ok_check (k := 46) T_check_order T_is_order T_is_whole B m_MOST_THINGS) T_Lister_change_to (ok_changeL (k := 48) T_Lister_change_to T_Lister) B) (ok_ordersL (k := 49) T_Lister_orders T_Lister B) (ok_leastL (k := 49) T_Lister_least_apart T_Lister T_known_far (ok_known (k := 48) T_known_far T_far_by_swap T_far_by_spot T_far_by_shift (ok_swap (k := 47) T_far_by_swap T_seats_in (ok_seats (k := 45) T_seats_in T_places_in B) B) (ok_spot (k := 47) T_far_by_spot B) (ok_shift (k := 47) T_far_by_shift T_seats_in (ok_seats (k := 45) T_seats_in T_places_in B) B)) B) (ok_moreL (k := 49) T_Lister_how_many_more T_Lister T_check_few (ok_few (k := 48) T_check_few) T_all_orders (ok_all_orders (k := 47) T_all_orders T_orders_with B) T_is_far (ok_isFar (k := 47) T_is_far TB_is_far T_known_far (ok_known (k := 46) T_known_far T_far_by_swap T_far_by_spot T_far_by_shift (ok_swap (k := 45) T_far_by_swap T_seats_in (ok_seats (k := 43) T_seats_in T_places_in B) B) (ok_spot (k := 45) T_far_by_spot B) (ok_shift (k := 45) T_far_by_shift T_seats_in (ok_seats (k := 43) T_seats_in T_places_in B) B)) B) B m_MOST_LISTED) (ok_firstL (k := 49) T_Lister_first_more T_Lister T_check_few (ok_few (k := 48) T_check_few) T_all_orders (ok_all_orders (k := 47) T_all_orders T_orders_with B) T_is_far (ok_isFar (k := 47) T_is_far TB_is_far T_known_far (ok_known (k := 46) T_known_far T_far_by_swap T_far_by_spot T_far_by_shift (ok_swap (k := 45) T_far_by_swap T_seats_in (ok_seats (k := 43) T_seats_in T_places_in B) B) (ok_spot (k := 45) T_far_by_spot B) (ok_shift (k := 45) T_far_by_shift T_seats_in (ok_seats (k := 43) T_seats_in T_places_in B) B)) B) B m_MOST_LISTED) (ok_deckN (k := 48) T__law_deck T__law_stir B) (ok_cell (k := 49) T__law_cell_at B) (ok_next (k := 48) T__law_next T__law_stir B) (ok_filled (k := 48) T__law_filled T_Lister T_Lister_init T_Lister_come T_Lister_how_many_more T_Lister_first_more (ok_initL (k := 47) T_Lister_init T_Lister T_check_apart (ok_apart (k := 44) T_check_apart T_check_way T_check_size T_check_from T_is_whole m_WAYS B) m_MOST_KEPT) (ok_comeL (k := 48) T_Lister_come T_Lister T_check_order (ok_check (k := 45) T_check_order T_is_order T_is_whole B m_MOST_THINGS) T_check_many (ok_manyOk (k := 47) T_check_many m_MOST_ORDERS) T_known_far (ok_known (k := 47) T_known_far T_far_by_swap T_far_by_spot T_far_by_shift (ok_swap (k := 46) T_far_by_swap T_seats_in (ok_seats (k := 44) T_seats_in T_places_in B) B) (ok_spot (k := 46) T_far_by_spot B) (ok_shift (k := 46) T_far_by_shift T_seats_in (ok_seats (k := 44) T_seats_in T_places_in B) B)) T_Lister_change_to (ok_changeL (k := 47) T_Lister_change_to T_Lister) B) (ok_moreL (k := 48) T_Lister_how_many_more T_Lister T_check_few (ok_few (k := 47) T_check_few) T_all_orders (ok_all_orders (k := 46) T_all_orders T_orders_with B) T_is_far (ok_isFar (k := 46) T_is_far TB_is_far T_known_far (ok_known (k := 45) T_known_far T_far_by_swap T_far_by_spot T_far_by_shift (ok_swap (k := 44) T_far_by_swap T_seats_in (ok_seats (k := 42) T_seats_in T_places_in B) B) (ok_spot (k := 44) T_far_by_spot B) (ok_shift (k := 44) T_far_by_shift T_seats_in (ok_seats (k := 42) T_seats_in T_places_in B) B)) B) B m_MOST_LISTED) (ok_firstL (k := 48) T_Lister_first_more T_Lister T_check_few (ok_few (k := 47) T_check_few) T_all_orders (ok_all_orders (k := 46) T_all_orders T_orders_with B) T_is_far (ok_isFar (k := 46) T_is_far TB_is_far T_known_far (ok_known (k := 45) T_known_far T_far_by_swap T_far_by_spot T_far_by_shift (ok_swap (k := 44) T_far_by_swap T_seats_in (ok_seats (k := 42) T_seats_in T_places_in B) B) (ok_spot (k := 44) T_far_by_spot B) (ok_shift (k := 44) T_far_by_shift T_seats_in (ok_seats (k := 42) T_seats_in T_places_in B) B)) B) B m_MOST_LISTED) B) (ok_first (k := 49) T_first_apart T_check_apart T_all_orders T_is_far (ok_apart (k := 46) T_check_apart T_check_way T_check_size T_check_from T_is_whole m_WAYS B) (ok_all_orders (k := 47) T_all_orders T_orders_with B) (ok_isFar (k := 47) T_is_far TB_is_far T_known_far (ok_known (k := 46) T_known_far T_far_by_swap T_far_by_spot T_far_by_shift (ok_swap (k := 45) T_far_by_swap T_seats_in (ok_seats (k := 43) T_seats_in T_places_in B) B) (ok_spot (k := 45) T_far_by_spot B) (ok_shift (k := 45) T_far_by_shift T_seats_in (ok_seats (k := 43) T_seats_in T_places_in B) B)) B) B m_MOST_LISTED) (ok_len75 (k := 49) T__law_lengths_right T_bounds_by_rounds T_lies_apart T_longest_apart (ok_bounds (k := 48) T_bounds_by_rounds T_check_apart T_count_orders T_known_within (ok_apart (k := 45) T_check_apart T_check_way T_check_size T_check_from T_is_whole m_WAYS B) (ok_fac (k := 47) T_count_orders B) (ok_kw (k := 45) T_known_within T_swap_counts T_spot_counts T_shift_within T_swap_counts_with_one_more T_count_all_moved T_things_near T_one_place_further B) B m_MOST_THINGS) (ok_lies (k := 48) T_lies_apart T_check_apart T_is_order_list T_are_far (ok_apart (k := 45) T_check_apart T_check_way T_check_size T_check_from T_is_whole m_WAYS B) (ok_olst (k := 47) T_is_order_list T_is_order (ok_is_order (k := 45) T_is_order T_is_whole B m_MOST_THINGS) B) (ok_areFar (k := 47) T_are_far T_is_far (ok_isFar (k := 45) T_is_far TB_is_far T_known_far (ok_known (k := 44) T_known_far T_far_by_swap T_far_by_spot T_far_by_shift (ok_swap (k := 43) T_far_by_swap T_seats_in (ok_seats (k := 41) T_seats_in T_places_in B) B) (ok_spot (k := 43) T_far_by_spot B) (ok_shift (k := 43) T_far_by_shift T_seats_in (ok_seats (k := 41) T_seats_in T_places_in B) B)) B) B) B m_MOST_THINGS) (ok_longest (k := 48) T_longest_apart T_check_apart T_all_orders T_longest_from T_far_ones (ok_apart (k := 45) T_check_apart T_check_way T_check_size T_check_from T_is_whole m_WAYS B) (ok_all_orders (k := 46) T_all_orders T_orders_with B) (ok_lf (k := 24) T_longest_from T_far_ones (fun j => (ok_farOnes (k := j + 23) T_far_ones T_known_far (ok_known (k := j + 22) T_known_far T_far_by_swap T_far_by_spot T_far_by_shift (ok_swap (k := j + 21) T_far_by_swap T_seats_in (ok_seats (k := j + 19) T_seats_in T_places_in B) B) (ok_spot (k := j + 21) T_far_by_spot B) (ok_shift (k := j + 21) T_far_by_shift T_seats_in (ok_seats (k := j + 19) T_seats_in T_places_in B) B)) B)) B 24) (ok_farOnes (k := 47) T_far_ones T_known_far (ok_known (k := 46) T_known_far T_far_by_swap T_far_by_spot T_far_by_shift (ok_swap (k := 45) T_far_by_swap T_seats_in (ok_seats (k := 43) T_seats_in T_places_in B) B) (ok_spot (k := 45) T_far_by_spot B) (ok_shift (k := 45) T_far_by_shift T_seats_in (ok_seats (k := 43) T_seats_in T_places_in B) B)) B) B m_MOST_SEARCHED) B) (ok_law_all (k := 49) T__law_all B) (ok_far (k := 49) T_how_far T_check_orders T_check_way T_check_fit T_known_far (ok_checks (k := 48) T_check_orders T_check_order (ok_check (k := 45) T_check_order T_is_order T_is_whole B m_MOST_THINGS)) (ok_way (k := 48) T_check_way m_WAYS B) (ok_fit (k := 48) T_check_fit B) (ok_known (k := 48) T_known_far T_far_by_swap T_far_by_spot T_far_by_shift (ok_swap (k := 47) T_far_by_swap T_seats_in (ok_seats (k := 45) T_seats_in T_places_in B) B) (ok_spot (k := 47) T_far_by_spot B) (ok_shift (k := 47) T_far_by_shift T_seats_in (ok_seats (k := 45) T_seats_in T_places_in B) B))) B
end Fo
open PySem PySem.W PyProof.Rows
set_option maxRecDepth 100000 in
set_option maxHeartbeats 0 in
theorem PySem.Challenge.cw_farorders_k75_whole_listers_and_lists_ap_holds : PySem.Challenge.rw_farorders_k75_whole_listers_and_lists_ap.Holds := by
  w_on; o_law; k_head; (case hw => w_witness2)
  k_fill
  refine Fo.walk_tab (l := PySem.Challenge.rw_farorders_k75_whole_listers_and_lists_ap) (n := 63) (k := 51) (x := "script") (CX := fun _ => L2.CX0) rfl (by decide) rfl ⟨rfl, by decide, by decide⟩ (fun w h Y => PySem.W.kIn_of Y) ?F (fun _ _ _ _ _ h => h)
  case F =>
    intro w mg fa h KX G hmg tabs
    replace hmg : mg "law" = some (Value.ref fa) := hmg
    refine' Fo.all_mk KX G hmg ?a0 ?l0 ?c0 ?k0 ?a1 ?l1 ?c1 ?k1 ?a2 ?l2 ?c2 ?k2 ?a3 ?l3 ?c3 ?k3 ?a4 ?l4 ?c4 ?k4 ?a5 ?l5 ?c5 ?k5 ?a6 ?l6 ?c6 ?k6 ?a7 ?l7 ?c7 ?k7 ?a8 ?l8 ?c8 ?k8 ?a9 ?l9 ?c9 ?k9 ?a10 ?l10 ?c10 ?k10 ?a11 ?l11 ?c11 ?k11 ?a12 ?l12 ?c12 ?k12 ?a13 ?l13 ?c13 ?k13 ?a14 ?l14 ?c14 ?k14 ?a15 ?l15 ?c15 ?k15 ?a16 ?l16 ?c16 ?k16 ?a17 ?l17 ?c17 ?k17 ?a18 ?l18 ?c18 ?k18 ?a19 ?l19 ?c19 ?k19 ?a20 ?l20 ?c20 ?k20 ?a21 ?l21 ?c21 ?k21 ?a22 ?l22 ?c22 ?k22 ?a23 ?l23 ?c23 ?k23 ?a24 ?l24 ?c24 ?k24 ?a25 ?l25 ?c25 ?k25 ?a26 ?l26 ?c26 ?k26 ?a27 ?l27 ?c27 ?k27 ?a28 ?l28 ?c28 ?k28 ?a29 ?l29 ?c29 ?k29 ?a30 ?l30 ?c30 ?k30 ?a31 ?l31 ?c31 ?k31 ?a32 ?l32 ?c32 ?k32 ?a33 ?l33 ?c33 ?k33 ?a34 ?l34 ?c34 ?k34 ?a35 ?l35 ?c35 ?k35 ?a36 ?l36 ?c36 ?k36 ?a37 ?l37 ?c37 ?k37 ?a38 ?l38 ?c38 ?k38 ?a39 ?l39 ?c39 ?k39 ?a40 ?l40 ?c40 ?k40 ?a41 ?l41 ?c41 ?k41 ?a42 ?l42 ?c42 ?k42 ?a43 ?l43 ?c43 ?k43 ?a44 ?l44 ?c44 ?k44 ?a45 ?l45 ?c45 ?k45 ?g_MOST_THINGS ?g_MOST_LISTED ?g_MOST_ORDERS ?g_MOST_SEARCHED ?g_MOST_KEPT ?g_WAYS ?l_WAYS ?aC_Lister ?am0 ?im0 ?lm0 ?cm0 ?km0 ?am1 ?im1 ?lm1 ?cm1 ?km1 ?am2 ?im2 ?lm2 ?cm2 ?km2 ?am3 ?im3 ?lm3 ?cm3 ?km3 ?am4 ?im4 ?lm4 ?cm4 ?km4 ?am5 ?im5 ?lm5 ?cm5 ?km5 ?am6 ?im6 ?lm6 ?cm6 ?km6 ?am7 ?im7 ?lm7 ?cm7 ?km7 ?pgC ?hdC ?poC ?saC ?mkC ?kcC ?nf_way ?nf_n ?nf_d ?nf_taken ?nf_earlier ?z_ValueError ?z_abs ?z_all ?z_bool ?z_enumerate ?z_int ?z_isinstance ?z_len ?z_list ?z_max ?z_min ?z_range ?z_sorted ?z_str ?z_sum ?e_is_far ?u_is_far ?v_is_far ?n_is_far (fun y hy c P ht => tabs y c P ?tabn ht)
    (case a0 => k_is); (case l0 => k_is); (case c0 => k_is); (case k0 => k_is); (case a1 => k_is); (case l1 => k_is); (case c1 => k_is); (case k1 => k_is); (case a2 => k_is); (case l2 => k_is); (case c2 => k_is); (case k2 => k_is); (case a3 => k_is); (case l3 => k_is); (case c3 => k_is); (case k3 => k_is); (case a4 => k_is); (case l4 => k_is); (case c4 => k_is); (case k4 => k_is); (case a5 => k_is); (case l5 => k_is); (case c5 => k_is); (case k5 => k_is); (case a6 => k_is); (case l6 => k_is); (case c6 => k_is); (case k6 => k_is); (case a7 => k_is); (case l7 => k_is); (case c7 => k_is); (case k7 => k_is); (case a8 => k_is); (case l8 => k_is); (case c8 => k_is); (case k8 => k_is); (case a9 => k_is); (case l9 => k_is); (case c9 => k_is); (case k9 => k_is); (case a10 => k_is); (case l10 => k_is); (case c10 => k_is); (case k10 => k_is); (case a11 => k_is); (case l11 => k_is); (case c11 => k_is); (case k11 => k_is); (case a12 => k_is); (case l12 => k_is); (case c12 => k_is); (case k12 => k_is); (case a13 => k_is); (case l13 => k_is); (case c13 => k_is); (case k13 => k_is); (case a14 => k_is); (case l14 => k_is); (case c14 => k_is); (case k14 => k_is); (case a15 => k_is); (case l15 => k_is); (case c15 => k_is); (case k15 => k_is); (case a16 => k_is); (case l16 => k_is); (case c16 => k_is); (case k16 => k_is); (case a17 => k_is); (case l17 => k_is); (case c17 => k_is); (case k17 => k_is); (case a18 => k_is); (case l18 => k_is); (case c18 => k_is); (case k18 => k_is); (case a19 => k_is); (case l19 => k_is); (case c19 => k_is); (case k19 => k_is); (case a20 => k_is); (case l20 => k_is); (case c20 => k_is); (case k20 => k_is); (case a21 => k_is); (case l21 => k_is); (case c21 => k_is); (case k21 => k_is); (case a22 => k_is); (case l22 => k_is); (case c22 => k_is); (case k22 => k_is); (case a23 => k_is); (case l23 => k_is); (case c23 => k_is); (case k23 => k_is); (case a24 => k_is); (case l24 => k_is); (case c24 => k_is); (case k24 => k_is); (case a25 => k_is); (case l25 => k_is); (case c25 => k_is); (case k25 => k_is); (case a26 => k_is); (case l26 => k_is); (case c26 => k_is); (case k26 => k_is); (case a27 => k_is); (case l27 => k_is); (case c27 => k_is); (case k27 => k_is); (case a28 => k_is); (case l28 => k_is); (case c28 => k_is); (case k28 => k_is); (case a29 => k_is); (case l29 => k_is); (case c29 => k_is); (case k29 => k_is); (case a30 => k_is); (case l30 => k_is); (case c30 => k_is); (case k30 => k_is); (case a31 => k_is); (case l31 => k_is); (case c31 => k_is); (case k31 => k_is); (case a32 => k_is); (case l32 => k_is); (case c32 => k_is); (case k32 => k_is); (case a33 => k_is); (case l33 => k_is); (case c33 => k_is); (case k33 => k_is); (case a34 => k_is); (case l34 => k_is); (case c34 => k_is); (case k34 => k_is); (case a35 => k_is); (case l35 => k_is); (case c35 => k_is); (case k35 => k_is); (case a36 => k_is); (case l36 => k_is); (case c36 => k_is); (case k36 => k_is); (case a37 => k_is); (case l37 => k_is); (case c37 => k_is); (case k37 => k_is); (case a38 => k_is); (case l38 => k_is); (case c38 => k_is); (case k38 => k_is); (case a39 => k_is); (case l39 => k_is); (case c39 => k_is); (case k39 => k_is); (case a40 => k_is); (case l40 => k_is); (case c40 => k_is); (case k40 => k_is); (case a41 => k_is); (case l41 => k_is); (case c41 => k_is); (case k41 => k_is); (case a42 => k_is); (case l42 => k_is); (case c42 => k_is); (case k42 => k_is); (case a43 => k_is); (case l43 => k_is); (case c43 => k_is); (case k43 => k_is); (case a44 => k_is); (case l44 => k_is); (case c44 => k_is); (case k44 => k_is); (case a45 => k_is); (case l45 => k_is); (case c45 => k_is); (case k45 => k_is); (case g_MOST_THINGS => k_is); (case g_MOST_LISTED => k_is); (case g_MOST_ORDERS => k_is); (case g_MOST_SEARCHED => k_is); (case g_MOST_KEPT => k_is); (case g_WAYS => k_is); (case l_WAYS => k_is); (case aC_Lister => k_is); (case am0 => k_is); (case im0 => k_is); (case lm0 => k_is); (case cm0 => k_is); (case km0 => k_is); (case am1 => k_is); (case im1 => k_is); (case lm1 => k_is); (case cm1 => k_is); (case km1 => k_is); (case am2 => k_is); (case im2 => k_is); (case lm2 => k_is); (case cm2 => k_is); (case km2 => k_is); (case am3 => k_is); (case im3 => k_is); (case lm3 => k_is); (case cm3 => k_is); (case km3 => k_is); (case am4 => k_is); (case im4 => k_is); (case lm4 => k_is); (case cm4 => k_is); (case km4 => k_is); (case am5 => k_is); (case im5 => k_is); (case lm5 => k_is); (case cm5 => k_is); (case km5 => k_is); (case am6 => k_is); (case im6 => k_is); (case lm6 => k_is); (case cm6 => k_is); (case km6 => k_is); (case am7 => k_is); (case im7 => k_is); (case lm7 => k_is); (case cm7 => k_is); (case km7 => k_is); (case pgC => k_is); (case hdC => k_is); (case poC => k_is); (case saC => k_is); (case mkC => k_is); (case kcC => k_is); (case nf_way => k_is); (case nf_n => k_is); (case nf_d => k_is); (case nf_taken => k_is); (case nf_earlier => k_is); (case z_ValueError => k_is); (case z_abs => k_is); (case z_all => k_is); (case z_bool => k_is); (case z_enumerate => k_is); (case z_int => k_is); (case z_isinstance => k_is); (case z_len => k_is); (case z_list => k_is); (case z_max => k_is); (case z_min => k_is); (case z_range => k_is); (case z_sorted => k_is); (case z_str => k_is); (case z_sum => k_is)
    (case e_is_far => exact rfl); (case u_is_far => k_is); (case v_is_far => exact rfl); (case n_is_far => kernel_rfl)
    case tabn =>
      simp only [List.mem_cons, List.not_mem_nil, or_false] at hy
      rcases hy with rfl <;> decide +kernel

