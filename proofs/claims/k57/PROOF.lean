import PyProof.Rows.All
import Wide.All
import OpenK.AllK
import Wide.FinOn
import HandS.ForMost
import HandS.IsInst
import HandS.Conv
import HandS.Style
import HandS.More
import HandS.Evl
import HandS.Zip
import HandS.SetFor
import HandS.Sort
import HandS.Wide
import HandS.Deep
import KE.SortData
import HandS.Flt
import HandS.SetBool
import HandS.TupSets
import PyProof.SetRoads
import HandS.GenList
import HandS.AnyAll
import HandS.EndTab
import KE.DataFind
import PySem.Challenge.RW_farorders_k57_whole_sure_lists
set_option Elab.async false
set_option linter.all false
set_option maxRecDepth 100000
namespace Fo
open PySem PySem.Spec PyProof.Rows L2
/-! ### lists and orders -/
def rg (n : Nat) : List Int := (List.range n).map fun k => ((k : Nat) : Int)
def IsOrd (n : Nat) (ns : List Int) : Prop := ns.Perm (rg n)
theorem rg_len (n : Nat) : (rg n).length = n := by
  unfold rg
  rw [List.length_map, List.length_range]
theorem rg_mem {n : Nat} {x : Int} : x ∈ rg n ↔ 0 ≤ x ∧ x < n := by
  unfold rg
  rw [List.mem_map]
  constructor
  · rintro ⟨k, hk, rfl⟩
    have := List.mem_range.mp hk
    omega
  · rintro ⟨h0, h1⟩
    exact ⟨x.toNat, List.mem_range.mpr (by omega), by omega⟩
theorem rg_nodup (n : Nat) : (rg n).Nodup := by
  unfold rg
  exact List.Pairwise.map _ (fun a b h e => h (by omega)) List.nodup_range
theorem rg_sorted (n : Nat) : (rg n).Pairwise (· ≤ ·) := by
  unfold rg
  exact List.Pairwise.map _ (fun a b h => by omega) List.pairwise_lt_range
theorem rg_V (n : Nat) : rgV 0 (n : Int) = (rg n).map V.int := by
  unfold rgV rg
  rw [List.map_map, show ((n : Int) - 0).toNat = n by omega]
  apply List.map_congr_left
  intro a _
  show V.int (0 + (a : Int)) = V.int (a : Int)
  rw [Int.zero_add]
theorem IsOrd.len {n : Nat} {ns : List Int} (h : IsOrd n ns) : ns.length = n := (List.Perm.length_eq h).trans (rg_len n)
theorem IsOrd.mem {n : Nat} {ns : List Int} (h : IsOrd n ns) {x : Int} (m : x ∈ ns) : 0 ≤ x ∧ x < n := rg_mem.mp ((List.Perm.mem_iff h).mp m)
theorem IsOrd.nodup {n : Nat} {ns : List Int} (h : IsOrd n ns) : ns.Nodup := (List.Perm.nodup_iff h).mpr (rg_nodup n)
/-- two sorted lists of the same things are one -/
theorem sorted_eq : ∀ {a b : List Int}, a.Perm b → a.Pairwise (· ≤ ·) → b.Pairwise (· ≤ ·) → a = b := by
  intro a b hp ha hb
  exact List.Perm.eq_of_pairwise (fun x y _ _ h1 h2 => by omega) ha hb hp
/-- the things at p and p + 1 change places -/
def sw (xs : List Int) (p : Nat) : List Int := (xs.set p (xs.getD (p + 1) 0)).set (p + 1) (xs.getD p 0)
theorem split2 : ∀ {xs : List Int} {p : Nat}, p + 1 < xs.length → ∃ A a b B, xs = A ++ a :: b :: B ∧ A.length = p
  | [], p, h => by simp at h
  | [_], p, h => by simp at h
  | a :: b :: r, 0, _ => ⟨[], a, b, r, rfl, rfl⟩
  | a :: b :: r, p + 1, h => by
    obtain ⟨A, x, y, B, e, l⟩ := split2 (xs := b :: r) (p := p) (by simpa using h)
    exact ⟨a :: A, x, y, B, by rw [e]; rfl, by rw [List.length_cons, l]⟩
theorem sw_at : ∀ (A : List Int) (a b : Int) (B : List Int), sw (A ++ a :: b :: B) A.length = A ++ b :: a :: B
  | [], a, b, B => rfl
  | x :: A, a, b, B => by
    have ih := sw_at A a b B
    unfold sw at ih ⊢
    show x :: _ = x :: _
    exact congrArg (x :: ·) ih
theorem sw_perm {xs : List Int} {p : Nat} (h : p + 1 < xs.length) : (sw xs p).Perm xs := by
  obtain ⟨A, a, b, B, rfl, rfl⟩ := split2 h
  rw [sw_at]
  exact List.Perm.append_left A (List.Perm.swap a b B)
theorem sw_len (xs : List Int) (p : Nat) : (sw xs p).length = xs.length := by
  unfold sw
  rw [List.length_set, List.length_set]
theorem sw_ord {n : Nat} {xs : List Int} {p : Nat} (o : IsOrd n xs) (h : p + 1 < n) : IsOrd n (sw xs p) :=
  (sw_perm (by rw [o.len]; exact h)).trans o
theorem sw_V {xs : List Int} {p : Nat} {a b : Int} (ha : xs[p]? = some a) (hb : xs[p + 1]? = some b) : ((xs.map V.int).set p (V.int b)).set (p + 1) (V.int a) = (sw xs p).map V.int := by
  unfold sw
  rw [List.getD_eq_getElem?_getD, List.getD_eq_getElem?_getD, ha, hb, List.map_set, List.map_set]
  rfl
theorem pop_ins {xs : List Int} {p : Nat} {a : Int} (h : p + 1 < xs.length) (ha : xs[p]? = some a) : (xs.eraseIdx p).take (p + 1) ++ [a] ++ (xs.eraseIdx p).drop (p + 1) = sw xs p := by
  obtain ⟨A, x, y, B, rfl, rfl⟩ := split2 h
  have ex : x = a := by
    rw [List.getElem?_append_right (Nat.le_refl _), Nat.sub_self] at ha
    exact Option.some.inj ha
  subst ex
  rw [sw_at, List.eraseIdx_append_of_length_le (Nat.le_refl _), Nat.sub_self]
  show (A ++ y :: B).take (A.length + 1) ++ [x] ++ (A ++ y :: B).drop (A.length + 1) = _
  rw [List.take_append, List.drop_append]
  have t : A.length + 1 - A.length = 1 := by omega
  rw [t, List.take_of_length_le (by omega), List.drop_of_length_le (by omega)]
  simp
/-- the order at a walk's end -/
def wEnd (xs : List Int) (ws : List Int) : List Int := ws.foldl (fun x p => sw x p.toNat) xs
theorem wEnd_more {xs ws : List Int} {i : Nat} {p : Int} (h : ws[i]? = some p) : wEnd xs (ws.take (i + 1)) = sw (wEnd xs (ws.take i)) p.toNat := by
  unfold wEnd
  rw [List.take_add_one, h, List.foldl_append]
  rfl
theorem wEnd_ord {n : Nat} {xs : List Int} (o : IsOrd n xs) : ∀ {ws : List Int}, (∀ p ∈ ws, 0 ≤ p ∧ p + 1 < n) → IsOrd n (wEnd xs ws) := by
  intro ws
  induction ws generalizing xs with
  | nil => intro _; exact o
  | cons p ws ih =>
    intro h
    have hp := h p List.mem_cons_self
    exact ih (sw_ord o (by omega)) fun q hq => h q (List.mem_cons_of_mem _ hq)
theorem nodup_len : ∀ {l m : List Int}, l.Nodup → (∀ x ∈ l, x ∈ m) → l.length ≤ m.length
  | [], m, _, _ => Nat.zero_le _
  | a :: l, m, hn, hs => by
    obtain ⟨h1, h2⟩ := List.nodup_cons.mp hn
    have ha := hs a List.mem_cons_self
    have ih := nodup_len (l := l) (m := m.erase a) h2 fun x hx => by
      have ne : x ≠ a := fun e => h1 (by rw [← e]; exact hx)
      exact (List.mem_erase_of_ne ne).mpr (hs x (List.mem_cons_of_mem _ hx))
    rw [List.length_erase_of_mem ha] at ih
    have : 0 < m.length := List.length_pos_of_mem ha
    rw [List.length_cons]
    omega
theorem int_at {ns : List Int} {i : Nat} {x : Int} (h : ns[i]? = some x) : (ns.map V.int)[i]? = some (V.int x) := by
  rw [List.getElem?_map, h]
  rfl
theorem int_at_inv {ns : List Int} {i : Nat} {v : V} (h : (ns.map V.int)[i]? = some v) : ∃ x, ns[i]? = some x ∧ v = V.int x := by
  rw [List.getElem?_map] at h
  cases e : ns[i]? with
  | none => rw [e] at h; cases h
  | some x => rw [e] at h; exact ⟨x, rfl, (Option.some.inj h).symm⟩
theorem line_small {n : Nat} (h : n ≤ 16777216) : n ≤ sizeLine := by rw [sizeLine_eq]; exact h
theorem line_lt {n : Nat} (h : n < 16777216) : n < sizeLine := by rw [sizeLine_eq]; exact h
/-! ### data of ints -/
theorem dp_ints {K : PySem.W.Frag} {H : Hp} : ∀ ns : List Int, DpAll K H (ns.map V.int) (ns.map PyData.int)
  | [] => .nil
  | n :: r => .cons (.int n) (dp_ints r)
theorem dp_list {K : PySem.W.Frag} {H : Hp} {a : Addr} {ns : List Int} (h : H a = some (.lst (ns.map V.int))) : Dp K H (.ref a) (.list (ns.map PyData.int)) := .lst (SqL.of h) (dp_ints ns)
theorem eqv_int (i j : Int) : PyData.eqv (.int i) (.int j) = (i == j) := rfl
end Fo
namespace Fo
open PySem PySem.Spec PyProof.Rows L2
abbrev dI (ns : List Int) : List PyData := ns.map PyData.int
abbrev dL (ns : List Int) : PyData := .list (dI ns)
abbrev dLL (l : List (List Int)) : PyData := .list (l.map dL)
theorem lay_ints : ∀ ns : List Int, PyData.canLayAll0 (dI ns) = true
  | [] => rfl
  | n :: r => by
    show (PyData.canLay0 (.int n) && PyData.canLayAll0 (dI r)) = true
    rw [lay_ints r]
    rfl
theorem depth_ints : ∀ ns : List Int, PyData.depthAll (dI ns) = 0
  | [] => by simp [PyData.depthAll]
  | n :: r => by
    show PyData.depthAll (.int n :: dI r) = 0
    rw [PyData.depthAll, depth_ints r]
    simp [PyData.depth]
theorem lay_list (ns : List Int) : PyData.canLay0 (dL ns) = true := by
  rw [PyData.canLay0]
  exact lay_ints ns
theorem depth_list (ns : List Int) : PyData.depth (dL ns) = 1 := by
  rw [PyData.depth, depth_ints]
theorem shaped_list (ns : List Int) : SeqAt.shaped (dL ns) = true := by
  unfold SeqAt.shaped
  rw [lay_list, depth_list]
  rfl
theorem lay_lists : ∀ l : List (List Int), PyData.canLayAll0 (l.map dL) = true
  | [] => rfl
  | n :: r => by
    show (PyData.canLay0 (dL n) && PyData.canLayAll0 (r.map dL)) = true
    rw [lay_lists r, lay_list]
    rfl
theorem depth_lists : ∀ l : List (List Int), PyData.depthAll (l.map dL) ≤ 1
  | [] => by simp [PyData.depthAll]
  | n :: r => by
    show PyData.depthAll (dL n :: r.map dL) ≤ 1
    rw [PyData.depthAll, depth_list]
    have := depth_lists r
    omega
theorem shaped_lists (l : List (List Int)) : SeqAt.shaped (dLL l) = true := by
  unfold SeqAt.shaped
  rw [Bool.and_eq_true_iff]
  constructor
  · rw [PyData.canLay0]
    exact lay_lists l
  · apply decide_eq_true
    rw [PyData.depth]
    have := depth_lists l
    omega
theorem eqv_list (ns : List Int) : PyData.eqv (dL ns) (dL ns) = true := SeqAt.eqv_refl _ (lay_list ns)
theorem eqv_lists (l : List (List Int)) : PyData.eqv (dLL l) (dLL l) = true := SeqAt.eqv_refl _ (SeqAt.canLay_of_shaped (shaped_lists l))
theorem eqvAll_ints : ∀ a b : List Int, PyData.eqvAll (dI a) (dI b) = decide (a = b)
  | [], [] => by simp [PyData.eqvAll]
  | [], _ :: _ => by simp [PyData.eqvAll]
  | _ :: _, [] => by simp [PyData.eqvAll]
  | x :: a, y :: b => by
    show PyData.eqvAll (.int x :: dI a) (.int y :: dI b) = _
    rw [PyData.eqvAll, eqvAll_ints a b]
    show ((x == y) && decide (a = b)) = decide (x :: a = y :: b)
    by_cases h : x = y
    · subst h
      simp
    · simp [h]
theorem eqv_ints (a b : List Int) : PyData.eqv (dL a) (dL b) = decide (a = b) := by
  rw [PyData.eqv]
  exact eqvAll_ints a b
end Fo
namespace Fo
open PySem PySem.Spec PyProof.Rows L2
/-! ### slices of ints -/
def cutI (ws : List Int) (lo hi : Option Int) : List Int := (ws.drop (HT.sIx ws.length 0 lo)).take (HT.sIx ws.length ws.length hi - HT.sIx ws.length 0 lo)
theorem cut_ints (ws : List Int) (lo hi : Option Int) : cutV (ws.map V.int) lo hi = (cutI ws lo hi).map V.int := by
  unfold cutV cutI
  rw [List.length_map, List.map_take, List.map_drop]
theorem cutI_mem {ws : List Int} {lo hi : Option Int} {x : Int} (h : x ∈ cutI ws lo hi) : x ∈ ws := List.mem_of_mem_drop (List.mem_of_mem_take h)
theorem cutI_len (ws : List Int) (lo hi : Option Int) : (cutI ws lo hi).length ≤ ws.length := by
  unfold cutI
  rw [List.length_take, List.length_drop]
  omega
theorem cutI_head (ws : List Int) (k : Nat) : cutI ws none (some (k : Int)) = ws.take k := by
  unfold cutI
  rw [HT.sIx_none, HT.sIx_nat, List.drop_zero, Nat.sub_zero]
  by_cases h : k ≤ ws.length
  · rw [Nat.min_eq_left h]
  · rw [Nat.min_eq_right (by omega), List.take_length, List.take_of_length_le (by omega)]
theorem cutI_tail (ws : List Int) (k : Nat) : cutI ws (some (k : Int)) none = ws.drop k := by
  unfold cutI
  rw [HT.sIx_none, HT.sIx_nat]
  by_cases h : k ≤ ws.length
  · rw [Nat.min_eq_left h, List.take_of_length_le (by rw [List.length_drop]; exact Nat.le_refl _)]
  · rw [Nat.min_eq_right (by omega), List.drop_of_length_le (Nat.le_refl _), List.drop_of_length_le (by omega), List.take_nil]
end Fo
namespace Fo
open PySem PySem.Spec PyProof.Rows L2
/-! ### the text -/
def topS (i : Nat) : Stmt := PySem.Challenge.pw_farorders_k57_whole_sure_lists.main.body.getD i (.Pass ⟨0, 0, 0, 0⟩)
abbrev s_OrderError : Stmt := topS 1
abbrev s_NoOrder : Stmt := topS 2
abbrev s_NoWay : Stmt := topS 3
abbrev s_NoFit : Stmt := topS 4
abbrev s_NoNumber : Stmt := topS 5
abbrev s_is_whole : Stmt := topS 8
abbrev s_check_way : Stmt := topS 9
abbrev s_check_from : Stmt := topS 10
abbrev s_check_size : Stmt := topS 11
abbrev s_check_apart : Stmt := topS 12
abbrev s_is_order : Stmt := topS 17
abbrev s_check_order : Stmt := topS 18
abbrev s_check_orders : Stmt := topS 19
abbrev s_check_fit : Stmt := topS 20
abbrev s_check_listed : Stmt := topS 21
abbrev s_is_order_list : Stmt := topS 22
abbrev s_is_unlike_list : Stmt := topS 23
abbrev s_places_in : Stmt := topS 24
abbrev s_seats_in : Stmt := topS 25
abbrev s_how_far : Stmt := topS 26
abbrev s_known_far : Stmt := topS 27
abbrev s_far_by_swap : Stmt := topS 28
abbrev s_far_by_spot : Stmt := topS 29
abbrev s_far_by_shift : Stmt := topS 30
abbrev s_all_orders : Stmt := topS 31
abbrev s_orders_with : Stmt := topS 32
abbrev s_check_led : Stmt := topS 34
abbrev s_check_unlike_list : Stmt := topS 35
abbrev s_those_within : Stmt := topS 36
abbrev s_led_back : Stmt := topS 37
abbrev s_not_sure : Stmt := topS 38
abbrev s_check_sure : Stmt := topS 39
abbrev s_shows_not_sure : Stmt := topS 40
abbrev s_check_three : Stmt := topS 41
abbrev s_lies_apart : Stmt := topS 43
abbrev s_are_far : Stmt := topS 44
abbrev s_is_far : Stmt := topS 45
abbrev s_first_apart : Stmt := topS 46
abbrev s_law_pool : Stmt := topS 48
abbrev s_law_take : Stmt := topS 49
abbrev s_law_far : Stmt := topS 50
abbrev s_law_order : Stmt := topS 51
abbrev s_law_near : Stmt := topS 52
abbrev s_law_many : Stmt := topS 53
abbrev s_law_orders : Stmt := topS 54
abbrev s_law_apart : Stmt := topS 55
abbrev s_law_ways : Stmt := topS 56
abbrev s_law_shown_right : Stmt := topS 57
abbrev s_law_sure_right : Stmt := topS 58
abbrev s_law_apart_right : Stmt := topS 59
abbrev s_law : Stmt := topS 60
/-- a def of the text, where it stands -/
structure Df (K : PySem.W.Frag) (mg : Str → Option Value) (x : Str) (st : Stmt) (ps : List Str) (f : Addr) (fd : FuncData) : Prop where
  F : Fun K x x st f fd
  b : Binds K fd ps []
  g : mg x = some (.ref f)
/-- the built-in names as they were -/
structure Bi (mg : Str → Option Value) : Prop where
  ValueError : mg "ValueError" = none
  abs : mg "abs" = none
  all : mg "all" = none
  bool : mg "bool" = none
  enumerate : mg "enumerate" = none
  int : mg "int" = none
  isinstance : mg "isinstance" = none
  len : mg "len" = none
  list : mg "list" = none
  max : mg "max" = none
  min : mg "min" = none
  range : mg "range" = none
  sorted : mg "sorted" = none
  str : mg "str" = none
  tuple : mg "tuple" = none
  zip : mg "zip" = none
end Fo
namespace Fo
open PySem PySem.Spec PyProof.Rows L2
theorem same_new {H : Hp} {p : Addr} {o : HO} (h : H p = none) : Same H (upd H p o) := fun b x e => by
  rw [upd_ne (ne_of_none e h)]
  exact e
theorem at2_0 {x y : V} : atI [x, y] 0 = some x := rfl
theorem at2_1 {x y : V} : atI [x, y] 1 = some y := rfl
end Fo
namespace Fo
open PySem PySem.Spec PyProof.Rows L2
theorem pop_perm : ∀ {xs : List Int} {k : Nat} {y : Int}, xs[k]? = some y → (y :: xs.eraseIdx k).Perm xs
  | [], k, y, h => by simp at h
  | a :: r, 0, y, h => by
    have e : a = y := Option.some.inj h
    subst e
    exact List.Perm.refl _
  | a :: r, k + 1, y, h => by
    have ih := pop_perm (xs := r) (k := k) (y := y) h
    show (y :: a :: r.eraseIdx k).Perm (a :: r)
    exact (List.Perm.swap a y _).trans (List.Perm.cons a ih)
theorem map_erase : ∀ (xs : List Int) (k : Nat), (xs.map V.int).eraseIdx k = (xs.eraseIdx k).map V.int
  | [], k => rfl
  | a :: r, 0 => rfl
  | a :: r, k + 1 => congrArg (V.int a :: ·) (map_erase r k)
/-- what len asks of a list or a tuple -/
abbrev rLenS (K : PySem.W.Frag) : List V → Hp → VK → Prop := fun xs H Q => ∃ p ys, xs = [.ref p] ∧ (SqL K H p ys ∨ SqT K H p ys) ∧ Q (.int ys.length) H
theorem seq_ix {i : Int} {k n : Nat} (e : i = (k : Int)) (h : k < n) : seqIndex? i n = some k := by
  subst e
  unfold seqIndex?
  have h1 : ¬ ((k : Int) < 0) := by omega
  simp only [h1, if_false]
  have h2 : (decide ((0 : Int) ≤ (k : Int)) && decide ((k : Int) < (n : Int))) = true := by
    simp
    omega
  rw [if_pos h2, Int.toNat_natCast]
theorem ix_n {i : Int} {k n : Nat} (e : i = (k : Int)) (h : k < n) : ixN n i = some k := by
  subst e
  unfold ixN
  rw [if_pos (by omega), if_pos (by omega), Int.toNat_natCast]
end Fo
namespace Fo
open PySem PySem.Spec PyProof.Rows L2
abbrev rMax2 : List V → Hp → VK → Prop := fun xs H Q => ∃ i j, xs = [.int i, .int j] ∧ Q (.int (if j > i then j else i)) H
abbrev rMin2 : List V → Hp → VK → Prop := fun xs H Q => ∃ i j, xs = [.int i, .int j] ∧ Q (.int (if j < i then j else i)) H
abbrev rInt1 : List V → Hp → VK → Prop := fun xs H Q => (∃ i, xs = [.int i] ∧ Q (.int i) H) ∨ ∃ k, xs = [.bl k] ∧ Q (.int (if k then 1 else 0)) H
theorem filter_more {l : List Int} {m : Nat} {x : Int} (p : Int → Bool) (h : l[m]? = some x) : (l.take (m + 1)).filter p = (l.take m).filter p ++ (if p x then [x] else []) := by
  rw [List.take_add_one, h, List.filter_append]
  show _ ++ List.filter p [x] = _
  rw [List.filter_cons]
  rfl
end Fo
namespace Fo
open PySem PySem.Spec PyProof.Rows L2
theorem set2_perm {xs : List Int} {p q : Nat} {a b : Int} (ha : xs[p]? = some a) (hb : xs[q]? = some b) : ((xs.set p b).set q a).Perm xs := by
  obtain ⟨h1, e1⟩ := List.getElem?_eq_some_iff.mp ha
  obtain ⟨h2, e2⟩ := List.getElem?_eq_some_iff.mp hb
  rw [← e1, ← e2]
  exact List.set_set_perm h1 h2
theorem set2_V (xs : List Int) (p q : Nat) (a b : Int) : ((xs.map V.int).set p (V.int b)).set q (V.int a) = ((xs.set p b).set q a).map V.int := by
  rw [List.map_set, List.map_set]
end Fo
namespace Fo
open PySem PySem.Spec PyProof.Rows L2
/-! ### lists of lists -/
def LL (H : Hp) : List Addr → List (List Int) → Prop
  | [], [] => True
  | a :: as, r :: rs => H a = some (.lst (r.map V.int)) ∧ LL H as rs
  | _, _ => False
theorem LL.len {H : Hp} : ∀ {as : List Addr} {rs : List (List Int)}, LL H as rs → as.length = rs.length
  | [], [], _ => rfl
  | [], _ :: _, h => h.elim
  | _ :: _, [], h => h.elim
  | a :: as, r :: rs, h => by rw [List.length_cons, List.length_cons, LL.len h.2]
theorem LL.keep {H H' : Hp} : ∀ {as : List Addr} {rs : List (List Int)}, LL H as rs → (∀ a ∈ as, ∀ o, H a = some o → H' a = some o) → LL H' as rs
  | [], [], _, _ => trivial
  | [], _ :: _, h, _ => h.elim
  | _ :: _, [], h, _ => h.elim
  | a :: as, r :: rs, h, k => ⟨k a List.mem_cons_self _ h.1, LL.keep h.2 fun b hb => k b (List.mem_cons_of_mem _ hb)⟩
theorem LL.same {H H' : Hp} {as : List Addr} {rs : List (List Int)} (h : LL H as rs) (s : Same H H') : LL H' as rs := h.keep fun a _ o e => s a o e
theorem LL.get {H : Hp} : ∀ {as : List Addr} {rs : List (List Int)} {i : Nat} {a : Addr}, LL H as rs → as[i]? = some a → ∃ r, rs[i]? = some r ∧ H a = some (.lst (r.map V.int))
  | [], [], _, _, _, e => by simp at e
  | [], _ :: _, _, _, h, _ => h.elim
  | _ :: _, [], _, _, h, _ => h.elim
  | a :: as, r :: rs, 0, b, h, e => by
    have e2 : a = b := Option.some.inj e
    subst e2
    exact ⟨r, rfl, h.1⟩
  | a :: as, r :: rs, i + 1, b, h, e => LL.get (i := i) h.2 e
theorem LL.tracked {H : Hp} {as : List Addr} {rs : List (List Int)} (h : LL H as rs) {a : Addr} (ha : a ∈ as) : ∃ o, H a = some o := by
  obtain ⟨i, hi⟩ := List.mem_iff_getElem?.mp ha
  obtain ⟨r, _, e⟩ := h.get hi
  exact ⟨_, e⟩
theorem LL.snoc {H : Hp} : ∀ {as : List Addr} {rs : List (List Int)} {a : Addr} {r : List Int}, LL H as rs → H a = some (.lst (r.map V.int)) → LL H (as ++ [a]) (rs ++ [r])
  | [], [], _, _, _, e => ⟨e, trivial⟩
  | [], _ :: _, _, _, h, _ => h.elim
  | _ :: _, [], _, _, h, _ => h.elim
  | b :: as, s :: rs, _, _, h, e => ⟨h.1, LL.snoc h.2 e⟩
theorem LL.drop {H : Hp} : ∀ {as : List Addr} {rs : List (List Int)} (k : Nat), LL H as rs → LL H (as.drop k) (rs.drop k)
  | as, rs, 0, h => h
  | [], [], k + 1, _ => trivial
  | [], _ :: _, _ + 1, h => h.elim
  | _ :: _, [], _ + 1, h => h.elim
  | _ :: as, _ :: rs, k + 1, h => LL.drop k h.2
theorem dp_LL {K : PySem.W.Frag} {H : Hp} : ∀ {as : List Addr} {rs : List (List Int)}, LL H as rs → DpAll K H (as.map V.ref) (rs.map dL)
  | [], [], _ => .nil
  | [], _ :: _, h => h.elim
  | _ :: _, [], h => h.elim
  | _ :: _, _ :: _, h => .cons (dp_list h.1) (dp_LL h.2)
theorem dp_lists {K : PySem.W.Frag} {H : Hp} {l : Addr} {as : List Addr} {rs : List (List Int)} (hl : H l = some (.lst (as.map V.ref))) (h : LL H as rs) : Dp K H (.ref l) (dLL rs) := .lst (SqL.of hl) (dp_LL h)
theorem ref_at {as : List Addr} {i : Nat} {a : Addr} (h : as[i]? = some a) : (as.map V.ref)[i]? = some (V.ref a) := by
  rw [List.getElem?_map, h]
  rfl
theorem ref_at_inv {as : List Addr} {i : Nat} {v : V} (h : (as.map V.ref)[i]? = some v) : ∃ a, as[i]? = some a ∧ v = V.ref a := by
  rw [List.getElem?_map] at h
  cases e : as[i]? with
  | none => rw [e] at h; cases h
  | some x => rw [e] at h; exact ⟨x, rfl, (Option.some.inj h).symm⟩
theorem cutV_tail (xs : List V) (k : Nat) : cutV xs (some (k : Int)) none = xs.drop k := by
  unfold cutV
  rw [HT.sIx_none, HT.sIx_nat]
  by_cases h : k ≤ xs.length
  · rw [Nat.min_eq_left h, List.take_of_length_le (by rw [List.length_drop]; exact Nat.le_refl _)]
  · rw [Nat.min_eq_right (by omega), List.drop_of_length_le (Nat.le_refl _), List.drop_of_length_le (by omega), List.take_nil]
end Fo
namespace Fo
open PySem PySem.Spec PyProof.Rows L2
/-! ### a pool: three numbers, of which others are drawn -/
def PoolAt (H : Hp) (d : Addr) (c : Nat) : Prop := ∃ a b s : Int, H d = some (.lst [.int a, .int b, .int s]) ∧ 0 ≤ s ∧ s ≤ c
def KeepD (d : Addr) (H H' : Hp) : Prop := ∀ b o, H b = some o → b ≠ d → H' b = some o
theorem KeepD.refl (d : Addr) (H : Hp) : KeepD d H H := fun _ _ e _ => e
theorem KeepD.trans {d : Addr} {H H1 H2 : Hp} (a : KeepD d H H1) (b : KeepD d H1 H2) : KeepD d H H2 := fun c o e f => b c o (a c o e f) f
theorem KeepD.of_same {d : Addr} {H H' : Hp} (h : Same H H') : KeepD d H H' := fun b o e _ => h b o e
theorem KeepD.none {d : Addr} {H H1 : Hp} (k : KeepD d H H1) {p : Addr} (np : H1 p = none) (nf : p ≠ d) : H p = none := by
  cases e : H p with
  | none => rfl
  | some o =>
    have z := k p o e nf
    rw [np] at z
    cases z
theorem PoolAt.same {H H' : Hp} {d : Addr} {c : Nat} (h : PoolAt H d c) (s : Same H H') : PoolAt H' d c := by
  obtain ⟨a, b, t, e, r⟩ := h
  exact ⟨a, b, t, s _ _ e, r⟩
theorem PoolAt.mono {H : Hp} {d : Addr} {c c' : Nat} (h : PoolAt H d c) (hc : c ≤ c') : PoolAt H d c' := by
  obtain ⟨a, b, t, e, h0, h1⟩ := h
  exact ⟨a, b, t, e, h0, by omega⟩
theorem PoolAt.ne {H : Hp} {d : Addr} {c : Nat} (h : PoolAt H d c) {p : Addr} (e : H p = none) : p ≠ d := by
  obtain ⟨a, b, t, e1, _⟩ := h
  exact (ne_of_none e1 e).symm
theorem PoolAt.upd {H : Hp} {d : Addr} {c : Nat} (h : PoolAt H d c) {p : Addr} {o : HO} (n1 : p ≠ d) : PoolAt (upd H p o) d c := by
  obtain ⟨a, b, t, e, r⟩ := h
  exact ⟨a, b, t, by rw [upd_ne n1.symm]; exact e, r⟩
def spPool (K : PySem.W.Frag) : Sp := fun vs H Q _ => ∃ (a : Addr) (ns : List Int) (k : Nat), vs = [.ref a, .int k] ∧ SqL K H a (ns.map V.int) ∧ ns.length ≤ 63 ∧ k < 63 ∧ ∀ (d : Addr) (H' : Hp), H d = none → PoolAt H' d 5000 → Same H H' → Q (.ref d) H'
def spTake : Sp := fun vs H Q _ => ∃ (d : Addr) (many : Int) (c : Nat), vs = [.ref d, .int many] ∧ PoolAt H d c ∧ c < 1048576 ∧ 0 < many ∧ many < 1073741824 ∧ ∀ (v : Int) (H' : Hp), 0 ≤ v → v < many → PoolAt H' d (c + 1) → KeepD d H H' → Q (.int v) H'
def spFarN : Sp := fun vs H Q _ => ∃ (d : Addr) (c : Nat), vs = [.ref d] ∧ PoolAt H d c ∧ c + 5 < 1048576 ∧ ∀ (v : Int) (H' : Hp), 0 ≤ v → PoolAt H' d (c + 5) → KeepD d H H' → Q (.int v) H'
theorem mod_b (x : Int) {m : Int} (h : 0 < m) : 0 ≤ x % m ∧ x % m < m := ⟨Int.emod_nonneg x (by omega), Int.emod_lt_of_pos x h⟩
theorem mul_b {x y a b : Int} (hx : 0 ≤ x) (hxa : x ≤ a) (hy : 0 ≤ y) (hyb : y ≤ b) : 0 ≤ x * y ∧ x * y ≤ a * b := ⟨Int.mul_nonneg hx hy, Int.mul_le_mul hxa hyb hy (by omega)⟩
theorem at3_0 {x y z : V} : atI [x, y, z] 0 = some x := rfl
theorem at3_1 {x y z : V} : atI [x, y, z] 1 = some y := rfl
theorem at3_2 {x y z : V} : atI [x, y, z] 2 = some z := rfl
section
variable {P : Program} {w : World} {K : PySem.W.Frag} {mg : Str → Option Value} {base : Heap}
theorem scTake : FnScope ["pool", "many", "found", "step", "mark"] ["pool", "many"] (defScope s_law_take) := ⟨rfl, rfl, rfl, by decide +kernel, rfl, by decide +kernel, by decide +kernel⟩
set_option maxHeartbeats 1000000 in
theorem ok_take {f : Addr} {fd : FuncData} {k : Nat} (T : Df K mg "_law_take" s_law_take ["pool", "many"] f fd) (B : Bi mg) : FnOk P w K mg base CX0 (k + 1) f fd ["pool", "many"] spTake := by
  refine T.F.ok scTake (fun vs H Q E h => ?_) (fun cdv A outer s H vs Q E hr h => ?_)
  · obtain ⟨d, m, c, rfl, _⟩ := h
    rfl
  · obtain ⟨d, m, c, rfl, ⟨a, b, st, hd, s0, s1⟩, hc, hm, hm2, q⟩ := h
    refine ⟨_, 
      (pss_cons (ps_if (pt_cmpR op_eq (pe_ix ix_list (pv 0) pe_int (fun _ _ => rfl)) pe_int (nomark _))
        (pss_cons (ps_set (i := 2) scTake.nd rfl (.inl rfl) (pe_op op_mod (pe_ix ix_list (pv 0) pe_int (fun _ _ => rfl)) (pv 1)))
        (pss_cons (ps_asg (pe_op op_fdiv (pe_ix ix_list (pv 0) pe_int (fun _ _ => rfl)) (pv 1)) (pg_sub (pv 0) pe_int set_list))
        (pss_one (ps_ret (pv 2)))))
        pss_nil)
      (pss_cons (ps_asg (pe_op op_add (pe_ix ix_list (pv 0) pe_int (fun _ _ => rfl)) pe_int) (pg_sub (pv 0) pe_int set_list))
      (pss_cons (ps_set (i := 3) scTake.nd rfl (.inl rfl) (pe_ix ix_list (pv 0) pe_int (fun _ _ => rfl)))
      (Evl.pss_cut (ps_set (i := 4) scTake.nd rfl (.inl rfl) (pe_op op_mul (pe_op op_add (pe_op op_mod (pe_ix ix_list (pv 0) pe_int (fun _ _ => rfl)) pe_int) pe_int) (pe_op op_add (pe_op op_mul pe_int (pv 3)) pe_int)))
      (Evl.pss_cut (ps_set (i := 4) scTake.nd rfl (.inl rfl) (pe_op op_add (pv 4) (pe_op op_mul (pe_op op_mul pe_int (pv 3)) (pv 3))))
      (Evl.pss_cut (ps_set (i := 4) scTake.nd rfl (.inl rfl) (pe_op op_mod (pe_op op_mul (pv 4) (pv 4)) pe_int))
      (pss_one (ps_ret (pe_op op_mod (pe_op op_fdiv (pe_op op_mod (pe_op op_mul (pv 4) (pe_op op_add (pv 4) pe_int)) pe_int) pe_int) (pv 1)))))))))), ?_⟩
    refine ⟨_, rfl, d, _, 1, _, rfl, rfl, SqL.of hd, at3_1, rfl, _, rfl, ite2 (fun _ => ?_) (fun _ => ?_)⟩
    · refine ⟨_, rfl, d, _, 0, _, rfl, rfl, SqL.of hd, at3_0, _, rfl, a, m, rfl, rfl, hm, ?_⟩
      refine ⟨_, rfl, d, _, 0, _, rfl, rfl, SqL.of hd, at3_0, _, rfl, a, m, rfl, rfl, ⟨hm, hm2⟩, _, rfl, d, _, 0, 0, rfl, rfl, hd, rfl, ?_⟩
      obtain ⟨c1, c2⟩ := mod_b a hm
      exact ⟨_, rfl, q _ _ c1 c2 ⟨a / m, b, st, upd_same, s0, by omega⟩ fun b o e nb => by rw [upd_ne nb]; exact e⟩
    · refine ⟨_, rfl, d, _, 2, _, rfl, rfl, SqL.of hd, at3_2, st, 1, rfl, rfl, _, rfl, d, _, 2, 2, rfl, rfl, hd, rfl, ?_⟩
      have hd1 : (upd H d (.lst [.int a, .int b, .int (st + 1)])) d = some (.lst [.int a, .int b, .int (st + 1)]) := upd_same
      have kp : KeepD d H (upd H d (.lst [.int a, .int b, .int (st + 1)])) := fun b o e nb => by rw [upd_ne nb]; exact e
      show _
      refine ⟨_, rfl, d, _, 2, _, rfl, rfl, SqL.of hd1, at3_2, ?_⟩
      have kp2 : (upd H d (.lst (([.int a, .int b, .int st] : List V).set 2 (.int (st + 1))))) = upd H d (.lst [.int a, .int b, .int (st + 1)]) := rfl
      rw [kp2]
      generalize upd H d (.lst [.int a, .int b, .int (st + 1)]) = H1 at hd1 kp ⊢
      obtain ⟨m1, m2⟩ := mod_b a (m := 9999999463) (by decide)
      refine ⟨fun τ G => ∃ x : Int, 0 ≤ x ∧ x ≤ 640000000000000000 ∧ τ = [some (.ref d), some (.int m), none, some (.int (st + 1)), some (.int x)] ∧ G = H1, ?_, fun τ G hM => ?_⟩
      · obtain ⟨z1, z2⟩ := mul_b (x := a % 9999999463 + 1039) (y := 61 * (st + 1) + 97) (a := 10000000502) (b := 63963294) (by omega) (by omega) (by omega) (by omega)
        exact ⟨_, rfl, d, _, 0, _, rfl, rfl, SqL.of hd1, at3_0, _, 9999999463, rfl, rfl, (show (0 : Int) < 9999999463 by decide), _, 1039, rfl, rfl, _, rfl, 61, _, rfl, rfl, .inl ⟨by decide, by decide⟩, _, 97, rfl, rfl, _, _, rfl, rfl, .inl ⟨by omega, by omega⟩, _, z1, Int.le_trans z2 (by decide), rfl, rfl⟩
      obtain ⟨x, x0, x1, rfl, e1⟩ := hM
      subst e1
      refine ⟨fun τ G' => ∃ y : Int, 0 ≤ y ∧ y ≤ 645000000000000000 ∧ τ = [some (.ref d), some (.int m), none, some (.int (st + 1)), some (.int y)] ∧ G' = G, ?_, fun τ G' hM => ?_⟩
      · obtain ⟨z1, z2⟩ := mul_b (x := 3617 * (st + 1)) (y := st + 1) (a := 3792699392) (b := 1048576) (by omega) (by omega) (by omega) (by omega)
        exact ⟨_, rfl, _, rfl, 3617, _, rfl, rfl, .inl ⟨by decide, by decide⟩, _, rfl, _, _, rfl, rfl, .inr ⟨by omega, by omega⟩, x, _, rfl, rfl, _, by omega, by omega, rfl, rfl⟩
      obtain ⟨y, y0, y1, rfl, e1⟩ := hM
      subst e1
      refine ⟨fun τ G'' => ∃ z : Int, 0 ≤ z ∧ z < 99999999547 ∧ τ = [some (.ref d), some (.int m), none, some (.int (st + 1)), some (.int z)] ∧ G'' = G', ?_, fun τ G'' hM => ?_⟩
      · exact ⟨_, rfl, _, rfl, y, y, rfl, rfl, .inl ⟨by omega, by omega⟩, _, 99999999547, rfl, rfl, (show (0 : Int) < 99999999547 by decide), _, (mod_b _ (by decide)).1, (mod_b _ (by decide)).2, rfl, rfl⟩
      obtain ⟨z, z0, z1, rfl, e1⟩ := hM
      subst e1
      obtain ⟨c1, c2⟩ := mod_b (z * (z + 73) % 99999999829 / 131) hm
      exact ⟨_, rfl, _, rfl, z, 73, rfl, rfl, z, _, rfl, rfl, .inl ⟨by omega, by omega⟩, _, 99999999829, rfl, rfl, (show (0 : Int) < 99999999829 by decide), _, 131, rfl, rfl, ⟨by decide, by decide⟩, _, rfl, _, m, rfl, rfl, hm, q _ _ c1 c2 ⟨a, b, st + 1, hd1, by omega, by omega⟩ kp⟩
theorem scPool : FnScope ["script", "k", "cell"] ["script", "k"] (defScope s_law_pool) := ⟨rfl, rfl, rfl, by decide +kernel, rfl, by decide +kernel, by decide +kernel⟩
theorem ok_pool {f : Addr} {fd : FuncData} {k : Nat} (T : Df K mg "_law_pool" s_law_pool ["script", "k"] f fd) (B : Bi mg) : FnOk P w K mg base CX0 (k + 1) f fd ["script", "k"] (spPool K) := by
  refine T.F.ok scPool (fun vs H Q E h => ?_) (fun cdv A outer s H vs Q E hr h => ?_)
  · obtain ⟨a, ns, k, rfl, _⟩ := h
    rfl
  · obtain ⟨a, ns, k, rfl, hS, hlen, hk, q⟩ := h
    refine ⟨_, 
      (pss_cons (ps_set (i := 2) scPool.nd rfl (.inl rfl) pe_int)
      (Evl.pss_cut (ps_if (pt_cmpR op_lt (pv 1) (pe_callB call_len_seq (by rfl) B.len PySem.boot_len (pa_cons (pv 0) pa_nil)) (nomark _))
        (pss_one (ps_set (i := 2) scPool.nd rfl (.inl rfl) (pe_ix ix_list (pv 0) (pv 1) (fun _ _ => rfl))))
        pss_nil)
      (pss_cons (ps_if (pt_cmpR op_ge (pv 2) (pe_op op_pow pe_int pe_int) (nomark _))
        (pss_one (ps_ret (pe_lst (pa_cons (pe_op op_sub (pv 2) (pe_op op_pow pe_int pe_int)) (pa_cons pe_int (pa_cons pe_int pa_nil))))))
        pss_nil)
      (pss_one (ps_ret (pe_lst (pa_cons (pv 2) (pa_cons pe_int (pa_cons (pe_op op_mul pe_int (pv 1)) pa_nil))))))))), ?_⟩
    refine ⟨fun τ G => ∃ x : Int, τ = [some (.ref a), some (.int k), some (.int x)] ∧ G = H, ?_, fun τ G hM => ?_⟩
    · refine ⟨_, rfl, _, rfl, a, _, rfl, .inl hS, (k : Int), _, rfl, rfl, _, rfl, ite2 (fun c => ?_) (fun _ => ⟨0, rfl, rfl⟩)⟩
      have hl : (k : Int) < (((ns.map V.int).length : Nat) : Int) := of_decide_eq_true c
      rw [List.length_map] at hl
      exact ⟨_, rfl, _, rfl, a, _, _, _, rfl, rfl, hS, at_of (j := k) rfl (int_at (List.getElem?_eq_getElem (show k < ns.length by omega))), _, rfl, rfl⟩
    obtain ⟨x, rfl, rfl⟩ := hM
    refine ⟨_, rfl, 10, 18, rfl, rfl, ⟨by decide, by decide, by decide⟩, x, _, rfl, rfl, _, rfl, ite2 (fun _ => ?_) (fun _ => ?_)⟩
    · refine ⟨_, rfl, 10, 18, rfl, rfl, ⟨by decide, by decide, by decide⟩, x, _, rfl, rfl, line_small (by show 3 ≤ 16777216; decide), fun d nd => ?_⟩
      exact q d _ nd ⟨_, 1, 0, upd_same, by omega, by omega⟩ (same_new nd)
    · refine ⟨_, rfl, _, rfl, 71, (k : Int), rfl, rfl, .inl ⟨by decide, by decide⟩, line_small (by show 3 ≤ 16777216; decide), fun d nd => ?_⟩
      exact q d _ nd ⟨_, 0, _, upd_same, by omega, by omega⟩ (same_new nd)
end
end Fo
namespace Fo
open PySem PySem.Spec PyProof.Rows L2
theorem PoolAt.new {H : Hp} {d : Addr} {c : Nat} (h : PoolAt H d c) {p : Addr} {o : HO} (e : H p = none) : PoolAt (L2.upd H p o) d c := h.upd (h.ne e)
theorem KeepD.new {d : Addr} {H : Hp} {p : Addr} {o : HO} (e : H p = Option.none) : KeepD d H (upd H p o) := KeepD.of_same (same_new e)
def spOrderP : Sp := fun vs H Q _ => ∃ (d : Addr) (n c : Nat), vs = [.ref d, .int n] ∧ PoolAt H d c ∧ n ≤ 12 ∧ c + 12 < 1048576 ∧
  ∀ (ns : List Int) (l : Addr) (H' : Hp), IsOrd n ns → H l = none → H' l = some (.lst (ns.map V.int)) → l ≠ d → PoolAt H' d (c + 12) → KeepD d H H' → Q (.ref l) H'
section
variable {P : Program} {w : World} {K : PySem.W.Frag} {mg : Str → Option Value} {base : Heap}
theorem scOrderP : FnScope ["pool", "n", "left", "k"] ["pool", "n"] (defScope s_law_order) := ⟨rfl, rfl, rfl, by decide +kernel, rfl, by decide +kernel, by decide +kernel⟩
set_option maxHeartbeats 4000000 in
theorem ok_ordP {f fD : Addr} {fd fdD : FuncData} {k : Nat} (T : Df K mg "_law_order" s_law_order ["pool", "n"] f fd) (T__law_take : Df K mg "_law_take" s_law_take ["pool", "many"] fD fdD) (G__law_take : FnOk P w K mg base CX0 k fD fdD ["pool", "many"] spTake) (B : Bi mg) : FnOk P w K mg base CX0 (k + 1) f fd ["pool", "n"] spOrderP := by
  refine T.F.ok scOrderP (fun vs H Q E h => ?_) (fun cdv A outer s H vs Q E hr h => ?_)
  · obtain ⟨D, n, c, rfl, _⟩ := h
    rfl
  · obtain ⟨d, n, c, rfl, hD, hn2, hc, q⟩ := h
    refine ⟨_, 
      (pss_cons (ps_set (i := 2) scOrderP.nd rfl (.inr rfl) (pe_listRg rfl (by rfl) B.list (prg_1 (by rfl) B.range (pv 1))))
      (pss_one (ps_ret (pe_lc (own := [("k", 3)]) (g := (gName 3)) (tt := tYes) (te := (tBM K "list" rPopAt (tVar 2) (tCons (tCall spTake [] E0 (tCons (tVar 0) (tCons (tCB (rLenS K) (tCons (tVar 2) tNil)) tNil))) tNil))) rfl scOrderP.nd (pi_range1 (by rfl) B.range (pa_cons (pv 1) pa_nil)) (blkOk_by (N := ["pool", "n", "left", "k"]) (sc := defScope s_law_order) (by decide +kernel)) (fun _ _ _ _ _ => (pg_name (i := 3) scOrderP.nd rfl (.inl rfl))) (fun _ _ _ _ _ => pts_nil) (fun _ _ _ _ _ => (pe_bm PySem.F.plainAttrs_list PySem.F.slot_list_pop PySem.F.type_list_pop mt_popAt (pv 2) (pa_cons (pe_call G__law_take hr (by rfl) T__law_take.g T__law_take.F.kp T__law_take.b .nil pass0 (pa_cons (pv 0) (pa_cons (pe_callB call_len_seq (by rfl) B.len PySem.boot_len (pa_cons (pv 2) pa_nil)) pa_nil))) pa_nil))))))), ?_⟩
    refine ⟨_, rfl, n, rfl, RgOk.of_le (by omega) (by omega) (by omega) (by omega), fun l nl => ?_⟩
    have hl0 : (upd H l (.lst (rgV 0 (n : Int)))) l = some (.lst ((rg n).map V.int)) := by rw [upd_same, rg_V]
    have D0 := hD.new (o := .lst (rgV 0 (n : Int))) nl
    have nf := hD.ne nl
    have k0 : KeepD d H (upd H l (.lst (rgV 0 (n : Int)))) := KeepD.new nl
    refine ⟨_, rfl, n, rfl, by omega, by omega, ?_⟩
    rw [Int.toNat_natCast]
    intro p np
    have npf := D0.ne np
    have lp : l ≠ p := ne_of_none hl0 np
    refine lc_range (lo := 0) (n := n) (fun i H3 => ∃ (rest acc : List Int), (acc ++ rest).Perm (rg n) ∧ acc.length = i ∧ H3 l = some (.lst (rest.map V.int)) ∧ H3 p = some (.lst (acc.map V.int)) ∧ PoolAt H3 d (c + i) ∧ ∀ b o, H b = some o → b ≠ d → H3 b = some o)
      ⟨rg n, [], List.Perm.refl _, rfl, by rw [upd_ne lp]; exact hl0, upd_same, D0.new np, fun b o e f => by rw [upd_ne (ne_of_none (k0 b o e f) np)]; exact k0 b o e f⟩ (fun i H3 hi hP => ?_) (fun H3 hP => ?_)
    · obtain ⟨rest, acc, hperm, el, hl3, hp3, D3, kp3⟩ := hP
      have hlen : rest.length = n - i := by
        have := List.Perm.length_eq hperm
        rw [List.length_append, rg_len] at this
        omega
      have hlm : (rest.map V.int).length = rest.length := List.length_map _
      refine ⟨rfl, ?_⟩
      refine ⟨_, rfl, .inl ⟨rfl, _, SqL.of hl3⟩, _, rfl, _, rfl, l, _, rfl, .inl (SqL.of hl3), d, _, c + i, rfl, D3, by omega, by rw [hlm]; omega, by rw [hlm]; omega, fun v H4 v0 v1 D4 k4 => ?_⟩
      have hl4 := k4 l _ hl3 nf
      have hp4 := k4 p _ hp3 npf
      rw [hlm] at v1
      obtain ⟨j, ej⟩ : ∃ j : Nat, v = (j : Int) := ⟨v.toNat, by omega⟩
      subst ej
      obtain ⟨y, ey⟩ : ∃ y, rest[j]? = some y := ⟨rest[j]'(by omega), List.getElem?_eq_getElem (by omega)⟩
      refine ⟨l, _, _, j, _, rfl, rfl, hl4, by omega, by omega, seq_ix rfl (by rw [hlm]; omega), int_at ey, ?_⟩
      refine ⟨acc.map V.int, by rw [upd_ne lp.symm]; exact hp4, line_lt (by rw [List.length_map]; omega), rest.eraseIdx j, acc ++ [y], ?_, by rw [List.length_append, el]; rfl, ?_, by rw [upd_same, List.map_append]; rfl, ?_, fun b o e f => ?_⟩
      · rw [List.append_assoc]
        exact (List.Perm.append_left acc (pop_perm ey)).trans hperm
      · rw [upd_ne lp, upd_same, map_erase]
      · exact (D4.upd nf).upd npf
      · have e4 := k4 b o (kp3 b o e f) f
        have nbl : b ≠ l := ne_of_none e nl
        have nbp : b ≠ p := ne_of_none (k0 b o e f) np
        rw [upd_ne nbp, upd_ne nbl]
        exact e4
    · obtain ⟨rest, acc, hperm, el, hl3, hp3, D3, kp3⟩ := hP
      have hr0 : rest = [] := by
        have := List.Perm.length_eq hperm
        rw [List.length_append, rg_len] at this
        exact List.eq_nil_of_length_eq_zero (by omega)
      subst hr0
      rw [List.append_nil] at hperm
      exact q acc p H3 hperm (k0.none np npf) hp3 npf (D3.mono (by omega)) kp3
end
end Fo
namespace Fo
open PySem PySem.Spec PyProof.Rows L2
theorem ins_perm5 {α : Type} (l : List α) (k : Nat) (x : α) : (l.take k ++ [x] ++ l.drop k).Perm (x :: l) := by
  have h := List.perm_middle (a := x) (l₁ := l.take k) (l₂ := l.drop k)
  rw [List.take_append_drop] at h
  rw [List.append_assoc]
  exact h
def spNearP : Sp := fun vs H Q _ => ∃ (d o : Addr) (n c : Nat) (ns : List Int), vs = [.ref d, .ref o] ∧ PoolAt H d c ∧ H o = some (.lst (ns.map V.int)) ∧ IsOrd n ns ∧ 1 ≤ n ∧ n ≤ 12 ∧ c + 20 < 1048576 ∧
  ∀ (ms : List Int) (l : Addr) (H' : Hp), IsOrd n ms → H l = none → H' l = some (.lst (ms.map V.int)) → l ≠ d → PoolAt H' d (c + 20) → KeepD d H H' → Q (.ref l) H'
section
variable {P : Program} {w : World} {K : PySem.W.Frag} {mg : Str → Option Value} {base : Heap}
theorem scNearP : FnScope ["pool", "order", "found", "turn", "at", "to"] ["pool", "order"] (defScope s_law_near) := ⟨rfl, rfl, rfl, by decide +kernel, rfl, by decide +kernel, by decide +kernel⟩
set_option maxHeartbeats 4000000 in
theorem ok_nearP {f fD : Addr} {fd fdD : FuncData} {k : Nat} (T : Df K mg "_law_near" s_law_near ["pool", "order"] f fd) (T__law_take : Df K mg "_law_take" s_law_take ["pool", "many"] fD fdD) (G__law_take : FnOk P w K mg base CX0 k fD fdD ["pool", "many"] spTake) (B : Bi mg) : FnOk P w K mg base CX0 (k + 1) f fd ["pool", "order"] spNearP := by
  refine T.F.ok scNearP (fun vs H Q E h => ?_) (fun cdv A outer s H vs Q E hr h => ?_)
  · obtain ⟨D, o, n, c, ns, rfl, _⟩ := h
    rfl
  · obtain ⟨d, o, n, c, ns, rfl, hD, h0, ho, hn1, hn2, hc, q⟩ := h
    refine ⟨_, 
      (pss_cons (ps_set (i := 2) scNearP.nd rfl (.inl rfl) (pe_callTy call_list_of (by rfl) B.list (by decide +kernel) (pa_cons (pv 1) pa_nil)))
      (pss_cons (ps_for PassesOwn.never rfl (pi_range1 (by rfl) B.range (pa_cons (pe_call G__law_take hr (by rfl) T__law_take.g T__law_take.F.kp T__law_take.b .nil pass0 (pa_cons (pv 0) (pa_cons pe_int pa_nil))) pa_nil)) (pg_name (i := 3) scNearP.nd rfl (.inl rfl))
        (pss_cons (ps_set (i := 4) scNearP.nd rfl (.inl rfl) (pe_call G__law_take hr (by rfl) T__law_take.g T__law_take.F.kp T__law_take.b .nil pass0 (pa_cons (pv 0) (pa_cons (pe_callB call_len_seq (by rfl) B.len PySem.boot_len (pa_cons (pv 2) pa_nil)) pa_nil))))
        (pss_cons (ps_set (i := 5) scNearP.nd rfl (.inl rfl) (pe_ix ix_list (pe_lst (pa_cons (pe_callB (call_min2 rfl) (by rfl) B.min (by decide +kernel) (pa_cons (pe_op op_add (pv 4) pe_int) (pa_cons (pe_op op_sub (pe_callB call_len_seq (by rfl) B.len PySem.boot_len (pa_cons (pv 2) pa_nil)) pe_int) pa_nil))) (pa_cons (pe_call G__law_take hr (by rfl) T__law_take.g T__law_take.F.kp T__law_take.b .nil pass0 (pa_cons (pv 0) (pa_cons (pe_callB call_len_seq (by rfl) B.len PySem.boot_len (pa_cons (pv 2) pa_nil)) pa_nil))) pa_nil))) (pe_call G__law_take hr (by rfl) T__law_take.g T__law_take.F.kp T__law_take.b .nil pass0 (pa_cons (pv 0) (pa_cons pe_int pa_nil))) (fun _ _ => rfl)))
        (pss_one (ps_if (pt_cmpR op_eq (pe_call G__law_take hr (by rfl) T__law_take.g T__law_take.F.kp T__law_take.b .nil pass0 (pa_cons (pv 0) (pa_cons pe_int pa_nil))) pe_int (nomark _))
          (pss_one (ps_expr (pe_bm PySem.F.plainAttrs_list PySem.F.slot_list_insert PySem.F.type_list_insert mt_insert (pv 2) (pa_cons (pv 5) (pa_cons (pe_bm PySem.F.plainAttrs_list PySem.F.slot_list_pop PySem.F.type_list_pop mt_popAt (pv 2) (pa_cons (pv 4) pa_nil)) pa_nil)))))
          (pss_one (ps_asg (pe_tup (pa_cons (pe_ix ix_list (pv 2) (pv 5) (fun _ _ => rfl)) (pa_cons (pe_ix ix_list (pv 2) (pv 4) (fun _ _ => rfl)) pa_nil))) (pg_tup (by rfl) (pgs_cons (pg_sub (pv 2) (pv 4) set_list) (pgs_cons (pg_sub (pv 2) (pv 5) set_list) pgs_nil))))))))))
      (pss_one (ps_ret (pv 2))))), ?_⟩
    refine ⟨_, rfl, o, _, rfl, .inl (SqL.of h0), fun l nl => ?_⟩
    have s0 := same_new (o := .lst (ns.map V.int)) nl
    have D0 := hD.new (o := .lst (ns.map V.int)) nl
    have nf := hD.ne nl
    refine ⟨_, rfl, d, 4, c, rfl, D0, by omega, by decide, by decide, fun v H2 v0 v1 D2 k2 => ?_⟩
    have kk2 : KeepD d H H2 := (KeepD.of_same s0).trans k2
    have hl2 := k2 l _ upd_same nf
    obtain ⟨m, rfl⟩ : ∃ m : Nat, v = (m : Int) := ⟨v.toNat, by omega⟩
    refine ⟨m, rfl, by omega, by omega, ?_⟩
    rw [Int.toNat_natCast]
    refine for_range (n := m) (fun i σ H3 => ∃ (y3 y4 y5 : Option V) (xs : List Int), σ = [some (.ref d), some (.ref o), some (.ref l), y3, y4, y5] ∧ IsOrd n xs ∧ H3 l = some (.lst (xs.map V.int)) ∧ PoolAt H3 d (c + 1 + 4 * i) ∧ KeepD d H H3)
      ⟨none, none, none, ns, rfl, ho, hl2, D2, kk2⟩ (fun i σ H3 hi hP => ?_) (fun σ H3 hP => ?_)
    · obtain ⟨y3, y4, y5, xs, rfl, o3, hl3, D3, k3⟩ := hP
      have hxl := o3.len
      have hxm : (xs.map V.int).length = n := by rw [List.length_map]; exact hxl
      refine ⟨_, rfl, _, rfl, l, _, rfl, .inl (SqL.of hl3), d, _, _, rfl, D3, by omega, by rw [hxm]; omega, by rw [hxm]; omega, fun p H4 p0 p1 D4 k4 => ?_⟩
      rw [hxm] at p1
      have hl4 := k4 l _ hl3 nf
      obtain ⟨pn, rfl⟩ : ∃ pn : Nat, p = (pn : Int) := ⟨p.toNat, by omega⟩
      refine ⟨_, rfl, (pn : Int), 1, rfl, rfl, _, rfl, l, _, rfl, .inl (SqL.of hl4), _, 1, rfl, rfl, _, _, rfl, ?_⟩
      refine ⟨_, rfl, _, rfl, l, _, rfl, .inl (SqL.of hl4), d, _, _, rfl, D4, by omega, by rw [hxm]; omega, by rw [hxm]; omega, fun u H5 u0 u1 D5 k5 => ?_⟩
      rw [hxm] at u1
      have hl5 := k5 l _ hl4 nf
      refine ⟨line_small (by show 2 ≤ 16777216; decide), fun t2 nt2 => ?_⟩
      have nt2d := D5.ne nt2
      refine ⟨_, rfl, d, 2, _, rfl, D5.new nt2, by omega, by decide, by decide, fun e1 H6 e0 e2 D6 k6 => ?_⟩
      have ht6 := k6 t2 _ upd_same nt2d
      have hl7 := k6 l _ (same_new nt2 _ _ hl5) nf
      have kk6 : KeepD d H H6 := (((k3.trans k4).trans k5).trans (KeepD.new nt2)).trans k6
      obtain ⟨z, ez, hz⟩ : ∃ z : Nat, atI [V.int (if (((xs.map V.int).length : Nat) : Int) - 1 < (pn : Int) + 1 then (((xs.map V.int).length : Nat) : Int) - 1 else (pn : Int) + 1), V.int u] e1 = some (.int z) ∧ z < n := by
        have : e1 = 0 ∨ e1 = 1 := by omega
        rcases this with rfl | rfl
        · rw [hxm]
          by_cases cc : (n : Int) - 1 < (pn : Int) + 1
          · rw [if_pos cc]
            refine ⟨n - 1, ?_, by omega⟩
            rw [show ((n - 1 : Nat) : Int) = (n : Int) - 1 by omega]
            rfl
          · rw [if_neg cc]
            exact ⟨pn + 1, rfl, by omega⟩
        · refine ⟨u.toNat, ?_, by omega⟩
          rw [Int.toNat_of_nonneg u0]
          rfl
      refine ⟨t2, _, _, _, rfl, rfl, SqL.of ht6, ez, ?_⟩
      obtain ⟨a, ea⟩ : ∃ a, xs[pn]? = some a := ⟨xs[pn]'(by omega), List.getElem?_eq_getElem (by omega)⟩
      obtain ⟨b, eb⟩ : ∃ b, xs[z]? = some b := ⟨xs[z]'(by omega), List.getElem?_eq_getElem (by omega)⟩
      refine ⟨_, rfl, d, 3, _, rfl, D6, by omega, by decide, by decide, fun g H7 _ _ D7 k7 => ⟨rfl, _, rfl, ?_⟩⟩
      have hl8 := k7 l _ hl7 nf
      have kk7 : KeepD d H H7 := kk6.trans k7
      have D8 : PoolAt H7 d (c + 1 + 4 * (i + 1)) := D7.mono (by omega)
      refine ite2 (fun _ => ?_) (fun _ => ?_)
      · refine ⟨_, rfl, .inl ⟨rfl, _, SqL.of hl8⟩, _, rfl, _, rfl, .inl ⟨rfl, _, SqL.of hl8⟩, _, rfl, l, _, _, pn, _, rfl, rfl, hl8, by omega, by omega, seq_ix rfl (by rw [hxm]; omega), int_at ea, ?_⟩
        refine ⟨l, _, _, _, rfl, rfl, upd_same, line_lt (by rw [map_erase, List.length_map, List.length_eraseIdx, hxl]; split <;> omega), by omega, by omega, ?_⟩
        refine ⟨_, _, _, (xs.eraseIdx pn).take z ++ [a] ++ (xs.eraseIdx pn).drop z, rfl, ((ins_perm5 _ _ _).trans (pop_perm ea)).trans o3, ?_, (D8.upd nf).upd nf, fun c x e f => ?_⟩
        · rw [upd_same, map_erase, List.map_append, List.map_append, List.map_take, List.map_drop, Int.toNat_natCast]
          rfl
        · have nc : c ≠ l := ne_of_none e nl
          rw [upd_ne nc, upd_ne nc]
          exact kk7 c x e f
      · refine ⟨_, rfl, _, rfl, l, _, _, _, rfl, rfl, SqL.of hl8, at_of (j := z) rfl (int_at eb), _, rfl, _, rfl, l, _, _, _, rfl, rfl, SqL.of hl8, at_of (j := pn) rfl (int_at ea), line_small (by show 2 ≤ 16777216; decide), fun t3 nt3 => ?_⟩
        have hl9 := same_new (o := .tup [.int b, .int a]) nt3 _ _ hl8
        refine ⟨t3, _, rfl, .inl (.inl upd_same), rfl, _, _, rfl, _, rfl, _, rfl, l, _, _, pn, rfl, rfl, hl9, ix_n rfl (by rw [List.length_map]; omega), ?_⟩
        refine ⟨_, _, rfl, _, rfl, _, rfl, l, _, _, z, rfl, rfl, upd_same, ix_n rfl (by rw [List.length_set, List.length_map]; omega), ?_⟩
        refine ⟨rfl, _, _, _, (xs.set pn b).set z a, rfl, (set2_perm ea eb).trans o3, by rw [upd_same, set2_V], ((D8.new nt3).upd nf).upd nf, fun c x e f => ?_⟩
        have nc : c ≠ l := ne_of_none e nl
        rw [upd_ne nc, upd_ne nc]
        exact same_new nt3 _ _ (kk7 c x e f)
    · obtain ⟨y3, y4, y5, xs, rfl, o3, hl3, D3, k3⟩ := hP
      exact ⟨_, rfl, q xs l H3 o3 nl hl3 nf (D3.mono (by omega)) k3⟩
end
end Fo
namespace Fo
open PySem PySem.Spec PyProof.Rows L2
def spMany : Sp := fun vs H Q _ => ∃ (n : Nat), vs = [.int n] ∧ n ≤ 12 ∧ ∀ m : Int, 1 ≤ m → Q (.int m) H
section
variable {P : Program} {w : World} {K : PySem.W.Frag} {mg : Str → Option Value} {base : Heap}
theorem scMany : FnScope ["n", "found", "k"] ["n"] (defScope s_law_many) := ⟨rfl, rfl, rfl, by decide +kernel, rfl, by decide +kernel, by decide +kernel⟩
theorem ok_many {f : Addr} {fd : FuncData} {k : Nat} (T : Df K mg "_law_many" s_law_many ["n"] f fd) (B : Bi mg) : FnOk P w K mg base CX0 (k + 1) f fd ["n"] spMany := by
  refine T.F.ok scMany (fun vs H Q E h => ?_) (fun cdv A outer s H vs Q E hr h => ?_)
  · obtain ⟨n, rfl, _⟩ := h
    rfl
  · obtain ⟨n, rfl, hn, q⟩ := h
    refine ⟨_, 
      (pss_cons (ps_set (i := 1) scMany.nd rfl (.inl rfl) pe_int)
      (pss_cons (ps_for PassesOwn.never rfl (pi_range2 (by rfl) B.range (pa_cons pe_int (pa_cons (pe_op op_add (pv 0) pe_int) pa_nil))) (pg_name (i := 2) scMany.nd rfl (.inl rfl))
        (pss_one (ps_set (i := 1) scMany.nd rfl (.inl rfl) (pe_op op_mul (pv 1) (pv 2)))))
      (pss_one (ps_ret (pv 1))))), ?_⟩
    refine ⟨_, rfl, (n : Int), 1, rfl, rfl, 1, (n : Int) + 1, rfl, ?_⟩
    refine ⟨⟨by decide, by decide, by omega, by omega⟩, ?_⟩
    rw [show ((n : Int) + 1 - 1).toNat = n by omega]
    refine for_range (n := n) (fun i σ G => ∃ (m : Int) (y : Option V), σ = [some (.int n), some (.int m), y] ∧ 1 ≤ m ∧ G = H) ⟨1, _, rfl, by decide, rfl⟩ (fun i σ G hi hP => ?_) (fun σ G hP => ?_)
    · obtain ⟨m, y, rfl, hm, rfl⟩ := hP
      exact ⟨_, rfl, _, rfl, m, _, rfl, rfl, .inr ⟨by omega, by omega⟩, _, _, rfl, Int.le_trans (by omega : (1 : Int) ≤ 1 * 1) (Int.mul_le_mul hm (by omega) (by omega) (by omega)), rfl⟩
    · obtain ⟨m, y, rfl, hm, rfl⟩ := hP
      exact ⟨_, rfl, q m hm⟩
end
end Fo
namespace Fo
open PySem PySem.Spec PyProof.Rows L2
/-- min(a, b, c) of ints -/
def rMin3 : List V → Hp → VK → Prop := fun xs H Q => ∃ i j k : Int, xs = [.int i, .int j, .int k] ∧ ∀ m : Int, m ≤ i → m ≤ j → m ≤ k → (m = i ∨ m = j ∨ m = k) → Q (.int m) H
theorem nu_min2 (i j : Int) : nuMin2 (.int i) (.int j) = some (.int (if j < i then j else i)) := by
  show some (if decide (j < i) = true then V.int j else V.int i) = _
  by_cases c : j < i
  · rw [decide_eq_true c, if_pos rfl, if_pos c]
  · rw [decide_eq_false c, if_neg (by decide), if_neg c]
theorem call_min3I {X : Cx} (calm : X.calm = true) : CallR X (.builtin "min") rMin3 := by
  intro ps s σ H xs us Q I r h
  obtain ⟨i, j, k, rfl, q⟩ := h
  refine call_min3Nu calm ps s σ H _ us Q I r ⟨_, _, _, .int (if k < (if j < i then j else i) then k else (if j < i then j else i)), rfl, ?_, q _ ?_ ?_ ?_ ?_⟩
  · unfold nuMin3
    rw [nu_min2]
    exact nu_min2 _ _
  all_goals split <;> split <;> omega
end Fo
namespace Fo
open PySem PySem.Spec PyProof.Rows L2
/-- a list of orders of n things -/
structure OL (H : Hp) (l : Addr) (as : List Addr) (rs : List (List Int)) (n : Nat) : Prop where
  top : H l = some (.lst (as.map V.ref))
  ll : LL H as rs
  ord : ∀ r ∈ rs, IsOrd n r
  n1 : 1 ≤ n
  n2 : n ≤ 12
theorem OL.same {H H' : Hp} {l : Addr} {as : List Addr} {rs : List (List Int)} {n : Nat} (h : OL H l as rs n) (s : Same H H') : OL H' l as rs n := ⟨s _ _ h.top, h.ll.same s, h.ord, h.n1, h.n2⟩
theorem OL.keepD {H H' : Hp} {l d : Addr} {as : List Addr} {rs : List (List Int)} {n : Nat} (h : OL H l as rs n) (s : KeepD d H H') (nl : l ≠ d) (na : d ∉ as) : OL H' l as rs n :=
  ⟨s _ _ h.top nl, h.ll.keep fun a ha o e => s a o e (fun q => na (by rw [← q]; exact ha)), h.ord, h.n1, h.n2⟩
end Fo
namespace Fo
open PySem PySem.Spec PyProof.Rows L2
/-- a loop over enumerate of a list that stands still -/
theorem for_enumL {K : PySem.W.Frag} {a : Addr} {xs : List V} {g : TG} {tb : TS} {D : Ends} {σ : L2.St} {H : Hp} (Pv : Nat → L2.St → Hp → Prop) (h0 : Pv 0 σ H) (hq : ∀ i σ H, Pv i σ H → SqL K H a xs)
    (hs : ∀ (i : Nat) (x : V) (T : Addr) (σ : L2.St) (H : Hp), xs[i]? = some x → Pv i σ H → H T = none → g (.ref T) σ (upd H T (.tup [.int (i : Nat), x])) fun σ2 H2 => tb { D with nx := Pv (i + 1), ct := Pv (i + 1), bk := D.nx } σ2 H2) (hd : ∀ σ H, Pv xs.length σ H → D.nx σ H) :
    ∃ W : Nat → Nat → L2.St → Hp → Prop, (∃ m, W 0 m σ H) ∧ ∀ i m σ H, W i m σ H →
      ((Ite K a).stop i H ∧ D.nx σ H) ∨ ((Ite K a).go i H ∧ ∃ N : L2.St → Hp → Prop, (∀ σ' H', N σ' H' → ∃ m', m' < m ∧ W (i + 1) m' σ' H') ∧ ∀ v H', (Ite K a).yld i H v H' → g v σ H' fun σ2 H2 => tb { D with nx := N, ct := N, bk := D.nx } σ2 H2) := by
  refine ⟨fun i m σ H => m = xs.length - i ∧ i ≤ xs.length ∧ Pv i σ H, ⟨xs.length, rfl, Nat.zero_le _, h0⟩, ?_⟩
  rintro i m σ H ⟨rfl, hi, p⟩
  have qx := hq i σ H p
  by_cases hlt : i < xs.length
  · have hx : xs[i]? = some xs[i] := List.getElem?_eq_getElem hlt
    refine .inr ⟨⟨xs, _, qx, hx⟩, Pv (i + 1), fun σ' H' p' => ⟨xs.length - (i + 1), by omega, rfl, hlt, p'⟩, fun v H' y => ?_⟩
    obtain ⟨T, x', rfl, hT, rfl, f1⟩ := y
    exact hs i x' T σ H (f1 xs qx) p hT
  · have e : i = xs.length := by omega
    subst e
    exact .inl ⟨⟨xs, qx, Nat.le_refl _⟩, hd σ H p⟩
/-- a comprehension over enumerate of a list that stands still -/
theorem lc_enumL {K : PySem.W.Frag} {a : Addr} {xs : List V} {g : TG} {tt : TT} {te : TE} {vs : List Nat} {σ : L2.St} {H1 : Hp} {D : Addr} {Qd : Hp → Prop} (Pv : Nat → Hp → Prop) (h0 : Pv 0 (upd H1 D (.lst []))) (hl : ∀ i H, i ≤ xs.length → Pv i H → SqL K H a xs)
    (hs : ∀ (i : Nat) (x : V) (T : Addr) (H : Hp), xs[i]? = some x → Pv i H → H T = none → g (.ref T) (wipe σ vs) (upd H T (.tup [.int (i : Nat), x])) fun σ2 H2 => wipe σ2 vs = wipe σ vs ∧ tt σ2 H2 fun b H3 =>
      if b = true then te σ2 H3 fun y H4 => ∃ acc, H4 D = some (.lst acc) ∧ acc.length < sizeLine ∧ Pv (i + 1) (upd H4 D (.lst (acc ++ [y]))) else Pv (i + 1) H3) (hd : ∀ H, Pv xs.length H → Qd H) :
    ∃ W : Nat → Nat → Hp → Prop, (∃ m, W 0 m (upd H1 D (.lst []))) ∧ ∀ i m H, W i m H →
      ((Ite K a).stop i H ∧ Qd H) ∨ ((Ite K a).go i H ∧ ∃ Nx : Hp → Prop, (∀ H', Nx H' → ∃ m', m' < m ∧ W (i + 1) m' H') ∧ ∀ x H', (Ite K a).yld i H x H' → g x (wipe σ vs) H' fun σ2 H2 => wipe σ2 vs = wipe σ vs ∧ tt σ2 H2 fun b H3 =>
        if b = true then te σ2 H3 fun y H4 => ∃ acc, H4 D = some (.lst acc) ∧ acc.length < sizeLine ∧ Nx (upd H4 D (.lst (acc ++ [y]))) else Nx H3) := by
  refine ⟨fun i m H => m = xs.length - i ∧ i ≤ xs.length ∧ Pv i H, ⟨xs.length, by simp, Nat.zero_le _, h0⟩, ?_⟩
  rintro i m H ⟨rfl, hi, p⟩
  have q := hl i H hi p
  by_cases hlt : i < xs.length
  · refine .inr ⟨⟨xs, xs[i], q, by simp [hlt]⟩, Pv (i + 1), fun H' p' => ⟨xs.length - (i + 1), by omega, rfl, hlt, p'⟩, fun x H' y => ?_⟩
    obtain ⟨T, x', rfl, hT, rfl, f1⟩ := y
    exact hs i x' T H (f1 xs q) p hT
  · have e : i = xs.length := by omega
    subst e
    exact .inl ⟨⟨xs, q, Nat.le_refl _⟩, hd H p⟩
/-! ### the back of an order -/
def IsBack (ns ps : List Int) : Prop := ps.length = ns.length ∧ ∀ (j : Nat) (x : Int), ns[j]? = some x → ps[x.toNat]? = some (j : Int)
theorem ord_at {n : Nat} {ns : List Int} (o : IsOrd n ns) {t : Nat} (h : t < n) : ∃ j : Nat, j < n ∧ ns[j]? = some (t : Int) := by
  have m : (t : Int) ∈ ns := (List.Perm.mem_iff o).mpr (rg_mem.mpr ⟨by omega, by omega⟩)
  obtain ⟨j, hj⟩ := List.mem_iff_getElem?.mp m
  exact ⟨j, by have := (List.getElem?_eq_some_iff.mp hj).1; rw [o.len] at this; exact this, hj⟩
theorem ord_ix {n : Nat} {ns : List Int} (o : IsOrd n ns) {j : Nat} (h : j < n) : ∃ x : Int, ns[j]? = some x ∧ 0 ≤ x ∧ x < n := by
  have hj : j < ns.length := by rw [o.len]; exact h
  exact ⟨ns[j], List.getElem?_eq_getElem hj, o.mem (List.getElem_mem hj)⟩
theorem back_eq {n : Nat} {ns a b : List Int} (o : IsOrd n ns) (ha : IsBack ns a) (hb : IsBack ns b) : a = b := by
  apply List.ext_getElem?
  intro t
  by_cases h : t < n
  · obtain ⟨j, _, hj⟩ := ord_at o h
    have h1 := ha.2 j _ hj
    have h2 := hb.2 j _ hj
    rw [Int.toNat_natCast] at h1 h2
    rw [h1, h2]
  · rw [List.getElem?_eq_none (by rw [ha.1, o.len]; omega), List.getElem?_eq_none (by rw [hb.1, o.len]; omega)]
def behindL (ns ms : List Int) : List Int := ms.map fun p => ns.getD p.toNat 0
theorem behind_at {ns ms : List Int} {i : Nat} {p x : Int} (hp : ms[i]? = some p) (hx : ns[p.toNat]? = some x) : (behindL ns ms)[i]? = some x := by
  unfold behindL
  rw [List.getElem?_map, hp]
  show some (ns.getD p.toNat 0) = some x
  rw [List.getD_eq_getElem?_getD, hx]
  rfl
theorem behind_len (ns ms : List Int) : (behindL ns ms).length = ms.length := by
  unfold behindL
  rw [List.length_map]
theorem take_more {l : List Int} {i : Nat} {x : Int} (h : l[i]? = some x) : l.take (i + 1) = l.take i ++ [x] := by
  rw [List.take_add_one, h]
  rfl
theorem flat_ints : ∀ ns : List Int, (ns.map V.int).all flatV = true
  | [] => rfl
  | n :: r => by
    show (flatV (V.int n) && (r.map V.int).all flatV) = true
    rw [flat_ints r]
    rfl
theorem eqV_int (i j : Int) : eqV (.int i) (.int j) = (i == j) := rfl
end Fo
namespace Fo
open PySem PySem.Spec PyProof.Rows L2
def spWhole : Sp := fun vs H Q _ => ∃ i : Int, vs = [.int i] ∧ Q (.bl true) H
section
variable {P : Program} {w : World} {K : PySem.W.Frag} {mg : Str → Option Value} {base : Heap}
theorem scWhole : FnScope ["thing"] ["thing"] (defScope s_is_whole) := ⟨rfl, rfl, rfl, by decide +kernel, rfl, by decide +kernel, by decide +kernel⟩
theorem ok_whole {f : Addr} {fd : FuncData} {k : Nat} (T : Df K mg "is_whole" s_is_whole ["thing"] f fd) (B : Bi mg) : FnOk P w K mg base CX0 (k + 1) f fd ["thing"] spWhole := by
  refine T.F.ok scWhole (fun vs H Q E h => ?_) (fun cdv A outer s H vs Q E hr h => ?_)
  · obtain ⟨i, rfl, _⟩ := h
    rfl
  · obtain ⟨i, rfl, q⟩ := h
    refine ⟨_, pss_one (ps_ret (pe_and (pe_callB call_isi (by rfl) B.isinstance (by decide +kernel) (pa_cons (pv 0) (pa_cons (pe_bltn (v := .ty "int") (by rfl) B.int (by decide +kernel) rfl) pa_nil)))
      (pe_one (pe_not (pe_callB call_isi (by rfl) B.isinstance (by decide +kernel) (pa_cons (pv 0) (pa_cons (pe_bltn (v := .ty "bool") (by rfl) B.bool (by decide +kernel) rfl) pa_nil))))))), ?_⟩
    refine ⟨_, rfl, _, _, _, _, true, rfl, .ty _, .base (.int _), kit_ty (by decide +kernel), true, rfl, iteT ?_⟩
    exact ⟨_, rfl, _, _, _, _, false, rfl, .ty _, .base (.int _), kit_ty (by decide +kernel), false, rfl, q⟩
end
end Fo
namespace Fo
open PySem PySem.Spec PyProof.Rows L2
/-! ### whole numbers, orders -/
def spIsOrd : Sp := fun vs H Q _ => ∃ (a : Addr) (n : Nat) (ns : List Int), vs = [.ref a] ∧ H a = some (.lst (ns.map V.int)) ∧ IsOrd n ns ∧ 1 ≤ n ∧ n ≤ 12 ∧ ∀ H', Same H H' → Q (.bl true) H'
def spCheck : Sp := fun vs H Q _ => ∃ (a : Addr) (n : Nat) (ns : List Int), vs = [.ref a] ∧ H a = some (.lst (ns.map V.int)) ∧ IsOrd n ns ∧ 1 ≤ n ∧ n ≤ 12 ∧ ∀ H', Same H H' → Q .non H'
section
variable {P : Program} {w : World} {K : PySem.W.Frag} {mg : Str → Option Value} {base : Heap}
theorem scIsOrd : FnScope ["thing", "number"] ["thing"] (defScope s_is_order) := ⟨rfl, rfl, rfl, by decide +kernel, rfl, by decide +kernel, by decide +kernel⟩
theorem all_true (n : Nat) : (List.replicate n true).all id = true := by simp
set_option maxHeartbeats 2000000 in
theorem ok_is_order {f fW : Addr} {fd fdW : FuncData} {k : Nat} {t : Tok} (T : Df K mg "is_order" s_is_order ["thing"] f fd) (TW : Df K mg "is_whole" s_is_whole ["thing"] fW fdW) (B : Bi mg) (mM : mg "MOST_THINGS" = some (.int 12 t)) : FnOk P w K mg base CX0 (k + 2) f fd ["thing"] spIsOrd := by
  have GW : FnOk P w K mg base CX0 (k + 1) fW fdW ["thing"] spWhole := ok_whole TW B
  refine T.F.ok scIsOrd (fun vs H Q E h => ?_) (fun cdv A outer s H vs Q E hr h => ?_)
  · obtain ⟨a, n, ns, rfl, _⟩ := h
    rfl
  · obtain ⟨a, n, ns, rfl, hl, ho, hn1, hn2, q⟩ := h
    have hlm : (ns.map V.int).length = n := by rw [List.length_map, ho.len]
    refine ⟨_, pss_cons (ps_if (PW.pt (pw_or (pt_not (pt_val (pe_callB call_isi (by rfl) B.isinstance (by decide +kernel) (pa_cons (pv 0) (pa_cons (pe_bltn (v := .ty "list") (by rfl) B.list (by decide +kernel) rfl) pa_nil)))))
        (pw_or (pt_cmpR op_lt (pe_callB call_len_seq (by rfl) B.len PySem.boot_len (pa_cons (pv 0) pa_nil)) pe_int (nomark _)) (pw_or1 (pt_cmpR op_gt (pe_callB call_len_seq (by rfl) B.len PySem.boot_len (pa_cons (pv 0) pa_nil)) (pe_glob (v := .int 12) (by rfl) mM ⟨_, rfl⟩) (nomark _))))))
        (pss_one (ps_ret pe_bl)) pss_nil)
      (pss_cons (ps_if (pt_not (pt_val (pe_callB (cr_all rfl) (by rfl) B.all (by decide +kernel) (pa_cons (pe_lc (own := [("number", 1)]) (g := gName 1) (tt := tYes) (te := tCall spWhole [] E0 (tCons (tVar 1) tNil)) rfl scIsOrd.nd (pi_list (pv 0)) (blkOk_by (N := ["thing", "number"]) (sc := defScope s_is_order) (by decide +kernel)) (fun _ _ _ _ _ => pg_name (i := 1) scIsOrd.nd rfl (.inl rfl)) (fun _ _ _ _ _ => pts_nil)
          (fun _ _ _ _ _ => pe_call GW hr (by rfl) TW.g TW.F.kp TW.b .nil pass0 (pa_cons (pv 1) pa_nil))) pa_nil)))) (pss_one (ps_ret pe_bl)) pss_nil)
      (pss_one (ps_ret (pe_cmpR (op_eqD hr.units) (pe_callB cr_sorted (by rfl) B.sorted (by decide +kernel) (pa_cons (pv 0) pa_nil)) (pe_listRg rfl (by rfl) B.list (prg_1 (by rfl) B.range (pe_callB call_len_seq (by rfl) B.len PySem.boot_len (pa_cons (pv 0) pa_nil)))) (nomark _))))), ?_⟩
    refine ⟨_, rfl, _, _, _, _, true, rfl, .ty _, .base (.lst hl), kit_ty (by decide +kernel), true, rfl, iteF ?_⟩
    refine ⟨_, rfl, a, _, rfl, .inl (SqL.of hl), _, 1, rfl, rfl, _, rfl, ite2 (fun c => absurd (of_decide_eq_true c) (by rw [hlm]; omega)) (fun _ => ?_)⟩
    refine ⟨_, rfl, a, _, rfl, .inl (SqL.of hl), _, 12, rfl, rfl, _, rfl, ite2 (fun c => absurd (of_decide_eq_true c) (by rw [hlm]; omega)) (fun _ => ?_)⟩
    refine ⟨_, rfl, a, rfl, ⟨_, SqL.of hl⟩, fun p np => ?_⟩
    refine lc_list (K := K) (a := a) (xs := ns.map V.int) (fun i H3 => H3 p = some (.lst ((List.replicate i true).map V.bl)) ∧ Same H H3) ⟨upd_same, same_new np⟩ (fun i H3 _ hP => SqL.of (hP.2 _ _ hl)) (fun i x H3 hx hP => ?_) (fun H3 hP => ?_)
    · obtain ⟨y, ey, rfl⟩ := int_at_inv hx
      obtain ⟨hp3, sm⟩ := hP
      refine ⟨rfl, _, rfl, y, rfl, _, hp3, line_lt (by
        rw [List.length_map, List.length_replicate]
        have := (List.getElem?_eq_some_iff.mp hx).1
        omega), ?_, fun b o e => ?_⟩
      · rw [upd_same, List.replicate_succ', List.map_append]
        rfl
      · rw [upd_ne (ne_of_none e np)]
        exact sm _ _ e
    · obtain ⟨hp3, sm⟩ := hP
      have hl3 := sm _ _ hl
      refine ⟨p, _, rfl, SqL.of hp3, _, rfl, ?_⟩
      rw [all_true]
      refine iteF ?_
      refine ⟨_, rfl, a, ns, rfl, SqL.of hl3, by rw [ho.len]; omega, fun ns' s1 hperm hsrt ns1 => ?_⟩
      have hl4 := same_new (o := .lst (ns'.map V.int)) ns1 _ _ hl3
      refine ⟨_, rfl, a, _, rfl, .inl (SqL.of hl4), _, rfl, RgOk.of_le (by omega) (by rw [hlm]; omega) (by omega) (by omega), fun s2 ns2 => ?_⟩
      have e1 : ns' = rg n := sorted_eq (hperm.trans ho) hsrt (rg_sorted n)
      subst e1
      rw [hlm]
      have h1 : (upd (upd H3 s1 (.lst ((rg n).map V.int))) s2 (.lst (rgV 0 (n : Int)))) s1 = some (.lst ((rg n).map V.int)) := same_new ns2 _ _ upd_same
      have h2 : (upd (upd H3 s1 (.lst ((rg n).map V.int))) s2 (.lst (rgV 0 (n : Int)))) s2 = some (.lst ((rg n).map V.int)) := by rw [upd_same, rg_V]
      refine ⟨_, _, dp_list h1, dp_list h2, shaped_list _, shaped_list _, ?_⟩
      rw [eqv_list]
      exact q _ ((sm.trans (same_new ns1)).trans (same_new ns2))
theorem scCheck : FnScope ["thing"] ["thing"] (defScope s_check_order) := ⟨rfl, rfl, rfl, by decide +kernel, rfl, by decide +kernel, by decide +kernel⟩
theorem ok_check {f fO fW : Addr} {fd fdO fdW : FuncData} {k : Nat} {t : Tok} (T : Df K mg "check_order" s_check_order ["thing"] f fd) (TO : Df K mg "is_order" s_is_order ["thing"] fO fdO) (TW : Df K mg "is_whole" s_is_whole ["thing"] fW fdW) (B : Bi mg) (mM : mg "MOST_THINGS" = some (.int 12 t)) : FnOk P w K mg base CX0 (k + 3) f fd ["thing"] spCheck := by
  have GO : FnOk P w K mg base CX0 (k + 2) fO fdO ["thing"] spIsOrd := ok_is_order TO TW B mM
  refine T.F.ok scCheck (fun vs H Q E h => ?_) (fun cdv A outer s H vs Q E hr h => ?_)
  · obtain ⟨a, n, ns, rfl, _⟩ := h
    rfl
  · obtain ⟨a, n, ns, rfl, hl, ho, hn1, hn2, q⟩ := h
    refine ⟨_, pss_one (ps_if (pt_not (pt_val (pe_call GO hr (by rfl) TO.g TO.F.kp TO.b .nil pass0 (pa_cons (pv 0) pa_nil)))) (pss_one ps_never) pss_nil), ?_⟩
    exact ⟨_, rfl, a, n, ns, rfl, hl, ho, hn1, hn2, fun H' sm => ⟨_, rfl, iteF (q H' sm)⟩⟩
end
end Fo
namespace Fo
open PySem PySem.Spec PyProof.Rows L2
def IsWay (w : Str) : Prop := w = "swap" ∨ w = "spot" ∨ w = "shift"
theorem n1 : ¬ (("spot" : Str) = "swap") := by decide +kernel
theorem n2 : ¬ (("shift" : Str) = "swap") := by decide +kernel
theorem n3 : ¬ (("shift" : Str) = "spot") := by decide +kernel
/-- the ways as the top has written them -/
structure Wy (K : PySem.W.Frag) (mg : Str → Option Value) (aW : Addr) : Prop where
  g : mg "WAYS" = some (.ref aW)
  t : ∀ H : Hp, SqT K H aW [.str "swap", .str "spot", .str "shift"]
theorem wy_mk {K : PySem.W.Frag} {mg : Str → Option Value} {aW : Addr} {dd : Option Addr} {n : Nat} {t1 t2 t3 : Tok} {sl : Array (Option Value)} (g : mg "WAYS" = some (.ref aW)) (l : K.lookup aW = some ⟨.type "tuple", dd, .seq #[.str "swap" t1, .str "spot" t2, .str "shift" t3] n, sl⟩) : Wy K mg aW :=
  ⟨g, fun H => .inr ⟨_, _, _, l, rfl, rfl, line_small (by show 3 ≤ 16777216; decide), .cons ⟨_, rfl⟩ (.cons ⟨_, rfl⟩ (.cons ⟨_, rfl⟩ .nil))⟩⟩
def spWay : Sp := fun vs H Q _ => ∃ (w : Str), vs = [.str w] ∧ IsWay w ∧ Q .non H
section
variable {P : Program} {w : World} {K : PySem.W.Frag} {mg : Str → Option Value} {base : Heap}
theorem scWay : FnScope ["thing"] ["thing"] (defScope s_check_way) := ⟨rfl, rfl, rfl, by decide +kernel, rfl, by decide +kernel, by decide +kernel⟩
theorem ok_way {f aW : Addr} {fd : FuncData} {k : Nat} (T : Df K mg "check_way" s_check_way ["thing"] f fd) (W : Wy K mg aW) (B : Bi mg) : FnOk P w K mg base CX0 (k + 1) f fd ["thing"] spWay := by
  refine T.F.ok scWay (fun vs H Q E h => ?_) (fun cdv A outer s H vs Q E hr h => ?_)
  · obtain ⟨z, rfl, _⟩ := h
    rfl
  · obtain ⟨z, rfl, hz, q⟩ := h
    refine ⟨_, 
      (pss_one (ps_if (PW.pt (pw_or (pt_not (pt_val (pe_callB call_isi (by rfl) B.isinstance (by decide +kernel) (pa_cons (pv 0) (pa_cons (pe_bltn (v := .ty "str") (by rfl) B.str (by decide +kernel) rfl) pa_nil))))) (pw_or1 (pt_cmpR op_notIn_seq (pv 0) (pe_glob (v := .ref aW) (by rfl) W.g rfl) (by rfl)))))
        (pss_one ps_never)
        pss_nil)), ?_⟩
    refine ⟨_, rfl, _, _, _, _, true, rfl, .ty _, .base (.str _), kit_ty (by decide +kernel), true, rfl, iteF ?_⟩
    rcases hz with rfl | rfl | rfl
    · exact ⟨_, rfl, aW, _, rfl, .inr (W.t H), rfl, rfl, _, rfl, ite2 (fun c => absurd c (by decide +kernel)) (fun _ => q)⟩
    · exact ⟨_, rfl, aW, _, rfl, .inr (W.t H), rfl, rfl, _, rfl, ite2 (fun c => absurd c (by decide +kernel)) (fun _ => q)⟩
    · exact ⟨_, rfl, aW, _, rfl, .inr (W.t H), rfl, rfl, _, rfl, ite2 (fun c => absurd c (by decide +kernel)) (fun _ => q)⟩
end
end Fo
namespace Fo
open PySem PySem.Spec PyProof.Rows L2
def spChecks : Sp := fun vs H Q _ => ∃ (a b : Addr) (n m : Nat) (ns ms : List Int), vs = [.ref a, .ref b] ∧ H a = some (.lst (ns.map V.int)) ∧ H b = some (.lst (ms.map V.int)) ∧ IsOrd n ns ∧ 1 ≤ n ∧ n ≤ 12 ∧ IsOrd m ms ∧ 1 ≤ m ∧ m ≤ 12 ∧ ∀ H', Same H H' → Q .non H'
def spFit : Sp := fun vs H Q _ => ∃ (a b : Addr) (ns ms : List Int), vs = [.ref a, .ref b] ∧ H a = some (.lst (ns.map V.int)) ∧ H b = some (.lst (ms.map V.int)) ∧ ns.length = ms.length ∧ Q .non H
def spBehind : Sp := fun vs H Q _ => ∃ (a b : Addr) (n : Nat) (ns ms : List Int), vs = [.ref a, .ref b] ∧ H a = some (.lst (ns.map V.int)) ∧ H b = some (.lst (ms.map V.int)) ∧ IsOrd n ns ∧ IsOrd n ms ∧ 1 ≤ n ∧ n ≤ 12 ∧
  ∀ (l : Addr) (H' : Hp), H l = none → H' l = some (.lst ((behindL ns ms).map V.int)) → Same H H' → Q (.ref l) H'
section
variable {P : Program} {w : World} {K : PySem.W.Frag} {mg : Str → Option Value} {base : Heap}
theorem scChecks : FnScope ["one", "other"] ["one", "other"] (defScope s_check_orders) := ⟨rfl, rfl, rfl, by decide +kernel, rfl, by decide +kernel, by decide +kernel⟩
theorem ok_checks {f fC : Addr} {fd fdC : FuncData} {k : Nat} (T : Df K mg "check_orders" s_check_orders ["one", "other"] f fd) (T_check_order : Df K mg "check_order" s_check_order ["thing"] fC fdC) (G_check_order : FnOk P w K mg base CX0 k fC fdC ["thing"] spCheck) : FnOk P w K mg base CX0 (k + 1) f fd ["one", "other"] spChecks := by
  refine T.F.ok scChecks (fun vs H Q E h => ?_) (fun cdv A outer s H vs Q E hr h => ?_)
  · obtain ⟨a, b, n, m, ns, ms, rfl, _⟩ := h
    rfl
  · obtain ⟨a, b, n, m, ns, ms, rfl, ha, hb, o1, n1, n2, o2, m1, m2, q⟩ := h
    refine ⟨_, 
      (pss_cons (ps_expr (pe_call G_check_order hr (by rfl) T_check_order.g T_check_order.F.kp T_check_order.b .nil pass0 (pa_cons (pv 0) pa_nil)))
      (pss_one (ps_expr (pe_call G_check_order hr (by rfl) T_check_order.g T_check_order.F.kp T_check_order.b .nil pass0 (pa_cons (pv 1) pa_nil))))), ?_⟩
    refine ⟨_, rfl, a, n, ns, rfl, ha, o1, n1, n2, fun H1 s1 => ?_⟩
    exact ⟨_, rfl, b, m, ms, rfl, s1 _ _ hb, o2, m1, m2, fun H2 s2 => q H2 (s1.trans s2)⟩
theorem scFit : FnScope ["one", "other"] ["one", "other"] (defScope s_check_fit) := ⟨rfl, rfl, rfl, by decide +kernel, rfl, by decide +kernel, by decide +kernel⟩
theorem ok_fit {f : Addr} {fd : FuncData} {k : Nat} (T : Df K mg "check_fit" s_check_fit ["one", "other"] f fd) (B : Bi mg) : FnOk P w K mg base CX0 (k + 1) f fd ["one", "other"] spFit := by
  refine T.F.ok scFit (fun vs H Q E h => ?_) (fun cdv A outer s H vs Q E hr h => ?_)
  · obtain ⟨a, b, ns, ms, rfl, _⟩ := h
    rfl
  · obtain ⟨a, b, ns, ms, rfl, ha, hb, e, q⟩ := h
    refine ⟨_, 
      (pss_one (ps_if (pt_cmpR op_ne (pe_callB call_len_seq (by rfl) B.len PySem.boot_len (pa_cons (pv 0) pa_nil)) (pe_callB call_len_seq (by rfl) B.len PySem.boot_len (pa_cons (pv 1) pa_nil)) (nomark _))
        (pss_one ps_never)
        pss_nil)), ?_⟩
    refine ⟨_, rfl, a, _, rfl, .inl (SqL.of ha), _, rfl, b, _, rfl, .inl (SqL.of hb), rfl, _, rfl, ?_⟩
    rw [List.length_map, List.length_map, e]
    exact iteNS rfl q
end
end Fo
namespace Fo
open PySem PySem.Spec PyProof.Rows L2
/-! ### sums -/
def ind (b : Bool) : Nat := if b then 1 else 0
def sumN (l : List Int) (f : Int → Nat) : Nat := (l.map f).sum
theorem sumN_nil (f : Int → Nat) : sumN [] f = 0 := rfl
theorem sumN_cons (a : Int) (l : List Int) (f : Int → Nat) : sumN (a :: l) f = f a + sumN l f := by
  unfold sumN
  rw [List.map_cons, List.sum_cons]
theorem sumN_append (l m : List Int) (f : Int → Nat) : sumN (l ++ m) f = sumN l f + sumN m f := by
  unfold sumN
  rw [List.map_append, List.sum_append]
theorem sumN_perm {l m : List Int} (h : l.Perm m) (f : Int → Nat) : sumN l f = sumN m f := by
  induction h with
  | nil => rfl
  | cons x _ ih => rw [sumN_cons, sumN_cons, ih]
  | swap x y l => rw [sumN_cons, sumN_cons, sumN_cons, sumN_cons]; omega
  | trans _ _ h1 h2 => exact h1.trans h2
theorem sumN_congr {l : List Int} {f g : Int → Nat} (h : ∀ x ∈ l, f x = g x) : sumN l f = sumN l g := by
  unfold sumN
  rw [List.map_congr_left h]
theorem sumN_map (l : List Int) (g : Int → Int) (f : Int → Nat) : sumN (l.map g) f = sumN l (fun x => f (g x)) := by
  unfold sumN
  rw [List.map_map]
  rfl
theorem sumN_zero {l : List Int} {f : Int → Nat} (h : ∀ x ∈ l, f x = 0) : sumN l f = 0 := by
  rw [sumN_congr h]
  induction l with
  | nil => rfl
  | cons a l ih => rw [sumN_cons, ih fun x hx => h x (List.mem_cons_of_mem _ hx)]
theorem sumN_add (l : List Int) (f g : Int → Nat) : sumN l (fun x => f x + g x) = sumN l f + sumN l g := by
  induction l with
  | nil => rfl
  | cons a l ih => rw [sumN_cons, sumN_cons, sumN_cons, ih]; omega
theorem sumN_swap (l m : List Int) (f : Int → Int → Nat) : sumN l (fun i => sumN m (fun j => f i j)) = sumN m (fun j => sumN l (fun i => f i j)) := by
  induction l with
  | nil => exact (sumN_zero fun x _ => rfl).symm
  | cons a l ih =>
    rw [sumN_cons, ih, ← sumN_add]
    exact sumN_congr fun x _ => by rw [sumN_cons]
theorem filter_len (l : List Int) (p : Int → Bool) : (l.filter p).length = sumN l (fun x => ind (p x)) := by
  induction l with
  | nil => rfl
  | cons a l ih =>
    rw [sumN_cons, List.filter_cons]
    unfold ind at ih ⊢
    cases p a
    · simp only [Bool.false_eq_true, if_false]; omega
    · simp only [if_true, List.length_cons]; omega
/-! ### a list by its places -/
def g0 (s : List Int) (i : Int) : Int := s.getD i.toNat 0
theorem g0_at {s : List Int} {i : Nat} {x : Int} (h : s[i]? = some x) : g0 s (i : Int) = x := by
  unfold g0
  rw [Int.toNat_natCast, List.getD_eq_getElem?_getD, h]
  rfl
theorem by_places (s : List Int) : s = (rg s.length).map (g0 s) := by
  apply List.ext_getElem?
  intro i
  unfold rg
  rw [List.getElem?_map, List.getElem?_map]
  by_cases h : i < s.length
  · rw [List.getElem?_range h, List.getElem?_eq_getElem h]
    show some s[i] = some (g0 s (i : Int))
    rw [g0_at (List.getElem?_eq_getElem h)]
  · rw [List.getElem?_eq_none (by omega), List.getElem?_eq_none (by rw [List.length_range]; omega)]
    rfl
theorem rg_succ (n : Nat) : rg (n + 1) = rg n ++ [(n : Int)] := by
  unfold rg
  rw [List.range_succ, List.map_append]
  rfl
/-- how many of the later ones are less -/
def cntL (s : List Int) (i : Nat) : Nat := ((s.drop (i + 1)).filter (fun x => decide (x < g0 s i))).length
def invF (n : Nat) (a : Int → Int) : Nat := sumN (rg n) fun i => sumN (rg n) fun j => ind (decide (i < j) && decide (a j < a i))
def invN (s : List Int) : Nat := sumN (rg s.length) fun i => cntL s i.toNat
theorem drop_sum (n i : Nat) (f : Int → Nat) : sumN ((rg n).drop (i + 1)) f = sumN (rg n) fun j => if (i : Int) < j then f j else 0 := by
  induction n with
  | zero => rfl
  | succ n ih =>
    rw [rg_succ, sumN_append, ← ih, List.drop_append, sumN_append, rg_len]
    congr 1
    by_cases h : i + 1 ≤ n
    · rw [show i + 1 - n = 0 by omega, List.drop_zero, sumN_cons, sumN_cons, sumN_nil, sumN_nil, if_pos (by omega)]
    · rw [show i + 1 - n = (i - n) + 1 by omega, List.drop_succ_cons, List.drop_nil, sumN_cons, sumN_nil, sumN_nil, if_neg (by omega)]
theorem cnt_sum (s : List Int) (i : Nat) : cntL s i = sumN (rg s.length) fun j => ind (decide ((i : Int) < j) && decide (g0 s j < g0 s i)) := by
  unfold cntL
  rw [filter_len]
  have e : s.drop (i + 1) = ((rg s.length).drop (i + 1)).map (g0 s) := by
    rw [List.map_drop, ← by_places]
  rw [e, sumN_map, drop_sum]
  apply sumN_congr
  intro j _
  unfold ind
  by_cases h : (i : Int) < j
  · simp [h]
  · simp [h]
theorem inv_eq (s : List Int) : invN s = invF s.length (g0 s) := by
  unfold invN invF
  apply sumN_congr
  intro i hi
  have := rg_mem.mp hi
  rw [cnt_sum, Int.toNat_of_nonneg this.1]
/-! ### places of things -/
def pos (ys : List Int) (x : Int) : Int := ((ys.idxOf x : Nat) : Int)
def seatsL (xs ys : List Int) : List Int := xs.map (pos ys)
theorem pos_of {n : Nat} {ys : List Int} (o : IsOrd n ys) {j : Nat} {x : Int} (h : ys[j]? = some x) : pos ys x = (j : Int) := by
  obtain ⟨hj, e⟩ := List.getElem?_eq_some_iff.mp h
  have m : x ∈ ys := List.mem_of_getElem? h
  have hi : ys.idxOf x < ys.length := List.idxOf_lt_length_iff.mpr m
  have h2 : ys[ys.idxOf x]? = some x := by
    rw [List.getElem?_eq_getElem hi]
    exact congrArg some (List.getElem_idxOf hi)
  unfold pos
  rw [nd_ix o.nodup h2 h]
theorem pos_at {n : Nat} {ys : List Int} (o : IsOrd n ys) {x : Int} (h0 : 0 ≤ x) (h1 : x < n) : ∃ j : Nat, j < n ∧ ys[j]? = some x ∧ pos ys x = (j : Int) := by
  obtain ⟨j, hj, e⟩ := ord_at o (t := x.toNat) (by omega)
  rw [Int.toNat_of_nonneg h0] at e
  exact ⟨j, hj, e, pos_of o e⟩
theorem back_pos {n : Nat} {ys ps : List Int} (o : IsOrd n ys) (h : IsBack ys ps) {x : Int} (h0 : 0 ≤ x) (h1 : x < n) : ps[x.toNat]? = some (pos ys x) := by
  obtain ⟨j, hj, e, ep⟩ := pos_at o h0 h1
  rw [ep]
  exact h.2 j x e
theorem seats_len (xs ys : List Int) : (seatsL xs ys).length = xs.length := by
  unfold seatsL
  rw [List.length_map]
theorem seats_at {xs ys : List Int} {i : Nat} {x : Int} (h : xs[i]? = some x) : (seatsL xs ys)[i]? = some (pos ys x) := by
  unfold seatsL
  rw [List.getElem?_map, h]
  rfl
theorem seats_self {n : Nat} {ys : List Int} (o : IsOrd n ys) : seatsL ys ys = rg n := by
  apply List.ext_getElem?
  intro i
  by_cases h : i < n
  · obtain ⟨x, hx, _⟩ := ord_ix o h
    rw [seats_at hx, pos_of o hx]
    unfold rg
    rw [List.getElem?_map, List.getElem?_range h]
    rfl
  · rw [List.getElem?_eq_none (by rw [seats_len, o.len]; omega), List.getElem?_eq_none (by rw [rg_len]; omega)]
theorem seats_ord {n : Nat} {xs ys : List Int} (ox : IsOrd n xs) (oy : IsOrd n ys) : IsOrd n (seatsL xs ys) := by
  have h : (seatsL xs ys).Perm (seatsL ys ys) := List.Perm.map _ (ox.trans oy.symm)
  rw [seats_self oy] at h
  exact h
theorem g0_ord {n : Nat} {s : List Int} (o : IsOrd n s) : s = (rg n).map (g0 s) := by
  have e := by_places s
  rw [o.len] at e
  exact e
/-- inversions from the other side -/
theorem inv_turn {n : Nat} {s t : List Int} (os : IsOrd n s) (ot : IsOrd n t) (h : ∀ u ∈ rg n, g0 s (g0 t u) = u) : invN s = invN t := by
  rw [inv_eq, inv_eq, os.len, ot.len]
  unfold invF
  have p1 : ∀ f : Int → Nat, sumN (rg n) f = sumN (rg n) fun u => f (g0 t u) := fun f => by
    have e : sumN ((rg n).map (g0 t)) f = sumN (rg n) fun u => f (g0 t u) := sumN_map _ _ _
    rw [← e, ← g0_ord ot]
    exact (sumN_perm ot f).symm
  rw [p1]
  rw [sumN_congr (g := fun u => sumN (rg n) fun v => ind (decide (g0 t u < g0 t v) && decide (v < u))) (fun u hu => by
    rw [p1]
    exact sumN_congr fun v hv => by rw [h u hu, h v hv])]
  rw [sumN_swap]
  apply sumN_congr
  intro v _
  apply sumN_congr
  intro u _
  rw [Bool.and_comm]
theorem seats_turn {n : Nat} {xs ys : List Int} (ox : IsOrd n xs) (oy : IsOrd n ys) : ∀ u ∈ rg n, g0 (seatsL xs ys) (g0 (seatsL ys xs) u) = u := by
  intro u hu
  have hb := rg_mem.mp hu
  obtain ⟨y, hy, y0, y1⟩ := ord_ix oy (j := u.toNat) (by omega)
  have e1 : g0 (seatsL ys xs) u = pos xs y := by
    have := g0_at (seats_at (ys := xs) hy)
    rw [Int.toNat_of_nonneg hb.1] at this
    exact this
  obtain ⟨j, hj, ej, pj⟩ := pos_at ox y0 y1
  rw [e1, pj, g0_at (seats_at (ys := ys) ej), pos_of oy hy]
  omega
/-! ### how far two orders are -/
def farSwap (xs ys : List Int) : Int := ((invN (seatsL xs ys) : Nat) : Int)
def spotL (xs ys : List Int) : List Int := (rg xs.length).filter fun p => !decide (g0 xs p = g0 ys p)
def farSpot (xs ys : List Int) : Int := (((spotL xs ys).length : Nat) : Int)
def absI (i : Int) : Int := if i < 0 then -i else i
def gapsL (xs ys : List Int) : List Int := (rg xs.length).map fun p => absI (p - g0 (seatsL xs ys) p)
def maxL (l : List Int) : Int := l.foldr max 0
def farShift (xs ys : List Int) : Int := maxL (gapsL xs ys)
theorem maxL_of : ∀ {l : List Int} {m : Int}, (∀ x ∈ l, 0 ≤ x) → m ∈ l → (∀ x ∈ l, x ≤ m) → maxL l = m := by
  intro l m h0 hm hle
  have key : ∀ l : List Int, (∀ x ∈ l, x ≤ m) → maxL l ≤ m := by
    intro l hl
    induction l with
    | nil => exact h0 m hm
    | cons a l ih =>
      show max a (maxL l) ≤ m
      have h1 := hl a List.mem_cons_self
      have h2 := ih fun x hx => hl x (List.mem_cons_of_mem _ hx)
      omega
  have key2 : ∀ l : List Int, ∀ x ∈ l, x ≤ maxL l := by
    intro l
    induction l with
    | nil => intro x hx; exact absurd hx List.not_mem_nil
    | cons a l ih =>
      intro x hx
      show x ≤ max a (maxL l)
      rcases List.mem_cons.mp hx with rfl | hx
      · omega
      · have := ih x hx
        omega
  have := key l hle
  have := key2 l m hm
  omega
theorem gaps_nonneg (xs ys : List Int) : ∀ x ∈ gapsL xs ys, 0 ≤ x := by
  intro x hx
  obtain ⟨p, _, rfl⟩ := List.mem_map.mp hx
  unfold absI
  split <;> omega
theorem maxL_mem {l : List Int} (h0 : ∀ x ∈ l, 0 ≤ x) (hl : 0 < l.length) : maxL l ∈ l ∧ ∀ x ∈ l, x ≤ maxL l := by
  induction l with
  | nil => exact absurd hl (Nat.lt_irrefl _)
  | cons a l ih =>
    show max a (maxL l) ∈ a :: l ∧ ∀ x ∈ a :: l, x ≤ max a (maxL l)
    by_cases c : 0 < l.length
    · obtain ⟨h1, h2⟩ := ih (fun x hx => h0 x (List.mem_cons_of_mem _ hx)) c
      constructor
      · by_cases d : maxL l ≤ a
        · rw [Int.max_eq_left d]
          exact List.mem_cons_self
        · rw [Int.max_eq_right (by omega)]
          exact List.mem_cons_of_mem _ h1
      · intro x hx
        rcases List.mem_cons.mp hx with rfl | hx
        · omega
        · have := h2 x hx
          omega
    · have e : l = [] := List.eq_nil_of_length_eq_zero (by omega)
      subst e
      have := h0 a List.mem_cons_self
      have e2 : max a (maxL []) = a := by show max a 0 = a; omega
      rw [e2]
      exact ⟨List.mem_cons_self, fun x hx => by rw [List.mem_singleton.mp hx]; exact Int.le_refl _⟩
theorem farSwap_turn {n : Nat} {xs ys : List Int} (ox : IsOrd n xs) (oy : IsOrd n ys) : farSwap ys xs = farSwap xs ys := by
  unfold farSwap
  rw [inv_turn (seats_ord ox oy) (seats_ord oy ox) (seats_turn ox oy)]
theorem inv_rg (n : Nat) : invN (rg n) = 0 := by
  rw [inv_eq]
  unfold invF
  apply sumN_zero
  intro i hi
  apply sumN_zero
  intro j hj
  rw [rg_len] at hi hj
  have hi2 := rg_mem.mp hi
  have hj2 := rg_mem.mp hj
  have e : ∀ k : Int, k ∈ rg n → g0 (rg n) k = k := fun k hk => by
    have := rg_mem.mp hk
    have z : (rg n)[k.toNat]? = some k := by
      unfold rg
      rw [List.getElem?_map, List.getElem?_range (by omega)]
      show some ((k.toNat : Nat) : Int) = some k
      rw [Int.toNat_of_nonneg this.1]
    have z2 := g0_at z
    rw [Int.toNat_of_nonneg this.1] at z2
    exact z2
  rw [e i hi, e j hj]
  unfold ind
  by_cases c : i < j
  · have d : ¬ j < i := by omega
    simp [c, d]
  · simp [c]
theorem farSwap_self {n : Nat} {xs : List Int} (ox : IsOrd n xs) : farSwap xs xs = 0 := by
  unfold farSwap
  rw [seats_self ox, inv_rg]
  rfl
theorem farSpot_turn {xs ys : List Int} (h : xs.length = ys.length) : farSpot ys xs = farSpot xs ys := by
  unfold farSpot spotL
  rw [h]
  congr 3
  funext p
  congr 1
  by_cases c : g0 ys p = g0 xs p
  · rw [decide_eq_true c, decide_eq_true c.symm]
  · rw [decide_eq_false c, decide_eq_false fun e => c e.symm]
theorem farSpot_self (xs : List Int) : farSpot xs xs = 0 := by
  unfold farSpot spotL
  have e : ((rg xs.length).filter fun p => !decide (g0 xs p = g0 xs p)) = [] := by
    rw [List.filter_eq_nil_iff]
    intro a _
    simp
  rw [e]
  rfl
theorem gaps_len (xs ys : List Int) : (gapsL xs ys).length = xs.length := by
  unfold gapsL
  rw [List.length_map, rg_len]
theorem gaps_sub {n : Nat} {xs ys : List Int} (ox : IsOrd n xs) (oy : IsOrd n ys) : ∀ g ∈ gapsL ys xs, g ∈ gapsL xs ys := by
  intro g hg
  obtain ⟨u, hu, rfl⟩ := List.mem_map.mp hg
  rw [oy.len] at hu
  have hb := (seats_ord oy ox).mem (x := g0 (seatsL ys xs) u) (by
    have e := g0_ord (seats_ord oy ox)
    rw [e]
    exact List.mem_map.mpr ⟨u, hu, by rw [← e]⟩)
  refine List.mem_map.mpr ⟨g0 (seatsL ys xs) u, by rw [ox.len]; exact rg_mem.mpr hb, ?_⟩
  rw [seats_turn ox oy u hu]
  unfold absI
  split <;> split <;> omega
theorem farShift_turn {n : Nat} {xs ys : List Int} (ox : IsOrd n xs) (oy : IsOrd n ys) (hn : 1 ≤ n) : farShift ys xs = farShift xs ys := by
  unfold farShift
  obtain ⟨h1, h2⟩ := maxL_mem (gaps_nonneg xs ys) (by rw [gaps_len, ox.len]; exact hn)
  exact maxL_of (gaps_nonneg ys xs) (gaps_sub oy ox _ h1) fun x hx => h2 x (gaps_sub ox oy x hx)
theorem farShift_self {n : Nat} {xs : List Int} (ox : IsOrd n xs) (hn : 1 ≤ n) : farShift xs xs = 0 := by
  unfold farShift
  have z : ∀ g ∈ gapsL xs xs, g = 0 := by
    intro g hg
    obtain ⟨u, hu, rfl⟩ := List.mem_map.mp hg
    rw [ox.len] at hu
    have hb := rg_mem.mp hu
    rw [seats_self ox]
    have e : (rg n)[u.toNat]? = some u := by
      unfold rg
      rw [List.getElem?_map, List.getElem?_range (by omega)]
      show some ((u.toNat : Nat) : Int) = some u
      rw [Int.toNat_of_nonneg hb.1]
    have z2 := g0_at e
    rw [Int.toNat_of_nonneg hb.1] at z2
    rw [z2]
    unfold absI
    split <;> omega
  obtain ⟨h1, _⟩ := maxL_mem (gaps_nonneg xs xs) (by rw [gaps_len, ox.len]; exact hn)
  exact z _ h1
end Fo
namespace Fo
open PySem PySem.Spec PyProof.Rows L2
def farW (w : Str) (xs ys : List Int) : Int := if w = "swap" then farSwap xs ys else if w = "spot" then farSpot xs ys else farShift xs ys
theorem farW_swap (xs ys : List Int) : farW "swap" xs ys = farSwap xs ys := if_pos rfl
theorem farW_spot (xs ys : List Int) : farW "spot" xs ys = farSpot xs ys := by
  unfold farW
  rw [if_neg n1, if_pos rfl]
theorem farW_shift (xs ys : List Int) : farW "shift" xs ys = farShift xs ys := by
  unfold farW
  rw [if_neg n2, if_neg n3]
theorem farW_turn {w : Str} {n : Nat} {xs ys : List Int} (ox : IsOrd n xs) (oy : IsOrd n ys) (hn : 1 ≤ n) : farW w ys xs = farW w xs ys := by
  unfold farW
  rw [farSwap_turn ox oy, farSpot_turn (by rw [ox.len, oy.len]), farShift_turn ox oy hn]
theorem farW_self {w : Str} {n : Nat} {xs : List Int} (ox : IsOrd n xs) (hn : 1 ≤ n) : farW w xs xs = 0 := by
  unfold farW
  rw [farSwap_self ox, farSpot_self, farShift_self ox hn]
  split
  · rfl
  · split <;> rfl
abbrev rAbs : List V → Hp → VK → Prop := fun xs H Q => ∃ i, xs = [.int i] ∧ Q (.int (if i < 0 then -i else i)) H
def spFar : Sp := fun vs H Q _ => ∃ (w : Str) (a b : Addr) (n : Nat) (xs ys : List Int), vs = [.str w, .ref a, .ref b] ∧ IsWay w ∧ H a = some (.lst (xs.map V.int)) ∧ H b = some (.lst (ys.map V.int)) ∧ IsOrd n xs ∧ IsOrd n ys ∧ 1 ≤ n ∧ n ≤ 12 ∧ ∀ (H' : Hp), Same H H' → Q (.int (farW w xs ys)) H'
end Fo
namespace Fo
open PySem PySem.Spec PyProof.Rows L2
def two (vs : List V) (H : Hp) (a b : Addr) (n : Nat) (xs ys : List Int) : Prop := vs = [.ref a, .ref b] ∧ H a = some (.lst (xs.map V.int)) ∧ H b = some (.lst (ys.map V.int)) ∧ IsOrd n xs ∧ IsOrd n ys ∧ 1 ≤ n ∧ n ≤ 12
end Fo
namespace Fo
open PySem PySem.Spec PyProof.Rows L2
def spPlaces : Sp := fun vs H Q _ => ∃ (a : Addr) (n : Nat) (ns : List Int), vs = [.ref a] ∧ H a = some (.lst (ns.map V.int)) ∧ IsOrd n ns ∧ 1 ≤ n ∧ n ≤ 12 ∧
  ∀ (ps : List Int) (l : Addr) (H' : Hp), IsBack ns ps → H l = none → H' l = some (.lst (ps.map V.int)) → Same H H' → Q (.ref l) H'
section
variable {P : Program} {w : World} {K : PySem.W.Frag} {mg : Str → Option Value} {base : Heap}
theorem scPlaces : FnScope ["order", "places", "place", "thing"] ["order"] (defScope s_places_in) := ⟨rfl, rfl, rfl, by decide +kernel, rfl, by decide +kernel, by decide +kernel⟩
set_option maxHeartbeats 2000000 in
theorem ok_places {f : Addr} {fd : FuncData} {k : Nat} (T : Df K mg "places_in" s_places_in ["order"] f fd) (B : Bi mg) : FnOk P w K mg base CX0 (k + 1) f fd ["order"] spPlaces := by
  refine T.F.ok scPlaces (fun vs H Q E h => ?_) (fun cdv A outer s H vs Q E hr h => ?_)
  · obtain ⟨a, n, ns, rfl, _⟩ := h
    rfl
  · obtain ⟨a, n, ns, rfl, ha, ho, hn1, hn2, q⟩ := h
    have hlm : (ns.map V.int).length = n := by rw [List.length_map, ho.len]
    have hz : ∀ m : Nat, (List.replicate m [V.int 0]).flatten = (List.replicate m (0 : Int)).map V.int := by
      intro m
      induction m with
      | zero => rfl
      | succ m ih => rw [List.replicate_succ, List.replicate_succ, List.flatten_cons, ih]; rfl
    refine ⟨_, 
      (pss_cons (ps_set (i := 1) scPlaces.nd rfl (.inl rfl) (pe_op op_rep (pe_lst (pa_cons pe_int pa_nil)) (pe_callB call_len_seq (by rfl) B.len PySem.boot_len (pa_cons (pv 0) pa_nil))))
      (pss_cons (ps_for PassesOwn.never rfl (pi_enum (by rfl) B.enumerate (pa_cons (pv 0) pa_nil)) (pg_tup (by rfl) (pgs_cons (pg_name (i := 2) scPlaces.nd rfl (.inl rfl)) (pgs_cons (pg_name (i := 3) scPlaces.nd rfl (.inl rfl)) pgs_nil)))
        (pss_one (ps_asg (pv 2) (pg_sub (pv 1) (pv 3) set_list))))
      (pss_one (ps_ret (pv 1))))), ?_⟩
    refine ⟨line_small (by show 1 ≤ 16777216; decide), fun z nz => ?_⟩
    have s1 := same_new (o := .lst [.int 0]) nz
    refine ⟨_, rfl, a, _, rfl, .inl (SqL.of (s1 _ _ ha)), z, _, _, rfl, rfl, upd_same, by omega, by rw [hlm]; omega, line_small (by rw [hlm, Int.toNat_natCast]; show 1 * n ≤ _; omega), fun l nl => ?_⟩
    have s2 := s1.trans (same_new (o := .lst (List.replicate (((ns.map V.int).length : Nat) : Int).toNat [V.int 0]).flatten) nl)
    have nHl : H l = none := s1.free nl
    refine ⟨_, rfl, a, _, rfl, SqL.of (s2 _ _ ha), ?_⟩
    refine for_enumL (xs := ns.map V.int) (fun i σ H3 => ∃ (y2 y3 : Option V) (ps : List Int), σ = [some (.ref a), some (.ref l), y2, y3] ∧ H3 l = some (.lst (ps.map V.int)) ∧ ps.length = n ∧ (∀ (j : Nat) (x : Int), j < i → ns[j]? = some x → ps[x.toNat]? = some (j : Int)) ∧ Same H H3)
      ⟨none, none, List.replicate n 0, rfl, by rw [upd_same, hz, hlm, Int.toNat_natCast], by rw [List.length_replicate], fun j x hj => absurd hj (Nat.not_lt_zero _), s2⟩ (fun i σ H3 hP => by obtain ⟨_, _, _, _, _, _, _, sm⟩ := hP; exact SqL.of (sm _ _ ha)) (fun i x t σ H3 hx hP nt => ?_) (fun σ H3 hP => ?_)
    · obtain ⟨y2, y3, ps, rfl, hl3, el, hat, sm⟩ := hP
      obtain ⟨y, ey, rfl⟩ := int_at_inv hx
      have hy := ho.mem (List.mem_of_getElem? ey)
      have s3 := same_new (o := .tup [.int (i : Nat), .int y]) nt
      have hl4 := s3 _ _ hl3
      refine ⟨t, _, rfl, .inl (.inl upd_same), rfl, _, _, rfl, _, _, rfl, rfl, ?_⟩
      refine ⟨_, rfl, _, rfl, _, rfl, l, _, _, y.toNat, rfl, rfl, hl4, ix_n (by omega) (by rw [List.length_map]; omega), ?_⟩
      refine ⟨_, _, ps.set y.toNat (i : Int), rfl, by rw [upd_same, List.map_set], by rw [List.length_set]; exact el, fun j x hj hx2 => ?_, fun c o e => ?_⟩
      · by_cases c : j = i
        · subst c
          have e1 : x = y := Option.some.inj (hx2.symm.trans ey)
          subst e1
          rw [List.getElem?_set_self (by omega)]
        · have hx3 := ho.mem (List.mem_of_getElem? hx2)
          have ne : y.toNat ≠ x.toNat := fun e => c (nd_ix ho.nodup hx2 (by rw [ey]; congr 1; omega))
          rw [List.getElem?_set_ne ne]
          exact hat j x (by omega) hx2
      · rw [upd_ne (ne_of_none e nHl)]
        exact s3 _ _ (sm _ _ e)
    · obtain ⟨y2, y3, ps, rfl, hl3, el, hat, sm⟩ := hP
      rw [hlm] at hat
      refine ⟨_, rfl, q ps l H3 ⟨by rw [el, ho.len], fun j x hx => hat j x ?_ hx⟩ nHl hl3 sm⟩
      have := (List.getElem?_eq_some_iff.mp hx).1
      rw [ho.len] at this
      exact this
end
end Fo
namespace Fo
open PySem PySem.Spec PyProof.Rows L2
theorem g0_getD {s : List Int} {i : Nat} {x : Int} (h : s[i]? = some x) : g0 s i = x := g0_at h
def spSeats : Sp := fun vs H Q _ => ∃ (a b : Addr) (n : Nat) (xs ys : List Int), two vs H a b n xs ys ∧ ∀ (l : Addr) (H' : Hp), H l = none → H' l = some (.lst ((seatsL xs ys).map V.int)) → Same H H' → Q (.ref l) H'
section
variable {P : Program} {w : World} {K : PySem.W.Frag} {mg : Str → Option Value} {base : Heap}
theorem scSeats : FnScope ["one", "other", "places", "thing"] ["one", "other"] (defScope s_seats_in) := ⟨rfl, rfl, rfl, by decide +kernel, rfl, by decide +kernel, by decide +kernel⟩
set_option maxHeartbeats 2000000 in
theorem ok_seats {f fP : Addr} {fd fdP : FuncData} {k : Nat} (T : Df K mg "seats_in" s_seats_in ["one", "other"] f fd) (T_places_in : Df K mg "places_in" s_places_in ["order"] fP fdP) (B : Bi mg) : FnOk P w K mg base CX0 (k + 2) f fd ["one", "other"] spSeats := by
  have G_places_in : FnOk P w K mg base CX0 (k + 1) fP fdP ["order"] spPlaces := ok_places T_places_in B
  refine T.F.ok scSeats (fun vs H Q E h => ?_) (fun cdv A outer s H vs Q E hr h => ?_)
  · obtain ⟨a, b, n, xs, ys, ⟨rfl, _⟩, _⟩ := h
    rfl
  · obtain ⟨a, b, n, xs, ys, ⟨rfl, ha, hb, ox, oy, hn1, hn2⟩, q⟩ := h
    refine ⟨_, 
      (pss_cons (ps_set (i := 2) scSeats.nd rfl (.inr rfl) (pe_call G_places_in hr (by rfl) T_places_in.g T_places_in.F.kp T_places_in.b .nil pass0 (pa_cons (pv 1) pa_nil)))
      (pss_one (ps_ret (pe_lc (own := [("thing", 3)]) (g := (gName 3)) (tt := tYes) (te := (tOp (rIxL K) (tVar 2) (tVar 3))) rfl scSeats.nd (pi_list (pv 0)) (blkOk_by (N := ["one", "other", "places", "thing"]) (sc := defScope s_seats_in) (by decide +kernel)) (fun _ _ _ _ _ => (pg_name (i := 3) scSeats.nd rfl (.inl rfl))) (fun _ _ _ _ _ => pts_nil) (fun _ _ _ _ _ => (pe_ix ix_list (pv 2) (pv 3) (fun _ _ => rfl))))))), ?_⟩
    refine ⟨_, rfl, b, n, ys, rfl, hb, oy, hn1, hn2, fun ps l H1 hps nl hl s1 => ?_⟩
    refine ⟨_, rfl, a, rfl, ⟨_, SqL.of (s1 _ _ ha)⟩, fun D nD => ?_⟩
    have nHD : H D = none := s1.free nD
    refine lc_list (K := K) (a := a) (xs := xs.map V.int) (fun i H3 => H3 D = some (.lst (((seatsL xs ys).take i).map V.int)) ∧ H3 l = some (.lst (ps.map V.int)) ∧ Same H H3) ⟨upd_same, same_new nD _ _ hl, s1.trans (same_new nD)⟩ (fun i H3 _ hP => SqL.of (hP.2.2 _ _ ha)) (fun i x H3 hx hP => ?_) (fun H3 hP => ?_)
    · obtain ⟨y, ey, rfl⟩ := int_at_inv hx
      obtain ⟨hD3, hl3, sm⟩ := hP
      have hy := ox.mem (List.mem_of_getElem? ey)
      have hi := (List.getElem?_eq_some_iff.mp ey).1
      rw [ox.len] at hi
      refine ⟨rfl, _, rfl, _, rfl, l, _, _, _, rfl, rfl, SqL.of hl3, at_of (j := y.toNat) (by omega) (int_at (back_pos oy hps hy.1 hy.2)), _, hD3, line_lt (by rw [List.length_map, List.length_take]; omega), ?_, ?_, fun c o e => ?_⟩
      · rw [upd_same, take_more (seats_at ey), List.map_append]
        rfl
      · rw [upd_ne (ne_of_none hl nD)]
        exact hl3
      · rw [upd_ne (ne_of_none e nHD)]
        exact sm _ _ e
    · obtain ⟨hD3, hl3, sm⟩ := hP
      rw [List.take_of_length_le (by rw [seats_len, List.length_map]; exact Nat.le_refl _)] at hD3
      exact q D H3 nHD hD3 sm
end
end Fo
namespace Fo
open PySem PySem.Spec PyProof.Rows L2
def spSwap : Sp := fun vs H Q _ => ∃ (a b : Addr) (n : Nat) (xs ys : List Int), two vs H a b n xs ys ∧ ∀ (H' : Hp), Same H H' → Q (.int (farSwap xs ys)) H'
def spSpot : Sp := fun vs H Q _ => ∃ (a b : Addr) (n : Nat) (xs ys : List Int), two vs H a b n xs ys ∧ ∀ (H' : Hp), Same H H' → Q (.int (farSpot xs ys)) H'
def spShift : Sp := fun vs H Q _ => ∃ (a b : Addr) (n : Nat) (xs ys : List Int), two vs H a b n xs ys ∧ ∀ (H' : Hp), Same H H' → Q (.int (farShift xs ys)) H'
section
variable {P : Program} {w : World} {K : PySem.W.Frag} {mg : Str → Option Value} {base : Heap}
theorem scSwap : FnScope ["one", "other", "seats", "turned", "place", "seat", "later"] ["one", "other"] (defScope s_far_by_swap) := ⟨rfl, rfl, rfl, by decide +kernel, rfl, by decide +kernel, by decide +kernel⟩
set_option maxHeartbeats 2000000 in
theorem ok_swap {f fP : Addr} {fd fdP : FuncData} {k : Nat} (T : Df K mg "far_by_swap" s_far_by_swap ["one", "other"] f fd) (T_seats_in : Df K mg "seats_in" s_seats_in ["one", "other"] fP fdP) (G_seats_in : FnOk P w K mg base CX0 k fP fdP ["one", "other"] spSeats) (B : Bi mg) : FnOk P w K mg base CX0 (k + 1) f fd ["one", "other"] spSwap := by
  refine T.F.ok scSwap (fun vs H Q E h => ?_) (fun cdv A outer s H vs Q E hr h => ?_)
  · obtain ⟨a, b, n, xs, ys, ⟨rfl, _⟩, _⟩ := h
    rfl
  · obtain ⟨a, b, n, xs, ys, ⟨rfl, ha, hb, ox, oy, hn1, hn2⟩, q⟩ := h
    refine ⟨_, 
      (pss_cons (ps_set (i := 2) scSwap.nd rfl (.inl rfl) (pe_call G_seats_in hr (by rfl) T_seats_in.g T_seats_in.F.kp T_seats_in.b .nil pass0 (pa_cons (pv 0) (pa_cons (pv 1) pa_nil))))
      (pss_cons (ps_set (i := 3) scSwap.nd rfl (.inl rfl) pe_int)
      (pss_cons (ps_for PassesOwn.never rfl (pi_enum (by rfl) B.enumerate (pa_cons (pv 2) pa_nil)) (pg_tup (by rfl) (pgs_cons (pg_name (i := 4) scSwap.nd rfl (.inl rfl)) (pgs_cons (pg_name (i := 5) scSwap.nd rfl (.inr rfl)) pgs_nil)))
        (pss_one (ps_aug (i := 3) scSwap.nd rfl (.inl rfl) (pe_callB call_len_seq (by rfl) B.len PySem.boot_len (pa_cons (pe_lc (own := [("later", 6)]) (g := (gName 6)) (tt := (tTest (tOp (rI0 fun i j => .bl (decide (i < j))) (tVar 6) (tVar 5)))) (te := (tVar 6)) rfl scSwap.nd (pi_list (pe_slice sl_list (pv 2) (po_some (pe_op op_add (pv 4) pe_int)) po_none)) (blkOk_by (N := ["one", "other", "seats", "turned", "place", "seat", "later"]) (sc := defScope s_far_by_swap) (by decide +kernel)) (fun _ _ _ _ _ => (pg_name (i := 6) scSwap.nd rfl (.inl rfl))) (fun _ _ _ _ _ => (pts_one (pt_cmpR op_lt (pv 6) (pv 5) (nomark _)))) (fun _ _ _ _ _ => (pv 6))) pa_nil)) ip_add)))
      (pss_one (ps_ret (pv 3)))))), ?_⟩
    refine ⟨_, rfl, _, rfl, a, b, n, xs, ys, ⟨rfl, ha, hb, ox, oy, hn1, hn2⟩, fun l H1 nl hl s1 => ?_⟩
    have os := seats_ord ox oy
    refine ⟨_, rfl, l, _, rfl, SqL.of hl, ?_⟩
    refine for_enumL (xs := (seatsL xs ys).map V.int) (fun i σ H3 => ∃ (y4 y5 y6 : Option V), σ = [some (.ref a), some (.ref b), some (.ref l), some (.int ((sumN (rg i) (fun p => cntL (seatsL xs ys) p.toNat) : Nat) : Int)), y4, y5, y6] ∧ H3 l = some (.lst ((seatsL xs ys).map V.int)) ∧ Same H H3)
      ⟨none, none, none, rfl, hl, s1⟩ (fun i σ H3 hP => by obtain ⟨_, _, _, _, hl3, _⟩ := hP; exact SqL.of hl3) (fun i x t σ H3 hx hP nt => ?_) (fun σ H3 hP => ?_)
    · obtain ⟨y4, y5, y6, rfl, hl3, sm⟩ := hP
      obtain ⟨y, ey, rfl⟩ := int_at_inv hx
      have hi := (List.getElem?_eq_some_iff.mp ey).1
      rw [os.len] at hi
      have s3 := same_new (o := .tup [.int (i : Nat), .int y]) nt
      refine ⟨t, _, rfl, .inl (.inl upd_same), rfl, _, _, rfl, _, _, rfl, rfl, ?_⟩
      refine ⟨_, rfl, _, rfl, _, rfl, (i : Int), 1, rfl, rfl, _, rfl, l, _, rfl, SqL.of (s3 _ _ hl3), fun c nc => ?_⟩
      have s4 := s3.trans (same_new (o := .lst (cutV ((seatsL xs ys).map V.int) (some ((i : Int) + 1)) none)) nc)
      have ecut : cutV ((seatsL xs ys).map V.int) (some ((i : Int) + 1)) none = (((seatsL xs ys).drop (i + 1)).map V.int) := by
        rw [cut_ints, show (i : Int) + 1 = ((i + 1 : Nat) : Int) by omega, cutI_tail]
      have hc4 : (upd (upd H3 t (.tup [.int (i : Nat), .int y])) c (.lst (cutV ((seatsL xs ys).map V.int) (some ((i : Int) + 1)) none))) c = some (.lst (((seatsL xs ys).drop (i + 1)).map V.int)) := by rw [upd_same, ecut]
      refine ⟨c, rfl, ⟨_, SqL.of hc4⟩, fun D nD => ?_⟩
      have ncD : c ≠ D := ne_of_none hc4 nD
      refine lc_list (K := K) (a := c) (xs := ((seatsL xs ys).drop (i + 1)).map V.int) (fun m H5 => H5 D = some (.lst (((((seatsL xs ys).drop (i + 1)).take m).filter (fun z => decide (z < g0 (seatsL xs ys) i))).map V.int)) ∧ H5 c = some (.lst (((seatsL xs ys).drop (i + 1)).map V.int)) ∧ Same H3 H5)
        ⟨upd_same, by rw [upd_ne ncD]; exact hc4, s4.trans (same_new nD)⟩ (fun m H5 _ hP => SqL.of hP.2.1) (fun m x H5 hx hP => ?_) (fun H5 hP => ?_)
      · obtain ⟨hD5, hc5, s5⟩ := hP
        obtain ⟨z, ez, rfl⟩ := int_at_inv hx
        have eg : g0 (seatsL xs ys) i = y := g0_at ey
        refine ⟨rfl, _, rfl, _, rfl, z, y, rfl, rfl, _, rfl, ite2 (fun c => ?_) (fun c => ?_)⟩
        · have hz : z < y := of_decide_eq_true c
          refine ⟨_, rfl, _, hD5, line_lt ?_, ?_, by rw [upd_ne ncD]; exact hc5, fun u o e => ?_⟩
          · rw [List.length_map]
            refine Nat.lt_of_le_of_lt (List.length_filter_le _ _) ?_
            rw [List.length_take, List.length_drop, os.len]
            omega
          · rw [upd_same, filter_more _ ez, eg, decide_eq_true hz, if_pos rfl, List.map_append]
            rfl
          · rw [upd_ne (ne_of_none (s4 _ _ e) nD)]
            exact s5 _ _ e
        · refine ⟨?_, hc5, s5⟩
          rw [filter_more _ ez, eg, decide_eq_false (fun hz => c (decide_eq_true hz)), if_neg (by decide), List.append_nil]
          rw [eg] at hD5
          exact hD5
      · obtain ⟨hD5, hc5, s5⟩ := hP
        rw [List.length_map, List.take_length] at hD5
        refine ⟨D, _, rfl, .inl (SqL.of hD5), _, _, rfl, rfl, ?_⟩
        refine ⟨some (.int (i : Int)), some (.int y), y6, ?_, s5 _ _ hl3, sm.trans s5⟩
        rw [rg_succ, sumN_append, sumN_cons, sumN_nil, List.length_map]
        show [some (.ref a), some (.ref b), some (.ref l), some (V.int (((sumN (rg i) (fun p => cntL (seatsL xs ys) p.toNat) : Nat) : Int) + ((cntL (seatsL xs ys) i : Nat) : Int))), some (.int (i : Int)), some (.int y), y6] = _
        rw [Int.toNat_natCast, Int.natCast_add, Nat.add_zero]
    · obtain ⟨y4, y5, y6, rfl, hl3, sm⟩ := hP
      refine ⟨_, rfl, ?_⟩
      have z := q H3 sm
      unfold farSwap invN at z
      rw [List.length_map]
      exact z
theorem scSpot : FnScope ["one", "other", "place"] ["one", "other"] (defScope s_far_by_spot) := ⟨rfl, rfl, rfl, by decide +kernel, rfl, by decide +kernel, by decide +kernel⟩
set_option maxHeartbeats 2000000 in
theorem ok_spot {f : Addr} {fd : FuncData} {k : Nat} (T : Df K mg "far_by_spot" s_far_by_spot ["one", "other"] f fd) (B : Bi mg) : FnOk P w K mg base CX0 (k + 1) f fd ["one", "other"] spSpot := by
  refine T.F.ok scSpot (fun vs H Q E h => ?_) (fun cdv A outer s H vs Q E hr h => ?_)
  · obtain ⟨a, b, n, xs, ys, ⟨rfl, _⟩, _⟩ := h
    rfl
  · obtain ⟨a, b, n, xs, ys, ⟨rfl, ha, hb, ox, oy, hn1, hn2⟩, q⟩ := h
    have hxl : (xs.map V.int).length = n := by rw [List.length_map, ox.len]
    refine ⟨_, 
      (pss_one (ps_ret (pe_callB call_len_seq (by rfl) B.len PySem.boot_len (pa_cons (pe_lc (own := [("place", 2)]) (g := (gName 2)) (tt := (tTest (tOp rNe (tOp (rIxL K) (tVar 0) (tVar 2)) (tOp (rIxL K) (tVar 1) (tVar 2))))) (te := (tVar 2)) rfl scSpot.nd (pi_range1 (by rfl) B.range (pa_cons (pe_callB call_len_seq (by rfl) B.len PySem.boot_len (pa_cons (pv 0) pa_nil)) pa_nil)) (blkOk_by (N := ["one", "other", "place"]) (sc := defScope s_far_by_spot) (by decide +kernel)) (fun _ _ _ _ _ => (pg_name (i := 2) scSpot.nd rfl (.inl rfl))) (fun _ _ _ _ _ => (pts_one (pt_cmpR op_ne (pe_ix ix_list (pv 0) (pv 2) (fun _ _ => rfl)) (pe_ix ix_list (pv 1) (pv 2) (fun _ _ => rfl)) (nomark _)))) (fun _ _ _ _ _ => (pv 2))) pa_nil)))), ?_⟩
    refine ⟨_, rfl, a, _, rfl, .inl (SqL.of ha), _, rfl, by omega, by rw [hxl]; omega, fun D nD => ?_⟩
    rw [hxl, Int.toNat_natCast]
    refine lc_range (lo := 0) (n := n) (fun m H3 => H3 D = some (.lst (((rg m).filter (fun p => !decide (g0 xs p = g0 ys p))).map V.int)) ∧ Same H H3) ⟨upd_same, same_new nD⟩ (fun m H3 hm hP => ?_) (fun H3 hP => ?_)
    · obtain ⟨hD3, sm⟩ := hP
      obtain ⟨x, ex, _⟩ := ord_ix ox hm
      obtain ⟨y, ey, _⟩ := ord_ix oy hm
      have gx : g0 xs (m : Int) = x := g0_at ex
      have gy : g0 ys (m : Int) = y := g0_at ey
      have fm : ((rg (m + 1)).filter fun p => !decide (g0 xs p = g0 ys p)) = ((rg m).filter fun p => !decide (g0 xs p = g0 ys p)) ++ (if x = y then [] else [(m : Int)]) := by
        rw [rg_succ, List.filter_append, List.filter_cons, gx, gy]
        congr 1
        by_cases c : x = y
        · simp [c]
        · simp [c]
      refine ⟨rfl, _, rfl, _, rfl, a, _, _, _, rfl, rfl, SqL.of (sm _ _ ha), at_of (j := m) (by omega) (int_at ex), _, rfl, _, rfl, b, _, _, _, rfl, rfl, SqL.of (sm _ _ hb), at_of (j := m) (by omega) (int_at ey), rfl, _, rfl, ?_⟩
      by_cases c : x = y
      · subst c
        refine iteNS rfl ⟨?_, sm⟩
        rw [fm, if_pos rfl, List.append_nil]
        exact hD3
      · rw [decide_eq_false (fun e => c (V.int.inj e))]
        refine iteT ⟨_, rfl, _, hD3, line_lt ?_, ?_, fun u o e => ?_⟩
        · rw [List.length_map]
          refine Nat.lt_of_le_of_lt (List.length_filter_le _ _) ?_
          rw [rg_len]
          omega
        · rw [upd_same, fm, if_neg c, List.map_append, Int.zero_add]
          rfl
        · rw [upd_ne (ne_of_none e nD)]
          exact sm _ _ e
    · obtain ⟨hD3, sm⟩ := hP
      refine ⟨D, _, rfl, .inl (SqL.of hD3), ?_⟩
      have z := q H3 sm
      unfold farSpot spotL at z
      rw [ox.len] at z
      rw [List.length_map]
      exact z
theorem scShift : FnScope ["one", "other", "place", "seat"] ["one", "other"] (defScope s_far_by_shift) := ⟨rfl, rfl, rfl, by decide +kernel, rfl, by decide +kernel, by decide +kernel⟩
set_option maxHeartbeats 2000000 in
theorem ok_shift {f fP : Addr} {fd fdP : FuncData} {k : Nat} (T : Df K mg "far_by_shift" s_far_by_shift ["one", "other"] f fd) (T_seats_in : Df K mg "seats_in" s_seats_in ["one", "other"] fP fdP) (G_seats_in : FnOk P w K mg base CX0 k fP fdP ["one", "other"] spSeats) (B : Bi mg) : FnOk P w K mg base CX0 (k + 1) f fd ["one", "other"] spShift := by
  refine T.F.ok scShift (fun vs H Q E h => ?_) (fun cdv A outer s H vs Q E hr h => ?_)
  · obtain ⟨a, b, n, xs, ys, ⟨rfl, _⟩, _⟩ := h
    rfl
  · obtain ⟨a, b, n, xs, ys, ⟨rfl, ha, hb, ox, oy, hn1, hn2⟩, q⟩ := h
    refine ⟨_, 
      (pss_one (ps_ret (pe_callB (cr_max rfl) (by rfl) B.max (by decide +kernel) (pa_cons (pe_lc (own := [("place", 2), ("seat", 3)]) (g := (gTup K 2 (gCons (gName 2) (gCons (gName 3) gNil)))) (tt := tYes) (te := (tCB rAbs (tCons (tOp (rI0 fun i j => .int (i - j)) (tVar 2) (tVar 3)) tNil))) rfl scShift.nd (pi_enum (by rfl) B.enumerate (pa_cons (pe_call G_seats_in hr (by rfl) T_seats_in.g T_seats_in.F.kp T_seats_in.b .nil pass0 (pa_cons (pv 0) (pa_cons (pv 1) pa_nil))) pa_nil)) (blkOk_by (N := ["one", "other", "place", "seat"]) (sc := defScope s_far_by_shift) (by decide +kernel)) (fun _ _ _ _ _ => (pg_tup (by rfl) (pgs_cons (pg_name (i := 2) scShift.nd rfl (.inl rfl)) (pgs_cons (pg_name (i := 3) scShift.nd rfl (.inl rfl)) pgs_nil)))) (fun _ _ _ _ _ => pts_nil) (fun _ _ _ _ _ => (pe_callB call_abs (by rfl) B.abs (by decide +kernel) (pa_cons (pe_op op_sub (pv 2) (pv 3)) pa_nil)))) pa_nil)))), ?_⟩
    have os := seats_ord ox oy
    refine ⟨_, rfl, _, rfl, a, b, n, xs, ys, ⟨rfl, ha, hb, ox, oy, hn1, hn2⟩, fun l H1 nl hl s1 => ?_⟩
    refine ⟨l, _, rfl, SqL.of hl, fun D nD => ?_⟩
    have nlD : l ≠ D := ne_of_none hl nD
    have nHD : H D = none := s1.free nD
    refine lc_enumL (K := K) (a := l) (xs := (seatsL xs ys).map V.int) (fun m H3 => H3 D = some (.lst (((gapsL xs ys).take m).map V.int)) ∧ H3 l = some (.lst ((seatsL xs ys).map V.int)) ∧ Same H H3) ⟨upd_same, by rw [upd_ne nlD]; exact hl, s1.trans (same_new nD)⟩ (fun m H3 _ hP => SqL.of hP.2.1) (fun m x t H3 hx hP nt => ?_) (fun H3 hP => ?_)
    · obtain ⟨hD3, hl3, sm⟩ := hP
      obtain ⟨y, ey, rfl⟩ := int_at_inv hx
      have hi := (List.getElem?_eq_some_iff.mp ey).1
      rw [os.len] at hi
      have s3 := same_new (o := .tup [.int (m : Nat), .int y]) nt
      have eg : (gapsL xs ys)[m]? = some (absI ((m : Int) - y)) := by
        unfold gapsL rg
        rw [List.map_map, List.getElem?_map, List.getElem?_range (by rw [ox.len]; exact hi)]
        show some (absI ((m : Int) - g0 (seatsL xs ys) (m : Int))) = _
        rw [g0_at ey]
      refine ⟨t, _, rfl, .inl (.inl upd_same), rfl, _, _, rfl, _, _, rfl, rfl, rfl, ?_⟩
      refine ⟨_, rfl, _, rfl, (m : Int), y, rfl, rfl, _, rfl, _, s3 _ _ hD3, line_lt (by rw [List.length_map, List.length_take, gaps_len, ox.len]; omega), ?_, ?_, fun u o e => ?_⟩
      · rw [upd_same, take_more eg, List.map_append]
        rfl
      · rw [upd_ne nlD]
        exact s3 _ _ hl3
      · rw [upd_ne (ne_of_none e nHD)]
        exact s3 _ _ (sm _ _ e)
    · obtain ⟨hD3, hl3, sm⟩ := hP
      rw [List.take_of_length_le (by rw [gaps_len, List.length_map, seats_len]; exact Nat.le_refl _)] at hD3
      refine ⟨D, gapsL xs ys, rfl, SqL.of hD3, by rw [gaps_len, ox.len]; exact hn1, fun m hm hle => ?_⟩
      have e : farShift xs ys = m := maxL_of (gaps_nonneg xs ys) hm hle
      rw [← e]
      exact q H3 sm
theorem scKnown : FnScope ["way", "one", "other"] ["way", "one", "other"] (defScope s_known_far) := ⟨rfl, rfl, rfl, by decide +kernel, rfl, by decide +kernel, by decide +kernel⟩
theorem ok_known {f f4 f5 f6 : Addr} {fd d4 d5 d6 : FuncData} {k : Nat} (T : Df K mg "known_far" s_known_far ["way", "one", "other"] f fd) (T_far_by_swap : Df K mg "far_by_swap" s_far_by_swap ["one", "other"] f4 d4) (T_far_by_spot : Df K mg "far_by_spot" s_far_by_spot ["one", "other"] f5 d5) (T_far_by_shift : Df K mg "far_by_shift" s_far_by_shift ["one", "other"] f6 d6)
    (G_far_by_swap : FnOk P w K mg base CX0 k f4 d4 ["one", "other"] spSwap) (G_far_by_spot : FnOk P w K mg base CX0 k f5 d5 ["one", "other"] spSpot) (G_far_by_shift : FnOk P w K mg base CX0 k f6 d6 ["one", "other"] spShift) :
    FnOk P w K mg base CX0 (k + 1) f fd ["way", "one", "other"] spFar := by
  refine T.F.ok scKnown (fun vs H Q E h => ?_) (fun cdv A outer s H vs Q E hr h => ?_)
  · obtain ⟨z, a, b, n, xs, ys, rfl, _⟩ := h
    rfl
  · obtain ⟨z, a, b, n, xs, ys, rfl, hz, ha, hb, ox, oy, hn1, hn2, q⟩ := h
    refine ⟨_, 
      (pss_cons (ps_if (pt_cmpR op_eq (pv 0) pe_str (nomark _))
        (pss_one (ps_ret (pe_call G_far_by_swap hr (by rfl) T_far_by_swap.g T_far_by_swap.F.kp T_far_by_swap.b .nil pass0 (pa_cons (pv 1) (pa_cons (pv 2) pa_nil)))))
        pss_nil)
      (pss_cons (ps_if (pt_cmpR op_eq (pv 0) pe_str (nomark _))
        (pss_one (ps_ret (pe_call G_far_by_spot hr (by rfl) T_far_by_spot.g T_far_by_spot.F.kp T_far_by_spot.b .nil pass0 (pa_cons (pv 1) (pa_cons (pv 2) pa_nil)))))
        pss_nil)
      (pss_one (ps_ret (pe_call G_far_by_shift hr (by rfl) T_far_by_shift.g T_far_by_shift.F.kp T_far_by_shift.b .nil pass0 (pa_cons (pv 1) (pa_cons (pv 2) pa_nil))))))), ?_⟩
    rcases hz with rfl | rfl | rfl
    · refine ⟨_, rfl, rfl, _, rfl, ite2 (fun _ => ?_) (fun c => absurd (by decide +kernel) c)⟩
      exact ⟨_, rfl, _, rfl, a, b, n, xs, ys, ⟨rfl, ha, hb, ox, oy, hn1, hn2⟩, fun H2 s2 => by rw [← farW_swap]; exact q H2 s2⟩
    · refine ⟨_, rfl, rfl, _, rfl, ite2 (fun c => absurd c (by decide +kernel)) (fun _ => ?_)⟩
      refine ⟨_, rfl, rfl, _, rfl, ite2 (fun _ => ?_) (fun c => absurd (by decide +kernel) c)⟩
      exact ⟨_, rfl, _, rfl, a, b, n, xs, ys, ⟨rfl, ha, hb, ox, oy, hn1, hn2⟩, fun H2 s2 => by rw [← farW_spot]; exact q H2 s2⟩
    · refine ⟨_, rfl, rfl, _, rfl, ite2 (fun c => absurd c (by decide +kernel)) (fun _ => ?_)⟩
      refine ⟨_, rfl, rfl, _, rfl, ite2 (fun c => absurd c (by decide +kernel)) (fun _ => ?_)⟩
      exact ⟨_, rfl, _, rfl, a, b, n, xs, ys, ⟨rfl, ha, hb, ox, oy, hn1, hn2⟩, fun H2 s2 => by rw [← farW_shift]; exact q H2 s2⟩
end
end Fo
namespace Fo
open PySem PySem.Spec PyProof.Rows L2
def spOLst : Sp := fun vs H Q _ => ∃ (l : Addr) (as : List Addr) (rs : List (List Int)) (n : Nat), vs = [.ref l] ∧ OL H l as rs n ∧ rs.length ≤ 1000 ∧ ∀ H', Same H H' → Q (.bl true) H'
theorem take_more' {α : Type} {l : List α} {i : Nat} {x : α} (h : l[i]? = some x) : l.take (i + 1) = l.take i ++ [x] := by
  rw [List.take_add_one, h]
  rfl
section
variable {P : Program} {w : World} {K : PySem.W.Frag} {mg : Str → Option Value} {base : Heap}
theorem scOLst : FnScope ["thing", "each", "order"] ["thing"] (defScope s_is_order_list) := ⟨rfl, rfl, rfl, by decide +kernel, rfl, by decide +kernel, by decide +kernel⟩
set_option maxHeartbeats 2000000 in
theorem ok_olst {f f1 : Addr} {fd d1 : FuncData} {k : Nat} (T : Df K mg "is_order_list" s_is_order_list ["thing"] f fd) (T_is_order : Df K mg "is_order" s_is_order ["thing"] f1 d1) (G_is_order : FnOk P w K mg base CX0 k f1 d1 ["thing"] spIsOrd) (B : Bi mg) : FnOk P w K mg base CX0 (k + 1) f fd ["thing"] spOLst := by
  refine T.F.ok scOLst (fun vs H Q E h => ?_) (fun cdv A outer s H vs Q E hr h => ?_)
  · obtain ⟨l, as, rs, n, rfl, _⟩ := h
    rfl
  · obtain ⟨l, as, rs, n, rfl, hO, hlen, q⟩ := h
    have hal := hO.ll.len
    refine ⟨_, 
      (pss_cons (ps_if (PW.pt (pw_or (pt_not (pt_val (pe_callB call_isi (by rfl) B.isinstance (by decide +kernel) (pa_cons (pv 0) (pa_cons (pe_bltn (v := .ty "list") (by rfl) B.list (by decide +kernel) rfl) pa_nil))))) (pw_or1 (pt_not (pt_val (pe_callB (cr_all rfl) (by rfl) B.all (by decide +kernel) (pa_cons (pe_lc (own := [("each", 1)]) (g := (gName 1)) (tt := tYes) (te := (tCall spIsOrd [] E0 (tCons (tVar 1) tNil))) rfl scOLst.nd (pi_list (pv 0)) (blkOk_by (N := ["thing", "each", "order"]) (sc := defScope s_is_order_list) (by decide +kernel)) (fun _ _ _ _ _ => (pg_name (i := 1) scOLst.nd rfl (.inl rfl))) (fun _ _ _ _ _ => pts_nil) (fun _ _ _ _ _ => (pe_call G_is_order hr (by rfl) T_is_order.g T_is_order.F.kp T_is_order.b .nil pass0 (pa_cons (pv 1) pa_nil)))) pa_nil)))))))
        (pss_one (ps_ret pe_bl))
        pss_nil)
      (pss_one (ps_ret (pe_callB (cr_all rfl) (by rfl) B.all (by decide +kernel) (pa_cons (pe_lc (own := [("order", 2)]) (g := (gName 2)) (tt := tYes) (te := (tOp rEq (tCB (rLenS K) (tCons (tVar 2) tNil)) (tCB (rLenS K) (tCons (tOp (rIxL K) (tVar 0) (tC (.int 0))) tNil)))) rfl scOLst.nd (pi_list (pv 0)) (blkOk_by (N := ["thing", "each", "order"]) (sc := defScope s_is_order_list) (by decide +kernel)) (fun _ _ _ _ _ => (pg_name (i := 2) scOLst.nd rfl (.inl rfl))) (fun _ _ _ _ _ => pts_nil) (fun _ _ _ _ _ => (pe_cmpR op_eq (pe_callB call_len_seq (by rfl) B.len PySem.boot_len (pa_cons (pv 2) pa_nil)) (pe_callB call_len_seq (by rfl) B.len PySem.boot_len (pa_cons (pe_ix ix_list (pv 0) pe_int (fun _ _ => rfl)) pa_nil)) (nomark _)))) pa_nil))))), ?_⟩
    refine ⟨_, rfl, _, _, _, _, true, rfl, .ty _, .base (.lst hO.top), kit_ty (by decide +kernel), true, rfl, iteF ?_⟩
    refine ⟨_, rfl, l, rfl, ⟨_, SqL.of hO.top⟩, fun p np => ?_⟩
    refine lc_list (K := K) (a := l) (xs := as.map V.ref) (fun i H3 => H3 p = some (.lst ((List.replicate i true).map V.bl)) ∧ Same H H3) ⟨upd_same, same_new np⟩ (fun i H3 _ hP => SqL.of (hP.2 _ _ hO.top)) (fun i x H3 hx hP => ?_) (fun H3 hP => ?_)
    · obtain ⟨a, ea, rfl⟩ := ref_at_inv hx
      obtain ⟨hp3, sm⟩ := hP
      obtain ⟨r, er, ha⟩ := (hO.ll.same sm).get ea
      refine ⟨rfl, _, rfl, a, n, r, rfl, ha, hO.ord r (List.mem_of_getElem? er), hO.n1, hO.n2, fun H4 s4 => ⟨_, s4 _ _ hp3, line_lt (by
        rw [List.length_map, List.length_replicate]
        have := (List.getElem?_eq_some_iff.mp ea).1
        omega), ?_, fun b o e => ?_⟩⟩
      · rw [upd_same, List.replicate_succ', List.map_append]
        rfl
      · rw [upd_ne (ne_of_none e np)]
        exact s4 _ _ (sm _ _ e)
    · obtain ⟨hp3, sm⟩ := hP
      have h3 := hO.same sm
      refine ⟨p, _, rfl, SqL.of hp3, _, rfl, ?_⟩
      rw [all_true]
      refine iteF ?_
      refine ⟨_, rfl, l, rfl, ⟨_, SqL.of h3.top⟩, fun p2 np2 => ?_⟩
      refine lc_list (K := K) (a := l) (xs := as.map V.ref) (fun i H5 => H5 p2 = some (.lst ((List.replicate i true).map V.bl)) ∧ Same H3 H5) ⟨upd_same, same_new np2⟩ (fun i H5 _ hP => SqL.of (hP.2 _ _ h3.top)) (fun i x H5 hx hP => ?_) (fun H5 hP => ?_)
      · obtain ⟨a, ea, rfl⟩ := ref_at_inv hx
        obtain ⟨hp5, sm5⟩ := hP
        have h5 := h3.same sm5
        obtain ⟨r, er, ha⟩ := h5.ll.get ea
        have hi := (List.getElem?_eq_some_iff.mp ea).1
        obtain ⟨a0, ea0⟩ : ∃ a0, as[0]? = some a0 := ⟨as[0]'(by omega), List.getElem?_eq_getElem (by omega)⟩
        obtain ⟨r0, er0, ha0⟩ := h5.ll.get ea0
        have l1 := (h5.ord r (List.mem_of_getElem? er)).len
        have l2 := (h5.ord r0 (List.mem_of_getElem? er0)).len
        refine ⟨rfl, _, rfl, a, _, rfl, .inl (SqL.of ha), _, rfl, l, _, 0, _, rfl, rfl, SqL.of h5.top, at_of (j := 0) rfl (ref_at ea0), a0, _, rfl, .inl (SqL.of ha0), rfl, ?_⟩
        refine ⟨_, hp5, line_lt (by rw [List.length_map, List.length_replicate]; omega), ?_, fun b o e => ?_⟩
        · rw [upd_same, List.replicate_succ', List.map_append, List.length_map, List.length_map, l1, l2, decide_eq_true rfl]
          rfl
        · rw [upd_ne (ne_of_none e np2)]
          exact sm5 _ _ e
      · obtain ⟨hp5, sm5⟩ := hP
        refine ⟨p2, _, rfl, SqL.of hp5, ?_⟩
        rw [all_true]
        exact q _ (sm.trans sm5)
end
end Fo
namespace Fo
open PySem PySem.Spec PyProof.Rows L2
def spFrom : Sp := fun vs H Q _ => ∃ (r least : Int), vs = [.int r, .int least] ∧ least ≤ r ∧ Q .non H
section
variable {P : Program} {w : World} {K : PySem.W.Frag} {mg : Str → Option Value} {base : Heap}
theorem scFrom : FnScope ["thing", "least"] ["thing", "least"] (defScope s_check_from) := ⟨rfl, rfl, rfl, by decide +kernel, rfl, by decide +kernel, by decide +kernel⟩
theorem ok_from {f fW : Addr} {fd fdW : FuncData} {k : Nat} (T : Df K mg "check_from" s_check_from ["thing", "least"] f fd) (T_is_whole : Df K mg "is_whole" s_is_whole ["thing"] fW fdW) (B : Bi mg) : FnOk P w K mg base CX0 (k + 2) f fd ["thing", "least"] spFrom := by
  have G_is_whole : FnOk P w K mg base CX0 (k + 1) fW fdW ["thing"] spWhole := ok_whole T_is_whole B
  refine T.F.ok scFrom (fun vs H Q E h => ?_) (fun cdv A outer s H vs Q E hr h => ?_)
  · obtain ⟨r, least, rfl, _⟩ := h
    rfl
  · obtain ⟨r, least, rfl, hle, q⟩ := h
    refine ⟨_, 
      (pss_one (ps_if (PW.pt (pw_or (pt_not (pt_val (pe_call G_is_whole hr (by rfl) T_is_whole.g T_is_whole.F.kp T_is_whole.b .nil pass0 (pa_cons (pv 0) pa_nil)))) (pw_or1 (pt_cmpR op_lt (pv 0) (pv 1) (nomark _)))))
        (pss_one ps_never)
        pss_nil)), ?_⟩
    refine ⟨_, rfl, r, rfl, _, rfl, iteF ?_⟩
    exact ⟨_, rfl, _, rfl, r, least, rfl, rfl, _, rfl, ite2 (fun z => absurd (of_decide_eq_true z) (by omega)) (fun _ => q)⟩
end
end Fo
namespace Fo
open PySem PySem.Spec PyProof.Rows L2 PpSet
/-- the object of a new set -/
abbrev set0 (w : World) : Obj := { cls := .type "set", dict := none, data := .set #[] 0 (.fresh 0 0 (!w.params.followText "set-order")) }
def FreshS (P : Program) (w : World) (O : Addr → HO) : Prop := ∀ (H : Hp) (h : Heap), ObjOk P w H (h.push (set0 w)) h.objs.size (O h.objs.size)
def AddS (P : Program) (w : World) (K : PySem.W.Frag) (A : Around) (put : Addr → V → Hp → (Hp → Prop) → Prop) : Prop := ∀ (Y : Cx), Y.prog = P → Y.w = w → Y.K = K → Y.A = A → ∀ (ps : List (Addr × Obj)) (s : Shared) (σ : L2.St) (G : Hp) (D : Addr) (y : V) (v : Value) (Nx : Hp → Prop), L2.Inv Y ps σ G s → L2.RelV y v → put D y G Nx → wpAny (model P w) A (call (.builtin "set.add") [.ref D, v]) (fun _ s' => ∃ G', L2.Inv Y ps σ G' s' ∧ Nx G') (fun _ _ => False) s
/-- a set comprehension, what is kept of the set left open: O the new one, put what adding asks -/
def tScG (O : Addr → HO) (put : Addr → V → Hp → (Hp → Prop) → Prop) (wi : TI) (g : TG) (tt : TT) (te : TE) (vs : List Nat) : TE := fun σ H Q => wi σ H fun J H1 => ∀ D, H1 D = none →
  ∃ W : Nat → Nat → Hp → Prop, (∃ m, W 0 m (upd H1 D (O D))) ∧ ∀ i m G, W i m G → (J.stop i G ∧ Q (.ref D) G) ∨ (J.go i G ∧ ∃ Nx : Hp → Prop, (∀ G', Nx G' → ∃ m', m' < m ∧ W (i + 1) m' G') ∧
    ∀ x G', J.yld i G x G' → g x (wipe σ vs) G' fun σ2 H2 => wipe σ2 vs = wipe σ vs ∧ tt σ2 H2 fun b H3 => if b = true then te σ2 H3 fun y H4 => put D y H4 Nx else Nx H3)
set_option maxHeartbeats 4000000 in
/-- the turns of the block -/
theorem scg_loop {X : Cx} {elt tg iter : Expr} {ifs : List Expr} {scope : Scope} {pos : Pos} {g : TG} {tt : TT} {te : TE} {put : Addr → V → Hp → (Hp → Prop) → Prop} {Q : VK} {ps : List (Addr × Obj)} {σ : L2.St} {vs : List Nat}
    {t3 s4 : Shared} {H3 : Hp} {ce : Env} {D it : Addr} {fp : List Addr} {tn : Nat → Heap → Prop} {J : It} {W : Nat → Nat → Hp → Prop} {m0 : Nat} {R : Result → Shared → Prop}
    (ad : AddS X.prog X.w X.K X.A put) (calm : X.calm = true) (I3 : L2.Inv X ps σ H3 t3) (ff : ∀ b ∈ fp, FpOk X ps H3 b ∧ b < t3.heap.objs.size) (cL : ce.locals = t3.heap.objs.size) (I4 : L2.Inv (X.blk t3 H3 scope ce fp) [] (wipe σ vs) H3 s4)
    (T : Turn X.prog X.w X.K tg J fp it tn) (st : tn 0 s4.heap) (pg : PG (X.blk t3 H3 scope ce fp) tg g) (pt : PTs (X.blk t3 H3 scope ce fp) ifs tt) (pv' : PE (X.blk t3 H3 scope ce fp) elt te) (w0 : W 0 m0 H3)
    (turn : ∀ i m G, W i m G → (J.stop i G ∧ Q (.ref D) G) ∨ (J.go i G ∧ ∃ Nx : Hp → Prop, (∀ G', Nx G' → ∃ m', m' < m ∧ W (i + 1) m' G') ∧
      ∀ x G', J.yld i G x G' → g x (wipe σ vs) G' fun σ2 H2 => wipe σ2 vs = wipe σ vs ∧ tt σ2 H2 fun b H3 => if b = true then te σ2 H3 fun y H4 => put D y H4 Nx else Nx H3))
    (fin : ∀ (s' : Shared) (G : Hp), L2.Inv X ps σ G s' → Q (.ref D) G → (∃ m, s'.heap.Ns t3.heap.objs.size m) → FpOk X ps G t3.heap.objs.size → R (.ok .next) s') :
    codeAny (model X.prog X.w) X.A (.compLoop (.SetComp elt [⟨tg, iter, ifs, 0⟩] scope pos) 0 (.ref it) (.ref D) ce) R s4 := by
  have still : ∀ {τ : L2.St} {G : Hp} {s' : Shared}, L2.Inv (X.blk t3 H3 scope ce fp) [] τ G s' → (∀ b ∈ fp, G b = none) → ∀ b ∈ fp, FpOk (X.blk t3 H3 scope ce fp) [] G b := by
    intro τ G s' I' no b hb
    have e1 := I'.ok.exf b hb
    have e2 := I'.ok.exfs b hb
    exact ⟨no b hb, e1.1, e2, .inl hb, fun x c e => e1.2 x c e, fun p hp => by cases hp⟩
  refine compLoopS_any (fun n s' => ∃ i G, L2.Inv (X.blk t3 H3 scope ce fp) [] (wipe σ vs) G s' ∧ tn i s'.heap ∧ (∀ b ∈ fp, G b = none) ∧ W i n G) (fun n s5 hI => ?_) m0 ⟨0, H3, I4, st, fun b hb => (ff b hb).1.1, w0⟩
  obtain ⟨i, G5, I5, st5, no5, w5⟩ := hI
  rcases turn i n G5 w5 with ⟨hstop, qq⟩ | ⟨hgo, Nx, hNx, step⟩
  · refine thnF (T.done (X.blk t3 H3 scope ce fp) rfl rfl rfl calm i [] s5 _ G5 (fun _ _ => False) I5 (still I5 no5) st5 hstop) fun r s6 hr => ?_
    obtain ⟨rfl, I6⟩ := hr
    have home : L2.Inv X ps σ G5 s6 := by
      refine I3.call' (ch := fp) I6.os I6.base I6.hok I6.bare fun b hb => ?_
      obtain ⟨⟨_, a1, _, a2, a3, a4⟩, _⟩ := ff b hb
      exact ⟨a2, a1, a3, a4⟩
    have gone : G5 ce.locals = none := I6.free
    obtain ⟨m, hm, _⟩ := I6.loc
    change s6.heap.Ns ce.locals m at hm
    rw [cL] at gone hm
    exact fin s6 G5 home qq ⟨m, hm⟩ (I3.fpOk (Nat.le_refl _) gone)
  · refine thnF (T.item (X.blk t3 H3 scope ce fp) rfl rfl rfl calm i [] s5 _ G5 (fun _ _ => False) I5 (still I5 no5) st5 hgo) fun r s6 hr => ?_
    obtain ⟨u, rfl, h6⟩ := hr
    refine thnF h6 fun _ s7 h7 => ?_
    obtain ⟨x, G7, I7, r7, y7, st7, no7⟩ := h7
    have I8 := I7.pinned (still I7 no7) (T.obj _ _ st7)
    refine thnF (pg.run _ s7 _ G7 x u _ I8 r7 (step x G7 y7)) fun _ s8 h8 => ?_
    obtain ⟨τ, G8, I8, ew, q8⟩ := h8
    refine thnF (pt.run _ s8 τ G8 _ I8 q8) fun b s9 h9 => ?_
    obtain ⟨G9, I9, q9⟩ := h9
    have last : ∀ (s' : Shared) (G' : Hp), L2.Inv (X.blk t3 H3 scope ce fp) ([] ++ pinsAt fp s7.heap) τ G' s' → Nx G' → ∃ m, m < n ∧ ∃ i G, L2.Inv (X.blk t3 H3 scope ce fp) [] (wipe σ vs) G s' ∧ tn i s'.heap ∧ (∀ b ∈ fp, G b = none) ∧ W i m G := by
      intro s' G' J' nx
      obtain ⟨m', hm, w'⟩ := hNx G' nx
      have held : ∀ b ∈ fp, ∀ o, s7.heap.get? b = some o → s'.heap.get? b = some o ∧ G' b = none := by
        intro b hb o e
        have z := J'.pin (b, o) (List.mem_append_right _ (List.mem_append_right _ (mem_pinsAt hb e)))
        exact ⟨z.1, z.2.1⟩
      have J2 : L2.Inv (X.blk t3 H3 scope ce fp) [] (wipe σ vs) G' s' := by
        refine (J'.unpinned (pins := [])).weak ?_ fun j v e => ?_
        · rw [← ew, wipe_length]
        · rw [← ew] at e
          exact (wipe_some e).1
      refine ⟨m', hm, i + 1, G', J2, ?_, ?_, w'⟩
      · exact T.keep _ _ _ st7 fun b hb o e => (held b hb o e).1
      · intro b hb
        obtain ⟨o, e, _⟩ := T.obj _ _ st7 b hb
        exact (held b hb o e).2
    cases b with
    | false => exact last s9 G9 I9 q9
    | true =>
      refine thnF (pv'.run _ s9 τ G9 _ I9 q9) fun z s10 h10 => ?_
      obtain ⟨y, G10, I10, r10, hp⟩ := h10
      refine thnF (ad (X.blk t3 H3 scope ce fp) rfl rfl rfl rfl _ s10 τ G10 D y z Nx I10 r10 hp) fun _ s11 h11 => ?_
      obtain ⟨G11, I11, nx⟩ := h11
      exact last s11 G11 I11 nx
set_option maxHeartbeats 4000000 in
theorem pe_scG {X : Cx} {elt tg iter : Expr} {ifs : List Expr} {scope : Scope} {own : List (Str × Nat)} {pos : Pos} {wi : TI} {g : TG} {tt : TT} {te : TE} {O : Addr → HO} {put : Addr → V → Hp → (Hp → Prop) → Prop}
    (fr : FreshS X.prog X.w O) (ad : AddS X.prog X.w X.K X.A put) (calm : X.calm = true) (nd : X.N.Nodup) (pi : PI X tg iter wi) (blk : BlkOk X.N X.env.scope scope own)
    (pg : ∀ (s : Shared) (H : Hp) (C : Addr) (cl : List (Str × Addr)) (fp : List Addr),
      PG (X.blk s H scope (compEnvC scope cl C X.env) fp) tg g)
    (pt : ∀ (s : Shared) (H : Hp) (C : Addr) (cl : List (Str × Addr)) (fp : List Addr),
      PTs (X.blk s H scope (compEnvC scope cl C X.env) fp) ifs tt)
    (pv' : ∀ (s : Shared) (H : Hp) (C : Addr) (cl : List (Str × Addr)) (fp : List Addr),
      PE (X.blk s H scope (compEnvC scope cl C X.env) fp) elt te)
    (fold : ∀ x, foldedSetIterable iter X.env x = pure x := by intro _; rfl) :
    PE X (.SetComp elt [⟨tg, iter, ifs, 0⟩] scope pos) (tScG O put wi g tt te (own.map (·.2))) := by
  refine ⟨fun ps s0 σ H Q I0 h0 => ?_⟩
  rw [eval_SetComp]
  have cells : ∀ y ∈ scope.names, y.2 = .free → ∃ c, X.env.cells.lookup y.1 = some c := by
    intro y hy e
    exact I0.ok.has _ (blk.free y hy e)
  refine wpAny_comprehension_free rfl fold (closure_ok cells) blk.kind (fun y hy e => by rw [blk.uniq y hy, e]) ?_
  refine thn (pi.run ps s0 σ H _ I0 h0) fun _ t1 h1 => thn h1 fun _ t2 h2 => ?_
  obtain ⟨it, fp, tn, J, H2, rfl, I2, T, st, f2, q⟩ := h2
  refine newSet_ok (newEnv_comp ?_)
  have fresh : H2 t2.heap.objs.size = none := I2.hok.fresh (Nat.le_refl _)
  obtain ⟨W, ⟨m0, w0⟩, turn⟩ := q _ fresh
  have old : ∀ (b : Addr) (o : Obj), t2.heap.get? b = some o → (t2.heap.push (set0 X.w)).get? b = some o := fun b o e => Heap.get?_push_of_some _ e
  have I3 := I2.laid (a := t2.heap.objs.size) (o := O t2.heap.objs.size) (t' := t2.toks) old (Nat.le_refl _) (fr _ _)
  generalize eD : t2.heap.objs.size = D at *
  have ff : ∀ b ∈ fp, FpOk X ps (upd H2 D (O D)) b ∧ b < (t2.heap.push (set0 X.w)).objs.size := by
    intro b hb
    obtain ⟨_, e, _⟩ := T.obj _ _ st b hb
    have lt := Heap.lt_size e
    have ne : b ≠ D := fun z => by
      rw [z, ← eD] at lt
      exact Nat.lt_irrefl _ lt
    obtain ⟨z1, z2⟩ := f2 b hb
    refine ⟨⟨(upd_ne ne).trans z1, z2⟩, ?_⟩
    rw [Heap.size_push]
    exact Nat.lt_succ_of_lt lt
  have st3 := T.keep _ _ _ st fun b _ o e => old b o e
  have I4 := block_start I3 blk nd ff
  have st4 := T.keep _ _ (pushCells ((t2.heap.push (set0 X.w)).push { cls := .type "dict", data := .dict #[] }) scope.names) st3 fun b _ o e => pushCells_keeps _ _ _ _ (Heap.get?_push_of_some _ e)
  refine (fun loop => codeAny_compStart_set loop (T.self X.A 0 _ _ _ st4 loop)) ?_
  refine scg_loop ad calm I3 ff rfl I4 T st4 (pg _ _ _ _ _) (pt _ _ _ _ _) (pv' _ _ _ _ _) w0 turn fun s' G I' qq hm f => ?_
  obtain ⟨m, hm⟩ := hm
  refine ⟨m, hm, fun h' sb => ?_⟩
  obtain ⟨a0, a1, _, a3, a4, a5⟩ := f
  refine ⟨.ref D, G, ?_, rfl, qq⟩
  exact I'.turned (t' := s'.toks) (fun b o hb e => (sb.2 b hb).trans e) a0 a1 a3 a4 a5
end Fo
namespace Fo
open PySem PySem.Spec PyProof.Rows L2
abbrev rListOf (K : PySem.W.Frag) : List V → Hp → VK → Prop := fun xs H Q => ∃ p ys, xs = [.ref p] ∧ (SqL K H p ys ∨ SqT K H p ys) ∧ ∀ l, H l = none → Q (.ref l) (upd H l (.lst ys))
/-- a list of unlike orders -/
def spUnl : Sp := fun vs H Q _ => ∃ (l : Addr) (as : List Addr) (rs : List (List Int)) (n : Nat), vs = [.ref l] ∧ OL H l as rs n ∧ rs.Nodup ∧ rs.length ≤ 120 ∧ ∀ H', Same H H' → Q (.bl true) H'
def spCUnl : Sp := fun vs H Q _ => ∃ (l : Addr) (as : List Addr) (rs : List (List Int)) (n : Nat), vs = [.ref l] ∧ OL H l as rs n ∧ rs.Nodup ∧ 1 ≤ rs.length ∧ rs.length ≤ 120 ∧ ∀ H', Same H H' → Q .non H'
def spLed : Sp := fun vs H Q _ => ∃ (w : Str) (a l : Addr) (as : List Addr) (xs : List Int) (rs : List (List Int)) (n : Nat), vs = [.str w, .ref a, .ref l] ∧ IsWay w ∧ H a = some (.lst (xs.map V.int)) ∧ IsOrd n xs ∧ OL H l as rs n ∧ rs.Nodup ∧ 1 ≤ rs.length ∧ rs.length ≤ 120 ∧ ∀ H', Same H H' → Q .non H'
def spThose : Sp := fun vs H Q _ => ∃ (w : Str) (a l : Addr) (as : List Addr) (xs : List Int) (rs : List (List Int)) (n : Nat) (r : Int), vs = [.str w, .ref a, .ref l, .int r] ∧ IsWay w ∧ H a = some (.lst (xs.map V.int)) ∧ IsOrd n xs ∧ OL H l as rs n ∧ rs.length ≤ 1000 ∧
  ∀ (l' : Addr) (as' : List Addr) (H' : Hp), H l' = none → (∀ a ∈ as', H a = none) → l' ∉ as' → H' l' = some (.lst (as'.map V.ref)) → LL H' as' (rs.filter fun o => decide (farW w xs o ≤ r)) → Same H H' → Q (.ref l') H'
theorem filter_mo {α : Type} {p : α → Bool} {l : List α} {i : Nat} {x : α} (h : l[i]? = some x) : (l.take (i + 1)).filter p = (l.take i).filter p ++ (if p x = true then [x] else []) := by
  rw [take_more' h, List.filter_append, List.filter_cons]
  rfl
section
variable {P : Program} {w : World} {K : PySem.W.Frag} {mg : Str → Option Value} {base : Heap}
theorem scCUnl : FnScope ["thing"] ["thing"] (defScope s_check_unlike_list) := ⟨rfl, rfl, rfl, by decide +kernel, rfl, by decide +kernel, by decide +kernel⟩
theorem ok_cunl {f f1 : Addr} {fd d1 : FuncData} {k : Nat} {t : Tok} (T : Df K mg "check_unlike_list" s_check_unlike_list ["thing"] f fd) (T_is_unlike_list : Df K mg "is_unlike_list" s_is_unlike_list ["thing"] f1 d1) (G_is_unlike_list : FnOk P w K mg base CX0 k f1 d1 ["thing"] spUnl) (B : Bi mg) (mO : mg "MOST_ORDERS" = some (.int 120 t)) : FnOk P w K mg base CX0 (k + 1) f fd ["thing"] spCUnl := by
  refine T.F.ok scCUnl (fun vs H Q E h => ?_) (fun cdv A outer s H vs Q E hr h => ?_)
  · obtain ⟨l, as, rs, n, rfl, _⟩ := h
    rfl
  · obtain ⟨l, as, rs, n, rfl, hO, nd, h1, h2, q⟩ := h
    have hal := hO.ll.len
    have hml : (as.map V.ref).length = as.length := List.length_map _
    refine ⟨_, 
      (pss_one (ps_if (PW.pt (pw_or (pt_not (pt_val (pe_call G_is_unlike_list hr (by rfl) T_is_unlike_list.g T_is_unlike_list.F.kp T_is_unlike_list.b .nil pass0 (pa_cons (pv 0) pa_nil)))) (pw_or (pt_cmpR op_eq (pe_callB call_len_seq (by rfl) B.len PySem.boot_len (pa_cons (pv 0) pa_nil)) pe_int (nomark _)) (pw_or1 (pt_cmpR op_gt (pe_callB call_len_seq (by rfl) B.len PySem.boot_len (pa_cons (pv 0) pa_nil)) (pe_glob (v := .int 120) (by rfl) mO ⟨_, rfl⟩) (nomark _))))))
        (pss_one ps_never)
        pss_nil)), ?_⟩
    refine ⟨_, rfl, l, as, rs, n, rfl, hO, nd, h2, fun H1 s1 => ⟨_, rfl, iteF ?_⟩⟩
    have t1 := (hO.same s1).top
    refine ⟨_, rfl, l, _, rfl, .inl (SqL.of t1), rfl, _, rfl, ite2 (fun c => ?_) (fun _ => ?_)⟩
    · exfalso
      have z : V.int (((as.map V.ref).length : Nat) : Int) = V.int 0 := of_decide_eq_true c
      have z2 : (((as.map V.ref).length : Nat) : Int) = 0 := V.int.inj z
      omega
    refine ⟨_, rfl, l, _, rfl, .inl (SqL.of t1), _, 120, rfl, rfl, _, rfl, ite2 (fun c => absurd (of_decide_eq_true c) (by rw [hml]; omega)) (fun _ => q _ s1)⟩
theorem scLed : FnScope ["way", "order", "orders"] ["way", "order", "orders"] (defScope s_check_led) := ⟨rfl, rfl, rfl, by decide +kernel, rfl, by decide +kernel, by decide +kernel⟩
theorem ok_led {f f1 f2 f3 f4 : Addr} {fd d1 d2 d3 d4 : FuncData} {k : Nat} (T : Df K mg "check_led" s_check_led ["way", "order", "orders"] f fd) (T_check_order : Df K mg "check_order" s_check_order ["thing"] f1 d1) (T_check_unlike_list : Df K mg "check_unlike_list" s_check_unlike_list ["thing"] f2 d2) (T_check_way : Df K mg "check_way" s_check_way ["thing"] f3 d3) (T_check_fit : Df K mg "check_fit" s_check_fit ["one", "other"] f4 d4)
    (G_check_order : FnOk P w K mg base CX0 k f1 d1 ["thing"] spCheck) (G_check_unlike_list : FnOk P w K mg base CX0 k f2 d2 ["thing"] spCUnl) (G_check_way : FnOk P w K mg base CX0 k f3 d3 ["thing"] spWay) (G_check_fit : FnOk P w K mg base CX0 k f4 d4 ["one", "other"] spFit) (B : Bi mg) : FnOk P w K mg base CX0 (k + 1) f fd ["way", "order", "orders"] spLed := by
  refine T.F.ok scLed (fun vs H Q E h => ?_) (fun cdv A outer s H vs Q E hr h => ?_)
  · obtain ⟨wy, a, l, as, xs, rs, n, rfl, _⟩ := h
    rfl
  · obtain ⟨wy, a, l, as, xs, rs, n, rfl, hw, ha, ox, hO, nd, h1, h2, q⟩ := h
    have hal := hO.ll.len
    refine ⟨_, 
      (pss_cons (ps_expr (pe_call G_check_order hr (by rfl) T_check_order.g T_check_order.F.kp T_check_order.b .nil pass0 (pa_cons (pv 1) pa_nil)))
      (pss_cons (ps_expr (pe_call G_check_unlike_list hr (by rfl) T_check_unlike_list.g T_check_unlike_list.F.kp T_check_unlike_list.b .nil pass0 (pa_cons (pv 2) pa_nil)))
      (pss_cons (ps_expr (pe_call G_check_way hr (by rfl) T_check_way.g T_check_way.F.kp T_check_way.b .nil pass0 (pa_cons (pv 0) pa_nil)))
      (pss_one (ps_expr (pe_call G_check_fit hr (by rfl) T_check_fit.g T_check_fit.F.kp T_check_fit.b .nil pass0 (pa_cons (pv 1) (pa_cons (pe_ix ix_list (pv 2) pe_int (fun _ _ => rfl)) pa_nil)))))))), ?_⟩
    refine ⟨_, rfl, a, n, xs, rfl, ha, ox, hO.n1, hO.n2, fun H1 s1 => ?_⟩
    refine ⟨_, rfl, l, as, rs, n, rfl, hO.same s1, nd, h1, h2, fun H2 s2 => ?_⟩
    have s12 := s1.trans s2
    have hO2 := hO.same s12
    obtain ⟨a0, ea0⟩ : ∃ a0, as[0]? = some a0 := ⟨as[0]'(by omega), List.getElem?_eq_getElem (by omega)⟩
    obtain ⟨r0, er0, ha0⟩ := hO2.ll.get ea0
    have l2 := (hO.ord r0 (List.mem_of_getElem? er0)).len
    refine ⟨_, rfl, wy, rfl, hw, ?_⟩
    exact ⟨_, rfl, _, rfl, l, _, 0, _, rfl, rfl, SqL.of hO2.top, at_of (j := 0) rfl (ref_at ea0), a, a0, xs, r0, rfl, s12 _ _ ha, ha0, by rw [ox.len, l2], q _ s12⟩
theorem scThose : FnScope ["way", "order", "orders", "r", "other"] ["way", "order", "orders", "r"] (defScope s_those_within) := ⟨rfl, rfl, rfl, by decide +kernel, rfl, by decide +kernel, by decide +kernel⟩
set_option maxHeartbeats 4000000 in
theorem ok_those {f f1 : Addr} {fd d1 : FuncData} {k : Nat} (T : Df K mg "those_within" s_those_within ["way", "order", "orders", "r"] f fd) (T_known_far : Df K mg "known_far" s_known_far ["way", "one", "other"] f1 d1) (G_known_far : FnOk P w K mg base CX0 k f1 d1 ["way", "one", "other"] spFar) (B : Bi mg) : FnOk P w K mg base CX0 (k + 1) f fd ["way", "order", "orders", "r"] spThose := by
  refine T.F.ok scThose (fun vs H Q E h => ?_) (fun cdv A outer s H vs Q E hr h => ?_)
  · obtain ⟨wy, a, l, as, xs, rs, n, r, rfl, _⟩ := h
    rfl
  · obtain ⟨wy, a, l, as, xs, rs, n, r, rfl, hw, ha, ox, hO, hlen, q⟩ := h
    have hal := hO.ll.len
    refine ⟨_, 
      (pss_one (ps_ret (pe_lc (own := [("other", 4)]) (g := (gName 4)) (tt := (tTest (tOp (rI0 fun i j => .bl (decide (i ≤ j))) (tCall spFar [] E0 (tCons (tVar 0) (tCons (tVar 1) (tCons (tVar 4) tNil)))) (tVar 3)))) (te := (tCB (rListOf K) (tCons (tVar 4) tNil))) rfl scThose.nd (pi_list (pv 2)) (blkOk_by (N := ["way", "order", "orders", "r", "other"]) (sc := defScope s_those_within) (by decide +kernel)) (fun _ _ _ _ _ => (pg_name (i := 4) scThose.nd rfl (.inl rfl))) (fun _ _ _ _ _ => (pts_one (pt_cmpR op_le (pe_call G_known_far hr (by rfl) T_known_far.g T_known_far.F.kp T_known_far.b .nil pass0 (pa_cons (pv 0) (pa_cons (pv 1) (pa_cons (pv 4) pa_nil)))) (pv 3) (nomark _)))) (fun _ _ _ _ _ => (pe_callTy call_list_of (by rfl) B.list (by decide +kernel) (pa_cons (pv 4) pa_nil)))))), ?_⟩
    refine ⟨_, rfl, l, rfl, ⟨_, SqL.of hO.top⟩, fun p np => ?_⟩
    refine lc_list (K := K) (a := l) (xs := as.map V.ref) (fun i H3 => ∃ bs : List Addr, H3 p = some (.lst (bs.map V.ref)) ∧ LL H3 bs ((rs.take i).filter fun o => decide (farW wy xs o ≤ r)) ∧ (∀ a ∈ bs, H a = none) ∧ p ∉ bs ∧ Same H H3) ⟨[], upd_same, trivial, fun a ha => absurd ha List.not_mem_nil, List.not_mem_nil, same_new np⟩ (fun i H3 _ hP => by obtain ⟨_, _, _, _, _, sm⟩ := hP; exact SqL.of (sm _ _ hO.top)) (fun i x H3 hx hP => ?_) (fun H3 hP => ?_)
    · obtain ⟨c0, ec, rfl⟩ := ref_at_inv hx
      obtain ⟨bs, hp3, hL3, hn3, np3, sm⟩ := hP
      obtain ⟨row, er, hc⟩ := (hO.ll.same sm).get ec
      have hbl := hL3.len
      have hbl2 : bs.length ≤ 1000 := by
        rw [hbl]
        exact Nat.le_trans (List.length_filter_le _ _) (by rw [List.length_take]; omega)
      refine ⟨rfl, _, rfl, _, rfl, _, rfl, wy, a, c0, n, xs, row, rfl, hw, sm _ _ ha, hc, ox, hO.ord row (List.mem_of_getElem? er), hO.n1, hO.n2, fun H4 s4 => ?_⟩
      refine ⟨_, rfl, _, _, rfl, rfl, _, rfl, ite2 (fun z => ?_) (fun z => ?_)⟩
      · refine ⟨_, rfl, c0, _, rfl, .inl (SqL.of (s4 _ _ hc)), fun c nc => ?_⟩
        have s5 := s4.trans (same_new (o := .lst (row.map V.int)) nc)
        have npc : p ≠ c := ne_of_none (s4 _ _ hp3) nc
        refine ⟨_, s5 _ _ hp3, line_lt (by rw [List.length_map]; omega), bs ++ [c], by rw [upd_same, List.map_append]; rfl, ?_, fun u hu => ?_, fun hu => ?_, fun b o e => ?_⟩
        · rw [filter_mo er, if_pos z]
          refine LL.snoc ((hL3.same s5).keep fun u hu o e => ?_) ?_
          · rw [upd_ne (fun q => np3 (by rw [← q]; exact hu))]
            exact e
          · rw [upd_ne npc.symm, upd_same]
        · rcases List.mem_append.mp hu with h | h
          · exact hn3 u h
          · rw [List.mem_singleton.mp h]
            exact (sm.trans s4).free nc
        · rcases List.mem_append.mp hu with h | h
          · exact np3 h
          · exact npc (List.mem_singleton.mp h)
        · rw [upd_ne (ne_of_none e np)]
          exact s5 _ _ (sm _ _ e)
      · refine ⟨bs, s4 _ _ hp3, ?_, hn3, np3, sm.trans s4⟩
        rw [filter_mo er, if_neg z, List.append_nil]
        exact hL3.same s4
    · obtain ⟨bs, hp3, hL3, hn3, np3, sm⟩ := hP
      rw [List.take_of_length_le (by rw [List.length_map]; omega)] at hL3
      exact q p bs H3 np hn3 np3 hp3 hL3 sm
end
end Fo
namespace Fo
open PySem PySem.Spec PyProof.Rows L2
theorem units65 {k : Nat} {A : Around} (r : Room k A) : A.units + 65 < cLine := by have := r.un; omega
theorem any_row (rs : List (List Int)) (o : List Int) : ((rs.map dL).any fun z => PyData.eqv z (dL o)) = decide (o ∈ rs) := by
  induction rs with
  | nil => rfl
  | cons a rs ih =>
    rw [List.map_cons, List.any_cons, ih, eqv_ints]
    by_cases c : a = o
    · subst c; simp
    · have c2 : ¬ o = a := fun e => c e.symm
      simp [c, c2]
end Fo
namespace Fo
open PySem PySem.Spec PyProof.Rows L2
/-! sets of tuples of up to 300: the table of 512 slots. The round of x -> 5 x + 1 reckoned in one step -/
def geo (k : Nat) : Nat := (5 ^ k - 1) / 4
theorem geo_dvd : ∀ k : Nat, 4 * geo k + 1 = 5 ^ k
  | 0 => rfl
  | k + 1 => by
    have h := geo_dvd k
    unfold geo at h ⊢
    rw [Nat.pow_succ]
    omega
theorem geo_succ (k : Nat) : geo (k + 1) = geo k * 5 + 1 := by
  have h1 := geo_dvd k
  have h2 := geo_dvd (k + 1)
  rw [Nat.pow_succ] at h2
  omega
theorem lcgN_geo (m : Nat) : ∀ k, lcgN m k = geo k % (m + 1)
  | 0 => by show 0 = geo 0 % (m + 1); rw [show geo 0 = 0 from rfl, Nat.zero_mod]
  | k + 1 => by
    show (lcgN m k * 5 + 1) % (m + 1) = _
    rw [lcgN_geo m k, geo_succ, Nat.add_mod, Nat.mul_mod, Nat.mod_mod, ← Nat.mul_mod, ← Nat.add_mod]
def certB : List Nat := [0, 1, 326, 495, 412, 365, 2, 379, 376, 281, 254, 327, 404, 261, 58, 339, 496, 305, 438, 415, 140, 413, 370, 43, 360, 73, 366, 247, 132, 309, 426, 3, 480, 97, 38, 335, 380, 461, 226, 219, 344, 377, 478, 167, 372, 357, 282, 179, 464, 401, 150, 255, 108, 509, 82, 395, 328, 169, 78, 87, 100, 405, 138, 355, 448, 193, 262, 175, 348, 45, 450, 59, 312, 473, 190, 7, 340, 453, 506, 19, 432, 497, 374, 95, 76, 93, 306, 235, 296, 265, 302, 439, 68, 501, 362, 195, 416, 289, 486, 15, 316, 141, 162, 411, 280, 57, 414, 359, 308, 37, 218, 371, 400, 81, 86, 447, 44, 189, 18, 75, 264, 361, 14, 279, 36, 85, 74, 35, 384, 385, 198, 367, 284, 237, 386, 251, 248, 153, 126, 199, 276, 133, 442, 211, 368, 177, 310, 287, 12, 285, 242, 427, 232, 457, 238, 119, 4, 181, 298, 387, 352, 481, 422, 207, 252, 333, 98, 91, 216, 249, 350, 39, 244, 229, 154, 51, 336, 273, 22, 127, 492, 381, 466, 267, 200, 41, 462, 471, 484, 277, 10, 227, 320, 65, 134, 47, 220, 429, 322, 443, 184, 345, 62, 391, 212, 325, 378, 403, 304, 369, 246, 479, 460, 477, 178, 107, 168, 137, 174, 311, 452, 373, 234, 67, 288, 161, 358, 399, 188, 13, 34, 283, 152, 441, 286, 231, 180, 421, 90, 243, 272, 465, 470, 319, 428, 61, 402, 459, 136, 233, 398, 151, 420, 469, 458, 419, 256, 257, 70, 239, 156, 109, 258, 123, 120, 25, 510, 71, 148, 5, 314, 83, 240, 49, 182, 159, 396, 157, 114, 299, 104, 329, 110, 503, 388, 53, 170, 259, 224, 353, 294, 79, 124, 205, 482, 475, 88, 121, 222, 423, 116, 101, 26, 435, 208, 145, 406, 511, 364, 253, 338, 139, 72, 425, 334, 343, 356, 149, 394, 99, 192, 449, 6, 431, 92, 301, 194, 315, 56, 217, 446, 263, 84, 197, 250, 275, 176, 241, 118, 351, 332, 349, 50, 491, 40, 9, 46, 183, 324, 245, 106, 451, 160, 33, 230, 271, 60, 397, 418, 155, 24, 313, 158, 103, 52, 293, 474, 115, 144, 337, 342, 191, 300, 445, 274, 331, 8, 105, 270, 23, 292, 341, 330, 291, 128, 129, 454, 111, 28, 493, 130, 507, 504, 409, 382, 455, 20, 389, 186, 467, 112, 433, 54, 31, 268, 29, 498, 171, 488, 201, 494, 375, 260, 437, 42, 131, 96, 225, 166, 463, 508, 77, 354, 347, 472, 505, 94, 295, 500, 485, 410, 307, 80, 17, 278, 383, 236, 125, 210, 11, 456, 297, 206, 215, 228, 21, 266, 483, 64, 321, 390, 303, 476, 173, 66, 187, 440, 89, 318, 135, 468, 69, 122, 147, 48, 113, 502, 223, 204, 221, 434, 363, 424, 393, 430, 55, 196, 117, 490, 323, 32, 417, 102, 143, 444, 269, 290, 27, 408, 185, 30, 487, 436, 165, 346, 499, 16, 209, 214, 63, 172, 317, 146, 203, 392, 489, 142, 407, 164, 213, 202, 163]
theorem cert_ok : ((List.range 512).zip certB).all (fun p => geo p.2 % 512 == p.1 && decide (p.2 ≤ 511)) = true := by decide +kernel
theorem cert_len : certB.length = 512 := by decide +kernel
/-- the masks that come, up to 300 things -/
def MaskB (m : Nat) : Prop := MaskOk m ∨ m = 511
theorem lcg_allB {m : Nat} (hm : MaskB m) {j : Nat} (hj : j ≤ m) : ∃ b, b ≤ m ∧ lcgN m b = j := by
  rcases hm with hm | rfl
  · exact lcg_all hm hj
  · have h1 : j < certB.length := by rw [cert_len]; omega
    have h2 : ((List.range 512).zip certB)[j]? = some (j, certB[j]) := by
      rw [List.getElem?_zip_eq_some]
      exact ⟨by rw [List.getElem?_range (by omega)], List.getElem?_eq_getElem h1⟩
    have h3 := List.all_eq_true.mp cert_ok _ (List.mem_of_getElem? h2)
    rw [Bool.and_eq_true] at h3
    exact ⟨certB[j], of_decide_eq_true h3.2, by rw [lcgN_geo]; exact beq_iff_eq.mp h3.1⟩
theorem lcg_roundB {m : Nat} (hm : MaskB m) : lcgN m (m + 1) = 0 := by
  rcases hm with hm | rfl
  · exact lcg_round hm
  · rw [lcgN_geo]
    decide +kernel
theorem lcgN_modB {m : Nat} (hm : MaskB m) (k : Nat) : lcgN m (m + 1 + k) = lcgN m k := by
  have h := lcg_roundB hm
  induction k with
  | zero => exact h
  | succ k ih =>
    show (lcgN m (m + 1 + k) * 5 + 1) % (m + 1) = (lcgN m k * 5 + 1) % (m + 1)
    rw [ih]
/-- from anywhere each slot comes within a round -/
theorem lcgI_allB {m : Nat} (hm : MaskB m) {i j : Nat} (hi : i ≤ m) (hj : j ≤ m) : ∃ k, k ≤ m ∧ lcgI m i k = j := by
  obtain ⟨a, ha, rfl⟩ := lcg_allB hm hi
  obtain ⟨b, hb, rfl⟩ := lcg_allB hm hj
  by_cases c : a ≤ b
  · exact ⟨b - a, by omega, by rw [lcgN_add, show a + (b - a) = b by omega]⟩
  · exact ⟨m + 1 + b - a, by omega, by rw [lcgN_add, show a + (m + 1 + b - a) = m + 1 + b by omega, lcgN_modB hm]⟩
theorem run_meetsB {m : Nat} (hm : MaskB m) (h : Int) {j : Nat} (hj : j ≤ m) : ∃ n, n ≤ m + 12 ∧ runI m (SetTable.bits h) n = j := by
  obtain ⟨k, hk, e⟩ := lcgI_allB hm (runI_le m (SetTable.bits h) 12) hj
  refine ⟨12 + k, by omega, ?_⟩
  rw [runI_tail (bits_lt h), e]
theorem nth_meetsB {m : Nat} (hm : MaskB m) (h : Int) {j : Nat} (hj : j ≤ m) : ∃ k, k < 10 * SetTable.turns m ∧ (nth m (runAt m (SetTable.bits h % (m + 1)) (SetTable.bits h)) k).j = j := by
  obtain ⟨n, hn, e⟩ := run_meetsB hm h hj
  obtain ⟨k, hk, e2⟩ := run_nth m (SetTable.bits h) n
  exact ⟨k, by unfold SetTable.turns; omega, by rw [e2]; exact e⟩
theorem mask_oddB {m : Nat} (h : MaskB m) : m % 2 = 1 := by
  rcases h with h | rfl
  · exact mask_odd h
  · rfl
end Fo
namespace Fo
open PySem PySem.Spec PyProof.Rows L2
/-! a table of up to 512 slots -/
theorem way_leB (m : Nat) (h : Int) (k : Nat) : way m h k ≤ m := by
  have b := runEnd_bd (Nat.le_of_lt_succ (Nat.mod_lt (SetTable.bits h) (Nat.succ_pos m)))
  have q := nth_in (m := m) k (runAt m (SetTable.bits h % (m + 1)) (SetTable.bits h)) (by
    show SetTable.bits h % (m + 1) + (SetTable.runEnd m (SetTable.bits h % (m + 1)) - SetTable.bits h % (m + 1)) ≤ m
    have b1 := b.1
    have b2 := b.2.1
    exact (Nat.add_sub_cancel' b2).symm ▸ b1)
  exact Nat.le_trans (Nat.le_add_right _ _) q
structure TabB (t : SetTable) (hs : List Int) : Prop where
  ris : Ris t.place.toList
  dm : t.dummies = #[]
  sz : t.place.size = hs.length
  mok : MaskB t.mask
  bd : ∀ x ∈ t.place.toList, x ≤ t.mask
  reach : ∀ (i : Nat) (h : Int) (j : Nat), hs[i]? = some h → t.place.toList[i]? = some j → ∃ k, way t.mask h k = j ∧ ∀ k', k' < k → way t.mask h k' ∈ t.place.toList
theorem TabB.of {t : SetTable} {hs : List Int} (T : TabOk t hs) : TabB t hs := ⟨T.ris, T.dm, T.sz, .inl T.mok, T.bd, T.reach⟩
theorem TabB.len {t : SetTable} {hs : List Int} (T : TabB t hs) : t.place.toList.length = hs.length := by rw [Array.length_toList, T.sz]
theorem TabB.first {t : SetTable} {hs : List Int} (T : TabB t hs) (hl : hs.length ≤ t.mask) (h : Int) : ∃ K, K < 10 * SetTable.turns t.mask ∧ way t.mask h K ∉ t.place.toList ∧ ∀ k, k < K → way t.mask h k ∈ t.place.toList := by
  obtain ⟨j, hj, hn⟩ := st_missing t.place.toList (t.mask + 1) (by rw [T.len]; omega)
  obtain ⟨k, hk, e⟩ := nth_meetsB T.mok h (Nat.le_of_lt_succ hj)
  obtain ⟨K, h1, h2, h3⟩ := st_least (p := fun k => way t.mask h k ∉ t.place.toList) k (by
    show (nth t.mask (runAt t.mask (SetTable.bits h % (t.mask + 1)) (SetTable.bits h)) k).j ∉ _
    rw [e]
    exact hn)
  exact ⟨K, Nat.lt_of_le_of_lt h1 hk, h2, fun k' hk' => Classical.not_not.mp (h3 k' hk')⟩
theorem TabB.before {t : SetTable} {hs : List Int} (T : TabB t hs) {h : Int} {K i j : Nat} (hK : way t.mask h K ∉ t.place.toList) (hi : hs[i]? = some h) (hj : t.place.toList[i]? = some j) : ∃ k, k < K ∧ way t.mask h k = j := by
  obtain ⟨k, rfl, hb⟩ := T.reach i h j hi hj
  refine ⟨k, Nat.lt_of_not_le fun c => hK ?_, rfl⟩
  rcases Nat.eq_or_lt_of_le c with rfl | c
  · exact List.mem_of_getElem? hj
  · exact hb K c
theorem TabB.put {t : SetTable} {hs : List Int} (T : TabB t hs) {h : Int} {K j : Nat} (ej : way t.mask h K = j) (hK : j ∉ t.place.toList) (hb : ∀ k, k < K → way t.mask h k ∈ t.place.toList) :
    SetTable.below t.place j ≤ hs.length ∧ TabB (t.put j).1 (hs.take (SetTable.below t.place j) ++ h :: hs.drop (SetTable.below t.place j)) ∧ (t.put j).1.fill = hs.length + 1 := by
  have c1 := (below_cut T.ris j).1
  have b1 : SetTable.below t.place j ≤ t.place.toList.length := c1
  have b2 : SetTable.below t.place j ≤ hs.length := by rw [← T.len]; exact b1
  have pp := put_place t j
  have up : ∀ {x : Nat}, x ∈ t.place.toList → x ∈ (t.put j).1.place.toList := fun hx => by rw [pp]; exact mem_ins.2 (.inr hx)
  have sz : (t.put j).1.place.size = hs.length + 1 := by rw [← Array.length_toList, pp, len_ins _ b1, T.len]
  refine ⟨b2, ⟨ris_insert T.ris fun e => hK (List.mem_of_getElem? (by rw [Array.getElem?_toList]; exact e)), put_dm T.dm j, by rw [len_ins _ b2]; exact sz, T.mok, fun x hx => ?_, fun i h' j' e1 e2 => ?_⟩, ?_⟩
  · rw [pp] at hx
    rcases mem_ins.1 hx with rfl | z
    · rw [← ej]
      exact way_leB t.mask h K
    · exact T.bd x z
  · rw [tins_get hs b2] at e1
    rw [pp, tins_get _ b1] at e2
    show ∃ k, way t.mask h' k = j' ∧ ∀ k', k' < k → way t.mask h' k' ∈ (t.put j).1.place.toList
    have old : ∀ i, hs[i]? = some h' → t.place.toList[i]? = some j' → ∃ k, way t.mask h' k = j' ∧ ∀ k', k' < k → way t.mask h' k' ∈ (t.put j).1.place.toList := fun i a b => by
      obtain ⟨k, e, z⟩ := T.reach i h' j' a b
      exact ⟨k, e, fun k' hk' => up (z k' hk')⟩
    rcases Nat.lt_trichotomy i (SetTable.below t.place j) with c | c | c
    · rw [if_pos c] at e1 e2
      exact old i e1 e2
    · rw [if_neg (by omega), if_pos c] at e1 e2
      cases e1
      cases e2
      exact ⟨K, ej, fun k' hk' => up (hb k' hk')⟩
    · rw [if_neg (by omega), if_neg (by omega)] at e1 e2
      exact old (i - 1) e1 e2
  · show (t.put j).1.place.size + (t.put j).1.dummies.size = hs.length + 1
    rw [sz, put_dm T.dm j]
    rfl
/-! laying anew -/
theorem free_findB {m : Nat} (hm : MaskB m) (owner : Array (Option Nat)) (h : Int) {j : Nat} (hj : j ≤ m) (hf : oAt owner j = none) :
    ∃ K, SetTable.layClean.free m owner (SetTable.turns m) (SetTable.bits h % (m + 1)) (SetTable.bits h) = some (way m h K) ∧ oAt owner (way m h K) = none ∧ ∀ k, k < K → oAt owner (way m h k) ≠ none := by
  obtain ⟨n, hn, e⟩ := run_meetsB hm h hj
  have hw : way m h (off m (SetTable.bits h % (m + 1)) (SetTable.bits h) n) = j := by
    show (nth m (runAt m _ _) _).j = j
    rw [nth_off, itL_run]
    exact e
  obtain ⟨K, k1, k2, k3⟩ := st_least (p := fun k => oAt owner (way m h k) = none) _ (show oAt owner (way m h (off m (SetTable.bits h % (m + 1)) (SetTable.bits h) n)) = none by rw [hw]; exact hf)
  refine ⟨K, free_spec m owner (SetTable.turns m) n _ _ K (by unfold SetTable.turns; omega) k1 (fun k hk => ?_) (Option.isNone_iff_eq_none.mpr k2), k2, k3⟩
  exact Bool.eq_false_iff.mpr fun z => k3 k hk (Option.isNone_iff_eq_none.mp z)
theorem own_stepB {m : Nat} (hm : MaskB m) {done : List Int} {owner : Array (Option Nat)} (W : Own m done owner) (hl : done.length ≤ m) (h : Int) :
    ∃ j, SetTable.layClean.free m owner (SetTable.turns m) (SetTable.bits h % (m + 1)) (SetTable.bits h) = some j ∧ Own m (done ++ [h]) (owner.setIfInBounds j (some done.length)) := by
  obtain ⟨ps, hps, hin⟩ := W.ps
  obtain ⟨j0, h0, hn0⟩ := st_missing ps (m + 1) (by omega)
  obtain ⟨K, e1, e2, e3⟩ := free_findB hm owner h (Nat.le_of_lt_succ h0) (Classical.not_not.mp fun z => hn0 (hin j0 (Nat.le_of_lt_succ h0) z))
  have hjm := way_leB m h K
  generalize ej : way m h K = j at e1 e2 hjm
  have self := oAt_set_self (some done.length) (show j < owner.size by rw [W.sz]; omega)
  have mono : ∀ i, oAt owner i ≠ none → oAt (owner.setIfInBounds j (some done.length)) i ≠ none := fun i hi => by
    by_cases c : i = j
    · rw [c, self]
      exact fun z => by cases z
    · rw [oAt_set_ne _ c]
      exact hi
  refine ⟨j, e1, by rw [Array.size_setIfInBounds]; exact W.sz, fun i k hi e => ?_, fun k hk => ?_, j :: ps, by rw [List.length_cons, hps, List.length_append]; rfl, fun i hi e => ?_⟩
  · by_cases c : i = j
    · rw [c, self] at e
      cases e
      exact ⟨h, K, by rw [List.getElem?_append_right (Nat.le_refl _), Nat.sub_self]; rfl, by rw [c]; exact ej, fun k' hk' => mono _ (e3 k' hk')⟩
    · rw [oAt_set_ne _ c] at e
      obtain ⟨h', K', a1, a2, a3⟩ := W.at_ i k hi e
      exact ⟨h', K', by rw [List.getElem?_append_left (List.getElem?_eq_some_iff.mp a1).1]; exact a1, a2, fun k' hk' => mono _ (a3 k' hk')⟩
  · by_cases c : k < done.length
    · obtain ⟨i, hi, e⟩ := W.all k c
      exact ⟨i, hi, by rw [oAt_set_ne _ fun z => by rw [z, e2] at e; cases e]; exact e⟩
    · obtain rfl : k = done.length := by
        rw [List.length_append, List.length_singleton] at hk
        omega
      exact ⟨j, hjm, self⟩
  · by_cases c : i = j
    · rw [c]
      exact List.mem_cons_self
    · rw [oAt_set_ne _ c] at e
      exact List.mem_cons_of_mem _ (hin i hi e)
theorem fold_okB {m : Nat} (hm : MaskB m) (rest : List Int) : ∀ (done : List Int) (owner : Array (Option Nat)), Own m done owner → done.length + rest.length ≤ m →
    ∃ owner', rest.foldl (stepF m) (some (owner, done.length)) = some (owner', (done ++ rest).length) ∧ Own m (done ++ rest) owner' := by
  induction rest with
  | nil => exact fun done owner W _ => ⟨owner, by rw [List.append_nil]; rfl, by rw [List.append_nil]; exact W⟩
  | cons h rest ih =>
    intro done owner W hl
    rw [List.length_cons] at hl
    obtain ⟨j, e, W1⟩ := own_stepB hm W (by omega) h
    obtain ⟨owner', f, W2⟩ := ih (done ++ [h]) _ W1 (by rw [List.length_append, List.length_singleton]; omega)
    rw [List.append_assoc, List.singleton_append, show (done ++ [h]).length = done.length + 1 by rw [List.length_append]; rfl] at f
    rw [List.append_assoc, List.singleton_append] at W2
    exact ⟨owner', by rw [List.foldl_cons, stepF_some e]; exact f, W2⟩
theorem layClean_okB {m : Nat} (hm : MaskB m) {hs : Array Int} (hn : hs.size ≤ m) : ∃ owner, SetTable.layClean m hs = some owner ∧ Own m hs.toList owner := by
  obtain ⟨owner, f, W⟩ := fold_okB hm hs.toList [] _ (Own.init m) (by show 0 + hs.toList.length ≤ m; rw [Array.length_toList]; omega)
  refine ⟨owner, ?_, W⟩
  rw [layClean_eq, show (0 : Nat) = ([] : List Int).length from rfl, f]
  rfl
end Fo
namespace Fo
open PySem PySem.Spec PyProof.Rows L2
/-! the larger table -/
theorem live_len {m : Nat} {hs : List Int} {owner : Array (Option Nat)} (W : Own m hs owner) : (liveOf m owner).length = hs.length ∧ ((liveOf m owner).map (·.2)).Perm (List.range hs.length) ∧ Ris ((liveOf m owner).map (·.1)) := by
  have ris : Ris ((liveOf m owner).map (·.1)) ∧ ∀ x ∈ (liveOf m owner).map (·.1), x ∈ List.range (m + 1) := ris_live (fun j => owner.getD j none) (List.range (m + 1)) (by unfold Ris; exact List.pairwise_lt_range)
  have all2 : ∀ k, k < hs.length → k ∈ (liveOf m owner).map (·.2) := fun k hk => by
    obtain ⟨j, b1, b2⟩ := W.all k hk
    exact List.mem_map.mpr ⟨(j, k), (mem_live W.sz).2 ⟨b1, b2⟩, rfl⟩
  have le1 : (liveOf m owner).length ≤ hs.length := by
    obtain ⟨ps, p1, p2⟩ := W.ps
    have nd : ((liveOf m owner).map (·.1)).Nodup := List.Pairwise.imp (fun h => Nat.ne_of_lt h) ris.1
    have a := nat_nodup_len ((liveOf m owner).map (·.1)) ps nd fun x hx => by
      obtain ⟨⟨y, k⟩, hq, rfl⟩ := List.mem_map.mp hx
      obtain ⟨b1, b2⟩ := (mem_live W.sz).1 hq
      exact p2 y b1 fun z => by rw [b2] at z; cases z
    rw [List.length_map, p1] at a
    exact a
  have le2 : hs.length ≤ (liveOf m owner).length := by
    have b := nat_nodup_len (List.range hs.length) ((liveOf m owner).map (·.2)) List.nodup_range fun k hk => all2 k (List.mem_range.mp hk)
    rw [List.length_map, List.length_range] at b
    exact b
  have e := Nat.le_antisymm le1 le2
  exact ⟨e, perm_range hs.length _ (by rw [List.length_map]; exact e) all2, ris.1⟩
theorem relaid_okB (t : SetTable) {hs : Array Int} {wanted M : Nat} (hw : SetTable.sizeAbove wanted - 1 = M) (hM : MaskB M) (hn : hs.size ≤ M) :
    ∃ t' order, t.relaid hs wanted = some (t', order) ∧ order.toList.Perm (List.range hs.size) ∧ TabB t' (order.toList.map fun i => hs.getD i 0) ∧ t'.mask = M ∧ t'.led = t.led ∧ t'.plain = t.plain := by
  obtain ⟨owner, e, W⟩ := layClean_okB hM hn
  obtain ⟨l1, l2, l3⟩ := live_len W
  rw [Array.length_toList] at l1 l2
  have hr : t.relaid hs wanted = some (tabOf t M owner, ((liveOf M owner).map (·.2)).toArray) := by
    rw [relaid_eq, hw, e]
    rfl
  refine ⟨_, _, hr, l2, ⟨l3, rfl, ?_, hM, fun x hx => ?_, fun i h j h1 h2 => ?_⟩, rfl, rfl, rfl⟩
  · show ((liveOf M owner).map (·.1)).toArray.size = (((liveOf M owner).map (·.2)).map fun i => hs.getD i 0).length
    rw [List.size_toArray, List.length_map, List.length_map, List.length_map]
  · obtain ⟨⟨y, k⟩, hq, rfl⟩ := List.mem_map.mp (show x ∈ (liveOf M owner).map (·.1) from hx)
    exact ((mem_live W.sz).1 hq).1
  · replace h1 : (((liveOf M owner).map (·.2)).map fun i => hs.getD i 0)[i]? = some h := h1
    replace h2 : ((liveOf M owner).map (·.1))[i]? = some j := h2
    rw [List.getElem?_map] at h2
    obtain ⟨⟨y, k⟩, hq, rfl⟩ := Option.map_eq_some_iff.mp h2
    rw [List.getElem?_map, List.getElem?_map, hq] at h1
    obtain ⟨b1, b2⟩ := (mem_live W.sz).1 (List.mem_of_getElem? hq)
    obtain ⟨h0, K, a1, a2, a3⟩ := W.at_ y k b1 b2
    obtain rfl : h0 = h := by
      have e2 : hs.getD k 0 = h := Option.some.inj h1
      rw [← e2, Array.getD_eq_getD_getElem?, ← Array.getElem?_toList, a1]
      rfl
    refine ⟨K, a2, fun k' hk' => ?_⟩
    show way M h0 k' ∈ (liveOf M owner).map (·.1)
    obtain ⟨k2, z⟩ := Option.ne_none_iff_exists'.mp (a3 k' hk')
    exact List.mem_map.mpr ⟨(way M h0 k', k2), (mem_live W.sz).2 ⟨way_leB M h0 k', z⟩, rfl⟩
theorem size_77 : SetTable.sizeAbove (SetTable.grown 77) = 512 := by decide +kernel
end Fo
namespace Fo
open PySem PySem.Spec PyProof.Rows L2
/-! the search in such a table -/
/-- the k-th place of the way, as the search stands there -/
abbrev stp (m : Nat) (h : Int) (k : Nat) : SetTable.Probe := nth m (runAt m (SetTable.bits h % (m + 1)) (SetTable.bits h)) k
theorem stp_add (m : Nat) (h : Int) (c q : Nat) : nth m (stp m h c) q = stp m h (c + q) := (nth_add m c _ q).symm
theorem stp_dummy (m : Nat) (h : Int) (c : Nat) : (stp m h c).dummy = none := by
  induction c with
  | zero => rfl
  | succ c ih =>
    rw [show stp m h (c + 1) = adv m (stp m h c) from nth_succ _ _ _]
    unfold adv
    split <;> exact ih
/-- what the table answers from the c-th place on: the first of the hash before the first free place, or that -/
theorem probe_at {t : SetTable} {hs : List Int} (T : TabB t hs) (hashAt : Nat → Int) (h : Int) {K c : Nat} (hKf : K < 10 * SetTable.turns t.mask) (hK : way t.mask h K ∉ t.place.toList) (hKb : ∀ c, c < K → way t.mask h c ∈ t.place.toList) (hc : c ≤ K) :
    (∃ c' i, c ≤ c' ∧ c' < K ∧ t.place.toList[i]? = some (way t.mask h c') ∧ (∀ c2 i', c ≤ c2 → c2 < c' → t.place.toList[i']? = some (way t.mask h c2) → hashAt i' ≠ h) ∧ t.probe hashAt h (stp t.mask h c) = some (.candidate (way t.mask h c') i (stp t.mask h (c' + 1)))) ∨
    ((∀ c2 i', c ≤ c2 → c2 < K → t.place.toList[i']? = some (way t.mask h c2) → hashAt i' ≠ h) ∧ t.probe hashAt h (stp t.mask h c) = some (.empty (way t.mask h K) none)) := by
  have w : ∀ q, (nth t.mask (stp t.mask h c) q).j = way t.mask h (c + q) := fun q => congrArg SetTable.Probe.j (stp_add t.mask h c q)
  have spec := go_spec t T.ris T.dm hashAt h (10 * SetTable.turns t.mask) (K - c) (stp t.mask h c) (stp_dummy t.mask h c) (by omega)
    (fun q hq => by rw [w]; exact hKb _ (by omega)) (by rw [w, Nat.add_sub_cancel' hc]; exact hK)
  rcases spec with ⟨q, i, h1, h2, _, h4, h5⟩ | ⟨h4, h5⟩
  · rw [w] at h2
    rw [w, stp_add] at h5
    refine .inl ⟨c + q, i, by omega, by omega, h2, fun c2 i' a b e => h4 (c2 - c) i' (by omega) (by rw [w, Nat.add_sub_cancel' a]; exact e), h5⟩
  · rw [w, Nat.add_sub_cancel' hc] at h5
    exact .inr ⟨fun c2 i' a b e => h4 (c2 - c) i' (by omega) (by rw [w, Nat.add_sub_cancel' a]; exact e), h5⟩
structure SetBR (P : Program) (w : World) (h : Heap) (a : Addr) (L : List (Addr × List Int)) (es : Array (Int × Value)) (ep : Nat) (t : SetTable) : Prop where
  ob : ∃ o, h.get? a = some o ∧ o.ExactSet ∧ o.data = .set es ep t
  rows : es.toList = rowsOf P w L
  tab : TabB t (L.map fun p => thash P w p.2)
  nd : (L.map (·.2)).Nodup
  tup : ∀ p ∈ L, IsT P w h p.2 p.1
  plain : t.plain = true
  led : w.params.followText "set-order" = true ∨ t.led = true
  room : L.length * 5 < t.mask * 3
  few : L.length < 300
section
variable {P : Program} {w : World} {A : Around} {E : Value → Shared → Prop} {s : Shared} {a : Addr} {L : List (Addr × List Int)} {es : Array (Int × Value)} {ep : Nat} {t : SetTable}
theorem SetBR.size (R : SetBR P w s.heap a L es ep t) : es.size = L.length := by
  rw [← Array.length_toList, R.rows]
  exact List.length_map _
theorem SetBR.psize (R : SetBR P w s.heap a L es ep t) : t.place.size = L.length := by rw [R.tab.sz, List.length_map]
theorem SetBR.fits (R : SetBR P w s.heap a L es ep t) : t.fits es.size = true := by
  have h1 := R.psize
  have h3 := R.room
  unfold SetTable.fits SetTable.fill
  rw [R.size, R.tab.dm, Bool.and_eq_true, beq_iff_eq, decide_eq_true_eq]
  exact ⟨h1, by show t.place.size + 0 ≤ t.mask; omega⟩
theorem SetBR.entry (R : SetBR P w s.heap a L es ep t) {i : Nat} {p : Addr × List Int} (h : L[i]? = some p) : es[i]? = some (thash P w p.2, Value.ref p.1) := by
  rw [← Array.getElem?_toList, R.rows]
  unfold rowsOf
  rw [List.getElem?_map, h]
  rfl
theorem SetBR.hash (R : SetBR P w s.heap a L es ep t) {i : Nat} {p : Addr × List Int} (h : L[i]? = some p) : (es[i]?.map (·.1)).getD 0 = thash P w p.2 := by
  rw [R.entry h]
  rfl
theorem SetBR.gw (R : SetBR P w s.heap a L es ep t) : ¬ t.gaveWay = true := by
  unfold SetTable.gaveWay
  rw [mask_oddB R.tab.mok]
  decide
/-- the entry that sits at a place -/
theorem SetBR.at (R : SetBR P w s.heap a L es ep t) {i j : Nat} (h : t.place.toList[i]? = some j) : ∃ p, L[i]? = some p ∧ p ∈ L := by
  have hl : i < L.length := by
    have h1 := (List.getElem?_eq_some_iff.mp h).1
    rw [Array.length_toList, R.psize] at h1
    exact h1
  exact ⟨L[i], List.getElem?_eq_getElem hl, List.getElem_mem hl⟩
/-- the search, from the c-th place on -/
theorem SetBR.from (R : SetBR P w s.heap a L es ep t) {x : Addr} {k : List Int} (hx : IsT P w s.heap k x) (hu : A.units < cLine) {K : Nat} (hKf : K < 10 * SetTable.turns t.mask)
    (hK : way t.mask (thash P w k) K ∉ t.place.toList) (hKb : ∀ c, c < K → way t.mask (thash P w k) c ∈ t.place.toList) {Q : SetFound → Shared → Prop}
    (hin : k ∈ L.map (·.2) → Q (.there none) s) (hout : k ∉ L.map (·.2) → Q (.free (way t.mask (thash P w k) K) false) s) (f : Nat) :
    ∀ (c : Nat) (stand : Option SetTable.Probe), stand.getD (t.probeStart (thash P w k)) = stp t.mask (thash P w k) c → c ≤ K → K - c < f →
      (∀ (i : Nat) p, L[i]? = some p → p.2 = k → ∃ c', c ≤ c' ∧ c' < K ∧ t.place.toList[i]? = some (way t.mask (thash P w k) c')) →
      wpAny (model P w) A (setSearchFrom a (.ref x) (thash P w k) true f stand) Q E s := by
  induction f with
  | zero => exact fun c stand _ _ hf _ => absurd hf (Nat.not_lt_zero _)
  | succ f ih =>
    intro c stand hst hc hf hre
    obtain ⟨o, ho, hex, hd⟩ := R.ob
    rw [setSearchFrom_succ]
    refine wpAny_bind (wpAny_setState_of ho hd R.fits ?_)
    dsimp only
    refine wp_if_neg R.gw ?_
    try refine wpAny_bind (wpAny_pure ?_)
    rw [hst]
    rcases probe_at R.tab (fun i => (es[i]?.map (·.1)).getD 0) (thash P w k) hKf hK hKb hc with ⟨c', i, h1, h2, h3, h4, h5⟩ | ⟨h4, h5⟩
    · rw [h5]
      dsimp only
      obtain ⟨p, hp, mp⟩ := R.at h3
      have go : wpAny (model P w) A (searchRest a (.ref x) (thash P w k) true f es t (way t.mask (thash P w k) c') i (stp t.mask (thash P w k) (c' + 1))) Q E s := by
        unfold searchRest
        rw [R.entry hp]
        dsimp only
        refine wpAny_bind (wpAny_holding (wpAny_eqBool_tuple hu (R.tup p mp) hx ?_))
        refine wpAny_bind (wpAny_setState_of ho hd R.fits ?_)
        dsimp only
        by_cases e : p.2 = k
        · exact wp_if_pos (by simp [e]) (wpAny_pure (hin (List.mem_map.mpr ⟨p, mp, e⟩)))
        · refine wp_if_neg (by simp [e]) ?_
          try refine wpAny_bind (wpAny_pure ?_)
          rw [sameMem]
          dsimp only
          have sl : t.slot (way t.mask (thash P w k) c') = .live i := slot_live R.tab.ris h3
          simp only [if_true, sl, R.entry hp]
          refine wpAny_bind (wpAny_isSame_ref_self (wpAny_bind (wpAny_pure ?_)))
          simp only [if_true]
          refine wp_if_neg (by simp [e]) (ih (c' + 1) _ rfl (by omega) (by omega) fun i0 p0 g0 gk => ?_)
          obtain ⟨c2, a1, a2, a3⟩ := hre i0 p0 g0 gk
          refine ⟨c2, ?_, a2, a3⟩
          rcases Nat.lt_trichotomy c2 c' with z | rfl | z
          · exact absurd ((R.hash g0).trans (congrArg (thash P w) gk)) (h4 c2 i0 a1 z a3)
          · have s0 := slot_live R.tab.ris a3
            rw [sl] at s0
            injection s0 with s0
            rw [← s0, hp] at g0
            exact absurd ((congrArg Prod.snd (Option.some.inj g0)).trans gk) e
          · exact z
      by_cases hl : t.led = true
      · refine wp_if_neg (by simp [hl]) ?_
        try refine wpAny_bind (wpAny_pure ?_)
        exact go
      · refine wp_if_pos (by simp [hl]) ?_
        refine wpAny_bind (seen_tup hx (fun y hy => ?_) ?_)
        · obtain ⟨r, hr, rfl⟩ := List.mem_map.mp hy
          have hr2 : r ∈ es.toList := by
            have : r ∈ es ∧ r.1 = thash P w k := by simpa using hr
            simpa using this.1
          rw [R.rows] at hr2
          obtain ⟨p2, m2, rfl⟩ := List.mem_map.mp hr2
          exact ⟨p2.2, p2.1, rfl, R.tup p2 m2⟩
        · refine wp_if_neg (by decide) ?_
          try refine wpAny_bind (wpAny_pure ?_)
          exact go
    · rw [h5]
      dsimp only
      refine wpAny_pure (hout fun hm => ?_)
      obtain ⟨p0, m0, k0⟩ := List.mem_map.mp hm
      obtain ⟨i0, g0⟩ := List.mem_iff_getElem?.mp m0
      obtain ⟨c2, a1, a2, a3⟩ := hre i0 p0 g0 k0
      exact h4 c2 i0 a1 a2 a3 ((R.hash g0).trans (congrArg (thash P w) k0))
theorem SetBR.search (R : SetBR P w s.heap a L es ep t) {x : Addr} {k : List Int} (hx : IsT P w s.heap k x) (hu : A.units < cLine) {Q : SetFound → Shared → Prop}
    (hin : k ∈ L.map (·.2) → Q (.there none) s)
    (hout : ∀ K, k ∉ L.map (·.2) → way t.mask (thash P w k) K ∉ t.place.toList → (∀ c, c < K → way t.mask (thash P w k) c ∈ t.place.toList) → Q (.free (way t.mask (thash P w k) K) false) s) :
    wpAny (model P w) A (setSearch a (.ref x) (thash P w k) true) Q E s := by
  have room := R.room
  obtain ⟨K, hKf, hK, hKb⟩ := R.tab.first (by rw [List.length_map]; omega) (thash P w k)
  have hbig : K < 100000 := by
    have : SetTable.turns t.mask ≤ 10000 := by
      unfold SetTable.turns
      rcases R.tab.mok with (e | e | e) | e <;> omega
    omega
  unfold setSearch
  refine R.from hx hu hKf hK hKb hin (fun hn => hout K hn hK hKb) 100000 0 none rfl (Nat.zero_le _) (by omega) fun i p hp hk => ?_
  have hl : i < t.place.toList.length := by
    rw [R.tab.len, List.length_map]
    exact (List.getElem?_eq_some_iff.mp hp).1
  have hj := List.getElem?_eq_getElem hl
  obtain ⟨c, hc, e⟩ := R.tab.before hK (by rw [List.getElem?_map, hp, ← hk]; rfl) hj
  exact ⟨c, Nat.zero_le _, hc, by rw [hj, e]⟩
end
end Fo
namespace Fo
open PySem PySem.Spec PyProof.Rows L2
/-! adding to such a set -/
section
variable {P : Program} {w : World} {A : Around} {E : Value → Shared → Prop} {s : Shared} {a : Addr} {L : List (Addr × List Int)} {es : Array (Int × Value)} {ep : Nat} {t : SetTable}
/-- what is to be a set again once its table is laid anew -/
structure Near (P : Program) (w : World) (h : Heap) (a : Addr) (L : List (Addr × List Int)) (es : Array (Int × Value)) (ep : Nat) (t : SetTable) : Prop where
  ob : ∃ o, h.get? a = some o ∧ o.ExactSet ∧ o.data = .set es ep t
  rows : es.toList = rowsOf P w L
  tab : TabB t (L.map fun p => thash P w p.2)
  nd : (L.map (·.2)).Nodup
  tup : ∀ p ∈ L, IsT P w h p.2 p.1
  plain : t.plain = true
  led : w.params.followText "set-order" = true ∨ t.led = true
  few : L.length < 300
theorem Near.relay (N : Near P w s.heap a L es ep t) (hin : L.length ≤ t.mask) {wanted M : Nat} (hw : SetTable.sizeAbove wanted - 1 = M) (hM : MaskB M) (hw2 : SetTable.sizeAbove wanted ≤ 512) (hn : L.length * 5 < M * 3) {Q : Unit → Shared → Prop}
    (hQ : ∀ h' L' es' ep' t', Heap.SameBut a s.heap h' → SetBR P w h' a L' es' ep' t' → L'.Perm L → Q () { s with heap := h' }) : wpAny (model P w) A (setRelay a wanted) Q E s := by
  obtain ⟨o, ho, hex, hd⟩ := N.ob
  have el : es.size = L.length := by
    rw [← Array.length_toList, N.rows]
    exact List.length_map _
  have ep1 : t.place.size = L.length := by rw [N.tab.sz, List.length_map]
  have hfits : t.fits es.size = true := by
    unfold SetTable.fits SetTable.fill
    rw [el, N.tab.dm, Bool.and_eq_true, beq_iff_eq, decide_eq_true_eq]
    exact ⟨ep1, by show t.place.size + 0 ≤ t.mask; omega⟩
  obtain ⟨t', order, e, hp, T, em, eled, epl⟩ := relaid_okB t (hs := es.map (·.1)) (wanted := wanted) hw hM (by rw [Array.size_map, el]; omega)
  rw [Array.size_map, el] at hp
  obtain ⟨L2, r1, r2, r3⟩ := order_rows L es order N.rows hp
  rw [← r3] at T
  have es2 : (order.filterMap (es[·]?)).size = es.size := by
    rw [← Array.length_toList, r1, el, ← r2.length_eq]
    exact List.length_map _
  rw [setRelay_eq]
  refine wpAny_bind (wpAny_setState_of ho hd hfits ?_)
  dsimp only
  refine wp_if_neg (by rw [sizeLine_eq]; omega) ?_
  try refine wpAny_bind (wpAny_pure ?_)
  rw [e]
  dsimp only
  refine wpAny_bind ?_
  refine wp_if_neg (by rw [es2]; simp) ?_
  try refine wpAny_bind (wpAny_pure ?_)
  refine wpAny_pure ?_
  dsimp only
  have few := N.few
  refine wpAny_storeSet_of ho hd ?_ (by rw [es2, el, sizeLine_eq]; omega)
  have sb : Heap.SameBut a s.heap (s.heap.update a (Obj.putSet (order.filterMap (es[·]?)) t')) := Heap.SameBut.update ..
  refine hQ _ L2 _ (ep + 1) t' sb ⟨⟨_, store_at ho hd, ⟨hex.1, hex.2.1, hex.2.2⟩, rfl⟩, r1, T, (r2.map (·.2)).nodup_iff.mpr N.nd, fun p m => isT_same (N.tup p (r2.mem_iff.mp m)) ho hd sb, by rw [epl]; exact N.plain, by rw [eled]; exact N.led, ?_, by rw [r2.length_eq]; exact few⟩ r2
  rw [r2.length_eq, em]
  exact hn
theorem SetBR.add (R : SetBR P w s.heap a L es ep t) {x : Addr} {k : List Int} (hx : IsT P w s.heap k x) (hu : A.units < cLine) (hfew : L.length + 1 < 300) {Q : Bool → Shared → Prop}
    (hQ : ∀ b h' L' es' ep' t', Heap.SameBut a s.heap h' → SetBR P w h' a L' es' ep' t' → (k ∈ L.map (·.2) → L' = L) → (k ∉ L.map (·.2) → L'.Perm ((x, k) :: L)) → Q b { s with heap := h' }) :
    wpAny (model P w) A (setAddHashed a (.ref x) (thash P w k)) Q E s := by
  obtain ⟨o, ho, hex, hd⟩ := R.ob
  have room := R.room
  unfold setAddHashed
  refine wpAny_holding ?_
  rw [show (100000 : Nat) = 99999 + 1 from rfl, setAddHashedIn_succ]
  refine wpAny_bind (wpAny_setState_of ho hd R.fits ?_)
  dsimp only
  refine wp_if_neg (by simp [byScan, Value.scannable]) ?_
  try refine wpAny_bind (wpAny_pure ?_)
  refine wpAny_bind (R.search hx hu (fun hm => ?_) fun K hm hK hb => ?_)
  · dsimp only
    exact wpAny_pure (hQ false s.heap L es ep t (Heap.SameBut.refl a s.heap) R (fun _ => rfl) fun z => absurd hm z)
  dsimp only
  refine wpAny_bind (wpAny_setState_of ho hd R.fits ?_)
  dsimp only
  generalize ej : way t.mask (thash P w k) K = j at hK
  obtain ⟨q2, q3, q9⟩ := R.tab.put ej hK hb
  have pl : (t.put j).1.plain = true := R.plain
  have ld : w.params.followText "set-order" = true ∨ (t.put j).1.led = true := R.led
  have mk : (t.put j).1.mask = t.mask := rfl
  have q1 : (t.put j).2 = SetTable.below t.place j := rfl
  generalize t.put j = pt at q1 q3 q9 pl ld mk ⊢
  obtain ⟨t1, p⟩ := pt
  dsimp only at q1 q3 q9 pl ld mk ⊢
  subst q1
  first
    | (refine wpAny_bind ?_; refine wp_if_pos pl ?_; refine hashBy_tup hx ?_)
    | refine wp_if_pos pl (wpAny_bind (hashBy_tup hx ?_))
  simp only [if_true]
  generalize SetTable.below t.place j = p at q2 q3 ⊢
  have rw1 : (SetTable.insertAt es p (thash P w k, Value.ref x)).toList = rowsOf P w (L.take p ++ (x, k) :: L.drop p) := by rw [SetTable.toList_insertAt, rows_put, R.rows]
  have pm := put_perm L p (x, k)
  rw [show (L.map fun p => thash P w p.2).take p ++ thash P w k :: (L.map fun p => thash P w p.2).drop p = (L.take p ++ (x, k) :: L.drop p).map (fun p => thash P w p.2) by rw [List.map_append, List.map_cons, List.map_take, List.map_drop]] at q3
  have nd1 : ((L.take p ++ (x, k) :: L.drop p).map (·.2)).Nodup := (pm.map (·.2)).nodup_iff.mpr (by rw [List.map_cons]; exact List.nodup_cons.mpr ⟨hm, R.nd⟩)
  generalize SetTable.insertAt es p (thash P w k, Value.ref x) = es1 at rw1 ⊢
  generalize L.take p ++ (x, k) :: L.drop p = L1 at pm q3 nd1 rw1
  have len1 : L1.length = L.length + 1 := pm.length_eq
  have es1l : es1.size = L.length + 1 := by
    rw [← Array.length_toList, rw1, ← len1]
    exact List.length_map _
  refine wpAny_bind (wpAny_storeSet_of ho hd ?_ (by rw [es1l, sizeLine_eq]; omega))
  have sb : Heap.SameBut a s.heap (s.heap.update a (Obj.putSet es1 t1)) := Heap.SameBut.update ..
  have ho1 := store_at (es' := es1) (t' := t1) ho hd
  generalize s.heap.update a (Obj.putSet es1 t1) = h1 at sb ho1 ⊢
  have N : Near P w h1 a L1 es1 (ep + 1) t1 := ⟨⟨_, ho1, ⟨hex.1, hex.2.1, hex.2.2⟩, rfl⟩, rw1, q3, nd1, fun p hp => by
    rcases List.mem_cons.mp (pm.mem_iff.mp hp) with rfl | hp
    · exact isT_same hx ho hd sb
    · exact isT_same (R.tup p hp) ho hd sb, pl, ld, by rw [len1]; exact hfew⟩
  rw [List.length_map] at q9
  by_cases hf : t1.tooFull = true
  · first
      | (refine wpAny_bind ?_; refine wp_if_pos (by simp [hf]) ?_)
      | (refine wp_if_pos (by simp [hf]) ?_; refine wpAny_bind ?_)
    have full : t1.fill * 5 ≥ t1.mask * 3 := by
      unfold SetTable.tooFull at hf
      exact of_decide_eq_true hf
    rw [q9, mk] at full
    have go : ∀ M, SetTable.sizeAbove (SetTable.grown (L.length + 1)) - 1 = M → MaskB M → SetTable.sizeAbove (SetTable.grown (L.length + 1)) ≤ 512 → (L.length + 1) * 5 < M * 3 →
        wpAny (model P w) A (setRelay a (SetTable.grown (es.size + 1))) (fun _ s' => wpAny (model P w) A (pure true) Q E s') E { s with heap := h1 } := fun M g1 g2 g3 g4 => by
      rw [R.size]
      refine Near.relay (s := { s with heap := h1 }) N (by rw [len1, mk]; omega) g1 g2 g3 (by rw [len1]; exact g4) fun h2 L2 es2 ep2 t2 sb2 R2 pm2 => ?_
      exact wpAny_pure (hQ true h2 L2 es2 ep2 t2 (sb.trans sb2) R2 (fun z => absurd z hm) fun _ => pm2.trans pm)
    rcases R.tab.mok with (e | e | e) | e
    · have e4 : L.length = 4 := by rw [e] at full room; omega
      exact go 31 (by rw [e4, size_20]) (.inl (.inr (.inl rfl))) (by rw [e4, size_20]; decide) (by omega)
    · have e4 : L.length = 18 := by rw [e] at full room; omega
      exact go 127 (by rw [e4, size_76]) (.inl (.inr (.inr rfl))) (by rw [e4, size_76]; decide) (by omega)
    · have e4 : L.length = 76 := by rw [e] at full room; omega
      exact go 511 (by rw [e4, size_77]) (.inr rfl) (by rw [e4, size_77]; decide) (by omega)
    · rw [e] at full
      omega
  · first
      | refine wp_if_neg (by simp [hf]) ?_
      | (refine wpAny_bind ?_; refine wp_if_neg (by simp [hf]) ?_; refine wpAny_pure ?_)
    have notf : ¬ (t1.fill * 5 ≥ t1.mask * 3) := fun z => hf (by unfold SetTable.tooFull; exact decide_eq_true z)
    rw [q9] at notf
    exact wpAny_pure (hQ true h1 L1 es1 (ep + 1) t1 sb ⟨N.ob, N.rows, N.tab, N.nd, N.tup, N.plain, N.led, by rw [len1]; omega, N.few⟩ (fun z => absurd z hm) fun _ => pm)
end
end Fo
namespace Fo
open PySem PySem.Spec PyProof.Rows L2
/-! such a set as a thing of the heap -/
structure SetB0 (P : Program) (w : World) (h : Heap) (a : Addr) (L : List (Addr × List Int)) : Prop where
  ex : ∃ (es : Array (Int × Value)) (ep : Nat) (t : SetTable), (∃ o, h.get? a = some o ∧ o.ExactSet ∧ o.data = .set es ep t) ∧ es.toList = rowsOf P w L ∧ TabB t (L.map fun p => thash P w p.2) ∧ (L.map (·.2)).Nodup ∧ t.plain = true ∧
    (w.params.followText "set-order" = true ∨ t.led = true) ∧ L.length * 5 < t.mask * 3 ∧ L.length < 300
def SetBO (P : Program) (w : World) (a : Addr) (L : List (Addr × List Int)) : HO := .ext fun h => SetB0 P w h a L
section
variable {P : Program} {w : World} {H : Hp} {h : Heap} {a : Addr} {L : List (Addr × List Int)} {es : Array (Int × Value)} {ep : Nat} {t : SetTable}
theorem SetBR.t0 (R : SetBR P w h a L es ep t) : SetB0 P w h a L := ⟨es, ep, t, R.ob, R.rows, R.tab, R.nd, R.plain, R.led, R.room, R.few⟩
theorem SetB0.full (R : SetB0 P w h a L) (ht : ∀ p ∈ L, IsT P w h p.2 p.1) : ∃ es ep t, SetBR P w h a L es ep t := by
  obtain ⟨es, ep, t, h1, h2, h3, h4, h5, h6, h7, h8⟩ := R.ex
  exact ⟨es, ep, t, h1, h2, h3, h4, ht, h5, h6, h7, h8⟩
theorem setBO_new (R : SetB0 P w h a L) : ObjOk P w H h a (SetBO P w a L) := by
  obtain ⟨es, ep, t, ⟨o, ho, r⟩, q⟩ := id R.ex
  refine ⟨R, ⟨o, ho⟩, fun h1 h2 p k => ?_⟩
  obtain ⟨es2, ep2, t2, ⟨o2, ho2, r2⟩, q2⟩ := SetB0.ex p
  exact ⟨es2, ep2, t2, ⟨o2, k o2 ho2, r2⟩, q2⟩
theorem setB_fresh (ho : h.get? a = some { cls := .type "set", dict := none, data := .set #[] 0 (.fresh 0 0 (!w.params.followText "set-order")) }) : SetB0 P w h a [] := by
  have R := setTR_fresh (P := P) ho
  exact ⟨_, _, _, R.ob, R.rows, .of R.tab, R.nd, R.plain, R.led, R.room, by decide⟩
end
end Fo
namespace Fo
open PySem PySem.Spec PyProof.Rows L2 PpSet
/-- what adding a tuple of ints to a set of such asks -/
def putT (P : Program) (w : World) (K : PySem.W.Frag) : Addr → V → Hp → (Hp → Prop) → Prop := fun D y G Nx => ∃ (b : Addr) (k : List Int) (L : List (Addr × List Int)), y = .ref b ∧ SqT K G b (k.map V.int) ∧ G D = some (SetBO P w D L) ∧ (∀ p ∈ L, SqT K G p.1 (p.2.map V.int)) ∧ L.length + 1 < 300 ∧
  ∀ L', (k ∈ L.map (·.2) → L' = L) → (k ∉ L.map (·.2) → L'.Perm ((b, k) :: L)) → Nx (upd G D (SetBO P w D L'))
theorem freshT (P : Program) (w : World) : FreshS P w (fun a => SetBO P w a []) := fun H h => setBO_new (setB_fresh (Heap.get?_push_size _ rfl))
theorem addT {P : Program} {w : World} {K : PySem.W.Frag} {A : Around} (hu : A.units + 64 < cLine) : AddS P w K A (putT P w K) := by
  rintro Y rfl rfl rfl rfl ps s σ G D y v Nx I rv ⟨b, k, L, rfl, hb, hD, hL, few, nx⟩
  cases (show v = Value.ref b from rv)
  have R0 : SetB0 Y.prog Y.w s.heap D L := (I.hok D _ hD).1
  obtain ⟨es, ep, t, R⟩ := R0.full fun p hp => I.isT (hL p hp)
  have hx := I.isT hb
  obtain ⟨o, ho, hex, _⟩ := R.ob
  refine wpAny_call_entry PySem.F.slot_set_add ⟨_, ho, hex.1⟩ PySem.F.entry_set_add ?_ (PySem.F.args_set_add_2 _ _)
  simp only [Builtin.«set.add», Builtin.Frozenset.oneOther, Builtin.Frozenset.addrOf, setAdd, List.isEmpty_nil, bind_assoc]
  have hu1 : Y.A.in1.units < cLine := by
    have : Y.A.in1.units ≤ Y.A.units + 63 := by
      rw [Around.in1_units]
      omega
    omega
  refine wpAny_bind (wpAny_pure (wpAny_bind (wpAny_pure (wpAny_bind (wpAny_holding (wpAny_bind (wpAny_pyHash_tuple hu1 hx ?_)))))))
  refine SetBR.add (s := { s with toks := s.toks + (k.length + 1) }) R hx hu1 few fun _ h' L' es' ep' t' sb R' c1 c2 => ?_
  have ex : ∃ u, h'.get? D = some u := by
    obtain ⟨u, hu', _⟩ := R'.ob
    exact ⟨u, hu'⟩
  refine wpAny_pure ⟨_, rfl, _, ?_, nx L' c1 c2⟩
  exact I.write (e := D) (t' := s.toks + (k.length + 1)) (by rw [hD]; trivial) (.inl rfl) (fun c u hc hu' => (sb.2 c hc).trans hu') ex (setBO_new R'.t0)
/-- len(s), s a set of tuples of ints -/
def rLenST (P : Program) (w : World) (K : PySem.W.Frag) : List V → Hp → VK → Prop := fun xs H Q => ∃ (p : Addr) (L : List (Addr × List Int)), xs = [.ref p] ∧ H p = some (SetBO P w p L) ∧ (∀ p ∈ L, SqT K H p.1 (p.2.map V.int)) ∧ Q (.int ((L.length : Nat) : Int)) H
theorem call_lenST {X : Cx} : CallR X (.builtin "len") (rLenST X.prog X.w X.K) := by
  intro ps s σ H xs us Q I r h
  obtain ⟨p, L, rfl, hp, hL, q⟩ := h
  rw [Vals.ref1 r]
  have R0 : SetB0 X.prog X.w s.heap p L := (I.hok p _ hp).1
  obtain ⟨es, ep, t, R⟩ := R0.full fun p hp => I.isT (hL p hp)
  obtain ⟨o, ho, hex, hd⟩ := R.ob
  have few := R.few
  have sz := R.size
  refine call_len_set ho hex hd R.fits (by rw [sz]; omega) ?_
  rw [sz]
  exact ⟨.int ((L.length : Nat) : Int), H, I.tok _, ⟨_, rfl⟩, q⟩
abbrev rTupOf (K : PySem.W.Frag) : List V → Hp → VK → Prop := fun xs H Q => ∃ p ys, xs = [.ref p] ∧ ((SqL K H p ys ∧ ∀ l, H l = none → Q (.ref l) (upd H l (.tup ys))) ∨ (SqT K H p ys ∧ Q (.ref p) H))
/-- a set comprehension of tuples over a list that stands still -/
theorem scT_list {P : Program} {w : World} {K : PySem.W.Frag} {a : Addr} {xs : List V} {g : TG} {tt : TT} {te : TE} {vs : List Nat} {σ : L2.St} {H1 : Hp} {D : Addr} {Qd : Hp → Prop} (Pv : Nat → Hp → Prop) (h0 : Pv 0 (upd H1 D (SetBO P w D [])))
    (hl : ∀ i G, i ≤ xs.length → Pv i G → SqL K G a xs)
    (hs : ∀ i x G, xs[i]? = some x → Pv i G → g x (wipe σ vs) G fun σ2 H2 => wipe σ2 vs = wipe σ vs ∧ tt σ2 H2 fun b H3 => if b = true then te σ2 H3 fun y H4 => putT P w K D y H4 (Pv (i + 1)) else Pv (i + 1) H3)
    (hd : ∀ G, Pv xs.length G → Qd G) :
    ∃ W : Nat → Nat → Hp → Prop, (∃ m, W 0 m (upd H1 D (SetBO P w D []))) ∧ ∀ i m G, W i m G → ((Itl K a).stop i G ∧ Qd G) ∨ ((Itl K a).go i G ∧ ∃ Nx : Hp → Prop, (∀ G', Nx G' → ∃ m', m' < m ∧ W (i + 1) m' G') ∧
      ∀ x G', (Itl K a).yld i G x G' → g x (wipe σ vs) G' fun σ2 H2 => wipe σ2 vs = wipe σ vs ∧ tt σ2 H2 fun b H3 => if b = true then te σ2 H3 fun y H4 => putT P w K D y H4 Nx else Nx H3) := by
  refine ⟨fun i m G => m = xs.length - i ∧ i ≤ xs.length ∧ Pv i G, ⟨xs.length, rfl, Nat.zero_le _, h0⟩, ?_⟩
  rintro i m G ⟨rfl, hi, p⟩
  have q := hl i G hi p
  by_cases c : i < xs.length
  · refine .inr ⟨⟨_, _, q, List.getElem?_eq_getElem c⟩, Pv (i + 1), fun G' p' => ⟨xs.length - (i + 1), by omega, rfl, c, p'⟩, fun x G' y => ?_⟩
    obtain ⟨rfl, z⟩ := y
    exact hs i x _ (z _ q) p
  · have e : i = xs.length := by omega
    subst e
    exact .inl ⟨⟨_, q, Nat.le_refl _⟩, hd G p⟩
end Fo
namespace Fo
open PySem PySem.Spec PyProof.Rows L2
/-! ### turned pairs, one after the other -/
def invR : List Int → Nat
  | [] => 0
  | x :: r => (r.filter (fun z => decide (z < x))).length + invR r
theorem rg_cons (n : Nat) : rg (n + 1) = 0 :: (rg n).map (· + 1) := by
  unfold rg
  rw [List.range_succ_eq_map, List.map_cons, List.map_map, List.map_map]
  rfl
theorem inv_NR : ∀ s : List Int, invN s = invR s
  | [] => rfl
  | x :: r => by
    have ih := inv_NR r
    unfold invN at ih ⊢
    rw [List.length_cons, rg_cons, sumN_cons, sumN_map]
    show cntL (x :: r) (0 : Int).toNat + _ = (r.filter (fun z => decide (z < x))).length + invR r
    rw [← ih]
    have e1 : cntL (x :: r) (0 : Int).toNat = (r.filter (fun z => decide (z < x))).length := rfl
    rw [e1]
    congr 1
    apply sumN_congr
    intro i hi
    have hb := rg_mem.mp hi
    obtain ⟨j, rfl⟩ : ∃ j : Nat, i = (j : Int) := ⟨i.toNat, by omega⟩
    rw [show ((j : Int) + 1).toNat = j + 1 by omega, Int.toNat_natCast]
    unfold cntL
    have e2 : g0 (x :: r) ((j + 1 : Nat) : Int) = g0 r (j : Int) := by
      unfold g0
      rw [Int.toNat_natCast, Int.toNat_natCast]
      rfl
    rw [e2]
    rfl
theorem filt_perm {a b : List Int} (h : a.Perm b) (p : Int → Bool) : (a.filter p).length = (b.filter p).length := (h.filter p).length_eq
theorem invR_at : ∀ (A : List Int) (a b : Int) (B : List Int), b < a → invR (A ++ a :: b :: B) = invR (A ++ b :: a :: B) + 1
  | [], a, b, B, h => by
    show ((b :: B).filter (fun z => decide (z < a))).length + ((B.filter (fun z => decide (z < b))).length + invR B) = ((a :: B).filter (fun z => decide (z < b))).length + ((B.filter (fun z => decide (z < a))).length + invR B) + 1
    rw [List.filter_cons, List.filter_cons, decide_eq_true h, decide_eq_false (show ¬ a < b by omega), if_pos rfl, if_neg (by decide), List.length_cons]
    omega
  | x :: A, a, b, B, h => by
    have ih := invR_at A a b B h
    show ((A ++ a :: b :: B).filter (fun z => decide (z < x))).length + invR (A ++ a :: b :: B) = ((A ++ b :: a :: B).filter (fun z => decide (z < x))).length + invR (A ++ b :: a :: B) + 1
    rw [ih, filt_perm (List.Perm.append_left A (List.Perm.swap b a B))]
    omega
theorem invR_sw {s : List Int} {p : Nat} {a b : Int} (ha : s[p]? = some a) (hb : s[p + 1]? = some b) (h : b < a) : invR s = invR (sw s p) + 1 := by
  have hl := (List.getElem?_eq_some_iff.mp hb).1
  obtain ⟨A, x, y, B, rfl, rfl⟩ := split2 hl
  have ex : x = a := by
    rw [List.getElem?_append_right (Nat.le_refl _), Nat.sub_self] at ha
    exact Option.some.inj ha
  have ey : y = b := by
    rw [List.getElem?_append_right (by omega), show A.length + 1 - A.length = 1 by omega] at hb
    exact Option.some.inj hb
  subst ex ey
  rw [sw_at, invR_at A x y B h]
def firstDesc : List Int → Option Nat
  | [] => none
  | [_] => none
  | x :: y :: r => if y < x then some 0 else (firstDesc (y :: r)).map (· + 1)
theorem fd_cons (x y : Int) (r : List Int) : firstDesc (x :: y :: r) = if y < x then some 0 else (firstDesc (y :: r)).map (· + 1) := by rw [firstDesc]
theorem fd_some : ∀ {s : List Int} {p : Nat} {a b : Int}, (∀ (j : Nat) (u v : Int), j < p → s[j]? = some u → s[j + 1]? = some v → u ≤ v) → s[p]? = some a → s[p + 1]? = some b → b < a → firstDesc s = some p
  | [], p, a, b, _, ha, _, _ => by simp at ha
  | [_], p, a, b, _, _, hb, _ => by simp at hb
  | x :: y :: r, 0, a, b, _, ha, hb, h => by
    have e1 : x = a := Option.some.inj ha
    have e2 : y = b := Option.some.inj hb
    rw [fd_cons, if_pos (by omega)]
  | x :: y :: r, p + 1, a, b, hl, ha, hb, h => by
    have h0 : x ≤ y := hl 0 x y (by omega) rfl rfl
    have ih := fd_some (s := y :: r) (p := p) (a := a) (b := b) (fun j u v hj hu hv => hl (j + 1) u v (by omega) hu hv) ha hb h
    rw [fd_cons, if_neg (by omega), ih]
    rfl
theorem fd_none : ∀ {s : List Int}, (∀ (j : Nat) (u v : Int), s[j]? = some u → s[j + 1]? = some v → u ≤ v) → firstDesc s = none
  | [], _ => rfl
  | [_], _ => rfl
  | x :: y :: r, hl => by
    have h0 : x ≤ y := hl 0 x y rfl rfl
    have ih := fd_none (s := y :: r) (fun j u v hu hv => hl (j + 1) u v hu hv)
    rw [fd_cons, if_neg (by omega), ih]
    rfl
theorem fd_at : ∀ {s : List Int} {p : Nat}, firstDesc s = some p → ∃ a b, s[p]? = some a ∧ s[p + 1]? = some b ∧ b < a ∧ ∀ (j : Nat) (u v : Int), j < p → s[j]? = some u → s[j + 1]? = some v → u ≤ v
  | [], p, h => by cases h
  | [_], p, h => by cases h
  | x :: y :: r, p, h => by
    rw [fd_cons] at h
    by_cases c : y < x
    · rw [if_pos c] at h
      cases h
      exact ⟨x, y, rfl, rfl, c, fun j u v hj => absurd hj (Nat.not_lt_zero _)⟩
    · rw [if_neg c] at h
      cases e : firstDesc (y :: r) with
      | none => rw [e] at h; cases h
      | some q =>
        rw [e] at h
        have ep : q + 1 = p := Option.some.inj h
        subst ep
        obtain ⟨a, b, ha, hb, hlt, hl⟩ := fd_at e
        refine ⟨a, b, ha, hb, hlt, fun j u v hj hu hv => ?_⟩
        cases j with
        | zero =>
          have e1 : x = u := Option.some.inj hu
          have e2 : y = v := Option.some.inj hv
          omega
        | succ j => exact hl j u v (by omega) hu hv
theorem fd_sorted : ∀ {s : List Int}, firstDesc s = none → s.Pairwise (· ≤ ·)
  | [], _ => List.Pairwise.nil
  | [_], _ => List.pairwise_singleton _ _
  | x :: y :: r, h => by
    rw [fd_cons] at h
    by_cases c : y < x
    · rw [if_pos c] at h; cases h
    · rw [if_neg c] at h
      have e : firstDesc (y :: r) = none := by
        cases e : firstDesc (y :: r) with
        | none => rfl
        | some q => rw [e] at h; cases h
      have ih := fd_sorted e
      refine List.Pairwise.cons (fun z hz => ?_) ih
      rcases List.mem_cons.mp hz with rfl | hz
      · omega
      · have := (List.pairwise_cons.mp ih).1 z hz
        omega
theorem invR_sorted : ∀ {s : List Int}, s.Pairwise (· ≤ ·) → invR s = 0
  | [], _ => rfl
  | x :: r, h => by
    obtain ⟨h1, h2⟩ := List.pairwise_cons.mp h
    show (r.filter (fun z => decide (z < x))).length + invR r = 0
    rw [invR_sorted h2, List.filter_eq_nil_iff.mpr (fun z hz => by
      have := h1 z hz
      simp
      omega)]
    rfl
theorem fd_pos {s : List Int} (h : 0 < invR s) : ∃ p, firstDesc s = some p := by
  cases e : firstDesc s with
  | none => rw [invR_sorted (fd_sorted e)] at h; omega
  | some p => exact ⟨p, rfl⟩
/-- the first of the shortest walks, of at most m places -/
def gw : Nat → List Int → List Int
  | 0, _ => []
  | m + 1, s => match firstDesc s with
    | none => []
    | some p => (p : Int) :: gw m (sw s p)
abbrev walkL (s : List Int) : List Int := gw (invR s) s
theorem walk_none {s : List Int} (h : firstDesc s = none) : walkL s = [] := by
  unfold walkL
  rw [invR_sorted (fd_sorted h)]
  rfl
theorem walk_some {s : List Int} {p : Nat} (h : firstDesc s = some p) : walkL s = (p : Int) :: walkL (sw s p) := by
  obtain ⟨a, b, ha, hb, hlt, _⟩ := fd_at h
  unfold walkL
  rw [invR_sw ha hb hlt, gw, h]
theorem walk_len : ∀ (m : Nat) (s : List Int), invR s = m → (walkL s).length = m
  | 0, s, h => by
    unfold walkL
    rw [h]
    rfl
  | m + 1, s, h => by
    obtain ⟨p, hp⟩ := fd_pos (s := s) (by omega)
    obtain ⟨a, b, ha, hb, hlt, _⟩ := fd_at hp
    rw [walk_some hp, List.length_cons, walk_len m (sw s p) (by have := invR_sw ha hb hlt; omega)]
theorem invR_len (s : List Int) : invR s ≤ s.length * s.length := by
  induction s with
  | nil => exact Nat.le_refl _
  | cons x r ih =>
    show (r.filter _).length + invR r ≤ (r.length + 1) * (r.length + 1)
    have h1 : (r.filter (fun z => decide (z < x))).length ≤ r.length := List.length_filter_le _ _
    have h2 : (r.length + 1) * (r.length + 1) = r.length * r.length + r.length + r.length + 1 := by
      rw [Nat.add_mul, Nat.mul_add]
      omega
    omega
theorem seats_sw {xs ys : List Int} {p : Nat} (h : p + 1 < xs.length) : seatsL (sw xs p) ys = sw (seatsL xs ys) p := by
  obtain ⟨A, a, b, B, rfl, rfl⟩ := split2 h
  rw [sw_at]
  unfold seatsL
  rw [List.map_append, List.map_cons, List.map_cons, List.map_append, List.map_cons, List.map_cons]
  have e := sw_at (A.map (pos ys)) (pos ys a) (pos ys b) (B.map (pos ys))
  rw [List.length_map] at e
  exact e.symm
theorem cut_sw {xs : List Int} {p : Nat} {a b : Int} (ha : xs[p]? = some a) (hb : xs[p + 1]? = some b) : xs.take p ++ [b, a] ++ xs.drop (p + 2) = sw xs p := by
  have hl := (List.getElem?_eq_some_iff.mp hb).1
  obtain ⟨A, x, y, B, rfl, rfl⟩ := split2 hl
  have ex : x = a := by
    rw [List.getElem?_append_right (Nat.le_refl _), Nat.sub_self] at ha
    exact Option.some.inj ha
  have ey : y = b := by
    rw [List.getElem?_append_right (by omega), show A.length + 1 - A.length = 1 by omega] at hb
    exact Option.some.inj hb
  subst ex ey
  rw [sw_at, List.take_left, List.drop_append, List.drop_of_length_le (by omega), show A.length + 2 - A.length = 2 by omega]
  simp
theorem filt_map (l : List Int) (f : Int → Int) (p : Int → Bool) : ((l.map f).filter p).length = (l.filter (fun x => p (f x))).length := by
  rw [List.filter_map, List.length_map]
  rfl
end Fo
namespace Fo
open PySem PySem.Spec PyProof.Rows L2
theorem pos_ord {n : Nat} {xs : List Int} (o : IsOrd n xs) : IsOrd n ((rg n).map (pos xs)) := by
  have h : ((rg n).map (pos xs)).Perm (seatsL xs xs) := List.Perm.map _ o.symm
  rw [seats_self o] at h
  exact h
theorem pos_in {n : Nat} {xs : List Int} (o : IsOrd n xs) {t : Int} (h : t ∈ rg n) : pos xs t ∈ rg n := by
  have := (pos_ord o).mem (List.mem_map.mpr ⟨t, h, rfl⟩)
  exact rg_mem.mpr this
theorem pos_inj {n : Nat} {xs : List Int} (o : IsOrd n xs) {t u : Int} (ht : t ∈ rg n) (hu : u ∈ rg n) (e : pos xs t = pos xs u) : t = u := by
  have h1 := rg_mem.mp ht
  have h2 := rg_mem.mp hu
  obtain ⟨i, _, ei, pi⟩ := pos_at o h1.1 h1.2
  obtain ⟨j, _, ej, pj⟩ := pos_at o h2.1 h2.2
  have : i = j := by omega
  subst this
  exact Option.some.inj (ei.symm.trans ej)
/-- a sum over the places is a sum over the things -/
theorem sum_pos {n : Nat} {xs : List Int} (o : IsOrd n xs) (f : Int → Nat) : sumN (rg n) f = sumN (rg n) fun t => f (pos xs t) := by
  have e : sumN ((rg n).map (pos xs)) f = sumN (rg n) fun t => f (pos xs t) := sumN_map _ _ _
  rw [← e]
  exact (sumN_perm (pos_ord o) f).symm
theorem sum_g0 {n : Nat} {xs : List Int} (o : IsOrd n xs) (f : Int → Nat) : sumN (rg n) f = sumN (rg n) fun p => f (g0 xs p) := by
  have e : sumN ((rg n).map (g0 xs)) f = sumN (rg n) fun t => f (g0 xs t) := sumN_map _ _ _
  rw [← e, ← g0_ord o]
  exact (sumN_perm o f).symm
theorem g0_pos {n : Nat} {xs : List Int} (o : IsOrd n xs) {t : Int} (h : t ∈ rg n) : g0 xs (pos xs t) = t := by
  have h1 := rg_mem.mp h
  obtain ⟨j, _, ej, pj⟩ := pos_at o h1.1 h1.2
  rw [pj]
  exact g0_at ej
theorem pos_g0 {n : Nat} {xs : List Int} (o : IsOrd n xs) {p : Int} (h : p ∈ rg n) : pos xs (g0 xs p) = p := by
  have h1 := rg_mem.mp h
  obtain ⟨x, hx, _⟩ := ord_ix o (j := p.toNat) (by omega)
  have e := g0_at hx
  rw [Int.toNat_of_nonneg h1.1] at e
  rw [e, pos_of o hx]
  omega
theorem g0_in {n : Nat} {xs : List Int} (o : IsOrd n xs) {p : Int} (h : p ∈ rg n) : g0 xs p ∈ rg n := by
  have h1 := rg_mem.mp h
  obtain ⟨x, hx, x0, x1⟩ := ord_ix o (j := p.toNat) (by omega)
  have e := g0_at hx
  rw [Int.toNat_of_nonneg h1.1] at e
  rw [e]
  exact rg_mem.mpr ⟨x0, x1⟩
end Fo
namespace Fo
open PySem PySem.Spec PyProof.Rows L2
/-! ### how far, by things -/
theorem sumN_le {l : List Int} {f g : Int → Nat} (h : ∀ x ∈ l, f x ≤ g x) : sumN l f ≤ sumN l g := by
  induction l with
  | nil => exact Nat.le_refl _
  | cons a l ih =>
    rw [sumN_cons, sumN_cons]
    have h1 := h a List.mem_cons_self
    have h2 := ih fun x hx => h x (List.mem_cons_of_mem _ hx)
    omega
theorem sumN_one {l : List Int} {f : Int → Nat} {x : Int} (h : x ∈ l) : f x ≤ sumN l f := by
  induction l with
  | nil => exact absurd h List.not_mem_nil
  | cons a l ih =>
    rw [sumN_cons]
    rcases List.mem_cons.mp h with rfl | h
    · omega
    · have := ih h
      omega
theorem ind_le {a : Bool} {n : Nat} (h : a = true → 1 ≤ n) : ind a ≤ n := by
  unfold ind
  cases a
  · exact Nat.zero_le _
  · exact h rfl
theorem ind_true {a : Bool} (h : a = true) : ind a = 1 := by rw [h]; rfl
theorem g0_seats {n : Nat} {xs ys : List Int} (o : IsOrd n xs) {p : Int} (h : p ∈ rg n) : g0 (seatsL xs ys) p = pos ys (g0 xs p) := by
  have h1 := rg_mem.mp h
  obtain ⟨x, hx, _⟩ := ord_ix o (j := p.toNat) (by omega)
  have e := g0_at hx
  have e2 := g0_at (seats_at (ys := ys) hx)
  rw [Int.toNat_of_nonneg h1.1] at e e2
  rw [e, e2]
def dT (xs ys : List Int) (t u : Int) : Nat := ind (decide (pos xs t < pos xs u) && decide (pos ys u < pos ys t))
def swT (n : Nat) (xs ys : List Int) : Nat := sumN (rg n) fun t => sumN (rg n) fun u => dT xs ys t u
def spT (n : Nat) (xs ys : List Int) : Nat := sumN (rg n) fun t => ind (!decide (pos xs t = pos ys t))
def shL (n : Nat) (xs ys : List Int) : List Int := (rg n).map fun t => absI (pos xs t - pos ys t)
theorem swap_T {n : Nat} {xs ys : List Int} (ox : IsOrd n xs) (oy : IsOrd n ys) : farSwap xs ys = ((swT n xs ys : Nat) : Int) := by
  unfold farSwap
  rw [inv_eq, seats_len, ox.len]
  unfold invF swT
  congr 1
  rw [sum_pos ox]
  apply sumN_congr
  intro t ht
  rw [sum_pos ox]
  apply sumN_congr
  intro u hu
  unfold dT
  rw [g0_seats ox (pos_in ox ht), g0_seats ox (pos_in ox hu), g0_pos ox ht, g0_pos ox hu]
theorem spot_T {n : Nat} {xs ys : List Int} (ox : IsOrd n xs) (oy : IsOrd n ys) : farSpot xs ys = ((spT n xs ys : Nat) : Int) := by
  unfold farSpot spotL spT
  rw [filter_len, ox.len]
  congr 1
  rw [sum_g0 ox (fun t => ind (!decide (pos xs t = pos ys t)))]
  apply sumN_congr
  intro p hp
  rw [pos_g0 ox hp]
  by_cases c : g0 xs p = g0 ys p
  · rw [decide_eq_true c, c, pos_g0 oy hp, decide_eq_true rfl]
  · have d : ¬ (p = pos ys (g0 xs p)) := fun e => c (by
      have := g0_pos oy (g0_in ox hp)
      rw [← e] at this
      exact this.symm)
    rw [decide_eq_false c, decide_eq_false d]
theorem shift_mem {n : Nat} {xs ys : List Int} (ox : IsOrd n xs) : ∀ g, g ∈ gapsL xs ys ↔ g ∈ shL n xs ys := by
  intro g
  unfold gapsL shL
  rw [ox.len, List.mem_map, List.mem_map]
  constructor
  · rintro ⟨p, hp, rfl⟩
    exact ⟨g0 xs p, g0_in ox hp, by rw [pos_g0 ox hp, g0_seats ox hp]⟩
  · rintro ⟨t, ht, rfl⟩
    exact ⟨pos xs t, pos_in ox ht, by rw [g0_seats ox (pos_in ox ht), g0_pos ox ht]⟩
theorem shift_T {n : Nat} {xs ys : List Int} (ox : IsOrd n xs) (hn : 1 ≤ n) : (∃ t ∈ rg n, farShift xs ys = absI (pos xs t - pos ys t)) ∧ ∀ t ∈ rg n, absI (pos xs t - pos ys t) ≤ farShift xs ys := by
  obtain ⟨h1, h2⟩ := maxL_mem (gaps_nonneg xs ys) (by rw [gaps_len, ox.len]; exact hn)
  constructor
  · obtain ⟨t, ht, e⟩ := List.mem_map.mp ((shift_mem ox _).mp h1)
    exact ⟨t, ht, e.symm⟩
  · intro t ht
    exact h2 _ ((shift_mem ox _).mpr (List.mem_map.mpr ⟨t, ht, rfl⟩))
theorem shift_of {n : Nat} {xs ys : List Int} {m : Int} (ox : IsOrd n xs) (h : ∃ t ∈ rg n, m = absI (pos xs t - pos ys t)) (hle : ∀ t ∈ rg n, absI (pos xs t - pos ys t) ≤ m) : farShift xs ys = m := by
  obtain ⟨t, ht, e⟩ := h
  refine maxL_of (gaps_nonneg xs ys) ((shift_mem ox _).mpr (List.mem_map.mpr ⟨t, ht, e.symm⟩)) fun x hx => ?_
  obtain ⟨u, hu, rfl⟩ := List.mem_map.mp ((shift_mem ox _).mp hx)
  exact hle u hu
/-! ### alike just where 0 -/
theorem invR_zero : ∀ {s : List Int}, invR s = 0 → s.Pairwise (· ≤ ·)
  | [], _ => List.Pairwise.nil
  | x :: r, h => by
    have h' : (r.filter (fun z => decide (z < x))).length + invR r = 0 := h
    refine List.Pairwise.cons (fun z hz => ?_) (invR_zero (by omega))
    have e : r.filter (fun z => decide (z < x)) = [] := List.eq_nil_of_length_eq_zero (by omega)
    have := List.filter_eq_nil_iff.mp e z hz
    simp at this
    exact this
theorem same_of_pos {n : Nat} {xs ys : List Int} (ox : IsOrd n xs) (oy : IsOrd n ys) (h : ∀ p ∈ rg n, pos ys (g0 xs p) = p) : xs = ys := by
  rw [g0_ord ox, g0_ord oy]
  apply List.map_congr_left
  intro p hp
  have e := g0_pos oy (g0_in ox hp)
  rw [h p hp] at e
  exact e.symm
theorem farW_zero {w : Str} {n : Nat} {xs ys : List Int} (hw : IsWay w) (ox : IsOrd n xs) (oy : IsOrd n ys) (hn : 1 ≤ n) (h : farW w xs ys = 0) : xs = ys := by
  rcases hw with rfl | rfl | rfl
  · rw [farW_swap] at h
    unfold farSwap at h
    rw [inv_NR] at h
    have hs := invR_zero (s := seatsL xs ys) (by omega)
    have e := sorted_eq (seats_ord ox oy) hs (rg_sorted n)
    refine same_of_pos ox oy fun p hp => ?_
    rw [← g0_seats ox hp, e]
    have h1 := rg_mem.mp hp
    have z : (rg n)[p.toNat]? = some p := by
      unfold rg
      rw [List.getElem?_map, List.getElem?_range (by omega)]
      show some ((p.toNat : Nat) : Int) = some p
      rw [Int.toNat_of_nonneg h1.1]
    have z2 := g0_at z
    rw [Int.toNat_of_nonneg h1.1] at z2
    exact z2
  · rw [farW_spot] at h
    unfold farSpot spotL at h
    have e : ((rg xs.length).filter fun p => !decide (g0 xs p = g0 ys p)) = [] := List.eq_nil_of_length_eq_zero (by omega)
    rw [g0_ord ox, g0_ord oy]
    apply List.map_congr_left
    intro p hp
    have := List.filter_eq_nil_iff.mp e p (by rw [ox.len]; exact hp)
    simpa using this
  · rw [farW_shift] at h
    have h2 := (shift_T (ys := ys) ox hn).2
    rw [h] at h2
    refine same_of_pos ox oy fun p hp => ?_
    have := h2 _ (g0_in ox hp)
    rw [pos_g0 ox hp] at this
    unfold absI at this
    split at this <;> omega
/-! ### by a third one never shorter -/
theorem farW_third {w : Str} {n : Nat} {xs ys zs : List Int} (hw : IsWay w) (ox : IsOrd n xs) (oy : IsOrd n ys) (oz : IsOrd n zs) (hn : 1 ≤ n) : farW w xs ys ≤ farW w xs zs + farW w zs ys := by
  rcases hw with rfl | rfl | rfl
  · rw [farW_swap, farW_swap, farW_swap, swap_T ox oy, swap_T ox oz, swap_T oz oy]
    have : swT n xs ys ≤ swT n xs zs + swT n zs ys := by
      unfold swT
      rw [← sumN_add]
      apply sumN_le
      intro t ht
      rw [← sumN_add]
      apply sumN_le
      intro u hu
      unfold dT
      apply ind_le
      intro h
      rw [Bool.and_eq_true] at h
      have h1 := of_decide_eq_true h.1
      have h2 := of_decide_eq_true h.2
      by_cases c : pos zs u < pos zs t
      · rw [ind_true (by rw [decide_eq_true h1, decide_eq_true c]; rfl)]
        omega
      · have ne : pos zs t ≠ pos zs u := fun e => by
          have := pos_inj oz ht hu e
          subst this
          omega
        rw [ind_true (a := decide (pos zs t < pos zs u) && decide (pos ys u < pos ys t)) (by rw [decide_eq_true (show pos zs t < pos zs u by omega), decide_eq_true h2]; rfl)]
        omega
    omega
  · rw [farW_spot, farW_spot, farW_spot, spot_T ox oy, spot_T ox oz, spot_T oz oy]
    have : spT n xs ys ≤ spT n xs zs + spT n zs ys := by
      unfold spT
      rw [← sumN_add]
      apply sumN_le
      intro t _
      apply ind_le
      intro h
      by_cases c : pos xs t = pos zs t
      · have d : ¬ (pos zs t = pos ys t) := fun e => by
          rw [c, e] at h
          simp at h
        rw [ind_true (a := !decide (pos zs t = pos ys t)) (by rw [decide_eq_false d]; rfl)]
        omega
      · rw [ind_true (a := !decide (pos xs t = pos zs t)) (by rw [decide_eq_false c]; rfl)]
        omega
    omega
  · rw [farW_shift, farW_shift, farW_shift]
    obtain ⟨t, ht, e⟩ := (shift_T (ys := ys) ox hn).1
    have h1 := (shift_T (ys := zs) ox hn).2 t ht
    have h2 := (shift_T (ys := ys) oz hn).2 t ht
    rw [e]
    unfold absI at h1 h2 ⊢
    split at h1 <;> split at h2 <;> split <;> omega
/-! ### called otherwise, and from behind -/
/-- two pairs of orders whose things stand alike -/
theorem farW_called {w : Str} {n : Nat} {xs ys xs' ys' : List Int} {r : Int → Int} (hw : IsWay w) (ox : IsOrd n xs) (oy : IsOrd n ys) (ox' : IsOrd n xs') (oy' : IsOrd n ys') (hn : 1 ≤ n) (hr : IsOrd n ((rg n).map r)) (h1 : ∀ t ∈ rg n, pos xs' (r t) = pos xs t) (h2 : ∀ t ∈ rg n, pos ys' (r t) = pos ys t) : farW w xs' ys' = farW w xs ys := by
  have sr : ∀ f : Int → Nat, sumN (rg n) f = sumN (rg n) fun t => f (r t) := fun f => by
    have e : sumN ((rg n).map r) f = sumN (rg n) fun t => f (r t) := sumN_map _ _ _
    rw [← e]
    exact (sumN_perm hr f).symm
  have rin : ∀ t ∈ rg n, r t ∈ rg n := fun t ht => rg_mem.mpr (hr.mem (List.mem_map.mpr ⟨t, ht, rfl⟩))
  have ron : ∀ t' ∈ rg n, ∃ t ∈ rg n, r t = t' := fun t' ht' => List.mem_map.mp ((List.Perm.mem_iff hr).mpr ht')
  rcases hw with rfl | rfl | rfl
  · rw [farW_swap, farW_swap, swap_T ox' oy', swap_T ox oy]
    congr 1
    unfold swT
    rw [sr]
    apply sumN_congr
    intro t ht
    rw [sr]
    apply sumN_congr
    intro u hu
    unfold dT
    rw [h1 t ht, h1 u hu, h2 t ht, h2 u hu]
  · rw [farW_spot, farW_spot, spot_T ox' oy', spot_T ox oy]
    congr 1
    unfold spT
    rw [sr]
    apply sumN_congr
    intro t ht
    rw [h1 t ht, h2 t ht]
  · rw [farW_shift, farW_shift]
    obtain ⟨⟨t, ht, e⟩, hle⟩ := shift_T (ys := ys) ox hn
    refine shift_of ox' ⟨r t, rin t ht, by rw [h1 t ht, h2 t ht]; exact e⟩ fun t' ht' => ?_
    obtain ⟨u, hu, rfl⟩ := ron t' ht'
    rw [h1 u hu, h2 u hu]
    exact hle u hu
theorem behind_ord {n : Nat} {ns ms : List Int} (o1 : IsOrd n ns) (o2 : IsOrd n ms) : IsOrd n (behindL ns ms) := by
  have h : (behindL ns ms).Perm ((rg n).map (g0 ns)) := List.Perm.map _ o2
  rw [← g0_ord o1] at h
  exact h.trans o1
theorem behind_pos {n : Nat} {zs xs : List Int} (oz : IsOrd n zs) (ox : IsOrd n xs) : ∀ t ∈ rg n, pos (behindL zs xs) (g0 zs t) = pos xs t := by
  intro t ht
  have h1 := rg_mem.mp ht
  obtain ⟨j, _, ej, pj⟩ := pos_at ox h1.1 h1.2
  obtain ⟨z, hz, _⟩ := ord_ix oz (j := t.toNat) (by omega)
  have e := g0_at hz
  rw [Int.toNat_of_nonneg h1.1] at e
  rw [e, pj]
  exact pos_of (behind_ord oz ox) (behind_at ej hz)
theorem rev_pos {n : Nat} {xs : List Int} (ox : IsOrd n xs) : ∀ t ∈ rg n, pos xs.reverse t = (n : Int) - 1 - pos xs t := by
  intro t ht
  have h1 := rg_mem.mp ht
  obtain ⟨j, hj, ej, pj⟩ := pos_at ox h1.1 h1.2
  have hl := ox.len
  have er : xs.reverse[n - 1 - j]? = some t := by
    rw [List.getElem?_reverse (by omega), hl, show n - 1 - (n - 1 - j) = j by omega]
    exact ej
  rw [pj, pos_of (n := n) ((List.reverse_perm xs).trans ox) er]
  omega
theorem farW_rev {w : Str} {n : Nat} {xs ys : List Int} (hw : IsWay w) (ox : IsOrd n xs) (oy : IsOrd n ys) (hn : 1 ≤ n) : farW w xs.reverse ys.reverse = farW w xs ys := by
  have ox' : IsOrd n xs.reverse := (List.reverse_perm xs).trans ox
  have oy' : IsOrd n ys.reverse := (List.reverse_perm ys).trans oy
  rcases hw with rfl | rfl | rfl
  · rw [farW_swap, farW_swap, swap_T ox' oy', swap_T ox oy]
    congr 1
    unfold swT
    rw [sumN_swap]
    apply sumN_congr
    intro t ht
    apply sumN_congr
    intro u hu
    unfold dT
    rw [rev_pos ox u hu, rev_pos ox t ht, rev_pos oy u hu, rev_pos oy t ht]
    congr 1
    congr 1
    · by_cases c : pos xs t < pos xs u
      · rw [decide_eq_true c, decide_eq_true (by omega)]
      · rw [decide_eq_false c, decide_eq_false (by omega)]
    · by_cases c : pos ys u < pos ys t
      · rw [decide_eq_true c, decide_eq_true (by omega)]
      · rw [decide_eq_false c, decide_eq_false (by omega)]
  · rw [farW_spot, farW_spot, spot_T ox' oy', spot_T ox oy]
    congr 1
    unfold spT
    apply sumN_congr
    intro t ht
    rw [rev_pos ox t ht, rev_pos oy t ht]
    by_cases c : pos xs t = pos ys t
    · rw [decide_eq_true c, decide_eq_true (by omega)]
    · rw [decide_eq_false c, decide_eq_false (by omega)]
  · rw [farW_shift, farW_shift]
    have ea : ∀ t ∈ rg n, absI (pos xs.reverse t - pos ys.reverse t) = absI (pos xs t - pos ys t) := fun t ht => by
      rw [rev_pos ox t ht, rev_pos oy t ht]
      unfold absI
      split <;> split <;> omega
    obtain ⟨⟨t, ht, e⟩, hle⟩ := shift_T (ys := ys) ox hn
    exact shift_of ox' ⟨t, ht, by rw [ea t ht]; exact e⟩ fun u hu => by rw [ea u hu]; exact hle u hu
/-! ### how far at most -/
theorem invR_two (s : List Int) : 2 * invR s + s.length ≤ s.length * s.length := by
  induction s with
  | nil => exact Nat.le_refl _
  | cons x r ih =>
    show 2 * ((r.filter _).length + invR r) + (r.length + 1) ≤ (r.length + 1) * (r.length + 1)
    have h1 : (r.filter (fun z => decide (z < x))).length ≤ r.length := List.length_filter_le _ _
    have h2 : (r.length + 1) * (r.length + 1) = r.length * r.length + r.length + r.length + 1 := by
      rw [Nat.add_mul, Nat.mul_add]
      omega
    omega
theorem swap_most {n : Nat} {xs ys : List Int} (ox : IsOrd n xs) : 2 * farSwap xs ys ≤ (n : Int) * ((n : Int) - 1) := by
  unfold farSwap
  rw [inv_NR]
  have h := invR_two (seatsL xs ys)
  rw [seats_len, ox.len] at h
  have e : (n : Int) * ((n : Int) - 1) = ((n * n : Nat) : Int) - (n : Int) := by
    rw [Int.mul_sub, Int.mul_one, Int.natCast_mul]
  rw [e]
  omega
theorem spot_most {n : Nat} {xs ys : List Int} (ox : IsOrd n xs) : farSpot xs ys ≤ n := by
  unfold farSpot spotL
  rw [ox.len]
  have h := List.length_filter_le (fun p => !decide (g0 xs p = g0 ys p)) (rg n)
  rw [rg_len] at h
  omega
theorem spot_one {n : Nat} {xs ys : List Int} (ox : IsOrd n xs) (oy : IsOrd n ys) : farSpot xs ys ≠ 1 := by
  intro h
  unfold farSpot at h
  obtain ⟨p, hp⟩ := List.length_eq_one_iff.mp (show (spotL xs ys).length = 1 by omega)
  have mem : ∀ q, q ∈ spotL xs ys ↔ q ∈ rg n ∧ g0 xs q ≠ g0 ys q := fun q => by
    unfold spotL
    rw [List.mem_filter, ox.len]
    simp
  have hpm := (mem p).mp (by rw [hp]; exact List.mem_cons_self)
  have hq := pos_in oy (g0_in ox hpm.1)
  have e := g0_pos oy (g0_in ox hpm.1)
  have nq : pos ys (g0 xs p) ≠ p := fun z => hpm.2 (by rw [z] at e; exact e.symm)
  have same : g0 xs (pos ys (g0 xs p)) = g0 ys (pos ys (g0 xs p)) := by
    by_cases c : g0 xs (pos ys (g0 xs p)) = g0 ys (pos ys (g0 xs p))
    · exact c
    · have := (mem _).mpr ⟨hq, c⟩
      rw [hp] at this
      exact absurd (List.mem_singleton.mp this) nq
  rw [e] at same
  have e2 := pos_g0 ox hq
  rw [same, pos_g0 ox hpm.1] at e2
  exact nq e2.symm
theorem shift_most {n : Nat} {xs ys : List Int} (ox : IsOrd n xs) (oy : IsOrd n ys) (hn : 1 ≤ n) : farShift xs ys ≤ (n : Int) - 1 := by
  obtain ⟨t, ht, e⟩ := (shift_T (ys := ys) ox hn).1
  have h1 := rg_mem.mp (pos_in ox ht)
  have h2 := rg_mem.mp (pos_in oy ht)
  rw [e]
  unfold absI
  split <;> omega
theorem below_sum (n : Nat) : ∀ b : Nat, b ≤ n → sumN (rg n) (fun j => ind (decide (j < (b : Int)))) = b := by
  induction n with
  | zero => intro b hb; have : b = 0 := by omega
            subst this; rfl
  | succ n ih =>
    intro b hb
    rw [rg_succ, sumN_append, sumN_cons, sumN_nil]
    by_cases c : b = n + 1
    · subst c
      rw [sumN_congr (g := fun j => ind (decide (j < (n : Int)))) (fun j hj => by
        have := rg_mem.mp hj
        rw [decide_eq_true this.2, decide_eq_true (show j < ((n + 1 : Nat) : Int) by omega)]), ih n (Nat.le_refl _), ind_true (decide_eq_true (by omega))]
    · rw [ih b (by omega), decide_eq_false (show ¬ ((n : Int) < (b : Int)) by omega)]
      rfl
/-- so many others stand the other way round as a thing is shifted -/
theorem turned_most {n : Nat} {xs ys : List Int} (ox : IsOrd n xs) (oy : IsOrd n ys) {t : Int} (ht : t ∈ rg n) : pos ys t - pos xs t ≤ ((sumN (rg n) (fun u => dT xs ys t u) : Nat) : Int) := by
  have h1 := rg_mem.mp (pos_in ox ht)
  have h2 := rg_mem.mp (pos_in oy ht)
  have ea := below_sum n (pos xs t).toNat (by omega)
  have eb := below_sum n (pos ys t).toNat (by omega)
  rw [sum_pos ox] at ea
  rw [sum_pos oy] at eb
  rw [Int.toNat_of_nonneg h1.1] at ea
  rw [Int.toNat_of_nonneg h2.1] at eb
  have : sumN (rg n) (fun u => ind (decide (pos ys u < pos ys t))) ≤ sumN (rg n) (fun u => ind (decide (pos xs u < pos xs t))) + sumN (rg n) (fun u => dT xs ys t u) := by
    rw [← sumN_add]
    apply sumN_le
    intro u hu
    apply ind_le
    intro h
    have hlt := of_decide_eq_true h
    by_cases c : pos xs u < pos xs t
    · rw [ind_true (decide_eq_true c)]
      omega
    · have ne : pos xs t ≠ pos xs u := fun e => by
        have := pos_inj ox ht hu e
        subst this
        omega
      unfold dT
      rw [ind_true (a := decide (pos xs t < pos xs u) && decide (pos ys u < pos ys t)) (by rw [decide_eq_true (show pos xs t < pos xs u by omega), decide_eq_true hlt]; rfl)]
      omega
  omega
theorem dT_turn (xs ys : List Int) (t u : Int) : dT ys xs t u = dT xs ys u t := by
  unfold dT
  rw [Bool.and_comm]
theorem turned_abs {n : Nat} {xs ys : List Int} (ox : IsOrd n xs) (oy : IsOrd n ys) {t : Int} (ht : t ∈ rg n) : absI (pos xs t - pos ys t) ≤ ((sumN (rg n) (fun u => dT xs ys t u) : Nat) : Int) + ((sumN (rg n) (fun u => dT xs ys u t) : Nat) : Int) := by
  have h1 := turned_most ox oy ht
  have h2 := turned_most oy ox ht
  rw [sumN_congr (g := fun u => dT xs ys u t) (fun u _ => dT_turn xs ys t u)] at h2
  unfold absI
  split <;> omega
theorem shift_swap {n : Nat} {xs ys : List Int} (ox : IsOrd n xs) (oy : IsOrd n ys) (hn : 1 ≤ n) : farShift xs ys ≤ farSwap xs ys := by
  obtain ⟨t, ht, e⟩ := (shift_T (ys := ys) ox hn).1
  have h1 := turned_most ox oy ht
  have h2 := turned_most oy ox ht
  have b1 : sumN (rg n) (fun u => dT xs ys t u) ≤ swT n xs ys := sumN_one (f := fun t => sumN (rg n) fun u => dT xs ys t u) ht
  have b2 : sumN (rg n) (fun u => dT ys xs t u) ≤ swT n ys xs := sumN_one (f := fun t => sumN (rg n) fun u => dT ys xs t u) ht
  have e1 := swap_T ox oy
  have e2 := swap_T oy ox
  have e3 := farSwap_turn ox oy
  rw [e]
  unfold absI
  split <;> omega
theorem spot_swap {n : Nat} {xs ys : List Int} (ox : IsOrd n xs) (oy : IsOrd n ys) : farSpot xs ys ≤ 2 * farSwap xs ys := by
  rw [spot_T ox oy, swap_T ox oy]
  have : spT n xs ys ≤ swT n xs ys + swT n xs ys := by
    have e : swT n xs ys = sumN (rg n) fun t => sumN (rg n) fun u => dT xs ys u t := by
      unfold swT
      rw [sumN_swap]
    have e2 : swT n xs ys + swT n xs ys = sumN (rg n) fun t => sumN (rg n) (fun u => dT xs ys t u) + sumN (rg n) (fun u => dT xs ys u t) := by
      rw [sumN_add, ← e]
      rfl
    rw [e2]
    unfold spT
    apply sumN_le
    intro t ht
    apply ind_le
    intro h
    have ha := turned_abs ox oy ht
    have ne : ¬ (pos xs t = pos ys t) := fun z => by
      rw [z] at h
      simp at h
    unfold absI at ha
    split at ha <;> omega
  omega
/-! ### backs -/
theorem back_list {n : Nat} {ns ps : List Int} (o : IsOrd n ns) (h : IsBack ns ps) : ps = (rg n).map (pos ns) := by
  apply List.ext_getElem?
  intro t
  by_cases c : t < n
  · have e := back_pos o h (x := (t : Int)) (by omega) (by omega)
    rw [Int.toNat_natCast] at e
    rw [e]
    unfold rg
    rw [List.map_map, List.getElem?_map, List.getElem?_range c]
    rfl
  · rw [List.getElem?_eq_none (by rw [h.1, o.len]; omega), List.getElem?_eq_none (by rw [List.length_map, rg_len]; omega)]
theorem back_ord {n : Nat} {ns ps : List Int} (o : IsOrd n ns) (h : IsBack ns ps) : IsOrd n ps := by
  rw [back_list o h]
  exact pos_ord o
theorem back_g0 {n : Nat} {ns ps : List Int} (o : IsOrd n ns) (h : IsBack ns ps) : ∀ t ∈ rg n, g0 ps t = pos ns t := by
  intro t ht
  have h1 := rg_mem.mp ht
  have e := g0_at (back_pos o h h1.1 h1.2)
  rw [Int.toNat_of_nonneg h1.1] at e
  exact e
theorem back_back {n : Nat} {ns ps : List Int} (o : IsOrd n ns) (h : IsBack ns ps) : IsBack ps ns := by
  refine ⟨h.1.symm, fun j x hx => ?_⟩
  have hj := (List.getElem?_eq_some_iff.mp hx).1
  rw [h.1, o.len] at hj
  obtain ⟨i, hi, ei, pi⟩ := pos_at o (x := (j : Int)) (by omega) (by omega)
  have e := back_pos o h (x := (j : Int)) (by omega) (by omega)
  rw [Int.toNat_natCast, hx] at e
  have ex : x = (i : Int) := (Option.some.inj e).trans pi
  rw [ex, Int.toNat_natCast]
  exact ei
theorem spot_back {n : Nat} {xs ys ps qs : List Int} (ox : IsOrd n xs) (oy : IsOrd n ys) (hp : IsBack xs ps) (hq : IsBack ys qs) : farSpot ps qs = farSpot xs ys := by
  rw [spot_T ox oy]
  unfold farSpot spotL spT
  rw [filter_len, hp.1, ox.len]
  congr 1
  apply sumN_congr
  intro t ht
  rw [back_g0 ox hp t ht, back_g0 oy hq t ht]
theorem behind_back {n : Nat} {xs ps : List Int} (ox : IsOrd n xs) (hp : IsBack xs ps) : behindL xs ps = rg n := by
  rw [back_list ox hp]
  unfold behindL
  rw [List.map_map]
  have e : (rg n).map ((fun p => xs.getD p.toNat 0) ∘ pos xs) = (rg n).map (fun t => t) := List.map_congr_left fun t ht => g0_pos ox ht
  rw [e, List.map_id']
theorem behind_assoc {n : Nat} {xs ys zs : List Int} (ox : IsOrd n xs) (oy : IsOrd n ys) (oz : IsOrd n zs) : behindL (behindL xs ys) zs = behindL xs (behindL ys zs) := by
  apply List.ext_getElem?
  intro i
  by_cases c : i < n
  · obtain ⟨z, hz, z0, z1⟩ := ord_ix oz c
    obtain ⟨y, hy, y0, y1⟩ := ord_ix oy (j := z.toNat) (by omega)
    obtain ⟨x, hx, _⟩ := ord_ix ox (j := y.toNat) (by omega)
    rw [behind_at hz (behind_at hy hx), behind_at (behind_at hz hy) hx]
  · rw [List.getElem?_eq_none (by rw [behind_len, oz.len]; omega), List.getElem?_eq_none (by rw [behind_len, behind_len, oz.len]; omega)]
end Fo
namespace Fo
open PySem PySem.Spec PyProof.Rows L2
/-- those of rs that lie within r of xs -/
def thoseL (w : Str) (xs : List Int) (rs : List (List Int)) (r : Int) : List (List Int) := rs.filter fun o => decide (farW w xs o ≤ r)
/-- m is the least distance -/
def LeastF (w : Str) (xs : List Int) (rs : List (List Int)) (m : Int) : Prop := m ∈ rs.map (farW w xs) ∧ ∀ y ∈ rs.map (farW w xs), m ≤ y
def spNearest : Sp := fun vs H Q _ => ∃ (w : Str) (a l : Addr) (as : List Addr) (xs : List Int) (rs : List (List Int)) (n : Nat), vs = [.str w, .ref a, .ref l] ∧ IsWay w ∧ H a = some (.lst (xs.map V.int)) ∧ IsOrd n xs ∧ OL H l as rs n ∧ rs.Nodup ∧ 1 ≤ rs.length ∧ rs.length ≤ 120 ∧
  ∀ (t l' : Addr) (as' : List Addr) (m : Int) (H' : Hp), H t = none → H l' = none → (∀ a ∈ as', H a = none) → l' ∉ as' → LeastF w xs rs m → H' t = some (.tup [.int m, .ref l']) → OL H' l' as' (thoseL w xs rs m) n → Same H H' → Q (.ref t) H'
/-- what led_back tells -/
def LedAt (H' : Hp) (t : Addr) (fr : Addr → Prop) (ns : List (List Int)) : Prop :=
  (ns = [] ∧ H' t = some (.tup [.str "none"])) ∨ (∃ (o : List Int) (c : Addr), ns = [o] ∧ fr c ∧ H' t = some (.tup [.str "one", .ref c]) ∧ H' c = some (.lst (o.map V.int))) ∨
  ∃ (l' : Addr) (as' : List Addr), 2 ≤ ns.length ∧ fr l' ∧ (∀ a ∈ as', fr a) ∧ l' ∉ as' ∧ H' t = some (.tup [.str "several", .ref l']) ∧ H' l' = some (.lst (as'.map V.ref)) ∧ LL H' as' ns
def spLedBack : Sp := fun vs H Q _ => ∃ (w : Str) (a l : Addr) (as : List Addr) (xs : List Int) (rs : List (List Int)) (n : Nat) (e : Int), vs = [.str w, .ref a, .ref l, .int e] ∧ IsWay w ∧ H a = some (.lst (xs.map V.int)) ∧ IsOrd n xs ∧ OL H l as rs n ∧ rs.Nodup ∧ 1 ≤ rs.length ∧ rs.length ≤ 120 ∧ 0 ≤ e ∧
  ∀ (t : Addr) (H' : Hp), H t = none → LedAt H' t (fun b => H b = none) (thoseL w xs rs e) → Same H H' → Q (.ref t) H'
section
variable {P : Program} {w : World} {K : PySem.W.Frag} {mg : Str → Option Value} {base : Heap}
theorem scLedBack : FnScope ["way", "order", "orders", "e", "near"] ["way", "order", "orders", "e"] (defScope s_led_back) := ⟨rfl, rfl, rfl, by decide +kernel, rfl, by decide +kernel, by decide +kernel⟩
set_option maxHeartbeats 4000000 in
theorem ok_ledback {f f1 f2 f3 : Addr} {fd d1 d2 d3 : FuncData} {k : Nat} (T : Df K mg "led_back" s_led_back ["way", "order", "orders", "e"] f fd) (T_check_led : Df K mg "check_led" s_check_led ["way", "order", "orders"] f1 d1) (T_check_from : Df K mg "check_from" s_check_from ["thing", "least"] f2 d2) (T_those_within : Df K mg "those_within" s_those_within ["way", "order", "orders", "r"] f3 d3)
    (G_check_led : FnOk P w K mg base CX0 k f1 d1 ["way", "order", "orders"] spLed) (G_check_from : FnOk P w K mg base CX0 k f2 d2 ["thing", "least"] spFrom) (G_those_within : FnOk P w K mg base CX0 k f3 d3 ["way", "order", "orders", "r"] spThose) (B : Bi mg) : FnOk P w K mg base CX0 (k + 1) f fd ["way", "order", "orders", "e"] spLedBack := by
  refine T.F.ok scLedBack (fun vs H Q E h => ?_) (fun cdv A outer s H vs Q E hr h => ?_)
  · obtain ⟨wy, a, l, as, xs, rs, n, e, rfl, _⟩ := h
    rfl
  · obtain ⟨wy, a, l, as, xs, rs, n, e, rfl, hw, ha, ox, hO, nd, h1, h2, he, q⟩ := h
    have hal := hO.ll.len
    refine ⟨_, 
      (pss_cons (ps_expr (pe_call G_check_led hr (by rfl) T_check_led.g T_check_led.F.kp T_check_led.b .nil pass0 (pa_cons (pv 0) (pa_cons (pv 1) (pa_cons (pv 2) pa_nil)))))
      (pss_cons (ps_expr (pe_call G_check_from hr (by rfl) T_check_from.g T_check_from.F.kp T_check_from.b .nil pass0 (pa_cons (pv 3) (pa_cons pe_int pa_nil))))
      (pss_cons (ps_set (i := 4) scLedBack.nd rfl (.inl rfl) (pe_call G_those_within hr (by rfl) T_those_within.g T_those_within.F.kp T_those_within.b .nil pass0 (pa_cons (pv 0) (pa_cons (pv 1) (pa_cons (pv 2) (pa_cons (pv 3) pa_nil))))))
      (pss_cons (ps_if (pt_cmpR op_eq (pe_callB call_len_seq (by rfl) B.len PySem.boot_len (pa_cons (pv 4) pa_nil)) pe_int (nomark _))
        (pss_one (ps_ret (pe_tup (pa_cons pe_str pa_nil))))
        pss_nil)
      (pss_cons (ps_if (pt_cmpR op_eq (pe_callB call_len_seq (by rfl) B.len PySem.boot_len (pa_cons (pv 4) pa_nil)) pe_int (nomark _))
        (pss_one (ps_ret (pe_tup (pa_cons pe_str (pa_cons (pe_ix ix_list (pv 4) pe_int (fun _ _ => rfl)) pa_nil)))))
        pss_nil)
      (pss_one (ps_ret (pe_tup (pa_cons pe_str (pa_cons (pv 4) pa_nil)))))))))), ?_⟩
    refine ⟨_, rfl, _, rfl, _, rfl, wy, a, l, as, xs, rs, n, rfl, hw, ha, ox, hO, nd, h1, h2, fun H1 s1 => ?_⟩
    refine ⟨_, rfl, e, 0, rfl, he, ?_⟩
    refine ⟨_, rfl, _, rfl, _, rfl, _, rfl, wy, a, l, as, xs, rs, n, e, rfl, hw, s1 _ _ ha, ox, hO.same s1, by omega, fun l' as' H4 nl' nas' nin' hl' hLL' s4 => ?_⟩
    have s14 := s1.trans s4
    have el := hLL'.len
    have fr1 : H l' = none := s1.free nl'
    have fr2 : ∀ a ∈ as', H a = none := fun a ha => s1.free (nas' a ha)
    change LL H4 as' (thoseL wy xs rs e) at hLL'
    change as'.length = (thoseL wy xs rs e).length at el
    have hml : (as'.map V.ref).length = as'.length := List.length_map _
    generalize thoseL wy xs rs e = ns at hLL' el q
    refine ⟨_, rfl, l', _, rfl, .inl (SqL.of hl'), rfl, _, rfl, ite2 (fun c => ?_) (fun c => ?_)⟩
    · have z : V.int (((as'.map V.ref).length : Nat) : Int) = V.int 0 := of_decide_eq_true c
      have z2 : (((as'.map V.ref).length : Nat) : Int) = 0 := V.int.inj z
      refine ⟨line_small (by show 1 ≤ 16777216; decide), fun t nt => ?_⟩
      exact q t _ (s14.free nt) (.inl ⟨List.eq_nil_of_length_eq_zero (by omega), upd_same⟩) (s14.trans (same_new nt))
    have c1 : (((as'.map V.ref).length : Nat) : Int) ≠ 0 := fun z => c (decide_eq_true (congrArg V.int z))
    refine ⟨_, rfl, l', _, rfl, .inl (SqL.of hl'), rfl, _, rfl, ite2 (fun c => ?_) (fun c => ?_)⟩
    · have z : V.int (((as'.map V.ref).length : Nat) : Int) = V.int 1 := of_decide_eq_true c
      have z2 : (((as'.map V.ref).length : Nat) : Int) = 1 := V.int.inj z
      obtain ⟨a0, ea0⟩ : ∃ a0, as'[0]? = some a0 := ⟨as'[0]'(by omega), List.getElem?_eq_getElem (by omega)⟩
      obtain ⟨r0, er0, ha0⟩ := hLL'.get ea0
      refine ⟨_, rfl, l', _, 0, _, rfl, rfl, SqL.of hl', at_of (j := 0) rfl (ref_at ea0), line_small (by show 2 ≤ 16777216; decide), fun t nt => ?_⟩
      have s5 := same_new (o := .tup [.str "one", .ref a0]) nt
      refine q t _ (s14.free nt) (.inr (.inl ⟨r0, a0, ?_, fr2 _ (List.mem_of_getElem? ea0), upd_same, s5 _ _ ha0⟩)) (s14.trans s5)
      cases ns with
      | nil => cases er0
      | cons x t =>
        cases t with
        | nil =>
          have : x = r0 := Option.some.inj er0
          rw [this]
        | cons y t =>
          exfalso
          rw [List.length_cons, List.length_cons] at el
          omega
    · have c2 : (((as'.map V.ref).length : Nat) : Int) ≠ 1 := fun z => c (decide_eq_true (congrArg V.int z))
      refine ⟨_, rfl, line_small (by show 2 ≤ 16777216; decide), fun t nt => ?_⟩
      have s5 := same_new (o := .tup [.str "several", .ref l']) nt
      exact q t _ (s14.free nt) (.inr (.inr ⟨l', as', by omega, fr1, fr2, nin', upd_same, s5 _ _ hl', hLL'.same s5⟩)) (s14.trans s5)
end
end Fo
namespace Fo
open PySem PySem.Spec PyProof.Rows L2 PpSet
section
variable {P : Program} {w : World} {K : PySem.W.Frag} {mg : Str → Option Value} {base : Heap}
theorem scUnl : FnScope ["thing", "order"] ["thing"] (defScope s_is_unlike_list) := ⟨rfl, rfl, rfl, by decide +kernel, rfl, by decide +kernel, by decide +kernel⟩
set_option maxHeartbeats 4000000 in
theorem ok_unl {f f1 : Addr} {fd d1 : FuncData} {k : Nat} (T : Df K mg "is_unlike_list" s_is_unlike_list ["thing"] f fd) (T_is_order_list : Df K mg "is_order_list" s_is_order_list ["thing"] f1 d1) (G_is_order_list : FnOk P w K mg base CX0 k f1 d1 ["thing"] spOLst) (B : Bi mg) : FnOk P w K mg base CX0 (k + 1) f fd ["thing"] spUnl := by
  refine T.F.ok scUnl (fun vs H Q E h => ?_) (fun cdv A outer s H vs Q E hr h => ?_)
  · obtain ⟨l, as, rs, n, rfl, _⟩ := h
    rfl
  · obtain ⟨l, as, rs, n, rfl, hO, nd, hlen, q⟩ := h
    have hal := hO.ll.len
    have hml : (as.map V.ref).length = as.length := List.length_map _
    refine ⟨_, 
      (pss_one (ps_ret (pe_and (pe_call G_is_order_list hr (by rfl) T_is_order_list.g T_is_order_list.F.kp T_is_order_list.b .nil pass0 (pa_cons (pv 0) pa_nil)) (pe_one (pe_cmpR op_eq (pe_callB call_lenST (by rfl) B.len PySem.boot_len (pa_cons (pe_scG (freshT _ _) (addT hr.units) (own := [("order", 1)]) (g := (gName 1)) (tt := tYes) (te := (tCB (rTupOf K) (tCons (tVar 1) tNil))) rfl scUnl.nd (pi_list (pv 0)) (blkOk_by (N := ["thing", "order"]) (sc := defScope s_is_unlike_list) (by decide +kernel)) (fun _ _ _ _ _ => (pg_name (i := 1) scUnl.nd rfl (.inl rfl))) (fun _ _ _ _ _ => pts_nil) (fun _ _ _ _ _ => (pe_callTy call_tuple_of (by rfl) B.tuple (by decide +kernel) (pa_cons (pv 1) pa_nil)))) pa_nil)) (pe_callB call_len_seq (by rfl) B.len PySem.boot_len (pa_cons (pv 0) pa_nil)) (nomark _)))))), ?_⟩
    refine ⟨_, rfl, l, as, rs, n, rfl, hO, by omega, fun H1 s1 => ⟨_, rfl, iteT ?_⟩⟩
    have hO1 := hO.same s1
    refine ⟨_, rfl, l, rfl, ⟨_, SqL.of hO1.top⟩, fun D nD => ?_⟩
    refine scT_list (K := K) (a := l) (xs := as.map V.ref) (fun i G => ∃ L : List (Addr × List Int), G D = some (SetBO P w D L) ∧ (∀ p ∈ L, G p.1 = some (.tup (p.2.map V.int)) ∧ p.1 ≠ D) ∧ L.length = i ∧ (∀ p ∈ L, p.2 ∈ rs.take i) ∧ Same H1 G)
      ⟨[], upd_same, fun p hp => absurd hp List.not_mem_nil, rfl, fun p hp => absurd hp List.not_mem_nil, same_new nD⟩ (fun i G _ hP => by obtain ⟨_, _, _, _, _, sm⟩ := hP; exact SqL.of (sm _ _ hO1.top)) (fun i x G hx hP => ?_) (fun G hP => ?_)
    · obtain ⟨a, ea, rfl⟩ := ref_at_inv hx
      obtain ⟨L, hD, hL, hLl, hin, sm⟩ := hP
      obtain ⟨r, er, ha⟩ := (hO1.ll.same sm).get ea
      have hi := (List.getElem?_eq_some_iff.mp er).1
      refine ⟨rfl, _, rfl, a, _, rfl, .inl ⟨SqL.of ha, fun c nc => ?_⟩⟩
      have s4 := same_new (o := .tup (r.map V.int)) nc
      have ncD : c ≠ D := (ne_of_none hD nc).symm
      refine ⟨c, r, L, rfl, SqT.of upd_same, s4 _ _ hD, fun p hp => SqT.of (s4 _ _ (hL p hp).1), by omega, fun L' h1 h2 => ?_⟩
      have hnot : r ∉ L.map (·.2) := fun hm => by
        obtain ⟨p, hp, e⟩ := List.mem_map.mp hm
        have h3 := hin p hp
        rw [e] at h3
        obtain ⟨j, hj⟩ := List.getElem?_of_mem h3
        have hj2 := (List.getElem?_eq_some_iff.mp hj).1
        rw [List.length_take] at hj2
        rw [List.getElem?_take_of_lt (by omega)] at hj
        have hj3 := (List.getElem?_eq_some_iff.mp hj).1
        have e1 := (List.getElem?_eq_some_iff.mp hj).2
        have e2 := (List.getElem?_eq_some_iff.mp er).2
        exact absurd (e1.trans e2.symm) (List.pairwise_iff_getElem.mp nd j i hj3 hi (by omega))
      have hp' := h2 hnot
      refine ⟨L', upd_same, fun p hp => ?_, by rw [hp'.length_eq, List.length_cons, hLl], fun p hp => ?_, fun b o e => ?_⟩
      · rcases List.mem_cons.mp (hp'.mem_iff.mp hp) with e | e
        · rw [e]
          exact ⟨by rw [upd_ne ncD]; exact upd_same, ncD⟩
        · obtain ⟨u1, u2⟩ := hL p e
          exact ⟨by rw [upd_ne u2]; exact s4 _ _ u1, u2⟩
      · rw [take_more' er]
        rcases List.mem_cons.mp (hp'.mem_iff.mp hp) with e | e
        · rw [e]
          exact List.mem_append_right _ List.mem_cons_self
        · exact List.mem_append_left _ (hin p e)
      · rw [upd_ne (ne_of_none e nD)]
        exact s4 _ _ (sm _ _ e)
    · obtain ⟨L, hD, hL, hLl, hin, sm⟩ := hP
      refine ⟨D, L, rfl, hD, fun p hp => SqT.of (hL p hp).1, _, rfl, l, _, rfl, .inl (SqL.of (sm _ _ hO1.top)), rfl, ?_⟩
      rw [hLl, decide_eq_true rfl]
      exact q _ (s1.trans sm)
end
end Fo
namespace Fo
open PySem PySem.Spec PyProof.Rows L2
/-! ### all orders of few things -/
def extO (n : Nat) (o : List Int) : List (List Int) := ((rg n).filter fun t => !decide (t ∈ o)).map fun t => o ++ [t]
def allK (n : Nat) : Nat → List (List Int)
  | 0 => [[]]
  | k + 1 => (allK n k).flatMap (extO n)
theorem allK_row {n : Nat} : ∀ (k : Nat) (r : List Int), r ∈ allK n k → r.length = k ∧ r.Nodup ∧ ∀ x ∈ r, x ∈ rg n
  | 0, r, h => by
    rw [List.mem_singleton.mp h]
    exact ⟨rfl, List.nodup_nil, fun x hx => absurd hx List.not_mem_nil⟩
  | k + 1, r, h => by
    obtain ⟨o, ho, hr⟩ := List.mem_flatMap.mp h
    obtain ⟨h1, h2, h3⟩ := allK_row k o ho
    obtain ⟨t, ht, rfl⟩ := List.mem_map.mp hr
    obtain ⟨ht1, ht2⟩ := List.mem_filter.mp ht
    have hto : t ∉ o := by simpa using ht2
    refine ⟨by rw [List.length_append, h1]; rfl, ?_, fun x hx => ?_⟩
    · rw [List.nodup_append]
      refine ⟨h2, List.nodup_cons.mpr ⟨List.not_mem_nil, List.nodup_nil⟩, fun x hx y hy e => ?_⟩
      rw [List.mem_singleton.mp hy] at e
      exact hto (by rw [← e]; exact hx)
    · rcases List.mem_append.mp hx with hx | hx
      · exact h3 x hx
      · rw [List.mem_singleton.mp hx]
        exact ht1
theorem extO_len (n : Nat) (o : List Int) : (extO n o).length ≤ n := by
  unfold extO
  rw [List.length_map]
  have := List.length_filter_le (fun t => !decide (t ∈ o)) (rg n)
  rw [rg_len] at this
  exact this
theorem flat_len (n : Nat) : ∀ l : List (List Int), (l.flatMap (extO n)).length ≤ l.length * n
  | [] => Nat.zero_le _
  | o :: l => by
    rw [List.flatMap_cons, List.length_append, List.length_cons, Nat.add_mul, Nat.one_mul]
    have := flat_len n l
    have := extO_len n o
    omega
theorem allK_len {n : Nat} (hn : n ≤ 6) : ∀ k, k ≤ n → (allK n k).length ≤ 6 ^ k
  | 0, _ => Nat.le_refl _
  | k + 1, hk => by
    have ih := allK_len hn k (by omega)
    have h1 : (allK n (k + 1)).length ≤ (allK n k).length * n := flat_len n (allK n k)
    have h2 : (allK n k).length * n ≤ 6 ^ k * 6 := Nat.mul_le_mul ih hn
    rw [Nat.pow_succ]
    omega
theorem pow6 {k : Nat} (h : k ≤ 6) : 6 ^ k ≤ 46656 := by
  have : 6 ^ k ≤ 6 ^ 6 := Nat.pow_le_pow_right (by decide) h
  exact this
theorem nodup_count : ∀ {l : List Int}, l.Nodup → ∀ a, l.count a = if a ∈ l then 1 else 0
  | [], _, a => by simp
  | b :: l, h, a => by
    obtain ⟨h1, h2⟩ := List.nodup_cons.mp h
    have ih := nodup_count h2 a
    rw [List.count_cons, ih]
    by_cases c : b = a
    · subst c
      simp [h1]
    · have c2 : ¬ a = b := fun e => c e.symm
      simp [c, c2]
theorem nodup_ord {n : Nat} {s : List Int} (hl : s.length = n) (hn : s.Nodup) (hb : ∀ x ∈ s, x ∈ rg n) : IsOrd n s := by
  unfold IsOrd
  rw [List.perm_iff_count]
  intro a
  rw [nodup_count hn, nodup_count (rg_nodup n)]
  by_cases c : a ∈ s
  · rw [if_pos c, if_pos (hb a c)]
  · rw [if_neg c]
    by_cases d : a ∈ rg n
    · exfalso
      have := nodup_len (l := a :: s) (m := rg n) (List.nodup_cons.mpr ⟨c, hn⟩) fun x hx => by
        rcases List.mem_cons.mp hx with rfl | hx
        · exact d
        · exact hb x hx
      rw [List.length_cons, rg_len] at this
      omega
    · rw [if_neg d]
theorem all_ord {n : Nat} {r : List Int} (h : r ∈ allK n n) : IsOrd n r := by
  obtain ⟨h1, h2, h3⟩ := allK_row n r h
  exact nodup_ord h1 h2 h3
theorem inV_int (t : Int) : ∀ row : List Int, inV (.int t) (row.map V.int) = decide (t ∈ row)
  | [] => rfl
  | a :: r => by
    have ih := inV_int t r
    unfold inV at ih ⊢
    rw [List.map_cons, List.any_cons, ih, eqV_int]
    by_cases c : a = t
    · subst c
      simp
    · have c2 : ¬ t = a := fun e => c e.symm
      simp [c, c2]
theorem ext_more {n : Nat} {o : List Int} (j : Nat) : ((rg (j + 1)).filter fun t => !decide (t ∈ o)).map (fun t => o ++ [t]) = (((rg j).filter fun t => !decide (t ∈ o)).map fun t => o ++ [t]) ++ (if (j : Int) ∈ o then [] else [o ++ [(j : Int)]]) := by
  rw [rg_succ, List.filter_append, List.map_append, List.filter_cons]
  congr 1
  by_cases c : (j : Int) ∈ o
  · rw [decide_eq_true c, if_pos c]
    rfl
  · rw [decide_eq_false c, if_neg c]
    rfl
/-! ### comprehensions with two fors: a list, then a range -/
theorem lc2_list {K : PySem.W.Frag} {a : Addr} {xs : List V} {g : TG} {tt : TT} {wi1 : TI} {g1 : TG} {tt1 : TT} {te : TE} {vs vs1 : List Nat} {σ : L2.St} {H1 : Hp} {D : Addr} {Qd : Hp → Prop} (Pv : Nat → Hp → Prop) (h0 : Pv 0 (upd H1 D (.lst []))) (hl : ∀ i H, i ≤ xs.length → Pv i H → SqL K H a xs)
    (hs : ∀ i x H, xs[i]? = some x → Pv i H → g x (wipe σ vs) H fun σ2 H2 => wipe σ2 vs = wipe σ vs ∧ tt σ2 H2 fun b H3 =>
      if b = true then wi1 σ2 H3 fun J1 H4 => ∃ W1 : Nat → Nat → Hp → Prop, (∃ m, W1 0 m H4) ∧ ∀ j k H, W1 j k H →
        (J1.stop j H ∧ Pv (i + 1) H) ∨ (J1.go j H ∧ ∃ Nx1 : Hp → Prop, (∀ H', Nx1 H' → ∃ k', k' < k ∧ W1 (j + 1) k' H') ∧ ∀ x H', J1.yld j H x H' → g1 x (wipe σ2 vs1) H' fun σ3 H5 => wipe σ3 vs1 = wipe σ2 vs1 ∧ tt1 σ3 H5 fun b H6 =>
          if b = true then te σ3 H6 fun y H7 => ∃ acc, H7 D = some (.lst acc) ∧ acc.length < sizeLine ∧ Nx1 (upd H7 D (.lst (acc ++ [y]))) else Nx1 H6)
      else Pv (i + 1) H3) (hd : ∀ H, Pv xs.length H → Qd H) :
    ∃ W : Nat → Nat → Hp → Prop, (∃ m, W 0 m (upd H1 D (.lst []))) ∧ ∀ i m H, W i m H →
      ((Itl K a).stop i H ∧ Qd H) ∨ ((Itl K a).go i H ∧ ∃ Nx : Hp → Prop, (∀ H', Nx H' → ∃ m', m' < m ∧ W (i + 1) m' H') ∧ ∀ x H', (Itl K a).yld i H x H' → g x (wipe σ vs) H' fun σ2 H2 => wipe σ2 vs = wipe σ vs ∧ tt σ2 H2 fun b H3 =>
        if b = true then wi1 σ2 H3 fun J1 H4 => ∃ W1 : Nat → Nat → Hp → Prop, (∃ m, W1 0 m H4) ∧ ∀ j k H, W1 j k H →
          (J1.stop j H ∧ Nx H) ∨ (J1.go j H ∧ ∃ Nx1 : Hp → Prop, (∀ H', Nx1 H' → ∃ k', k' < k ∧ W1 (j + 1) k' H') ∧ ∀ x H', J1.yld j H x H' → g1 x (wipe σ2 vs1) H' fun σ3 H5 => wipe σ3 vs1 = wipe σ2 vs1 ∧ tt1 σ3 H5 fun b H6 =>
            if b = true then te σ3 H6 fun y H7 => ∃ acc, H7 D = some (.lst acc) ∧ acc.length < sizeLine ∧ Nx1 (upd H7 D (.lst (acc ++ [y]))) else Nx1 H6)
        else Nx H3) := by
  refine ⟨fun i m H => m = xs.length - i ∧ i ≤ xs.length ∧ Pv i H, ⟨xs.length, by simp, Nat.zero_le _, h0⟩, ?_⟩
  rintro i m H ⟨rfl, hi, p⟩
  have q := hl i H hi p
  by_cases hlt : i < xs.length
  · refine .inr ⟨⟨xs, xs[i], q, by simp [hlt]⟩, Pv (i + 1), fun H' p' => ⟨xs.length - (i + 1), by omega, rfl, hlt, p'⟩, fun x H' y => ?_⟩
    obtain ⟨e, y⟩ := y
    subst e
    exact hs i x _ (y _ q) p
  · have e : i = xs.length := by omega
    subst e
    exact .inl ⟨⟨xs, q, Nat.le_refl _⟩, hd H p⟩
theorem in_range {lo : Int} {n : Nat} {g1 : TG} {tt1 : TT} {te : TE} {vs1 : List Nat} {σ2 : L2.St} {H4 : Hp} {D : Addr} {Nx : Hp → Prop} (Pw : Nat → Hp → Prop) (h0 : Pw 0 H4)
    (hs : ∀ j H, j < n → Pw j H → g1 (.int (lo + j)) (wipe σ2 vs1) H fun σ3 H5 => wipe σ3 vs1 = wipe σ2 vs1 ∧ tt1 σ3 H5 fun b H6 =>
      if b = true then te σ3 H6 fun y H7 => ∃ acc, H7 D = some (.lst acc) ∧ acc.length < sizeLine ∧ Pw (j + 1) (upd H7 D (.lst (acc ++ [y]))) else Pw (j + 1) H6) (hd : ∀ H, Pw n H → Nx H) :
    ∃ W1 : Nat → Nat → Hp → Prop, (∃ m, W1 0 m H4) ∧ ∀ j k H, W1 j k H →
      ((Itr lo n).stop j H ∧ Nx H) ∨ ((Itr lo n).go j H ∧ ∃ Nx1 : Hp → Prop, (∀ H', Nx1 H' → ∃ k', k' < k ∧ W1 (j + 1) k' H') ∧ ∀ x H', (Itr lo n).yld j H x H' → g1 x (wipe σ2 vs1) H' fun σ3 H5 => wipe σ3 vs1 = wipe σ2 vs1 ∧ tt1 σ3 H5 fun b H6 =>
        if b = true then te σ3 H6 fun y H7 => ∃ acc, H7 D = some (.lst acc) ∧ acc.length < sizeLine ∧ Nx1 (upd H7 D (.lst (acc ++ [y]))) else Nx1 H6) := by
  refine ⟨fun j m H => m = n - j ∧ j ≤ n ∧ Pw j H, ⟨n, by simp, Nat.zero_le _, h0⟩, ?_⟩
  rintro j m H ⟨rfl, hi, p⟩
  by_cases hlt : j < n
  · refine .inr ⟨hlt, Pw (j + 1), fun H' p' => ⟨n - (j + 1), by omega, rfl, hlt, p'⟩, fun x H' y => ?_⟩
    obtain ⟨e, y⟩ := y
    subst e y
    exact hs j _ hlt p
  · have e : j = n := by omega
    subst e
    exact .inl ⟨Nat.le_refl _, hd H p⟩
end Fo
namespace Fo
open PySem PySem.Spec PyProof.Rows L2
def nearL (w : Str) (n : Nat) (xs : List Int) (r : Int) : List (List Int) := (allK n n).filter fun o => decide (farW w xs o ≤ r)
theorem filter_moreL {l : List (List Int)} {m : Nat} {x : List Int} (p : List Int → Bool) (h : l[m]? = some x) : (l.take (m + 1)).filter p = (l.take m).filter p ++ (if p x then [x] else []) := by
  rw [List.take_add_one, h, List.filter_append]
  show _ ++ List.filter p [x] = _
  rw [List.filter_cons]
  rfl
theorem extend_LL {H : Hp} : ∀ {as bs : List Addr} {rs ss : List (List Int)}, LL H as rs → LL H bs ss → LL H (as ++ bs) (rs ++ ss)
  | [], _, [], _, _, h => h
  | [], _, _ :: _, _, h, _ => h.elim
  | _ :: _, _, [], _, h, _ => h.elim
  | _ :: _, _, _ :: _, _, h, h2 => ⟨h.1, extend_LL h.2 h2⟩
end Fo
namespace Fo
open PySem PySem.Spec PyProof.Rows L2
def spAllO : Sp := fun vs H Q _ => ∃ n : Nat, vs = [.int n] ∧ 1 ≤ n ∧ n ≤ 6 ∧ ∀ (l : Addr) (as : List Addr) (H' : Hp), H l = none → H' l = some (.lst (as.map V.ref)) → LL H' as (allK n n) → (∀ a ∈ as, H a = none ∧ a ≠ l) → as.Nodup → Same H H' → Q (.ref l) H'
end Fo
namespace Fo
open PySem PySem.Spec PyProof.Rows L2
/-- all orders stand in order -/
theorem extO_sorted (n : Nat) (o : List Int) : (extO n o).Pairwise (· < ·) := by
  unfold extO
  rw [List.pairwise_map]
  have h : (rg n).Pairwise (· < ·) := by
    unfold rg
    exact List.Pairwise.map _ (fun a b h => by omega) List.pairwise_lt_range
  exact (h.filter _).imp fun {a b} h => by
    induction o with
    | nil => exact List.cons_lt_cons_iff.mpr (.inl h)
    | cons x o ih => exact List.cons_lt_cons_iff.mpr (.inr ⟨rfl, ih⟩)
theorem lt_snoc {a b : List Int} (hl : a.length = b.length) (h : a < b) (x y : Int) : a ++ [x] < b ++ [y] := by
  induction a generalizing b with
  | nil =>
    match b, hl with
    | [], _ => exact absurd h (List.lt_irrefl _)
  | cons u a ih =>
    match b, hl with
    | v :: b, hl =>
      rcases List.cons_lt_cons_iff.mp h with h1 | ⟨h1, h2⟩
      · exact List.cons_lt_cons_iff.mpr (.inl h1)
      · exact List.cons_lt_cons_iff.mpr (.inr ⟨h1, ih (by simpa using hl) h2⟩)
theorem allK_sorted {n : Nat} : ∀ k, (allK n k).Pairwise (· < ·)
  | 0 => List.pairwise_singleton _ _
  | k + 1 => by
    show List.Pairwise _ ((allK n k).flatMap (extO n))
    rw [List.pairwise_flatMap]
    refine ⟨fun o _ => extO_sorted n o, (allK_sorted k).imp_of_mem fun {a b} ha hb h x hx y hy => ?_⟩
    obtain ⟨t, _, rfl⟩ := List.mem_map.mp hx
    obtain ⟨u, _, rfl⟩ := List.mem_map.mp hy
    exact lt_snoc (by rw [(allK_row k a ha).1, (allK_row k b hb).1]) h t u
theorem allK_mem {n : Nat} : ∀ (k : Nat) (r : List Int), r.length = k → r.Nodup → (∀ x ∈ r, x ∈ rg n) → r ∈ allK n k
  | 0, r, hl, _, _ => by rw [List.length_eq_zero_iff.mp hl]; exact List.mem_cons_self
  | k + 1, r, hl, hn, hs => by
    have hne : r ≠ [] := fun e => by rw [e] at hl; cases hl
    have e := List.dropLast_concat_getLast hne
    rw [← e] at hn hs ⊢
    rw [List.nodup_append] at hn
    have ih := allK_mem k r.dropLast (by rw [List.length_dropLast, hl]; rfl) hn.1 fun x hx => hs x (List.mem_append.mpr (.inl hx))
    refine List.mem_flatMap.mpr ⟨_, ih, List.mem_map.mpr ⟨r.getLast hne, List.mem_filter.mpr ⟨hs _ (List.mem_append.mpr (.inr (List.mem_singleton.mpr rfl))), ?_⟩, rfl⟩⟩
    rw [decide_eq_false (fun z => hn.2.2 _ z _ (List.mem_singleton.mpr rfl) rfl)]
    rfl
theorem ord_mem {n : Nat} {r : List Int} (o : IsOrd n r) : r ∈ allK n n := allK_mem n r o.len o.nodup fun x hx => rg_mem.mpr (o.mem hx)
end Fo
namespace Fo
open PySem PySem.Spec PyProof.Rows L2
/-- an inner for over a list that stands still -/
theorem in_list {K : PySem.W.Frag} {a : Addr} {xs : List V} {g1 : TG} {tt1 : TT} {te : TE} {vs1 : List Nat} {σ2 : L2.St} {H4 : Hp} {D : Addr} {Nx : Hp → Prop} (Pw : Nat → Hp → Prop) (h0 : Pw 0 H4) (hl : ∀ i H, i ≤ xs.length → Pw i H → SqL K H a xs)
    (hs : ∀ j x H, xs[j]? = some x → Pw j H → g1 x (wipe σ2 vs1) H fun σ3 H5 => wipe σ3 vs1 = wipe σ2 vs1 ∧ tt1 σ3 H5 fun b H6 =>
      if b = true then te σ3 H6 fun y H7 => ∃ acc, H7 D = some (.lst acc) ∧ acc.length < sizeLine ∧ Pw (j + 1) (upd H7 D (.lst (acc ++ [y]))) else Pw (j + 1) H6) (hd : ∀ H, Pw xs.length H → Nx H) :
    ∃ W1 : Nat → Nat → Hp → Prop, (∃ m, W1 0 m H4) ∧ ∀ j k H, W1 j k H →
      ((Itl K a).stop j H ∧ Nx H) ∨ ((Itl K a).go j H ∧ ∃ Nx1 : Hp → Prop, (∀ H', Nx1 H' → ∃ k', k' < k ∧ W1 (j + 1) k' H') ∧ ∀ x H', (Itl K a).yld j H x H' → g1 x (wipe σ2 vs1) H' fun σ3 H5 => wipe σ3 vs1 = wipe σ2 vs1 ∧ tt1 σ3 H5 fun b H6 =>
        if b = true then te σ3 H6 fun y H7 => ∃ acc, H7 D = some (.lst acc) ∧ acc.length < sizeLine ∧ Nx1 (upd H7 D (.lst (acc ++ [y]))) else Nx1 H6) := by
  refine ⟨fun j m H => m = xs.length - j ∧ j ≤ xs.length ∧ Pw j H, ⟨xs.length, by simp, Nat.zero_le _, h0⟩, ?_⟩
  rintro j m H ⟨rfl, hi, p⟩
  have q := hl j H hi p
  by_cases hlt : j < xs.length
  · refine .inr ⟨⟨xs, xs[j], q, by simp [hlt]⟩, Pw (j + 1), fun H' p' => ⟨xs.length - (j + 1), by omega, rfl, hlt, p'⟩, fun x H' y => ?_⟩
    obtain ⟨e, y⟩ := y
    subst e
    exact hs j x _ (y _ q) p
  · have e : j = xs.length := by omega
    subst e
    exact .inl ⟨⟨xs, q, Nat.le_refl _⟩, hd H p⟩
/-! ### orders with choices -/
def extC (ch : List Int) (o : List Int) : List (List Int) := (ch.filter fun t => !decide (t ∈ o)).map fun t => o ++ [t]
def ordW (chs : List (List Int)) : List (List Int) := chs.foldl (fun b ch => b.flatMap (extC ch)) [[]]
theorem ordW_more {chs : List (List Int)} {i : Nat} {ch : List Int} (h : chs[i]? = some ch) : ordW (chs.take (i + 1)) = (ordW (chs.take i)).flatMap (extC ch) := by
  unfold ordW
  rw [List.take_add_one, h, List.foldl_append]
  rfl
theorem extC_more {ch : List Int} {o : List Int} {j : Nat} {t : Int} (h : ch[j]? = some t) : extC (ch.take (j + 1)) o = extC (ch.take j) o ++ (if t ∈ o then [] else [o ++ [t]]) := by
  unfold extC
  rw [List.take_add_one, h, List.filter_append, List.map_append]
  congr 1
  show List.map _ (List.filter _ [t]) = _
  rw [List.filter_cons]
  by_cases c : t ∈ o
  · rw [decide_eq_true c, if_pos c]
    rfl
  · rw [decide_eq_false c, if_neg c]
    rfl
theorem extC_len (ch o : List Int) : (extC ch o).length ≤ ch.length := by
  unfold extC
  rw [List.length_map]
  exact List.length_filter_le _ _
theorem flatC_len (ch : List Int) : ∀ l : List (List Int), (l.flatMap (extC ch)).length ≤ l.length * ch.length
  | [] => Nat.zero_le _
  | o :: l => by
    rw [List.flatMap_cons, List.length_append, List.length_cons, Nat.add_mul, Nat.one_mul]
    have := flatC_len ch l
    have := extC_len ch o
    omega
theorem ordW_all (n : Nat) : ∀ i, ordW (List.replicate i (rg n)) = allK n i
  | 0 => rfl
  | i + 1 => by
    have h := ordW_more (chs := List.replicate (i + 1) (rg n)) (i := i) (ch := rg n) (by rw [List.getElem?_replicate, if_pos (by omega)])
    rw [List.take_of_length_le (by rw [List.length_replicate]; omega), List.take_replicate, Nat.min_eq_left (by omega), ordW_all n i] at h
    exact h
theorem ordW_rows : ∀ (i : Nat) (chs : List (List Int)), ∀ r ∈ ordW (chs.take i), r.length ≤ i
  | 0, chs, r, h => by
    rw [List.take_zero] at h
    rw [List.mem_singleton.mp h]
    exact Nat.le_refl _
  | i + 1, chs, r, h => by
    cases e : chs[i]? with
    | none =>
      have : chs.take (i + 1) = chs.take i := by rw [List.take_add_one, e]; simp
      rw [this] at h
      exact Nat.le_succ_of_le (ordW_rows i chs r h)
    | some ch =>
      rw [ordW_more e] at h
      obtain ⟨o, ho, hr⟩ := List.mem_flatMap.mp h
      obtain ⟨t, _, rfl⟩ := List.mem_map.mp hr
      have := ordW_rows i chs o ho
      rw [List.length_append]
      show _ + 1 ≤ _
      omega
def spOrdW : Sp := fun vs H Q _ => ∃ (c : Addr) (cs : List Addr) (chs : List (List Int)), vs = [.ref c] ∧ H c = some (.lst (cs.map V.ref)) ∧ LL H cs chs ∧ chs.length ≤ 12 ∧ (∀ ch ∈ chs, ch.length ≤ 12) ∧ (∀ i, i ≤ chs.length → (ordW (chs.take i)).length ≤ 100000) ∧
  ∀ (l : Addr) (as : List Addr) (H' : Hp), H l = none → H' l = some (.lst (as.map V.ref)) → LL H' as (ordW chs) → (∀ a ∈ as, H a = none ∧ a ≠ l) → as.Nodup → Same H H' → Q (.ref l) H'
section
variable {P : Program} {w : World} {K : PySem.W.Frag} {mg : Str → Option Value} {base : Heap}
theorem scOrdW : FnScope ["choices", "begun", "things", "start", "thing"] ["choices"] (defScope s_orders_with) := ⟨rfl, rfl, rfl, by decide +kernel, rfl, by decide +kernel, by decide +kernel⟩
set_option maxHeartbeats 4000000 in
theorem ok_ordW {f : Addr} {fd : FuncData} {k : Nat} (T : Df K mg "orders_with" s_orders_with ["choices"] f fd) (B : Bi mg) : FnOk P w K mg base CX0 (k + 1) f fd ["choices"] spOrdW := by
  refine T.F.ok scOrdW (fun vs H Q E h => ?_) (fun cdv A outer s H vs Q E hr h => ?_)
  · obtain ⟨c, cs, chs, rfl, _⟩ := h
    rfl
  · obtain ⟨c0, ks, chs, rfl, hc, hLc, hcl, hch, hsz, q⟩ := h
    have hkl := hLc.len
    refine ⟨_, 
      (pss_cons (ps_set (i := 1) scOrdW.nd rfl (.inl rfl) (pe_lst (pa_cons (pe_lst pa_nil) pa_nil)))
      (pss_cons (ps_for PassesOwn.never rfl (pi_list (pv 0)) (pg_name (i := 2) scOrdW.nd rfl (.inr rfl))
        (pss_one (ps_setLc2 (i := 1) (own := [("start", 3), ("thing", 4)]) (vs1 := [4]) (wi1 := iList K (tVar 2)) (g := (gName 3)) (tt := tYes) (g1 := (gName 4)) (tt1 := (tTest (tOp (rIn K true) (tVar 4) (tVar 3)))) (te := (tOp rCat (tVar 3) (tLst (tCons (tVar 4) tNil)))) (by rfl) scOrdW.nd rfl rfl (sw_true rfl rfl rfl (by decide +kernel)) (pi_list (pv 1)) (blkOk_by (N := ["choices", "begun", "things", "start", "thing"]) (sc := defScope s_orders_with) (by decide +kernel)) (by decide) (fun _ _ _ _ _ => (pg_name (i := 3) scOrdW.nd rfl (.inl rfl))) (fun _ _ _ _ _ => pts_nil) (fun _ _ _ _ _ => (pi_list (pv 2))) (fun _ _ _ _ _ => (pg_name (i := 4) scOrdW.nd rfl (.inl rfl))) (fun _ _ _ _ _ => (pts_one (pt_cmpR op_notIn_seq (pv 4) (pv 3) (by rfl)))) (fun _ _ _ _ _ => (pe_op op_cat (pv 3) (pe_lst (pa_cons (pv 4) pa_nil)))))))
      (pss_one (ps_ret (pv 1))))), ?_⟩
    refine ⟨Nat.zero_le _, fun e0 ne0 => ⟨line_small (by show 1 ≤ 16777216; decide), fun bg nbg => ?_⟩⟩
    have s0 := same_new (o := .lst []) ne0
    have s1 := same_new (o := .lst [.ref e0]) nbg
    have nHbg : H bg = none := s0.free nbg
    have neb : e0 ≠ bg := ne_of_none upd_same nbg
    refine ⟨_, rfl, c0, rfl, ⟨_, SqL.of (s1 _ _ (s0 _ _ hc))⟩, ?_⟩
    refine for_list (xs := ks.map V.ref) (fun i σ H3 => ∃ (bg : Addr) (y2 y3 y4 : Option V) (as : List Addr), σ = [some (.ref c0), some (.ref bg), y2, y3, y4] ∧ H bg = none ∧ H3 bg = some (.lst (as.map V.ref)) ∧ LL H3 as (ordW (chs.take i)) ∧ (∀ c ∈ as, H c = none ∧ c ≠ bg) ∧ as.Nodup ∧ Same H H3)
      ⟨bg, _, _, _, [e0], rfl, nHbg, upd_same, ⟨s1 _ _ upd_same, trivial⟩, fun c hc => by rw [List.mem_singleton.mp hc]; exact ⟨ne0, neb⟩, List.nodup_cons.mpr ⟨List.not_mem_nil, List.nodup_nil⟩, s0.trans s1⟩ (fun i σ H3 _ hP => by obtain ⟨_, _, _, _, _, _, _, _, _, _, _, sm⟩ := hP; exact SqL.of (sm _ _ hc)) (fun i x σ H3 hx hP => ?_) (fun σ H3 hP => ?_)
    · obtain ⟨bg, y2, y3, y4, as, rfl, nbg, hb3, hLL, hfr, hnd, sm⟩ := hP
      obtain ⟨kc, ek, rfl⟩ := ref_at_inv hx
      obtain ⟨ch, ech, hkc⟩ := hLc.get ek
      have hi := (List.getElem?_eq_some_iff.mp ech).1
      have hchl := hch ch (List.mem_of_getElem? ech)
      have hlen := hLL.len
      have hal := hsz i (by omega)
      have hkc3 := sm _ _ hkc
      refine ⟨_, rfl, bg, rfl, ⟨_, SqL.of hb3⟩, fun D nD => ?_⟩
      have nHD : H D = none := sm.free nD
      refine lc2_list (K := K) (a := bg) (xs := as.map V.ref) (fun m H4 => ∃ cs : List Addr, H4 D = some (.lst (cs.map V.ref)) ∧ LL H4 cs (((ordW (chs.take i)).take m).flatMap (extC ch)) ∧ (∀ c ∈ cs, H3 c = none ∧ c ≠ D) ∧ cs.Nodup ∧ Same H3 H4)
        ⟨[], upd_same, trivial, fun c hc => absurd hc List.not_mem_nil, List.nodup_nil, same_new nD⟩ (fun m H4 _ hP => by obtain ⟨_, _, _, _, _, s4⟩ := hP; exact SqL.of (s4 _ _ hb3)) (fun m x H4 hx hP => ?_) (fun H4 hP => ?_)
      · obtain ⟨cs, hD4, hLc4, hfc, hndc, s4⟩ := hP
        obtain ⟨r, er, rfl⟩ := ref_at_inv hx
        obtain ⟨row, erow, hrow⟩ := hLL.get er
        have hrl := ordW_rows i chs row (List.mem_of_getElem? erow)
        refine ⟨rfl, ?_⟩
        refine ⟨_, rfl, kc, rfl, ⟨_, SqL.of (s4 _ _ hkc3)⟩, ?_⟩
        refine in_list (K := K) (a := kc) (xs := ch.map V.int) (fun j H5 => ∃ cs : List Addr, H5 D = some (.lst (cs.map V.ref)) ∧ LL H5 cs (((ordW (chs.take i)).take m).flatMap (extC ch) ++ extC (ch.take j) row) ∧ (∀ c ∈ cs, H3 c = none ∧ c ≠ D) ∧ cs.Nodup ∧ Same H3 H5)
          ⟨cs, hD4, by rw [show extC (ch.take 0) row = [] from rfl, List.append_nil]; exact hLc4, hfc, hndc, s4⟩ (fun j H5 _ hP => by obtain ⟨_, _, _, _, _, s5⟩ := hP; exact SqL.of (s5 _ _ hkc3)) (fun j x H5 hx hP => ?_) (fun H5 hP => ?_)
        · obtain ⟨cs5, hD5, hL5, hf5, hnd5, s5⟩ := hP
          obtain ⟨t, et, rfl⟩ := int_at_inv hx
          have hrow5 := s5 _ _ hrow
          refine ⟨rfl, _, rfl, _, rfl, r, _, rfl, .inl (SqL.of hrow5), rfl, flat_ints row, _, rfl, ?_⟩
          show if (!inV (.int t) (row.map V.int)) = true then _ else _
          rw [inV_int]
          have em := extC_more (o := row) et
          by_cases c : t ∈ row
          · rw [decide_eq_true c]
            refine iteF ⟨cs5, hD5, ?_, hf5, hnd5, s5⟩
            rw [em, if_pos c, List.append_nil]
            exact hL5
          · rw [decide_eq_false c]
            refine iteT ⟨_, rfl, _, rfl, line_small (by show 1 ≤ 16777216; decide), fun p np => ?_⟩
            have sp1 := same_new (o := .lst [.int t]) np
            refine ⟨r, p, _, _, rfl, rfl, sp1 _ _ hrow5, upd_same, line_small (by rw [List.length_map]; show _ + 1 ≤ _; omega), fun z nz => ?_⟩
            have sp2 := same_new (o := .lst (row.map V.int ++ [.int t])) nz
            have hD6 := sp2 _ _ (sp1 _ _ hD5)
            have nzD : z ≠ D := (ne_of_none (sp1 _ _ hD5) nz).symm
            have hl5 := hL5.len
            have hcount : cs5.length < 16777216 := by
              have h1 : (((ordW (chs.take i)).take m).flatMap (extC ch) ++ extC (ch.take j) row).length ≤ ((ordW (chs.take i)).take m).length * ch.length + ch.length := by
                rw [List.length_append]
                have a1 := flatC_len ch ((ordW (chs.take i)).take m)
                have a2 := extC_len (ch.take j) row
                rw [List.length_take] at a2
                omega
              have h2 : ((ordW (chs.take i)).take m).length * ch.length ≤ 100000 * 12 := Nat.mul_le_mul (by rw [List.length_take]; omega) hchl
              omega
            refine ⟨_, hD6, line_lt (by rw [List.length_map]; exact hcount), cs5 ++ [z], by rw [upd_same, List.map_append]; rfl, ?_, fun c hc => ?_, ?_, fun u ob e => ?_⟩
            · rw [em, if_neg c, ← List.append_assoc]
              refine LL.snoc (((hL5.same sp1).same sp2).keep fun u hu ob e => by rw [upd_ne (hf5 u hu).2]; exact e) ?_
              rw [upd_ne nzD, upd_same, List.map_append]
              rfl
            · rcases List.mem_append.mp hc with hc | hc
              · exact hf5 c hc
              · rw [List.mem_singleton.mp hc]
                exact ⟨(s5.trans sp1).free nz, nzD⟩
            · rw [List.nodup_append]
              refine ⟨hnd5, List.nodup_cons.mpr ⟨List.not_mem_nil, List.nodup_nil⟩, fun x hx y hy e => ?_⟩
              rw [List.mem_singleton.mp hy] at e
              obtain ⟨ob, eo⟩ := hL5.tracked hx
              rw [e] at eo
              have := sp1 _ _ eo
              rw [nz] at this
              cases this
            · rw [upd_ne (ne_of_none e nD)]
              exact sp2 _ _ (sp1 _ _ (s5 _ _ e))
        · obtain ⟨cs5, hD5, hL5, hf5, hnd5, s5⟩ := hP
          refine ⟨cs5, hD5, ?_, hf5, hnd5, s5⟩
          rw [List.length_map, List.take_length] at hL5
          rw [List.take_add_one, erow, List.flatMap_append]
          show LL H5 cs5 (_ ++ (extC ch row ++ []))
          rw [List.append_nil]
          exact hL5
      · obtain ⟨cs, hD4, hLc4, hfc, hndc, s4⟩ := hP
        rw [List.length_map, hlen, List.take_length] at hLc4
        refine ⟨D, _, _, _, cs, rfl, nHD, hD4, ?_, fun c hc => ⟨sm.free (hfc c hc).1, (hfc c hc).2⟩, hndc, sm.trans s4⟩
        rw [ordW_more ech]
        exact hLc4
    · obtain ⟨bg, y2, y3, y4, as, rfl, nbg, hb3, hLL, hfr, hnd, sm⟩ := hP
      rw [List.length_map, hkl, List.take_length] at hLL
      exact ⟨_, rfl, q bg as H3 nbg hb3 hLL hfr hnd sm⟩
theorem LL_rep {H : Hp} {a : Addr} {r : List Int} (h : H a = some (.lst (r.map V.int))) : ∀ m, LL H (List.replicate m a) (List.replicate m r)
  | 0 => trivial
  | m + 1 => ⟨h, LL_rep h m⟩
theorem rep_flat (v : V) : ∀ m : Nat, (List.replicate m [v]).flatten = List.replicate m v
  | 0 => rfl
  | m + 1 => by rw [List.replicate_succ, List.flatten_cons, rep_flat v m]; rfl
theorem scAllO : FnScope ["n"] ["n"] (defScope s_all_orders) := ⟨rfl, rfl, rfl, by decide +kernel, rfl, by decide +kernel, by decide +kernel⟩
theorem ok_all_orders {f f1 : Addr} {fd d1 : FuncData} {k : Nat} (T : Df K mg "all_orders" s_all_orders ["n"] f fd) (T_orders_with : Df K mg "orders_with" s_orders_with ["choices"] f1 d1) (B : Bi mg) : FnOk P w K mg base CX0 (k + 2) f fd ["n"] spAllO := by
  have G_orders_with : FnOk P w K mg base CX0 (k + 1) f1 d1 ["choices"] spOrdW := ok_ordW T_orders_with B
  refine T.F.ok scAllO (fun vs H Q E h => ?_) (fun cdv A outer s H vs Q E hr h => ?_)
  · obtain ⟨n, rfl, _⟩ := h
    rfl
  · obtain ⟨n, rfl, hn1, hn2, q⟩ := h
    refine ⟨_, 
      (pss_one (ps_ret (pe_call G_orders_with hr (by rfl) T_orders_with.g T_orders_with.F.kp T_orders_with.b .nil pass0 (pa_cons (pe_op op_rep (pe_lst (pa_cons (pe_listRg rfl (by rfl) B.list (prg_1 (by rfl) B.range (pv 0))) pa_nil)) (pv 0)) pa_nil)))), ?_⟩
    refine ⟨_, rfl, n, rfl, RgOk.of_le (by omega) (by omega) (by omega) (by omega), fun l nl => ?_⟩
    have t1 := same_new (o := .lst (rgV 0 (n : Int))) nl
    have hl : (upd H l (.lst (rgV 0 (n : Int)))) l = some (.lst ((rg n).map V.int)) := by rw [upd_same, rg_V]
    refine ⟨line_small (by show 1 ≤ 16777216; decide), fun l1 nl1 => ?_⟩
    have t2 := same_new (o := .lst [.ref l]) nl1
    refine ⟨_, rfl, l1, _, _, rfl, rfl, upd_same, by omega, by omega, line_small (by rw [Int.toNat_natCast]; show 1 * n ≤ _; omega), fun l2 nl2 => ?_⟩
    have t3 := same_new (o := .lst (List.replicate ((n : Nat) : Int).toNat [V.ref l]).flatten) nl2
    have tt := (t1.trans t2).trans t3
    refine ⟨l2, List.replicate n l, List.replicate n (rg n), rfl, by rw [upd_same, Int.toNat_natCast, rep_flat, List.map_replicate], LL_rep (t3 _ _ (t2 _ _ hl)) n, by rw [List.length_replicate]; omega, fun ch hc => ?_, fun i hi => ?_, fun r as H' nr hr hLL hfr hnd s' => ?_⟩
    · rw [(List.mem_replicate.mp hc).2, rg_len]
      omega
    · rw [List.length_replicate] at hi
      rw [List.take_replicate, Nat.min_eq_left hi, ordW_all]
      have h1 := allK_len hn2 i hi
      have h2 := pow6 (show i ≤ 6 by omega)
      omega
    · rw [ordW_all] at hLL
      exact q r as H' (tt.free nr) hr hLL (fun c hc => ⟨tt.free (hfr c hc).1, (hfr c hc).2⟩) hnd (tt.trans s')
end
end Fo
namespace Fo
open PySem PySem.Spec PyProof.Rows L2
def spWays : Sp := fun vs H Q _ => vs = [] ∧ ∀ (l : Addr), H l = none → Q (.ref l) (upd H l (.lst [.str "swap", .str "spot", .str "shift"]))
section
variable {P : Program} {w : World} {K : PySem.W.Frag} {mg : Str → Option Value} {base : Heap}
theorem scWays : FnScope [] [] (defScope s_law_ways) := ⟨rfl, rfl, rfl, by decide +kernel, rfl, by decide +kernel, by decide +kernel⟩
theorem ok_ways {f : Addr} {fd : FuncData} {k : Nat} (T : Df K mg "_law_ways" s_law_ways [] f fd) (B : Bi mg) : FnOk P w K mg base CX0 (k + 1) f fd [] spWays := by
  refine T.F.ok scWays (fun vs H Q E h => ?_) (fun cdv A outer s H vs Q E hr h => ?_)
  · obtain ⟨rfl, _⟩ := h
    rfl
  · obtain ⟨rfl, q⟩ := h
    refine ⟨_, 
      (pss_one (ps_ret (pe_lst (pa_cons pe_str (pa_cons pe_str (pa_cons pe_str pa_nil)))))), ?_⟩
    exact ⟨line_small (by show 3 ≤ 16777216; decide), fun l nl => q l nl⟩
end
end Fo
namespace Fo
open PySem PySem.Spec PyProof.Rows L2
/-- an order turned by one place -/
theorem ord_rot {n : Nat} {ys : List Int} (h : IsOrd n ys) : IsOrd n (ys.drop 1 ++ ys.take 1) := by
  have e : (ys.drop 1 ++ ys.take 1).Perm (ys.take 1 ++ ys.drop 1) := List.perm_append_comm
  rw [List.take_append_drop] at e
  exact e.trans h
theorem plus_all : ∀ n < 13, ((rg n).map fun x => (x + 1) % (n : Int)).Perm (rg n) := by decide +kernel
/-- each thing one further, the last the first -/
theorem ord_plus {n : Nat} {ys : List Int} (h : IsOrd n ys) (hn : n ≤ 12) : IsOrd n (ys.map fun x => (x + 1) % (n : Int)) := (List.Perm.map _ h).trans (plus_all n (by omega))
theorem nodup_snoc {α : Type} {l : List α} {x : α} (h : l.Nodup) (hx : x ∉ l) : (l ++ [x]).Nodup := by
  have e : (l ++ [x]).Perm (x :: l) := List.perm_append_comm
  exact (List.Perm.nodup_iff e).mpr (List.nodup_cons.mpr ⟨hx, h⟩)
end Fo
namespace Fo
open PySem PySem.Spec PyProof.Rows L2
def spOrders : Sp := fun vs H Q _ => ∃ (d : Addr) (n most c : Nat), vs = [.ref d, .int n, .int most] ∧ PoolAt H d c ∧ 1 ≤ n ∧ n ≤ 12 ∧ 1 ≤ most ∧ most ≤ 120 ∧ c + 40000 < 1048576 ∧
  ∀ (l : Addr) (as : List Addr) (rs : List (List Int)) (H' : Hp), OL H' l as rs n → rs.Nodup → 1 ≤ rs.length → rs.length ≤ most → H l = none → (∀ a ∈ as, H a = none) → l ≠ d → d ∉ as → l ∉ as → PoolAt H' d (c + 40000) → KeepD d H H' → Q (.ref l) H'
section
variable {P : Program} {w : World} {K : PySem.W.Frag} {mg : Str → Option Value} {base : Heap}
theorem scOrders : FnScope ["pool", "n", "most", "many", "way", "found", "turn", "one", "thing"] ["pool", "n", "most"] (defScope s_law_orders) := ⟨rfl, rfl, rfl, by decide +kernel, rfl, by decide +kernel, by decide +kernel⟩
set_option maxHeartbeats 4000000 in
theorem ok_orders {f f1 f2 f3 f4 : Addr} {fd d1 d2 d3 d4 : FuncData} {k : Nat} (T : Df K mg "_law_orders" s_law_orders ["pool", "n", "most"] f fd) (T__law_take : Df K mg "_law_take" s_law_take ["pool", "many"] f1 d1) (T__law_order : Df K mg "_law_order" s_law_order ["pool", "n"] f2 d2) (T__law_near : Df K mg "_law_near" s_law_near ["pool", "order"] f3 d3) (T__law_many : Df K mg "_law_many" s_law_many ["n"] f4 d4)
    (G__law_take : FnOk P w K mg base CX0 k f1 d1 ["pool", "many"] spTake) (G__law_order : FnOk P w K mg base CX0 k f2 d2 ["pool", "n"] spOrderP) (G__law_near : FnOk P w K mg base CX0 k f3 d3 ["pool", "order"] spNearP) (G__law_many : FnOk P w K mg base CX0 k f4 d4 ["n"] spMany) (B : Bi mg) : FnOk P w K mg base CX0 (k + 1) f fd ["pool", "n", "most"] spOrders := by
  refine T.F.ok scOrders (fun vs H Q E h => ?_) (fun cdv A outer s H vs Q E hr h => ?_)
  · obtain ⟨d, n, most, c, rfl, _⟩ := h
    rfl
  · obtain ⟨d, n, most, c, rfl, hD, hn1, hn2, hm1, hm2, hc, q⟩ := h
    refine ⟨_, 
      (pss_cons (ps_set (i := 3) scOrders.nd rfl (.inl rfl) (pe_callB (call_min3I rfl) (by rfl) B.min (by decide +kernel) (pa_cons (pv 2) (pa_cons (pe_call G__law_many hr (by rfl) T__law_many.g T__law_many.F.kp T__law_many.b .nil pass0 (pa_cons (pv 1) pa_nil)) (pa_cons (pe_ix ix_list (pe_lst (pa_cons (pe_op op_add pe_int (pe_call G__law_take hr (by rfl) T__law_take.g T__law_take.F.kp T__law_take.b .nil pass0 (pa_cons (pv 0) (pa_cons pe_int pa_nil)))) (pa_cons (pe_op op_add pe_int (pe_call G__law_take hr (by rfl) T__law_take.g T__law_take.F.kp T__law_take.b .nil pass0 (pa_cons (pv 0) (pa_cons (pv 2) pa_nil)))) (pa_cons (pv 2) pa_nil)))) (pe_call G__law_take hr (by rfl) T__law_take.g T__law_take.F.kp T__law_take.b .nil pass0 (pa_cons (pv 0) (pa_cons pe_int pa_nil))) (fun _ _ => rfl)) pa_nil)))))
      (pss_cons (ps_set (i := 4) scOrders.nd rfl (.inl rfl) (pe_call G__law_take hr (by rfl) T__law_take.g T__law_take.F.kp T__law_take.b .nil pass0 (pa_cons (pv 0) (pa_cons pe_int pa_nil))))
      (pss_cons (ps_set (i := 5) scOrders.nd rfl (.inl rfl) (pe_lst (pa_cons (pe_call G__law_order hr (by rfl) T__law_order.g T__law_order.F.kp T__law_order.b .nil pass0 (pa_cons (pv 0) (pa_cons (pv 1) pa_nil))) pa_nil)))
      (pss_cons (ps_for PassesOwn.never rfl (pi_range1 (by rfl) B.range (pa_cons (pe_op op_mul pe_int (pv 2)) pa_nil)) (pg_name (i := 6) scOrders.nd rfl (.inl rfl))
        (pss_one (ps_if (pt_cmpR op_lt (pe_callB call_len_seq (by rfl) B.len PySem.boot_len (pa_cons (pv 5) pa_nil)) (pv 3) (nomark _))
          (pss_cons (ps_set (i := 7) scOrders.nd rfl (.inl rfl) (pe_call G__law_order hr (by rfl) T__law_order.g T__law_order.F.kp T__law_order.b .nil pass0 (pa_cons (pv 0) (pa_cons (pv 1) pa_nil))))
          (Evl.pss_cut (ps_if (pt_cmpR op_eq (pv 4) pe_int (nomark _))
            (pss_one (ps_set (i := 7) scOrders.nd rfl (.inl rfl) (pe_call G__law_near hr (by rfl) T__law_near.g T__law_near.F.kp T__law_near.b .nil pass0 (pa_cons (pv 0) (pa_cons (pe_ix ix_list (pv 5) (pe_call G__law_take hr (by rfl) T__law_take.g T__law_take.F.kp T__law_take.b .nil pass0 (pa_cons (pv 0) (pa_cons (pe_callB call_len_seq (by rfl) B.len PySem.boot_len (pa_cons (pv 5) pa_nil)) pa_nil))) (fun _ _ => rfl)) pa_nil)))))
            pss_nil)
          (Evl.pss_cut (ps_if (pt_cmpR op_eq (pv 4) pe_int (nomark _))
            (pss_one (ps_setLc (i := 7) (own := [("thing", 8)]) (g := (gName 8)) (tt := tYes) (te := (tOp (rI (fun _ j => 0 < j) fun i j => .int (i % j)) (tOp (rI0 fun i j => .int (i + j)) (tVar 8) (tC (.int 1))) (tVar 1))) (by rfl) scOrders.nd rfl rfl (sw_true rfl rfl rfl (by decide +kernel)) (pi_list (pe_ix ix_list (pv 5) (pe_un un_neg pe_int) (fun _ _ => rfl))) (blkOk_by (N := ["pool", "n", "most", "many", "way", "found", "turn", "one", "thing"]) (sc := defScope s_law_orders) (by decide +kernel)) (fun _ _ _ _ _ => (pg_name (i := 8) scOrders.nd rfl (.inl rfl))) (fun _ _ _ _ _ => pts_nil) (fun _ _ _ _ _ => (pe_op op_mod (pe_op op_add (pv 8) pe_int) (pv 1)))))
            pss_nil)
          (Evl.pss_cut (ps_if (pt_cmpR (op_inD (units65 hr)) (pv 7) (pv 5) (by rfl))
            (pss_one (ps_set (i := 7) scOrders.nd rfl (.inl rfl) (pe_op op_cat (pe_slice sl_list (pe_ix ix_list (pv 5) (pe_un un_neg pe_int) (fun _ _ => rfl)) (po_some pe_int) po_none) (pe_slice sl_list (pe_ix ix_list (pv 5) (pe_un un_neg pe_int) (fun _ _ => rfl)) po_none (po_some pe_int)))))
            pss_nil)
          (pss_one (ps_if (pt_cmpR (op_notInD (units65 hr)) (pv 7) (pv 5) (by rfl))
            (pss_one (ps_expr (pe_bm PySem.F.plainAttrs_list PySem.F.slot_list_append PySem.F.type_list_append mt_append (pv 5) (pa_cons (pv 7) pa_nil))))
            pss_nil))))))
          pss_nil)))
      (pss_one (ps_ret (pv 5))))))), ?_⟩
    -- many
    refine ⟨_, rfl, _, rfl, n, rfl, hn2, fun fa hfa => ?_⟩
    refine ⟨_, rfl, d, 6, _, rfl, hD, by omega, by decide, by decide, fun v1 H1 v10 _ D1 k1 => ⟨1, _, rfl, rfl, ?_⟩⟩
    refine ⟨_, rfl, _, rfl, d, _, _, rfl, D1, by omega, by omega, by omega, fun v2 H2 v20 _ D2 k2 => ⟨1, _, rfl, rfl, ?_⟩⟩
    refine ⟨_, rfl, line_small (by show 3 ≤ 16777216; decide), fun t nt => ?_⟩
    have ntd := D2.ne nt
    refine ⟨_, rfl, d, 3, _, rfl, D2.new nt, by omega, by decide, by decide, fun v3 H3 v30 v31 D3 k3 => ?_⟩
    have ht3 := k3 t _ upd_same ntd
    have kk3 : KeepD d H H3 := ((k1.trans k2).trans (KeepD.new nt)).trans k3
    obtain ⟨u, eu, hu⟩ : ∃ u : Int, atI [V.int (1 + v1), V.int (1 + v2), V.int (most : Int)] v3 = some (.int u) ∧ 1 ≤ u := by
      have : v3 = 0 ∨ v3 = 1 ∨ v3 = 2 := by omega
      rcases this with rfl | rfl | rfl
      · exact ⟨1 + v1, rfl, by omega⟩
      · exact ⟨1 + v2, rfl, by omega⟩
      · exact ⟨most, rfl, by omega⟩
    refine ⟨t, _, _, _, rfl, rfl, SqL.of ht3, eu, most, fa, u, rfl, fun many a1 a2 a3 a4 => ?_⟩
    have hmany : 1 ≤ many := by omega
    refine ⟨_, rfl, d, 3, _, rfl, D3, by omega, by decide, by decide, fun wy H4 _ _ D4 k4 => ?_⟩
    refine ⟨_, rfl, _, rfl, d, n, _, rfl, D4, hn2, by omega, fun xs0 a0 H5 ox0 na0 ha0 na0d D5 k5 => ?_⟩
    have kk5 : KeepD d H H5 := (kk3.trans k4).trans k5
    refine ⟨line_small (by show 1 ≤ 16777216; decide), fun l nl => ?_⟩
    have nld := D5.ne nl
    have fa0 : H a0 = none := (kk3.trans k4).none na0 na0d
    have fl : H l = none := kk5.none nl nld
    have nla : l ≠ a0 := (ne_of_none ha0 nl).symm
    refine ⟨_, rfl, 4, _, rfl, rfl, .inl ⟨by decide, by decide⟩, _, rfl, by omega, by omega, ?_⟩
    rw [show (4 * (most : Int)).toNat = 4 * most by omega]
    obtain ⟨ma, ema⟩ : ∃ ma : Nat, many = (ma : Int) := ⟨many.toNat, by omega⟩
    have hma : 1 ≤ ma ∧ ma ≤ most := ⟨by omega, by omega⟩
    have D6 := D5.new (o := .lst [.ref a0]) nl
    have k6 : KeepD d H (upd H5 l (.lst [.ref a0])) := kk5.trans (KeepD.new nl)
    have hl6 : upd H5 l (.lst [.ref a0]) l = some (.lst [.ref a0]) := upd_same
    have ha6 := same_new (o := .lst [.ref a0]) nl _ _ ha0
    generalize upd H5 l (.lst [.ref a0]) = H6 at D6 k6 hl6 ha6 ⊢
    have D7 : PoolAt H6 d (c + 16 + 33 * 0) := D6.mono (by omega)
    clear D5 D4 D3 D2 D1 k5 k4 k3 k2 k1 kk3 kk5 D6 nl ha0 na0 ht3 nt ntd
    refine for_range (n := 4 * most) (fun i σ G => ∃ (as : List Addr) (rs : List (List Int)) (y6 y7 y8 : Option V), σ = [some (.ref d), some (.int n), some (.int most), some (.int many), some (.int wy), some (.ref l), y6, y7, y8] ∧ OL G l as rs n ∧ rs.Nodup ∧ 1 ≤ rs.length ∧ rs.length ≤ ma ∧ (∀ a ∈ as, H a = none ∧ a ≠ d ∧ a ≠ l) ∧ PoolAt G d (c + 16 + 33 * i) ∧ KeepD d H G)
      ⟨[a0], [xs0], _, _, _, rfl, ⟨hl6, ⟨ha6, trivial⟩, fun r hr => by rw [List.mem_singleton.mp hr]; exact ox0, hn1, hn2⟩, List.nodup_cons.mpr ⟨List.not_mem_nil, List.nodup_nil⟩, Nat.le_refl _, hma.1, fun a ha => by rw [List.mem_singleton.mp ha]; exact ⟨fa0, na0d, nla.symm⟩, D7, k6⟩ (fun i σ Gi hi hP => ?_) (fun σ G hP => ?_)
    · obtain ⟨as, rs, y6, y7, y8, rfl, hO, nd, l1, l2, fr, Di, ki⟩ := hP
      have hal := hO.ll.len
      have nda : d ∉ as := fun h => (fr d h).2.1 rfl
      refine ⟨_, rfl, l, _, rfl, .inl (SqL.of hO.top), _, rfl, _, many, rfl, rfl, _, rfl, ite2 (fun cl => ?_) (fun _ => ⟨as, rs, _, _, _, rfl, hO, nd, l1, l2, fr, Di.mono (by omega), ki⟩)⟩
      have lt : rs.length < ma := by
        have := of_decide_eq_true cl
        rw [List.length_map, hal] at this
        omega
      refine ⟨_, rfl, _, rfl, d, n, _, rfl, Di, hn2, by omega, fun xs o G1 ox no ho nod D1 k1 => ?_⟩
      -- the last one
      have lst1 : ∀ {G : Hp}, OL G l as rs n → ∃ a r, atI (as.map V.ref) (-1) = some (.ref a) ∧ r ∈ rs ∧ G a = some (.lst (r.map V.int)) := fun {G} hG => by
        have h1 : as.length - 1 < as.length := by omega
        have ea : as[as.length - 1]? = some (as[as.length - 1]'h1) := List.getElem?_eq_getElem h1
        obtain ⟨r, er, ha⟩ := hG.ll.get ea
        refine ⟨_, r, ?_, List.mem_of_getElem? er, ha⟩
        have e1 : ixN (as.map V.ref).length (-1) = some (as.length - 1) := by
          unfold ixN
          rw [if_neg (by decide), List.length_map, if_pos (by omega)]
          congr 1
          omega
        unfold atI
        rw [e1]
        show (as.map V.ref)[as.length - 1]? = _
        rw [List.getElem?_map, ea]
        rfl
      have M0 : ∀ {G : Hp} {cc : Nat} (o : Addr) (ms : List Int) (y8' : Option V), IsOrd n ms → Gi o = none → o ≠ d → G o = some (.lst (ms.map V.int)) → PoolAt G d cc → cc ≤ c + 16 + 33 * (i + 1) → KeepD d Gi G → ∃ (o' : Addr) (ms' : List Int) (y : Option V), [some (V.ref d), some (.int n), some (.int most), some (.int many), some (.int wy), some (.ref l), some (.int (0 + (i : Int))), some (.ref o), y8'] = [some (V.ref d), some (.int n), some (.int most), some (.int many), some (.int wy), some (.ref l), some (.int (0 + (i : Int))), some (.ref o'), y] ∧ IsOrd n ms' ∧ Gi o' = none ∧ o' ≠ d ∧ G o' = some (.lst (ms'.map V.int)) ∧ PoolAt G d (c + 16 + 33 * (i + 1)) ∧ KeepD d Gi G :=
        fun o ms y8' h1 h2 h3 h4 h5 h6 h7 => ⟨o, ms, y8', rfl, h1, h2, h3, h4, h5.mono h6, h7⟩
      refine ⟨fun τ G => ∃ (o' : Addr) (ms' : List Int) (y : Option V), τ = [some (.ref d), some (.int n), some (.int most), some (.int many), some (.int wy), some (.ref l), some (.int (0 + (i : Int))), some (.ref o'), y] ∧ IsOrd n ms' ∧ Gi o' = none ∧ o' ≠ d ∧ G o' = some (.lst (ms'.map V.int)) ∧ PoolAt G d (c + 16 + 33 * (i + 1)) ∧ KeepD d Gi G, ?_, fun τ G hM => ?_⟩
      · refine ⟨_, rfl, rfl, _, rfl, ite2 (fun _ => ?_) (fun _ => M0 o xs _ ox no nod ho D1 (by omega) k1)⟩
        have hO1 := hO.keepD k1 (fun z => nld z) nda
        refine ⟨_, rfl, _, rfl, _, rfl, _, rfl, l, _, rfl, .inl (SqL.of hO1.top), d, _, _, rfl, D1, by omega, by rw [List.length_map]; omega, by rw [List.length_map]; omega, fun u G2 u0 u1 D2 k2 => ?_⟩
        rw [List.length_map] at u1
        have hO2 := hO1.keepD k2 nld nda
        obtain ⟨j, rfl⟩ : ∃ j : Nat, u = (j : Int) := ⟨u.toNat, by omega⟩
        obtain ⟨a, ea⟩ : ∃ a, as[j]? = some a := ⟨as[j]'(by omega), List.getElem?_eq_getElem (by omega)⟩
        obtain ⟨r, er, ha⟩ := hO2.ll.get ea
        refine ⟨l, _, _, _, rfl, rfl, SqL.of hO2.top, at_of (j := j) rfl (ref_at ea), d, a, n, _, r, rfl, D2, ha, hO.ord r (List.mem_of_getElem? er), hn1, hn2, by omega, fun ms p G3 oms np hp npd D3 k3 => ?_⟩
        exact M0 p ms _ oms ((k1.trans k2).none np npd) npd hp D3 (by omega) ((k1.trans k2).trans k3)
      clear D1 k1 ho no nod ox
      obtain ⟨o, xs, y, rfl, ox, no, nod, ho, D1, k1⟩ := hM
      have hO1 := hO.keepD k1 nld nda
      refine ⟨fun τ G => ∃ (o' : Addr) (ms' : List Int) (y : Option V), τ = [some (.ref d), some (.int n), some (.int most), some (.int many), some (.int wy), some (.ref l), some (.int (0 + (i : Int))), some (.ref o'), y] ∧ IsOrd n ms' ∧ Gi o' = none ∧ o' ≠ d ∧ G o' = some (.lst (ms'.map V.int)) ∧ PoolAt G d (c + 16 + 33 * (i + 1)) ∧ KeepD d Gi G, ?_, fun τ G hM => ?_⟩
      · refine ⟨_, rfl, rfl, _, rfl, ite2 (fun _ => ?_) (fun _ => M0 o xs _ ox no nod ho D1 (Nat.le_refl _) k1)⟩
        obtain ⟨a, r, ea, mr, ha⟩ := lst1 hO1
        refine ⟨_, rfl, 1, rfl, l, _, _, _, rfl, rfl, SqL.of hO1.top, ea, a, rfl, ⟨_, SqL.of ha⟩, fun M nM => ?_⟩
        have sM := same_new (o := .lst []) nM
        have orr := hO.ord r mr
        refine lc_list (K := K) (a := a) (xs := r.map V.int) (fun j A5 => A5 M = some (.lst (((r.take j).map fun x => (x + 1) % (n : Int)).map V.int)) ∧ Same G A5) ⟨upd_same, sM⟩ (fun j A5 _ hP => SqL.of (hP.2 _ _ ha)) (fun j x A5 hx hP => ?_) (fun A5 hP => ?_)
        · obtain ⟨hM, s5⟩ := hP
          obtain ⟨z, ez, rfl⟩ := int_at_inv hx
          have hj : j < n := by rw [← orr.len]; exact (List.getElem?_eq_some_iff.mp ez).1
          refine ⟨rfl, _, rfl, z, 1, rfl, rfl, _, rfl, _, _, rfl, rfl, show (0 : Int) < n by omega, _, hM, line_lt (by rw [List.length_map, List.length_map, List.length_take]; omega), ?_, fun b o hb => ?_⟩
          · rw [upd_same, take_more ez, List.map_append, List.map_append]
            rfl
          · rw [upd_ne (ne_of_none hb nM)]
            exact s5 _ _ hb
        · obtain ⟨hM, s5⟩ := hP
          rw [List.length_map, List.take_length] at hM
          have nMd := D1.ne nM
          exact M0 M _ _ (ord_plus orr hn2) (k1.none nM nMd) nMd hM (D1.same s5) (Nat.le_refl _) (k1.trans (KeepD.of_same s5))
      clear D1 k1 ho no nod ox hO1 o xs
      obtain ⟨o, xs, y, rfl, ox, no, nod, ho, D1, k1⟩ := hM
      have hO1 := hO.keepD k1 nld nda
      refine ⟨fun τ G => ∃ (o' : Addr) (ms' : List Int) (y : Option V), τ = [some (.ref d), some (.int n), some (.int most), some (.int many), some (.int wy), some (.ref l), some (.int (0 + (i : Int))), some (.ref o'), y] ∧ IsOrd n ms' ∧ Gi o' = none ∧ o' ≠ d ∧ G o' = some (.lst (ms'.map V.int)) ∧ PoolAt G d (c + 16 + 33 * (i + 1)) ∧ KeepD d Gi G, ?_, fun τ G hM => ?_⟩
      · refine ⟨_, rfl, _, rfl, dL xs, rs.map dL, dp_list ho, dp_lists hO1.top hO1.ll, shaped_list _, shaped_lists _, _, rfl, ?_⟩
        rw [any_row]
        by_cases ci : xs ∈ rs
        · rw [decide_eq_true ci]
          refine iteT ?_
          obtain ⟨a, r, ea, mr, ha⟩ := lst1 hO1
          have orr := hO.ord r mr
          refine ⟨_, rfl, 1, rfl, l, _, _, _, rfl, rfl, SqL.of hO1.top, ea, _, rfl, a, _, rfl, SqL.of ha, fun c1 nc1 => ?_⟩
          have e1 : cutV (r.map V.int) (some 1) none = (r.drop 1).map V.int := by rw [cut_ints]; exact congrArg _ (cutI_tail r 1)
          rw [e1]
          have s5 := same_new (o := .lst ((r.drop 1).map V.int)) nc1
          have hO5 := hO1.same s5
          refine ⟨_, rfl, 1, rfl, l, _, _, _, rfl, rfl, SqL.of hO5.top, ea, _, rfl, a, _, rfl, SqL.of (s5 _ _ ha), fun c2 nc2 => ?_⟩
          have e2 : cutV (r.map V.int) none (some 1) = (r.take 1).map V.int := by rw [cut_ints]; exact congrArg _ (cutI_head r 1)
          rw [e2]
          have s6 := same_new (o := .lst ((r.take 1).map V.int)) nc2
          have hrl := orr.len
          refine ⟨c1, c2, _, _, rfl, rfl, s6 _ _ upd_same, upd_same, line_small (by rw [List.length_map, List.length_map, List.length_drop, List.length_take]; omega), fun z nz => ?_⟩
          have s7 := same_new (o := .lst ((r.drop 1).map V.int ++ (r.take 1).map V.int)) nz
          have s567 := (s5.trans s6).trans s7
          have nzG := (s5.trans s6).free nz
          have nzd := D1.ne nzG
          exact M0 z (r.drop 1 ++ r.take 1) _ (ord_rot orr) (k1.none nzG nzd) nzd (by rw [upd_same, List.map_append]) (D1.same s567) (Nat.le_refl _) (k1.trans (KeepD.of_same s567))
        · rw [decide_eq_false ci]
          exact iteF (M0 o xs _ ox no nod ho D1 (Nat.le_refl _) k1)
      clear D1 k1 ho no nod ox hO1 o xs
      obtain ⟨o, xs, y, rfl, ox, no, nod, ho, D1, k1⟩ := hM
      have hO1 := hO.keepD k1 nld nda
      refine ⟨_, rfl, _, rfl, dL xs, rs.map dL, dp_list ho, dp_lists hO1.top hO1.ll, shaped_list _, shaped_lists _, _, rfl, ?_⟩
      show (if (!(rs.map dL).any fun z => PyData.eqv z (dL xs)) = true then _ else _)
      rw [any_row]
      by_cases ci : xs ∈ rs
      · rw [decide_eq_true ci]
        exact iteF ⟨as, rs, _, _, _, rfl, hO1, nd, l1, l2, fr, D1, ki.trans k1⟩
      · rw [decide_eq_false ci]
        have nol : o ≠ l := fun z => by rw [z, hO.top] at no; cases no
        refine iteT ⟨_, rfl, .inl ⟨rfl, _, SqL.of hO1.top⟩, _, rfl, l, _, _, rfl, rfl, hO1.top, line_lt (by rw [List.length_map]; omega), ?_⟩
        refine ⟨as ++ [o], rs ++ [xs], _, _, _, rfl, ⟨by rw [upd_same, List.map_append]; rfl, ?_, fun r hr => ?_, hn1, hn2⟩, nodup_snoc nd ci, by rw [List.length_append]; omega, by rw [List.length_append]; show _ + 1 ≤ _; omega, fun a ha => ?_, D1.upd nld, fun b o' hb nb => ?_⟩
        · refine LL.snoc (hO1.ll.keep fun a ha o' e => by rw [upd_ne (fr a ha).2.2]; exact e) ?_
          rw [upd_ne nol]
          exact ho
        · rcases List.mem_append.mp hr with hr | hr
          · exact hO.ord r hr
          · rw [List.mem_singleton.mp hr]; exact ox
        · rcases List.mem_append.mp ha with ha | ha
          · exact fr a ha
          · rw [List.mem_singleton.mp ha]
            exact ⟨ki.none no nod, nod, nol⟩
        · rw [upd_ne (ne_of_none hb fl)]
          exact k1 _ _ (ki b o' hb nb) nb
    · obtain ⟨as, rs, y6, y7, y8, rfl, hO, nd, l1, l2, fr, Di, ki⟩ := hP
      refine ⟨_, rfl, q l as rs G hO nd l1 (by omega) fl (fun a ha => (fr a ha).1) nld (fun h => (fr d h).2.1 rfl) (fun h => (fr l h).2.2 rfl) (Di.mono ?_) ki⟩
      have : 33 * (4 * most) ≤ 33 * (4 * 120) := Nat.mul_le_mul_left _ (Nat.mul_le_mul_left _ hm2)
      omega
end
end Fo
namespace Fo
open PySem PySem.Spec PyProof.Rows L2
def OrdX (x : List Int) : Prop := ∃ n, IsOrd n x ∧ 1 ≤ n ∧ n ≤ 12
structure TrAt (H : Hp) (t a0 a1 a2 : Addr) (x0 x1 x2 : List Int) : Prop where
  top : H t = some (.tup [.ref a0, .ref a1, .ref a2])
  h0 : H a0 = some (.lst (x0.map V.int))
  h1 : H a1 = some (.lst (x1.map V.int))
  h2 : H a2 = some (.lst (x2.map V.int))
  o0 : OrdX x0
  o1 : OrdX x1
  o2 : OrdX x2
theorem TrAt.same {H H' : Hp} {t a0 a1 a2 : Addr} {x0 x1 x2 : List Int} (h : TrAt H t a0 a1 a2 x0 x1 x2) (s : Same H H') : TrAt H' t a0 a1 a2 x0 x1 x2 := ⟨s _ _ h.top, s _ _ h.h0, s _ _ h.h1, s _ _ h.h2, h.o0, h.o1, h.o2⟩
def spThree : Sp := fun vs H Q _ => ∃ (t a0 a1 a2 : Addr) (x0 x1 x2 : List Int), vs = [.ref t] ∧ TrAt H t a0 a1 a2 x0 x1 x2 ∧ ∀ H', Same H H' → Q .non H'
def spListed : Sp := fun vs H Q _ => ∃ (a : Addr) (xs : List V), vs = [.ref a] ∧ H a = some (.lst xs) ∧ xs.length ≤ 6 ∧ Q .non H
def spSure : Sp := fun vs H Q _ => ∃ (w : Str) (l : Addr) (as : List Addr) (rs : List (List Int)) (n : Nat) (e : Int), vs = [.str w, .ref l, .int e] ∧ IsWay w ∧ OL H l as rs n ∧ rs.Nodup ∧ 1 ≤ rs.length ∧ rs.length ≤ 120 ∧ n ≤ 6 ∧ 0 ≤ e ∧ ∀ H', Same H H' → Q .non H'
def showsF (w : Str) (rs : List (List Int)) (e : Int) (x0 x1 x2 : List Int) : Bool := decide (x1 ≠ x2 ∧ x1 ∈ rs ∧ x2 ∈ rs ∧ x0.length = x1.length ∧ farW w x0 x1 ≤ e ∧ farW w x0 x2 ≤ e)
def spShows : Sp := fun vs H Q _ => ∃ (w : Str) (l : Addr) (as : List Addr) (rs : List (List Int)) (n : Nat) (e : Int) (t a0 a1 a2 : Addr) (x0 x1 x2 : List Int), vs = [.str w, .ref l, .int e, .ref t] ∧ IsWay w ∧ OL H l as rs n ∧ rs.Nodup ∧ 1 ≤ rs.length ∧ rs.length ≤ 120 ∧ n ≤ 6 ∧ 0 ≤ e ∧ TrAt H t a0 a1 a2 x0 x1 x2 ∧ ∀ H', Same H H' → Q (.bl (showsF w rs e x0 x1 x2)) H'
section
variable {P : Program} {w : World} {K : PySem.W.Frag} {mg : Str → Option Value} {base : Heap}
theorem scListed : FnScope ["order"] ["order"] (defScope s_check_listed) := ⟨rfl, rfl, rfl, by decide +kernel, rfl, by decide +kernel, by decide +kernel⟩
theorem ok_listed {f : Addr} {fd : FuncData} {k : Nat} {tk : Tok} (T : Df K mg "check_listed" s_check_listed ["order"] f fd) (B : Bi mg) (mL : mg "MOST_LISTED" = some (.int 6 tk)) : FnOk P w K mg base CX0 (k + 1) f fd ["order"] spListed := by
  refine T.F.ok scListed (fun vs H Q E h => ?_) (fun cdv A outer s H vs Q E hr h => ?_)
  · obtain ⟨a, xs, rfl, _⟩ := h
    rfl
  · obtain ⟨a, xs, rfl, ha, hl, q⟩ := h
    refine ⟨_, 
      (pss_one (ps_if (pt_cmpR op_gt (pe_callB call_len_seq (by rfl) B.len PySem.boot_len (pa_cons (pv 0) pa_nil)) (pe_glob (v := .int 6) (by rfl) mL ⟨_, rfl⟩) (nomark _))
        (pss_one ps_never)
        pss_nil)), ?_⟩
    exact ⟨_, rfl, a, _, rfl, .inl (SqL.of ha), _, 6, rfl, rfl, _, rfl, ite2 (fun z => absurd (of_decide_eq_true z) (by omega)) (fun _ => q)⟩
theorem scThree : FnScope ["thing", "each"] ["thing"] (defScope s_check_three) := ⟨rfl, rfl, rfl, by decide +kernel, rfl, by decide +kernel, by decide +kernel⟩
set_option maxHeartbeats 2000000 in
theorem ok_three {f f1 : Addr} {fd d1 : FuncData} {k : Nat} (T : Df K mg "check_three" s_check_three ["thing"] f fd) (T_is_order : Df K mg "is_order" s_is_order ["thing"] f1 d1) (G_is_order : FnOk P w K mg base CX0 k f1 d1 ["thing"] spIsOrd) (B : Bi mg) : FnOk P w K mg base CX0 (k + 1) f fd ["thing"] spThree := by
  refine T.F.ok scThree (fun vs H Q E h => ?_) (fun cdv A outer s H vs Q E hr h => ?_)
  · obtain ⟨t, a0, a1, a2, x0, x1, x2, rfl, _⟩ := h
    rfl
  · obtain ⟨t, a0, a1, a2, x0, x1, x2, rfl, hT, q⟩ := h
    refine ⟨_, 
      (pss_one (ps_if (PW.pt (pw_or (pt_not (pt_val (pe_callB call_isi (by rfl) B.isinstance (by decide +kernel) (pa_cons (pv 0) (pa_cons (pe_bltn (v := .ty "tuple") (by rfl) B.tuple (by decide +kernel) rfl) pa_nil))))) (pw_or (pt_cmpR op_ne (pe_callB call_len_seq (by rfl) B.len PySem.boot_len (pa_cons (pv 0) pa_nil)) pe_int (nomark _)) (pw_or1 (pt_not (pt_val (pe_callB (cr_all rfl) (by rfl) B.all (by decide +kernel) (pa_cons (pe_lc (own := [("each", 1)]) (g := (gName 1)) (tt := tYes) (te := (tCall spIsOrd [] E0 (tCons (tVar 1) tNil))) rfl scThree.nd (pi_tup (pv 0)) (blkOk_by (N := ["thing", "each"]) (sc := defScope s_check_three) (by decide +kernel)) (fun _ _ _ _ _ => (pg_name (i := 1) scThree.nd rfl (.inl rfl))) (fun _ _ _ _ _ => pts_nil) (fun _ _ _ _ _ => (pe_call G_is_order hr (by rfl) T_is_order.g T_is_order.F.kp T_is_order.b .nil pass0 (pa_cons (pv 1) pa_nil)))) pa_nil))))))))
        (pss_one ps_never)
        pss_nil)), ?_⟩
    refine ⟨_, rfl, _, _, _, _, true, rfl, .ty _, .base (.tup hT.top), kit_ty (by decide +kernel), true, rfl, iteF ?_⟩
    refine ⟨_, rfl, t, _, rfl, .inr (SqT.of hT.top), rfl, _, rfl, iteNS rfl ?_⟩
    refine ⟨_, rfl, t, rfl, ⟨_, SqT.of hT.top⟩, fun p np => ?_⟩
    refine lc_tup (K := K) (a := t) (xs := [.ref a0, .ref a1, .ref a2]) (fun i H3 => H3 p = some (.lst ((List.replicate i true).map V.bl)) ∧ Same H H3) ⟨upd_same, same_new np⟩ (fun i H3 _ hP => SqT.of (hP.2 _ _ hT.top)) (fun i x H3 hx hP => ?_) (fun H3 hP => ?_)
    · obtain ⟨hp3, sm⟩ := hP
      have hT3 := hT.same sm
      have hi : i < 3 := (List.getElem?_eq_some_iff.mp hx).1
      obtain ⟨c, z, ex, hc, n, oz, n1, n2⟩ : ∃ c z, x = V.ref c ∧ H3 c = some (.lst (z.map V.int)) ∧ OrdX z := by
        match i, hx with
        | 0, hx => exact ⟨a0, x0, (Option.some.inj hx).symm, hT3.h0, hT.o0⟩
        | 1, hx => exact ⟨a1, x1, (Option.some.inj hx).symm, hT3.h1, hT.o1⟩
        | 2, hx => exact ⟨a2, x2, (Option.some.inj hx).symm, hT3.h2, hT.o2⟩
      subst ex
      refine ⟨rfl, _, rfl, c, n, z, rfl, hc, oz, n1, n2, fun H4 s4 => ⟨_, s4 _ _ hp3, line_lt (by
        rw [List.length_map, List.length_replicate]; omega), ?_, fun b o e => ?_⟩⟩
      · rw [upd_same, List.replicate_succ', List.map_append]
        rfl
      · rw [upd_ne (ne_of_none e np)]
        exact s4 _ _ (sm _ _ e)
    · obtain ⟨hp3, sm⟩ := hP
      refine ⟨p, _, rfl, SqL.of hp3, _, rfl, ?_⟩
      rw [all_true]
      exact iteF (q _ sm)
theorem scSure : FnScope ["way", "orders", "e"] ["way", "orders", "e"] (defScope s_check_sure) := ⟨rfl, rfl, rfl, by decide +kernel, rfl, by decide +kernel, by decide +kernel⟩
theorem ok_sure {f f1 f2 f3 f4 : Addr} {fd d1 d2 d3 d4 : FuncData} {k : Nat} (T : Df K mg "check_sure" s_check_sure ["way", "orders", "e"] f fd) (T_check_unlike_list : Df K mg "check_unlike_list" s_check_unlike_list ["thing"] f1 d1) (T_check_way : Df K mg "check_way" s_check_way ["thing"] f2 d2) (T_check_listed : Df K mg "check_listed" s_check_listed ["order"] f3 d3) (T_check_from : Df K mg "check_from" s_check_from ["thing", "least"] f4 d4) (G_check_unlike_list : FnOk P w K mg base CX0 k f1 d1 ["thing"] spCUnl) (G_check_way : FnOk P w K mg base CX0 k f2 d2 ["thing"] spWay) (G_check_listed : FnOk P w K mg base CX0 k f3 d3 ["order"] spListed) (G_check_from : FnOk P w K mg base CX0 k f4 d4 ["thing", "least"] spFrom) (B : Bi mg) : FnOk P w K mg base CX0 (k + 1) f fd ["way", "orders", "e"] spSure := by
  refine T.F.ok scSure (fun vs H Q E h => ?_) (fun cdv A outer s H vs Q E hr h => ?_)
  · obtain ⟨wy, l, as, rs, n, e, rfl, _⟩ := h
    rfl
  · obtain ⟨wy, l, as, rs, n, e, rfl, hw, hO, nd, h1, h2, hn6, he, q⟩ := h
    refine ⟨_, 
      (pss_cons (ps_expr (pe_call G_check_unlike_list hr (by rfl) T_check_unlike_list.g T_check_unlike_list.F.kp T_check_unlike_list.b .nil pass0 (pa_cons (pv 1) pa_nil)))
      (pss_cons (ps_expr (pe_call G_check_way hr (by rfl) T_check_way.g T_check_way.F.kp T_check_way.b .nil pass0 (pa_cons (pv 0) pa_nil)))
      (pss_cons (ps_expr (pe_call G_check_listed hr (by rfl) T_check_listed.g T_check_listed.F.kp T_check_listed.b .nil pass0 (pa_cons (pe_ix ix_list (pv 1) pe_int (fun _ _ => rfl)) pa_nil)))
      (pss_one (ps_expr (pe_call G_check_from hr (by rfl) T_check_from.g T_check_from.F.kp T_check_from.b .nil pass0 (pa_cons (pv 2) (pa_cons pe_int pa_nil)))))))), ?_⟩
    refine ⟨_, rfl, l, as, rs, n, rfl, hO, nd, h1, h2, fun H1 s1 => ?_⟩
    have hO1 := hO.same s1
    have hal := hO.ll.len
    obtain ⟨a0, ea0⟩ : ∃ a0, as[0]? = some a0 := ⟨as[0]'(by omega), List.getElem?_eq_getElem (by omega)⟩
    obtain ⟨r0, er0, ha0⟩ := hO1.ll.get ea0
    have l2 := (hO.ord r0 (List.mem_of_getElem? er0)).len
    refine ⟨_, rfl, wy, rfl, hw, ?_⟩
    refine ⟨_, rfl, l, _, 0, _, rfl, rfl, SqL.of hO1.top, at_of (j := 0) rfl (ref_at ea0), a0, _, rfl, ha0, by rw [List.length_map]; omega, ?_⟩
    exact ⟨_, rfl, e, 0, rfl, he, q _ s1⟩
theorem scShows : FnScope ["way", "orders", "e", "thing", "order", "one", "other"] ["way", "orders", "e", "thing"] (defScope s_shows_not_sure) := ⟨rfl, rfl, rfl, by decide +kernel, rfl, by decide +kernel, by decide +kernel⟩
set_option maxHeartbeats 4000000 in
theorem ok_shows {f f1 f2 f3 : Addr} {fd d1 d2 d3 : FuncData} {k : Nat} (T : Df K mg "shows_not_sure" s_shows_not_sure ["way", "orders", "e", "thing"] f fd) (T_check_three : Df K mg "check_three" s_check_three ["thing"] f1 d1) (T_check_sure : Df K mg "check_sure" s_check_sure ["way", "orders", "e"] f2 d2) (T_those_within : Df K mg "those_within" s_those_within ["way", "order", "orders", "r"] f3 d3) (G_check_three : FnOk P w K mg base CX0 k f1 d1 ["thing"] spThree) (G_check_sure : FnOk P w K mg base CX0 k f2 d2 ["way", "orders", "e"] spSure) (G_those_within : FnOk P w K mg base CX0 k f3 d3 ["way", "order", "orders", "r"] spThose) (B : Bi mg) : FnOk P w K mg base CX0 (k + 1) f fd ["way", "orders", "e", "thing"] spShows := by
  refine T.F.ok scShows (fun vs H Q E h => ?_) (fun cdv A outer s H vs Q E hr h => ?_)
  · obtain ⟨wy, l, as, rs, n, e, t, a0, a1, a2, x0, x1, x2, rfl, _⟩ := h
    rfl
  · obtain ⟨wy, l, as, rs, n, e, t, a0, a1, a2, x0, x1, x2, rfl, hw, hO, nd, h1, h2, hn6, he, hT, q⟩ := h
    refine ⟨_, 
      (pss_cons (ps_expr (pe_call G_check_three hr (by rfl) T_check_three.g T_check_three.F.kp T_check_three.b .nil pass0 (pa_cons (pv 3) pa_nil)))
      (pss_cons (ps_expr (pe_call G_check_sure hr (by rfl) T_check_sure.g T_check_sure.F.kp T_check_sure.b .nil pass0 (pa_cons (pv 0) (pa_cons (pv 1) (pa_cons (pv 2) pa_nil)))))
      (pss_cons (ps_asg (pv 3) (pg_tup (by rfl) (pgs_cons (pg_name (i := 4) scShows.nd rfl (.inl rfl)) (pgs_cons (pg_name (i := 5) scShows.nd rfl (.inl rfl)) (pgs_cons (pg_name (i := 6) scShows.nd rfl (.inl rfl)) pgs_nil)))))
      (pss_cons (ps_if (PW.pt (pw_or (pt_cmpR op_ne (pe_callB call_len_seq (by rfl) B.len PySem.boot_len (pa_cons (pv 4) pa_nil)) (pe_callB call_len_seq (by rfl) B.len PySem.boot_len (pa_cons (pe_ix ix_list (pv 1) pe_int (fun _ _ => rfl)) pa_nil)) (nomark _)) (pw_or (pt_cmpR (op_eqD hr.units) (pv 5) (pv 6) (nomark _)) (pw_or (pt_cmpR (op_notInD (units65 hr)) (pv 5) (pv 1) (by rfl)) (pw_or1 (pt_cmpR (op_notInD (units65 hr)) (pv 6) (pv 1) (by rfl)))))))
        (pss_one (ps_ret pe_bl))
        pss_nil)
      (pss_one (ps_ret (pe_cmpR op_eq (pe_callB call_len_seq (by rfl) B.len PySem.boot_len (pa_cons (pe_call G_those_within hr (by rfl) T_those_within.g T_those_within.F.kp T_those_within.b .nil pass0 (pa_cons (pv 0) (pa_cons (pv 4) (pa_cons (pe_lst (pa_cons (pv 5) (pa_cons (pv 6) pa_nil))) (pa_cons (pv 2) pa_nil))))) pa_nil)) pe_int (nomark _)))))))), ?_⟩
    refine ⟨_, rfl, t, a0, a1, a2, x0, x1, x2, rfl, hT, fun H1 s1 => ?_⟩
    refine ⟨_, rfl, _, rfl, _, rfl, wy, l, as, rs, n, e, rfl, hw, hO.same s1, nd, h1, h2, hn6, he, fun H2 s2 => ?_⟩
    have s12 := s1.trans s2
    have hO2 := hO.same s12
    have hT2 := hT.same s12
    have hal := hO.ll.len
    obtain ⟨b0, eb0⟩ : ∃ b0, as[0]? = some b0 := ⟨as[0]'(by omega), List.getElem?_eq_getElem (by omega)⟩
    obtain ⟨r0, er0, hb0⟩ := hO2.ll.get eb0
    have l0 := (hO.ord r0 (List.mem_of_getElem? er0)).len
    refine ⟨_, rfl, t, _, rfl, .inl (.inl hT2.top), rfl, _, _, rfl, _, _, rfl, _, _, rfl, rfl, ?_⟩
    refine ⟨_, rfl, a0, _, rfl, .inl (SqL.of hT2.h0), _, rfl, l, _, 0, _, rfl, rfl, SqL.of hO2.top, at_of (j := 0) rfl (ref_at eb0), b0, _, rfl, .inl (SqL.of hb0), rfl, _, rfl, ?_⟩
    have ln : n = r0.length := l0.symm
    refine ite2 (fun c => ?_) (fun c => ?_)
    · have ne : x0.length ≠ n := fun z => by
        rw [List.length_map, List.length_map, l0, z] at c
        simp at c
      have e0 : showsF wy rs e x0 x1 x2 = false := decide_eq_false fun ⟨_, m1, _, hl, _⟩ => ne (by rw [hl]; exact (hO.ord x1 m1).len)
      rw [e0] at q
      exact q _ s12
    have lx : x0.length = n := by
      by_cases z : x0.length = n
      · exact z
      · exfalso
        refine c ?_
        rw [List.length_map, List.length_map, l0, decide_eq_false (fun y => z (by have := V.int.inj y; omega))]
        rfl
    clear c
    refine ⟨_, rfl, _, rfl, dL x1, dL x2, dp_list hT2.h1, dp_list hT2.h2, shaped_list _, shaped_list _, _, rfl, ?_⟩
    rw [eqv_ints]
    refine ite2 (fun c => ?_) (fun c => ?_)
    · have e0 : showsF wy rs e x0 x1 x2 = false := decide_eq_false fun ⟨m1, _⟩ => m1 (of_decide_eq_true c)
      rw [e0] at q
      exact q _ s12
    have c1 : x1 ≠ x2 := fun z => c (decide_eq_true z)
    refine ⟨_, rfl, _, rfl, dL x1, rs.map dL, dp_list hT2.h1, dp_lists hO2.top hO2.ll, shaped_list _, shaped_lists _, _, rfl, ?_⟩
    show (if (!(rs.map dL).any fun z => PyData.eqv z (dL x1)) = true then _ else _)
    rw [any_row]
    by_cases m1 : x1 ∈ rs
    rotate_left
    · have e0 : showsF wy rs e x0 x1 x2 = false := decide_eq_false fun ⟨_, m, _⟩ => m1 m
      rw [e0] at q
      rw [decide_eq_false m1]
      exact iteT (q _ s12)
    rw [decide_eq_true m1]
    refine iteF ?_
    refine ⟨_, rfl, _, rfl, dL x2, rs.map dL, dp_list hT2.h2, dp_lists hO2.top hO2.ll, shaped_list _, shaped_lists _, _, rfl, ?_⟩
    show (if (!(rs.map dL).any fun z => PyData.eqv z (dL x2)) = true then _ else _)
    rw [any_row]
    by_cases m2 : x2 ∈ rs
    rotate_left
    · have e0 : showsF wy rs e x0 x1 x2 = false := decide_eq_false fun ⟨_, _, m, _⟩ => m2 m
      rw [e0] at q
      rw [decide_eq_false m2]
      exact iteT (q _ s12)
    rw [decide_eq_true m2]
    refine iteF ?_
    obtain ⟨n0, on0, _, _⟩ := hT.o0
    obtain rfl : n0 = n := by rw [← lx, on0.len]
    have o1 := hO.ord x1 m1
    have o2 := hO.ord x2 m2
    refine ⟨_, rfl, _, rfl, _, rfl, _, rfl, line_small (by show 2 ≤ 16777216; decide), fun p np => ?_⟩
    have s3 := same_new (o := .lst [.ref a1, .ref a2]) np
    refine ⟨_, rfl, wy, a0, p, [a1, a2], x0, [x1, x2], n0, e, rfl, hw, s3 _ _ hT2.h0, on0, ⟨upd_same, ⟨s3 _ _ hT2.h1, s3 _ _ hT2.h2, trivial⟩, fun r hr => by rcases List.mem_cons.mp hr with rfl | hr; exact o1; rw [List.mem_singleton.mp hr]; exact o2, hO.n1, hO.n2⟩, by show 2 ≤ 1000; decide, fun l' as' H' nl' nas' nin' hl' hL' s4 => ?_⟩
    refine ⟨l', _, rfl, .inl (SqL.of hl'), rfl, ?_⟩
    have e0 : (V.bl (decide (V.int (((as'.map V.ref).length : Nat) : Int) = V.int 2))) = V.bl (showsF wy rs e x0 x1 x2) := by
      rw [List.length_map, hL'.len]
      unfold showsF
      congr 1
      rw [decide_eq_decide]
      have l1 := o1.len
      by_cases p1 : farW wy x0 x1 ≤ e <;> by_cases p2 : farW wy x0 x2 ≤ e
      · rw [List.filter_cons, if_pos (decide_eq_true p1), List.filter_cons, if_pos (decide_eq_true p2)]
        exact ⟨fun _ => ⟨c1, m1, m2, by omega, p1, p2⟩, fun _ => rfl⟩
      · rw [List.filter_cons, if_pos (decide_eq_true p1), List.filter_cons, if_neg (by rw [decide_eq_false p2]; decide)]
        exact ⟨fun z => by simp at z, fun h => absurd h.2.2.2.2.2 p2⟩
      · rw [List.filter_cons, if_neg (by rw [decide_eq_false p1]; decide), List.filter_cons, if_pos (decide_eq_true p2)]
        exact ⟨fun z => by simp at z, fun h => absurd h.2.2.2.2.1 p1⟩
      · rw [List.filter_cons, if_neg (by rw [decide_eq_false p1]; decide), List.filter_cons, if_neg (by rw [decide_eq_false p2]; decide)]
        exact ⟨fun z => by simp at z, fun h => absurd h.2.2.2.2.1 p1⟩
    rw [← e0] at q
    exact q _ ((s12.trans s3).trans s4)
end
end Fo
namespace Fo
open PySem PySem.Spec PyProof.Rows L2
def spThoseN : Sp := fun vs H Q _ => ∃ (w : Str) (a l : Addr) (as : List Addr) (xs : List Int) (rs : List (List Int)) (n : Nat) (r : Int), vs = [.str w, .ref a, .ref l, .int r] ∧ IsWay w ∧ H a = some (.lst (xs.map V.int)) ∧ IsOrd n xs ∧ OL H l as rs n ∧ rs.length ≤ 1000 ∧
  ∀ (l' : Addr) (as' : List Addr) (H' : Hp), H l' = none → (∀ a ∈ as', H a = none) → l' ∉ as' → as'.Nodup → H' l' = some (.lst (as'.map V.ref)) → LL H' as' (rs.filter fun o => decide (farW w xs o ≤ r)) → Same H H' → Q (.ref l') H'
/-- the first order that is within e of two of the list, with the first two of these -/
def nsF (w : Str) (rs : List (List Int)) (e : Int) : List (List Int) → Option (List Int × List Int × List Int)
  | [] => none
  | o :: os => match rs.filter fun x => decide (farW w o x ≤ e) with
    | r1 :: r2 :: _ => some (o, r1, r2)
    | _ => nsF w rs e os
theorem nsF_app {w : Str} {rs : List (List Int)} {e : Int} : ∀ {a b : List (List Int)}, nsF w rs e a = none → nsF w rs e (a ++ b) = nsF w rs e b
  | [], _, _ => rfl
  | o :: os, b, h => by
    unfold nsF at h
    show nsF w rs e (o :: (os ++ b)) = _
    rw [nsF]
    split at h
    · cases h
    · exact nsF_app h
theorem nsF_hit {w : Str} {rs : List (List Int)} {e : Int} {a : List (List Int)} {i : Nat} {o r1 r2 : List Int} {t : List (List Int)} (ha : nsF w rs e (a.take i) = none) (ho : a[i]? = some o) (hf : (rs.filter fun x => decide (farW w o x ≤ e)) = r1 :: r2 :: t) : nsF w rs e a = some (o, r1, r2) := by
  have h := nsF_app (b := a.drop i) ha
  rw [List.take_append_drop] at h
  have hi : i < a.length := (List.getElem?_eq_some_iff.mp ho).1
  have hd : a.drop i = o :: a.drop (i + 1) := by
    rw [List.drop_eq_getElem_cons hi]
    congr 1
    exact (List.getElem?_eq_some_iff.mp ho).2
  rw [h, hd, nsF, hf]
theorem nsF_miss {w : Str} {rs : List (List Int)} {e : Int} {a : List (List Int)} {i : Nat} {o : List Int} (ha : nsF w rs e (a.take i) = none) (ho : a[i]? = some o) (hf : (rs.filter fun x => decide (farW w o x ≤ e)).length ≤ 1) : nsF w rs e (a.take (i + 1)) = none := by
  rw [take_more' ho, nsF_app ha, nsF]
  split
  · rename_i r1 r2 t he
    rw [he] at hf
    simp at hf
  · rfl
/-- what not_sure tells -/
def spNotSure : Sp := fun vs H Q _ => ∃ (w : Str) (l : Addr) (as : List Addr) (rs : List (List Int)) (n : Nat) (e : Int), vs = [.str w, .ref l, .int e] ∧ IsWay w ∧ OL H l as rs n ∧ rs.Nodup ∧ 1 ≤ rs.length ∧ rs.length ≤ 120 ∧ n ≤ 6 ∧ 0 ≤ e ∧
  (nsF w rs e (allK n n) = none → ∀ H', Same H H' → Q .non H') ∧ (∀ o r1 r2, nsF w rs e (allK n n) = some (o, r1, r2) → IsOrd n o → r1 ∈ rs → r2 ∈ rs → ∀ (t a0 a1 a2 : Addr) (H' : Hp), H t = none → H a0 = none → H a1 = none → H a2 = none → [t, a0, a1, a2].Nodup → H' t = some (.tup [.ref a0, .ref a1, .ref a2]) → H' a0 = some (.lst (o.map V.int)) → H' a1 = some (.lst (r1.map V.int)) → H' a2 = some (.lst (r2.map V.int)) → Same H H' → Q (.ref t) H')
def spDue54 : Sp := fun vs H Q _ => ∃ (w : Str) (l : Addr) (as : List Addr) (rs : List (List Int)) (n : Nat) (e : Int), vs = [.str w, .ref l, .int e] ∧ IsWay w ∧ OL H l as rs n ∧ 1 ≤ rs.length ∧ rs.length ≤ 120 ∧ n ≤ 6 ∧
  (nsF w rs e (allK n n) = none → ∀ H', Same H H' → Q .non H') ∧ (∀ o r1 r2, nsF w rs e (allK n n) = some (o, r1, r2) → ∀ (t a0 a1 a2 : Addr) (H' : Hp), H' t = some (.lst [.ref a0, .ref a1, .ref a2]) → H' a0 = some (.lst (o.map V.int)) → H' a1 = some (.lst (r1.map V.int)) → H' a2 = some (.lst (r2.map V.int)) → Same H H' → Q (.ref t) H')
section
variable {P : Program} {w : World} {K : PySem.W.Frag} {mg : Str → Option Value} {base : Heap}
theorem scThoseN : FnScope ["way", "order", "orders", "r", "other"] ["way", "order", "orders", "r"] (defScope s_those_within) := ⟨rfl, rfl, rfl, by decide +kernel, rfl, by decide +kernel, by decide +kernel⟩
set_option maxHeartbeats 4000000 in
theorem ok_thoseN {f f1 : Addr} {fd d1 : FuncData} {k : Nat} (T : Df K mg "those_within" s_those_within ["way", "order", "orders", "r"] f fd) (T_known_far : Df K mg "known_far" s_known_far ["way", "one", "other"] f1 d1) (G_known_far : FnOk P w K mg base CX0 k f1 d1 ["way", "one", "other"] spFar) (B : Bi mg) : FnOk P w K mg base CX0 (k + 1) f fd ["way", "order", "orders", "r"] spThoseN := by
  refine T.F.ok scThoseN (fun vs H Q E h => ?_) (fun cdv A outer s H vs Q E hr h => ?_)
  · obtain ⟨wy, a, l, as, xs, rs, n, r, rfl, _⟩ := h
    rfl
  · obtain ⟨wy, a, l, as, xs, rs, n, r, rfl, hw, ha, ox, hO, hlen, q⟩ := h
    have hal := hO.ll.len
    refine ⟨_, 
      (pss_one (ps_ret (pe_lc (own := [("other", 4)]) (g := (gName 4)) (tt := (tTest (tOp (rI0 fun i j => .bl (decide (i ≤ j))) (tCall spFar [] E0 (tCons (tVar 0) (tCons (tVar 1) (tCons (tVar 4) tNil)))) (tVar 3)))) (te := (tCB (rListOf K) (tCons (tVar 4) tNil))) rfl scThoseN.nd (pi_list (pv 2)) (blkOk_by (N := ["way", "order", "orders", "r", "other"]) (sc := defScope s_those_within) (by decide +kernel)) (fun _ _ _ _ _ => (pg_name (i := 4) scThoseN.nd rfl (.inl rfl))) (fun _ _ _ _ _ => (pts_one (pt_cmpR op_le (pe_call G_known_far hr (by rfl) T_known_far.g T_known_far.F.kp T_known_far.b .nil pass0 (pa_cons (pv 0) (pa_cons (pv 1) (pa_cons (pv 4) pa_nil)))) (pv 3) (nomark _)))) (fun _ _ _ _ _ => (pe_callTy call_list_of (by rfl) B.list (by decide +kernel) (pa_cons (pv 4) pa_nil)))))), ?_⟩
    refine ⟨_, rfl, l, rfl, ⟨_, SqL.of hO.top⟩, fun p np => ?_⟩
    refine lc_list (K := K) (a := l) (xs := as.map V.ref) (fun i H3 => ∃ bs : List Addr, H3 p = some (.lst (bs.map V.ref)) ∧ LL H3 bs ((rs.take i).filter fun o => decide (farW wy xs o ≤ r)) ∧ (∀ a ∈ bs, H a = none) ∧ p ∉ bs ∧ bs.Nodup ∧ Same H H3) ⟨[], upd_same, trivial, fun a ha => absurd ha List.not_mem_nil, List.not_mem_nil, List.nodup_nil, same_new np⟩ (fun i H3 _ hP => by obtain ⟨_, _, _, _, _, _, sm⟩ := hP; exact SqL.of (sm _ _ hO.top)) (fun i x H3 hx hP => ?_) (fun H3 hP => ?_)
    · obtain ⟨c0, ec, rfl⟩ := ref_at_inv hx
      obtain ⟨bs, hp3, hL3, hn3, np3, nd3, sm⟩ := hP
      obtain ⟨row, er, hc⟩ := (hO.ll.same sm).get ec
      have hbl := hL3.len
      have hbl2 : bs.length ≤ 1000 := by
        rw [hbl]
        exact Nat.le_trans (List.length_filter_le _ _) (by rw [List.length_take]; omega)
      refine ⟨rfl, _, rfl, _, rfl, _, rfl, wy, a, c0, n, xs, row, rfl, hw, sm _ _ ha, hc, ox, hO.ord row (List.mem_of_getElem? er), hO.n1, hO.n2, fun H4 s4 => ?_⟩
      refine ⟨_, rfl, _, _, rfl, rfl, _, rfl, ite2 (fun z => ?_) (fun z => ?_)⟩
      · refine ⟨_, rfl, c0, _, rfl, .inl (SqL.of (s4 _ _ hc)), fun c nc => ?_⟩
        have s5 := s4.trans (same_new (o := .lst (row.map V.int)) nc)
        have npc : p ≠ c := ne_of_none (s4 _ _ hp3) nc
        refine ⟨_, s5 _ _ hp3, line_lt (by rw [List.length_map]; omega), bs ++ [c], by rw [upd_same, List.map_append]; rfl, ?_, fun u hu => ?_, fun hu => ?_, ?_, fun b o e => ?_⟩
        · rw [filter_mo er, if_pos z]
          refine LL.snoc ((hL3.same s5).keep fun u hu o e => ?_) ?_
          · rw [upd_ne (fun q => np3 (by rw [← q]; exact hu))]
            exact e
          · rw [upd_ne npc.symm, upd_same]
        · rcases List.mem_append.mp hu with h | h
          · exact hn3 u h
          · rw [List.mem_singleton.mp h]
            exact (sm.trans s4).free nc
        · rcases List.mem_append.mp hu with h | h
          · exact np3 h
          · exact npc (List.mem_singleton.mp h)
        · rw [List.nodup_append]
          refine ⟨nd3, List.nodup_cons.mpr ⟨List.not_mem_nil, List.nodup_nil⟩, fun x hx y hy e => ?_⟩
          rw [List.mem_singleton.mp hy] at e
          obtain ⟨ob, eo⟩ := hL3.tracked hx
          rw [e, show H3 c = none from s4.free nc] at eo
          cases eo
        · rw [upd_ne (ne_of_none e np)]
          exact s5 _ _ (sm _ _ e)
      · refine ⟨bs, s4 _ _ hp3, ?_, hn3, np3, nd3, sm.trans s4⟩
        rw [filter_mo er, if_neg z, List.append_nil]
        exact hL3.same s4
    · obtain ⟨bs, hp3, hL3, hn3, np3, nd3, sm⟩ := hP
      rw [List.take_of_length_le (by rw [List.length_map]; omega)] at hL3
      exact q p bs H3 np hn3 np3 nd3 hp3 hL3 sm
theorem scNotSure : FnScope ["way", "orders", "e", "order", "near"] ["way", "orders", "e"] (defScope s_not_sure) := ⟨rfl, rfl, rfl, by decide +kernel, rfl, by decide +kernel, by decide +kernel⟩
set_option maxHeartbeats 8000000 in
theorem ok_notsure {f f1 f2 f3 : Addr} {fd d1 d2 d3 : FuncData} {k : Nat} (T : Df K mg "not_sure" s_not_sure ["way", "orders", "e"] f fd) (T_check_sure : Df K mg "check_sure" s_check_sure ["way", "orders", "e"] f1 d1) (T_all_orders : Df K mg "all_orders" s_all_orders ["n"] f2 d2) (T_those_within : Df K mg "those_within" s_those_within ["way", "order", "orders", "r"] f3 d3) (G_check_sure : FnOk P w K mg base CX0 k f1 d1 ["way", "orders", "e"] spSure) (G_all_orders : FnOk P w K mg base CX0 k f2 d2 ["n"] spAllO) (G_those_within : FnOk P w K mg base CX0 k f3 d3 ["way", "order", "orders", "r"] spThoseN) (B : Bi mg) : FnOk P w K mg base CX0 (k + 1) f fd ["way", "orders", "e"] spNotSure := by
  refine T.F.ok scNotSure (fun vs H Q E h => ?_) (fun cdv A outer s H vs Q E hr h => ?_)
  · obtain ⟨wy, l, as, rs, n, e, rfl, _⟩ := h
    rfl
  · obtain ⟨wy, l, as, rs, n, e, rfl, hw, hO, nd, h1, h2, hn6, he, q1, q2⟩ := h
    refine ⟨_, 
      (pss_cons (ps_expr (pe_call G_check_sure hr (by rfl) T_check_sure.g T_check_sure.F.kp T_check_sure.b .nil pass0 (pa_cons (pv 0) (pa_cons (pv 1) (pa_cons (pv 2) pa_nil)))))
      (pss_cons (ps_for PassesOwn.never rfl (pi_list (pe_call G_all_orders hr (by rfl) T_all_orders.g T_all_orders.F.kp T_all_orders.b .nil pass0 (pa_cons (pe_callB call_len_seq (by rfl) B.len PySem.boot_len (pa_cons (pe_ix ix_list (pv 1) pe_int (fun _ _ => rfl)) pa_nil)) pa_nil))) (pg_name (i := 3) scNotSure.nd rfl (.inl rfl))
        (pss_cons (ps_set (i := 4) scNotSure.nd rfl (.inl rfl) (pe_call G_those_within hr (by rfl) T_those_within.g T_those_within.F.kp T_those_within.b .nil pass0 (pa_cons (pv 0) (pa_cons (pv 3) (pa_cons (pv 1) (pa_cons (pv 2) pa_nil))))))
        (pss_one (ps_if (pt_cmpR op_gt (pe_callB call_len_seq (by rfl) B.len PySem.boot_len (pa_cons (pv 4) pa_nil)) pe_int (nomark _))
          (pss_one (ps_ret (pe_tup (pa_cons (pv 3) (pa_cons (pe_ix ix_list (pv 4) pe_int (fun _ _ => rfl)) (pa_cons (pe_ix ix_list (pv 4) pe_int (fun _ _ => rfl)) pa_nil))))))
          pss_nil))))
      (pss_one (ps_ret pe_non)))), ?_⟩
    refine ⟨_, rfl, _, rfl, _, rfl, wy, l, as, rs, n, e, rfl, hw, hO, nd, h1, h2, hn6, he, fun H1 s1 => ?_⟩
    have hO1 := hO.same s1
    have hal := hO.ll.len
    obtain ⟨b0, eb0⟩ : ∃ b0, as[0]? = some b0 := ⟨as[0]'(by omega), List.getElem?_eq_getElem (by omega)⟩
    obtain ⟨r0, er0, hb0⟩ := hO1.ll.get eb0
    have l0 := (hO.ord r0 (List.mem_of_getElem? er0)).len
    refine ⟨_, rfl, l, _, 0, _, rfl, rfl, SqL.of hO1.top, at_of (j := 0) rfl (ref_at eb0), b0, _, rfl, .inl (SqL.of hb0), n, by rw [List.length_map, l0]; rfl, hO.n1, hn6, fun al aas H2 nal hal2 hLL nas nda s2 => ?_⟩
    have s12 := s1.trans s2
    have hlen := hLL.len
    refine ⟨al, rfl, ⟨_, SqL.of hal2⟩, ?_⟩
    refine for_list (xs := aas.map V.ref) (fun i σ G => ∃ y3 y4, σ = [some (.str wy), some (.ref l), some (.int e), y3, y4] ∧ nsF wy rs e ((allK n n).take i) = none ∧ Same H2 G) ⟨_, _, rfl, rfl, Same.refl _⟩ (fun i σ G _ hP => by obtain ⟨_, _, _, _, sG⟩ := hP; exact SqL.of (sG _ _ hal2)) (fun i x σ G hx hP => ?_) (fun σ G hP => ?_)
    · obtain ⟨y3, y4, rfl, hN, sG⟩ := hP
      obtain ⟨c0, ec, rfl⟩ := ref_at_inv hx
      obtain ⟨o, eo, hc⟩ := (hLL.same sG).get ec
      have oo := all_ord (List.mem_of_getElem? eo)
      have s1G := s12.trans sG
      have hOG := hO.same s1G
      refine ⟨_, rfl, _, rfl, _, rfl, _, rfl, wy, c0, l, as, o, rs, n, e, rfl, hw, hc, oo, hOG, by omega, fun nl nas' G2 nnl nnas nin nnd hnl hLn s3 => ?_⟩
      have ln := hLn.len
      have lm : (nas'.map V.ref).length = nas'.length := List.length_map _
      refine ⟨_, rfl, nl, _, rfl, .inl (SqL.of hnl), _, 1, rfl, rfl, _, rfl, ite2 (fun c => ?_) (fun c => ?_)⟩
      · have c1 := of_decide_eq_true c
        rw [lm] at c1
        obtain ⟨u1, u2, tl, rfl⟩ : ∃ u1 u2 tl, nas' = u1 :: u2 :: tl := by
          match nas', c1 with
          | [], h => exact absurd h (by decide)
          | [_], h => exact absurd h (by simp)
          | u1 :: u2 :: tl, _ => exact ⟨_, _, _, rfl⟩
        obtain ⟨r1, r2, rt, hf⟩ : ∃ r1 r2 rt, (rs.filter fun x => decide (farW wy o x ≤ e)) = r1 :: r2 :: rt := by
          match hr : (rs.filter fun x => decide (farW wy o x ≤ e)), ln with
          | [], h => rw [hr] at ln; cases ln
          | [_], h => rw [hr] at ln; simp at ln
          | r1 :: r2 :: rt, _ => exact ⟨_, _, _, rfl⟩
        have hLn' := hLn
        rw [hf] at hLn'
        refine ⟨_, rfl, _, rfl, nl, _, 0, _, rfl, rfl, SqL.of hnl, at_of (j := 0) rfl rfl, _, rfl, nl, _, 1, _, rfl, rfl, SqL.of hnl, at_of (j := 1) rfl rfl, by show 3 ≤ sizeLine; decide, fun t nt => ?_⟩
        have s4 := same_new (o := .tup [.ref c0, .ref u1, .ref u2]) nt
        have m1 : r1 ∈ rs := (List.mem_filter.mp (show r1 ∈ rs.filter _ by rw [hf]; exact List.mem_cons_self)).1
        have m2 : r2 ∈ rs := (List.mem_filter.mp (show r2 ∈ rs.filter _ by rw [hf]; exact List.mem_cons_of_mem _ List.mem_cons_self)).1
        have f1 := nnas u1 List.mem_cons_self
        have f2 := nnas u2 (List.mem_cons_of_mem _ List.mem_cons_self)
        have e0 := s3 _ _ hc
        obtain ⟨n12, _⟩ := List.nodup_cons.mp nnd
        refine q2 o r1 r2 (nsF_hit hN eo hf) oo m1 m2 t c0 u1 u2 _ ((s1G.trans s3).free nt) (s1.free (nas c0 (List.mem_of_getElem? ec)).1) (s1G.free f1) (s1G.free f2) ?_ upd_same (s4 _ _ e0) (s4 _ _ hLn'.1) (s4 _ _ hLn'.2.1) ((s1G.trans s3).trans s4)
        have q1 : t ≠ c0 := fun z => by rw [z, e0] at nt; cases nt
        have q3 : t ≠ u1 := fun z => by rw [z, hLn'.1] at nt; cases nt
        have q4 : t ≠ u2 := fun z => by rw [z, hLn'.2.1] at nt; cases nt
        have q5 : c0 ≠ u1 := fun z => by rw [← z, hc] at f1; cases f1
        have q6 : c0 ≠ u2 := fun z => by rw [← z, hc] at f2; cases f2
        have q7 : u1 ≠ u2 := fun z => n12 (by rw [z]; exact List.mem_cons_self)
        simp [q1, q3, q4, q5, q6, q7]
      · refine ⟨_, _, rfl, nsF_miss hN eo ?_, sG.trans s3⟩
        have c1 : ¬ (1 : Int) < (((nas'.map V.ref).length : Nat) : Int) := fun z => c (decide_eq_true z)
        rw [lm] at c1
        rw [← ln]
        omega
    · obtain ⟨y3, y4, rfl, hN, sG⟩ := hP
      rw [List.take_of_length_le (by rw [List.length_map, hlen]; exact Nat.le_refl _)] at hN
      exact q1 hN _ (s12.trans sG)
end
end Fo
namespace Fo
open PySem PySem.Spec PyProof.Rows L2
section
variable {P : Program} {w : World} {K : PySem.W.Frag} {mg : Str → Option Value} {base : Heap}
theorem scFar : FnScope ["way", "one", "other"] ["way", "one", "other"] (defScope s_how_far) := ⟨rfl, rfl, rfl, by decide +kernel, rfl, by decide +kernel, by decide +kernel⟩
theorem ok_far {f f1 f2 f3 f4 : Addr} {fd d1 d2 d3 d4 : FuncData} {k : Nat} (T : Df K mg "how_far" s_how_far ["way", "one", "other"] f fd) (T_check_orders : Df K mg "check_orders" s_check_orders ["one", "other"] f1 d1) (T_check_way : Df K mg "check_way" s_check_way ["thing"] f2 d2) (T_check_fit : Df K mg "check_fit" s_check_fit ["one", "other"] f3 d3) (T_known_far : Df K mg "known_far" s_known_far ["way", "one", "other"] f4 d4)
    (G_check_orders : FnOk P w K mg base CX0 k f1 d1 ["one", "other"] spChecks) (G_check_way : FnOk P w K mg base CX0 k f2 d2 ["thing"] spWay) (G_check_fit : FnOk P w K mg base CX0 k f3 d3 ["one", "other"] spFit) (G_known_far : FnOk P w K mg base CX0 k f4 d4 ["way", "one", "other"] spFar) :
    FnOk P w K mg base CX0 (k + 1) f fd ["way", "one", "other"] spFar := by
  refine T.F.ok scFar (fun vs H Q E h => ?_) (fun cdv A outer s H vs Q E hr h => ?_)
  · obtain ⟨z, a, b, n, xs, ys, rfl, _⟩ := h
    rfl
  · obtain ⟨z, a, b, n, xs, ys, rfl, hz, ha, hb, ox, oy, hn1, hn2, q⟩ := h
    refine ⟨_, 
      (pss_cons (ps_expr (pe_call G_check_orders hr (by rfl) T_check_orders.g T_check_orders.F.kp T_check_orders.b .nil pass0 (pa_cons (pv 1) (pa_cons (pv 2) pa_nil))))
      (pss_cons (ps_expr (pe_call G_check_way hr (by rfl) T_check_way.g T_check_way.F.kp T_check_way.b .nil pass0 (pa_cons (pv 0) pa_nil)))
      (pss_cons (ps_expr (pe_call G_check_fit hr (by rfl) T_check_fit.g T_check_fit.F.kp T_check_fit.b .nil pass0 (pa_cons (pv 1) (pa_cons (pv 2) pa_nil))))
      (pss_one (ps_ret (pe_call G_known_far hr (by rfl) T_known_far.g T_known_far.F.kp T_known_far.b .nil pass0 (pa_cons (pv 0) (pa_cons (pv 1) (pa_cons (pv 2) pa_nil))))))))), ?_⟩
    refine ⟨_, rfl, _, rfl, a, b, n, n, xs, ys, rfl, ha, hb, ox, hn1, hn2, oy, hn1, hn2, fun H1 s1 => ?_⟩
    refine ⟨_, rfl, z, rfl, hz, ?_⟩
    refine ⟨_, rfl, _, rfl, a, b, xs, ys, rfl, s1 _ _ ha, s1 _ _ hb, by rw [ox.len, oy.len], ?_⟩
    exact ⟨_, rfl, _, rfl, _, rfl, z, a, b, n, xs, ys, rfl, hz, s1 _ _ ha, s1 _ _ hb, ox, oy, hn1, hn2, fun H2 s2 => q H2 (s1.trans s2)⟩
end
end Fo
namespace Fo
open PySem PySem.Spec PyProof.Rows L2
def spSize : Sp := fun vs H Q _ => ∃ (n most : Int), vs = [.int n, .int most] ∧ 1 ≤ n ∧ n ≤ most ∧ Q .non H
section
variable {P : Program} {w : World} {K : PySem.W.Frag} {mg : Str → Option Value} {base : Heap}
theorem scSize : FnScope ["thing", "most"] ["thing", "most"] (defScope s_check_size) := ⟨rfl, rfl, rfl, by decide +kernel, rfl, by decide +kernel, by decide +kernel⟩
theorem ok_size {f fW : Addr} {fd fdW : FuncData} {k : Nat} (T : Df K mg "check_size" s_check_size ["thing", "most"] f fd) (T_is_whole : Df K mg "is_whole" s_is_whole ["thing"] fW fdW) (B : Bi mg) : FnOk P w K mg base CX0 (k + 2) f fd ["thing", "most"] spSize := by
  have G_is_whole : FnOk P w K mg base CX0 (k + 1) fW fdW ["thing"] spWhole := ok_whole T_is_whole B
  refine T.F.ok scSize (fun vs H Q E h => ?_) (fun cdv A outer s H vs Q E hr h => ?_)
  · obtain ⟨n, most, rfl, _⟩ := h
    rfl
  · obtain ⟨n, most, rfl, h1, h2, q⟩ := h
    refine ⟨_, 
      (pss_one (ps_if (PW.pt (pw_or (pt_not (pt_val (pe_call G_is_whole hr (by rfl) T_is_whole.g T_is_whole.F.kp T_is_whole.b .nil pass0 (pa_cons (pv 0) pa_nil)))) (pw_or (pt_cmpR op_lt (pv 0) pe_int (nomark _)) (pw_or1 (pt_cmpR op_gt (pv 0) (pv 1) (nomark _))))))
        (pss_one ps_never)
        pss_nil)), ?_⟩
    refine ⟨_, rfl, n, rfl, _, rfl, iteF ?_⟩
    refine ⟨_, rfl, n, 1, rfl, rfl, _, rfl, ite2 (fun z => absurd (of_decide_eq_true z) (by omega)) (fun _ => ?_)⟩
    exact ⟨_, rfl, _, rfl, n, most, rfl, rfl, _, rfl, ite2 (fun z => absurd (of_decide_eq_true z) (by omega)) (fun _ => q)⟩
end
end Fo
namespace Fo
open PySem PySem.Spec PyProof.Rows L2
def spApart : Sp := fun vs H Q _ => ∃ (w : Str) (n most d : Int), vs = [.str w, .int n, .int most, .int d] ∧ IsWay w ∧ 1 ≤ n ∧ n ≤ most ∧ 1 ≤ d ∧ Q .non H
section
variable {P : Program} {w : World} {K : PySem.W.Frag} {mg : Str → Option Value} {base : Heap}
theorem scApart : FnScope ["way", "n", "most", "d"] ["way", "n", "most", "d"] (defScope s_check_apart) := ⟨rfl, rfl, rfl, by decide +kernel, rfl, by decide +kernel, by decide +kernel⟩
theorem ok_apart {f f1 f2 f3 fW aW : Addr} {fd d1 d2 d3 dW : FuncData} {k : Nat} (T : Df K mg "check_apart" s_check_apart ["way", "n", "most", "d"] f fd) (T_check_way : Df K mg "check_way" s_check_way ["thing"] f1 d1) (T_check_size : Df K mg "check_size" s_check_size ["thing", "most"] f2 d2) (T_check_from : Df K mg "check_from" s_check_from ["thing", "least"] f3 d3) (T_is_whole : Df K mg "is_whole" s_is_whole ["thing"] fW dW) (W : Wy K mg aW) (B : Bi mg) : FnOk P w K mg base CX0 (k + 3) f fd ["way", "n", "most", "d"] spApart := by
  have G_check_way : FnOk P w K mg base CX0 (k + 2) f1 d1 ["thing"] spWay := ok_way (k := k + 1) T_check_way W B
  have G_check_size : FnOk P w K mg base CX0 (k + 2) f2 d2 ["thing", "most"] spSize := ok_size T_check_size T_is_whole B
  have G_check_from : FnOk P w K mg base CX0 (k + 2) f3 d3 ["thing", "least"] spFrom := ok_from T_check_from T_is_whole B
  refine T.F.ok scApart (fun vs H Q E h => ?_) (fun cdv A outer s H vs Q E hr h => ?_)
  · obtain ⟨w, n, most, d, rfl, _⟩ := h
    rfl
  · obtain ⟨w, n, most, d, rfl, hw, h1, h2, h3, q⟩ := h
    refine ⟨_, 
      (pss_cons (ps_expr (pe_call G_check_way hr (by rfl) T_check_way.g T_check_way.F.kp T_check_way.b .nil pass0 (pa_cons (pv 0) pa_nil)))
      (pss_cons (ps_expr (pe_call G_check_size hr (by rfl) T_check_size.g T_check_size.F.kp T_check_size.b .nil pass0 (pa_cons (pv 1) (pa_cons (pv 2) pa_nil))))
      (pss_one (ps_expr (pe_call G_check_from hr (by rfl) T_check_from.g T_check_from.F.kp T_check_from.b .nil pass0 (pa_cons (pv 3) (pa_cons pe_int pa_nil))))))), ?_⟩
    exact ⟨_, rfl, w, rfl, hw, _, rfl, _, rfl, n, most, rfl, h1, h2, _, rfl, d, 1, rfl, h3, q⟩
end
end Fo
namespace Fo
open PySem PySem.Spec PyProof.Rows L2 GenW
/-! all(test for x in ..) where the test calls defs of the program -/
/-- around a generator's block that all() walks -/
abbrev gArd (A : Around) (ce : Env) : Around := A.in1.in1.deeper ce
theorem room_gen {k : Nat} {A : Around} {ce : Env} (r : Room (k + 1) A) : Room k (gArd A ce) := by
  obtain ⟨h1, h2, h3⟩ := r
  refine ⟨h1, ?_, ?_⟩
  · show A.depth + 1 + 3 * k + 5 < _
    omega
  · show A.units + 1 + 1 + 3 + 16 * k + 200 < _
    omega
theorem over_gl {A : Around} {el : Expr} {gs : List Comprehension} {sc : Scope} {p : Pos} {it ac : Value} {ce : Env} : A.over (.compLoop (.GeneratorExp el gs sc p) 0 it ac ce) [] = A.deeper ce := by
  first
    | rfl
    | (obtain ⟨a1, a2, a3, a4, a5⟩ := A; simp [Around.over, Around.deeper, marksOver, frameCount, unitsOf, envsOf, guardsOf, pushEnvs, pushGuards, Code.envs, Code.env?, Code.isFrame, Code.guards, Code.isGuard, Code.weight, Code.frames, Code.isCreation, Code.isCaller, Code.cUnits])
abbrev gCx (X : Cx) (s : Shared) (H : Hp) (ce : Env) (fp : List Addr) (pn : List (Addr × Obj)) : Cx := { X with A := gArd X.A ce, s_0 := s, H_0 := H, env := ce, outer := X.stack, stack := ce :: X.stack, ex := fp, fn := fun _ => false, pn := pn, xe := fun _ _ => False }
/-- the scope of a generator expression without cells of its own -/
structure GSc (sc : Scope) : Prop where
  co : sc.isCoroutine = false
  cell : ∀ y ∈ sc.names, y.2 ≠ .cell
  dot : sc.names.lookup (".0" : Str) = some NameKind.local
def gscB (sc : Scope) : Bool := !sc.isCoroutine && sc.names.all (fun y => y.2 != .cell) && sc.names.lookup (".0" : Str) == some NameKind.local
theorem gsc_by {sc : Scope} (h : gscB sc = true) : GSc sc := by
  unfold gscB at h
  simp only [Bool.and_eq_true, List.all_eq_true, bne_iff_ne, ne_eq, beq_iff_eq, Bool.not_eq_true'] at h
  exact ⟨h.1.1, h.1.2, h.2⟩
/-- what happens while a generator sleeps -/
def Aft (s s' : Shared) : Prop := s'.os = s.os ∧ AllBare s'.gens ∧ ∀ b o, s.heap.get? b = some o → s'.heap.get? b = some o

section
variable {X : Cx} {pins : List (Addr × Obj)} {σ : L2.St} {H : Hp} {s : Shared}
theorem gen_start {sc : Scope} {own : List (Str × Nat)} {fp : List Addr} {code : Value} {h2 : Heap} {g2 : Array GenState} {t2 : Nat} {m : Str → Option Value} {a : Addr} {go : Obj} (I : Inv X pins σ H s) (ok : BlkOk X.N X.env.scope sc own) (gs : GSc sc) (hN : X.N.Nodup) (hc : X.calm = true)
    (hfp : ∀ b ∈ fp, FpOk X pins H b ∧ b < s.heap.objs.size) (hn : h2.Ns s.heap.objs.size m) (kp : ∀ b o, s.heap.get? b = some o → h2.get? b = some o) (ha : s.heap.objs.size < a) (hgo : h2.get? a = some go) (hgd : ∀ v, go.data ≠ .cell v) (hbr : AllBare g2) :
    Inv (gCx X s H (genEnv sc (cloFrom X.env.cells sc.names []) s.heap.objs.size code builtinsNs X.env) fp [(a, go)]) [] (wipe σ (own.map (·.2))) H { s with heap := h2, gens := g2, toks := t2 } := by
  have fr : ∀ y ∈ sc.names, y.2 = .free → ∃ c, X.env.cells.lookup y.1 = some c := fun y hy e => by
    rcases ok.free y hy e with k | k
    · exact I.ok.has _ (.inl k)
    · exact I.ok.has _ (.inr k)
  have cm : ∀ {y c}, (cloFrom X.env.cells sc.names []).lookup y = some c → X.env.cells.lookup y = some c ∧ c < s.heap.objs.size := fun {y c} e => by
    rcases cloFrom_mem (PySem.mem_of_lookup e) with hm | ⟨h1, rfl⟩
    · cases hm
    · obtain ⟨c, hc⟩ := fr _ h1 rfl
      rw [hc]
      obtain ⟨w, z⟩ := I.cell _ _ hc
      exact ⟨rfl, z.lt⟩
  have look : ∀ {y}, sc.names.lookup y = some .free → ∃ c, (cloFrom X.env.cells sc.names []).lookup y = some c ∧ X.env.cells.lookup y = some c := fun {y} hl => by
    obtain ⟨c', e'⟩ := mem_lookup (cloFrom_has (cells := X.env.cells) (acc := []) (PySem.mem_of_lookup hl))
    exact ⟨c', e', (cm e').1⟩
  have nst : ∀ b, s.heap.objs.size ≤ b → b ∉ frs X.stack := fun b hb z => by
    rcases List.mem_cons.mp (I.stkSub b z) with q | q
    · rw [q] at hb
      exact absurd (Nat.lt_of_lt_of_le I.lt hb) (Nat.lt_irrefl _)
    · exact I.nofs hb q
  have okB : (gCx X s H (genEnv sc (cloFrom X.env.cells sc.names []) s.heap.objs.size code builtinsNs X.env) fp [(a, go)]).Ok := by
    refine ⟨I.ok.mod, ok.kind, I.ok.glob, rfl, Nat.le_refl _, fun y z c e1 e2 => I.ok.inj y z c (cm e1).1 (cm e2).1, fun y hy => ?_, fun y c z e => (by cases z), fun _ => I.ok.hd hc, Around.frames_deeper (A := X.A.in1.in1) I.ok.frames, .inr ⟨rfl, rfl⟩,
      fun b hb => ⟨Nat.ne_of_lt (hfp b hb).2, fun y c e z => (hfp b hb).1.2.2.2.2.1 y c (cm e).1 z⟩, I.bs, Nat.le_trans I.ok.bsz I.sz, fun b o e hb => ?_, fun b hb z => ?_, I.stack, I.stkFree⟩
    · have hy : sc.names.lookup y = some .cell ∨ sc.names.lookup y = some .free := hy
      rcases hy with hy | hy
      · exact absurd rfl (gs.cell _ (PySem.mem_of_lookup hy))
      · obtain ⟨c, h1, _⟩ := look hy
        exact ⟨c, h1⟩
    · rcases (hfp b hb).1.2.2.2.1 with z | z
      · exact I.ok.noex b o e z
      · exact absurd (Nat.lt_of_lt_of_le (Heap.lt_size e) (Nat.le_trans I.ok.bsz z)) (Nat.lt_irrefl _)
    · rcases List.mem_cons.mp (I.stkSub b z) with q | q
      · exact (hfp b hb).1.2.1 q
      · exact (hfp b hb).1.2.2.1 q
  refine ⟨okB, rfl, hbr, Un.kept kp, ⟨m, hn, fun i y av e1 e2 e3 => ?_⟩, fun y c e => ?_, I.hok.fresh (Nat.le_refl _), fun y c e => I.freeC y c (cm e).1, fun p hp => ?_, I.hok.kept kp, by rw [wipe_length]; exact I.len⟩
  · obtain ⟨e2, hne⟩ := wipe_some e2
    have no : ∀ k, sc.names.lookup y = some k → ¬ (k = .local ∨ k = .cell) := fun k hk hh => by
      rcases ok.own _ (PySem.mem_of_lookup hk) hh with e' | e'
      · obtain ⟨p, hp, hpy⟩ := List.mem_map.mp e'
        have e3 := ok.ix p hp
        have : p.1 = y := hpy
        rw [this] at e3
        exact hne (List.mem_map.mpr ⟨p, hp, nodup_ix hN e3 e1⟩)
      · exact e' (List.mem_of_getElem? e1)
    have hfr : sc.names.lookup y = some .free := by
      have e3 : sc.names.lookup y = some .local ∨ sc.names.lookup y = some .cell ∨ sc.names.lookup y = some .free := e3
      rcases e3 with e3 | e3 | e3
      · exact absurd (.inl rfl) (no _ e3)
      · exact absurd (.inr rfl) (no _ e3)
      · exact e3
    obtain ⟨m', _, hl⟩ := I.loc
    have hvis : Vis X.env.scope y := (ok.free _ (PySem.mem_of_lookup hfr) rfl).elim (fun k => .inr (.inl k)) (fun k => .inr (.inr k))
    obtain ⟨w, r, q⟩ := hl i y av e1 e2 hvis
    refine ⟨w, r, .inr ⟨.inr hfr, ?_⟩⟩
    obtain ⟨c, h1, h3⟩ := look hfr
    rcases q with ⟨k, _⟩ | ⟨_, c', e', z⟩
    · have k : X.env.scope.names.lookup y = some .local := k
      rcases ok.free _ (PySem.mem_of_lookup hfr) rfl with k' | k' <;> rw [show X.env.scope.names.lookup y = _ from k'] at k <;> cases k
    · rw [h3] at e'
      cases e'
      exact ⟨c, h1, z.keeps kp⟩
  · obtain ⟨w, z⟩ := I.cell y c (cm e).1
    exact ⟨w, z.keeps kp⟩
  · have e : p = (a, go) := by simpa using hp
    subst e
    exact ⟨hgo, I.hok.fresh (Nat.le_of_lt ha), Nat.ne_of_gt ha, nst _ (Nat.le_of_lt ha), hgd⟩
end

/-- an item is out: a truth; behind False nothing is asked any more -/
def gY (Y : Cx) (w : L2.St) (Qf : Hp → Prop) (a : Addr) (g : Nat) : Protocol := fun _ _ v s kap => ∃ b, v = .bool b ∧ s.heap.IsGen a g ∧ s.heap.NoLimit ∧ AllBare s.gens ∧
  if b = true then ∀ s'', Aft s s'' → kap (.send .none) s'' else ∃ H, Inv Y [] w H s ∧ Qf H
def gR (Y : Cx) (w : L2.St) (Qt : Hp → Prop) : Nat → Shared → Shared → Prop := fun _ _ s => ∃ H, Inv Y [] w H s ∧ Qt H

theorem gen_loop {Y : Cx} {A : Around} {el tg iter : Expr} {sc : Scope} {pos : Pos} {it : Addr} {fp : List Addr} {tn : Nat → Heap → Prop} {J : It} {gt : TG} {te : TE} {vs : List Nat} {σ0 : L2.St} {a : Addr} {g : Nat} {go : Obj} {Qt Qf : Hp → Prop} {W : Nat → Nat → Hp → Prop}
    (hA : Y.A = A.deeper Y.env) (hc : Y.calm = true) (hx : Y.xe = fun _ _ => False) (hex : Y.ex = fp) (hpn : Y.pn = [(a, go)]) (hgo : ∀ h : Heap, h.get? a = some go → h.IsGen a g) (haf : a ∉ fp) (hco : Y.env.scope.isCoroutine = false)
    (T : Turn Y.prog Y.w Y.K tg J fp it tn) (pg : PG Y tg gt) (pe : PE Y el te)
    (turn : ∀ i m H, W i m H → (J.stop i H ∧ Qt H) ∨ (J.go i H ∧ ∀ x H', J.yld i H x H' → gt x (wipe σ0 vs) H' fun σ2 H3 => wipe σ2 vs = wipe σ0 vs ∧ te σ2 H3 fun y H4 => ∃ b, y = .bl b ∧ if b = true then ∃ m', m' < m ∧ W (i + 1) m' H4 else Qf H4)) :
    ∀ (n i m : Nat) (H : Hp) (s₀ s : Shared), m < n → W i m H → Inv Y [] (wipe σ0 vs) H s → tn i s.heap → (∀ b ∈ fp, H b = none) →
      Seg (model Y.prog Y.w) A (fun n s₀ r s₁ => r = .ok .next ∧ gR Y (wipe σ0 vs) Qt n s₀ s₁) (gY Y (wipe σ0 vs) Qf a g) n s₀ (.compLoop (.GeneratorExp el [⟨tg, iter, [], 0⟩] sc pos) 0 (.ref it) .none Y.env)
        ((model Y.prog Y.w).den (.compLoop (.GeneratorExp el [⟨tg, iter, [], 0⟩] sc pos) 0 (.ref it) .none Y.env)) [] s := by
  have ov : A.over (.compLoop (.GeneratorExp el [⟨tg, iter, [], 0⟩] sc pos) 0 (.ref it) .none Y.env) [] = Y.A := over_gl.trans hA.symm
  have fpo : ∀ {H' : Hp} {s' : Shared} {σ' : L2.St}, Inv Y [] σ' H' s' → (∀ b ∈ fp, H' b = none) → ∀ b ∈ fp, FpOk Y [] H' b := fun {H' s' σ'} I' hn b hb => by
    have hb' : b ∈ Y.ex := by rw [hex]; exact hb
    refine ⟨hn b hb, (I'.ok.exf b hb').1, I'.ok.exfs b hb', .inl hb', fun x c e => (I'.ok.exf b hb').2 x c e, fun p hp z => ?_⟩
    rw [hpn] at hp
    have e : p = (a, go) := by simpa using hp
    rw [e] at z
    have z : a = b := z
    exact haf (by rw [z]; exact hb)
  intro n
  induction n with
  | zero =>
    intro i m H s₀ s hm
    omega
  | succ n ih =>
    intro i m H s₀ s hm w I st nf
    show Seg _ A _ _ _ s₀ _ ((compTurn (.GeneratorExp el [⟨tg, iter, [], 0⟩] sc pos) 0 (.ref it) .none Y.env).onRaise (leaving Y.env)) [] s
    rw [compTurn_gen, Sem.onRaise_eq_wrap]
    refine seg_bind_wrap (wpAny_standAt ?_)
    refine seg_bind_wrap ?_
    rw [ov]
    rcases turn i m H w with ⟨stop, q⟩ | ⟨go', step⟩
    · refine thnF (T.done Y rfl rfl rfl hc i [] s _ H (fun _ _ => False) I (fpo I nf) st stop) fun r s6 ⟨hr, I6⟩ => ?_
      subst hr
      exact seg_end (.ok .next) ⟨rfl, H, I6, q⟩
    · refine thnF (T.item Y rfl rfl rfl hc i [] s _ H (fun _ _ => False) I (fpo I nf) st go') fun r s6 ⟨u, hr, h6⟩ => ?_
      subst hr
      refine seg_bind_wrap ?_
      rw [ov]
      refine thnF h6 fun _ s7 ⟨x, H7, I7, r7, y7, st7, n7⟩ => ?_
      have I7' := I7.pinned (fpo I7 n7) (T.obj _ _ st7)
      refine seg_bind_wrap ?_
      rw [ov]
      have hs := pg.run _ s7 _ H7 x u _ I7' r7 (step x H7 y7)
      rw [hx] at hs
      refine thnF hs fun _ s8 ⟨σ8, H8, I8, hw8, q8⟩ => ?_
      refine seg_bind_wrap (wpAny_pure ?_)
      simp only [if_true]
      have hy : ∀ v, yieldOut Y.env v = yieldValue v := fun v => by simp only [yieldOut, hco, Bool.false_eq_true, if_false]
      simp only [hy]
      rw [Sem.bind_eq_wrap', Sem.bind_eq_wrap', Sem.wrap_wrap, Sem.wrap_wrap]
      refine seg_wrap ?_
      rw [ov]
      have hp := pe.run _ s8 σ8 H8 _ I8 q8
      rw [hx] at hp
      refine thnF hp fun v s9 ⟨yv, H9, I9, r9, b, eb, q9⟩ => ?_
      subst eb
      obtain rfl : v = Value.bool b := r9
      have pin9 : ∀ c ∈ fp, ∀ o, s7.heap.get? c = some o → s9.heap.get? c = some o ∧ H9 c = none := fun c hc' o e =>
        let z := I9.pin (c, o) (List.mem_append_right _ (List.mem_append_right _ (mem_pinsAt hc' e)))
        ⟨z.1, z.2.1⟩
      have I10 : Inv Y [] (wipe σ0 vs) H9 s9 := (I9.unpinned (pins := [])).weak (by rw [← hw8, wipe_length]) fun j v e => by
        rw [← hw8] at e
        exact (wipe_some e).1
      have st9 : tn (i + 1) s9.heap := T.keep _ _ _ st7 fun c hc' o e => (pin9 c hc' o e).1
      have nf9 : ∀ c ∈ fp, H9 c = none := fun c hc' => by
        obtain ⟨o, e, _⟩ := T.obj _ _ st7 c hc'
        exact (pin9 c hc' o e).2
      have hga : s9.heap.get? a = some go := (I10.pin (a, go) (by rw [hpn]; simp)).1
      refine seg_at (seg_yield rfl rfl rfl ⟨b, rfl, hgo _ hga, I10.nolimit, I10.bare, ?_⟩)
      cases b with
      | false =>
        rw [if_neg Bool.false_ne_true] at q9 ⊢
        exact ⟨H9, I10, q9⟩
      | true =>
        rw [if_pos rfl] at q9 ⊢
        obtain ⟨m', hm', w'⟩ := q9
        intro s'' ⟨ho, hb, hk⟩
        exact seg_again rfl (ih (i + 1) m' H9 s'' s'' (by omega) w' (I10.call' (ch := []) ho (Un.kept hk) (I10.hok.kept hk) hb fun b z => by simp at z) (T.keep _ _ _ st9 fun b _ o e => hk b o e) nf9)

theorem gen_begin {P : Program} {w : World} {A : Around} {R : GenEnd} {Yp : Protocol} {n : Nat} {s₀ s : Shared} {el tg iter : Expr} {sc : Scope} {pos : Pos} {it : Addr} {ce : Env}
    (lp : Seg (model P w) A R Yp n s₀ (.compLoop (.GeneratorExp el [⟨tg, iter, [], 0⟩] sc pos) 0 (.ref it) .none ce) ((model P w).den (.compLoop (.GeneratorExp el [⟨tg, iter, [], 0⟩] sc pos) 0 (.ref it) .none ce)) [] s)
    (self : ∀ (B : Around) (Q : Value → Shared → Prop) (E : Value → Shared → Prop), Q (.ref it) s → wpAny (model P w) B (pyIter (.ref it)) Q E s) :
    Seg (model P w) A R Yp n s₀ (.compStart (.GeneratorExp el [⟨tg, iter, [], 0⟩] sc pos) 0 (.ref it) .none ce) ((model P w).den (.compStart (.GeneratorExp el [⟨tg, iter, [], 0⟩] sc pos) 0 (.ref it) .none ce)) [] s := by
  show Seg _ A _ _ _ s₀ _ ((compStart (.GeneratorExp el [⟨tg, iter, [], 0⟩] sc pos) 0 (.ref it) .none ce).onRaise (leaving ce)) [] s
  unfold compStart
  rw [Sem.onRaise_eq_wrap]
  show Seg _ A _ _ _ s₀ _ ((ask >>= _).wrap _ _ _ _) [] s
  refine seg_bind_wrap (wpAny_askSetting ?_)
  split
  · exact seg_again rfl lp
  · first
      | exact seg_bind_wrap (wpAny_rule (seg_bind_wrap (wpAny_standAt (seg_bind_wrap (self _ _ _ (seg_again rfl lp))))))
      | (refine seg_bind_wrap (wpAny_rule ?_); show Seg _ A _ _ _ s₀ _ ((standAt iter.pos >>= _).wrap _ _ _ _) [] s; exact seg_bind_wrap (wpAny_standAt (seg_bind_wrap (self _ _ _ (seg_again rfl lp)))))

theorem all_loop {Y : Cx} {A : Around} {a : Addr} {g : Nat} {w : L2.St} {Qt Qf : Hp → Prop} {R : Result → Shared → Prop} (hh : A.handled = none) (hd : A.depth < recursionLimit)
    (ht : ∀ s H s', Inv Y [] w H s → Qt H → Aft s s' → R (.ok (.ret (.bool true))) s') (hf : ∀ s H s', Inv Y [] w H s → Qf H → Aft s s' → R (.ok (.ret (.bool false))) s') :
    ∀ (n : Nat) (s : Shared), s.heap.IsGen a g → s.heap.NoLimit →
      (∃ gs, s.gens[g]? = some gs ∧ gs.Goes (model Y.prog Y.w) A.in1.in1 (fun n s₀ r s₁ => r = .ok .next ∧ gR Y w Qt n s₀ s₁) (gY Y w Qf a g) n (.send .none) (s.setGen g .running)) →
      codeAny (model Y.prog Y.w) A (.builtin "all.loop" ⟨[.ref a], []⟩) R s := by
  intro n
  induction n with
  | zero =>
    intro s hg hl ⟨gs, hgs, hgo⟩
    refine codeAny_builtin F.entry_all_loop ?_
    rw [Around.under_plainId F.plain_all_loop _]
    show wpAny _ A.in1 (pyNext (.ref a) >>= _) _ _ s
    refine wpAny_bind (wpAny_pyNext_genexpQ (A := A.in1) (P := gR Y w Qt) hh hl hd hg hgs hgo (fun v s₁ gs' hb hv => ?_) (fun s₁ hp h' hk => ?_))
    · obtain ⟨b, rfl, hg1, hl1, hb1, q⟩ := hv
      refine wpAny_bind (wpAny_holding (wpAny_truthy_bool ?_))
      refine wpAny_bind (wpAny_letGo ?_)
      cases b with
      | true =>
        rw [if_pos rfl] at q
        exact (q s₁ ⟨rfl, hb1, fun _ _ e => e⟩).elim
      | false =>
        rw [if_neg Bool.false_ne_true] at q
        obtain ⟨H, I, qf⟩ := q
        simp only [Bool.false_eq_true, if_false]
        exact wpAny_bind (wpAny_rule (wpAny_pure (hf s₁ H _ I qf ⟨rfl, allBare_setGen hb1 hb, fun _ _ e => e⟩)))
    · obtain ⟨H, I, qt⟩ := hp
      exact wpAny_bind (wpAny_rule (wpAny_pure (ht s₁ H _ I qt ⟨rfl, allBare_setGen I.bare rfl, hk⟩)))
  | succ n ih =>
    intro s hg hl ⟨gs, hgs, hgo⟩
    have hgl : g + 1 ≤ s.gens.size := (Array.getElem?_eq_some_iff.mp hgs).1
    refine codeAny_builtin F.entry_all_loop ?_
    rw [Around.under_plainId F.plain_all_loop _]
    show wpAny _ A.in1 (pyNext (.ref a) >>= _) _ _ s
    refine wpAny_bind (wpAny_gsz (n := g + 1) hgl (wpAny_pyNext_genexpQ (A := A.in1) (P := gR Y w Qt) hh hl hd hg hgs hgo (fun v s₁ gs' hb hv => ?_) (fun s₁ hp h' hk => ?_)))
    · intro hsz
      obtain ⟨b, rfl, hg1, hl1, hb1, q⟩ := hv
      refine wpAny_bind (wpAny_holding (wpAny_truthy_bool ?_))
      refine wpAny_bind (wpAny_letGo ?_)
      cases b with
      | true =>
        rw [if_pos rfl] at q
        simp only [if_true]
        have hsz1 : g < s₁.gens.size := by
          rw [setGen_size] at hsz
          exact hsz
        refine wpAny_pure ⟨plainId_quiet F.plain_all_loop _, ih _ hg1 hl1 ⟨gs', setGen_at hsz1, ?_⟩⟩
        exact q _ ⟨rfl, allBare_setGen (allBare_setGen hb1 hb) rfl, fun _ _ e => e⟩
      | false =>
        rw [if_neg Bool.false_ne_true] at q
        obtain ⟨H, I, qf⟩ := q
        simp only [Bool.false_eq_true, if_false]
        exact wpAny_bind (wpAny_rule (wpAny_pure (hf s₁ H _ I qf ⟨rfl, allBare_setGen hb1 hb, fun _ _ e => e⟩)))
    · intro _
      obtain ⟨H, I, qt⟩ := hp
      exact wpAny_bind (wpAny_rule (wpAny_pure (ht s₁ H _ I qt ⟨rfl, allBare_setGen I.bare rfl, hk⟩)))
end Fo
namespace Fo
open PySem PySem.Spec PyProof.Rows L2 GenW
/-- all(test for target in iter): W by the turn and a measure -/
def tAllG (P : Addr) (wi : TI) (gt : TG) (te : TE) (vs : List Nat) : TE := fun σ H Q => wi σ H fun J H1 => GxR.TabG H1 P ∧ ∀ H2, GxR.Tabbed P H1 H2 → ∃ W : Nat → Nat → Hp → Prop, (∃ m, W 0 m H2) ∧ ∀ i m H, W i m H →
  (J.stop i H ∧ Q (.bl true) H) ∨ (J.go i H ∧ ∀ x H', J.yld i H x H' → gt x (wipe σ vs) H' fun σ2 H3 => wipe σ2 vs = wipe σ vs ∧ te σ2 H3 fun y H4 => ∃ b, y = .bl b ∧ if b = true then ∃ m', m' < m ∧ W (i + 1) m' H4 else Q (.bl false) H4)
section
variable {X : Cx}
set_option maxHeartbeats 4000000 in
theorem pe_allG {c P : Addr} {el tg iter : Expr} {sc : Scope} {own : List (Str × Nat)} {p pos gpos : Pos} {wi : TI} {gt : TG} {te : TE} {k : Nat} (hc : X.calm = true) (hN : X.N.Nodup) (hr : Room k X.A) (hg : Gl X "all") (hm : X.mg "all" = none) (hb : bootBuiltins "all" = some (.builtin "all"))
    (TB : LamX.TabB X.base X.mg c P) (hcode : X.env.code = .ref c) (hi : PI X tg iter wi) (ok : BlkOk X.N X.env.scope sc own) (gs : GSc sc)
    (hgt : ∀ (s : Shared) (H : Hp) (C : Addr) (cl : List (Str × Addr)) (cd : Value) (fp : List Addr) (pn : List (Addr × Obj)), PG (gCx X s H (genEnv sc cl C cd builtinsNs X.env) fp pn) tg gt)
    (he : ∀ (s : Shared) (H : Hp) (C : Addr) (cl : List (Str × Addr)) (cd : Value) (fp : List Addr) (pn : List (Addr × Obj)), PE (gCx X s H (genEnv sc cl C cd builtinsNs X.env) fp pn) el te)
    (hs : ∀ v, genFold iter X.env v = pure v := by intro _; rfl)
    (hst : starEach [.GeneratorExp el [⟨tg, iter, [], 0⟩] sc gpos] X.env = (false, eval (.GeneratorExp el [⟨tg, iter, [], 0⟩] sc gpos) X.env) :: starEach [] X.env := by rfl) :
    PE X (.Call (.Name "all" p) [.GeneratorExp el [⟨tg, iter, [], 0⟩] sc gpos] [] pos) (tAllG P wi gt te (own.map (·.2))) := by
  refine ⟨fun pins s σ H Q I hq => ?_⟩
  have fr : ∀ y ∈ sc.names, y.2 = .free → ∃ c, X.env.cells.lookup y.1 = some c := fun y hy e => by
    rcases ok.free y hy e with k | k
    · exact I.ok.has _ (.inl k)
    · exact I.ok.has _ (.inr k)
  refine wpAny_Call_Name_kw (ld_blt I hg hm hb ?_)
  refine PyProof.Rows.callWith_builtin1 ?_ hst (by rfl)
  rw [hst]
  show wpAny _ _ (spliced ((false, eval (.GeneratorExp el [⟨tg, iter, [], 0⟩] sc gpos) X.env) :: backTo pos (starEach [] X.env))) _ _ s
  refine Calls.spliced_cons ?_
  refine wpAny_GeneratorExp_make gs.co (closure_ok fr) gs.cell gs.dot ok.kind (by have := hr.dp; omega) ?_ hs
  refine thn (hi.run pins s σ H _ I hq) fun xv s1 hx => thn hx fun itv s2 h2 => ?_
  obtain ⟨it, fp, tn, J, H1, rfl, I2, T, st2, f2, ⟨ps, hP, htp⟩, q⟩ := h2
  refine ⟨I2.nolimit, ?_⟩
  have hPs : s2.heap.get? P = some { cls := .none, data := .fields ps } := I2.hok P _ hP
  have cd : PySem.W.CodeHd s2.heap c P := TB.code.keeps fun b u e => I2.bk b u e
  have szf : ∀ b ∈ fp, b < s2.heap.objs.size := fun b hb => by
    obtain ⟨o, e, _⟩ := T.obj _ _ st2 b hb
    exact Heap.lt_size e
  have nP : ∀ b ∈ fp, b ≠ P := fun b hb z => by
    have z2 := (f2 b hb).1
    rw [z, hP] at z2
    cases z2
  have cont : ∀ (code : Value) (h3 : Heap) (tk : Nat) (more : Array Value), (∀ b o, b ≠ P → s2.heap.get? b = some o → h3.get? b = some o) → s2.heap.objs.size ≤ h3.objs.size → h3.get? P = some { cls := .none, data := .fields (ps ++ more) } → TriplesOk (ps ++ more).toList →
      wpAny (model X.prog X.w) X.A (builtinsFor X.env.globals X.env.builtins) (fun bi s₄ =>
        ∀ h', h'.Ns s₄.heap.objs.size (fun y => if y = ".0" then some (Value.ref it) else none) → Heap.SameBut s₄.heap.objs.size (s₄.heap.push { cls := .type "frame", data := .dict #[] }) h' →
          wpAny (model X.prog X.w) X.A (spliced (backTo pos (starEach [] X.env))) (fun us s5 => wpAny (model X.prog X.w) X.A (call (.builtin "all") (Value.ref h'.objs.size :: us)) (EP X pins σ Q) X.xe s5) X.xe { s₄ with
            gens := s₄.gens.push (.fresh (.compStart (.GeneratorExp el [⟨tg, iter, [], 0⟩] sc gpos) 0 (.ref it) .none (genEnv sc (cloFrom X.env.cells sc.names []) s₄.heap.objs.size code bi X.env))),
            toks := s₄.toks + 1 + 1 + 1,
            heap := h'.push { cls := .type "generator", data := .fields #[.int s₄.gens.size 0, .str "<genexpr>" (s₄.toks + 1), .str (X.env.qual ++ "<genexpr>") (s₄.toks + 1 + 1)] } }) X.xe { s2 with heap := h3, toks := tk } := by
    intro code h3 tk more kp3 sz3 hP3 ht3
    obtain ⟨bm, ob, e1, e2, e3, e4, e5, e6, e7, e8⟩ := TB.bm
    have I3 : Inv X pins σ (upd H1 P (.tbl (ps ++ more))) { s2 with heap := h3, toks := tk } := GxR.inv_tab (h' := h3) (g' := s2.gens) (d' := s2.drawn) (t' := tk) I2 hP kp3 hP3 I2.bare
    have nsg : h3.Ns X.env.globals X.mg := by
      rw [I2.ok.glob]
      obtain ⟨og, es, ep, eg, r⟩ := I2.mod.glob.keeps I2.bk
      exact ⟨og, es, ep, kp3 _ og TB.gP eg, r⟩
    refine wpAny_builtinsFor (m := X.mg) nsg e1 e2 (kp3 _ _ e4 (I2.bk _ _ e5)) e6 e7 e8 ?_
    intro h' hn' hs'
    refine Calls.spliced_nil ?_
    have sz' : h'.objs.size = h3.objs.size + 1 := by rw [hs'.1, Heap.size_push]
    have kp' : ∀ b o, h3.get? b = some o → h'.get? b = some o := fun b o e => hs'.extBut b o (Nat.ne_of_lt (Heap.lt_size e)) (Heap.get?_push_of_some _ e)
    generalize hgo : ({ cls := .type "generator", data := .fields #[.int s2.gens.size 0, .str "<genexpr>" (tk + 1), .str (X.env.qual ++ "<genexpr>") (tk + 1 + 1)] } : Obj) = go
    have hget : (h'.push go).get? h'.objs.size = some go := by
      rw [← hgo]
      exact Heap.get?_push_size _ rfl
    have hgen : ∀ h : Heap, h.get? h'.objs.size = some go → h.IsGen h'.objs.size s2.gens.size := fun h e => by
      rw [← hgo] at e
      exact ⟨_, _, _, e, rfl, rfl, rfl⟩
    have hgd : ∀ v, go.data ≠ .cell v := fun v z => by
      rw [← hgo] at z
      cases z
    have tb : GxR.Tabbed P H1 (upd H1 P (.tbl (ps ++ more))) := ⟨⟨ps ++ more, upd_same, ht3⟩, fun b hb => upd_ne hb⟩
    obtain ⟨W, ⟨m0, w0⟩, turn⟩ := q _ tb
    have f3 : ∀ b ∈ fp, FpOk X pins (upd H1 P (.tbl (ps ++ more))) b ∧ b < h3.objs.size := fun b hb => by
      refine ⟨⟨?_, (f2 b hb).2⟩, Nat.lt_of_lt_of_le (szf b hb) sz3⟩
      rw [upd_ne (nP b hb)]
      exact (f2 b hb).1
    have kp5 : ∀ b o, h3.get? b = some o → (h'.push go).get? b = some o := fun b o e => Heap.get?_push_of_some _ (kp' b o e)
    have st5 : tn 0 (h'.push go) := T.keep _ _ _ st2 fun b hb o e => kp5 b o (kp3 b o (nP b hb) e)
    generalize hce : genEnv sc (cloFrom X.env.cells sc.names []) h3.objs.size code builtinsNs X.env = ce
    have hgl : s2.gens.size < (s2.gens.push (.fresh (.compStart (.GeneratorExp el [⟨tg, iter, [], 0⟩] sc gpos) 0 (.ref it) .none ce))).size := by
      rw [Array.size_push]
      exact Nat.lt_succ_self _
    have bare5 : AllBare (s2.gens.push (.fresh (.compStart (.GeneratorExp el [⟨tg, iter, [], 0⟩] sc gpos) 0 (.ref it) .none ce))) := I2.bare.push rfl
    have I6 := gen_start (h2 := h'.push go) (g2 := (({ s2 with heap := h'.push go, gens := s2.gens.push (.fresh (.compStart (.GeneratorExp el [⟨tg, iter, [], 0⟩] sc gpos) 0 (.ref it) .none ce)) } : Shared).setGen s2.gens.size .running).gens) (t2 := tk + 1 + 1 + 1) (code := code) (go := go) I3 ok gs hN hc f3 (hn'.push go) kp5 (by show h3.objs.size < h'.objs.size; omega) hget hgd (allBare_setGen bare5 rfl)
    have pg := hgt { s2 with heap := h3, toks := tk } (upd H1 P (.tbl (ps ++ more))) h3.objs.size (cloFrom X.env.cells sc.names []) code fp [(h'.objs.size, go)]
    have pe := he { s2 with heap := h3, toks := tk } (upd H1 P (.tbl (ps ++ more))) h3.objs.size (cloFrom X.env.cells sc.names []) code fp [(h'.objs.size, go)]
    have hsc : ce.scope = sc := by rw [← hce]; rfl
    change Inv (gCx X { s2 with heap := h3, toks := tk } (upd H1 P (.tbl (ps ++ more))) (genEnv sc (cloFrom X.env.cells sc.names []) h3.objs.size code builtinsNs X.env) fp [(h'.objs.size, go)]) [] _ _ _ at I6
    rw [hce] at I6 pg pe
    refine call_function_tree F.kind_all F.plain_all F.entry_all (F.args_all1 _) ?_
    unfold Builtin.«all»
    refine wpAny_bind (m := oneArg "all" _) (wpAny_pure ?_)
    refine wpAny_bind (wpAny_pyIter_gen (hgen _ hget) ?_)
    have back : ∀ {s7 s8 : Shared} {H7 : Hp}, Inv (gCx X { s2 with heap := h3, toks := tk } (upd H1 P (.tbl (ps ++ more))) ce fp [(h'.objs.size, go)]) [] (wipe σ (own.map (·.2))) H7 s7 → Aft s7 s8 → Inv X pins σ H7 s8 := fun {s7 s8 H7} I7 af => by
      obtain ⟨o1, o2, o3⟩ := af
      exact I3.call' (ch := fp) (o1.trans I7.os) (I7.base.trans (Un.kept o3)) (I7.hok.kept o3) o2 fun b hb => ⟨(f3 b hb).1.2.2.2.1, (f3 b hb).1.2.1, (f3 b hb).1.2.2.2.2.1, (f3 b hb).1.2.2.2.2.2⟩
    refine wpAny_pure ⟨plainId_quiet F.plain_all_loop _, all_loop (Y := gCx X { s2 with heap := h3, toks := tk } (upd H1 P (.tbl (ps ++ more))) ce fp [(h'.objs.size, go)]) (A := X.A) (a := h'.objs.size) (g := s2.gens.size) (w := wipe σ (own.map (·.2))) (Qt := fun H => Q (.bl true) H) (Qf := fun H => Q (.bl false) H) hr.hd (by have := hr.dp; omega) (fun s7 H7 s8 I7 q7 af => ?_) (fun s7 H7 s8 I7 q7 af => ?_) (m0 + 1) _ (hgen _ hget) (I3.nolimit.keeps kp5) ⟨_, Array.getElem?_push_size .., rfl, ?_⟩⟩
    · exact ⟨.bl true, H7, back I7 af, rfl, q7⟩
    · exact ⟨.bl false, H7, back I7 af, rfl, q7⟩
    · refine gen_begin ?_ (fun B Q' E' h => T.self B 0 _ Q' E' st5 h)
      have lp := gen_loop (A := X.A.in1.in1) (Y := gCx X { s2 with heap := h3, toks := tk } (upd H1 P (.tbl (ps ++ more))) ce fp [(h'.objs.size, go)]) (iter := iter) (sc := sc) (pos := gpos) (σ0 := σ) (vs := own.map (·.2)) (Qt := fun H => Q (.bl true) H) (Qf := fun H => Q (.bl false) H) (g := s2.gens.size) rfl hc rfl rfl rfl hgen (fun z => by
        have h9 : (h'.objs.size : Nat) < h3.objs.size := (f3 _ z).2
        omega) (by show ce.scope.isCoroutine = false; rw [hsc]; exact gs.co) T pg pe turn (m0 + 1) 0 m0 (upd H1 P (.tbl (ps ++ more)))
      exact lp _ _ (Nat.lt_succ_self _) w0 I6 st5 fun b hb => (f3 b hb).1.1
  cases hf : codeAmong gpos ps.toList with
  | none =>
    refine wpAny_genexprCodeX hcode (cd.code hPs htp) (cd.tab hPs) hf fun c' h' tk hx hge hlt hco' _ htab' _ => ?_
    obtain ⟨o1, vs, f1, tf, fl, tg', inF, tx, tt, op, _, _, _, _, _, _, _, _, _, htr, _⟩ := hco'
    exact cont _ h' tk _ hx (Nat.le_trans hge (Nat.le_of_lt hlt)) htab'.2 htr
  | some cv =>
    refine wpAny_genexprCode_hit hcode (cd.code hPs htp) hf ?_
    have e : ps ++ #[] = ps := by simp
    exact cont cv s2.heap s2.toks #[] (fun b o _ e => e) (Nat.le_refl _) (by rw [e]; exact hPs) (by rw [e]; exact htp)
end
end Fo
namespace Fo
open PySem PySem.Spec PyProof.Rows L2
/-! what stays where tables of code objects may grow -/
def KeepT (H H' : Hp) : Prop := (∀ b o, H b = some o → (∀ q, o ≠ .tbl q) → H' b = some o) ∧ ∀ b q, H b = some (.tbl q) → ∃ q', H' b = some (.tbl q') ∧ (TriplesOk q.toList → TriplesOk q'.toList)
theorem KeepT.refl (H : Hp) : KeepT H H := ⟨fun _ _ e _ => e, fun _ q e => ⟨q, e, id⟩⟩
theorem KeepT.of_same {H H' : Hp} (h : Same H H') : KeepT H H' := ⟨fun b o e _ => h b o e, fun b q e => ⟨q, h b _ e, id⟩⟩
theorem KeepT.trans {H H1 H2 : Hp} (a : KeepT H H1) (b : KeepT H1 H2) : KeepT H H2 := by
  refine ⟨fun c o e f => b.1 c o (a.1 c o e f) f, fun c q e => ?_⟩
  obtain ⟨q1, e1, t1⟩ := a.2 c q e
  obtain ⟨q2, e2, t2⟩ := b.2 c q1 e1
  exact ⟨q2, e2, fun z => t2 (t1 z)⟩
theorem KeepT.free {H H' : Hp} (a : KeepT H H') {p : Addr} (np : H' p = none) : H p = none := by
  cases e : H p with
  | none => rfl
  | some o =>
    cases o with
    | tbl q =>
      obtain ⟨q', e', _⟩ := a.2 p q e
      rw [np] at e'
      cases e'
    | _ =>
      have z := a.1 p _ e (fun q z => by cases z)
      rw [np] at z
      cases z
theorem KeepT.lst {H H' : Hp} (a : KeepT H H') {p : Addr} {xs : List V} (e : H p = some (.lst xs)) : H' p = some (.lst xs) := a.1 p _ e (fun q z => by cases z)
theorem KeepT.seq {K : PySem.W.Frag} {H H' : Hp} (a : KeepT H H') {p : Addr} {xs : List V} (e : SqL K H p xs) : SqL K H' p xs := by
  rcases e with (e | ⟨o, e⟩) | e
  · exact .inl (.inl (a.1 p _ e (fun q z => by cases z)))
  · exact .inl (.inr ⟨o, a.1 p _ e (fun q z => by cases z)⟩)
  · exact .inr e
theorem KeepT.tab {H H' : Hp} (a : KeepT H H') {P : Addr} (t : GxR.TabG H P) : GxR.TabG H' P := by
  obtain ⟨q, e, z⟩ := t
  obtain ⟨q', e', t'⟩ := a.2 P q e
  exact ⟨q', e', t' z⟩
theorem KeepT.of_tabbed {P : Addr} {H H' : Hp} (t : GxR.TabG H P) (h : GxR.Tabbed P H H') : KeepT H H' := by
  obtain ⟨q0, e0, z0⟩ := t
  obtain ⟨⟨q1, e1, z1⟩, k⟩ := h
  refine ⟨fun b o e f => ?_, fun b q e => ?_⟩
  · rw [k b (fun z => by rw [z, e0] at e; exact f q0 (Option.some.inj e).symm)]
    exact e
  · by_cases hb : b = P
    · rw [hb] at e ⊢
      exact ⟨q1, e1, fun _ => z1⟩
    · exact ⟨q, by rw [k b hb]; exact e, id⟩
/-- the same but for the object at d -/
def KeepTD (d : Addr) (H H' : Hp) : Prop := (∀ b o, H b = some o → b ≠ d → (∀ q, o ≠ .tbl q) → H' b = some o) ∧ ∀ b q, H b = some (.tbl q) → b ≠ d → ∃ q', H' b = some (.tbl q') ∧ (TriplesOk q.toList → TriplesOk q'.toList)
theorem LL.keepT {H H' : Hp} {as : List Addr} {rs : List (List Int)} (h : LL H as rs) (s : KeepT H H') : LL H' as rs := by
  induction as generalizing rs with
  | nil => cases rs with
    | nil => trivial
    | cons _ _ => exact h.elim
  | cons a as ih => cases rs with
    | nil => exact h.elim
    | cons r rs => exact ⟨s.lst h.1, ih h.2⟩
/-- a def with the code object that it runs by -/
structure DfC (K : PySem.W.Frag) (mg : Str → Option Value) (x : Str) (st : Stmt) (ps : List Str) (f : Addr) (fd : FuncData) (c : Addr) : Prop where
  F : Fun K x x st f fd
  b : Binds K fd ps []
  g : mg x = some (.ref f)
  c : fd.code = .ref c
theorem fun_okC {P : Program} {w : World} {K : PySem.W.Frag} {mg : Str → Option Value} {base : Heap} {x qual : Str} {st : Stmt} {f c : Addr} {fd : FuncData} {N ps : List Str} {k : Nat} {sp : Sp} (F : Fun K x qual st f fd) (hc : fd.code = .ref c) (S : FnScope N ps (defScope st))
    (len : ∀ vs H Q E, sp vs H Q E → vs.length = ps.length)
    (body : ∀ (A : Around) (outer : List Env) (s : Shared) (H : Hp) (vs : List V) (Q : VK) (E : XK), Room k (A.deeper (envOfC qual (defScope st) s.heap.objs.size f (.ref c))) → sp vs H Q E →
      ∃ t, PSs (cxOf CX0 P w K mg base N qual (defScope st) f (.ref c) A outer s H E).nox (defBody st) t ∧ t { nx := fun _ H' => Q .non H', rt := Q } (start N vs) H) : FnOk P w K mg base CX0 (k + 1) f fd ps sp := by
  obtain ⟨oc, od, kV, doc, pm, an, cdv, ct, osl, rfl, lk, hcd⟩ := F.ex
  obtain rfl : cdv = .ref c := hc
  refine fn_of lk hcd S len fun A outer s H vs Q E hr hsp => ?_
  obtain ⟨t, h1, h2⟩ := body A outer s H vs Q E hr hsp
  exact ⟨t, h1.nox, h2⟩
/-- over a list that stands still -/
theorem all_list {K : PySem.W.Frag} {a : Addr} {xs : List V} {gt : TG} {te : TE} {vs : List Nat} {σ : L2.St} {H : Hp} {Q : VK} (Pv : Nat → Hp → Prop) (h0 : Pv 0 H) (hl : ∀ i H, i ≤ xs.length → Pv i H → SqL K H a xs)
    (hs : ∀ i x H, xs[i]? = some x → Pv i H → gt x (wipe σ vs) H fun σ2 H3 => wipe σ2 vs = wipe σ vs ∧ te σ2 H3 fun y H4 => ∃ b, y = .bl b ∧ if b = true then Pv (i + 1) H4 else Q (.bl false) H4) (hd : ∀ H, Pv xs.length H → Q (.bl true) H)
    (mono : ∀ (x : V) (H : Hp) (p q : V → Hp → Prop), (∀ y H, p y H → q y H) → (gt x (wipe σ vs) H fun σ2 H3 => wipe σ2 vs = wipe σ vs ∧ te σ2 H3 p) → (gt x (wipe σ vs) H fun σ2 H3 => wipe σ2 vs = wipe σ vs ∧ te σ2 H3 q)) :
    ∃ W : Nat → Nat → Hp → Prop, (∃ m, W 0 m H) ∧ ∀ i m H, W i m H →
      ((Itl K a).stop i H ∧ Q (.bl true) H) ∨ ((Itl K a).go i H ∧ ∀ x H', (Itl K a).yld i H x H' → gt x (wipe σ vs) H' fun σ2 H3 => wipe σ2 vs = wipe σ vs ∧ te σ2 H3 fun y H4 => ∃ b, y = .bl b ∧ if b = true then ∃ m', m' < m ∧ W (i + 1) m' H4 else Q (.bl false) H4) := by
  refine ⟨fun j m H => m = xs.length - j ∧ j ≤ xs.length ∧ Pv j H, ⟨xs.length, by simp, Nat.zero_le _, h0⟩, ?_⟩
  rintro j m H ⟨rfl, hi, p⟩
  have q := hl j H hi p
  by_cases hlt : j < xs.length
  · refine .inr ⟨⟨xs, xs[j], q, by simp [hlt]⟩, fun x H' y => ?_⟩
    obtain ⟨e, y⟩ := y
    subst e
    refine mono x _ _ _ (fun z H4 hz => ?_) (hs j x _ (y _ q) p)
    obtain ⟨b, eb, r⟩ := hz
    refine ⟨b, eb, ?_⟩
    cases b with
    | true => exact ⟨xs.length - (j + 1), by omega, rfl, hlt, r⟩
    | false => exact r
  · have e : j = xs.length := by omega
    subst e
    exact .inl ⟨⟨xs, q, Nat.le_refl _⟩, hd H p⟩
end Fo
namespace Fo
open PySem PySem.Spec PyProof.Rows L2
def farAll (w : Str) (d : Int) (xs : List Int) (rs : List (List Int)) : Bool := rs.all fun o => decide (d ≤ farW w xs o)
theorem farAll_nil {w : Str} {d : Int} {xs : List Int} : farAll w d xs [] = true := rfl
theorem farAll_more {w : Str} {d : Int} {xs : List Int} {rs : List (List Int)} {i : Nat} {r : List Int} (h : rs[i]? = some r) : farAll w d xs (rs.take (i + 1)) = (farAll w d xs (rs.take i) && decide (d ≤ farW w xs r)) := by
  unfold farAll
  rw [List.take_add_one, h, List.all_append]
  show (_ && (decide (d ≤ farW w xs r) && true)) = _
  rw [Bool.and_true]
theorem farAll_false {w : Str} {d : Int} {xs : List Int} {rs : List (List Int)} {i : Nat} {r : List Int} (h : rs[i]? = some r) (hf : decide (d ≤ farW w xs r) = false) : farAll w d xs rs = false := by
  unfold farAll
  rw [List.all_eq_false]
  exact ⟨r, List.mem_of_getElem? h, by rw [hf]; decide⟩
/-- a list of orders, told whether all of them are so far -/
def spIsFar (Pt : Addr) : Sp := fun vs H Q _ => ∃ (w : Str) (d : Int) (a l : Addr) (n : Nat) (xs : List Int) (bs : List Addr) (rs : List (List Int)), vs = [.str w, .int d, .ref a, .ref l] ∧ IsWay w ∧ H a = some (.lst (xs.map V.int)) ∧ IsOrd n xs ∧ 1 ≤ n ∧ n ≤ 12 ∧
  H l = some (.lst (bs.map V.ref)) ∧ LL H bs rs ∧ (∀ r ∈ rs, IsOrd n r) ∧ GxR.TabG H Pt ∧ ∀ H', KeepT H H' → Q (.bl (farAll w d xs rs)) H'
section
variable {P : Program} {w : World} {K : PySem.W.Frag} {mg : Str → Option Value} {base : Heap}
theorem scIsFar : FnScope ["way", "d", "order", "others", "other"] ["way", "d", "order", "others"] (defScope s_is_far) := ⟨rfl, rfl, rfl, by decide +kernel, rfl, by decide +kernel, by decide +kernel⟩
set_option maxHeartbeats 2000000 in
theorem ok_isFar {f f1 c Pt : Addr} {fd d1 : FuncData} {k : Nat} (T : DfC K mg "is_far" s_is_far ["way", "d", "order", "others"] f fd c) (TB : LamX.TabB base mg c Pt) (T_known_far : Df K mg "known_far" s_known_far ["way", "one", "other"] f1 d1) (G_known_far : FnOk P w K mg base CX0 k f1 d1 ["way", "one", "other"] spFar) (B : Bi mg) :
    FnOk P w K mg base CX0 (k + 2) f fd ["way", "d", "order", "others"] (spIsFar Pt) := by
  refine fun_okC T.F T.c scIsFar (fun vs H Q E h => ?_) (fun A outer s H vs Q E hr h => ?_)
  · obtain ⟨z, d, a, l, n, xs, bs, rs, rfl, _⟩ := h
    rfl
  · obtain ⟨z, d, a, l, n, xs, bs, rs, rfl, hz, ha, ox, hn1, hn2, hl, hL, ho, ht, q⟩ := h
    refine ⟨_, 
      (pss_one (ps_ret (pe_allG (own := [("other", 4)]) (gt := (gName 4)) (te := (tOp (rI0 fun i j => .bl (decide (j ≤ i))) (tCall spFar [] E0 (tCons (tVar 0) (tCons (tVar 2) (tCons (tVar 4) tNil)))) (tVar 1))) rfl scIsFar.nd hr (by rfl) B.all (by decide +kernel) TB rfl (pi_list (pv 3)) (blkOk_by (N := ["way", "d", "order", "others", "other"]) (sc := defScope s_is_far) (by decide +kernel)) (gsc_by (by decide +kernel)) (fun _ _ _ _ _ _ _ => (pg_name (i := 4) scIsFar.nd rfl (.inl rfl))) (fun _ _ _ _ _ _ _ => (pe_cmpR op_ge (pe_call G_known_far (room_gen hr) (by rfl) T_known_far.g T_known_far.F.kp T_known_far.b .nil pass0 (pa_cons (pv 0) (pa_cons (pv 2) (pa_cons (pv 4) pa_nil)))) (pv 1) (nomark _)))))), ?_⟩
    refine ⟨_, rfl, l, rfl, ⟨_, SqL.of hl⟩, ht, fun H2 tb => ?_⟩
    have k2 := KeepT.of_tabbed ht tb
    refine all_list (K := K) (a := l) (xs := bs.map V.ref) (fun i H3 => KeepT H H3 ∧ farAll z d xs (rs.take i) = true) ⟨k2, rfl⟩ (fun i H3 _ hP => SqL.of (hP.1.lst hl)) (fun i x H3 hx hP => ?_) (fun H3 hP => ?_) (fun x H3 p p' hpq h => ?_)
    · obtain ⟨k3, hall⟩ := hP
      obtain ⟨r, er, rfl⟩ := ref_at_inv hx
      obtain ⟨row, erow, hrow⟩ := hL.get er
      refine ⟨rfl, _, rfl, _, rfl, _, rfl, z, a, r, n, xs, row, rfl, hz, k3.lst ha, k3.lst hrow, ox, ho _ (List.mem_of_getElem? erow), hn1, hn2, fun H4 s4 => ?_⟩
      have k4 := k3.trans (KeepT.of_same s4)
      refine ⟨_, rfl, _, _, rfl, rfl, _, rfl, ?_⟩
      cases hb : decide (d ≤ farW z xs row) with
      | true => exact ⟨k4, by rw [farAll_more erow, hall, hb]; rfl⟩
      | false =>
        have z2 := q H4 k4
        rw [farAll_false erow hb] at z2
        exact z2
    · obtain ⟨k3, hall⟩ := hP
      rw [List.length_map, hL.len, List.take_length] at hall
      have z2 := q H3 k3
      rw [hall] at z2
      exact z2
    · obtain ⟨e1, i1, e2, i3, e3, i4, e4, zz, a', b', n', xs', ys', e5, r1, r2, r3, r4, r5, r6, r7, r8⟩ := h
      exact ⟨e1, i1, e2, i3, e3, i4, e4, zz, a', b', n', xs', ys', e5, r1, r2, r3, r4, r5, r6, r7, fun H4 s4 => by
        obtain ⟨j, ej, u1, u2, e6, e7, e8⟩ := r8 H4 s4
        exact ⟨j, ej, u1, u2, e6, e7, hpq _ _ e8⟩⟩
end
end Fo
namespace Fo
open PySem PySem.Spec PyProof.Rows L2
theorem farW_nonneg (w : Str) (xs ys : List Int) : 0 ≤ farW w xs ys := by
  unfold farW
  split
  · unfold farSwap; omega
  · split
    · unfold farSpot; omega
    · unfold farShift
      have : ∀ l : List Int, 0 ≤ maxL l := fun l => by
        induction l with
        | nil => exact Int.le_refl _
        | cons a l ih => show 0 ≤ max a (maxL l); omega
      exact this _
end Fo
namespace Fo
open PySem PySem.Spec PyProof.Rows L2
def stepF (w : Str) (d : Int) (acc : List (List Int)) (o : List Int) : List (List Int) := if farAll w d o acc = true then acc ++ [o] else acc
def firstL (w : Str) (d : Int) (os : List (List Int)) : List (List Int) := os.foldl (stepF w d) []
theorem firstL_more {w : Str} {d : Int} {os : List (List Int)} {i : Nat} {o : List Int} (h : os[i]? = some o) : firstL w d (os.take (i + 1)) = stepF w d (firstL w d (os.take i)) o := by
  unfold firstL
  rw [List.take_add_one, h, List.foldl_append]
  rfl
theorem firstL_snoc (w : Str) (d : Int) (os : List (List Int)) (o : List Int) : firstL w d (os ++ [o]) = stepF w d (firstL w d os) o := by
  unfold firstL
  rw [List.foldl_append]
  rfl
theorem firstL_sub (w : Str) (d : Int) (os : List (List Int)) : ∀ i, i ≤ os.length → (firstL w d (os.take i)).Sublist (os.take i)
  | 0, _ => by
    rw [List.take_zero]
    exact List.Sublist.refl _
  | i + 1, h => by
    have ih := firstL_sub w d os i (by omega)
    have e : os[i]? = some os[i] := List.getElem?_eq_getElem h
    rw [firstL_more e, List.take_add_one, e]
    unfold stepF
    split
    · exact ih.append (List.Sublist.refl _)
    · exact ih.trans (List.sublist_append_left _ _)
theorem firstL_subset (w : Str) (d : Int) (os : List (List Int)) {o : List Int} (h : o ∈ firstL w d os) : o ∈ os := by
  have z := firstL_sub w d os os.length (Nat.le_refl _)
  rw [List.take_length] at z
  exact z.subset h
theorem first_one {w : Str} {n : Nat} (hw : IsWay w) (hn : 1 ≤ n) (os : List (List Int)) (ho : ∀ o ∈ os, IsOrd n o) (hnd : os.Nodup) : firstL w 1 os = os := by
  have key : ∀ i, i ≤ os.length → firstL w 1 (os.take i) = os.take i := by
    intro i
    induction i with
    | zero =>
      intro _
      rw [List.take_zero]
      rfl
    | succ i ih =>
      intro h
      have e : os[i]? = some os[i] := List.getElem?_eq_getElem h
      rw [firstL_more e, ih (by omega), List.take_add_one, e]
      unfold stepF
      rw [if_pos]
      · rfl
      unfold farAll
      rw [List.all_eq_true]
      intro r hr
      apply decide_eq_true
      have h0 := farW_nonneg w os[i] r
      have hne : farW w os[i] r ≠ 0 := fun z => by
        have e2 := farW_zero hw (ho _ (List.getElem_mem h)) (ho _ (List.mem_of_mem_take hr)) hn z
        obtain ⟨j, hj⟩ := List.mem_iff_getElem?.mp hr
        rw [List.getElem?_take] at hj
        split at hj
        · rename_i hlt
          rw [← e2] at hj
          have := (List.getElem?_inj (l := os) (i := j) (j := i) (by omega) hnd).mp (hj.trans e.symm)
          omega
        · cases hj
      omega
  have z := key os.length (Nat.le_refl _)
  rw [List.take_length] at z
  exact z
theorem far_none {w : Str} {d : Int} {xs : List Int} {rs : List (List Int)} : (rs.filter (fun o => decide (farW w xs o < d)) = []) ↔ farAll w d xs rs = true := by
  unfold farAll
  rw [List.filter_eq_nil_iff, List.all_eq_true]
  constructor
  · intro h r hr
    have z := h r hr
    apply decide_eq_true
    have : ¬ farW w xs r < d := fun q => z (decide_eq_true q)
    omega
  · intro h r hr q
    have z := of_decide_eq_true (h r hr)
    have q' := of_decide_eq_true q
    omega
def spFirst (Pt : Addr) : Sp := fun vs H Q _ => ∃ (w : Str) (n : Nat) (d : Int), vs = [.str w, .int n, .int d] ∧ IsWay w ∧ 1 ≤ n ∧ n ≤ 6 ∧ 1 ≤ d ∧ GxR.TabG H Pt ∧
  ∀ (l : Addr) (as : List Addr) (H' : Hp), H l = none → H' l = some (.lst (as.map V.ref)) → LL H' as (firstL w d (allK n n)) → (∀ a ∈ as, H a = none ∧ a ≠ l) → as.Nodup → KeepT H H' → Q (.ref l) H'
def spLFirst : Sp := fun vs H Q _ => ∃ (w : Str) (n : Nat) (d : Int), vs = [.str w, .int n, .int d] ∧ IsWay w ∧ 1 ≤ n ∧ n ≤ 6 ∧ 1 ≤ d ∧
  ∀ (l : Addr) (as : List Addr) (H' : Hp), H l = none → H' l = some (.lst (as.map V.ref)) → LL H' as (firstL w d (allK n n)) → (∀ a ∈ as, H a = none ∧ a ≠ l) → as.Nodup → Same H H' → Q (.ref l) H'
section
variable {P : Program} {w : World} {K : PySem.W.Frag} {mg : Str → Option Value} {base : Heap}
theorem scFirst : FnScope ["way", "n", "d", "taken", "order"] ["way", "n", "d"] (defScope s_first_apart) := ⟨rfl, rfl, rfl, by decide +kernel, rfl, by decide +kernel, by decide +kernel⟩
set_option maxHeartbeats 2000000 in
theorem ok_first {f f1 f2 f3 Pt : Addr} {fd d1 d2 d3 : FuncData} {k c0 : Nat} {tk : Tok} (T : Df K mg "first_apart" s_first_apart ["way", "n", "d"] f fd) (T_check_apart : Df K mg "check_apart" s_check_apart ["way", "n", "most", "d"] f1 d1) (T_all_orders : Df K mg "all_orders" s_all_orders ["n"] f2 d2) (T_is_far : DfC K mg "is_far" s_is_far ["way", "d", "order", "others"] f3 d3 c0)
    (G_check_apart : FnOk P w K mg base CX0 k f1 d1 ["way", "n", "most", "d"] spApart) (G_all_orders : FnOk P w K mg base CX0 k f2 d2 ["n"] spAllO) (G_is_far : FnOk P w K mg base CX0 k f3 d3 ["way", "d", "order", "others"] (spIsFar Pt)) (B : Bi mg) (mL : mg "MOST_LISTED" = some (.int 6 tk)) :
    FnOk P w K mg base CX0 (k + 1) f fd ["way", "n", "d"] (spFirst Pt) := by
  refine T.F.ok scFirst (fun vs H Q E h => ?_) (fun cdv A outer s H vs Q E hr h => ?_)
  · obtain ⟨z, n, d, rfl, _⟩ := h
    rfl
  · obtain ⟨z, n, d, rfl, hz, hn1, hn2, hd, ht, q⟩ := h
    refine ⟨_, 
      (pss_cons (ps_expr (pe_call G_check_apart hr (by rfl) T_check_apart.g T_check_apart.F.kp T_check_apart.b .nil pass0 (pa_cons (pv 0) (pa_cons (pv 1) (pa_cons (pe_glob (v := .int 6) (by rfl) mL ⟨_, rfl⟩) (pa_cons (pv 2) pa_nil))))))
      (pss_cons (ps_set (i := 3) scFirst.nd rfl (.inl rfl) (pe_lst pa_nil))
      (pss_cons (ps_for PassesOwn.never rfl (pi_list (pe_call G_all_orders hr (by rfl) T_all_orders.g T_all_orders.F.kp T_all_orders.b .nil pass0 (pa_cons (pv 1) pa_nil))) (pg_name (i := 4) scFirst.nd rfl (.inl rfl))
        (pss_one (ps_if (pt_val (pe_call G_is_far hr (by rfl) T_is_far.g T_is_far.F.kp T_is_far.b .nil pass0 (pa_cons (pv 0) (pa_cons (pv 2) (pa_cons (pv 4) (pa_cons (pv 3) pa_nil))))))
          (pss_one (ps_expr (pe_bm PySem.F.plainAttrs_list PySem.F.slot_list_append PySem.F.type_list_append mt_append (pv 3) (pa_cons (pv 4) pa_nil))))
          pss_nil)))
      (pss_one (ps_ret (pv 3)))))), ?_⟩
    refine ⟨_, rfl, _, rfl, _, rfl, z, (n : Int), 6, d, rfl, hz, by omega, by omega, hd, ?_⟩
    refine ⟨Nat.zero_le _, fun l nl => ?_⟩
    have s0 := same_new (o := .lst []) nl
    refine ⟨_, rfl, n, rfl, hn1, hn2, fun r as H2 nr hr2 hLL hfr hnd s2 => ?_⟩
    have hl2 : H2 l = some (.lst []) := s2 _ _ upd_same
    have nrl : r ≠ l := fun z => by rw [z, upd_same] at nr; cases nr
    have hlen := hLL.len
    have hal := allK_len hn2 n (Nat.le_refl _)
    have hp6 := pow6 hn2
    refine ⟨r, rfl, ⟨_, SqL.of hr2⟩, ?_⟩
    refine for_list (xs := as.map V.ref) (fun m σ H3 => ∃ (y4 : Option V) (bs : List Addr), σ = [some (.str z), some (.int n), some (.int d), some (.ref l), y4] ∧ H3 l = some (.lst (bs.map V.ref)) ∧ LL H3 bs (firstL z d ((allK n n).take m)) ∧ bs.Sublist (as.take m) ∧ KeepT H H3 ∧ H3 r = some (.lst (as.map V.ref)) ∧ LL H3 as (allK n n))
      ⟨_, [], rfl, hl2, trivial, List.nil_sublist _, KeepT.of_same (s0.trans s2), hr2, hLL⟩ (fun m σ H3 _ hP => by obtain ⟨_, _, _, _, _, _, _, h7, _⟩ := hP; exact SqL.of h7) (fun m x σ H3 hx hP => ?_) (fun σ H3 hP => ?_)
    · obtain ⟨y4, bs, rfl, hl3, hLb, hsub, k3, hr3, hL3⟩ := hP
      obtain ⟨c, ec, rfl⟩ := ref_at_inv hx
      obtain ⟨row, erow, hrow⟩ := hL3.get ec
      have etk : as.take (m + 1) = as.take m ++ [c] := by rw [List.take_add_one, ec]; rfl
      have hca : c ∈ as := List.mem_of_getElem? ec
      have hcl : c ≠ l := fun z => by have := (hfr c hca).1; rw [z, upd_same] at this; cases this
      have hbl : ∀ u ∈ as, u ≠ l := fun u hu z => by have := (hfr u hu).1; rw [z, upd_same] at this; cases this
      refine ⟨_, rfl, _, rfl, _, rfl, _, rfl, z, d, c, l, n, row, bs, _, rfl, hz, hrow, all_ord (List.mem_of_getElem? erow), hn1, by omega, hl3, hLb, fun o ho => all_ord (List.mem_of_mem_take (firstL_subset _ _ _ ho)), k3.tab ht, fun H4 k4 => ?_⟩
      have k34 := k3.trans k4
      refine ⟨_, rfl, ?_⟩
      cases hb : farAll z d row (firstL z d ((allK n n).take m)) with
      | true =>
        refine iteT ⟨_, rfl, .inl ⟨rfl, _, SqL.of (k4.lst hl3)⟩, _, rfl, l, _, _, rfl, rfl, k4.lst hl3, line_lt ?_, ?_⟩
        · rw [List.length_map]
          have := hsub.length_le
          rw [List.length_take] at this
          omega
        refine ⟨_, bs ++ [c], rfl, by rw [upd_same, List.map_append]; rfl, ?_, ?_, ⟨fun b o e f => ?_, fun b qq e => ?_⟩, by rw [upd_ne nrl]; exact k4.lst hr3, (hL3.keepT k4).keep fun u hu o e => by rw [upd_ne (hbl u hu)]; exact e⟩
        · rw [firstL_more erow]
          unfold stepF
          rw [hb, if_pos rfl]
          refine LL.snoc ((hLb.keepT k4).keep fun u hu o e => by rw [upd_ne (hbl u (List.mem_of_mem_take (hsub.subset hu)))]; exact e) ?_
          rw [upd_ne hcl]
          exact k4.lst hrow
        · rw [etk]
          exact hsub.append (List.Sublist.refl _)
        · rw [upd_ne (ne_of_none e nl)]
          exact k34.1 b o e f
        · rw [upd_ne (ne_of_none e nl)]
          exact k34.2 b qq e
      | false =>
        refine iteF ⟨_, bs, rfl, k4.lst hl3, ?_, ?_, k34, k4.lst hr3, hL3.keepT k4⟩
        · rw [firstL_more erow]
          unfold stepF
          rw [hb, if_neg Bool.false_ne_true]
          exact hLb.keepT k4
        · rw [etk]
          exact hsub.trans (List.sublist_append_left _ _)
    · obtain ⟨y4, bs, rfl, hl3, hLb, hsub, k3, hr3, hL3⟩ := hP
      rw [List.length_map, hlen, List.take_length] at hLb
      refine ⟨_, rfl, q l bs H3 nl hl3 hLb (fun c hc => ?_) ?_ k3⟩
      · have hca : c ∈ as := List.mem_of_mem_take (hsub.subset hc)
        exact ⟨s0.free (hfr c hca).1, fun z => by have := (hfr c hca).1; rw [z, upd_same] at this; cases this⟩
      · exact (hnd.sublist (List.take_sublist _ as)).sublist hsub
end
end Fo
namespace Fo
open PySem PySem.Spec PyProof.Rows L2
/-! lists that are sure: the reckoning -/
theorem cutV_takeN (xs : List V) (i : Nat) : cutV xs none (some (i : Int)) = xs.take i := by
  unfold cutV
  rw [HT.sIx_none, HT.sIx_nat, List.drop_zero, Nat.sub_zero]
  by_cases hh : i ≤ xs.length
  · rw [Nat.min_eq_left hh]
  · rw [Nat.min_eq_right (by omega), List.take_length, List.take_of_length_le (by omega)]
theorem LL.takeN {H : Hp} : ∀ {as : List Addr} {rs : List (List Int)} (k : Nat), LL H as rs → LL H (as.take k) (rs.take k)
  | _, _, 0, _ => trivial
  | [], [], _ + 1, _ => trivial
  | [], _ :: _, _ + 1, h => h.elim
  | _ :: _, [], _ + 1, h => h.elim
  | _ :: _, _ :: _, k + 1, h => ⟨h.1, LL.takeN k h.2⟩
theorem LL.dropN {H : Hp} : ∀ {as : List Addr} {rs : List (List Int)} (k : Nat), LL H as rs → LL H (as.drop k) (rs.drop k)
  | _, _, 0, h => h
  | [], [], _ + 1, _ => trivial
  | [], _ :: _, _ + 1, h => h.elim
  | _ :: _, [], _ + 1, h => h.elim
  | _ :: _, _ :: _, k + 1, h => LL.dropN k h.2
theorem LL.appN {H : Hp} : ∀ {as bs : List Addr} {rs ss : List (List Int)}, LL H as rs → LL H bs ss → LL H (as ++ bs) (rs ++ ss)
  | [], _, [], _, _, h => h
  | _ :: _, _, _ :: _, _, a, h => ⟨a.1, LL.appN a.2 h⟩
  | [], _, _ :: _, _, a, _ => a.elim
  | _ :: _, _, [], _, a, _ => a.elim
theorem filter_mono {α : Type} {p q : α → Bool} : ∀ {l : List α}, (∀ x ∈ l, p x = true → q x = true) → (l.filter p).length ≤ (l.filter q).length
  | [], _ => Nat.le_refl _
  | a :: l, h => by
    have ih := filter_mono (p := p) (q := q) (l := l) fun x m => h x (List.mem_cons_of_mem _ m)
    rw [List.filter_cons, List.filter_cons]
    by_cases c : p a = true
    · rw [if_pos c, if_pos (h a List.mem_cons_self c)]
      simp only [List.length_cons]; omega
    · rw [if_neg c]
      split
      · simp only [List.length_cons]; omega
      · exact ih
theorem nsF_none {w : Str} {rs : List (List Int)} {e : Int} : ∀ {a : List (List Int)}, nsF w rs e a = none → ∀ o ∈ a, (rs.filter fun x => decide (farW w o x ≤ e)).length ≤ 1
  | [], _, _, m => absurd m List.not_mem_nil
  | b :: os, h, o, m => by
    unfold nsF at h
    split at h
    · cases h
    · rename_i hf
      rcases List.mem_cons.mp m with rfl | m
      · match hr : (rs.filter fun x => decide (farW w o x ≤ e)), hf with
        | [], _ => exact Nat.zero_le _
        | [_], _ => exact Nat.le_refl _
        | r1 :: r2 :: t, hf => exact (hf r1 r2 t rfl).elim
      · exact nsF_none h o m
theorem nsF_none_of {w : Str} {rs : List (List Int)} {e : Int} : ∀ {a : List (List Int)}, (∀ o ∈ a, (rs.filter fun x => decide (farW w o x ≤ e)).length ≤ 1) → nsF w rs e a = none
  | [], _ => rfl
  | b :: os, h => by
    unfold nsF
    have h1 := h b List.mem_cons_self
    split
    · rename_i r1 r2 t hr
      rw [hr] at h1
      simp at h1
    · exact nsF_none_of fun o m => h o (List.mem_cons_of_mem _ m)
theorem nsF_some {w : Str} {rs : List (List Int)} {e : Int} {o r1 r2 : List Int} : ∀ {a : List (List Int)}, nsF w rs e a = some (o, r1, r2) → o ∈ a ∧ ∃ t, (rs.filter fun x => decide (farW w o x ≤ e)) = r1 :: r2 :: t
  | [], h => by cases h
  | b :: os, h => by
    unfold nsF at h
    split at h
    · rename_i s1 s2 t hr
      have := Option.some.inj h
      obtain ⟨rfl, rfl, rfl⟩ : b = o ∧ s1 = r1 ∧ s2 = r2 := by
        injection this with e1 e2
        injection e2 with e2 e3
        exact ⟨e1, e2, e3⟩
      exact ⟨List.mem_cons_self, t, hr⟩
    · obtain ⟨m, t⟩ := nsF_some h
      exact ⟨List.mem_cons_of_mem _ m, t⟩
theorem nsF_less {w : Str} {rs : List (List Int)} {e e' : Int} {a : List (List Int)} (he : e ≤ e') (h : nsF w rs e' a = none) : nsF w rs e a = none :=
  nsF_none_of fun o m => Nat.le_trans (filter_mono fun x _ c => decide_eq_true (Int.le_trans (of_decide_eq_true c) he)) (nsF_none h o m)
theorem nsF_sub {w : Str} {rs rs' : List (List Int)} {e : Int} {a : List (List Int)} (hs : rs'.Sublist rs) (h : nsF w rs e a = none) : nsF w rs' e a = none :=
  nsF_none_of fun o m => Nat.le_trans (hs.filter _).length_le (nsF_none h o m)
/-- any two, the later first, lie so far apart -/
def UpA (w : Str) (d : Int) (rs : List (List Int)) : Prop := rs.Pairwise fun a b => d ≤ farW w b a
theorem upA_of {w : Str} {d : Int} {rs : List (List Int)} (h : ∀ i o, rs[i]? = some o → farAll w d o (rs.take i) = true) : UpA w d rs := by
  unfold UpA
  rw [List.pairwise_iff_getElem]
  intro i j hi hj hij
  have z := h j rs[j] (List.getElem?_eq_getElem hj)
  unfold farAll at z
  rw [List.all_eq_true] at z
  refine of_decide_eq_true (z rs[i] ?_)
  have : (rs.take j)[i]? = some rs[i] := by rw [List.getElem?_take, if_pos hij]; exact List.getElem?_eq_getElem hi
  exact List.mem_of_getElem? this
theorem upA_fold {w : Str} {d : Int} : ∀ (os acc : List (List Int)), UpA w d acc → UpA w d (os.foldl (stepF w d) acc)
  | [], _, h => h
  | o :: os, acc, h => by
    refine upA_fold os _ ?_
    unfold stepF
    split
    · rename_i c
      unfold UpA
      rw [List.pairwise_append]
      refine ⟨h, List.pairwise_cons.mpr ⟨fun x m => absurd m List.not_mem_nil, List.Pairwise.nil⟩, fun x hx y hy => ?_⟩
      rw [List.mem_singleton.mp hy]
      unfold farAll at c
      rw [List.all_eq_true] at c
      exact of_decide_eq_true (c x hx)
    · exact h
theorem upA_first (w : Str) (d : Int) (os : List (List Int)) : UpA w d (firstL w d os) := upA_fold os [] List.Pairwise.nil
theorem firstL_one {w : Str} {d : Int} {o : List Int} {os : List (List Int)} : 1 ≤ (firstL w d (o :: os)).length := by
  have key : ∀ (os acc : List (List Int)), acc.length ≤ (os.foldl (stepF w d) acc).length := by
    intro os
    induction os with
    | nil => exact fun _ => Nat.le_refl _
    | cons b os ih =>
      intro acc
      refine Nat.le_trans ?_ (ih _)
      unfold stepF
      split
      · rw [List.length_append]; omega
      · exact Nat.le_refl _
  exact key os (stepF w d [] o)
/-- so far apart, that none lies near two -/
theorem near_two {w : Str} {n : Nat} {d e : Int} {o x y : List Int} (hw : IsWay w) (hn : 1 ≤ n) (oo : IsOrd n o) (ox : IsOrd n x) (oy : IsOrd n y) (hd : d ≤ farW w y x) (hx : farW w o x ≤ e) (hy : farW w o y ≤ e) (he : 2 * e < d) : False := by
  have t := farW_third (xs := y) (ys := x) (zs := o) hw oy ox oo hn
  have s := farW_turn (w := w) oo oy hn
  omega
theorem nsF_apart {w : Str} {n : Nat} {d e : Int} {rs : List (List Int)} (hw : IsWay w) (hn : 1 ≤ n) (ho : ∀ r ∈ rs, IsOrd n r) (hu : UpA w d rs) (he : 2 * e < d) : nsF w rs e (allK n n) = none := by
  refine nsF_none_of fun o mo => ?_
  match hr : (rs.filter fun x => decide (farW w o x ≤ e)) with
  | [] => exact Nat.zero_le _
  | [_] => exact Nat.le_refl _
  | r1 :: r2 :: t =>
    exfalso
    have hs : (r1 :: r2 :: t).Sublist rs := by rw [← hr]; exact List.filter_sublist
    have hp := List.Pairwise.sublist hs hu
    have m1 : r1 ∈ rs.filter fun x => decide (farW w o x ≤ e) := by rw [hr]; exact List.mem_cons_self
    have m2 : r2 ∈ rs.filter fun x => decide (farW w o x ≤ e) := by rw [hr]; exact List.mem_cons_of_mem _ List.mem_cons_self
    obtain ⟨a1, c1⟩ := List.mem_filter.mp m1
    obtain ⟨a2, c2⟩ := List.mem_filter.mp m2
    exact near_two hw hn (all_ord mo) (ho _ a1) (ho _ a2) ((List.pairwise_cons.mp hp).1 r2 List.mem_cons_self) (of_decide_eq_true c1) (of_decide_eq_true c2) he
theorem nodup_upA {w : Str} {n : Nat} {d : Int} {rs : List (List Int)} (hn : 1 ≤ n) (ho : ∀ r ∈ rs, IsOrd n r) (hd : 1 ≤ d) (hu : UpA w d rs) : rs.Nodup := by
  refine List.Pairwise.imp_of_mem (fun {a b} ma mb h e => ?_) hu
  have := farW_self (w := w) (ho b mb) hn
  rw [e] at h
  omega
theorem ordAll57 {n : Nat} {r : List Int} (o : IsOrd n r) : r ∈ allK n n := allK_mem n r o.len o.nodup fun x hx => (List.Perm.mem_iff o).mp hx
/-- an order near one of a list far apart lies near that one alone -/
theorem led_one {w : Str} {n : Nat} {d e : Int} {rs : List (List Int)} {o x : List Int} (hw : IsWay w) (hn : 1 ≤ n) (ho : ∀ r ∈ rs, IsOrd n r) (hu : UpA w d rs) (he : 2 * e < d) (hd : 1 ≤ d) (oo : IsOrd n o) (hx : x ∈ rs) (hf : farW w o x ≤ e) : (rs.filter fun y => decide (farW w o y ≤ e)) = [x] := by
  have nd := nodup_upA hn ho hd hu
  have hm : x ∈ rs.filter fun y => decide (farW w o y ≤ e) := List.mem_filter.mpr ⟨hx, decide_eq_true hf⟩
  have h0 := nsF_none (nsF_apart hw hn ho hu he) o (ordAll57 oo)
  match hr : (rs.filter fun y => decide (farW w o y ≤ e)), hm, h0 with
  | [], hm, _ => exact absurd hm List.not_mem_nil
  | [y], hm, _ => rw [List.mem_singleton.mp hm]
  | a :: b :: t, _, h0 => simp at h0
/-- the first two of those within stand in that order in the list -/
theorem two_places {rs t : List (List Int)} {r1 r2 : List Int} {p : List Int → Bool} (hf : rs.filter p = r1 :: r2 :: t) : ∃ i j : Nat, i < j ∧ rs[i]? = some r1 ∧ rs[j]? = some r2 := by
  have hs : [r1, r2].Sublist rs := List.Sublist.trans (List.Sublist.cons_cons _ (List.Sublist.cons_cons _ (List.nil_sublist _))) (by rw [← hf]; exact List.filter_sublist)
  clear hf
  induction rs with
  | nil => cases hs
  | cons a l ih =>
    cases hs with
    | cons _ h =>
      obtain ⟨i, j, h1, h2, h3⟩ := ih h
      exact ⟨i + 1, j + 1, by omega, by simpa using h2, by simpa using h3⟩
    | cons_cons _ h =>
      obtain ⟨j, hj⟩ := List.mem_iff_getElem?.mp (h.subset List.mem_cons_self)
      exact ⟨0, j + 1, by omega, rfl, by simpa using hj⟩
theorem first_place {rs : List (List Int)} {r : List Int} {i : Nat} (nd : rs.Nodup) (h : rs[i]? = some r) : ∀ m, m < i → rs[m]? ≠ some r := fun m hm e => by
  have hi := (List.getElem?_eq_some_iff.mp h).1
  have := (List.getElem?_inj (i := m) (j := i) (by omega) nd).mp (e.trans h.symm)
  omega
end Fo
namespace Fo
open PySem PySem.Spec PyProof.Rows L2
def spAreFar (Pt : Addr) : Sp := fun vs H Q _ => ∃ (w : Str) (d : Int) (l : Addr) (as : List Addr) (rs : List (List Int)) (n : Nat), vs = [.str w, .int d, .ref l] ∧ IsWay w ∧ OL H l as rs n ∧ rs.length ≤ 1000 ∧ GxR.TabG H Pt ∧ ∀ (b : Bool) H', (b = true → UpA w d rs) → KeepT H H' → Q (.bl b) H'
def spLies (Pt : Addr) : Sp := fun vs H Q _ => ∃ (w : Str) (d : Int) (l : Addr) (as : List Addr) (rs : List (List Int)) (n : Nat), vs = [.str w, .int n, .int d, .ref l] ∧ IsWay w ∧ 1 ≤ d ∧ OL H l as rs n ∧ rs.length ≤ 1000 ∧ GxR.TabG H Pt ∧ ∀ (b : Bool) H', (b = true → UpA w d rs) → KeepT H H' → Q (.bl b) H'
section
variable {P : Program} {w : World} {K : PySem.W.Frag} {mg : Str → Option Value} {base : Heap}
theorem scAF : FnScope ["way", "d", "orders", "place", "order"] ["way", "d", "orders"] (defScope s_are_far) := ⟨rfl, rfl, rfl, by decide +kernel, rfl, by decide +kernel, by decide +kernel⟩
set_option maxHeartbeats 2000000 in
theorem ok_areFar {f f3 Pt : Addr} {fd d3 : FuncData} {k c0 : Nat} (T : Df K mg "are_far" s_are_far ["way", "d", "orders"] f fd) (T_is_far : DfC K mg "is_far" s_is_far ["way", "d", "order", "others"] f3 d3 c0) (G_is_far : FnOk P w K mg base CX0 k f3 d3 ["way", "d", "order", "others"] (spIsFar Pt)) (B : Bi mg) : FnOk P w K mg base CX0 (k + 1) f fd ["way", "d", "orders"] (spAreFar Pt) := by
  refine T.F.ok scAF (fun vs H Q E h => ?_) (fun cdv A outer s H vs Q E hr h => ?_)
  · obtain ⟨z, d, l, as, rs, n, rfl, _⟩ := h
    rfl
  · obtain ⟨z, d, l, as, rs, n, rfl, hz, hO, hlen, ht, q⟩ := h
    have hal := hO.ll.len
    refine ⟨_, 
      (pss_cons (ps_for PassesOwn.never rfl (pi_enum (by rfl) B.enumerate (pa_cons (pv 2) pa_nil)) (pg_tup (by rfl) (pgs_cons (pg_name (i := 3) scAF.nd rfl (.inl rfl)) (pgs_cons (pg_name (i := 4) scAF.nd rfl (.inl rfl)) pgs_nil)))
        (pss_one (ps_if (pt_not (pt_val (pe_call G_is_far hr (by rfl) T_is_far.g T_is_far.F.kp T_is_far.b .nil pass0 (pa_cons (pv 0) (pa_cons (pv 1) (pa_cons (pv 4) (pa_cons (pe_slice sl_list (pv 2) po_none (po_some (pv 3))) pa_nil)))))))
          (pss_one (ps_ret pe_bl))
          pss_nil)))
      (pss_one (ps_ret pe_bl))), ?_⟩
    refine ⟨_, rfl, l, _, rfl, SqL.of hO.top, ?_⟩
    refine for_enumL (K := K) (a := l) (xs := as.map V.ref) (fun i σ G => ∃ y3 y4, σ = [some (.str z), some (.int d), some (.ref l), y3, y4] ∧ (∀ j o, j < i → rs[j]? = some o → farAll z d o (rs.take j) = true) ∧ KeepT H G) ⟨_, _, rfl, fun j o hj => absurd hj (Nat.not_lt_zero _), KeepT.refl H⟩ (fun i σ G hP => by obtain ⟨_, _, _, _, kG⟩ := hP; exact SqL.of (kG.lst hO.top)) (fun i x T2 σ G hx hP nT => ?_) (fun σ G hP => ?_)
    · obtain ⟨y3, y4, rfl, hF, kG⟩ := hP
      obtain ⟨c0, ec, rfl⟩ := ref_at_inv hx
      have s0 := same_new (o := .tup [.int (i : Nat), .ref c0]) nT
      have k0 := kG.trans (KeepT.of_same s0)
      obtain ⟨o, eo, hc⟩ := (hO.ll.keepT k0).get ec
      have hi := (List.getElem?_eq_some_iff.mp eo).1
      refine ⟨T2, _, rfl, .inl (.inl upd_same), rfl, _, _, rfl, _, _, rfl, rfl, ?_⟩
      refine ⟨_, rfl, _, rfl, _, rfl, _, rfl, _, rfl, _, rfl, l, _, rfl, SqL.of (k0.lst hO.top), fun c nc => ?_⟩
      rw [cutV_takeN, ← List.map_take]
      have k1 := k0.trans (KeepT.of_same (same_new (o := .lst ((as.take i).map V.ref)) nc))
      have hc1 := same_new (o := .lst ((as.take i).map V.ref)) nc _ _ hc
      refine ⟨z, d, c0, c, n, o, as.take i, rs.take i, rfl, hz, hc1, hO.ord o (List.mem_of_getElem? eo), hO.n1, hO.n2, upd_same, LL.takeN i (hO.ll.keepT k1), fun r m => hO.ord r (List.mem_of_mem_take m), k1.tab ht, fun H2 k2 => ?_⟩
      have k12 := k1.trans k2
      refine ⟨_, rfl, ?_⟩
      cases hb : farAll z d o (rs.take i) with
      | true => exact iteF ⟨_, _, rfl, fun j o' hj e => by
          by_cases c : j < i
          · exact hF j o' c e
          · obtain rfl : j = i := by omega
            rw [eo] at e
            cases e
            exact hb, k12⟩
      | false => exact iteT (q false H2 (fun z => absurd z (by decide)) k12)
    · obtain ⟨y3, y4, rfl, hF, kG⟩ := hP
      exact (q true G (fun _ => upA_of fun i o e => hF i o (by rw [List.length_map, hal]; exact (List.getElem?_eq_some_iff.mp e).1) e) kG)
theorem scLA : FnScope ["way", "n", "d", "thing", "order"] ["way", "n", "d", "thing"] (defScope s_lies_apart) := ⟨rfl, rfl, rfl, by decide +kernel, rfl, by decide +kernel, by decide +kernel⟩
set_option maxHeartbeats 2000000 in
theorem ok_lies {f f1 f2 f3 Pt : Addr} {fd d1 d2 d3 : FuncData} {k : Nat} {tk : Tok} (T : Df K mg "lies_apart" s_lies_apart ["way", "n", "d", "thing"] f fd) (T_check_apart : Df K mg "check_apart" s_check_apart ["way", "n", "most", "d"] f1 d1) (T_is_order_list : Df K mg "is_order_list" s_is_order_list ["thing"] f2 d2) (T_are_far : Df K mg "are_far" s_are_far ["way", "d", "orders"] f3 d3) (G_check_apart : FnOk P w K mg base CX0 k f1 d1 ["way", "n", "most", "d"] spApart) (G_is_order_list : FnOk P w K mg base CX0 k f2 d2 ["thing"] spOLst) (G_are_far : FnOk P w K mg base CX0 k f3 d3 ["way", "d", "orders"] (spAreFar Pt)) (B : Bi mg) (mT : mg "MOST_THINGS" = some (.int 12 tk)) : FnOk P w K mg base CX0 (k + 1) f fd ["way", "n", "d", "thing"] (spLies Pt) := by
  refine T.F.ok scLA (fun vs H Q E h => ?_) (fun cdv A outer s H vs Q E hr h => ?_)
  · obtain ⟨z, d, l, as, rs, n, rfl, _⟩ := h
    rfl
  · obtain ⟨z, d, l, as, rs, n, rfl, hz, hd, hO, hlen, ht, q⟩ := h
    have hal := hO.ll.len
    have hn1 := hO.n1
    have hn2 := hO.n2
    refine ⟨_, 
      (pss_cons (ps_expr (pe_call G_check_apart hr (by rfl) T_check_apart.g T_check_apart.F.kp T_check_apart.b .nil pass0 (pa_cons (pv 0) (pa_cons (pv 1) (pa_cons (pe_glob (v := .int 12) (by rfl) mT ⟨_, rfl⟩) (pa_cons (pv 2) pa_nil))))))
      (pss_cons (ps_if (PW.pt (pw_or (pt_not (pt_val (pe_call G_is_order_list hr (by rfl) T_is_order_list.g T_is_order_list.F.kp T_is_order_list.b .nil pass0 (pa_cons (pv 3) pa_nil)))) (pw_or1 (pt_not (pt_val (pe_callB (cr_all rfl) (by rfl) B.all (by decide +kernel) (pa_cons (pe_lc (own := [("order", 4)]) (g := (gName 4)) (tt := tYes) (te := (tOp rEq (tCB (rLenS K) (tCons (tVar 4) tNil)) (tVar 1))) rfl scLA.nd (pi_list (pv 3)) (blkOk_by (N := ["way", "n", "d", "thing", "order"]) (sc := defScope s_lies_apart) (by decide +kernel)) (fun _ _ _ _ _ => (pg_name (i := 4) scLA.nd rfl (.inl rfl))) (fun _ _ _ _ _ => pts_nil) (fun _ _ _ _ _ => (pe_cmpR op_eq (pe_callB call_len_seq (by rfl) B.len PySem.boot_len (pa_cons (pv 4) pa_nil)) (pv 1) (nomark _)))) pa_nil)))))))
        (pss_one (ps_ret pe_bl))
        pss_nil)
      (pss_one (ps_ret (pe_call G_are_far hr (by rfl) T_are_far.g T_are_far.F.kp T_are_far.b .nil pass0 (pa_cons (pv 0) (pa_cons (pv 2) (pa_cons (pv 3) pa_nil)))))))), ?_⟩
    refine ⟨_, rfl, _, rfl, _, rfl, z, (n : Int), 12, d, rfl, hz, by omega, by omega, hd, ?_⟩
    refine ⟨_, rfl, l, as, rs, n, rfl, hO, hlen, fun H1 s1 => ⟨true, rfl, iteF ?_⟩⟩
    have h3 := hO.same s1
    refine ⟨_, rfl, l, rfl, ⟨_, SqL.of h3.top⟩, fun p2 np2 => ?_⟩
    refine lc_list (K := K) (a := l) (xs := as.map V.ref) (fun i H5 => H5 p2 = some (.lst ((List.replicate i true).map V.bl)) ∧ Same H1 H5) ⟨upd_same, same_new np2⟩ (fun i H5 _ hP => SqL.of (hP.2 _ _ h3.top)) (fun i x H5 hx hP => ?_) (fun H5 hP => ?_)
    · obtain ⟨a, ea, rfl⟩ := ref_at_inv hx
      obtain ⟨hp5, sm5⟩ := hP
      have h5 := h3.same sm5
      obtain ⟨r, er, ha⟩ := h5.ll.get ea
      have hi := (List.getElem?_eq_some_iff.mp ea).1
      have l1 := (h5.ord r (List.mem_of_getElem? er)).len
      refine ⟨rfl, _, rfl, a, _, rfl, .inl (SqL.of ha), _, rfl, rfl, ?_⟩
      refine ⟨_, hp5, line_lt (by rw [List.length_map, List.length_replicate]; omega), ?_, fun b o e => ?_⟩
      · rw [upd_same, List.replicate_succ', List.map_append, List.length_map, l1, decide_eq_true rfl]
        rfl
      · rw [upd_ne (ne_of_none e np2)]
        exact sm5 _ _ e
    · obtain ⟨hp5, sm5⟩ := hP
      refine ⟨p2, _, rfl, SqL.of hp5, _, rfl, ?_⟩
      rw [all_true]
      refine iteF ?_
      have s15 := s1.trans sm5
      refine ⟨_, rfl, _, rfl, _, rfl, z, d, l, as, rs, n, rfl, hz, hO.same s15, hlen, (KeepT.of_same s15).tab ht, fun b H6 hb k6 => ?_⟩
      exact q b H6 hb ((KeepT.of_same s15).trans k6)
end
end Fo
namespace Fo
open PySem PySem.Spec PyProof.Rows L2
/-! rows.index(row) -/
section
variable {X : Cx}
def rIdxR (K : PySem.W.Frag) : V → List V → Hp → VK → Prop := fun x vs H Q => ∃ (l : Addr) (as : List Addr) (rs : List (List Int)) (o : V) (xs : List Int) (j : Nat), x = .ref l ∧ vs = [o] ∧ H l = some (.lst (as.map V.ref)) ∧ LL H as rs ∧ Dp K H o (dL xs) ∧ rs[j]? = some xs ∧ (∀ m, m < j → rs[m]? ≠ some xs) ∧ Q (.int (j : Nat)) H
theorem mt_idxR (hu : X.A.units + 65 < cLine) : MtR X "list.index" (rIdxR X.K) := by
  intro pins s σ H x xs v us Q I rx rxs h
  obtain ⟨l, as0, rs, o, xs, j, rfl, rfl, hH, hLL, hy, hj, hno, q⟩ := h
  cases rx
  cases rxs with
  | cons ry rt =>
    rename_i uy ut
    cases rt
    obtain ⟨bs, r1⟩ := Dp.reads I (dL xs) o uy hy ry
    obtain ⟨its, rv, ⟨⟨cls, dd, data, sl⟩, n, ho, hc, hdn, hd⟩, hlen⟩ := I.list (SqL.of (K := X.K) hH)
    simp only at hc hd
    subst hc hd
    have sd := shaped_list xs
    have hxs : PyData.canLayAll0 (rs.map dL) = true := SeqAt.canLay_of_shaped (shaped_lists rs)
    have hroom : X.A.units + 1 + min (PyData.depthAll (rs.map dL)) (dL xs).depth < cLine := room_in_shaped sd hu
    obtain ⟨as, h4⟩ := Dp.readsAll I _ _ its (dp_LL hLL) rv
    have hn : its.length = (rs.map dL).length := SeqAt.ReadsAll.length _ its as h4
    have hmap : its.map (SeqAt.readOf s.heap) = rs.map dL := SeqAt.readsAll_map _ its as hxs h4
    rw [List.length_map] at hn
    have hal := hLL.len
    have hjn : j < rs.length := (List.getElem?_eq_some_iff.mp hj).1
    have hjl : j < its.toArray.size := by rw [List.size_toArray]; omega
    have hsl := sizeLine_eq
    rw [List.length_map] at hlen
    have at_ : ∀ (m : Nat) (hm : m < its.toArray.size) (y : List Int), rs[m]? = some y → SeqAt.readOf s.heap its.toArray[m] = dL y := by
      intro m hm y hy'
      have hml : m < its.length := by simpa using hm
      have h5 : (its.map (SeqAt.readOf s.heap))[m]? = some (dL y) := by rw [hmap, List.getElem?_map, hy']; rfl
      rw [List.getElem?_map, List.getElem?_eq_getElem hml] at h5
      have e1 : SeqAt.readOf s.heap its[m] = dL y := Option.some.inj h5
      simpa using e1
    refine call_meets PySem.F.slot_list_index ⟨_, ho, rfl⟩ PySem.F.entry_list_index (PySem.F.args_list_index_2 _ _)
      (SeqAt.list_indexAt l its.toArray n dd sl uy (fun u => PyData.eqv (SeqAt.readOf s.heap u) (dL xs)) j hjl (by omega) ?_ ?_) ⟨ho, SeqAt.items_eqAt (vs := its.toArray) (show ReadsAll s.heap its.toArray.toList _ as from h4) r1 hxs (SeqAt.canLay_of_shaped sd) hroom, ?_⟩
    · show PyData.eqv (SeqAt.readOf s.heap its.toArray[j]) (dL xs) = true
      rw [at_ j hjl xs hj, eqv_list]
    · intro m hm hmj
      have hmn : m < rs.length := by omega
      have hy' : rs[m]? = some rs[m] := List.getElem?_eq_getElem hmn
      show PyData.eqv (SeqAt.readOf s.heap its.toArray[m]) (dL xs) = false
      rw [at_ m hm _ hy', eqv_ints]
      exact decide_eq_false fun z => hno m hmj (by rw [hy', z])
    · exact ⟨.int (j : Nat), H, I.kept (t' := s.toks + 1) (fun b o e => e), ⟨_, rfl⟩, q⟩
end
end Fo
namespace Fo
open PySem PySem.Spec PyProof.Rows L2
theorem max_if57 (i j : Int) : (if j > i then j else i) = max i j := by split <;> omega
def spShown57 : Sp := fun vs H Q _ => ∃ (w : Str) (l : Addr) (as : List Addr) (rs : List (List Int)) (n : Nat) (e : Int) (t a0 a1 a2 : Addr) (o r1 r2 : List Int), vs = [.str w, .ref l, .int e, .ref t] ∧ IsWay w ∧ OL H l as rs n ∧ rs.Nodup ∧ 1 ≤ rs.length ∧ rs.length ≤ 120 ∧ n ≤ 6 ∧ 0 ≤ e ∧ TrAt H t a0 a1 a2 o r1 r2 ∧ nsF w rs e (allK n n) = some (o, r1, r2) ∧ ∀ H', Same H H' → Q (.bl true) H'
theorem showsF_of {w : Str} {rs t : List (List Int)} {n : Nat} {e e' : Int} {o r1 r2 : List Int} (ho : ∀ r ∈ rs, IsOrd n r) (oo : IsOrd n o) (nd : rs.Nodup) (hf : (rs.filter fun x => decide (farW w o x ≤ e)) = r1 :: r2 :: t) (he : e ≤ e') : showsF w rs e' o r1 r2 = true ∧ showsF w rs e' o r2 r1 = true := by
  have m1 := List.mem_filter.mp (show r1 ∈ rs.filter fun x => decide (farW w o x ≤ e) by rw [hf]; exact List.mem_cons_self)
  have m2 := List.mem_filter.mp (show r2 ∈ rs.filter fun x => decide (farW w o x ≤ e) by rw [hf]; exact List.mem_cons_of_mem _ List.mem_cons_self)
  have c1 := of_decide_eq_true m1.2
  have c2 := of_decide_eq_true m2.2
  have ne : r1 ≠ r2 := fun z => by
    have h := nd.sublist (show (r1 :: r2 :: t).Sublist rs by rw [← hf]; exact List.filter_sublist)
    rw [z] at h
    exact (List.nodup_cons.mp h).1 List.mem_cons_self
  exact ⟨decide_eq_true ⟨ne, m1.1, m2.1, by rw [oo.len, (ho _ m1.1).len], by omega, by omega⟩, decide_eq_true ⟨ne.symm, m2.1, m1.1, by rw [oo.len, (ho _ m2.1).len], by omega, by omega⟩⟩
section
variable {P : Program} {w : World} {K : PySem.W.Frag} {mg : Str → Option Value} {base : Heap}
theorem scA57 : FnScope ["way", "orders", "errors", "found", "order", "one", "other", "told", "least"] ["way", "orders", "errors", "found"] (defScope s_law_shown_right) := ⟨rfl, rfl, rfl, by decide +kernel, rfl, by decide +kernel, by decide +kernel⟩
set_option maxHeartbeats 8000000 in
theorem ok_shown57 {f f1 f2 f3 f4 : Addr} {fd d1 d2 d3 d4 : FuncData} {k : Nat} (T : Df K mg "_law_shown_right" s_law_shown_right ["way", "orders", "errors", "found"] f fd) (T_shows_not_sure : Df K mg "shows_not_sure" s_shows_not_sure ["way", "orders", "e", "thing"] f1 d1) (T_not_sure : Df K mg "not_sure" s_not_sure ["way", "orders", "e"] f2 d2) (T_led_back : Df K mg "led_back" s_led_back ["way", "order", "orders", "e"] f3 d3) (T_how_far : Df K mg "how_far" s_how_far ["way", "one", "other"] f4 d4) (G_shows_not_sure : FnOk P w K mg base CX0 k f1 d1 ["way", "orders", "e", "thing"] spShows) (G_not_sure : FnOk P w K mg base CX0 k f2 d2 ["way", "orders", "e"] spNotSure) (G_led_back : FnOk P w K mg base CX0 k f3 d3 ["way", "order", "orders", "e"] spLedBack) (G_how_far : FnOk P w K mg base CX0 k f4 d4 ["way", "one", "other"] spFar) (B : Bi mg) : FnOk P w K mg base CX0 (k + 1) f fd ["way", "orders", "errors", "found"] spShown57 := by
  refine T.F.ok scA57 (fun vs H Q E h => ?_) (fun cdv A outer s H vs Q E hr h => ?_)
  · obtain ⟨wy, l, as, rs, n, e, t, a0, a1, a2, o, r1, r2, rfl, _⟩ := h
    rfl
  · obtain ⟨wy, l, as, rs, n, e, t, a0, a1, a2, o, r1, r2, rfl, hw, hO, nd, h1, h2, hn6, he, hT, hN, q⟩ := h
    obtain ⟨mo, tl, hf⟩ := nsF_some hN
    have oo := all_ord mo
    obtain ⟨sh1, sh2⟩ := showsF_of hO.ord oo nd hf (Int.le_refl e)
    obtain ⟨sh3, _⟩ := showsF_of hO.ord oo nd hf (show e ≤ e + 1 by omega)
    have m1 := List.mem_filter.mp (show r1 ∈ rs.filter fun x => decide (farW wy o x ≤ e) by rw [hf]; exact List.mem_cons_self)
    have m2 := List.mem_filter.mp (show r2 ∈ rs.filter fun x => decide (farW wy o x ≤ e) by rw [hf]; exact List.mem_cons_of_mem _ List.mem_cons_self)
    have c1 := of_decide_eq_true m1.2
    have c2 := of_decide_eq_true m2.2
    refine ⟨_, 
      (pss_cons (ps_asg (pv 3) (pg_tup (by rfl) (pgs_cons (pg_name (i := 4) scA57.nd rfl (.inl rfl)) (pgs_cons (pg_name (i := 5) scA57.nd rfl (.inl rfl)) (pgs_cons (pg_name (i := 6) scA57.nd rfl (.inl rfl)) pgs_nil)))))
      (pss_cons (ps_if (PW.pt (pw_or (pt_not (pt_val (pe_call G_shows_not_sure hr (by rfl) T_shows_not_sure.g T_shows_not_sure.F.kp T_shows_not_sure.b .nil pass0 (pa_cons (pv 0) (pa_cons (pv 1) (pa_cons (pv 2) (pa_cons (pv 3) pa_nil))))))) (pw_or1 (pt_not (pt_val (pe_call G_shows_not_sure hr (by rfl) T_shows_not_sure.g T_shows_not_sure.F.kp T_shows_not_sure.b .nil pass0 (pa_cons (pv 0) (pa_cons (pv 1) (pa_cons (pv 2) (pa_cons (pe_tup (pa_cons (pv 4) (pa_cons (pv 6) (pa_cons (pv 5) pa_nil)))) pa_nil))))))))))
        (pss_one (ps_ret pe_bl))
        pss_nil)
      (pss_cons (ps_if (PW.pt (pw_or (pt_not (pt_val (pe_call G_shows_not_sure hr (by rfl) T_shows_not_sure.g T_shows_not_sure.F.kp T_shows_not_sure.b .nil pass0 (pa_cons (pv 0) (pa_cons (pv 1) (pa_cons (pe_op op_add (pv 2) pe_int) (pa_cons (pv 3) pa_nil))))))) (pw_or1 (pt_cmpR op_isN (pe_call G_not_sure hr (by rfl) T_not_sure.g T_not_sure.F.kp T_not_sure.b .nil pass0 (pa_cons (pv 0) (pa_cons (pv 1) (pa_cons (pe_op op_add (pv 2) pe_int) pa_nil)))) pe_non (nomark _)))))
        (pss_one (ps_ret pe_bl))
        pss_nil)
      (pss_cons (ps_set (i := 7) scA57.nd rfl (.inl rfl) (pe_call G_led_back hr (by rfl) T_led_back.g T_led_back.F.kp T_led_back.b .nil pass0 (pa_cons (pv 0) (pa_cons (pv 4) (pa_cons (pv 1) (pa_cons (pv 2) pa_nil))))))
      (pss_cons (ps_if (PW.pt (pw_or (pt_cmpR op_ne (pe_ix ix_tup (pv 7) pe_int (fun _ _ => rfl)) pe_str (nomark _)) (pw_or (pt_cmpR (op_neD hr.units) (pe_slice sl_list (pe_ix ix_tup (pv 7) pe_int (fun _ _ => rfl)) po_none (po_some pe_int)) (pe_lst (pa_cons (pv 5) (pa_cons (pv 6) pa_nil))) (nomark _)) (pw_or1 (pt_cmpR op_ge (pe_bm PySem.F.plainAttrs_list PySem.F.slot_list_index PySem.F.type_list_index (mt_idxR (units65 hr)) (pv 1) (pa_cons (pv 5) pa_nil)) (pe_bm PySem.F.plainAttrs_list PySem.F.slot_list_index PySem.F.type_list_index (mt_idxR (units65 hr)) (pv 1) (pa_cons (pv 6) pa_nil)) (nomark _))))))
        (pss_one (ps_ret pe_bl))
        pss_nil)
      (pss_cons (ps_set (i := 8) scA57.nd rfl (.inl rfl) (pe_callB (call_max2 rfl) (by rfl) B.max (by decide +kernel) (pa_cons (pe_call G_how_far hr (by rfl) T_how_far.g T_how_far.F.kp T_how_far.b .nil pass0 (pa_cons (pv 0) (pa_cons (pv 4) (pa_cons (pv 5) pa_nil)))) (pa_cons (pe_call G_how_far hr (by rfl) T_how_far.g T_how_far.F.kp T_how_far.b .nil pass0 (pa_cons (pv 0) (pa_cons (pv 4) (pa_cons (pv 6) pa_nil)))) pa_nil))))
      (pss_one (ps_ret (pe_and (pe_cmpR op_le (pv 8) (pv 2) (nomark _)) (pe_one (pe_or (pe_cmpR op_eq (pv 8) pe_int (nomark _)) (pe_one (pe_not (pe_call G_shows_not_sure hr (by rfl) T_shows_not_sure.g T_shows_not_sure.F.kp T_shows_not_sure.b .nil pass0 (pa_cons (pv 0) (pa_cons (pv 1) (pa_cons (pe_op op_sub (pv 8) pe_int) (pa_cons (pv 3) pa_nil)))))))))))))))))), ?_⟩
    refine ⟨_, rfl, t, _, rfl, .inl (.inl hT.top), rfl, _, _, rfl, _, _, rfl, _, _, rfl, rfl, ?_⟩
    refine ⟨_, rfl, _, rfl, _, rfl, _, rfl, wy, l, as, rs, n, e, t, a0, a1, a2, o, r1, r2, rfl, hw, hO, nd, h1, h2, hn6, he, hT, fun H1 s1 => ?_⟩
    rw [sh1]
    refine ⟨true, rfl, iteF ?_⟩
    have hT1 := hT.same s1
    have hO1 := hO.same s1
    refine ⟨_, rfl, _, rfl, _, rfl, _, rfl, _, rfl, _, rfl, by show 3 ≤ sizeLine; decide, fun t2 nt2 => ?_⟩
    have s2 := same_new (o := .tup [.ref a0, .ref a2, .ref a1]) nt2
    have hT2 := hT1.same s2
    refine ⟨wy, l, as, rs, n, e, t2, a0, a2, a1, o, r2, r1, rfl, hw, hO1.same s2, nd, h1, h2, hn6, he, ⟨upd_same, hT2.h0, hT2.h2, hT2.h1, hT.o0, hT.o2, hT.o1⟩, fun H3 s3 => ?_⟩
    rw [sh2]
    refine ⟨true, rfl, iteF ?_⟩
    have s13 := s1.trans (s2.trans s3)
    -- one error more
    refine ⟨_, rfl, _, rfl, _, rfl, e, 1, rfl, rfl, _, rfl, wy, l, as, rs, n, e + 1, t, a0, a1, a2, o, r1, r2, rfl, hw, hO.same s13, nd, h1, h2, hn6, by omega, hT.same s13, fun H4 s4 => ?_⟩
    rw [sh3]
    refine ⟨true, rfl, iteF ?_⟩
    have s14 := s13.trans s4
    refine ⟨_, rfl, _, rfl, _, rfl, e, 1, rfl, rfl, wy, l, as, rs, n, e + 1, rfl, hw, hO.same s14, nd, h1, h2, hn6, by omega, fun z => ?_, fun o' r1' r2' _ _ _ _ t' a0' a1' a2' H5 nt' _ _ _ _ ht' _ _ _ s5 => ?_⟩
    · exact absurd (hN.symm.trans (nsF_less (by omega) z)) (by simp)
    refine ⟨rfl, _, rfl, iteF ?_⟩
    have s15 := s14.trans s5
    -- led back
    refine ⟨_, rfl, _, rfl, _, rfl, _, rfl, wy, a0, l, as, o, rs, n, e, rfl, hw, s15 _ _ hT.h0, oo, hO.same s15, nd, h1, h2, he, fun td H6 ntd hled s6 => ?_⟩
    have s16 := s15.trans s6
    have hO6 := hO.same s16
    have hT6 := hT.same s16
    unfold thoseL at hled
    rw [hf] at hled
    rcases hled with ⟨z, _⟩ | ⟨_, _, z, _⟩ | ⟨l', as', _, _, _, _, ht6, hl6, hL6⟩
    · cases z
    · cases z
    refine ⟨_, rfl, td, _, 0, _, rfl, rfl, SqT.of ht6, rfl, rfl, _, rfl, iteNS rfl ?_⟩
    refine ⟨_, rfl, td, _, 1, _, rfl, rfl, SqT.of ht6, rfl, _, rfl, l', _, rfl, SqL.of hl6, fun c nc => ?_⟩
    rw [show (some (2 : Int)) = some ((2 : Nat) : Int) from rfl, cutV_takeN, ← List.map_take]
    have s7 := same_new (o := .lst ((as'.take 2).map V.ref)) nc
    have hT7 := hT6.same s7
    refine ⟨_, rfl, _, rfl, line_small (by show 2 ≤ 16777216; decide), fun c2 nc2 => ?_⟩
    have s8 := same_new (o := .lst [.ref a1, .ref a2]) nc2
    have s78 := s7.trans s8
    have hT8 := hT7.same s8
    have hL8 : LL _ (as'.take 2) [r1, r2] := LL.takeN 2 (hL6.same s78)
    have h2L : LL (upd (upd H6 c (.lst ((as'.take 2).map V.ref))) c2 (.lst [.ref a1, .ref a2])) [a1, a2] [r1, r2] := ⟨hT8.h1, hT8.h2, trivial⟩
    refine ⟨dLL [r1, r2], dLL [r1, r2], dp_lists (s8 _ _ upd_same) hL8, dp_lists (as := [a1, a2]) upd_same h2L, shaped_lists _, shaped_lists _, _, rfl, ?_⟩
    rw [eqv_lists]
    refine iteF ?_
    have hO8 := hO6.same s78
    obtain ⟨i, j, hij, hi, hj⟩ := two_places hf
    refine ⟨_, rfl, .inl ⟨rfl, _, SqL.of hO8.top⟩, _, rfl, l, as, rs, _, r1, i, rfl, rfl, hO8.top, hO8.ll, dp_list hT8.h1, hi, first_place nd hi, ?_⟩
    refine ⟨_, rfl, .inl ⟨rfl, _, SqL.of hO8.top⟩, _, rfl, l, as, rs, _, r2, j, rfl, rfl, hO8.top, hO8.ll, dp_list hT8.h2, hj, first_place nd hj, ?_⟩
    refine ⟨_, _, rfl, rfl, _, rfl, ite2 (fun z => absurd (of_decide_eq_true z) (by omega)) (fun _ => ?_)⟩
    -- least
    have s18 := s16.trans s78
    have hle := hO.ord r1 m1.1
    refine ⟨_, rfl, _, rfl, _, rfl, wy, a0, a1, n, o, r1, rfl, hw, hT8.h0, hT8.h1, oo, hO.ord r1 m1.1, hO.n1, hO.n2, fun H9 s9 => ?_⟩
    have hT9 := hT8.same s9
    refine ⟨_, rfl, _, rfl, _, rfl, wy, a0, a2, n, o, r2, rfl, hw, hT9.h0, hT9.h2, oo, hO.ord r2 m2.1, hO.n1, hO.n2, fun H10 s10 => ?_⟩
    refine ⟨_, _, rfl, ?_⟩
    rw [max_if57]
    have e1 : max (farW wy o r1) (farW wy o r2) ≤ e := by omega
    have e2 : (0 : Int) ≤ max (farW wy o r1) (farW wy o r2) := by have := farW_nonneg wy o r1; omega
    have e3 : showsF wy rs (max (farW wy o r1) (farW wy o r2) - 1) o r1 r2 = false := decide_eq_false fun ⟨_, _, _, _, u1, u2⟩ => by omega
    generalize max (farW wy o r1) (farW wy o r2) = m at e1 e2 e3 ⊢
    refine ⟨_, rfl, _, rfl, _, _, rfl, rfl, ?_⟩
    have s110 := s18.trans (s9.trans s10)
    have hT10 := hT9.same s10
    refine ⟨true, congrArg V.bl (decide_eq_true e1), iteT ?_⟩
    refine ⟨_, rfl, rfl, _, rfl, ite2 (fun _ => q H10 s110) (fun z => ?_)⟩
    have z1 : m ≠ 0 := fun y => z (by rw [y]; rfl)
    refine ⟨_, rfl, _, rfl, _, rfl, m, 1, rfl, rfl, _, rfl, wy, l, as, rs, n, m - 1, t, a0, a1, a2, o, r1, r2, rfl, hw, hO.same s110, nd, h1, h2, hn6, by omega, hT10, fun H11 s11 => ?_⟩
    rw [e3]
    exact ⟨false, rfl, q H11 (s110.trans s11)⟩
end
end Fo
namespace Fo
open PySem PySem.Spec PyProof.Rows L2
theorem eqv_nil57 (rs : List (List Int)) : PyData.eqv (dLL rs) (dL []) = decide (rs = []) := by
  cases rs with
  | nil => rfl
  | cons a l => simp [dLL, dL, PyData.eqv, PyData.eqvAll]
def spSure57 : Sp := fun vs H Q _ => ∃ (d : Addr) (c : Nat) (w : Str) (l : Addr) (as : List Addr) (rs : List (List Int)) (n : Nat) (e : Int), vs = [.ref d, .str w, .ref l, .int e] ∧ PoolAt H d c ∧ c < 1048576 ∧ IsWay w ∧ OL H l as rs n ∧ l ≠ d ∧ d ∉ as ∧ rs.Nodup ∧ 1 ≤ rs.length ∧ rs.length ≤ 120 ∧ n ≤ 6 ∧ 0 ≤ e ∧ nsF w rs e (allK n n) = none ∧ ∀ H', PoolAt H' d (c + 1) → KeepD d H H' → Q (.bl true) H'
/-- of a list that is sure, any two lie farther apart -/
theorem sure_far {w : Str} {n : Nat} {e : Int} {rs : List (List Int)} {i j : Nat} {x y : List Int} (hn : 1 ≤ n) (ho : ∀ r ∈ rs, IsOrd n r) (nd : rs.Nodup) (he : 0 ≤ e) (h : nsF w rs e (allK n n) = none) (hx : rs[i]? = some x) (hy : rs[j]? = some y) (hij : j < i) : ¬ farW w x y ≤ e := fun hf => by
  have mx := List.mem_of_getElem? hx
  have my := List.mem_of_getElem? hy
  have ne : x ≠ y := fun z => by
    have hi := (List.getElem?_eq_some_iff.mp hx).1
    rw [← z] at hy
    have := (List.getElem?_inj (i := j) (j := i) (by omega) nd).mp (hy.trans hx.symm)
    omega
  have h0 := nsF_none h x (ordAll57 (ho x mx))
  have f0 := farW_self (w := w) (ho x mx) hn
  have k1 : x ∈ rs.filter fun z => decide (farW w x z ≤ e) := List.mem_filter.mpr ⟨mx, decide_eq_true (by omega)⟩
  have k2 : y ∈ rs.filter fun z => decide (farW w x z ≤ e) := List.mem_filter.mpr ⟨my, decide_eq_true hf⟩
  match hr : (rs.filter fun z => decide (farW w x z ≤ e)), h0 with
  | [], _ => rw [hr] at k1; exact absurd k1 List.not_mem_nil
  | [a], _ => rw [hr] at k1 k2; exact ne ((List.mem_singleton.mp k1).trans (List.mem_singleton.mp k2).symm)
  | a :: b :: t, h0 => simp at h0
section
variable {P : Program} {w : World} {K : PySem.W.Frag} {mg : Str → Option Value} {base : Heap}
theorem scB57 : FnScope ["pool", "way", "orders", "errors", "k", "at", "less", "other"] ["pool", "way", "orders", "errors"] (defScope s_law_sure_right) := ⟨rfl, rfl, rfl, by decide +kernel, rfl, by decide +kernel, by decide +kernel⟩
set_option maxHeartbeats 8000000 in
theorem ok_sure57 {f f1 f2 f3 : Addr} {fd d1 d2 d3 : FuncData} {k : Nat} (T : Df K mg "_law_sure_right" s_law_sure_right ["pool", "way", "orders", "errors"] f fd) (T_how_far : Df K mg "how_far" s_how_far ["way", "one", "other"] f1 d1) (T_not_sure : Df K mg "not_sure" s_not_sure ["way", "orders", "e"] f2 d2) (T__law_take : Df K mg "_law_take" s_law_take ["pool", "many"] f3 d3) (G_how_far : FnOk P w K mg base CX0 k f1 d1 ["way", "one", "other"] spFar) (G_not_sure : FnOk P w K mg base CX0 k f2 d2 ["way", "orders", "e"] spNotSure) (G__law_take : FnOk P w K mg base CX0 k f3 d3 ["pool", "many"] spTake) (B : Bi mg) : FnOk P w K mg base CX0 (k + 1) f fd ["pool", "way", "orders", "errors"] spSure57 := by
  refine T.F.ok scB57 (fun vs H Q E h => ?_) (fun cdv A outer s H vs Q E hr h => ?_)
  · obtain ⟨d, c, wy, l, as, rs, n, e, rfl, _⟩ := h
    rfl
  · obtain ⟨d, c, wy, l, as, rs, n, e, rfl, P0, hc, hw, hO, ld, da, nd, h1, h2, hn6, he, hN, q⟩ := h
    have hal := hO.ll.len
    refine ⟨_, 
      (pss_cons (ps_for PassesOwn.never rfl (pi_range1 (by rfl) B.range (pa_cons (pe_callB call_len_seq (by rfl) B.len PySem.boot_len (pa_cons (pv 2) pa_nil)) pa_nil)) (pg_name (i := 4) scB57.nd rfl (.inr rfl))
        (pss_one (ps_if (pt_cmpR (op_neD hr.units) (pe_lc (own := [("other", 7)]) (g := (gName 7)) (tt := (tTest (tOp (rI0 fun i j => .bl (decide (i ≤ j))) (tCall spFar [] E0 (tCons (tVar 1) (tCons (tOp (rIxL K) (tVar 2) (tVar 4)) (tCons (tVar 7) tNil)))) (tVar 3)))) (te := (tC (.int 1))) rfl scB57.nd (pi_list (pe_slice sl_list (pv 2) po_none (po_some (pv 4)))) (blkOk_by (N := ["pool", "way", "orders", "errors", "k", "at", "less", "other"]) (sc := defScope s_law_sure_right) (by decide +kernel)) (fun _ _ _ _ _ => (pg_name (i := 7) scB57.nd rfl (.inl rfl))) (fun _ _ _ _ _ => (pts_one (pt_cmpR op_le (pe_call G_how_far hr (by rfl) T_how_far.g T_how_far.F.kp T_how_far.b .nil pass0 (pa_cons (pv 1) (pa_cons (pe_ix ix_list (pv 2) (pv 4) (fun _ _ => rfl)) (pa_cons (pv 7) pa_nil)))) (pv 3) (nomark _)))) (fun _ _ _ _ _ => pe_int)) (pe_lst pa_nil) (nomark _))
          (pss_one (ps_ret pe_bl))
          pss_nil)))
      (Evl.pss_cut (ps_if (PW.pt (pw_and (pt_cmpR op_gt (pv 3) pe_int (nomark _)) (pw_and1 (pt_cmpR op_notN (pe_call G_not_sure hr (by rfl) T_not_sure.g T_not_sure.F.kp T_not_sure.b .nil pass0 (pa_cons (pv 1) (pa_cons (pv 2) (pa_cons (pe_op op_sub (pv 3) pe_int) pa_nil)))) pe_non (nomark _)))))
        (pss_one (ps_ret pe_bl))
        pss_nil)
      (pss_cons (ps_set (i := 5) scB57.nd rfl (.inl rfl) (pe_call G__law_take hr (by rfl) T__law_take.g T__law_take.F.kp T__law_take.b .nil pass0 (pa_cons (pv 0) (pa_cons (pe_callB call_len_seq (by rfl) B.len PySem.boot_len (pa_cons (pv 2) pa_nil)) pa_nil))))
      (pss_cons (ps_set (i := 6) scB57.nd rfl (.inl rfl) (pe_op op_cat (pe_slice sl_list (pv 2) po_none (po_some (pv 5))) (pe_slice sl_list (pv 2) (po_some (pe_op op_add (pv 5) pe_int)) po_none)))
      (pss_one (ps_ret (pe_or (pe_cmpR (op_eqD hr.units) (pv 6) (pe_lst pa_nil) (nomark _)) (pe_one (pe_cmpR op_isN (pe_call G_not_sure hr (by rfl) T_not_sure.g T_not_sure.F.kp T_not_sure.b .nil pass0 (pa_cons (pv 1) (pa_cons (pv 6) (pa_cons (pv 3) pa_nil)))) pe_non (nomark _)))))))))), ?_⟩
    refine ⟨_, rfl, l, _, rfl, .inl (SqL.of hO.top), _, rfl, by rw [List.length_map]; omega, by rw [List.length_map]; omega, ?_⟩
    rw [List.length_map, Int.toNat_natCast]
    refine for_range (n := as.length) (fun i σ G => ∃ y4 y5 y6 y7, σ = [some (.ref d), some (.str wy), some (.ref l), some (.int e), y4, y5, y6, y7] ∧ Same H G) ⟨_, _, _, _, rfl, Same.refl _⟩ (fun i σ G hi hP => ?_) (fun σ G hP => ?_)
    · obtain ⟨y4, y5, y6, y7, rfl, sG⟩ := hP
      have hOG := hO.same sG
      obtain ⟨x0, ex0⟩ : ∃ x0, as[i]? = some x0 := ⟨as[i], List.getElem?_eq_getElem hi⟩
      obtain ⟨r0, er0, hx0⟩ := hOG.ll.get ex0
      refine ⟨_, rfl, _, rfl, _, rfl, l, _, rfl, SqL.of hOG.top, fun c nc => ?_⟩
      rw [Int.zero_add, cutV_takeN, ← List.map_take]
      have s1 := same_new (o := .lst ((as.take i).map V.ref)) nc
      have hO1 := hOG.same s1
      have hL1 := LL.takeN i hO1.ll
      have ltk : (as.take i).length = (rs.take i).length := hL1.len
      refine ⟨c, rfl, ⟨_, SqL.of upd_same⟩, fun D nD => ?_⟩
      refine lc_list (K := K) (a := c) (xs := (as.take i).map V.ref) (fun j C => C D = some (.lst ([].map V.int)) ∧ Same (upd G c (.lst ((as.take i).map V.ref))) C) ⟨upd_same, same_new nD⟩ (fun j C _ hP => SqL.of (hP.2 _ _ upd_same)) (fun j x C hx hP => ?_) (fun C hP => ?_)
      · obtain ⟨hD, sC⟩ := hP
        obtain ⟨a0, ea, rfl⟩ := ref_at_inv hx
        have hOC := hO1.same sC
        obtain ⟨row, er, ha⟩ := (LL.takeN i hOC.ll).get ea
        have hj : j < i := by
          have := (List.getElem?_eq_some_iff.mp ea).1
          rw [List.length_take] at this
          omega
        have er' : rs[j]? = some row := by rw [List.getElem?_take, if_pos hj] at er; exact er
        obtain ⟨r0', er0', hx0'⟩ := hOC.ll.get ex0
        obtain rfl : r0 = r0' := by rw [er0] at er0'; exact Option.some.inj er0'
        refine ⟨rfl, _, rfl, _, rfl, _, rfl, l, _, i, _, rfl, rfl, SqL.of hOC.top, at_of (j := i) rfl (ref_at ex0), _, rfl, wy, x0, a0, n, r0, row, rfl, hw, hx0', ha, hO.ord r0 (List.mem_of_getElem? er0), hO.ord row (List.mem_of_getElem? er'), hO.n1, hO.n2, fun C2 s4 => ?_⟩
        refine ⟨_, rfl, _, _, rfl, rfl, _, rfl, ite2 (fun c2 => absurd (of_decide_eq_true c2) (sure_far hO.n1 hO.ord nd he hN er0 er' hj)) (fun _ => ?_)⟩
        exact ⟨s4 _ _ hD, sC.trans s4⟩
      · obtain ⟨hD, sC⟩ := hP
        refine ⟨by decide, fun e2 ne2 => ?_⟩
        have s7 := same_new (o := .lst []) ne2
        refine ⟨dL [], dL [], dp_list (s7 _ _ hD), dp_list (ns := []) upd_same, shaped_list _, shaped_list _, _, rfl, ?_⟩
        rw [eqv_ints]
        exact iteF ⟨_, _, _, _, rfl, sG.trans (s1.trans (sC.trans s7))⟩
    obtain ⟨y4, y5, y6, y7, rfl, sG⟩ := hP
    have hOG := hO.same sG
    -- one error less
    refine ⟨fun τ G' => τ = [some (.ref d), some (.str wy), some (.ref l), some (.int e), y4, y5, y6, y7] ∧ Same G G', ?_, fun τ G' hM => ?_⟩
    · refine ⟨_, rfl, _, _, rfl, rfl, _, rfl, ite2 (fun c1 => ?_) (fun _ => ⟨rfl, Same.refl G⟩)⟩
      replace c1 := of_decide_eq_true c1
      refine ⟨_, rfl, _, rfl, _, rfl, e, 1, rfl, rfl, wy, l, as, rs, n, e - 1, rfl, hw, hOG, nd, h1, h2, hn6, by omega, fun _ G' s1 => ?_, fun o r1 r2 z => absurd ((nsF_less (by omega) hN).symm.trans z) (by simp)⟩
      exact ⟨rfl, _, rfl, iteF ⟨rfl, s1⟩⟩
    obtain ⟨rfl, s1⟩ := hM
    have sG1 := sG.trans s1
    have hO1 := hO.same sG1
    have P1 := P0.same sG1
    refine ⟨_, rfl, _, rfl, l, _, rfl, .inl (SqL.of hO1.top), d, _, _, rfl, P1, hc, by rw [List.length_map]; omega, by rw [List.length_map]; omega, fun v G2 v0 v1 P2 k2 => ?_⟩
    have hO2 := hO1.keepD k2 ld da
    have kk2 := (KeepD.of_same (d := d) sG1).trans k2
    have hal2 : as.length = rs.length := hal
    rw [List.length_map] at v1
    obtain ⟨m, rfl⟩ : ∃ m : Nat, v = (m : Int) := ⟨v.toNat, by omega⟩
    refine ⟨_, rfl, _, rfl, _, rfl, l, _, rfl, SqL.of hO2.top, fun c1 nc1 => ?_⟩
    rw [cutV_takeN, ← List.map_take]
    have t1 := same_new (o := .lst ((as.take m).map V.ref)) nc1
    refine ⟨_, rfl, _, rfl, (m : Int), 1, rfl, rfl, _, rfl, l, _, rfl, SqL.of (t1 _ _ hO2.top), fun c2 nc2 => ?_⟩
    rw [show (m : Int) + 1 = ((m + 1 : Nat) : Int) by omega, cutV_tail, ← List.map_drop]
    have t2 := same_new (o := .lst ((as.drop (m + 1)).map V.ref)) nc2
    refine ⟨c1, c2, _, _, rfl, rfl, t2 _ _ upd_same, upd_same, line_small (by rw [List.length_map, List.length_map, List.length_take, List.length_drop]; show _ ≤ 16777216; omega), fun c3 nc3 => ?_⟩
    rw [← List.map_append]
    have t3 := same_new (o := .lst ((as.take m ++ as.drop (m + 1)).map V.ref)) nc3
    have t13 := (t1.trans t2).trans t3
    have kk3 := kk2.trans (KeepD.of_same (d := d) t13)
    have P3 := P2.same t13
    have hL3 : LL _ (as.take m ++ as.drop (m + 1)) (rs.take m ++ rs.drop (m + 1)) := LL.appN (LL.takeN m (hO2.ll.same t13)) (LL.dropN (m + 1) (hO2.ll.same t13))
    have hs : (rs.take m ++ rs.drop (m + 1)).Sublist rs := by
      have : (rs.take m ++ rs.drop (m + 1)).Sublist (rs.take m ++ rs.drop m) := List.Sublist.append (List.Sublist.refl _) (by rw [← List.drop_drop]; exact List.drop_sublist 1 _)
      rw [List.take_append_drop] at this
      exact this
    have hN3 := nsF_sub hs hN
    have hnd3 := nd.sublist hs
    have hord3 : ∀ r ∈ rs.take m ++ rs.drop (m + 1), IsOrd n r := fun r hr => hO.ord r (hs.subset hr)
    have hlen3 := hs.length_le
    generalize rs.take m ++ rs.drop (m + 1) = ss at hL3 hs hN3 hnd3 hord3 hlen3
    generalize as.take m ++ as.drop (m + 1) = bs at *
    have hc3 : upd (upd (upd G2 c1 (.lst ((as.take m).map V.ref))) c2 (.lst ((as.drop (m + 1)).map V.ref))) c3 (.lst (bs.map V.ref)) c3 = some (.lst (bs.map V.ref)) := upd_same
    generalize upd (upd (upd G2 c1 (.lst ((as.take m).map V.ref))) c2 (.lst ((as.drop (m + 1)).map V.ref))) c3 (.lst (bs.map V.ref)) = G3 at *
    refine ⟨_, rfl, by decide, fun c4 nc4 => ?_⟩
    have t4 := same_new (o := .lst []) nc4
    have kk4 := kk3.trans (KeepD.of_same (d := d) t4)
    have P4 := P3.same t4
    refine ⟨dLL ss, dL [], dp_lists (t4 _ _ hc3) (hL3.same t4), dp_list (ns := []) upd_same, shaped_lists _, shaped_list _, _, rfl, ?_⟩
    rw [eqv_nil57]
    refine ite2 (fun _ => q _ P4 kk4) (fun z => ?_)
    have hne : 1 ≤ ss.length := by
      cases ss with
      | nil => exact absurd (decide_eq_true rfl) z
      | cons _ _ => exact Nat.succ_le_succ (Nat.zero_le _)
    refine ⟨_, rfl, _, rfl, _, rfl, wy, c3, bs, ss, n, e, rfl, hw, ⟨t4 _ _ hc3, hL3.same t4, hord3, hO.n1, hO.n2⟩, hnd3, hne, by omega, hn6, he, fun _ G5 s5 => ?_, fun o r1 r2 z => absurd (hN3.symm.trans z) (by simp)⟩
    exact ⟨rfl, q _ (P4.same s5) (kk4.trans (KeepD.of_same s5))⟩
end
end Fo
namespace Fo
open PySem PySem.Spec PyProof.Rows L2
def spApart57 (Pt : Addr) : Sp := fun vs H Q _ => ∃ (d : Addr) (c : Nat) (w : Str) (n : Nat), vs = [.ref d, .str w, .int n] ∧ PoolAt H d c ∧ c + 200 < 1048576 ∧ IsWay w ∧ 1 ≤ n ∧ n ≤ 5 ∧ GxR.TabG H Pt ∧ ∀ H', PoolAt H' d (c + 200) → KeepTD d H H' → Q (.bl true) H'
theorem KeepTD.r0 (d : Addr) (H : Hp) : KeepTD d H H := ⟨fun _ _ e _ _ => e, fun _ q e _ => ⟨q, e, id⟩⟩
theorem KeepTD.drw {d : Addr} {H0 H H' : Hp} (k : KeepTD d H0 H) (s : KeepD d H H') : KeepTD d H0 H' := by
  refine ⟨fun b o e n f => s _ _ (k.1 b o e n f) n, fun b q e n => ?_⟩
  obtain ⟨q', e', t⟩ := k.2 b q e n
  exact ⟨q', s _ _ e' n, t⟩
theorem KeepTD.sm {d : Addr} {H0 H H' : Hp} (k : KeepTD d H0 H) (s : Same H H') : KeepTD d H0 H' := k.drw (KeepD.of_same s)
theorem KeepTD.kt {d : Addr} {H0 H H' : Hp} (k : KeepTD d H0 H) (s : KeepT H H') : KeepTD d H0 H' := by
  refine ⟨fun b o e n f => s.1 b o (k.1 b o e n f) f, fun b q e n => ?_⟩
  obtain ⟨q', e', t⟩ := k.2 b q e n
  obtain ⟨q2, e2, t2⟩ := s.2 b q' e'
  exact ⟨q2, e2, fun h => t2 (t h)⟩
theorem KeepTD.tb {d : Addr} {c : Nat} {H H' : Hp} (k : KeepTD d H H') (P0 : PoolAt H d c) {P : Addr} (t : GxR.TabG H P) : GxR.TabG H' P := by
  obtain ⟨q, e, r⟩ := t
  obtain ⟨_, _, _, ed, _⟩ := P0
  obtain ⟨q', e', t'⟩ := k.2 P q e (fun z => by rw [z, ed] at e; cases e)
  exact ⟨q', e', t' r⟩
theorem KeepTD.lst {d : Addr} {H H' : Hp} (k : KeepTD d H H') {p : Addr} {xs : List V} (e : H p = some (.lst xs)) (n : p ≠ d) : H' p = some (.lst xs) := k.1 p _ e n (fun q z => by cases z)
theorem PoolAt.kt {d : Addr} {c : Nat} {H H' : Hp} (P : PoolAt H d c) (s : KeepT H H') : PoolAt H' d c := by
  obtain ⟨a, b, t, e, r⟩ := P
  exact ⟨a, b, t, s.lst e, r⟩
theorem KeepTD.tr {d : Addr} {H0 H H' : Hp} (k : KeepTD d H0 H) (s : KeepTD d H H') : KeepTD d H0 H' := by
  refine ⟨fun b o e n f => s.1 b o (k.1 b o e n f) n f, fun b q e n => ?_⟩
  obtain ⟨q', e', t⟩ := k.2 b q e n
  obtain ⟨q2, e2, t2⟩ := s.2 b q' e' n
  exact ⟨q2, e2, fun h => t2 (t h)⟩
theorem KeepTD.ov {d : Addr} {H0 H H' : Hp} (t : KeepT H0 H) (k : KeepTD d H H') (nD : H0 d = none) : KeepT H0 H' := by
  refine ⟨fun b o e f => k.1 b o (t.1 b o e f) (fun z => by rw [z, nD] at e; cases e) f, fun b q e => ?_⟩
  obtain ⟨q', e', u⟩ := t.2 b q e
  obtain ⟨q2, e2, u2⟩ := k.2 b q' e' (fun z => by rw [z, nD] at e; cases e)
  exact ⟨q2, e2, fun h => u2 (u h)⟩
theorem LL.keep' {H H' : Hp} : ∀ {as : List Addr} {rs : List (List Int)}, LL H as rs → (∀ a ∈ as, ∀ xs, H a = some (.lst xs) → H' a = some (.lst xs)) → LL H' as rs
  | [], [], _, _ => trivial
  | _ :: _, _ :: _, h, k => ⟨k _ List.mem_cons_self _ h.1, LL.keep' h.2 fun b m => k b (List.mem_cons_of_mem _ m)⟩
  | [], _ :: _, h, _ => h.elim
  | _ :: _, [], h, _ => h.elim
theorem OL.keepTD {H H' : Hp} {l d : Addr} {as : List Addr} {rs : List (List Int)} {n : Nat} (h : OL H l as rs n) (s : KeepTD d H H') (nl : l ≠ d) (na : d ∉ as) : OL H' l as rs n :=
  ⟨s.lst h.top nl, LL.keep' h.ll fun a ha xs e => s.lst e (fun q => na (by rw [← q]; exact ha)), h.ord, h.n1, h.n2⟩
theorem shaped_one57 (o : List Int) : SeqAt.shaped (.tuple [.str "one", dL o]) = true := by
  unfold SeqAt.shaped
  rw [Bool.and_eq_true_iff]
  constructor
  · have h := SeqAt.canLay_of_shaped (shaped_list o)
    have h2 : PyData.canLay0 (.str "one") = true := by decide +kernel
    simp only [PyData.canLay0, PyData.canLayAll0, Bool.and_eq_true, Bool.and_true, Bool.true_and] at h h2 ⊢
    exact ⟨h2, h⟩
  · apply decide_eq_true
    have h := depth_list o
    simp only [PyData.depth, PyData.depthAll] at h ⊢
    omega
section
variable {P : Program} {w : World} {K : PySem.W.Frag} {mg : Str → Option Value} {base : Heap}
theorem scC57 : FnScope ["pool", "way", "n", "d", "errors", "orders", "turn", "one", "order"] ["pool", "way", "n"] (defScope s_law_apart_right) := ⟨rfl, rfl, rfl, by decide +kernel, rfl, by decide +kernel, by decide +kernel⟩
set_option maxHeartbeats 8000000 in
theorem ok_apart57 {f f1 f2 f3 f4 f5 f6 Pt : Addr} {fd d1 d2 d3 d4 d5 d6 : FuncData} {k : Nat} (T : Df K mg "_law_apart_right" s_law_apart_right ["pool", "way", "n"] f fd) (T__law_take : Df K mg "_law_take" s_law_take ["pool", "many"] f1 d1) (T_first_apart : Df K mg "first_apart" s_first_apart ["way", "n", "d"] f2 d2) (T_not_sure : Df K mg "not_sure" s_not_sure ["way", "orders", "e"] f3 d3) (T__law_near : Df K mg "_law_near" s_law_near ["pool", "order"] f4 d4) (T_how_far : Df K mg "how_far" s_how_far ["way", "one", "other"] f5 d5) (T_led_back : Df K mg "led_back" s_led_back ["way", "order", "orders", "e"] f6 d6) (G__law_take : FnOk P w K mg base CX0 k f1 d1 ["pool", "many"] spTake) (G_first_apart : FnOk P w K mg base CX0 k f2 d2 ["way", "n", "d"] (spFirst Pt)) (G_not_sure : FnOk P w K mg base CX0 k f3 d3 ["way", "orders", "e"] spNotSure) (G__law_near : FnOk P w K mg base CX0 k f4 d4 ["pool", "order"] spNearP) (G_how_far : FnOk P w K mg base CX0 k f5 d5 ["way", "one", "other"] spFar) (G_led_back : FnOk P w K mg base CX0 k f6 d6 ["way", "order", "orders", "e"] spLedBack) (B : Bi mg) : FnOk P w K mg base CX0 (k + 1) f fd ["pool", "way", "n"] (spApart57 Pt) := by
  refine T.F.ok scC57 (fun vs H Q E h => ?_) (fun cdv A outer s H vs Q E hr h => ?_)
  · obtain ⟨d, c, wy, n, rfl, _⟩ := h
    rfl
  · obtain ⟨d, c, wy, n, rfl, P0, hc, hw, hn1, hn5, ht, q⟩ := h
    refine ⟨_, 
      (pss_cons (ps_set (i := 3) scC57.nd rfl (.inl rfl) (pe_op op_add pe_int (pe_call G__law_take hr (by rfl) T__law_take.g T__law_take.F.kp T__law_take.b .nil pass0 (pa_cons (pv 0) (pa_cons pe_int pa_nil)))))
      (pss_cons (ps_set (i := 4) scC57.nd rfl (.inl rfl) (pe_op op_fdiv (pe_op op_sub (pv 3) pe_int) pe_int))
      (pss_cons (ps_set (i := 5) scC57.nd rfl (.inl rfl) (pe_call G_first_apart hr (by rfl) T_first_apart.g T_first_apart.F.kp T_first_apart.b .nil pass0 (pa_cons (pv 1) (pa_cons (pv 2) (pa_cons (pv 3) pa_nil)))))
      (pss_cons (ps_if (pt_cmpR op_notN (pe_call G_not_sure hr (by rfl) T_not_sure.g T_not_sure.F.kp T_not_sure.b .nil pass0 (pa_cons (pv 1) (pa_cons (pv 5) (pa_cons (pv 4) pa_nil)))) pe_non (nomark _))
        (pss_one (ps_ret pe_bl))
        pss_nil)
      (pss_cons (ps_for PassesOwn.never rfl (pi_range1 (by rfl) B.range (pa_cons pe_int pa_nil)) (pg_name (i := 6) scC57.nd rfl (.inl rfl))
        (pss_cons (ps_set (i := 7) scC57.nd rfl (.inl rfl) (pe_ix ix_list (pv 5) (pe_call G__law_take hr (by rfl) T__law_take.g T__law_take.F.kp T__law_take.b .nil pass0 (pa_cons (pv 0) (pa_cons (pe_callB call_len_seq (by rfl) B.len PySem.boot_len (pa_cons (pv 5) pa_nil)) pa_nil))) (fun _ _ => rfl)))
        (pss_cons (ps_set (i := 8) scC57.nd rfl (.inl rfl) (pe_call G__law_near hr (by rfl) T__law_near.g T__law_near.F.kp T__law_near.b .nil pass0 (pa_cons (pv 0) (pa_cons (pv 7) pa_nil))))
        (pss_one (ps_if (PW.pt (pw_and (pt_cmpR op_le (pe_call G_how_far hr (by rfl) T_how_far.g T_how_far.F.kp T_how_far.b .nil pass0 (pa_cons (pv 1) (pa_cons (pv 8) (pa_cons (pv 7) pa_nil)))) (pv 4) (nomark _)) (pw_and1 (pt_cmpR (op_neD hr.units) (pe_call G_led_back hr (by rfl) T_led_back.g T_led_back.F.kp T_led_back.b .nil pass0 (pa_cons (pv 1) (pa_cons (pv 8) (pa_cons (pv 5) (pa_cons (pv 4) pa_nil))))) (pe_tup (pa_cons pe_str (pa_cons (pv 7) pa_nil))) (nomark _)))))
          (pss_one (ps_ret pe_bl))
          pss_nil)))))
      (pss_one (ps_ret pe_bl))))))), ?_⟩
    refine ⟨_, rfl, d, 6, _, rfl, P0, by omega, by decide, by decide, fun v H1 v0 v1 P1 k1 => ?_⟩
    obtain ⟨D, rfl⟩ : ∃ D : Nat, v = (D : Int) := ⟨v.toNat, by omega⟩
    refine ⟨1, _, rfl, rfl, ?_⟩
    have k01 := (KeepTD.r0 d H).drw k1
    have t1 := k01.tb P0 ht
    obtain ⟨er, her, her0, her2⟩ : ∃ er : Int, (1 + (D : Int) - 1) / 2 = er ∧ 0 ≤ er ∧ 2 * er < 1 + (D : Int) := ⟨_, rfl, by omega, by omega⟩
    refine ⟨_, rfl, _, _, rfl, rfl, _, 2, rfl, rfl, ⟨by decide, by decide⟩, ?_⟩
    show gName 4 (V.int ((1 + (D : Int) - 1) / 2)) _ _ _
    rw [her]
    refine ⟨_, rfl, _, rfl, _, rfl, wy, n, 1 + (D : Int), rfl, hw, hn1, by omega, by omega, t1, fun l as H2 nl hl hLL hfr hnda k2 => ?_⟩
    have u0 : ∀ o ∈ firstL wy (1 + (D : Int)) (allK n n), IsOrd n o := fun o m => all_ord (firstL_subset _ _ _ m)
    have uA := upA_first wy (1 + (D : Int)) (allK n n)
    have und := nodup_upA hn1 u0 (by omega) uA
    have ul1 : 1 ≤ (firstL wy (1 + (D : Int)) (allK n n)).length := by
      match hk : allK n n with
      | [] => exact absurd (ordAll57 (show IsOrd n (rg n) from List.Perm.refl _)) (by rw [hk]; exact List.not_mem_nil)
      | o :: os => exact firstL_one
    have ul2 : (firstL wy (1 + (D : Int)) (allK n n)).length ≤ 120 := by
      have h := (firstL_sub wy (1 + (D : Int)) (allK n n) (allK n n).length (Nat.le_refl _)).length_le
      rw [List.take_length] at h
      refine Nat.le_trans h ?_
      have : ∀ m, m ≤ 5 → (allK m m).length ≤ 120 := by decide +kernel
      exact this n hn5
    have ld : l ≠ d := P1.ne nl
    have da : d ∉ as := fun m => by
      obtain ⟨_, _, _, e, _⟩ := P1
      rw [(hfr d m).1] at e
      cases e
    generalize firstL wy (1 + (D : Int)) (allK n n) = rs at hLL u0 uA und ul1 ul2
    have hO2 : OL H2 l as rs n := ⟨hl, hLL, u0, hn1, by omega⟩
    have k02 := k01.kt k2
    have P2 := P1.kt k2
    have hN := nsF_apart hw hn1 u0 uA her2
    refine ⟨_, rfl, _, rfl, _, rfl, wy, l, as, rs, n, er, rfl, hw, hO2, und, ul1, ul2, by omega, her0, fun _ H3 s3 => ?_, fun o r1 r2 z => absurd (hN.symm.trans z) (by simp)⟩
    refine ⟨rfl, _, rfl, iteF ?_⟩
    have hO3 := hO2.same s3
    have P3 := P2.same s3
    have k03 := k02.sm s3
    have hal := hLL.len
    refine ⟨4, rfl, by decide, by decide, ?_⟩
    refine for_range (n := 4) (fun i σ G => ∃ y6 y7 y8, σ = [some (.ref d), some (.str wy), some (.int n), some (.int (1 + (D : Int))), some (.int er), some (.ref l), y6, y7, y8] ∧ PoolAt G d (c + 1 + 30 * i) ∧ OL G l as rs n ∧ KeepTD d H G) ⟨_, _, _, rfl, P3, hO3, k03⟩ (fun i σ G hi hP => ?_) (fun σ G hP => ?_)
    · obtain ⟨y6, y7, y8, rfl, PG, hOG, kG⟩ := hP
      have hi4 : i < 4 := hi
      refine ⟨_, rfl, _, rfl, _, rfl, l, _, rfl, .inl (SqL.of hOG.top), d, _, _, rfl, PG, by omega, by rw [List.length_map]; omega, by rw [List.length_map]; omega, fun v G1 v0 v1 P4 k4 => ?_⟩
      rw [List.length_map] at v1
      have hO4 := hOG.keepD k4 ld da
      obtain ⟨m, rfl⟩ : ∃ m : Nat, v = (m : Int) := ⟨v.toNat, by omega⟩
      obtain ⟨x0, ex0⟩ : ∃ x0, as[m]? = some x0 := ⟨as[m]'(by omega), List.getElem?_eq_getElem (by omega)⟩
      obtain ⟨x, ex, hx⟩ := hO4.ll.get ex0
      have mx := List.mem_of_getElem? ex
      have x0d : x0 ≠ d := fun z => da (by rw [← z]; exact List.mem_of_getElem? ex0)
      refine ⟨l, _, _, _, rfl, rfl, SqL.of hO4.top, at_of (j := m) rfl (ref_at ex0), ?_⟩
      refine ⟨_, rfl, _, rfl, d, x0, n, _, x, rfl, P4, hx, u0 x mx, hn1, by omega, by omega, fun ms lo G2 oms nlo hlo lod P5 k5 => ?_⟩
      have hO5 := hO4.keepD k5 ld da
      have hx5 := k5 _ _ hx x0d
      have k05 := (kG.drw k4).drw k5
      refine ⟨_, rfl, _, rfl, _, rfl, wy, lo, x0, n, ms, x, rfl, hw, hlo, hx5, oms, u0 x mx, hn1, by omega, fun G3 s6 => ?_⟩
      have hO6 := hO5.same s6
      have P6 := P5.same s6
      have k06 := k05.sm s6
      refine ⟨_, rfl, _, _, rfl, rfl, _, rfl, ite2 (fun c1 => ?_) (fun _ => ⟨_, _, _, rfl, P6.mono (by omega), hO6, k06⟩)⟩
      replace c1 := of_decide_eq_true c1
      refine ⟨_, rfl, _, rfl, _, rfl, _, rfl, wy, lo, l, as, ms, rs, n, er, rfl, hw, s6 _ _ hlo, oms, hO6, und, ul1, ul2, her0, fun t G4 nt hled s7 => ?_⟩
      unfold thoseL at hled
      rw [led_one hw hn1 u0 uA her2 (by omega) oms mx c1] at hled
      rcases hled with ⟨z, _⟩ | ⟨x', c', z, _, ht', hc'⟩ | ⟨_, _, z, _⟩
      · cases z
      rotate_left
      · exact absurd z (by simp)
      obtain rfl : x = x' := by cases z; rfl
      have hx7 := (s6.trans s7) _ _ hx5
      refine ⟨_, rfl, by show 2 ≤ sizeLine; decide, fun t2 nt2 => ?_⟩
      have s8 := same_new (o := .tup [.str "one", .ref x0]) nt2
      have s68 := s7.trans s8
      refine ⟨_, _, .tup (SqT.of (s8 _ _ ht')) (.cons (.str "one") (.cons (dp_list (s8 _ _ hc')) .nil)), .tup (SqT.of upd_same) (.cons (.str "one") (.cons (dp_list (s8 _ _ hx7)) .nil)), shaped_one57 x, shaped_one57 x, _, rfl, ?_⟩
      rw [SeqAt.eqv_refl _ (SeqAt.canLay_of_shaped (shaped_one57 x))]
      exact iteF ⟨_, _, _, rfl, (P6.same s68).mono (by omega), hO6.same s68, k06.sm s68⟩
    obtain ⟨y6, y7, y8, rfl, PG, hOG, kG⟩ := hP
    exact q _ (PG.mono (by omega)) kG
end
end Fo
namespace Fo
open PySem PySem.Spec PyProof.Rows L2
theorem max_if (i j : Int) : (if j > i then j else i) = max i j := by split <;> omega
theorem min_if (i j : Int) : (if j < i then j else i) = min i j := by split <;> omega
def spLaw (K : PySem.W.Frag) (Pt : Addr) : Sp := fun vs H Q _ => ∃ (a : Addr) (ns : List Int), vs = [.ref a] ∧ SqL K H a (ns.map V.int) ∧ ns.length ≤ 63 ∧ GxR.TabG H Pt ∧ ∀ H', Q (.bl true) H'
section
variable {P : Program} {w : World} {K : PySem.W.Frag} {mg : Str → Option Value} {base : Heap}
theorem scLaw : FnScope ["script", "k", "pool", "n", "orders", "errors", "way", "found"] ["script"] (defScope s_law) := ⟨rfl, rfl, rfl, by decide +kernel, rfl, by decide +kernel, by decide +kernel⟩
set_option maxHeartbeats 8000000 in
theorem ok_law {f f1 f2 f3 f4 f5 f6 f7 f8 f9 Pt : Addr} {fd d1 d2 d3 d4 d5 d6 d7 d8 d9 : FuncData} (T : Fun K "law" "law" s_law f fd) (T__law_pool : Df K mg "_law_pool" s_law_pool ["script", "k"] f1 d1) (T__law_take : Df K mg "_law_take" s_law_take ["pool", "many"] f2 d2) (T__law_orders : Df K mg "_law_orders" s_law_orders ["pool", "n", "most"] f3 d3) (T__law_ways : Df K mg "_law_ways" s_law_ways [] f4 d4) (T_not_sure : Df K mg "not_sure" s_not_sure ["way", "orders", "e"] f5 d5) (T__law_sure_right : Df K mg "_law_sure_right" s_law_sure_right ["pool", "way", "orders", "errors"] f6 d6) (T__law_shown_right : Df K mg "_law_shown_right" s_law_shown_right ["way", "orders", "errors", "found"] f7 d7) (T_lies_apart : Df K mg "lies_apart" s_lies_apart ["way", "n", "d", "thing"] f8 d8) (T__law_apart_right : Df K mg "_law_apart_right" s_law_apart_right ["pool", "way", "n"] f9 d9)
    (G__law_pool : FnOk P w K mg base CX0 12 f1 d1 ["script", "k"] (spPool K)) (G__law_take : FnOk P w K mg base CX0 12 f2 d2 ["pool", "many"] spTake) (G__law_orders : FnOk P w K mg base CX0 12 f3 d3 ["pool", "n", "most"] spOrders) (G__law_ways : FnOk P w K mg base CX0 12 f4 d4 [] spWays) (G_not_sure : FnOk P w K mg base CX0 12 f5 d5 ["way", "orders", "e"] spNotSure) (G__law_sure_right : FnOk P w K mg base CX0 12 f6 d6 ["pool", "way", "orders", "errors"] spSure57) (G__law_shown_right : FnOk P w K mg base CX0 12 f7 d7 ["way", "orders", "errors", "found"] spShown57) (G_lies_apart : FnOk P w K mg base CX0 12 f8 d8 ["way", "n", "d", "thing"] (spLies Pt)) (G__law_apart_right : FnOk P w K mg base CX0 12 f9 d9 ["pool", "way", "n"] (spApart57 Pt))
    (B : Bi mg) : FnOk P w K mg base CX0 13 f fd ["script"] (spLaw K Pt) := by
  refine T.ok scLaw (fun vs H Q E h => ?_) (fun cdv A outer s H vs Q E hr h => ?_)
  · obtain ⟨a, ns, rfl, _⟩ := h
    rfl
  · obtain ⟨a, ns, rfl, hS, hlen, ht, q⟩ := h
    have hlm : (ns.map V.int).length = ns.length := List.length_map _
    refine ⟨_, 
      (pss_cons (ps_for PassesOwn.never rfl (pi_range1 (by rfl) B.range (pa_cons (pe_callB (call_max2 rfl) (by rfl) B.max (by decide +kernel) (pa_cons pe_int (pa_cons (pe_callB (call_min2 rfl) (by rfl) B.min (by decide +kernel) (pa_cons pe_int (pa_cons (pe_callB call_len_seq (by rfl) B.len PySem.boot_len (pa_cons (pv 0) pa_nil)) pa_nil))) pa_nil))) pa_nil)) (pg_name (i := 1) scLaw.nd rfl (.inl rfl))
        (pss_cons (ps_set (i := 2) scLaw.nd rfl (.inl rfl) (pe_call G__law_pool hr (by rfl) T__law_pool.g T__law_pool.F.kp T__law_pool.b .nil pass0 (pa_cons (pv 0) (pa_cons (pv 1) pa_nil))))
        (Evl.pss_cut (ps_set (i := 3) scLaw.nd rfl (.inl rfl) (pe_op op_add pe_int (pe_call G__law_take hr (by rfl) T__law_take.g T__law_take.F.kp T__law_take.b .nil pass0 (pa_cons (pv 2) (pa_cons (pe_ix ix_list (pe_lst (pa_cons pe_int (pa_cons pe_int pa_nil))) (pe_callTy call_int1 (by rfl) B.int (by decide +kernel) (pa_cons (pe_cmpR op_gt (pv 1) pe_int (nomark _)) pa_nil)) (fun _ _ => rfl)) pa_nil)))))
        (pss_cons (ps_set (i := 4) scLaw.nd rfl (.inl rfl) (pe_call G__law_orders hr (by rfl) T__law_orders.g T__law_orders.F.kp T__law_orders.b .nil pass0 (pa_cons (pv 2) (pa_cons (pv 3) (pa_cons pe_int pa_nil)))))
        (pss_cons (ps_set (i := 5) scLaw.nd rfl (.inl rfl) (pe_call G__law_take hr (by rfl) T__law_take.g T__law_take.F.kp T__law_take.b .nil pass0 (pa_cons (pv 2) (pa_cons pe_int pa_nil))))
        (pss_cons (ps_for PassesOwn.never rfl (pi_list (pe_call0 G__law_ways hr (by rfl) T__law_ways.g T__law_ways.F.kp T__law_ways.b .nil pass0)) (pg_name (i := 6) scLaw.nd rfl (.inl rfl))
          (Evl.pss_cut (ps_set (i := 7) scLaw.nd rfl (.inl rfl) (pe_call G_not_sure hr (by rfl) T_not_sure.g T_not_sure.F.kp T_not_sure.b .nil pass0 (pa_cons (pv 6) (pa_cons (pv 4) (pa_cons (pv 5) pa_nil)))))
          (Evl.pss_cut (ps_if (PW.pt (pw_and (pt_cmpR op_isN (pv 7) pe_non (nomark _)) (pw_and1 (pt_not (pt_val (pe_call G__law_sure_right hr (by rfl) T__law_sure_right.g T__law_sure_right.F.kp T__law_sure_right.b .nil pass0 (pa_cons (pv 2) (pa_cons (pv 6) (pa_cons (pv 4) (pa_cons (pv 5) pa_nil))))))))))
            (pss_one (ps_ret pe_bl))
            pss_nil)
          (Evl.pss_cut (ps_if (PW.pt (pw_and (pt_cmpR op_notN (pv 7) pe_non (nomark _)) (pw_and1 (pt_not (pt_val (pe_call G__law_shown_right hr (by rfl) T__law_shown_right.g T__law_shown_right.F.kp T__law_shown_right.b .nil pass0 (pa_cons (pv 6) (pa_cons (pv 4) (pa_cons (pv 5) (pa_cons (pv 7) pa_nil))))))))))
            (pss_one (ps_ret pe_bl))
            pss_nil)
          (Evl.pss_cut (ps_if (PW.pt (pw_and (pt_cmpR op_notN (pv 7) pe_non (nomark _)) (pw_and1 (pt_val (pe_call G_lies_apart hr (by rfl) T_lies_apart.g T_lies_apart.F.kp T_lies_apart.b .nil pass0 (pa_cons (pv 6) (pa_cons (pv 3) (pa_cons (pe_op op_add (pe_op op_mul pe_int (pv 5)) pe_int) (pa_cons (pv 4) pa_nil)))))))))
            (pss_one (ps_ret pe_bl))
            pss_nil)
          (pss_one (ps_if (pt_cmpR op_notN (pe_call G_not_sure hr (by rfl) T_not_sure.g T_not_sure.F.kp T_not_sure.b .nil pass0 (pa_cons (pv 6) (pa_cons (pe_slice sl_list (pv 4) po_none (po_some pe_int)) (pa_cons (pv 5) pa_nil)))) pe_non (nomark _))
            (pss_one (ps_ret pe_bl))
            pss_nil)))))))
        (pss_one (ps_if (pt_not (pt_val (pe_call G__law_apart_right hr (by rfl) T__law_apart_right.g T__law_apart_right.F.kp T__law_apart_right.b .nil pass0 (pa_cons (pv 2) (pa_cons (pe_ix ix_list (pe_call0 G__law_ways hr (by rfl) T__law_ways.g T__law_ways.F.kp T__law_ways.b .nil pass0) (pe_call G__law_take hr (by rfl) T__law_take.g T__law_take.F.kp T__law_take.b .nil pass0 (pa_cons (pv 2) (pa_cons pe_int pa_nil))) (fun _ _ => rfl)) (pa_cons (pv 3) pa_nil))))))
          (pss_one (ps_ret pe_bl))
          pss_nil))))))))
      (pss_one (ps_ret pe_bl))), ?_⟩
    refine ⟨_, rfl, a, _, rfl, .inl hS, _, _, rfl, _, _, rfl, ?_⟩
    rw [max_if, min_if, hlm]
    refine ⟨_, rfl, by omega, by omega, ?_⟩
    generalize hN : (max 1 (min 6 ((ns.length : Nat) : Int))).toNat = N
    have hN2 : N ≤ 6 := by omega
    refine for_range (n := N) (fun i σ H1 => ∃ y1 y2 y3 y4 y5 y6 y7, σ = [some (.ref a), y1, y2, y3, y4, y5, y6, y7] ∧ KeepT H H1) ⟨_, _, _, _, _, _, _, rfl, KeepT.refl H⟩ (fun i σ H1 hi hW => ?_) (fun σ H1 hW => ?_)
    · obtain ⟨y1, y2, y3, y4, y5, y6, y7, rfl, kT⟩ := hW
      refine ⟨_, rfl, _, rfl, a, ns, i, by rw [Int.zero_add]; rfl, kT.seq hS, hlen, by omega, fun d H2 nd P2 s2 => ?_⟩
      have k2 := kT.trans (KeepT.of_same s2)
      have nHd : H d = none := kT.free nd
      -- n
      refine ⟨fun τ G => ∃ n : Nat, 1 ≤ n ∧ n ≤ 5 ∧ τ = [some (.ref a), some (.int (0 + (i : Int))), some (.ref d), some (.int n), y4, y5, y6, y7] ∧ PoolAt G d 5001 ∧ KeepD d H2 G, ?_, fun τ G hM => ?_⟩
      · refine ⟨_, rfl, line_small (by show 2 ≤ 16777216; decide), fun t2 nt2 => ?_⟩
        have u3 := same_new (o := .lst [.int 4, .int 3]) nt2
        have ht2 : (upd H2 t2 (.lst [.int 4, .int 3])) t2 = some (.lst [.int 4, .int 3]) := upd_same
        obtain ⟨gr, hgr, g0, g4⟩ : ∃ gr : Int, atI [V.int 4, V.int 3] (if decide (0 < (0 : Int) + (i : Int)) = true then 1 else 0) = some (V.int gr) ∧ 0 < gr ∧ gr ≤ 4 := by
          by_cases c : decide (0 < (0 : Int) + (i : Int)) = true
          · rw [if_pos c]; exact ⟨3, rfl, by decide, by decide⟩
          · rw [if_neg c]; exact ⟨4, rfl, by decide, by decide⟩
        refine ⟨_, rfl, _, 0, rfl, rfl, .inr ⟨_, rfl, t2, _, _, _, rfl, rfl, SqL.of ht2, hgr, ?_⟩⟩
        refine ⟨d, gr, 5000, rfl, P2.same u3, by decide, g0, by omega, fun v G v0 v1 P3 k3 => ?_⟩
        obtain ⟨m, rfl⟩ : ∃ m : Nat, v = (m : Int) := ⟨v.toNat, by omega⟩
        refine ⟨2, _, rfl, rfl, 2 + m, by omega, by omega, ?_, P3, (KeepD.of_same u3).trans k3⟩
        show _ = [some (V.ref a), some (V.int (0 + (i : Int))), some (V.ref d), some (V.int ((2 + m : Nat) : Int)), y4, y5, y6, y7]
        rw [show ((2 + m : Nat) : Int) = 2 + (m : Int) by omega]
        rfl
      obtain ⟨n, hn1, hn5, rfl, P3, k3⟩ := hM
      have nG := KeepTD.drw (KeepTD.r0 d H2) k3
      refine ⟨_, rfl, _, rfl, d, n, 10, _, rfl, P3, hn1, by omega, by decide, by decide, by decide, fun l as rs H4 hO4 nd4 h1 h2 nl nas nld nda nla P4 k4 => ?_⟩
      refine ⟨_, rfl, d, 4, _, rfl, P4, by decide, by decide, by decide, fun e H5 e0 e1 P5 k5 => ?_⟩
      have hO5 := hO4.keepD k5 nld nda
      have k25 := (nG.drw k4).drw k5
      have hal := hO5.ll.len
      refine ⟨rfl, fun wl nwl => ?_⟩
      have u6 := same_new (o := .lst [.str "swap", .str "spot", .str "shift"]) nwl
      have hw0 : (upd H5 wl (.lst [.str "swap", .str "spot", .str "shift"])) wl = some (.lst [.str "swap", .str "spot", .str "shift"]) := upd_same
      have wld := P5.ne nwl
      refine ⟨wl, rfl, ⟨_, SqL.of hw0⟩, ?_⟩
      refine for_list (xs := [.str "swap", .str "spot", .str "shift"]) (fun r σ A => ∃ z6 z7, σ = [some (.ref a), some (.int (0 + (i : Int))), some (.ref d), some (.int n), some (.ref l), some (.int e), z6, z7] ∧ PoolAt A d (45010 + r) ∧ KeepTD d (upd H5 wl (.lst [.str "swap", .str "spot", .str "shift"])) A) ⟨_, _, rfl, (P5.same u6).mono (by decide), KeepTD.r0 _ _⟩ (fun r σ A _ hP => by obtain ⟨_, _, _, _, kA⟩ := hP; exact SqL.of (kA.lst hw0 wld)) (fun r x σ A hx hP => ?_) (fun σ A hP => ?_)
      · obtain ⟨z6, z7, rfl, PA, kA⟩ := hP
        obtain ⟨wy, hwy, rfl⟩ : ∃ wy : Str, IsWay wy ∧ x = .str wy := by
          match r, hx with
          | 0, hx => exact ⟨_, .inl rfl, (Option.some.inj hx).symm⟩
          | 1, hx => exact ⟨_, .inr (.inl rfl), (Option.some.inj hx).symm⟩
          | 2, hx => exact ⟨_, .inr (.inr rfl), (Option.some.inj hx).symm⟩
        have hr3 : r < 3 := (List.getElem?_eq_some_iff.mp hx).1
        have hOA := (hO5.same u6).keepTD kA nld nda
        have htA := kA.tb (P5.same u6) ((k25.sm u6).tb P2 (k2.tab ht))
        refine ⟨fun τ G => ∃ fv, τ = [some (.ref a), some (.int (0 + (i : Int))), some (.ref d), some (.int n), some (.ref l), some (.int e), some (.str wy), some fv] ∧ Same A G ∧ ((fv = .non ∧ nsF wy rs e (allK n n) = none) ∨ ∃ t a0 a1 a2 o r1 r2, fv = .ref t ∧ TrAt G t a0 a1 a2 o r1 r2 ∧ nsF wy rs e (allK n n) = some (o, r1, r2)), ?_, fun τ G hM => ?_⟩
        · refine ⟨_, rfl, _, rfl, _, rfl, wy, l, as, rs, n, e, rfl, hwy, hOA, nd4, h1, by omega, by omega, e0, fun hN G sG => ⟨_, rfl, sG, .inl ⟨rfl, hN⟩⟩, fun o r1 r2 hN oo m1 m2 t a0 a1 a2 G _ _ _ _ _ ht' b0 b1 b2 sG => ⟨_, rfl, sG, .inr ⟨t, a0, a1, a2, o, r1, r2, rfl, ⟨ht', b0, b1, b2, ⟨n, oo, hn1, by omega⟩, ⟨n, hOA.ord _ m1, hn1, by omega⟩, ⟨n, hOA.ord _ m2, hn1, by omega⟩⟩, hN⟩⟩⟩
        obtain ⟨fv, rfl, sG, hfv⟩ := hM
        have hOG := hOA.same sG
        have PG := PA.same sG
        have kG := kA.sm sG
        -- the first test
        refine ⟨fun τ G' => τ = [some (.ref a), some (.int (0 + (i : Int))), some (.ref d), some (.int n), some (.ref l), some (.int e), some (.str wy), some fv] ∧ PoolAt G' d (45010 + (r + 1)) ∧ KeepD d G G' ∧ (fv ≠ .non → G' = G), ?_, fun τ G' hM => ?_⟩
        · rcases hfv with ⟨rfl, hN⟩ | ⟨t, a0, a1, a2, o, r1, r2, rfl, hT, hN⟩
          · refine ⟨_, rfl, rfl, _, rfl, ite2 (fun _ => ?_) (fun c => absurd rfl c)⟩
            refine ⟨_, rfl, _, rfl, _, rfl, _, rfl, d, _, wy, l, as, rs, n, e, rfl, PG, by omega, hwy, hOG, nld, nda, nd4, h1, by omega, by omega, e0, hN, fun G' P' k' => ⟨true, rfl, iteF ?_⟩⟩
            exact ⟨rfl, P', k', fun z => absurd rfl z⟩
          · refine ⟨_, rfl, rfl, _, rfl, iteF ?_⟩
            exact ⟨rfl, PG.mono (by omega), KeepD.refl d G, fun _ => rfl⟩
        obtain ⟨rfl, P1', kD', hsame⟩ := hM
        have hOG' := hOG.keepD kD' nld nda
        have kG' := kG.drw kD'
        -- the second
        refine ⟨fun τ G'' => τ = [some (.ref a), some (.int (0 + (i : Int))), some (.ref d), some (.int n), some (.ref l), some (.int e), some (.str wy), some fv] ∧ Same G' G'', ?_, fun τ G'' hM => ?_⟩
        · rcases hfv with ⟨rfl, hN⟩ | ⟨t, a0, a1, a2, o, r1, r2, rfl, hT, hN⟩
          · refine ⟨_, rfl, rfl, _, rfl, iteF ?_⟩
            exact ⟨rfl, Same.refl _⟩
          · obtain rfl := hsame (by simp)
            refine ⟨_, rfl, rfl, _, rfl, ite2 (fun _ => ?_) (fun c => absurd rfl c)⟩
            refine ⟨_, rfl, _, rfl, _, rfl, _, rfl, wy, l, as, rs, n, e, t, a0, a1, a2, o, r1, r2, rfl, hwy, hOG', nd4, h1, by omega, by omega, e0, hT, hN, fun G'' s'' => ⟨true, rfl, iteF ?_⟩⟩
            exact ⟨rfl, s''⟩
        obtain ⟨rfl, s2'⟩ := hM
        have hOG2 := hOG'.same s2'
        have P2' := P1'.same s2'
        have kG2 := kG'.sm s2'
        have htG := kG2.tb (P5.same u6) ((k25.sm u6).tb P2 (k2.tab ht))
        -- the third
        refine ⟨fun τ G3 => τ = [some (.ref a), some (.int (0 + (i : Int))), some (.ref d), some (.int n), some (.ref l), some (.int e), some (.str wy), some fv] ∧ KeepT G'' G3, ?_, fun τ G3 hM => ?_⟩
        · rcases hfv with ⟨rfl, hN⟩ | ⟨t, a0, a1, a2, o, r1, r2, rfl, hT, hN⟩
          · refine ⟨_, rfl, rfl, _, rfl, iteF ?_⟩
            exact ⟨rfl, KeepT.refl _⟩
          · refine ⟨_, rfl, rfl, _, rfl, ite2 (fun _ => ?_) (fun c => absurd rfl c)⟩
            refine ⟨_, rfl, _, rfl, _, rfl, 2, e, rfl, rfl, .inl ⟨by omega, by omega⟩, _, 1, rfl, rfl, _, rfl, wy, 2 * e + 1, l, as, rs, n, rfl, hwy, by omega, hOG2, by omega, htG, fun b G3 hb k3' => ⟨b, rfl, ?_⟩⟩
            cases b with
            | true => exact absurd (hN.symm.trans (nsF_apart hwy hn1 hOG2.ord (hb rfl) (by omega))) (by simp)
            | false => exact iteF ⟨rfl, k3'⟩
        obtain ⟨rfl, k3'⟩ := hM
        have kG3 := kG2.kt k3'
        have P3' := P2'.kt k3'
        have hO3 : OL G3 l as rs n := (hO5.same u6).keepTD kG3 nld nda
        -- one order alone
        refine ⟨_, rfl, _, rfl, _, rfl, l, _, rfl, SqL.of hO3.top, fun c nc => ?_⟩
        rw [show (some (1 : Int)) = some ((1 : Nat) : Int) from rfl, cutV_takeN, ← List.map_take]
        have s7 := same_new (o := .lst ((as.take 1).map V.ref)) nc
        have hL7 := LL.takeN 1 (hO3.ll.same s7)
        have hN7 : nsF wy (rs.take 1) e (allK n n) = none := nsF_none_of fun o _ => Nat.le_trans (List.length_filter_le _ _) (by rw [List.length_take]; omega)
        refine ⟨_, rfl, wy, c, as.take 1, rs.take 1, n, e, rfl, hwy, ⟨upd_same, hL7, fun r m => hO3.ord r (List.mem_of_mem_take m), hn1, by omega⟩, nd4.sublist (List.take_sublist _ _), by rw [List.length_take]; omega, by rw [List.length_take]; omega, by omega, e0, fun _ G8 s8 => ?_, fun o r1 r2 z => absurd (hN7.symm.trans z) (by simp)⟩
        have s78 := s7.trans s8
        exact ⟨rfl, _, rfl, iteF ⟨_, _, rfl, P3'.same s78, kG3.sm s78⟩⟩
      · obtain ⟨z6, z7, rfl, PA, kA⟩ := hP
        have kAll := (k25.sm u6)
        have PA' : PoolAt A d 45013 := PA
        -- the list that lies apart
        refine ⟨_, rfl, rfl, fun w2 nw2 => ?_⟩
        have u8 := same_new (o := .lst [.str "swap", .str "spot", .str "shift"]) nw2
        have hw8 : (upd A w2 (.lst [.str "swap", .str "spot", .str "shift"])) w2 = some (.lst [.str "swap", .str "spot", .str "shift"]) := upd_same
        have w2d := PA'.ne nw2
        refine ⟨_, rfl, d, 3, _, rfl, PA'.same u8, by decide, by decide, by decide, fun v G9 v0 v1 P9 k9 => ?_⟩
        obtain ⟨wy, ez, hwy⟩ : ∃ z : Str, atI [V.str "swap", V.str "spot", V.str "shift"] v = some (.str z) ∧ IsWay z := by
          rcases (show v = 0 ∨ v = 1 ∨ v = 2 by omega) with rfl | rfl | rfl
          · exact ⟨_, rfl, .inl rfl⟩
          · exact ⟨_, rfl, .inr (.inl rfl)⟩
          · exact ⟨_, rfl, .inr (.inr rfl)⟩
        refine ⟨w2, _, _, _, rfl, rfl, SqL.of (k9 _ _ hw8 w2d), ez, ?_⟩
        have kA9 := (kA.sm u8).drw k9
        have ht9 := kA9.tb (P5.same u6) (kAll.tb P2 (k2.tab ht))
        refine ⟨_, rfl, d, _, wy, n, rfl, P9, by decide, hwy, hn1, hn5, ht9, fun G10 P10 k10 => ⟨true, rfl, iteF ?_⟩⟩
        refine ⟨_, _, _, _, _, _, _, rfl, KeepTD.ov k2 ((kAll.tr kA9).tr k10) nHd⟩
    · obtain ⟨y1, y2, y3, y4, y5, y6, y7, rfl, kT⟩ := hW
      exact q _
end
end Fo
namespace Fo
open PySem PySem.Spec PyProof.Rows L2
/-! the end of a law that reaches tables of code objects -/
theorem tab_code {K : PySem.W.Frag} {x : Str} {c P f : Addr} {oc : Value} {od : Option Addr} {fd : FuncData} {osl : Array (Option Value)} (t : PySem.W.tabIn K x = some (c, P)) (a : PySem.W.nsIn K mainGlobals x = some (some (.ref f))) (l : K.lookup f = some ⟨oc, od, .func fd, osl⟩) : fd.code = .ref c := by
  unfold PySem.W.tabIn at t
  rw [a] at t
  simp only [l] at t
  split at t
  · rename_i c' e
    rw [e]
    split at t
    · split at t
      · cases t
        rfl
      · cases t
    · cases t
  · cases t
theorem tab_mk {K : PySem.W.Frag} {x : Str} {c P f : Addr} {oc o2 cd : Value} {od d2 : Option Addr} {osl s2 : Array (Option Value)} {nm ql : Str} {ar : Arguments} {bd : List Stmt} {sc : Scope} {dV kV dc pm ct : Value} {an : Option Addr} {vs : Array Value}
    (a : PySem.W.nsIn K mainGlobals x = some (some (.ref f))) (l : K.lookup f = some ⟨oc, od, .func (PySem.W.fnOf nm ql ar bd sc dV kV dc pm an cd ct), osl⟩) (e : cd = .ref c) (u : K.lookup c = some ⟨o2, d2, .fields vs, s2⟩) (v : vs[11]? = some (.ref P)) : PySem.W.tabIn K x = some (c, P) := by
  subst e
  have hc : (PySem.W.fnOf nm ql ar bd sc dV kV dc pm an (.ref c) ct).code = .ref c := rfl
  unfold PySem.W.tabIn
  rw [a]
  simp only [l, hc, u, v]
def TabsOf (q : Program) (K : PySem.W.Frag) (h : Heap) : Prop := ∀ (y : Str) (c P : Addr), ((recsOf q).any fun e => e.name == y) = true → PySem.W.tabIn K y = some (c, P) → PySem.W.CodeHd h c P ∧ h.get? P = some { cls := .none, data := .fields #[] }
theorem walk_tab {l : PySem.W.OpenLaw} {n k : Nat} {q : Program} {loose : List Str} {XP : (Str → Option Value) → Heap → Prop} {YP : World → Heap → Prop} {d : DefRec} {K : Params → PySem.W.Frag} {CX : World → CXT} {x : Str}
    (hn : l.most = some n) (hn2 : n ≤ sizeLine) (hdf : d.params.defaults = []) (hr : Room k callerA) (hY : ∀ (w : World) (h : Heap), YP w h → (K w.params).In h)
    (F : ∀ (w : World) (mg : Str → Option Value) (fa : Addr) (h : Heap), (K w.params).In h → h.Ns mainGlobals mg → mg d.name = some (.ref fa) → TabsOf q (K w.params) h → LamX.LawAtS l w (K w.params) (CX w) k n x mg fa h)
    (hX : ∀ (w : World) (H : Hp) (s : Shared) (e : Value) (s' : Shared), CX w [] H s (fun _ _ _ => False) e s' → False) :
    PySem.W.WalkO q loose XP YP l.row.toRowW d [] (fun f vs => PySem.call f vs) := by
  refine Att.attach_callB hn hdf fun w sA sB mg mb fa o1 pm cd dc ad us ns G Y ho hd hcd hmg hob hin hle hbi hge => ?_
  have KX := hY w _ Y
  have tabs : TabsOf q (K w.params) sB.heap := fun y c P hy ht => by
    obtain ⟨e, he⟩ := Option.isSome_iff_exists.mp ((List.find?_isSome (p := fun e : DefRec => e.name == y) (xs := recsOf q)).mpr (by
      obtain ⟨z, z1, z2⟩ := List.any_eq_true.mp hy
      exact ⟨z, z1, z2⟩))
    exact PySem.W.tab_of G.T KX he ht
  obtain ⟨fd, cs, sp, hT, nT, C, hb, hsp, hF⟩ := F w mg fa _ KX G.T.g hmg tabs
  exact LamX.law_callTs KX G.T.g G.T.b G.T.builtins G.T.nolimit hge hT nT C G.T.bmain hob hin (Nat.le_trans hle hn2) hr hF hb (fun H hH hS => hsp H ad ns hle hbi hH hS) fun H e s' => hX w H sB e s'
end Fo
--LEVEL 13
--TABS is_far
--LAWCALL ok_law F_law T__law_pool T__law_take T__law_orders T__law_ways T_not_sure T__law_sure_right T__law_shown_right T_lies_apart T__law_apart_right (ok_pool (k := 11) T__law_pool B) (ok_take (k := 11) T__law_take B) (ok_orders (k := 11) T__law_orders T__law_take T__law_order T__law_near T__law_many (ok_take (k := 10) T__law_take B) (ok_ordP (k := 10) T__law_order T__law_take (ok_take (k := 9) T__law_take B) B) (ok_nearP (k := 10) T__law_near T__law_take (ok_take (k := 9) T__law_take B) B) (ok_many (k := 10) T__law_many B) B) (ok_ways (k := 11) T__law_ways B) (ok_notsure (k := 11) T_not_sure T_check_sure T_all_orders T_those_within (ok_sure (k := 10) T_check_sure T_check_unlike_list T_check_way T_check_listed T_check_from (ok_cunl (k := 9) T_check_unlike_list T_is_unlike_list (ok_unl (k := 8) T_is_unlike_list T_is_order_list (ok_olst (k := 7) T_is_order_list T_is_order (ok_is_order (k := 5) T_is_order T_is_whole B m_MOST_THINGS) B) B) B m_MOST_ORDERS) (ok_way (k := 9) T_check_way m_WAYS B) (ok_listed (k := 9) T_check_listed B m_MOST_LISTED) (ok_from (k := 8) T_check_from T_is_whole B) B) (ok_all_orders (k := 9) T_all_orders T_orders_with B) (ok_thoseN (k := 10) T_those_within T_known_far (ok_known (k := 9) T_known_far T_far_by_swap T_far_by_spot T_far_by_shift (ok_swap (k := 8) T_far_by_swap T_seats_in (ok_seats (k := 6) T_seats_in T_places_in B) B) (ok_spot (k := 8) T_far_by_spot B) (ok_shift (k := 8) T_far_by_shift T_seats_in (ok_seats (k := 6) T_seats_in T_places_in B) B)) B) B) (ok_sure57 (k := 11) T__law_sure_right T_how_far T_not_sure T__law_take (ok_far (k := 10) T_how_far T_check_orders T_check_way T_check_fit T_known_far (ok_checks (k := 9) T_check_orders T_check_order (ok_check (k := 6) T_check_order T_is_order T_is_whole B m_MOST_THINGS)) (ok_way (k := 9) T_check_way m_WAYS B) (ok_fit (k := 9) T_check_fit B) (ok_known (k := 9) T_known_far T_far_by_swap T_far_by_spot T_far_by_shift (ok_swap (k := 8) T_far_by_swap T_seats_in (ok_seats (k := 6) T_seats_in T_places_in B) B) (ok_spot (k := 8) T_far_by_spot B) (ok_shift (k := 8) T_far_by_shift T_seats_in (ok_seats (k := 6) T_seats_in T_places_in B) B))) (ok_notsure (k := 10) T_not_sure T_check_sure T_all_orders T_those_within (ok_sure (k := 9) T_check_sure T_check_unlike_list T_check_way T_check_listed T_check_from (ok_cunl (k := 8) T_check_unlike_list T_is_unlike_list (ok_unl (k := 7) T_is_unlike_list T_is_order_list (ok_olst (k := 6) T_is_order_list T_is_order (ok_is_order (k := 4) T_is_order T_is_whole B m_MOST_THINGS) B) B) B m_MOST_ORDERS) (ok_way (k := 8) T_check_way m_WAYS B) (ok_listed (k := 8) T_check_listed B m_MOST_LISTED) (ok_from (k := 7) T_check_from T_is_whole B) B) (ok_all_orders (k := 8) T_all_orders T_orders_with B) (ok_thoseN (k := 9) T_those_within T_known_far (ok_known (k := 8) T_known_far T_far_by_swap T_far_by_spot T_far_by_shift (ok_swap (k := 7) T_far_by_swap T_seats_in (ok_seats (k := 5) T_seats_in T_places_in B) B) (ok_spot (k := 7) T_far_by_spot B) (ok_shift (k := 7) T_far_by_shift T_seats_in (ok_seats (k := 5) T_seats_in T_places_in B) B)) B) B) (ok_take (k := 10) T__law_take B) B) (ok_shown57 (k := 11) T__law_shown_right T_shows_not_sure T_not_sure T_led_back T_how_far (ok_shows (k := 10) T_shows_not_sure T_check_three T_check_sure T_those_within (ok_three (k := 9) T_check_three T_is_order (ok_is_order (k := 7) T_is_order T_is_whole B m_MOST_THINGS) B) (ok_sure (k := 9) T_check_sure T_check_unlike_list T_check_way T_check_listed T_check_from (ok_cunl (k := 8) T_check_unlike_list T_is_unlike_list (ok_unl (k := 7) T_is_unlike_list T_is_order_list (ok_olst (k := 6) T_is_order_list T_is_order (ok_is_order (k := 4) T_is_order T_is_whole B m_MOST_THINGS) B) B) B m_MOST_ORDERS) (ok_way (k := 8) T_check_way m_WAYS B) (ok_listed (k := 8) T_check_listed B m_MOST_LISTED) (ok_from (k := 7) T_check_from T_is_whole B) B) (ok_those (k := 9) T_those_within T_known_far (ok_known (k := 8) T_known_far T_far_by_swap T_far_by_spot T_far_by_shift (ok_swap (k := 7) T_far_by_swap T_seats_in (ok_seats (k := 5) T_seats_in T_places_in B) B) (ok_spot (k := 7) T_far_by_spot B) (ok_shift (k := 7) T_far_by_shift T_seats_in (ok_seats (k := 5) T_seats_in T_places_in B) B)) B) B) (ok_notsure (k := 10) T_not_sure T_check_sure T_all_orders T_those_within (ok_sure (k := 9) T_check_sure T_check_unlike_list T_check_way T_check_listed T_check_from (ok_cunl (k := 8) T_check_unlike_list T_is_unlike_list (ok_unl (k := 7) T_is_unlike_list T_is_order_list (ok_olst (k := 6) T_is_order_list T_is_order (ok_is_order (k := 4) T_is_order T_is_whole B m_MOST_THINGS) B) B) B m_MOST_ORDERS) (ok_way (k := 8) T_check_way m_WAYS B) (ok_listed (k := 8) T_check_listed B m_MOST_LISTED) (ok_from (k := 7) T_check_from T_is_whole B) B) (ok_all_orders (k := 8) T_all_orders T_orders_with B) (ok_thoseN (k := 9) T_those_within T_known_far (ok_known (k := 8) T_known_far T_far_by_swap T_far_by_spot T_far_by_shift (ok_swap (k := 7) T_far_by_swap T_seats_in (ok_seats (k := 5) T_seats_in T_places_in B) B) (ok_spot (k := 7) T_far_by_spot B) (ok_shift (k := 7) T_far_by_shift T_seats_in (ok_seats (k := 5) T_seats_in T_places_in B) B)) B) B) (ok_ledback (k := 10) T_led_back T_check_led T_check_from T_those_within (ok_led (k := 9) T_check_led T_check_order T_check_unlike_list T_check_way T_check_fit (ok_check (k := 6) T_check_order T_is_order T_is_whole B m_MOST_THINGS) (ok_cunl (k := 8) T_check_unlike_list T_is_unlike_list (ok_unl (k := 7) T_is_unlike_list T_is_order_list (ok_olst (k := 6) T_is_order_list T_is_order (ok_is_order (k := 4) T_is_order T_is_whole B m_MOST_THINGS) B) B) B m_MOST_ORDERS) (ok_way (k := 8) T_check_way m_WAYS B) (ok_fit (k := 8) T_check_fit B) B) (ok_from (k := 8) T_check_from T_is_whole B) (ok_those (k := 9) T_those_within T_known_far (ok_known (k := 8) T_known_far T_far_by_swap T_far_by_spot T_far_by_shift (ok_swap (k := 7) T_far_by_swap T_seats_in (ok_seats (k := 5) T_seats_in T_places_in B) B) (ok_spot (k := 7) T_far_by_spot B) (ok_shift (k := 7) T_far_by_shift T_seats_in (ok_seats (k := 5) T_seats_in T_places_in B) B)) B) B) (ok_far (k := 10) T_how_far T_check_orders T_check_way T_check_fit T_known_far (ok_checks (k := 9) T_check_orders T_check_order (ok_check (k := 6) T_check_order T_is_order T_is_whole B m_MOST_THINGS)) (ok_way (k := 9) T_check_way m_WAYS B) (ok_fit (k := 9) T_check_fit B) (ok_known (k := 9) T_known_far T_far_by_swap T_far_by_spot T_far_by_shift (ok_swap (k := 8) T_far_by_swap T_seats_in (ok_seats (k := 6) T_seats_in T_places_in B) B) (ok_spot (k := 8) T_far_by_spot B) (ok_shift (k := 8) T_far_by_shift T_seats_in (ok_seats (k := 6) T_seats_in T_places_in B) B))) B) (ok_lies (k := 11) T_lies_apart T_check_apart T_is_order_list T_are_far (ok_apart (k := 8) T_check_apart T_check_way T_check_size T_check_from T_is_whole m_WAYS B) (ok_olst (k := 10) T_is_order_list T_is_order (ok_is_order (k := 8) T_is_order T_is_whole B m_MOST_THINGS) B) (ok_areFar (k := 10) T_are_far T_is_far (ok_isFar (k := 8) T_is_far TB_is_far T_known_far (ok_known (k := 7) T_known_far T_far_by_swap T_far_by_spot T_far_by_shift (ok_swap (k := 6) T_far_by_swap T_seats_in (ok_seats (k := 4) T_seats_in T_places_in B) B) (ok_spot (k := 6) T_far_by_spot B) (ok_shift (k := 6) T_far_by_shift T_seats_in (ok_seats (k := 4) T_seats_in T_places_in B) B)) B) B) B m_MOST_THINGS) (ok_apart57 (k := 11) T__law_apart_right T__law_take T_first_apart T_not_sure T__law_near T_how_far T_led_back (ok_take (k := 10) T__law_take B) (ok_first (k := 10) T_first_apart T_check_apart T_all_orders T_is_far (ok_apart (k := 7) T_check_apart T_check_way T_check_size T_check_from T_is_whole m_WAYS B) (ok_all_orders (k := 8) T_all_orders T_orders_with B) (ok_isFar (k := 8) T_is_far TB_is_far T_known_far (ok_known (k := 7) T_known_far T_far_by_swap T_far_by_spot T_far_by_shift (ok_swap (k := 6) T_far_by_swap T_seats_in (ok_seats (k := 4) T_seats_in T_places_in B) B) (ok_spot (k := 6) T_far_by_spot B) (ok_shift (k := 6) T_far_by_shift T_seats_in (ok_seats (k := 4) T_seats_in T_places_in B) B)) B) B m_MOST_LISTED) (ok_notsure (k := 10) T_not_sure T_check_sure T_all_orders T_those_within (ok_sure (k := 9) T_check_sure T_check_unlike_list T_check_way T_check_listed T_check_from (ok_cunl (k := 8) T_check_unlike_list T_is_unlike_list (ok_unl (k := 7) T_is_unlike_list T_is_order_list (ok_olst (k := 6) T_is_order_list T_is_order (ok_is_order (k := 4) T_is_order T_is_whole B m_MOST_THINGS) B) B) B m_MOST_ORDERS) (ok_way (k := 8) T_check_way m_WAYS B) (ok_listed (k := 8) T_check_listed B m_MOST_LISTED) (ok_from (k := 7) T_check_from T_is_whole B) B) (ok_all_orders (k := 8) T_all_orders T_orders_with B) (ok_thoseN (k := 9) T_those_within T_known_far (ok_known (k := 8) T_known_far T_far_by_swap T_far_by_spot T_far_by_shift (ok_swap (k := 7) T_far_by_swap T_seats_in (ok_seats (k := 5) T_seats_in T_places_in B) B) (ok_spot (k := 7) T_far_by_spot B) (ok_shift (k := 7) T_far_by_shift T_seats_in (ok_seats (k := 5) T_seats_in T_places_in B) B)) B) B) (ok_nearP (k := 10) T__law_near T__law_take (ok_take (k := 9) T__law_take B) B) (ok_far (k := 10) T_how_far T_check_orders T_check_way T_check_fit T_known_far (ok_checks (k := 9) T_check_orders T_check_order (ok_check (k := 6) T_check_order T_is_order T_is_whole B m_MOST_THINGS)) (ok_way (k := 9) T_check_way m_WAYS B) (ok_fit (k := 9) T_check_fit B) (ok_known (k := 9) T_known_far T_far_by_swap T_far_by_spot T_far_by_shift (ok_swap (k := 8) T_far_by_swap T_seats_in (ok_seats (k := 6) T_seats_in T_places_in B) B) (ok_spot (k := 8) T_far_by_spot B) (ok_shift (k := 8) T_far_by_shift T_seats_in (ok_seats (k := 6) T_seats_in T_places_in B) B))) (ok_ledback (k := 10) T_led_back T_check_led T_check_from T_those_within (ok_led (k := 9) T_check_led T_check_order T_check_unlike_list T_check_way T_check_fit (ok_check (k := 6) T_check_order T_is_order T_is_whole B m_MOST_THINGS) (ok_cunl (k := 8) T_check_unlike_list T_is_unlike_list (ok_unl (k := 7) T_is_unlike_list T_is_order_list (ok_olst (k := 6) T_is_order_list T_is_order (ok_is_order (k := 4) T_is_order T_is_whole B m_MOST_THINGS) B) B) B m_MOST_ORDERS) (ok_way (k := 8) T_check_way m_WAYS B) (ok_fit (k := 8) T_check_fit B) B) (ok_from (k := 8) T_check_from T_is_whole B) (ok_those (k := 9) T_those_within T_known_far (ok_known (k := 8) T_known_far T_far_by_swap T_far_by_spot T_far_by_shift (ok_swap (k := 7) T_far_by_swap T_seats_in (ok_seats (k := 5) T_seats_in T_places_in B) B) (ok_spot (k := 7) T_far_by_spot B) (ok_shift (k := 7) T_far_by_shift T_seats_in (ok_seats (k := 5) T_seats_in T_places_in B) B)) B) B) B) B
namespace Fo
open PySem PySem.Spec PyProof.Rows L2
set_option maxHeartbeats 8000000 in
theorem all_mk {l : PySem.W.OpenLaw} {w : World} {K : PySem.W.Frag} {h : Heap} {mg : Str → Option Value} {fa : Addr} (X : K.In h) (G : h.Ns mainGlobals mg) (hfa : mg "law" = some (.ref fa))
    {f0 f1 f2 f3 f4 f5 f6 f7 f8 f9 f10 f11 f12 f13 f14 f15 f16 f17 f18 f19 f20 f21 f22 f23 f24 f25 f26 f27 f28 f29 f30 f31 f32 f33 f34 f35 f36 f37 f38 f39 f40 f41 f42 f43 : Addr} {od0 an0 od1 an1 od2 an2 od3 an3 od4 an4 od5 an5 od6 an6 od7 an7 od8 an8 od9 an9 od10 an10 od11 an11 od12 an12 od13 an13 od14 an14 od15 an15 od16 an16 od17 an17 od18 an18 od19 an19 od20 an20 od21 an21 od22 an22 od23 an23 od24 an24 od25 an25 od26 an26 od27 an27 od28 an28 od29 an29 od30 an30 od31 an31 od32 an32 od33 an33 od34 an34 od35 an35 od36 an36 od37 an37 od38 an38 od39 an39 od40 an40 od41 an41 od42 an42 od43 an43 : Option Addr} {sl0 sl1 sl2 sl3 sl4 sl5 sl6 sl7 sl8 sl9 sl10 sl11 sl12 sl13 sl14 sl15 sl16 sl17 sl18 sl19 sl20 sl21 sl22 sl23 sl24 sl25 sl26 sl27 sl28 sl29 sl30 sl31 sl32 sl33 sl34 sl35 sl36 sl37 sl38 sl39 sl40 sl41 sl42 sl43 : Array (Option Value)} {oc0 kV0 dc0 pm0 cd0 ct0 oc1 kV1 dc1 pm1 cd1 ct1 oc2 kV2 dc2 pm2 cd2 ct2 oc3 kV3 dc3 pm3 cd3 ct3 oc4 kV4 dc4 pm4 cd4 ct4 oc5 kV5 dc5 pm5 cd5 ct5 oc6 kV6 dc6 pm6 cd6 ct6 oc7 kV7 dc7 pm7 cd7 ct7 oc8 kV8 dc8 pm8 cd8 ct8 oc9 kV9 dc9 pm9 cd9 ct9 oc10 kV10 dc10 pm10 cd10 ct10 oc11 kV11 dc11 pm11 cd11 ct11 oc12 kV12 dc12 pm12 cd12 ct12 oc13 kV13 dc13 pm13 cd13 ct13 oc14 kV14 dc14 pm14 cd14 ct14 oc15 kV15 dc15 pm15 cd15 ct15 oc16 kV16 dc16 pm16 cd16 ct16 oc17 kV17 dc17 pm17 cd17 ct17 oc18 kV18 dc18 pm18 cd18 ct18 oc19 kV19 dc19 pm19 cd19 ct19 oc20 kV20 dc20 pm20 cd20 ct20 oc21 kV21 dc21 pm21 cd21 ct21 oc22 kV22 dc22 pm22 cd22 ct22 oc23 kV23 dc23 pm23 cd23 ct23 oc24 kV24 dc24 pm24 cd24 ct24 oc25 kV25 dc25 pm25 cd25 ct25 oc26 kV26 dc26 pm26 cd26 ct26 oc27 kV27 dc27 pm27 cd27 ct27 oc28 kV28 dc28 pm28 cd28 ct28 oc29 kV29 dc29 pm29 cd29 ct29 oc30 kV30 dc30 pm30 cd30 ct30 oc31 kV31 dc31 pm31 cd31 ct31 oc32 kV32 dc32 pm32 cd32 ct32 oc33 kV33 dc33 pm33 cd33 ct33 oc34 kV34 dc34 pm34 cd34 ct34 oc35 kV35 dc35 pm35 cd35 ct35 oc36 kV36 dc36 pm36 cd36 ct36 oc37 kV37 dc37 pm37 cd37 ct37 oc38 kV38 dc38 pm38 cd38 ct38 oc39 kV39 dc39 pm39 cd39 ct39 oc40 kV40 dc40 pm40 cd40 ct40 oc41 kV41 dc41 pm41 cd41 ct41 oc42 kV42 dc42 pm42 cd42 ct42 oc43 kV43 dc43 pm43 cd43 ct43 : Value} {tk_MOST_THINGS tk_MOST_LISTED tk_MOST_ORDERS : Tok} {aW : Addr} {ddW : Option Addr} {nW : Nat} {tW1 tW2 tW3 : Tok} {slW : Array (Option Value)}
    (a0 : PySem.W.nsIn K mainGlobals "is_whole" = some (some (.ref f0))) (l0 : K.lookup f0 = some ⟨oc0, od0, .func (PySem.W.fnOf "is_whole" "is_whole" (defArgs s_is_whole) (defBody s_is_whole) (defScope s_is_whole) .none kV0 dc0 pm0 an0 cd0 ct0), sl0⟩) (c0 : PySem.W.codeIn K cd0 "is_whole" = true) (k0 : PySem.W.keepIn K (.ref f0) = true)
    (a1 : PySem.W.nsIn K mainGlobals "check_way" = some (some (.ref f1))) (l1 : K.lookup f1 = some ⟨oc1, od1, .func (PySem.W.fnOf "check_way" "check_way" (defArgs s_check_way) (defBody s_check_way) (defScope s_check_way) .none kV1 dc1 pm1 an1 cd1 ct1), sl1⟩) (c1 : PySem.W.codeIn K cd1 "check_way" = true) (k1 : PySem.W.keepIn K (.ref f1) = true)
    (a2 : PySem.W.nsIn K mainGlobals "check_from" = some (some (.ref f2))) (l2 : K.lookup f2 = some ⟨oc2, od2, .func (PySem.W.fnOf "check_from" "check_from" (defArgs s_check_from) (defBody s_check_from) (defScope s_check_from) .none kV2 dc2 pm2 an2 cd2 ct2), sl2⟩) (c2 : PySem.W.codeIn K cd2 "check_from" = true) (k2 : PySem.W.keepIn K (.ref f2) = true)
    (a3 : PySem.W.nsIn K mainGlobals "check_size" = some (some (.ref f3))) (l3 : K.lookup f3 = some ⟨oc3, od3, .func (PySem.W.fnOf "check_size" "check_size" (defArgs s_check_size) (defBody s_check_size) (defScope s_check_size) .none kV3 dc3 pm3 an3 cd3 ct3), sl3⟩) (c3 : PySem.W.codeIn K cd3 "check_size" = true) (k3 : PySem.W.keepIn K (.ref f3) = true)
    (a4 : PySem.W.nsIn K mainGlobals "check_apart" = some (some (.ref f4))) (l4 : K.lookup f4 = some ⟨oc4, od4, .func (PySem.W.fnOf "check_apart" "check_apart" (defArgs s_check_apart) (defBody s_check_apart) (defScope s_check_apart) .none kV4 dc4 pm4 an4 cd4 ct4), sl4⟩) (c4 : PySem.W.codeIn K cd4 "check_apart" = true) (k4 : PySem.W.keepIn K (.ref f4) = true)
    (a5 : PySem.W.nsIn K mainGlobals "is_order" = some (some (.ref f5))) (l5 : K.lookup f5 = some ⟨oc5, od5, .func (PySem.W.fnOf "is_order" "is_order" (defArgs s_is_order) (defBody s_is_order) (defScope s_is_order) .none kV5 dc5 pm5 an5 cd5 ct5), sl5⟩) (c5 : PySem.W.codeIn K cd5 "is_order" = true) (k5 : PySem.W.keepIn K (.ref f5) = true)
    (a6 : PySem.W.nsIn K mainGlobals "check_order" = some (some (.ref f6))) (l6 : K.lookup f6 = some ⟨oc6, od6, .func (PySem.W.fnOf "check_order" "check_order" (defArgs s_check_order) (defBody s_check_order) (defScope s_check_order) .none kV6 dc6 pm6 an6 cd6 ct6), sl6⟩) (c6 : PySem.W.codeIn K cd6 "check_order" = true) (k6 : PySem.W.keepIn K (.ref f6) = true)
    (a7 : PySem.W.nsIn K mainGlobals "check_orders" = some (some (.ref f7))) (l7 : K.lookup f7 = some ⟨oc7, od7, .func (PySem.W.fnOf "check_orders" "check_orders" (defArgs s_check_orders) (defBody s_check_orders) (defScope s_check_orders) .none kV7 dc7 pm7 an7 cd7 ct7), sl7⟩) (c7 : PySem.W.codeIn K cd7 "check_orders" = true) (k7 : PySem.W.keepIn K (.ref f7) = true)
    (a8 : PySem.W.nsIn K mainGlobals "check_fit" = some (some (.ref f8))) (l8 : K.lookup f8 = some ⟨oc8, od8, .func (PySem.W.fnOf "check_fit" "check_fit" (defArgs s_check_fit) (defBody s_check_fit) (defScope s_check_fit) .none kV8 dc8 pm8 an8 cd8 ct8), sl8⟩) (c8 : PySem.W.codeIn K cd8 "check_fit" = true) (k8 : PySem.W.keepIn K (.ref f8) = true)
    (a9 : PySem.W.nsIn K mainGlobals "check_listed" = some (some (.ref f9))) (l9 : K.lookup f9 = some ⟨oc9, od9, .func (PySem.W.fnOf "check_listed" "check_listed" (defArgs s_check_listed) (defBody s_check_listed) (defScope s_check_listed) .none kV9 dc9 pm9 an9 cd9 ct9), sl9⟩) (c9 : PySem.W.codeIn K cd9 "check_listed" = true) (k9 : PySem.W.keepIn K (.ref f9) = true)
    (a10 : PySem.W.nsIn K mainGlobals "is_order_list" = some (some (.ref f10))) (l10 : K.lookup f10 = some ⟨oc10, od10, .func (PySem.W.fnOf "is_order_list" "is_order_list" (defArgs s_is_order_list) (defBody s_is_order_list) (defScope s_is_order_list) .none kV10 dc10 pm10 an10 cd10 ct10), sl10⟩) (c10 : PySem.W.codeIn K cd10 "is_order_list" = true) (k10 : PySem.W.keepIn K (.ref f10) = true)
    (a11 : PySem.W.nsIn K mainGlobals "is_unlike_list" = some (some (.ref f11))) (l11 : K.lookup f11 = some ⟨oc11, od11, .func (PySem.W.fnOf "is_unlike_list" "is_unlike_list" (defArgs s_is_unlike_list) (defBody s_is_unlike_list) (defScope s_is_unlike_list) .none kV11 dc11 pm11 an11 cd11 ct11), sl11⟩) (c11 : PySem.W.codeIn K cd11 "is_unlike_list" = true) (k11 : PySem.W.keepIn K (.ref f11) = true)
    (a12 : PySem.W.nsIn K mainGlobals "places_in" = some (some (.ref f12))) (l12 : K.lookup f12 = some ⟨oc12, od12, .func (PySem.W.fnOf "places_in" "places_in" (defArgs s_places_in) (defBody s_places_in) (defScope s_places_in) .none kV12 dc12 pm12 an12 cd12 ct12), sl12⟩) (c12 : PySem.W.codeIn K cd12 "places_in" = true) (k12 : PySem.W.keepIn K (.ref f12) = true)
    (a13 : PySem.W.nsIn K mainGlobals "seats_in" = some (some (.ref f13))) (l13 : K.lookup f13 = some ⟨oc13, od13, .func (PySem.W.fnOf "seats_in" "seats_in" (defArgs s_seats_in) (defBody s_seats_in) (defScope s_seats_in) .none kV13 dc13 pm13 an13 cd13 ct13), sl13⟩) (c13 : PySem.W.codeIn K cd13 "seats_in" = true) (k13 : PySem.W.keepIn K (.ref f13) = true)
    (a14 : PySem.W.nsIn K mainGlobals "how_far" = some (some (.ref f14))) (l14 : K.lookup f14 = some ⟨oc14, od14, .func (PySem.W.fnOf "how_far" "how_far" (defArgs s_how_far) (defBody s_how_far) (defScope s_how_far) .none kV14 dc14 pm14 an14 cd14 ct14), sl14⟩) (c14 : PySem.W.codeIn K cd14 "how_far" = true) (k14 : PySem.W.keepIn K (.ref f14) = true)
    (a15 : PySem.W.nsIn K mainGlobals "known_far" = some (some (.ref f15))) (l15 : K.lookup f15 = some ⟨oc15, od15, .func (PySem.W.fnOf "known_far" "known_far" (defArgs s_known_far) (defBody s_known_far) (defScope s_known_far) .none kV15 dc15 pm15 an15 cd15 ct15), sl15⟩) (c15 : PySem.W.codeIn K cd15 "known_far" = true) (k15 : PySem.W.keepIn K (.ref f15) = true)
    (a16 : PySem.W.nsIn K mainGlobals "far_by_swap" = some (some (.ref f16))) (l16 : K.lookup f16 = some ⟨oc16, od16, .func (PySem.W.fnOf "far_by_swap" "far_by_swap" (defArgs s_far_by_swap) (defBody s_far_by_swap) (defScope s_far_by_swap) .none kV16 dc16 pm16 an16 cd16 ct16), sl16⟩) (c16 : PySem.W.codeIn K cd16 "far_by_swap" = true) (k16 : PySem.W.keepIn K (.ref f16) = true)
    (a17 : PySem.W.nsIn K mainGlobals "far_by_spot" = some (some (.ref f17))) (l17 : K.lookup f17 = some ⟨oc17, od17, .func (PySem.W.fnOf "far_by_spot" "far_by_spot" (defArgs s_far_by_spot) (defBody s_far_by_spot) (defScope s_far_by_spot) .none kV17 dc17 pm17 an17 cd17 ct17), sl17⟩) (c17 : PySem.W.codeIn K cd17 "far_by_spot" = true) (k17 : PySem.W.keepIn K (.ref f17) = true)
    (a18 : PySem.W.nsIn K mainGlobals "far_by_shift" = some (some (.ref f18))) (l18 : K.lookup f18 = some ⟨oc18, od18, .func (PySem.W.fnOf "far_by_shift" "far_by_shift" (defArgs s_far_by_shift) (defBody s_far_by_shift) (defScope s_far_by_shift) .none kV18 dc18 pm18 an18 cd18 ct18), sl18⟩) (c18 : PySem.W.codeIn K cd18 "far_by_shift" = true) (k18 : PySem.W.keepIn K (.ref f18) = true)
    (a19 : PySem.W.nsIn K mainGlobals "all_orders" = some (some (.ref f19))) (l19 : K.lookup f19 = some ⟨oc19, od19, .func (PySem.W.fnOf "all_orders" "all_orders" (defArgs s_all_orders) (defBody s_all_orders) (defScope s_all_orders) .none kV19 dc19 pm19 an19 cd19 ct19), sl19⟩) (c19 : PySem.W.codeIn K cd19 "all_orders" = true) (k19 : PySem.W.keepIn K (.ref f19) = true)
    (a20 : PySem.W.nsIn K mainGlobals "orders_with" = some (some (.ref f20))) (l20 : K.lookup f20 = some ⟨oc20, od20, .func (PySem.W.fnOf "orders_with" "orders_with" (defArgs s_orders_with) (defBody s_orders_with) (defScope s_orders_with) .none kV20 dc20 pm20 an20 cd20 ct20), sl20⟩) (c20 : PySem.W.codeIn K cd20 "orders_with" = true) (k20 : PySem.W.keepIn K (.ref f20) = true)
    (a21 : PySem.W.nsIn K mainGlobals "check_led" = some (some (.ref f21))) (l21 : K.lookup f21 = some ⟨oc21, od21, .func (PySem.W.fnOf "check_led" "check_led" (defArgs s_check_led) (defBody s_check_led) (defScope s_check_led) .none kV21 dc21 pm21 an21 cd21 ct21), sl21⟩) (c21 : PySem.W.codeIn K cd21 "check_led" = true) (k21 : PySem.W.keepIn K (.ref f21) = true)
    (a22 : PySem.W.nsIn K mainGlobals "check_unlike_list" = some (some (.ref f22))) (l22 : K.lookup f22 = some ⟨oc22, od22, .func (PySem.W.fnOf "check_unlike_list" "check_unlike_list" (defArgs s_check_unlike_list) (defBody s_check_unlike_list) (defScope s_check_unlike_list) .none kV22 dc22 pm22 an22 cd22 ct22), sl22⟩) (c22 : PySem.W.codeIn K cd22 "check_unlike_list" = true) (k22 : PySem.W.keepIn K (.ref f22) = true)
    (a23 : PySem.W.nsIn K mainGlobals "those_within" = some (some (.ref f23))) (l23 : K.lookup f23 = some ⟨oc23, od23, .func (PySem.W.fnOf "those_within" "those_within" (defArgs s_those_within) (defBody s_those_within) (defScope s_those_within) .none kV23 dc23 pm23 an23 cd23 ct23), sl23⟩) (c23 : PySem.W.codeIn K cd23 "those_within" = true) (k23 : PySem.W.keepIn K (.ref f23) = true)
    (a24 : PySem.W.nsIn K mainGlobals "led_back" = some (some (.ref f24))) (l24 : K.lookup f24 = some ⟨oc24, od24, .func (PySem.W.fnOf "led_back" "led_back" (defArgs s_led_back) (defBody s_led_back) (defScope s_led_back) .none kV24 dc24 pm24 an24 cd24 ct24), sl24⟩) (c24 : PySem.W.codeIn K cd24 "led_back" = true) (k24 : PySem.W.keepIn K (.ref f24) = true)
    (a25 : PySem.W.nsIn K mainGlobals "not_sure" = some (some (.ref f25))) (l25 : K.lookup f25 = some ⟨oc25, od25, .func (PySem.W.fnOf "not_sure" "not_sure" (defArgs s_not_sure) (defBody s_not_sure) (defScope s_not_sure) .none kV25 dc25 pm25 an25 cd25 ct25), sl25⟩) (c25 : PySem.W.codeIn K cd25 "not_sure" = true) (k25 : PySem.W.keepIn K (.ref f25) = true)
    (a26 : PySem.W.nsIn K mainGlobals "check_sure" = some (some (.ref f26))) (l26 : K.lookup f26 = some ⟨oc26, od26, .func (PySem.W.fnOf "check_sure" "check_sure" (defArgs s_check_sure) (defBody s_check_sure) (defScope s_check_sure) .none kV26 dc26 pm26 an26 cd26 ct26), sl26⟩) (c26 : PySem.W.codeIn K cd26 "check_sure" = true) (k26 : PySem.W.keepIn K (.ref f26) = true)
    (a27 : PySem.W.nsIn K mainGlobals "shows_not_sure" = some (some (.ref f27))) (l27 : K.lookup f27 = some ⟨oc27, od27, .func (PySem.W.fnOf "shows_not_sure" "shows_not_sure" (defArgs s_shows_not_sure) (defBody s_shows_not_sure) (defScope s_shows_not_sure) .none kV27 dc27 pm27 an27 cd27 ct27), sl27⟩) (c27 : PySem.W.codeIn K cd27 "shows_not_sure" = true) (k27 : PySem.W.keepIn K (.ref f27) = true)
    (a28 : PySem.W.nsIn K mainGlobals "check_three" = some (some (.ref f28))) (l28 : K.lookup f28 = some ⟨oc28, od28, .func (PySem.W.fnOf "check_three" "check_three" (defArgs s_check_three) (defBody s_check_three) (defScope s_check_three) .none kV28 dc28 pm28 an28 cd28 ct28), sl28⟩) (c28 : PySem.W.codeIn K cd28 "check_three" = true) (k28 : PySem.W.keepIn K (.ref f28) = true)
    (a29 : PySem.W.nsIn K mainGlobals "lies_apart" = some (some (.ref f29))) (l29 : K.lookup f29 = some ⟨oc29, od29, .func (PySem.W.fnOf "lies_apart" "lies_apart" (defArgs s_lies_apart) (defBody s_lies_apart) (defScope s_lies_apart) .none kV29 dc29 pm29 an29 cd29 ct29), sl29⟩) (c29 : PySem.W.codeIn K cd29 "lies_apart" = true) (k29 : PySem.W.keepIn K (.ref f29) = true)
    (a30 : PySem.W.nsIn K mainGlobals "are_far" = some (some (.ref f30))) (l30 : K.lookup f30 = some ⟨oc30, od30, .func (PySem.W.fnOf "are_far" "are_far" (defArgs s_are_far) (defBody s_are_far) (defScope s_are_far) .none kV30 dc30 pm30 an30 cd30 ct30), sl30⟩) (c30 : PySem.W.codeIn K cd30 "are_far" = true) (k30 : PySem.W.keepIn K (.ref f30) = true)
    (a31 : PySem.W.nsIn K mainGlobals "is_far" = some (some (.ref f31))) (l31 : K.lookup f31 = some ⟨oc31, od31, .func (PySem.W.fnOf "is_far" "is_far" (defArgs s_is_far) (defBody s_is_far) (defScope s_is_far) .none kV31 dc31 pm31 an31 cd31 ct31), sl31⟩) (c31 : PySem.W.codeIn K cd31 "is_far" = true) (k31 : PySem.W.keepIn K (.ref f31) = true)
    (a32 : PySem.W.nsIn K mainGlobals "first_apart" = some (some (.ref f32))) (l32 : K.lookup f32 = some ⟨oc32, od32, .func (PySem.W.fnOf "first_apart" "first_apart" (defArgs s_first_apart) (defBody s_first_apart) (defScope s_first_apart) .none kV32 dc32 pm32 an32 cd32 ct32), sl32⟩) (c32 : PySem.W.codeIn K cd32 "first_apart" = true) (k32 : PySem.W.keepIn K (.ref f32) = true)
    (a33 : PySem.W.nsIn K mainGlobals "_law_pool" = some (some (.ref f33))) (l33 : K.lookup f33 = some ⟨oc33, od33, .func (PySem.W.fnOf "_law_pool" "_law_pool" (defArgs s_law_pool) (defBody s_law_pool) (defScope s_law_pool) .none kV33 dc33 pm33 an33 cd33 ct33), sl33⟩) (c33 : PySem.W.codeIn K cd33 "_law_pool" = true) (k33 : PySem.W.keepIn K (.ref f33) = true)
    (a34 : PySem.W.nsIn K mainGlobals "_law_take" = some (some (.ref f34))) (l34 : K.lookup f34 = some ⟨oc34, od34, .func (PySem.W.fnOf "_law_take" "_law_take" (defArgs s_law_take) (defBody s_law_take) (defScope s_law_take) .none kV34 dc34 pm34 an34 cd34 ct34), sl34⟩) (c34 : PySem.W.codeIn K cd34 "_law_take" = true) (k34 : PySem.W.keepIn K (.ref f34) = true)
    (a35 : PySem.W.nsIn K mainGlobals "_law_order" = some (some (.ref f35))) (l35 : K.lookup f35 = some ⟨oc35, od35, .func (PySem.W.fnOf "_law_order" "_law_order" (defArgs s_law_order) (defBody s_law_order) (defScope s_law_order) .none kV35 dc35 pm35 an35 cd35 ct35), sl35⟩) (c35 : PySem.W.codeIn K cd35 "_law_order" = true) (k35 : PySem.W.keepIn K (.ref f35) = true)
    (a36 : PySem.W.nsIn K mainGlobals "_law_near" = some (some (.ref f36))) (l36 : K.lookup f36 = some ⟨oc36, od36, .func (PySem.W.fnOf "_law_near" "_law_near" (defArgs s_law_near) (defBody s_law_near) (defScope s_law_near) .none kV36 dc36 pm36 an36 cd36 ct36), sl36⟩) (c36 : PySem.W.codeIn K cd36 "_law_near" = true) (k36 : PySem.W.keepIn K (.ref f36) = true)
    (a37 : PySem.W.nsIn K mainGlobals "_law_many" = some (some (.ref f37))) (l37 : K.lookup f37 = some ⟨oc37, od37, .func (PySem.W.fnOf "_law_many" "_law_many" (defArgs s_law_many) (defBody s_law_many) (defScope s_law_many) .none kV37 dc37 pm37 an37 cd37 ct37), sl37⟩) (c37 : PySem.W.codeIn K cd37 "_law_many" = true) (k37 : PySem.W.keepIn K (.ref f37) = true)
    (a38 : PySem.W.nsIn K mainGlobals "_law_orders" = some (some (.ref f38))) (l38 : K.lookup f38 = some ⟨oc38, od38, .func (PySem.W.fnOf "_law_orders" "_law_orders" (defArgs s_law_orders) (defBody s_law_orders) (defScope s_law_orders) .none kV38 dc38 pm38 an38 cd38 ct38), sl38⟩) (c38 : PySem.W.codeIn K cd38 "_law_orders" = true) (k38 : PySem.W.keepIn K (.ref f38) = true)
    (a39 : PySem.W.nsIn K mainGlobals "_law_ways" = some (some (.ref f39))) (l39 : K.lookup f39 = some ⟨oc39, od39, .func (PySem.W.fnOf "_law_ways" "_law_ways" (defArgs s_law_ways) (defBody s_law_ways) (defScope s_law_ways) .none kV39 dc39 pm39 an39 cd39 ct39), sl39⟩) (c39 : PySem.W.codeIn K cd39 "_law_ways" = true) (k39 : PySem.W.keepIn K (.ref f39) = true)
    (a40 : PySem.W.nsIn K mainGlobals "_law_shown_right" = some (some (.ref f40))) (l40 : K.lookup f40 = some ⟨oc40, od40, .func (PySem.W.fnOf "_law_shown_right" "_law_shown_right" (defArgs s_law_shown_right) (defBody s_law_shown_right) (defScope s_law_shown_right) .none kV40 dc40 pm40 an40 cd40 ct40), sl40⟩) (c40 : PySem.W.codeIn K cd40 "_law_shown_right" = true) (k40 : PySem.W.keepIn K (.ref f40) = true)
    (a41 : PySem.W.nsIn K mainGlobals "_law_sure_right" = some (some (.ref f41))) (l41 : K.lookup f41 = some ⟨oc41, od41, .func (PySem.W.fnOf "_law_sure_right" "_law_sure_right" (defArgs s_law_sure_right) (defBody s_law_sure_right) (defScope s_law_sure_right) .none kV41 dc41 pm41 an41 cd41 ct41), sl41⟩) (c41 : PySem.W.codeIn K cd41 "_law_sure_right" = true) (k41 : PySem.W.keepIn K (.ref f41) = true)
    (a42 : PySem.W.nsIn K mainGlobals "_law_apart_right" = some (some (.ref f42))) (l42 : K.lookup f42 = some ⟨oc42, od42, .func (PySem.W.fnOf "_law_apart_right" "_law_apart_right" (defArgs s_law_apart_right) (defBody s_law_apart_right) (defScope s_law_apart_right) .none kV42 dc42 pm42 an42 cd42 ct42), sl42⟩) (c42 : PySem.W.codeIn K cd42 "_law_apart_right" = true) (k42 : PySem.W.keepIn K (.ref f42) = true)
    (a43 : PySem.W.nsIn K mainGlobals "law" = some (some (.ref f43))) (l43 : K.lookup f43 = some ⟨oc43, od43, .func (PySem.W.fnOf "law" "law" (defArgs s_law) (defBody s_law) (defScope s_law) .none kV43 dc43 pm43 an43 cd43 ct43), sl43⟩) (c43 : PySem.W.codeIn K cd43 "law" = true) (k43 : PySem.W.keepIn K (.ref f43) = true)
    (g_MOST_THINGS : PySem.W.nsIn K mainGlobals "MOST_THINGS" = some (some (.int 12 tk_MOST_THINGS)))
    (g_MOST_LISTED : PySem.W.nsIn K mainGlobals "MOST_LISTED" = some (some (.int 6 tk_MOST_LISTED)))
    (g_MOST_ORDERS : PySem.W.nsIn K mainGlobals "MOST_ORDERS" = some (some (.int 120 tk_MOST_ORDERS)))
    (g_WAYS : PySem.W.nsIn K mainGlobals "WAYS" = some (some (.ref aW))) (l_WAYS : K.lookup aW = some ⟨.type "tuple", ddW, .seq #[.str "swap" tW1, .str "spot" tW2, .str "shift" tW3] nW, slW⟩)
    (z_ValueError : PySem.W.nsIn K mainGlobals "ValueError" = some none)
    (z_abs : PySem.W.nsIn K mainGlobals "abs" = some none)
    (z_all : PySem.W.nsIn K mainGlobals "all" = some none)
    (z_bool : PySem.W.nsIn K mainGlobals "bool" = some none)
    (z_enumerate : PySem.W.nsIn K mainGlobals "enumerate" = some none)
    (z_int : PySem.W.nsIn K mainGlobals "int" = some none)
    (z_isinstance : PySem.W.nsIn K mainGlobals "isinstance" = some none)
    (z_len : PySem.W.nsIn K mainGlobals "len" = some none)
    (z_list : PySem.W.nsIn K mainGlobals "list" = some none)
    (z_max : PySem.W.nsIn K mainGlobals "max" = some none)
    (z_min : PySem.W.nsIn K mainGlobals "min" = some none)
    (z_range : PySem.W.nsIn K mainGlobals "range" = some none)
    (z_sorted : PySem.W.nsIn K mainGlobals "sorted" = some none)
    (z_str : PySem.W.nsIn K mainGlobals "str" = some none)
    (z_tuple : PySem.W.nsIn K mainGlobals "tuple" = some none)
    (z_zip : PySem.W.nsIn K mainGlobals "zip" = some none)
    {tc_is_far tp_is_far : Addr} {to_is_far : Value} {td_is_far : Option Addr} {tv_is_far : Array Value} {ts_is_far : Array (Option Value)}
    (e_is_far : cd31 = .ref tc_is_far) (u_is_far : K.lookup tc_is_far = some ⟨to_is_far, td_is_far, .fields tv_is_far, ts_is_far⟩) (v_is_far : tv_is_far[11]? = some (.ref tp_is_far)) (n_is_far : K.lookup tp_is_far = none)
    (tabs : ∀ y ∈ ["is_far"], ∀ c P, PySem.W.tabIn K y = some (c, P) → PySem.W.CodeHd h c P ∧ h.get? P = some { cls := .none, data := .fields #[] })
    : LamX.LawAtS l w K CX0 13 63 "script" mg fa h := by
  have e := hfa.symm.trans (PySem.W.mg_of X G a43)
  cases e
  have t_is_far := tab_mk a31 l31 e_is_far u_is_far v_is_far
  have F0 := fun_mk (st := s_is_whole) l0 c0 k0
  have F1 := fun_mk (st := s_check_way) l1 c1 k1
  have F2 := fun_mk (st := s_check_from) l2 c2 k2
  have F3 := fun_mk (st := s_check_size) l3 c3 k3
  have F4 := fun_mk (st := s_check_apart) l4 c4 k4
  have F5 := fun_mk (st := s_is_order) l5 c5 k5
  have F6 := fun_mk (st := s_check_order) l6 c6 k6
  have F7 := fun_mk (st := s_check_orders) l7 c7 k7
  have F8 := fun_mk (st := s_check_fit) l8 c8 k8
  have F9 := fun_mk (st := s_check_listed) l9 c9 k9
  have F10 := fun_mk (st := s_is_order_list) l10 c10 k10
  have F11 := fun_mk (st := s_is_unlike_list) l11 c11 k11
  have F12 := fun_mk (st := s_places_in) l12 c12 k12
  have F13 := fun_mk (st := s_seats_in) l13 c13 k13
  have F14 := fun_mk (st := s_how_far) l14 c14 k14
  have F15 := fun_mk (st := s_known_far) l15 c15 k15
  have F16 := fun_mk (st := s_far_by_swap) l16 c16 k16
  have F17 := fun_mk (st := s_far_by_spot) l17 c17 k17
  have F18 := fun_mk (st := s_far_by_shift) l18 c18 k18
  have F19 := fun_mk (st := s_all_orders) l19 c19 k19
  have F20 := fun_mk (st := s_orders_with) l20 c20 k20
  have F21 := fun_mk (st := s_check_led) l21 c21 k21
  have F22 := fun_mk (st := s_check_unlike_list) l22 c22 k22
  have F23 := fun_mk (st := s_those_within) l23 c23 k23
  have F24 := fun_mk (st := s_led_back) l24 c24 k24
  have F25 := fun_mk (st := s_not_sure) l25 c25 k25
  have F26 := fun_mk (st := s_check_sure) l26 c26 k26
  have F27 := fun_mk (st := s_shows_not_sure) l27 c27 k27
  have F28 := fun_mk (st := s_check_three) l28 c28 k28
  have F29 := fun_mk (st := s_lies_apart) l29 c29 k29
  have F30 := fun_mk (st := s_are_far) l30 c30 k30
  have F31 := fun_mk (st := s_is_far) l31 c31 k31
  have F32 := fun_mk (st := s_first_apart) l32 c32 k32
  have F33 := fun_mk (st := s_law_pool) l33 c33 k33
  have F34 := fun_mk (st := s_law_take) l34 c34 k34
  have F35 := fun_mk (st := s_law_order) l35 c35 k35
  have F36 := fun_mk (st := s_law_near) l36 c36 k36
  have F37 := fun_mk (st := s_law_many) l37 c37 k37
  have F38 := fun_mk (st := s_law_orders) l38 c38 k38
  have F39 := fun_mk (st := s_law_ways) l39 c39 k39
  have F40 := fun_mk (st := s_law_shown_right) l40 c40 k40
  have F41 := fun_mk (st := s_law_sure_right) l41 c41 k41
  have F42 := fun_mk (st := s_law_apart_right) l42 c42 k42
  have F43 := fun_mk (st := s_law) l43 c43 k43
  have T_is_whole : Df K mg "is_whole" s_is_whole ["thing"] f0 _ := ⟨F0, F0.binds (ps := ["thing"]) (fun _ _ _ _ _ _ us hl => match us, hl with | [_], _ => rfl), PySem.W.mg_of X G a0⟩
  have T_check_way : Df K mg "check_way" s_check_way ["thing"] f1 _ := ⟨F1, F1.binds (ps := ["thing"]) (fun _ _ _ _ _ _ us hl => match us, hl with | [_], _ => rfl), PySem.W.mg_of X G a1⟩
  have T_check_from : Df K mg "check_from" s_check_from ["thing", "least"] f2 _ := ⟨F2, F2.binds (ps := ["thing", "least"]) (fun _ _ _ _ _ _ us hl => match us, hl with | [_, _], _ => rfl), PySem.W.mg_of X G a2⟩
  have T_check_size : Df K mg "check_size" s_check_size ["thing", "most"] f3 _ := ⟨F3, F3.binds (ps := ["thing", "most"]) (fun _ _ _ _ _ _ us hl => match us, hl with | [_, _], _ => rfl), PySem.W.mg_of X G a3⟩
  have T_check_apart : Df K mg "check_apart" s_check_apart ["way", "n", "most", "d"] f4 _ := ⟨F4, F4.binds (ps := ["way", "n", "most", "d"]) (fun _ _ _ _ _ _ us hl => match us, hl with | [_, _, _, _], _ => rfl), PySem.W.mg_of X G a4⟩
  have T_is_order : Df K mg "is_order" s_is_order ["thing"] f5 _ := ⟨F5, F5.binds (ps := ["thing"]) (fun _ _ _ _ _ _ us hl => match us, hl with | [_], _ => rfl), PySem.W.mg_of X G a5⟩
  have T_check_order : Df K mg "check_order" s_check_order ["thing"] f6 _ := ⟨F6, F6.binds (ps := ["thing"]) (fun _ _ _ _ _ _ us hl => match us, hl with | [_], _ => rfl), PySem.W.mg_of X G a6⟩
  have T_check_orders : Df K mg "check_orders" s_check_orders ["one", "other"] f7 _ := ⟨F7, F7.binds (ps := ["one", "other"]) (fun _ _ _ _ _ _ us hl => match us, hl with | [_, _], _ => rfl), PySem.W.mg_of X G a7⟩
  have T_check_fit : Df K mg "check_fit" s_check_fit ["one", "other"] f8 _ := ⟨F8, F8.binds (ps := ["one", "other"]) (fun _ _ _ _ _ _ us hl => match us, hl with | [_, _], _ => rfl), PySem.W.mg_of X G a8⟩
  have T_check_listed : Df K mg "check_listed" s_check_listed ["order"] f9 _ := ⟨F9, F9.binds (ps := ["order"]) (fun _ _ _ _ _ _ us hl => match us, hl with | [_], _ => rfl), PySem.W.mg_of X G a9⟩
  have T_is_order_list : Df K mg "is_order_list" s_is_order_list ["thing"] f10 _ := ⟨F10, F10.binds (ps := ["thing"]) (fun _ _ _ _ _ _ us hl => match us, hl with | [_], _ => rfl), PySem.W.mg_of X G a10⟩
  have T_is_unlike_list : Df K mg "is_unlike_list" s_is_unlike_list ["thing"] f11 _ := ⟨F11, F11.binds (ps := ["thing"]) (fun _ _ _ _ _ _ us hl => match us, hl with | [_], _ => rfl), PySem.W.mg_of X G a11⟩
  have T_places_in : Df K mg "places_in" s_places_in ["order"] f12 _ := ⟨F12, F12.binds (ps := ["order"]) (fun _ _ _ _ _ _ us hl => match us, hl with | [_], _ => rfl), PySem.W.mg_of X G a12⟩
  have T_seats_in : Df K mg "seats_in" s_seats_in ["one", "other"] f13 _ := ⟨F13, F13.binds (ps := ["one", "other"]) (fun _ _ _ _ _ _ us hl => match us, hl with | [_, _], _ => rfl), PySem.W.mg_of X G a13⟩
  have T_how_far : Df K mg "how_far" s_how_far ["way", "one", "other"] f14 _ := ⟨F14, F14.binds (ps := ["way", "one", "other"]) (fun _ _ _ _ _ _ us hl => match us, hl with | [_, _, _], _ => rfl), PySem.W.mg_of X G a14⟩
  have T_known_far : Df K mg "known_far" s_known_far ["way", "one", "other"] f15 _ := ⟨F15, F15.binds (ps := ["way", "one", "other"]) (fun _ _ _ _ _ _ us hl => match us, hl with | [_, _, _], _ => rfl), PySem.W.mg_of X G a15⟩
  have T_far_by_swap : Df K mg "far_by_swap" s_far_by_swap ["one", "other"] f16 _ := ⟨F16, F16.binds (ps := ["one", "other"]) (fun _ _ _ _ _ _ us hl => match us, hl with | [_, _], _ => rfl), PySem.W.mg_of X G a16⟩
  have T_far_by_spot : Df K mg "far_by_spot" s_far_by_spot ["one", "other"] f17 _ := ⟨F17, F17.binds (ps := ["one", "other"]) (fun _ _ _ _ _ _ us hl => match us, hl with | [_, _], _ => rfl), PySem.W.mg_of X G a17⟩
  have T_far_by_shift : Df K mg "far_by_shift" s_far_by_shift ["one", "other"] f18 _ := ⟨F18, F18.binds (ps := ["one", "other"]) (fun _ _ _ _ _ _ us hl => match us, hl with | [_, _], _ => rfl), PySem.W.mg_of X G a18⟩
  have T_all_orders : Df K mg "all_orders" s_all_orders ["n"] f19 _ := ⟨F19, F19.binds (ps := ["n"]) (fun _ _ _ _ _ _ us hl => match us, hl with | [_], _ => rfl), PySem.W.mg_of X G a19⟩
  have T_orders_with : Df K mg "orders_with" s_orders_with ["choices"] f20 _ := ⟨F20, F20.binds (ps := ["choices"]) (fun _ _ _ _ _ _ us hl => match us, hl with | [_], _ => rfl), PySem.W.mg_of X G a20⟩
  have T_check_led : Df K mg "check_led" s_check_led ["way", "order", "orders"] f21 _ := ⟨F21, F21.binds (ps := ["way", "order", "orders"]) (fun _ _ _ _ _ _ us hl => match us, hl with | [_, _, _], _ => rfl), PySem.W.mg_of X G a21⟩
  have T_check_unlike_list : Df K mg "check_unlike_list" s_check_unlike_list ["thing"] f22 _ := ⟨F22, F22.binds (ps := ["thing"]) (fun _ _ _ _ _ _ us hl => match us, hl with | [_], _ => rfl), PySem.W.mg_of X G a22⟩
  have T_those_within : Df K mg "those_within" s_those_within ["way", "order", "orders", "r"] f23 _ := ⟨F23, F23.binds (ps := ["way", "order", "orders", "r"]) (fun _ _ _ _ _ _ us hl => match us, hl with | [_, _, _, _], _ => rfl), PySem.W.mg_of X G a23⟩
  have T_led_back : Df K mg "led_back" s_led_back ["way", "order", "orders", "e"] f24 _ := ⟨F24, F24.binds (ps := ["way", "order", "orders", "e"]) (fun _ _ _ _ _ _ us hl => match us, hl with | [_, _, _, _], _ => rfl), PySem.W.mg_of X G a24⟩
  have T_not_sure : Df K mg "not_sure" s_not_sure ["way", "orders", "e"] f25 _ := ⟨F25, F25.binds (ps := ["way", "orders", "e"]) (fun _ _ _ _ _ _ us hl => match us, hl with | [_, _, _], _ => rfl), PySem.W.mg_of X G a25⟩
  have T_check_sure : Df K mg "check_sure" s_check_sure ["way", "orders", "e"] f26 _ := ⟨F26, F26.binds (ps := ["way", "orders", "e"]) (fun _ _ _ _ _ _ us hl => match us, hl with | [_, _, _], _ => rfl), PySem.W.mg_of X G a26⟩
  have T_shows_not_sure : Df K mg "shows_not_sure" s_shows_not_sure ["way", "orders", "e", "thing"] f27 _ := ⟨F27, F27.binds (ps := ["way", "orders", "e", "thing"]) (fun _ _ _ _ _ _ us hl => match us, hl with | [_, _, _, _], _ => rfl), PySem.W.mg_of X G a27⟩
  have T_check_three : Df K mg "check_three" s_check_three ["thing"] f28 _ := ⟨F28, F28.binds (ps := ["thing"]) (fun _ _ _ _ _ _ us hl => match us, hl with | [_], _ => rfl), PySem.W.mg_of X G a28⟩
  have T_lies_apart : Df K mg "lies_apart" s_lies_apart ["way", "n", "d", "thing"] f29 _ := ⟨F29, F29.binds (ps := ["way", "n", "d", "thing"]) (fun _ _ _ _ _ _ us hl => match us, hl with | [_, _, _, _], _ => rfl), PySem.W.mg_of X G a29⟩
  have T_are_far : Df K mg "are_far" s_are_far ["way", "d", "orders"] f30 _ := ⟨F30, F30.binds (ps := ["way", "d", "orders"]) (fun _ _ _ _ _ _ us hl => match us, hl with | [_, _, _], _ => rfl), PySem.W.mg_of X G a30⟩
  have T_is_far : DfC K mg "is_far" s_is_far ["way", "d", "order", "others"] f31 _ tc_is_far := ⟨F31, F31.binds (ps := ["way", "d", "order", "others"]) (fun _ _ _ _ _ _ us hl => match us, hl with | [_, _, _, _], _ => rfl), PySem.W.mg_of X G a31, tab_code t_is_far a31 l31⟩
  have T_first_apart : Df K mg "first_apart" s_first_apart ["way", "n", "d"] f32 _ := ⟨F32, F32.binds (ps := ["way", "n", "d"]) (fun _ _ _ _ _ _ us hl => match us, hl with | [_, _, _], _ => rfl), PySem.W.mg_of X G a32⟩
  have T__law_pool : Df K mg "_law_pool" s_law_pool ["script", "k"] f33 _ := ⟨F33, F33.binds (ps := ["script", "k"]) (fun _ _ _ _ _ _ us hl => match us, hl with | [_, _], _ => rfl), PySem.W.mg_of X G a33⟩
  have T__law_take : Df K mg "_law_take" s_law_take ["pool", "many"] f34 _ := ⟨F34, F34.binds (ps := ["pool", "many"]) (fun _ _ _ _ _ _ us hl => match us, hl with | [_, _], _ => rfl), PySem.W.mg_of X G a34⟩
  have T__law_order : Df K mg "_law_order" s_law_order ["pool", "n"] f35 _ := ⟨F35, F35.binds (ps := ["pool", "n"]) (fun _ _ _ _ _ _ us hl => match us, hl with | [_, _], _ => rfl), PySem.W.mg_of X G a35⟩
  have T__law_near : Df K mg "_law_near" s_law_near ["pool", "order"] f36 _ := ⟨F36, F36.binds (ps := ["pool", "order"]) (fun _ _ _ _ _ _ us hl => match us, hl with | [_, _], _ => rfl), PySem.W.mg_of X G a36⟩
  have T__law_many : Df K mg "_law_many" s_law_many ["n"] f37 _ := ⟨F37, F37.binds (ps := ["n"]) (fun _ _ _ _ _ _ us hl => match us, hl with | [_], _ => rfl), PySem.W.mg_of X G a37⟩
  have T__law_orders : Df K mg "_law_orders" s_law_orders ["pool", "n", "most"] f38 _ := ⟨F38, F38.binds (ps := ["pool", "n", "most"]) (fun _ _ _ _ _ _ us hl => match us, hl with | [_, _, _], _ => rfl), PySem.W.mg_of X G a38⟩
  have T__law_ways : Df K mg "_law_ways" s_law_ways [] f39 _ := ⟨F39, F39.binds (ps := []) (fun _ _ _ _ _ _ us hl => match us, hl with | [], _ => rfl), PySem.W.mg_of X G a39⟩
  have T__law_shown_right : Df K mg "_law_shown_right" s_law_shown_right ["way", "orders", "errors", "found"] f40 _ := ⟨F40, F40.binds (ps := ["way", "orders", "errors", "found"]) (fun _ _ _ _ _ _ us hl => match us, hl with | [_, _, _, _], _ => rfl), PySem.W.mg_of X G a40⟩
  have T__law_sure_right : Df K mg "_law_sure_right" s_law_sure_right ["pool", "way", "orders", "errors"] f41 _ := ⟨F41, F41.binds (ps := ["pool", "way", "orders", "errors"]) (fun _ _ _ _ _ _ us hl => match us, hl with | [_, _, _, _], _ => rfl), PySem.W.mg_of X G a41⟩
  have T__law_apart_right : Df K mg "_law_apart_right" s_law_apart_right ["pool", "way", "n"] f42 _ := ⟨F42, F42.binds (ps := ["pool", "way", "n"]) (fun _ _ _ _ _ _ us hl => match us, hl with | [_, _, _], _ => rfl), PySem.W.mg_of X G a42⟩
  have B : Bi mg := ⟨PySem.W.mg_none_of X G z_ValueError, PySem.W.mg_none_of X G z_abs, PySem.W.mg_none_of X G z_all, PySem.W.mg_none_of X G z_bool, PySem.W.mg_none_of X G z_enumerate, PySem.W.mg_none_of X G z_int, PySem.W.mg_none_of X G z_isinstance, PySem.W.mg_none_of X G z_len, PySem.W.mg_none_of X G z_list, PySem.W.mg_none_of X G z_max, PySem.W.mg_none_of X G z_min, PySem.W.mg_none_of X G z_range, PySem.W.mg_none_of X G z_sorted, PySem.W.mg_none_of X G z_str, PySem.W.mg_none_of X G z_tuple, PySem.W.mg_none_of X G z_zip⟩
  have m_WAYS := wy_mk (PySem.W.mg_of X G g_WAYS) l_WAYS
  have m_MOST_THINGS := PySem.W.mg_of X G g_MOST_THINGS
  have m_MOST_LISTED := PySem.W.mg_of X G g_MOST_LISTED
  have m_MOST_ORDERS := PySem.W.mg_of X G g_MOST_ORDERS
  refine ⟨PySem.W.fnOf "law" "law" (defArgs s_law) (defBody s_law) (defScope s_law) .none kV43 dc43 pm43 an43 cd43 ct43, [(tc_is_far, tp_is_far)], spLaw K tp_is_far, ?_, ?_, ?_, fun s v => .of_eq rfl, fun H a ns hl _ hT hS => ⟨a, ns, rfl, hS, hl, ⟨#[], hT (tc_is_far, tp_is_far) (by simp), trivial⟩, fun _ => rfl⟩, fun base _ _ TBs => ?_⟩
  · rintro p hp
    simp only [List.mem_cons, List.not_mem_nil, or_false] at hp
    rcases hp with rfl
    · exact (tabs "is_far" (by simp) _ _ t_is_far).2
  · rintro p hp
    simp only [List.mem_cons, List.not_mem_nil, or_false] at hp
    rcases hp with rfl
    · exact n_is_far
  · rintro p hp
    simp only [List.mem_cons, List.not_mem_nil, or_false] at hp
    rcases hp with rfl
    · exact (tabs "is_far" (by simp) _ _ t_is_far).1
  have TB_is_far := TBs (tc_is_far, tp_is_far) (by simp)
  exact ok_law F43 T__law_pool T__law_take T__law_orders T__law_ways T_not_sure T__law_sure_right T__law_shown_right T_lies_apart T__law_apart_right (ok_pool (k := 11) T__law_pool B) (ok_take (k := 11) T__law_take B) (ok_orders (k := 11) T__law_orders T__law_take T__law_order T__law_near T__law_many (ok_take (k := 10) T__law_take B) (ok_ordP (k := 10) T__law_order T__law_take (ok_take (k := 9) T__law_take B) B) (ok_nearP (k := 10) T__law_near T__law_take (ok_take (k := 9) T__law_take B) B) (ok_many (k := 10) T__law_many B) B) (ok_ways (k := 11) T__law_ways B) (ok_notsure (k := 11) T_not_sure T_check_sure T_all_orders T_those_within (ok_sure (k := 10) T_check_sure T_check_unlike_list T_check_way T_check_listed T_check_from (ok_cunl (k := 9) T_check_unlike_list T_is_unlike_list (ok_unl (k := 8) T_is_unlike_list T_is_order_list (ok_olst (k := 7) T_is_order_list T_is_order (ok_is_order (k := 5) T_is_order T_is_whole B m_MOST_THINGS) B) B) B m_MOST_ORDERS) (ok_way (k := 9) T_check_way m_WAYS B) (ok_listed (k := 9) T_check_listed B m_MOST_LISTED) (ok_from (k := 8) T_check_from T_is_whole B) B) (ok_all_orders (k := 9) T_all_orders T_orders_with B) (ok_thoseN (k := 10) T_those_within T_known_far (ok_known (k := 9) T_known_far T_far_by_swap T_far_by_spot T_far_by_shift (ok_swap (k := 8) T_far_by_swap T_seats_in (ok_seats (k := 6) T_seats_in T_places_in B) B) (ok_spot (k := 8) T_far_by_spot B) (ok_shift (k := 8) T_far_by_shift T_seats_in (ok_seats (k := 6) T_seats_in T_places_in B) B)) B) B) (ok_sure57 (k := 11) T__law_sure_right T_how_far T_not_sure T__law_take (ok_far (k := 10) T_how_far T_check_orders T_check_way T_check_fit T_known_far (ok_checks (k := 9) T_check_orders T_check_order (ok_check (k := 6) T_check_order T_is_order T_is_whole B m_MOST_THINGS)) (ok_way (k := 9) T_check_way m_WAYS B) (ok_fit (k := 9) T_check_fit B) (ok_known (k := 9) T_known_far T_far_by_swap T_far_by_spot T_far_by_shift (ok_swap (k := 8) T_far_by_swap T_seats_in (ok_seats (k := 6) T_seats_in T_places_in B) B) (ok_spot (k := 8) T_far_by_spot B) (ok_shift (k := 8) T_far_by_shift T_seats_in (ok_seats (k := 6) T_seats_in T_places_in B) B))) (ok_notsure (k := 10) T_not_sure T_check_sure T_all_orders T_those_within (ok_sure (k := 9) T_check_sure T_check_unlike_list T_check_way T_check_listed T_check_from (ok_cunl (k := 8) T_check_unlike_list T_is_unlike_list (ok_unl (k := 7) T_is_unlike_list T_is_order_list (ok_olst (k := 6) T_is_order_list T_is_order (ok_is_order (k := 4) T_is_order T_is_whole B m_MOST_THINGS) B) B) B m_MOST_ORDERS) (ok_way (k := 8) T_check_way m_WAYS B) (ok_listed (k := 8) T_check_listed B m_MOST_LISTED) (ok_from (k := 7) T_check_from T_is_whole B) B) (ok_all_orders (k := 8) T_all_orders T_orders_with B) (ok_thoseN (k := 9) T_those_within T_known_far (ok_known (k := 8) T_known_far T_far_by_swap T_far_by_spot T_far_by_shift (ok_swap (k := 7) T_far_by_swap T_seats_in (ok_seats (k := 5) T_seats_in T_places_in B) B) (ok_spot (k := 7) T_far_by_spot B) (ok_shift (k := 7) T_far_by_shift T_seats_in (ok_seats (k := 5) T_seats_in T_places_in B) B)) B) B) (ok_take (k := 10) T__law_take B) B) (ok_shown57 (k := 11) T__law_shown_right T_shows_not_sure T_not_sure T_led_back T_how_far (ok_shows (k := 10) T_shows_not_sure T_check_three T_check_sure T_those_within (ok_three (k := 9) T_check_three T_is_order (ok_is_order (k := 7) T_is_order T_is_whole B m_MOST_THINGS) B) (ok_sure (k := 9) T_check_sure T_check_unlike_list T_check_way T_check_listed T_check_from (ok_cunl (k := 8) T_check_unlike_list T_is_unlike_list (ok_unl (k := 7) T_is_unlike_list T_is_order_list (ok_olst (k := 6) T_is_order_list T_is_order (ok_is_order (k := 4) T_is_order T_is_whole B m_MOST_THINGS) B) B) B m_MOST_ORDERS) (ok_way (k := 8) T_check_way m_WAYS B) (ok_listed (k := 8) T_check_listed B m_MOST_LISTED) (ok_from (k := 7) T_check_from T_is_whole B) B) (ok_those (k := 9) T_those_within T_known_far (ok_known (k := 8) T_known_far T_far_by_swap T_far_by_spot T_far_by_shift (ok_swap (k := 7) T_far_by_swap T_seats_in (ok_seats (k := 5) T_seats_in T_places_in B) B) (ok_spot (k := 7) T_far_by_spot B) (ok_shift (k := 7) T_far_by_shift T_seats_in (ok_seats (k := 5) T_seats_in T_places_in B) B)) B) B) (ok_notsure (k := 10) T_not_sure T_check_sure T_all_orders T_those_within (ok_sure (k := 9) T_check_sure T_check_unlike_list T_check_way T_check_listed T_check_from (ok_cunl (k := 8) T_check_unlike_list T_is_unlike_list (ok_unl (k := 7) T_is_unlike_list T_is_order_list (ok_olst (k := 6) T_is_order_list T_is_order (ok_is_order (k := 4) T_is_order T_is_whole B m_MOST_THINGS) B) B) B m_MOST_ORDERS) (ok_way (k := 8) T_check_way m_WAYS B) (ok_listed (k := 8) T_check_listed B m_MOST_LISTED) (ok_from (k := 7) T_check_from T_is_whole B) B) (ok_all_orders (k := 8) T_all_orders T_orders_with B) (ok_thoseN (k := 9) T_those_within T_known_far (ok_known (k := 8) T_known_far T_far_by_swap T_far_by_spot T_far_by_shift (ok_swap (k := 7) T_far_by_swap T_seats_in (ok_seats (k := 5) T_seats_in T_places_in B) B) (ok_spot (k := 7) T_far_by_spot B) (ok_shift (k := 7) T_far_by_shift T_seats_in (ok_seats (k := 5) T_seats_in T_places_in B) B)) B) B) (ok_ledback (k := 10) T_led_back T_check_led T_check_from T_those_within (ok_led (k := 9) T_check_led T_check_order T_check_unlike_list T_check_way T_check_fit (ok_check (k := 6) T_check_order T_is_order T_is_whole B m_MOST_THINGS) (ok_cunl (k := 8) T_check_unlike_list T_is_unlike_list (ok_unl (k := 7) T_is_unlike_list T_is_order_list (ok_olst (k := 6) T_is_order_list T_is_order (ok_is_order (k := 4) T_is_order T_is_whole B m_MOST_THINGS) B) B) B m_MOST_ORDERS) (ok_way (k := 8) T_check_way m_WAYS B) (ok_fit (k := 8) T_check_fit B) B) (ok_from (k := 8) T_check_from T_is_whole B) (ok_those (k := 9) T_those_within T_known_far (ok_known (k := 8) T_known_far T_far_by_swap T_far_by_spot T_far_by_shift (ok_swap (k := 7) T_far_by_swap T_seats_in (ok_seats (k := 5) T_seats_in T_places_in B) B) (ok_spot (k := 7) T_far_by_spot B) (ok_shift (k := 7) T_far_by_shift T_seats_in (ok_seats (k := 5) T_seats_in T_places_in B) B)) B) B) (ok_far (k := 10) T_how_far T_check_orders T_check_way T_check_fit T_known_far (ok_checks (k := 9) T_check_orders T_check_order (ok_check (k := 6) T_check_order T_is_order T_is_whole B m_MOST_THINGS)) (ok_way (k := 9) T_check_way m_WAYS B) (ok_fit (k := 9) T_check_fit B) (ok_known (k := 9) T_known_far T_far_by_swap T_far_by_spot T_far_by_shift (ok_swap (k := 8) T_far_by_swap T_seats_in (ok_seats (k := 6) T_seats_in T_places_in B) B) (ok_spot (k := 8) T_far_by_spot B) (ok_shift (k := 8) T_far_by_shift T_seats_in (ok_seats (k := 6) T_seats_in T_places_in B) B))) B) (ok_lies (k := 11) T_lies_apart T_check_apart T_is_order_list T_are_far (ok_apart (k := 8) T_check_apart T_check_way T_check_size T_check_from T_is_whole m_WAYS B) (ok_olst (k := 10) T_is_order_list T_is_order (ok_is_order (k := 8) T_is_order T_is_whole B m_MOST_THINGS) B) (ok_areFar (k := 10) T_are_far T_is_far (ok_isFar (k := 8) T_is_far TB_is_far T_known_far (ok_known (k := 7) T_known_far T_far_by_swap T_far_by_spot T_far_by_shift (ok_swap (k := 6) T_far_by_swap T_seats_in (ok_seats (k := 4) T_seats_in T_places_in B) B) (ok_spot (k := 6) T_far_by_spot B) (ok_shift (k := 6) T_far_by_shift T_seats_in (ok_seats (k := 4) T_seats_in T_places_in B) B)) B) B) B m_MOST_THINGS) (ok_apart57 (k := 11) T__law_apart_right T__law_take T_first_apart T_not_sure T__law_near T_how_far T_led_back (ok_take (k := 10) T__law_take B) (ok_first (k := 10) T_first_apart T_check_apart T_all_orders T_is_far (ok_apart (k := 7) T_check_apart T_check_way T_check_size T_check_from T_is_whole m_WAYS B) (ok_all_orders (k := 8) T_all_orders T_orders_with B) (ok_isFar (k := 8) T_is_far TB_is_far T_known_far (ok_known (k := 7) T_known_far T_far_by_swap T_far_by_spot T_far_by_shift (ok_swap (k := 6) T_far_by_swap T_seats_in (ok_seats (k := 4) T_seats_in T_places_in B) B) (ok_spot (k := 6) T_far_by_spot B) (ok_shift (k := 6) T_far_by_shift T_seats_in (ok_seats (k := 4) T_seats_in T_places_in B) B)) B) B m_MOST_LISTED) (ok_notsure (k := 10) T_not_sure T_check_sure T_all_orders T_those_within (ok_sure (k := 9) T_check_sure T_check_unlike_list T_check_way T_check_listed T_check_from (ok_cunl (k := 8) T_check_unlike_list T_is_unlike_list (ok_unl (k := 7) T_is_unlike_list T_is_order_list (ok_olst (k := 6) T_is_order_list T_is_order (ok_is_order (k := 4) T_is_order T_is_whole B m_MOST_THINGS) B) B) B m_MOST_ORDERS) (ok_way (k := 8) T_check_way m_WAYS B) (ok_listed (k := 8) T_check_listed B m_MOST_LISTED) (ok_from (k := 7) T_check_from T_is_whole B) B) (ok_all_orders (k := 8) T_all_orders T_orders_with B) (ok_thoseN (k := 9) T_those_within T_known_far (ok_known (k := 8) T_known_far T_far_by_swap T_far_by_spot T_far_by_shift (ok_swap (k := 7) T_far_by_swap T_seats_in (ok_seats (k := 5) T_seats_in T_places_in B) B) (ok_spot (k := 7) T_far_by_spot B) (ok_shift (k := 7) T_far_by_shift T_seats_in (ok_seats (k := 5) T_seats_in T_places_in B) B)) B) B) (ok_nearP (k := 10) T__law_near T__law_take (ok_take (k := 9) T__law_take B) B) (ok_far (k := 10) T_how_far T_check_orders T_check_way T_check_fit T_known_far (ok_checks (k := 9) T_check_orders T_check_order (ok_check (k := 6) T_check_order T_is_order T_is_whole B m_MOST_THINGS)) (ok_way (k := 9) T_check_way m_WAYS B) (ok_fit (k := 9) T_check_fit B) (ok_known (k := 9) T_known_far T_far_by_swap T_far_by_spot T_far_by_shift (ok_swap (k := 8) T_far_by_swap T_seats_in (ok_seats (k := 6) T_seats_in T_places_in B) B) (ok_spot (k := 8) T_far_by_spot B) (ok_shift (k := 8) T_far_by_shift T_seats_in (ok_seats (k := 6) T_seats_in T_places_in B) B))) (ok_ledback (k := 10) T_led_back T_check_led T_check_from T_those_within (ok_led (k := 9) T_check_led T_check_order T_check_unlike_list T_check_way T_check_fit (ok_check (k := 6) T_check_order T_is_order T_is_whole B m_MOST_THINGS) (ok_cunl (k := 8) T_check_unlike_list T_is_unlike_list (ok_unl (k := 7) T_is_unlike_list T_is_order_list (ok_olst (k := 6) T_is_order_list T_is_order (ok_is_order (k := 4) T_is_order T_is_whole B m_MOST_THINGS) B) B) B m_MOST_ORDERS) (ok_way (k := 8) T_check_way m_WAYS B) (ok_fit (k := 8) T_check_fit B) B) (ok_from (k := 8) T_check_from T_is_whole B) (ok_those (k := 9) T_those_within T_known_far (ok_known (k := 8) T_known_far T_far_by_swap T_far_by_spot T_far_by_shift (ok_swap (k := 7) T_far_by_swap T_seats_in (ok_seats (k := 5) T_seats_in T_places_in B) B) (ok_spot (k := 7) T_far_by_spot B) (ok_shift (k := 7) T_far_by_shift T_seats_in (ok_seats (k := 5) T_seats_in T_places_in B) B)) B) B) B) B
end Fo
open PySem PySem.W PyProof.Rows
set_option maxRecDepth 100000 in
set_option maxHeartbeats 0 in
theorem PySem.Challenge.cw_farorders_k57_whole_sure_lists_holds : PySem.Challenge.rw_farorders_k57_whole_sure_lists.Holds := by
  w_on; o_law; k_head; (case hw => w_witness2)
  k_fill
  refine Fo.walk_tab (l := PySem.Challenge.rw_farorders_k57_whole_sure_lists) (n := 63) (k := 13) (x := "script") (CX := fun _ => L2.CX0) rfl (by decide) rfl ⟨rfl, by decide, by decide⟩ (fun w h Y => PySem.W.kIn_of Y) ?F (fun _ _ _ _ _ h => h)
  case F =>
    intro w mg fa h KX G hmg tabs
    replace hmg : mg "law" = some (Value.ref fa) := hmg
    refine' Fo.all_mk KX G hmg ?a0 ?l0 ?c0 ?k0 ?a1 ?l1 ?c1 ?k1 ?a2 ?l2 ?c2 ?k2 ?a3 ?l3 ?c3 ?k3 ?a4 ?l4 ?c4 ?k4 ?a5 ?l5 ?c5 ?k5 ?a6 ?l6 ?c6 ?k6 ?a7 ?l7 ?c7 ?k7 ?a8 ?l8 ?c8 ?k8 ?a9 ?l9 ?c9 ?k9 ?a10 ?l10 ?c10 ?k10 ?a11 ?l11 ?c11 ?k11 ?a12 ?l12 ?c12 ?k12 ?a13 ?l13 ?c13 ?k13 ?a14 ?l14 ?c14 ?k14 ?a15 ?l15 ?c15 ?k15 ?a16 ?l16 ?c16 ?k16 ?a17 ?l17 ?c17 ?k17 ?a18 ?l18 ?c18 ?k18 ?a19 ?l19 ?c19 ?k19 ?a20 ?l20 ?c20 ?k20 ?a21 ?l21 ?c21 ?k21 ?a22 ?l22 ?c22 ?k22 ?a23 ?l23 ?c23 ?k23 ?a24 ?l24 ?c24 ?k24 ?a25 ?l25 ?c25 ?k25 ?a26 ?l26 ?c26 ?k26 ?a27 ?l27 ?c27 ?k27 ?a28 ?l28 ?c28 ?k28 ?a29 ?l29 ?c29 ?k29 ?a30 ?l30 ?c30 ?k30 ?a31 ?l31 ?c31 ?k31 ?a32 ?l32 ?c32 ?k32 ?a33 ?l33 ?c33 ?k33 ?a34 ?l34 ?c34 ?k34 ?a35 ?l35 ?c35 ?k35 ?a36 ?l36 ?c36 ?k36 ?a37 ?l37 ?c37 ?k37 ?a38 ?l38 ?c38 ?k38 ?a39 ?l39 ?c39 ?k39 ?a40 ?l40 ?c40 ?k40 ?a41 ?l41 ?c41 ?k41 ?a42 ?l42 ?c42 ?k42 ?a43 ?l43 ?c43 ?k43 ?g_MOST_THINGS ?g_MOST_LISTED ?g_MOST_ORDERS ?g_WAYS ?l_WAYS ?z_ValueError ?z_abs ?z_all ?z_bool ?z_enumerate ?z_int ?z_isinstance ?z_len ?z_list ?z_max ?z_min ?z_range ?z_sorted ?z_str ?z_tuple ?z_zip ?e_is_far ?u_is_far ?v_is_far ?n_is_far (fun y hy c P ht => tabs y c P ?tabn ht)
    (case a0 => k_is); (case l0 => k_is); (case c0 => k_is); (case k0 => k_is); (case a1 => k_is); (case l1 => k_is); (case c1 => k_is); (case k1 => k_is); (case a2 => k_is); (case l2 => k_is); (case c2 => k_is); (case k2 => k_is); (case a3 => k_is); (case l3 => k_is); (case c3 => k_is); (case k3 => k_is); (case a4 => k_is); (case l4 => k_is); (case c4 => k_is); (case k4 => k_is); (case a5 => k_is); (case l5 => k_is); (case c5 => k_is); (case k5 => k_is); (case a6 => k_is); (case l6 => k_is); (case c6 => k_is); (case k6 => k_is); (case a7 => k_is); (case l7 => k_is); (case c7 => k_is); (case k7 => k_is); (case a8 => k_is); (case l8 => k_is); (case c8 => k_is); (case k8 => k_is); (case a9 => k_is); (case l9 => k_is); (case c9 => k_is); (case k9 => k_is); (case a10 => k_is); (case l10 => k_is); (case c10 => k_is); (case k10 => k_is); (case a11 => k_is); (case l11 => k_is); (case c11 => k_is); (case k11 => k_is); (case a12 => k_is); (case l12 => k_is); (case c12 => k_is); (case k12 => k_is); (case a13 => k_is); (case l13 => k_is); (case c13 => k_is); (case k13 => k_is); (case a14 => k_is); (case l14 => k_is); (case c14 => k_is); (case k14 => k_is); (case a15 => k_is); (case l15 => k_is); (case c15 => k_is); (case k15 => k_is); (case a16 => k_is); (case l16 => k_is); (case c16 => k_is); (case k16 => k_is); (case a17 => k_is); (case l17 => k_is); (case c17 => k_is); (case k17 => k_is); (case a18 => k_is); (case l18 => k_is); (case c18 => k_is); (case k18 => k_is); (case a19 => k_is); (case l19 => k_is); (case c19 => k_is); (case k19 => k_is); (case a20 => k_is); (case l20 => k_is); (case c20 => k_is); (case k20 => k_is); (case a21 => k_is); (case l21 => k_is); (case c21 => k_is); (case k21 => k_is); (case a22 => k_is); (case l22 => k_is); (case c22 => k_is); (case k22 => k_is); (case a23 => k_is); (case l23 => k_is); (case c23 => k_is); (case k23 => k_is); (case a24 => k_is); (case l24 => k_is); (case c24 => k_is); (case k24 => k_is); (case a25 => k_is); (case l25 => k_is); (case c25 => k_is); (case k25 => k_is); (case a26 => k_is); (case l26 => k_is); (case c26 => k_is); (case k26 => k_is); (case a27 => k_is); (case l27 => k_is); (case c27 => k_is); (case k27 => k_is); (case a28 => k_is); (case l28 => k_is); (case c28 => k_is); (case k28 => k_is); (case a29 => k_is); (case l29 => k_is); (case c29 => k_is); (case k29 => k_is); (case a30 => k_is); (case l30 => k_is); (case c30 => k_is); (case k30 => k_is); (case a31 => k_is); (case l31 => k_is); (case c31 => k_is); (case k31 => k_is); (case a32 => k_is); (case l32 => k_is); (case c32 => k_is); (case k32 => k_is); (case a33 => k_is); (case l33 => k_is); (case c33 => k_is); (case k33 => k_is); (case a34 => k_is); (case l34 => k_is); (case c34 => k_is); (case k34 => k_is); (case a35 => k_is); (case l35 => k_is); (case c35 => k_is); (case k35 => k_is); (case a36 => k_is); (case l36 => k_is); (case c36 => k_is); (case k36 => k_is); (case a37 => k_is); (case l37 => k_is); (case c37 => k_is); (case k37 => k_is); (case a38 => k_is); (case l38 => k_is); (case c38 => k_is); (case k38 => k_is); (case a39 => k_is); (case l39 => k_is); (case c39 => k_is); (case k39 => k_is); (case a40 => k_is); (case l40 => k_is); (case c40 => k_is); (case k40 => k_is); (case a41 => k_is); (case l41 => k_is); (case c41 => k_is); (case k41 => k_is); (case a42 => k_is); (case l42 => k_is); (case c42 => k_is); (case k42 => k_is); (case a43 => k_is); (case l43 => k_is); (case c43 => k_is); (case k43 => k_is); (case g_MOST_THINGS => k_is); (case g_MOST_LISTED => k_is); (case g_MOST_ORDERS => k_is); (case g_WAYS => k_is); (case l_WAYS => k_is); (case z_ValueError => k_is); (case z_abs => k_is); (case z_all => k_is); (case z_bool => k_is); (case z_enumerate => k_is); (case z_int => k_is); (case z_isinstance => k_is); (case z_len => k_is); (case z_list => k_is); (case z_max => k_is); (case z_min => k_is); (case z_range => k_is); (case z_sorted => k_is); (case z_str => k_is); (case z_tuple => k_is); (case z_zip => k_is)
    (case e_is_far => exact rfl); (case u_is_far => k_is); (case v_is_far => exact rfl); (case n_is_far => kernel_rfl)
    case tabn =>
      simp only [List.mem_cons, List.not_mem_nil, or_false] at hy
      rcases hy with rfl <;> decide +kernel

