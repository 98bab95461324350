import PyProof.Rows.All
import Wide.All
import OpenK.AllK
import Wide.FinOn
import HandS.ForMost
import HandS.IsInst
import HandS.Conv
import HandS.Style
import HandS.More
import HandS.Evl
import HandS.Zip
import HandS.SetFor
import HandS.Sort
import HandS.Wide
import HandS.Deep
import KE.SortData
import HandS.Flt
import HandS.SetBool
import HandS.TupSets
import PyProof.SetRoads
import HandS.SortKw
import KE.DatumOrd
import PySem.Challenge.RW_farorders_k54_not_sure_told
set_option Elab.async false
set_option linter.all false
set_option maxRecDepth 100000
namespace Fo
open PySem PySem.Spec PyProof.Rows L2
/-! ### lists and orders -/
def rg (n : Nat) : List Int := (List.range n).map fun k => ((k : Nat) : Int)
def IsOrd (n : Nat) (ns : List Int) : Prop := ns.Perm (rg n)
theorem rg_len (n : Nat) : (rg n).length = n := by
  unfold rg
  rw [List.length_map, List.length_range]
theorem rg_mem {n : Nat} {x : Int} : x ∈ rg n ↔ 0 ≤ x ∧ x < n := by
  unfold rg
  rw [List.mem_map]
  constructor
  · rintro ⟨k, hk, rfl⟩
    have := List.mem_range.mp hk
    omega
  · rintro ⟨h0, h1⟩
    exact ⟨x.toNat, List.mem_range.mpr (by omega), by omega⟩
theorem rg_nodup (n : Nat) : (rg n).Nodup := by
  unfold rg
  exact List.Pairwise.map _ (fun a b h e => h (by omega)) List.nodup_range
theorem rg_sorted (n : Nat) : (rg n).Pairwise (· ≤ ·) := by
  unfold rg
  exact List.Pairwise.map _ (fun a b h => by omega) List.pairwise_lt_range
theorem rg_V (n : Nat) : rgV 0 (n : Int) = (rg n).map V.int := by
  unfold rgV rg
  rw [List.map_map, show ((n : Int) - 0).toNat = n by omega]
  apply List.map_congr_left
  intro a _
  show V.int (0 + (a : Int)) = V.int (a : Int)
  rw [Int.zero_add]
theorem IsOrd.len {n : Nat} {ns : List Int} (h : IsOrd n ns) : ns.length = n := (List.Perm.length_eq h).trans (rg_len n)
theorem IsOrd.mem {n : Nat} {ns : List Int} (h : IsOrd n ns) {x : Int} (m : x ∈ ns) : 0 ≤ x ∧ x < n := rg_mem.mp ((List.Perm.mem_iff h).mp m)
theorem IsOrd.nodup {n : Nat} {ns : List Int} (h : IsOrd n ns) : ns.Nodup := (List.Perm.nodup_iff h).mpr (rg_nodup n)
/-- two sorted lists of the same things are one -/
theorem sorted_eq : ∀ {a b : List Int}, a.Perm b → a.Pairwise (· ≤ ·) → b.Pairwise (· ≤ ·) → a = b := by
  intro a b hp ha hb
  exact List.Perm.eq_of_pairwise (fun x y _ _ h1 h2 => by omega) ha hb hp
/-- the things at p and p + 1 change places -/
def sw (xs : List Int) (p : Nat) : List Int := (xs.set p (xs.getD (p + 1) 0)).set (p + 1) (xs.getD p 0)
theorem split2 : ∀ {xs : List Int} {p : Nat}, p + 1 < xs.length → ∃ A a b B, xs = A ++ a :: b :: B ∧ A.length = p
  | [], p, h => by simp at h
  | [_], p, h => by simp at h
  | a :: b :: r, 0, _ => ⟨[], a, b, r, rfl, rfl⟩
  | a :: b :: r, p + 1, h => by
    obtain ⟨A, x, y, B, e, l⟩ := split2 (xs := b :: r) (p := p) (by simpa using h)
    exact ⟨a :: A, x, y, B, by rw [e]; rfl, by rw [List.length_cons, l]⟩
theorem sw_at : ∀ (A : List Int) (a b : Int) (B : List Int), sw (A ++ a :: b :: B) A.length = A ++ b :: a :: B
  | [], a, b, B => rfl
  | x :: A, a, b, B => by
    have ih := sw_at A a b B
    unfold sw at ih ⊢
    show x :: _ = x :: _
    exact congrArg (x :: ·) ih
theorem sw_perm {xs : List Int} {p : Nat} (h : p + 1 < xs.length) : (sw xs p).Perm xs := by
  obtain ⟨A, a, b, B, rfl, rfl⟩ := split2 h
  rw [sw_at]
  exact List.Perm.append_left A (List.Perm.swap a b B)
theorem sw_len (xs : List Int) (p : Nat) : (sw xs p).length = xs.length := by
  unfold sw
  rw [List.length_set, List.length_set]
theorem sw_ord {n : Nat} {xs : List Int} {p : Nat} (o : IsOrd n xs) (h : p + 1 < n) : IsOrd n (sw xs p) :=
  (sw_perm (by rw [o.len]; exact h)).trans o
theorem sw_V {xs : List Int} {p : Nat} {a b : Int} (ha : xs[p]? = some a) (hb : xs[p + 1]? = some b) : ((xs.map V.int).set p (V.int b)).set (p + 1) (V.int a) = (sw xs p).map V.int := by
  unfold sw
  rw [List.getD_eq_getElem?_getD, List.getD_eq_getElem?_getD, ha, hb, List.map_set, List.map_set]
  rfl
theorem pop_ins {xs : List Int} {p : Nat} {a : Int} (h : p + 1 < xs.length) (ha : xs[p]? = some a) : (xs.eraseIdx p).take (p + 1) ++ [a] ++ (xs.eraseIdx p).drop (p + 1) = sw xs p := by
  obtain ⟨A, x, y, B, rfl, rfl⟩ := split2 h
  have ex : x = a := by
    rw [List.getElem?_append_right (Nat.le_refl _), Nat.sub_self] at ha
    exact Option.some.inj ha
  subst ex
  rw [sw_at, List.eraseIdx_append_of_length_le (Nat.le_refl _), Nat.sub_self]
  show (A ++ y :: B).take (A.length + 1) ++ [x] ++ (A ++ y :: B).drop (A.length + 1) = _
  rw [List.take_append, List.drop_append]
  have t : A.length + 1 - A.length = 1 := by omega
  rw [t, List.take_of_length_le (by omega), List.drop_of_length_le (by omega)]
  simp
/-- the order at a walk's end -/
def wEnd (xs : List Int) (ws : List Int) : List Int := ws.foldl (fun x p => sw x p.toNat) xs
theorem wEnd_more {xs ws : List Int} {i : Nat} {p : Int} (h : ws[i]? = some p) : wEnd xs (ws.take (i + 1)) = sw (wEnd xs (ws.take i)) p.toNat := by
  unfold wEnd
  rw [List.take_add_one, h, List.foldl_append]
  rfl
theorem wEnd_ord {n : Nat} {xs : List Int} (o : IsOrd n xs) : ∀ {ws : List Int}, (∀ p ∈ ws, 0 ≤ p ∧ p + 1 < n) → IsOrd n (wEnd xs ws) := by
  intro ws
  induction ws generalizing xs with
  | nil => intro _; exact o
  | cons p ws ih =>
    intro h
    have hp := h p List.mem_cons_self
    exact ih (sw_ord o (by omega)) fun q hq => h q (List.mem_cons_of_mem _ hq)
theorem nodup_len : ∀ {l m : List Int}, l.Nodup → (∀ x ∈ l, x ∈ m) → l.length ≤ m.length
  | [], m, _, _ => Nat.zero_le _
  | a :: l, m, hn, hs => by
    obtain ⟨h1, h2⟩ := List.nodup_cons.mp hn
    have ha := hs a List.mem_cons_self
    have ih := nodup_len (l := l) (m := m.erase a) h2 fun x hx => by
      have ne : x ≠ a := fun e => h1 (by rw [← e]; exact hx)
      exact (List.mem_erase_of_ne ne).mpr (hs x (List.mem_cons_of_mem _ hx))
    rw [List.length_erase_of_mem ha] at ih
    have : 0 < m.length := List.length_pos_of_mem ha
    rw [List.length_cons]
    omega
theorem int_at {ns : List Int} {i : Nat} {x : Int} (h : ns[i]? = some x) : (ns.map V.int)[i]? = some (V.int x) := by
  rw [List.getElem?_map, h]
  rfl
theorem int_at_inv {ns : List Int} {i : Nat} {v : V} (h : (ns.map V.int)[i]? = some v) : ∃ x, ns[i]? = some x ∧ v = V.int x := by
  rw [List.getElem?_map] at h
  cases e : ns[i]? with
  | none => rw [e] at h; cases h
  | some x => rw [e] at h; exact ⟨x, rfl, (Option.some.inj h).symm⟩
theorem line_small {n : Nat} (h : n ≤ 16777216) : n ≤ sizeLine := by rw [sizeLine_eq]; exact h
theorem line_lt {n : Nat} (h : n < 16777216) : n < sizeLine := by rw [sizeLine_eq]; exact h
/-! ### data of ints -/
theorem dp_ints {K : PySem.W.Frag} {H : Hp} : ∀ ns : List Int, DpAll K H (ns.map V.int) (ns.map PyData.int)
  | [] => .nil
  | n :: r => .cons (.int n) (dp_ints r)
theorem dp_list {K : PySem.W.Frag} {H : Hp} {a : Addr} {ns : List Int} (h : H a = some (.lst (ns.map V.int))) : Dp K H (.ref a) (.list (ns.map PyData.int)) := .lst (SqL.of h) (dp_ints ns)
theorem eqv_int (i j : Int) : PyData.eqv (.int i) (.int j) = (i == j) := rfl
end Fo
namespace Fo
open PySem PySem.Spec PyProof.Rows L2
abbrev dI (ns : List Int) : List PyData := ns.map PyData.int
abbrev dL (ns : List Int) : PyData := .list (dI ns)
abbrev dLL (l : List (List Int)) : PyData := .list (l.map dL)
theorem lay_ints : ∀ ns : List Int, PyData.canLayAll0 (dI ns) = true
  | [] => rfl
  | n :: r => by
    show (PyData.canLay0 (.int n) && PyData.canLayAll0 (dI r)) = true
    rw [lay_ints r]
    rfl
theorem depth_ints : ∀ ns : List Int, PyData.depthAll (dI ns) = 0
  | [] => by simp [PyData.depthAll]
  | n :: r => by
    show PyData.depthAll (.int n :: dI r) = 0
    rw [PyData.depthAll, depth_ints r]
    simp [PyData.depth]
theorem lay_list (ns : List Int) : PyData.canLay0 (dL ns) = true := by
  rw [PyData.canLay0]
  exact lay_ints ns
theorem depth_list (ns : List Int) : PyData.depth (dL ns) = 1 := by
  rw [PyData.depth, depth_ints]
theorem shaped_list (ns : List Int) : SeqAt.shaped (dL ns) = true := by
  unfold SeqAt.shaped
  rw [lay_list, depth_list]
  rfl
theorem lay_lists : ∀ l : List (List Int), PyData.canLayAll0 (l.map dL) = true
  | [] => rfl
  | n :: r => by
    show (PyData.canLay0 (dL n) && PyData.canLayAll0 (r.map dL)) = true
    rw [lay_lists r, lay_list]
    rfl
theorem depth_lists : ∀ l : List (List Int), PyData.depthAll (l.map dL) ≤ 1
  | [] => by simp [PyData.depthAll]
  | n :: r => by
    show PyData.depthAll (dL n :: r.map dL) ≤ 1
    rw [PyData.depthAll, depth_list]
    have := depth_lists r
    omega
theorem shaped_lists (l : List (List Int)) : SeqAt.shaped (dLL l) = true := by
  unfold SeqAt.shaped
  rw [Bool.and_eq_true_iff]
  constructor
  · rw [PyData.canLay0]
    exact lay_lists l
  · apply decide_eq_true
    rw [PyData.depth]
    have := depth_lists l
    omega
theorem eqv_list (ns : List Int) : PyData.eqv (dL ns) (dL ns) = true := SeqAt.eqv_refl _ (lay_list ns)
theorem eqv_lists (l : List (List Int)) : PyData.eqv (dLL l) (dLL l) = true := SeqAt.eqv_refl _ (SeqAt.canLay_of_shaped (shaped_lists l))
theorem eqvAll_ints : ∀ a b : List Int, PyData.eqvAll (dI a) (dI b) = decide (a = b)
  | [], [] => by simp [PyData.eqvAll]
  | [], _ :: _ => by simp [PyData.eqvAll]
  | _ :: _, [] => by simp [PyData.eqvAll]
  | x :: a, y :: b => by
    show PyData.eqvAll (.int x :: dI a) (.int y :: dI b) = _
    rw [PyData.eqvAll, eqvAll_ints a b]
    show ((x == y) && decide (a = b)) = decide (x :: a = y :: b)
    by_cases h : x = y
    · subst h
      simp
    · simp [h]
theorem eqv_ints (a b : List Int) : PyData.eqv (dL a) (dL b) = decide (a = b) := by
  rw [PyData.eqv]
  exact eqvAll_ints a b
end Fo
namespace Fo
open PySem PySem.Spec PyProof.Rows L2
/-! ### slices of ints -/
def cutI (ws : List Int) (lo hi : Option Int) : List Int := (ws.drop (HT.sIx ws.length 0 lo)).take (HT.sIx ws.length ws.length hi - HT.sIx ws.length 0 lo)
theorem cut_ints (ws : List Int) (lo hi : Option Int) : cutV (ws.map V.int) lo hi = (cutI ws lo hi).map V.int := by
  unfold cutV cutI
  rw [List.length_map, List.map_take, List.map_drop]
theorem cutI_mem {ws : List Int} {lo hi : Option Int} {x : Int} (h : x ∈ cutI ws lo hi) : x ∈ ws := List.mem_of_mem_drop (List.mem_of_mem_take h)
theorem cutI_len (ws : List Int) (lo hi : Option Int) : (cutI ws lo hi).length ≤ ws.length := by
  unfold cutI
  rw [List.length_take, List.length_drop]
  omega
theorem cutI_head (ws : List Int) (k : Nat) : cutI ws none (some (k : Int)) = ws.take k := by
  unfold cutI
  rw [HT.sIx_none, HT.sIx_nat, List.drop_zero, Nat.sub_zero]
  by_cases h : k ≤ ws.length
  · rw [Nat.min_eq_left h]
  · rw [Nat.min_eq_right (by omega), List.take_length, List.take_of_length_le (by omega)]
theorem cutI_tail (ws : List Int) (k : Nat) : cutI ws (some (k : Int)) none = ws.drop k := by
  unfold cutI
  rw [HT.sIx_none, HT.sIx_nat]
  by_cases h : k ≤ ws.length
  · rw [Nat.min_eq_left h, List.take_of_length_le (by rw [List.length_drop]; exact Nat.le_refl _)]
  · rw [Nat.min_eq_right (by omega), List.drop_of_length_le (Nat.le_refl _), List.drop_of_length_le (by omega), List.take_nil]
end Fo
namespace Fo
open PySem PySem.Spec PyProof.Rows L2
/-! ### the text -/
def topS (i : Nat) : Stmt := PySem.Challenge.pw_farorders_k54_not_sure_told.main.body.getD i (.Pass ⟨0, 0, 0, 0⟩)
abbrev s_OrderError : Stmt := topS 1
abbrev s_NoOrder : Stmt := topS 2
abbrev s_NoWay : Stmt := topS 3
abbrev s_NoFit : Stmt := topS 4
abbrev s_NoNumber : Stmt := topS 5
abbrev s_is_whole : Stmt := topS 8
abbrev s_check_way : Stmt := topS 9
abbrev s_check_from : Stmt := topS 10
abbrev s_is_order : Stmt := topS 15
abbrev s_check_listed : Stmt := topS 16
abbrev s_is_order_list : Stmt := topS 17
abbrev s_is_unlike_list : Stmt := topS 18
abbrev s_places_in : Stmt := topS 19
abbrev s_seats_in : Stmt := topS 20
abbrev s_known_far : Stmt := topS 21
abbrev s_far_by_swap : Stmt := topS 22
abbrev s_far_by_spot : Stmt := topS 23
abbrev s_far_by_shift : Stmt := topS 24
abbrev s_all_orders : Stmt := topS 25
abbrev s_orders_with : Stmt := topS 26
abbrev s_check_unlike_list : Stmt := topS 28
abbrev s_those_within : Stmt := topS 29
abbrev s_not_sure : Stmt := topS 30
abbrev s_check_sure : Stmt := topS 31
abbrev s_law_pool : Stmt := topS 33
abbrev s_law_take : Stmt := topS 34
abbrev s_law_far : Stmt := topS 35
abbrev s_law_order : Stmt := topS 36
abbrev s_law_near : Stmt := topS 37
abbrev s_law_many : Stmt := topS 38
abbrev s_law_orders : Stmt := topS 39
abbrev s_law_apart : Stmt := topS 40
abbrev s_law_ways : Stmt := topS 41
abbrev s_law_all : Stmt := topS 42
abbrev s_law_is_order : Stmt := topS 43
abbrev s_law_are_orders : Stmt := topS 44
abbrev s_law_is_number : Stmt := topS 45
abbrev s_law_copies : Stmt := topS 46
abbrev s_law_due : Stmt := topS 47
abbrev s_law_right : Stmt := topS 48
abbrev s_law_three_apart : Stmt := topS 49
abbrev s_law : Stmt := topS 50
/-- a def of the text, where it stands -/
structure Df (K : PySem.W.Frag) (mg : Str → Option Value) (x : Str) (st : Stmt) (ps : List Str) (f : Addr) (fd : FuncData) : Prop where
  F : Fun K x x st f fd
  b : Binds K fd ps []
  g : mg x = some (.ref f)
/-- the built-in names as they were -/
structure Bi (mg : Str → Option Value) : Prop where
  ValueError : mg "ValueError" = none
  abs : mg "abs" = none
  all : mg "all" = none
  bool : mg "bool" = none
  enumerate : mg "enumerate" = none
  int : mg "int" = none
  isinstance : mg "isinstance" = none
  len : mg "len" = none
  list : mg "list" = none
  max : mg "max" = none
  min : mg "min" = none
  range : mg "range" = none
  sorted : mg "sorted" = none
  str : mg "str" = none
  tuple : mg "tuple" = none
  zip : mg "zip" = none
end Fo
namespace Fo
open PySem PySem.Spec PyProof.Rows L2
theorem same_new {H : Hp} {p : Addr} {o : HO} (h : H p = none) : Same H (upd H p o) := fun b x e => by
  rw [upd_ne (ne_of_none e h)]
  exact e
theorem at2_0 {x y : V} : atI [x, y] 0 = some x := rfl
theorem at2_1 {x y : V} : atI [x, y] 1 = some y := rfl
end Fo
namespace Fo
open PySem PySem.Spec PyProof.Rows L2
theorem pop_perm : ∀ {xs : List Int} {k : Nat} {y : Int}, xs[k]? = some y → (y :: xs.eraseIdx k).Perm xs
  | [], k, y, h => by simp at h
  | a :: r, 0, y, h => by
    have e : a = y := Option.some.inj h
    subst e
    exact List.Perm.refl _
  | a :: r, k + 1, y, h => by
    have ih := pop_perm (xs := r) (k := k) (y := y) h
    show (y :: a :: r.eraseIdx k).Perm (a :: r)
    exact (List.Perm.swap a y _).trans (List.Perm.cons a ih)
theorem map_erase : ∀ (xs : List Int) (k : Nat), (xs.map V.int).eraseIdx k = (xs.eraseIdx k).map V.int
  | [], k => rfl
  | a :: r, 0 => rfl
  | a :: r, k + 1 => congrArg (V.int a :: ·) (map_erase r k)
/-- what len asks of a list or a tuple -/
abbrev rLenS (K : PySem.W.Frag) : List V → Hp → VK → Prop := fun xs H Q => ∃ p ys, xs = [.ref p] ∧ (SqL K H p ys ∨ SqT K H p ys) ∧ Q (.int ys.length) H
theorem seq_ix {i : Int} {k n : Nat} (e : i = (k : Int)) (h : k < n) : seqIndex? i n = some k := by
  subst e
  unfold seqIndex?
  have h1 : ¬ ((k : Int) < 0) := by omega
  simp only [h1, if_false]
  have h2 : (decide ((0 : Int) ≤ (k : Int)) && decide ((k : Int) < (n : Int))) = true := by
    simp
    omega
  rw [if_pos h2, Int.toNat_natCast]
theorem ix_n {i : Int} {k n : Nat} (e : i = (k : Int)) (h : k < n) : ixN n i = some k := by
  subst e
  unfold ixN
  rw [if_pos (by omega), if_pos (by omega), Int.toNat_natCast]
end Fo
namespace Fo
open PySem PySem.Spec PyProof.Rows L2
abbrev rMax2 : List V → Hp → VK → Prop := fun xs H Q => ∃ i j, xs = [.int i, .int j] ∧ Q (.int (if j > i then j else i)) H
abbrev rMin2 : List V → Hp → VK → Prop := fun xs H Q => ∃ i j, xs = [.int i, .int j] ∧ Q (.int (if j < i then j else i)) H
abbrev rInt1 : List V → Hp → VK → Prop := fun xs H Q => (∃ i, xs = [.int i] ∧ Q (.int i) H) ∨ ∃ k, xs = [.bl k] ∧ Q (.int (if k then 1 else 0)) H
theorem filter_more {l : List Int} {m : Nat} {x : Int} (p : Int → Bool) (h : l[m]? = some x) : (l.take (m + 1)).filter p = (l.take m).filter p ++ (if p x then [x] else []) := by
  rw [List.take_add_one, h, List.filter_append]
  show _ ++ List.filter p [x] = _
  rw [List.filter_cons]
  rfl
end Fo
namespace Fo
open PySem PySem.Spec PyProof.Rows L2
theorem set2_perm {xs : List Int} {p q : Nat} {a b : Int} (ha : xs[p]? = some a) (hb : xs[q]? = some b) : ((xs.set p b).set q a).Perm xs := by
  obtain ⟨h1, e1⟩ := List.getElem?_eq_some_iff.mp ha
  obtain ⟨h2, e2⟩ := List.getElem?_eq_some_iff.mp hb
  rw [← e1, ← e2]
  exact List.set_set_perm h1 h2
theorem set2_V (xs : List Int) (p q : Nat) (a b : Int) : ((xs.map V.int).set p (V.int b)).set q (V.int a) = ((xs.set p b).set q a).map V.int := by
  rw [List.map_set, List.map_set]
end Fo
namespace Fo
open PySem PySem.Spec PyProof.Rows L2
/-! ### lists of lists -/
def LL (H : Hp) : List Addr → List (List Int) → Prop
  | [], [] => True
  | a :: as, r :: rs => H a = some (.lst (r.map V.int)) ∧ LL H as rs
  | _, _ => False
theorem LL.len {H : Hp} : ∀ {as : List Addr} {rs : List (List Int)}, LL H as rs → as.length = rs.length
  | [], [], _ => rfl
  | [], _ :: _, h => h.elim
  | _ :: _, [], h => h.elim
  | a :: as, r :: rs, h => by rw [List.length_cons, List.length_cons, LL.len h.2]
theorem LL.keep {H H' : Hp} : ∀ {as : List Addr} {rs : List (List Int)}, LL H as rs → (∀ a ∈ as, ∀ o, H a = some o → H' a = some o) → LL H' as rs
  | [], [], _, _ => trivial
  | [], _ :: _, h, _ => h.elim
  | _ :: _, [], h, _ => h.elim
  | a :: as, r :: rs, h, k => ⟨k a List.mem_cons_self _ h.1, LL.keep h.2 fun b hb => k b (List.mem_cons_of_mem _ hb)⟩
theorem LL.same {H H' : Hp} {as : List Addr} {rs : List (List Int)} (h : LL H as rs) (s : Same H H') : LL H' as rs := h.keep fun a _ o e => s a o e
theorem LL.get {H : Hp} : ∀ {as : List Addr} {rs : List (List Int)} {i : Nat} {a : Addr}, LL H as rs → as[i]? = some a → ∃ r, rs[i]? = some r ∧ H a = some (.lst (r.map V.int))
  | [], [], _, _, _, e => by simp at e
  | [], _ :: _, _, _, h, _ => h.elim
  | _ :: _, [], _, _, h, _ => h.elim
  | a :: as, r :: rs, 0, b, h, e => by
    have e2 : a = b := Option.some.inj e
    subst e2
    exact ⟨r, rfl, h.1⟩
  | a :: as, r :: rs, i + 1, b, h, e => LL.get (i := i) h.2 e
theorem LL.tracked {H : Hp} {as : List Addr} {rs : List (List Int)} (h : LL H as rs) {a : Addr} (ha : a ∈ as) : ∃ o, H a = some o := by
  obtain ⟨i, hi⟩ := List.mem_iff_getElem?.mp ha
  obtain ⟨r, _, e⟩ := h.get hi
  exact ⟨_, e⟩
theorem LL.snoc {H : Hp} : ∀ {as : List Addr} {rs : List (List Int)} {a : Addr} {r : List Int}, LL H as rs → H a = some (.lst (r.map V.int)) → LL H (as ++ [a]) (rs ++ [r])
  | [], [], _, _, _, e => ⟨e, trivial⟩
  | [], _ :: _, _, _, h, _ => h.elim
  | _ :: _, [], _, _, h, _ => h.elim
  | b :: as, s :: rs, _, _, h, e => ⟨h.1, LL.snoc h.2 e⟩
theorem LL.drop {H : Hp} : ∀ {as : List Addr} {rs : List (List Int)} (k : Nat), LL H as rs → LL H (as.drop k) (rs.drop k)
  | as, rs, 0, h => h
  | [], [], k + 1, _ => trivial
  | [], _ :: _, _ + 1, h => h.elim
  | _ :: _, [], _ + 1, h => h.elim
  | _ :: as, _ :: rs, k + 1, h => LL.drop k h.2
theorem dp_LL {K : PySem.W.Frag} {H : Hp} : ∀ {as : List Addr} {rs : List (List Int)}, LL H as rs → DpAll K H (as.map V.ref) (rs.map dL)
  | [], [], _ => .nil
  | [], _ :: _, h => h.elim
  | _ :: _, [], h => h.elim
  | _ :: _, _ :: _, h => .cons (dp_list h.1) (dp_LL h.2)
theorem dp_lists {K : PySem.W.Frag} {H : Hp} {l : Addr} {as : List Addr} {rs : List (List Int)} (hl : H l = some (.lst (as.map V.ref))) (h : LL H as rs) : Dp K H (.ref l) (dLL rs) := .lst (SqL.of hl) (dp_LL h)
theorem ref_at {as : List Addr} {i : Nat} {a : Addr} (h : as[i]? = some a) : (as.map V.ref)[i]? = some (V.ref a) := by
  rw [List.getElem?_map, h]
  rfl
theorem ref_at_inv {as : List Addr} {i : Nat} {v : V} (h : (as.map V.ref)[i]? = some v) : ∃ a, as[i]? = some a ∧ v = V.ref a := by
  rw [List.getElem?_map] at h
  cases e : as[i]? with
  | none => rw [e] at h; cases h
  | some x => rw [e] at h; exact ⟨x, rfl, (Option.some.inj h).symm⟩
theorem cutV_tail (xs : List V) (k : Nat) : cutV xs (some (k : Int)) none = xs.drop k := by
  unfold cutV
  rw [HT.sIx_none, HT.sIx_nat]
  by_cases h : k ≤ xs.length
  · rw [Nat.min_eq_left h, List.take_of_length_le (by rw [List.length_drop]; exact Nat.le_refl _)]
  · rw [Nat.min_eq_right (by omega), List.drop_of_length_le (Nat.le_refl _), List.drop_of_length_le (by omega), List.take_nil]
end Fo
namespace Fo
open PySem PySem.Spec PyProof.Rows L2
/-! ### a pool: three numbers, of which others are drawn -/
def PoolAt (H : Hp) (d : Addr) (c : Nat) : Prop := ∃ a b s : Int, H d = some (.lst [.int a, .int b, .int s]) ∧ 0 ≤ s ∧ s ≤ c
def KeepD (d : Addr) (H H' : Hp) : Prop := ∀ b o, H b = some o → b ≠ d → H' b = some o
theorem KeepD.refl (d : Addr) (H : Hp) : KeepD d H H := fun _ _ e _ => e
theorem KeepD.trans {d : Addr} {H H1 H2 : Hp} (a : KeepD d H H1) (b : KeepD d H1 H2) : KeepD d H H2 := fun c o e f => b c o (a c o e f) f
theorem KeepD.of_same {d : Addr} {H H' : Hp} (h : Same H H') : KeepD d H H' := fun b o e _ => h b o e
theorem KeepD.none {d : Addr} {H H1 : Hp} (k : KeepD d H H1) {p : Addr} (np : H1 p = none) (nf : p ≠ d) : H p = none := by
  cases e : H p with
  | none => rfl
  | some o =>
    have z := k p o e nf
    rw [np] at z
    cases z
theorem PoolAt.same {H H' : Hp} {d : Addr} {c : Nat} (h : PoolAt H d c) (s : Same H H') : PoolAt H' d c := by
  obtain ⟨a, b, t, e, r⟩ := h
  exact ⟨a, b, t, s _ _ e, r⟩
theorem PoolAt.mono {H : Hp} {d : Addr} {c c' : Nat} (h : PoolAt H d c) (hc : c ≤ c') : PoolAt H d c' := by
  obtain ⟨a, b, t, e, h0, h1⟩ := h
  exact ⟨a, b, t, e, h0, by omega⟩
theorem PoolAt.ne {H : Hp} {d : Addr} {c : Nat} (h : PoolAt H d c) {p : Addr} (e : H p = none) : p ≠ d := by
  obtain ⟨a, b, t, e1, _⟩ := h
  exact (ne_of_none e1 e).symm
theorem PoolAt.upd {H : Hp} {d : Addr} {c : Nat} (h : PoolAt H d c) {p : Addr} {o : HO} (n1 : p ≠ d) : PoolAt (upd H p o) d c := by
  obtain ⟨a, b, t, e, r⟩ := h
  exact ⟨a, b, t, by rw [upd_ne n1.symm]; exact e, r⟩
def spPool (K : PySem.W.Frag) : Sp := fun vs H Q _ => ∃ (a : Addr) (ns : List Int) (k : Nat), vs = [.ref a, .int k] ∧ SqL K H a (ns.map V.int) ∧ ns.length ≤ 63 ∧ k < 63 ∧ ∀ (d : Addr) (H' : Hp), H d = none → PoolAt H' d 5000 → Same H H' → Q (.ref d) H'
def spTake : Sp := fun vs H Q _ => ∃ (d : Addr) (many : Int) (c : Nat), vs = [.ref d, .int many] ∧ PoolAt H d c ∧ c < 1048576 ∧ 0 < many ∧ many < 1073741824 ∧ ∀ (v : Int) (H' : Hp), 0 ≤ v → v < many → PoolAt H' d (c + 1) → KeepD d H H' → Q (.int v) H'
def spFarN : Sp := fun vs H Q _ => ∃ (d : Addr) (c : Nat), vs = [.ref d] ∧ PoolAt H d c ∧ c + 5 < 1048576 ∧ ∀ (v : Int) (H' : Hp), 0 ≤ v → PoolAt H' d (c + 5) → KeepD d H H' → Q (.int v) H'
theorem mod_b (x : Int) {m : Int} (h : 0 < m) : 0 ≤ x % m ∧ x % m < m := ⟨Int.emod_nonneg x (by omega), Int.emod_lt_of_pos x h⟩
theorem mul_b {x y a b : Int} (hx : 0 ≤ x) (hxa : x ≤ a) (hy : 0 ≤ y) (hyb : y ≤ b) : 0 ≤ x * y ∧ x * y ≤ a * b := ⟨Int.mul_nonneg hx hy, Int.mul_le_mul hxa hyb hy (by omega)⟩
theorem at3_0 {x y z : V} : atI [x, y, z] 0 = some x := rfl
theorem at3_1 {x y z : V} : atI [x, y, z] 1 = some y := rfl
theorem at3_2 {x y z : V} : atI [x, y, z] 2 = some z := rfl
section
variable {P : Program} {w : World} {K : PySem.W.Frag} {mg : Str → Option Value} {base : Heap}
theorem scTake : FnScope ["pool", "many", "found", "step", "mark"] ["pool", "many"] (defScope s_law_take) := ⟨rfl, rfl, rfl, by decide +kernel, rfl, by decide +kernel, by decide +kernel⟩
set_option maxHeartbeats 1000000 in
theorem ok_take {f : Addr} {fd : FuncData} {k : Nat} (T : Df K mg "_law_take" s_law_take ["pool", "many"] f fd) (B : Bi mg) : FnOk P w K mg base CX0 (k + 1) f fd ["pool", "many"] spTake := by
  refine T.F.ok scTake (fun vs H Q E h => ?_) (fun cdv A outer s H vs Q E hr h => ?_)
  · obtain ⟨d, m, c, rfl, _⟩ := h
    rfl
  · obtain ⟨d, m, c, rfl, ⟨a, b, st, hd, s0, s1⟩, hc, hm, hm2, q⟩ := h
    refine ⟨_, 
      (pss_cons (ps_if (pt_cmpR op_eq (pe_ix ix_list (pv 0) pe_int (fun _ _ => rfl)) pe_int (nomark _))
        (pss_cons (ps_set (i := 2) scTake.nd rfl (.inl rfl) (pe_op op_mod (pe_ix ix_list (pv 0) pe_int (fun _ _ => rfl)) (pv 1)))
        (pss_cons (ps_asg (pe_op op_fdiv (pe_ix ix_list (pv 0) pe_int (fun _ _ => rfl)) (pv 1)) (pg_sub (pv 0) pe_int set_list))
        (pss_one (ps_ret (pv 2)))))
        pss_nil)
      (pss_cons (ps_asg (pe_op op_add (pe_ix ix_list (pv 0) pe_int (fun _ _ => rfl)) pe_int) (pg_sub (pv 0) pe_int set_list))
      (pss_cons (ps_set (i := 3) scTake.nd rfl (.inl rfl) (pe_ix ix_list (pv 0) pe_int (fun _ _ => rfl)))
      (Evl.pss_cut (ps_set (i := 4) scTake.nd rfl (.inl rfl) (pe_op op_mul (pe_op op_add (pe_op op_mod (pe_ix ix_list (pv 0) pe_int (fun _ _ => rfl)) pe_int) pe_int) (pe_op op_add (pe_op op_mul pe_int (pv 3)) pe_int)))
      (Evl.pss_cut (ps_set (i := 4) scTake.nd rfl (.inl rfl) (pe_op op_add (pv 4) (pe_op op_mul (pe_op op_mul pe_int (pv 3)) (pv 3))))
      (Evl.pss_cut (ps_set (i := 4) scTake.nd rfl (.inl rfl) (pe_op op_mod (pe_op op_mul (pv 4) (pv 4)) pe_int))
      (pss_one (ps_ret (pe_op op_mod (pe_op op_fdiv (pe_op op_mod (pe_op op_mul (pv 4) (pe_op op_add (pv 4) pe_int)) pe_int) pe_int) (pv 1)))))))))), ?_⟩
    refine ⟨_, rfl, d, _, 1, _, rfl, rfl, SqL.of hd, at3_1, rfl, _, rfl, ite2 (fun _ => ?_) (fun _ => ?_)⟩
    · refine ⟨_, rfl, d, _, 0, _, rfl, rfl, SqL.of hd, at3_0, _, rfl, a, m, rfl, rfl, hm, ?_⟩
      refine ⟨_, rfl, d, _, 0, _, rfl, rfl, SqL.of hd, at3_0, _, rfl, a, m, rfl, rfl, ⟨hm, hm2⟩, _, rfl, d, _, 0, 0, rfl, rfl, hd, rfl, ?_⟩
      obtain ⟨c1, c2⟩ := mod_b a hm
      exact ⟨_, rfl, q _ _ c1 c2 ⟨a / m, b, st, upd_same, s0, by omega⟩ fun b o e nb => by rw [upd_ne nb]; exact e⟩
    · refine ⟨_, rfl, d, _, 2, _, rfl, rfl, SqL.of hd, at3_2, st, 1, rfl, rfl, _, rfl, d, _, 2, 2, rfl, rfl, hd, rfl, ?_⟩
      have hd1 : (upd H d (.lst [.int a, .int b, .int (st + 1)])) d = some (.lst [.int a, .int b, .int (st + 1)]) := upd_same
      have kp : KeepD d H (upd H d (.lst [.int a, .int b, .int (st + 1)])) := fun b o e nb => by rw [upd_ne nb]; exact e
      show _
      refine ⟨_, rfl, d, _, 2, _, rfl, rfl, SqL.of hd1, at3_2, ?_⟩
      have kp2 : (upd H d (.lst (([.int a, .int b, .int st] : List V).set 2 (.int (st + 1))))) = upd H d (.lst [.int a, .int b, .int (st + 1)]) := rfl
      rw [kp2]
      generalize upd H d (.lst [.int a, .int b, .int (st + 1)]) = H1 at hd1 kp ⊢
      obtain ⟨m1, m2⟩ := mod_b a (m := 9999999463) (by decide)
      refine ⟨fun τ G => ∃ x : Int, 0 ≤ x ∧ x ≤ 640000000000000000 ∧ τ = [some (.ref d), some (.int m), none, some (.int (st + 1)), some (.int x)] ∧ G = H1, ?_, fun τ G hM => ?_⟩
      · obtain ⟨z1, z2⟩ := mul_b (x := a % 9999999463 + 1039) (y := 61 * (st + 1) + 97) (a := 10000000502) (b := 63963294) (by omega) (by omega) (by omega) (by omega)
        exact ⟨_, rfl, d, _, 0, _, rfl, rfl, SqL.of hd1, at3_0, _, 9999999463, rfl, rfl, (show (0 : Int) < 9999999463 by decide), _, 1039, rfl, rfl, _, rfl, 61, _, rfl, rfl, .inl ⟨by decide, by decide⟩, _, 97, rfl, rfl, _, _, rfl, rfl, .inl ⟨by omega, by omega⟩, _, z1, Int.le_trans z2 (by decide), rfl, rfl⟩
      obtain ⟨x, x0, x1, rfl, e1⟩ := hM
      subst e1
      refine ⟨fun τ G' => ∃ y : Int, 0 ≤ y ∧ y ≤ 645000000000000000 ∧ τ = [some (.ref d), some (.int m), none, some (.int (st + 1)), some (.int y)] ∧ G' = G, ?_, fun τ G' hM => ?_⟩
      · obtain ⟨z1, z2⟩ := mul_b (x := 3617 * (st + 1)) (y := st + 1) (a := 3792699392) (b := 1048576) (by omega) (by omega) (by omega) (by omega)
        exact ⟨_, rfl, _, rfl, 3617, _, rfl, rfl, .inl ⟨by decide, by decide⟩, _, rfl, _, _, rfl, rfl, .inr ⟨by omega, by omega⟩, x, _, rfl, rfl, _, by omega, by omega, rfl, rfl⟩
      obtain ⟨y, y0, y1, rfl, e1⟩ := hM
      subst e1
      refine ⟨fun τ G'' => ∃ z : Int, 0 ≤ z ∧ z < 99999999547 ∧ τ = [some (.ref d), some (.int m), none, some (.int (st + 1)), some (.int z)] ∧ G'' = G', ?_, fun τ G'' hM => ?_⟩
      · exact ⟨_, rfl, _, rfl, y, y, rfl, rfl, .inl ⟨by omega, by omega⟩, _, 99999999547, rfl, rfl, (show (0 : Int) < 99999999547 by decide), _, (mod_b _ (by decide)).1, (mod_b _ (by decide)).2, rfl, rfl⟩
      obtain ⟨z, z0, z1, rfl, e1⟩ := hM
      subst e1
      obtain ⟨c1, c2⟩ := mod_b (z * (z + 73) % 99999999829 / 131) hm
      exact ⟨_, rfl, _, rfl, z, 73, rfl, rfl, z, _, rfl, rfl, .inl ⟨by omega, by omega⟩, _, 99999999829, rfl, rfl, (show (0 : Int) < 99999999829 by decide), _, 131, rfl, rfl, ⟨by decide, by decide⟩, _, rfl, _, m, rfl, rfl, hm, q _ _ c1 c2 ⟨a, b, st + 1, hd1, by omega, by omega⟩ kp⟩
theorem scPool : FnScope ["script", "k", "cell"] ["script", "k"] (defScope s_law_pool) := ⟨rfl, rfl, rfl, by decide +kernel, rfl, by decide +kernel, by decide +kernel⟩
theorem ok_pool {f : Addr} {fd : FuncData} {k : Nat} (T : Df K mg "_law_pool" s_law_pool ["script", "k"] f fd) (B : Bi mg) : FnOk P w K mg base CX0 (k + 1) f fd ["script", "k"] (spPool K) := by
  refine T.F.ok scPool (fun vs H Q E h => ?_) (fun cdv A outer s H vs Q E hr h => ?_)
  · obtain ⟨a, ns, k, rfl, _⟩ := h
    rfl
  · obtain ⟨a, ns, k, rfl, hS, hlen, hk, q⟩ := h
    refine ⟨_, 
      (pss_cons (ps_set (i := 2) scPool.nd rfl (.inl rfl) pe_int)
      (Evl.pss_cut (ps_if (pt_cmpR op_lt (pv 1) (pe_callB call_len_seq (by rfl) B.len PySem.boot_len (pa_cons (pv 0) pa_nil)) (nomark _))
        (pss_one (ps_set (i := 2) scPool.nd rfl (.inl rfl) (pe_ix ix_list (pv 0) (pv 1) (fun _ _ => rfl))))
        pss_nil)
      (pss_cons (ps_if (pt_cmpR op_ge (pv 2) (pe_op op_pow pe_int pe_int) (nomark _))
        (pss_one (ps_ret (pe_lst (pa_cons (pe_op op_sub (pv 2) (pe_op op_pow pe_int pe_int)) (pa_cons pe_int (pa_cons pe_int pa_nil))))))
        pss_nil)
      (pss_one (ps_ret (pe_lst (pa_cons (pv 2) (pa_cons pe_int (pa_cons (pe_op op_mul pe_int (pv 1)) pa_nil))))))))), ?_⟩
    refine ⟨fun τ G => ∃ x : Int, τ = [some (.ref a), some (.int k), some (.int x)] ∧ G = H, ?_, fun τ G hM => ?_⟩
    · refine ⟨_, rfl, _, rfl, a, _, rfl, .inl hS, (k : Int), _, rfl, rfl, _, rfl, ite2 (fun c => ?_) (fun _ => ⟨0, rfl, rfl⟩)⟩
      have hl : (k : Int) < (((ns.map V.int).length : Nat) : Int) := of_decide_eq_true c
      rw [List.length_map] at hl
      exact ⟨_, rfl, _, rfl, a, _, _, _, rfl, rfl, hS, at_of (j := k) rfl (int_at (List.getElem?_eq_getElem (show k < ns.length by omega))), _, rfl, rfl⟩
    obtain ⟨x, rfl, rfl⟩ := hM
    refine ⟨_, rfl, 10, 18, rfl, rfl, ⟨by decide, by decide, by decide⟩, x, _, rfl, rfl, _, rfl, ite2 (fun _ => ?_) (fun _ => ?_)⟩
    · refine ⟨_, rfl, 10, 18, rfl, rfl, ⟨by decide, by decide, by decide⟩, x, _, rfl, rfl, line_small (by show 3 ≤ 16777216; decide), fun d nd => ?_⟩
      exact q d _ nd ⟨_, 1, 0, upd_same, by omega, by omega⟩ (same_new nd)
    · refine ⟨_, rfl, _, rfl, 71, (k : Int), rfl, rfl, .inl ⟨by decide, by decide⟩, line_small (by show 3 ≤ 16777216; decide), fun d nd => ?_⟩
      exact q d _ nd ⟨_, 0, _, upd_same, by omega, by omega⟩ (same_new nd)
end
end Fo
namespace Fo
open PySem PySem.Spec PyProof.Rows L2
theorem PoolAt.new {H : Hp} {d : Addr} {c : Nat} (h : PoolAt H d c) {p : Addr} {o : HO} (e : H p = none) : PoolAt (L2.upd H p o) d c := h.upd (h.ne e)
theorem KeepD.new {d : Addr} {H : Hp} {p : Addr} {o : HO} (e : H p = Option.none) : KeepD d H (upd H p o) := KeepD.of_same (same_new e)
def spOrderP : Sp := fun vs H Q _ => ∃ (d : Addr) (n c : Nat), vs = [.ref d, .int n] ∧ PoolAt H d c ∧ n ≤ 12 ∧ c + 12 < 1048576 ∧
  ∀ (ns : List Int) (l : Addr) (H' : Hp), IsOrd n ns → H l = none → H' l = some (.lst (ns.map V.int)) → l ≠ d → PoolAt H' d (c + 12) → KeepD d H H' → Q (.ref l) H'
section
variable {P : Program} {w : World} {K : PySem.W.Frag} {mg : Str → Option Value} {base : Heap}
theorem scOrderP : FnScope ["pool", "n", "left", "k"] ["pool", "n"] (defScope s_law_order) := ⟨rfl, rfl, rfl, by decide +kernel, rfl, by decide +kernel, by decide +kernel⟩
set_option maxHeartbeats 4000000 in
theorem ok_ordP {f fD : Addr} {fd fdD : FuncData} {k : Nat} (T : Df K mg "_law_order" s_law_order ["pool", "n"] f fd) (T__law_take : Df K mg "_law_take" s_law_take ["pool", "many"] fD fdD) (G__law_take : FnOk P w K mg base CX0 k fD fdD ["pool", "many"] spTake) (B : Bi mg) : FnOk P w K mg base CX0 (k + 1) f fd ["pool", "n"] spOrderP := by
  refine T.F.ok scOrderP (fun vs H Q E h => ?_) (fun cdv A outer s H vs Q E hr h => ?_)
  · obtain ⟨D, n, c, rfl, _⟩ := h
    rfl
  · obtain ⟨d, n, c, rfl, hD, hn2, hc, q⟩ := h
    refine ⟨_, 
      (pss_cons (ps_set (i := 2) scOrderP.nd rfl (.inr rfl) (pe_listRg rfl (by rfl) B.list (prg_1 (by rfl) B.range (pv 1))))
      (pss_one (ps_ret (pe_lc (own := [("k", 3)]) (g := (gName 3)) (tt := tYes) (te := (tBM K "list" rPopAt (tVar 2) (tCons (tCall spTake [] E0 (tCons (tVar 0) (tCons (tCB (rLenS K) (tCons (tVar 2) tNil)) tNil))) tNil))) rfl scOrderP.nd (pi_range1 (by rfl) B.range (pa_cons (pv 1) pa_nil)) (blkOk_by (N := ["pool", "n", "left", "k"]) (sc := defScope s_law_order) (by decide +kernel)) (fun _ _ _ _ _ => (pg_name (i := 3) scOrderP.nd rfl (.inl rfl))) (fun _ _ _ _ _ => pts_nil) (fun _ _ _ _ _ => (pe_bm PySem.F.plainAttrs_list PySem.F.slot_list_pop PySem.F.type_list_pop mt_popAt (pv 2) (pa_cons (pe_call G__law_take hr (by rfl) T__law_take.g T__law_take.F.kp T__law_take.b .nil pass0 (pa_cons (pv 0) (pa_cons (pe_callB call_len_seq (by rfl) B.len PySem.boot_len (pa_cons (pv 2) pa_nil)) pa_nil))) pa_nil))))))), ?_⟩
    refine ⟨_, rfl, n, rfl, RgOk.of_le (by omega) (by omega) (by omega) (by omega), fun l nl => ?_⟩
    have hl0 : (upd H l (.lst (rgV 0 (n : Int)))) l = some (.lst ((rg n).map V.int)) := by rw [upd_same, rg_V]
    have D0 := hD.new (o := .lst (rgV 0 (n : Int))) nl
    have nf := hD.ne nl
    have k0 : KeepD d H (upd H l (.lst (rgV 0 (n : Int)))) := KeepD.new nl
    refine ⟨_, rfl, n, rfl, by omega, by omega, ?_⟩
    rw [Int.toNat_natCast]
    intro p np
    have npf := D0.ne np
    have lp : l ≠ p := ne_of_none hl0 np
    refine lc_range (lo := 0) (n := n) (fun i H3 => ∃ (rest acc : List Int), (acc ++ rest).Perm (rg n) ∧ acc.length = i ∧ H3 l = some (.lst (rest.map V.int)) ∧ H3 p = some (.lst (acc.map V.int)) ∧ PoolAt H3 d (c + i) ∧ ∀ b o, H b = some o → b ≠ d → H3 b = some o)
      ⟨rg n, [], List.Perm.refl _, rfl, by rw [upd_ne lp]; exact hl0, upd_same, D0.new np, fun b o e f => by rw [upd_ne (ne_of_none (k0 b o e f) np)]; exact k0 b o e f⟩ (fun i H3 hi hP => ?_) (fun H3 hP => ?_)
    · obtain ⟨rest, acc, hperm, el, hl3, hp3, D3, kp3⟩ := hP
      have hlen : rest.length = n - i := by
        have := List.Perm.length_eq hperm
        rw [List.length_append, rg_len] at this
        omega
      have hlm : (rest.map V.int).length = rest.length := List.length_map _
      refine ⟨rfl, ?_⟩
      refine ⟨_, rfl, .inl ⟨rfl, _, SqL.of hl3⟩, _, rfl, _, rfl, l, _, rfl, .inl (SqL.of hl3), d, _, c + i, rfl, D3, by omega, by rw [hlm]; omega, by rw [hlm]; omega, fun v H4 v0 v1 D4 k4 => ?_⟩
      have hl4 := k4 l _ hl3 nf
      have hp4 := k4 p _ hp3 npf
      rw [hlm] at v1
      obtain ⟨j, ej⟩ : ∃ j : Nat, v = (j : Int) := ⟨v.toNat, by omega⟩
      subst ej
      obtain ⟨y, ey⟩ : ∃ y, rest[j]? = some y := ⟨rest[j]'(by omega), List.getElem?_eq_getElem (by omega)⟩
      refine ⟨l, _, _, j, _, rfl, rfl, hl4, by omega, by omega, seq_ix rfl (by rw [hlm]; omega), int_at ey, ?_⟩
      refine ⟨acc.map V.int, by rw [upd_ne lp.symm]; exact hp4, line_lt (by rw [List.length_map]; omega), rest.eraseIdx j, acc ++ [y], ?_, by rw [List.length_append, el]; rfl, ?_, by rw [upd_same, List.map_append]; rfl, ?_, fun b o e f => ?_⟩
      · rw [List.append_assoc]
        exact (List.Perm.append_left acc (pop_perm ey)).trans hperm
      · rw [upd_ne lp, upd_same, map_erase]
      · exact (D4.upd nf).upd npf
      · have e4 := k4 b o (kp3 b o e f) f
        have nbl : b ≠ l := ne_of_none e nl
        have nbp : b ≠ p := ne_of_none (k0 b o e f) np
        rw [upd_ne nbp, upd_ne nbl]
        exact e4
    · obtain ⟨rest, acc, hperm, el, hl3, hp3, D3, kp3⟩ := hP
      have hr0 : rest = [] := by
        have := List.Perm.length_eq hperm
        rw [List.length_append, rg_len] at this
        exact List.eq_nil_of_length_eq_zero (by omega)
      subst hr0
      rw [List.append_nil] at hperm
      exact q acc p H3 hperm (k0.none np npf) hp3 npf (D3.mono (by omega)) kp3
end
end Fo
namespace Fo
open PySem PySem.Spec PyProof.Rows L2
theorem ins_perm5 {α : Type} (l : List α) (k : Nat) (x : α) : (l.take k ++ [x] ++ l.drop k).Perm (x :: l) := by
  have h := List.perm_middle (a := x) (l₁ := l.take k) (l₂ := l.drop k)
  rw [List.take_append_drop] at h
  rw [List.append_assoc]
  exact h
def spNearP : Sp := fun vs H Q _ => ∃ (d o : Addr) (n c : Nat) (ns : List Int), vs = [.ref d, .ref o] ∧ PoolAt H d c ∧ H o = some (.lst (ns.map V.int)) ∧ IsOrd n ns ∧ 1 ≤ n ∧ n ≤ 12 ∧ c + 20 < 1048576 ∧
  ∀ (ms : List Int) (l : Addr) (H' : Hp), IsOrd n ms → H l = none → H' l = some (.lst (ms.map V.int)) → l ≠ d → PoolAt H' d (c + 20) → KeepD d H H' → Q (.ref l) H'
section
variable {P : Program} {w : World} {K : PySem.W.Frag} {mg : Str → Option Value} {base : Heap}
theorem scNearP : FnScope ["pool", "order", "found", "turn", "at", "to"] ["pool", "order"] (defScope s_law_near) := ⟨rfl, rfl, rfl, by decide +kernel, rfl, by decide +kernel, by decide +kernel⟩
set_option maxHeartbeats 4000000 in
theorem ok_nearP {f fD : Addr} {fd fdD : FuncData} {k : Nat} (T : Df K mg "_law_near" s_law_near ["pool", "order"] f fd) (T__law_take : Df K mg "_law_take" s_law_take ["pool", "many"] fD fdD) (G__law_take : FnOk P w K mg base CX0 k fD fdD ["pool", "many"] spTake) (B : Bi mg) : FnOk P w K mg base CX0 (k + 1) f fd ["pool", "order"] spNearP := by
  refine T.F.ok scNearP (fun vs H Q E h => ?_) (fun cdv A outer s H vs Q E hr h => ?_)
  · obtain ⟨D, o, n, c, ns, rfl, _⟩ := h
    rfl
  · obtain ⟨d, o, n, c, ns, rfl, hD, h0, ho, hn1, hn2, hc, q⟩ := h
    refine ⟨_, 
      (pss_cons (ps_set (i := 2) scNearP.nd rfl (.inl rfl) (pe_callTy call_list_of (by rfl) B.list (by decide +kernel) (pa_cons (pv 1) pa_nil)))
      (pss_cons (ps_for PassesOwn.never rfl (pi_range1 (by rfl) B.range (pa_cons (pe_call G__law_take hr (by rfl) T__law_take.g T__law_take.F.kp T__law_take.b .nil pass0 (pa_cons (pv 0) (pa_cons pe_int pa_nil))) pa_nil)) (pg_name (i := 3) scNearP.nd rfl (.inl rfl))
        (pss_cons (ps_set (i := 4) scNearP.nd rfl (.inl rfl) (pe_call G__law_take hr (by rfl) T__law_take.g T__law_take.F.kp T__law_take.b .nil pass0 (pa_cons (pv 0) (pa_cons (pe_callB call_len_seq (by rfl) B.len PySem.boot_len (pa_cons (pv 2) pa_nil)) pa_nil))))
        (pss_cons (ps_set (i := 5) scNearP.nd rfl (.inl rfl) (pe_ix ix_list (pe_lst (pa_cons (pe_callB (call_min2 rfl) (by rfl) B.min (by decide +kernel) (pa_cons (pe_op op_add (pv 4) pe_int) (pa_cons (pe_op op_sub (pe_callB call_len_seq (by rfl) B.len PySem.boot_len (pa_cons (pv 2) pa_nil)) pe_int) pa_nil))) (pa_cons (pe_call G__law_take hr (by rfl) T__law_take.g T__law_take.F.kp T__law_take.b .nil pass0 (pa_cons (pv 0) (pa_cons (pe_callB call_len_seq (by rfl) B.len PySem.boot_len (pa_cons (pv 2) pa_nil)) pa_nil))) pa_nil))) (pe_call G__law_take hr (by rfl) T__law_take.g T__law_take.F.kp T__law_take.b .nil pass0 (pa_cons (pv 0) (pa_cons pe_int pa_nil))) (fun _ _ => rfl)))
        (pss_one (ps_if (pt_cmpR op_eq (pe_call G__law_take hr (by rfl) T__law_take.g T__law_take.F.kp T__law_take.b .nil pass0 (pa_cons (pv 0) (pa_cons pe_int pa_nil))) pe_int (nomark _))
          (pss_one (ps_expr (pe_bm PySem.F.plainAttrs_list PySem.F.slot_list_insert PySem.F.type_list_insert mt_insert (pv 2) (pa_cons (pv 5) (pa_cons (pe_bm PySem.F.plainAttrs_list PySem.F.slot_list_pop PySem.F.type_list_pop mt_popAt (pv 2) (pa_cons (pv 4) pa_nil)) pa_nil)))))
          (pss_one (ps_asg (pe_tup (pa_cons (pe_ix ix_list (pv 2) (pv 5) (fun _ _ => rfl)) (pa_cons (pe_ix ix_list (pv 2) (pv 4) (fun _ _ => rfl)) pa_nil))) (pg_tup (by rfl) (pgs_cons (pg_sub (pv 2) (pv 4) set_list) (pgs_cons (pg_sub (pv 2) (pv 5) set_list) pgs_nil))))))))))
      (pss_one (ps_ret (pv 2))))), ?_⟩
    refine ⟨_, rfl, o, _, rfl, .inl (SqL.of h0), fun l nl => ?_⟩
    have s0 := same_new (o := .lst (ns.map V.int)) nl
    have D0 := hD.new (o := .lst (ns.map V.int)) nl
    have nf := hD.ne nl
    refine ⟨_, rfl, d, 4, c, rfl, D0, by omega, by decide, by decide, fun v H2 v0 v1 D2 k2 => ?_⟩
    have kk2 : KeepD d H H2 := (KeepD.of_same s0).trans k2
    have hl2 := k2 l _ upd_same nf
    obtain ⟨m, rfl⟩ : ∃ m : Nat, v = (m : Int) := ⟨v.toNat, by omega⟩
    refine ⟨m, rfl, by omega, by omega, ?_⟩
    rw [Int.toNat_natCast]
    refine for_range (n := m) (fun i σ H3 => ∃ (y3 y4 y5 : Option V) (xs : List Int), σ = [some (.ref d), some (.ref o), some (.ref l), y3, y4, y5] ∧ IsOrd n xs ∧ H3 l = some (.lst (xs.map V.int)) ∧ PoolAt H3 d (c + 1 + 4 * i) ∧ KeepD d H H3)
      ⟨none, none, none, ns, rfl, ho, hl2, D2, kk2⟩ (fun i σ H3 hi hP => ?_) (fun σ H3 hP => ?_)
    · obtain ⟨y3, y4, y5, xs, rfl, o3, hl3, D3, k3⟩ := hP
      have hxl := o3.len
      have hxm : (xs.map V.int).length = n := by rw [List.length_map]; exact hxl
      refine ⟨_, rfl, _, rfl, l, _, rfl, .inl (SqL.of hl3), d, _, _, rfl, D3, by omega, by rw [hxm]; omega, by rw [hxm]; omega, fun p H4 p0 p1 D4 k4 => ?_⟩
      rw [hxm] at p1
      have hl4 := k4 l _ hl3 nf
      obtain ⟨pn, rfl⟩ : ∃ pn : Nat, p = (pn : Int) := ⟨p.toNat, by omega⟩
      refine ⟨_, rfl, (pn : Int), 1, rfl, rfl, _, rfl, l, _, rfl, .inl (SqL.of hl4), _, 1, rfl, rfl, _, _, rfl, ?_⟩
      refine ⟨_, rfl, _, rfl, l, _, rfl, .inl (SqL.of hl4), d, _, _, rfl, D4, by omega, by rw [hxm]; omega, by rw [hxm]; omega, fun u H5 u0 u1 D5 k5 => ?_⟩
      rw [hxm] at u1
      have hl5 := k5 l _ hl4 nf
      refine ⟨line_small (by show 2 ≤ 16777216; decide), fun t2 nt2 => ?_⟩
      have nt2d := D5.ne nt2
      refine ⟨_, rfl, d, 2, _, rfl, D5.new nt2, by omega, by decide, by decide, fun e1 H6 e0 e2 D6 k6 => ?_⟩
      have ht6 := k6 t2 _ upd_same nt2d
      have hl7 := k6 l _ (same_new nt2 _ _ hl5) nf
      have kk6 : KeepD d H H6 := (((k3.trans k4).trans k5).trans (KeepD.new nt2)).trans k6
      obtain ⟨z, ez, hz⟩ : ∃ z : Nat, atI [V.int (if (((xs.map V.int).length : Nat) : Int) - 1 < (pn : Int) + 1 then (((xs.map V.int).length : Nat) : Int) - 1 else (pn : Int) + 1), V.int u] e1 = some (.int z) ∧ z < n := by
        have : e1 = 0 ∨ e1 = 1 := by omega
        rcases this with rfl | rfl
        · rw [hxm]
          by_cases cc : (n : Int) - 1 < (pn : Int) + 1
          · rw [if_pos cc]
            refine ⟨n - 1, ?_, by omega⟩
            rw [show ((n - 1 : Nat) : Int) = (n : Int) - 1 by omega]
            rfl
          · rw [if_neg cc]
            exact ⟨pn + 1, rfl, by omega⟩
        · refine ⟨u.toNat, ?_, by omega⟩
          rw [Int.toNat_of_nonneg u0]
          rfl
      refine ⟨t2, _, _, _, rfl, rfl, SqL.of ht6, ez, ?_⟩
      obtain ⟨a, ea⟩ : ∃ a, xs[pn]? = some a := ⟨xs[pn]'(by omega), List.getElem?_eq_getElem (by omega)⟩
      obtain ⟨b, eb⟩ : ∃ b, xs[z]? = some b := ⟨xs[z]'(by omega), List.getElem?_eq_getElem (by omega)⟩
      refine ⟨_, rfl, d, 3, _, rfl, D6, by omega, by decide, by decide, fun g H7 _ _ D7 k7 => ⟨rfl, _, rfl, ?_⟩⟩
      have hl8 := k7 l _ hl7 nf
      have kk7 : KeepD d H H7 := kk6.trans k7
      have D8 : PoolAt H7 d (c + 1 + 4 * (i + 1)) := D7.mono (by omega)
      refine ite2 (fun _ => ?_) (fun _ => ?_)
      · refine ⟨_, rfl, .inl ⟨rfl, _, SqL.of hl8⟩, _, rfl, _, rfl, .inl ⟨rfl, _, SqL.of hl8⟩, _, rfl, l, _, _, pn, _, rfl, rfl, hl8, by omega, by omega, seq_ix rfl (by rw [hxm]; omega), int_at ea, ?_⟩
        refine ⟨l, _, _, _, rfl, rfl, upd_same, line_lt (by rw [map_erase, List.length_map, List.length_eraseIdx, hxl]; split <;> omega), by omega, by omega, ?_⟩
        refine ⟨_, _, _, (xs.eraseIdx pn).take z ++ [a] ++ (xs.eraseIdx pn).drop z, rfl, ((ins_perm5 _ _ _).trans (pop_perm ea)).trans o3, ?_, (D8.upd nf).upd nf, fun c x e f => ?_⟩
        · rw [upd_same, map_erase, List.map_append, List.map_append, List.map_take, List.map_drop, Int.toNat_natCast]
          rfl
        · have nc : c ≠ l := ne_of_none e nl
          rw [upd_ne nc, upd_ne nc]
          exact kk7 c x e f
      · refine ⟨_, rfl, _, rfl, l, _, _, _, rfl, rfl, SqL.of hl8, at_of (j := z) rfl (int_at eb), _, rfl, _, rfl, l, _, _, _, rfl, rfl, SqL.of hl8, at_of (j := pn) rfl (int_at ea), line_small (by show 2 ≤ 16777216; decide), fun t3 nt3 => ?_⟩
        have hl9 := same_new (o := .tup [.int b, .int a]) nt3 _ _ hl8
        refine ⟨t3, _, rfl, .inl (.inl upd_same), rfl, _, _, rfl, _, rfl, _, rfl, l, _, _, pn, rfl, rfl, hl9, ix_n rfl (by rw [List.length_map]; omega), ?_⟩
        refine ⟨_, _, rfl, _, rfl, _, rfl, l, _, _, z, rfl, rfl, upd_same, ix_n rfl (by rw [List.length_set, List.length_map]; omega), ?_⟩
        refine ⟨rfl, _, _, _, (xs.set pn b).set z a, rfl, (set2_perm ea eb).trans o3, by rw [upd_same, set2_V], ((D8.new nt3).upd nf).upd nf, fun c x e f => ?_⟩
        have nc : c ≠ l := ne_of_none e nl
        rw [upd_ne nc, upd_ne nc]
        exact same_new nt3 _ _ (kk7 c x e f)
    · obtain ⟨y3, y4, y5, xs, rfl, o3, hl3, D3, k3⟩ := hP
      exact ⟨_, rfl, q xs l H3 o3 nl hl3 nf (D3.mono (by omega)) k3⟩
end
end Fo
namespace Fo
open PySem PySem.Spec PyProof.Rows L2
def spMany : Sp := fun vs H Q _ => ∃ (n : Nat), vs = [.int n] ∧ n ≤ 12 ∧ ∀ m : Int, 1 ≤ m → Q (.int m) H
section
variable {P : Program} {w : World} {K : PySem.W.Frag} {mg : Str → Option Value} {base : Heap}
theorem scMany : FnScope ["n", "found", "k"] ["n"] (defScope s_law_many) := ⟨rfl, rfl, rfl, by decide +kernel, rfl, by decide +kernel, by decide +kernel⟩
theorem ok_many {f : Addr} {fd : FuncData} {k : Nat} (T : Df K mg "_law_many" s_law_many ["n"] f fd) (B : Bi mg) : FnOk P w K mg base CX0 (k + 1) f fd ["n"] spMany := by
  refine T.F.ok scMany (fun vs H Q E h => ?_) (fun cdv A outer s H vs Q E hr h => ?_)
  · obtain ⟨n, rfl, _⟩ := h
    rfl
  · obtain ⟨n, rfl, hn, q⟩ := h
    refine ⟨_, 
      (pss_cons (ps_set (i := 1) scMany.nd rfl (.inl rfl) pe_int)
      (pss_cons (ps_for PassesOwn.never rfl (pi_range2 (by rfl) B.range (pa_cons pe_int (pa_cons (pe_op op_add (pv 0) pe_int) pa_nil))) (pg_name (i := 2) scMany.nd rfl (.inl rfl))
        (pss_one (ps_set (i := 1) scMany.nd rfl (.inl rfl) (pe_op op_mul (pv 1) (pv 2)))))
      (pss_one (ps_ret (pv 1))))), ?_⟩
    refine ⟨_, rfl, (n : Int), 1, rfl, rfl, 1, (n : Int) + 1, rfl, ?_⟩
    refine ⟨⟨by decide, by decide, by omega, by omega⟩, ?_⟩
    rw [show ((n : Int) + 1 - 1).toNat = n by omega]
    refine for_range (n := n) (fun i σ G => ∃ (m : Int) (y : Option V), σ = [some (.int n), some (.int m), y] ∧ 1 ≤ m ∧ G = H) ⟨1, _, rfl, by decide, rfl⟩ (fun i σ G hi hP => ?_) (fun σ G hP => ?_)
    · obtain ⟨m, y, rfl, hm, rfl⟩ := hP
      exact ⟨_, rfl, _, rfl, m, _, rfl, rfl, .inr ⟨by omega, by omega⟩, _, _, rfl, Int.le_trans (by omega : (1 : Int) ≤ 1 * 1) (Int.mul_le_mul hm (by omega) (by omega) (by omega)), rfl⟩
    · obtain ⟨m, y, rfl, hm, rfl⟩ := hP
      exact ⟨_, rfl, q m hm⟩
end
end Fo
namespace Fo
open PySem PySem.Spec PyProof.Rows L2
/-- min(a, b, c) of ints -/
def rMin3 : List V → Hp → VK → Prop := fun xs H Q => ∃ i j k : Int, xs = [.int i, .int j, .int k] ∧ ∀ m : Int, m ≤ i → m ≤ j → m ≤ k → (m = i ∨ m = j ∨ m = k) → Q (.int m) H
theorem nu_min2 (i j : Int) : nuMin2 (.int i) (.int j) = some (.int (if j < i then j else i)) := by
  show some (if decide (j < i) = true then V.int j else V.int i) = _
  by_cases c : j < i
  · rw [decide_eq_true c, if_pos rfl, if_pos c]
  · rw [decide_eq_false c, if_neg (by decide), if_neg c]
theorem call_min3I {X : Cx} (calm : X.calm = true) : CallR X (.builtin "min") rMin3 := by
  intro ps s σ H xs us Q I r h
  obtain ⟨i, j, k, rfl, q⟩ := h
  refine call_min3Nu calm ps s σ H _ us Q I r ⟨_, _, _, .int (if k < (if j < i then j else i) then k else (if j < i then j else i)), rfl, ?_, q _ ?_ ?_ ?_ ?_⟩
  · unfold nuMin3
    rw [nu_min2]
    exact nu_min2 _ _
  all_goals split <;> split <;> omega
end Fo
namespace Fo
open PySem PySem.Spec PyProof.Rows L2
/-- a list of orders of n things -/
structure OL (H : Hp) (l : Addr) (as : List Addr) (rs : List (List Int)) (n : Nat) : Prop where
  top : H l = some (.lst (as.map V.ref))
  ll : LL H as rs
  ord : ∀ r ∈ rs, IsOrd n r
  n1 : 1 ≤ n
  n2 : n ≤ 12
theorem OL.same {H H' : Hp} {l : Addr} {as : List Addr} {rs : List (List Int)} {n : Nat} (h : OL H l as rs n) (s : Same H H') : OL H' l as rs n := ⟨s _ _ h.top, h.ll.same s, h.ord, h.n1, h.n2⟩
theorem OL.keepD {H H' : Hp} {l d : Addr} {as : List Addr} {rs : List (List Int)} {n : Nat} (h : OL H l as rs n) (s : KeepD d H H') (nl : l ≠ d) (na : d ∉ as) : OL H' l as rs n :=
  ⟨s _ _ h.top nl, h.ll.keep fun a ha o e => s a o e (fun q => na (by rw [← q]; exact ha)), h.ord, h.n1, h.n2⟩
end Fo
namespace Fo
open PySem PySem.Spec PyProof.Rows L2
/-- a loop over enumerate of a list that stands still -/
theorem for_enumL {K : PySem.W.Frag} {a : Addr} {xs : List V} {g : TG} {tb : TS} {D : Ends} {σ : L2.St} {H : Hp} (Pv : Nat → L2.St → Hp → Prop) (h0 : Pv 0 σ H) (hq : ∀ i σ H, Pv i σ H → SqL K H a xs)
    (hs : ∀ (i : Nat) (x : V) (T : Addr) (σ : L2.St) (H : Hp), xs[i]? = some x → Pv i σ H → H T = none → g (.ref T) σ (upd H T (.tup [.int (i : Nat), x])) fun σ2 H2 => tb { D with nx := Pv (i + 1), ct := Pv (i + 1), bk := D.nx } σ2 H2) (hd : ∀ σ H, Pv xs.length σ H → D.nx σ H) :
    ∃ W : Nat → Nat → L2.St → Hp → Prop, (∃ m, W 0 m σ H) ∧ ∀ i m σ H, W i m σ H →
      ((Ite K a).stop i H ∧ D.nx σ H) ∨ ((Ite K a).go i H ∧ ∃ N : L2.St → Hp → Prop, (∀ σ' H', N σ' H' → ∃ m', m' < m ∧ W (i + 1) m' σ' H') ∧ ∀ v H', (Ite K a).yld i H v H' → g v σ H' fun σ2 H2 => tb { D with nx := N, ct := N, bk := D.nx } σ2 H2) := by
  refine ⟨fun i m σ H => m = xs.length - i ∧ i ≤ xs.length ∧ Pv i σ H, ⟨xs.length, rfl, Nat.zero_le _, h0⟩, ?_⟩
  rintro i m σ H ⟨rfl, hi, p⟩
  have qx := hq i σ H p
  by_cases hlt : i < xs.length
  · have hx : xs[i]? = some xs[i] := List.getElem?_eq_getElem hlt
    refine .inr ⟨⟨xs, _, qx, hx⟩, Pv (i + 1), fun σ' H' p' => ⟨xs.length - (i + 1), by omega, rfl, hlt, p'⟩, fun v H' y => ?_⟩
    obtain ⟨T, x', rfl, hT, rfl, f1⟩ := y
    exact hs i x' T σ H (f1 xs qx) p hT
  · have e : i = xs.length := by omega
    subst e
    exact .inl ⟨⟨xs, qx, Nat.le_refl _⟩, hd σ H p⟩
/-- a comprehension over enumerate of a list that stands still -/
theorem lc_enumL {K : PySem.W.Frag} {a : Addr} {xs : List V} {g : TG} {tt : TT} {te : TE} {vs : List Nat} {σ : L2.St} {H1 : Hp} {D : Addr} {Qd : Hp → Prop} (Pv : Nat → Hp → Prop) (h0 : Pv 0 (upd H1 D (.lst []))) (hl : ∀ i H, i ≤ xs.length → Pv i H → SqL K H a xs)
    (hs : ∀ (i : Nat) (x : V) (T : Addr) (H : Hp), xs[i]? = some x → Pv i H → H T = none → g (.ref T) (wipe σ vs) (upd H T (.tup [.int (i : Nat), x])) fun σ2 H2 => wipe σ2 vs = wipe σ vs ∧ tt σ2 H2 fun b H3 =>
      if b = true then te σ2 H3 fun y H4 => ∃ acc, H4 D = some (.lst acc) ∧ acc.length < sizeLine ∧ Pv (i + 1) (upd H4 D (.lst (acc ++ [y]))) else Pv (i + 1) H3) (hd : ∀ H, Pv xs.length H → Qd H) :
    ∃ W : Nat → Nat → Hp → Prop, (∃ m, W 0 m (upd H1 D (.lst []))) ∧ ∀ i m H, W i m H →
      ((Ite K a).stop i H ∧ Qd H) ∨ ((Ite K a).go i H ∧ ∃ Nx : Hp → Prop, (∀ H', Nx H' → ∃ m', m' < m ∧ W (i + 1) m' H') ∧ ∀ x H', (Ite K a).yld i H x H' → g x (wipe σ vs) H' fun σ2 H2 => wipe σ2 vs = wipe σ vs ∧ tt σ2 H2 fun b H3 =>
        if b = true then te σ2 H3 fun y H4 => ∃ acc, H4 D = some (.lst acc) ∧ acc.length < sizeLine ∧ Nx (upd H4 D (.lst (acc ++ [y]))) else Nx H3) := by
  refine ⟨fun i m H => m = xs.length - i ∧ i ≤ xs.length ∧ Pv i H, ⟨xs.length, by simp, Nat.zero_le _, h0⟩, ?_⟩
  rintro i m H ⟨rfl, hi, p⟩
  have q := hl i H hi p
  by_cases hlt : i < xs.length
  · refine .inr ⟨⟨xs, xs[i], q, by simp [hlt]⟩, Pv (i + 1), fun H' p' => ⟨xs.length - (i + 1), by omega, rfl, hlt, p'⟩, fun x H' y => ?_⟩
    obtain ⟨T, x', rfl, hT, rfl, f1⟩ := y
    exact hs i x' T H (f1 xs q) p hT
  · have e : i = xs.length := by omega
    subst e
    exact .inl ⟨⟨xs, q, Nat.le_refl _⟩, hd H p⟩
/-! ### the back of an order -/
def IsBack (ns ps : List Int) : Prop := ps.length = ns.length ∧ ∀ (j : Nat) (x : Int), ns[j]? = some x → ps[x.toNat]? = some (j : Int)
theorem ord_at {n : Nat} {ns : List Int} (o : IsOrd n ns) {t : Nat} (h : t < n) : ∃ j : Nat, j < n ∧ ns[j]? = some (t : Int) := by
  have m : (t : Int) ∈ ns := (List.Perm.mem_iff o).mpr (rg_mem.mpr ⟨by omega, by omega⟩)
  obtain ⟨j, hj⟩ := List.mem_iff_getElem?.mp m
  exact ⟨j, by have := (List.getElem?_eq_some_iff.mp hj).1; rw [o.len] at this; exact this, hj⟩
theorem ord_ix {n : Nat} {ns : List Int} (o : IsOrd n ns) {j : Nat} (h : j < n) : ∃ x : Int, ns[j]? = some x ∧ 0 ≤ x ∧ x < n := by
  have hj : j < ns.length := by rw [o.len]; exact h
  exact ⟨ns[j], List.getElem?_eq_getElem hj, o.mem (List.getElem_mem hj)⟩
theorem back_eq {n : Nat} {ns a b : List Int} (o : IsOrd n ns) (ha : IsBack ns a) (hb : IsBack ns b) : a = b := by
  apply List.ext_getElem?
  intro t
  by_cases h : t < n
  · obtain ⟨j, _, hj⟩ := ord_at o h
    have h1 := ha.2 j _ hj
    have h2 := hb.2 j _ hj
    rw [Int.toNat_natCast] at h1 h2
    rw [h1, h2]
  · rw [List.getElem?_eq_none (by rw [ha.1, o.len]; omega), List.getElem?_eq_none (by rw [hb.1, o.len]; omega)]
def behindL (ns ms : List Int) : List Int := ms.map fun p => ns.getD p.toNat 0
theorem behind_at {ns ms : List Int} {i : Nat} {p x : Int} (hp : ms[i]? = some p) (hx : ns[p.toNat]? = some x) : (behindL ns ms)[i]? = some x := by
  unfold behindL
  rw [List.getElem?_map, hp]
  show some (ns.getD p.toNat 0) = some x
  rw [List.getD_eq_getElem?_getD, hx]
  rfl
theorem behind_len (ns ms : List Int) : (behindL ns ms).length = ms.length := by
  unfold behindL
  rw [List.length_map]
theorem take_more {l : List Int} {i : Nat} {x : Int} (h : l[i]? = some x) : l.take (i + 1) = l.take i ++ [x] := by
  rw [List.take_add_one, h]
  rfl
theorem flat_ints : ∀ ns : List Int, (ns.map V.int).all flatV = true
  | [] => rfl
  | n :: r => by
    show (flatV (V.int n) && (r.map V.int).all flatV) = true
    rw [flat_ints r]
    rfl
theorem eqV_int (i j : Int) : eqV (.int i) (.int j) = (i == j) := rfl
end Fo
namespace Fo
open PySem PySem.Spec PyProof.Rows L2
def spWhole : Sp := fun vs H Q _ => ∃ i : Int, vs = [.int i] ∧ Q (.bl true) H
section
variable {P : Program} {w : World} {K : PySem.W.Frag} {mg : Str → Option Value} {base : Heap}
theorem scWhole : FnScope ["thing"] ["thing"] (defScope s_is_whole) := ⟨rfl, rfl, rfl, by decide +kernel, rfl, by decide +kernel, by decide +kernel⟩
theorem ok_whole {f : Addr} {fd : FuncData} {k : Nat} (T : Df K mg "is_whole" s_is_whole ["thing"] f fd) (B : Bi mg) : FnOk P w K mg base CX0 (k + 1) f fd ["thing"] spWhole := by
  refine T.F.ok scWhole (fun vs H Q E h => ?_) (fun cdv A outer s H vs Q E hr h => ?_)
  · obtain ⟨i, rfl, _⟩ := h
    rfl
  · obtain ⟨i, rfl, q⟩ := h
    refine ⟨_, pss_one (ps_ret (pe_and (pe_callB call_isi (by rfl) B.isinstance (by decide +kernel) (pa_cons (pv 0) (pa_cons (pe_bltn (v := .ty "int") (by rfl) B.int (by decide +kernel) rfl) pa_nil)))
      (pe_one (pe_not (pe_callB call_isi (by rfl) B.isinstance (by decide +kernel) (pa_cons (pv 0) (pa_cons (pe_bltn (v := .ty "bool") (by rfl) B.bool (by decide +kernel) rfl) pa_nil))))))), ?_⟩
    refine ⟨_, rfl, _, _, _, _, true, rfl, .ty _, .base (.int _), kit_ty (by decide +kernel), true, rfl, iteT ?_⟩
    exact ⟨_, rfl, _, _, _, _, false, rfl, .ty _, .base (.int _), kit_ty (by decide +kernel), false, rfl, q⟩
end
end Fo
namespace Fo
open PySem PySem.Spec PyProof.Rows L2
/-! ### whole numbers, orders -/
def spIsOrd : Sp := fun vs H Q _ => ∃ (a : Addr) (n : Nat) (ns : List Int), vs = [.ref a] ∧ H a = some (.lst (ns.map V.int)) ∧ IsOrd n ns ∧ 1 ≤ n ∧ n ≤ 12 ∧ ∀ H', Same H H' → Q (.bl true) H'
def spCheck : Sp := fun vs H Q _ => ∃ (a : Addr) (n : Nat) (ns : List Int), vs = [.ref a] ∧ H a = some (.lst (ns.map V.int)) ∧ IsOrd n ns ∧ 1 ≤ n ∧ n ≤ 12 ∧ ∀ H', Same H H' → Q .non H'
section
variable {P : Program} {w : World} {K : PySem.W.Frag} {mg : Str → Option Value} {base : Heap}
theorem scIsOrd : FnScope ["thing", "number"] ["thing"] (defScope s_is_order) := ⟨rfl, rfl, rfl, by decide +kernel, rfl, by decide +kernel, by decide +kernel⟩
theorem all_true (n : Nat) : (List.replicate n true).all id = true := by simp
set_option maxHeartbeats 2000000 in
theorem ok_is_order {f fW : Addr} {fd fdW : FuncData} {k : Nat} {t : Tok} (T : Df K mg "is_order" s_is_order ["thing"] f fd) (TW : Df K mg "is_whole" s_is_whole ["thing"] fW fdW) (B : Bi mg) (mM : mg "MOST_THINGS" = some (.int 12 t)) : FnOk P w K mg base CX0 (k + 2) f fd ["thing"] spIsOrd := by
  have GW : FnOk P w K mg base CX0 (k + 1) fW fdW ["thing"] spWhole := ok_whole TW B
  refine T.F.ok scIsOrd (fun vs H Q E h => ?_) (fun cdv A outer s H vs Q E hr h => ?_)
  · obtain ⟨a, n, ns, rfl, _⟩ := h
    rfl
  · obtain ⟨a, n, ns, rfl, hl, ho, hn1, hn2, q⟩ := h
    have hlm : (ns.map V.int).length = n := by rw [List.length_map, ho.len]
    refine ⟨_, pss_cons (ps_if (PW.pt (pw_or (pt_not (pt_val (pe_callB call_isi (by rfl) B.isinstance (by decide +kernel) (pa_cons (pv 0) (pa_cons (pe_bltn (v := .ty "list") (by rfl) B.list (by decide +kernel) rfl) pa_nil)))))
        (pw_or (pt_cmpR op_lt (pe_callB call_len_seq (by rfl) B.len PySem.boot_len (pa_cons (pv 0) pa_nil)) pe_int (nomark _)) (pw_or1 (pt_cmpR op_gt (pe_callB call_len_seq (by rfl) B.len PySem.boot_len (pa_cons (pv 0) pa_nil)) (pe_glob (v := .int 12) (by rfl) mM ⟨_, rfl⟩) (nomark _))))))
        (pss_one (ps_ret pe_bl)) pss_nil)
      (pss_cons (ps_if (pt_not (pt_val (pe_callB (cr_all rfl) (by rfl) B.all (by decide +kernel) (pa_cons (pe_lc (own := [("number", 1)]) (g := gName 1) (tt := tYes) (te := tCall spWhole [] E0 (tCons (tVar 1) tNil)) rfl scIsOrd.nd (pi_list (pv 0)) (blkOk_by (N := ["thing", "number"]) (sc := defScope s_is_order) (by decide +kernel)) (fun _ _ _ _ _ => pg_name (i := 1) scIsOrd.nd rfl (.inl rfl)) (fun _ _ _ _ _ => pts_nil)
          (fun _ _ _ _ _ => pe_call GW hr (by rfl) TW.g TW.F.kp TW.b .nil pass0 (pa_cons (pv 1) pa_nil))) pa_nil)))) (pss_one (ps_ret pe_bl)) pss_nil)
      (pss_one (ps_ret (pe_cmpR (op_eqD hr.units) (pe_callB cr_sorted (by rfl) B.sorted (by decide +kernel) (pa_cons (pv 0) pa_nil)) (pe_listRg rfl (by rfl) B.list (prg_1 (by rfl) B.range (pe_callB call_len_seq (by rfl) B.len PySem.boot_len (pa_cons (pv 0) pa_nil)))) (nomark _))))), ?_⟩
    refine ⟨_, rfl, _, _, _, _, true, rfl, .ty _, .base (.lst hl), kit_ty (by decide +kernel), true, rfl, iteF ?_⟩
    refine ⟨_, rfl, a, _, rfl, .inl (SqL.of hl), _, 1, rfl, rfl, _, rfl, ite2 (fun c => absurd (of_decide_eq_true c) (by rw [hlm]; omega)) (fun _ => ?_)⟩
    refine ⟨_, rfl, a, _, rfl, .inl (SqL.of hl), _, 12, rfl, rfl, _, rfl, ite2 (fun c => absurd (of_decide_eq_true c) (by rw [hlm]; omega)) (fun _ => ?_)⟩
    refine ⟨_, rfl, a, rfl, ⟨_, SqL.of hl⟩, fun p np => ?_⟩
    refine lc_list (K := K) (a := a) (xs := ns.map V.int) (fun i H3 => H3 p = some (.lst ((List.replicate i true).map V.bl)) ∧ Same H H3) ⟨upd_same, same_new np⟩ (fun i H3 _ hP => SqL.of (hP.2 _ _ hl)) (fun i x H3 hx hP => ?_) (fun H3 hP => ?_)
    · obtain ⟨y, ey, rfl⟩ := int_at_inv hx
      obtain ⟨hp3, sm⟩ := hP
      refine ⟨rfl, _, rfl, y, rfl, _, hp3, line_lt (by
        rw [List.length_map, List.length_replicate]
        have := (List.getElem?_eq_some_iff.mp hx).1
        omega), ?_, fun b o e => ?_⟩
      · rw [upd_same, List.replicate_succ', List.map_append]
        rfl
      · rw [upd_ne (ne_of_none e np)]
        exact sm _ _ e
    · obtain ⟨hp3, sm⟩ := hP
      have hl3 := sm _ _ hl
      refine ⟨p, _, rfl, SqL.of hp3, _, rfl, ?_⟩
      rw [all_true]
      refine iteF ?_
      refine ⟨_, rfl, a, ns, rfl, SqL.of hl3, by rw [ho.len]; omega, fun ns' s1 hperm hsrt ns1 => ?_⟩
      have hl4 := same_new (o := .lst (ns'.map V.int)) ns1 _ _ hl3
      refine ⟨_, rfl, a, _, rfl, .inl (SqL.of hl4), _, rfl, RgOk.of_le (by omega) (by rw [hlm]; omega) (by omega) (by omega), fun s2 ns2 => ?_⟩
      have e1 : ns' = rg n := sorted_eq (hperm.trans ho) hsrt (rg_sorted n)
      subst e1
      rw [hlm]
      have h1 : (upd (upd H3 s1 (.lst ((rg n).map V.int))) s2 (.lst (rgV 0 (n : Int)))) s1 = some (.lst ((rg n).map V.int)) := same_new ns2 _ _ upd_same
      have h2 : (upd (upd H3 s1 (.lst ((rg n).map V.int))) s2 (.lst (rgV 0 (n : Int)))) s2 = some (.lst ((rg n).map V.int)) := by rw [upd_same, rg_V]
      refine ⟨_, _, dp_list h1, dp_list h2, shaped_list _, shaped_list _, ?_⟩
      rw [eqv_list]
      exact q _ ((sm.trans (same_new ns1)).trans (same_new ns2))
end
end Fo
namespace Fo
open PySem PySem.Spec PyProof.Rows L2
def IsWay (w : Str) : Prop := w = "swap" ∨ w = "spot" ∨ w = "shift"
theorem n1 : ¬ (("spot" : Str) = "swap") := by decide +kernel
theorem n2 : ¬ (("shift" : Str) = "swap") := by decide +kernel
theorem n3 : ¬ (("shift" : Str) = "spot") := by decide +kernel
/-- the ways as the top has written them -/
structure Wy (K : PySem.W.Frag) (mg : Str → Option Value) (aW : Addr) : Prop where
  g : mg "WAYS" = some (.ref aW)
  t : ∀ H : Hp, SqT K H aW [.str "swap", .str "spot", .str "shift"]
theorem wy_mk {K : PySem.W.Frag} {mg : Str → Option Value} {aW : Addr} {dd : Option Addr} {n : Nat} {t1 t2 t3 : Tok} {sl : Array (Option Value)} (g : mg "WAYS" = some (.ref aW)) (l : K.lookup aW = some ⟨.type "tuple", dd, .seq #[.str "swap" t1, .str "spot" t2, .str "shift" t3] n, sl⟩) : Wy K mg aW :=
  ⟨g, fun H => .inr ⟨_, _, _, l, rfl, rfl, line_small (by show 3 ≤ 16777216; decide), .cons ⟨_, rfl⟩ (.cons ⟨_, rfl⟩ (.cons ⟨_, rfl⟩ .nil))⟩⟩
def spWay : Sp := fun vs H Q _ => ∃ (w : Str), vs = [.str w] ∧ IsWay w ∧ Q .non H
section
variable {P : Program} {w : World} {K : PySem.W.Frag} {mg : Str → Option Value} {base : Heap}
theorem scWay : FnScope ["thing"] ["thing"] (defScope s_check_way) := ⟨rfl, rfl, rfl, by decide +kernel, rfl, by decide +kernel, by decide +kernel⟩
theorem ok_way {f aW : Addr} {fd : FuncData} {k : Nat} (T : Df K mg "check_way" s_check_way ["thing"] f fd) (W : Wy K mg aW) (B : Bi mg) : FnOk P w K mg base CX0 (k + 1) f fd ["thing"] spWay := by
  refine T.F.ok scWay (fun vs H Q E h => ?_) (fun cdv A outer s H vs Q E hr h => ?_)
  · obtain ⟨z, rfl, _⟩ := h
    rfl
  · obtain ⟨z, rfl, hz, q⟩ := h
    refine ⟨_, 
      (pss_one (ps_if (PW.pt (pw_or (pt_not (pt_val (pe_callB call_isi (by rfl) B.isinstance (by decide +kernel) (pa_cons (pv 0) (pa_cons (pe_bltn (v := .ty "str") (by rfl) B.str (by decide +kernel) rfl) pa_nil))))) (pw_or1 (pt_cmpR op_notIn_seq (pv 0) (pe_glob (v := .ref aW) (by rfl) W.g rfl) (by rfl)))))
        (pss_one ps_never)
        pss_nil)), ?_⟩
    refine ⟨_, rfl, _, _, _, _, true, rfl, .ty _, .base (.str _), kit_ty (by decide +kernel), true, rfl, iteF ?_⟩
    rcases hz with rfl | rfl | rfl
    · exact ⟨_, rfl, aW, _, rfl, .inr (W.t H), rfl, rfl, _, rfl, ite2 (fun c => absurd c (by decide +kernel)) (fun _ => q)⟩
    · exact ⟨_, rfl, aW, _, rfl, .inr (W.t H), rfl, rfl, _, rfl, ite2 (fun c => absurd c (by decide +kernel)) (fun _ => q)⟩
    · exact ⟨_, rfl, aW, _, rfl, .inr (W.t H), rfl, rfl, _, rfl, ite2 (fun c => absurd c (by decide +kernel)) (fun _ => q)⟩
end
end Fo
namespace Fo
open PySem PySem.Spec PyProof.Rows L2
def spChecks : Sp := fun vs H Q _ => ∃ (a b : Addr) (n m : Nat) (ns ms : List Int), vs = [.ref a, .ref b] ∧ H a = some (.lst (ns.map V.int)) ∧ H b = some (.lst (ms.map V.int)) ∧ IsOrd n ns ∧ 1 ≤ n ∧ n ≤ 12 ∧ IsOrd m ms ∧ 1 ≤ m ∧ m ≤ 12 ∧ ∀ H', Same H H' → Q .non H'
def spFit : Sp := fun vs H Q _ => ∃ (a b : Addr) (ns ms : List Int), vs = [.ref a, .ref b] ∧ H a = some (.lst (ns.map V.int)) ∧ H b = some (.lst (ms.map V.int)) ∧ ns.length = ms.length ∧ Q .non H
def spBehind : Sp := fun vs H Q _ => ∃ (a b : Addr) (n : Nat) (ns ms : List Int), vs = [.ref a, .ref b] ∧ H a = some (.lst (ns.map V.int)) ∧ H b = some (.lst (ms.map V.int)) ∧ IsOrd n ns ∧ IsOrd n ms ∧ 1 ≤ n ∧ n ≤ 12 ∧
  ∀ (l : Addr) (H' : Hp), H l = none → H' l = some (.lst ((behindL ns ms).map V.int)) → Same H H' → Q (.ref l) H'
section
variable {P : Program} {w : World} {K : PySem.W.Frag} {mg : Str → Option Value} {base : Heap}
end
end Fo
namespace Fo
open PySem PySem.Spec PyProof.Rows L2
/-! ### sums -/
def ind (b : Bool) : Nat := if b then 1 else 0
def sumN (l : List Int) (f : Int → Nat) : Nat := (l.map f).sum
theorem sumN_nil (f : Int → Nat) : sumN [] f = 0 := rfl
theorem sumN_cons (a : Int) (l : List Int) (f : Int → Nat) : sumN (a :: l) f = f a + sumN l f := by
  unfold sumN
  rw [List.map_cons, List.sum_cons]
theorem sumN_append (l m : List Int) (f : Int → Nat) : sumN (l ++ m) f = sumN l f + sumN m f := by
  unfold sumN
  rw [List.map_append, List.sum_append]
theorem sumN_perm {l m : List Int} (h : l.Perm m) (f : Int → Nat) : sumN l f = sumN m f := by
  induction h with
  | nil => rfl
  | cons x _ ih => rw [sumN_cons, sumN_cons, ih]
  | swap x y l => rw [sumN_cons, sumN_cons, sumN_cons, sumN_cons]; omega
  | trans _ _ h1 h2 => exact h1.trans h2
theorem sumN_congr {l : List Int} {f g : Int → Nat} (h : ∀ x ∈ l, f x = g x) : sumN l f = sumN l g := by
  unfold sumN
  rw [List.map_congr_left h]
theorem sumN_map (l : List Int) (g : Int → Int) (f : Int → Nat) : sumN (l.map g) f = sumN l (fun x => f (g x)) := by
  unfold sumN
  rw [List.map_map]
  rfl
theorem sumN_zero {l : List Int} {f : Int → Nat} (h : ∀ x ∈ l, f x = 0) : sumN l f = 0 := by
  rw [sumN_congr h]
  induction l with
  | nil => rfl
  | cons a l ih => rw [sumN_cons, ih fun x hx => h x (List.mem_cons_of_mem _ hx)]
theorem sumN_add (l : List Int) (f g : Int → Nat) : sumN l (fun x => f x + g x) = sumN l f + sumN l g := by
  induction l with
  | nil => rfl
  | cons a l ih => rw [sumN_cons, sumN_cons, sumN_cons, ih]; omega
theorem sumN_swap (l m : List Int) (f : Int → Int → Nat) : sumN l (fun i => sumN m (fun j => f i j)) = sumN m (fun j => sumN l (fun i => f i j)) := by
  induction l with
  | nil => exact (sumN_zero fun x _ => rfl).symm
  | cons a l ih =>
    rw [sumN_cons, ih, ← sumN_add]
    exact sumN_congr fun x _ => by rw [sumN_cons]
theorem filter_len (l : List Int) (p : Int → Bool) : (l.filter p).length = sumN l (fun x => ind (p x)) := by
  induction l with
  | nil => rfl
  | cons a l ih =>
    rw [sumN_cons, List.filter_cons]
    unfold ind at ih ⊢
    cases p a
    · simp only [Bool.false_eq_true, if_false]; omega
    · simp only [if_true, List.length_cons]; omega
/-! ### a list by its places -/
def g0 (s : List Int) (i : Int) : Int := s.getD i.toNat 0
theorem g0_at {s : List Int} {i : Nat} {x : Int} (h : s[i]? = some x) : g0 s (i : Int) = x := by
  unfold g0
  rw [Int.toNat_natCast, List.getD_eq_getElem?_getD, h]
  rfl
theorem by_places (s : List Int) : s = (rg s.length).map (g0 s) := by
  apply List.ext_getElem?
  intro i
  unfold rg
  rw [List.getElem?_map, List.getElem?_map]
  by_cases h : i < s.length
  · rw [List.getElem?_range h, List.getElem?_eq_getElem h]
    show some s[i] = some (g0 s (i : Int))
    rw [g0_at (List.getElem?_eq_getElem h)]
  · rw [List.getElem?_eq_none (by omega), List.getElem?_eq_none (by rw [List.length_range]; omega)]
    rfl
theorem rg_succ (n : Nat) : rg (n + 1) = rg n ++ [(n : Int)] := by
  unfold rg
  rw [List.range_succ, List.map_append]
  rfl
/-- how many of the later ones are less -/
def cntL (s : List Int) (i : Nat) : Nat := ((s.drop (i + 1)).filter (fun x => decide (x < g0 s i))).length
def invF (n : Nat) (a : Int → Int) : Nat := sumN (rg n) fun i => sumN (rg n) fun j => ind (decide (i < j) && decide (a j < a i))
def invN (s : List Int) : Nat := sumN (rg s.length) fun i => cntL s i.toNat
theorem drop_sum (n i : Nat) (f : Int → Nat) : sumN ((rg n).drop (i + 1)) f = sumN (rg n) fun j => if (i : Int) < j then f j else 0 := by
  induction n with
  | zero => rfl
  | succ n ih =>
    rw [rg_succ, sumN_append, ← ih, List.drop_append, sumN_append, rg_len]
    congr 1
    by_cases h : i + 1 ≤ n
    · rw [show i + 1 - n = 0 by omega, List.drop_zero, sumN_cons, sumN_cons, sumN_nil, sumN_nil, if_pos (by omega)]
    · rw [show i + 1 - n = (i - n) + 1 by omega, List.drop_succ_cons, List.drop_nil, sumN_cons, sumN_nil, sumN_nil, if_neg (by omega)]
theorem cnt_sum (s : List Int) (i : Nat) : cntL s i = sumN (rg s.length) fun j => ind (decide ((i : Int) < j) && decide (g0 s j < g0 s i)) := by
  unfold cntL
  rw [filter_len]
  have e : s.drop (i + 1) = ((rg s.length).drop (i + 1)).map (g0 s) := by
    rw [List.map_drop, ← by_places]
  rw [e, sumN_map, drop_sum]
  apply sumN_congr
  intro j _
  unfold ind
  by_cases h : (i : Int) < j
  · simp [h]
  · simp [h]
theorem inv_eq (s : List Int) : invN s = invF s.length (g0 s) := by
  unfold invN invF
  apply sumN_congr
  intro i hi
  have := rg_mem.mp hi
  rw [cnt_sum, Int.toNat_of_nonneg this.1]
/-! ### places of things -/
def pos (ys : List Int) (x : Int) : Int := ((ys.idxOf x : Nat) : Int)
def seatsL (xs ys : List Int) : List Int := xs.map (pos ys)
theorem pos_of {n : Nat} {ys : List Int} (o : IsOrd n ys) {j : Nat} {x : Int} (h : ys[j]? = some x) : pos ys x = (j : Int) := by
  obtain ⟨hj, e⟩ := List.getElem?_eq_some_iff.mp h
  have m : x ∈ ys := List.mem_of_getElem? h
  have hi : ys.idxOf x < ys.length := List.idxOf_lt_length_iff.mpr m
  have h2 : ys[ys.idxOf x]? = some x := by
    rw [List.getElem?_eq_getElem hi]
    exact congrArg some (List.getElem_idxOf hi)
  unfold pos
  rw [nd_ix o.nodup h2 h]
theorem pos_at {n : Nat} {ys : List Int} (o : IsOrd n ys) {x : Int} (h0 : 0 ≤ x) (h1 : x < n) : ∃ j : Nat, j < n ∧ ys[j]? = some x ∧ pos ys x = (j : Int) := by
  obtain ⟨j, hj, e⟩ := ord_at o (t := x.toNat) (by omega)
  rw [Int.toNat_of_nonneg h0] at e
  exact ⟨j, hj, e, pos_of o e⟩
theorem back_pos {n : Nat} {ys ps : List Int} (o : IsOrd n ys) (h : IsBack ys ps) {x : Int} (h0 : 0 ≤ x) (h1 : x < n) : ps[x.toNat]? = some (pos ys x) := by
  obtain ⟨j, hj, e, ep⟩ := pos_at o h0 h1
  rw [ep]
  exact h.2 j x e
theorem seats_len (xs ys : List Int) : (seatsL xs ys).length = xs.length := by
  unfold seatsL
  rw [List.length_map]
theorem seats_at {xs ys : List Int} {i : Nat} {x : Int} (h : xs[i]? = some x) : (seatsL xs ys)[i]? = some (pos ys x) := by
  unfold seatsL
  rw [List.getElem?_map, h]
  rfl
theorem seats_self {n : Nat} {ys : List Int} (o : IsOrd n ys) : seatsL ys ys = rg n := by
  apply List.ext_getElem?
  intro i
  by_cases h : i < n
  · obtain ⟨x, hx, _⟩ := ord_ix o h
    rw [seats_at hx, pos_of o hx]
    unfold rg
    rw [List.getElem?_map, List.getElem?_range h]
    rfl
  · rw [List.getElem?_eq_none (by rw [seats_len, o.len]; omega), List.getElem?_eq_none (by rw [rg_len]; omega)]
theorem seats_ord {n : Nat} {xs ys : List Int} (ox : IsOrd n xs) (oy : IsOrd n ys) : IsOrd n (seatsL xs ys) := by
  have h : (seatsL xs ys).Perm (seatsL ys ys) := List.Perm.map _ (ox.trans oy.symm)
  rw [seats_self oy] at h
  exact h
theorem g0_ord {n : Nat} {s : List Int} (o : IsOrd n s) : s = (rg n).map (g0 s) := by
  have e := by_places s
  rw [o.len] at e
  exact e
/-- inversions from the other side -/
theorem inv_turn {n : Nat} {s t : List Int} (os : IsOrd n s) (ot : IsOrd n t) (h : ∀ u ∈ rg n, g0 s (g0 t u) = u) : invN s = invN t := by
  rw [inv_eq, inv_eq, os.len, ot.len]
  unfold invF
  have p1 : ∀ f : Int → Nat, sumN (rg n) f = sumN (rg n) fun u => f (g0 t u) := fun f => by
    have e : sumN ((rg n).map (g0 t)) f = sumN (rg n) fun u => f (g0 t u) := sumN_map _ _ _
    rw [← e, ← g0_ord ot]
    exact (sumN_perm ot f).symm
  rw [p1]
  rw [sumN_congr (g := fun u => sumN (rg n) fun v => ind (decide (g0 t u < g0 t v) && decide (v < u))) (fun u hu => by
    rw [p1]
    exact sumN_congr fun v hv => by rw [h u hu, h v hv])]
  rw [sumN_swap]
  apply sumN_congr
  intro v _
  apply sumN_congr
  intro u _
  rw [Bool.and_comm]
theorem seats_turn {n : Nat} {xs ys : List Int} (ox : IsOrd n xs) (oy : IsOrd n ys) : ∀ u ∈ rg n, g0 (seatsL xs ys) (g0 (seatsL ys xs) u) = u := by
  intro u hu
  have hb := rg_mem.mp hu
  obtain ⟨y, hy, y0, y1⟩ := ord_ix oy (j := u.toNat) (by omega)
  have e1 : g0 (seatsL ys xs) u = pos xs y := by
    have := g0_at (seats_at (ys := xs) hy)
    rw [Int.toNat_of_nonneg hb.1] at this
    exact this
  obtain ⟨j, hj, ej, pj⟩ := pos_at ox y0 y1
  rw [e1, pj, g0_at (seats_at (ys := ys) ej), pos_of oy hy]
  omega
/-! ### how far two orders are -/
def farSwap (xs ys : List Int) : Int := ((invN (seatsL xs ys) : Nat) : Int)
def spotL (xs ys : List Int) : List Int := (rg xs.length).filter fun p => !decide (g0 xs p = g0 ys p)
def farSpot (xs ys : List Int) : Int := (((spotL xs ys).length : Nat) : Int)
def absI (i : Int) : Int := if i < 0 then -i else i
def gapsL (xs ys : List Int) : List Int := (rg xs.length).map fun p => absI (p - g0 (seatsL xs ys) p)
def maxL (l : List Int) : Int := l.foldr max 0
def farShift (xs ys : List Int) : Int := maxL (gapsL xs ys)
theorem maxL_of : ∀ {l : List Int} {m : Int}, (∀ x ∈ l, 0 ≤ x) → m ∈ l → (∀ x ∈ l, x ≤ m) → maxL l = m := by
  intro l m h0 hm hle
  have key : ∀ l : List Int, (∀ x ∈ l, x ≤ m) → maxL l ≤ m := by
    intro l hl
    induction l with
    | nil => exact h0 m hm
    | cons a l ih =>
      show max a (maxL l) ≤ m
      have h1 := hl a List.mem_cons_self
      have h2 := ih fun x hx => hl x (List.mem_cons_of_mem _ hx)
      omega
  have key2 : ∀ l : List Int, ∀ x ∈ l, x ≤ maxL l := by
    intro l
    induction l with
    | nil => intro x hx; exact absurd hx List.not_mem_nil
    | cons a l ih =>
      intro x hx
      show x ≤ max a (maxL l)
      rcases List.mem_cons.mp hx with rfl | hx
      · omega
      · have := ih x hx
        omega
  have := key l hle
  have := key2 l m hm
  omega
theorem gaps_nonneg (xs ys : List Int) : ∀ x ∈ gapsL xs ys, 0 ≤ x := by
  intro x hx
  obtain ⟨p, _, rfl⟩ := List.mem_map.mp hx
  unfold absI
  split <;> omega
theorem maxL_mem {l : List Int} (h0 : ∀ x ∈ l, 0 ≤ x) (hl : 0 < l.length) : maxL l ∈ l ∧ ∀ x ∈ l, x ≤ maxL l := by
  induction l with
  | nil => exact absurd hl (Nat.lt_irrefl _)
  | cons a l ih =>
    show max a (maxL l) ∈ a :: l ∧ ∀ x ∈ a :: l, x ≤ max a (maxL l)
    by_cases c : 0 < l.length
    · obtain ⟨h1, h2⟩ := ih (fun x hx => h0 x (List.mem_cons_of_mem _ hx)) c
      constructor
      · by_cases d : maxL l ≤ a
        · rw [Int.max_eq_left d]
          exact List.mem_cons_self
        · rw [Int.max_eq_right (by omega)]
          exact List.mem_cons_of_mem _ h1
      · intro x hx
        rcases List.mem_cons.mp hx with rfl | hx
        · omega
        · have := h2 x hx
          omega
    · have e : l = [] := List.eq_nil_of_length_eq_zero (by omega)
      subst e
      have := h0 a List.mem_cons_self
      have e2 : max a (maxL []) = a := by show max a 0 = a; omega
      rw [e2]
      exact ⟨List.mem_cons_self, fun x hx => by rw [List.mem_singleton.mp hx]; exact Int.le_refl _⟩
theorem farSwap_turn {n : Nat} {xs ys : List Int} (ox : IsOrd n xs) (oy : IsOrd n ys) : farSwap ys xs = farSwap xs ys := by
  unfold farSwap
  rw [inv_turn (seats_ord ox oy) (seats_ord oy ox) (seats_turn ox oy)]
theorem inv_rg (n : Nat) : invN (rg n) = 0 := by
  rw [inv_eq]
  unfold invF
  apply sumN_zero
  intro i hi
  apply sumN_zero
  intro j hj
  rw [rg_len] at hi hj
  have hi2 := rg_mem.mp hi
  have hj2 := rg_mem.mp hj
  have e : ∀ k : Int, k ∈ rg n → g0 (rg n) k = k := fun k hk => by
    have := rg_mem.mp hk
    have z : (rg n)[k.toNat]? = some k := by
      unfold rg
      rw [List.getElem?_map, List.getElem?_range (by omega)]
      show some ((k.toNat : Nat) : Int) = some k
      rw [Int.toNat_of_nonneg this.1]
    have z2 := g0_at z
    rw [Int.toNat_of_nonneg this.1] at z2
    exact z2
  rw [e i hi, e j hj]
  unfold ind
  by_cases c : i < j
  · have d : ¬ j < i := by omega
    simp [c, d]
  · simp [c]
theorem farSwap_self {n : Nat} {xs : List Int} (ox : IsOrd n xs) : farSwap xs xs = 0 := by
  unfold farSwap
  rw [seats_self ox, inv_rg]
  rfl
theorem farSpot_turn {xs ys : List Int} (h : xs.length = ys.length) : farSpot ys xs = farSpot xs ys := by
  unfold farSpot spotL
  rw [h]
  congr 3
  funext p
  congr 1
  by_cases c : g0 ys p = g0 xs p
  · rw [decide_eq_true c, decide_eq_true c.symm]
  · rw [decide_eq_false c, decide_eq_false fun e => c e.symm]
theorem farSpot_self (xs : List Int) : farSpot xs xs = 0 := by
  unfold farSpot spotL
  have e : ((rg xs.length).filter fun p => !decide (g0 xs p = g0 xs p)) = [] := by
    rw [List.filter_eq_nil_iff]
    intro a _
    simp
  rw [e]
  rfl
theorem gaps_len (xs ys : List Int) : (gapsL xs ys).length = xs.length := by
  unfold gapsL
  rw [List.length_map, rg_len]
theorem gaps_sub {n : Nat} {xs ys : List Int} (ox : IsOrd n xs) (oy : IsOrd n ys) : ∀ g ∈ gapsL ys xs, g ∈ gapsL xs ys := by
  intro g hg
  obtain ⟨u, hu, rfl⟩ := List.mem_map.mp hg
  rw [oy.len] at hu
  have hb := (seats_ord oy ox).mem (x := g0 (seatsL ys xs) u) (by
    have e := g0_ord (seats_ord oy ox)
    rw [e]
    exact List.mem_map.mpr ⟨u, hu, by rw [← e]⟩)
  refine List.mem_map.mpr ⟨g0 (seatsL ys xs) u, by rw [ox.len]; exact rg_mem.mpr hb, ?_⟩
  rw [seats_turn ox oy u hu]
  unfold absI
  split <;> split <;> omega
theorem farShift_turn {n : Nat} {xs ys : List Int} (ox : IsOrd n xs) (oy : IsOrd n ys) (hn : 1 ≤ n) : farShift ys xs = farShift xs ys := by
  unfold farShift
  obtain ⟨h1, h2⟩ := maxL_mem (gaps_nonneg xs ys) (by rw [gaps_len, ox.len]; exact hn)
  exact maxL_of (gaps_nonneg ys xs) (gaps_sub oy ox _ h1) fun x hx => h2 x (gaps_sub ox oy x hx)
theorem farShift_self {n : Nat} {xs : List Int} (ox : IsOrd n xs) (hn : 1 ≤ n) : farShift xs xs = 0 := by
  unfold farShift
  have z : ∀ g ∈ gapsL xs xs, g = 0 := by
    intro g hg
    obtain ⟨u, hu, rfl⟩ := List.mem_map.mp hg
    rw [ox.len] at hu
    have hb := rg_mem.mp hu
    rw [seats_self ox]
    have e : (rg n)[u.toNat]? = some u := by
      unfold rg
      rw [List.getElem?_map, List.getElem?_range (by omega)]
      show some ((u.toNat : Nat) : Int) = some u
      rw [Int.toNat_of_nonneg hb.1]
    have z2 := g0_at e
    rw [Int.toNat_of_nonneg hb.1] at z2
    rw [z2]
    unfold absI
    split <;> omega
  obtain ⟨h1, _⟩ := maxL_mem (gaps_nonneg xs xs) (by rw [gaps_len, ox.len]; exact hn)
  exact z _ h1
end Fo
namespace Fo
open PySem PySem.Spec PyProof.Rows L2
def farW (w : Str) (xs ys : List Int) : Int := if w = "swap" then farSwap xs ys else if w = "spot" then farSpot xs ys else farShift xs ys
theorem farW_swap (xs ys : List Int) : farW "swap" xs ys = farSwap xs ys := if_pos rfl
theorem farW_spot (xs ys : List Int) : farW "spot" xs ys = farSpot xs ys := by
  unfold farW
  rw [if_neg n1, if_pos rfl]
theorem farW_shift (xs ys : List Int) : farW "shift" xs ys = farShift xs ys := by
  unfold farW
  rw [if_neg n2, if_neg n3]
theorem farW_turn {w : Str} {n : Nat} {xs ys : List Int} (ox : IsOrd n xs) (oy : IsOrd n ys) (hn : 1 ≤ n) : farW w ys xs = farW w xs ys := by
  unfold farW
  rw [farSwap_turn ox oy, farSpot_turn (by rw [ox.len, oy.len]), farShift_turn ox oy hn]
theorem farW_self {w : Str} {n : Nat} {xs : List Int} (ox : IsOrd n xs) (hn : 1 ≤ n) : farW w xs xs = 0 := by
  unfold farW
  rw [farSwap_self ox, farSpot_self, farShift_self ox hn]
  split
  · rfl
  · split <;> rfl
abbrev rAbs : List V → Hp → VK → Prop := fun xs H Q => ∃ i, xs = [.int i] ∧ Q (.int (if i < 0 then -i else i)) H
def spFar : Sp := fun vs H Q _ => ∃ (w : Str) (a b : Addr) (n : Nat) (xs ys : List Int), vs = [.str w, .ref a, .ref b] ∧ IsWay w ∧ H a = some (.lst (xs.map V.int)) ∧ H b = some (.lst (ys.map V.int)) ∧ IsOrd n xs ∧ IsOrd n ys ∧ 1 ≤ n ∧ n ≤ 12 ∧ ∀ (H' : Hp), Same H H' → Q (.int (farW w xs ys)) H'
end Fo
namespace Fo
open PySem PySem.Spec PyProof.Rows L2
def two (vs : List V) (H : Hp) (a b : Addr) (n : Nat) (xs ys : List Int) : Prop := vs = [.ref a, .ref b] ∧ H a = some (.lst (xs.map V.int)) ∧ H b = some (.lst (ys.map V.int)) ∧ IsOrd n xs ∧ IsOrd n ys ∧ 1 ≤ n ∧ n ≤ 12
end Fo
namespace Fo
open PySem PySem.Spec PyProof.Rows L2
def spPlaces : Sp := fun vs H Q _ => ∃ (a : Addr) (n : Nat) (ns : List Int), vs = [.ref a] ∧ H a = some (.lst (ns.map V.int)) ∧ IsOrd n ns ∧ 1 ≤ n ∧ n ≤ 12 ∧
  ∀ (ps : List Int) (l : Addr) (H' : Hp), IsBack ns ps → H l = none → H' l = some (.lst (ps.map V.int)) → Same H H' → Q (.ref l) H'
section
variable {P : Program} {w : World} {K : PySem.W.Frag} {mg : Str → Option Value} {base : Heap}
theorem scPlaces : FnScope ["order", "places", "place", "thing"] ["order"] (defScope s_places_in) := ⟨rfl, rfl, rfl, by decide +kernel, rfl, by decide +kernel, by decide +kernel⟩
set_option maxHeartbeats 2000000 in
theorem ok_places {f : Addr} {fd : FuncData} {k : Nat} (T : Df K mg "places_in" s_places_in ["order"] f fd) (B : Bi mg) : FnOk P w K mg base CX0 (k + 1) f fd ["order"] spPlaces := by
  refine T.F.ok scPlaces (fun vs H Q E h => ?_) (fun cdv A outer s H vs Q E hr h => ?_)
  · obtain ⟨a, n, ns, rfl, _⟩ := h
    rfl
  · obtain ⟨a, n, ns, rfl, ha, ho, hn1, hn2, q⟩ := h
    have hlm : (ns.map V.int).length = n := by rw [List.length_map, ho.len]
    have hz : ∀ m : Nat, (List.replicate m [V.int 0]).flatten = (List.replicate m (0 : Int)).map V.int := by
      intro m
      induction m with
      | zero => rfl
      | succ m ih => rw [List.replicate_succ, List.replicate_succ, List.flatten_cons, ih]; rfl
    refine ⟨_, 
      (pss_cons (ps_set (i := 1) scPlaces.nd rfl (.inl rfl) (pe_op op_rep (pe_lst (pa_cons pe_int pa_nil)) (pe_callB call_len_seq (by rfl) B.len PySem.boot_len (pa_cons (pv 0) pa_nil))))
      (pss_cons (ps_for PassesOwn.never rfl (pi_enum (by rfl) B.enumerate (pa_cons (pv 0) pa_nil)) (pg_tup (by rfl) (pgs_cons (pg_name (i := 2) scPlaces.nd rfl (.inl rfl)) (pgs_cons (pg_name (i := 3) scPlaces.nd rfl (.inl rfl)) pgs_nil)))
        (pss_one (ps_asg (pv 2) (pg_sub (pv 1) (pv 3) set_list))))
      (pss_one (ps_ret (pv 1))))), ?_⟩
    refine ⟨line_small (by show 1 ≤ 16777216; decide), fun z nz => ?_⟩
    have s1 := same_new (o := .lst [.int 0]) nz
    refine ⟨_, rfl, a, _, rfl, .inl (SqL.of (s1 _ _ ha)), z, _, _, rfl, rfl, upd_same, by omega, by rw [hlm]; omega, line_small (by rw [hlm, Int.toNat_natCast]; show 1 * n ≤ _; omega), fun l nl => ?_⟩
    have s2 := s1.trans (same_new (o := .lst (List.replicate (((ns.map V.int).length : Nat) : Int).toNat [V.int 0]).flatten) nl)
    have nHl : H l = none := s1.free nl
    refine ⟨_, rfl, a, _, rfl, SqL.of (s2 _ _ ha), ?_⟩
    refine for_enumL (xs := ns.map V.int) (fun i σ H3 => ∃ (y2 y3 : Option V) (ps : List Int), σ = [some (.ref a), some (.ref l), y2, y3] ∧ H3 l = some (.lst (ps.map V.int)) ∧ ps.length = n ∧ (∀ (j : Nat) (x : Int), j < i → ns[j]? = some x → ps[x.toNat]? = some (j : Int)) ∧ Same H H3)
      ⟨none, none, List.replicate n 0, rfl, by rw [upd_same, hz, hlm, Int.toNat_natCast], by rw [List.length_replicate], fun j x hj => absurd hj (Nat.not_lt_zero _), s2⟩ (fun i σ H3 hP => by obtain ⟨_, _, _, _, _, _, _, sm⟩ := hP; exact SqL.of (sm _ _ ha)) (fun i x t σ H3 hx hP nt => ?_) (fun σ H3 hP => ?_)
    · obtain ⟨y2, y3, ps, rfl, hl3, el, hat, sm⟩ := hP
      obtain ⟨y, ey, rfl⟩ := int_at_inv hx
      have hy := ho.mem (List.mem_of_getElem? ey)
      have s3 := same_new (o := .tup [.int (i : Nat), .int y]) nt
      have hl4 := s3 _ _ hl3
      refine ⟨t, _, rfl, .inl (.inl upd_same), rfl, _, _, rfl, _, _, rfl, rfl, ?_⟩
      refine ⟨_, rfl, _, rfl, _, rfl, l, _, _, y.toNat, rfl, rfl, hl4, ix_n (by omega) (by rw [List.length_map]; omega), ?_⟩
      refine ⟨_, _, ps.set y.toNat (i : Int), rfl, by rw [upd_same, List.map_set], by rw [List.length_set]; exact el, fun j x hj hx2 => ?_, fun c o e => ?_⟩
      · by_cases c : j = i
        · subst c
          have e1 : x = y := Option.some.inj (hx2.symm.trans ey)
          subst e1
          rw [List.getElem?_set_self (by omega)]
        · have hx3 := ho.mem (List.mem_of_getElem? hx2)
          have ne : y.toNat ≠ x.toNat := fun e => c (nd_ix ho.nodup hx2 (by rw [ey]; congr 1; omega))
          rw [List.getElem?_set_ne ne]
          exact hat j x (by omega) hx2
      · rw [upd_ne (ne_of_none e nHl)]
        exact s3 _ _ (sm _ _ e)
    · obtain ⟨y2, y3, ps, rfl, hl3, el, hat, sm⟩ := hP
      rw [hlm] at hat
      refine ⟨_, rfl, q ps l H3 ⟨by rw [el, ho.len], fun j x hx => hat j x ?_ hx⟩ nHl hl3 sm⟩
      have := (List.getElem?_eq_some_iff.mp hx).1
      rw [ho.len] at this
      exact this
end
end Fo
namespace Fo
open PySem PySem.Spec PyProof.Rows L2
theorem g0_getD {s : List Int} {i : Nat} {x : Int} (h : s[i]? = some x) : g0 s i = x := g0_at h
def spSeats : Sp := fun vs H Q _ => ∃ (a b : Addr) (n : Nat) (xs ys : List Int), two vs H a b n xs ys ∧ ∀ (l : Addr) (H' : Hp), H l = none → H' l = some (.lst ((seatsL xs ys).map V.int)) → Same H H' → Q (.ref l) H'
section
variable {P : Program} {w : World} {K : PySem.W.Frag} {mg : Str → Option Value} {base : Heap}
theorem scSeats : FnScope ["one", "other", "places", "thing"] ["one", "other"] (defScope s_seats_in) := ⟨rfl, rfl, rfl, by decide +kernel, rfl, by decide +kernel, by decide +kernel⟩
set_option maxHeartbeats 2000000 in
theorem ok_seats {f fP : Addr} {fd fdP : FuncData} {k : Nat} (T : Df K mg "seats_in" s_seats_in ["one", "other"] f fd) (T_places_in : Df K mg "places_in" s_places_in ["order"] fP fdP) (B : Bi mg) : FnOk P w K mg base CX0 (k + 2) f fd ["one", "other"] spSeats := by
  have G_places_in : FnOk P w K mg base CX0 (k + 1) fP fdP ["order"] spPlaces := ok_places T_places_in B
  refine T.F.ok scSeats (fun vs H Q E h => ?_) (fun cdv A outer s H vs Q E hr h => ?_)
  · obtain ⟨a, b, n, xs, ys, ⟨rfl, _⟩, _⟩ := h
    rfl
  · obtain ⟨a, b, n, xs, ys, ⟨rfl, ha, hb, ox, oy, hn1, hn2⟩, q⟩ := h
    refine ⟨_, 
      (pss_cons (ps_set (i := 2) scSeats.nd rfl (.inr rfl) (pe_call G_places_in hr (by rfl) T_places_in.g T_places_in.F.kp T_places_in.b .nil pass0 (pa_cons (pv 1) pa_nil)))
      (pss_one (ps_ret (pe_lc (own := [("thing", 3)]) (g := (gName 3)) (tt := tYes) (te := (tOp (rIxL K) (tVar 2) (tVar 3))) rfl scSeats.nd (pi_list (pv 0)) (blkOk_by (N := ["one", "other", "places", "thing"]) (sc := defScope s_seats_in) (by decide +kernel)) (fun _ _ _ _ _ => (pg_name (i := 3) scSeats.nd rfl (.inl rfl))) (fun _ _ _ _ _ => pts_nil) (fun _ _ _ _ _ => (pe_ix ix_list (pv 2) (pv 3) (fun _ _ => rfl))))))), ?_⟩
    refine ⟨_, rfl, b, n, ys, rfl, hb, oy, hn1, hn2, fun ps l H1 hps nl hl s1 => ?_⟩
    refine ⟨_, rfl, a, rfl, ⟨_, SqL.of (s1 _ _ ha)⟩, fun D nD => ?_⟩
    have nHD : H D = none := s1.free nD
    refine lc_list (K := K) (a := a) (xs := xs.map V.int) (fun i H3 => H3 D = some (.lst (((seatsL xs ys).take i).map V.int)) ∧ H3 l = some (.lst (ps.map V.int)) ∧ Same H H3) ⟨upd_same, same_new nD _ _ hl, s1.trans (same_new nD)⟩ (fun i H3 _ hP => SqL.of (hP.2.2 _ _ ha)) (fun i x H3 hx hP => ?_) (fun H3 hP => ?_)
    · obtain ⟨y, ey, rfl⟩ := int_at_inv hx
      obtain ⟨hD3, hl3, sm⟩ := hP
      have hy := ox.mem (List.mem_of_getElem? ey)
      have hi := (List.getElem?_eq_some_iff.mp ey).1
      rw [ox.len] at hi
      refine ⟨rfl, _, rfl, _, rfl, l, _, _, _, rfl, rfl, SqL.of hl3, at_of (j := y.toNat) (by omega) (int_at (back_pos oy hps hy.1 hy.2)), _, hD3, line_lt (by rw [List.length_map, List.length_take]; omega), ?_, ?_, fun c o e => ?_⟩
      · rw [upd_same, take_more (seats_at ey), List.map_append]
        rfl
      · rw [upd_ne (ne_of_none hl nD)]
        exact hl3
      · rw [upd_ne (ne_of_none e nHD)]
        exact sm _ _ e
    · obtain ⟨hD3, hl3, sm⟩ := hP
      rw [List.take_of_length_le (by rw [seats_len, List.length_map]; exact Nat.le_refl _)] at hD3
      exact q D H3 nHD hD3 sm
end
end Fo
namespace Fo
open PySem PySem.Spec PyProof.Rows L2
def spSwap : Sp := fun vs H Q _ => ∃ (a b : Addr) (n : Nat) (xs ys : List Int), two vs H a b n xs ys ∧ ∀ (H' : Hp), Same H H' → Q (.int (farSwap xs ys)) H'
def spSpot : Sp := fun vs H Q _ => ∃ (a b : Addr) (n : Nat) (xs ys : List Int), two vs H a b n xs ys ∧ ∀ (H' : Hp), Same H H' → Q (.int (farSpot xs ys)) H'
def spShift : Sp := fun vs H Q _ => ∃ (a b : Addr) (n : Nat) (xs ys : List Int), two vs H a b n xs ys ∧ ∀ (H' : Hp), Same H H' → Q (.int (farShift xs ys)) H'
section
variable {P : Program} {w : World} {K : PySem.W.Frag} {mg : Str → Option Value} {base : Heap}
theorem scSwap : FnScope ["one", "other", "seats", "turned", "place", "seat", "later"] ["one", "other"] (defScope s_far_by_swap) := ⟨rfl, rfl, rfl, by decide +kernel, rfl, by decide +kernel, by decide +kernel⟩
set_option maxHeartbeats 2000000 in
theorem ok_swap {f fP : Addr} {fd fdP : FuncData} {k : Nat} (T : Df K mg "far_by_swap" s_far_by_swap ["one", "other"] f fd) (T_seats_in : Df K mg "seats_in" s_seats_in ["one", "other"] fP fdP) (G_seats_in : FnOk P w K mg base CX0 k fP fdP ["one", "other"] spSeats) (B : Bi mg) : FnOk P w K mg base CX0 (k + 1) f fd ["one", "other"] spSwap := by
  refine T.F.ok scSwap (fun vs H Q E h => ?_) (fun cdv A outer s H vs Q E hr h => ?_)
  · obtain ⟨a, b, n, xs, ys, ⟨rfl, _⟩, _⟩ := h
    rfl
  · obtain ⟨a, b, n, xs, ys, ⟨rfl, ha, hb, ox, oy, hn1, hn2⟩, q⟩ := h
    refine ⟨_, 
      (pss_cons (ps_set (i := 2) scSwap.nd rfl (.inl rfl) (pe_call G_seats_in hr (by rfl) T_seats_in.g T_seats_in.F.kp T_seats_in.b .nil pass0 (pa_cons (pv 0) (pa_cons (pv 1) pa_nil))))
      (pss_cons (ps_set (i := 3) scSwap.nd rfl (.inl rfl) pe_int)
      (pss_cons (ps_for PassesOwn.never rfl (pi_enum (by rfl) B.enumerate (pa_cons (pv 2) pa_nil)) (pg_tup (by rfl) (pgs_cons (pg_name (i := 4) scSwap.nd rfl (.inl rfl)) (pgs_cons (pg_name (i := 5) scSwap.nd rfl (.inr rfl)) pgs_nil)))
        (pss_one (ps_aug (i := 3) scSwap.nd rfl (.inl rfl) (pe_callB call_len_seq (by rfl) B.len PySem.boot_len (pa_cons (pe_lc (own := [("later", 6)]) (g := (gName 6)) (tt := (tTest (tOp (rI0 fun i j => .bl (decide (i < j))) (tVar 6) (tVar 5)))) (te := (tVar 6)) rfl scSwap.nd (pi_list (pe_slice sl_list (pv 2) (po_some (pe_op op_add (pv 4) pe_int)) po_none)) (blkOk_by (N := ["one", "other", "seats", "turned", "place", "seat", "later"]) (sc := defScope s_far_by_swap) (by decide +kernel)) (fun _ _ _ _ _ => (pg_name (i := 6) scSwap.nd rfl (.inl rfl))) (fun _ _ _ _ _ => (pts_one (pt_cmpR op_lt (pv 6) (pv 5) (nomark _)))) (fun _ _ _ _ _ => (pv 6))) pa_nil)) ip_add)))
      (pss_one (ps_ret (pv 3)))))), ?_⟩
    refine ⟨_, rfl, _, rfl, a, b, n, xs, ys, ⟨rfl, ha, hb, ox, oy, hn1, hn2⟩, fun l H1 nl hl s1 => ?_⟩
    have os := seats_ord ox oy
    refine ⟨_, rfl, l, _, rfl, SqL.of hl, ?_⟩
    refine for_enumL (xs := (seatsL xs ys).map V.int) (fun i σ H3 => ∃ (y4 y5 y6 : Option V), σ = [some (.ref a), some (.ref b), some (.ref l), some (.int ((sumN (rg i) (fun p => cntL (seatsL xs ys) p.toNat) : Nat) : Int)), y4, y5, y6] ∧ H3 l = some (.lst ((seatsL xs ys).map V.int)) ∧ Same H H3)
      ⟨none, none, none, rfl, hl, s1⟩ (fun i σ H3 hP => by obtain ⟨_, _, _, _, hl3, _⟩ := hP; exact SqL.of hl3) (fun i x t σ H3 hx hP nt => ?_) (fun σ H3 hP => ?_)
    · obtain ⟨y4, y5, y6, rfl, hl3, sm⟩ := hP
      obtain ⟨y, ey, rfl⟩ := int_at_inv hx
      have hi := (List.getElem?_eq_some_iff.mp ey).1
      rw [os.len] at hi
      have s3 := same_new (o := .tup [.int (i : Nat), .int y]) nt
      refine ⟨t, _, rfl, .inl (.inl upd_same), rfl, _, _, rfl, _, _, rfl, rfl, ?_⟩
      refine ⟨_, rfl, _, rfl, _, rfl, (i : Int), 1, rfl, rfl, _, rfl, l, _, rfl, SqL.of (s3 _ _ hl3), fun c nc => ?_⟩
      have s4 := s3.trans (same_new (o := .lst (cutV ((seatsL xs ys).map V.int) (some ((i : Int) + 1)) none)) nc)
      have ecut : cutV ((seatsL xs ys).map V.int) (some ((i : Int) + 1)) none = (((seatsL xs ys).drop (i + 1)).map V.int) := by
        rw [cut_ints, show (i : Int) + 1 = ((i + 1 : Nat) : Int) by omega, cutI_tail]
      have hc4 : (upd (upd H3 t (.tup [.int (i : Nat), .int y])) c (.lst (cutV ((seatsL xs ys).map V.int) (some ((i : Int) + 1)) none))) c = some (.lst (((seatsL xs ys).drop (i + 1)).map V.int)) := by rw [upd_same, ecut]
      refine ⟨c, rfl, ⟨_, SqL.of hc4⟩, fun D nD => ?_⟩
      have ncD : c ≠ D := ne_of_none hc4 nD
      refine lc_list (K := K) (a := c) (xs := ((seatsL xs ys).drop (i + 1)).map V.int) (fun m H5 => H5 D = some (.lst (((((seatsL xs ys).drop (i + 1)).take m).filter (fun z => decide (z < g0 (seatsL xs ys) i))).map V.int)) ∧ H5 c = some (.lst (((seatsL xs ys).drop (i + 1)).map V.int)) ∧ Same H3 H5)
        ⟨upd_same, by rw [upd_ne ncD]; exact hc4, s4.trans (same_new nD)⟩ (fun m H5 _ hP => SqL.of hP.2.1) (fun m x H5 hx hP => ?_) (fun H5 hP => ?_)
      · obtain ⟨hD5, hc5, s5⟩ := hP
        obtain ⟨z, ez, rfl⟩ := int_at_inv hx
        have eg : g0 (seatsL xs ys) i = y := g0_at ey
        refine ⟨rfl, _, rfl, _, rfl, z, y, rfl, rfl, _, rfl, ite2 (fun c => ?_) (fun c => ?_)⟩
        · have hz : z < y := of_decide_eq_true c
          refine ⟨_, rfl, _, hD5, line_lt ?_, ?_, by rw [upd_ne ncD]; exact hc5, fun u o e => ?_⟩
          · rw [List.length_map]
            refine Nat.lt_of_le_of_lt (List.length_filter_le _ _) ?_
            rw [List.length_take, List.length_drop, os.len]
            omega
          · rw [upd_same, filter_more _ ez, eg, decide_eq_true hz, if_pos rfl, List.map_append]
            rfl
          · rw [upd_ne (ne_of_none (s4 _ _ e) nD)]
            exact s5 _ _ e
        · refine ⟨?_, hc5, s5⟩
          rw [filter_more _ ez, eg, decide_eq_false (fun hz => c (decide_eq_true hz)), if_neg (by decide), List.append_nil]
          rw [eg] at hD5
          exact hD5
      · obtain ⟨hD5, hc5, s5⟩ := hP
        rw [List.length_map, List.take_length] at hD5
        refine ⟨D, _, rfl, .inl (SqL.of hD5), _, _, rfl, rfl, ?_⟩
        refine ⟨some (.int (i : Int)), some (.int y), y6, ?_, s5 _ _ hl3, sm.trans s5⟩
        rw [rg_succ, sumN_append, sumN_cons, sumN_nil, List.length_map]
        show [some (.ref a), some (.ref b), some (.ref l), some (V.int (((sumN (rg i) (fun p => cntL (seatsL xs ys) p.toNat) : Nat) : Int) + ((cntL (seatsL xs ys) i : Nat) : Int))), some (.int (i : Int)), some (.int y), y6] = _
        rw [Int.toNat_natCast, Int.natCast_add, Nat.add_zero]
    · obtain ⟨y4, y5, y6, rfl, hl3, sm⟩ := hP
      refine ⟨_, rfl, ?_⟩
      have z := q H3 sm
      unfold farSwap invN at z
      rw [List.length_map]
      exact z
theorem scSpot : FnScope ["one", "other", "place"] ["one", "other"] (defScope s_far_by_spot) := ⟨rfl, rfl, rfl, by decide +kernel, rfl, by decide +kernel, by decide +kernel⟩
set_option maxHeartbeats 2000000 in
theorem ok_spot {f : Addr} {fd : FuncData} {k : Nat} (T : Df K mg "far_by_spot" s_far_by_spot ["one", "other"] f fd) (B : Bi mg) : FnOk P w K mg base CX0 (k + 1) f fd ["one", "other"] spSpot := by
  refine T.F.ok scSpot (fun vs H Q E h => ?_) (fun cdv A outer s H vs Q E hr h => ?_)
  · obtain ⟨a, b, n, xs, ys, ⟨rfl, _⟩, _⟩ := h
    rfl
  · obtain ⟨a, b, n, xs, ys, ⟨rfl, ha, hb, ox, oy, hn1, hn2⟩, q⟩ := h
    have hxl : (xs.map V.int).length = n := by rw [List.length_map, ox.len]
    refine ⟨_, 
      (pss_one (ps_ret (pe_callB call_len_seq (by rfl) B.len PySem.boot_len (pa_cons (pe_lc (own := [("place", 2)]) (g := (gName 2)) (tt := (tTest (tOp rNe (tOp (rIxL K) (tVar 0) (tVar 2)) (tOp (rIxL K) (tVar 1) (tVar 2))))) (te := (tVar 2)) rfl scSpot.nd (pi_range1 (by rfl) B.range (pa_cons (pe_callB call_len_seq (by rfl) B.len PySem.boot_len (pa_cons (pv 0) pa_nil)) pa_nil)) (blkOk_by (N := ["one", "other", "place"]) (sc := defScope s_far_by_spot) (by decide +kernel)) (fun _ _ _ _ _ => (pg_name (i := 2) scSpot.nd rfl (.inl rfl))) (fun _ _ _ _ _ => (pts_one (pt_cmpR op_ne (pe_ix ix_list (pv 0) (pv 2) (fun _ _ => rfl)) (pe_ix ix_list (pv 1) (pv 2) (fun _ _ => rfl)) (nomark _)))) (fun _ _ _ _ _ => (pv 2))) pa_nil)))), ?_⟩
    refine ⟨_, rfl, a, _, rfl, .inl (SqL.of ha), _, rfl, by omega, by rw [hxl]; omega, fun D nD => ?_⟩
    rw [hxl, Int.toNat_natCast]
    refine lc_range (lo := 0) (n := n) (fun m H3 => H3 D = some (.lst (((rg m).filter (fun p => !decide (g0 xs p = g0 ys p))).map V.int)) ∧ Same H H3) ⟨upd_same, same_new nD⟩ (fun m H3 hm hP => ?_) (fun H3 hP => ?_)
    · obtain ⟨hD3, sm⟩ := hP
      obtain ⟨x, ex, _⟩ := ord_ix ox hm
      obtain ⟨y, ey, _⟩ := ord_ix oy hm
      have gx : g0 xs (m : Int) = x := g0_at ex
      have gy : g0 ys (m : Int) = y := g0_at ey
      have fm : ((rg (m + 1)).filter fun p => !decide (g0 xs p = g0 ys p)) = ((rg m).filter fun p => !decide (g0 xs p = g0 ys p)) ++ (if x = y then [] else [(m : Int)]) := by
        rw [rg_succ, List.filter_append, List.filter_cons, gx, gy]
        congr 1
        by_cases c : x = y
        · simp [c]
        · simp [c]
      refine ⟨rfl, _, rfl, _, rfl, a, _, _, _, rfl, rfl, SqL.of (sm _ _ ha), at_of (j := m) (by omega) (int_at ex), _, rfl, _, rfl, b, _, _, _, rfl, rfl, SqL.of (sm _ _ hb), at_of (j := m) (by omega) (int_at ey), rfl, _, rfl, ?_⟩
      by_cases c : x = y
      · subst c
        refine iteNS rfl ⟨?_, sm⟩
        rw [fm, if_pos rfl, List.append_nil]
        exact hD3
      · rw [decide_eq_false (fun e => c (V.int.inj e))]
        refine iteT ⟨_, rfl, _, hD3, line_lt ?_, ?_, fun u o e => ?_⟩
        · rw [List.length_map]
          refine Nat.lt_of_le_of_lt (List.length_filter_le _ _) ?_
          rw [rg_len]
          omega
        · rw [upd_same, fm, if_neg c, List.map_append, Int.zero_add]
          rfl
        · rw [upd_ne (ne_of_none e nD)]
          exact sm _ _ e
    · obtain ⟨hD3, sm⟩ := hP
      refine ⟨D, _, rfl, .inl (SqL.of hD3), ?_⟩
      have z := q H3 sm
      unfold farSpot spotL at z
      rw [ox.len] at z
      rw [List.length_map]
      exact z
theorem scShift : FnScope ["one", "other", "place", "seat"] ["one", "other"] (defScope s_far_by_shift) := ⟨rfl, rfl, rfl, by decide +kernel, rfl, by decide +kernel, by decide +kernel⟩
set_option maxHeartbeats 2000000 in
theorem ok_shift {f fP : Addr} {fd fdP : FuncData} {k : Nat} (T : Df K mg "far_by_shift" s_far_by_shift ["one", "other"] f fd) (T_seats_in : Df K mg "seats_in" s_seats_in ["one", "other"] fP fdP) (G_seats_in : FnOk P w K mg base CX0 k fP fdP ["one", "other"] spSeats) (B : Bi mg) : FnOk P w K mg base CX0 (k + 1) f fd ["one", "other"] spShift := by
  refine T.F.ok scShift (fun vs H Q E h => ?_) (fun cdv A outer s H vs Q E hr h => ?_)
  · obtain ⟨a, b, n, xs, ys, ⟨rfl, _⟩, _⟩ := h
    rfl
  · obtain ⟨a, b, n, xs, ys, ⟨rfl, ha, hb, ox, oy, hn1, hn2⟩, q⟩ := h
    refine ⟨_, 
      (pss_one (ps_ret (pe_callB (cr_max rfl) (by rfl) B.max (by decide +kernel) (pa_cons (pe_lc (own := [("place", 2), ("seat", 3)]) (g := (gTup K 2 (gCons (gName 2) (gCons (gName 3) gNil)))) (tt := tYes) (te := (tCB rAbs (tCons (tOp (rI0 fun i j => .int (i - j)) (tVar 2) (tVar 3)) tNil))) rfl scShift.nd (pi_enum (by rfl) B.enumerate (pa_cons (pe_call G_seats_in hr (by rfl) T_seats_in.g T_seats_in.F.kp T_seats_in.b .nil pass0 (pa_cons (pv 0) (pa_cons (pv 1) pa_nil))) pa_nil)) (blkOk_by (N := ["one", "other", "place", "seat"]) (sc := defScope s_far_by_shift) (by decide +kernel)) (fun _ _ _ _ _ => (pg_tup (by rfl) (pgs_cons (pg_name (i := 2) scShift.nd rfl (.inl rfl)) (pgs_cons (pg_name (i := 3) scShift.nd rfl (.inl rfl)) pgs_nil)))) (fun _ _ _ _ _ => pts_nil) (fun _ _ _ _ _ => (pe_callB call_abs (by rfl) B.abs (by decide +kernel) (pa_cons (pe_op op_sub (pv 2) (pv 3)) pa_nil)))) pa_nil)))), ?_⟩
    have os := seats_ord ox oy
    refine ⟨_, rfl, _, rfl, a, b, n, xs, ys, ⟨rfl, ha, hb, ox, oy, hn1, hn2⟩, fun l H1 nl hl s1 => ?_⟩
    refine ⟨l, _, rfl, SqL.of hl, fun D nD => ?_⟩
    have nlD : l ≠ D := ne_of_none hl nD
    have nHD : H D = none := s1.free nD
    refine lc_enumL (K := K) (a := l) (xs := (seatsL xs ys).map V.int) (fun m H3 => H3 D = some (.lst (((gapsL xs ys).take m).map V.int)) ∧ H3 l = some (.lst ((seatsL xs ys).map V.int)) ∧ Same H H3) ⟨upd_same, by rw [upd_ne nlD]; exact hl, s1.trans (same_new nD)⟩ (fun m H3 _ hP => SqL.of hP.2.1) (fun m x t H3 hx hP nt => ?_) (fun H3 hP => ?_)
    · obtain ⟨hD3, hl3, sm⟩ := hP
      obtain ⟨y, ey, rfl⟩ := int_at_inv hx
      have hi := (List.getElem?_eq_some_iff.mp ey).1
      rw [os.len] at hi
      have s3 := same_new (o := .tup [.int (m : Nat), .int y]) nt
      have eg : (gapsL xs ys)[m]? = some (absI ((m : Int) - y)) := by
        unfold gapsL rg
        rw [List.map_map, List.getElem?_map, List.getElem?_range (by rw [ox.len]; exact hi)]
        show some (absI ((m : Int) - g0 (seatsL xs ys) (m : Int))) = _
        rw [g0_at ey]
      refine ⟨t, _, rfl, .inl (.inl upd_same), rfl, _, _, rfl, _, _, rfl, rfl, rfl, ?_⟩
      refine ⟨_, rfl, _, rfl, (m : Int), y, rfl, rfl, _, rfl, _, s3 _ _ hD3, line_lt (by rw [List.length_map, List.length_take, gaps_len, ox.len]; omega), ?_, ?_, fun u o e => ?_⟩
      · rw [upd_same, take_more eg, List.map_append]
        rfl
      · rw [upd_ne nlD]
        exact s3 _ _ hl3
      · rw [upd_ne (ne_of_none e nHD)]
        exact s3 _ _ (sm _ _ e)
    · obtain ⟨hD3, hl3, sm⟩ := hP
      rw [List.take_of_length_le (by rw [gaps_len, List.length_map, seats_len]; exact Nat.le_refl _)] at hD3
      refine ⟨D, gapsL xs ys, rfl, SqL.of hD3, by rw [gaps_len, ox.len]; exact hn1, fun m hm hle => ?_⟩
      have e : farShift xs ys = m := maxL_of (gaps_nonneg xs ys) hm hle
      rw [← e]
      exact q H3 sm
theorem scKnown : FnScope ["way", "one", "other"] ["way", "one", "other"] (defScope s_known_far) := ⟨rfl, rfl, rfl, by decide +kernel, rfl, by decide +kernel, by decide +kernel⟩
theorem ok_known {f f4 f5 f6 : Addr} {fd d4 d5 d6 : FuncData} {k : Nat} (T : Df K mg "known_far" s_known_far ["way", "one", "other"] f fd) (T_far_by_swap : Df K mg "far_by_swap" s_far_by_swap ["one", "other"] f4 d4) (T_far_by_spot : Df K mg "far_by_spot" s_far_by_spot ["one", "other"] f5 d5) (T_far_by_shift : Df K mg "far_by_shift" s_far_by_shift ["one", "other"] f6 d6)
    (G_far_by_swap : FnOk P w K mg base CX0 k f4 d4 ["one", "other"] spSwap) (G_far_by_spot : FnOk P w K mg base CX0 k f5 d5 ["one", "other"] spSpot) (G_far_by_shift : FnOk P w K mg base CX0 k f6 d6 ["one", "other"] spShift) :
    FnOk P w K mg base CX0 (k + 1) f fd ["way", "one", "other"] spFar := by
  refine T.F.ok scKnown (fun vs H Q E h => ?_) (fun cdv A outer s H vs Q E hr h => ?_)
  · obtain ⟨z, a, b, n, xs, ys, rfl, _⟩ := h
    rfl
  · obtain ⟨z, a, b, n, xs, ys, rfl, hz, ha, hb, ox, oy, hn1, hn2, q⟩ := h
    refine ⟨_, 
      (pss_cons (ps_if (pt_cmpR op_eq (pv 0) pe_str (nomark _))
        (pss_one (ps_ret (pe_call G_far_by_swap hr (by rfl) T_far_by_swap.g T_far_by_swap.F.kp T_far_by_swap.b .nil pass0 (pa_cons (pv 1) (pa_cons (pv 2) pa_nil)))))
        pss_nil)
      (pss_cons (ps_if (pt_cmpR op_eq (pv 0) pe_str (nomark _))
        (pss_one (ps_ret (pe_call G_far_by_spot hr (by rfl) T_far_by_spot.g T_far_by_spot.F.kp T_far_by_spot.b .nil pass0 (pa_cons (pv 1) (pa_cons (pv 2) pa_nil)))))
        pss_nil)
      (pss_one (ps_ret (pe_call G_far_by_shift hr (by rfl) T_far_by_shift.g T_far_by_shift.F.kp T_far_by_shift.b .nil pass0 (pa_cons (pv 1) (pa_cons (pv 2) pa_nil))))))), ?_⟩
    rcases hz with rfl | rfl | rfl
    · refine ⟨_, rfl, rfl, _, rfl, ite2 (fun _ => ?_) (fun c => absurd (by decide +kernel) c)⟩
      exact ⟨_, rfl, _, rfl, a, b, n, xs, ys, ⟨rfl, ha, hb, ox, oy, hn1, hn2⟩, fun H2 s2 => by rw [← farW_swap]; exact q H2 s2⟩
    · refine ⟨_, rfl, rfl, _, rfl, ite2 (fun c => absurd c (by decide +kernel)) (fun _ => ?_)⟩
      refine ⟨_, rfl, rfl, _, rfl, ite2 (fun _ => ?_) (fun c => absurd (by decide +kernel) c)⟩
      exact ⟨_, rfl, _, rfl, a, b, n, xs, ys, ⟨rfl, ha, hb, ox, oy, hn1, hn2⟩, fun H2 s2 => by rw [← farW_spot]; exact q H2 s2⟩
    · refine ⟨_, rfl, rfl, _, rfl, ite2 (fun c => absurd c (by decide +kernel)) (fun _ => ?_)⟩
      refine ⟨_, rfl, rfl, _, rfl, ite2 (fun c => absurd c (by decide +kernel)) (fun _ => ?_)⟩
      exact ⟨_, rfl, _, rfl, a, b, n, xs, ys, ⟨rfl, ha, hb, ox, oy, hn1, hn2⟩, fun H2 s2 => by rw [← farW_shift]; exact q H2 s2⟩
end
end Fo
namespace Fo
open PySem PySem.Spec PyProof.Rows L2
def spOLst : Sp := fun vs H Q _ => ∃ (l : Addr) (as : List Addr) (rs : List (List Int)) (n : Nat), vs = [.ref l] ∧ OL H l as rs n ∧ rs.length ≤ 1000 ∧ ∀ H', Same H H' → Q (.bl true) H'
theorem take_more' {α : Type} {l : List α} {i : Nat} {x : α} (h : l[i]? = some x) : l.take (i + 1) = l.take i ++ [x] := by
  rw [List.take_add_one, h]
  rfl
section
variable {P : Program} {w : World} {K : PySem.W.Frag} {mg : Str → Option Value} {base : Heap}
theorem scOLst : FnScope ["thing", "each", "order"] ["thing"] (defScope s_is_order_list) := ⟨rfl, rfl, rfl, by decide +kernel, rfl, by decide +kernel, by decide +kernel⟩
set_option maxHeartbeats 2000000 in
theorem ok_olst {f f1 : Addr} {fd d1 : FuncData} {k : Nat} (T : Df K mg "is_order_list" s_is_order_list ["thing"] f fd) (T_is_order : Df K mg "is_order" s_is_order ["thing"] f1 d1) (G_is_order : FnOk P w K mg base CX0 k f1 d1 ["thing"] spIsOrd) (B : Bi mg) : FnOk P w K mg base CX0 (k + 1) f fd ["thing"] spOLst := by
  refine T.F.ok scOLst (fun vs H Q E h => ?_) (fun cdv A outer s H vs Q E hr h => ?_)
  · obtain ⟨l, as, rs, n, rfl, _⟩ := h
    rfl
  · obtain ⟨l, as, rs, n, rfl, hO, hlen, q⟩ := h
    have hal := hO.ll.len
    refine ⟨_, 
      (pss_cons (ps_if (PW.pt (pw_or (pt_not (pt_val (pe_callB call_isi (by rfl) B.isinstance (by decide +kernel) (pa_cons (pv 0) (pa_cons (pe_bltn (v := .ty "list") (by rfl) B.list (by decide +kernel) rfl) pa_nil))))) (pw_or1 (pt_not (pt_val (pe_callB (cr_all rfl) (by rfl) B.all (by decide +kernel) (pa_cons (pe_lc (own := [("each", 1)]) (g := (gName 1)) (tt := tYes) (te := (tCall spIsOrd [] E0 (tCons (tVar 1) tNil))) rfl scOLst.nd (pi_list (pv 0)) (blkOk_by (N := ["thing", "each", "order"]) (sc := defScope s_is_order_list) (by decide +kernel)) (fun _ _ _ _ _ => (pg_name (i := 1) scOLst.nd rfl (.inl rfl))) (fun _ _ _ _ _ => pts_nil) (fun _ _ _ _ _ => (pe_call G_is_order hr (by rfl) T_is_order.g T_is_order.F.kp T_is_order.b .nil pass0 (pa_cons (pv 1) pa_nil)))) pa_nil)))))))
        (pss_one (ps_ret pe_bl))
        pss_nil)
      (pss_one (ps_ret (pe_callB (cr_all rfl) (by rfl) B.all (by decide +kernel) (pa_cons (pe_lc (own := [("order", 2)]) (g := (gName 2)) (tt := tYes) (te := (tOp rEq (tCB (rLenS K) (tCons (tVar 2) tNil)) (tCB (rLenS K) (tCons (tOp (rIxL K) (tVar 0) (tC (.int 0))) tNil)))) rfl scOLst.nd (pi_list (pv 0)) (blkOk_by (N := ["thing", "each", "order"]) (sc := defScope s_is_order_list) (by decide +kernel)) (fun _ _ _ _ _ => (pg_name (i := 2) scOLst.nd rfl (.inl rfl))) (fun _ _ _ _ _ => pts_nil) (fun _ _ _ _ _ => (pe_cmpR op_eq (pe_callB call_len_seq (by rfl) B.len PySem.boot_len (pa_cons (pv 2) pa_nil)) (pe_callB call_len_seq (by rfl) B.len PySem.boot_len (pa_cons (pe_ix ix_list (pv 0) pe_int (fun _ _ => rfl)) pa_nil)) (nomark _)))) pa_nil))))), ?_⟩
    refine ⟨_, rfl, _, _, _, _, true, rfl, .ty _, .base (.lst hO.top), kit_ty (by decide +kernel), true, rfl, iteF ?_⟩
    refine ⟨_, rfl, l, rfl, ⟨_, SqL.of hO.top⟩, fun p np => ?_⟩
    refine lc_list (K := K) (a := l) (xs := as.map V.ref) (fun i H3 => H3 p = some (.lst ((List.replicate i true).map V.bl)) ∧ Same H H3) ⟨upd_same, same_new np⟩ (fun i H3 _ hP => SqL.of (hP.2 _ _ hO.top)) (fun i x H3 hx hP => ?_) (fun H3 hP => ?_)
    · obtain ⟨a, ea, rfl⟩ := ref_at_inv hx
      obtain ⟨hp3, sm⟩ := hP
      obtain ⟨r, er, ha⟩ := (hO.ll.same sm).get ea
      refine ⟨rfl, _, rfl, a, n, r, rfl, ha, hO.ord r (List.mem_of_getElem? er), hO.n1, hO.n2, fun H4 s4 => ⟨_, s4 _ _ hp3, line_lt (by
        rw [List.length_map, List.length_replicate]
        have := (List.getElem?_eq_some_iff.mp ea).1
        omega), ?_, fun b o e => ?_⟩⟩
      · rw [upd_same, List.replicate_succ', List.map_append]
        rfl
      · rw [upd_ne (ne_of_none e np)]
        exact s4 _ _ (sm _ _ e)
    · obtain ⟨hp3, sm⟩ := hP
      have h3 := hO.same sm
      refine ⟨p, _, rfl, SqL.of hp3, _, rfl, ?_⟩
      rw [all_true]
      refine iteF ?_
      refine ⟨_, rfl, l, rfl, ⟨_, SqL.of h3.top⟩, fun p2 np2 => ?_⟩
      refine lc_list (K := K) (a := l) (xs := as.map V.ref) (fun i H5 => H5 p2 = some (.lst ((List.replicate i true).map V.bl)) ∧ Same H3 H5) ⟨upd_same, same_new np2⟩ (fun i H5 _ hP => SqL.of (hP.2 _ _ h3.top)) (fun i x H5 hx hP => ?_) (fun H5 hP => ?_)
      · obtain ⟨a, ea, rfl⟩ := ref_at_inv hx
        obtain ⟨hp5, sm5⟩ := hP
        have h5 := h3.same sm5
        obtain ⟨r, er, ha⟩ := h5.ll.get ea
        have hi := (List.getElem?_eq_some_iff.mp ea).1
        obtain ⟨a0, ea0⟩ : ∃ a0, as[0]? = some a0 := ⟨as[0]'(by omega), List.getElem?_eq_getElem (by omega)⟩
        obtain ⟨r0, er0, ha0⟩ := h5.ll.get ea0
        have l1 := (h5.ord r (List.mem_of_getElem? er)).len
        have l2 := (h5.ord r0 (List.mem_of_getElem? er0)).len
        refine ⟨rfl, _, rfl, a, _, rfl, .inl (SqL.of ha), _, rfl, l, _, 0, _, rfl, rfl, SqL.of h5.top, at_of (j := 0) rfl (ref_at ea0), a0, _, rfl, .inl (SqL.of ha0), rfl, ?_⟩
        refine ⟨_, hp5, line_lt (by rw [List.length_map, List.length_replicate]; omega), ?_, fun b o e => ?_⟩
        · rw [upd_same, List.replicate_succ', List.map_append, List.length_map, List.length_map, l1, l2, decide_eq_true rfl]
          rfl
        · rw [upd_ne (ne_of_none e np2)]
          exact sm5 _ _ e
      · obtain ⟨hp5, sm5⟩ := hP
        refine ⟨p2, _, rfl, SqL.of hp5, ?_⟩
        rw [all_true]
        exact q _ (sm.trans sm5)
end
end Fo
namespace Fo
open PySem PySem.Spec PyProof.Rows L2
def spFrom : Sp := fun vs H Q _ => ∃ (r least : Int), vs = [.int r, .int least] ∧ least ≤ r ∧ Q .non H
section
variable {P : Program} {w : World} {K : PySem.W.Frag} {mg : Str → Option Value} {base : Heap}
theorem scFrom : FnScope ["thing", "least"] ["thing", "least"] (defScope s_check_from) := ⟨rfl, rfl, rfl, by decide +kernel, rfl, by decide +kernel, by decide +kernel⟩
theorem ok_from {f fW : Addr} {fd fdW : FuncData} {k : Nat} (T : Df K mg "check_from" s_check_from ["thing", "least"] f fd) (T_is_whole : Df K mg "is_whole" s_is_whole ["thing"] fW fdW) (B : Bi mg) : FnOk P w K mg base CX0 (k + 2) f fd ["thing", "least"] spFrom := by
  have G_is_whole : FnOk P w K mg base CX0 (k + 1) fW fdW ["thing"] spWhole := ok_whole T_is_whole B
  refine T.F.ok scFrom (fun vs H Q E h => ?_) (fun cdv A outer s H vs Q E hr h => ?_)
  · obtain ⟨r, least, rfl, _⟩ := h
    rfl
  · obtain ⟨r, least, rfl, hle, q⟩ := h
    refine ⟨_, 
      (pss_one (ps_if (PW.pt (pw_or (pt_not (pt_val (pe_call G_is_whole hr (by rfl) T_is_whole.g T_is_whole.F.kp T_is_whole.b .nil pass0 (pa_cons (pv 0) pa_nil)))) (pw_or1 (pt_cmpR op_lt (pv 0) (pv 1) (nomark _)))))
        (pss_one ps_never)
        pss_nil)), ?_⟩
    refine ⟨_, rfl, r, rfl, _, rfl, iteF ?_⟩
    exact ⟨_, rfl, _, rfl, r, least, rfl, rfl, _, rfl, ite2 (fun z => absurd (of_decide_eq_true z) (by omega)) (fun _ => q)⟩
end
end Fo
namespace Fo
open PySem PySem.Spec PyProof.Rows L2 PpSet
/-- the object of a new set -/
abbrev set0 (w : World) : Obj := { cls := .type "set", dict := none, data := .set #[] 0 (.fresh 0 0 (!w.params.followText "set-order")) }
def FreshS (P : Program) (w : World) (O : Addr → HO) : Prop := ∀ (H : Hp) (h : Heap), ObjOk P w H (h.push (set0 w)) h.objs.size (O h.objs.size)
def AddS (P : Program) (w : World) (K : PySem.W.Frag) (A : Around) (put : Addr → V → Hp → (Hp → Prop) → Prop) : Prop := ∀ (Y : Cx), Y.prog = P → Y.w = w → Y.K = K → Y.A = A → ∀ (ps : List (Addr × Obj)) (s : Shared) (σ : L2.St) (G : Hp) (D : Addr) (y : V) (v : Value) (Nx : Hp → Prop), L2.Inv Y ps σ G s → L2.RelV y v → put D y G Nx → wpAny (model P w) A (call (.builtin "set.add") [.ref D, v]) (fun _ s' => ∃ G', L2.Inv Y ps σ G' s' ∧ Nx G') (fun _ _ => False) s
/-- a set comprehension, what is kept of the set left open: O the new one, put what adding asks -/
def tScG (O : Addr → HO) (put : Addr → V → Hp → (Hp → Prop) → Prop) (wi : TI) (g : TG) (tt : TT) (te : TE) (vs : List Nat) : TE := fun σ H Q => wi σ H fun J H1 => ∀ D, H1 D = none →
  ∃ W : Nat → Nat → Hp → Prop, (∃ m, W 0 m (upd H1 D (O D))) ∧ ∀ i m G, W i m G → (J.stop i G ∧ Q (.ref D) G) ∨ (J.go i G ∧ ∃ Nx : Hp → Prop, (∀ G', Nx G' → ∃ m', m' < m ∧ W (i + 1) m' G') ∧
    ∀ x G', J.yld i G x G' → g x (wipe σ vs) G' fun σ2 H2 => wipe σ2 vs = wipe σ vs ∧ tt σ2 H2 fun b H3 => if b = true then te σ2 H3 fun y H4 => put D y H4 Nx else Nx H3)
set_option maxHeartbeats 4000000 in
/-- the turns of the block -/
theorem scg_loop {X : Cx} {elt tg iter : Expr} {ifs : List Expr} {scope : Scope} {pos : Pos} {g : TG} {tt : TT} {te : TE} {put : Addr → V → Hp → (Hp → Prop) → Prop} {Q : VK} {ps : List (Addr × Obj)} {σ : L2.St} {vs : List Nat}
    {t3 s4 : Shared} {H3 : Hp} {ce : Env} {D it : Addr} {fp : List Addr} {tn : Nat → Heap → Prop} {J : It} {W : Nat → Nat → Hp → Prop} {m0 : Nat} {R : Result → Shared → Prop}
    (ad : AddS X.prog X.w X.K X.A put) (calm : X.calm = true) (I3 : L2.Inv X ps σ H3 t3) (ff : ∀ b ∈ fp, FpOk X ps H3 b ∧ b < t3.heap.objs.size) (cL : ce.locals = t3.heap.objs.size) (I4 : L2.Inv (X.blk t3 H3 scope ce fp) [] (wipe σ vs) H3 s4)
    (T : Turn X.prog X.w X.K tg J fp it tn) (st : tn 0 s4.heap) (pg : PG (X.blk t3 H3 scope ce fp) tg g) (pt : PTs (X.blk t3 H3 scope ce fp) ifs tt) (pv' : PE (X.blk t3 H3 scope ce fp) elt te) (w0 : W 0 m0 H3)
    (turn : ∀ i m G, W i m G → (J.stop i G ∧ Q (.ref D) G) ∨ (J.go i G ∧ ∃ Nx : Hp → Prop, (∀ G', Nx G' → ∃ m', m' < m ∧ W (i + 1) m' G') ∧
      ∀ x G', J.yld i G x G' → g x (wipe σ vs) G' fun σ2 H2 => wipe σ2 vs = wipe σ vs ∧ tt σ2 H2 fun b H3 => if b = true then te σ2 H3 fun y H4 => put D y H4 Nx else Nx H3))
    (fin : ∀ (s' : Shared) (G : Hp), L2.Inv X ps σ G s' → Q (.ref D) G → (∃ m, s'.heap.Ns t3.heap.objs.size m) → FpOk X ps G t3.heap.objs.size → R (.ok .next) s') :
    codeAny (model X.prog X.w) X.A (.compLoop (.SetComp elt [⟨tg, iter, ifs, 0⟩] scope pos) 0 (.ref it) (.ref D) ce) R s4 := by
  have still : ∀ {τ : L2.St} {G : Hp} {s' : Shared}, L2.Inv (X.blk t3 H3 scope ce fp) [] τ G s' → (∀ b ∈ fp, G b = none) → ∀ b ∈ fp, FpOk (X.blk t3 H3 scope ce fp) [] G b := by
    intro τ G s' I' no b hb
    have e1 := I'.ok.exf b hb
    have e2 := I'.ok.exfs b hb
    exact ⟨no b hb, e1.1, e2, .inl hb, fun x c e => e1.2 x c e, fun p hp => by cases hp⟩
  refine compLoopS_any (fun n s' => ∃ i G, L2.Inv (X.blk t3 H3 scope ce fp) [] (wipe σ vs) G s' ∧ tn i s'.heap ∧ (∀ b ∈ fp, G b = none) ∧ W i n G) (fun n s5 hI => ?_) m0 ⟨0, H3, I4, st, fun b hb => (ff b hb).1.1, w0⟩
  obtain ⟨i, G5, I5, st5, no5, w5⟩ := hI
  rcases turn i n G5 w5 with ⟨hstop, qq⟩ | ⟨hgo, Nx, hNx, step⟩
  · refine thnF (T.done (X.blk t3 H3 scope ce fp) rfl rfl rfl calm i [] s5 _ G5 (fun _ _ => False) I5 (still I5 no5) st5 hstop) fun r s6 hr => ?_
    obtain ⟨rfl, I6⟩ := hr
    have home : L2.Inv X ps σ G5 s6 := by
      refine I3.call' (ch := fp) I6.os I6.base I6.hok I6.bare fun b hb => ?_
      obtain ⟨⟨_, a1, _, a2, a3, a4⟩, _⟩ := ff b hb
      exact ⟨a2, a1, a3, a4⟩
    have gone : G5 ce.locals = none := I6.free
    obtain ⟨m, hm, _⟩ := I6.loc
    change s6.heap.Ns ce.locals m at hm
    rw [cL] at gone hm
    exact fin s6 G5 home qq ⟨m, hm⟩ (I3.fpOk (Nat.le_refl _) gone)
  · refine thnF (T.item (X.blk t3 H3 scope ce fp) rfl rfl rfl calm i [] s5 _ G5 (fun _ _ => False) I5 (still I5 no5) st5 hgo) fun r s6 hr => ?_
    obtain ⟨u, rfl, h6⟩ := hr
    refine thnF h6 fun _ s7 h7 => ?_
    obtain ⟨x, G7, I7, r7, y7, st7, no7⟩ := h7
    have I8 := I7.pinned (still I7 no7) (T.obj _ _ st7)
    refine thnF (pg.run _ s7 _ G7 x u _ I8 r7 (step x G7 y7)) fun _ s8 h8 => ?_
    obtain ⟨τ, G8, I8, ew, q8⟩ := h8
    refine thnF (pt.run _ s8 τ G8 _ I8 q8) fun b s9 h9 => ?_
    obtain ⟨G9, I9, q9⟩ := h9
    have last : ∀ (s' : Shared) (G' : Hp), L2.Inv (X.blk t3 H3 scope ce fp) ([] ++ pinsAt fp s7.heap) τ G' s' → Nx G' → ∃ m, m < n ∧ ∃ i G, L2.Inv (X.blk t3 H3 scope ce fp) [] (wipe σ vs) G s' ∧ tn i s'.heap ∧ (∀ b ∈ fp, G b = none) ∧ W i m G := by
      intro s' G' J' nx
      obtain ⟨m', hm, w'⟩ := hNx G' nx
      have held : ∀ b ∈ fp, ∀ o, s7.heap.get? b = some o → s'.heap.get? b = some o ∧ G' b = none := by
        intro b hb o e
        have z := J'.pin (b, o) (List.mem_append_right _ (List.mem_append_right _ (mem_pinsAt hb e)))
        exact ⟨z.1, z.2.1⟩
      have J2 : L2.Inv (X.blk t3 H3 scope ce fp) [] (wipe σ vs) G' s' := by
        refine (J'.unpinned (pins := [])).weak ?_ fun j v e => ?_
        · rw [← ew, wipe_length]
        · rw [← ew] at e
          exact (wipe_some e).1
      refine ⟨m', hm, i + 1, G', J2, ?_, ?_, w'⟩
      · exact T.keep _ _ _ st7 fun b hb o e => (held b hb o e).1
      · intro b hb
        obtain ⟨o, e, _⟩ := T.obj _ _ st7 b hb
        exact (held b hb o e).2
    cases b with
    | false => exact last s9 G9 I9 q9
    | true =>
      refine thnF (pv'.run _ s9 τ G9 _ I9 q9) fun z s10 h10 => ?_
      obtain ⟨y, G10, I10, r10, hp⟩ := h10
      refine thnF (ad (X.blk t3 H3 scope ce fp) rfl rfl rfl rfl _ s10 τ G10 D y z Nx I10 r10 hp) fun _ s11 h11 => ?_
      obtain ⟨G11, I11, nx⟩ := h11
      exact last s11 G11 I11 nx
set_option maxHeartbeats 4000000 in
theorem pe_scG {X : Cx} {elt tg iter : Expr} {ifs : List Expr} {scope : Scope} {own : List (Str × Nat)} {pos : Pos} {wi : TI} {g : TG} {tt : TT} {te : TE} {O : Addr → HO} {put : Addr → V → Hp → (Hp → Prop) → Prop}
    (fr : FreshS X.prog X.w O) (ad : AddS X.prog X.w X.K X.A put) (calm : X.calm = true) (nd : X.N.Nodup) (pi : PI X tg iter wi) (blk : BlkOk X.N X.env.scope scope own)
    (pg : ∀ (s : Shared) (H : Hp) (C : Addr) (cl : List (Str × Addr)) (fp : List Addr),
      PG (X.blk s H scope (compEnvC scope cl C X.env) fp) tg g)
    (pt : ∀ (s : Shared) (H : Hp) (C : Addr) (cl : List (Str × Addr)) (fp : List Addr),
      PTs (X.blk s H scope (compEnvC scope cl C X.env) fp) ifs tt)
    (pv' : ∀ (s : Shared) (H : Hp) (C : Addr) (cl : List (Str × Addr)) (fp : List Addr),
      PE (X.blk s H scope (compEnvC scope cl C X.env) fp) elt te)
    (fold : ∀ x, foldedSetIterable iter X.env x = pure x := by intro _; rfl) :
    PE X (.SetComp elt [⟨tg, iter, ifs, 0⟩] scope pos) (tScG O put wi g tt te (own.map (·.2))) := by
  refine ⟨fun ps s0 σ H Q I0 h0 => ?_⟩
  rw [eval_SetComp]
  have cells : ∀ y ∈ scope.names, y.2 = .free → ∃ c, X.env.cells.lookup y.1 = some c := by
    intro y hy e
    exact I0.ok.has _ (blk.free y hy e)
  refine wpAny_comprehension_free rfl fold (closure_ok cells) blk.kind (fun y hy e => by rw [blk.uniq y hy, e]) ?_
  refine thn (pi.run ps s0 σ H _ I0 h0) fun _ t1 h1 => thn h1 fun _ t2 h2 => ?_
  obtain ⟨it, fp, tn, J, H2, rfl, I2, T, st, f2, q⟩ := h2
  refine newSet_ok (newEnv_comp ?_)
  have fresh : H2 t2.heap.objs.size = none := I2.hok.fresh (Nat.le_refl _)
  obtain ⟨W, ⟨m0, w0⟩, turn⟩ := q _ fresh
  have old : ∀ (b : Addr) (o : Obj), t2.heap.get? b = some o → (t2.heap.push (set0 X.w)).get? b = some o := fun b o e => Heap.get?_push_of_some _ e
  have I3 := I2.laid (a := t2.heap.objs.size) (o := O t2.heap.objs.size) (t' := t2.toks) old (Nat.le_refl _) (fr _ _)
  generalize eD : t2.heap.objs.size = D at *
  have ff : ∀ b ∈ fp, FpOk X ps (upd H2 D (O D)) b ∧ b < (t2.heap.push (set0 X.w)).objs.size := by
    intro b hb
    obtain ⟨_, e, _⟩ := T.obj _ _ st b hb
    have lt := Heap.lt_size e
    have ne : b ≠ D := fun z => by
      rw [z, ← eD] at lt
      exact Nat.lt_irrefl _ lt
    obtain ⟨z1, z2⟩ := f2 b hb
    refine ⟨⟨(upd_ne ne).trans z1, z2⟩, ?_⟩
    rw [Heap.size_push]
    exact Nat.lt_succ_of_lt lt
  have st3 := T.keep _ _ _ st fun b _ o e => old b o e
  have I4 := block_start I3 blk nd ff
  have st4 := T.keep _ _ (pushCells ((t2.heap.push (set0 X.w)).push { cls := .type "dict", data := .dict #[] }) scope.names) st3 fun b _ o e => pushCells_keeps _ _ _ _ (Heap.get?_push_of_some _ e)
  refine (fun loop => codeAny_compStart_set loop (T.self X.A 0 _ _ _ st4 loop)) ?_
  refine scg_loop ad calm I3 ff rfl I4 T st4 (pg _ _ _ _ _) (pt _ _ _ _ _) (pv' _ _ _ _ _) w0 turn fun s' G I' qq hm f => ?_
  obtain ⟨m, hm⟩ := hm
  refine ⟨m, hm, fun h' sb => ?_⟩
  obtain ⟨a0, a1, _, a3, a4, a5⟩ := f
  refine ⟨.ref D, G, ?_, rfl, qq⟩
  exact I'.turned (t' := s'.toks) (fun b o hb e => (sb.2 b hb).trans e) a0 a1 a3 a4 a5
end Fo
namespace Fo
open PySem PySem.Spec PyProof.Rows L2
abbrev rListOf (K : PySem.W.Frag) : List V → Hp → VK → Prop := fun xs H Q => ∃ p ys, xs = [.ref p] ∧ (SqL K H p ys ∨ SqT K H p ys) ∧ ∀ l, H l = none → Q (.ref l) (upd H l (.lst ys))
/-- a list of unlike orders -/
def spUnl : Sp := fun vs H Q _ => ∃ (l : Addr) (as : List Addr) (rs : List (List Int)) (n : Nat), vs = [.ref l] ∧ OL H l as rs n ∧ rs.Nodup ∧ rs.length ≤ 120 ∧ ∀ H', Same H H' → Q (.bl true) H'
def spCUnl : Sp := fun vs H Q _ => ∃ (l : Addr) (as : List Addr) (rs : List (List Int)) (n : Nat), vs = [.ref l] ∧ OL H l as rs n ∧ rs.Nodup ∧ 1 ≤ rs.length ∧ rs.length ≤ 120 ∧ ∀ H', Same H H' → Q .non H'
def spLed : Sp := fun vs H Q _ => ∃ (w : Str) (a l : Addr) (as : List Addr) (xs : List Int) (rs : List (List Int)) (n : Nat), vs = [.str w, .ref a, .ref l] ∧ IsWay w ∧ H a = some (.lst (xs.map V.int)) ∧ IsOrd n xs ∧ OL H l as rs n ∧ rs.Nodup ∧ 1 ≤ rs.length ∧ rs.length ≤ 120 ∧ ∀ H', Same H H' → Q .non H'
def spThose : Sp := fun vs H Q _ => ∃ (w : Str) (a l : Addr) (as : List Addr) (xs : List Int) (rs : List (List Int)) (n : Nat) (r : Int), vs = [.str w, .ref a, .ref l, .int r] ∧ IsWay w ∧ H a = some (.lst (xs.map V.int)) ∧ IsOrd n xs ∧ OL H l as rs n ∧ rs.length ≤ 1000 ∧
  ∀ (l' : Addr) (as' : List Addr) (H' : Hp), H l' = none → (∀ a ∈ as', H a = none) → l' ∉ as' → H' l' = some (.lst (as'.map V.ref)) → LL H' as' (rs.filter fun o => decide (farW w xs o ≤ r)) → Same H H' → Q (.ref l') H'
theorem filter_mo {α : Type} {p : α → Bool} {l : List α} {i : Nat} {x : α} (h : l[i]? = some x) : (l.take (i + 1)).filter p = (l.take i).filter p ++ (if p x = true then [x] else []) := by
  rw [take_more' h, List.filter_append, List.filter_cons]
  rfl
section
variable {P : Program} {w : World} {K : PySem.W.Frag} {mg : Str → Option Value} {base : Heap}
theorem scCUnl : FnScope ["thing"] ["thing"] (defScope s_check_unlike_list) := ⟨rfl, rfl, rfl, by decide +kernel, rfl, by decide +kernel, by decide +kernel⟩
theorem ok_cunl {f f1 : Addr} {fd d1 : FuncData} {k : Nat} {t : Tok} (T : Df K mg "check_unlike_list" s_check_unlike_list ["thing"] f fd) (T_is_unlike_list : Df K mg "is_unlike_list" s_is_unlike_list ["thing"] f1 d1) (G_is_unlike_list : FnOk P w K mg base CX0 k f1 d1 ["thing"] spUnl) (B : Bi mg) (mO : mg "MOST_ORDERS" = some (.int 120 t)) : FnOk P w K mg base CX0 (k + 1) f fd ["thing"] spCUnl := by
  refine T.F.ok scCUnl (fun vs H Q E h => ?_) (fun cdv A outer s H vs Q E hr h => ?_)
  · obtain ⟨l, as, rs, n, rfl, _⟩ := h
    rfl
  · obtain ⟨l, as, rs, n, rfl, hO, nd, h1, h2, q⟩ := h
    have hal := hO.ll.len
    have hml : (as.map V.ref).length = as.length := List.length_map _
    refine ⟨_, 
      (pss_one (ps_if (PW.pt (pw_or (pt_not (pt_val (pe_call G_is_unlike_list hr (by rfl) T_is_unlike_list.g T_is_unlike_list.F.kp T_is_unlike_list.b .nil pass0 (pa_cons (pv 0) pa_nil)))) (pw_or (pt_cmpR op_eq (pe_callB call_len_seq (by rfl) B.len PySem.boot_len (pa_cons (pv 0) pa_nil)) pe_int (nomark _)) (pw_or1 (pt_cmpR op_gt (pe_callB call_len_seq (by rfl) B.len PySem.boot_len (pa_cons (pv 0) pa_nil)) (pe_glob (v := .int 120) (by rfl) mO ⟨_, rfl⟩) (nomark _))))))
        (pss_one ps_never)
        pss_nil)), ?_⟩
    refine ⟨_, rfl, l, as, rs, n, rfl, hO, nd, h2, fun H1 s1 => ⟨_, rfl, iteF ?_⟩⟩
    have t1 := (hO.same s1).top
    refine ⟨_, rfl, l, _, rfl, .inl (SqL.of t1), rfl, _, rfl, ite2 (fun c => ?_) (fun _ => ?_)⟩
    · exfalso
      have z : V.int (((as.map V.ref).length : Nat) : Int) = V.int 0 := of_decide_eq_true c
      have z2 : (((as.map V.ref).length : Nat) : Int) = 0 := V.int.inj z
      omega
    refine ⟨_, rfl, l, _, rfl, .inl (SqL.of t1), _, 120, rfl, rfl, _, rfl, ite2 (fun c => absurd (of_decide_eq_true c) (by rw [hml]; omega)) (fun _ => q _ s1)⟩
theorem scThose : FnScope ["way", "order", "orders", "r", "other"] ["way", "order", "orders", "r"] (defScope s_those_within) := ⟨rfl, rfl, rfl, by decide +kernel, rfl, by decide +kernel, by decide +kernel⟩
set_option maxHeartbeats 4000000 in
theorem ok_those {f f1 : Addr} {fd d1 : FuncData} {k : Nat} (T : Df K mg "those_within" s_those_within ["way", "order", "orders", "r"] f fd) (T_known_far : Df K mg "known_far" s_known_far ["way", "one", "other"] f1 d1) (G_known_far : FnOk P w K mg base CX0 k f1 d1 ["way", "one", "other"] spFar) (B : Bi mg) : FnOk P w K mg base CX0 (k + 1) f fd ["way", "order", "orders", "r"] spThose := by
  refine T.F.ok scThose (fun vs H Q E h => ?_) (fun cdv A outer s H vs Q E hr h => ?_)
  · obtain ⟨wy, a, l, as, xs, rs, n, r, rfl, _⟩ := h
    rfl
  · obtain ⟨wy, a, l, as, xs, rs, n, r, rfl, hw, ha, ox, hO, hlen, q⟩ := h
    have hal := hO.ll.len
    refine ⟨_, 
      (pss_one (ps_ret (pe_lc (own := [("other", 4)]) (g := (gName 4)) (tt := (tTest (tOp (rI0 fun i j => .bl (decide (i ≤ j))) (tCall spFar [] E0 (tCons (tVar 0) (tCons (tVar 1) (tCons (tVar 4) tNil)))) (tVar 3)))) (te := (tCB (rListOf K) (tCons (tVar 4) tNil))) rfl scThose.nd (pi_list (pv 2)) (blkOk_by (N := ["way", "order", "orders", "r", "other"]) (sc := defScope s_those_within) (by decide +kernel)) (fun _ _ _ _ _ => (pg_name (i := 4) scThose.nd rfl (.inl rfl))) (fun _ _ _ _ _ => (pts_one (pt_cmpR op_le (pe_call G_known_far hr (by rfl) T_known_far.g T_known_far.F.kp T_known_far.b .nil pass0 (pa_cons (pv 0) (pa_cons (pv 1) (pa_cons (pv 4) pa_nil)))) (pv 3) (nomark _)))) (fun _ _ _ _ _ => (pe_callTy call_list_of (by rfl) B.list (by decide +kernel) (pa_cons (pv 4) pa_nil)))))), ?_⟩
    refine ⟨_, rfl, l, rfl, ⟨_, SqL.of hO.top⟩, fun p np => ?_⟩
    refine lc_list (K := K) (a := l) (xs := as.map V.ref) (fun i H3 => ∃ bs : List Addr, H3 p = some (.lst (bs.map V.ref)) ∧ LL H3 bs ((rs.take i).filter fun o => decide (farW wy xs o ≤ r)) ∧ (∀ a ∈ bs, H a = none) ∧ p ∉ bs ∧ Same H H3) ⟨[], upd_same, trivial, fun a ha => absurd ha List.not_mem_nil, List.not_mem_nil, same_new np⟩ (fun i H3 _ hP => by obtain ⟨_, _, _, _, _, sm⟩ := hP; exact SqL.of (sm _ _ hO.top)) (fun i x H3 hx hP => ?_) (fun H3 hP => ?_)
    · obtain ⟨c0, ec, rfl⟩ := ref_at_inv hx
      obtain ⟨bs, hp3, hL3, hn3, np3, sm⟩ := hP
      obtain ⟨row, er, hc⟩ := (hO.ll.same sm).get ec
      have hbl := hL3.len
      have hbl2 : bs.length ≤ 1000 := by
        rw [hbl]
        exact Nat.le_trans (List.length_filter_le _ _) (by rw [List.length_take]; omega)
      refine ⟨rfl, _, rfl, _, rfl, _, rfl, wy, a, c0, n, xs, row, rfl, hw, sm _ _ ha, hc, ox, hO.ord row (List.mem_of_getElem? er), hO.n1, hO.n2, fun H4 s4 => ?_⟩
      refine ⟨_, rfl, _, _, rfl, rfl, _, rfl, ite2 (fun z => ?_) (fun z => ?_)⟩
      · refine ⟨_, rfl, c0, _, rfl, .inl (SqL.of (s4 _ _ hc)), fun c nc => ?_⟩
        have s5 := s4.trans (same_new (o := .lst (row.map V.int)) nc)
        have npc : p ≠ c := ne_of_none (s4 _ _ hp3) nc
        refine ⟨_, s5 _ _ hp3, line_lt (by rw [List.length_map]; omega), bs ++ [c], by rw [upd_same, List.map_append]; rfl, ?_, fun u hu => ?_, fun hu => ?_, fun b o e => ?_⟩
        · rw [filter_mo er, if_pos z]
          refine LL.snoc ((hL3.same s5).keep fun u hu o e => ?_) ?_
          · rw [upd_ne (fun q => np3 (by rw [← q]; exact hu))]
            exact e
          · rw [upd_ne npc.symm, upd_same]
        · rcases List.mem_append.mp hu with h | h
          · exact hn3 u h
          · rw [List.mem_singleton.mp h]
            exact (sm.trans s4).free nc
        · rcases List.mem_append.mp hu with h | h
          · exact np3 h
          · exact npc (List.mem_singleton.mp h)
        · rw [upd_ne (ne_of_none e np)]
          exact s5 _ _ (sm _ _ e)
      · refine ⟨bs, s4 _ _ hp3, ?_, hn3, np3, sm.trans s4⟩
        rw [filter_mo er, if_neg z, List.append_nil]
        exact hL3.same s4
    · obtain ⟨bs, hp3, hL3, hn3, np3, sm⟩ := hP
      rw [List.take_of_length_le (by rw [List.length_map]; omega)] at hL3
      exact q p bs H3 np hn3 np3 hp3 hL3 sm
end
end Fo
namespace Fo
open PySem PySem.Spec PyProof.Rows L2
theorem units65 {k : Nat} {A : Around} (r : Room k A) : A.units + 65 < cLine := by have := r.un; omega
theorem any_row (rs : List (List Int)) (o : List Int) : ((rs.map dL).any fun z => PyData.eqv z (dL o)) = decide (o ∈ rs) := by
  induction rs with
  | nil => rfl
  | cons a rs ih =>
    rw [List.map_cons, List.any_cons, ih, eqv_ints]
    by_cases c : a = o
    · subst c; simp
    · have c2 : ¬ o = a := fun e => c e.symm
      simp [c, c2]
end Fo
namespace Fo
open PySem PySem.Spec PyProof.Rows L2
/-! sets of tuples of up to 300: the table of 512 slots. The round of x -> 5 x + 1 reckoned in one step -/
def geo (k : Nat) : Nat := (5 ^ k - 1) / 4
theorem geo_dvd : ∀ k : Nat, 4 * geo k + 1 = 5 ^ k
  | 0 => rfl
  | k + 1 => by
    have h := geo_dvd k
    unfold geo at h ⊢
    rw [Nat.pow_succ]
    omega
theorem geo_succ (k : Nat) : geo (k + 1) = geo k * 5 + 1 := by
  have h1 := geo_dvd k
  have h2 := geo_dvd (k + 1)
  rw [Nat.pow_succ] at h2
  omega
theorem lcgN_geo (m : Nat) : ∀ k, lcgN m k = geo k % (m + 1)
  | 0 => by show 0 = geo 0 % (m + 1); rw [show geo 0 = 0 from rfl, Nat.zero_mod]
  | k + 1 => by
    show (lcgN m k * 5 + 1) % (m + 1) = _
    rw [lcgN_geo m k, geo_succ, Nat.add_mod, Nat.mul_mod, Nat.mod_mod, ← Nat.mul_mod, ← Nat.add_mod]
def certB : List Nat := [0, 1, 326, 495, 412, 365, 2, 379, 376, 281, 254, 327, 404, 261, 58, 339, 496, 305, 438, 415, 140, 413, 370, 43, 360, 73, 366, 247, 132, 309, 426, 3, 480, 97, 38, 335, 380, 461, 226, 219, 344, 377, 478, 167, 372, 357, 282, 179, 464, 401, 150, 255, 108, 509, 82, 395, 328, 169, 78, 87, 100, 405, 138, 355, 448, 193, 262, 175, 348, 45, 450, 59, 312, 473, 190, 7, 340, 453, 506, 19, 432, 497, 374, 95, 76, 93, 306, 235, 296, 265, 302, 439, 68, 501, 362, 195, 416, 289, 486, 15, 316, 141, 162, 411, 280, 57, 414, 359, 308, 37, 218, 371, 400, 81, 86, 447, 44, 189, 18, 75, 264, 361, 14, 279, 36, 85, 74, 35, 384, 385, 198, 367, 284, 237, 386, 251, 248, 153, 126, 199, 276, 133, 442, 211, 368, 177, 310, 287, 12, 285, 242, 427, 232, 457, 238, 119, 4, 181, 298, 387, 352, 481, 422, 207, 252, 333, 98, 91, 216, 249, 350, 39, 244, 229, 154, 51, 336, 273, 22, 127, 492, 381, 466, 267, 200, 41, 462, 471, 484, 277, 10, 227, 320, 65, 134, 47, 220, 429, 322, 443, 184, 345, 62, 391, 212, 325, 378, 403, 304, 369, 246, 479, 460, 477, 178, 107, 168, 137, 174, 311, 452, 373, 234, 67, 288, 161, 358, 399, 188, 13, 34, 283, 152, 441, 286, 231, 180, 421, 90, 243, 272, 465, 470, 319, 428, 61, 402, 459, 136, 233, 398, 151, 420, 469, 458, 419, 256, 257, 70, 239, 156, 109, 258, 123, 120, 25, 510, 71, 148, 5, 314, 83, 240, 49, 182, 159, 396, 157, 114, 299, 104, 329, 110, 503, 388, 53, 170, 259, 224, 353, 294, 79, 124, 205, 482, 475, 88, 121, 222, 423, 116, 101, 26, 435, 208, 145, 406, 511, 364, 253, 338, 139, 72, 425, 334, 343, 356, 149, 394, 99, 192, 449, 6, 431, 92, 301, 194, 315, 56, 217, 446, 263, 84, 197, 250, 275, 176, 241, 118, 351, 332, 349, 50, 491, 40, 9, 46, 183, 324, 245, 106, 451, 160, 33, 230, 271, 60, 397, 418, 155, 24, 313, 158, 103, 52, 293, 474, 115, 144, 337, 342, 191, 300, 445, 274, 331, 8, 105, 270, 23, 292, 341, 330, 291, 128, 129, 454, 111, 28, 493, 130, 507, 504, 409, 382, 455, 20, 389, 186, 467, 112, 433, 54, 31, 268, 29, 498, 171, 488, 201, 494, 375, 260, 437, 42, 131, 96, 225, 166, 463, 508, 77, 354, 347, 472, 505, 94, 295, 500, 485, 410, 307, 80, 17, 278, 383, 236, 125, 210, 11, 456, 297, 206, 215, 228, 21, 266, 483, 64, 321, 390, 303, 476, 173, 66, 187, 440, 89, 318, 135, 468, 69, 122, 147, 48, 113, 502, 223, 204, 221, 434, 363, 424, 393, 430, 55, 196, 117, 490, 323, 32, 417, 102, 143, 444, 269, 290, 27, 408, 185, 30, 487, 436, 165, 346, 499, 16, 209, 214, 63, 172, 317, 146, 203, 392, 489, 142, 407, 164, 213, 202, 163]
theorem cert_ok : ((List.range 512).zip certB).all (fun p => geo p.2 % 512 == p.1 && decide (p.2 ≤ 511)) = true := by decide +kernel
theorem cert_len : certB.length = 512 := by decide +kernel
/-- the masks that come, up to 300 things -/
def MaskB (m : Nat) : Prop := MaskOk m ∨ m = 511
theorem lcg_allB {m : Nat} (hm : MaskB m) {j : Nat} (hj : j ≤ m) : ∃ b, b ≤ m ∧ lcgN m b = j := by
  rcases hm with hm | rfl
  · exact lcg_all hm hj
  · have h1 : j < certB.length := by rw [cert_len]; omega
    have h2 : ((List.range 512).zip certB)[j]? = some (j, certB[j]) := by
      rw [List.getElem?_zip_eq_some]
      exact ⟨by rw [List.getElem?_range (by omega)], List.getElem?_eq_getElem h1⟩
    have h3 := List.all_eq_true.mp cert_ok _ (List.mem_of_getElem? h2)
    rw [Bool.and_eq_true] at h3
    exact ⟨certB[j], of_decide_eq_true h3.2, by rw [lcgN_geo]; exact beq_iff_eq.mp h3.1⟩
theorem lcg_roundB {m : Nat} (hm : MaskB m) : lcgN m (m + 1) = 0 := by
  rcases hm with hm | rfl
  · exact lcg_round hm
  · rw [lcgN_geo]
    decide +kernel
theorem lcgN_modB {m : Nat} (hm : MaskB m) (k : Nat) : lcgN m (m + 1 + k) = lcgN m k := by
  have h := lcg_roundB hm
  induction k with
  | zero => exact h
  | succ k ih =>
    show (lcgN m (m + 1 + k) * 5 + 1) % (m + 1) = (lcgN m k * 5 + 1) % (m + 1)
    rw [ih]
/-- from anywhere each slot comes within a round -/
theorem lcgI_allB {m : Nat} (hm : MaskB m) {i j : Nat} (hi : i ≤ m) (hj : j ≤ m) : ∃ k, k ≤ m ∧ lcgI m i k = j := by
  obtain ⟨a, ha, rfl⟩ := lcg_allB hm hi
  obtain ⟨b, hb, rfl⟩ := lcg_allB hm hj
  by_cases c : a ≤ b
  · exact ⟨b - a, by omega, by rw [lcgN_add, show a + (b - a) = b by omega]⟩
  · exact ⟨m + 1 + b - a, by omega, by rw [lcgN_add, show a + (m + 1 + b - a) = m + 1 + b by omega, lcgN_modB hm]⟩
theorem run_meetsB {m : Nat} (hm : MaskB m) (h : Int) {j : Nat} (hj : j ≤ m) : ∃ n, n ≤ m + 12 ∧ runI m (SetTable.bits h) n = j := by
  obtain ⟨k, hk, e⟩ := lcgI_allB hm (runI_le m (SetTable.bits h) 12) hj
  refine ⟨12 + k, by omega, ?_⟩
  rw [runI_tail (bits_lt h), e]
theorem nth_meetsB {m : Nat} (hm : MaskB m) (h : Int) {j : Nat} (hj : j ≤ m) : ∃ k, k < 10 * SetTable.turns m ∧ (nth m (runAt m (SetTable.bits h % (m + 1)) (SetTable.bits h)) k).j = j := by
  obtain ⟨n, hn, e⟩ := run_meetsB hm h hj
  obtain ⟨k, hk, e2⟩ := run_nth m (SetTable.bits h) n
  exact ⟨k, by unfold SetTable.turns; omega, by rw [e2]; exact e⟩
theorem mask_oddB {m : Nat} (h : MaskB m) : m % 2 = 1 := by
  rcases h with h | rfl
  · exact mask_odd h
  · rfl
end Fo
namespace Fo
open PySem PySem.Spec PyProof.Rows L2
/-! a table of up to 512 slots -/
theorem way_leB (m : Nat) (h : Int) (k : Nat) : way m h k ≤ m := by
  have b := runEnd_bd (Nat.le_of_lt_succ (Nat.mod_lt (SetTable.bits h) (Nat.succ_pos m)))
  have q := nth_in (m := m) k (runAt m (SetTable.bits h % (m + 1)) (SetTable.bits h)) (by
    show SetTable.bits h % (m + 1) + (SetTable.runEnd m (SetTable.bits h % (m + 1)) - SetTable.bits h % (m + 1)) ≤ m
    have b1 := b.1
    have b2 := b.2.1
    exact (Nat.add_sub_cancel' b2).symm ▸ b1)
  exact Nat.le_trans (Nat.le_add_right _ _) q
structure TabB (t : SetTable) (hs : List Int) : Prop where
  ris : Ris t.place.toList
  dm : t.dummies = #[]
  sz : t.place.size = hs.length
  mok : MaskB t.mask
  bd : ∀ x ∈ t.place.toList, x ≤ t.mask
  reach : ∀ (i : Nat) (h : Int) (j : Nat), hs[i]? = some h → t.place.toList[i]? = some j → ∃ k, way t.mask h k = j ∧ ∀ k', k' < k → way t.mask h k' ∈ t.place.toList
theorem TabB.of {t : SetTable} {hs : List Int} (T : TabOk t hs) : TabB t hs := ⟨T.ris, T.dm, T.sz, .inl T.mok, T.bd, T.reach⟩
theorem TabB.len {t : SetTable} {hs : List Int} (T : TabB t hs) : t.place.toList.length = hs.length := by rw [Array.length_toList, T.sz]
theorem TabB.first {t : SetTable} {hs : List Int} (T : TabB t hs) (hl : hs.length ≤ t.mask) (h : Int) : ∃ K, K < 10 * SetTable.turns t.mask ∧ way t.mask h K ∉ t.place.toList ∧ ∀ k, k < K → way t.mask h k ∈ t.place.toList := by
  obtain ⟨j, hj, hn⟩ := st_missing t.place.toList (t.mask + 1) (by rw [T.len]; omega)
  obtain ⟨k, hk, e⟩ := nth_meetsB T.mok h (Nat.le_of_lt_succ hj)
  obtain ⟨K, h1, h2, h3⟩ := st_least (p := fun k => way t.mask h k ∉ t.place.toList) k (by
    show (nth t.mask (runAt t.mask (SetTable.bits h % (t.mask + 1)) (SetTable.bits h)) k).j ∉ _
    rw [e]
    exact hn)
  exact ⟨K, Nat.lt_of_le_of_lt h1 hk, h2, fun k' hk' => Classical.not_not.mp (h3 k' hk')⟩
theorem TabB.before {t : SetTable} {hs : List Int} (T : TabB t hs) {h : Int} {K i j : Nat} (hK : way t.mask h K ∉ t.place.toList) (hi : hs[i]? = some h) (hj : t.place.toList[i]? = some j) : ∃ k, k < K ∧ way t.mask h k = j := by
  obtain ⟨k, rfl, hb⟩ := T.reach i h j hi hj
  refine ⟨k, Nat.lt_of_not_le fun c => hK ?_, rfl⟩
  rcases Nat.eq_or_lt_of_le c with rfl | c
  · exact List.mem_of_getElem? hj
  · exact hb K c
theorem TabB.put {t : SetTable} {hs : List Int} (T : TabB t hs) {h : Int} {K j : Nat} (ej : way t.mask h K = j) (hK : j ∉ t.place.toList) (hb : ∀ k, k < K → way t.mask h k ∈ t.place.toList) :
    SetTable.below t.place j ≤ hs.length ∧ TabB (t.put j).1 (hs.take (SetTable.below t.place j) ++ h :: hs.drop (SetTable.below t.place j)) ∧ (t.put j).1.fill = hs.length + 1 := by
  have c1 := (below_cut T.ris j).1
  have b1 : SetTable.below t.place j ≤ t.place.toList.length := c1
  have b2 : SetTable.below t.place j ≤ hs.length := by rw [← T.len]; exact b1
  have pp := put_place t j
  have up : ∀ {x : Nat}, x ∈ t.place.toList → x ∈ (t.put j).1.place.toList := fun hx => by rw [pp]; exact mem_ins.2 (.inr hx)
  have sz : (t.put j).1.place.size = hs.length + 1 := by rw [← Array.length_toList, pp, len_ins _ b1, T.len]
  refine ⟨b2, ⟨ris_insert T.ris fun e => hK (List.mem_of_getElem? (by rw [Array.getElem?_toList]; exact e)), put_dm T.dm j, by rw [len_ins _ b2]; exact sz, T.mok, fun x hx => ?_, fun i h' j' e1 e2 => ?_⟩, ?_⟩
  · rw [pp] at hx
    rcases mem_ins.1 hx with rfl | z
    · rw [← ej]
      exact way_leB t.mask h K
    · exact T.bd x z
  · rw [tins_get hs b2] at e1
    rw [pp, tins_get _ b1] at e2
    show ∃ k, way t.mask h' k = j' ∧ ∀ k', k' < k → way t.mask h' k' ∈ (t.put j).1.place.toList
    have old : ∀ i, hs[i]? = some h' → t.place.toList[i]? = some j' → ∃ k, way t.mask h' k = j' ∧ ∀ k', k' < k → way t.mask h' k' ∈ (t.put j).1.place.toList := fun i a b => by
      obtain ⟨k, e, z⟩ := T.reach i h' j' a b
      exact ⟨k, e, fun k' hk' => up (z k' hk')⟩
    rcases Nat.lt_trichotomy i (SetTable.below t.place j) with c | c | c
    · rw [if_pos c] at e1 e2
      exact old i e1 e2
    · rw [if_neg (by omega), if_pos c] at e1 e2
      cases e1
      cases e2
      exact ⟨K, ej, fun k' hk' => up (hb k' hk')⟩
    · rw [if_neg (by omega), if_neg (by omega)] at e1 e2
      exact old (i - 1) e1 e2
  · show (t.put j).1.place.size + (t.put j).1.dummies.size = hs.length + 1
    rw [sz, put_dm T.dm j]
    rfl
/-! laying anew -/
theorem free_findB {m : Nat} (hm : MaskB m) (owner : Array (Option Nat)) (h : Int) {j : Nat} (hj : j ≤ m) (hf : oAt owner j = none) :
    ∃ K, SetTable.layClean.free m owner (SetTable.turns m) (SetTable.bits h % (m + 1)) (SetTable.bits h) = some (way m h K) ∧ oAt owner (way m h K) = none ∧ ∀ k, k < K → oAt owner (way m h k) ≠ none := by
  obtain ⟨n, hn, e⟩ := run_meetsB hm h hj
  have hw : way m h (off m (SetTable.bits h % (m + 1)) (SetTable.bits h) n) = j := by
    show (nth m (runAt m _ _) _).j = j
    rw [nth_off, itL_run]
    exact e
  obtain ⟨K, k1, k2, k3⟩ := st_least (p := fun k => oAt owner (way m h k) = none) _ (show oAt owner (way m h (off m (SetTable.bits h % (m + 1)) (SetTable.bits h) n)) = none by rw [hw]; exact hf)
  refine ⟨K, free_spec m owner (SetTable.turns m) n _ _ K (by unfold SetTable.turns; omega) k1 (fun k hk => ?_) (Option.isNone_iff_eq_none.mpr k2), k2, k3⟩
  exact Bool.eq_false_iff.mpr fun z => k3 k hk (Option.isNone_iff_eq_none.mp z)
theorem own_stepB {m : Nat} (hm : MaskB m) {done : List Int} {owner : Array (Option Nat)} (W : Own m done owner) (hl : done.length ≤ m) (h : Int) :
    ∃ j, SetTable.layClean.free m owner (SetTable.turns m) (SetTable.bits h % (m + 1)) (SetTable.bits h) = some j ∧ Own m (done ++ [h]) (owner.setIfInBounds j (some done.length)) := by
  obtain ⟨ps, hps, hin⟩ := W.ps
  obtain ⟨j0, h0, hn0⟩ := st_missing ps (m + 1) (by omega)
  obtain ⟨K, e1, e2, e3⟩ := free_findB hm owner h (Nat.le_of_lt_succ h0) (Classical.not_not.mp fun z => hn0 (hin j0 (Nat.le_of_lt_succ h0) z))
  have hjm := way_leB m h K
  generalize ej : way m h K = j at e1 e2 hjm
  have self := oAt_set_self (some done.length) (show j < owner.size by rw [W.sz]; omega)
  have mono : ∀ i, oAt owner i ≠ none → oAt (owner.setIfInBounds j (some done.length)) i ≠ none := fun i hi => by
    by_cases c : i = j
    · rw [c, self]
      exact fun z => by cases z
    · rw [oAt_set_ne _ c]
      exact hi
  refine ⟨j, e1, by rw [Array.size_setIfInBounds]; exact W.sz, fun i k hi e => ?_, fun k hk => ?_, j :: ps, by rw [List.length_cons, hps, List.length_append]; rfl, fun i hi e => ?_⟩
  · by_cases c : i = j
    · rw [c, self] at e
      cases e
      exact ⟨h, K, by rw [List.getElem?_append_right (Nat.le_refl _), Nat.sub_self]; rfl, by rw [c]; exact ej, fun k' hk' => mono _ (e3 k' hk')⟩
    · rw [oAt_set_ne _ c] at e
      obtain ⟨h', K', a1, a2, a3⟩ := W.at_ i k hi e
      exact ⟨h', K', by rw [List.getElem?_append_left (List.getElem?_eq_some_iff.mp a1).1]; exact a1, a2, fun k' hk' => mono _ (a3 k' hk')⟩
  · by_cases c : k < done.length
    · obtain ⟨i, hi, e⟩ := W.all k c
      exact ⟨i, hi, by rw [oAt_set_ne _ fun z => by rw [z, e2] at e; cases e]; exact e⟩
    · obtain rfl : k = done.length := by
        rw [List.length_append, List.length_singleton] at hk
        omega
      exact ⟨j, hjm, self⟩
  · by_cases c : i = j
    · rw [c]
      exact List.mem_cons_self
    · rw [oAt_set_ne _ c] at e
      exact List.mem_cons_of_mem _ (hin i hi e)
theorem fold_okB {m : Nat} (hm : MaskB m) (rest : List Int) : ∀ (done : List Int) (owner : Array (Option Nat)), Own m done owner → done.length + rest.length ≤ m →
    ∃ owner', rest.foldl (stepF m) (some (owner, done.length)) = some (owner', (done ++ rest).length) ∧ Own m (done ++ rest) owner' := by
  induction rest with
  | nil => exact fun done owner W _ => ⟨owner, by rw [List.append_nil]; rfl, by rw [List.append_nil]; exact W⟩
  | cons h rest ih =>
    intro done owner W hl
    rw [List.length_cons] at hl
    obtain ⟨j, e, W1⟩ := own_stepB hm W (by omega) h
    obtain ⟨owner', f, W2⟩ := ih (done ++ [h]) _ W1 (by rw [List.length_append, List.length_singleton]; omega)
    rw [List.append_assoc, List.singleton_append, show (done ++ [h]).length = done.length + 1 by rw [List.length_append]; rfl] at f
    rw [List.append_assoc, List.singleton_append] at W2
    exact ⟨owner', by rw [List.foldl_cons, stepF_some e]; exact f, W2⟩
theorem layClean_okB {m : Nat} (hm : MaskB m) {hs : Array Int} (hn : hs.size ≤ m) : ∃ owner, SetTable.layClean m hs = some owner ∧ Own m hs.toList owner := by
  obtain ⟨owner, f, W⟩ := fold_okB hm hs.toList [] _ (Own.init m) (by show 0 + hs.toList.length ≤ m; rw [Array.length_toList]; omega)
  refine ⟨owner, ?_, W⟩
  rw [layClean_eq, show (0 : Nat) = ([] : List Int).length from rfl, f]
  rfl
end Fo
namespace Fo
open PySem PySem.Spec PyProof.Rows L2
/-! the larger table -/
theorem live_len {m : Nat} {hs : List Int} {owner : Array (Option Nat)} (W : Own m hs owner) : (liveOf m owner).length = hs.length ∧ ((liveOf m owner).map (·.2)).Perm (List.range hs.length) ∧ Ris ((liveOf m owner).map (·.1)) := by
  have ris : Ris ((liveOf m owner).map (·.1)) ∧ ∀ x ∈ (liveOf m owner).map (·.1), x ∈ List.range (m + 1) := ris_live (fun j => owner.getD j none) (List.range (m + 1)) (by unfold Ris; exact List.pairwise_lt_range)
  have all2 : ∀ k, k < hs.length → k ∈ (liveOf m owner).map (·.2) := fun k hk => by
    obtain ⟨j, b1, b2⟩ := W.all k hk
    exact List.mem_map.mpr ⟨(j, k), (mem_live W.sz).2 ⟨b1, b2⟩, rfl⟩
  have le1 : (liveOf m owner).length ≤ hs.length := by
    obtain ⟨ps, p1, p2⟩ := W.ps
    have nd : ((liveOf m owner).map (·.1)).Nodup := List.Pairwise.imp (fun h => Nat.ne_of_lt h) ris.1
    have a := nat_nodup_len ((liveOf m owner).map (·.1)) ps nd fun x hx => by
      obtain ⟨⟨y, k⟩, hq, rfl⟩ := List.mem_map.mp hx
      obtain ⟨b1, b2⟩ := (mem_live W.sz).1 hq
      exact p2 y b1 fun z => by rw [b2] at z; cases z
    rw [List.length_map, p1] at a
    exact a
  have le2 : hs.length ≤ (liveOf m owner).length := by
    have b := nat_nodup_len (List.range hs.length) ((liveOf m owner).map (·.2)) List.nodup_range fun k hk => all2 k (List.mem_range.mp hk)
    rw [List.length_map, List.length_range] at b
    exact b
  have e := Nat.le_antisymm le1 le2
  exact ⟨e, perm_range hs.length _ (by rw [List.length_map]; exact e) all2, ris.1⟩
theorem relaid_okB (t : SetTable) {hs : Array Int} {wanted M : Nat} (hw : SetTable.sizeAbove wanted - 1 = M) (hM : MaskB M) (hn : hs.size ≤ M) :
    ∃ t' order, t.relaid hs wanted = some (t', order) ∧ order.toList.Perm (List.range hs.size) ∧ TabB t' (order.toList.map fun i => hs.getD i 0) ∧ t'.mask = M ∧ t'.led = t.led ∧ t'.plain = t.plain := by
  obtain ⟨owner, e, W⟩ := layClean_okB hM hn
  obtain ⟨l1, l2, l3⟩ := live_len W
  rw [Array.length_toList] at l1 l2
  have hr : t.relaid hs wanted = some (tabOf t M owner, ((liveOf M owner).map (·.2)).toArray) := by
    rw [relaid_eq, hw, e]
    rfl
  refine ⟨_, _, hr, l2, ⟨l3, rfl, ?_, hM, fun x hx => ?_, fun i h j h1 h2 => ?_⟩, rfl, rfl, rfl⟩
  · show ((liveOf M owner).map (·.1)).toArray.size = (((liveOf M owner).map (·.2)).map fun i => hs.getD i 0).length
    rw [List.size_toArray, List.length_map, List.length_map, List.length_map]
  · obtain ⟨⟨y, k⟩, hq, rfl⟩ := List.mem_map.mp (show x ∈ (liveOf M owner).map (·.1) from hx)
    exact ((mem_live W.sz).1 hq).1
  · replace h1 : (((liveOf M owner).map (·.2)).map fun i => hs.getD i 0)[i]? = some h := h1
    replace h2 : ((liveOf M owner).map (·.1))[i]? = some j := h2
    rw [List.getElem?_map] at h2
    obtain ⟨⟨y, k⟩, hq, rfl⟩ := Option.map_eq_some_iff.mp h2
    rw [List.getElem?_map, List.getElem?_map, hq] at h1
    obtain ⟨b1, b2⟩ := (mem_live W.sz).1 (List.mem_of_getElem? hq)
    obtain ⟨h0, K, a1, a2, a3⟩ := W.at_ y k b1 b2
    obtain rfl : h0 = h := by
      have e2 : hs.getD k 0 = h := Option.some.inj h1
      rw [← e2, Array.getD_eq_getD_getElem?, ← Array.getElem?_toList, a1]
      rfl
    refine ⟨K, a2, fun k' hk' => ?_⟩
    show way M h0 k' ∈ (liveOf M owner).map (·.1)
    obtain ⟨k2, z⟩ := Option.ne_none_iff_exists'.mp (a3 k' hk')
    exact List.mem_map.mpr ⟨(way M h0 k', k2), (mem_live W.sz).2 ⟨way_leB M h0 k', z⟩, rfl⟩
theorem size_77 : SetTable.sizeAbove (SetTable.grown 77) = 512 := by decide +kernel
end Fo
namespace Fo
open PySem PySem.Spec PyProof.Rows L2
/-! the search in such a table -/
/-- the k-th place of the way, as the search stands there -/
abbrev stp (m : Nat) (h : Int) (k : Nat) : SetTable.Probe := nth m (runAt m (SetTable.bits h % (m + 1)) (SetTable.bits h)) k
theorem stp_add (m : Nat) (h : Int) (c q : Nat) : nth m (stp m h c) q = stp m h (c + q) := (nth_add m c _ q).symm
theorem stp_dummy (m : Nat) (h : Int) (c : Nat) : (stp m h c).dummy = none := by
  induction c with
  | zero => rfl
  | succ c ih =>
    rw [show stp m h (c + 1) = adv m (stp m h c) from nth_succ _ _ _]
    unfold adv
    split <;> exact ih
/-- what the table answers from the c-th place on: the first of the hash before the first free place, or that -/
theorem probe_at {t : SetTable} {hs : List Int} (T : TabB t hs) (hashAt : Nat → Int) (h : Int) {K c : Nat} (hKf : K < 10 * SetTable.turns t.mask) (hK : way t.mask h K ∉ t.place.toList) (hKb : ∀ c, c < K → way t.mask h c ∈ t.place.toList) (hc : c ≤ K) :
    (∃ c' i, c ≤ c' ∧ c' < K ∧ t.place.toList[i]? = some (way t.mask h c') ∧ (∀ c2 i', c ≤ c2 → c2 < c' → t.place.toList[i']? = some (way t.mask h c2) → hashAt i' ≠ h) ∧ t.probe hashAt h (stp t.mask h c) = some (.candidate (way t.mask h c') i (stp t.mask h (c' + 1)))) ∨
    ((∀ c2 i', c ≤ c2 → c2 < K → t.place.toList[i']? = some (way t.mask h c2) → hashAt i' ≠ h) ∧ t.probe hashAt h (stp t.mask h c) = some (.empty (way t.mask h K) none)) := by
  have w : ∀ q, (nth t.mask (stp t.mask h c) q).j = way t.mask h (c + q) := fun q => congrArg SetTable.Probe.j (stp_add t.mask h c q)
  have spec := go_spec t T.ris T.dm hashAt h (10 * SetTable.turns t.mask) (K - c) (stp t.mask h c) (stp_dummy t.mask h c) (by omega)
    (fun q hq => by rw [w]; exact hKb _ (by omega)) (by rw [w, Nat.add_sub_cancel' hc]; exact hK)
  rcases spec with ⟨q, i, h1, h2, _, h4, h5⟩ | ⟨h4, h5⟩
  · rw [w] at h2
    rw [w, stp_add] at h5
    refine .inl ⟨c + q, i, by omega, by omega, h2, fun c2 i' a b e => h4 (c2 - c) i' (by omega) (by rw [w, Nat.add_sub_cancel' a]; exact e), h5⟩
  · rw [w, Nat.add_sub_cancel' hc] at h5
    exact .inr ⟨fun c2 i' a b e => h4 (c2 - c) i' (by omega) (by rw [w, Nat.add_sub_cancel' a]; exact e), h5⟩
structure SetBR (P : Program) (w : World) (h : Heap) (a : Addr) (L : List (Addr × List Int)) (es : Array (Int × Value)) (ep : Nat) (t : SetTable) : Prop where
  ob : ∃ o, h.get? a = some o ∧ o.ExactSet ∧ o.data = .set es ep t
  rows : es.toList = rowsOf P w L
  tab : TabB t (L.map fun p => thash P w p.2)
  nd : (L.map (·.2)).Nodup
  tup : ∀ p ∈ L, IsT P w h p.2 p.1
  plain : t.plain = true
  led : w.params.followText "set-order" = true ∨ t.led = true
  room : L.length * 5 < t.mask * 3
  few : L.length < 300
section
variable {P : Program} {w : World} {A : Around} {E : Value → Shared → Prop} {s : Shared} {a : Addr} {L : List (Addr × List Int)} {es : Array (Int × Value)} {ep : Nat} {t : SetTable}
theorem SetBR.size (R : SetBR P w s.heap a L es ep t) : es.size = L.length := by
  rw [← Array.length_toList, R.rows]
  exact List.length_map _
theorem SetBR.psize (R : SetBR P w s.heap a L es ep t) : t.place.size = L.length := by rw [R.tab.sz, List.length_map]
theorem SetBR.fits (R : SetBR P w s.heap a L es ep t) : t.fits es.size = true := by
  have h1 := R.psize
  have h3 := R.room
  unfold SetTable.fits SetTable.fill
  rw [R.size, R.tab.dm, Bool.and_eq_true, beq_iff_eq, decide_eq_true_eq]
  exact ⟨h1, by show t.place.size + 0 ≤ t.mask; omega⟩
theorem SetBR.entry (R : SetBR P w s.heap a L es ep t) {i : Nat} {p : Addr × List Int} (h : L[i]? = some p) : es[i]? = some (thash P w p.2, Value.ref p.1) := by
  rw [← Array.getElem?_toList, R.rows]
  unfold rowsOf
  rw [List.getElem?_map, h]
  rfl
theorem SetBR.hash (R : SetBR P w s.heap a L es ep t) {i : Nat} {p : Addr × List Int} (h : L[i]? = some p) : (es[i]?.map (·.1)).getD 0 = thash P w p.2 := by
  rw [R.entry h]
  rfl
theorem SetBR.gw (R : SetBR P w s.heap a L es ep t) : ¬ t.gaveWay = true := by
  unfold SetTable.gaveWay
  rw [mask_oddB R.tab.mok]
  decide
/-- the entry that sits at a place -/
theorem SetBR.at (R : SetBR P w s.heap a L es ep t) {i j : Nat} (h : t.place.toList[i]? = some j) : ∃ p, L[i]? = some p ∧ p ∈ L := by
  have hl : i < L.length := by
    have h1 := (List.getElem?_eq_some_iff.mp h).1
    rw [Array.length_toList, R.psize] at h1
    exact h1
  exact ⟨L[i], List.getElem?_eq_getElem hl, List.getElem_mem hl⟩
/-- the search, from the c-th place on -/
theorem SetBR.from (R : SetBR P w s.heap a L es ep t) {x : Addr} {k : List Int} (hx : IsT P w s.heap k x) (hu : A.units < cLine) {K : Nat} (hKf : K < 10 * SetTable.turns t.mask)
    (hK : way t.mask (thash P w k) K ∉ t.place.toList) (hKb : ∀ c, c < K → way t.mask (thash P w k) c ∈ t.place.toList) {Q : SetFound → Shared → Prop}
    (hin : k ∈ L.map (·.2) → Q (.there none) s) (hout : k ∉ L.map (·.2) → Q (.free (way t.mask (thash P w k) K) false) s) (f : Nat) :
    ∀ (c : Nat) (stand : Option SetTable.Probe), stand.getD (t.probeStart (thash P w k)) = stp t.mask (thash P w k) c → c ≤ K → K - c < f →
      (∀ (i : Nat) p, L[i]? = some p → p.2 = k → ∃ c', c ≤ c' ∧ c' < K ∧ t.place.toList[i]? = some (way t.mask (thash P w k) c')) →
      wpAny (model P w) A (setSearchFrom a (.ref x) (thash P w k) true f stand) Q E s := by
  induction f with
  | zero => exact fun c stand _ _ hf _ => absurd hf (Nat.not_lt_zero _)
  | succ f ih =>
    intro c stand hst hc hf hre
    obtain ⟨o, ho, hex, hd⟩ := R.ob
    rw [setSearchFrom_succ]
    refine wpAny_bind (wpAny_setState_of ho hd R.fits ?_)
    dsimp only
    refine wp_if_neg R.gw ?_
    try refine wpAny_bind (wpAny_pure ?_)
    rw [hst]
    rcases probe_at R.tab (fun i => (es[i]?.map (·.1)).getD 0) (thash P w k) hKf hK hKb hc with ⟨c', i, h1, h2, h3, h4, h5⟩ | ⟨h4, h5⟩
    · rw [h5]
      dsimp only
      obtain ⟨p, hp, mp⟩ := R.at h3
      have go : wpAny (model P w) A (searchRest a (.ref x) (thash P w k) true f es t (way t.mask (thash P w k) c') i (stp t.mask (thash P w k) (c' + 1))) Q E s := by
        unfold searchRest
        rw [R.entry hp]
        dsimp only
        refine wpAny_bind (wpAny_holding (wpAny_eqBool_tuple hu (R.tup p mp) hx ?_))
        refine wpAny_bind (wpAny_setState_of ho hd R.fits ?_)
        dsimp only
        by_cases e : p.2 = k
        · exact wp_if_pos (by simp [e]) (wpAny_pure (hin (List.mem_map.mpr ⟨p, mp, e⟩)))
        · refine wp_if_neg (by simp [e]) ?_
          try refine wpAny_bind (wpAny_pure ?_)
          rw [sameMem]
          dsimp only
          have sl : t.slot (way t.mask (thash P w k) c') = .live i := slot_live R.tab.ris h3
          simp only [if_true, sl, R.entry hp]
          refine wpAny_bind (wpAny_isSame_ref_self (wpAny_bind (wpAny_pure ?_)))
          simp only [if_true]
          refine wp_if_neg (by simp [e]) (ih (c' + 1) _ rfl (by omega) (by omega) fun i0 p0 g0 gk => ?_)
          obtain ⟨c2, a1, a2, a3⟩ := hre i0 p0 g0 gk
          refine ⟨c2, ?_, a2, a3⟩
          rcases Nat.lt_trichotomy c2 c' with z | rfl | z
          · exact absurd ((R.hash g0).trans (congrArg (thash P w) gk)) (h4 c2 i0 a1 z a3)
          · have s0 := slot_live R.tab.ris a3
            rw [sl] at s0
            injection s0 with s0
            rw [← s0, hp] at g0
            exact absurd ((congrArg Prod.snd (Option.some.inj g0)).trans gk) e
          · exact z
      by_cases hl : t.led = true
      · refine wp_if_neg (by simp [hl]) ?_
        try refine wpAny_bind (wpAny_pure ?_)
        exact go
      · refine wp_if_pos (by simp [hl]) ?_
        refine wpAny_bind (seen_tup hx (fun y hy => ?_) ?_)
        · obtain ⟨r, hr, rfl⟩ := List.mem_map.mp hy
          have hr2 : r ∈ es.toList := by
            have : r ∈ es ∧ r.1 = thash P w k := by simpa using hr
            simpa using this.1
          rw [R.rows] at hr2
          obtain ⟨p2, m2, rfl⟩ := List.mem_map.mp hr2
          exact ⟨p2.2, p2.1, rfl, R.tup p2 m2⟩
        · refine wp_if_neg (by decide) ?_
          try refine wpAny_bind (wpAny_pure ?_)
          exact go
    · rw [h5]
      dsimp only
      refine wpAny_pure (hout fun hm => ?_)
      obtain ⟨p0, m0, k0⟩ := List.mem_map.mp hm
      obtain ⟨i0, g0⟩ := List.mem_iff_getElem?.mp m0
      obtain ⟨c2, a1, a2, a3⟩ := hre i0 p0 g0 k0
      exact h4 c2 i0 a1 a2 a3 ((R.hash g0).trans (congrArg (thash P w) k0))
theorem SetBR.search (R : SetBR P w s.heap a L es ep t) {x : Addr} {k : List Int} (hx : IsT P w s.heap k x) (hu : A.units < cLine) {Q : SetFound → Shared → Prop}
    (hin : k ∈ L.map (·.2) → Q (.there none) s)
    (hout : ∀ K, k ∉ L.map (·.2) → way t.mask (thash P w k) K ∉ t.place.toList → (∀ c, c < K → way t.mask (thash P w k) c ∈ t.place.toList) → Q (.free (way t.mask (thash P w k) K) false) s) :
    wpAny (model P w) A (setSearch a (.ref x) (thash P w k) true) Q E s := by
  have room := R.room
  obtain ⟨K, hKf, hK, hKb⟩ := R.tab.first (by rw [List.length_map]; omega) (thash P w k)
  have hbig : K < 100000 := by
    have : SetTable.turns t.mask ≤ 10000 := by
      unfold SetTable.turns
      rcases R.tab.mok with (e | e | e) | e <;> omega
    omega
  unfold setSearch
  refine R.from hx hu hKf hK hKb hin (fun hn => hout K hn hK hKb) 100000 0 none rfl (Nat.zero_le _) (by omega) fun i p hp hk => ?_
  have hl : i < t.place.toList.length := by
    rw [R.tab.len, List.length_map]
    exact (List.getElem?_eq_some_iff.mp hp).1
  have hj := List.getElem?_eq_getElem hl
  obtain ⟨c, hc, e⟩ := R.tab.before hK (by rw [List.getElem?_map, hp, ← hk]; rfl) hj
  exact ⟨c, Nat.zero_le _, hc, by rw [hj, e]⟩
end
end Fo
namespace Fo
open PySem PySem.Spec PyProof.Rows L2
/-! adding to such a set -/
section
variable {P : Program} {w : World} {A : Around} {E : Value → Shared → Prop} {s : Shared} {a : Addr} {L : List (Addr × List Int)} {es : Array (Int × Value)} {ep : Nat} {t : SetTable}
/-- what is to be a set again once its table is laid anew -/
structure Near (P : Program) (w : World) (h : Heap) (a : Addr) (L : List (Addr × List Int)) (es : Array (Int × Value)) (ep : Nat) (t : SetTable) : Prop where
  ob : ∃ o, h.get? a = some o ∧ o.ExactSet ∧ o.data = .set es ep t
  rows : es.toList = rowsOf P w L
  tab : TabB t (L.map fun p => thash P w p.2)
  nd : (L.map (·.2)).Nodup
  tup : ∀ p ∈ L, IsT P w h p.2 p.1
  plain : t.plain = true
  led : w.params.followText "set-order" = true ∨ t.led = true
  few : L.length < 300
theorem Near.relay (N : Near P w s.heap a L es ep t) (hin : L.length ≤ t.mask) {wanted M : Nat} (hw : SetTable.sizeAbove wanted - 1 = M) (hM : MaskB M) (hw2 : SetTable.sizeAbove wanted ≤ 512) (hn : L.length * 5 < M * 3) {Q : Unit → Shared → Prop}
    (hQ : ∀ h' L' es' ep' t', Heap.SameBut a s.heap h' → SetBR P w h' a L' es' ep' t' → L'.Perm L → Q () { s with heap := h' }) : wpAny (model P w) A (setRelay a wanted) Q E s := by
  obtain ⟨o, ho, hex, hd⟩ := N.ob
  have el : es.size = L.length := by
    rw [← Array.length_toList, N.rows]
    exact List.length_map _
  have ep1 : t.place.size = L.length := by rw [N.tab.sz, List.length_map]
  have hfits : t.fits es.size = true := by
    unfold SetTable.fits SetTable.fill
    rw [el, N.tab.dm, Bool.and_eq_true, beq_iff_eq, decide_eq_true_eq]
    exact ⟨ep1, by show t.place.size + 0 ≤ t.mask; omega⟩
  obtain ⟨t', order, e, hp, T, em, eled, epl⟩ := relaid_okB t (hs := es.map (·.1)) (wanted := wanted) hw hM (by rw [Array.size_map, el]; omega)
  rw [Array.size_map, el] at hp
  obtain ⟨L2, r1, r2, r3⟩ := order_rows L es order N.rows hp
  rw [← r3] at T
  have es2 : (order.filterMap (es[·]?)).size = es.size := by
    rw [← Array.length_toList, r1, el, ← r2.length_eq]
    exact List.length_map _
  rw [setRelay_eq]
  refine wpAny_bind (wpAny_setState_of ho hd hfits ?_)
  dsimp only
  refine wp_if_neg (by rw [sizeLine_eq]; omega) ?_
  try refine wpAny_bind (wpAny_pure ?_)
  rw [e]
  dsimp only
  refine wpAny_bind ?_
  refine wp_if_neg (by rw [es2]; simp) ?_
  try refine wpAny_bind (wpAny_pure ?_)
  refine wpAny_pure ?_
  dsimp only
  have few := N.few
  refine wpAny_storeSet_of ho hd ?_ (by rw [es2, el, sizeLine_eq]; omega)
  have sb : Heap.SameBut a s.heap (s.heap.update a (Obj.putSet (order.filterMap (es[·]?)) t')) := Heap.SameBut.update ..
  refine hQ _ L2 _ (ep + 1) t' sb ⟨⟨_, store_at ho hd, ⟨hex.1, hex.2.1, hex.2.2⟩, rfl⟩, r1, T, (r2.map (·.2)).nodup_iff.mpr N.nd, fun p m => isT_same (N.tup p (r2.mem_iff.mp m)) ho hd sb, by rw [epl]; exact N.plain, by rw [eled]; exact N.led, ?_, by rw [r2.length_eq]; exact few⟩ r2
  rw [r2.length_eq, em]
  exact hn
theorem SetBR.add (R : SetBR P w s.heap a L es ep t) {x : Addr} {k : List Int} (hx : IsT P w s.heap k x) (hu : A.units < cLine) (hfew : L.length + 1 < 300) {Q : Bool → Shared → Prop}
    (hQ : ∀ b h' L' es' ep' t', Heap.SameBut a s.heap h' → SetBR P w h' a L' es' ep' t' → (k ∈ L.map (·.2) → L' = L) → (k ∉ L.map (·.2) → L'.Perm ((x, k) :: L)) → Q b { s with heap := h' }) :
    wpAny (model P w) A (setAddHashed a (.ref x) (thash P w k)) Q E s := by
  obtain ⟨o, ho, hex, hd⟩ := R.ob
  have room := R.room
  unfold setAddHashed
  refine wpAny_holding ?_
  rw [show (100000 : Nat) = 99999 + 1 from rfl, setAddHashedIn_succ]
  refine wpAny_bind (wpAny_setState_of ho hd R.fits ?_)
  dsimp only
  refine wp_if_neg (by simp [byScan, Value.scannable]) ?_
  try refine wpAny_bind (wpAny_pure ?_)
  refine wpAny_bind (R.search hx hu (fun hm => ?_) fun K hm hK hb => ?_)
  · dsimp only
    exact wpAny_pure (hQ false s.heap L es ep t (Heap.SameBut.refl a s.heap) R (fun _ => rfl) fun z => absurd hm z)
  dsimp only
  refine wpAny_bind (wpAny_setState_of ho hd R.fits ?_)
  dsimp only
  generalize ej : way t.mask (thash P w k) K = j at hK
  obtain ⟨q2, q3, q9⟩ := R.tab.put ej hK hb
  have pl : (t.put j).1.plain = true := R.plain
  have ld : w.params.followText "set-order" = true ∨ (t.put j).1.led = true := R.led
  have mk : (t.put j).1.mask = t.mask := rfl
  have q1 : (t.put j).2 = SetTable.below t.place j := rfl
  generalize t.put j = pt at q1 q3 q9 pl ld mk ⊢
  obtain ⟨t1, p⟩ := pt
  dsimp only at q1 q3 q9 pl ld mk ⊢
  subst q1
  first
    | (refine wpAny_bind ?_; refine wp_if_pos pl ?_; refine hashBy_tup hx ?_)
    | refine wp_if_pos pl (wpAny_bind (hashBy_tup hx ?_))
  simp only [if_true]
  generalize SetTable.below t.place j = p at q2 q3 ⊢
  have rw1 : (SetTable.insertAt es p (thash P w k, Value.ref x)).toList = rowsOf P w (L.take p ++ (x, k) :: L.drop p) := by rw [SetTable.toList_insertAt, rows_put, R.rows]
  have pm := put_perm L p (x, k)
  rw [show (L.map fun p => thash P w p.2).take p ++ thash P w k :: (L.map fun p => thash P w p.2).drop p = (L.take p ++ (x, k) :: L.drop p).map (fun p => thash P w p.2) by rw [List.map_append, List.map_cons, List.map_take, List.map_drop]] at q3
  have nd1 : ((L.take p ++ (x, k) :: L.drop p).map (·.2)).Nodup := (pm.map (·.2)).nodup_iff.mpr (by rw [List.map_cons]; exact List.nodup_cons.mpr ⟨hm, R.nd⟩)
  generalize SetTable.insertAt es p (thash P w k, Value.ref x) = es1 at rw1 ⊢
  generalize L.take p ++ (x, k) :: L.drop p = L1 at pm q3 nd1 rw1
  have len1 : L1.length = L.length + 1 := pm.length_eq
  have es1l : es1.size = L.length + 1 := by
    rw [← Array.length_toList, rw1, ← len1]
    exact List.length_map _
  refine wpAny_bind (wpAny_storeSet_of ho hd ?_ (by rw [es1l, sizeLine_eq]; omega))
  have sb : Heap.SameBut a s.heap (s.heap.update a (Obj.putSet es1 t1)) := Heap.SameBut.update ..
  have ho1 := store_at (es' := es1) (t' := t1) ho hd
  generalize s.heap.update a (Obj.putSet es1 t1) = h1 at sb ho1 ⊢
  have N : Near P w h1 a L1 es1 (ep + 1) t1 := ⟨⟨_, ho1, ⟨hex.1, hex.2.1, hex.2.2⟩, rfl⟩, rw1, q3, nd1, fun p hp => by
    rcases List.mem_cons.mp (pm.mem_iff.mp hp) with rfl | hp
    · exact isT_same hx ho hd sb
    · exact isT_same (R.tup p hp) ho hd sb, pl, ld, by rw [len1]; exact hfew⟩
  rw [List.length_map] at q9
  by_cases hf : t1.tooFull = true
  · first
      | (refine wpAny_bind ?_; refine wp_if_pos (by simp [hf]) ?_)
      | (refine wp_if_pos (by simp [hf]) ?_; refine wpAny_bind ?_)
    have full : t1.fill * 5 ≥ t1.mask * 3 := by
      unfold SetTable.tooFull at hf
      exact of_decide_eq_true hf
    rw [q9, mk] at full
    have go : ∀ M, SetTable.sizeAbove (SetTable.grown (L.length + 1)) - 1 = M → MaskB M → SetTable.sizeAbove (SetTable.grown (L.length + 1)) ≤ 512 → (L.length + 1) * 5 < M * 3 →
        wpAny (model P w) A (setRelay a (SetTable.grown (es.size + 1))) (fun _ s' => wpAny (model P w) A (pure true) Q E s') E { s with heap := h1 } := fun M g1 g2 g3 g4 => by
      rw [R.size]
      refine Near.relay (s := { s with heap := h1 }) N (by rw [len1, mk]; omega) g1 g2 g3 (by rw [len1]; exact g4) fun h2 L2 es2 ep2 t2 sb2 R2 pm2 => ?_
      exact wpAny_pure (hQ true h2 L2 es2 ep2 t2 (sb.trans sb2) R2 (fun z => absurd z hm) fun _ => pm2.trans pm)
    rcases R.tab.mok with (e | e | e) | e
    · have e4 : L.length = 4 := by rw [e] at full room; omega
      exact go 31 (by rw [e4, size_20]) (.inl (.inr (.inl rfl))) (by rw [e4, size_20]; decide) (by omega)
    · have e4 : L.length = 18 := by rw [e] at full room; omega
      exact go 127 (by rw [e4, size_76]) (.inl (.inr (.inr rfl))) (by rw [e4, size_76]; decide) (by omega)
    · have e4 : L.length = 76 := by rw [e] at full room; omega
      exact go 511 (by rw [e4, size_77]) (.inr rfl) (by rw [e4, size_77]; decide) (by omega)
    · rw [e] at full
      omega
  · first
      | refine wp_if_neg (by simp [hf]) ?_
      | (refine wpAny_bind ?_; refine wp_if_neg (by simp [hf]) ?_; refine wpAny_pure ?_)
    have notf : ¬ (t1.fill * 5 ≥ t1.mask * 3) := fun z => hf (by unfold SetTable.tooFull; exact decide_eq_true z)
    rw [q9] at notf
    exact wpAny_pure (hQ true h1 L1 es1 (ep + 1) t1 sb ⟨N.ob, N.rows, N.tab, N.nd, N.tup, N.plain, N.led, by rw [len1]; omega, N.few⟩ (fun z => absurd z hm) fun _ => pm)
end
end Fo
namespace Fo
open PySem PySem.Spec PyProof.Rows L2
/-! such a set as a thing of the heap -/
structure SetB0 (P : Program) (w : World) (h : Heap) (a : Addr) (L : List (Addr × List Int)) : Prop where
  ex : ∃ (es : Array (Int × Value)) (ep : Nat) (t : SetTable), (∃ o, h.get? a = some o ∧ o.ExactSet ∧ o.data = .set es ep t) ∧ es.toList = rowsOf P w L ∧ TabB t (L.map fun p => thash P w p.2) ∧ (L.map (·.2)).Nodup ∧ t.plain = true ∧
    (w.params.followText "set-order" = true ∨ t.led = true) ∧ L.length * 5 < t.mask * 3 ∧ L.length < 300
def SetBO (P : Program) (w : World) (a : Addr) (L : List (Addr × List Int)) : HO := .ext fun h => SetB0 P w h a L
section
variable {P : Program} {w : World} {H : Hp} {h : Heap} {a : Addr} {L : List (Addr × List Int)} {es : Array (Int × Value)} {ep : Nat} {t : SetTable}
theorem SetBR.t0 (R : SetBR P w h a L es ep t) : SetB0 P w h a L := ⟨es, ep, t, R.ob, R.rows, R.tab, R.nd, R.plain, R.led, R.room, R.few⟩
theorem SetB0.full (R : SetB0 P w h a L) (ht : ∀ p ∈ L, IsT P w h p.2 p.1) : ∃ es ep t, SetBR P w h a L es ep t := by
  obtain ⟨es, ep, t, h1, h2, h3, h4, h5, h6, h7, h8⟩ := R.ex
  exact ⟨es, ep, t, h1, h2, h3, h4, ht, h5, h6, h7, h8⟩
theorem setBO_new (R : SetB0 P w h a L) : ObjOk P w H h a (SetBO P w a L) := by
  obtain ⟨es, ep, t, ⟨o, ho, r⟩, q⟩ := id R.ex
  refine ⟨R, ⟨o, ho⟩, fun h1 h2 p k => ?_⟩
  obtain ⟨es2, ep2, t2, ⟨o2, ho2, r2⟩, q2⟩ := SetB0.ex p
  exact ⟨es2, ep2, t2, ⟨o2, k o2 ho2, r2⟩, q2⟩
theorem setB_fresh (ho : h.get? a = some { cls := .type "set", dict := none, data := .set #[] 0 (.fresh 0 0 (!w.params.followText "set-order")) }) : SetB0 P w h a [] := by
  have R := setTR_fresh (P := P) ho
  exact ⟨_, _, _, R.ob, R.rows, .of R.tab, R.nd, R.plain, R.led, R.room, by decide⟩
end
end Fo
namespace Fo
open PySem PySem.Spec PyProof.Rows L2 PpSet
/-- what adding a tuple of ints to a set of such asks -/
def putT (P : Program) (w : World) (K : PySem.W.Frag) : Addr → V → Hp → (Hp → Prop) → Prop := fun D y G Nx => ∃ (b : Addr) (k : List Int) (L : List (Addr × List Int)), y = .ref b ∧ SqT K G b (k.map V.int) ∧ G D = some (SetBO P w D L) ∧ (∀ p ∈ L, SqT K G p.1 (p.2.map V.int)) ∧ L.length + 1 < 300 ∧
  ∀ L', (k ∈ L.map (·.2) → L' = L) → (k ∉ L.map (·.2) → L'.Perm ((b, k) :: L)) → Nx (upd G D (SetBO P w D L'))
theorem freshT (P : Program) (w : World) : FreshS P w (fun a => SetBO P w a []) := fun H h => setBO_new (setB_fresh (Heap.get?_push_size _ rfl))
theorem addT {P : Program} {w : World} {K : PySem.W.Frag} {A : Around} (hu : A.units + 64 < cLine) : AddS P w K A (putT P w K) := by
  rintro Y rfl rfl rfl rfl ps s σ G D y v Nx I rv ⟨b, k, L, rfl, hb, hD, hL, few, nx⟩
  cases (show v = Value.ref b from rv)
  have R0 : SetB0 Y.prog Y.w s.heap D L := (I.hok D _ hD).1
  obtain ⟨es, ep, t, R⟩ := R0.full fun p hp => I.isT (hL p hp)
  have hx := I.isT hb
  obtain ⟨o, ho, hex, _⟩ := R.ob
  refine wpAny_call_entry PySem.F.slot_set_add ⟨_, ho, hex.1⟩ PySem.F.entry_set_add ?_ (PySem.F.args_set_add_2 _ _)
  simp only [Builtin.«set.add», Builtin.Frozenset.oneOther, Builtin.Frozenset.addrOf, setAdd, List.isEmpty_nil, bind_assoc]
  have hu1 : Y.A.in1.units < cLine := by
    have : Y.A.in1.units ≤ Y.A.units + 63 := by
      rw [Around.in1_units]
      omega
    omega
  refine wpAny_bind (wpAny_pure (wpAny_bind (wpAny_pure (wpAny_bind (wpAny_holding (wpAny_bind (wpAny_pyHash_tuple hu1 hx ?_)))))))
  refine SetBR.add (s := { s with toks := s.toks + (k.length + 1) }) R hx hu1 few fun _ h' L' es' ep' t' sb R' c1 c2 => ?_
  have ex : ∃ u, h'.get? D = some u := by
    obtain ⟨u, hu', _⟩ := R'.ob
    exact ⟨u, hu'⟩
  refine wpAny_pure ⟨_, rfl, _, ?_, nx L' c1 c2⟩
  exact I.write (e := D) (t' := s.toks + (k.length + 1)) (by rw [hD]; trivial) (.inl rfl) (fun c u hc hu' => (sb.2 c hc).trans hu') ex (setBO_new R'.t0)
/-- len(s), s a set of tuples of ints -/
def rLenST (P : Program) (w : World) (K : PySem.W.Frag) : List V → Hp → VK → Prop := fun xs H Q => ∃ (p : Addr) (L : List (Addr × List Int)), xs = [.ref p] ∧ H p = some (SetBO P w p L) ∧ (∀ p ∈ L, SqT K H p.1 (p.2.map V.int)) ∧ Q (.int ((L.length : Nat) : Int)) H
theorem call_lenST {X : Cx} : CallR X (.builtin "len") (rLenST X.prog X.w X.K) := by
  intro ps s σ H xs us Q I r h
  obtain ⟨p, L, rfl, hp, hL, q⟩ := h
  rw [Vals.ref1 r]
  have R0 : SetB0 X.prog X.w s.heap p L := (I.hok p _ hp).1
  obtain ⟨es, ep, t, R⟩ := R0.full fun p hp => I.isT (hL p hp)
  obtain ⟨o, ho, hex, hd⟩ := R.ob
  have few := R.few
  have sz := R.size
  refine call_len_set ho hex hd R.fits (by rw [sz]; omega) ?_
  rw [sz]
  exact ⟨.int ((L.length : Nat) : Int), H, I.tok _, ⟨_, rfl⟩, q⟩
abbrev rTupOf (K : PySem.W.Frag) : List V → Hp → VK → Prop := fun xs H Q => ∃ p ys, xs = [.ref p] ∧ ((SqL K H p ys ∧ ∀ l, H l = none → Q (.ref l) (upd H l (.tup ys))) ∨ (SqT K H p ys ∧ Q (.ref p) H))
/-- a set comprehension of tuples over a list that stands still -/
theorem scT_list {P : Program} {w : World} {K : PySem.W.Frag} {a : Addr} {xs : List V} {g : TG} {tt : TT} {te : TE} {vs : List Nat} {σ : L2.St} {H1 : Hp} {D : Addr} {Qd : Hp → Prop} (Pv : Nat → Hp → Prop) (h0 : Pv 0 (upd H1 D (SetBO P w D [])))
    (hl : ∀ i G, i ≤ xs.length → Pv i G → SqL K G a xs)
    (hs : ∀ i x G, xs[i]? = some x → Pv i G → g x (wipe σ vs) G fun σ2 H2 => wipe σ2 vs = wipe σ vs ∧ tt σ2 H2 fun b H3 => if b = true then te σ2 H3 fun y H4 => putT P w K D y H4 (Pv (i + 1)) else Pv (i + 1) H3)
    (hd : ∀ G, Pv xs.length G → Qd G) :
    ∃ W : Nat → Nat → Hp → Prop, (∃ m, W 0 m (upd H1 D (SetBO P w D []))) ∧ ∀ i m G, W i m G → ((Itl K a).stop i G ∧ Qd G) ∨ ((Itl K a).go i G ∧ ∃ Nx : Hp → Prop, (∀ G', Nx G' → ∃ m', m' < m ∧ W (i + 1) m' G') ∧
      ∀ x G', (Itl K a).yld i G x G' → g x (wipe σ vs) G' fun σ2 H2 => wipe σ2 vs = wipe σ vs ∧ tt σ2 H2 fun b H3 => if b = true then te σ2 H3 fun y H4 => putT P w K D y H4 Nx else Nx H3) := by
  refine ⟨fun i m G => m = xs.length - i ∧ i ≤ xs.length ∧ Pv i G, ⟨xs.length, rfl, Nat.zero_le _, h0⟩, ?_⟩
  rintro i m G ⟨rfl, hi, p⟩
  have q := hl i G hi p
  by_cases c : i < xs.length
  · refine .inr ⟨⟨_, _, q, List.getElem?_eq_getElem c⟩, Pv (i + 1), fun G' p' => ⟨xs.length - (i + 1), by omega, rfl, c, p'⟩, fun x G' y => ?_⟩
    obtain ⟨rfl, z⟩ := y
    exact hs i x _ (z _ q) p
  · have e : i = xs.length := by omega
    subst e
    exact .inl ⟨⟨_, q, Nat.le_refl _⟩, hd G p⟩
end Fo
namespace Fo
open PySem PySem.Spec PyProof.Rows L2
/-! ### turned pairs, one after the other -/
def invR : List Int → Nat
  | [] => 0
  | x :: r => (r.filter (fun z => decide (z < x))).length + invR r
theorem rg_cons (n : Nat) : rg (n + 1) = 0 :: (rg n).map (· + 1) := by
  unfold rg
  rw [List.range_succ_eq_map, List.map_cons, List.map_map, List.map_map]
  rfl
theorem inv_NR : ∀ s : List Int, invN s = invR s
  | [] => rfl
  | x :: r => by
    have ih := inv_NR r
    unfold invN at ih ⊢
    rw [List.length_cons, rg_cons, sumN_cons, sumN_map]
    show cntL (x :: r) (0 : Int).toNat + _ = (r.filter (fun z => decide (z < x))).length + invR r
    rw [← ih]
    have e1 : cntL (x :: r) (0 : Int).toNat = (r.filter (fun z => decide (z < x))).length := rfl
    rw [e1]
    congr 1
    apply sumN_congr
    intro i hi
    have hb := rg_mem.mp hi
    obtain ⟨j, rfl⟩ : ∃ j : Nat, i = (j : Int) := ⟨i.toNat, by omega⟩
    rw [show ((j : Int) + 1).toNat = j + 1 by omega, Int.toNat_natCast]
    unfold cntL
    have e2 : g0 (x :: r) ((j + 1 : Nat) : Int) = g0 r (j : Int) := by
      unfold g0
      rw [Int.toNat_natCast, Int.toNat_natCast]
      rfl
    rw [e2]
    rfl
theorem filt_perm {a b : List Int} (h : a.Perm b) (p : Int → Bool) : (a.filter p).length = (b.filter p).length := (h.filter p).length_eq
theorem invR_at : ∀ (A : List Int) (a b : Int) (B : List Int), b < a → invR (A ++ a :: b :: B) = invR (A ++ b :: a :: B) + 1
  | [], a, b, B, h => by
    show ((b :: B).filter (fun z => decide (z < a))).length + ((B.filter (fun z => decide (z < b))).length + invR B) = ((a :: B).filter (fun z => decide (z < b))).length + ((B.filter (fun z => decide (z < a))).length + invR B) + 1
    rw [List.filter_cons, List.filter_cons, decide_eq_true h, decide_eq_false (show ¬ a < b by omega), if_pos rfl, if_neg (by decide), List.length_cons]
    omega
  | x :: A, a, b, B, h => by
    have ih := invR_at A a b B h
    show ((A ++ a :: b :: B).filter (fun z => decide (z < x))).length + invR (A ++ a :: b :: B) = ((A ++ b :: a :: B).filter (fun z => decide (z < x))).length + invR (A ++ b :: a :: B) + 1
    rw [ih, filt_perm (List.Perm.append_left A (List.Perm.swap b a B))]
    omega
theorem invR_sw {s : List Int} {p : Nat} {a b : Int} (ha : s[p]? = some a) (hb : s[p + 1]? = some b) (h : b < a) : invR s = invR (sw s p) + 1 := by
  have hl := (List.getElem?_eq_some_iff.mp hb).1
  obtain ⟨A, x, y, B, rfl, rfl⟩ := split2 hl
  have ex : x = a := by
    rw [List.getElem?_append_right (Nat.le_refl _), Nat.sub_self] at ha
    exact Option.some.inj ha
  have ey : y = b := by
    rw [List.getElem?_append_right (by omega), show A.length + 1 - A.length = 1 by omega] at hb
    exact Option.some.inj hb
  subst ex ey
  rw [sw_at, invR_at A x y B h]
def firstDesc : List Int → Option Nat
  | [] => none
  | [_] => none
  | x :: y :: r => if y < x then some 0 else (firstDesc (y :: r)).map (· + 1)
theorem fd_cons (x y : Int) (r : List Int) : firstDesc (x :: y :: r) = if y < x then some 0 else (firstDesc (y :: r)).map (· + 1) := by rw [firstDesc]
theorem fd_some : ∀ {s : List Int} {p : Nat} {a b : Int}, (∀ (j : Nat) (u v : Int), j < p → s[j]? = some u → s[j + 1]? = some v → u ≤ v) → s[p]? = some a → s[p + 1]? = some b → b < a → firstDesc s = some p
  | [], p, a, b, _, ha, _, _ => by simp at ha
  | [_], p, a, b, _, _, hb, _ => by simp at hb
  | x :: y :: r, 0, a, b, _, ha, hb, h => by
    have e1 : x = a := Option.some.inj ha
    have e2 : y = b := Option.some.inj hb
    rw [fd_cons, if_pos (by omega)]
  | x :: y :: r, p + 1, a, b, hl, ha, hb, h => by
    have h0 : x ≤ y := hl 0 x y (by omega) rfl rfl
    have ih := fd_some (s := y :: r) (p := p) (a := a) (b := b) (fun j u v hj hu hv => hl (j + 1) u v (by omega) hu hv) ha hb h
    rw [fd_cons, if_neg (by omega), ih]
    rfl
theorem fd_none : ∀ {s : List Int}, (∀ (j : Nat) (u v : Int), s[j]? = some u → s[j + 1]? = some v → u ≤ v) → firstDesc s = none
  | [], _ => rfl
  | [_], _ => rfl
  | x :: y :: r, hl => by
    have h0 : x ≤ y := hl 0 x y rfl rfl
    have ih := fd_none (s := y :: r) (fun j u v hu hv => hl (j + 1) u v hu hv)
    rw [fd_cons, if_neg (by omega), ih]
    rfl
theorem fd_at : ∀ {s : List Int} {p : Nat}, firstDesc s = some p → ∃ a b, s[p]? = some a ∧ s[p + 1]? = some b ∧ b < a ∧ ∀ (j : Nat) (u v : Int), j < p → s[j]? = some u → s[j + 1]? = some v → u ≤ v
  | [], p, h => by cases h
  | [_], p, h => by cases h
  | x :: y :: r, p, h => by
    rw [fd_cons] at h
    by_cases c : y < x
    · rw [if_pos c] at h
      cases h
      exact ⟨x, y, rfl, rfl, c, fun j u v hj => absurd hj (Nat.not_lt_zero _)⟩
    · rw [if_neg c] at h
      cases e : firstDesc (y :: r) with
      | none => rw [e] at h; cases h
      | some q =>
        rw [e] at h
        have ep : q + 1 = p := Option.some.inj h
        subst ep
        obtain ⟨a, b, ha, hb, hlt, hl⟩ := fd_at e
        refine ⟨a, b, ha, hb, hlt, fun j u v hj hu hv => ?_⟩
        cases j with
        | zero =>
          have e1 : x = u := Option.some.inj hu
          have e2 : y = v := Option.some.inj hv
          omega
        | succ j => exact hl j u v (by omega) hu hv
theorem fd_sorted : ∀ {s : List Int}, firstDesc s = none → s.Pairwise (· ≤ ·)
  | [], _ => List.Pairwise.nil
  | [_], _ => List.pairwise_singleton _ _
  | x :: y :: r, h => by
    rw [fd_cons] at h
    by_cases c : y < x
    · rw [if_pos c] at h; cases h
    · rw [if_neg c] at h
      have e : firstDesc (y :: r) = none := by
        cases e : firstDesc (y :: r) with
        | none => rfl
        | some q => rw [e] at h; cases h
      have ih := fd_sorted e
      refine List.Pairwise.cons (fun z hz => ?_) ih
      rcases List.mem_cons.mp hz with rfl | hz
      · omega
      · have := (List.pairwise_cons.mp ih).1 z hz
        omega
theorem invR_sorted : ∀ {s : List Int}, s.Pairwise (· ≤ ·) → invR s = 0
  | [], _ => rfl
  | x :: r, h => by
    obtain ⟨h1, h2⟩ := List.pairwise_cons.mp h
    show (r.filter (fun z => decide (z < x))).length + invR r = 0
    rw [invR_sorted h2, List.filter_eq_nil_iff.mpr (fun z hz => by
      have := h1 z hz
      simp
      omega)]
    rfl
theorem fd_pos {s : List Int} (h : 0 < invR s) : ∃ p, firstDesc s = some p := by
  cases e : firstDesc s with
  | none => rw [invR_sorted (fd_sorted e)] at h; omega
  | some p => exact ⟨p, rfl⟩
/-- the first of the shortest walks, of at most m places -/
def gw : Nat → List Int → List Int
  | 0, _ => []
  | m + 1, s => match firstDesc s with
    | none => []
    | some p => (p : Int) :: gw m (sw s p)
abbrev walkL (s : List Int) : List Int := gw (invR s) s
theorem walk_none {s : List Int} (h : firstDesc s = none) : walkL s = [] := by
  unfold walkL
  rw [invR_sorted (fd_sorted h)]
  rfl
theorem walk_some {s : List Int} {p : Nat} (h : firstDesc s = some p) : walkL s = (p : Int) :: walkL (sw s p) := by
  obtain ⟨a, b, ha, hb, hlt, _⟩ := fd_at h
  unfold walkL
  rw [invR_sw ha hb hlt, gw, h]
theorem walk_len : ∀ (m : Nat) (s : List Int), invR s = m → (walkL s).length = m
  | 0, s, h => by
    unfold walkL
    rw [h]
    rfl
  | m + 1, s, h => by
    obtain ⟨p, hp⟩ := fd_pos (s := s) (by omega)
    obtain ⟨a, b, ha, hb, hlt, _⟩ := fd_at hp
    rw [walk_some hp, List.length_cons, walk_len m (sw s p) (by have := invR_sw ha hb hlt; omega)]
theorem invR_len (s : List Int) : invR s ≤ s.length * s.length := by
  induction s with
  | nil => exact Nat.le_refl _
  | cons x r ih =>
    show (r.filter _).length + invR r ≤ (r.length + 1) * (r.length + 1)
    have h1 : (r.filter (fun z => decide (z < x))).length ≤ r.length := List.length_filter_le _ _
    have h2 : (r.length + 1) * (r.length + 1) = r.length * r.length + r.length + r.length + 1 := by
      rw [Nat.add_mul, Nat.mul_add]
      omega
    omega
theorem seats_sw {xs ys : List Int} {p : Nat} (h : p + 1 < xs.length) : seatsL (sw xs p) ys = sw (seatsL xs ys) p := by
  obtain ⟨A, a, b, B, rfl, rfl⟩ := split2 h
  rw [sw_at]
  unfold seatsL
  rw [List.map_append, List.map_cons, List.map_cons, List.map_append, List.map_cons, List.map_cons]
  have e := sw_at (A.map (pos ys)) (pos ys a) (pos ys b) (B.map (pos ys))
  rw [List.length_map] at e
  exact e.symm
theorem cut_sw {xs : List Int} {p : Nat} {a b : Int} (ha : xs[p]? = some a) (hb : xs[p + 1]? = some b) : xs.take p ++ [b, a] ++ xs.drop (p + 2) = sw xs p := by
  have hl := (List.getElem?_eq_some_iff.mp hb).1
  obtain ⟨A, x, y, B, rfl, rfl⟩ := split2 hl
  have ex : x = a := by
    rw [List.getElem?_append_right (Nat.le_refl _), Nat.sub_self] at ha
    exact Option.some.inj ha
  have ey : y = b := by
    rw [List.getElem?_append_right (by omega), show A.length + 1 - A.length = 1 by omega] at hb
    exact Option.some.inj hb
  subst ex ey
  rw [sw_at, List.take_left, List.drop_append, List.drop_of_length_le (by omega), show A.length + 2 - A.length = 2 by omega]
  simp
theorem filt_map (l : List Int) (f : Int → Int) (p : Int → Bool) : ((l.map f).filter p).length = (l.filter (fun x => p (f x))).length := by
  rw [List.filter_map, List.length_map]
  rfl
end Fo
namespace Fo
open PySem PySem.Spec PyProof.Rows L2
theorem pos_ord {n : Nat} {xs : List Int} (o : IsOrd n xs) : IsOrd n ((rg n).map (pos xs)) := by
  have h : ((rg n).map (pos xs)).Perm (seatsL xs xs) := List.Perm.map _ o.symm
  rw [seats_self o] at h
  exact h
theorem pos_in {n : Nat} {xs : List Int} (o : IsOrd n xs) {t : Int} (h : t ∈ rg n) : pos xs t ∈ rg n := by
  have := (pos_ord o).mem (List.mem_map.mpr ⟨t, h, rfl⟩)
  exact rg_mem.mpr this
theorem pos_inj {n : Nat} {xs : List Int} (o : IsOrd n xs) {t u : Int} (ht : t ∈ rg n) (hu : u ∈ rg n) (e : pos xs t = pos xs u) : t = u := by
  have h1 := rg_mem.mp ht
  have h2 := rg_mem.mp hu
  obtain ⟨i, _, ei, pi⟩ := pos_at o h1.1 h1.2
  obtain ⟨j, _, ej, pj⟩ := pos_at o h2.1 h2.2
  have : i = j := by omega
  subst this
  exact Option.some.inj (ei.symm.trans ej)
/-- a sum over the places is a sum over the things -/
theorem sum_pos {n : Nat} {xs : List Int} (o : IsOrd n xs) (f : Int → Nat) : sumN (rg n) f = sumN (rg n) fun t => f (pos xs t) := by
  have e : sumN ((rg n).map (pos xs)) f = sumN (rg n) fun t => f (pos xs t) := sumN_map _ _ _
  rw [← e]
  exact (sumN_perm (pos_ord o) f).symm
theorem sum_g0 {n : Nat} {xs : List Int} (o : IsOrd n xs) (f : Int → Nat) : sumN (rg n) f = sumN (rg n) fun p => f (g0 xs p) := by
  have e : sumN ((rg n).map (g0 xs)) f = sumN (rg n) fun t => f (g0 xs t) := sumN_map _ _ _
  rw [← e, ← g0_ord o]
  exact (sumN_perm o f).symm
theorem g0_pos {n : Nat} {xs : List Int} (o : IsOrd n xs) {t : Int} (h : t ∈ rg n) : g0 xs (pos xs t) = t := by
  have h1 := rg_mem.mp h
  obtain ⟨j, _, ej, pj⟩ := pos_at o h1.1 h1.2
  rw [pj]
  exact g0_at ej
theorem pos_g0 {n : Nat} {xs : List Int} (o : IsOrd n xs) {p : Int} (h : p ∈ rg n) : pos xs (g0 xs p) = p := by
  have h1 := rg_mem.mp h
  obtain ⟨x, hx, _⟩ := ord_ix o (j := p.toNat) (by omega)
  have e := g0_at hx
  rw [Int.toNat_of_nonneg h1.1] at e
  rw [e, pos_of o hx]
  omega
theorem g0_in {n : Nat} {xs : List Int} (o : IsOrd n xs) {p : Int} (h : p ∈ rg n) : g0 xs p ∈ rg n := by
  have h1 := rg_mem.mp h
  obtain ⟨x, hx, x0, x1⟩ := ord_ix o (j := p.toNat) (by omega)
  have e := g0_at hx
  rw [Int.toNat_of_nonneg h1.1] at e
  rw [e]
  exact rg_mem.mpr ⟨x0, x1⟩
end Fo
namespace Fo
open PySem PySem.Spec PyProof.Rows L2
/-! ### how far, by things -/
theorem sumN_le {l : List Int} {f g : Int → Nat} (h : ∀ x ∈ l, f x ≤ g x) : sumN l f ≤ sumN l g := by
  induction l with
  | nil => exact Nat.le_refl _
  | cons a l ih =>
    rw [sumN_cons, sumN_cons]
    have h1 := h a List.mem_cons_self
    have h2 := ih fun x hx => h x (List.mem_cons_of_mem _ hx)
    omega
theorem sumN_one {l : List Int} {f : Int → Nat} {x : Int} (h : x ∈ l) : f x ≤ sumN l f := by
  induction l with
  | nil => exact absurd h List.not_mem_nil
  | cons a l ih =>
    rw [sumN_cons]
    rcases List.mem_cons.mp h with rfl | h
    · omega
    · have := ih h
      omega
theorem ind_le {a : Bool} {n : Nat} (h : a = true → 1 ≤ n) : ind a ≤ n := by
  unfold ind
  cases a
  · exact Nat.zero_le _
  · exact h rfl
theorem ind_true {a : Bool} (h : a = true) : ind a = 1 := by rw [h]; rfl
theorem g0_seats {n : Nat} {xs ys : List Int} (o : IsOrd n xs) {p : Int} (h : p ∈ rg n) : g0 (seatsL xs ys) p = pos ys (g0 xs p) := by
  have h1 := rg_mem.mp h
  obtain ⟨x, hx, _⟩ := ord_ix o (j := p.toNat) (by omega)
  have e := g0_at hx
  have e2 := g0_at (seats_at (ys := ys) hx)
  rw [Int.toNat_of_nonneg h1.1] at e e2
  rw [e, e2]
def dT (xs ys : List Int) (t u : Int) : Nat := ind (decide (pos xs t < pos xs u) && decide (pos ys u < pos ys t))
def swT (n : Nat) (xs ys : List Int) : Nat := sumN (rg n) fun t => sumN (rg n) fun u => dT xs ys t u
def spT (n : Nat) (xs ys : List Int) : Nat := sumN (rg n) fun t => ind (!decide (pos xs t = pos ys t))
def shL (n : Nat) (xs ys : List Int) : List Int := (rg n).map fun t => absI (pos xs t - pos ys t)
theorem swap_T {n : Nat} {xs ys : List Int} (ox : IsOrd n xs) (oy : IsOrd n ys) : farSwap xs ys = ((swT n xs ys : Nat) : Int) := by
  unfold farSwap
  rw [inv_eq, seats_len, ox.len]
  unfold invF swT
  congr 1
  rw [sum_pos ox]
  apply sumN_congr
  intro t ht
  rw [sum_pos ox]
  apply sumN_congr
  intro u hu
  unfold dT
  rw [g0_seats ox (pos_in ox ht), g0_seats ox (pos_in ox hu), g0_pos ox ht, g0_pos ox hu]
theorem spot_T {n : Nat} {xs ys : List Int} (ox : IsOrd n xs) (oy : IsOrd n ys) : farSpot xs ys = ((spT n xs ys : Nat) : Int) := by
  unfold farSpot spotL spT
  rw [filter_len, ox.len]
  congr 1
  rw [sum_g0 ox (fun t => ind (!decide (pos xs t = pos ys t)))]
  apply sumN_congr
  intro p hp
  rw [pos_g0 ox hp]
  by_cases c : g0 xs p = g0 ys p
  · rw [decide_eq_true c, c, pos_g0 oy hp, decide_eq_true rfl]
  · have d : ¬ (p = pos ys (g0 xs p)) := fun e => c (by
      have := g0_pos oy (g0_in ox hp)
      rw [← e] at this
      exact this.symm)
    rw [decide_eq_false c, decide_eq_false d]
theorem shift_mem {n : Nat} {xs ys : List Int} (ox : IsOrd n xs) : ∀ g, g ∈ gapsL xs ys ↔ g ∈ shL n xs ys := by
  intro g
  unfold gapsL shL
  rw [ox.len, List.mem_map, List.mem_map]
  constructor
  · rintro ⟨p, hp, rfl⟩
    exact ⟨g0 xs p, g0_in ox hp, by rw [pos_g0 ox hp, g0_seats ox hp]⟩
  · rintro ⟨t, ht, rfl⟩
    exact ⟨pos xs t, pos_in ox ht, by rw [g0_seats ox (pos_in ox ht), g0_pos ox ht]⟩
theorem shift_T {n : Nat} {xs ys : List Int} (ox : IsOrd n xs) (hn : 1 ≤ n) : (∃ t ∈ rg n, farShift xs ys = absI (pos xs t - pos ys t)) ∧ ∀ t ∈ rg n, absI (pos xs t - pos ys t) ≤ farShift xs ys := by
  obtain ⟨h1, h2⟩ := maxL_mem (gaps_nonneg xs ys) (by rw [gaps_len, ox.len]; exact hn)
  constructor
  · obtain ⟨t, ht, e⟩ := List.mem_map.mp ((shift_mem ox _).mp h1)
    exact ⟨t, ht, e.symm⟩
  · intro t ht
    exact h2 _ ((shift_mem ox _).mpr (List.mem_map.mpr ⟨t, ht, rfl⟩))
theorem shift_of {n : Nat} {xs ys : List Int} {m : Int} (ox : IsOrd n xs) (h : ∃ t ∈ rg n, m = absI (pos xs t - pos ys t)) (hle : ∀ t ∈ rg n, absI (pos xs t - pos ys t) ≤ m) : farShift xs ys = m := by
  obtain ⟨t, ht, e⟩ := h
  refine maxL_of (gaps_nonneg xs ys) ((shift_mem ox _).mpr (List.mem_map.mpr ⟨t, ht, e.symm⟩)) fun x hx => ?_
  obtain ⟨u, hu, rfl⟩ := List.mem_map.mp ((shift_mem ox _).mp hx)
  exact hle u hu
/-! ### alike just where 0 -/
theorem invR_zero : ∀ {s : List Int}, invR s = 0 → s.Pairwise (· ≤ ·)
  | [], _ => List.Pairwise.nil
  | x :: r, h => by
    have h' : (r.filter (fun z => decide (z < x))).length + invR r = 0 := h
    refine List.Pairwise.cons (fun z hz => ?_) (invR_zero (by omega))
    have e : r.filter (fun z => decide (z < x)) = [] := List.eq_nil_of_length_eq_zero (by omega)
    have := List.filter_eq_nil_iff.mp e z hz
    simp at this
    exact this
theorem same_of_pos {n : Nat} {xs ys : List Int} (ox : IsOrd n xs) (oy : IsOrd n ys) (h : ∀ p ∈ rg n, pos ys (g0 xs p) = p) : xs = ys := by
  rw [g0_ord ox, g0_ord oy]
  apply List.map_congr_left
  intro p hp
  have e := g0_pos oy (g0_in ox hp)
  rw [h p hp] at e
  exact e.symm
theorem farW_zero {w : Str} {n : Nat} {xs ys : List Int} (hw : IsWay w) (ox : IsOrd n xs) (oy : IsOrd n ys) (hn : 1 ≤ n) (h : farW w xs ys = 0) : xs = ys := by
  rcases hw with rfl | rfl | rfl
  · rw [farW_swap] at h
    unfold farSwap at h
    rw [inv_NR] at h
    have hs := invR_zero (s := seatsL xs ys) (by omega)
    have e := sorted_eq (seats_ord ox oy) hs (rg_sorted n)
    refine same_of_pos ox oy fun p hp => ?_
    rw [← g0_seats ox hp, e]
    have h1 := rg_mem.mp hp
    have z : (rg n)[p.toNat]? = some p := by
      unfold rg
      rw [List.getElem?_map, List.getElem?_range (by omega)]
      show some ((p.toNat : Nat) : Int) = some p
      rw [Int.toNat_of_nonneg h1.1]
    have z2 := g0_at z
    rw [Int.toNat_of_nonneg h1.1] at z2
    exact z2
  · rw [farW_spot] at h
    unfold farSpot spotL at h
    have e : ((rg xs.length).filter fun p => !decide (g0 xs p = g0 ys p)) = [] := List.eq_nil_of_length_eq_zero (by omega)
    rw [g0_ord ox, g0_ord oy]
    apply List.map_congr_left
    intro p hp
    have := List.filter_eq_nil_iff.mp e p (by rw [ox.len]; exact hp)
    simpa using this
  · rw [farW_shift] at h
    have h2 := (shift_T (ys := ys) ox hn).2
    rw [h] at h2
    refine same_of_pos ox oy fun p hp => ?_
    have := h2 _ (g0_in ox hp)
    rw [pos_g0 ox hp] at this
    unfold absI at this
    split at this <;> omega
/-! ### by a third one never shorter -/
theorem farW_third {w : Str} {n : Nat} {xs ys zs : List Int} (hw : IsWay w) (ox : IsOrd n xs) (oy : IsOrd n ys) (oz : IsOrd n zs) (hn : 1 ≤ n) : farW w xs ys ≤ farW w xs zs + farW w zs ys := by
  rcases hw with rfl | rfl | rfl
  · rw [farW_swap, farW_swap, farW_swap, swap_T ox oy, swap_T ox oz, swap_T oz oy]
    have : swT n xs ys ≤ swT n xs zs + swT n zs ys := by
      unfold swT
      rw [← sumN_add]
      apply sumN_le
      intro t ht
      rw [← sumN_add]
      apply sumN_le
      intro u hu
      unfold dT
      apply ind_le
      intro h
      rw [Bool.and_eq_true] at h
      have h1 := of_decide_eq_true h.1
      have h2 := of_decide_eq_true h.2
      by_cases c : pos zs u < pos zs t
      · rw [ind_true (by rw [decide_eq_true h1, decide_eq_true c]; rfl)]
        omega
      · have ne : pos zs t ≠ pos zs u := fun e => by
          have := pos_inj oz ht hu e
          subst this
          omega
        rw [ind_true (a := decide (pos zs t < pos zs u) && decide (pos ys u < pos ys t)) (by rw [decide_eq_true (show pos zs t < pos zs u by omega), decide_eq_true h2]; rfl)]
        omega
    omega
  · rw [farW_spot, farW_spot, farW_spot, spot_T ox oy, spot_T ox oz, spot_T oz oy]
    have : spT n xs ys ≤ spT n xs zs + spT n zs ys := by
      unfold spT
      rw [← sumN_add]
      apply sumN_le
      intro t _
      apply ind_le
      intro h
      by_cases c : pos xs t = pos zs t
      · have d : ¬ (pos zs t = pos ys t) := fun e => by
          rw [c, e] at h
          simp at h
        rw [ind_true (a := !decide (pos zs t = pos ys t)) (by rw [decide_eq_false d]; rfl)]
        omega
      · rw [ind_true (a := !decide (pos xs t = pos zs t)) (by rw [decide_eq_false c]; rfl)]
        omega
    omega
  · rw [farW_shift, farW_shift, farW_shift]
    obtain ⟨t, ht, e⟩ := (shift_T (ys := ys) ox hn).1
    have h1 := (shift_T (ys := zs) ox hn).2 t ht
    have h2 := (shift_T (ys := ys) oz hn).2 t ht
    rw [e]
    unfold absI at h1 h2 ⊢
    split at h1 <;> split at h2 <;> split <;> omega
/-! ### called otherwise, and from behind -/
/-- two pairs of orders whose things stand alike -/
theorem farW_called {w : Str} {n : Nat} {xs ys xs' ys' : List Int} {r : Int → Int} (hw : IsWay w) (ox : IsOrd n xs) (oy : IsOrd n ys) (ox' : IsOrd n xs') (oy' : IsOrd n ys') (hn : 1 ≤ n) (hr : IsOrd n ((rg n).map r)) (h1 : ∀ t ∈ rg n, pos xs' (r t) = pos xs t) (h2 : ∀ t ∈ rg n, pos ys' (r t) = pos ys t) : farW w xs' ys' = farW w xs ys := by
  have sr : ∀ f : Int → Nat, sumN (rg n) f = sumN (rg n) fun t => f (r t) := fun f => by
    have e : sumN ((rg n).map r) f = sumN (rg n) fun t => f (r t) := sumN_map _ _ _
    rw [← e]
    exact (sumN_perm hr f).symm
  have rin : ∀ t ∈ rg n, r t ∈ rg n := fun t ht => rg_mem.mpr (hr.mem (List.mem_map.mpr ⟨t, ht, rfl⟩))
  have ron : ∀ t' ∈ rg n, ∃ t ∈ rg n, r t = t' := fun t' ht' => List.mem_map.mp ((List.Perm.mem_iff hr).mpr ht')
  rcases hw with rfl | rfl | rfl
  · rw [farW_swap, farW_swap, swap_T ox' oy', swap_T ox oy]
    congr 1
    unfold swT
    rw [sr]
    apply sumN_congr
    intro t ht
    rw [sr]
    apply sumN_congr
    intro u hu
    unfold dT
    rw [h1 t ht, h1 u hu, h2 t ht, h2 u hu]
  · rw [farW_spot, farW_spot, spot_T ox' oy', spot_T ox oy]
    congr 1
    unfold spT
    rw [sr]
    apply sumN_congr
    intro t ht
    rw [h1 t ht, h2 t ht]
  · rw [farW_shift, farW_shift]
    obtain ⟨⟨t, ht, e⟩, hle⟩ := shift_T (ys := ys) ox hn
    refine shift_of ox' ⟨r t, rin t ht, by rw [h1 t ht, h2 t ht]; exact e⟩ fun t' ht' => ?_
    obtain ⟨u, hu, rfl⟩ := ron t' ht'
    rw [h1 u hu, h2 u hu]
    exact hle u hu
theorem behind_ord {n : Nat} {ns ms : List Int} (o1 : IsOrd n ns) (o2 : IsOrd n ms) : IsOrd n (behindL ns ms) := by
  have h : (behindL ns ms).Perm ((rg n).map (g0 ns)) := List.Perm.map _ o2
  rw [← g0_ord o1] at h
  exact h.trans o1
theorem behind_pos {n : Nat} {zs xs : List Int} (oz : IsOrd n zs) (ox : IsOrd n xs) : ∀ t ∈ rg n, pos (behindL zs xs) (g0 zs t) = pos xs t := by
  intro t ht
  have h1 := rg_mem.mp ht
  obtain ⟨j, _, ej, pj⟩ := pos_at ox h1.1 h1.2
  obtain ⟨z, hz, _⟩ := ord_ix oz (j := t.toNat) (by omega)
  have e := g0_at hz
  rw [Int.toNat_of_nonneg h1.1] at e
  rw [e, pj]
  exact pos_of (behind_ord oz ox) (behind_at ej hz)
theorem rev_pos {n : Nat} {xs : List Int} (ox : IsOrd n xs) : ∀ t ∈ rg n, pos xs.reverse t = (n : Int) - 1 - pos xs t := by
  intro t ht
  have h1 := rg_mem.mp ht
  obtain ⟨j, hj, ej, pj⟩ := pos_at ox h1.1 h1.2
  have hl := ox.len
  have er : xs.reverse[n - 1 - j]? = some t := by
    rw [List.getElem?_reverse (by omega), hl, show n - 1 - (n - 1 - j) = j by omega]
    exact ej
  rw [pj, pos_of (n := n) ((List.reverse_perm xs).trans ox) er]
  omega
theorem farW_rev {w : Str} {n : Nat} {xs ys : List Int} (hw : IsWay w) (ox : IsOrd n xs) (oy : IsOrd n ys) (hn : 1 ≤ n) : farW w xs.reverse ys.reverse = farW w xs ys := by
  have ox' : IsOrd n xs.reverse := (List.reverse_perm xs).trans ox
  have oy' : IsOrd n ys.reverse := (List.reverse_perm ys).trans oy
  rcases hw with rfl | rfl | rfl
  · rw [farW_swap, farW_swap, swap_T ox' oy', swap_T ox oy]
    congr 1
    unfold swT
    rw [sumN_swap]
    apply sumN_congr
    intro t ht
    apply sumN_congr
    intro u hu
    unfold dT
    rw [rev_pos ox u hu, rev_pos ox t ht, rev_pos oy u hu, rev_pos oy t ht]
    congr 1
    congr 1
    · by_cases c : pos xs t < pos xs u
      · rw [decide_eq_true c, decide_eq_true (by omega)]
      · rw [decide_eq_false c, decide_eq_false (by omega)]
    · by_cases c : pos ys u < pos ys t
      · rw [decide_eq_true c, decide_eq_true (by omega)]
      · rw [decide_eq_false c, decide_eq_false (by omega)]
  · rw [farW_spot, farW_spot, spot_T ox' oy', spot_T ox oy]
    congr 1
    unfold spT
    apply sumN_congr
    intro t ht
    rw [rev_pos ox t ht, rev_pos oy t ht]
    by_cases c : pos xs t = pos ys t
    · rw [decide_eq_true c, decide_eq_true (by omega)]
    · rw [decide_eq_false c, decide_eq_false (by omega)]
  · rw [farW_shift, farW_shift]
    have ea : ∀ t ∈ rg n, absI (pos xs.reverse t - pos ys.reverse t) = absI (pos xs t - pos ys t) := fun t ht => by
      rw [rev_pos ox t ht, rev_pos oy t ht]
      unfold absI
      split <;> split <;> omega
    obtain ⟨⟨t, ht, e⟩, hle⟩ := shift_T (ys := ys) ox hn
    exact shift_of ox' ⟨t, ht, by rw [ea t ht]; exact e⟩ fun u hu => by rw [ea u hu]; exact hle u hu
/-! ### how far at most -/
theorem invR_two (s : List Int) : 2 * invR s + s.length ≤ s.length * s.length := by
  induction s with
  | nil => exact Nat.le_refl _
  | cons x r ih =>
    show 2 * ((r.filter _).length + invR r) + (r.length + 1) ≤ (r.length + 1) * (r.length + 1)
    have h1 : (r.filter (fun z => decide (z < x))).length ≤ r.length := List.length_filter_le _ _
    have h2 : (r.length + 1) * (r.length + 1) = r.length * r.length + r.length + r.length + 1 := by
      rw [Nat.add_mul, Nat.mul_add]
      omega
    omega
theorem swap_most {n : Nat} {xs ys : List Int} (ox : IsOrd n xs) : 2 * farSwap xs ys ≤ (n : Int) * ((n : Int) - 1) := by
  unfold farSwap
  rw [inv_NR]
  have h := invR_two (seatsL xs ys)
  rw [seats_len, ox.len] at h
  have e : (n : Int) * ((n : Int) - 1) = ((n * n : Nat) : Int) - (n : Int) := by
    rw [Int.mul_sub, Int.mul_one, Int.natCast_mul]
  rw [e]
  omega
theorem spot_most {n : Nat} {xs ys : List Int} (ox : IsOrd n xs) : farSpot xs ys ≤ n := by
  unfold farSpot spotL
  rw [ox.len]
  have h := List.length_filter_le (fun p => !decide (g0 xs p = g0 ys p)) (rg n)
  rw [rg_len] at h
  omega
theorem spot_one {n : Nat} {xs ys : List Int} (ox : IsOrd n xs) (oy : IsOrd n ys) : farSpot xs ys ≠ 1 := by
  intro h
  unfold farSpot at h
  obtain ⟨p, hp⟩ := List.length_eq_one_iff.mp (show (spotL xs ys).length = 1 by omega)
  have mem : ∀ q, q ∈ spotL xs ys ↔ q ∈ rg n ∧ g0 xs q ≠ g0 ys q := fun q => by
    unfold spotL
    rw [List.mem_filter, ox.len]
    simp
  have hpm := (mem p).mp (by rw [hp]; exact List.mem_cons_self)
  have hq := pos_in oy (g0_in ox hpm.1)
  have e := g0_pos oy (g0_in ox hpm.1)
  have nq : pos ys (g0 xs p) ≠ p := fun z => hpm.2 (by rw [z] at e; exact e.symm)
  have same : g0 xs (pos ys (g0 xs p)) = g0 ys (pos ys (g0 xs p)) := by
    by_cases c : g0 xs (pos ys (g0 xs p)) = g0 ys (pos ys (g0 xs p))
    · exact c
    · have := (mem _).mpr ⟨hq, c⟩
      rw [hp] at this
      exact absurd (List.mem_singleton.mp this) nq
  rw [e] at same
  have e2 := pos_g0 ox hq
  rw [same, pos_g0 ox hpm.1] at e2
  exact nq e2.symm
theorem shift_most {n : Nat} {xs ys : List Int} (ox : IsOrd n xs) (oy : IsOrd n ys) (hn : 1 ≤ n) : farShift xs ys ≤ (n : Int) - 1 := by
  obtain ⟨t, ht, e⟩ := (shift_T (ys := ys) ox hn).1
  have h1 := rg_mem.mp (pos_in ox ht)
  have h2 := rg_mem.mp (pos_in oy ht)
  rw [e]
  unfold absI
  split <;> omega
theorem below_sum (n : Nat) : ∀ b : Nat, b ≤ n → sumN (rg n) (fun j => ind (decide (j < (b : Int)))) = b := by
  induction n with
  | zero => intro b hb; have : b = 0 := by omega
            subst this; rfl
  | succ n ih =>
    intro b hb
    rw [rg_succ, sumN_append, sumN_cons, sumN_nil]
    by_cases c : b = n + 1
    · subst c
      rw [sumN_congr (g := fun j => ind (decide (j < (n : Int)))) (fun j hj => by
        have := rg_mem.mp hj
        rw [decide_eq_true this.2, decide_eq_true (show j < ((n + 1 : Nat) : Int) by omega)]), ih n (Nat.le_refl _), ind_true (decide_eq_true (by omega))]
    · rw [ih b (by omega), decide_eq_false (show ¬ ((n : Int) < (b : Int)) by omega)]
      rfl
/-- so many others stand the other way round as a thing is shifted -/
theorem turned_most {n : Nat} {xs ys : List Int} (ox : IsOrd n xs) (oy : IsOrd n ys) {t : Int} (ht : t ∈ rg n) : pos ys t - pos xs t ≤ ((sumN (rg n) (fun u => dT xs ys t u) : Nat) : Int) := by
  have h1 := rg_mem.mp (pos_in ox ht)
  have h2 := rg_mem.mp (pos_in oy ht)
  have ea := below_sum n (pos xs t).toNat (by omega)
  have eb := below_sum n (pos ys t).toNat (by omega)
  rw [sum_pos ox] at ea
  rw [sum_pos oy] at eb
  rw [Int.toNat_of_nonneg h1.1] at ea
  rw [Int.toNat_of_nonneg h2.1] at eb
  have : sumN (rg n) (fun u => ind (decide (pos ys u < pos ys t))) ≤ sumN (rg n) (fun u => ind (decide (pos xs u < pos xs t))) + sumN (rg n) (fun u => dT xs ys t u) := by
    rw [← sumN_add]
    apply sumN_le
    intro u hu
    apply ind_le
    intro h
    have hlt := of_decide_eq_true h
    by_cases c : pos xs u < pos xs t
    · rw [ind_true (decide_eq_true c)]
      omega
    · have ne : pos xs t ≠ pos xs u := fun e => by
        have := pos_inj ox ht hu e
        subst this
        omega
      unfold dT
      rw [ind_true (a := decide (pos xs t < pos xs u) && decide (pos ys u < pos ys t)) (by rw [decide_eq_true (show pos xs t < pos xs u by omega), decide_eq_true hlt]; rfl)]
      omega
  omega
theorem dT_turn (xs ys : List Int) (t u : Int) : dT ys xs t u = dT xs ys u t := by
  unfold dT
  rw [Bool.and_comm]
theorem turned_abs {n : Nat} {xs ys : List Int} (ox : IsOrd n xs) (oy : IsOrd n ys) {t : Int} (ht : t ∈ rg n) : absI (pos xs t - pos ys t) ≤ ((sumN (rg n) (fun u => dT xs ys t u) : Nat) : Int) + ((sumN (rg n) (fun u => dT xs ys u t) : Nat) : Int) := by
  have h1 := turned_most ox oy ht
  have h2 := turned_most oy ox ht
  rw [sumN_congr (g := fun u => dT xs ys u t) (fun u _ => dT_turn xs ys t u)] at h2
  unfold absI
  split <;> omega
theorem shift_swap {n : Nat} {xs ys : List Int} (ox : IsOrd n xs) (oy : IsOrd n ys) (hn : 1 ≤ n) : farShift xs ys ≤ farSwap xs ys := by
  obtain ⟨t, ht, e⟩ := (shift_T (ys := ys) ox hn).1
  have h1 := turned_most ox oy ht
  have h2 := turned_most oy ox ht
  have b1 : sumN (rg n) (fun u => dT xs ys t u) ≤ swT n xs ys := sumN_one (f := fun t => sumN (rg n) fun u => dT xs ys t u) ht
  have b2 : sumN (rg n) (fun u => dT ys xs t u) ≤ swT n ys xs := sumN_one (f := fun t => sumN (rg n) fun u => dT ys xs t u) ht
  have e1 := swap_T ox oy
  have e2 := swap_T oy ox
  have e3 := farSwap_turn ox oy
  rw [e]
  unfold absI
  split <;> omega
theorem spot_swap {n : Nat} {xs ys : List Int} (ox : IsOrd n xs) (oy : IsOrd n ys) : farSpot xs ys ≤ 2 * farSwap xs ys := by
  rw [spot_T ox oy, swap_T ox oy]
  have : spT n xs ys ≤ swT n xs ys + swT n xs ys := by
    have e : swT n xs ys = sumN (rg n) fun t => sumN (rg n) fun u => dT xs ys u t := by
      unfold swT
      rw [sumN_swap]
    have e2 : swT n xs ys + swT n xs ys = sumN (rg n) fun t => sumN (rg n) (fun u => dT xs ys t u) + sumN (rg n) (fun u => dT xs ys u t) := by
      rw [sumN_add, ← e]
      rfl
    rw [e2]
    unfold spT
    apply sumN_le
    intro t ht
    apply ind_le
    intro h
    have ha := turned_abs ox oy ht
    have ne : ¬ (pos xs t = pos ys t) := fun z => by
      rw [z] at h
      simp at h
    unfold absI at ha
    split at ha <;> omega
  omega
/-! ### backs -/
theorem back_list {n : Nat} {ns ps : List Int} (o : IsOrd n ns) (h : IsBack ns ps) : ps = (rg n).map (pos ns) := by
  apply List.ext_getElem?
  intro t
  by_cases c : t < n
  · have e := back_pos o h (x := (t : Int)) (by omega) (by omega)
    rw [Int.toNat_natCast] at e
    rw [e]
    unfold rg
    rw [List.map_map, List.getElem?_map, List.getElem?_range c]
    rfl
  · rw [List.getElem?_eq_none (by rw [h.1, o.len]; omega), List.getElem?_eq_none (by rw [List.length_map, rg_len]; omega)]
theorem back_ord {n : Nat} {ns ps : List Int} (o : IsOrd n ns) (h : IsBack ns ps) : IsOrd n ps := by
  rw [back_list o h]
  exact pos_ord o
theorem back_g0 {n : Nat} {ns ps : List Int} (o : IsOrd n ns) (h : IsBack ns ps) : ∀ t ∈ rg n, g0 ps t = pos ns t := by
  intro t ht
  have h1 := rg_mem.mp ht
  have e := g0_at (back_pos o h h1.1 h1.2)
  rw [Int.toNat_of_nonneg h1.1] at e
  exact e
theorem back_back {n : Nat} {ns ps : List Int} (o : IsOrd n ns) (h : IsBack ns ps) : IsBack ps ns := by
  refine ⟨h.1.symm, fun j x hx => ?_⟩
  have hj := (List.getElem?_eq_some_iff.mp hx).1
  rw [h.1, o.len] at hj
  obtain ⟨i, hi, ei, pi⟩ := pos_at o (x := (j : Int)) (by omega) (by omega)
  have e := back_pos o h (x := (j : Int)) (by omega) (by omega)
  rw [Int.toNat_natCast, hx] at e
  have ex : x = (i : Int) := (Option.some.inj e).trans pi
  rw [ex, Int.toNat_natCast]
  exact ei
theorem spot_back {n : Nat} {xs ys ps qs : List Int} (ox : IsOrd n xs) (oy : IsOrd n ys) (hp : IsBack xs ps) (hq : IsBack ys qs) : farSpot ps qs = farSpot xs ys := by
  rw [spot_T ox oy]
  unfold farSpot spotL spT
  rw [filter_len, hp.1, ox.len]
  congr 1
  apply sumN_congr
  intro t ht
  rw [back_g0 ox hp t ht, back_g0 oy hq t ht]
theorem behind_back {n : Nat} {xs ps : List Int} (ox : IsOrd n xs) (hp : IsBack xs ps) : behindL xs ps = rg n := by
  rw [back_list ox hp]
  unfold behindL
  rw [List.map_map]
  have e : (rg n).map ((fun p => xs.getD p.toNat 0) ∘ pos xs) = (rg n).map (fun t => t) := List.map_congr_left fun t ht => g0_pos ox ht
  rw [e, List.map_id']
theorem behind_assoc {n : Nat} {xs ys zs : List Int} (ox : IsOrd n xs) (oy : IsOrd n ys) (oz : IsOrd n zs) : behindL (behindL xs ys) zs = behindL xs (behindL ys zs) := by
  apply List.ext_getElem?
  intro i
  by_cases c : i < n
  · obtain ⟨z, hz, z0, z1⟩ := ord_ix oz c
    obtain ⟨y, hy, y0, y1⟩ := ord_ix oy (j := z.toNat) (by omega)
    obtain ⟨x, hx, _⟩ := ord_ix ox (j := y.toNat) (by omega)
    rw [behind_at hz (behind_at hy hx), behind_at (behind_at hz hy) hx]
  · rw [List.getElem?_eq_none (by rw [behind_len, oz.len]; omega), List.getElem?_eq_none (by rw [behind_len, behind_len, oz.len]; omega)]
end Fo
namespace Fo
open PySem PySem.Spec PyProof.Rows L2
/-- those of rs that lie within r of xs -/
def thoseL (w : Str) (xs : List Int) (rs : List (List Int)) (r : Int) : List (List Int) := rs.filter fun o => decide (farW w xs o ≤ r)
/-- m is the least distance -/
def LeastF (w : Str) (xs : List Int) (rs : List (List Int)) (m : Int) : Prop := m ∈ rs.map (farW w xs) ∧ ∀ y ∈ rs.map (farW w xs), m ≤ y
def spNearest : Sp := fun vs H Q _ => ∃ (w : Str) (a l : Addr) (as : List Addr) (xs : List Int) (rs : List (List Int)) (n : Nat), vs = [.str w, .ref a, .ref l] ∧ IsWay w ∧ H a = some (.lst (xs.map V.int)) ∧ IsOrd n xs ∧ OL H l as rs n ∧ rs.Nodup ∧ 1 ≤ rs.length ∧ rs.length ≤ 120 ∧
  ∀ (t l' : Addr) (as' : List Addr) (m : Int) (H' : Hp), H t = none → H l' = none → (∀ a ∈ as', H a = none) → l' ∉ as' → LeastF w xs rs m → H' t = some (.tup [.int m, .ref l']) → OL H' l' as' (thoseL w xs rs m) n → Same H H' → Q (.ref t) H'
/-- what led_back tells -/
def LedAt (H' : Hp) (t : Addr) (fr : Addr → Prop) (ns : List (List Int)) : Prop :=
  (ns = [] ∧ H' t = some (.tup [.str "none"])) ∨ (∃ (o : List Int) (c : Addr), ns = [o] ∧ fr c ∧ H' t = some (.tup [.str "one", .ref c]) ∧ H' c = some (.lst (o.map V.int))) ∨
  ∃ (l' : Addr) (as' : List Addr), 2 ≤ ns.length ∧ fr l' ∧ (∀ a ∈ as', fr a) ∧ l' ∉ as' ∧ H' t = some (.tup [.str "several", .ref l']) ∧ H' l' = some (.lst (as'.map V.ref)) ∧ LL H' as' ns
def spLedBack : Sp := fun vs H Q _ => ∃ (w : Str) (a l : Addr) (as : List Addr) (xs : List Int) (rs : List (List Int)) (n : Nat) (e : Int), vs = [.str w, .ref a, .ref l, .int e] ∧ IsWay w ∧ H a = some (.lst (xs.map V.int)) ∧ IsOrd n xs ∧ OL H l as rs n ∧ rs.Nodup ∧ 1 ≤ rs.length ∧ rs.length ≤ 120 ∧ 0 ≤ e ∧
  ∀ (t : Addr) (H' : Hp), H t = none → LedAt H' t (fun b => H b = none) (thoseL w xs rs e) → Same H H' → Q (.ref t) H'
section
variable {P : Program} {w : World} {K : PySem.W.Frag} {mg : Str → Option Value} {base : Heap}
end
end Fo
namespace Fo
open PySem PySem.Spec PyProof.Rows L2 PpSet
section
variable {P : Program} {w : World} {K : PySem.W.Frag} {mg : Str → Option Value} {base : Heap}
theorem scUnl : FnScope ["thing", "order"] ["thing"] (defScope s_is_unlike_list) := ⟨rfl, rfl, rfl, by decide +kernel, rfl, by decide +kernel, by decide +kernel⟩
set_option maxHeartbeats 4000000 in
theorem ok_unl {f f1 : Addr} {fd d1 : FuncData} {k : Nat} (T : Df K mg "is_unlike_list" s_is_unlike_list ["thing"] f fd) (T_is_order_list : Df K mg "is_order_list" s_is_order_list ["thing"] f1 d1) (G_is_order_list : FnOk P w K mg base CX0 k f1 d1 ["thing"] spOLst) (B : Bi mg) : FnOk P w K mg base CX0 (k + 1) f fd ["thing"] spUnl := by
  refine T.F.ok scUnl (fun vs H Q E h => ?_) (fun cdv A outer s H vs Q E hr h => ?_)
  · obtain ⟨l, as, rs, n, rfl, _⟩ := h
    rfl
  · obtain ⟨l, as, rs, n, rfl, hO, nd, hlen, q⟩ := h
    have hal := hO.ll.len
    have hml : (as.map V.ref).length = as.length := List.length_map _
    refine ⟨_, 
      (pss_one (ps_ret (pe_and (pe_call G_is_order_list hr (by rfl) T_is_order_list.g T_is_order_list.F.kp T_is_order_list.b .nil pass0 (pa_cons (pv 0) pa_nil)) (pe_one (pe_cmpR op_eq (pe_callB call_lenST (by rfl) B.len PySem.boot_len (pa_cons (pe_scG (freshT _ _) (addT hr.units) (own := [("order", 1)]) (g := (gName 1)) (tt := tYes) (te := (tCB (rTupOf K) (tCons (tVar 1) tNil))) rfl scUnl.nd (pi_list (pv 0)) (blkOk_by (N := ["thing", "order"]) (sc := defScope s_is_unlike_list) (by decide +kernel)) (fun _ _ _ _ _ => (pg_name (i := 1) scUnl.nd rfl (.inl rfl))) (fun _ _ _ _ _ => pts_nil) (fun _ _ _ _ _ => (pe_callTy call_tuple_of (by rfl) B.tuple (by decide +kernel) (pa_cons (pv 1) pa_nil)))) pa_nil)) (pe_callB call_len_seq (by rfl) B.len PySem.boot_len (pa_cons (pv 0) pa_nil)) (nomark _)))))), ?_⟩
    refine ⟨_, rfl, l, as, rs, n, rfl, hO, by omega, fun H1 s1 => ⟨_, rfl, iteT ?_⟩⟩
    have hO1 := hO.same s1
    refine ⟨_, rfl, l, rfl, ⟨_, SqL.of hO1.top⟩, fun D nD => ?_⟩
    refine scT_list (K := K) (a := l) (xs := as.map V.ref) (fun i G => ∃ L : List (Addr × List Int), G D = some (SetBO P w D L) ∧ (∀ p ∈ L, G p.1 = some (.tup (p.2.map V.int)) ∧ p.1 ≠ D) ∧ L.length = i ∧ (∀ p ∈ L, p.2 ∈ rs.take i) ∧ Same H1 G)
      ⟨[], upd_same, fun p hp => absurd hp List.not_mem_nil, rfl, fun p hp => absurd hp List.not_mem_nil, same_new nD⟩ (fun i G _ hP => by obtain ⟨_, _, _, _, _, sm⟩ := hP; exact SqL.of (sm _ _ hO1.top)) (fun i x G hx hP => ?_) (fun G hP => ?_)
    · obtain ⟨a, ea, rfl⟩ := ref_at_inv hx
      obtain ⟨L, hD, hL, hLl, hin, sm⟩ := hP
      obtain ⟨r, er, ha⟩ := (hO1.ll.same sm).get ea
      have hi := (List.getElem?_eq_some_iff.mp er).1
      refine ⟨rfl, _, rfl, a, _, rfl, .inl ⟨SqL.of ha, fun c nc => ?_⟩⟩
      have s4 := same_new (o := .tup (r.map V.int)) nc
      have ncD : c ≠ D := (ne_of_none hD nc).symm
      refine ⟨c, r, L, rfl, SqT.of upd_same, s4 _ _ hD, fun p hp => SqT.of (s4 _ _ (hL p hp).1), by omega, fun L' h1 h2 => ?_⟩
      have hnot : r ∉ L.map (·.2) := fun hm => by
        obtain ⟨p, hp, e⟩ := List.mem_map.mp hm
        have h3 := hin p hp
        rw [e] at h3
        obtain ⟨j, hj⟩ := List.getElem?_of_mem h3
        have hj2 := (List.getElem?_eq_some_iff.mp hj).1
        rw [List.length_take] at hj2
        rw [List.getElem?_take_of_lt (by omega)] at hj
        have hj3 := (List.getElem?_eq_some_iff.mp hj).1
        have e1 := (List.getElem?_eq_some_iff.mp hj).2
        have e2 := (List.getElem?_eq_some_iff.mp er).2
        exact absurd (e1.trans e2.symm) (List.pairwise_iff_getElem.mp nd j i hj3 hi (by omega))
      have hp' := h2 hnot
      refine ⟨L', upd_same, fun p hp => ?_, by rw [hp'.length_eq, List.length_cons, hLl], fun p hp => ?_, fun b o e => ?_⟩
      · rcases List.mem_cons.mp (hp'.mem_iff.mp hp) with e | e
        · rw [e]
          exact ⟨by rw [upd_ne ncD]; exact upd_same, ncD⟩
        · obtain ⟨u1, u2⟩ := hL p e
          exact ⟨by rw [upd_ne u2]; exact s4 _ _ u1, u2⟩
      · rw [take_more' er]
        rcases List.mem_cons.mp (hp'.mem_iff.mp hp) with e | e
        · rw [e]
          exact List.mem_append_right _ List.mem_cons_self
        · exact List.mem_append_left _ (hin p e)
      · rw [upd_ne (ne_of_none e nD)]
        exact s4 _ _ (sm _ _ e)
    · obtain ⟨L, hD, hL, hLl, hin, sm⟩ := hP
      refine ⟨D, L, rfl, hD, fun p hp => SqT.of (hL p hp).1, _, rfl, l, _, rfl, .inl (SqL.of (sm _ _ hO1.top)), rfl, ?_⟩
      rw [hLl, decide_eq_true rfl]
      exact q _ (s1.trans sm)
end
end Fo
namespace Fo
open PySem PySem.Spec PyProof.Rows L2
/-! ### all orders of few things -/
def extO (n : Nat) (o : List Int) : List (List Int) := ((rg n).filter fun t => !decide (t ∈ o)).map fun t => o ++ [t]
def allK (n : Nat) : Nat → List (List Int)
  | 0 => [[]]
  | k + 1 => (allK n k).flatMap (extO n)
theorem allK_row {n : Nat} : ∀ (k : Nat) (r : List Int), r ∈ allK n k → r.length = k ∧ r.Nodup ∧ ∀ x ∈ r, x ∈ rg n
  | 0, r, h => by
    rw [List.mem_singleton.mp h]
    exact ⟨rfl, List.nodup_nil, fun x hx => absurd hx List.not_mem_nil⟩
  | k + 1, r, h => by
    obtain ⟨o, ho, hr⟩ := List.mem_flatMap.mp h
    obtain ⟨h1, h2, h3⟩ := allK_row k o ho
    obtain ⟨t, ht, rfl⟩ := List.mem_map.mp hr
    obtain ⟨ht1, ht2⟩ := List.mem_filter.mp ht
    have hto : t ∉ o := by simpa using ht2
    refine ⟨by rw [List.length_append, h1]; rfl, ?_, fun x hx => ?_⟩
    · rw [List.nodup_append]
      refine ⟨h2, List.nodup_cons.mpr ⟨List.not_mem_nil, List.nodup_nil⟩, fun x hx y hy e => ?_⟩
      rw [List.mem_singleton.mp hy] at e
      exact hto (by rw [← e]; exact hx)
    · rcases List.mem_append.mp hx with hx | hx
      · exact h3 x hx
      · rw [List.mem_singleton.mp hx]
        exact ht1
theorem extO_len (n : Nat) (o : List Int) : (extO n o).length ≤ n := by
  unfold extO
  rw [List.length_map]
  have := List.length_filter_le (fun t => !decide (t ∈ o)) (rg n)
  rw [rg_len] at this
  exact this
theorem flat_len (n : Nat) : ∀ l : List (List Int), (l.flatMap (extO n)).length ≤ l.length * n
  | [] => Nat.zero_le _
  | o :: l => by
    rw [List.flatMap_cons, List.length_append, List.length_cons, Nat.add_mul, Nat.one_mul]
    have := flat_len n l
    have := extO_len n o
    omega
theorem allK_len {n : Nat} (hn : n ≤ 6) : ∀ k, k ≤ n → (allK n k).length ≤ 6 ^ k
  | 0, _ => Nat.le_refl _
  | k + 1, hk => by
    have ih := allK_len hn k (by omega)
    have h1 : (allK n (k + 1)).length ≤ (allK n k).length * n := flat_len n (allK n k)
    have h2 : (allK n k).length * n ≤ 6 ^ k * 6 := Nat.mul_le_mul ih hn
    rw [Nat.pow_succ]
    omega
theorem pow6 {k : Nat} (h : k ≤ 6) : 6 ^ k ≤ 46656 := by
  have : 6 ^ k ≤ 6 ^ 6 := Nat.pow_le_pow_right (by decide) h
  exact this
theorem nodup_count : ∀ {l : List Int}, l.Nodup → ∀ a, l.count a = if a ∈ l then 1 else 0
  | [], _, a => by simp
  | b :: l, h, a => by
    obtain ⟨h1, h2⟩ := List.nodup_cons.mp h
    have ih := nodup_count h2 a
    rw [List.count_cons, ih]
    by_cases c : b = a
    · subst c
      simp [h1]
    · have c2 : ¬ a = b := fun e => c e.symm
      simp [c, c2]
theorem nodup_ord {n : Nat} {s : List Int} (hl : s.length = n) (hn : s.Nodup) (hb : ∀ x ∈ s, x ∈ rg n) : IsOrd n s := by
  unfold IsOrd
  rw [List.perm_iff_count]
  intro a
  rw [nodup_count hn, nodup_count (rg_nodup n)]
  by_cases c : a ∈ s
  · rw [if_pos c, if_pos (hb a c)]
  · rw [if_neg c]
    by_cases d : a ∈ rg n
    · exfalso
      have := nodup_len (l := a :: s) (m := rg n) (List.nodup_cons.mpr ⟨c, hn⟩) fun x hx => by
        rcases List.mem_cons.mp hx with rfl | hx
        · exact d
        · exact hb x hx
      rw [List.length_cons, rg_len] at this
      omega
    · rw [if_neg d]
theorem all_ord {n : Nat} {r : List Int} (h : r ∈ allK n n) : IsOrd n r := by
  obtain ⟨h1, h2, h3⟩ := allK_row n r h
  exact nodup_ord h1 h2 h3
theorem inV_int (t : Int) : ∀ row : List Int, inV (.int t) (row.map V.int) = decide (t ∈ row)
  | [] => rfl
  | a :: r => by
    have ih := inV_int t r
    unfold inV at ih ⊢
    rw [List.map_cons, List.any_cons, ih, eqV_int]
    by_cases c : a = t
    · subst c
      simp
    · have c2 : ¬ t = a := fun e => c e.symm
      simp [c, c2]
theorem ext_more {n : Nat} {o : List Int} (j : Nat) : ((rg (j + 1)).filter fun t => !decide (t ∈ o)).map (fun t => o ++ [t]) = (((rg j).filter fun t => !decide (t ∈ o)).map fun t => o ++ [t]) ++ (if (j : Int) ∈ o then [] else [o ++ [(j : Int)]]) := by
  rw [rg_succ, List.filter_append, List.map_append, List.filter_cons]
  congr 1
  by_cases c : (j : Int) ∈ o
  · rw [decide_eq_true c, if_pos c]
    rfl
  · rw [decide_eq_false c, if_neg c]
    rfl
/-! ### comprehensions with two fors: a list, then a range -/
theorem lc2_list {K : PySem.W.Frag} {a : Addr} {xs : List V} {g : TG} {tt : TT} {wi1 : TI} {g1 : TG} {tt1 : TT} {te : TE} {vs vs1 : List Nat} {σ : L2.St} {H1 : Hp} {D : Addr} {Qd : Hp → Prop} (Pv : Nat → Hp → Prop) (h0 : Pv 0 (upd H1 D (.lst []))) (hl : ∀ i H, i ≤ xs.length → Pv i H → SqL K H a xs)
    (hs : ∀ i x H, xs[i]? = some x → Pv i H → g x (wipe σ vs) H fun σ2 H2 => wipe σ2 vs = wipe σ vs ∧ tt σ2 H2 fun b H3 =>
      if b = true then wi1 σ2 H3 fun J1 H4 => ∃ W1 : Nat → Nat → Hp → Prop, (∃ m, W1 0 m H4) ∧ ∀ j k H, W1 j k H →
        (J1.stop j H ∧ Pv (i + 1) H) ∨ (J1.go j H ∧ ∃ Nx1 : Hp → Prop, (∀ H', Nx1 H' → ∃ k', k' < k ∧ W1 (j + 1) k' H') ∧ ∀ x H', J1.yld j H x H' → g1 x (wipe σ2 vs1) H' fun σ3 H5 => wipe σ3 vs1 = wipe σ2 vs1 ∧ tt1 σ3 H5 fun b H6 =>
          if b = true then te σ3 H6 fun y H7 => ∃ acc, H7 D = some (.lst acc) ∧ acc.length < sizeLine ∧ Nx1 (upd H7 D (.lst (acc ++ [y]))) else Nx1 H6)
      else Pv (i + 1) H3) (hd : ∀ H, Pv xs.length H → Qd H) :
    ∃ W : Nat → Nat → Hp → Prop, (∃ m, W 0 m (upd H1 D (.lst []))) ∧ ∀ i m H, W i m H →
      ((Itl K a).stop i H ∧ Qd H) ∨ ((Itl K a).go i H ∧ ∃ Nx : Hp → Prop, (∀ H', Nx H' → ∃ m', m' < m ∧ W (i + 1) m' H') ∧ ∀ x H', (Itl K a).yld i H x H' → g x (wipe σ vs) H' fun σ2 H2 => wipe σ2 vs = wipe σ vs ∧ tt σ2 H2 fun b H3 =>
        if b = true then wi1 σ2 H3 fun J1 H4 => ∃ W1 : Nat → Nat → Hp → Prop, (∃ m, W1 0 m H4) ∧ ∀ j k H, W1 j k H →
          (J1.stop j H ∧ Nx H) ∨ (J1.go j H ∧ ∃ Nx1 : Hp → Prop, (∀ H', Nx1 H' → ∃ k', k' < k ∧ W1 (j + 1) k' H') ∧ ∀ x H', J1.yld j H x H' → g1 x (wipe σ2 vs1) H' fun σ3 H5 => wipe σ3 vs1 = wipe σ2 vs1 ∧ tt1 σ3 H5 fun b H6 =>
            if b = true then te σ3 H6 fun y H7 => ∃ acc, H7 D = some (.lst acc) ∧ acc.length < sizeLine ∧ Nx1 (upd H7 D (.lst (acc ++ [y]))) else Nx1 H6)
        else Nx H3) := by
  refine ⟨fun i m H => m = xs.length - i ∧ i ≤ xs.length ∧ Pv i H, ⟨xs.length, by simp, Nat.zero_le _, h0⟩, ?_⟩
  rintro i m H ⟨rfl, hi, p⟩
  have q := hl i H hi p
  by_cases hlt : i < xs.length
  · refine .inr ⟨⟨xs, xs[i], q, by simp [hlt]⟩, Pv (i + 1), fun H' p' => ⟨xs.length - (i + 1), by omega, rfl, hlt, p'⟩, fun x H' y => ?_⟩
    obtain ⟨e, y⟩ := y
    subst e
    exact hs i x _ (y _ q) p
  · have e : i = xs.length := by omega
    subst e
    exact .inl ⟨⟨xs, q, Nat.le_refl _⟩, hd H p⟩
theorem in_range {lo : Int} {n : Nat} {g1 : TG} {tt1 : TT} {te : TE} {vs1 : List Nat} {σ2 : L2.St} {H4 : Hp} {D : Addr} {Nx : Hp → Prop} (Pw : Nat → Hp → Prop) (h0 : Pw 0 H4)
    (hs : ∀ j H, j < n → Pw j H → g1 (.int (lo + j)) (wipe σ2 vs1) H fun σ3 H5 => wipe σ3 vs1 = wipe σ2 vs1 ∧ tt1 σ3 H5 fun b H6 =>
      if b = true then te σ3 H6 fun y H7 => ∃ acc, H7 D = some (.lst acc) ∧ acc.length < sizeLine ∧ Pw (j + 1) (upd H7 D (.lst (acc ++ [y]))) else Pw (j + 1) H6) (hd : ∀ H, Pw n H → Nx H) :
    ∃ W1 : Nat → Nat → Hp → Prop, (∃ m, W1 0 m H4) ∧ ∀ j k H, W1 j k H →
      ((Itr lo n).stop j H ∧ Nx H) ∨ ((Itr lo n).go j H ∧ ∃ Nx1 : Hp → Prop, (∀ H', Nx1 H' → ∃ k', k' < k ∧ W1 (j + 1) k' H') ∧ ∀ x H', (Itr lo n).yld j H x H' → g1 x (wipe σ2 vs1) H' fun σ3 H5 => wipe σ3 vs1 = wipe σ2 vs1 ∧ tt1 σ3 H5 fun b H6 =>
        if b = true then te σ3 H6 fun y H7 => ∃ acc, H7 D = some (.lst acc) ∧ acc.length < sizeLine ∧ Nx1 (upd H7 D (.lst (acc ++ [y]))) else Nx1 H6) := by
  refine ⟨fun j m H => m = n - j ∧ j ≤ n ∧ Pw j H, ⟨n, by simp, Nat.zero_le _, h0⟩, ?_⟩
  rintro j m H ⟨rfl, hi, p⟩
  by_cases hlt : j < n
  · refine .inr ⟨hlt, Pw (j + 1), fun H' p' => ⟨n - (j + 1), by omega, rfl, hlt, p'⟩, fun x H' y => ?_⟩
    obtain ⟨e, y⟩ := y
    subst e y
    exact hs j _ hlt p
  · have e : j = n := by omega
    subst e
    exact .inl ⟨Nat.le_refl _, hd H p⟩
end Fo
namespace Fo
open PySem PySem.Spec PyProof.Rows L2
def nearL (w : Str) (n : Nat) (xs : List Int) (r : Int) : List (List Int) := (allK n n).filter fun o => decide (farW w xs o ≤ r)
theorem filter_moreL {l : List (List Int)} {m : Nat} {x : List Int} (p : List Int → Bool) (h : l[m]? = some x) : (l.take (m + 1)).filter p = (l.take m).filter p ++ (if p x then [x] else []) := by
  rw [List.take_add_one, h, List.filter_append]
  show _ ++ List.filter p [x] = _
  rw [List.filter_cons]
  rfl
theorem extend_LL {H : Hp} : ∀ {as bs : List Addr} {rs ss : List (List Int)}, LL H as rs → LL H bs ss → LL H (as ++ bs) (rs ++ ss)
  | [], _, [], _, _, h => h
  | [], _, _ :: _, _, h, _ => h.elim
  | _ :: _, _, [], _, h, _ => h.elim
  | _ :: _, _, _ :: _, _, h, h2 => ⟨h.1, extend_LL h.2 h2⟩
end Fo
namespace Fo
open PySem PySem.Spec PyProof.Rows L2
def spAllO : Sp := fun vs H Q _ => ∃ n : Nat, vs = [.int n] ∧ 1 ≤ n ∧ n ≤ 6 ∧ ∀ (l : Addr) (as : List Addr) (H' : Hp), H l = none → H' l = some (.lst (as.map V.ref)) → LL H' as (allK n n) → (∀ a ∈ as, H a = none ∧ a ≠ l) → as.Nodup → Same H H' → Q (.ref l) H'
end Fo
namespace Fo
open PySem PySem.Spec PyProof.Rows L2
/-- an inner for over a list that stands still -/
theorem in_list {K : PySem.W.Frag} {a : Addr} {xs : List V} {g1 : TG} {tt1 : TT} {te : TE} {vs1 : List Nat} {σ2 : L2.St} {H4 : Hp} {D : Addr} {Nx : Hp → Prop} (Pw : Nat → Hp → Prop) (h0 : Pw 0 H4) (hl : ∀ i H, i ≤ xs.length → Pw i H → SqL K H a xs)
    (hs : ∀ j x H, xs[j]? = some x → Pw j H → g1 x (wipe σ2 vs1) H fun σ3 H5 => wipe σ3 vs1 = wipe σ2 vs1 ∧ tt1 σ3 H5 fun b H6 =>
      if b = true then te σ3 H6 fun y H7 => ∃ acc, H7 D = some (.lst acc) ∧ acc.length < sizeLine ∧ Pw (j + 1) (upd H7 D (.lst (acc ++ [y]))) else Pw (j + 1) H6) (hd : ∀ H, Pw xs.length H → Nx H) :
    ∃ W1 : Nat → Nat → Hp → Prop, (∃ m, W1 0 m H4) ∧ ∀ j k H, W1 j k H →
      ((Itl K a).stop j H ∧ Nx H) ∨ ((Itl K a).go j H ∧ ∃ Nx1 : Hp → Prop, (∀ H', Nx1 H' → ∃ k', k' < k ∧ W1 (j + 1) k' H') ∧ ∀ x H', (Itl K a).yld j H x H' → g1 x (wipe σ2 vs1) H' fun σ3 H5 => wipe σ3 vs1 = wipe σ2 vs1 ∧ tt1 σ3 H5 fun b H6 =>
        if b = true then te σ3 H6 fun y H7 => ∃ acc, H7 D = some (.lst acc) ∧ acc.length < sizeLine ∧ Nx1 (upd H7 D (.lst (acc ++ [y]))) else Nx1 H6) := by
  refine ⟨fun j m H => m = xs.length - j ∧ j ≤ xs.length ∧ Pw j H, ⟨xs.length, by simp, Nat.zero_le _, h0⟩, ?_⟩
  rintro j m H ⟨rfl, hi, p⟩
  have q := hl j H hi p
  by_cases hlt : j < xs.length
  · refine .inr ⟨⟨xs, xs[j], q, by simp [hlt]⟩, Pw (j + 1), fun H' p' => ⟨xs.length - (j + 1), by omega, rfl, hlt, p'⟩, fun x H' y => ?_⟩
    obtain ⟨e, y⟩ := y
    subst e
    exact hs j x _ (y _ q) p
  · have e : j = xs.length := by omega
    subst e
    exact .inl ⟨⟨xs, q, Nat.le_refl _⟩, hd H p⟩
/-! ### orders with choices -/
def extC (ch : List Int) (o : List Int) : List (List Int) := (ch.filter fun t => !decide (t ∈ o)).map fun t => o ++ [t]
def ordW (chs : List (List Int)) : List (List Int) := chs.foldl (fun b ch => b.flatMap (extC ch)) [[]]
theorem ordW_more {chs : List (List Int)} {i : Nat} {ch : List Int} (h : chs[i]? = some ch) : ordW (chs.take (i + 1)) = (ordW (chs.take i)).flatMap (extC ch) := by
  unfold ordW
  rw [List.take_add_one, h, List.foldl_append]
  rfl
theorem extC_more {ch : List Int} {o : List Int} {j : Nat} {t : Int} (h : ch[j]? = some t) : extC (ch.take (j + 1)) o = extC (ch.take j) o ++ (if t ∈ o then [] else [o ++ [t]]) := by
  unfold extC
  rw [List.take_add_one, h, List.filter_append, List.map_append]
  congr 1
  show List.map _ (List.filter _ [t]) = _
  rw [List.filter_cons]
  by_cases c : t ∈ o
  · rw [decide_eq_true c, if_pos c]
    rfl
  · rw [decide_eq_false c, if_neg c]
    rfl
theorem extC_len (ch o : List Int) : (extC ch o).length ≤ ch.length := by
  unfold extC
  rw [List.length_map]
  exact List.length_filter_le _ _
theorem flatC_len (ch : List Int) : ∀ l : List (List Int), (l.flatMap (extC ch)).length ≤ l.length * ch.length
  | [] => Nat.zero_le _
  | o :: l => by
    rw [List.flatMap_cons, List.length_append, List.length_cons, Nat.add_mul, Nat.one_mul]
    have := flatC_len ch l
    have := extC_len ch o
    omega
theorem ordW_all (n : Nat) : ∀ i, ordW (List.replicate i (rg n)) = allK n i
  | 0 => rfl
  | i + 1 => by
    have h := ordW_more (chs := List.replicate (i + 1) (rg n)) (i := i) (ch := rg n) (by rw [List.getElem?_replicate, if_pos (by omega)])
    rw [List.take_of_length_le (by rw [List.length_replicate]; omega), List.take_replicate, Nat.min_eq_left (by omega), ordW_all n i] at h
    exact h
theorem ordW_rows : ∀ (i : Nat) (chs : List (List Int)), ∀ r ∈ ordW (chs.take i), r.length ≤ i
  | 0, chs, r, h => by
    rw [List.take_zero] at h
    rw [List.mem_singleton.mp h]
    exact Nat.le_refl _
  | i + 1, chs, r, h => by
    cases e : chs[i]? with
    | none =>
      have : chs.take (i + 1) = chs.take i := by rw [List.take_add_one, e]; simp
      rw [this] at h
      exact Nat.le_succ_of_le (ordW_rows i chs r h)
    | some ch =>
      rw [ordW_more e] at h
      obtain ⟨o, ho, hr⟩ := List.mem_flatMap.mp h
      obtain ⟨t, _, rfl⟩ := List.mem_map.mp hr
      have := ordW_rows i chs o ho
      rw [List.length_append]
      show _ + 1 ≤ _
      omega
def spOrdW : Sp := fun vs H Q _ => ∃ (c : Addr) (cs : List Addr) (chs : List (List Int)), vs = [.ref c] ∧ H c = some (.lst (cs.map V.ref)) ∧ LL H cs chs ∧ chs.length ≤ 12 ∧ (∀ ch ∈ chs, ch.length ≤ 12) ∧ (∀ i, i ≤ chs.length → (ordW (chs.take i)).length ≤ 100000) ∧
  ∀ (l : Addr) (as : List Addr) (H' : Hp), H l = none → H' l = some (.lst (as.map V.ref)) → LL H' as (ordW chs) → (∀ a ∈ as, H a = none ∧ a ≠ l) → as.Nodup → Same H H' → Q (.ref l) H'
section
variable {P : Program} {w : World} {K : PySem.W.Frag} {mg : Str → Option Value} {base : Heap}
theorem scOrdW : FnScope ["choices", "begun", "things", "start", "thing"] ["choices"] (defScope s_orders_with) := ⟨rfl, rfl, rfl, by decide +kernel, rfl, by decide +kernel, by decide +kernel⟩
set_option maxHeartbeats 4000000 in
theorem ok_ordW {f : Addr} {fd : FuncData} {k : Nat} (T : Df K mg "orders_with" s_orders_with ["choices"] f fd) (B : Bi mg) : FnOk P w K mg base CX0 (k + 1) f fd ["choices"] spOrdW := by
  refine T.F.ok scOrdW (fun vs H Q E h => ?_) (fun cdv A outer s H vs Q E hr h => ?_)
  · obtain ⟨c, cs, chs, rfl, _⟩ := h
    rfl
  · obtain ⟨c0, ks, chs, rfl, hc, hLc, hcl, hch, hsz, q⟩ := h
    have hkl := hLc.len
    refine ⟨_, 
      (pss_cons (ps_set (i := 1) scOrdW.nd rfl (.inl rfl) (pe_lst (pa_cons (pe_lst pa_nil) pa_nil)))
      (pss_cons (ps_for PassesOwn.never rfl (pi_list (pv 0)) (pg_name (i := 2) scOrdW.nd rfl (.inr rfl))
        (pss_one (ps_setLc2 (i := 1) (own := [("start", 3), ("thing", 4)]) (vs1 := [4]) (wi1 := iList K (tVar 2)) (g := (gName 3)) (tt := tYes) (g1 := (gName 4)) (tt1 := (tTest (tOp (rIn K true) (tVar 4) (tVar 3)))) (te := (tOp rCat (tVar 3) (tLst (tCons (tVar 4) tNil)))) (by rfl) scOrdW.nd rfl rfl (sw_true rfl rfl rfl (by decide +kernel)) (pi_list (pv 1)) (blkOk_by (N := ["choices", "begun", "things", "start", "thing"]) (sc := defScope s_orders_with) (by decide +kernel)) (by decide) (fun _ _ _ _ _ => (pg_name (i := 3) scOrdW.nd rfl (.inl rfl))) (fun _ _ _ _ _ => pts_nil) (fun _ _ _ _ _ => (pi_list (pv 2))) (fun _ _ _ _ _ => (pg_name (i := 4) scOrdW.nd rfl (.inl rfl))) (fun _ _ _ _ _ => (pts_one (pt_cmpR op_notIn_seq (pv 4) (pv 3) (by rfl)))) (fun _ _ _ _ _ => (pe_op op_cat (pv 3) (pe_lst (pa_cons (pv 4) pa_nil)))))))
      (pss_one (ps_ret (pv 1))))), ?_⟩
    refine ⟨Nat.zero_le _, fun e0 ne0 => ⟨line_small (by show 1 ≤ 16777216; decide), fun bg nbg => ?_⟩⟩
    have s0 := same_new (o := .lst []) ne0
    have s1 := same_new (o := .lst [.ref e0]) nbg
    have nHbg : H bg = none := s0.free nbg
    have neb : e0 ≠ bg := ne_of_none upd_same nbg
    refine ⟨_, rfl, c0, rfl, ⟨_, SqL.of (s1 _ _ (s0 _ _ hc))⟩, ?_⟩
    refine for_list (xs := ks.map V.ref) (fun i σ H3 => ∃ (bg : Addr) (y2 y3 y4 : Option V) (as : List Addr), σ = [some (.ref c0), some (.ref bg), y2, y3, y4] ∧ H bg = none ∧ H3 bg = some (.lst (as.map V.ref)) ∧ LL H3 as (ordW (chs.take i)) ∧ (∀ c ∈ as, H c = none ∧ c ≠ bg) ∧ as.Nodup ∧ Same H H3)
      ⟨bg, _, _, _, [e0], rfl, nHbg, upd_same, ⟨s1 _ _ upd_same, trivial⟩, fun c hc => by rw [List.mem_singleton.mp hc]; exact ⟨ne0, neb⟩, List.nodup_cons.mpr ⟨List.not_mem_nil, List.nodup_nil⟩, s0.trans s1⟩ (fun i σ H3 _ hP => by obtain ⟨_, _, _, _, _, _, _, _, _, _, _, sm⟩ := hP; exact SqL.of (sm _ _ hc)) (fun i x σ H3 hx hP => ?_) (fun σ H3 hP => ?_)
    · obtain ⟨bg, y2, y3, y4, as, rfl, nbg, hb3, hLL, hfr, hnd, sm⟩ := hP
      obtain ⟨kc, ek, rfl⟩ := ref_at_inv hx
      obtain ⟨ch, ech, hkc⟩ := hLc.get ek
      have hi := (List.getElem?_eq_some_iff.mp ech).1
      have hchl := hch ch (List.mem_of_getElem? ech)
      have hlen := hLL.len
      have hal := hsz i (by omega)
      have hkc3 := sm _ _ hkc
      refine ⟨_, rfl, bg, rfl, ⟨_, SqL.of hb3⟩, fun D nD => ?_⟩
      have nHD : H D = none := sm.free nD
      refine lc2_list (K := K) (a := bg) (xs := as.map V.ref) (fun m H4 => ∃ cs : List Addr, H4 D = some (.lst (cs.map V.ref)) ∧ LL H4 cs (((ordW (chs.take i)).take m).flatMap (extC ch)) ∧ (∀ c ∈ cs, H3 c = none ∧ c ≠ D) ∧ cs.Nodup ∧ Same H3 H4)
        ⟨[], upd_same, trivial, fun c hc => absurd hc List.not_mem_nil, List.nodup_nil, same_new nD⟩ (fun m H4 _ hP => by obtain ⟨_, _, _, _, _, s4⟩ := hP; exact SqL.of (s4 _ _ hb3)) (fun m x H4 hx hP => ?_) (fun H4 hP => ?_)
      · obtain ⟨cs, hD4, hLc4, hfc, hndc, s4⟩ := hP
        obtain ⟨r, er, rfl⟩ := ref_at_inv hx
        obtain ⟨row, erow, hrow⟩ := hLL.get er
        have hrl := ordW_rows i chs row (List.mem_of_getElem? erow)
        refine ⟨rfl, ?_⟩
        refine ⟨_, rfl, kc, rfl, ⟨_, SqL.of (s4 _ _ hkc3)⟩, ?_⟩
        refine in_list (K := K) (a := kc) (xs := ch.map V.int) (fun j H5 => ∃ cs : List Addr, H5 D = some (.lst (cs.map V.ref)) ∧ LL H5 cs (((ordW (chs.take i)).take m).flatMap (extC ch) ++ extC (ch.take j) row) ∧ (∀ c ∈ cs, H3 c = none ∧ c ≠ D) ∧ cs.Nodup ∧ Same H3 H5)
          ⟨cs, hD4, by rw [show extC (ch.take 0) row = [] from rfl, List.append_nil]; exact hLc4, hfc, hndc, s4⟩ (fun j H5 _ hP => by obtain ⟨_, _, _, _, _, s5⟩ := hP; exact SqL.of (s5 _ _ hkc3)) (fun j x H5 hx hP => ?_) (fun H5 hP => ?_)
        · obtain ⟨cs5, hD5, hL5, hf5, hnd5, s5⟩ := hP
          obtain ⟨t, et, rfl⟩ := int_at_inv hx
          have hrow5 := s5 _ _ hrow
          refine ⟨rfl, _, rfl, _, rfl, r, _, rfl, .inl (SqL.of hrow5), rfl, flat_ints row, _, rfl, ?_⟩
          show if (!inV (.int t) (row.map V.int)) = true then _ else _
          rw [inV_int]
          have em := extC_more (o := row) et
          by_cases c : t ∈ row
          · rw [decide_eq_true c]
            refine iteF ⟨cs5, hD5, ?_, hf5, hnd5, s5⟩
            rw [em, if_pos c, List.append_nil]
            exact hL5
          · rw [decide_eq_false c]
            refine iteT ⟨_, rfl, _, rfl, line_small (by show 1 ≤ 16777216; decide), fun p np => ?_⟩
            have sp1 := same_new (o := .lst [.int t]) np
            refine ⟨r, p, _, _, rfl, rfl, sp1 _ _ hrow5, upd_same, line_small (by rw [List.length_map]; show _ + 1 ≤ _; omega), fun z nz => ?_⟩
            have sp2 := same_new (o := .lst (row.map V.int ++ [.int t])) nz
            have hD6 := sp2 _ _ (sp1 _ _ hD5)
            have nzD : z ≠ D := (ne_of_none (sp1 _ _ hD5) nz).symm
            have hl5 := hL5.len
            have hcount : cs5.length < 16777216 := by
              have h1 : (((ordW (chs.take i)).take m).flatMap (extC ch) ++ extC (ch.take j) row).length ≤ ((ordW (chs.take i)).take m).length * ch.length + ch.length := by
                rw [List.length_append]
                have a1 := flatC_len ch ((ordW (chs.take i)).take m)
                have a2 := extC_len (ch.take j) row
                rw [List.length_take] at a2
                omega
              have h2 : ((ordW (chs.take i)).take m).length * ch.length ≤ 100000 * 12 := Nat.mul_le_mul (by rw [List.length_take]; omega) hchl
              omega
            refine ⟨_, hD6, line_lt (by rw [List.length_map]; exact hcount), cs5 ++ [z], by rw [upd_same, List.map_append]; rfl, ?_, fun c hc => ?_, ?_, fun u ob e => ?_⟩
            · rw [em, if_neg c, ← List.append_assoc]
              refine LL.snoc (((hL5.same sp1).same sp2).keep fun u hu ob e => by rw [upd_ne (hf5 u hu).2]; exact e) ?_
              rw [upd_ne nzD, upd_same, List.map_append]
              rfl
            · rcases List.mem_append.mp hc with hc | hc
              · exact hf5 c hc
              · rw [List.mem_singleton.mp hc]
                exact ⟨(s5.trans sp1).free nz, nzD⟩
            · rw [List.nodup_append]
              refine ⟨hnd5, List.nodup_cons.mpr ⟨List.not_mem_nil, List.nodup_nil⟩, fun x hx y hy e => ?_⟩
              rw [List.mem_singleton.mp hy] at e
              obtain ⟨ob, eo⟩ := hL5.tracked hx
              rw [e] at eo
              have := sp1 _ _ eo
              rw [nz] at this
              cases this
            · rw [upd_ne (ne_of_none e nD)]
              exact sp2 _ _ (sp1 _ _ (s5 _ _ e))
        · obtain ⟨cs5, hD5, hL5, hf5, hnd5, s5⟩ := hP
          refine ⟨cs5, hD5, ?_, hf5, hnd5, s5⟩
          rw [List.length_map, List.take_length] at hL5
          rw [List.take_add_one, erow, List.flatMap_append]
          show LL H5 cs5 (_ ++ (extC ch row ++ []))
          rw [List.append_nil]
          exact hL5
      · obtain ⟨cs, hD4, hLc4, hfc, hndc, s4⟩ := hP
        rw [List.length_map, hlen, List.take_length] at hLc4
        refine ⟨D, _, _, _, cs, rfl, nHD, hD4, ?_, fun c hc => ⟨sm.free (hfc c hc).1, (hfc c hc).2⟩, hndc, sm.trans s4⟩
        rw [ordW_more ech]
        exact hLc4
    · obtain ⟨bg, y2, y3, y4, as, rfl, nbg, hb3, hLL, hfr, hnd, sm⟩ := hP
      rw [List.length_map, hkl, List.take_length] at hLL
      exact ⟨_, rfl, q bg as H3 nbg hb3 hLL hfr hnd sm⟩
theorem LL_rep {H : Hp} {a : Addr} {r : List Int} (h : H a = some (.lst (r.map V.int))) : ∀ m, LL H (List.replicate m a) (List.replicate m r)
  | 0 => trivial
  | m + 1 => ⟨h, LL_rep h m⟩
theorem rep_flat (v : V) : ∀ m : Nat, (List.replicate m [v]).flatten = List.replicate m v
  | 0 => rfl
  | m + 1 => by rw [List.replicate_succ, List.flatten_cons, rep_flat v m]; rfl
theorem scAllO : FnScope ["n"] ["n"] (defScope s_all_orders) := ⟨rfl, rfl, rfl, by decide +kernel, rfl, by decide +kernel, by decide +kernel⟩
theorem ok_all_orders {f f1 : Addr} {fd d1 : FuncData} {k : Nat} (T : Df K mg "all_orders" s_all_orders ["n"] f fd) (T_orders_with : Df K mg "orders_with" s_orders_with ["choices"] f1 d1) (B : Bi mg) : FnOk P w K mg base CX0 (k + 2) f fd ["n"] spAllO := by
  have G_orders_with : FnOk P w K mg base CX0 (k + 1) f1 d1 ["choices"] spOrdW := ok_ordW T_orders_with B
  refine T.F.ok scAllO (fun vs H Q E h => ?_) (fun cdv A outer s H vs Q E hr h => ?_)
  · obtain ⟨n, rfl, _⟩ := h
    rfl
  · obtain ⟨n, rfl, hn1, hn2, q⟩ := h
    refine ⟨_, 
      (pss_one (ps_ret (pe_call G_orders_with hr (by rfl) T_orders_with.g T_orders_with.F.kp T_orders_with.b .nil pass0 (pa_cons (pe_op op_rep (pe_lst (pa_cons (pe_listRg rfl (by rfl) B.list (prg_1 (by rfl) B.range (pv 0))) pa_nil)) (pv 0)) pa_nil)))), ?_⟩
    refine ⟨_, rfl, n, rfl, RgOk.of_le (by omega) (by omega) (by omega) (by omega), fun l nl => ?_⟩
    have t1 := same_new (o := .lst (rgV 0 (n : Int))) nl
    have hl : (upd H l (.lst (rgV 0 (n : Int)))) l = some (.lst ((rg n).map V.int)) := by rw [upd_same, rg_V]
    refine ⟨line_small (by show 1 ≤ 16777216; decide), fun l1 nl1 => ?_⟩
    have t2 := same_new (o := .lst [.ref l]) nl1
    refine ⟨_, rfl, l1, _, _, rfl, rfl, upd_same, by omega, by omega, line_small (by rw [Int.toNat_natCast]; show 1 * n ≤ _; omega), fun l2 nl2 => ?_⟩
    have t3 := same_new (o := .lst (List.replicate ((n : Nat) : Int).toNat [V.ref l]).flatten) nl2
    have tt := (t1.trans t2).trans t3
    refine ⟨l2, List.replicate n l, List.replicate n (rg n), rfl, by rw [upd_same, Int.toNat_natCast, rep_flat, List.map_replicate], LL_rep (t3 _ _ (t2 _ _ hl)) n, by rw [List.length_replicate]; omega, fun ch hc => ?_, fun i hi => ?_, fun r as H' nr hr hLL hfr hnd s' => ?_⟩
    · rw [(List.mem_replicate.mp hc).2, rg_len]
      omega
    · rw [List.length_replicate] at hi
      rw [List.take_replicate, Nat.min_eq_left hi, ordW_all]
      have h1 := allK_len hn2 i hi
      have h2 := pow6 (show i ≤ 6 by omega)
      omega
    · rw [ordW_all] at hLL
      exact q r as H' (tt.free nr) hr hLL (fun c hc => ⟨tt.free (hfr c hc).1, (hfr c hc).2⟩) hnd (tt.trans s')
end
end Fo
namespace Fo
open PySem PySem.Spec PyProof.Rows L2
section
variable {P : Program} {w : World} {K : PySem.W.Frag} {mg : Str → Option Value} {base : Heap}
theorem scLAll : FnScope ["n", "found", "turn", "longer", "one", "thing"] ["n"] (defScope s_law_all) := ⟨rfl, rfl, rfl, by decide +kernel, rfl, by decide +kernel, by decide +kernel⟩
set_option maxHeartbeats 4000000 in
theorem ok_law_all {f : Addr} {fd : FuncData} {k : Nat} (T : Df K mg "_law_all" s_law_all ["n"] f fd) (B : Bi mg) : FnOk P w K mg base CX0 (k + 1) f fd ["n"] spAllO := by
  refine T.F.ok scLAll (fun vs H Q E h => ?_) (fun cdv A outer s H vs Q E hr h => ?_)
  · obtain ⟨n, rfl, _⟩ := h
    rfl
  · obtain ⟨n, rfl, hn1, hn2, q⟩ := h
    refine ⟨_, 
      (pss_cons (ps_set (i := 1) scLAll.nd rfl (.inl rfl) (pe_lst (pa_cons (pe_lst pa_nil) pa_nil)))
      (pss_cons (ps_for PassesOwn.never rfl (pi_range1 (by rfl) B.range (pa_cons (pv 0) pa_nil)) (pg_name (i := 2) scLAll.nd rfl (.inl rfl))
        (pss_cons (ps_set (i := 3) scLAll.nd rfl (.inl rfl) (pe_lst pa_nil))
        (pss_cons (ps_for PassesOwn.never rfl (pi_list (pv 1)) (pg_name (i := 4) scLAll.nd rfl (.inr rfl))
          (pss_one (ps_expr (pe_bm PySem.F.plainAttrs_list PySem.F.slot_list_extend PySem.F.type_list_extend mt_extend (pv 3) (pa_cons (pe_lc (own := [("thing", 5)]) (g := (gName 5)) (tt := (tTest (tOp (rIn K true) (tVar 5) (tVar 4)))) (te := (tOp rCat (tVar 4) (tLst (tCons (tVar 5) tNil)))) rfl scLAll.nd (pi_range1 (by rfl) B.range (pa_cons (pv 0) pa_nil)) (blkOk_by (N := ["n", "found", "turn", "longer", "one", "thing"]) (sc := defScope s_law_all) (by decide +kernel)) (fun _ _ _ _ _ => (pg_name (i := 5) scLAll.nd rfl (.inl rfl))) (fun _ _ _ _ _ => (pts_one (pt_cmpR op_notIn_seq (pv 5) (pv 4) (by rfl)))) (fun _ _ _ _ _ => (pe_op op_cat (pv 4) (pe_lst (pa_cons (pv 5) pa_nil))))) pa_nil)))))
        (pss_one (ps_set (i := 1) scLAll.nd rfl (.inl rfl) (pv 3))))))
      (pss_one (ps_ret (pv 1))))), ?_⟩
    refine ⟨Nat.zero_le _, fun e0 ne0 => ⟨line_small (by show 1 ≤ 16777216; decide), fun bg nbg => ?_⟩⟩
    have s0 := same_new (o := .lst []) ne0
    have s1 := same_new (o := .lst [.ref e0]) nbg
    have nHbg : H bg = none := s0.free nbg
    have neb : e0 ≠ bg := ne_of_none upd_same nbg
    refine ⟨_, rfl, n, rfl, by omega, by omega, ?_⟩
    rw [Int.toNat_natCast]
    refine for_range (n := n) (fun i σ H3 => ∃ (bg : Addr) (y2 y3 y4 y5 : Option V) (as : List Addr), σ = [some (.int n), some (.ref bg), y2, y3, y4, y5] ∧ H bg = none ∧ H3 bg = some (.lst (as.map V.ref)) ∧ LL H3 as (allK n i) ∧ (∀ c ∈ as, H c = none ∧ c ≠ bg) ∧ as.Nodup ∧ Same H H3)
      ⟨bg, _, _, _, _, [e0], rfl, nHbg, upd_same, ⟨s1 _ _ upd_same, trivial⟩, fun c hc => by rw [List.mem_singleton.mp hc]; exact ⟨ne0, neb⟩, List.nodup_cons.mpr ⟨List.not_mem_nil, List.nodup_nil⟩, s0.trans s1⟩ (fun i σ H3 hi hP => ?_) (fun σ H3 hP => ?_)
    · obtain ⟨bg, y2, y3, y4, y5, as, rfl, nbg, hb3, hLL, hfr, hnd, sm⟩ := hP
      have hlen := hLL.len
      have hal := allK_len hn2 i (by omega)
      have hp6 := pow6 (show i ≤ 6 by omega)
      refine ⟨Nat.zero_le _, fun lg nlg => ?_⟩
      have nHlg : H lg = none := sm.free nlg
      have nbl : bg ≠ lg := ne_of_none hb3 nlg
      have slg := same_new (o := .lst []) nlg
      refine ⟨_, rfl, bg, rfl, ⟨_, SqL.of (slg _ _ hb3)⟩, ?_⟩
      refine for_list (xs := as.map V.ref) (fun m σ H4 => ∃ (y4 y5 : Option V) (cs : List Addr), σ = [some (.int n), some (.ref bg), some (.int (0 + (i : Int))), some (.ref lg), y4, y5] ∧ H4 lg = some (.lst (cs.map V.ref)) ∧ LL H4 cs (((allK n i).take m).flatMap (extO n)) ∧ (∀ c ∈ cs, H3 c = none ∧ c ≠ lg) ∧ cs.Nodup ∧ Same H3 H4)
        ⟨_, _, [], rfl, upd_same, trivial, fun c hc => absurd hc List.not_mem_nil, List.nodup_nil, slg⟩ (fun m σ H4 _ hP => by obtain ⟨_, _, _, _, _, _, _, _, s4⟩ := hP; exact SqL.of (s4 _ _ hb3)) (fun m x σ H4 hx hP => ?_) (fun σ H4 hP => ?_)
      · obtain ⟨z4, z5, cs, rfl, hlg4, hLc, hfc, hndc, s4⟩ := hP
        obtain ⟨r, er, rfl⟩ := ref_at_inv hx
        obtain ⟨row, erow, hrow⟩ := hLL.get er
        have hrl := (allK_row i row (List.mem_of_getElem? erow)).1
        have hrow4 := s4 _ _ hrow
        refine ⟨_, rfl, .inl ⟨rfl, _, SqL.of hlg4⟩, _, rfl, n, rfl, by omega, by omega, fun D nD => ?_⟩
        rw [Int.toNat_natCast]
        have nlD : lg ≠ D := ne_of_none hlg4 nD
        refine lc_range (lo := 0) (n := n) (fun j H5 => ∃ ds : List Addr, H5 D = some (.lst (ds.map V.ref)) ∧ LL H5 ds (((rg j).filter fun t => !decide (t ∈ row)).map fun t => row ++ [t]) ∧ (∀ c ∈ ds, H4 c = none ∧ c ≠ D) ∧ ds.Nodup ∧ Same H4 H5)
          ⟨[], upd_same, trivial, fun c hc => absurd hc List.not_mem_nil, List.nodup_nil, same_new nD⟩ (fun j H5 hj hP => ?_) (fun H5 hP => ?_)
        · obtain ⟨ds, hD5, hL5, hf5, hnd5, s5⟩ := hP
          have hrow5 := s5 _ _ hrow4
          refine ⟨rfl, _, rfl, _, rfl, r, _, rfl, .inl (SqL.of hrow5), rfl, flat_ints row, _, rfl, ?_⟩
          show if (!inV (.int (0 + (j : Int))) (row.map V.int)) = true then _ else _
          rw [inV_int, Int.zero_add]
          have em := ext_more (n := n) (o := row) j
          by_cases c : (j : Int) ∈ row
          · rw [decide_eq_true c]
            refine iteF ⟨ds, hD5, ?_, hf5, hnd5, s5⟩
            rw [em, if_pos c, List.append_nil]
            exact hL5
          · rw [decide_eq_false c]
            refine iteT ⟨_, rfl, _, rfl, line_small (by show 1 ≤ 16777216; decide), fun p np => ?_⟩
            have sp1 := same_new (o := .lst [.int (j : Int)]) np
            refine ⟨r, p, _, _, rfl, rfl, sp1 _ _ hrow5, upd_same, line_small (by rw [List.length_map, hrl]; show _ + 1 ≤ _; omega), fun z nz => ?_⟩
            have sp2 := same_new (o := .lst (row.map V.int ++ [.int (j : Int)])) nz
            have nzD : z ≠ D := (ne_of_none (sp1 _ _ hD5) nz).symm
            have hl5 := hL5.len
            have hcount : ds.length ≤ j := by
              rw [hl5, List.length_map]
              have a2 := List.length_filter_le (fun t => !decide (t ∈ row)) (rg j)
              rw [rg_len] at a2
              exact a2
            refine ⟨_, sp2 _ _ (sp1 _ _ hD5), line_lt (by rw [List.length_map]; omega), ds ++ [z], by rw [upd_same, List.map_append]; rfl, ?_, fun c hc => ?_, ?_, fun u ob e => ?_⟩
            · rw [em, if_neg c]
              refine LL.snoc (((hL5.same sp1).same sp2).keep fun u hu ob e => by rw [upd_ne (hf5 u hu).2]; exact e) ?_
              rw [upd_ne nzD, upd_same, List.map_append]
              rfl
            · rcases List.mem_append.mp hc with hc | hc
              · exact hf5 c hc
              · rw [List.mem_singleton.mp hc]
                exact ⟨(s5.trans sp1).free nz, nzD⟩
            · rw [List.nodup_append]
              refine ⟨hnd5, List.nodup_cons.mpr ⟨List.not_mem_nil, List.nodup_nil⟩, fun x hx y hy e => ?_⟩
              rw [List.mem_singleton.mp hy] at e
              obtain ⟨ob, eo⟩ := hL5.tracked hx
              rw [e] at eo
              have := sp1 _ _ eo
              rw [nz] at this
              cases this
            · rw [upd_ne (ne_of_none e nD)]
              exact sp2 _ _ (sp1 _ _ (s5 _ _ e))
        · obtain ⟨ds, hD5, hL5, hf5, hnd5, s5⟩ := hP
          have hlg5 := s5 _ _ hlg4
          have hcl := hLc.len
          have hdl := hL5.len
          have hext : ds.length ≤ n := by
            rw [hdl]
            exact extO_len n row
          have hcn : cs.length ≤ 46656 * 6 := by
            rw [hcl]
            refine Nat.le_trans (flat_len n _) (Nat.mul_le_mul ?_ hn2)
            rw [List.length_take]
            omega
          refine ⟨lg, D, _, _, rfl, rfl, hlg5, hD5, line_small (by rw [List.length_map, List.length_map]; omega), ?_⟩
          refine ⟨_, _, cs ++ ds, rfl, by rw [upd_same, List.map_append], ?_, fun c hc => ?_, ?_, fun u ob e => ?_⟩
          · rw [List.take_add_one, erow, List.flatMap_append]
            show LL _ _ (_ ++ (extO n row ++ []))
            rw [List.append_nil]
            refine extend_LL ((hLc.same s5).keep fun u hu ob e => by rw [upd_ne (hfc u hu).2]; exact e) (hL5.keep fun u hu ob e => ?_)
            rw [upd_ne (show u ≠ lg from fun z => by have := (hf5 u hu).1; rw [z, hlg4] at this; cases this)]
            exact e
          · rcases List.mem_append.mp hc with hc | hc
            · exact hfc c hc
            · exact ⟨s4.free (hf5 c hc).1, fun z => by have := (hf5 c hc).1; rw [z, hlg4] at this; cases this⟩
          · rw [List.nodup_append]
            refine ⟨hndc, hnd5, fun x hx y hy e => ?_⟩
            subst e
            obtain ⟨ob, eo⟩ := hLc.tracked hx
            rw [(hf5 x hy).1] at eo
            cases eo
          · rw [upd_ne (ne_of_none e nlg)]
            exact s5 _ _ (s4 _ _ e)
      · obtain ⟨z4, z5, cs, rfl, hlg4, hLc, hfc, hndc, s4⟩ := hP
        rw [List.length_map, hlen, List.take_length] at hLc
        exact ⟨_, rfl, lg, _, _, _, _, cs, rfl, nHlg, hlg4, hLc, fun c hc => ⟨sm.free (hfc c hc).1, (hfc c hc).2⟩, hndc, sm.trans s4⟩
    · obtain ⟨bg, y2, y3, y4, y5, as, rfl, nbg, hb3, hLL, hfr, hnd, sm⟩ := hP
      exact ⟨_, rfl, q bg as H3 nbg hb3 hLL hfr hnd sm⟩
end
end Fo
namespace Fo
open PySem PySem.Spec PyProof.Rows L2
def spWays : Sp := fun vs H Q _ => vs = [] ∧ ∀ (l : Addr), H l = none → Q (.ref l) (upd H l (.lst [.str "swap", .str "spot", .str "shift"]))
section
variable {P : Program} {w : World} {K : PySem.W.Frag} {mg : Str → Option Value} {base : Heap}
theorem scWays : FnScope [] [] (defScope s_law_ways) := ⟨rfl, rfl, rfl, by decide +kernel, rfl, by decide +kernel, by decide +kernel⟩
theorem ok_ways {f : Addr} {fd : FuncData} {k : Nat} (T : Df K mg "_law_ways" s_law_ways [] f fd) (B : Bi mg) : FnOk P w K mg base CX0 (k + 1) f fd [] spWays := by
  refine T.F.ok scWays (fun vs H Q E h => ?_) (fun cdv A outer s H vs Q E hr h => ?_)
  · obtain ⟨rfl, _⟩ := h
    rfl
  · obtain ⟨rfl, q⟩ := h
    refine ⟨_, 
      (pss_one (ps_ret (pe_lst (pa_cons pe_str (pa_cons pe_str (pa_cons pe_str pa_nil)))))), ?_⟩
    exact ⟨line_small (by show 3 ≤ 16777216; decide), fun l nl => q l nl⟩
end
end Fo
namespace Fo
open PySem PySem.Spec PyProof.Rows L2
section
variable {P : Program} {w : World} {K : PySem.W.Frag} {mg : Str → Option Value} {base : Heap}
theorem scFarN : FnScope ["pool", "found", "turn"] ["pool"] (defScope s_law_far) := ⟨rfl, rfl, rfl, by decide +kernel, rfl, by decide +kernel, by decide +kernel⟩
theorem ok_farN {f fT : Addr} {fd fdT : FuncData} {k : Nat} (T : Df K mg "_law_far" s_law_far ["pool"] f fd) (T__law_take : Df K mg "_law_take" s_law_take ["pool", "many"] fT fdT) (G__law_take : FnOk P w K mg base CX0 k fT fdT ["pool", "many"] spTake) (B : Bi mg) : FnOk P w K mg base CX0 (k + 1) f fd ["pool"] spFarN := by
  refine T.F.ok scFarN (fun vs H Q E h => ?_) (fun cdv A outer s H vs Q E hr h => ?_)
  · obtain ⟨d, c, rfl, _⟩ := h
    rfl
  · obtain ⟨d, c, rfl, hP, hc, q⟩ := h
    refine ⟨_, 
      (pss_cons (ps_set (i := 1) scFarN.nd rfl (.inl rfl) pe_int)
      (pss_cons (ps_for PassesOwn.never rfl (pi_range1 (by rfl) B.range (pa_cons pe_int pa_nil)) (pg_name (i := 2) scFarN.nd rfl (.inl rfl))
        (pss_one (ps_set (i := 1) scFarN.nd rfl (.inl rfl) (pe_op op_add (pe_op op_mul (pv 1) (pe_op op_pow pe_int pe_int)) (pe_call G__law_take hr (by rfl) T__law_take.g T__law_take.F.kp T__law_take.b .nil pass0 (pa_cons (pv 0) (pa_cons (pe_op op_pow pe_int pe_int) pa_nil)))))))
      (pss_one (ps_ret (pe_op op_add (pe_op op_mul (pv 1) pe_int) (pe_call G__law_take hr (by rfl) T__law_take.g T__law_take.F.kp T__law_take.b .nil pass0 (pa_cons (pv 0) (pa_cons pe_int pa_nil)))))))), ?_⟩
    refine ⟨4, rfl, by decide, by decide, ?_⟩
    refine for_range (n := 4) (fun i σ H1 => ∃ (v : Int) (y2 : Option V), σ = [some (.ref d), some (.int v), y2] ∧ 0 ≤ v ∧ PoolAt H1 d (c + i) ∧ KeepD d H H1) ⟨0, _, rfl, by decide, hP, KeepD.refl _ _⟩ (fun i σ H1 hi hW => ?_) (fun σ H1 hW => ?_)
    · obtain ⟨v, y2, rfl, v0, hP1, k1⟩ := hW
      refine ⟨_, rfl, 10, 6, rfl, rfl, ⟨by decide, by decide, by decide⟩, v, _, rfl, rfl, .inr ⟨by decide, by decide⟩, _, rfl, 10, 6, rfl, rfl, ⟨by decide, by decide, by decide⟩, d, _, c + i, rfl, hP1, by omega, by decide, by decide, fun u H2 u0 _ hP2 k2 => ?_⟩
      refine ⟨_, u, rfl, rfl, _, _, rfl, ?_, hP2, k1.trans k2⟩
      have : (0 : Int) ≤ v * 10 ^ (6 : Int).toNat := Int.mul_nonneg v0 (by decide)
      omega
    · obtain ⟨v, y2, rfl, v0, hP1, k1⟩ := hW
      refine ⟨_, rfl, v, 100, rfl, rfl, .inr ⟨by decide, by decide⟩, _, rfl, d, 100, c + 4, rfl, hP1, by omega, by decide, by decide, fun u H2 u0 _ hP2 k2 => ?_⟩
      exact ⟨_, u, rfl, rfl, q _ H2 (by omega) hP2 (k1.trans k2)⟩
end
end Fo
namespace Fo
open PySem PySem.Spec PyProof.Rows L2
/-- an order turned by one place -/
theorem ord_rot {n : Nat} {ys : List Int} (h : IsOrd n ys) : IsOrd n (ys.drop 1 ++ ys.take 1) := by
  have e : (ys.drop 1 ++ ys.take 1).Perm (ys.take 1 ++ ys.drop 1) := List.perm_append_comm
  rw [List.take_append_drop] at e
  exact e.trans h
theorem plus_all : ∀ n < 13, ((rg n).map fun x => (x + 1) % (n : Int)).Perm (rg n) := by decide +kernel
/-- each thing one further, the last the first -/
theorem ord_plus {n : Nat} {ys : List Int} (h : IsOrd n ys) (hn : n ≤ 12) : IsOrd n (ys.map fun x => (x + 1) % (n : Int)) := (List.Perm.map _ h).trans (plus_all n (by omega))
theorem nodup_snoc {α : Type} {l : List α} {x : α} (h : l.Nodup) (hx : x ∉ l) : (l ++ [x]).Nodup := by
  have e : (l ++ [x]).Perm (x :: l) := List.perm_append_comm
  exact (List.Perm.nodup_iff e).mpr (List.nodup_cons.mpr ⟨hx, h⟩)
end Fo
namespace Fo
open PySem PySem.Spec PyProof.Rows L2
def spOrders : Sp := fun vs H Q _ => ∃ (d : Addr) (n most c : Nat), vs = [.ref d, .int n, .int most] ∧ PoolAt H d c ∧ 1 ≤ n ∧ n ≤ 12 ∧ 1 ≤ most ∧ most ≤ 120 ∧ c + 40000 < 1048576 ∧
  ∀ (l : Addr) (as : List Addr) (rs : List (List Int)) (H' : Hp), OL H' l as rs n → rs.Nodup → 1 ≤ rs.length → rs.length ≤ most → H l = none → (∀ a ∈ as, H a = none) → l ≠ d → d ∉ as → l ∉ as → PoolAt H' d (c + 40000) → KeepD d H H' → Q (.ref l) H'
section
variable {P : Program} {w : World} {K : PySem.W.Frag} {mg : Str → Option Value} {base : Heap}
theorem scOrders : FnScope ["pool", "n", "most", "many", "way", "found", "turn", "one", "thing"] ["pool", "n", "most"] (defScope s_law_orders) := ⟨rfl, rfl, rfl, by decide +kernel, rfl, by decide +kernel, by decide +kernel⟩
set_option maxHeartbeats 4000000 in
theorem ok_orders {f f1 f2 f3 f4 : Addr} {fd d1 d2 d3 d4 : FuncData} {k : Nat} (T : Df K mg "_law_orders" s_law_orders ["pool", "n", "most"] f fd) (T__law_take : Df K mg "_law_take" s_law_take ["pool", "many"] f1 d1) (T__law_order : Df K mg "_law_order" s_law_order ["pool", "n"] f2 d2) (T__law_near : Df K mg "_law_near" s_law_near ["pool", "order"] f3 d3) (T__law_many : Df K mg "_law_many" s_law_many ["n"] f4 d4)
    (G__law_take : FnOk P w K mg base CX0 k f1 d1 ["pool", "many"] spTake) (G__law_order : FnOk P w K mg base CX0 k f2 d2 ["pool", "n"] spOrderP) (G__law_near : FnOk P w K mg base CX0 k f3 d3 ["pool", "order"] spNearP) (G__law_many : FnOk P w K mg base CX0 k f4 d4 ["n"] spMany) (B : Bi mg) : FnOk P w K mg base CX0 (k + 1) f fd ["pool", "n", "most"] spOrders := by
  refine T.F.ok scOrders (fun vs H Q E h => ?_) (fun cdv A outer s H vs Q E hr h => ?_)
  · obtain ⟨d, n, most, c, rfl, _⟩ := h
    rfl
  · obtain ⟨d, n, most, c, rfl, hD, hn1, hn2, hm1, hm2, hc, q⟩ := h
    refine ⟨_, 
      (pss_cons (ps_set (i := 3) scOrders.nd rfl (.inl rfl) (pe_callB (call_min3I rfl) (by rfl) B.min (by decide +kernel) (pa_cons (pv 2) (pa_cons (pe_call G__law_many hr (by rfl) T__law_many.g T__law_many.F.kp T__law_many.b .nil pass0 (pa_cons (pv 1) pa_nil)) (pa_cons (pe_ix ix_list (pe_lst (pa_cons (pe_op op_add pe_int (pe_call G__law_take hr (by rfl) T__law_take.g T__law_take.F.kp T__law_take.b .nil pass0 (pa_cons (pv 0) (pa_cons pe_int pa_nil)))) (pa_cons (pe_op op_add pe_int (pe_call G__law_take hr (by rfl) T__law_take.g T__law_take.F.kp T__law_take.b .nil pass0 (pa_cons (pv 0) (pa_cons (pv 2) pa_nil)))) (pa_cons (pv 2) pa_nil)))) (pe_call G__law_take hr (by rfl) T__law_take.g T__law_take.F.kp T__law_take.b .nil pass0 (pa_cons (pv 0) (pa_cons pe_int pa_nil))) (fun _ _ => rfl)) pa_nil)))))
      (pss_cons (ps_set (i := 4) scOrders.nd rfl (.inl rfl) (pe_call G__law_take hr (by rfl) T__law_take.g T__law_take.F.kp T__law_take.b .nil pass0 (pa_cons (pv 0) (pa_cons pe_int pa_nil))))
      (pss_cons (ps_set (i := 5) scOrders.nd rfl (.inl rfl) (pe_lst (pa_cons (pe_call G__law_order hr (by rfl) T__law_order.g T__law_order.F.kp T__law_order.b .nil pass0 (pa_cons (pv 0) (pa_cons (pv 1) pa_nil))) pa_nil)))
      (pss_cons (ps_for PassesOwn.never rfl (pi_range1 (by rfl) B.range (pa_cons (pe_op op_mul pe_int (pv 2)) pa_nil)) (pg_name (i := 6) scOrders.nd rfl (.inl rfl))
        (pss_one (ps_if (pt_cmpR op_lt (pe_callB call_len_seq (by rfl) B.len PySem.boot_len (pa_cons (pv 5) pa_nil)) (pv 3) (nomark _))
          (pss_cons (ps_set (i := 7) scOrders.nd rfl (.inl rfl) (pe_call G__law_order hr (by rfl) T__law_order.g T__law_order.F.kp T__law_order.b .nil pass0 (pa_cons (pv 0) (pa_cons (pv 1) pa_nil))))
          (Evl.pss_cut (ps_if (pt_cmpR op_eq (pv 4) pe_int (nomark _))
            (pss_one (ps_set (i := 7) scOrders.nd rfl (.inl rfl) (pe_call G__law_near hr (by rfl) T__law_near.g T__law_near.F.kp T__law_near.b .nil pass0 (pa_cons (pv 0) (pa_cons (pe_ix ix_list (pv 5) (pe_call G__law_take hr (by rfl) T__law_take.g T__law_take.F.kp T__law_take.b .nil pass0 (pa_cons (pv 0) (pa_cons (pe_callB call_len_seq (by rfl) B.len PySem.boot_len (pa_cons (pv 5) pa_nil)) pa_nil))) (fun _ _ => rfl)) pa_nil)))))
            pss_nil)
          (Evl.pss_cut (ps_if (pt_cmpR op_eq (pv 4) pe_int (nomark _))
            (pss_one (ps_setLc (i := 7) (own := [("thing", 8)]) (g := (gName 8)) (tt := tYes) (te := (tOp (rI (fun _ j => 0 < j) fun i j => .int (i % j)) (tOp (rI0 fun i j => .int (i + j)) (tVar 8) (tC (.int 1))) (tVar 1))) (by rfl) scOrders.nd rfl rfl (sw_true rfl rfl rfl (by decide +kernel)) (pi_list (pe_ix ix_list (pv 5) (pe_un un_neg pe_int) (fun _ _ => rfl))) (blkOk_by (N := ["pool", "n", "most", "many", "way", "found", "turn", "one", "thing"]) (sc := defScope s_law_orders) (by decide +kernel)) (fun _ _ _ _ _ => (pg_name (i := 8) scOrders.nd rfl (.inl rfl))) (fun _ _ _ _ _ => pts_nil) (fun _ _ _ _ _ => (pe_op op_mod (pe_op op_add (pv 8) pe_int) (pv 1)))))
            pss_nil)
          (Evl.pss_cut (ps_if (pt_cmpR (op_inD (units65 hr)) (pv 7) (pv 5) (by rfl))
            (pss_one (ps_set (i := 7) scOrders.nd rfl (.inl rfl) (pe_op op_cat (pe_slice sl_list (pe_ix ix_list (pv 5) (pe_un un_neg pe_int) (fun _ _ => rfl)) (po_some pe_int) po_none) (pe_slice sl_list (pe_ix ix_list (pv 5) (pe_un un_neg pe_int) (fun _ _ => rfl)) po_none (po_some pe_int)))))
            pss_nil)
          (pss_one (ps_if (pt_cmpR (op_notInD (units65 hr)) (pv 7) (pv 5) (by rfl))
            (pss_one (ps_expr (pe_bm PySem.F.plainAttrs_list PySem.F.slot_list_append PySem.F.type_list_append mt_append (pv 5) (pa_cons (pv 7) pa_nil))))
            pss_nil))))))
          pss_nil)))
      (pss_one (ps_ret (pv 5))))))), ?_⟩
    -- many
    refine ⟨_, rfl, _, rfl, n, rfl, hn2, fun fa hfa => ?_⟩
    refine ⟨_, rfl, d, 6, _, rfl, hD, by omega, by decide, by decide, fun v1 H1 v10 _ D1 k1 => ⟨1, _, rfl, rfl, ?_⟩⟩
    refine ⟨_, rfl, _, rfl, d, _, _, rfl, D1, by omega, by omega, by omega, fun v2 H2 v20 _ D2 k2 => ⟨1, _, rfl, rfl, ?_⟩⟩
    refine ⟨_, rfl, line_small (by show 3 ≤ 16777216; decide), fun t nt => ?_⟩
    have ntd := D2.ne nt
    refine ⟨_, rfl, d, 3, _, rfl, D2.new nt, by omega, by decide, by decide, fun v3 H3 v30 v31 D3 k3 => ?_⟩
    have ht3 := k3 t _ upd_same ntd
    have kk3 : KeepD d H H3 := ((k1.trans k2).trans (KeepD.new nt)).trans k3
    obtain ⟨u, eu, hu⟩ : ∃ u : Int, atI [V.int (1 + v1), V.int (1 + v2), V.int (most : Int)] v3 = some (.int u) ∧ 1 ≤ u := by
      have : v3 = 0 ∨ v3 = 1 ∨ v3 = 2 := by omega
      rcases this with rfl | rfl | rfl
      · exact ⟨1 + v1, rfl, by omega⟩
      · exact ⟨1 + v2, rfl, by omega⟩
      · exact ⟨most, rfl, by omega⟩
    refine ⟨t, _, _, _, rfl, rfl, SqL.of ht3, eu, most, fa, u, rfl, fun many a1 a2 a3 a4 => ?_⟩
    have hmany : 1 ≤ many := by omega
    refine ⟨_, rfl, d, 3, _, rfl, D3, by omega, by decide, by decide, fun wy H4 _ _ D4 k4 => ?_⟩
    refine ⟨_, rfl, _, rfl, d, n, _, rfl, D4, hn2, by omega, fun xs0 a0 H5 ox0 na0 ha0 na0d D5 k5 => ?_⟩
    have kk5 : KeepD d H H5 := (kk3.trans k4).trans k5
    refine ⟨line_small (by show 1 ≤ 16777216; decide), fun l nl => ?_⟩
    have nld := D5.ne nl
    have fa0 : H a0 = none := (kk3.trans k4).none na0 na0d
    have fl : H l = none := kk5.none nl nld
    have nla : l ≠ a0 := (ne_of_none ha0 nl).symm
    refine ⟨_, rfl, 4, _, rfl, rfl, .inl ⟨by decide, by decide⟩, _, rfl, by omega, by omega, ?_⟩
    rw [show (4 * (most : Int)).toNat = 4 * most by omega]
    obtain ⟨ma, ema⟩ : ∃ ma : Nat, many = (ma : Int) := ⟨many.toNat, by omega⟩
    have hma : 1 ≤ ma ∧ ma ≤ most := ⟨by omega, by omega⟩
    have D6 := D5.new (o := .lst [.ref a0]) nl
    have k6 : KeepD d H (upd H5 l (.lst [.ref a0])) := kk5.trans (KeepD.new nl)
    have hl6 : upd H5 l (.lst [.ref a0]) l = some (.lst [.ref a0]) := upd_same
    have ha6 := same_new (o := .lst [.ref a0]) nl _ _ ha0
    generalize upd H5 l (.lst [.ref a0]) = H6 at D6 k6 hl6 ha6 ⊢
    have D7 : PoolAt H6 d (c + 16 + 33 * 0) := D6.mono (by omega)
    clear D5 D4 D3 D2 D1 k5 k4 k3 k2 k1 kk3 kk5 D6 nl ha0 na0 ht3 nt ntd
    refine for_range (n := 4 * most) (fun i σ G => ∃ (as : List Addr) (rs : List (List Int)) (y6 y7 y8 : Option V), σ = [some (.ref d), some (.int n), some (.int most), some (.int many), some (.int wy), some (.ref l), y6, y7, y8] ∧ OL G l as rs n ∧ rs.Nodup ∧ 1 ≤ rs.length ∧ rs.length ≤ ma ∧ (∀ a ∈ as, H a = none ∧ a ≠ d ∧ a ≠ l) ∧ PoolAt G d (c + 16 + 33 * i) ∧ KeepD d H G)
      ⟨[a0], [xs0], _, _, _, rfl, ⟨hl6, ⟨ha6, trivial⟩, fun r hr => by rw [List.mem_singleton.mp hr]; exact ox0, hn1, hn2⟩, List.nodup_cons.mpr ⟨List.not_mem_nil, List.nodup_nil⟩, Nat.le_refl _, hma.1, fun a ha => by rw [List.mem_singleton.mp ha]; exact ⟨fa0, na0d, nla.symm⟩, D7, k6⟩ (fun i σ Gi hi hP => ?_) (fun σ G hP => ?_)
    · obtain ⟨as, rs, y6, y7, y8, rfl, hO, nd, l1, l2, fr, Di, ki⟩ := hP
      have hal := hO.ll.len
      have nda : d ∉ as := fun h => (fr d h).2.1 rfl
      refine ⟨_, rfl, l, _, rfl, .inl (SqL.of hO.top), _, rfl, _, many, rfl, rfl, _, rfl, ite2 (fun cl => ?_) (fun _ => ⟨as, rs, _, _, _, rfl, hO, nd, l1, l2, fr, Di.mono (by omega), ki⟩)⟩
      have lt : rs.length < ma := by
        have := of_decide_eq_true cl
        rw [List.length_map, hal] at this
        omega
      refine ⟨_, rfl, _, rfl, d, n, _, rfl, Di, hn2, by omega, fun xs o G1 ox no ho nod D1 k1 => ?_⟩
      -- the last one
      have lst1 : ∀ {G : Hp}, OL G l as rs n → ∃ a r, atI (as.map V.ref) (-1) = some (.ref a) ∧ r ∈ rs ∧ G a = some (.lst (r.map V.int)) := fun {G} hG => by
        have h1 : as.length - 1 < as.length := by omega
        have ea : as[as.length - 1]? = some (as[as.length - 1]'h1) := List.getElem?_eq_getElem h1
        obtain ⟨r, er, ha⟩ := hG.ll.get ea
        refine ⟨_, r, ?_, List.mem_of_getElem? er, ha⟩
        have e1 : ixN (as.map V.ref).length (-1) = some (as.length - 1) := by
          unfold ixN
          rw [if_neg (by decide), List.length_map, if_pos (by omega)]
          congr 1
          omega
        unfold atI
        rw [e1]
        show (as.map V.ref)[as.length - 1]? = _
        rw [List.getElem?_map, ea]
        rfl
      have M0 : ∀ {G : Hp} {cc : Nat} (o : Addr) (ms : List Int) (y8' : Option V), IsOrd n ms → Gi o = none → o ≠ d → G o = some (.lst (ms.map V.int)) → PoolAt G d cc → cc ≤ c + 16 + 33 * (i + 1) → KeepD d Gi G → ∃ (o' : Addr) (ms' : List Int) (y : Option V), [some (V.ref d), some (.int n), some (.int most), some (.int many), some (.int wy), some (.ref l), some (.int (0 + (i : Int))), some (.ref o), y8'] = [some (V.ref d), some (.int n), some (.int most), some (.int many), some (.int wy), some (.ref l), some (.int (0 + (i : Int))), some (.ref o'), y] ∧ IsOrd n ms' ∧ Gi o' = none ∧ o' ≠ d ∧ G o' = some (.lst (ms'.map V.int)) ∧ PoolAt G d (c + 16 + 33 * (i + 1)) ∧ KeepD d Gi G :=
        fun o ms y8' h1 h2 h3 h4 h5 h6 h7 => ⟨o, ms, y8', rfl, h1, h2, h3, h4, h5.mono h6, h7⟩
      refine ⟨fun τ G => ∃ (o' : Addr) (ms' : List Int) (y : Option V), τ = [some (.ref d), some (.int n), some (.int most), some (.int many), some (.int wy), some (.ref l), some (.int (0 + (i : Int))), some (.ref o'), y] ∧ IsOrd n ms' ∧ Gi o' = none ∧ o' ≠ d ∧ G o' = some (.lst (ms'.map V.int)) ∧ PoolAt G d (c + 16 + 33 * (i + 1)) ∧ KeepD d Gi G, ?_, fun τ G hM => ?_⟩
      · refine ⟨_, rfl, rfl, _, rfl, ite2 (fun _ => ?_) (fun _ => M0 o xs _ ox no nod ho D1 (by omega) k1)⟩
        have hO1 := hO.keepD k1 (fun z => nld z) nda
        refine ⟨_, rfl, _, rfl, _, rfl, _, rfl, l, _, rfl, .inl (SqL.of hO1.top), d, _, _, rfl, D1, by omega, by rw [List.length_map]; omega, by rw [List.length_map]; omega, fun u G2 u0 u1 D2 k2 => ?_⟩
        rw [List.length_map] at u1
        have hO2 := hO1.keepD k2 nld nda
        obtain ⟨j, rfl⟩ : ∃ j : Nat, u = (j : Int) := ⟨u.toNat, by omega⟩
        obtain ⟨a, ea⟩ : ∃ a, as[j]? = some a := ⟨as[j]'(by omega), List.getElem?_eq_getElem (by omega)⟩
        obtain ⟨r, er, ha⟩ := hO2.ll.get ea
        refine ⟨l, _, _, _, rfl, rfl, SqL.of hO2.top, at_of (j := j) rfl (ref_at ea), d, a, n, _, r, rfl, D2, ha, hO.ord r (List.mem_of_getElem? er), hn1, hn2, by omega, fun ms p G3 oms np hp npd D3 k3 => ?_⟩
        exact M0 p ms _ oms ((k1.trans k2).none np npd) npd hp D3 (by omega) ((k1.trans k2).trans k3)
      clear D1 k1 ho no nod ox
      obtain ⟨o, xs, y, rfl, ox, no, nod, ho, D1, k1⟩ := hM
      have hO1 := hO.keepD k1 nld nda
      refine ⟨fun τ G => ∃ (o' : Addr) (ms' : List Int) (y : Option V), τ = [some (.ref d), some (.int n), some (.int most), some (.int many), some (.int wy), some (.ref l), some (.int (0 + (i : Int))), some (.ref o'), y] ∧ IsOrd n ms' ∧ Gi o' = none ∧ o' ≠ d ∧ G o' = some (.lst (ms'.map V.int)) ∧ PoolAt G d (c + 16 + 33 * (i + 1)) ∧ KeepD d Gi G, ?_, fun τ G hM => ?_⟩
      · refine ⟨_, rfl, rfl, _, rfl, ite2 (fun _ => ?_) (fun _ => M0 o xs _ ox no nod ho D1 (Nat.le_refl _) k1)⟩
        obtain ⟨a, r, ea, mr, ha⟩ := lst1 hO1
        refine ⟨_, rfl, 1, rfl, l, _, _, _, rfl, rfl, SqL.of hO1.top, ea, a, rfl, ⟨_, SqL.of ha⟩, fun M nM => ?_⟩
        have sM := same_new (o := .lst []) nM
        have orr := hO.ord r mr
        refine lc_list (K := K) (a := a) (xs := r.map V.int) (fun j A5 => A5 M = some (.lst (((r.take j).map fun x => (x + 1) % (n : Int)).map V.int)) ∧ Same G A5) ⟨upd_same, sM⟩ (fun j A5 _ hP => SqL.of (hP.2 _ _ ha)) (fun j x A5 hx hP => ?_) (fun A5 hP => ?_)
        · obtain ⟨hM, s5⟩ := hP
          obtain ⟨z, ez, rfl⟩ := int_at_inv hx
          have hj : j < n := by rw [← orr.len]; exact (List.getElem?_eq_some_iff.mp ez).1
          refine ⟨rfl, _, rfl, z, 1, rfl, rfl, _, rfl, _, _, rfl, rfl, show (0 : Int) < n by omega, _, hM, line_lt (by rw [List.length_map, List.length_map, List.length_take]; omega), ?_, fun b o hb => ?_⟩
          · rw [upd_same, take_more ez, List.map_append, List.map_append]
            rfl
          · rw [upd_ne (ne_of_none hb nM)]
            exact s5 _ _ hb
        · obtain ⟨hM, s5⟩ := hP
          rw [List.length_map, List.take_length] at hM
          have nMd := D1.ne nM
          exact M0 M _ _ (ord_plus orr hn2) (k1.none nM nMd) nMd hM (D1.same s5) (Nat.le_refl _) (k1.trans (KeepD.of_same s5))
      clear D1 k1 ho no nod ox hO1 o xs
      obtain ⟨o, xs, y, rfl, ox, no, nod, ho, D1, k1⟩ := hM
      have hO1 := hO.keepD k1 nld nda
      refine ⟨fun τ G => ∃ (o' : Addr) (ms' : List Int) (y : Option V), τ = [some (.ref d), some (.int n), some (.int most), some (.int many), some (.int wy), some (.ref l), some (.int (0 + (i : Int))), some (.ref o'), y] ∧ IsOrd n ms' ∧ Gi o' = none ∧ o' ≠ d ∧ G o' = some (.lst (ms'.map V.int)) ∧ PoolAt G d (c + 16 + 33 * (i + 1)) ∧ KeepD d Gi G, ?_, fun τ G hM => ?_⟩
      · refine ⟨_, rfl, _, rfl, dL xs, rs.map dL, dp_list ho, dp_lists hO1.top hO1.ll, shaped_list _, shaped_lists _, _, rfl, ?_⟩
        rw [any_row]
        by_cases ci : xs ∈ rs
        · rw [decide_eq_true ci]
          refine iteT ?_
          obtain ⟨a, r, ea, mr, ha⟩ := lst1 hO1
          have orr := hO.ord r mr
          refine ⟨_, rfl, 1, rfl, l, _, _, _, rfl, rfl, SqL.of hO1.top, ea, _, rfl, a, _, rfl, SqL.of ha, fun c1 nc1 => ?_⟩
          have e1 : cutV (r.map V.int) (some 1) none = (r.drop 1).map V.int := by rw [cut_ints]; exact congrArg _ (cutI_tail r 1)
          rw [e1]
          have s5 := same_new (o := .lst ((r.drop 1).map V.int)) nc1
          have hO5 := hO1.same s5
          refine ⟨_, rfl, 1, rfl, l, _, _, _, rfl, rfl, SqL.of hO5.top, ea, _, rfl, a, _, rfl, SqL.of (s5 _ _ ha), fun c2 nc2 => ?_⟩
          have e2 : cutV (r.map V.int) none (some 1) = (r.take 1).map V.int := by rw [cut_ints]; exact congrArg _ (cutI_head r 1)
          rw [e2]
          have s6 := same_new (o := .lst ((r.take 1).map V.int)) nc2
          have hrl := orr.len
          refine ⟨c1, c2, _, _, rfl, rfl, s6 _ _ upd_same, upd_same, line_small (by rw [List.length_map, List.length_map, List.length_drop, List.length_take]; omega), fun z nz => ?_⟩
          have s7 := same_new (o := .lst ((r.drop 1).map V.int ++ (r.take 1).map V.int)) nz
          have s567 := (s5.trans s6).trans s7
          have nzG := (s5.trans s6).free nz
          have nzd := D1.ne nzG
          exact M0 z (r.drop 1 ++ r.take 1) _ (ord_rot orr) (k1.none nzG nzd) nzd (by rw [upd_same, List.map_append]) (D1.same s567) (Nat.le_refl _) (k1.trans (KeepD.of_same s567))
        · rw [decide_eq_false ci]
          exact iteF (M0 o xs _ ox no nod ho D1 (Nat.le_refl _) k1)
      clear D1 k1 ho no nod ox hO1 o xs
      obtain ⟨o, xs, y, rfl, ox, no, nod, ho, D1, k1⟩ := hM
      have hO1 := hO.keepD k1 nld nda
      refine ⟨_, rfl, _, rfl, dL xs, rs.map dL, dp_list ho, dp_lists hO1.top hO1.ll, shaped_list _, shaped_lists _, _, rfl, ?_⟩
      show (if (!(rs.map dL).any fun z => PyData.eqv z (dL xs)) = true then _ else _)
      rw [any_row]
      by_cases ci : xs ∈ rs
      · rw [decide_eq_true ci]
        exact iteF ⟨as, rs, _, _, _, rfl, hO1, nd, l1, l2, fr, D1, ki.trans k1⟩
      · rw [decide_eq_false ci]
        have nol : o ≠ l := fun z => by rw [z, hO.top] at no; cases no
        refine iteT ⟨_, rfl, .inl ⟨rfl, _, SqL.of hO1.top⟩, _, rfl, l, _, _, rfl, rfl, hO1.top, line_lt (by rw [List.length_map]; omega), ?_⟩
        refine ⟨as ++ [o], rs ++ [xs], _, _, _, rfl, ⟨by rw [upd_same, List.map_append]; rfl, ?_, fun r hr => ?_, hn1, hn2⟩, nodup_snoc nd ci, by rw [List.length_append]; omega, by rw [List.length_append]; show _ + 1 ≤ _; omega, fun a ha => ?_, D1.upd nld, fun b o' hb nb => ?_⟩
        · refine LL.snoc (hO1.ll.keep fun a ha o' e => by rw [upd_ne (fr a ha).2.2]; exact e) ?_
          rw [upd_ne nol]
          exact ho
        · rcases List.mem_append.mp hr with hr | hr
          · exact hO.ord r hr
          · rw [List.mem_singleton.mp hr]; exact ox
        · rcases List.mem_append.mp ha with ha | ha
          · exact fr a ha
          · rw [List.mem_singleton.mp ha]
            exact ⟨ki.none no nod, nod, nol⟩
        · rw [upd_ne (ne_of_none hb fl)]
          exact k1 _ _ (ki b o' hb nb) nb
    · obtain ⟨as, rs, y6, y7, y8, rfl, hO, nd, l1, l2, fr, Di, ki⟩ := hP
      refine ⟨_, rfl, q l as rs G hO nd l1 (by omega) fl (fun a ha => (fr a ha).1) nld (fun h => (fr d h).2.1 rfl) (fun h => (fr l h).2.2 rfl) (Di.mono ?_) ki⟩
      have : 33 * (4 * most) ≤ 33 * (4 * 120) := Nat.mul_le_mul_left _ (Nat.mul_le_mul_left _ hm2)
      omega
end
end Fo
namespace Fo
open PySem PySem.Spec PyProof.Rows L2
/-! k53: what nearest_of and led_back tell, as data -/
abbrev dNr (m : Int) (rs : List (List Int)) : PyData := .tuple [.int m, dLL rs]
theorem shaped_T (m : Int) (rs : List (List Int)) : SeqAt.shaped (dNr m rs) = true := by
  unfold SeqAt.shaped
  rw [Bool.and_eq_true_iff]
  constructor
  · have h := SeqAt.canLay_of_shaped (shaped_lists rs)
    simp only [dNr, PyData.canLay0, PyData.canLayAll0, Bool.and_eq_true, Bool.and_true, Bool.true_and] at h ⊢
    exact h
  · apply decide_eq_true
    have h := depth_lists rs
    simp only [dNr, PyData.depth, PyData.depthAll]
    omega
theorem eqv_T (m : Int) (rs : List (List Int)) : PyData.eqv (dNr m rs) (dNr m rs) = true := SeqAt.eqv_refl _ (SeqAt.canLay_of_shaped (shaped_T m rs))
theorem dp_T {K : PySem.W.Frag} {H : Hp} {t l : Addr} {as : List Addr} {rs : List (List Int)} {m : Int} (ht : H t = some (.tup [.int m, .ref l])) (hl : H l = some (.lst (as.map V.ref))) (hL : LL H as rs) : Dp K H (.ref t) (dNr m rs) := .tup (SqT.of ht) (.cons (.int m) (.cons (dp_lists hl hL) .nil))
theorem ne_one (x : PyData) : PyData.eqv (.tuple [.str "one", x]) (.tuple [.str "none"]) = false := by
  have h : PyData.eqv (.str "one") (.str "none") = false := by decide +kernel
  simp [PyData.eqv, PyData.eqvAll, h]
theorem ne_sev (x : PyData) : PyData.eqv (.tuple [.str "several", x]) (.tuple [.str "none"]) = false := by
  simp [PyData.eqv, PyData.eqvAll]
theorem LeastF.uniq {w : Str} {xs : List Int} {rs : List (List Int)} {m m' : Int} (h : LeastF w xs rs m) (h' : LeastF w xs rs m') : m = m' := by
  have := h.2 _ h'.1
  have := h'.2 _ h.1
  omega
theorem farN (w : Str) (xs ys : List Int) : 0 ≤ farW w xs ys := by
  unfold farW
  split
  · unfold farSwap; omega
  · split
    · unfold farSpot; omega
    · unfold farShift
      have : ∀ l : List Int, 0 ≤ maxL l := fun l => by
        induction l with
        | nil => exact Int.le_refl _
        | cons a l ih => show 0 ≤ max a (maxL l); omega
      exact this _
theorem LeastF.nn {w : Str} {xs : List Int} {rs : List (List Int)} {m : Int} (h : LeastF w xs rs m) : 0 ≤ m := by
  obtain ⟨r, _, e⟩ := List.mem_map.mp h.1
  rw [← e]
  exact farN _ _ _
theorem those_eq {w : Str} {xs : List Int} {rs : List (List Int)} {m : Int} (h : LeastF w xs rs m) : thoseL w xs rs m = rs.filter fun o => decide (farW w xs o = m) := by
  refine List.filter_congr fun o ho => ?_
  have := h.2 _ (List.mem_map_of_mem ho)
  rw [decide_eq_decide]
  omega
theorem those_less {w : Str} {xs : List Int} {rs : List (List Int)} {m : Int} (h : LeastF w xs rs m) : thoseL w xs rs (m - 1) = [] := List.filter_eq_nil_iff.mpr fun o ho z => by
  have := h.2 _ (List.mem_map_of_mem ho)
  have := of_decide_eq_true z
  omega
theorem those_all {w : Str} {xs : List Int} {rs : List (List Int)} {m : Int} (h : ∀ y ∈ rs.map (farW w xs), y ≤ m) : thoseL w xs rs m = rs := List.filter_eq_self.mpr fun o ho => decide_eq_true (h _ (List.mem_map_of_mem ho))
/-- the same of others that lie alike -/
theorem LeastF.alike {w : Str} {xs ys : List Int} {rs qs : List (List Int)} {m m' : Int} (h : LeastF w xs rs m) (h' : LeastF w ys qs m') (e : ∀ y, y ∈ qs.map (farW w ys) ↔ y ∈ rs.map (farW w xs)) : m' = m := by
  have h1 := h.2 _ ((e _).mp h'.1)
  have h2 := h'.2 _ ((e _).mpr h.1)
  omega
theorem those_map {w : Str} {xs : List Int} {rs : List (List Int)} {m : Int} {f : List Int → List Int} (hf : ∀ r ∈ rs, farW w (f xs) (f r) = farW w xs r) : thoseL w (f xs) (rs.map f) m = (thoseL w xs rs m).map f := by
  unfold thoseL
  rw [List.filter_map]
  congr 1
  exact List.filter_congr fun r hr => by
    show decide (farW w (f xs) (f r) ≤ m) = _
    rw [hf r hr]
theorem map_far {w : Str} {xs : List Int} {rs : List (List Int)} {f : List Int → List Int} (hf : ∀ r ∈ rs, farW w (f xs) (f r) = farW w xs r) : (rs.map f).map (farW w (f xs)) = rs.map (farW w xs) := by
  rw [List.map_map]
  exact List.map_congr_left fun r hr => hf r hr
theorem map_nodup {w : Str} {n : Nat} {f : List Int → List Int} {rs : List (List Int)} (hw : IsWay w) (hn : 1 ≤ n) (ors : ∀ r ∈ rs, IsOrd n r) (of : ∀ r ∈ rs, IsOrd n (f r)) (u : rs.Nodup) (hf : ∀ x ∈ rs, ∀ y ∈ rs, farW w (f x) (f y) = farW w x y) : (rs.map f).Nodup := by
  refine List.pairwise_map.mpr ?_
  refine List.Pairwise.imp_of_mem ?_ u
  intro x z hx hz nxz e
  have h := hf x hx z hz
  rw [e, farW_self (of z hz) hn] at h
  exact nxz (farW_zero hw (ors x hx) (ors z hz) hn h.symm)
theorem those_self {w : Str} {n : Nat} {x : List Int} {rs : List (List Int)} (hw : IsWay w) (hn : 1 ≤ n) (ors : ∀ r ∈ rs, IsOrd n r) (u : rs.Nodup) (hx : x ∈ rs) : thoseL w x rs 0 = [x] := by
  have h1 : thoseL w x rs 0 = rs.filter fun o => decide (o = x) := by
    refine List.filter_congr fun o ho => ?_
    rw [decide_eq_decide]
    constructor
    · intro h
      have := farN w x o
      exact (farW_zero hw (ors x hx) (ors o ho) hn (by omega)).symm
    · intro h
      rw [h, farW_self (ors x hx) hn]
      exact Int.le_refl 0
  rw [h1]
  clear h1 ors
  induction rs with
  | nil => exact absurd hx List.not_mem_nil
  | cons r rs ih =>
    obtain ⟨h1, h2⟩ := List.nodup_cons.mp u
    by_cases c : r = x
    · subst c
      rw [List.filter_cons, if_pos (decide_eq_true rfl)]
      congr 1
      exact List.filter_eq_nil_iff.mpr fun o ho z => h1 ((of_decide_eq_true z) ▸ ho)
    · rw [List.filter_cons, if_neg (by rw [decide_eq_false c]; decide)]
      exact ih h2 ((List.mem_cons.mp hx).resolve_left fun z => c z.symm)
theorem least_self {w : Str} {n : Nat} {x : List Int} {rs : List (List Int)} {m : Int} (hn : 1 ≤ n) (ox : IsOrd n x) (hx : x ∈ rs) (h : LeastF w x rs m) : m = 0 := by
  have h1 := h.2 _ (List.mem_map_of_mem hx)
  rw [farW_self ox hn] at h1
  have := h.nn
  omega
theorem g0_back {n : Nat} {ns : List Int} (on : IsOrd n ns) : ∀ r, IsOrd n r → ∀ ps : List Int, IsBack ns ps → IsOrd n ps → behindL ps (behindL ns r) = r := fun r or ps hb ops => by
  have e : behindL ps (behindL ns r) = r.map fun x => g0 ps (g0 ns x) := by
    show ((r.map (g0 ns)).map (g0 ps)) = _
    rw [List.map_map]
    rfl
  rw [e]
  have : r.map (fun x => g0 ps (g0 ns x)) = r.map id := List.map_congr_left fun x hx => by
    have h1 := rg_mem.mp ((List.Perm.mem_iff or).mp hx)
    obtain ⟨y, hy, _⟩ := ord_ix on (j := x.toNat) (by omega)
    have e0 := g0_at hy
    rw [Int.toNat_of_nonneg h1.1] at e0
    have hy1 := rg_mem.mp ((List.Perm.mem_iff on).mp (List.mem_of_getElem? hy))
    have e1 := back_pos on hb hy1.1 hy1.2
    have e2 := g0_at e1
    rw [Int.toNat_of_nonneg hy1.1] at e2
    show g0 ps (g0 ns x) = x
    rw [e0, e2, pos_of on hy]
    omega
  rw [this, List.map_id]
/-- min of two pairs whose numbers differ -/
def rMinT (K : PySem.W.Frag) : List V → Hp → VK → Prop := fun xs H Q => ∃ (a t1 t2 : Addr) (m1 m2 : Int) (r1 r2 : List (List Int)), xs = [.ref a] ∧ SqL K H a [.ref t1, .ref t2] ∧ Dp K H (.ref t1) (dNr m1 r1) ∧ Dp K H (.ref t2) (dNr m2 r2) ∧ m1 ≠ m2 ∧ Q (.ref (if m2 < m1 then t2 else t1)) H
theorem alike_L (a b : List Int) : PySem.W.alike (dL a) (dL b) = true := by
  simp only [PySem.W.alike]
  exact PySem.W.alike_ints _ _
theorem alikeAll_Ls : ∀ r1 r2 : List (List Int), PySem.W.alikeAll (r1.map dL) (r2.map dL) = true
  | [], _ => by simp [PySem.W.alikeAll]
  | _ :: _, [] => by simp [PySem.W.alikeAll]
  | a :: r1, b :: r2 => by
    rw [List.map_cons, List.map_cons, PySem.W.alikeAll, alike_L, alikeAll_Ls r1 r2]
    rfl
theorem alike_Ls (r1 r2 : List (List Int)) : PySem.W.alike (dLL r1) (dLL r2) = true := by
  simp only [PySem.W.alike]
  exact alikeAll_Ls _ _
theorem alike_T (m1 m2 : Int) (r1 r2 : List (List Int)) : PySem.W.alike (dNr m1 r1) (dNr m2 r2) = true := by
  simp only [PySem.W.alike, PySem.W.alikeAll, alikeAll_Ls, Bool.and_true]
theorem lt_T {m1 m2 : Int} {r1 r2 : List (List Int)} (h : m1 ≠ m2) : PySem.W.dataLt (dNr m1 r1) (dNr m2 r2) = decide (m1 < m2) := by
  rw [PySem.W.dataLt_pair (by simp [PySem.W.alike]) (alike_Ls _ _)]
  have e : PyData.eqv (.int m1) (.int m2) = (m1 == m2) := eqv_int m1 m2
  rw [e, show (m1 == m2) = false from by simp [h], if_neg (by decide), PySem.W.dataLt_int]
theorem depth_T (m : Int) (rs : List (List Int)) : (dNr m rs).depth ≤ 3 := by
  have h := depth_lists rs
  simp only [dNr, PyData.depth, PyData.depthAll]
  omega
theorem read_one {h : Heap} {v : Value} {d : PyData} {as : List Addr} (r : Reads h v d as) (hc : PyData.canLay0 d = true) : SeqAt.readOf h v = d := by
  have := SeqAt.readsAll_map [d] [v] _ (by simp [PyData.canLayAll0, hc]) (.cons r .nil)
  simpa using this
theorem cr_minT {X : Cx} (hu : X.A.units + 64 < cLine) (calm : X.calm = true) : CallR X (.builtin "min") (rMinT X.K) := by
  intro pins s σ H vs us Q I r h
  obtain ⟨a, t1, t2, m1, m2, r1, r2, rfl, hs, d1, d2, ne, q⟩ := h
  obtain rfl := Vals.ref1 r
  obtain ⟨its, rv, pl, _⟩ := I.list hs
  obtain ⟨as, ra⟩ := Dp.readsAll I [dNr m1 r1, dNr m2 r2] _ its (.cons d1 (.cons d2 .nil)) rv
  cases rv with
  | @cons _ u1 _ _ e1 rv =>
    cases rv with
    | @cons _ u2 _ _ e2 rv =>
      cases rv with
      | nil =>
        have hm : PySem.W.minD (dNr m1 r1) [dNr m2 r2] = if m2 < m1 then dNr m2 r2 else dNr m1 r1 := by
          show (if PySem.W.dataLt (dNr m2 r2) (dNr m1 r1) = true then _ else _) = _
          rw [lt_T ne.symm]
          by_cases c : m2 < m1
          · rw [if_pos (decide_eq_true c), if_pos c]
          · rw [if_neg (fun z => c (of_decide_eq_true z)), if_neg c]
        refine PySem.W.min_list_data (I.ok.hd calm) pl.isList ra ⟨fun x hx y hy => ?_, fun x hx => ?_⟩ ?_ fun i v h' tk bs hi hv kp => ?_
        · simp only [List.mem_cons, List.not_mem_nil, or_false] at hx hy
          rcases hx with rfl | rfl <;> rcases hy with rfl | rfl <;> exact alike_T _ _ _ _
        · simp only [List.mem_cons, List.not_mem_nil, or_false] at hx
          rcases hx with rfl | rfl <;> exact fun z => by cases z
        · have h1 := depth_T m1 r1
          have h2 := depth_T m2 r2
          simp only [PyData.depthAll]
          omega
        · have I' := I.kept (t' := tk) kp
          rw [hm] at hv
          have hne : dNr m1 r1 ≠ dNr m2 r2 := fun z => by
            have := PyData.tuple.inj z
            have := (List.cons.inj this).1
            exact ne (PyData.int.inj this)
          have c1 := SeqAt.canLay_of_shaped (shaped_T m1 r1)
          have c2 := SeqAt.canLay_of_shaped (shaped_T m2 r2)
          obtain ⟨b1, rd1⟩ := Dp.reads I' _ _ _ d1 e1
          obtain ⟨b2, rd2⟩ := Dp.reads I' _ _ _ d2 e2
          have o1 := read_one rd1 c1
          have o2 := read_one rd2 c2
          by_cases c : m2 < m1
          · rw [if_pos c] at hv q
            have ov := read_one hv c2
            match i, hi with
            | 0, hi =>
              have : v = u1 := (Option.some.inj hi).symm
              rw [this, o1] at ov
              exact absurd ov hne
            | 1, hi =>
              have : v = u2 := (Option.some.inj hi).symm
              exact ⟨.ref t2, H, I', by rw [this]; exact e2, q⟩
            | i + 2, hi => simp at hi
          · rw [if_neg c] at hv q
            have ov := read_one hv c1
            match i, hi with
            | 0, hi =>
              have : v = u1 := (Option.some.inj hi).symm
              exact ⟨.ref t1, H, I', by rw [this]; exact e1, q⟩
            | 1, hi =>
              have : v = u2 := (Option.some.inj hi).symm
              rw [this, o2] at ov
              exact absurd ov.symm hne
            | i + 2, hi => simp at hi
end Fo
namespace Fo
open PySem PySem.Spec PyProof.Rows L2
/-- where a thing stands in an order -/
theorem idx_read {K : PySem.W.Frag} {H : Hp} {a : Addr} {n : Nat} {ys : List Int} {x : Int} {Q : VK} (o : IsOrd n ys) (h : H a = some (.lst (ys.map V.int))) (x0 : 0 ≤ x) (x1 : x < n) (q : Q (.int (pos ys x)) H) : rIndex K (.ref a) [.int x] H Q := by
  obtain ⟨j, hj, ej, pj⟩ := pos_at o x0 x1
  refine ⟨a, _, _, j, _, rfl, rfl, SqL.of h, rfl, flat_ints ys, int_at ej, ?_, fun u z' hu hz' => ?_, ?_⟩
  · show (x == x) = true
    exact beq_self_eq_true _
  · obtain ⟨y, ey, rfl⟩ := int_at_inv hz'
    show (y == x) = false
    rw [beq_eq_false_iff_ne]
    intro e
    subst e
    exact absurd (nd_ix o.nodup ey ej) (by omega)
  · rw [← pj]
    exact q
theorem idx_facts {n : Nat} {ys : List Int} {x : Int} (o : IsOrd n ys) (x0 : 0 ≤ x) (x1 : x < n) : ∃ j : Nat, (ys.map V.int)[j]? = some (V.int x) ∧ eqV (V.int x) (V.int x) = true ∧ (∀ (m : Nat) (z' : V), m < j → (ys.map V.int)[m]? = some z' → eqV z' (V.int x) = false) ∧ ((j : Nat) : Int) = pos ys x := by
  obtain ⟨j, hj, ej, pj⟩ := pos_at o x0 x1
  refine ⟨j, int_at ej, ?_, fun u z' hu hz' => ?_, pj.symm⟩
  · show (x == x) = true
    exact beq_self_eq_true _
  · obtain ⟨y, ey, rfl⟩ := int_at_inv hz'
    show (y == x) = false
    rw [beq_eq_false_iff_ne]
    intro e
    subst e
    exact absurd (nd_ix o.nodup ey ej) (by omega)
end Fo
namespace Fo
open PySem PySem.Spec PyProof.Rows L2
theorem lc_zipL {K : PySem.W.Frag} {a b : Addr} {xs ys : List V} {g : TG} {tt : TT} {te : TE} {vs : List Nat} {σ : L2.St} {H1 : Hp} {D : Addr} {Qd : Hp → Prop} (hlen : xs.length = ys.length) (Pv : Nat → Hp → Prop) (h0 : Pv 0 (upd H1 D (.lst []))) (hl : ∀ i H, i ≤ xs.length → Pv i H → SqL K H a xs ∧ SqL K H b ys)
    (hs : ∀ (i : Nat) (x y : V) (T : Addr) (H : Hp), xs[i]? = some x → ys[i]? = some y → Pv i H → H T = none → g (.ref T) (wipe σ vs) (upd H T (.tup [x, y])) fun σ2 H2 => wipe σ2 vs = wipe σ vs ∧ tt σ2 H2 fun b H3 =>
      if b = true then te σ2 H3 fun y H4 => ∃ acc, H4 D = some (.lst acc) ∧ acc.length < sizeLine ∧ Pv (i + 1) (upd H4 D (.lst (acc ++ [y]))) else Pv (i + 1) H3) (hd : ∀ H, Pv xs.length H → Qd H) :
    ∃ W : Nat → Nat → Hp → Prop, (∃ m, W 0 m (upd H1 D (.lst []))) ∧ ∀ i m H, W i m H →
      ((Itz K a b).stop i H ∧ Qd H) ∨ ((Itz K a b).go i H ∧ ∃ Nx : Hp → Prop, (∀ H', Nx H' → ∃ m', m' < m ∧ W (i + 1) m' H') ∧ ∀ x H', (Itz K a b).yld i H x H' → g x (wipe σ vs) H' fun σ2 H2 => wipe σ2 vs = wipe σ vs ∧ tt σ2 H2 fun b H3 =>
        if b = true then te σ2 H3 fun y H4 => ∃ acc, H4 D = some (.lst acc) ∧ acc.length < sizeLine ∧ Nx (upd H4 D (.lst (acc ++ [y]))) else Nx H3) := by
  refine ⟨fun i m H => m = xs.length - i ∧ i ≤ xs.length ∧ Pv i H, ⟨xs.length, by simp, Nat.zero_le _, h0⟩, ?_⟩
  rintro i m H ⟨rfl, hi, p⟩
  obtain ⟨q1, q2⟩ := hl i H hi p
  by_cases hlt : i < xs.length
  · refine .inr ⟨⟨xs, ys, xs[i], ys[i], q1, q2, by simp [hlt], List.getElem?_eq_getElem (by omega)⟩, Pv (i + 1), fun H' p' => ⟨xs.length - (i + 1), by omega, rfl, hlt, p'⟩, fun x H' y => ?_⟩
    obtain ⟨T, x', y', rfl, hT, rfl, f1, f2⟩ := y
    exact hs i x' y' T H (f1 xs q1) (f2 ys q2) p hT
  · have e : i = xs.length := by omega
    subst e
    exact .inl ⟨⟨xs, ys, q1, q2, .inl (Nat.le_refl _)⟩, hd H p⟩
end Fo
namespace Fo
open PySem PySem.Spec PyProof.Rows L2
theorem absI_comm (a b : Int) : absI (a - b) = absI (b - a) := by
  unfold absI
  split <;> split <;> omega
theorem below_cut (f : Int → Bool) : ∀ (n j : Nat), j ≤ n → sumN (rg n) (fun i => ind (decide (i < (j : Int)) && f i)) = sumN (rg j) (fun i => ind (f i))
  | 0, j, h => by
    have : j = 0 := by omega
    subst this
    rfl
  | n + 1, j, h => by
    by_cases c : j ≤ n
    · rw [rg_succ, sumN_append, below_cut f n j c, sumN_cons, sumN_nil, decide_eq_false (show ¬ (n : Int) < (j : Int) by omega)]
      rfl
    · have e : j = n + 1 := by omega
      subst e
      apply sumN_congr
      intro i hi
      have := rg_mem.mp hi
      rw [decide_eq_true (show i < ((n + 1 : Nat) : Int) by omega), Bool.true_and]
theorem swap_below {n : Nat} {xs ys : List Int} (ox : IsOrd n xs) : farSwap xs ys = ((sumN (rg n) (fun p => sumN (rg p.toNat) fun q => ind (decide (g0 (seatsL xs ys) p < g0 (seatsL xs ys) q))) : Nat) : Int) := by
  unfold farSwap
  rw [inv_eq, seats_len, ox.len]
  unfold invF
  rw [sumN_swap]
  congr 1
  apply sumN_congr
  intro j hj
  have hb := rg_mem.mp hj
  have := below_cut (fun i => decide (g0 (seatsL xs ys) j < g0 (seatsL xs ys) i)) n j.toNat (by omega)
  rw [Int.toNat_of_nonneg hb.1] at this
  exact this
section
variable {P : Program} {w : World} {K : PySem.W.Frag} {mg : Str → Option Value} {base : Heap}
theorem scLAp : FnScope ["way", "one", "other", "there", "found", "p", "a", "b", "thing", "q"] ["way", "one", "other"] (defScope s_law_apart) := ⟨rfl, rfl, rfl, by decide +kernel, rfl, by decide +kernel, by decide +kernel⟩
set_option maxHeartbeats 4000000 in
theorem ok_law_apart {f : Addr} {fd : FuncData} {k : Nat} (T : Df K mg "_law_apart" s_law_apart ["way", "one", "other"] f fd) (B : Bi mg) : FnOk P w K mg base CX0 (k + 1) f fd ["way", "one", "other"] spFar := by
  refine T.F.ok scLAp (fun vs H Q E h => ?_) (fun cdv A outer s H vs Q E hr h => ?_)
  · obtain ⟨z, a, b, n, xs, ys, rfl, _⟩ := h
    rfl
  · obtain ⟨z, a, b, n, xs, ys, rfl, hz, ha, hb, ox, oy, hn1, hn2, q⟩ := h
    have hxl : (xs.map V.int).length = n := by rw [List.length_map, ox.len]
    have hyl : (ys.map V.int).length = n := by rw [List.length_map, oy.len]
    have hsl : ((seatsL xs ys).map V.int).length = n := by rw [List.length_map, seats_len, ox.len]
    refine ⟨_, 
      (pss_cons (ps_if (pt_cmpR op_eq (pv 0) pe_str (nomark _))
        (pss_one (ps_ret (pe_callB call_len_seq (by rfl) B.len PySem.boot_len (pa_cons (pe_lc (own := [("a", 6), ("b", 7)]) (g := (gTup K 2 (gCons (gName 6) (gCons (gName 7) gNil)))) (tt := (tTest (tOp rNe (tVar 6) (tVar 7)))) (te := (tC (.int 1))) rfl scLAp.nd (pi_zip (by rfl) B.zip (pa_cons (pv 1) (pa_cons (pv 2) pa_nil))) (blkOk_by (N := ["way", "one", "other", "there", "found", "p", "a", "b", "thing", "q"]) (sc := defScope s_law_apart) (by decide +kernel)) (fun _ _ _ _ _ => (pg_tup (by rfl) (pgs_cons (pg_name (i := 6) scLAp.nd rfl (.inl rfl)) (pgs_cons (pg_name (i := 7) scLAp.nd rfl (.inl rfl)) pgs_nil)))) (fun _ _ _ _ _ => (pts_one (pt_cmpR op_ne (pv 6) (pv 7) (nomark _)))) (fun _ _ _ _ _ => pe_int)) pa_nil))))
        pss_nil)
      (pss_cons (ps_set (i := 3) scLAp.nd rfl (.inr rfl) (pe_lc (own := [("thing", 8)]) (g := (gName 8)) (tt := tYes) (te := (tBM K "list" (rIndex K) (tVar 2) (tCons (tVar 8) tNil))) rfl scLAp.nd (pi_list (pv 1)) (blkOk_by (N := ["way", "one", "other", "there", "found", "p", "a", "b", "thing", "q"]) (sc := defScope s_law_apart) (by decide +kernel)) (fun _ _ _ _ _ => (pg_name (i := 8) scLAp.nd rfl (.inl rfl))) (fun _ _ _ _ _ => pts_nil) (fun _ _ _ _ _ => (pe_bm PySem.F.plainAttrs_list PySem.F.slot_list_index PySem.F.type_list_index mt_index (pv 2) (pa_cons (pv 8) pa_nil)))))
      (pss_cons (ps_if (pt_cmpR op_eq (pv 0) pe_str (nomark _))
        (pss_one (ps_ret (pe_callB (cr_max rfl) (by rfl) B.max (by decide +kernel) (pa_cons (pe_lc (own := [("p", 5)]) (g := (gName 5)) (tt := tYes) (te := (tCB rAbs (tCons (tOp (rI0 fun i j => .int (i - j)) (tOp (rIxL K) (tVar 3) (tVar 5)) (tVar 5)) tNil))) rfl scLAp.nd (pi_range1 (by rfl) B.range (pa_cons (pe_callB call_len_seq (by rfl) B.len PySem.boot_len (pa_cons (pv 3) pa_nil)) pa_nil)) (blkOk_by (N := ["way", "one", "other", "there", "found", "p", "a", "b", "thing", "q"]) (sc := defScope s_law_apart) (by decide +kernel)) (fun _ _ _ _ _ => (pg_name (i := 5) scLAp.nd rfl (.inl rfl))) (fun _ _ _ _ _ => pts_nil) (fun _ _ _ _ _ => (pe_callB call_abs (by rfl) B.abs (by decide +kernel) (pa_cons (pe_op op_sub (pe_ix ix_list (pv 3) (pv 5) (fun _ _ => rfl)) (pv 5)) pa_nil)))) pa_nil))))
        pss_nil)
      (pss_cons (ps_set (i := 4) scLAp.nd rfl (.inl rfl) pe_int)
      (pss_cons (ps_for PassesOwn.never rfl (pi_range1 (by rfl) B.range (pa_cons (pe_callB call_len_seq (by rfl) B.len PySem.boot_len (pa_cons (pv 3) pa_nil)) pa_nil)) (pg_name (i := 5) scLAp.nd rfl (.inr rfl))
        (pss_one (ps_set (i := 4) scLAp.nd rfl (.inl rfl) (pe_op op_add (pv 4) (pe_callB call_len_seq (by rfl) B.len PySem.boot_len (pa_cons (pe_lc (own := [("q", 9)]) (g := (gName 9)) (tt := (tTest (tOp (rI0 fun i j => .bl (decide (j < i))) (tOp (rIxL K) (tVar 3) (tVar 9)) (tOp (rIxL K) (tVar 3) (tVar 5))))) (te := (tC (.int 1))) rfl scLAp.nd (pi_range1 (by rfl) B.range (pa_cons (pv 5) pa_nil)) (blkOk_by (N := ["way", "one", "other", "there", "found", "p", "a", "b", "thing", "q"]) (sc := defScope s_law_apart) (by decide +kernel)) (fun _ _ _ _ _ => (pg_name (i := 9) scLAp.nd rfl (.inl rfl))) (fun _ _ _ _ _ => (pts_one (pt_cmpR op_gt (pe_ix ix_list (pv 3) (pv 9) (fun _ _ => rfl)) (pe_ix ix_list (pv 3) (pv 5) (fun _ _ => rfl)) (nomark _)))) (fun _ _ _ _ _ => pe_int)) pa_nil))))))
      (pss_one (ps_ret (pv 4)))))))), ?_⟩
    by_cases cs : z = "spot"
    · subst cs
      refine ⟨_, rfl, rfl, _, rfl, ite2 (fun _ => ?_) (fun c => absurd (by decide +kernel) c)⟩
      refine ⟨_, rfl, _, rfl, a, b, _, _, rfl, SqL.of ha, SqL.of hb, fun D nD => ?_⟩
      refine lc_zipL (K := K) (a := a) (b := b) (xs := xs.map V.int) (ys := ys.map V.int) (by rw [hxl, hyl]) (fun m H3 => H3 D = some (.lst (((rg m).filter (fun p => !decide (g0 xs p = g0 ys p))).map (fun _ => V.int 1))) ∧ Same H H3) ⟨upd_same, same_new nD⟩ (fun m H3 _ hP => ⟨SqL.of (hP.2 _ _ ha), SqL.of (hP.2 _ _ hb)⟩) (fun m u v t H3 hu hv hP nt => ?_) (fun H3 hP => ?_)
      · obtain ⟨hD3, sm⟩ := hP
        obtain ⟨x, ex, rfl⟩ := int_at_inv hu
        obtain ⟨y, ey, rfl⟩ := int_at_inv hv
        have hm := (List.getElem?_eq_some_iff.mp ex).1
        rw [ox.len] at hm
        have gx : g0 xs (m : Int) = x := g0_at ex
        have gy : g0 ys (m : Int) = y := g0_at ey
        have s3 := same_new (o := .tup [.int x, .int y]) nt
        have fm : ((rg (m + 1)).filter fun p => !decide (g0 xs p = g0 ys p)) = ((rg m).filter fun p => !decide (g0 xs p = g0 ys p)) ++ (if x = y then [] else [(m : Int)]) := by
          rw [rg_succ, List.filter_append, List.filter_cons, gx, gy]
          congr 1
          by_cases c : x = y
          · simp [c]
          · simp [c]
        refine ⟨t, _, rfl, .inl (.inl upd_same), rfl, _, _, rfl, _, _, rfl, rfl, rfl, ?_⟩
        refine ⟨_, rfl, _, rfl, rfl, _, rfl, ?_⟩
        by_cases c : x = y
        · subst c
          refine iteNS rfl ⟨?_, sm.trans s3⟩
          rw [fm, if_pos rfl, List.append_nil]
          exact s3 _ _ hD3
        · rw [decide_eq_false (fun e => c (V.int.inj e))]
          refine iteT ⟨_, s3 _ _ hD3, line_lt ?_, ?_, fun u o e => ?_⟩
          · rw [List.length_map]
            refine Nat.lt_of_le_of_lt (List.length_filter_le _ _) ?_
            rw [rg_len]
            omega
          · rw [upd_same, fm, if_neg c, List.map_append]
            rfl
          · rw [upd_ne (ne_of_none e nD)]
            exact s3 _ _ (sm _ _ e)
      · obtain ⟨hD3, sm⟩ := hP
        refine ⟨D, _, rfl, .inl (SqL.of hD3), ?_⟩
        have z := q H3 sm
        rw [farW_spot] at z
        unfold farSpot spotL at z
        rw [List.length_map, hxl]
        rw [ox.len] at z
        exact z
    · have csn : ¬ decide (V.str z = V.str "spot") = true := fun c => cs (V.str.inj (of_decide_eq_true c))
      refine ⟨_, rfl, rfl, _, rfl, ite2 (fun c => absurd c csn) (fun _ => ?_)⟩
      refine ⟨_, rfl, a, rfl, ⟨_, SqL.of ha⟩, fun D nD => ?_⟩
      refine lc_list (K := K) (a := a) (xs := xs.map V.int) (fun m H3 => H3 D = some (.lst (((seatsL xs ys).take m).map V.int)) ∧ Same H H3) ⟨upd_same, same_new nD⟩ (fun m H3 _ hP => SqL.of (hP.2 _ _ ha)) (fun m x H3 hx hP => ?_) (fun H3 hP => ?_)
      · obtain ⟨hD3, sm⟩ := hP
        obtain ⟨y, ey, rfl⟩ := int_at_inv hx
        have hi := (List.getElem?_eq_some_iff.mp ey).1
        have yb := ox.mem (List.mem_of_getElem? ey)
        obtain ⟨j1, a1, b1, c1, p1⟩ := idx_facts oy yb.1 yb.2
        refine ⟨rfl, _, rfl, .inl ⟨rfl, _, SqL.of (sm _ _ hb)⟩, _, rfl, b, _, _, j1, _, rfl, rfl, SqL.of (sm _ _ hb), rfl, flat_ints ys, a1, b1, c1, _, hD3, line_lt (by rw [List.length_map, List.length_take, seats_len, ox.len]; omega), ?_, fun u o e => ?_⟩
        · rw [upd_same, p1, take_more (seats_at ey), List.map_append]
          rfl
        · rw [upd_ne (ne_of_none e nD)]
          exact sm _ _ e
      obtain ⟨hD, s3⟩ := hP
      rw [List.take_of_length_le (by rw [seats_len, List.length_map]; exact Nat.le_refl _)] at hD
      by_cases ch : z = "shift"
      · subst ch
        refine ⟨_, rfl, rfl, _, rfl, ite2 (fun _ => ?_) (fun c => absurd (by decide +kernel) c)⟩
        refine ⟨_, rfl, D, _, rfl, .inl (SqL.of hD), _, rfl, by omega, by rw [hsl]; omega, fun D2 nD2 => ?_⟩
        rw [hsl, Int.toNat_natCast]
        refine lc_range (lo := 0) (n := n) (fun m H4 => H4 D2 = some (.lst (((gapsL xs ys).take m).map V.int)) ∧ Same H3 H4) ⟨upd_same, same_new nD2⟩ (fun m H4 hm hP => ?_) (fun H4 hP => ?_)
        · obtain ⟨hD4, s4⟩ := hP
          obtain ⟨y, ey, _⟩ := ord_ix ox hm
          have eg : (gapsL xs ys)[m]? = some (absI ((m : Int) - pos ys y)) := by
            unfold gapsL rg
            rw [List.map_map, List.getElem?_map, List.getElem?_range (by rw [ox.len]; exact hm)]
            show some (absI ((m : Int) - g0 (seatsL xs ys) (m : Int))) = _
            rw [g0_at (seats_at ey)]
          refine ⟨rfl, _, rfl, _, rfl, D, _, _, _, rfl, rfl, SqL.of (s4 _ _ hD), at_of (j := m) (by omega) (int_at (seats_at ey)), _, rfl, pos ys y, 0 + (m : Int), rfl, rfl, _, rfl, _, hD4, line_lt (by rw [List.length_map, List.length_take, gaps_len, ox.len]; omega), ?_, fun u o e => ?_⟩
          · rw [upd_same, take_more eg, List.map_append, absI_comm, Int.zero_add]
            rfl
          · rw [upd_ne (ne_of_none e nD2)]
            exact s4 _ _ e
        · obtain ⟨hD4, s4⟩ := hP
          rw [List.take_of_length_le (by rw [gaps_len, ox.len]; exact Nat.le_refl _)] at hD4
          refine ⟨D2, gapsL xs ys, rfl, SqL.of hD4, by rw [gaps_len, ox.len]; exact hn1, fun m hm hle => ?_⟩
          have e : farShift xs ys = m := maxL_of (gaps_nonneg xs ys) hm hle
          have z := q H4 (s3.trans s4)
          rw [farW_shift, e] at z
          exact z
      · obtain rfl : z = "swap" := by
          rcases hz with h | h | h
          · exact h
          · exact absurd h cs
          · exact absurd h ch
        refine ⟨_, rfl, rfl, _, rfl, ite2 (fun c => absurd c (by decide +kernel)) (fun _ => ?_)⟩
        refine ⟨_, rfl, D, _, rfl, .inl (SqL.of hD), _, rfl, by omega, by rw [hsl]; omega, ?_⟩
        rw [hsl, Int.toNat_natCast]
        refine for_range (n := n) (fun i σ H4 => ∃ (y5 y6 y7 y8 y9 : Option V), σ = [some (.str "swap"), some (.ref a), some (.ref b), some (.ref D), some (.int ((sumN (rg i) (fun p => sumN (rg p.toNat) fun q => ind (decide (g0 (seatsL xs ys) p < g0 (seatsL xs ys) q))) : Nat) : Int)), y5, y6, y7, y8, y9] ∧ Same H3 H4)
          ⟨_, _, _, _, _, rfl, Same.refl _⟩ (fun i σ H4 hi hP => ?_) (fun σ H4 hP => ?_)
        · obtain ⟨y5, y6, y7, y8, y9, rfl, s4⟩ := hP
          obtain ⟨x, ex, x0, x1⟩ := ord_ix ox hi
          have gx : g0 (seatsL xs ys) (i : Int) = pos ys x := g0_at (seats_at ex)
          refine ⟨_, rfl, _, rfl, _, rfl, by omega, by omega, fun D2 nD2 => ?_⟩
          rw [show (0 + (i : Int)).toNat = i by omega]
          refine lc_range (lo := 0) (n := i) (fun j H5 => H5 D2 = some (.lst (((rg j).filter (fun q => decide (g0 (seatsL xs ys) (i : Int) < g0 (seatsL xs ys) q))).map (fun _ => V.int 1))) ∧ Same H4 H5) ⟨upd_same, same_new nD2⟩ (fun j H5 hj hP => ?_) (fun H5 hP => ?_)
          · obtain ⟨hD5, s5⟩ := hP
            obtain ⟨y, ey, y0, y1⟩ := ord_ix ox (j := j) (by omega)
            have gy : g0 (seatsL xs ys) (j : Int) = pos ys y := g0_at (seats_at ey)
            have s45 := s4.trans s5
            have fm : ((rg (j + 1)).filter fun q => decide (g0 (seatsL xs ys) (i : Int) < g0 (seatsL xs ys) q)) = ((rg j).filter fun q => decide (g0 (seatsL xs ys) (i : Int) < g0 (seatsL xs ys) q)) ++ (if pos ys x < pos ys y then [(j : Int)] else []) := by
              rw [rg_succ, List.filter_append, List.filter_cons, gx, gy]
              congr 1
              by_cases c : pos ys x < pos ys y
              · simp [c]
              · simp [c]
            refine ⟨rfl, _, rfl, _, rfl, D, _, _, _, rfl, rfl, SqL.of (s45 _ _ hD), at_of (j := j) (by omega) (int_at (seats_at ey)), _, rfl, _, rfl, D, _, _, _, rfl, rfl, SqL.of (s45 _ _ hD), at_of (j := i) (by omega) (int_at (seats_at ex)), _, _, rfl, rfl, _, rfl, ?_⟩
            by_cases c : pos ys x < pos ys y
            · rw [decide_eq_true (show pos ys y > pos ys x from c)]
              refine iteT ⟨_, hD5, line_lt ?_, ?_, fun u o e => ?_⟩
              · rw [List.length_map]
                refine Nat.lt_of_le_of_lt (List.length_filter_le _ _) ?_
                rw [rg_len]
                omega
              · rw [upd_same, fm, if_pos c, List.map_append]
                rfl
              · rw [upd_ne (ne_of_none e nD2)]
                exact s5 _ _ e
            · rw [decide_eq_false (show ¬ pos ys y > pos ys x from c)]
              refine iteF ⟨?_, s5⟩
              rw [fm, if_neg c, List.append_nil]
              exact hD5
          · obtain ⟨hD5, s5⟩ := hP
            refine ⟨D2, _, rfl, .inl (SqL.of hD5), _, _, rfl, rfl, some (.int (0 + (i : Int))), y6, y7, y8, y9, ?_, s4.trans s5⟩
            rw [rg_succ, sumN_append, sumN_cons, sumN_nil, Int.toNat_natCast, Nat.add_zero, Int.natCast_add, List.length_map, filter_len]
            rfl
        · obtain ⟨y5, y6, y7, y8, y9, rfl, s4⟩ := hP
          refine ⟨_, rfl, ?_⟩
          have z := q H4 (s3.trans s4)
          rw [farW_swap, swap_below ox] at z
          exact z
end
end Fo
namespace Fo
open PySem PySem.Spec PyProof.Rows L2
def dHd (xs : List Int) (rs : List (List Int)) : PyData := .list [dL xs, dLL rs]
theorem shaped_H (xs : List Int) (rs : List (List Int)) : SeqAt.shaped (dHd xs rs) = true := by
  unfold SeqAt.shaped
  rw [Bool.and_eq_true_iff]
  constructor
  · have h := SeqAt.canLay_of_shaped (shaped_lists rs)
    have g := SeqAt.canLay_of_shaped (shaped_list xs)
    simp only [dHd, PyData.canLay0, PyData.canLayAll0, Bool.and_eq_true, Bool.and_true] at h g ⊢
    exact ⟨g, h⟩
  · apply decide_eq_true
    have h := depth_lists rs
    have g := depth_list xs
    have e : PyData.depthAll [dL xs, dLL rs] ≤ 2 := by
      unfold dLL
      rw [PyData.depthAll, PyData.depthAll, PyData.depthAll, g, PyData.depth]
      omega
    exact Nat.lt_of_le_of_lt e (by decide)
theorem eqv_H (xs : List Int) (rs : List (List Int)) : PyData.eqv (dHd xs rs) (dHd xs rs) = true := SeqAt.eqv_refl _ (SeqAt.canLay_of_shaped (shaped_H xs rs))
theorem dp_H {K : PySem.W.Frag} {H : Hp} {t o l : Addr} {as : List Addr} {xs : List Int} {rs : List (List Int)} (ht : H t = some (.lst [.ref o, .ref l])) (ho : H o = some (.lst (xs.map V.int))) (hl : H l = some (.lst (as.map V.ref))) (hL : LL H as rs) : Dp K H (.ref t) (dHd xs rs) := .lst (SqL.of ht) (.cons (dp_list ho) (.cons (dp_lists hl hL) .nil))
end Fo
namespace Fo
open PySem PySem.Spec PyProof.Rows L2
def spIsO50 : Sp := fun vs H Q _ => ∃ (a b : Addr) (xs : List Int), vs = [.ref a, .ref b] ∧ H a = some (.lst (xs.map V.int)) ∧ H b = some (.lst (xs.map V.int)) ∧ ∀ H', Same H H' → Q (.bl true) H'
def spIsN50 : Sp := fun vs H Q _ => ∃ i : Int, vs = [.int i, .int i] ∧ Q (.bl true) H
def spAre50 : Sp := fun vs H Q _ => ∃ (l m : Addr) (as bs : List Addr) (rs : List (List Int)), vs = [.ref l, .ref m] ∧ H l = some (.lst (as.map V.ref)) ∧ H m = some (.lst (bs.map V.ref)) ∧ LL H as rs ∧ LL H bs rs ∧ ∀ H', Same H H' → Q (.bl true) H'
/-- new lists of the same -/
def spCop50 : Sp := fun vs H Q _ => ∃ (l : Addr) (as : List Addr) (rs : List (List Int)), vs = [.ref l] ∧ H l = some (.lst (as.map V.ref)) ∧ LL H as rs ∧ rs.length ≤ 120 ∧
  ∀ (u : Addr) (us : List Addr) (H' : Hp), H u = none → (∀ a ∈ us, H a = none) → u ∉ us → us.Nodup → H' u = some (.lst (us.map V.ref)) → LL H' us rs → Same H H' → Q (.ref u) H'
section
variable {P : Program} {w : World} {K : PySem.W.Frag} {mg : Str → Option Value} {base : Heap}
theorem scIsO50 : FnScope ["found", "due", "thing"] ["found", "due"] (defScope s_law_is_order) := ⟨rfl, rfl, rfl, by decide +kernel, rfl, by decide +kernel, by decide +kernel⟩
theorem ok_isO50 {f : Addr} {fd : FuncData} {k : Nat} (T : Df K mg "_law_is_order" s_law_is_order ["found", "due"] f fd) (B : Bi mg) : FnOk P w K mg base CX0 (k + 1) f fd ["found", "due"] spIsO50 := by
  refine T.F.ok scIsO50 (fun vs H Q E h => ?_) (fun cdv A outer s H vs Q E hr h => ?_)
  · obtain ⟨a, b, xs, rfl, _⟩ := h
    rfl
  · obtain ⟨a, b, xs, rfl, ha, hb, q⟩ := h
    refine ⟨_, 
      (pss_cons (ps_if (PW.pt (pw_or (pt_not (pt_val (pe_callB call_isi (by rfl) B.isinstance (by decide +kernel) (pa_cons (pv 0) (pa_cons (pe_bltn (v := .ty "list") (by rfl) B.list (by decide +kernel) rfl) pa_nil))))) (pw_or1 (pt_cmpR (op_neD hr.units) (pv 0) (pv 1) (nomark _)))))
        (pss_one (ps_ret pe_bl))
        pss_nil)
      (pss_one (ps_ret (pe_cmpR (op_eqD hr.units) (pe_lc (own := [("thing", 2)]) (g := (gName 2)) (tt := (tB (tCB (rIsi K) (tCons (tVar 2) (tCons (tC (.ty "bool")) tNil))))) (te := (tVar 2)) rfl scIsO50.nd (pi_list (pv 0)) (blkOk_by (N := ["found", "due", "thing"]) (sc := defScope s_law_is_order) (by decide +kernel)) (fun _ _ _ _ _ => (pg_name (i := 2) scIsO50.nd rfl (.inl rfl))) (fun _ _ _ _ _ => (pts_one (pt_val (pe_callB call_isi (by rfl) B.isinstance (by decide +kernel) (pa_cons (pv 2) (pa_cons (pe_bltn (v := .ty "bool") (by rfl) B.bool (by decide +kernel) rfl) pa_nil)))))) (fun _ _ _ _ _ => (pv 2))) (pe_lst pa_nil) (nomark _))))), ?_⟩
    refine ⟨_, rfl, _, _, _, _, true, rfl, .ty _, .base (.lst ha), kit_ty (by decide +kernel), true, rfl, iteF ?_⟩
    refine ⟨_, rfl, _, rfl, _, _, dp_list ha, dp_list hb, shaped_list _, shaped_list _, _, rfl, ?_⟩
    rw [eqv_list]
    refine iteF ?_
    refine ⟨_, rfl, a, rfl, ⟨_, SqL.of ha⟩, fun D nD => ?_⟩
    refine lc_list (K := K) (a := a) (xs := xs.map V.int) (fun i G => G D = some (.lst ([].map V.int)) ∧ Same H G) ⟨upd_same, same_new nD⟩ (fun i G _ hP => SqL.of (hP.2 _ _ ha)) (fun i x G hx hP => ?_) (fun G hP => ?_)
    · obtain ⟨y, _, rfl⟩ := int_at_inv hx
      exact ⟨rfl, _, rfl, _, _, _, _, false, rfl, .ty _, .base (.int _), kit_ty (by decide +kernel), false, rfl, iteF hP⟩
    · obtain ⟨hD, sm⟩ := hP
      refine ⟨by decide, fun e ne => ?_⟩
      have s7 := same_new (o := .lst []) ne
      refine ⟨dL [], dL [], dp_list (s7 _ _ hD), dp_list (ns := []) upd_same, shaped_list _, shaped_list _, ?_⟩
      rw [eqv_list]
      exact q _ (sm.trans s7)
theorem scIsN50 : FnScope ["found", "due"] ["found", "due"] (defScope s_law_is_number) := ⟨rfl, rfl, rfl, by decide +kernel, rfl, by decide +kernel, by decide +kernel⟩
theorem ok_isN50 {f : Addr} {fd : FuncData} {k : Nat} (T : Df K mg "_law_is_number" s_law_is_number ["found", "due"] f fd) (B : Bi mg) : FnOk P w K mg base CX0 (k + 1) f fd ["found", "due"] spIsN50 := by
  refine T.F.ok scIsN50 (fun vs H Q E h => ?_) (fun cdv A outer s H vs Q E hr h => ?_)
  · obtain ⟨i, rfl, _⟩ := h
    rfl
  · obtain ⟨i, rfl, q⟩ := h
    refine ⟨_, 
      (pss_one (ps_ret (pe_and (pe_callB call_isi (by rfl) B.isinstance (by decide +kernel) (pa_cons (pv 0) (pa_cons (pe_bltn (v := .ty "int") (by rfl) B.int (by decide +kernel) rfl) pa_nil))) (pe_and (pe_not (pe_callB call_isi (by rfl) B.isinstance (by decide +kernel) (pa_cons (pv 0) (pa_cons (pe_bltn (v := .ty "bool") (by rfl) B.bool (by decide +kernel) rfl) pa_nil)))) (pe_one (pe_cmpR op_eq (pv 0) (pv 1) (nomark _))))))), ?_⟩
    refine ⟨_, rfl, _, _, _, _, true, rfl, .ty _, .base (.int _), kit_ty (by decide +kernel), ?_⟩
    refine ⟨true, rfl, iteT ⟨_, rfl, _, _, _, _, false, rfl, .ty _, .base (.int _), kit_ty (by decide +kernel), false, rfl, true, rfl, iteT ⟨_, rfl, _, rfl, rfl, ?_⟩⟩⟩
    rw [decide_eq_true rfl]
    exact q
theorem scAre50 : FnScope ["found", "due", "one", "other"] ["found", "due"] (defScope s_law_are_orders) := ⟨rfl, rfl, rfl, by decide +kernel, rfl, by decide +kernel, by decide +kernel⟩
set_option maxHeartbeats 2000000 in
theorem ok_are50 {f f1 : Addr} {fd d1 : FuncData} {k : Nat} (T : Df K mg "_law_are_orders" s_law_are_orders ["found", "due"] f fd) (T__law_is_order : Df K mg "_law_is_order" s_law_is_order ["found", "due"] f1 d1) (G__law_is_order : FnOk P w K mg base CX0 k f1 d1 ["found", "due"] spIsO50) (B : Bi mg) : FnOk P w K mg base CX0 (k + 1) f fd ["found", "due"] spAre50 := by
  refine T.F.ok scAre50 (fun vs H Q E h => ?_) (fun cdv A outer s H vs Q E hr h => ?_)
  · obtain ⟨l, m, as, bs, rs, rfl, _⟩ := h
    rfl
  · obtain ⟨l, m, as, bs, rs, rfl, hl, hm, hA, hB, q⟩ := h
    refine ⟨_, 
      (pss_cons (ps_if (PW.pt (pw_or (pt_not (pt_val (pe_callB call_isi (by rfl) B.isinstance (by decide +kernel) (pa_cons (pv 0) (pa_cons (pe_bltn (v := .ty "list") (by rfl) B.list (by decide +kernel) rfl) pa_nil))))) (pw_or1 (pt_cmpR op_ne (pe_callB call_len_seq (by rfl) B.len PySem.boot_len (pa_cons (pv 0) pa_nil)) (pe_callB call_len_seq (by rfl) B.len PySem.boot_len (pa_cons (pv 1) pa_nil)) (nomark _)))))
        (pss_one (ps_ret pe_bl))
        pss_nil)
      (pss_one (ps_ret (pe_cmpR (op_eqD hr.units) (pe_lc (own := [("one", 2), ("other", 3)]) (g := (gTup K 2 (gCons (gName 2) (gCons (gName 3) gNil)))) (tt := (tNot (tB (tCall spIsO50 [] E0 (tCons (tVar 2) (tCons (tVar 3) tNil)))))) (te := (tC (.int 1))) rfl scAre50.nd (pi_zip (by rfl) B.zip (pa_cons (pv 0) (pa_cons (pv 1) pa_nil))) (blkOk_by (N := ["found", "due", "one", "other"]) (sc := defScope s_law_are_orders) (by decide +kernel)) (fun _ _ _ _ _ => (pg_tup (by rfl) (pgs_cons (pg_name (i := 2) scAre50.nd rfl (.inl rfl)) (pgs_cons (pg_name (i := 3) scAre50.nd rfl (.inl rfl)) pgs_nil)))) (fun _ _ _ _ _ => (pts_one (pt_not (pt_val (pe_call G__law_is_order hr (by rfl) T__law_is_order.g T__law_is_order.F.kp T__law_is_order.b .nil pass0 (pa_cons (pv 2) (pa_cons (pv 3) pa_nil))))))) (fun _ _ _ _ _ => pe_int)) (pe_lst pa_nil) (nomark _))))), ?_⟩
    refine ⟨_, rfl, _, _, _, _, true, rfl, .ty _, .base (.lst hl), kit_ty (by decide +kernel), true, rfl, iteF ?_⟩
    refine ⟨_, rfl, l, _, rfl, .inl (SqL.of hl), _, rfl, m, _, rfl, .inl (SqL.of hm), rfl, _, rfl, ?_⟩
    rw [List.length_map, List.length_map, hA.len, hB.len, decide_eq_true rfl]
    refine iteF ?_
    refine ⟨_, rfl, _, rfl, l, m, _, _, rfl, SqL.of hl, SqL.of hm, fun D nD => ?_⟩
    refine lc_zipL (K := K) (a := l) (b := m) (xs := as.map V.ref) (ys := bs.map V.ref) (by rw [List.length_map, List.length_map, hA.len, hB.len]) (fun i G => G D = some (.lst ([].map V.int)) ∧ Same H G) ⟨upd_same, same_new nD⟩ (fun i G _ hP => ⟨SqL.of (hP.2 _ _ hl), SqL.of (hP.2 _ _ hm)⟩) (fun i u v t G hu hv hP nt => ?_) (fun G hP => ?_)
    · obtain ⟨hD, sm⟩ := hP
      obtain ⟨c1, e1, rfl⟩ := ref_at_inv hu
      obtain ⟨c2, e2, rfl⟩ := ref_at_inv hv
      obtain ⟨r1, er1, h1⟩ := (hA.same sm).get e1
      obtain ⟨r2, er2, h2⟩ := (hB.same sm).get e2
      obtain rfl : r1 = r2 := Option.some.inj (er1.symm.trans er2)
      have s3 := same_new (o := .tup [.ref c1, .ref c2]) nt
      refine ⟨t, _, rfl, .inl (.inl upd_same), rfl, _, _, rfl, _, _, rfl, rfl, rfl, _, rfl, _, rfl, c1, c2, r1, rfl, s3 _ _ h1, s3 _ _ h2, fun G2 s4 => ?_⟩
      exact ⟨true, rfl, iteF ⟨s4 _ _ (s3 _ _ hD), sm.trans (s3.trans s4)⟩⟩
    · obtain ⟨hD, sm⟩ := hP
      refine ⟨by decide, fun e ne => ?_⟩
      have s7 := same_new (o := .lst []) ne
      refine ⟨dL [], dL [], dp_list (s7 _ _ hD), dp_list (ns := []) upd_same, shaped_list _, shaped_list _, ?_⟩
      rw [eqv_list]
      exact q _ (sm.trans s7)
theorem scCop50 : FnScope ["orders", "one"] ["orders"] (defScope s_law_copies) := ⟨rfl, rfl, rfl, by decide +kernel, rfl, by decide +kernel, by decide +kernel⟩
theorem ok_cop50 {f : Addr} {fd : FuncData} {k : Nat} (T : Df K mg "_law_copies" s_law_copies ["orders"] f fd) (B : Bi mg) : FnOk P w K mg base CX0 (k + 1) f fd ["orders"] spCop50 := by
  refine T.F.ok scCop50 (fun vs H Q E h => ?_) (fun cdv A outer s H vs Q E hr h => ?_)
  · obtain ⟨l, as, rs, rfl, _⟩ := h
    rfl
  · obtain ⟨l, as, rs, rfl, hl, hL, hn, q⟩ := h
    refine ⟨_, 
      (pss_one (ps_ret (pe_lc (own := [("one", 1)]) (g := (gName 1)) (tt := tYes) (te := (tCB (rListOf K) (tCons (tVar 1) tNil))) rfl scCop50.nd (pi_list (pv 0)) (blkOk_by (N := ["orders", "one"]) (sc := defScope s_law_copies) (by decide +kernel)) (fun _ _ _ _ _ => (pg_name (i := 1) scCop50.nd rfl (.inl rfl))) (fun _ _ _ _ _ => pts_nil) (fun _ _ _ _ _ => (pe_callTy call_list_of (by rfl) B.list (by decide +kernel) (pa_cons (pv 1) pa_nil)))))), ?_⟩
    refine ⟨_, rfl, l, rfl, ⟨_, SqL.of hl⟩, fun D nD => ?_⟩
    refine lc_list (K := K) (a := l) (xs := as.map V.ref) (fun i G => ∃ us : List Addr, us.length = i ∧ G D = some (.lst (us.map V.ref)) ∧ LL G us (rs.take i) ∧ (∀ a ∈ us, H a = none ∧ a ≠ D) ∧ us.Nodup ∧ Same H G) ⟨[], rfl, upd_same, trivial, fun a h => absurd h List.not_mem_nil, List.nodup_nil, same_new nD⟩ (fun i G _ hP => by obtain ⟨_, _, _, _, _, _, sm⟩ := hP; exact SqL.of (sm _ _ hl)) (fun i x G hx hP => ?_) (fun G hP => ?_)
    · obtain ⟨us, lu, hD, hU, fr, nd, sm⟩ := hP
      obtain ⟨c0, ec, rfl⟩ := ref_at_inv hx
      obtain ⟨row, er, hc⟩ := (hL.same sm).get ec
      have il : i < rs.length := (List.getElem?_eq_some_iff.mp er).1
      refine ⟨rfl, _, rfl, c0, _, rfl, .inl (SqL.of hc), fun z nz => ?_⟩
      have s1 := same_new (o := .lst (row.map V.int)) nz
      have nzD : z ≠ D := fun e => by rw [e, hD] at nz; cases nz
      have nzu : z ∉ us := fun m => by
        obtain ⟨o, e⟩ := hU.tracked m
        rw [nz] at e; cases e
      refine ⟨_, s1 _ _ hD, line_lt (by rw [List.length_map, lu]; omega), us ++ [z], by rw [List.length_append, lu]; rfl, by rw [upd_same, List.map_append]; rfl, ?_, fun a ha => ?_, ?_, fun b o e => ?_⟩
      · rw [take_more' er]
        refine LL.snoc ((hU.same s1).keep fun y hy o e => by rw [upd_ne (fr y hy).2]; exact e) ?_
        rw [upd_ne nzD]
        exact upd_same
      · rcases List.mem_append.mp ha with ha | ha
        · exact fr a ha
        · rw [List.mem_singleton.mp ha]
          exact ⟨sm.free nz, nzD⟩
      · rw [List.nodup_append]
        exact ⟨nd, List.nodup_cons.mpr ⟨List.not_mem_nil, List.nodup_nil⟩, fun a ha b hb e => by rw [List.mem_singleton.mp hb] at e; exact nzu (e ▸ ha)⟩
      · rw [upd_ne (ne_of_none e nD)]
        exact s1 _ _ (sm _ _ e)
    · obtain ⟨us, lu, hD, hU, fr, nd, sm⟩ := hP
      rw [List.take_of_length_le (by rw [List.length_map, hL.len]; exact Nat.le_refl _)] at hU
      exact q D us G nD (fun a ha => (fr a ha).1) (fun m => (fr D m).2 rfl) nd hD hU sm
end
end Fo
namespace Fo
open PySem PySem.Spec PyProof.Rows L2
def OrdX (x : List Int) : Prop := ∃ n, IsOrd n x ∧ 1 ≤ n ∧ n ≤ 12
structure TrAt (H : Hp) (t a0 a1 a2 : Addr) (x0 x1 x2 : List Int) : Prop where
  top : H t = some (.tup [.ref a0, .ref a1, .ref a2])
  h0 : H a0 = some (.lst (x0.map V.int))
  h1 : H a1 = some (.lst (x1.map V.int))
  h2 : H a2 = some (.lst (x2.map V.int))
  o0 : OrdX x0
  o1 : OrdX x1
  o2 : OrdX x2
theorem TrAt.same {H H' : Hp} {t a0 a1 a2 : Addr} {x0 x1 x2 : List Int} (h : TrAt H t a0 a1 a2 x0 x1 x2) (s : Same H H') : TrAt H' t a0 a1 a2 x0 x1 x2 := ⟨s _ _ h.top, s _ _ h.h0, s _ _ h.h1, s _ _ h.h2, h.o0, h.o1, h.o2⟩
def spThree : Sp := fun vs H Q _ => ∃ (t a0 a1 a2 : Addr) (x0 x1 x2 : List Int), vs = [.ref t] ∧ TrAt H t a0 a1 a2 x0 x1 x2 ∧ ∀ H', Same H H' → Q .non H'
def spListed : Sp := fun vs H Q _ => ∃ (a : Addr) (xs : List V), vs = [.ref a] ∧ H a = some (.lst xs) ∧ xs.length ≤ 6 ∧ Q .non H
def spSure : Sp := fun vs H Q _ => ∃ (w : Str) (l : Addr) (as : List Addr) (rs : List (List Int)) (n : Nat) (e : Int), vs = [.str w, .ref l, .int e] ∧ IsWay w ∧ OL H l as rs n ∧ rs.Nodup ∧ 1 ≤ rs.length ∧ rs.length ≤ 120 ∧ n ≤ 6 ∧ 0 ≤ e ∧ ∀ H', Same H H' → Q .non H'
def showsF (w : Str) (rs : List (List Int)) (e : Int) (x0 x1 x2 : List Int) : Bool := decide (x1 ≠ x2 ∧ x1 ∈ rs ∧ x2 ∈ rs ∧ x0.length = x1.length ∧ farW w x0 x1 ≤ e ∧ farW w x0 x2 ≤ e)
def spShows : Sp := fun vs H Q _ => ∃ (w : Str) (l : Addr) (as : List Addr) (rs : List (List Int)) (n : Nat) (e : Int) (t a0 a1 a2 : Addr) (x0 x1 x2 : List Int), vs = [.str w, .ref l, .int e, .ref t] ∧ IsWay w ∧ OL H l as rs n ∧ rs.Nodup ∧ 1 ≤ rs.length ∧ rs.length ≤ 120 ∧ n ≤ 6 ∧ 0 ≤ e ∧ TrAt H t a0 a1 a2 x0 x1 x2 ∧ ∀ H', Same H H' → Q (.bl (showsF w rs e x0 x1 x2)) H'
section
variable {P : Program} {w : World} {K : PySem.W.Frag} {mg : Str → Option Value} {base : Heap}
theorem scListed : FnScope ["order"] ["order"] (defScope s_check_listed) := ⟨rfl, rfl, rfl, by decide +kernel, rfl, by decide +kernel, by decide +kernel⟩
theorem ok_listed {f : Addr} {fd : FuncData} {k : Nat} {tk : Tok} (T : Df K mg "check_listed" s_check_listed ["order"] f fd) (B : Bi mg) (mL : mg "MOST_LISTED" = some (.int 6 tk)) : FnOk P w K mg base CX0 (k + 1) f fd ["order"] spListed := by
  refine T.F.ok scListed (fun vs H Q E h => ?_) (fun cdv A outer s H vs Q E hr h => ?_)
  · obtain ⟨a, xs, rfl, _⟩ := h
    rfl
  · obtain ⟨a, xs, rfl, ha, hl, q⟩ := h
    refine ⟨_, 
      (pss_one (ps_if (pt_cmpR op_gt (pe_callB call_len_seq (by rfl) B.len PySem.boot_len (pa_cons (pv 0) pa_nil)) (pe_glob (v := .int 6) (by rfl) mL ⟨_, rfl⟩) (nomark _))
        (pss_one ps_never)
        pss_nil)), ?_⟩
    exact ⟨_, rfl, a, _, rfl, .inl (SqL.of ha), _, 6, rfl, rfl, _, rfl, ite2 (fun z => absurd (of_decide_eq_true z) (by omega)) (fun _ => q)⟩
theorem scSure : FnScope ["way", "orders", "e"] ["way", "orders", "e"] (defScope s_check_sure) := ⟨rfl, rfl, rfl, by decide +kernel, rfl, by decide +kernel, by decide +kernel⟩
theorem ok_sure {f f1 f2 f3 f4 : Addr} {fd d1 d2 d3 d4 : FuncData} {k : Nat} (T : Df K mg "check_sure" s_check_sure ["way", "orders", "e"] f fd) (T_check_unlike_list : Df K mg "check_unlike_list" s_check_unlike_list ["thing"] f1 d1) (T_check_way : Df K mg "check_way" s_check_way ["thing"] f2 d2) (T_check_listed : Df K mg "check_listed" s_check_listed ["order"] f3 d3) (T_check_from : Df K mg "check_from" s_check_from ["thing", "least"] f4 d4) (G_check_unlike_list : FnOk P w K mg base CX0 k f1 d1 ["thing"] spCUnl) (G_check_way : FnOk P w K mg base CX0 k f2 d2 ["thing"] spWay) (G_check_listed : FnOk P w K mg base CX0 k f3 d3 ["order"] spListed) (G_check_from : FnOk P w K mg base CX0 k f4 d4 ["thing", "least"] spFrom) (B : Bi mg) : FnOk P w K mg base CX0 (k + 1) f fd ["way", "orders", "e"] spSure := by
  refine T.F.ok scSure (fun vs H Q E h => ?_) (fun cdv A outer s H vs Q E hr h => ?_)
  · obtain ⟨wy, l, as, rs, n, e, rfl, _⟩ := h
    rfl
  · obtain ⟨wy, l, as, rs, n, e, rfl, hw, hO, nd, h1, h2, hn6, he, q⟩ := h
    refine ⟨_, 
      (pss_cons (ps_expr (pe_call G_check_unlike_list hr (by rfl) T_check_unlike_list.g T_check_unlike_list.F.kp T_check_unlike_list.b .nil pass0 (pa_cons (pv 1) pa_nil)))
      (pss_cons (ps_expr (pe_call G_check_way hr (by rfl) T_check_way.g T_check_way.F.kp T_check_way.b .nil pass0 (pa_cons (pv 0) pa_nil)))
      (pss_cons (ps_expr (pe_call G_check_listed hr (by rfl) T_check_listed.g T_check_listed.F.kp T_check_listed.b .nil pass0 (pa_cons (pe_ix ix_list (pv 1) pe_int (fun _ _ => rfl)) pa_nil)))
      (pss_one (ps_expr (pe_call G_check_from hr (by rfl) T_check_from.g T_check_from.F.kp T_check_from.b .nil pass0 (pa_cons (pv 2) (pa_cons pe_int pa_nil)))))))), ?_⟩
    refine ⟨_, rfl, l, as, rs, n, rfl, hO, nd, h1, h2, fun H1 s1 => ?_⟩
    have hO1 := hO.same s1
    have hal := hO.ll.len
    obtain ⟨a0, ea0⟩ : ∃ a0, as[0]? = some a0 := ⟨as[0]'(by omega), List.getElem?_eq_getElem (by omega)⟩
    obtain ⟨r0, er0, ha0⟩ := hO1.ll.get ea0
    have l2 := (hO.ord r0 (List.mem_of_getElem? er0)).len
    refine ⟨_, rfl, wy, rfl, hw, ?_⟩
    refine ⟨_, rfl, l, _, 0, _, rfl, rfl, SqL.of hO1.top, at_of (j := 0) rfl (ref_at ea0), a0, _, rfl, ha0, by rw [List.length_map]; omega, ?_⟩
    exact ⟨_, rfl, e, 0, rfl, he, q _ s1⟩
end
end Fo
namespace Fo
open PySem PySem.Spec PyProof.Rows L2
def spThoseN : Sp := fun vs H Q _ => ∃ (w : Str) (a l : Addr) (as : List Addr) (xs : List Int) (rs : List (List Int)) (n : Nat) (r : Int), vs = [.str w, .ref a, .ref l, .int r] ∧ IsWay w ∧ H a = some (.lst (xs.map V.int)) ∧ IsOrd n xs ∧ OL H l as rs n ∧ rs.length ≤ 1000 ∧
  ∀ (l' : Addr) (as' : List Addr) (H' : Hp), H l' = none → (∀ a ∈ as', H a = none) → l' ∉ as' → as'.Nodup → H' l' = some (.lst (as'.map V.ref)) → LL H' as' (rs.filter fun o => decide (farW w xs o ≤ r)) → Same H H' → Q (.ref l') H'
/-- the first order that is within e of two of the list, with the first two of these -/
def nsF (w : Str) (rs : List (List Int)) (e : Int) : List (List Int) → Option (List Int × List Int × List Int)
  | [] => none
  | o :: os => match rs.filter fun x => decide (farW w o x ≤ e) with
    | r1 :: r2 :: _ => some (o, r1, r2)
    | _ => nsF w rs e os
theorem nsF_app {w : Str} {rs : List (List Int)} {e : Int} : ∀ {a b : List (List Int)}, nsF w rs e a = none → nsF w rs e (a ++ b) = nsF w rs e b
  | [], _, _ => rfl
  | o :: os, b, h => by
    unfold nsF at h
    show nsF w rs e (o :: (os ++ b)) = _
    rw [nsF]
    split at h
    · cases h
    · exact nsF_app h
theorem nsF_hit {w : Str} {rs : List (List Int)} {e : Int} {a : List (List Int)} {i : Nat} {o r1 r2 : List Int} {t : List (List Int)} (ha : nsF w rs e (a.take i) = none) (ho : a[i]? = some o) (hf : (rs.filter fun x => decide (farW w o x ≤ e)) = r1 :: r2 :: t) : nsF w rs e a = some (o, r1, r2) := by
  have h := nsF_app (b := a.drop i) ha
  rw [List.take_append_drop] at h
  have hi : i < a.length := (List.getElem?_eq_some_iff.mp ho).1
  have hd : a.drop i = o :: a.drop (i + 1) := by
    rw [List.drop_eq_getElem_cons hi]
    congr 1
    exact (List.getElem?_eq_some_iff.mp ho).2
  rw [h, hd, nsF, hf]
theorem nsF_miss {w : Str} {rs : List (List Int)} {e : Int} {a : List (List Int)} {i : Nat} {o : List Int} (ha : nsF w rs e (a.take i) = none) (ho : a[i]? = some o) (hf : (rs.filter fun x => decide (farW w o x ≤ e)).length ≤ 1) : nsF w rs e (a.take (i + 1)) = none := by
  rw [take_more' ho, nsF_app ha, nsF]
  split
  · rename_i r1 r2 t he
    rw [he] at hf
    simp at hf
  · rfl
/-- what not_sure tells -/
def spNotSure : Sp := fun vs H Q _ => ∃ (w : Str) (l : Addr) (as : List Addr) (rs : List (List Int)) (n : Nat) (e : Int), vs = [.str w, .ref l, .int e] ∧ IsWay w ∧ OL H l as rs n ∧ rs.Nodup ∧ 1 ≤ rs.length ∧ rs.length ≤ 120 ∧ n ≤ 6 ∧ 0 ≤ e ∧
  (nsF w rs e (allK n n) = none → ∀ H', Same H H' → Q .non H') ∧ (∀ o r1 r2, nsF w rs e (allK n n) = some (o, r1, r2) → IsOrd n o → r1 ∈ rs → r2 ∈ rs → ∀ (t a0 a1 a2 : Addr) (H' : Hp), H t = none → H a0 = none → H a1 = none → H a2 = none → [t, a0, a1, a2].Nodup → H' t = some (.tup [.ref a0, .ref a1, .ref a2]) → H' a0 = some (.lst (o.map V.int)) → H' a1 = some (.lst (r1.map V.int)) → H' a2 = some (.lst (r2.map V.int)) → Same H H' → Q (.ref t) H')
def spDue54 : Sp := fun vs H Q _ => ∃ (w : Str) (l : Addr) (as : List Addr) (rs : List (List Int)) (n : Nat) (e : Int), vs = [.str w, .ref l, .int e] ∧ IsWay w ∧ OL H l as rs n ∧ 1 ≤ rs.length ∧ rs.length ≤ 120 ∧ n ≤ 6 ∧
  (nsF w rs e (allK n n) = none → ∀ H', Same H H' → Q .non H') ∧ (∀ o r1 r2, nsF w rs e (allK n n) = some (o, r1, r2) → ∀ (t a0 a1 a2 : Addr) (H' : Hp), H' t = some (.lst [.ref a0, .ref a1, .ref a2]) → H' a0 = some (.lst (o.map V.int)) → H' a1 = some (.lst (r1.map V.int)) → H' a2 = some (.lst (r2.map V.int)) → Same H H' → Q (.ref t) H')
section
variable {P : Program} {w : World} {K : PySem.W.Frag} {mg : Str → Option Value} {base : Heap}
theorem scThoseN : FnScope ["way", "order", "orders", "r", "other"] ["way", "order", "orders", "r"] (defScope s_those_within) := ⟨rfl, rfl, rfl, by decide +kernel, rfl, by decide +kernel, by decide +kernel⟩
set_option maxHeartbeats 4000000 in
theorem ok_thoseN {f f1 : Addr} {fd d1 : FuncData} {k : Nat} (T : Df K mg "those_within" s_those_within ["way", "order", "orders", "r"] f fd) (T_known_far : Df K mg "known_far" s_known_far ["way", "one", "other"] f1 d1) (G_known_far : FnOk P w K mg base CX0 k f1 d1 ["way", "one", "other"] spFar) (B : Bi mg) : FnOk P w K mg base CX0 (k + 1) f fd ["way", "order", "orders", "r"] spThoseN := by
  refine T.F.ok scThoseN (fun vs H Q E h => ?_) (fun cdv A outer s H vs Q E hr h => ?_)
  · obtain ⟨wy, a, l, as, xs, rs, n, r, rfl, _⟩ := h
    rfl
  · obtain ⟨wy, a, l, as, xs, rs, n, r, rfl, hw, ha, ox, hO, hlen, q⟩ := h
    have hal := hO.ll.len
    refine ⟨_, 
      (pss_one (ps_ret (pe_lc (own := [("other", 4)]) (g := (gName 4)) (tt := (tTest (tOp (rI0 fun i j => .bl (decide (i ≤ j))) (tCall spFar [] E0 (tCons (tVar 0) (tCons (tVar 1) (tCons (tVar 4) tNil)))) (tVar 3)))) (te := (tCB (rListOf K) (tCons (tVar 4) tNil))) rfl scThoseN.nd (pi_list (pv 2)) (blkOk_by (N := ["way", "order", "orders", "r", "other"]) (sc := defScope s_those_within) (by decide +kernel)) (fun _ _ _ _ _ => (pg_name (i := 4) scThoseN.nd rfl (.inl rfl))) (fun _ _ _ _ _ => (pts_one (pt_cmpR op_le (pe_call G_known_far hr (by rfl) T_known_far.g T_known_far.F.kp T_known_far.b .nil pass0 (pa_cons (pv 0) (pa_cons (pv 1) (pa_cons (pv 4) pa_nil)))) (pv 3) (nomark _)))) (fun _ _ _ _ _ => (pe_callTy call_list_of (by rfl) B.list (by decide +kernel) (pa_cons (pv 4) pa_nil)))))), ?_⟩
    refine ⟨_, rfl, l, rfl, ⟨_, SqL.of hO.top⟩, fun p np => ?_⟩
    refine lc_list (K := K) (a := l) (xs := as.map V.ref) (fun i H3 => ∃ bs : List Addr, H3 p = some (.lst (bs.map V.ref)) ∧ LL H3 bs ((rs.take i).filter fun o => decide (farW wy xs o ≤ r)) ∧ (∀ a ∈ bs, H a = none) ∧ p ∉ bs ∧ bs.Nodup ∧ Same H H3) ⟨[], upd_same, trivial, fun a ha => absurd ha List.not_mem_nil, List.not_mem_nil, List.nodup_nil, same_new np⟩ (fun i H3 _ hP => by obtain ⟨_, _, _, _, _, _, sm⟩ := hP; exact SqL.of (sm _ _ hO.top)) (fun i x H3 hx hP => ?_) (fun H3 hP => ?_)
    · obtain ⟨c0, ec, rfl⟩ := ref_at_inv hx
      obtain ⟨bs, hp3, hL3, hn3, np3, nd3, sm⟩ := hP
      obtain ⟨row, er, hc⟩ := (hO.ll.same sm).get ec
      have hbl := hL3.len
      have hbl2 : bs.length ≤ 1000 := by
        rw [hbl]
        exact Nat.le_trans (List.length_filter_le _ _) (by rw [List.length_take]; omega)
      refine ⟨rfl, _, rfl, _, rfl, _, rfl, wy, a, c0, n, xs, row, rfl, hw, sm _ _ ha, hc, ox, hO.ord row (List.mem_of_getElem? er), hO.n1, hO.n2, fun H4 s4 => ?_⟩
      refine ⟨_, rfl, _, _, rfl, rfl, _, rfl, ite2 (fun z => ?_) (fun z => ?_)⟩
      · refine ⟨_, rfl, c0, _, rfl, .inl (SqL.of (s4 _ _ hc)), fun c nc => ?_⟩
        have s5 := s4.trans (same_new (o := .lst (row.map V.int)) nc)
        have npc : p ≠ c := ne_of_none (s4 _ _ hp3) nc
        refine ⟨_, s5 _ _ hp3, line_lt (by rw [List.length_map]; omega), bs ++ [c], by rw [upd_same, List.map_append]; rfl, ?_, fun u hu => ?_, fun hu => ?_, ?_, fun b o e => ?_⟩
        · rw [filter_mo er, if_pos z]
          refine LL.snoc ((hL3.same s5).keep fun u hu o e => ?_) ?_
          · rw [upd_ne (fun q => np3 (by rw [← q]; exact hu))]
            exact e
          · rw [upd_ne npc.symm, upd_same]
        · rcases List.mem_append.mp hu with h | h
          · exact hn3 u h
          · rw [List.mem_singleton.mp h]
            exact (sm.trans s4).free nc
        · rcases List.mem_append.mp hu with h | h
          · exact np3 h
          · exact npc (List.mem_singleton.mp h)
        · rw [List.nodup_append]
          refine ⟨nd3, List.nodup_cons.mpr ⟨List.not_mem_nil, List.nodup_nil⟩, fun x hx y hy e => ?_⟩
          rw [List.mem_singleton.mp hy] at e
          obtain ⟨ob, eo⟩ := hL3.tracked hx
          rw [e, show H3 c = none from s4.free nc] at eo
          cases eo
        · rw [upd_ne (ne_of_none e np)]
          exact s5 _ _ (sm _ _ e)
      · refine ⟨bs, s4 _ _ hp3, ?_, hn3, np3, nd3, sm.trans s4⟩
        rw [filter_mo er, if_neg z, List.append_nil]
        exact hL3.same s4
    · obtain ⟨bs, hp3, hL3, hn3, np3, nd3, sm⟩ := hP
      rw [List.take_of_length_le (by rw [List.length_map]; omega)] at hL3
      exact q p bs H3 np hn3 np3 nd3 hp3 hL3 sm
theorem scNotSure : FnScope ["way", "orders", "e", "order", "near"] ["way", "orders", "e"] (defScope s_not_sure) := ⟨rfl, rfl, rfl, by decide +kernel, rfl, by decide +kernel, by decide +kernel⟩
set_option maxHeartbeats 8000000 in
theorem ok_notsure {f f1 f2 f3 : Addr} {fd d1 d2 d3 : FuncData} {k : Nat} (T : Df K mg "not_sure" s_not_sure ["way", "orders", "e"] f fd) (T_check_sure : Df K mg "check_sure" s_check_sure ["way", "orders", "e"] f1 d1) (T_all_orders : Df K mg "all_orders" s_all_orders ["n"] f2 d2) (T_those_within : Df K mg "those_within" s_those_within ["way", "order", "orders", "r"] f3 d3) (G_check_sure : FnOk P w K mg base CX0 k f1 d1 ["way", "orders", "e"] spSure) (G_all_orders : FnOk P w K mg base CX0 k f2 d2 ["n"] spAllO) (G_those_within : FnOk P w K mg base CX0 k f3 d3 ["way", "order", "orders", "r"] spThoseN) (B : Bi mg) : FnOk P w K mg base CX0 (k + 1) f fd ["way", "orders", "e"] spNotSure := by
  refine T.F.ok scNotSure (fun vs H Q E h => ?_) (fun cdv A outer s H vs Q E hr h => ?_)
  · obtain ⟨wy, l, as, rs, n, e, rfl, _⟩ := h
    rfl
  · obtain ⟨wy, l, as, rs, n, e, rfl, hw, hO, nd, h1, h2, hn6, he, q1, q2⟩ := h
    refine ⟨_, 
      (pss_cons (ps_expr (pe_call G_check_sure hr (by rfl) T_check_sure.g T_check_sure.F.kp T_check_sure.b .nil pass0 (pa_cons (pv 0) (pa_cons (pv 1) (pa_cons (pv 2) pa_nil)))))
      (pss_cons (ps_for PassesOwn.never rfl (pi_list (pe_call G_all_orders hr (by rfl) T_all_orders.g T_all_orders.F.kp T_all_orders.b .nil pass0 (pa_cons (pe_callB call_len_seq (by rfl) B.len PySem.boot_len (pa_cons (pe_ix ix_list (pv 1) pe_int (fun _ _ => rfl)) pa_nil)) pa_nil))) (pg_name (i := 3) scNotSure.nd rfl (.inl rfl))
        (pss_cons (ps_set (i := 4) scNotSure.nd rfl (.inl rfl) (pe_call G_those_within hr (by rfl) T_those_within.g T_those_within.F.kp T_those_within.b .nil pass0 (pa_cons (pv 0) (pa_cons (pv 3) (pa_cons (pv 1) (pa_cons (pv 2) pa_nil))))))
        (pss_one (ps_if (pt_cmpR op_gt (pe_callB call_len_seq (by rfl) B.len PySem.boot_len (pa_cons (pv 4) pa_nil)) pe_int (nomark _))
          (pss_one (ps_ret (pe_tup (pa_cons (pv 3) (pa_cons (pe_ix ix_list (pv 4) pe_int (fun _ _ => rfl)) (pa_cons (pe_ix ix_list (pv 4) pe_int (fun _ _ => rfl)) pa_nil))))))
          pss_nil))))
      (pss_one (ps_ret pe_non)))), ?_⟩
    refine ⟨_, rfl, _, rfl, _, rfl, wy, l, as, rs, n, e, rfl, hw, hO, nd, h1, h2, hn6, he, fun H1 s1 => ?_⟩
    have hO1 := hO.same s1
    have hal := hO.ll.len
    obtain ⟨b0, eb0⟩ : ∃ b0, as[0]? = some b0 := ⟨as[0]'(by omega), List.getElem?_eq_getElem (by omega)⟩
    obtain ⟨r0, er0, hb0⟩ := hO1.ll.get eb0
    have l0 := (hO.ord r0 (List.mem_of_getElem? er0)).len
    refine ⟨_, rfl, l, _, 0, _, rfl, rfl, SqL.of hO1.top, at_of (j := 0) rfl (ref_at eb0), b0, _, rfl, .inl (SqL.of hb0), n, by rw [List.length_map, l0]; rfl, hO.n1, hn6, fun al aas H2 nal hal2 hLL nas nda s2 => ?_⟩
    have s12 := s1.trans s2
    have hlen := hLL.len
    refine ⟨al, rfl, ⟨_, SqL.of hal2⟩, ?_⟩
    refine for_list (xs := aas.map V.ref) (fun i σ G => ∃ y3 y4, σ = [some (.str wy), some (.ref l), some (.int e), y3, y4] ∧ nsF wy rs e ((allK n n).take i) = none ∧ Same H2 G) ⟨_, _, rfl, rfl, Same.refl _⟩ (fun i σ G _ hP => by obtain ⟨_, _, _, _, sG⟩ := hP; exact SqL.of (sG _ _ hal2)) (fun i x σ G hx hP => ?_) (fun σ G hP => ?_)
    · obtain ⟨y3, y4, rfl, hN, sG⟩ := hP
      obtain ⟨c0, ec, rfl⟩ := ref_at_inv hx
      obtain ⟨o, eo, hc⟩ := (hLL.same sG).get ec
      have oo := all_ord (List.mem_of_getElem? eo)
      have s1G := s12.trans sG
      have hOG := hO.same s1G
      refine ⟨_, rfl, _, rfl, _, rfl, _, rfl, wy, c0, l, as, o, rs, n, e, rfl, hw, hc, oo, hOG, by omega, fun nl nas' G2 nnl nnas nin nnd hnl hLn s3 => ?_⟩
      have ln := hLn.len
      have lm : (nas'.map V.ref).length = nas'.length := List.length_map _
      refine ⟨_, rfl, nl, _, rfl, .inl (SqL.of hnl), _, 1, rfl, rfl, _, rfl, ite2 (fun c => ?_) (fun c => ?_)⟩
      · have c1 := of_decide_eq_true c
        rw [lm] at c1
        obtain ⟨u1, u2, tl, rfl⟩ : ∃ u1 u2 tl, nas' = u1 :: u2 :: tl := by
          match nas', c1 with
          | [], h => exact absurd h (by decide)
          | [_], h => exact absurd h (by simp)
          | u1 :: u2 :: tl, _ => exact ⟨_, _, _, rfl⟩
        obtain ⟨r1, r2, rt, hf⟩ : ∃ r1 r2 rt, (rs.filter fun x => decide (farW wy o x ≤ e)) = r1 :: r2 :: rt := by
          match hr : (rs.filter fun x => decide (farW wy o x ≤ e)), ln with
          | [], h => rw [hr] at ln; cases ln
          | [_], h => rw [hr] at ln; simp at ln
          | r1 :: r2 :: rt, _ => exact ⟨_, _, _, rfl⟩
        have hLn' := hLn
        rw [hf] at hLn'
        refine ⟨_, rfl, _, rfl, nl, _, 0, _, rfl, rfl, SqL.of hnl, at_of (j := 0) rfl rfl, _, rfl, nl, _, 1, _, rfl, rfl, SqL.of hnl, at_of (j := 1) rfl rfl, by show 3 ≤ sizeLine; decide, fun t nt => ?_⟩
        have s4 := same_new (o := .tup [.ref c0, .ref u1, .ref u2]) nt
        have m1 : r1 ∈ rs := (List.mem_filter.mp (show r1 ∈ rs.filter _ by rw [hf]; exact List.mem_cons_self)).1
        have m2 : r2 ∈ rs := (List.mem_filter.mp (show r2 ∈ rs.filter _ by rw [hf]; exact List.mem_cons_of_mem _ List.mem_cons_self)).1
        have f1 := nnas u1 List.mem_cons_self
        have f2 := nnas u2 (List.mem_cons_of_mem _ List.mem_cons_self)
        have e0 := s3 _ _ hc
        obtain ⟨n12, _⟩ := List.nodup_cons.mp nnd
        refine q2 o r1 r2 (nsF_hit hN eo hf) oo m1 m2 t c0 u1 u2 _ ((s1G.trans s3).free nt) (s1.free (nas c0 (List.mem_of_getElem? ec)).1) (s1G.free f1) (s1G.free f2) ?_ upd_same (s4 _ _ e0) (s4 _ _ hLn'.1) (s4 _ _ hLn'.2.1) ((s1G.trans s3).trans s4)
        have q1 : t ≠ c0 := fun z => by rw [z, e0] at nt; cases nt
        have q3 : t ≠ u1 := fun z => by rw [z, hLn'.1] at nt; cases nt
        have q4 : t ≠ u2 := fun z => by rw [z, hLn'.2.1] at nt; cases nt
        have q5 : c0 ≠ u1 := fun z => by rw [← z, hc] at f1; cases f1
        have q6 : c0 ≠ u2 := fun z => by rw [← z, hc] at f2; cases f2
        have q7 : u1 ≠ u2 := fun z => n12 (by rw [z]; exact List.mem_cons_self)
        simp [q1, q3, q4, q5, q6, q7]
      · refine ⟨_, _, rfl, nsF_miss hN eo ?_, sG.trans s3⟩
        have c1 : ¬ (1 : Int) < (((nas'.map V.ref).length : Nat) : Int) := fun z => c (decide_eq_true z)
        rw [lm] at c1
        rw [← ln]
        omega
    · obtain ⟨y3, y4, rfl, hN, sG⟩ := hP
      rw [List.take_of_length_le (by rw [List.length_map, hlen]; exact Nat.le_refl _)] at hN
      exact q1 hN _ (s12.trans sG)
end
end Fo
namespace Fo
open PySem PySem.Spec PyProof.Rows L2
theorem take2_more {p : List Int → Bool} {rs : List (List Int)} {i : Nat} {r : List Int} (e : rs[i]? = some r) : ((rs.take (i + 1)).filter p).take 2 = if ((rs.take i).filter p).length < 2 ∧ p r = true then ((rs.take i).filter p).take 2 ++ [r] else ((rs.take i).filter p).take 2 := by
  rw [take_more' e, List.filter_append, List.filter_cons, List.filter_nil]
  generalize (rs.take i).filter p = f
  by_cases hp : p r = true
  · rw [if_pos hp]
    by_cases hl : f.length < 2
    · rw [if_pos ⟨hl, hp⟩, List.take_of_length_le (by rw [List.length_append]; show f.length + 1 ≤ 2; omega), List.take_of_length_le (by omega)]
    · rw [if_neg (fun h => hl h.1), List.take_append_of_le_length (by omega)]
  · rw [if_neg hp, if_neg (fun h => hp h.2), List.append_nil]
def spR54 : Sp := fun vs H Q _ => ∃ (w : Str) (l : Addr) (as : List Addr) (rs : List (List Int)) (n : Nat) (e : Int) (m : Nat), vs = [.str w, .ref l, .int e, .int m] ∧ IsWay w ∧ OL H l as rs n ∧ rs.Nodup ∧ 1 ≤ rs.length ∧ rs.length ≤ 120 ∧ n ≤ 6 ∧ 0 ≤ e ∧ m ≤ 2 ∧ ∀ H', Same H H' → Q (.bl true) H'
section
variable {P : Program} {w : World} {K : PySem.W.Frag} {mg : Str → Option Value} {base : Heap}
theorem scDue54 : FnScope ["way", "orders", "errors", "order", "some", "one"] ["way", "orders", "errors"] (defScope s_law_due) := ⟨rfl, rfl, rfl, by decide +kernel, rfl, by decide +kernel, by decide +kernel⟩
set_option maxHeartbeats 8000000 in
theorem ok_due54 {f f1 f2 : Addr} {fd d1 d2 : FuncData} {k : Nat} (T : Df K mg "_law_due" s_law_due ["way", "orders", "errors"] f fd) (T__law_all : Df K mg "_law_all" s_law_all ["n"] f1 d1) (T__law_apart : Df K mg "_law_apart" s_law_apart ["way", "one", "other"] f2 d2) (G__law_all : FnOk P w K mg base CX0 k f1 d1 ["n"] spAllO) (G__law_apart : FnOk P w K mg base CX0 k f2 d2 ["way", "one", "other"] spFar) (B : Bi mg) : FnOk P w K mg base CX0 (k + 1) f fd ["way", "orders", "errors"] spDue54 := by
  refine T.F.ok scDue54 (fun vs H Q E h => ?_) (fun cdv A outer s H vs Q E hr h => ?_)
  · obtain ⟨wy, l, as, rs, n, e, rfl, _⟩ := h
    rfl
  · obtain ⟨wy, l, as, rs, n, e, rfl, hw, hO, h1, h2, hn6, q1, q2⟩ := h
    refine ⟨_, 
      (pss_cons (ps_for PassesOwn.never rfl (pi_list (pe_call G__law_all hr (by rfl) T__law_all.g T__law_all.F.kp T__law_all.b .nil pass0 (pa_cons (pe_callB call_len_seq (by rfl) B.len PySem.boot_len (pa_cons (pe_ix ix_list (pv 1) pe_int (fun _ _ => rfl)) pa_nil)) pa_nil))) (pg_name (i := 3) scDue54.nd rfl (.inl rfl))
        (pss_cons (ps_set (i := 4) scDue54.nd rfl (.inl rfl) (pe_lst pa_nil))
        (pss_cons (ps_for PassesOwn.never rfl (pi_list (pv 1)) (pg_name (i := 5) scDue54.nd rfl (.inl rfl))
          (pss_one (ps_if (PW.pt (pw_and (pt_cmpR op_lt (pe_callB call_len_seq (by rfl) B.len PySem.boot_len (pa_cons (pv 4) pa_nil)) pe_int (nomark _)) (pw_and1 (pt_cmpR op_le (pe_call G__law_apart hr (by rfl) T__law_apart.g T__law_apart.F.kp T__law_apart.b .nil pass0 (pa_cons (pv 0) (pa_cons (pv 3) (pa_cons (pv 5) pa_nil)))) (pv 2) (nomark _)))))
            (pss_one (ps_expr (pe_bm PySem.F.plainAttrs_list PySem.F.slot_list_append PySem.F.type_list_append mt_append (pv 4) (pa_cons (pv 5) pa_nil))))
            pss_nil)))
        (pss_one (ps_if (pt_cmpR op_eq (pe_callB call_len_seq (by rfl) B.len PySem.boot_len (pa_cons (pv 4) pa_nil)) pe_int (nomark _))
          (pss_one (ps_ret (pe_lst (pa_cons (pv 3) (pa_cons (pe_ix ix_list (pv 4) pe_int (fun _ _ => rfl)) (pa_cons (pe_ix ix_list (pv 4) pe_int (fun _ _ => rfl)) pa_nil))))))
          pss_nil)))))
      (pss_one (ps_ret pe_non))), ?_⟩
    have hal := hO.ll.len
    obtain ⟨b0, eb0⟩ : ∃ b0, as[0]? = some b0 := ⟨as[0]'(by omega), List.getElem?_eq_getElem (by omega)⟩
    obtain ⟨r0, er0, hb0⟩ := hO.ll.get eb0
    have l0 := (hO.ord r0 (List.mem_of_getElem? er0)).len
    refine ⟨_, rfl, l, _, 0, _, rfl, rfl, SqL.of hO.top, at_of (j := 0) rfl (ref_at eb0), b0, _, rfl, .inl (SqL.of hb0), n, by rw [List.length_map, l0]; rfl, hO.n1, hn6, fun al aas H2 nal hal2 hLL nas nda s2 => ?_⟩
    have hlen := hLL.len
    refine ⟨al, rfl, ⟨_, SqL.of hal2⟩, ?_⟩
    refine for_list (xs := aas.map V.ref) (fun i σ G => ∃ y3 y4 y5, σ = [some (.str wy), some (.ref l), some (.int e), y3, y4, y5] ∧ nsF wy rs e ((allK n n).take i) = none ∧ Same H2 G) ⟨_, _, _, rfl, rfl, Same.refl _⟩ (fun i σ G _ hP => by obtain ⟨_, _, _, _, _, sG⟩ := hP; exact SqL.of (sG _ _ hal2)) (fun i x σ G hx hP => ?_) (fun σ G hP => ?_)
    · obtain ⟨y3, y4, y5, rfl, hN, sG⟩ := hP
      obtain ⟨c0, ec, rfl⟩ := ref_at_inv hx
      obtain ⟨o, eo, hc⟩ := (hLL.same sG).get ec
      have oo := all_ord (List.mem_of_getElem? eo)
      have s1G := s2.trans sG
      have hOG := hO.same s1G
      refine ⟨by show 0 ≤ sizeLine; decide, fun S nS => ?_⟩
      have s3 := same_new (o := .lst []) nS
      refine ⟨_, rfl, l, rfl, ⟨_, SqL.of (hOG.same s3).top⟩, ?_⟩
      refine for_list (xs := as.map V.ref) (fun j σ C => ∃ (y5 : Option V) (cs : List Addr), σ = [some (.str wy), some (.ref l), some (.int e), some (.ref c0), some (.ref S), y5] ∧ C S = some (.lst (cs.map V.ref)) ∧ LL C cs (((rs.take j).filter fun x => decide (farW wy o x ≤ e)).take 2) ∧ (∀ c ∈ cs, c ∈ as) ∧ Same G C) ⟨_, [], rfl, upd_same, trivial, fun c h => absurd h List.not_mem_nil, s3⟩ (fun j σ C _ hP => by obtain ⟨_, _, _, _, _, _, sC⟩ := hP; exact SqL.of (sC _ _ hOG.top)) (fun j x σ C hx2 hP => ?_) (fun σ C hP => ?_)
      · obtain ⟨y5, cs, rfl, hS, hL, sub, sC⟩ := hP
        obtain ⟨d0, ed, rfl⟩ := ref_at_inv hx2
        obtain ⟨row, er, hd⟩ := (hOG.ll.same sC).get ed
        have nSas : ∀ c ∈ as, c ≠ S := fun c hc z => by
          obtain ⟨ob, eo⟩ := hOG.ll.tracked hc
          rw [z, nS] at eo; cases eo
        have ln := hL.len
        have lm : (cs.map V.ref).length = cs.length := List.length_map _
        have tm := take2_more (p := fun x => decide (farW wy o x ≤ e)) er
        have lt : (((rs.take j).filter fun x => decide (farW wy o x ≤ e)).take 2).length = min 2 ((rs.take j).filter fun x => decide (farW wy o x ≤ e)).length := List.length_take
        refine ⟨_, rfl, S, _, rfl, .inl (SqL.of hS), _, 2, rfl, rfl, _, rfl, ite2 (fun c => ?_) (fun c => ?_)⟩
        · have c1 := of_decide_eq_true c
          rw [lm] at c1
          refine ⟨_, rfl, _, rfl, _, rfl, wy, c0, d0, n, o, row, rfl, hw, sC _ _ hc, hd, oo, hO.ord row (List.mem_of_getElem? er), hO.n1, hO.n2, fun C2 s4 => ?_⟩
          refine ⟨_, rfl, _, _, rfl, rfl, _, rfl, ite2 (fun c2 => ?_) (fun c2 => ?_)⟩
          · replace c2 := of_decide_eq_true c2
            rw [if_pos ⟨by omega, decide_eq_true c2⟩] at tm
            refine ⟨_, rfl, .inl ⟨rfl, _, SqL.of (s4 _ _ hS)⟩, _, rfl, S, _, _, rfl, rfl, s4 _ _ hS, line_lt (by omega), _, cs ++ [d0], rfl, by rw [upd_same, List.map_append]; rfl, ?_, fun z hz => ?_, fun b ob hb => ?_⟩
            · rw [tm]
              refine LL.snoc ((hL.same s4).keep fun z hz o e => by rw [upd_ne (nSas z (sub z hz))]; exact e) ?_
              rw [upd_ne (nSas d0 (List.mem_of_getElem? ed))]
              exact s4 _ _ hd
            · rcases List.mem_append.mp hz with hz | hz
              · exact sub z hz
              · rw [List.mem_singleton.mp hz]; exact List.mem_of_getElem? ed
            · rw [upd_ne (ne_of_none hb nS)]
              exact s4 _ _ (sC _ _ hb)
          · rw [if_neg (fun h => c2 h.2)] at tm
            exact ⟨_, cs, rfl, s4 _ _ hS, by rw [tm]; exact hL.same s4, sub, sC.trans s4⟩
        · have c1 : ¬ ((((cs.map V.ref).length : Nat) : Int) < 2) := fun z => c (decide_eq_true z)
          rw [lm] at c1
          rw [if_neg (fun h => c1 (by omega))] at tm
          exact ⟨_, cs, rfl, hS, by rw [tm]; exact hL, sub, sC⟩
      · obtain ⟨y5, cs, rfl, hS, hL, sub, sC⟩ := hP
        rw [List.take_of_length_le (show rs.length ≤ (as.map V.ref).length by rw [List.length_map]; omega)] at hL
        have ln := hL.len
        have lm : (cs.map V.ref).length = cs.length := List.length_map _
        refine ⟨_, rfl, S, _, rfl, .inl (SqL.of hS), rfl, _, rfl, ite2 (fun c => ?_) (fun c => ?_)⟩
        · have c1 := V.int.inj (of_decide_eq_true c)
          rw [lm] at c1
          obtain ⟨u1, u2, rfl⟩ : ∃ u1 u2, cs = [u1, u2] := by
            match cs, c1 with
            | [u1, u2], _ => exact ⟨_, _, rfl⟩
            | [], h => exact absurd h (by decide)
            | [_], h => exact absurd h (by simp)
            | _ :: _ :: _ :: _, h => exact absurd h (by simp; omega)
          obtain ⟨r1, r2, rt, hf⟩ : ∃ r1 r2 rt, (rs.filter fun x => decide (farW wy o x ≤ e)) = r1 :: r2 :: rt := by
            rw [List.length_take] at ln
            match hr : (rs.filter fun x => decide (farW wy o x ≤ e)) with
            | [] => rw [hr] at ln; cases ln
            | [_] => rw [hr] at ln; simp at ln
            | r1 :: r2 :: rt => exact ⟨_, _, _, rfl⟩
          rw [hf] at hL
          refine ⟨_, rfl, _, rfl, S, _, 0, _, rfl, rfl, SqL.of hS, at_of (j := 0) rfl rfl, _, rfl, S, _, 1, _, rfl, rfl, SqL.of hS, at_of (j := 1) rfl rfl, line_small (by show 3 ≤ 16777216; decide), fun t nt => ?_⟩
          have s4 := same_new (o := .lst [.ref c0, .ref u1, .ref u2]) nt
          exact q2 o r1 r2 (nsF_hit hN eo hf) t c0 u1 u2 _ upd_same (s4 _ _ (sC _ _ hc)) (s4 _ _ hL.1) (s4 _ _ hL.2.1) ((s1G.trans sC).trans s4)
        · refine ⟨_, _, _, rfl, nsF_miss hN eo ?_, sG.trans sC⟩
          have c1 : cs.length ≠ 2 := fun z => c (decide_eq_true (by rw [lm, z]; rfl))
          rw [List.length_take] at ln
          omega
    · obtain ⟨y3, y4, y5, rfl, hN, sG⟩ := hP
      rw [List.take_of_length_le (by rw [List.length_map, hlen]; exact Nat.le_refl _)] at hN
      exact q1 hN _ (s2.trans sG)
end
end Fo
namespace Fo
open PySem PySem.Spec PyProof.Rows L2
section
variable {P : Program} {w : World} {K : PySem.W.Frag} {mg : Str → Option Value} {base : Heap}
theorem scR54 : FnScope ["way", "orders", "errors", "asks", "due", "handed", "again", "found", "one"] ["way", "orders", "errors", "asks"] (defScope s_law_right) := ⟨rfl, rfl, rfl, by decide +kernel, rfl, by decide +kernel, by decide +kernel⟩
set_option maxHeartbeats 16000000 in
theorem ok_R54 {f f1 f2 f3 f4 : Addr} {fd d1 d2 d3 d4 : FuncData} {k : Nat} (T : Df K mg "_law_right" s_law_right ["way", "orders", "errors", "asks"] f fd) (T__law_due : Df K mg "_law_due" s_law_due ["way", "orders", "errors"] f1 d1) (T__law_copies : Df K mg "_law_copies" s_law_copies ["orders"] f2 d2) (T_not_sure : Df K mg "not_sure" s_not_sure ["way", "orders", "e"] f3 d3) (T__law_are_orders : Df K mg "_law_are_orders" s_law_are_orders ["found", "due"] f4 d4) (G__law_due : FnOk P w K mg base CX0 k f1 d1 ["way", "orders", "errors"] spDue54) (G__law_copies : FnOk P w K mg base CX0 k f2 d2 ["orders"] spCop50) (G_not_sure : FnOk P w K mg base CX0 k f3 d3 ["way", "orders", "e"] spNotSure) (G__law_are_orders : FnOk P w K mg base CX0 k f4 d4 ["found", "due"] spAre50) (B : Bi mg) : FnOk P w K mg base CX0 (k + 1) f fd ["way", "orders", "errors", "asks"] spR54 := by
  refine T.F.ok scR54 (fun vs H Q E h => ?_) (fun cdv A outer s H vs Q E hr h => ?_)
  · obtain ⟨wy, l, as, rs, n, e, m, rfl, _⟩ := h
    rfl
  · obtain ⟨wy, l, as, rs, n, e, m, rfl, hw, hO, nd, h1, h2, hn6, he, hm2, q⟩ := h
    refine ⟨_, 
      (pss_cons (ps_set (i := 4) scR54.nd rfl (.inl rfl) (pe_call G__law_due hr (by rfl) T__law_due.g T__law_due.F.kp T__law_due.b .nil pass0 (pa_cons (pv 0) (pa_cons (pv 1) (pa_cons (pv 2) pa_nil)))))
      (pss_cons (ps_set (i := 5) scR54.nd rfl (.inl rfl) (pe_call G__law_copies hr (by rfl) T__law_copies.g T__law_copies.F.kp T__law_copies.b .nil pass0 (pa_cons (pv 1) pa_nil)))
      (pss_cons (ps_for PassesOwn.never rfl (pi_range1 (by rfl) B.range (pa_cons (pv 3) pa_nil)) (pg_name (i := 6) scR54.nd rfl (.inl rfl))
        (pss_cons (ps_set (i := 7) scR54.nd rfl (.inl rfl) (pe_call G_not_sure hr (by rfl) T_not_sure.g T_not_sure.F.kp T_not_sure.b .nil pass0 (pa_cons (pv 0) (pa_cons (pv 5) (pa_cons (pv 2) pa_nil)))))
        (pss_cons (ps_if (PW.pt (pw_or (pt_cmpR (op_neD hr.units) (pv 5) (pv 1) (nomark _)) (pw_or1 (pt_cmpR op_ne (pe_cmpR op_isN (pv 7) pe_non (nomark _)) (pe_cmpR op_isN (pv 4) pe_non (nomark _)) (nomark _)))))
          (pss_one (ps_ret pe_bl))
          pss_nil)
        (pss_one (ps_if (pt_cmpR op_notN (pv 7) pe_non (nomark _))
          (pss_cons (ps_if (PW.pt (pw_or (pt_not (pt_val (pe_callB call_isi (by rfl) B.isinstance (by decide +kernel) (pa_cons (pv 7) (pa_cons (pe_bltn (v := .ty "tuple") (by rfl) B.tuple (by decide +kernel) rfl) pa_nil))))) (pw_or1 (pt_not (pt_val (pe_call G__law_are_orders hr (by rfl) T__law_are_orders.g T__law_are_orders.F.kp T__law_are_orders.b .nil pass0 (pa_cons (pe_callTy call_list_of (by rfl) B.list (by decide +kernel) (pa_cons (pv 7) pa_nil)) (pa_cons (pv 4) pa_nil))))))))
            (pss_one (ps_ret pe_bl))
            pss_nil)
          (pss_cons (ps_for PassesOwn.never rfl (pi_tup (pv 7)) (pg_name (i := 8) scR54.nd rfl (.inl rfl))
            (pss_one (ps_expr (pe_bm PySem.F.plainAttrs_list PySem.F.slot_list_append PySem.F.type_list_append mt_append (pv 8) (pa_cons pe_int pa_nil)))))
          (pss_one (ps_if (PW.pt (pw_or (pt_cmpR (op_neD hr.units) (pv 5) (pv 1) (nomark _)) (pw_or1 (pt_cmpR (op_neD hr.units) (pe_lc (own := [("one", 8)]) (g := (gName 8)) (tt := tYes) (te := (tCB (rLenS K) (tCons (tVar 8) tNil))) rfl scR54.nd (pi_tup (pv 7)) (blkOk_by (N := ["way", "orders", "errors", "asks", "due", "handed", "again", "found", "one"]) (sc := defScope s_law_right) (by decide +kernel)) (fun _ _ _ _ _ => (pg_name (i := 8) scR54.nd rfl (.inl rfl))) (fun _ _ _ _ _ => pts_nil) (fun _ _ _ _ _ => (pe_callB call_len_seq (by rfl) B.len PySem.boot_len (pa_cons (pv 8) pa_nil)))) (pe_op op_rep (pe_lst (pa_cons (pe_op op_add (pe_callB call_len_seq (by rfl) B.len PySem.boot_len (pa_cons (pe_ix ix_list (pv 1) pe_int (fun _ _ => rfl)) pa_nil)) pe_int) pa_nil)) pe_int) (nomark _)))))
            (pss_one (ps_ret pe_bl))
            pss_nil))))
          pss_nil)))))
      (pss_one (ps_ret pe_bl))))), ?_⟩
    have hal := hO.ll.len
    refine ⟨_, rfl, _, rfl, _, rfl, wy, l, as, rs, n, e, rfl, hw, hO, h1, h2, hn6, fun hN H1 s1 => ?_, fun o r1 r2 hN p b0 b1 b2 H1 hp hb0 hb1 hb2 s1 => ?_⟩
    · have hO1 := hO.same s1
      refine ⟨_, rfl, l, as, rs, rfl, hO1.top, hO1.ll, h2, fun u us H2 nu nus niu ndu hu hU s2 => ?_⟩
      have s12 := s1.trans s2
      refine ⟨_, rfl, m, rfl, by omega, by omega, ?_⟩
      rw [Int.toNat_natCast]
      refine for_range (n := m) (fun i σ G => ∃ y6 y7 y8, σ = [some (.str wy), some (.ref l), some (.int e), some (.int m), some .non, some (.ref u), y6, y7, y8] ∧ Same H2 G) ⟨_, _, _, rfl, Same.refl _⟩ (fun i σ G hi hP => ?_) (fun σ G hP => ?_)
      · obtain ⟨y6, y7, y8, rfl, sg⟩ := hP
        have hOu : OL G u us rs n := ⟨sg _ _ hu, hU.same sg, hO.ord, hO.n1, hO.n2⟩
        refine ⟨_, rfl, _, rfl, _, rfl, wy, u, us, rs, n, e, rfl, hw, hOu, nd, h1, h2, hn6, he, fun _ G2 s3 => ?_, fun o r1 r2 z => by rw [hN] at z; cases z⟩
        have hOu2 := hOu.same s3
        have hO2 := hO.same (s12.trans (sg.trans s3))
        refine ⟨_, rfl, _, rfl, _, _, dp_lists hOu2.top hOu2.ll, dp_lists hO2.top hO2.ll, shaped_lists _, shaped_lists _, _, rfl, ?_⟩
        rw [eqv_lists]
        refine iteF ?_
        refine ⟨_, rfl, rfl, _, rfl, rfl, rfl, _, rfl, iteNS rfl ?_⟩
        refine ⟨_, rfl, rfl, _, rfl, iteF ?_⟩
        exact ⟨_, _, _, rfl, sg.trans s3⟩
      · obtain ⟨y6, y7, y8, rfl, sg⟩ := hP
        exact q _ (s12.trans sg)
    · have hO1 := hO.same s1
      refine ⟨_, rfl, l, as, rs, rfl, hO1.top, hO1.ll, h2, fun u us H2 nu nus niu ndu hu hU s2 => ?_⟩
      have s12 := s1.trans s2
      refine ⟨_, rfl, m, rfl, by omega, by omega, ?_⟩
      rw [Int.toNat_natCast]
      refine for_range (n := m) (fun i σ G => ∃ y6 y7 y8, σ = [some (.str wy), some (.ref l), some (.int e), some (.int m), some (.ref p), some (.ref u), y6, y7, y8] ∧ Same H2 G) ⟨_, _, _, rfl, Same.refl _⟩ (fun i σ G hi hP => ?_) (fun σ G hP => ?_)
      rotate_left
      · obtain ⟨y6, y7, y8, rfl, sg⟩ := hP
        exact q _ (s12.trans sg)
      obtain ⟨y6, y7, y8, rfl, sg⟩ := hP
      have hOu : OL G u us rs n := ⟨sg _ _ hu, hU.same sg, hO.ord, hO.n1, hO.n2⟩
      refine ⟨_, rfl, _, rfl, _, rfl, wy, u, us, rs, n, e, rfl, hw, hOu, nd, h1, h2, hn6, he, fun z => absurd (hN.symm.trans z) (by simp), fun o' r1' r2' hN' oo m1 m2 t a0 a1 a2 G2 nt n0 n1 n2 ndt ht ha0 ha1 ha2 s3 => ?_⟩
      obtain ⟨rfl, rfl, rfl⟩ : o = o' ∧ r1 = r1' ∧ r2 = r2' := by
        rw [hN] at hN'
        cases hN'
        exact ⟨rfl, rfl, rfl⟩
      have hOu2 := hOu.same s3
      have hO2 := hO.same (s12.trans (sg.trans s3))
      refine ⟨_, rfl, _, rfl, _, _, dp_lists hOu2.top hOu2.ll, dp_lists hO2.top hO2.ll, shaped_lists _, shaped_lists _, _, rfl, ?_⟩
      rw [eqv_lists]
      refine iteF ?_
      refine ⟨_, rfl, rfl, _, rfl, rfl, rfl, _, rfl, iteNS rfl ?_⟩
      refine ⟨_, rfl, rfl, _, rfl, ite2 (fun _ => ?_) (fun c => absurd rfl c)⟩
      refine ⟨_, rfl, _, _, _, _, true, rfl, .ty _, .base (.tup ht), kit_ty (by decide +kernel), true, rfl, iteF ?_⟩
      refine ⟨_, rfl, t, _, rfl, .inr (SqT.of ht), fun z nz => ?_⟩
      have s4 := same_new (o := .lst [.ref a0, .ref a1, .ref a2]) nz
      have s24 := (s2.trans (sg.trans s3)).trans s4
      have ol0 := oo.len
      have ol1 := (hO.ord r1 m1).len
      have ol2 := (hO.ord r2 m2).len
      refine ⟨_, rfl, z, p, [a0, a1, a2], [b0, b1, b2], [o, r1, r2], rfl, upd_same, s24 _ _ hp, ⟨s4 _ _ ha0, s4 _ _ ha1, s4 _ _ ha2, trivial⟩, ⟨s24 _ _ hb0, s24 _ _ hb1, s24 _ _ hb2, trivial⟩, fun G3 s5 => ⟨true, rfl, iteF ?_⟩⟩
      have s45 := s4.trans s5
      have s35 := s3.trans s45
      have ht3 := s45 _ _ ht
      refine ⟨_, rfl, t, rfl, ⟨_, SqT.of ht3⟩, ?_⟩
      have ap : ∀ (c : Addr), c = a0 ∨ c = a1 ∨ c = a2 → G c = none := fun c hc => by rcases hc with rfl | rfl | rfl <;> assumption
      obtain ⟨d01, d02, d03, d12, d13, d23⟩ : t ≠ a0 ∧ t ≠ a1 ∧ t ≠ a2 ∧ a0 ≠ a1 ∧ a0 ≠ a2 ∧ a1 ≠ a2 := by
        simp only [List.nodup_cons, List.mem_cons, List.not_mem_nil, or_false, not_or] at ndt
        exact ⟨ndt.1.1, ndt.1.2.1, ndt.1.2.2, ndt.2.1.1, ndt.2.1.2, ndt.2.2.1⟩
      refine for_tup (xs := [.ref a0, .ref a1, .ref a2]) (fun j σ C => ∃ y8, σ = [some (.str wy), some (.ref l), some (.int e), some (.int m), some (.ref p), some (.ref u), some (.int (0 + (i : Int))), some (.ref t), y8] ∧ C t = some (.tup [.ref a0, .ref a1, .ref a2]) ∧ C a0 = some (.lst (o.map V.int ++ if 0 < j then [.int 0] else [])) ∧ C a1 = some (.lst (r1.map V.int ++ if 1 < j then [.int 0] else [])) ∧ C a2 = some (.lst (r2.map V.int ++ if 2 < j then [.int 0] else [])) ∧ Same G C) ⟨_, rfl, ht3, by simp; exact s45 _ _ ha0, by simp; exact s45 _ _ ha1, by simp; exact s45 _ _ ha2, s35⟩ (fun j σ C _ hP => by obtain ⟨_, _, e, _⟩ := hP; exact SqT.of e) (fun j x σ C hx hP => ?_) (fun σ C hP => ?_)
      · obtain ⟨y8, rfl, hct, hc0, hc1, hc2, sC⟩ := hP
        have hj : j < 3 := (List.getElem?_eq_some_iff.mp hx).1
        rcases (show j = 0 ∨ j = 1 ∨ j = 2 by omega) with rfl | rfl | rfl
        · obtain rfl := (Option.some.inj hx).symm
          refine ⟨_, rfl, .inl ⟨rfl, _, SqL.of hc0⟩, a0, _, _, rfl, rfl, hc0, line_lt (by simp; omega), _, rfl, ?_, ?_, ?_, ?_, fun b ob eb => ?_⟩
          · rw [upd_ne d01]; exact hct
          · rw [upd_same]; simp
          · rw [upd_ne d12.symm]; exact hc1
          · rw [upd_ne d13.symm]; exact hc2
          · rw [upd_ne (fun z => by rw [z, n0] at eb; cases eb)]
            exact sC _ _ eb
        · obtain rfl := (Option.some.inj hx).symm
          refine ⟨_, rfl, .inl ⟨rfl, _, SqL.of hc1⟩, a1, _, _, rfl, rfl, hc1, line_lt (by simp; omega), _, rfl, ?_, ?_, ?_, ?_, fun b ob eb => ?_⟩
          · rw [upd_ne d02]; exact hct
          · rw [upd_ne d12]; exact hc0
          · rw [upd_same]; simp
          · rw [upd_ne d23.symm]; exact hc2
          · rw [upd_ne (fun z => by rw [z, n1] at eb; cases eb)]
            exact sC _ _ eb
        · obtain rfl := (Option.some.inj hx).symm
          refine ⟨_, rfl, .inl ⟨rfl, _, SqL.of hc2⟩, a2, _, _, rfl, rfl, hc2, line_lt (by simp; omega), _, rfl, ?_, ?_, ?_, ?_, fun b ob eb => ?_⟩
          · rw [upd_ne d03]; exact hct
          · rw [upd_ne d13]; exact hc0
          · rw [upd_ne d23]; exact hc1
          · rw [upd_same]; simp
          · rw [upd_ne (fun z => by rw [z, n2] at eb; cases eb)]
            exact sC _ _ eb
      obtain ⟨y8, rfl, hct, hc0, hc1, hc2, sC⟩ := hP
      have hOu3 := hOu.same sC
      have s12C := s12.trans (sg.trans sC)
      have hO3 := hO.same s12C
      refine ⟨_, rfl, _, rfl, _, _, dp_lists hOu3.top hOu3.ll, dp_lists hO3.top hO3.ll, shaped_lists _, shaped_lists _, _, rfl, ?_⟩
      rw [eqv_lists]
      refine iteF ?_
      refine ⟨_, rfl, t, rfl, ⟨_, SqT.of hct⟩, fun D nD => ?_⟩
      refine lc_tup (K := K) (a := t) (xs := [.ref a0, .ref a1, .ref a2]) (fun j C2 => C2 D = some (.lst ((List.replicate j ((n : Int) + 1)).map V.int)) ∧ Same C C2) ⟨upd_same, same_new nD⟩ (fun j C2 _ hP => SqT.of (hP.2 _ _ hct)) (fun j x C2 hx hP => ?_) (fun C2 hP => ?_)
      · obtain ⟨hD, s6⟩ := hP
        have hj : j < 3 := (List.getElem?_eq_some_iff.mp hx).1
        obtain ⟨c, ys, rfl, hc, hl⟩ : ∃ c ys, x = V.ref c ∧ C2 c = some (.lst ys) ∧ ys.length = n + 1 := by
          match j, hx with
          | 0, hx => exact ⟨a0, _, (Option.some.inj hx).symm, s6 _ _ hc0, by simp [ol0]⟩
          | 1, hx => exact ⟨a1, _, (Option.some.inj hx).symm, s6 _ _ hc1, by simp [ol1]⟩
          | 2, hx => exact ⟨a2, _, (Option.some.inj hx).symm, s6 _ _ hc2, by simp [ol2]⟩
        refine ⟨rfl, _, rfl, c, _, rfl, .inl (SqL.of hc), _, hD, line_lt (by rw [List.length_map, List.length_replicate]; omega), ?_, fun b ob eb => ?_⟩
        · rw [upd_same, List.replicate_succ', List.map_append, hl]
          rfl
        · rw [upd_ne (ne_of_none eb nD)]
          exact s6 _ _ eb
      obtain ⟨hD, s6⟩ := hP
      obtain ⟨x0, ex0⟩ : ∃ x0, as[0]? = some x0 := ⟨as[0]'(by omega), List.getElem?_eq_getElem (by omega)⟩
      have hO4 := hO3.same s6
      obtain ⟨g0, eg0, hx0⟩ := hO4.ll.get ex0
      have lg := (hO.ord g0 (List.mem_of_getElem? eg0)).len
      refine ⟨_, rfl, l, _, 0, _, rfl, rfl, SqL.of hO4.top, at_of (j := 0) rfl (ref_at ex0), x0, _, rfl, .inl (SqL.of hx0), _, 1, rfl, rfl, line_small (by show 1 ≤ 16777216; decide), fun v nv => ?_⟩
      have s7 := same_new (o := .lst [V.int ((((g0.map V.int).length : Nat) : Int) + 1)]) nv
      refine ⟨v, 3, _, rfl, rfl, upd_same, by decide, by decide, line_small (by show 3 ≤ 16777216; decide), fun z2 nz2 => ?_⟩
      have s8 := same_new (o := .lst (List.replicate (Int.toNat 3) [V.int ((((g0.map V.int).length : Nat) : Int) + 1)]).flatten) nz2
      have hz2 : (upd (upd C2 v (.lst [V.int ((((g0.map V.int).length : Nat) : Int) + 1)])) z2 (.lst (List.replicate (Int.toNat 3) [V.int ((((g0.map V.int).length : Nat) : Int) + 1)]).flatten)) z2 = some (.lst ((List.replicate 3 ((n : Int) + 1)).map V.int)) := by
        rw [upd_same, List.length_map, lg]
        rfl
      refine ⟨dL (List.replicate 3 ((n : Int) + 1)), dL (List.replicate 3 ((n : Int) + 1)), dp_list ((s7.trans s8) _ _ hD), dp_list hz2, shaped_list _, shaped_list _, _, rfl, ?_⟩
      rw [eqv_list]
      exact iteF ⟨_, _, _, rfl, sg.trans (sC.trans (s6.trans (s7.trans s8)))⟩
end
end Fo
namespace Fo
open PySem PySem.Spec PyProof.Rows L2
theorem eqv_nilL (xs : List Int) : PyData.eqv (dL xs) (dL []) = decide (xs = []) := by rw [eqv_ints]
def spThree54 : Sp := fun vs H Q _ => ∃ (d c : Nat), vs = [.ref d] ∧ PoolAt H d c ∧ c + 800 < 1048576 ∧
  ∀ (l : Addr) (as : List Addr) (rs : List (List Int)) (H' : Hp), OL H' l as rs 6 → rs.Nodup → 1 ≤ rs.length → rs.length ≤ 40 → l ≠ d → d ∉ as → PoolAt H' d (c + 800) → KeepD d H H' → Q (.ref l) H'
theorem LL.take {H : Hp} : ∀ {as : List Addr} {rs : List (List Int)} (k : Nat), LL H as rs → LL H (as.take k) (rs.take k)
  | _, _, 0, _ => trivial
  | [], [], _ + 1, _ => trivial
  | [], _ :: _, _ + 1, h => h.elim
  | _ :: _, [], _ + 1, h => h.elim
  | _ :: _, _ :: _, k + 1, h => ⟨h.1, LL.take k h.2⟩
section
variable {P : Program} {w : World} {K : PySem.W.Frag} {mg : Str → Option Value} {base : Heap}
theorem scThree54 : FnScope ["pool", "found", "turn", "order", "one"] ["pool"] (defScope s_law_three_apart) := ⟨rfl, rfl, rfl, by decide +kernel, rfl, by decide +kernel, by decide +kernel⟩
set_option maxHeartbeats 8000000 in
theorem ok_three54 {f f1 f2 f3 f4 : Addr} {fd d1 d2 d3 d4 : FuncData} {k : Nat} (T : Df K mg "_law_three_apart" s_law_three_apart ["pool"] f fd) (T__law_order : Df K mg "_law_order" s_law_order ["pool", "n"] f1 d1) (T__law_apart : Df K mg "_law_apart" s_law_apart ["way", "one", "other"] f2 d2) (T__law_take : Df K mg "_law_take" s_law_take ["pool", "many"] f3 d3) (T__law_near : Df K mg "_law_near" s_law_near ["pool", "order"] f4 d4) (G__law_order : FnOk P w K mg base CX0 k f1 d1 ["pool", "n"] spOrderP) (G__law_apart : FnOk P w K mg base CX0 k f2 d2 ["way", "one", "other"] spFar) (G__law_take : FnOk P w K mg base CX0 k f3 d3 ["pool", "many"] spTake) (G__law_near : FnOk P w K mg base CX0 k f4 d4 ["pool", "order"] spNearP) (B : Bi mg) : FnOk P w K mg base CX0 (k + 1) f fd ["pool"] spThree54 := by
  refine T.F.ok scThree54 (fun vs H Q E h => ?_) (fun cdv A outer s H vs Q E hr h => ?_)
  · obtain ⟨d, c, rfl, _⟩ := h
    rfl
  · obtain ⟨d, c, rfl, P0, hc, q⟩ := h
    refine ⟨_, 
      (pss_cons (ps_set (i := 1) scThree54.nd rfl (.inl rfl) (pe_lst pa_nil))
      (pss_cons (ps_for PassesOwn.never rfl (pi_range1 (by rfl) B.range (pa_cons pe_int pa_nil)) (pg_name (i := 2) scThree54.nd rfl (.inl rfl))
        (pss_cons (ps_set (i := 3) scThree54.nd rfl (.inr rfl) (pe_call G__law_order hr (by rfl) T__law_order.g T__law_order.F.kp T__law_order.b .nil pass0 (pa_cons (pv 0) (pa_cons pe_int pa_nil))))
        (pss_one (ps_if (PW.pt (pw_and (pt_cmpR op_lt (pe_callB call_len_seq (by rfl) B.len PySem.boot_len (pa_cons (pv 1) pa_nil)) pe_int (nomark _)) (pw_and1 (pt_cmpR (op_eqD hr.units) (pe_lc (own := [("one", 4)]) (g := (gName 4)) (tt := (tTest (tOp (rI0 fun i j => .bl (decide (i < j))) (tCall spFar [] E0 (tCons (tC (.str "swap")) (tCons (tVar 3) (tCons (tVar 4) tNil)))) (tC (.int 3))))) (te := (tC (.int 1))) rfl scThree54.nd (pi_list (pv 1)) (blkOk_by (N := ["pool", "found", "turn", "order", "one"]) (sc := defScope s_law_three_apart) (by decide +kernel)) (fun _ _ _ _ _ => (pg_name (i := 4) scThree54.nd rfl (.inl rfl))) (fun _ _ _ _ _ => (pts_one (pt_cmpR op_lt (pe_call G__law_apart hr (by rfl) T__law_apart.g T__law_apart.F.kp T__law_apart.b .nil pass0 (pa_cons pe_str (pa_cons (pv 3) (pa_cons (pv 4) pa_nil)))) pe_int (nomark _)))) (fun _ _ _ _ _ => pe_int)) (pe_lst pa_nil) (nomark _)))))
          (pss_one (ps_expr (pe_bm PySem.F.plainAttrs_list PySem.F.slot_list_append PySem.F.type_list_append mt_append (pv 1) (pa_cons (pv 3) pa_nil))))
          pss_nil))))
      (pss_cons (ps_set (i := 4) scThree54.nd rfl (.inl rfl) (pe_call G__law_near hr (by rfl) T__law_near.g T__law_near.F.kp T__law_near.b .nil pass0 (pa_cons (pv 0) (pa_cons (pe_ix ix_list (pv 1) (pe_call G__law_take hr (by rfl) T__law_take.g T__law_take.F.kp T__law_take.b .nil pass0 (pa_cons (pv 0) (pa_cons (pe_callB call_len_seq (by rfl) B.len PySem.boot_len (pa_cons (pv 1) pa_nil)) pa_nil))) (fun _ _ => rfl)) pa_nil))))
      (Evl.pss_cut (ps_if (pt_cmpR (op_notInD (units65 hr)) (pv 4) (pv 1) (by rfl))
        (pss_one (ps_expr (pe_bm PySem.F.plainAttrs_list PySem.F.slot_list_insert PySem.F.type_list_insert mt_insert (pv 1) (pa_cons (pe_call G__law_take hr (by rfl) T__law_take.g T__law_take.F.kp T__law_take.b .nil pass0 (pa_cons (pv 0) (pa_cons (pe_op op_add (pe_callB call_len_seq (by rfl) B.len PySem.boot_len (pa_cons (pv 1) pa_nil)) pe_int) pa_nil))) (pa_cons (pv 4) pa_nil)))))
        pss_nil)
      (pss_one (ps_ret (pv 1))))))), ?_⟩
    refine ⟨by show 0 ≤ sizeLine; decide, fun l nl => ?_⟩
    have s0 := same_new (o := .lst []) nl
    have ld := P0.ne nl
    refine ⟨60, rfl, by decide, by decide, ?_⟩
    have fs : (rs : List (List Int)) → (o : List Int) → List (List Int) := fun rs o => rs.filter fun x => decide (farW "swap" o x < 3)
    refine for_range (n := 60) (fun i σ G => ∃ (y2 y3 y4 : Option V) (as : List Addr) (rs : List (List Int)), σ = [some (.ref d), some (.ref l), y2, y3, y4] ∧ G l = some (.lst (as.map V.ref)) ∧ LL G as rs ∧ (∀ r ∈ rs, IsOrd 6 r) ∧ rs.Nodup ∧ rs.length ≤ 39 ∧ (1 ≤ i → 1 ≤ rs.length) ∧ (∀ a ∈ as, a ≠ l ∧ a ≠ d) ∧ PoolAt G d (c + 12 * i) ∧ (∀ b o, H b = some o → b ≠ d → G b = some o)) ⟨_, _, _, [], [], rfl, upd_same, trivial, fun r h => absurd h List.not_mem_nil, List.nodup_nil, by decide, fun h => absurd h (by decide), fun a h => absurd h List.not_mem_nil, P0.same s0, fun b o e _ => s0 _ _ e⟩ (fun i σ G hi hP => ?_) (fun σ G hP => ?_)
    · obtain ⟨y2, y3, y4, as, rs, rfl, hl, hL, hord, hnd, hle, hpos, hne, PG, kG⟩ := hP
      have nHl : H l = none := nl
      refine ⟨_, rfl, d, 6, _, rfl, PG, by decide, by omega, fun o c0 G1 oo n0 h0 c0d P1 k1 => ?_⟩
      have hl1 := k1 _ _ hl ld
      have hL1 := hL.keep (fun a ha ob e => k1 _ _ e (hne a ha).2)
      have c0l : c0 ≠ l := fun z => by rw [z, hl] at n0; cases n0
      have kk1 : ∀ b o, H b = some o → b ≠ d → G1 b = some o := fun b o e f => k1 _ _ (kG b o e f) f
      have lm : (as.map V.ref).length = as.length := List.length_map _
      have hal := hL.len
      refine ⟨_, rfl, l, _, rfl, .inl (SqL.of hl1), _, 39, rfl, rfl, _, rfl, ite2 (fun z => ?_) (fun z => ?_)⟩
      rotate_left
      · refine ⟨_, _, _, as, rs, rfl, hl1, hL1, hord, hnd, hle, fun _ => ?_, hne, P1.mono (by omega), kk1⟩
        have z1 : ¬ ((((as.map V.ref).length : Nat) : Int) < 39) := fun y => z (decide_eq_true y)
        omega
      have z1 := of_decide_eq_true z
      rw [lm] at z1
      refine ⟨_, rfl, l, rfl, ⟨_, SqL.of hl1⟩, fun D nD => ?_⟩
      refine lc_list (K := K) (a := l) (xs := as.map V.ref) (fun j C => C D = some (.lst ((((rs.take j).filter fun x => decide (farW "swap" o x < 3)).map fun _ => (1 : Int)).map V.int)) ∧ Same G1 C) ⟨upd_same, same_new nD⟩ (fun j C _ hP => SqL.of (hP.2 _ _ hl1)) (fun j x C hx hP => ?_) (fun C hP => ?_)
      · obtain ⟨hD, sC⟩ := hP
        obtain ⟨a0, ea, rfl⟩ := ref_at_inv hx
        obtain ⟨row, er, ha⟩ := (hL1.same sC).get ea
        refine ⟨rfl, _, rfl, _, rfl, "swap", c0, a0, 6, o, row, rfl, .inl rfl, sC _ _ h0, ha, oo, hord row (List.mem_of_getElem? er), by decide, by decide, fun C2 s4 => ?_⟩
        refine ⟨_, _, rfl, rfl, _, rfl, ite2 (fun c2 => ?_) (fun c2 => ?_)⟩
        · replace c2 := of_decide_eq_true c2
          refine ⟨_, s4 _ _ hD, line_lt (by
            rw [List.length_map, List.length_map]
            have := List.length_filter_le (fun x => decide (farW "swap" o x < 3)) (rs.take j)
            rw [List.length_take] at this
            omega), ?_, fun b ob e => ?_⟩
          · rw [upd_same, take_more' er, List.filter_append, List.filter_cons, if_pos (decide_eq_true c2), List.map_append, List.map_append]
            rfl
          · rw [upd_ne (ne_of_none e nD)]
            exact s4 _ _ (sC _ _ e)
        · have c3 : ¬ farW "swap" o row < 3 := fun y => c2 (decide_eq_true y)
          refine ⟨?_, sC.trans s4⟩
          rw [take_more' er, List.filter_append, List.filter_cons, if_neg (by rw [decide_eq_false c3]; decide), List.filter_nil, List.append_nil]
          exact s4 _ _ hD
      · obtain ⟨hD, sC⟩ := hP
        rw [List.take_of_length_le (by omega)] at hD
        refine ⟨by decide, fun e ne => ?_⟩
        have s7 := same_new (o := .lst []) ne
        have s17 := sC.trans s7
        refine ⟨_, dL [], dp_list (s7 _ _ hD), dp_list (ns := []) upd_same, shaped_list _, shaped_list _, _, rfl, ?_⟩
        rw [eqv_nilL]
        have kk2 : ∀ b o, H b = some o → b ≠ d → (upd C e (.lst [])) b = some o := fun b o e f => s17 _ _ (kk1 b o e f)
        refine ite2 (fun z2 => ?_) (fun z2 => ?_)
        · have z3 := List.map_eq_nil_iff.mp (of_decide_eq_true z2)
          have nin : o ∉ rs := fun m => by
            have := List.filter_eq_nil_iff.mp z3 o m
            rw [farW_self oo (by decide)] at this
            exact this (by decide)
          refine ⟨_, rfl, .inl ⟨rfl, _, SqL.of (s17 _ _ hl1)⟩, _, rfl, l, _, _, rfl, rfl, s17 _ _ hl1, line_lt (by omega), _, _, _, as ++ [c0], rs ++ [o], rfl, by rw [upd_same, List.map_append]; rfl, ?_, fun r hr => ?_, ?_, ?_, fun _ => ?_, fun a ha => ?_, ?_, fun b ob eb f => ?_⟩
          · refine LL.snoc ((hL1.same s17).keep fun a ha ob e => by rw [upd_ne (hne a ha).1]; exact e) ?_
            rw [upd_ne c0l]
            exact s17 _ _ h0
          · rcases List.mem_append.mp hr with hr | hr
            · exact hord r hr
            · rw [List.mem_singleton.mp hr]; exact oo
          · exact nodup_snoc hnd nin
          · rw [List.length_append]; show rs.length + 1 ≤ 39; omega
          · rw [List.length_append]; show 1 ≤ rs.length + 1; omega
          · rcases List.mem_append.mp ha with ha | ha
            · exact hne a ha
            · rw [List.mem_singleton.mp ha]; exact ⟨c0l, c0d⟩
          · exact ((P1.same s17).upd ld).mono (by omega)
          · rw [upd_ne (fun z => by rw [z, nl] at eb; cases eb)]
            exact kk2 b ob eb f
        · refine ⟨_, _, _, as, rs, rfl, s17 _ _ hl1, hL1.same s17, hord, hnd, hle, fun _ => ?_, hne, (P1.same s17).mono (by omega), kk2⟩
          cases rs with
          | nil => exact absurd (decide_eq_true rfl) z2
          | cons r t => show 1 ≤ t.length + 1; omega
    · obtain ⟨y2, y3, y4, as, rs, rfl, hl, hL, hord, hnd, hle, hpos, hne, PG, kG⟩ := hP
      have h1 := hpos (by decide)
      have hal := hL.len
      have lm : (as.map V.ref).length = as.length := List.length_map _
      refine ⟨_, rfl, _, rfl, _, rfl, _, rfl, l, _, rfl, .inl (SqL.of hl), d, _, _, rfl, PG, by omega, by omega, by omega, fun v G1 v0 v1 P1 k1 => ?_⟩
      rw [lm] at v1
      obtain ⟨b, eb⟩ : ∃ b, as[v.toNat]? = some b := ⟨as[v.toNat]'(by omega), List.getElem?_eq_getElem (by omega)⟩
      have hl1 := k1 _ _ hl ld
      have hL1 := hL.keep (fun a ha ob e => k1 _ _ e (hne a ha).2)
      obtain ⟨x, ex, hb⟩ := hL1.get eb
      have ox := hord x (List.mem_of_getElem? ex)
      refine ⟨l, _, _, _, rfl, rfl, SqL.of hl1, at_of (j := v.toNat) (by omega) (ref_at eb), d, b, 6, _, x, rfl, P1, hb, ox, by decide, by decide, by omega, fun y a0 G2 oy n0 ha0 a0d P2 k2 => ?_⟩
      have hl2 := k2 _ _ hl1 ld
      have hL2 := hL1.keep (fun a ha ob e => k2 _ _ e (hne a ha).2)
      have a0l : a0 ≠ l := fun z => by rw [z, hl1] at n0; cases n0
      have kk2 : ∀ b o, H b = some o → b ≠ d → G2 b = some o := fun b o e f => k2 _ _ (k1 _ _ (kG b o e f) f) f
      refine ⟨fun τ G => ∃ (as : List Addr) (rs : List (List Int)), τ = [some (.ref d), some (.ref l), y2, y3, some (.ref a0)] ∧ OL G l as rs 6 ∧ rs.Nodup ∧ 1 ≤ rs.length ∧ rs.length ≤ 40 ∧ d ∉ as ∧ PoolAt G d (c + 800) ∧ KeepD d H G, ?_, fun τ G hM => ?_⟩
      · refine ⟨_, rfl, _, rfl, dL y, rs.map dL, dp_list ha0, dp_lists hl2 hL2, shaped_list _, shaped_lists _, _, rfl, ?_⟩
        show (if (!(rs.map dL).any fun z => PyData.eqv z (dL y)) = true then _ else _)
        rw [any_row]
        by_cases m1 : y ∈ rs
        · rw [decide_eq_true m1]
          exact iteF ⟨as, rs, rfl, ⟨hl2, hL2, hord, by decide, by decide⟩, hnd, h1, by omega, fun h => (hne d h).2 rfl, P2.mono (by omega), kk2⟩
        rw [decide_eq_false m1]
        refine iteT ?_
        refine ⟨_, rfl, .inl ⟨rfl, _, SqL.of hl2⟩, _, rfl, _, rfl, l, _, rfl, .inl (SqL.of hl2), _, 1, rfl, rfl, d, _, _, rfl, P2, by omega, by omega, by omega, fun v2 G3 v20 v21 P3 k3 => ?_⟩
        have hl3 := k3 _ _ hl2 ld
        have hL3 := hL2.keep (fun a ha ob e => k3 _ _ e (hne a ha).2)
        rw [lm] at v21
        refine ⟨_, rfl, l, _, v2, _, rfl, rfl, hl3, line_lt (by omega), v20, by omega, ?_⟩
        generalize hj : v2.toNat = j
        have hjl : j ≤ rs.length := by omega
        have hp := ins_perm5 rs j y
        refine ⟨as.take j ++ [a0] ++ as.drop j, rs.take j ++ [y] ++ rs.drop j, rfl, ⟨by rw [upd_same, List.map_append, List.map_append, List.map_take, List.map_drop]; rfl, ?_, fun r hr => ?_, by decide, by decide⟩, ?_, ?_, ?_, fun h => ?_, ?_, fun b ob eb f => ?_⟩
        · have hk : LL (upd G3 l (.lst ((as.map V.ref).take j ++ [V.ref a0] ++ (as.map V.ref).drop j))) as rs := hL3.keep fun a ha ob e => by rw [upd_ne (hne a ha).1]; exact e
          refine extend_LL (LL.snoc (hk.take j) ?_) (hk.drop j)
          rw [upd_ne a0l]
          exact k3 _ _ ha0 a0d
        · rcases List.mem_cons.mp (hp.mem_iff.mp hr) with rfl | hr
          · exact oy
          · exact hord r hr
        · exact hp.nodup_iff.mpr (List.nodup_cons.mpr ⟨m1, hnd⟩)
        · rw [hp.length_eq, List.length_cons]; omega
        · rw [hp.length_eq, List.length_cons]; omega
        · rcases List.mem_append.mp h with h | h
          · rcases List.mem_append.mp h with h | h
            · exact (hne d (List.mem_of_mem_take h)).2 rfl
            · exact a0d (List.mem_singleton.mp h).symm
          · exact (hne d (List.mem_of_mem_drop h)).2 rfl
        · exact (P3.upd ld).mono (by omega)
        · rw [upd_ne (fun z => by rw [z, nl] at eb; cases eb)]
          exact k3 _ _ (kk2 b ob eb f) f
      obtain ⟨as2, rs2, rfl, hO, nd2, p1, p2, nda, PX, kX⟩ := hM
      exact ⟨_, rfl, q l as2 rs2 G hO nd2 p1 p2 ld nda PX kX⟩
end
end Fo
namespace Fo
open PySem PySem.Spec PyProof.Rows L2
theorem max_if (i j : Int) : (if j > i then j else i) = max i j := by split <;> omega
theorem min_if (i j : Int) : (if j < i then j else i) = min i j := by split <;> omega
def spLaw (K : PySem.W.Frag) : Sp := fun vs H Q _ => ∃ (a : Addr) (ns : List Int), vs = [.ref a] ∧ SqL K H a (ns.map V.int) ∧ ns.length ≤ 63 ∧ ∀ H', Q (.bl true) H'
section
variable {P : Program} {w : World} {K : PySem.W.Frag} {mg : Str → Option Value} {base : Heap}
theorem scLaw : FnScope ["script", "k", "pool", "n", "most", "great", "orders", "errors", "ways", "way"] ["script"] (defScope s_law) := ⟨rfl, rfl, rfl, by decide +kernel, rfl, by decide +kernel, by decide +kernel⟩
set_option maxHeartbeats 8000000 in
theorem ok_law {f f1 f2 f3 f4 f5 f6 f7 f8 : Addr} {fd d1 d2 d3 d4 d5 d6 d7 d8 : FuncData} (T : Fun K "law" "law" s_law f fd) (T__law_pool : Df K mg "_law_pool" s_law_pool ["script", "k"] f1 d1) (T__law_take : Df K mg "_law_take" s_law_take ["pool", "many"] f2 d2) (T__law_orders : Df K mg "_law_orders" s_law_orders ["pool", "n", "most"] f3 d3) (T__law_ways : Df K mg "_law_ways" s_law_ways [] f4 d4) (T__law_far : Df K mg "_law_far" s_law_far ["pool"] f5 d5) (T__law_three_apart : Df K mg "_law_three_apart" s_law_three_apart ["pool"] f6 d6) (T__law_right : Df K mg "_law_right" s_law_right ["way", "orders", "errors", "asks"] f7 d7) (T_not_sure : Df K mg "not_sure" s_not_sure ["way", "orders", "e"] f8 d8)
    (G__law_pool : FnOk P w K mg base CX0 12 f1 d1 ["script", "k"] (spPool K)) (G__law_take : FnOk P w K mg base CX0 12 f2 d2 ["pool", "many"] spTake) (G__law_orders : FnOk P w K mg base CX0 12 f3 d3 ["pool", "n", "most"] spOrders) (G__law_ways : FnOk P w K mg base CX0 12 f4 d4 [] spWays) (G__law_far : FnOk P w K mg base CX0 12 f5 d5 ["pool"] spFarN) (G__law_three_apart : FnOk P w K mg base CX0 12 f6 d6 ["pool"] spThree54) (G__law_right : FnOk P w K mg base CX0 12 f7 d7 ["way", "orders", "errors", "asks"] spR54) (G_not_sure : FnOk P w K mg base CX0 12 f8 d8 ["way", "orders", "e"] spNotSure)
    (B : Bi mg) : FnOk P w K mg base CX0 13 f fd ["script"] (spLaw K) := by
  refine T.ok scLaw (fun vs H Q E h => ?_) (fun cdv A outer s H vs Q E hr h => ?_)
  · obtain ⟨a, ns, rfl, _⟩ := h
    rfl
  · obtain ⟨a, ns, rfl, hS, hlen, q⟩ := h
    have hlm : (ns.map V.int).length = ns.length := List.length_map _
    refine ⟨_, 
      (pss_cons (ps_for PassesOwn.never rfl (pi_range1 (by rfl) B.range (pa_cons (pe_callB (call_max2 rfl) (by rfl) B.max (by decide +kernel) (pa_cons pe_int (pa_cons (pe_callB (call_min2 rfl) (by rfl) B.min (by decide +kernel) (pa_cons pe_int (pa_cons (pe_callB call_len_seq (by rfl) B.len PySem.boot_len (pa_cons (pv 0) pa_nil)) pa_nil))) pa_nil))) pa_nil)) (pg_name (i := 1) scLaw.nd rfl (.inl rfl))
        (pss_cons (ps_set (i := 2) scLaw.nd rfl (.inl rfl) (pe_call G__law_pool hr (by rfl) T__law_pool.g T__law_pool.F.kp T__law_pool.b .nil pass0 (pa_cons (pv 0) (pa_cons (pv 1) pa_nil))))
        (pss_cons (ps_set (i := 3) scLaw.nd rfl (.inl rfl) (pe_op op_add pe_int (pe_call G__law_take hr (by rfl) T__law_take.g T__law_take.F.kp T__law_take.b .nil pass0 (pa_cons (pv 2) (pa_cons pe_int pa_nil)))))
        (pss_cons (ps_set (i := 4) scLaw.nd rfl (.inl rfl) pe_int)
        (Evl.pss_cut (ps_set (i := 5) scLaw.nd rfl (.inl rfl) (pe_ix ix_list (pe_lst (pa_cons (pe_call G__law_take hr (by rfl) T__law_take.g T__law_take.F.kp T__law_take.b .nil pass0 (pa_cons (pv 2) (pa_cons pe_int pa_nil))) (pa_cons pe_int pa_nil))) (pe_callTy call_int1 (by rfl) B.int (by decide +kernel) (pa_cons (pe_cmpR op_gt (pv 1) pe_int (nomark _)) pa_nil)) (fun _ _ => rfl)))
        (Evl.pss_cut (ps_if (pt_cmpR op_eq (pv 5) pe_int (nomark _))
          (pss_cons (ps_set (i := 3) scLaw.nd rfl (.inl rfl) pe_int)
          (pss_one (ps_set (i := 4) scLaw.nd rfl (.inl rfl) pe_int)))
          pss_nil)
        (Evl.pss_cut (ps_if (pt_cmpR op_eq (pv 5) pe_int (nomark _))
          (pss_cons (ps_set (i := 3) scLaw.nd rfl (.inl rfl) pe_int)
          (pss_one (ps_set (i := 4) scLaw.nd rfl (.inl rfl) pe_int)))
          pss_nil)
        (Evl.pss_cut (ps_if (pt_cmpR op_eq (pv 5) pe_int (nomark _))
          (pss_cons (ps_set (i := 3) scLaw.nd rfl (.inl rfl) pe_int)
          (pss_one (ps_set (i := 4) scLaw.nd rfl (.inl rfl) pe_int)))
          pss_nil)
        (pss_cons (ps_set (i := 6) scLaw.nd rfl (.inl rfl) (pe_call G__law_orders hr (by rfl) T__law_orders.g T__law_orders.F.kp T__law_orders.b .nil pass0 (pa_cons (pv 2) (pa_cons (pv 3) (pa_cons (pv 4) pa_nil)))))
        (Evl.pss_cut (ps_set (i := 7) scLaw.nd rfl (.inl rfl) (pe_ix ix_list (pe_lst (pa_cons (pe_call G__law_take hr (by rfl) T__law_take.g T__law_take.F.kp T__law_take.b .nil pass0 (pa_cons (pv 2) (pa_cons pe_int pa_nil))) (pa_cons (pe_call G__law_take hr (by rfl) T__law_take.g T__law_take.F.kp T__law_take.b .nil pass0 (pa_cons (pv 2) (pa_cons pe_int pa_nil))) (pa_cons (pe_call G__law_far hr (by rfl) T__law_far.g T__law_far.F.kp T__law_far.b .nil pass0 (pa_cons (pv 2) pa_nil)) pa_nil)))) (pe_callB (call_max2 rfl) (by rfl) B.max (by decide +kernel) (pa_cons pe_int (pa_cons (pe_op op_sub (pe_call G__law_take hr (by rfl) T__law_take.g T__law_take.F.kp T__law_take.b .nil pass0 (pa_cons (pv 2) (pa_cons pe_int pa_nil))) pe_int) pa_nil))) (fun _ _ => rfl)))
        (Evl.pss_cut (ps_if (pt_cmpR op_eq (pv 5) pe_int (nomark _))
          (pss_cons (ps_set (i := 7) scLaw.nd rfl (.inl rfl) (pe_callB (call_max2 rfl) (by rfl) B.max (by decide +kernel) (pa_cons pe_int (pa_cons (pv 7) pa_nil))))
          (pss_one (ps_if (pt_cmpR op_eq (pe_call G__law_take hr (by rfl) T__law_take.g T__law_take.F.kp T__law_take.b .nil pass0 (pa_cons (pv 2) (pa_cons pe_int pa_nil))) pe_int (nomark _))
            (pss_cons (ps_set (i := 6) scLaw.nd rfl (.inl rfl) (pe_call G__law_three_apart hr (by rfl) T__law_three_apart.g T__law_three_apart.F.kp T__law_three_apart.b .nil pass0 (pa_cons (pv 2) pa_nil)))
            (pss_one (ps_set (i := 7) scLaw.nd rfl (.inl rfl) (pe_call G__law_take hr (by rfl) T__law_take.g T__law_take.F.kp T__law_take.b .nil pass0 (pa_cons (pv 2) (pa_cons pe_int pa_nil))))))
            pss_nil)))
          pss_nil)
        (pss_cons (ps_set (i := 8) scLaw.nd rfl (.inl rfl) (pe_call0 G__law_ways hr (by rfl) T__law_ways.g T__law_ways.F.kp T__law_ways.b .nil pass0))
        (Evl.pss_cut (ps_if (pt_cmpR op_lt (pv 5) pe_int (nomark _))
          (pss_one (ps_set (i := 8) scLaw.nd rfl (.inl rfl) (pe_lst (pa_cons (pe_ix ix_list (pv 8) (pe_call G__law_take hr (by rfl) T__law_take.g T__law_take.F.kp T__law_take.b .nil pass0 (pa_cons (pv 2) (pa_cons pe_int pa_nil))) (fun _ _ => rfl)) pa_nil))))
          pss_nil)
        (pss_one (ps_for PassesOwn.never rfl (pi_list (pv 8)) (pg_name (i := 9) scLaw.nd rfl (.inl rfl))
          (pss_one (ps_if (pt_not (pt_val (pe_call G__law_right hr (by rfl) T__law_right.g T__law_right.F.kp T__law_right.b .nil pass0 (pa_cons (pv 9) (pa_cons (pv 6) (pa_cons (pv 7) (pa_cons (pe_ix ix_list (pe_lst (pa_cons pe_int (pa_cons pe_int pa_nil))) (pe_callTy call_int1 (by rfl) B.int (by decide +kernel) (pa_cons (pe_cmpR op_gt (pv 5) pe_int (nomark _)) pa_nil)) (fun _ _ => rfl)) pa_nil)))))))
            (pss_one (ps_ret pe_bl))
            pss_nil)))))))))))))))))
      (pss_one (ps_ret (pe_and (pe_cmpR op_isN (pe_call G_not_sure hr (by rfl) T_not_sure.g T_not_sure.F.kp T_not_sure.b .nil pass0 (pa_cons pe_str (pa_cons (pe_lst (pa_cons (pe_lst (pa_cons pe_int (pa_cons pe_int (pa_cons pe_int pa_nil)))) (pa_cons (pe_lst (pa_cons pe_int (pa_cons pe_int (pa_cons pe_int pa_nil)))) pa_nil))) (pa_cons pe_int pa_nil)))) pe_non (nomark _)) (pe_one (pe_cmpR op_isN (pe_call G_not_sure hr (by rfl) T_not_sure.g T_not_sure.F.kp T_not_sure.b .nil pass0 (pa_cons pe_str (pa_cons (pe_lst (pa_cons (pe_lst (pa_cons pe_int pa_nil)) pa_nil)) (pa_cons pe_int pa_nil)))) pe_non (nomark _))))))), ?_⟩
    refine ⟨_, rfl, a, _, rfl, .inl hS, _, _, rfl, _, _, rfl, ?_⟩
    rw [max_if, min_if, hlm]
    refine ⟨_, rfl, by omega, by omega, ?_⟩
    generalize hN : (max 1 (min 6 ((ns.length : Nat) : Int))).toNat = N
    have hN2 : N ≤ 6 := by omega
    refine for_range (n := N) (fun i σ H1 => ∃ y1 y2 y3 y4 y5 y6 y7 y8 y9, σ = [some (.ref a), y1, y2, y3, y4, y5, y6, y7, y8, y9] ∧ Same H H1) ⟨_, _, _, _, _, _, _, _, _, rfl, Same.refl _⟩ (fun i σ H1 hi hW => ?_) (fun σ H1 hW => ?_)
    · obtain ⟨y1, y2, y3, y4, y5, y6, y7, y8, y9, rfl, sm⟩ := hW
      refine ⟨_, rfl, _, rfl, a, ns, i, by rw [Int.zero_add]; rfl, sm.seq hS, hlen, by omega, fun d H2 nd P2 s2 => ?_⟩
      have nHd : H d = none := sm.free nd
      have sm2 := sm.trans s2
      have kk2 := KeepD.of_same (d := d) sm2
      -- n, most
      refine ⟨_, rfl, d, 5, _, rfl, P2, by decide, by decide, by decide, fun v1 H3 v10 v11 P3 k3 => ?_⟩
      obtain ⟨n, hn, hn1, hn2⟩ : ∃ n : Nat, 1 + v1 = (n : Int) ∧ 1 ≤ n ∧ n ≤ 6 := ⟨(1 + v1).toNat, by omega, by omega, by omega⟩
      refine ⟨1, _, rfl, rfl, ?_⟩
      show gName 3 (V.int (1 + v1)) _ _ _
      rw [hn]
      replace kk2 := kk2.trans k3
      -- great
      refine ⟨fun τ G => ∃ gr : Int, τ = [some (.ref a), some (.int (0 + (i : Int))), some (.ref d), some (.int n), some (.int 10), some (.int gr), y6, y7, y8, y9] ∧ PoolAt G d 5002 ∧ KeepD d H G, ?_, fun τ G hM => ?_⟩
      · refine ⟨_, rfl, d, 4, _, rfl, P3, by decide, by decide, by decide, fun v2 H4 v20 v21 P4 k4 => ?_⟩
        refine ⟨line_small (by show 2 ≤ 16777216; decide), fun t2 nt2 => ?_⟩
        have u3 := same_new (o := .lst [.int v2, .int 9]) nt2
        have ht2 : (upd H4 t2 (.lst [.int v2, .int 9])) t2 = some (.lst [.int v2, .int 9]) := upd_same
        obtain ⟨gr, hgr⟩ : ∃ gr : Int, atI [V.int v2, V.int 9] (if decide (0 < (0 : Int) + (i : Int)) = true then 1 else 0) = some (V.int gr) := by
          by_cases c : decide (0 < (0 : Int) + (i : Int)) = true
          · rw [if_pos c]; exact ⟨9, rfl⟩
          · rw [if_neg c]; exact ⟨v2, rfl⟩
        exact ⟨_, rfl, _, 0, rfl, rfl, .inr ⟨_, rfl, t2, _, _, _, rfl, rfl, SqL.of ht2, hgr, gr, rfl, P4.same u3, kk2.trans (k4.trans (KeepD.of_same u3))⟩⟩
      obtain ⟨gr, rfl, P4, kk4⟩ := hM
      -- three tests
      refine ⟨fun τ G' => ∃ (n mo : Nat), 1 ≤ n ∧ n ≤ 6 ∧ 1 ≤ mo ∧ mo ≤ 120 ∧ τ = [some (.ref a), some (.int (0 + (i : Int))), some (.ref d), some (.int n), some (.int mo), some (.int gr), y6, y7, y8, y9] ∧ G' = G, ?_, fun τ G' hM => ?_⟩
      · exact ⟨_, rfl, rfl, _, rfl, ite2 (fun _ => ⟨6, 20, by decide, by decide, by decide, by decide, rfl, rfl⟩) (fun _ => ⟨n, 10, hn1, hn2, by decide, by decide, rfl, rfl⟩)⟩
      obtain ⟨n, mo, hn1, hn2, hm1, hm2, rfl, rfl⟩ := hM
      refine ⟨fun τ G => ∃ (n mo : Nat), 1 ≤ n ∧ n ≤ 6 ∧ 1 ≤ mo ∧ mo ≤ 120 ∧ τ = [some (.ref a), some (.int (0 + (i : Int))), some (.ref d), some (.int n), some (.int mo), some (.int gr), y6, y7, y8, y9] ∧ G = G', ?_, fun τ G hM => ?_⟩
      · exact ⟨_, rfl, rfl, _, rfl, ite2 (fun _ => ⟨5, 120, by decide, by decide, by decide, by decide, rfl, rfl⟩) (fun _ => ⟨n, mo, hn1, hn2, hm1, hm2, rfl, rfl⟩)⟩
      obtain ⟨n, mo, hn1, hn2, hm1, hm2, rfl, rfl⟩ := hM
      refine ⟨fun τ G' => ∃ (n mo : Nat), 1 ≤ n ∧ n ≤ 6 ∧ 1 ≤ mo ∧ mo ≤ 120 ∧ τ = [some (.ref a), some (.int (0 + (i : Int))), some (.ref d), some (.int n), some (.int mo), some (.int gr), y6, y7, y8, y9] ∧ G' = G, ?_, fun τ G' hM => ?_⟩
      · exact ⟨_, rfl, rfl, _, rfl, ite2 (fun _ => ⟨6, 120, by decide, by decide, by decide, by decide, rfl, rfl⟩) (fun _ => ⟨n, mo, hn1, hn2, hm1, hm2, rfl, rfl⟩)⟩
      obtain ⟨n, mo, hn1, hn2, hm1, hm2, rfl, rfl⟩ := hM
      -- orders
      refine ⟨_, rfl, _, rfl, _, rfl, d, n, mo, _, rfl, P4, hn1, by omega, hm1, hm2, by decide, fun l as rs H6 hO nd6 h1 h2 nl nas nld nda nla P6 k6 => ?_⟩
      have kk6 := kk4.trans k6
      -- errors
      refine ⟨fun τ G => ∃ er : Int, 0 ≤ er ∧ τ = [some (.ref a), some (.int (0 + (i : Int))), some (.ref d), some (.int n), some (.int mo), some (.int gr), some (.ref l), some (.int er), y8, y9] ∧ PoolAt G d 45010 ∧ KeepD d H6 G, ?_, fun τ G hM => ?_⟩
      · refine ⟨_, rfl, d, 4, _, rfl, P6, by decide, by decide, by decide, fun e1 G9 e10 _ P9 k9 => ?_⟩
        refine ⟨_, rfl, d, 2, _, rfl, P9, by decide, by decide, by decide, fun e2 G10 e20 _ P10 k10 => ?_⟩
        refine ⟨_, rfl, d, _, rfl, P10, by decide, fun e3 G11 e30 P11 k11 => ?_⟩
        refine ⟨line_small (by show 3 ≤ 16777216; decide), fun EL nEL => ?_⟩
        have u12 := same_new (o := .lst ([e1, e2, e3].map V.int)) nEL
        have hEL : (upd G11 EL (.lst ([e1, e2, e3].map V.int))) EL = some (.lst ([e1, e2, e3].map V.int)) := upd_same
        have ELd := P11.ne nEL
        have P12 : PoolAt (upd G11 EL (.lst ([e1, e2, e3].map V.int))) d _ := P11.same u12
        refine ⟨_, rfl, d, 8, _, rfl, P12, by decide, by decide, by decide, fun v9 G12 v90 v91 PX k12 => ?_⟩
        have hEL2 := k12 _ _ hEL ELd
        obtain ⟨er, her, er0⟩ : ∃ er : Int, atI ([e1, e2, e3].map V.int) (if v9 - 5 > 0 then v9 - 5 else 0) = some (V.int er) ∧ 0 ≤ er := by
          rcases (show (if v9 - 5 > 0 then v9 - 5 else 0) = 0 ∨ (if v9 - 5 > 0 then v9 - 5 else 0) = 1 ∨ (if v9 - 5 > 0 then v9 - 5 else 0) = 2 by split <;> omega) with z | z | z <;> rw [z]
          · exact ⟨e1, rfl, e10⟩
          · exact ⟨e2, rfl, e20⟩
          · exact ⟨e3, rfl, e30⟩
        exact ⟨_, _, rfl, rfl, _, _, rfl, EL, _, _, _, rfl, rfl, SqL.of hEL2, her, er, er0, rfl, PX.mono (by decide), k9.trans (k10.trans (k11.trans ((KeepD.of_same u12).trans k12)))⟩
      obtain ⟨er, er0, rfl, P7, k7⟩ := hM
      have hO7 := hO.keepD k7 nld nda
      have kk7 := kk6.trans k7
      -- great == 2
      refine ⟨fun τ G' => ∃ (l : Addr) (as : List Addr) (rs : List (List Int)) (n' : Nat) (er : Int), 0 ≤ er ∧ n' ≤ 6 ∧ OL G' l as rs n' ∧ rs.Nodup ∧ 1 ≤ rs.length ∧ rs.length ≤ 120 ∧ l ≠ d ∧ d ∉ as ∧ τ = [some (.ref a), some (.int (0 + (i : Int))), some (.ref d), some (.int n), some (.int mo), some (.int gr), some (.ref l), some (.int er), y8, y9] ∧ PoolAt G' d 45812 ∧ KeepD d H G', ?_, fun τ G' hM => ?_⟩
      · refine ⟨_, rfl, rfl, _, rfl, ite2 (fun _ => ?_) (fun _ => ⟨l, as, rs, n, er, er0, hn2, hO7, nd6, h1, by omega, nld, nda, rfl, P7.mono (by decide), kk7⟩)⟩
        refine ⟨_, rfl, _, _, rfl, ?_⟩
        rw [max_if]
        refine ⟨_, rfl, d, 2, _, rfl, P7, by decide, by decide, by decide, fun v8 G8 v80 v81 P8 k8 => ?_⟩
        have hO8 := hO7.keepD k8 nld nda
        refine ⟨rfl, _, rfl, ite2 (fun _ => ?_) (fun _ => ⟨l, as, rs, n, max 2 er, by omega, hn2, hO8, nd6, h1, by omega, nld, nda, rfl, P8.mono (by decide), kk7.trans k8⟩)⟩
        refine ⟨_, rfl, d, _, rfl, P8, by decide, fun l3 as3 rs3 G9 hO9 nd9 h91 h92 n9d nda9 P9 k9 => ?_⟩
        refine ⟨_, rfl, d, 2, _, rfl, P9, by decide, by decide, by decide, fun v9 G10 v90 v91 P10 k10 => ?_⟩
        exact ⟨l3, as3, rs3, 6, v9, v90, by decide, hO9.keepD k10 n9d nda9, nd9, h91, by omega, n9d, nda9, rfl, P10.mono (by decide), kk7.trans (k8.trans (k9.trans k10))⟩
      clear hO hO7 nd6 h1 h2 nl nas nld nda nla P6 k6 kk6 kk7 k7 P7 er0 er
      obtain ⟨l, as, rs, n', er, er0, hn6, hO, nd6, h1, h2, nld, nda, rfl, P7, kk7⟩ := hM
      -- ways
      refine ⟨rfl, fun wl nwl => ?_⟩
      have u9 := same_new (o := .lst [.str "swap", .str "spot", .str "shift"]) nwl
      have hw0 : (upd G' wl (.lst [.str "swap", .str "spot", .str "shift"])) wl = some (.lst [.str "swap", .str "spot", .str "shift"]) := upd_same
      have wld := P7.ne nwl
      replace P7 := P7.same u9
      replace kk7 := kk7.trans (KeepD.of_same u9)
      replace hO := hO.same u9
      generalize upd G' wl (.lst [.str "swap", .str "spot", .str "shift"]) = G8 at hw0 P7 kk7 hO ⊢
      refine ⟨fun τ G' => ∃ (wl : Addr) (ws : List Str), (∀ z ∈ ws, IsWay z) ∧ G' wl = some (.lst (ws.map V.str)) ∧ τ = [some (.ref a), some (.int (0 + (i : Int))), some (.ref d), some (.int n), some (.int mo), some (.int gr), some (.ref l), some (.int er), some (.ref wl), y9] ∧ KeepD d G8 G', ?_, fun τ G' hM => ?_⟩
      · refine ⟨_, rfl, _, 3, rfl, rfl, _, rfl, ite2 (fun _ => ?_) (fun _ => ⟨wl, ["swap", "spot", "shift"], fun z hz => ?_, hw0, rfl, KeepD.refl _ _⟩)⟩
        · refine ⟨_, rfl, _, rfl, d, 3, _, rfl, P7, by decide, by decide, by decide, fun v8 G9 v80 v81 P8 k8 => ?_⟩
          obtain ⟨z, ez, hz⟩ : ∃ z : Str, atI [V.str "swap", V.str "spot", V.str "shift"] v8 = some (.str z) ∧ IsWay z := by
            rcases (show v8 = 0 ∨ v8 = 1 ∨ v8 = 2 by omega) with rfl | rfl | rfl
            · exact ⟨_, rfl, .inl rfl⟩
            · exact ⟨_, rfl, .inr (.inl rfl)⟩
            · exact ⟨_, rfl, .inr (.inr rfl)⟩
          refine ⟨wl, _, _, _, rfl, rfl, SqL.of (k8 _ _ hw0 wld), ez, line_small (by show 1 ≤ 16777216; decide), fun w2 nw2 => ?_⟩
          exact ⟨w2, [z], fun y hy => by rw [List.mem_singleton.mp hy]; exact hz, upd_same, rfl, k8.trans (KeepD.of_same (same_new nw2))⟩
        · simp only [List.mem_cons, List.not_mem_nil, or_false] at hz
          rcases hz with rfl | rfl | rfl
          · exact .inl rfl
          · exact .inr (.inl rfl)
          · exact .inr (.inr rfl)
      obtain ⟨wl2, ws, hws, hw2, rfl, k9⟩ := hM
      replace hO := hO.keepD k9 nld nda
      replace kk7 := kk7.trans k9
      refine ⟨_, rfl, wl2, rfl, ⟨_, SqL.of hw2⟩, ?_⟩
      refine for_list (xs := ws.map V.str) (fun r σ A => ∃ z9, σ = [some (.ref a), some (.int (0 + (i : Int))), some (.ref d), some (.int n), some (.int mo), some (.int gr), some (.ref l), some (.int er), some (.ref wl2), z9] ∧ Same G' A) ⟨_, rfl, Same.refl _⟩ (fun r σ A _ hP => by obtain ⟨_, _, sA⟩ := hP; exact SqL.of (sA _ _ hw2)) (fun r x σ A hx hP => ?_) (fun σ A hP => ?_)
      · obtain ⟨z9, rfl, sA⟩ := hP
        obtain ⟨wy, ew, rfl⟩ : ∃ wy : Str, ws[r]? = some wy ∧ x = V.str wy := by
          rw [List.getElem?_map] at hx
          cases e : ws[r]? with
          | none => rw [e] at hx; cases hx
          | some wy => rw [e] at hx; exact ⟨wy, rfl, (Option.some.inj hx).symm⟩
        refine ⟨_, rfl, _, rfl, _, rfl, line_small (by show 2 ≤ 16777216; decide), fun t2 nt2 => ?_⟩
        have u3 := same_new (o := .lst [.int 1, .int 2]) nt2
        have ht2 : (upd A t2 (.lst [.int 1, .int 2])) t2 = some (.lst [.int 1, .int 2]) := upd_same
        obtain ⟨m, hm, hm2⟩ : ∃ m : Nat, atI [V.int 1, V.int 2] (if decide (2 < gr) = true then 1 else 0) = some (V.int (m : Int)) ∧ m ≤ 2 := by
          by_cases c : decide (2 < gr) = true
          · rw [if_pos c]; exact ⟨2, rfl, by decide⟩
          · rw [if_neg c]; exact ⟨1, rfl, by decide⟩
        refine ⟨_, rfl, _, 2, rfl, rfl, .inr ⟨_, rfl, t2, _, _, _, rfl, rfl, SqL.of ht2, hm, ?_⟩⟩
        refine ⟨wy, l, as, rs, n', er, m, rfl, hws wy (List.mem_of_getElem? ew), hO.same (sA.trans u3), nd6, h1, h2, hn6, er0, hm2, fun A2 g2 => ?_⟩
        exact ⟨true, rfl, iteF ⟨_, rfl, sA.trans (u3.trans g2)⟩⟩
      · obtain ⟨z9, rfl, sA⟩ := hP
        exact ⟨_, _, _, _, _, _, _, _, _, rfl, fun u o e => (kk7.trans (KeepD.of_same sA)) u o e (fun z => by rw [z, nHd] at e; cases e)⟩
    · refine ⟨line_small (by show 3 ≤ 16777216; decide), fun p1 np1 => ?_⟩
      have s1 := same_new (o := .lst [.int 0, .int 1, .int 2]) np1
      refine ⟨line_small (by show 3 ≤ 16777216; decide), fun p2 np2 => ?_⟩
      have s2 := same_new (o := .lst [.int 2, .int 1, .int 0]) np2
      refine ⟨line_small (by show 2 ≤ 16777216; decide), fun p4 np4 => ?_⟩
      have s4 := same_new (o := .lst [.ref p1, .ref p2]) np4
      have o2 : ∀ r ∈ ([[0, 1, 2], [2, 1, 0]] : List (List Int)), IsOrd 3 r := by unfold IsOrd; decide
      have e1 : nsF "swap" [[0, 1, 2], [2, 1, 0]] 1 (allK 3 3) = none := by decide +kernel
      refine ⟨"swap", p4, [p1, p2], [[0, 1, 2], [2, 1, 0]], 3, 1, rfl, .inl rfl, ⟨upd_same, ⟨s4 _ _ (s2 _ _ upd_same), s4 _ _ upd_same, trivial⟩, o2, by decide, by decide⟩, by decide, by decide, by decide, by decide, by decide, fun _ G sg => ?_, fun o r1 r2 z => absurd (e1.symm.trans z) (by simp)⟩
      refine ⟨rfl, _, rfl, ite2 (fun _ => ?_) (fun c => absurd rfl c)⟩
      refine ⟨line_small (by show 1 ≤ 16777216; decide), fun p5 np5 => ?_⟩
      have s5 := same_new (o := .lst [.int 0]) np5
      refine ⟨line_small (by show 1 ≤ 16777216; decide), fun p6 np6 => ?_⟩
      have o3 : ∀ r ∈ ([[0]] : List (List Int)), IsOrd 1 r := by unfold IsOrd; decide
      have e2 : nsF "shift" [[0]] 5 (allK 1 1) = none := by decide +kernel
      have s6 := same_new (o := .lst [.ref p5]) np6
      refine ⟨"shift", p6, [p5], [[0]], 1, 5, rfl, .inr (.inr rfl), ⟨upd_same, ⟨s6 _ _ upd_same, trivial⟩, o3, by decide, by decide⟩, by decide, by decide, by decide, by decide, by decide, fun _ G sg => ?_, fun o r1 r2 z => absurd (e2.symm.trans z) (by simp)⟩
      exact ⟨rfl, q _⟩
end
end Fo
--LEVEL 13
--LAWCALL ok_law F_law T__law_pool T__law_take T__law_orders T__law_ways T__law_far T__law_three_apart T__law_right T_not_sure (ok_pool (k := 11) T__law_pool B) (ok_take (k := 11) T__law_take B) (ok_orders (k := 11) T__law_orders T__law_take T__law_order T__law_near T__law_many (ok_take (k := 10) T__law_take B) (ok_ordP (k := 10) T__law_order T__law_take (ok_take (k := 9) T__law_take B) B) (ok_nearP (k := 10) T__law_near T__law_take (ok_take (k := 9) T__law_take B) B) (ok_many (k := 10) T__law_many B) B) (ok_ways (k := 11) T__law_ways B) (ok_farN (k := 11) T__law_far T__law_take (ok_take (k := 10) T__law_take B) B) (ok_three54 (k := 11) T__law_three_apart T__law_order T__law_apart T__law_take T__law_near (ok_ordP (k := 10) T__law_order T__law_take (ok_take (k := 9) T__law_take B) B) (ok_law_apart (k := 10) T__law_apart B) (ok_take (k := 10) T__law_take B) (ok_nearP (k := 10) T__law_near T__law_take (ok_take (k := 9) T__law_take B) B) B) (ok_R54 (k := 11) T__law_right T__law_due T__law_copies T_not_sure T__law_are_orders (ok_due54 (k := 10) T__law_due T__law_all T__law_apart (ok_law_all (k := 9) T__law_all B) (ok_law_apart (k := 9) T__law_apart B) B) (ok_cop50 (k := 10) T__law_copies B) (ok_notsure (k := 10) T_not_sure T_check_sure T_all_orders T_those_within (ok_sure (k := 9) T_check_sure T_check_unlike_list T_check_way T_check_listed T_check_from (ok_cunl (k := 8) T_check_unlike_list T_is_unlike_list (ok_unl (k := 7) T_is_unlike_list T_is_order_list (ok_olst (k := 6) T_is_order_list T_is_order (ok_is_order (k := 4) T_is_order T_is_whole B m_MOST_THINGS) B) B) B m_MOST_ORDERS) (ok_way (k := 8) T_check_way m_WAYS B) (ok_listed (k := 8) T_check_listed B m_MOST_LISTED) (ok_from (k := 7) T_check_from T_is_whole B) B) (ok_all_orders (k := 8) T_all_orders T_orders_with B) (ok_thoseN (k := 9) T_those_within T_known_far (ok_known (k := 8) T_known_far T_far_by_swap T_far_by_spot T_far_by_shift (ok_swap (k := 7) T_far_by_swap T_seats_in (ok_seats (k := 5) T_seats_in T_places_in B) B) (ok_spot (k := 7) T_far_by_spot B) (ok_shift (k := 7) T_far_by_shift T_seats_in (ok_seats (k := 5) T_seats_in T_places_in B) B)) B) B) (ok_are50 (k := 10) T__law_are_orders T__law_is_order (ok_isO50 (k := 9) T__law_is_order B) B) B) (ok_notsure (k := 11) T_not_sure T_check_sure T_all_orders T_those_within (ok_sure (k := 10) T_check_sure T_check_unlike_list T_check_way T_check_listed T_check_from (ok_cunl (k := 9) T_check_unlike_list T_is_unlike_list (ok_unl (k := 8) T_is_unlike_list T_is_order_list (ok_olst (k := 7) T_is_order_list T_is_order (ok_is_order (k := 5) T_is_order T_is_whole B m_MOST_THINGS) B) B) B m_MOST_ORDERS) (ok_way (k := 9) T_check_way m_WAYS B) (ok_listed (k := 9) T_check_listed B m_MOST_LISTED) (ok_from (k := 8) T_check_from T_is_whole B) B) (ok_all_orders (k := 9) T_all_orders T_orders_with B) (ok_thoseN (k := 10) T_those_within T_known_far (ok_known (k := 9) T_known_far T_far_by_swap T_far_by_spot T_far_by_shift (ok_swap (k := 8) T_far_by_swap T_seats_in (ok_seats (k := 6) T_seats_in T_places_in B) B) (ok_spot (k := 8) T_far_by_spot B) (ok_shift (k := 8) T_far_by_shift T_seats_in (ok_seats (k := 6) T_seats_in T_places_in B) B)) B) B) B
namespace Fo
open PySem PySem.Spec PyProof.Rows L2
set_option maxHeartbeats 8000000 in
theorem all_mk {l : PySem.W.OpenLaw} {w : World} {K : PySem.W.Frag} {h : Heap} {mg : Str → Option Value} {fa : Addr} (X : K.In h) (G : h.Ns mainGlobals mg) (hfa : mg "law" = some (.ref fa))
    {f0 f1 f2 f3 f4 f5 f6 f7 f8 f9 f10 f11 f12 f13 f14 f15 f16 f17 f18 f19 f20 f21 f22 f23 f24 f25 f26 f27 f28 f29 f30 f31 f32 f33 f34 f35 : Addr} {od0 an0 od1 an1 od2 an2 od3 an3 od4 an4 od5 an5 od6 an6 od7 an7 od8 an8 od9 an9 od10 an10 od11 an11 od12 an12 od13 an13 od14 an14 od15 an15 od16 an16 od17 an17 od18 an18 od19 an19 od20 an20 od21 an21 od22 an22 od23 an23 od24 an24 od25 an25 od26 an26 od27 an27 od28 an28 od29 an29 od30 an30 od31 an31 od32 an32 od33 an33 od34 an34 od35 an35 : Option Addr} {sl0 sl1 sl2 sl3 sl4 sl5 sl6 sl7 sl8 sl9 sl10 sl11 sl12 sl13 sl14 sl15 sl16 sl17 sl18 sl19 sl20 sl21 sl22 sl23 sl24 sl25 sl26 sl27 sl28 sl29 sl30 sl31 sl32 sl33 sl34 sl35 : Array (Option Value)} {oc0 kV0 dc0 pm0 cd0 ct0 oc1 kV1 dc1 pm1 cd1 ct1 oc2 kV2 dc2 pm2 cd2 ct2 oc3 kV3 dc3 pm3 cd3 ct3 oc4 kV4 dc4 pm4 cd4 ct4 oc5 kV5 dc5 pm5 cd5 ct5 oc6 kV6 dc6 pm6 cd6 ct6 oc7 kV7 dc7 pm7 cd7 ct7 oc8 kV8 dc8 pm8 cd8 ct8 oc9 kV9 dc9 pm9 cd9 ct9 oc10 kV10 dc10 pm10 cd10 ct10 oc11 kV11 dc11 pm11 cd11 ct11 oc12 kV12 dc12 pm12 cd12 ct12 oc13 kV13 dc13 pm13 cd13 ct13 oc14 kV14 dc14 pm14 cd14 ct14 oc15 kV15 dc15 pm15 cd15 ct15 oc16 kV16 dc16 pm16 cd16 ct16 oc17 kV17 dc17 pm17 cd17 ct17 oc18 kV18 dc18 pm18 cd18 ct18 oc19 kV19 dc19 pm19 cd19 ct19 oc20 kV20 dc20 pm20 cd20 ct20 oc21 kV21 dc21 pm21 cd21 ct21 oc22 kV22 dc22 pm22 cd22 ct22 oc23 kV23 dc23 pm23 cd23 ct23 oc24 kV24 dc24 pm24 cd24 ct24 oc25 kV25 dc25 pm25 cd25 ct25 oc26 kV26 dc26 pm26 cd26 ct26 oc27 kV27 dc27 pm27 cd27 ct27 oc28 kV28 dc28 pm28 cd28 ct28 oc29 kV29 dc29 pm29 cd29 ct29 oc30 kV30 dc30 pm30 cd30 ct30 oc31 kV31 dc31 pm31 cd31 ct31 oc32 kV32 dc32 pm32 cd32 ct32 oc33 kV33 dc33 pm33 cd33 ct33 oc34 kV34 dc34 pm34 cd34 ct34 oc35 kV35 dc35 pm35 cd35 ct35 : Value} {tk_MOST_THINGS tk_MOST_LISTED tk_MOST_ORDERS : Tok} {aW : Addr} {ddW : Option Addr} {nW : Nat} {tW1 tW2 tW3 : Tok} {slW : Array (Option Value)}
    (a0 : PySem.W.nsIn K mainGlobals "is_whole" = some (some (.ref f0))) (l0 : K.lookup f0 = some ⟨oc0, od0, .func (PySem.W.fnOf "is_whole" "is_whole" (defArgs s_is_whole) (defBody s_is_whole) (defScope s_is_whole) .none kV0 dc0 pm0 an0 cd0 ct0), sl0⟩) (c0 : PySem.W.codeIn K cd0 "is_whole" = true) (k0 : PySem.W.keepIn K (.ref f0) = true)
    (a1 : PySem.W.nsIn K mainGlobals "check_way" = some (some (.ref f1))) (l1 : K.lookup f1 = some ⟨oc1, od1, .func (PySem.W.fnOf "check_way" "check_way" (defArgs s_check_way) (defBody s_check_way) (defScope s_check_way) .none kV1 dc1 pm1 an1 cd1 ct1), sl1⟩) (c1 : PySem.W.codeIn K cd1 "check_way" = true) (k1 : PySem.W.keepIn K (.ref f1) = true)
    (a2 : PySem.W.nsIn K mainGlobals "check_from" = some (some (.ref f2))) (l2 : K.lookup f2 = some ⟨oc2, od2, .func (PySem.W.fnOf "check_from" "check_from" (defArgs s_check_from) (defBody s_check_from) (defScope s_check_from) .none kV2 dc2 pm2 an2 cd2 ct2), sl2⟩) (c2 : PySem.W.codeIn K cd2 "check_from" = true) (k2 : PySem.W.keepIn K (.ref f2) = true)
    (a3 : PySem.W.nsIn K mainGlobals "is_order" = some (some (.ref f3))) (l3 : K.lookup f3 = some ⟨oc3, od3, .func (PySem.W.fnOf "is_order" "is_order" (defArgs s_is_order) (defBody s_is_order) (defScope s_is_order) .none kV3 dc3 pm3 an3 cd3 ct3), sl3⟩) (c3 : PySem.W.codeIn K cd3 "is_order" = true) (k3 : PySem.W.keepIn K (.ref f3) = true)
    (a4 : PySem.W.nsIn K mainGlobals "check_listed" = some (some (.ref f4))) (l4 : K.lookup f4 = some ⟨oc4, od4, .func (PySem.W.fnOf "check_listed" "check_listed" (defArgs s_check_listed) (defBody s_check_listed) (defScope s_check_listed) .none kV4 dc4 pm4 an4 cd4 ct4), sl4⟩) (c4 : PySem.W.codeIn K cd4 "check_listed" = true) (k4 : PySem.W.keepIn K (.ref f4) = true)
    (a5 : PySem.W.nsIn K mainGlobals "is_order_list" = some (some (.ref f5))) (l5 : K.lookup f5 = some ⟨oc5, od5, .func (PySem.W.fnOf "is_order_list" "is_order_list" (defArgs s_is_order_list) (defBody s_is_order_list) (defScope s_is_order_list) .none kV5 dc5 pm5 an5 cd5 ct5), sl5⟩) (c5 : PySem.W.codeIn K cd5 "is_order_list" = true) (k5 : PySem.W.keepIn K (.ref f5) = true)
    (a6 : PySem.W.nsIn K mainGlobals "is_unlike_list" = some (some (.ref f6))) (l6 : K.lookup f6 = some ⟨oc6, od6, .func (PySem.W.fnOf "is_unlike_list" "is_unlike_list" (defArgs s_is_unlike_list) (defBody s_is_unlike_list) (defScope s_is_unlike_list) .none kV6 dc6 pm6 an6 cd6 ct6), sl6⟩) (c6 : PySem.W.codeIn K cd6 "is_unlike_list" = true) (k6 : PySem.W.keepIn K (.ref f6) = true)
    (a7 : PySem.W.nsIn K mainGlobals "places_in" = some (some (.ref f7))) (l7 : K.lookup f7 = some ⟨oc7, od7, .func (PySem.W.fnOf "places_in" "places_in" (defArgs s_places_in) (defBody s_places_in) (defScope s_places_in) .none kV7 dc7 pm7 an7 cd7 ct7), sl7⟩) (c7 : PySem.W.codeIn K cd7 "places_in" = true) (k7 : PySem.W.keepIn K (.ref f7) = true)
    (a8 : PySem.W.nsIn K mainGlobals "seats_in" = some (some (.ref f8))) (l8 : K.lookup f8 = some ⟨oc8, od8, .func (PySem.W.fnOf "seats_in" "seats_in" (defArgs s_seats_in) (defBody s_seats_in) (defScope s_seats_in) .none kV8 dc8 pm8 an8 cd8 ct8), sl8⟩) (c8 : PySem.W.codeIn K cd8 "seats_in" = true) (k8 : PySem.W.keepIn K (.ref f8) = true)
    (a9 : PySem.W.nsIn K mainGlobals "known_far" = some (some (.ref f9))) (l9 : K.lookup f9 = some ⟨oc9, od9, .func (PySem.W.fnOf "known_far" "known_far" (defArgs s_known_far) (defBody s_known_far) (defScope s_known_far) .none kV9 dc9 pm9 an9 cd9 ct9), sl9⟩) (c9 : PySem.W.codeIn K cd9 "known_far" = true) (k9 : PySem.W.keepIn K (.ref f9) = true)
    (a10 : PySem.W.nsIn K mainGlobals "far_by_swap" = some (some (.ref f10))) (l10 : K.lookup f10 = some ⟨oc10, od10, .func (PySem.W.fnOf "far_by_swap" "far_by_swap" (defArgs s_far_by_swap) (defBody s_far_by_swap) (defScope s_far_by_swap) .none kV10 dc10 pm10 an10 cd10 ct10), sl10⟩) (c10 : PySem.W.codeIn K cd10 "far_by_swap" = true) (k10 : PySem.W.keepIn K (.ref f10) = true)
    (a11 : PySem.W.nsIn K mainGlobals "far_by_spot" = some (some (.ref f11))) (l11 : K.lookup f11 = some ⟨oc11, od11, .func (PySem.W.fnOf "far_by_spot" "far_by_spot" (defArgs s_far_by_spot) (defBody s_far_by_spot) (defScope s_far_by_spot) .none kV11 dc11 pm11 an11 cd11 ct11), sl11⟩) (c11 : PySem.W.codeIn K cd11 "far_by_spot" = true) (k11 : PySem.W.keepIn K (.ref f11) = true)
    (a12 : PySem.W.nsIn K mainGlobals "far_by_shift" = some (some (.ref f12))) (l12 : K.lookup f12 = some ⟨oc12, od12, .func (PySem.W.fnOf "far_by_shift" "far_by_shift" (defArgs s_far_by_shift) (defBody s_far_by_shift) (defScope s_far_by_shift) .none kV12 dc12 pm12 an12 cd12 ct12), sl12⟩) (c12 : PySem.W.codeIn K cd12 "far_by_shift" = true) (k12 : PySem.W.keepIn K (.ref f12) = true)
    (a13 : PySem.W.nsIn K mainGlobals "all_orders" = some (some (.ref f13))) (l13 : K.lookup f13 = some ⟨oc13, od13, .func (PySem.W.fnOf "all_orders" "all_orders" (defArgs s_all_orders) (defBody s_all_orders) (defScope s_all_orders) .none kV13 dc13 pm13 an13 cd13 ct13), sl13⟩) (c13 : PySem.W.codeIn K cd13 "all_orders" = true) (k13 : PySem.W.keepIn K (.ref f13) = true)
    (a14 : PySem.W.nsIn K mainGlobals "orders_with" = some (some (.ref f14))) (l14 : K.lookup f14 = some ⟨oc14, od14, .func (PySem.W.fnOf "orders_with" "orders_with" (defArgs s_orders_with) (defBody s_orders_with) (defScope s_orders_with) .none kV14 dc14 pm14 an14 cd14 ct14), sl14⟩) (c14 : PySem.W.codeIn K cd14 "orders_with" = true) (k14 : PySem.W.keepIn K (.ref f14) = true)
    (a15 : PySem.W.nsIn K mainGlobals "check_unlike_list" = some (some (.ref f15))) (l15 : K.lookup f15 = some ⟨oc15, od15, .func (PySem.W.fnOf "check_unlike_list" "check_unlike_list" (defArgs s_check_unlike_list) (defBody s_check_unlike_list) (defScope s_check_unlike_list) .none kV15 dc15 pm15 an15 cd15 ct15), sl15⟩) (c15 : PySem.W.codeIn K cd15 "check_unlike_list" = true) (k15 : PySem.W.keepIn K (.ref f15) = true)
    (a16 : PySem.W.nsIn K mainGlobals "those_within" = some (some (.ref f16))) (l16 : K.lookup f16 = some ⟨oc16, od16, .func (PySem.W.fnOf "those_within" "those_within" (defArgs s_those_within) (defBody s_those_within) (defScope s_those_within) .none kV16 dc16 pm16 an16 cd16 ct16), sl16⟩) (c16 : PySem.W.codeIn K cd16 "those_within" = true) (k16 : PySem.W.keepIn K (.ref f16) = true)
    (a17 : PySem.W.nsIn K mainGlobals "not_sure" = some (some (.ref f17))) (l17 : K.lookup f17 = some ⟨oc17, od17, .func (PySem.W.fnOf "not_sure" "not_sure" (defArgs s_not_sure) (defBody s_not_sure) (defScope s_not_sure) .none kV17 dc17 pm17 an17 cd17 ct17), sl17⟩) (c17 : PySem.W.codeIn K cd17 "not_sure" = true) (k17 : PySem.W.keepIn K (.ref f17) = true)
    (a18 : PySem.W.nsIn K mainGlobals "check_sure" = some (some (.ref f18))) (l18 : K.lookup f18 = some ⟨oc18, od18, .func (PySem.W.fnOf "check_sure" "check_sure" (defArgs s_check_sure) (defBody s_check_sure) (defScope s_check_sure) .none kV18 dc18 pm18 an18 cd18 ct18), sl18⟩) (c18 : PySem.W.codeIn K cd18 "check_sure" = true) (k18 : PySem.W.keepIn K (.ref f18) = true)
    (a19 : PySem.W.nsIn K mainGlobals "_law_pool" = some (some (.ref f19))) (l19 : K.lookup f19 = some ⟨oc19, od19, .func (PySem.W.fnOf "_law_pool" "_law_pool" (defArgs s_law_pool) (defBody s_law_pool) (defScope s_law_pool) .none kV19 dc19 pm19 an19 cd19 ct19), sl19⟩) (c19 : PySem.W.codeIn K cd19 "_law_pool" = true) (k19 : PySem.W.keepIn K (.ref f19) = true)
    (a20 : PySem.W.nsIn K mainGlobals "_law_take" = some (some (.ref f20))) (l20 : K.lookup f20 = some ⟨oc20, od20, .func (PySem.W.fnOf "_law_take" "_law_take" (defArgs s_law_take) (defBody s_law_take) (defScope s_law_take) .none kV20 dc20 pm20 an20 cd20 ct20), sl20⟩) (c20 : PySem.W.codeIn K cd20 "_law_take" = true) (k20 : PySem.W.keepIn K (.ref f20) = true)
    (a21 : PySem.W.nsIn K mainGlobals "_law_far" = some (some (.ref f21))) (l21 : K.lookup f21 = some ⟨oc21, od21, .func (PySem.W.fnOf "_law_far" "_law_far" (defArgs s_law_far) (defBody s_law_far) (defScope s_law_far) .none kV21 dc21 pm21 an21 cd21 ct21), sl21⟩) (c21 : PySem.W.codeIn K cd21 "_law_far" = true) (k21 : PySem.W.keepIn K (.ref f21) = true)
    (a22 : PySem.W.nsIn K mainGlobals "_law_order" = some (some (.ref f22))) (l22 : K.lookup f22 = some ⟨oc22, od22, .func (PySem.W.fnOf "_law_order" "_law_order" (defArgs s_law_order) (defBody s_law_order) (defScope s_law_order) .none kV22 dc22 pm22 an22 cd22 ct22), sl22⟩) (c22 : PySem.W.codeIn K cd22 "_law_order" = true) (k22 : PySem.W.keepIn K (.ref f22) = true)
    (a23 : PySem.W.nsIn K mainGlobals "_law_near" = some (some (.ref f23))) (l23 : K.lookup f23 = some ⟨oc23, od23, .func (PySem.W.fnOf "_law_near" "_law_near" (defArgs s_law_near) (defBody s_law_near) (defScope s_law_near) .none kV23 dc23 pm23 an23 cd23 ct23), sl23⟩) (c23 : PySem.W.codeIn K cd23 "_law_near" = true) (k23 : PySem.W.keepIn K (.ref f23) = true)
    (a24 : PySem.W.nsIn K mainGlobals "_law_many" = some (some (.ref f24))) (l24 : K.lookup f24 = some ⟨oc24, od24, .func (PySem.W.fnOf "_law_many" "_law_many" (defArgs s_law_many) (defBody s_law_many) (defScope s_law_many) .none kV24 dc24 pm24 an24 cd24 ct24), sl24⟩) (c24 : PySem.W.codeIn K cd24 "_law_many" = true) (k24 : PySem.W.keepIn K (.ref f24) = true)
    (a25 : PySem.W.nsIn K mainGlobals "_law_orders" = some (some (.ref f25))) (l25 : K.lookup f25 = some ⟨oc25, od25, .func (PySem.W.fnOf "_law_orders" "_law_orders" (defArgs s_law_orders) (defBody s_law_orders) (defScope s_law_orders) .none kV25 dc25 pm25 an25 cd25 ct25), sl25⟩) (c25 : PySem.W.codeIn K cd25 "_law_orders" = true) (k25 : PySem.W.keepIn K (.ref f25) = true)
    (a26 : PySem.W.nsIn K mainGlobals "_law_apart" = some (some (.ref f26))) (l26 : K.lookup f26 = some ⟨oc26, od26, .func (PySem.W.fnOf "_law_apart" "_law_apart" (defArgs s_law_apart) (defBody s_law_apart) (defScope s_law_apart) .none kV26 dc26 pm26 an26 cd26 ct26), sl26⟩) (c26 : PySem.W.codeIn K cd26 "_law_apart" = true) (k26 : PySem.W.keepIn K (.ref f26) = true)
    (a27 : PySem.W.nsIn K mainGlobals "_law_ways" = some (some (.ref f27))) (l27 : K.lookup f27 = some ⟨oc27, od27, .func (PySem.W.fnOf "_law_ways" "_law_ways" (defArgs s_law_ways) (defBody s_law_ways) (defScope s_law_ways) .none kV27 dc27 pm27 an27 cd27 ct27), sl27⟩) (c27 : PySem.W.codeIn K cd27 "_law_ways" = true) (k27 : PySem.W.keepIn K (.ref f27) = true)
    (a28 : PySem.W.nsIn K mainGlobals "_law_all" = some (some (.ref f28))) (l28 : K.lookup f28 = some ⟨oc28, od28, .func (PySem.W.fnOf "_law_all" "_law_all" (defArgs s_law_all) (defBody s_law_all) (defScope s_law_all) .none kV28 dc28 pm28 an28 cd28 ct28), sl28⟩) (c28 : PySem.W.codeIn K cd28 "_law_all" = true) (k28 : PySem.W.keepIn K (.ref f28) = true)
    (a29 : PySem.W.nsIn K mainGlobals "_law_is_order" = some (some (.ref f29))) (l29 : K.lookup f29 = some ⟨oc29, od29, .func (PySem.W.fnOf "_law_is_order" "_law_is_order" (defArgs s_law_is_order) (defBody s_law_is_order) (defScope s_law_is_order) .none kV29 dc29 pm29 an29 cd29 ct29), sl29⟩) (c29 : PySem.W.codeIn K cd29 "_law_is_order" = true) (k29 : PySem.W.keepIn K (.ref f29) = true)
    (a30 : PySem.W.nsIn K mainGlobals "_law_are_orders" = some (some (.ref f30))) (l30 : K.lookup f30 = some ⟨oc30, od30, .func (PySem.W.fnOf "_law_are_orders" "_law_are_orders" (defArgs s_law_are_orders) (defBody s_law_are_orders) (defScope s_law_are_orders) .none kV30 dc30 pm30 an30 cd30 ct30), sl30⟩) (c30 : PySem.W.codeIn K cd30 "_law_are_orders" = true) (k30 : PySem.W.keepIn K (.ref f30) = true)
    (a31 : PySem.W.nsIn K mainGlobals "_law_copies" = some (some (.ref f31))) (l31 : K.lookup f31 = some ⟨oc31, od31, .func (PySem.W.fnOf "_law_copies" "_law_copies" (defArgs s_law_copies) (defBody s_law_copies) (defScope s_law_copies) .none kV31 dc31 pm31 an31 cd31 ct31), sl31⟩) (c31 : PySem.W.codeIn K cd31 "_law_copies" = true) (k31 : PySem.W.keepIn K (.ref f31) = true)
    (a32 : PySem.W.nsIn K mainGlobals "_law_due" = some (some (.ref f32))) (l32 : K.lookup f32 = some ⟨oc32, od32, .func (PySem.W.fnOf "_law_due" "_law_due" (defArgs s_law_due) (defBody s_law_due) (defScope s_law_due) .none kV32 dc32 pm32 an32 cd32 ct32), sl32⟩) (c32 : PySem.W.codeIn K cd32 "_law_due" = true) (k32 : PySem.W.keepIn K (.ref f32) = true)
    (a33 : PySem.W.nsIn K mainGlobals "_law_right" = some (some (.ref f33))) (l33 : K.lookup f33 = some ⟨oc33, od33, .func (PySem.W.fnOf "_law_right" "_law_right" (defArgs s_law_right) (defBody s_law_right) (defScope s_law_right) .none kV33 dc33 pm33 an33 cd33 ct33), sl33⟩) (c33 : PySem.W.codeIn K cd33 "_law_right" = true) (k33 : PySem.W.keepIn K (.ref f33) = true)
    (a34 : PySem.W.nsIn K mainGlobals "_law_three_apart" = some (some (.ref f34))) (l34 : K.lookup f34 = some ⟨oc34, od34, .func (PySem.W.fnOf "_law_three_apart" "_law_three_apart" (defArgs s_law_three_apart) (defBody s_law_three_apart) (defScope s_law_three_apart) .none kV34 dc34 pm34 an34 cd34 ct34), sl34⟩) (c34 : PySem.W.codeIn K cd34 "_law_three_apart" = true) (k34 : PySem.W.keepIn K (.ref f34) = true)
    (a35 : PySem.W.nsIn K mainGlobals "law" = some (some (.ref f35))) (l35 : K.lookup f35 = some ⟨oc35, od35, .func (PySem.W.fnOf "law" "law" (defArgs s_law) (defBody s_law) (defScope s_law) .none kV35 dc35 pm35 an35 cd35 ct35), sl35⟩) (c35 : PySem.W.codeIn K cd35 "law" = true) (k35 : PySem.W.keepIn K (.ref f35) = true)
    (g_MOST_THINGS : PySem.W.nsIn K mainGlobals "MOST_THINGS" = some (some (.int 12 tk_MOST_THINGS)))
    (g_MOST_LISTED : PySem.W.nsIn K mainGlobals "MOST_LISTED" = some (some (.int 6 tk_MOST_LISTED)))
    (g_MOST_ORDERS : PySem.W.nsIn K mainGlobals "MOST_ORDERS" = some (some (.int 120 tk_MOST_ORDERS)))
    (g_WAYS : PySem.W.nsIn K mainGlobals "WAYS" = some (some (.ref aW))) (l_WAYS : K.lookup aW = some ⟨.type "tuple", ddW, .seq #[.str "swap" tW1, .str "spot" tW2, .str "shift" tW3] nW, slW⟩)
    (z_ValueError : PySem.W.nsIn K mainGlobals "ValueError" = some none)
    (z_abs : PySem.W.nsIn K mainGlobals "abs" = some none)
    (z_all : PySem.W.nsIn K mainGlobals "all" = some none)
    (z_bool : PySem.W.nsIn K mainGlobals "bool" = some none)
    (z_enumerate : PySem.W.nsIn K mainGlobals "enumerate" = some none)
    (z_int : PySem.W.nsIn K mainGlobals "int" = some none)
    (z_isinstance : PySem.W.nsIn K mainGlobals "isinstance" = some none)
    (z_len : PySem.W.nsIn K mainGlobals "len" = some none)
    (z_list : PySem.W.nsIn K mainGlobals "list" = some none)
    (z_max : PySem.W.nsIn K mainGlobals "max" = some none)
    (z_min : PySem.W.nsIn K mainGlobals "min" = some none)
    (z_range : PySem.W.nsIn K mainGlobals "range" = some none)
    (z_sorted : PySem.W.nsIn K mainGlobals "sorted" = some none)
    (z_str : PySem.W.nsIn K mainGlobals "str" = some none)
    (z_tuple : PySem.W.nsIn K mainGlobals "tuple" = some none)
    (z_zip : PySem.W.nsIn K mainGlobals "zip" = some none)
    : ∃ fd : FuncData, (∀ (s : Shared) (v : Value), BindsTo s fd ⟨[v], []⟩ [("script", v)]) ∧ ∀ base : Heap, K.In base → base.Ns mainGlobals mg → FnOk l.prog w K mg base CX0 13 fa fd ["script"] (spLaw K) := by
  have e := hfa.symm.trans (PySem.W.mg_of X G a35)
  cases e
  have F0 := fun_mk (st := s_is_whole) l0 c0 k0
  have F1 := fun_mk (st := s_check_way) l1 c1 k1
  have F2 := fun_mk (st := s_check_from) l2 c2 k2
  have F3 := fun_mk (st := s_is_order) l3 c3 k3
  have F4 := fun_mk (st := s_check_listed) l4 c4 k4
  have F5 := fun_mk (st := s_is_order_list) l5 c5 k5
  have F6 := fun_mk (st := s_is_unlike_list) l6 c6 k6
  have F7 := fun_mk (st := s_places_in) l7 c7 k7
  have F8 := fun_mk (st := s_seats_in) l8 c8 k8
  have F9 := fun_mk (st := s_known_far) l9 c9 k9
  have F10 := fun_mk (st := s_far_by_swap) l10 c10 k10
  have F11 := fun_mk (st := s_far_by_spot) l11 c11 k11
  have F12 := fun_mk (st := s_far_by_shift) l12 c12 k12
  have F13 := fun_mk (st := s_all_orders) l13 c13 k13
  have F14 := fun_mk (st := s_orders_with) l14 c14 k14
  have F15 := fun_mk (st := s_check_unlike_list) l15 c15 k15
  have F16 := fun_mk (st := s_those_within) l16 c16 k16
  have F17 := fun_mk (st := s_not_sure) l17 c17 k17
  have F18 := fun_mk (st := s_check_sure) l18 c18 k18
  have F19 := fun_mk (st := s_law_pool) l19 c19 k19
  have F20 := fun_mk (st := s_law_take) l20 c20 k20
  have F21 := fun_mk (st := s_law_far) l21 c21 k21
  have F22 := fun_mk (st := s_law_order) l22 c22 k22
  have F23 := fun_mk (st := s_law_near) l23 c23 k23
  have F24 := fun_mk (st := s_law_many) l24 c24 k24
  have F25 := fun_mk (st := s_law_orders) l25 c25 k25
  have F26 := fun_mk (st := s_law_apart) l26 c26 k26
  have F27 := fun_mk (st := s_law_ways) l27 c27 k27
  have F28 := fun_mk (st := s_law_all) l28 c28 k28
  have F29 := fun_mk (st := s_law_is_order) l29 c29 k29
  have F30 := fun_mk (st := s_law_are_orders) l30 c30 k30
  have F31 := fun_mk (st := s_law_copies) l31 c31 k31
  have F32 := fun_mk (st := s_law_due) l32 c32 k32
  have F33 := fun_mk (st := s_law_right) l33 c33 k33
  have F34 := fun_mk (st := s_law_three_apart) l34 c34 k34
  have F35 := fun_mk (st := s_law) l35 c35 k35
  have T_is_whole : Df K mg "is_whole" s_is_whole ["thing"] f0 _ := ⟨F0, F0.binds (ps := ["thing"]) (fun _ _ _ _ _ _ us hl => match us, hl with | [_], _ => rfl), PySem.W.mg_of X G a0⟩
  have T_check_way : Df K mg "check_way" s_check_way ["thing"] f1 _ := ⟨F1, F1.binds (ps := ["thing"]) (fun _ _ _ _ _ _ us hl => match us, hl with | [_], _ => rfl), PySem.W.mg_of X G a1⟩
  have T_check_from : Df K mg "check_from" s_check_from ["thing", "least"] f2 _ := ⟨F2, F2.binds (ps := ["thing", "least"]) (fun _ _ _ _ _ _ us hl => match us, hl with | [_, _], _ => rfl), PySem.W.mg_of X G a2⟩
  have T_is_order : Df K mg "is_order" s_is_order ["thing"] f3 _ := ⟨F3, F3.binds (ps := ["thing"]) (fun _ _ _ _ _ _ us hl => match us, hl with | [_], _ => rfl), PySem.W.mg_of X G a3⟩
  have T_check_listed : Df K mg "check_listed" s_check_listed ["order"] f4 _ := ⟨F4, F4.binds (ps := ["order"]) (fun _ _ _ _ _ _ us hl => match us, hl with | [_], _ => rfl), PySem.W.mg_of X G a4⟩
  have T_is_order_list : Df K mg "is_order_list" s_is_order_list ["thing"] f5 _ := ⟨F5, F5.binds (ps := ["thing"]) (fun _ _ _ _ _ _ us hl => match us, hl with | [_], _ => rfl), PySem.W.mg_of X G a5⟩
  have T_is_unlike_list : Df K mg "is_unlike_list" s_is_unlike_list ["thing"] f6 _ := ⟨F6, F6.binds (ps := ["thing"]) (fun _ _ _ _ _ _ us hl => match us, hl with | [_], _ => rfl), PySem.W.mg_of X G a6⟩
  have T_places_in : Df K mg "places_in" s_places_in ["order"] f7 _ := ⟨F7, F7.binds (ps := ["order"]) (fun _ _ _ _ _ _ us hl => match us, hl with | [_], _ => rfl), PySem.W.mg_of X G a7⟩
  have T_seats_in : Df K mg "seats_in" s_seats_in ["one", "other"] f8 _ := ⟨F8, F8.binds (ps := ["one", "other"]) (fun _ _ _ _ _ _ us hl => match us, hl with | [_, _], _ => rfl), PySem.W.mg_of X G a8⟩
  have T_known_far : Df K mg "known_far" s_known_far ["way", "one", "other"] f9 _ := ⟨F9, F9.binds (ps := ["way", "one", "other"]) (fun _ _ _ _ _ _ us hl => match us, hl with | [_, _, _], _ => rfl), PySem.W.mg_of X G a9⟩
  have T_far_by_swap : Df K mg "far_by_swap" s_far_by_swap ["one", "other"] f10 _ := ⟨F10, F10.binds (ps := ["one", "other"]) (fun _ _ _ _ _ _ us hl => match us, hl with | [_, _], _ => rfl), PySem.W.mg_of X G a10⟩
  have T_far_by_spot : Df K mg "far_by_spot" s_far_by_spot ["one", "other"] f11 _ := ⟨F11, F11.binds (ps := ["one", "other"]) (fun _ _ _ _ _ _ us hl => match us, hl with | [_, _], _ => rfl), PySem.W.mg_of X G a11⟩
  have T_far_by_shift : Df K mg "far_by_shift" s_far_by_shift ["one", "other"] f12 _ := ⟨F12, F12.binds (ps := ["one", "other"]) (fun _ _ _ _ _ _ us hl => match us, hl with | [_, _], _ => rfl), PySem.W.mg_of X G a12⟩
  have T_all_orders : Df K mg "all_orders" s_all_orders ["n"] f13 _ := ⟨F13, F13.binds (ps := ["n"]) (fun _ _ _ _ _ _ us hl => match us, hl with | [_], _ => rfl), PySem.W.mg_of X G a13⟩
  have T_orders_with : Df K mg "orders_with" s_orders_with ["choices"] f14 _ := ⟨F14, F14.binds (ps := ["choices"]) (fun _ _ _ _ _ _ us hl => match us, hl with | [_], _ => rfl), PySem.W.mg_of X G a14⟩
  have T_check_unlike_list : Df K mg "check_unlike_list" s_check_unlike_list ["thing"] f15 _ := ⟨F15, F15.binds (ps := ["thing"]) (fun _ _ _ _ _ _ us hl => match us, hl with | [_], _ => rfl), PySem.W.mg_of X G a15⟩
  have T_those_within : Df K mg "those_within" s_those_within ["way", "order", "orders", "r"] f16 _ := ⟨F16, F16.binds (ps := ["way", "order", "orders", "r"]) (fun _ _ _ _ _ _ us hl => match us, hl with | [_, _, _, _], _ => rfl), PySem.W.mg_of X G a16⟩
  have T_not_sure : Df K mg "not_sure" s_not_sure ["way", "orders", "e"] f17 _ := ⟨F17, F17.binds (ps := ["way", "orders", "e"]) (fun _ _ _ _ _ _ us hl => match us, hl with | [_, _, _], _ => rfl), PySem.W.mg_of X G a17⟩
  have T_check_sure : Df K mg "check_sure" s_check_sure ["way", "orders", "e"] f18 _ := ⟨F18, F18.binds (ps := ["way", "orders", "e"]) (fun _ _ _ _ _ _ us hl => match us, hl with | [_, _, _], _ => rfl), PySem.W.mg_of X G a18⟩
  have T__law_pool : Df K mg "_law_pool" s_law_pool ["script", "k"] f19 _ := ⟨F19, F19.binds (ps := ["script", "k"]) (fun _ _ _ _ _ _ us hl => match us, hl with | [_, _], _ => rfl), PySem.W.mg_of X G a19⟩
  have T__law_take : Df K mg "_law_take" s_law_take ["pool", "many"] f20 _ := ⟨F20, F20.binds (ps := ["pool", "many"]) (fun _ _ _ _ _ _ us hl => match us, hl with | [_, _], _ => rfl), PySem.W.mg_of X G a20⟩
  have T__law_far : Df K mg "_law_far" s_law_far ["pool"] f21 _ := ⟨F21, F21.binds (ps := ["pool"]) (fun _ _ _ _ _ _ us hl => match us, hl with | [_], _ => rfl), PySem.W.mg_of X G a21⟩
  have T__law_order : Df K mg "_law_order" s_law_order ["pool", "n"] f22 _ := ⟨F22, F22.binds (ps := ["pool", "n"]) (fun _ _ _ _ _ _ us hl => match us, hl with | [_, _], _ => rfl), PySem.W.mg_of X G a22⟩
  have T__law_near : Df K mg "_law_near" s_law_near ["pool", "order"] f23 _ := ⟨F23, F23.binds (ps := ["pool", "order"]) (fun _ _ _ _ _ _ us hl => match us, hl with | [_, _], _ => rfl), PySem.W.mg_of X G a23⟩
  have T__law_many : Df K mg "_law_many" s_law_many ["n"] f24 _ := ⟨F24, F24.binds (ps := ["n"]) (fun _ _ _ _ _ _ us hl => match us, hl with | [_], _ => rfl), PySem.W.mg_of X G a24⟩
  have T__law_orders : Df K mg "_law_orders" s_law_orders ["pool", "n", "most"] f25 _ := ⟨F25, F25.binds (ps := ["pool", "n", "most"]) (fun _ _ _ _ _ _ us hl => match us, hl with | [_, _, _], _ => rfl), PySem.W.mg_of X G a25⟩
  have T__law_apart : Df K mg "_law_apart" s_law_apart ["way", "one", "other"] f26 _ := ⟨F26, F26.binds (ps := ["way", "one", "other"]) (fun _ _ _ _ _ _ us hl => match us, hl with | [_, _, _], _ => rfl), PySem.W.mg_of X G a26⟩
  have T__law_ways : Df K mg "_law_ways" s_law_ways [] f27 _ := ⟨F27, F27.binds (ps := []) (fun _ _ _ _ _ _ us hl => match us, hl with | [], _ => rfl), PySem.W.mg_of X G a27⟩
  have T__law_all : Df K mg "_law_all" s_law_all ["n"] f28 _ := ⟨F28, F28.binds (ps := ["n"]) (fun _ _ _ _ _ _ us hl => match us, hl with | [_], _ => rfl), PySem.W.mg_of X G a28⟩
  have T__law_is_order : Df K mg "_law_is_order" s_law_is_order ["found", "due"] f29 _ := ⟨F29, F29.binds (ps := ["found", "due"]) (fun _ _ _ _ _ _ us hl => match us, hl with | [_, _], _ => rfl), PySem.W.mg_of X G a29⟩
  have T__law_are_orders : Df K mg "_law_are_orders" s_law_are_orders ["found", "due"] f30 _ := ⟨F30, F30.binds (ps := ["found", "due"]) (fun _ _ _ _ _ _ us hl => match us, hl with | [_, _], _ => rfl), PySem.W.mg_of X G a30⟩
  have T__law_copies : Df K mg "_law_copies" s_law_copies ["orders"] f31 _ := ⟨F31, F31.binds (ps := ["orders"]) (fun _ _ _ _ _ _ us hl => match us, hl with | [_], _ => rfl), PySem.W.mg_of X G a31⟩
  have T__law_due : Df K mg "_law_due" s_law_due ["way", "orders", "errors"] f32 _ := ⟨F32, F32.binds (ps := ["way", "orders", "errors"]) (fun _ _ _ _ _ _ us hl => match us, hl with | [_, _, _], _ => rfl), PySem.W.mg_of X G a32⟩
  have T__law_right : Df K mg "_law_right" s_law_right ["way", "orders", "errors", "asks"] f33 _ := ⟨F33, F33.binds (ps := ["way", "orders", "errors", "asks"]) (fun _ _ _ _ _ _ us hl => match us, hl with | [_, _, _, _], _ => rfl), PySem.W.mg_of X G a33⟩
  have T__law_three_apart : Df K mg "_law_three_apart" s_law_three_apart ["pool"] f34 _ := ⟨F34, F34.binds (ps := ["pool"]) (fun _ _ _ _ _ _ us hl => match us, hl with | [_], _ => rfl), PySem.W.mg_of X G a34⟩
  have B : Bi mg := ⟨PySem.W.mg_none_of X G z_ValueError, PySem.W.mg_none_of X G z_abs, PySem.W.mg_none_of X G z_all, PySem.W.mg_none_of X G z_bool, PySem.W.mg_none_of X G z_enumerate, PySem.W.mg_none_of X G z_int, PySem.W.mg_none_of X G z_isinstance, PySem.W.mg_none_of X G z_len, PySem.W.mg_none_of X G z_list, PySem.W.mg_none_of X G z_max, PySem.W.mg_none_of X G z_min, PySem.W.mg_none_of X G z_range, PySem.W.mg_none_of X G z_sorted, PySem.W.mg_none_of X G z_str, PySem.W.mg_none_of X G z_tuple, PySem.W.mg_none_of X G z_zip⟩
  have m_WAYS := wy_mk (PySem.W.mg_of X G g_WAYS) l_WAYS
  have m_MOST_THINGS := PySem.W.mg_of X G g_MOST_THINGS
  have m_MOST_LISTED := PySem.W.mg_of X G g_MOST_LISTED
  have m_MOST_ORDERS := PySem.W.mg_of X G g_MOST_ORDERS
  exact ⟨PySem.W.fnOf "law" "law" (defArgs s_law) (defBody s_law) (defScope s_law) .none kV35 dc35 pm35 an35 cd35 ct35, fun s v => .of_eq rfl, fun base _ _ => ok_law F35 T__law_pool T__law_take T__law_orders T__law_ways T__law_far T__law_three_apart T__law_right T_not_sure (ok_pool (k := 11) T__law_pool B) (ok_take (k := 11) T__law_take B) (ok_orders (k := 11) T__law_orders T__law_take T__law_order T__law_near T__law_many (ok_take (k := 10) T__law_take B) (ok_ordP (k := 10) T__law_order T__law_take (ok_take (k := 9) T__law_take B) B) (ok_nearP (k := 10) T__law_near T__law_take (ok_take (k := 9) T__law_take B) B) (ok_many (k := 10) T__law_many B) B) (ok_ways (k := 11) T__law_ways B) (ok_farN (k := 11) T__law_far T__law_take (ok_take (k := 10) T__law_take B) B) (ok_three54 (k := 11) T__law_three_apart T__law_order T__law_apart T__law_take T__law_near (ok_ordP (k := 10) T__law_order T__law_take (ok_take (k := 9) T__law_take B) B) (ok_law_apart (k := 10) T__law_apart B) (ok_take (k := 10) T__law_take B) (ok_nearP (k := 10) T__law_near T__law_take (ok_take (k := 9) T__law_take B) B) B) (ok_R54 (k := 11) T__law_right T__law_due T__law_copies T_not_sure T__law_are_orders (ok_due54 (k := 10) T__law_due T__law_all T__law_apart (ok_law_all (k := 9) T__law_all B) (ok_law_apart (k := 9) T__law_apart B) B) (ok_cop50 (k := 10) T__law_copies B) (ok_notsure (k := 10) T_not_sure T_check_sure T_all_orders T_those_within (ok_sure (k := 9) T_check_sure T_check_unlike_list T_check_way T_check_listed T_check_from (ok_cunl (k := 8) T_check_unlike_list T_is_unlike_list (ok_unl (k := 7) T_is_unlike_list T_is_order_list (ok_olst (k := 6) T_is_order_list T_is_order (ok_is_order (k := 4) T_is_order T_is_whole B m_MOST_THINGS) B) B) B m_MOST_ORDERS) (ok_way (k := 8) T_check_way m_WAYS B) (ok_listed (k := 8) T_check_listed B m_MOST_LISTED) (ok_from (k := 7) T_check_from T_is_whole B) B) (ok_all_orders (k := 8) T_all_orders T_orders_with B) (ok_thoseN (k := 9) T_those_within T_known_far (ok_known (k := 8) T_known_far T_far_by_swap T_far_by_spot T_far_by_shift (ok_swap (k := 7) T_far_by_swap T_seats_in (ok_seats (k := 5) T_seats_in T_places_in B) B) (ok_spot (k := 7) T_far_by_spot B) (ok_shift (k := 7) T_far_by_shift T_seats_in (ok_seats (k := 5) T_seats_in T_places_in B) B)) B) B) (ok_are50 (k := 10) T__law_are_orders T__law_is_order (ok_isO50 (k := 9) T__law_is_order B) B) B) (ok_notsure (k := 11) T_not_sure T_check_sure T_all_orders T_those_within (ok_sure (k := 10) T_check_sure T_check_unlike_list T_check_way T_check_listed T_check_from (ok_cunl (k := 9) T_check_unlike_list T_is_unlike_list (ok_unl (k := 8) T_is_unlike_list T_is_order_list (ok_olst (k := 7) T_is_order_list T_is_order (ok_is_order (k := 5) T_is_order T_is_whole B m_MOST_THINGS) B) B) B m_MOST_ORDERS) (ok_way (k := 9) T_check_way m_WAYS B) (ok_listed (k := 9) T_check_listed B m_MOST_LISTED) (ok_from (k := 8) T_check_from T_is_whole B) B) (ok_all_orders (k := 9) T_all_orders T_orders_with B) (ok_thoseN (k := 10) T_those_within T_known_far (ok_known (k := 9) T_known_far T_far_by_swap T_far_by_spot T_far_by_shift (ok_swap (k := 8) T_far_by_swap T_seats_in (ok_seats (k := 6) T_seats_in T_places_in B) B) (ok_spot (k := 8) T_far_by_spot B) (ok_shift (k := 8) T_far_by_shift T_seats_in (ok_seats (k := 6) T_seats_in T_places_in B) B)) B) B) B⟩
end Fo
open PySem PySem.W PyProof.Rows
set_option maxRecDepth 100000 in
set_option maxHeartbeats 0 in
theorem PySem.Challenge.cw_farorders_k54_not_sure_told_holds : PySem.Challenge.rw_farorders_k54_not_sure_told.Holds := by
  w_on; o_law; k_head; (case hw => w_witness2)
  k_fill
  refine L2.walk_of (l := PySem.Challenge.rw_farorders_k54_not_sure_told) (n := 63) (k := 13) (x := "script") (CX := fun _ => L2.CX0) (sp := fun w => Fo.spLaw _) rfl (by decide) rfl ⟨rfl, by decide, by decide⟩ (fun w h Y => PySem.W.kIn_of Y) ?F (fun _ _ a ns hl _ hS => ⟨a, ns, rfl, hS, hl, fun _ => rfl⟩) (fun _ _ _ _ _ h => h)
  case F =>
    intro w mg fa h KX G hmg
    refine' Fo.all_mk KX G hmg ?a0 ?l0 ?c0 ?k0 ?a1 ?l1 ?c1 ?k1 ?a2 ?l2 ?c2 ?k2 ?a3 ?l3 ?c3 ?k3 ?a4 ?l4 ?c4 ?k4 ?a5 ?l5 ?c5 ?k5 ?a6 ?l6 ?c6 ?k6 ?a7 ?l7 ?c7 ?k7 ?a8 ?l8 ?c8 ?k8 ?a9 ?l9 ?c9 ?k9 ?a10 ?l10 ?c10 ?k10 ?a11 ?l11 ?c11 ?k11 ?a12 ?l12 ?c12 ?k12 ?a13 ?l13 ?c13 ?k13 ?a14 ?l14 ?c14 ?k14 ?a15 ?l15 ?c15 ?k15 ?a16 ?l16 ?c16 ?k16 ?a17 ?l17 ?c17 ?k17 ?a18 ?l18 ?c18 ?k18 ?a19 ?l19 ?c19 ?k19 ?a20 ?l20 ?c20 ?k20 ?a21 ?l21 ?c21 ?k21 ?a22 ?l22 ?c22 ?k22 ?a23 ?l23 ?c23 ?k23 ?a24 ?l24 ?c24 ?k24 ?a25 ?l25 ?c25 ?k25 ?a26 ?l26 ?c26 ?k26 ?a27 ?l27 ?c27 ?k27 ?a28 ?l28 ?c28 ?k28 ?a29 ?l29 ?c29 ?k29 ?a30 ?l30 ?c30 ?k30 ?a31 ?l31 ?c31 ?k31 ?a32 ?l32 ?c32 ?k32 ?a33 ?l33 ?c33 ?k33 ?a34 ?l34 ?c34 ?k34 ?a35 ?l35 ?c35 ?k35 ?g_MOST_THINGS ?g_MOST_LISTED ?g_MOST_ORDERS ?g_WAYS ?l_WAYS ?z_ValueError ?z_abs ?z_all ?z_bool ?z_enumerate ?z_int ?z_isinstance ?z_len ?z_list ?z_max ?z_min ?z_range ?z_sorted ?z_str ?z_tuple ?z_zip
    (case a0 => k_is); (case l0 => k_is); (case c0 => k_is); (case k0 => k_is); (case a1 => k_is); (case l1 => k_is); (case c1 => k_is); (case k1 => k_is); (case a2 => k_is); (case l2 => k_is); (case c2 => k_is); (case k2 => k_is); (case a3 => k_is); (case l3 => k_is); (case c3 => k_is); (case k3 => k_is); (case a4 => k_is); (case l4 => k_is); (case c4 => k_is); (case k4 => k_is); (case a5 => k_is); (case l5 => k_is); (case c5 => k_is); (case k5 => k_is); (case a6 => k_is); (case l6 => k_is); (case c6 => k_is); (case k6 => k_is); (case a7 => k_is); (case l7 => k_is); (case c7 => k_is); (case k7 => k_is); (case a8 => k_is); (case l8 => k_is); (case c8 => k_is); (case k8 => k_is); (case a9 => k_is); (case l9 => k_is); (case c9 => k_is); (case k9 => k_is); (case a10 => k_is); (case l10 => k_is); (case c10 => k_is); (case k10 => k_is); (case a11 => k_is); (case l11 => k_is); (case c11 => k_is); (case k11 => k_is); (case a12 => k_is); (case l12 => k_is); (case c12 => k_is); (case k12 => k_is); (case a13 => k_is); (case l13 => k_is); (case c13 => k_is); (case k13 => k_is); (case a14 => k_is); (case l14 => k_is); (case c14 => k_is); (case k14 => k_is); (case a15 => k_is); (case l15 => k_is); (case c15 => k_is); (case k15 => k_is); (case a16 => k_is); (case l16 => k_is); (case c16 => k_is); (case k16 => k_is); (case a17 => k_is); (case l17 => k_is); (case c17 => k_is); (case k17 => k_is); (case a18 => k_is); (case l18 => k_is); (case c18 => k_is); (case k18 => k_is); (case a19 => k_is); (case l19 => k_is); (case c19 => k_is); (case k19 => k_is); (case a20 => k_is); (case l20 => k_is); (case c20 => k_is); (case k20 => k_is); (case a21 => k_is); (case l21 => k_is); (case c21 => k_is); (case k21 => k_is); (case a22 => k_is); (case l22 => k_is); (case c22 => k_is); (case k22 => k_is); (case a23 => k_is); (case l23 => k_is); (case c23 => k_is); (case k23 => k_is); (case a24 => k_is); (case l24 => k_is); (case c24 => k_is); (case k24 => k_is); (case a25 => k_is); (case l25 => k_is); (case c25 => k_is); (case k25 => k_is); (case a26 => k_is); (case l26 => k_is); (case c26 => k_is); (case k26 => k_is); (case a27 => k_is); (case l27 => k_is); (case c27 => k_is); (case k27 => k_is); (case a28 => k_is); (case l28 => k_is); (case c28 => k_is); (case k28 => k_is); (case a29 => k_is); (case l29 => k_is); (case c29 => k_is); (case k29 => k_is); (case a30 => k_is); (case l30 => k_is); (case c30 => k_is); (case k30 => k_is); (case a31 => k_is); (case l31 => k_is); (case c31 => k_is); (case k31 => k_is); (case a32 => k_is); (case l32 => k_is); (case c32 => k_is); (case k32 => k_is); (case a33 => k_is); (case l33 => k_is); (case c33 => k_is); (case k33 => k_is); (case a34 => k_is); (case l34 => k_is); (case c34 => k_is); (case k34 => k_is); (case a35 => k_is); (case l35 => k_is); (case c35 => k_is); (case k35 => k_is); (case g_MOST_THINGS => k_is); (case g_MOST_LISTED => k_is); (case g_MOST_ORDERS => k_is); (case g_WAYS => k_is); (case l_WAYS => k_is); (case z_ValueError => k_is); (case z_abs => k_is); (case z_all => k_is); (case z_bool => k_is); (case z_enumerate => k_is); (case z_int => k_is); (case z_isinstance => k_is); (case z_len => k_is); (case z_list => k_is); (case z_max => k_is); (case z_min => k_is); (case z_range => k_is); (case z_sorted => k_is); (case z_str => k_is); (case z_tuple => k_is); (case z_zip => k_is)

