import PyProof.Rows.All
import Wide.All
import OpenK.AllK
import Wide.FinOn
import HandS.ForMost
import HandS.IsInst
import HandS.Conv
import HandS.Style
import HandS.More
import HandS.Evl
import HandS.Zip
import HandS.SetFor
import HandS.Sort
import HandS.Wide
import HandS.Deep
import KE.SortData
import KE.DataCmp
import HandS.DictComp
import HandS.DictTup
import HandS.TupLen
import KE.KDictKeyed
import KE.KDictWalk
import HandS.Walk
import HandS.Zip
import PySem.Challenge.RW_farorders_k69_whole_polls_otherwise
set_option Elab.async false
set_option linter.all false
set_option maxRecDepth 100000
namespace Fo
open PySem PySem.Spec PyProof.Rows L2
/-! ### lists and orders -/
def rg (n : Nat) : List Int := (List.range n).map fun k => ((k : Nat) : Int)
def IsOrd (n : Nat) (ns : List Int) : Prop := ns.Perm (rg n)
theorem rg_len (n : Nat) : (rg n).length = n := by
  unfold rg
  rw [List.length_map, List.length_range]
theorem rg_mem {n : Nat} {x : Int} : x ∈ rg n ↔ 0 ≤ x ∧ x < n := by
  unfold rg
  rw [List.mem_map]
  constructor
  · rintro ⟨k, hk, rfl⟩
    have := List.mem_range.mp hk
    omega
  · rintro ⟨h0, h1⟩
    exact ⟨x.toNat, List.mem_range.mpr (by omega), by omega⟩
theorem rg_nodup (n : Nat) : (rg n).Nodup := by
  unfold rg
  exact List.Pairwise.map _ (fun a b h e => h (by omega)) List.nodup_range
theorem rg_sorted (n : Nat) : (rg n).Pairwise (· ≤ ·) := by
  unfold rg
  exact List.Pairwise.map _ (fun a b h => by omega) List.pairwise_lt_range
theorem rg_V (n : Nat) : rgV 0 (n : Int) = (rg n).map V.int := by
  unfold rgV rg
  rw [List.map_map, show ((n : Int) - 0).toNat = n by omega]
  apply List.map_congr_left
  intro a _
  show V.int (0 + (a : Int)) = V.int (a : Int)
  rw [Int.zero_add]
theorem IsOrd.len {n : Nat} {ns : List Int} (h : IsOrd n ns) : ns.length = n := (List.Perm.length_eq h).trans (rg_len n)
theorem IsOrd.mem {n : Nat} {ns : List Int} (h : IsOrd n ns) {x : Int} (m : x ∈ ns) : 0 ≤ x ∧ x < n := rg_mem.mp ((List.Perm.mem_iff h).mp m)
theorem IsOrd.nodup {n : Nat} {ns : List Int} (h : IsOrd n ns) : ns.Nodup := (List.Perm.nodup_iff h).mpr (rg_nodup n)
/-- two sorted lists of the same things are one -/
theorem sorted_eq : ∀ {a b : List Int}, a.Perm b → a.Pairwise (· ≤ ·) → b.Pairwise (· ≤ ·) → a = b := by
  intro a b hp ha hb
  exact List.Perm.eq_of_pairwise (fun x y _ _ h1 h2 => by omega) ha hb hp
/-- the things at p and p + 1 change places -/
def sw (xs : List Int) (p : Nat) : List Int := (xs.set p (xs.getD (p + 1) 0)).set (p + 1) (xs.getD p 0)
theorem split2 : ∀ {xs : List Int} {p : Nat}, p + 1 < xs.length → ∃ A a b B, xs = A ++ a :: b :: B ∧ A.length = p
  | [], p, h => by simp at h
  | [_], p, h => by simp at h
  | a :: b :: r, 0, _ => ⟨[], a, b, r, rfl, rfl⟩
  | a :: b :: r, p + 1, h => by
    obtain ⟨A, x, y, B, e, l⟩ := split2 (xs := b :: r) (p := p) (by simpa using h)
    exact ⟨a :: A, x, y, B, by rw [e]; rfl, by rw [List.length_cons, l]⟩
theorem sw_at : ∀ (A : List Int) (a b : Int) (B : List Int), sw (A ++ a :: b :: B) A.length = A ++ b :: a :: B
  | [], a, b, B => rfl
  | x :: A, a, b, B => by
    have ih := sw_at A a b B
    unfold sw at ih ⊢
    show x :: _ = x :: _
    exact congrArg (x :: ·) ih
theorem sw_perm {xs : List Int} {p : Nat} (h : p + 1 < xs.length) : (sw xs p).Perm xs := by
  obtain ⟨A, a, b, B, rfl, rfl⟩ := split2 h
  rw [sw_at]
  exact List.Perm.append_left A (List.Perm.swap a b B)
theorem sw_len (xs : List Int) (p : Nat) : (sw xs p).length = xs.length := by
  unfold sw
  rw [List.length_set, List.length_set]
theorem sw_ord {n : Nat} {xs : List Int} {p : Nat} (o : IsOrd n xs) (h : p + 1 < n) : IsOrd n (sw xs p) :=
  (sw_perm (by rw [o.len]; exact h)).trans o
theorem sw_V {xs : List Int} {p : Nat} {a b : Int} (ha : xs[p]? = some a) (hb : xs[p + 1]? = some b) : ((xs.map V.int).set p (V.int b)).set (p + 1) (V.int a) = (sw xs p).map V.int := by
  unfold sw
  rw [List.getD_eq_getElem?_getD, List.getD_eq_getElem?_getD, ha, hb, List.map_set, List.map_set]
  rfl
theorem pop_ins {xs : List Int} {p : Nat} {a : Int} (h : p + 1 < xs.length) (ha : xs[p]? = some a) : (xs.eraseIdx p).take (p + 1) ++ [a] ++ (xs.eraseIdx p).drop (p + 1) = sw xs p := by
  obtain ⟨A, x, y, B, rfl, rfl⟩ := split2 h
  have ex : x = a := by
    rw [List.getElem?_append_right (Nat.le_refl _), Nat.sub_self] at ha
    exact Option.some.inj ha
  subst ex
  rw [sw_at, List.eraseIdx_append_of_length_le (Nat.le_refl _), Nat.sub_self]
  show (A ++ y :: B).take (A.length + 1) ++ [x] ++ (A ++ y :: B).drop (A.length + 1) = _
  rw [List.take_append, List.drop_append]
  have t : A.length + 1 - A.length = 1 := by omega
  rw [t, List.take_of_length_le (by omega), List.drop_of_length_le (by omega)]
  simp
/-- the order at a walk's end -/
def wEnd (xs : List Int) (ws : List Int) : List Int := ws.foldl (fun x p => sw x p.toNat) xs
theorem wEnd_more {xs ws : List Int} {i : Nat} {p : Int} (h : ws[i]? = some p) : wEnd xs (ws.take (i + 1)) = sw (wEnd xs (ws.take i)) p.toNat := by
  unfold wEnd
  rw [List.take_add_one, h, List.foldl_append]
  rfl
theorem wEnd_ord {n : Nat} {xs : List Int} (o : IsOrd n xs) : ∀ {ws : List Int}, (∀ p ∈ ws, 0 ≤ p ∧ p + 1 < n) → IsOrd n (wEnd xs ws) := by
  intro ws
  induction ws generalizing xs with
  | nil => intro _; exact o
  | cons p ws ih =>
    intro h
    have hp := h p List.mem_cons_self
    exact ih (sw_ord o (by omega)) fun q hq => h q (List.mem_cons_of_mem _ hq)
theorem nodup_len : ∀ {l m : List Int}, l.Nodup → (∀ x ∈ l, x ∈ m) → l.length ≤ m.length
  | [], m, _, _ => Nat.zero_le _
  | a :: l, m, hn, hs => by
    obtain ⟨h1, h2⟩ := List.nodup_cons.mp hn
    have ha := hs a List.mem_cons_self
    have ih := nodup_len (l := l) (m := m.erase a) h2 fun x hx => by
      have ne : x ≠ a := fun e => h1 (by rw [← e]; exact hx)
      exact (List.mem_erase_of_ne ne).mpr (hs x (List.mem_cons_of_mem _ hx))
    rw [List.length_erase_of_mem ha] at ih
    have : 0 < m.length := List.length_pos_of_mem ha
    rw [List.length_cons]
    omega
theorem int_at {ns : List Int} {i : Nat} {x : Int} (h : ns[i]? = some x) : (ns.map V.int)[i]? = some (V.int x) := by
  rw [List.getElem?_map, h]
  rfl
theorem int_at_inv {ns : List Int} {i : Nat} {v : V} (h : (ns.map V.int)[i]? = some v) : ∃ x, ns[i]? = some x ∧ v = V.int x := by
  rw [List.getElem?_map] at h
  cases e : ns[i]? with
  | none => rw [e] at h; cases h
  | some x => rw [e] at h; exact ⟨x, rfl, (Option.some.inj h).symm⟩
theorem line_small {n : Nat} (h : n ≤ 16777216) : n ≤ sizeLine := by rw [sizeLine_eq]; exact h
theorem line_lt {n : Nat} (h : n < 16777216) : n < sizeLine := by rw [sizeLine_eq]; exact h
/-! ### data of ints -/
theorem dp_ints {K : PySem.W.Frag} {H : Hp} : ∀ ns : List Int, DpAll K H (ns.map V.int) (ns.map PyData.int)
  | [] => .nil
  | n :: r => .cons (.int n) (dp_ints r)
theorem dp_list {K : PySem.W.Frag} {H : Hp} {a : Addr} {ns : List Int} (h : H a = some (.lst (ns.map V.int))) : Dp K H (.ref a) (.list (ns.map PyData.int)) := .lst (SqL.of h) (dp_ints ns)
theorem eqv_int (i j : Int) : PyData.eqv (.int i) (.int j) = (i == j) := rfl
end Fo
namespace Fo
open PySem PySem.Spec PyProof.Rows L2
abbrev dI (ns : List Int) : List PyData := ns.map PyData.int
abbrev dL (ns : List Int) : PyData := .list (dI ns)
abbrev dLL (l : List (List Int)) : PyData := .list (l.map dL)
theorem lay_ints : ∀ ns : List Int, PyData.canLayAll0 (dI ns) = true
  | [] => rfl
  | n :: r => by
    show (PyData.canLay0 (.int n) && PyData.canLayAll0 (dI r)) = true
    rw [lay_ints r]
    rfl
theorem depth_ints : ∀ ns : List Int, PyData.depthAll (dI ns) = 0
  | [] => by simp [PyData.depthAll]
  | n :: r => by
    show PyData.depthAll (.int n :: dI r) = 0
    rw [PyData.depthAll, depth_ints r]
    simp [PyData.depth]
theorem lay_list (ns : List Int) : PyData.canLay0 (dL ns) = true := by
  rw [PyData.canLay0]
  exact lay_ints ns
theorem depth_list (ns : List Int) : PyData.depth (dL ns) = 1 := by
  rw [PyData.depth, depth_ints]
theorem shaped_list (ns : List Int) : SeqAt.shaped (dL ns) = true := by
  unfold SeqAt.shaped
  rw [lay_list, depth_list]
  rfl
theorem lay_lists : ∀ l : List (List Int), PyData.canLayAll0 (l.map dL) = true
  | [] => rfl
  | n :: r => by
    show (PyData.canLay0 (dL n) && PyData.canLayAll0 (r.map dL)) = true
    rw [lay_lists r, lay_list]
    rfl
theorem depth_lists : ∀ l : List (List Int), PyData.depthAll (l.map dL) ≤ 1
  | [] => by simp [PyData.depthAll]
  | n :: r => by
    show PyData.depthAll (dL n :: r.map dL) ≤ 1
    rw [PyData.depthAll, depth_list]
    have := depth_lists r
    omega
theorem shaped_lists (l : List (List Int)) : SeqAt.shaped (dLL l) = true := by
  unfold SeqAt.shaped
  rw [Bool.and_eq_true_iff]
  constructor
  · rw [PyData.canLay0]
    exact lay_lists l
  · apply decide_eq_true
    rw [PyData.depth]
    have := depth_lists l
    omega
theorem eqv_list (ns : List Int) : PyData.eqv (dL ns) (dL ns) = true := SeqAt.eqv_refl _ (lay_list ns)
theorem eqv_lists (l : List (List Int)) : PyData.eqv (dLL l) (dLL l) = true := SeqAt.eqv_refl _ (SeqAt.canLay_of_shaped (shaped_lists l))
theorem eqvAll_ints : ∀ a b : List Int, PyData.eqvAll (dI a) (dI b) = decide (a = b)
  | [], [] => by simp [PyData.eqvAll]
  | [], _ :: _ => by simp [PyData.eqvAll]
  | _ :: _, [] => by simp [PyData.eqvAll]
  | x :: a, y :: b => by
    show PyData.eqvAll (.int x :: dI a) (.int y :: dI b) = _
    rw [PyData.eqvAll, eqvAll_ints a b]
    show ((x == y) && decide (a = b)) = decide (x :: a = y :: b)
    by_cases h : x = y
    · subst h
      simp
    · simp [h]
theorem eqv_ints (a b : List Int) : PyData.eqv (dL a) (dL b) = decide (a = b) := by
  rw [PyData.eqv]
  exact eqvAll_ints a b
end Fo
namespace Fo
open PySem PySem.Spec PyProof.Rows L2
/-! ### slices of ints -/
def cutI (ws : List Int) (lo hi : Option Int) : List Int := (ws.drop (HT.sIx ws.length 0 lo)).take (HT.sIx ws.length ws.length hi - HT.sIx ws.length 0 lo)
theorem cut_ints (ws : List Int) (lo hi : Option Int) : cutV (ws.map V.int) lo hi = (cutI ws lo hi).map V.int := by
  unfold cutV cutI
  rw [List.length_map, List.map_take, List.map_drop]
theorem cutI_mem {ws : List Int} {lo hi : Option Int} {x : Int} (h : x ∈ cutI ws lo hi) : x ∈ ws := List.mem_of_mem_drop (List.mem_of_mem_take h)
theorem cutI_len (ws : List Int) (lo hi : Option Int) : (cutI ws lo hi).length ≤ ws.length := by
  unfold cutI
  rw [List.length_take, List.length_drop]
  omega
theorem cutI_head (ws : List Int) (k : Nat) : cutI ws none (some (k : Int)) = ws.take k := by
  unfold cutI
  rw [HT.sIx_none, HT.sIx_nat, List.drop_zero, Nat.sub_zero]
  by_cases h : k ≤ ws.length
  · rw [Nat.min_eq_left h]
  · rw [Nat.min_eq_right (by omega), List.take_length, List.take_of_length_le (by omega)]
theorem cutI_tail (ws : List Int) (k : Nat) : cutI ws (some (k : Int)) none = ws.drop k := by
  unfold cutI
  rw [HT.sIx_none, HT.sIx_nat]
  by_cases h : k ≤ ws.length
  · rw [Nat.min_eq_left h, List.take_of_length_le (by rw [List.length_drop]; exact Nat.le_refl _)]
  · rw [Nat.min_eq_right (by omega), List.drop_of_length_le (Nat.le_refl _), List.drop_of_length_le (by omega), List.take_nil]
end Fo
namespace Fo
open PySem PySem.Spec PyProof.Rows L2
/-! ### the text -/
def topS (i : Nat) : Stmt := PySem.Challenge.pw_farorders_k69_whole_polls_otherwise.main.body.getD i (.Pass ⟨0, 0, 0, 0⟩)
abbrev s_OrderError : Stmt := topS 1
abbrev s_NoOrder : Stmt := topS 2
abbrev s_NoWay : Stmt := topS 3
abbrev s_NoFit : Stmt := topS 4
abbrev s_TooMany : Stmt := topS 5
abbrev s_is_whole : Stmt := topS 8
abbrev s_check_way : Stmt := topS 9
abbrev s_check_few : Stmt := topS 10
abbrev s_is_order : Stmt := topS 14
abbrev s_check_order : Stmt := topS 15
abbrev s_check_fit : Stmt := topS 16
abbrev s_is_order_list : Stmt := topS 17
abbrev s_places_in : Stmt := topS 18
abbrev s_seats_in : Stmt := topS 19
abbrev s_known_far : Stmt := topS 20
abbrev s_far_by_swap : Stmt := topS 21
abbrev s_far_by_spot : Stmt := topS 22
abbrev s_far_by_shift : Stmt := topS 23
abbrev s_all_orders : Stmt := topS 24
abbrev s_orders_with : Stmt := topS 25
abbrev s_check_poll : Stmt := topS 29
abbrev s_poll_sum : Stmt := topS 30
abbrev s_known_sum : Stmt := topS 31
abbrev s_middle_of : Stmt := topS 32
abbrev s_middle_by_all : Stmt := topS 33
abbrev s_middle_by_pairs : Stmt := topS 34
abbrev s_best_first : Stmt := topS 35
abbrev s_least_sums : Stmt := topS 36
abbrev s_sum_with_first : Stmt := topS 37
abbrev s_things_in : Stmt := topS 38
abbrev s_counts_ahead : Stmt := topS 39
abbrev s_pairs_ahead : Stmt := topS 40
abbrev s_pair_sum : Stmt := topS 41
abbrev s_ring_of : Stmt := topS 42
abbrev s_mostly_behind : Stmt := topS 43
abbrev s_ring_from : Stmt := topS 44
abbrev s_longer_paths : Stmt := topS 45
abbrev s_law_cell_at : Stmt := topS 47
abbrev s_law_stir : Stmt := topS 48
abbrev s_law_deck : Stmt := topS 49
abbrev s_law_next : Stmt := topS 50
abbrev s_law_order : Stmt := topS 51
abbrev s_law_near : Stmt := topS 52
abbrev s_law_poll : Stmt := topS 53
abbrev s_law_by_arcs : Stmt := topS 54
abbrev s_law_ring_poll : Stmt := topS 55
abbrev s_law_sums_right : Stmt := topS 56
abbrev s_law_rings_right : Stmt := topS 57
abbrev s_law : Stmt := topS 58
/-- a def of the text, where it stands -/
structure Df (K : PySem.W.Frag) (mg : Str → Option Value) (x : Str) (st : Stmt) (ps : List Str) (f : Addr) (fd : FuncData) : Prop where
  F : Fun K x x st f fd
  b : Binds K fd ps []
  g : mg x = some (.ref f)
/-- the built-in names as they were -/
structure Bi (mg : Str → Option Value) : Prop where
  ValueError : mg "ValueError" = none
  abs : mg "abs" = none
  all : mg "all" = none
  bool : mg "bool" = none
  enumerate : mg "enumerate" = none
  int : mg "int" = none
  isinstance : mg "isinstance" = none
  len : mg "len" = none
  list : mg "list" = none
  max : mg "max" = none
  min : mg "min" = none
  range : mg "range" = none
  set : mg "set" = none
  sorted : mg "sorted" = none
  str : mg "str" = none
  sum : mg "sum" = none
end Fo
namespace Fo
open PySem PySem.Spec PyProof.Rows L2
theorem same_new {H : Hp} {p : Addr} {o : HO} (h : H p = none) : Same H (upd H p o) := fun b x e => by
  rw [upd_ne (ne_of_none e h)]
  exact e
theorem at2_0 {x y : V} : atI [x, y] 0 = some x := rfl
theorem at2_1 {x y : V} : atI [x, y] 1 = some y := rfl
end Fo
namespace Fo
open PySem PySem.Spec PyProof.Rows L2
theorem pop_perm : ∀ {xs : List Int} {k : Nat} {y : Int}, xs[k]? = some y → (y :: xs.eraseIdx k).Perm xs
  | [], k, y, h => by simp at h
  | a :: r, 0, y, h => by
    have e : a = y := Option.some.inj h
    subst e
    exact List.Perm.refl _
  | a :: r, k + 1, y, h => by
    have ih := pop_perm (xs := r) (k := k) (y := y) h
    show (y :: a :: r.eraseIdx k).Perm (a :: r)
    exact (List.Perm.swap a y _).trans (List.Perm.cons a ih)
theorem map_erase : ∀ (xs : List Int) (k : Nat), (xs.map V.int).eraseIdx k = (xs.eraseIdx k).map V.int
  | [], k => rfl
  | a :: r, 0 => rfl
  | a :: r, k + 1 => congrArg (V.int a :: ·) (map_erase r k)
/-- what len asks of a list or a tuple -/
abbrev rLenS (K : PySem.W.Frag) : List V → Hp → VK → Prop := fun xs H Q => ∃ p ys, xs = [.ref p] ∧ (SqL K H p ys ∨ SqT K H p ys) ∧ Q (.int ys.length) H
theorem seq_ix {i : Int} {k n : Nat} (e : i = (k : Int)) (h : k < n) : seqIndex? i n = some k := by
  subst e
  unfold seqIndex?
  have h1 : ¬ ((k : Int) < 0) := by omega
  simp only [h1, if_false]
  have h2 : (decide ((0 : Int) ≤ (k : Int)) && decide ((k : Int) < (n : Int))) = true := by
    simp
    omega
  rw [if_pos h2, Int.toNat_natCast]
theorem ix_n {i : Int} {k n : Nat} (e : i = (k : Int)) (h : k < n) : ixN n i = some k := by
  subst e
  unfold ixN
  rw [if_pos (by omega), if_pos (by omega), Int.toNat_natCast]
end Fo
namespace Fo
open PySem PySem.Spec PyProof.Rows L2
abbrev rMax2 : List V → Hp → VK → Prop := fun xs H Q => ∃ i j, xs = [.int i, .int j] ∧ Q (.int (if j > i then j else i)) H
abbrev rMin2 : List V → Hp → VK → Prop := fun xs H Q => ∃ i j, xs = [.int i, .int j] ∧ Q (.int (if j < i then j else i)) H
abbrev rInt1 : List V → Hp → VK → Prop := fun xs H Q => (∃ i, xs = [.int i] ∧ Q (.int i) H) ∨ ∃ k, xs = [.bl k] ∧ Q (.int (if k then 1 else 0)) H
theorem filter_more {l : List Int} {m : Nat} {x : Int} (p : Int → Bool) (h : l[m]? = some x) : (l.take (m + 1)).filter p = (l.take m).filter p ++ (if p x then [x] else []) := by
  rw [List.take_add_one, h, List.filter_append]
  show _ ++ List.filter p [x] = _
  rw [List.filter_cons]
  rfl
end Fo
namespace Fo
open PySem PySem.Spec PyProof.Rows L2
/-- a loop over enumerate of a list that stands still -/
theorem for_enumL {K : PySem.W.Frag} {a : Addr} {xs : List V} {g : TG} {tb : TS} {D : Ends} {σ : L2.St} {H : Hp} (Pv : Nat → L2.St → Hp → Prop) (h0 : Pv 0 σ H) (hq : ∀ i σ H, Pv i σ H → SqL K H a xs)
    (hs : ∀ (i : Nat) (x : V) (T : Addr) (σ : L2.St) (H : Hp), xs[i]? = some x → Pv i σ H → H T = none → g (.ref T) σ (upd H T (.tup [.int (i : Nat), x])) fun σ2 H2 => tb { D with nx := Pv (i + 1), ct := Pv (i + 1), bk := D.nx } σ2 H2) (hd : ∀ σ H, Pv xs.length σ H → D.nx σ H) :
    ∃ W : Nat → Nat → L2.St → Hp → Prop, (∃ m, W 0 m σ H) ∧ ∀ i m σ H, W i m σ H →
      ((Ite K a).stop i H ∧ D.nx σ H) ∨ ((Ite K a).go i H ∧ ∃ N : L2.St → Hp → Prop, (∀ σ' H', N σ' H' → ∃ m', m' < m ∧ W (i + 1) m' σ' H') ∧ ∀ v H', (Ite K a).yld i H v H' → g v σ H' fun σ2 H2 => tb { D with nx := N, ct := N, bk := D.nx } σ2 H2) := by
  refine ⟨fun i m σ H => m = xs.length - i ∧ i ≤ xs.length ∧ Pv i σ H, ⟨xs.length, rfl, Nat.zero_le _, h0⟩, ?_⟩
  rintro i m σ H ⟨rfl, hi, p⟩
  have qx := hq i σ H p
  by_cases hlt : i < xs.length
  · have hx : xs[i]? = some xs[i] := List.getElem?_eq_getElem hlt
    refine .inr ⟨⟨xs, _, qx, hx⟩, Pv (i + 1), fun σ' H' p' => ⟨xs.length - (i + 1), by omega, rfl, hlt, p'⟩, fun v H' y => ?_⟩
    obtain ⟨T, x', rfl, hT, rfl, f1⟩ := y
    exact hs i x' T σ H (f1 xs qx) p hT
  · have e : i = xs.length := by omega
    subst e
    exact .inl ⟨⟨xs, qx, Nat.le_refl _⟩, hd σ H p⟩
/-- a comprehension over enumerate of a list that stands still -/
theorem lc_enumL {K : PySem.W.Frag} {a : Addr} {xs : List V} {g : TG} {tt : TT} {te : TE} {vs : List Nat} {σ : L2.St} {H1 : Hp} {D : Addr} {Qd : Hp → Prop} (Pv : Nat → Hp → Prop) (h0 : Pv 0 (upd H1 D (.lst []))) (hl : ∀ i H, i ≤ xs.length → Pv i H → SqL K H a xs)
    (hs : ∀ (i : Nat) (x : V) (T : Addr) (H : Hp), xs[i]? = some x → Pv i H → H T = none → g (.ref T) (wipe σ vs) (upd H T (.tup [.int (i : Nat), x])) fun σ2 H2 => wipe σ2 vs = wipe σ vs ∧ tt σ2 H2 fun b H3 =>
      if b = true then te σ2 H3 fun y H4 => ∃ acc, H4 D = some (.lst acc) ∧ acc.length < sizeLine ∧ Pv (i + 1) (upd H4 D (.lst (acc ++ [y]))) else Pv (i + 1) H3) (hd : ∀ H, Pv xs.length H → Qd H) :
    ∃ W : Nat → Nat → Hp → Prop, (∃ m, W 0 m (upd H1 D (.lst []))) ∧ ∀ i m H, W i m H →
      ((Ite K a).stop i H ∧ Qd H) ∨ ((Ite K a).go i H ∧ ∃ Nx : Hp → Prop, (∀ H', Nx H' → ∃ m', m' < m ∧ W (i + 1) m' H') ∧ ∀ x H', (Ite K a).yld i H x H' → g x (wipe σ vs) H' fun σ2 H2 => wipe σ2 vs = wipe σ vs ∧ tt σ2 H2 fun b H3 =>
        if b = true then te σ2 H3 fun y H4 => ∃ acc, H4 D = some (.lst acc) ∧ acc.length < sizeLine ∧ Nx (upd H4 D (.lst (acc ++ [y]))) else Nx H3) := by
  refine ⟨fun i m H => m = xs.length - i ∧ i ≤ xs.length ∧ Pv i H, ⟨xs.length, by simp, Nat.zero_le _, h0⟩, ?_⟩
  rintro i m H ⟨rfl, hi, p⟩
  have q := hl i H hi p
  by_cases hlt : i < xs.length
  · refine .inr ⟨⟨xs, xs[i], q, by simp [hlt]⟩, Pv (i + 1), fun H' p' => ⟨xs.length - (i + 1), by omega, rfl, hlt, p'⟩, fun x H' y => ?_⟩
    obtain ⟨T, x', rfl, hT, rfl, f1⟩ := y
    exact hs i x' T H (f1 xs q) p hT
  · have e : i = xs.length := by omega
    subst e
    exact .inl ⟨⟨xs, q, Nat.le_refl _⟩, hd H p⟩
/-! ### the back of an order -/
def IsBack (ns ps : List Int) : Prop := ps.length = ns.length ∧ ∀ (j : Nat) (x : Int), ns[j]? = some x → ps[x.toNat]? = some (j : Int)
theorem ord_at {n : Nat} {ns : List Int} (o : IsOrd n ns) {t : Nat} (h : t < n) : ∃ j : Nat, j < n ∧ ns[j]? = some (t : Int) := by
  have m : (t : Int) ∈ ns := (List.Perm.mem_iff o).mpr (rg_mem.mpr ⟨by omega, by omega⟩)
  obtain ⟨j, hj⟩ := List.mem_iff_getElem?.mp m
  exact ⟨j, by have := (List.getElem?_eq_some_iff.mp hj).1; rw [o.len] at this; exact this, hj⟩
theorem ord_ix {n : Nat} {ns : List Int} (o : IsOrd n ns) {j : Nat} (h : j < n) : ∃ x : Int, ns[j]? = some x ∧ 0 ≤ x ∧ x < n := by
  have hj : j < ns.length := by rw [o.len]; exact h
  exact ⟨ns[j], List.getElem?_eq_getElem hj, o.mem (List.getElem_mem hj)⟩
theorem back_eq {n : Nat} {ns a b : List Int} (o : IsOrd n ns) (ha : IsBack ns a) (hb : IsBack ns b) : a = b := by
  apply List.ext_getElem?
  intro t
  by_cases h : t < n
  · obtain ⟨j, _, hj⟩ := ord_at o h
    have h1 := ha.2 j _ hj
    have h2 := hb.2 j _ hj
    rw [Int.toNat_natCast] at h1 h2
    rw [h1, h2]
  · rw [List.getElem?_eq_none (by rw [ha.1, o.len]; omega), List.getElem?_eq_none (by rw [hb.1, o.len]; omega)]
def behindL (ns ms : List Int) : List Int := ms.map fun p => ns.getD p.toNat 0
theorem behind_at {ns ms : List Int} {i : Nat} {p x : Int} (hp : ms[i]? = some p) (hx : ns[p.toNat]? = some x) : (behindL ns ms)[i]? = some x := by
  unfold behindL
  rw [List.getElem?_map, hp]
  show some (ns.getD p.toNat 0) = some x
  rw [List.getD_eq_getElem?_getD, hx]
  rfl
theorem behind_len (ns ms : List Int) : (behindL ns ms).length = ms.length := by
  unfold behindL
  rw [List.length_map]
theorem take_more {l : List Int} {i : Nat} {x : Int} (h : l[i]? = some x) : l.take (i + 1) = l.take i ++ [x] := by
  rw [List.take_add_one, h]
  rfl
theorem flat_ints : ∀ ns : List Int, (ns.map V.int).all flatV = true
  | [] => rfl
  | n :: r => by
    show (flatV (V.int n) && (r.map V.int).all flatV) = true
    rw [flat_ints r]
    rfl
theorem eqV_int (i j : Int) : eqV (.int i) (.int j) = (i == j) := rfl
end Fo
namespace Fo
open PySem PySem.Spec PyProof.Rows L2
/-! ### lists of lists -/
def LL (H : Hp) : List Addr → List (List Int) → Prop
  | [], [] => True
  | a :: as, r :: rs => H a = some (.lst (r.map V.int)) ∧ LL H as rs
  | _, _ => False
theorem LL.len {H : Hp} : ∀ {as : List Addr} {rs : List (List Int)}, LL H as rs → as.length = rs.length
  | [], [], _ => rfl
  | [], _ :: _, h => h.elim
  | _ :: _, [], h => h.elim
  | a :: as, r :: rs, h => by rw [List.length_cons, List.length_cons, LL.len h.2]
theorem LL.keep {H H' : Hp} : ∀ {as : List Addr} {rs : List (List Int)}, LL H as rs → (∀ a ∈ as, ∀ o, H a = some o → H' a = some o) → LL H' as rs
  | [], [], _, _ => trivial
  | [], _ :: _, h, _ => h.elim
  | _ :: _, [], h, _ => h.elim
  | a :: as, r :: rs, h, k => ⟨k a List.mem_cons_self _ h.1, LL.keep h.2 fun b hb => k b (List.mem_cons_of_mem _ hb)⟩
theorem LL.same {H H' : Hp} {as : List Addr} {rs : List (List Int)} (h : LL H as rs) (s : Same H H') : LL H' as rs := h.keep fun a _ o e => s a o e
theorem LL.get {H : Hp} : ∀ {as : List Addr} {rs : List (List Int)} {i : Nat} {a : Addr}, LL H as rs → as[i]? = some a → ∃ r, rs[i]? = some r ∧ H a = some (.lst (r.map V.int))
  | [], [], _, _, _, e => by simp at e
  | [], _ :: _, _, _, h, _ => h.elim
  | _ :: _, [], _, _, h, _ => h.elim
  | a :: as, r :: rs, 0, b, h, e => by
    have e2 : a = b := Option.some.inj e
    subst e2
    exact ⟨r, rfl, h.1⟩
  | a :: as, r :: rs, i + 1, b, h, e => LL.get (i := i) h.2 e
theorem LL.tracked {H : Hp} {as : List Addr} {rs : List (List Int)} (h : LL H as rs) {a : Addr} (ha : a ∈ as) : ∃ o, H a = some o := by
  obtain ⟨i, hi⟩ := List.mem_iff_getElem?.mp ha
  obtain ⟨r, _, e⟩ := h.get hi
  exact ⟨_, e⟩
theorem LL.snoc {H : Hp} : ∀ {as : List Addr} {rs : List (List Int)} {a : Addr} {r : List Int}, LL H as rs → H a = some (.lst (r.map V.int)) → LL H (as ++ [a]) (rs ++ [r])
  | [], [], _, _, _, e => ⟨e, trivial⟩
  | [], _ :: _, _, _, h, _ => h.elim
  | _ :: _, [], _, _, h, _ => h.elim
  | b :: as, s :: rs, _, _, h, e => ⟨h.1, LL.snoc h.2 e⟩
theorem LL.drop {H : Hp} : ∀ {as : List Addr} {rs : List (List Int)} (k : Nat), LL H as rs → LL H (as.drop k) (rs.drop k)
  | as, rs, 0, h => h
  | [], [], k + 1, _ => trivial
  | [], _ :: _, _ + 1, h => h.elim
  | _ :: _, [], _ + 1, h => h.elim
  | _ :: as, _ :: rs, k + 1, h => LL.drop k h.2
theorem dp_LL {K : PySem.W.Frag} {H : Hp} : ∀ {as : List Addr} {rs : List (List Int)}, LL H as rs → DpAll K H (as.map V.ref) (rs.map dL)
  | [], [], _ => .nil
  | [], _ :: _, h => h.elim
  | _ :: _, [], h => h.elim
  | _ :: _, _ :: _, h => .cons (dp_list h.1) (dp_LL h.2)
theorem dp_lists {K : PySem.W.Frag} {H : Hp} {l : Addr} {as : List Addr} {rs : List (List Int)} (hl : H l = some (.lst (as.map V.ref))) (h : LL H as rs) : Dp K H (.ref l) (dLL rs) := .lst (SqL.of hl) (dp_LL h)
theorem ref_at {as : List Addr} {i : Nat} {a : Addr} (h : as[i]? = some a) : (as.map V.ref)[i]? = some (V.ref a) := by
  rw [List.getElem?_map, h]
  rfl
theorem ref_at_inv {as : List Addr} {i : Nat} {v : V} (h : (as.map V.ref)[i]? = some v) : ∃ a, as[i]? = some a ∧ v = V.ref a := by
  rw [List.getElem?_map] at h
  cases e : as[i]? with
  | none => rw [e] at h; cases h
  | some x => rw [e] at h; exact ⟨x, rfl, (Option.some.inj h).symm⟩
theorem cutV_tail (xs : List V) (k : Nat) : cutV xs (some (k : Int)) none = xs.drop k := by
  unfold cutV
  rw [HT.sIx_none, HT.sIx_nat]
  by_cases h : k ≤ xs.length
  · rw [Nat.min_eq_left h, List.take_of_length_le (by rw [List.length_drop]; exact Nat.le_refl _)]
  · rw [Nat.min_eq_right (by omega), List.drop_of_length_le (Nat.le_refl _), List.drop_of_length_le (by omega), List.take_nil]
end Fo
namespace Fo
open PySem PySem.Spec PyProof.Rows L2
/-! ### sums -/
def ind (b : Bool) : Nat := if b then 1 else 0
def sumN (l : List Int) (f : Int → Nat) : Nat := (l.map f).sum
theorem sumN_nil (f : Int → Nat) : sumN [] f = 0 := rfl
theorem sumN_cons (a : Int) (l : List Int) (f : Int → Nat) : sumN (a :: l) f = f a + sumN l f := by
  unfold sumN
  rw [List.map_cons, List.sum_cons]
theorem sumN_append (l m : List Int) (f : Int → Nat) : sumN (l ++ m) f = sumN l f + sumN m f := by
  unfold sumN
  rw [List.map_append, List.sum_append]
theorem sumN_perm {l m : List Int} (h : l.Perm m) (f : Int → Nat) : sumN l f = sumN m f := by
  induction h with
  | nil => rfl
  | cons x _ ih => rw [sumN_cons, sumN_cons, ih]
  | swap x y l => rw [sumN_cons, sumN_cons, sumN_cons, sumN_cons]; omega
  | trans _ _ h1 h2 => exact h1.trans h2
theorem sumN_congr {l : List Int} {f g : Int → Nat} (h : ∀ x ∈ l, f x = g x) : sumN l f = sumN l g := by
  unfold sumN
  rw [List.map_congr_left h]
theorem sumN_map (l : List Int) (g : Int → Int) (f : Int → Nat) : sumN (l.map g) f = sumN l (fun x => f (g x)) := by
  unfold sumN
  rw [List.map_map]
  rfl
theorem sumN_zero {l : List Int} {f : Int → Nat} (h : ∀ x ∈ l, f x = 0) : sumN l f = 0 := by
  rw [sumN_congr h]
  induction l with
  | nil => rfl
  | cons a l ih => rw [sumN_cons, ih fun x hx => h x (List.mem_cons_of_mem _ hx)]
theorem sumN_add (l : List Int) (f g : Int → Nat) : sumN l (fun x => f x + g x) = sumN l f + sumN l g := by
  induction l with
  | nil => rfl
  | cons a l ih => rw [sumN_cons, sumN_cons, sumN_cons, ih]; omega
theorem sumN_swap (l m : List Int) (f : Int → Int → Nat) : sumN l (fun i => sumN m (fun j => f i j)) = sumN m (fun j => sumN l (fun i => f i j)) := by
  induction l with
  | nil => exact (sumN_zero fun x _ => rfl).symm
  | cons a l ih =>
    rw [sumN_cons, ih, ← sumN_add]
    exact sumN_congr fun x _ => by rw [sumN_cons]
theorem filter_len (l : List Int) (p : Int → Bool) : (l.filter p).length = sumN l (fun x => ind (p x)) := by
  induction l with
  | nil => rfl
  | cons a l ih =>
    rw [sumN_cons, List.filter_cons]
    unfold ind at ih ⊢
    cases p a
    · simp only [Bool.false_eq_true, if_false]; omega
    · simp only [if_true, List.length_cons]; omega
/-! ### a list by its places -/
def g0 (s : List Int) (i : Int) : Int := s.getD i.toNat 0
theorem g0_at {s : List Int} {i : Nat} {x : Int} (h : s[i]? = some x) : g0 s (i : Int) = x := by
  unfold g0
  rw [Int.toNat_natCast, List.getD_eq_getElem?_getD, h]
  rfl
theorem by_places (s : List Int) : s = (rg s.length).map (g0 s) := by
  apply List.ext_getElem?
  intro i
  unfold rg
  rw [List.getElem?_map, List.getElem?_map]
  by_cases h : i < s.length
  · rw [List.getElem?_range h, List.getElem?_eq_getElem h]
    show some s[i] = some (g0 s (i : Int))
    rw [g0_at (List.getElem?_eq_getElem h)]
  · rw [List.getElem?_eq_none (by omega), List.getElem?_eq_none (by rw [List.length_range]; omega)]
    rfl
theorem rg_succ (n : Nat) : rg (n + 1) = rg n ++ [(n : Int)] := by
  unfold rg
  rw [List.range_succ, List.map_append]
  rfl
/-- how many of the later ones are less -/
def cntL (s : List Int) (i : Nat) : Nat := ((s.drop (i + 1)).filter (fun x => decide (x < g0 s i))).length
def invF (n : Nat) (a : Int → Int) : Nat := sumN (rg n) fun i => sumN (rg n) fun j => ind (decide (i < j) && decide (a j < a i))
def invN (s : List Int) : Nat := sumN (rg s.length) fun i => cntL s i.toNat
theorem drop_sum (n i : Nat) (f : Int → Nat) : sumN ((rg n).drop (i + 1)) f = sumN (rg n) fun j => if (i : Int) < j then f j else 0 := by
  induction n with
  | zero => rfl
  | succ n ih =>
    rw [rg_succ, sumN_append, ← ih, List.drop_append, sumN_append, rg_len]
    congr 1
    by_cases h : i + 1 ≤ n
    · rw [show i + 1 - n = 0 by omega, List.drop_zero, sumN_cons, sumN_cons, sumN_nil, sumN_nil, if_pos (by omega)]
    · rw [show i + 1 - n = (i - n) + 1 by omega, List.drop_succ_cons, List.drop_nil, sumN_cons, sumN_nil, sumN_nil, if_neg (by omega)]
theorem cnt_sum (s : List Int) (i : Nat) : cntL s i = sumN (rg s.length) fun j => ind (decide ((i : Int) < j) && decide (g0 s j < g0 s i)) := by
  unfold cntL
  rw [filter_len]
  have e : s.drop (i + 1) = ((rg s.length).drop (i + 1)).map (g0 s) := by
    rw [List.map_drop, ← by_places]
  rw [e, sumN_map, drop_sum]
  apply sumN_congr
  intro j _
  unfold ind
  by_cases h : (i : Int) < j
  · simp [h]
  · simp [h]
theorem inv_eq (s : List Int) : invN s = invF s.length (g0 s) := by
  unfold invN invF
  apply sumN_congr
  intro i hi
  have := rg_mem.mp hi
  rw [cnt_sum, Int.toNat_of_nonneg this.1]
/-! ### places of things -/
def pos (ys : List Int) (x : Int) : Int := ((ys.idxOf x : Nat) : Int)
def seatsL (xs ys : List Int) : List Int := xs.map (pos ys)
theorem pos_of {n : Nat} {ys : List Int} (o : IsOrd n ys) {j : Nat} {x : Int} (h : ys[j]? = some x) : pos ys x = (j : Int) := by
  obtain ⟨hj, e⟩ := List.getElem?_eq_some_iff.mp h
  have m : x ∈ ys := List.mem_of_getElem? h
  have hi : ys.idxOf x < ys.length := List.idxOf_lt_length_iff.mpr m
  have h2 : ys[ys.idxOf x]? = some x := by
    rw [List.getElem?_eq_getElem hi]
    exact congrArg some (List.getElem_idxOf hi)
  unfold pos
  rw [nd_ix o.nodup h2 h]
theorem pos_at {n : Nat} {ys : List Int} (o : IsOrd n ys) {x : Int} (h0 : 0 ≤ x) (h1 : x < n) : ∃ j : Nat, j < n ∧ ys[j]? = some x ∧ pos ys x = (j : Int) := by
  obtain ⟨j, hj, e⟩ := ord_at o (t := x.toNat) (by omega)
  rw [Int.toNat_of_nonneg h0] at e
  exact ⟨j, hj, e, pos_of o e⟩
theorem back_pos {n : Nat} {ys ps : List Int} (o : IsOrd n ys) (h : IsBack ys ps) {x : Int} (h0 : 0 ≤ x) (h1 : x < n) : ps[x.toNat]? = some (pos ys x) := by
  obtain ⟨j, hj, e, ep⟩ := pos_at o h0 h1
  rw [ep]
  exact h.2 j x e
theorem seats_len (xs ys : List Int) : (seatsL xs ys).length = xs.length := by
  unfold seatsL
  rw [List.length_map]
theorem seats_at {xs ys : List Int} {i : Nat} {x : Int} (h : xs[i]? = some x) : (seatsL xs ys)[i]? = some (pos ys x) := by
  unfold seatsL
  rw [List.getElem?_map, h]
  rfl
theorem seats_self {n : Nat} {ys : List Int} (o : IsOrd n ys) : seatsL ys ys = rg n := by
  apply List.ext_getElem?
  intro i
  by_cases h : i < n
  · obtain ⟨x, hx, _⟩ := ord_ix o h
    rw [seats_at hx, pos_of o hx]
    unfold rg
    rw [List.getElem?_map, List.getElem?_range h]
    rfl
  · rw [List.getElem?_eq_none (by rw [seats_len, o.len]; omega), List.getElem?_eq_none (by rw [rg_len]; omega)]
theorem seats_ord {n : Nat} {xs ys : List Int} (ox : IsOrd n xs) (oy : IsOrd n ys) : IsOrd n (seatsL xs ys) := by
  have h : (seatsL xs ys).Perm (seatsL ys ys) := List.Perm.map _ (ox.trans oy.symm)
  rw [seats_self oy] at h
  exact h
theorem g0_ord {n : Nat} {s : List Int} (o : IsOrd n s) : s = (rg n).map (g0 s) := by
  have e := by_places s
  rw [o.len] at e
  exact e
/-- inversions from the other side -/
theorem inv_turn {n : Nat} {s t : List Int} (os : IsOrd n s) (ot : IsOrd n t) (h : ∀ u ∈ rg n, g0 s (g0 t u) = u) : invN s = invN t := by
  rw [inv_eq, inv_eq, os.len, ot.len]
  unfold invF
  have p1 : ∀ f : Int → Nat, sumN (rg n) f = sumN (rg n) fun u => f (g0 t u) := fun f => by
    have e : sumN ((rg n).map (g0 t)) f = sumN (rg n) fun u => f (g0 t u) := sumN_map _ _ _
    rw [← e, ← g0_ord ot]
    exact (sumN_perm ot f).symm
  rw [p1]
  rw [sumN_congr (g := fun u => sumN (rg n) fun v => ind (decide (g0 t u < g0 t v) && decide (v < u))) (fun u hu => by
    rw [p1]
    exact sumN_congr fun v hv => by rw [h u hu, h v hv])]
  rw [sumN_swap]
  apply sumN_congr
  intro v _
  apply sumN_congr
  intro u _
  rw [Bool.and_comm]
theorem seats_turn {n : Nat} {xs ys : List Int} (ox : IsOrd n xs) (oy : IsOrd n ys) : ∀ u ∈ rg n, g0 (seatsL xs ys) (g0 (seatsL ys xs) u) = u := by
  intro u hu
  have hb := rg_mem.mp hu
  obtain ⟨y, hy, y0, y1⟩ := ord_ix oy (j := u.toNat) (by omega)
  have e1 : g0 (seatsL ys xs) u = pos xs y := by
    have := g0_at (seats_at (ys := xs) hy)
    rw [Int.toNat_of_nonneg hb.1] at this
    exact this
  obtain ⟨j, hj, ej, pj⟩ := pos_at ox y0 y1
  rw [e1, pj, g0_at (seats_at (ys := ys) ej), pos_of oy hy]
  omega
/-! ### how far two orders are -/
def farSwap (xs ys : List Int) : Int := ((invN (seatsL xs ys) : Nat) : Int)
def spotL (xs ys : List Int) : List Int := (rg xs.length).filter fun p => !decide (g0 xs p = g0 ys p)
def farSpot (xs ys : List Int) : Int := (((spotL xs ys).length : Nat) : Int)
def absI (i : Int) : Int := if i < 0 then -i else i
def gapsL (xs ys : List Int) : List Int := (rg xs.length).map fun p => absI (p - g0 (seatsL xs ys) p)
def maxL (l : List Int) : Int := l.foldr max 0
def farShift (xs ys : List Int) : Int := maxL (gapsL xs ys)
theorem maxL_of : ∀ {l : List Int} {m : Int}, (∀ x ∈ l, 0 ≤ x) → m ∈ l → (∀ x ∈ l, x ≤ m) → maxL l = m := by
  intro l m h0 hm hle
  have key : ∀ l : List Int, (∀ x ∈ l, x ≤ m) → maxL l ≤ m := by
    intro l hl
    induction l with
    | nil => exact h0 m hm
    | cons a l ih =>
      show max a (maxL l) ≤ m
      have h1 := hl a List.mem_cons_self
      have h2 := ih fun x hx => hl x (List.mem_cons_of_mem _ hx)
      omega
  have key2 : ∀ l : List Int, ∀ x ∈ l, x ≤ maxL l := by
    intro l
    induction l with
    | nil => intro x hx; exact absurd hx List.not_mem_nil
    | cons a l ih =>
      intro x hx
      show x ≤ max a (maxL l)
      rcases List.mem_cons.mp hx with rfl | hx
      · omega
      · have := ih x hx
        omega
  have := key l hle
  have := key2 l m hm
  omega
theorem gaps_nonneg (xs ys : List Int) : ∀ x ∈ gapsL xs ys, 0 ≤ x := by
  intro x hx
  obtain ⟨p, _, rfl⟩ := List.mem_map.mp hx
  unfold absI
  split <;> omega
theorem maxL_mem {l : List Int} (h0 : ∀ x ∈ l, 0 ≤ x) (hl : 0 < l.length) : maxL l ∈ l ∧ ∀ x ∈ l, x ≤ maxL l := by
  induction l with
  | nil => exact absurd hl (Nat.lt_irrefl _)
  | cons a l ih =>
    show max a (maxL l) ∈ a :: l ∧ ∀ x ∈ a :: l, x ≤ max a (maxL l)
    by_cases c : 0 < l.length
    · obtain ⟨h1, h2⟩ := ih (fun x hx => h0 x (List.mem_cons_of_mem _ hx)) c
      constructor
      · by_cases d : maxL l ≤ a
        · rw [Int.max_eq_left d]
          exact List.mem_cons_self
        · rw [Int.max_eq_right (by omega)]
          exact List.mem_cons_of_mem _ h1
      · intro x hx
        rcases List.mem_cons.mp hx with rfl | hx
        · omega
        · have := h2 x hx
          omega
    · have e : l = [] := List.eq_nil_of_length_eq_zero (by omega)
      subst e
      have := h0 a List.mem_cons_self
      have e2 : max a (maxL []) = a := by show max a 0 = a; omega
      rw [e2]
      exact ⟨List.mem_cons_self, fun x hx => by rw [List.mem_singleton.mp hx]; exact Int.le_refl _⟩
theorem farSwap_turn {n : Nat} {xs ys : List Int} (ox : IsOrd n xs) (oy : IsOrd n ys) : farSwap ys xs = farSwap xs ys := by
  unfold farSwap
  rw [inv_turn (seats_ord ox oy) (seats_ord oy ox) (seats_turn ox oy)]
theorem inv_rg (n : Nat) : invN (rg n) = 0 := by
  rw [inv_eq]
  unfold invF
  apply sumN_zero
  intro i hi
  apply sumN_zero
  intro j hj
  rw [rg_len] at hi hj
  have hi2 := rg_mem.mp hi
  have hj2 := rg_mem.mp hj
  have e : ∀ k : Int, k ∈ rg n → g0 (rg n) k = k := fun k hk => by
    have := rg_mem.mp hk
    have z : (rg n)[k.toNat]? = some k := by
      unfold rg
      rw [List.getElem?_map, List.getElem?_range (by omega)]
      show some ((k.toNat : Nat) : Int) = some k
      rw [Int.toNat_of_nonneg this.1]
    have z2 := g0_at z
    rw [Int.toNat_of_nonneg this.1] at z2
    exact z2
  rw [e i hi, e j hj]
  unfold ind
  by_cases c : i < j
  · have d : ¬ j < i := by omega
    simp [c, d]
  · simp [c]
theorem farSwap_self {n : Nat} {xs : List Int} (ox : IsOrd n xs) : farSwap xs xs = 0 := by
  unfold farSwap
  rw [seats_self ox, inv_rg]
  rfl
theorem farSpot_turn {xs ys : List Int} (h : xs.length = ys.length) : farSpot ys xs = farSpot xs ys := by
  unfold farSpot spotL
  rw [h]
  congr 3
  funext p
  congr 1
  by_cases c : g0 ys p = g0 xs p
  · rw [decide_eq_true c, decide_eq_true c.symm]
  · rw [decide_eq_false c, decide_eq_false fun e => c e.symm]
theorem farSpot_self (xs : List Int) : farSpot xs xs = 0 := by
  unfold farSpot spotL
  have e : ((rg xs.length).filter fun p => !decide (g0 xs p = g0 xs p)) = [] := by
    rw [List.filter_eq_nil_iff]
    intro a _
    simp
  rw [e]
  rfl
theorem gaps_len (xs ys : List Int) : (gapsL xs ys).length = xs.length := by
  unfold gapsL
  rw [List.length_map, rg_len]
theorem gaps_sub {n : Nat} {xs ys : List Int} (ox : IsOrd n xs) (oy : IsOrd n ys) : ∀ g ∈ gapsL ys xs, g ∈ gapsL xs ys := by
  intro g hg
  obtain ⟨u, hu, rfl⟩ := List.mem_map.mp hg
  rw [oy.len] at hu
  have hb := (seats_ord oy ox).mem (x := g0 (seatsL ys xs) u) (by
    have e := g0_ord (seats_ord oy ox)
    rw [e]
    exact List.mem_map.mpr ⟨u, hu, by rw [← e]⟩)
  refine List.mem_map.mpr ⟨g0 (seatsL ys xs) u, by rw [ox.len]; exact rg_mem.mpr hb, ?_⟩
  rw [seats_turn ox oy u hu]
  unfold absI
  split <;> split <;> omega
theorem farShift_turn {n : Nat} {xs ys : List Int} (ox : IsOrd n xs) (oy : IsOrd n ys) (hn : 1 ≤ n) : farShift ys xs = farShift xs ys := by
  unfold farShift
  obtain ⟨h1, h2⟩ := maxL_mem (gaps_nonneg xs ys) (by rw [gaps_len, ox.len]; exact hn)
  exact maxL_of (gaps_nonneg ys xs) (gaps_sub oy ox _ h1) fun x hx => h2 x (gaps_sub ox oy x hx)
theorem farShift_self {n : Nat} {xs : List Int} (ox : IsOrd n xs) (hn : 1 ≤ n) : farShift xs xs = 0 := by
  unfold farShift
  have z : ∀ g ∈ gapsL xs xs, g = 0 := by
    intro g hg
    obtain ⟨u, hu, rfl⟩ := List.mem_map.mp hg
    rw [ox.len] at hu
    have hb := rg_mem.mp hu
    rw [seats_self ox]
    have e : (rg n)[u.toNat]? = some u := by
      unfold rg
      rw [List.getElem?_map, List.getElem?_range (by omega)]
      show some ((u.toNat : Nat) : Int) = some u
      rw [Int.toNat_of_nonneg hb.1]
    have z2 := g0_at e
    rw [Int.toNat_of_nonneg hb.1] at z2
    rw [z2]
    unfold absI
    split <;> omega
  obtain ⟨h1, _⟩ := maxL_mem (gaps_nonneg xs xs) (by rw [gaps_len, ox.len]; exact hn)
  exact z _ h1
end Fo
namespace Fo
open PySem PySem.Spec PyProof.Rows L2
theorem pos_ord {n : Nat} {xs : List Int} (o : IsOrd n xs) : IsOrd n ((rg n).map (pos xs)) := by
  have h : ((rg n).map (pos xs)).Perm (seatsL xs xs) := List.Perm.map _ o.symm
  rw [seats_self o] at h
  exact h
theorem pos_in {n : Nat} {xs : List Int} (o : IsOrd n xs) {t : Int} (h : t ∈ rg n) : pos xs t ∈ rg n := by
  have := (pos_ord o).mem (List.mem_map.mpr ⟨t, h, rfl⟩)
  exact rg_mem.mpr this
theorem pos_inj {n : Nat} {xs : List Int} (o : IsOrd n xs) {t u : Int} (ht : t ∈ rg n) (hu : u ∈ rg n) (e : pos xs t = pos xs u) : t = u := by
  have h1 := rg_mem.mp ht
  have h2 := rg_mem.mp hu
  obtain ⟨i, _, ei, pi⟩ := pos_at o h1.1 h1.2
  obtain ⟨j, _, ej, pj⟩ := pos_at o h2.1 h2.2
  have : i = j := by omega
  subst this
  exact Option.some.inj (ei.symm.trans ej)
/-- a sum over the places is a sum over the things -/
theorem sum_pos {n : Nat} {xs : List Int} (o : IsOrd n xs) (f : Int → Nat) : sumN (rg n) f = sumN (rg n) fun t => f (pos xs t) := by
  have e : sumN ((rg n).map (pos xs)) f = sumN (rg n) fun t => f (pos xs t) := sumN_map _ _ _
  rw [← e]
  exact (sumN_perm (pos_ord o) f).symm
theorem sum_g0 {n : Nat} {xs : List Int} (o : IsOrd n xs) (f : Int → Nat) : sumN (rg n) f = sumN (rg n) fun p => f (g0 xs p) := by
  have e : sumN ((rg n).map (g0 xs)) f = sumN (rg n) fun t => f (g0 xs t) := sumN_map _ _ _
  rw [← e, ← g0_ord o]
  exact (sumN_perm o f).symm
theorem g0_pos {n : Nat} {xs : List Int} (o : IsOrd n xs) {t : Int} (h : t ∈ rg n) : g0 xs (pos xs t) = t := by
  have h1 := rg_mem.mp h
  obtain ⟨j, _, ej, pj⟩ := pos_at o h1.1 h1.2
  rw [pj]
  exact g0_at ej
theorem pos_g0 {n : Nat} {xs : List Int} (o : IsOrd n xs) {p : Int} (h : p ∈ rg n) : pos xs (g0 xs p) = p := by
  have h1 := rg_mem.mp h
  obtain ⟨x, hx, _⟩ := ord_ix o (j := p.toNat) (by omega)
  have e := g0_at hx
  rw [Int.toNat_of_nonneg h1.1] at e
  rw [e, pos_of o hx]
  omega
theorem g0_in {n : Nat} {xs : List Int} (o : IsOrd n xs) {p : Int} (h : p ∈ rg n) : g0 xs p ∈ rg n := by
  have h1 := rg_mem.mp h
  obtain ⟨x, hx, x0, x1⟩ := ord_ix o (j := p.toNat) (by omega)
  have e := g0_at hx
  rw [Int.toNat_of_nonneg h1.1] at e
  rw [e]
  exact rg_mem.mpr ⟨x0, x1⟩
end Fo
namespace Fo
open PySem PySem.Spec PyProof.Rows L2
/-! ### all orders of few things -/
def extO (n : Nat) (o : List Int) : List (List Int) := ((rg n).filter fun t => !decide (t ∈ o)).map fun t => o ++ [t]
def allK (n : Nat) : Nat → List (List Int)
  | 0 => [[]]
  | k + 1 => (allK n k).flatMap (extO n)
theorem allK_row {n : Nat} : ∀ (k : Nat) (r : List Int), r ∈ allK n k → r.length = k ∧ r.Nodup ∧ ∀ x ∈ r, x ∈ rg n
  | 0, r, h => by
    rw [List.mem_singleton.mp h]
    exact ⟨rfl, List.nodup_nil, fun x hx => absurd hx List.not_mem_nil⟩
  | k + 1, r, h => by
    obtain ⟨o, ho, hr⟩ := List.mem_flatMap.mp h
    obtain ⟨h1, h2, h3⟩ := allK_row k o ho
    obtain ⟨t, ht, rfl⟩ := List.mem_map.mp hr
    obtain ⟨ht1, ht2⟩ := List.mem_filter.mp ht
    have hto : t ∉ o := by simpa using ht2
    refine ⟨by rw [List.length_append, h1]; rfl, ?_, fun x hx => ?_⟩
    · rw [List.nodup_append]
      refine ⟨h2, List.nodup_cons.mpr ⟨List.not_mem_nil, List.nodup_nil⟩, fun x hx y hy e => ?_⟩
      rw [List.mem_singleton.mp hy] at e
      exact hto (by rw [← e]; exact hx)
    · rcases List.mem_append.mp hx with hx | hx
      · exact h3 x hx
      · rw [List.mem_singleton.mp hx]
        exact ht1
theorem extO_len (n : Nat) (o : List Int) : (extO n o).length ≤ n := by
  unfold extO
  rw [List.length_map]
  have := List.length_filter_le (fun t => !decide (t ∈ o)) (rg n)
  rw [rg_len] at this
  exact this
theorem flat_len (n : Nat) : ∀ l : List (List Int), (l.flatMap (extO n)).length ≤ l.length * n
  | [] => Nat.zero_le _
  | o :: l => by
    rw [List.flatMap_cons, List.length_append, List.length_cons, Nat.add_mul, Nat.one_mul]
    have := flat_len n l
    have := extO_len n o
    omega
theorem allK_len {n : Nat} (hn : n ≤ 6) : ∀ k, k ≤ n → (allK n k).length ≤ 6 ^ k
  | 0, _ => Nat.le_refl _
  | k + 1, hk => by
    have ih := allK_len hn k (by omega)
    have h1 : (allK n (k + 1)).length ≤ (allK n k).length * n := flat_len n (allK n k)
    have h2 : (allK n k).length * n ≤ 6 ^ k * 6 := Nat.mul_le_mul ih hn
    rw [Nat.pow_succ]
    omega
theorem pow6 {k : Nat} (h : k ≤ 6) : 6 ^ k ≤ 46656 := by
  have : 6 ^ k ≤ 6 ^ 6 := Nat.pow_le_pow_right (by decide) h
  exact this
theorem nodup_count : ∀ {l : List Int}, l.Nodup → ∀ a, l.count a = if a ∈ l then 1 else 0
  | [], _, a => by simp
  | b :: l, h, a => by
    obtain ⟨h1, h2⟩ := List.nodup_cons.mp h
    have ih := nodup_count h2 a
    rw [List.count_cons, ih]
    by_cases c : b = a
    · subst c
      simp [h1]
    · have c2 : ¬ a = b := fun e => c e.symm
      simp [c, c2]
theorem nodup_ord {n : Nat} {s : List Int} (hl : s.length = n) (hn : s.Nodup) (hb : ∀ x ∈ s, x ∈ rg n) : IsOrd n s := by
  unfold IsOrd
  rw [List.perm_iff_count]
  intro a
  rw [nodup_count hn, nodup_count (rg_nodup n)]
  by_cases c : a ∈ s
  · rw [if_pos c, if_pos (hb a c)]
  · rw [if_neg c]
    by_cases d : a ∈ rg n
    · exfalso
      have := nodup_len (l := a :: s) (m := rg n) (List.nodup_cons.mpr ⟨c, hn⟩) fun x hx => by
        rcases List.mem_cons.mp hx with rfl | hx
        · exact d
        · exact hb x hx
      rw [List.length_cons, rg_len] at this
      omega
    · rw [if_neg d]
theorem all_ord {n : Nat} {r : List Int} (h : r ∈ allK n n) : IsOrd n r := by
  obtain ⟨h1, h2, h3⟩ := allK_row n r h
  exact nodup_ord h1 h2 h3
theorem inV_int (t : Int) : ∀ row : List Int, inV (.int t) (row.map V.int) = decide (t ∈ row)
  | [] => rfl
  | a :: r => by
    have ih := inV_int t r
    unfold inV at ih ⊢
    rw [List.map_cons, List.any_cons, ih, eqV_int]
    by_cases c : a = t
    · subst c
      simp
    · have c2 : ¬ t = a := fun e => c e.symm
      simp [c, c2]
theorem ext_more {n : Nat} {o : List Int} (j : Nat) : ((rg (j + 1)).filter fun t => !decide (t ∈ o)).map (fun t => o ++ [t]) = (((rg j).filter fun t => !decide (t ∈ o)).map fun t => o ++ [t]) ++ (if (j : Int) ∈ o then [] else [o ++ [(j : Int)]]) := by
  rw [rg_succ, List.filter_append, List.map_append, List.filter_cons]
  congr 1
  by_cases c : (j : Int) ∈ o
  · rw [decide_eq_true c, if_pos c]
    rfl
  · rw [decide_eq_false c, if_neg c]
    rfl
/-! ### comprehensions with two fors: a list, then a range -/
theorem lc2_list {K : PySem.W.Frag} {a : Addr} {xs : List V} {g : TG} {tt : TT} {wi1 : TI} {g1 : TG} {tt1 : TT} {te : TE} {vs vs1 : List Nat} {σ : L2.St} {H1 : Hp} {D : Addr} {Qd : Hp → Prop} (Pv : Nat → Hp → Prop) (h0 : Pv 0 (upd H1 D (.lst []))) (hl : ∀ i H, i ≤ xs.length → Pv i H → SqL K H a xs)
    (hs : ∀ i x H, xs[i]? = some x → Pv i H → g x (wipe σ vs) H fun σ2 H2 => wipe σ2 vs = wipe σ vs ∧ tt σ2 H2 fun b H3 =>
      if b = true then wi1 σ2 H3 fun J1 H4 => ∃ W1 : Nat → Nat → Hp → Prop, (∃ m, W1 0 m H4) ∧ ∀ j k H, W1 j k H →
        (J1.stop j H ∧ Pv (i + 1) H) ∨ (J1.go j H ∧ ∃ Nx1 : Hp → Prop, (∀ H', Nx1 H' → ∃ k', k' < k ∧ W1 (j + 1) k' H') ∧ ∀ x H', J1.yld j H x H' → g1 x (wipe σ2 vs1) H' fun σ3 H5 => wipe σ3 vs1 = wipe σ2 vs1 ∧ tt1 σ3 H5 fun b H6 =>
          if b = true then te σ3 H6 fun y H7 => ∃ acc, H7 D = some (.lst acc) ∧ acc.length < sizeLine ∧ Nx1 (upd H7 D (.lst (acc ++ [y]))) else Nx1 H6)
      else Pv (i + 1) H3) (hd : ∀ H, Pv xs.length H → Qd H) :
    ∃ W : Nat → Nat → Hp → Prop, (∃ m, W 0 m (upd H1 D (.lst []))) ∧ ∀ i m H, W i m H →
      ((Itl K a).stop i H ∧ Qd H) ∨ ((Itl K a).go i H ∧ ∃ Nx : Hp → Prop, (∀ H', Nx H' → ∃ m', m' < m ∧ W (i + 1) m' H') ∧ ∀ x H', (Itl K a).yld i H x H' → g x (wipe σ vs) H' fun σ2 H2 => wipe σ2 vs = wipe σ vs ∧ tt σ2 H2 fun b H3 =>
        if b = true then wi1 σ2 H3 fun J1 H4 => ∃ W1 : Nat → Nat → Hp → Prop, (∃ m, W1 0 m H4) ∧ ∀ j k H, W1 j k H →
          (J1.stop j H ∧ Nx H) ∨ (J1.go j H ∧ ∃ Nx1 : Hp → Prop, (∀ H', Nx1 H' → ∃ k', k' < k ∧ W1 (j + 1) k' H') ∧ ∀ x H', J1.yld j H x H' → g1 x (wipe σ2 vs1) H' fun σ3 H5 => wipe σ3 vs1 = wipe σ2 vs1 ∧ tt1 σ3 H5 fun b H6 =>
            if b = true then te σ3 H6 fun y H7 => ∃ acc, H7 D = some (.lst acc) ∧ acc.length < sizeLine ∧ Nx1 (upd H7 D (.lst (acc ++ [y]))) else Nx1 H6)
        else Nx H3) := by
  refine ⟨fun i m H => m = xs.length - i ∧ i ≤ xs.length ∧ Pv i H, ⟨xs.length, by simp, Nat.zero_le _, h0⟩, ?_⟩
  rintro i m H ⟨rfl, hi, p⟩
  have q := hl i H hi p
  by_cases hlt : i < xs.length
  · refine .inr ⟨⟨xs, xs[i], q, by simp [hlt]⟩, Pv (i + 1), fun H' p' => ⟨xs.length - (i + 1), by omega, rfl, hlt, p'⟩, fun x H' y => ?_⟩
    obtain ⟨e, y⟩ := y
    subst e
    exact hs i x _ (y _ q) p
  · have e : i = xs.length := by omega
    subst e
    exact .inl ⟨⟨xs, q, Nat.le_refl _⟩, hd H p⟩
theorem in_range {lo : Int} {n : Nat} {g1 : TG} {tt1 : TT} {te : TE} {vs1 : List Nat} {σ2 : L2.St} {H4 : Hp} {D : Addr} {Nx : Hp → Prop} (Pw : Nat → Hp → Prop) (h0 : Pw 0 H4)
    (hs : ∀ j H, j < n → Pw j H → g1 (.int (lo + j)) (wipe σ2 vs1) H fun σ3 H5 => wipe σ3 vs1 = wipe σ2 vs1 ∧ tt1 σ3 H5 fun b H6 =>
      if b = true then te σ3 H6 fun y H7 => ∃ acc, H7 D = some (.lst acc) ∧ acc.length < sizeLine ∧ Pw (j + 1) (upd H7 D (.lst (acc ++ [y]))) else Pw (j + 1) H6) (hd : ∀ H, Pw n H → Nx H) :
    ∃ W1 : Nat → Nat → Hp → Prop, (∃ m, W1 0 m H4) ∧ ∀ j k H, W1 j k H →
      ((Itr lo n).stop j H ∧ Nx H) ∨ ((Itr lo n).go j H ∧ ∃ Nx1 : Hp → Prop, (∀ H', Nx1 H' → ∃ k', k' < k ∧ W1 (j + 1) k' H') ∧ ∀ x H', (Itr lo n).yld j H x H' → g1 x (wipe σ2 vs1) H' fun σ3 H5 => wipe σ3 vs1 = wipe σ2 vs1 ∧ tt1 σ3 H5 fun b H6 =>
        if b = true then te σ3 H6 fun y H7 => ∃ acc, H7 D = some (.lst acc) ∧ acc.length < sizeLine ∧ Nx1 (upd H7 D (.lst (acc ++ [y]))) else Nx1 H6) := by
  refine ⟨fun j m H => m = n - j ∧ j ≤ n ∧ Pw j H, ⟨n, by simp, Nat.zero_le _, h0⟩, ?_⟩
  rintro j m H ⟨rfl, hi, p⟩
  by_cases hlt : j < n
  · refine .inr ⟨hlt, Pw (j + 1), fun H' p' => ⟨n - (j + 1), by omega, rfl, hlt, p'⟩, fun x H' y => ?_⟩
    obtain ⟨e, y⟩ := y
    subst e y
    exact hs j _ hlt p
  · have e : j = n := by omega
    subst e
    exact .inl ⟨Nat.le_refl _, hd H p⟩
end Fo
namespace Fo
open PySem PySem.Spec PyProof.Rows L2
/-- all orders stand in order -/
theorem extO_sorted (n : Nat) (o : List Int) : (extO n o).Pairwise (· < ·) := by
  unfold extO
  rw [List.pairwise_map]
  have h : (rg n).Pairwise (· < ·) := by
    unfold rg
    exact List.Pairwise.map _ (fun a b h => by omega) List.pairwise_lt_range
  exact (h.filter _).imp fun {a b} h => by
    induction o with
    | nil => exact List.cons_lt_cons_iff.mpr (.inl h)
    | cons x o ih => exact List.cons_lt_cons_iff.mpr (.inr ⟨rfl, ih⟩)
theorem lt_snoc {a b : List Int} (hl : a.length = b.length) (h : a < b) (x y : Int) : a ++ [x] < b ++ [y] := by
  induction a generalizing b with
  | nil =>
    match b, hl with
    | [], _ => exact absurd h (List.lt_irrefl _)
  | cons u a ih =>
    match b, hl with
    | v :: b, hl =>
      rcases List.cons_lt_cons_iff.mp h with h1 | ⟨h1, h2⟩
      · exact List.cons_lt_cons_iff.mpr (.inl h1)
      · exact List.cons_lt_cons_iff.mpr (.inr ⟨h1, ih (by simpa using hl) h2⟩)
theorem allK_sorted {n : Nat} : ∀ k, (allK n k).Pairwise (· < ·)
  | 0 => List.pairwise_singleton _ _
  | k + 1 => by
    show List.Pairwise _ ((allK n k).flatMap (extO n))
    rw [List.pairwise_flatMap]
    refine ⟨fun o _ => extO_sorted n o, (allK_sorted k).imp_of_mem fun {a b} ha hb h x hx y hy => ?_⟩
    obtain ⟨t, _, rfl⟩ := List.mem_map.mp hx
    obtain ⟨u, _, rfl⟩ := List.mem_map.mp hy
    exact lt_snoc (by rw [(allK_row k a ha).1, (allK_row k b hb).1]) h t u
theorem allK_mem {n : Nat} : ∀ (k : Nat) (r : List Int), r.length = k → r.Nodup → (∀ x ∈ r, x ∈ rg n) → r ∈ allK n k
  | 0, r, hl, _, _ => by rw [List.length_eq_zero_iff.mp hl]; exact List.mem_cons_self
  | k + 1, r, hl, hn, hs => by
    have hne : r ≠ [] := fun e => by rw [e] at hl; cases hl
    have e := List.dropLast_concat_getLast hne
    rw [← e] at hn hs ⊢
    rw [List.nodup_append] at hn
    have ih := allK_mem k r.dropLast (by rw [List.length_dropLast, hl]; rfl) hn.1 fun x hx => hs x (List.mem_append.mpr (.inl hx))
    refine List.mem_flatMap.mpr ⟨_, ih, List.mem_map.mpr ⟨r.getLast hne, List.mem_filter.mpr ⟨hs _ (List.mem_append.mpr (.inr (List.mem_singleton.mpr rfl))), ?_⟩, rfl⟩⟩
    rw [decide_eq_false (fun z => hn.2.2 _ z _ (List.mem_singleton.mpr rfl) rfl)]
    rfl
theorem ord_mem {n : Nat} {r : List Int} (o : IsOrd n r) : r ∈ allK n n := allK_mem n r o.len o.nodup fun x hx => rg_mem.mpr (o.mem hx)
end Fo
namespace Fo
open PySem PySem.Spec PyProof.Rows L2
/-! ### sets of things as numbers, the least cost of an order of a set -/
def tN (n S : Nat) : List Nat := (List.range n).filter fun t => S.testBit t
def tI (n S : Nat) : List Int := (tN n S).map fun t => ((t : Nat) : Int)
theorem bits_out : ∀ S < 512, ∀ t < 9, S.testBit t = true → ∀ u < 9, (S - 2 ^ t).testBit u = (S.testBit u && !(u == t)) := by decide +kernel
theorem bits_sub : ∀ S < 512, ∀ t < 9, S.testBit t = true → 2 ^ t ≤ S := by decide +kernel
theorem tI_full : ∀ n < 10, tI n (2 ^ n - 1) = rg n := by decide +kernel
theorem pow9 : ∀ n < 10, 2 ^ n ≤ 512 := by decide +kernel
theorem tI_mem {n S : Nat} {x : Int} : x ∈ tI n S ↔ ∃ t : Nat, t < n ∧ S.testBit t = true ∧ x = (t : Int) := by
  unfold tI tN
  rw [List.mem_map]
  constructor
  · rintro ⟨t, ht, rfl⟩
    obtain ⟨h1, h2⟩ := List.mem_filter.mp ht
    exact ⟨t, List.mem_range.mp h1, h2, rfl⟩
  · rintro ⟨t, h1, h2, rfl⟩
    exact ⟨t, List.mem_filter.mpr ⟨List.mem_range.mpr h1, h2⟩, rfl⟩
theorem tI_out {n S t : Nat} (hn : n < 10) (hS : S < 2 ^ n) (ht : t < n) (hb : S.testBit t = true) : (((t : Nat) : Int) :: tI n (S - 2 ^ t)).Perm (tI n S) := by
  have h9 := pow9 n hn
  have e : tN n (S - 2 ^ t) = (tN n S).erase t := by
    have hnd : (tN n S).Nodup := List.Pairwise.filter _ List.nodup_range
    rw [List.Nodup.erase_eq_filter hnd]
    unfold tN
    rw [List.filter_filter]
    apply List.filter_congr
    intro u hu
    have hu2 := List.mem_range.mp hu
    rw [bits_out S (by omega) t (by omega) hb u (by omega), Bool.and_comm]
    rfl
  have hm : t ∈ tN n S := List.mem_filter.mpr ⟨List.mem_range.mpr ht, hb⟩
  unfold tI
  rw [e]
  exact List.Perm.map (fun t : Nat => (t : Int)) (List.perm_cons_erase hm).symm
theorem tI_nil {n S : Nat} (hS : S < 2 ^ n) (h : tI n S = []) : S = 0 := by
  apply Nat.eq_of_testBit_eq
  intro i
  rw [Nat.zero_testBit]
  by_cases c : i < n
  · cases hb : S.testBit i with
    | false => rfl
    | true =>
      have : ((i : Nat) : Int) ∈ tI n S := tI_mem.mpr ⟨i, c, hb, rfl⟩
      rw [h] at this
      exact absurd this List.not_mem_nil
  · exact Nat.testBit_lt_two_pow (Nat.lt_of_lt_of_le hS (Nat.pow_le_pow_right (by decide) (by omega)))
/-- what an order costs: for each thing how often those behind it stand ahead of it -/
def cst (a : Int → Int → Int) : List Int → Int
  | [] => 0
  | t :: r => (r.map fun o => a o t).sum + cst a r
def swf (a : Int → Int → Int) (n : Nat) (ss : List Int) (t : Int) (S : Nat) : Int := ((tI n S).map fun o => a o t).sum + ss.getD (S - 2 ^ t.toNat) 0
structure IsSums (a : Int → Int → Int) (n : Nat) (ss : List Int) : Prop where
  z : ss.getD 0 0 = 0
  ex : ∀ S, 1 ≤ S → S < 2 ^ n → ∃ t ∈ tI n S, ss.getD S 0 = swf a n ss t S
  le : ∀ S, 1 ≤ S → S < 2 ^ n → ∀ t ∈ tI n S, ss.getD S 0 ≤ swf a n ss t S
theorem sum_perm {l m : List Int} (h : l.Perm m) : l.sum = m.sum := by
  induction h with
  | nil => rfl
  | cons x _ ih => rw [List.sum_cons, List.sum_cons, ih]
  | swap x y l => simp only [List.sum_cons]; omega
  | trans _ _ h1 h2 => exact h1.trans h2
theorem swf_out {a : Int → Int → Int} (h0 : ∀ t, a t t = 0) {n S t : Nat} {ss : List Int} (hn : n < 10) (hS : S < 2 ^ n) (ht : t < n) (hb : S.testBit t = true) : swf a n ss t S = ((tI n (S - 2 ^ t)).map fun o => a o t).sum + ss.getD (S - 2 ^ t) 0 := by
  unfold swf
  rw [← sum_perm (List.Perm.map (fun o => a o (t : Int)) (tI_out hn hS ht hb)), List.map_cons, List.sum_cons, h0, Int.toNat_natCast]
  omega
theorem cst_low {a : Int → Int → Int} (h0 : ∀ t, a t t = 0) {n : Nat} {ss : List Int} (hn : n < 10) (hs : IsSums a n ss) : ∀ (o : List Int) (S : Nat), S < 2 ^ n → o.Perm (tI n S) → ss.getD S 0 ≤ cst a o
  | [], S, hS, hp => by
    have := tI_nil hS (List.Perm.nil_eq hp).symm
    subst this
    rw [hs.z]
    exact Int.le_refl _
  | x :: r, S, hS, hp => by
    obtain ⟨t, ht, hb, rfl⟩ := tI_mem.mp ((List.Perm.mem_iff hp).mp List.mem_cons_self)
    have h9 := pow9 n hn
    have hsub := bits_sub S (by omega) t (by omega) hb
    have hp2 : r.Perm (tI n (S - 2 ^ t)) := List.Perm.cons_inv (hp.trans (tI_out hn hS ht hb).symm)
    have ih := cst_low h0 hn hs r (S - 2 ^ t) (Nat.lt_of_le_of_lt (Nat.sub_le _ _) hS) hp2
    have p2 : 0 < 2 ^ t := Nat.two_pow_pos t
    have hl := hs.le S (by omega) hS (t : Int) (tI_mem.mpr ⟨t, ht, hb, rfl⟩)
    rw [swf_out h0 hn hS ht hb] at hl
    show ss.getD S 0 ≤ (r.map fun o => a o (t : Int)).sum + cst a r
    rw [sum_perm (List.Perm.map (fun o => a o (t : Int)) hp2)]
    omega
/-- an order taken thing by thing, the least that can stand first each time -/
inductive Gr (a : Int → Int → Int) (n : Nat) (ss : List Int) : Nat → List Int → Prop where
  | nil : Gr a n ss 0 []
  | cons {S t : Nat} {r : List Int} : t < n → S.testBit t = true → ss.getD S 0 = swf a n ss (t : Int) S → (∀ u ∈ tI n S, ss.getD S 0 = swf a n ss u S → (t : Int) ≤ u) → Gr a n ss (S - 2 ^ t) r → Gr a n ss S ((t : Int) :: r)
theorem gr_perm {a : Int → Int → Int} {n : Nat} {ss : List Int} (hn : n < 10) {S : Nat} {g : List Int} (h : Gr a n ss S g) (hS : S < 2 ^ n) : g.Perm (tI n S) := by
  induction h with
  | nil =>
    have e : tI n 0 = [] := by
      cases q : tI n 0 with
      | nil => rfl
      | cons x r =>
        have : x ∈ tI n 0 := by rw [q]; exact List.mem_cons_self
        obtain ⟨t, _, hb, _⟩ := tI_mem.mp this
        rw [Nat.zero_testBit] at hb
        cases hb
    rw [e]
  | cons ht hb _ _ _ ih => exact (List.Perm.cons _ (ih (Nat.lt_of_le_of_lt (Nat.sub_le _ _) hS))).trans (tI_out hn hS ht hb)
theorem gr_cost {a : Int → Int → Int} (h0 : ∀ t, a t t = 0) {n : Nat} {ss : List Int} (hn : n < 10) (hs : IsSums a n ss) {S : Nat} {g : List Int} (h : Gr a n ss S g) (hS : S < 2 ^ n) : cst a g = ss.getD S 0 := by
  induction h with
  | nil => exact hs.z.symm
  | @cons S t r ht hb he _ hg ih =>
    have hp := gr_perm hn hg (Nat.lt_of_le_of_lt (Nat.sub_le _ _) hS)
    show (r.map fun o => a o (t : Int)).sum + cst a r = _
    rw [ih (Nat.lt_of_le_of_lt (Nat.sub_le _ _) hS), he, swf_out h0 hn hS ht hb, sum_perm (List.Perm.map (fun o => a o (t : Int)) hp)]
theorem gr_first {a : Int → Int → Int} (h0 : ∀ t, a t t = 0) {n : Nat} {ss : List Int} (hn : n < 10) (hs : IsSums a n ss) {S : Nat} {g : List Int} (h : Gr a n ss S g) (hS : S < 2 ^ n) : ∀ o : List Int, o.Perm (tI n S) → cst a o = ss.getD S 0 → g ≤ o := by
  induction h with
  | nil => intro o _ _; exact List.nil_le o
  | @cons S t r ht hb he hm hg ih =>
    intro o hp hc
    match o, hp, hc with
    | [], hp, _ =>
      have := List.Perm.mem_iff hp (a := ((t : Nat) : Int))
      exact absurd (this.mpr (tI_mem.mpr ⟨t, ht, hb, rfl⟩)) List.not_mem_nil
    | x :: o', hp, hc =>
      obtain ⟨u, hu, hbu, rfl⟩ := tI_mem.mp ((List.Perm.mem_iff hp).mp List.mem_cons_self)
      have h9 := pow9 n hn
      have p2 : 0 < 2 ^ u := Nat.two_pow_pos u
      have hsub := bits_sub S (by omega) u (by omega) hbu
      have hp2 : o'.Perm (tI n (S - 2 ^ u)) := List.Perm.cons_inv (hp.trans (tI_out hn hS hu hbu).symm)
      have hlow := cst_low h0 hn hs o' (S - 2 ^ u) (Nat.lt_of_le_of_lt (Nat.sub_le _ _) hS) hp2
      have hle := hs.le S (by omega) hS (u : Int) (tI_mem.mpr ⟨u, hu, hbu, rfl⟩)
      have hsw := swf_out h0 (ss := ss) hn hS hu hbu
      have hc' : (o'.map fun o => a o (u : Int)).sum + cst a o' = ss.getD S 0 := hc
      rw [sum_perm (List.Perm.map (fun o => a o (u : Int)) hp2)] at hc'
      have heq : ss.getD S 0 = swf a n ss (u : Int) S := by omega
      have htu := hm (u : Int) (tI_mem.mpr ⟨u, hu, hbu, rfl⟩) heq
      rw [List.cons_le_cons_iff]
      by_cases c : (t : Int) < (u : Int)
      · exact .inl c
      · have e : t = u := by omega
        subst e
        exact .inr ⟨rfl, ih (Nat.lt_of_le_of_lt (Nat.sub_le _ _) hS) o' hp2 (by omega)⟩
/-! ### the first of the least -/
def aStep (f : List Int → Int) (acc : Option (Int × List Int)) (o : List Int) : Option (Int × List Int) := match acc with
  | none => some (f o, o)
  | some (m, b) => if f o < m then some (f o, o) else some (m, b)
def amin (f : List Int → Int) (L : List (List Int)) : Option (Int × List Int) := L.foldl (aStep f) none
theorem amin_snoc (f : List Int → Int) (L : List (List Int)) (o : List Int) : amin f (L ++ [o]) = aStep f (amin f L) o := by
  unfold amin
  rw [List.foldl_append]
  rfl
theorem amin_none {f : List Int → Int} {L : List (List Int)} (h : amin f L = none) : L = [] := by
  cases List.eq_nil_or_concat L with
  | inl h => exact h
  | inr h2 =>
    obtain ⟨L', o, rfl⟩ := h2
    rw [List.concat_eq_append, amin_snoc] at h
    unfold aStep at h
    split at h
    · cases h
    · split at h <;> cases h
theorem amin_spec (f : List Int → Int) : ∀ (n : Nat) (L : List (List Int)), L.length = n → L ≠ [] → ∃ (b : List Int) (L1 L2 : List (List Int)), amin f L = some (f b, b) ∧ L = L1 ++ b :: L2 ∧ (∀ o ∈ L1, f b < f o) ∧ ∀ o ∈ L, f b ≤ f o
  | 0, L, hl, h => absurd (List.eq_nil_of_length_eq_zero hl) h
  | n + 1, L, hl, h => by
    cases List.eq_nil_or_concat L with
    | inl h2 => exact absurd h2 h
    | inr h2 =>
      obtain ⟨L', o, rfl⟩ := h2
      rw [List.concat_eq_append] at hl ⊢
      rw [amin_snoc]
      by_cases c : L' = []
      · subst c
        refine ⟨o, [], [], rfl, rfl, fun x hx => absurd hx List.not_mem_nil, fun x hx => ?_⟩
        rw [List.mem_singleton.mp hx]
        exact Int.le_refl _
      · obtain ⟨b, L1, L2, e1, e2, h1, h3⟩ := amin_spec f n L' (by rw [List.length_append] at hl; simpa using hl) c
        rw [e1]
        show ∃ b' L1' L2', (if f o < f b then some (f o, o) else some (f b, b)) = some (f b', b') ∧ _
        by_cases d : f o < f b
        · rw [if_pos d]
          refine ⟨o, L', [], rfl, rfl, fun x hx => Int.lt_of_lt_of_le d (h3 x hx), fun x hx => ?_⟩
          rcases List.mem_append.mp hx with hx | hx
          · exact Int.le_of_lt (Int.lt_of_lt_of_le d (h3 x hx))
          · rw [List.mem_singleton.mp hx]
            exact Int.le_refl _
        · rw [if_neg d]
          refine ⟨b, L1, L2 ++ [o], rfl, by rw [e2, List.append_assoc]; rfl, h1, fun x hx => ?_⟩
          rcases List.mem_append.mp hx with hx | hx
          · exact h3 x hx
          · rw [List.mem_singleton.mp hx]
            omega
theorem amin_congr {f g : List Int → Int} {L : List (List Int)} (h : ∀ o ∈ L, f o = g o) : amin f L = amin g L := by
  unfold amin
  generalize (none : Option (Int × List Int)) = acc
  induction L generalizing acc with
  | nil => rfl
  | cons x L ih =>
    show L.foldl (aStep f) (aStep f acc x) = L.foldl (aStep g) (aStep g acc x)
    have e : aStep f acc x = aStep g acc x := by
      unfold aStep
      rw [h x List.mem_cons_self]
    rw [e]
    exact ih (fun o ho => h o (List.mem_cons_of_mem _ ho)) _
theorem ord_all {n : Nat} {r : List Int} (o : IsOrd n r) : r ∈ allK n n := allK_mem n r o.len o.nodup fun x hx => (List.Perm.mem_iff o).mp hx
theorem amin_gr {a : Int → Int → Int} (h0 : ∀ t, a t t = 0) {n : Nat} {ss : List Int} (hn : n < 10) (hs : IsSums a n ss) {g : List Int} (h : Gr a n ss (2 ^ n - 1) g) : amin (cst a) (allK n n) = some (ss.getD (2 ^ n - 1) 0, g) := by
  have p2 : 0 < 2 ^ n := Nat.two_pow_pos n
  have hS : 2 ^ n - 1 < 2 ^ n := by omega
  have hp := gr_perm hn h hS
  rw [tI_full n hn] at hp
  have hg : g ∈ allK n n := ord_all hp
  have hc := gr_cost h0 hn hs h hS
  obtain ⟨b, L1, L2, e1, e2, h1, h2⟩ := amin_spec (cst a) _ (allK n n) rfl (List.ne_nil_of_mem hg)
  have hb : b ∈ allK n n := by rw [e2]; exact List.mem_append_right _ List.mem_cons_self
  have ob := all_ord hb
  have pb : b.Perm (tI n (2 ^ n - 1)) := by rw [tI_full n hn]; exact ob
  have l1 := cst_low h0 hn hs b _ hS pb
  have l2 := h2 g hg
  have ec : cst a b = ss.getD (2 ^ n - 1) 0 := by omega
  have le1 : g ≤ b := gr_first h0 hn hs h hS b pb ec
  have le2 : b ≤ g := by
    rw [e2] at hg
    rcases List.mem_append.mp hg with hg | hg
    · have := h1 g hg
      omega
    · rcases List.mem_cons.mp hg with hg | hg
      · rw [hg]
        exact List.le_refl _
      · have srt := allK_sorted (n := n) n
        rw [e2] at srt
        have := (List.pairwise_cons.mp (List.pairwise_append.mp srt).2.1).1 g hg
        exact List.le_of_lt this
  have e : b = g := List.le_antisymm le2 le1
  rw [e1, e] at *
  rw [hc]
end Fo
namespace Fo
open PySem PySem.Spec PyProof.Rows L2
/-! ### walks from a thing over greater ones, and rings -/
inductive Wk (fl : Int → List Int) (z : Int) : Nat → List Int → Int → Prop where
  | nil : Wk fl z 0 [z] z
  | snoc {k : Nat} {p : List Int} {v u : Int} : Wk fl z k p v → u ∈ fl v → z < u → Wk fl z (k + 1) (p ++ [u]) u
section
variable {fl : Int → List Int} {z : Int}
theorem Wk.len {k : Nat} {p : List Int} {v : Int} (h : Wk fl z k p v) : p.length = k + 1 := by
  induction h with
  | nil => rfl
  | snoc _ _ _ ih => rw [List.length_append, ih]; rfl
theorem Wk.last {k : Nat} {p : List Int} {v : Int} (h : Wk fl z k p v) : p.getLastD 0 = v := by
  cases h with
  | nil => rfl
  | snoc h _ _ => simp
theorem Wk.at_last {k : Nat} {p : List Int} {v : Int} (h : Wk fl z k p v) : p[k]? = some v := by
  cases h with
  | nil => rfl
  | @snoc k p v u h _ _ => rw [List.getElem?_append_right (by rw [h.len]; omega), h.len]; simp
theorem Wk.ge {k : Nat} {p : List Int} {v : Int} (h : Wk fl z k p v) : z ≤ v := by
  cases h with
  | nil => exact Int.le_refl _
  | snoc _ _ h => exact Int.le_of_lt h
theorem Wk.zero {p : List Int} {v : Int} (h : Wk fl z 0 p v) : p = [z] ∧ v = z := by
  cases h
  exact ⟨rfl, rfl⟩
theorem Wk.succ {k : Nat} {p : List Int} {v : Int} (h : Wk fl z (k + 1) p v) : ∃ (p' : List Int) (v' : Int), p = p' ++ [v] ∧ Wk fl z k p' v' ∧ v ∈ fl v' ∧ z < v := by
  cases h with
  | snoc h1 h2 h3 => exact ⟨_, _, rfl, h1, h2, h3⟩
theorem snoc_le {a b : List Int} {x y : Int} (hl : a.length = b.length) (h : a ≤ b) (hxy : x ≤ y) : a ++ [x] ≤ b ++ [y] := by
  rcases List.le_iff_lt_or_eq.mp h with h | h
  · exact List.le_of_lt (lt_snoc hl h x y)
  · subst h
    induction a with
    | nil =>
      show [x] ≤ [y]
      rw [List.cons_le_cons_iff]
      by_cases c : x < y
      · exact .inl c
      · exact .inr ⟨by omega, List.le_refl _⟩
    | cons u a ih =>
      show u :: (a ++ [x]) ≤ u :: (a ++ [y])
      rw [List.cons_le_cons_iff]
      exact .inr ⟨rfl, ih rfl (List.le_refl _)⟩
theorem snoc_lt (a : List Int) {x y : Int} (h : x < y) : a ++ [x] < a ++ [y] := by
  induction a with
  | nil => exact List.cons_lt_cons_iff.mpr (.inl h)
  | cons u a ih => exact List.cons_lt_cons_iff.mpr (.inr ⟨rfl, ih⟩)
/-- the paths of one length, the first ones to things not reached before -/
structure BInv (fl : Int → List Int) (z : Int) (k : Nat) (P : List (List Int)) (Rb R : Int → Prop) : Prop where
  a : ∀ p ∈ P, ∃ v, Wk fl z k p v ∧ ¬ Rb v
  b : P.Pairwise (· < ·)
  c : ∀ w v, Wk fl z k w v → Rb v ∨ ∃ p ∈ P, p.getLastD 0 = v ∧ p ≤ w
  d : ∀ j < k, ∀ w v, Wk fl z j w v → Rb v
  e : ∀ v, Rb v → z ≤ v → z ∉ fl v
  f : ∀ v, Rb v → z ≤ v → ∀ u ∈ fl v, z < u → R u
  r : ∀ u, R u ↔ (Rb u ∨ ∃ p ∈ P, p.getLastD 0 = u)
  h : ∀ u, u ≤ z → R u
theorem binv0 : BInv fl z 0 [[z]] (fun u => u < z) (fun u => u ≤ z) where
  a := fun p hp => by
    rw [List.mem_singleton.mp hp]
    exact ⟨z, .nil, Int.lt_irrefl z⟩
  b := List.pairwise_singleton _ _
  c := fun w v h => by
    obtain ⟨rfl, rfl⟩ := h.zero
    exact .inr ⟨[v], List.mem_singleton.mpr rfl, rfl, List.le_refl _⟩
  d := fun j h => absurd h (Nat.not_lt_zero j)
  e := fun v h1 h2 => by omega
  f := fun v h1 h2 => by omega
  r := fun u => by
    constructor
    · intro h
      by_cases c : u < z
      · exact .inl c
      · exact .inr ⟨[z], List.mem_singleton.mpr rfl, by show z = u; omega⟩
    · rintro (h | ⟨p, hp, e⟩)
      · exact Int.le_of_lt h
      · rw [List.mem_singleton.mp hp] at e
        have e2 : z = u := e
        omega
  h := fun u h => h
/-- what one turn makes of them -/
structure BStep (fl : Int → List Int) (P P' : List (List Int)) (R R' : Int → Prop) : Prop where
  a : ∀ q ∈ P', ∃ p ∈ P, ∃ u ∈ fl (p.getLastD 0), q = p ++ [u] ∧ ¬ R u
  b : P'.Pairwise (· < ·)
  r : ∀ u, R' u ↔ (R u ∨ ∃ q ∈ P', q.getLastD 0 = u)
  g : ∀ p ∈ P, ∀ u ∈ fl (p.getLastD 0), R u ∨ ∃ q ∈ P', q.getLastD 0 = u ∧ q ≤ p ++ [u]
theorem binv_step {k : Nat} {P P' : List (List Int)} {Rb R R' : Int → Prop} (I : BInv fl z k P Rb R) (hno : ∀ p ∈ P, z ∉ fl (p.getLastD 0)) (S : BStep fl P P' R R') : BInv fl z (k + 1) P' R R' where
  a := fun q hq => by
    obtain ⟨p, hp, u, hu, rfl, hR⟩ := S.a q hq
    obtain ⟨v, hw, _⟩ := I.a p hp
    rw [hw.last] at hu
    have hz : z < u := by
      by_cases c : u ≤ z
      · exact absurd (I.h u c) hR
      · omega
    exact ⟨u, .snoc hw hu hz, hR⟩
  b := S.b
  c := fun w v hw => by
    obtain ⟨w', v', rfl, hw', hv, hz⟩ := hw.succ
    rcases I.c w' v' hw' with h | ⟨p, hp, e, hle⟩
    · exact .inl (I.f v' h hw'.ge v hv hz)
    · rcases S.g p hp v (by rw [e]; exact hv) with h | ⟨q, hq, e2, hle2⟩
      · exact .inl h
      · obtain ⟨v2, hp2, _⟩ := I.a p hp
        exact .inr ⟨q, hq, e2, List.le_trans hle2 (snoc_le (by rw [hp2.len, hw'.len]) hle (Int.le_refl _))⟩
  d := fun j hj w v hw => by
    by_cases c : j < k
    · exact (I.r v).mpr (.inl (I.d j c w v hw))
    · have e : j = k := by omega
      subst e
      rcases I.c w v hw with h | ⟨p, hp, e, _⟩
      · exact (I.r v).mpr (.inl h)
      · exact (I.r v).mpr (.inr ⟨p, hp, e⟩)
  e := fun v hv hz => by
    rcases (I.r v).mp hv with h | ⟨p, hp, e⟩
    · exact I.e v h hz
    · rw [← e]
      exact hno p hp
  f := fun v hv hz u hu hzu => by
    rcases (I.r v).mp hv with h | ⟨p, hp, e⟩
    · exact (S.r u).mpr (.inl (I.f v h hz u hu hzu))
    · rcases S.g p hp u (by rw [e]; exact hu) with h | ⟨q, hq, e2, _⟩
      · exact (S.r u).mpr (.inl h)
      · exact (S.r u).mpr (.inr ⟨q, hq, e2⟩)
  r := S.r
  h := fun u h => (S.r u).mpr (.inl (I.h u h))
/-- the first of the shortest rings whose least thing is z, or none -/
def RingAt (fl : Int → List Int) (z : Int) : Option (List Int) → Prop
  | none => ∀ j w v, Wk fl z j w v → z ∉ fl v
  | some p => ∃ k v, Wk fl z k p v ∧ z ∈ fl v ∧ (∀ j < k, ∀ w u, Wk fl z j w u → z ∉ fl u) ∧ ∀ w u, Wk fl z k w u → z ∈ fl u → p ≤ w
theorem binv_none {k : Nat} {Rb R : Int → Prop} (I : BInv fl z k [] Rb R) : RingAt fl z none := by
  have all : ∀ j w v, Wk fl z j w v → Rb v := by
    intro j
    induction j with
    | zero =>
      intro w v hw
      by_cases c : 0 < k
      · exact I.d 0 c w v hw
      · have e : k = 0 := by omega
        subst e
        rcases I.c w v hw with h | ⟨p, hp, _⟩
        · exact h
        · exact absurd hp List.not_mem_nil
    | succ j ih =>
      intro w v hw
      obtain ⟨w', v', rfl, hw', hv, hz⟩ := hw.succ
      rcases (I.r v).mp (I.f v' (ih w' v' hw') hw'.ge v hv hz) with h | ⟨p, hp, _⟩
      · exact h
      · exact absurd hp List.not_mem_nil
  intro j w v hw
  exact I.e v (all j w v hw) hw.ge
theorem binv_some {k : Nat} {P P1 P2 : List (List Int)} {p : List Int} {Rb R : Int → Prop} (I : BInv fl z k P Rb R) (e : P = P1 ++ p :: P2) (h1 : ∀ q ∈ P1, z ∉ fl (q.getLastD 0)) (h2 : z ∈ fl (p.getLastD 0)) : RingAt fl z (some p) := by
  have hp : p ∈ P := by rw [e]; exact List.mem_append_right _ List.mem_cons_self
  obtain ⟨v, hw, _⟩ := I.a p hp
  refine ⟨k, v, hw, by rw [← hw.last]; exact h2, fun j hj w u hu => I.e u (I.d j hj w u hu) hu.ge, fun w u hu hz => ?_⟩
  rcases I.c w u hu with h | ⟨q, hq, eq, hle⟩
  · exact absurd hz (I.e u h hu.ge)
  · refine List.le_trans ?_ hle
    rw [e] at hq
    rcases List.mem_append.mp hq with hq | hq
    · exact absurd (by rw [eq]; exact hz) (h1 q hq)
    · rcases List.mem_cons.mp hq with rfl | hq
      · exact List.le_refl _
      · have srt := I.b
        rw [e] at srt
        exact List.le_of_lt ((List.pairwise_cons.mp (List.pairwise_append.mp srt).2.1).1 q hq)
theorem RingAt.uniq {o : Option (List Int)} {p q : List Int} (hp : RingAt fl z (some p)) (hq : RingAt fl z (some q)) : p = q := by
  obtain ⟨k, v, h1, h2, h3, h4⟩ := hp
  obtain ⟨k', v', g1, g2, g3, g4⟩ := hq
  have e : k = k' := by
    rcases Nat.lt_trichotomy k k' with h | h | h
    · exact absurd h2 (g3 k h p v h1)
    · exact h
    · exact absurd g2 (h3 k' h q v' g1)
  subst e
  exact List.le_antisymm (h4 q v' g1 g2) (g4 p v h1 h2)
end
/-! ### from behind -/
inductive Bw (fl : Int → List Int) (z : Int) : Nat → Int → Prop where
  | nil : Bw fl z 0 z
  | cons {t : Nat} {x y : Int} : Bw fl z t y → y ∈ fl x → z < x → Bw fl z (t + 1) x
theorem Wk.behind {fl : Int → List Int} {z : Int} {k : Nat} {w : List Int} {v : Int} (h : Wk fl z k w v) : ∀ {t : Nat}, Bw fl z t v → ∀ j ≤ k, 1 ≤ j ∨ t = 0 ∨ True → ∃ x, w[j]? = some x ∧ (1 ≤ j → Bw fl z (t + (k - j)) x) := by
  induction h with
  | nil =>
    intro t hb j hj _
    have e : j = 0 := by omega
    subst e
    exact ⟨z, rfl, fun h => absurd h (by omega)⟩
  | @snoc k p v u hw hu hz ih =>
    intro t hb j hj _
    by_cases c : j = k + 1
    · subst c
      refine ⟨u, ?_, fun _ => by rw [Nat.sub_self]; exact hb⟩
      rw [List.getElem?_append_right (by rw [hw.len]; omega), hw.len, Nat.sub_self]
      rfl
    · by_cases cv : z < v
      · obtain ⟨x, ex, hx⟩ := ih (t := t + 1) (.cons hb hu cv) j (by omega) (.inr (.inr trivial))
        refine ⟨x, ?_, fun h => ?_⟩
        · rw [List.getElem?_append_left (by rw [hw.len]; omega)]
          exact ex
        · have := hx h
          rw [show t + 1 + (k - j) = t + (k + 1 - j) by omega] at this
          exact this
      · -- v = z: the walk has just begun
        cases hw with
        | nil =>
          have e : j = 0 := by omega
          subst e
          exact ⟨z, rfl, fun h => absurd h (by omega)⟩
        | snoc _ _ h3 => exact absurd h3 cv
theorem Wk.arc {fl : Int → List Int} {z : Int} {k : Nat} {w : List Int} {v : Int} (h : Wk fl z k w v) : ∀ j < k, ∃ x y, w[j]? = some x ∧ w[j + 1]? = some y ∧ y ∈ fl x := by
  induction h with
  | nil => intro j hj; omega
  | @snoc k p v u hw hu hz ih =>
    intro j hj
    by_cases c : j = k
    · subst c
      refine ⟨v, u, ?_, ?_, hu⟩
      · rw [List.getElem?_append_left (by rw [hw.len]; omega)]
        exact hw.at_last
      · rw [List.getElem?_append_right (by rw [hw.len]; omega), hw.len, Nat.sub_self]
        rfl
    · obtain ⟨x, y, ex, ey, h⟩ := ih j (by omega)
      refine ⟨x, y, ?_, ?_, h⟩
      · rw [List.getElem?_append_left (by rw [hw.len]; omega)]
        exact ex
      · rw [List.getElem?_append_left (by rw [hw.len]; omega)]
        exact ey
theorem Wk.first {fl : Int → List Int} {z : Int} {k : Nat} {w : List Int} {v : Int} (h : Wk fl z k w v) : w[0]? = some z := by
  induction h with
  | nil => rfl
  | @snoc k p v u hw _ _ ih =>
    rw [List.getElem?_append_left (by rw [hw.len]; omega)]
    exact ih
/-- the first ring of k + 1 things from z: each time the least thing from which one can go on -/
theorem greedy_step {fl : Int → List Int} {z : Int} {k j : Nat} {c : List Int} {u x : Int} (hc : Wk fl z j c u) (hj : j < k) (hx : x ∈ fl u ∧ Bw fl z (k - j) x) (hmin : ∀ y, y ∈ fl u → Bw fl z (k - j) y → x ≤ y)
    (hle : ∀ w v, Wk fl z k w v → z ∈ fl v → c ≤ w.take (j + 1)) : Wk fl z (j + 1) (c ++ [x]) x ∧ ∀ w v, Wk fl z k w v → z ∈ fl v → c ++ [x] ≤ w.take (j + 2) := by
  have hzx : z < x := by
    have := hx.2
    cases h : k - j with
    | zero => omega
    | succ t =>
      rw [h] at this
      cases this with
      | cons _ _ h3 => exact h3
  refine ⟨.snoc hc hx.1 hzx, fun w v hw hz => ?_⟩
  have h1 := hle w v hw hz
  obtain ⟨a, b, ea, eb, hab⟩ := hw.arc j hj
  have e2 : w.take (j + 2) = w.take (j + 1) ++ [b] := by rw [List.take_add_one, eb]; rfl
  rw [e2]
  have hl : c.length = (w.take (j + 1)).length := by rw [hc.len, List.length_take, hw.len]; omega
  rcases List.le_iff_lt_or_eq.mp h1 with h | h
  · exact List.le_of_lt (lt_snoc hl h x b)
  · have eu : a = u := by
      have e3 := hc.at_last
      rw [h, List.getElem?_take_of_lt (by omega), ea] at e3
      exact Option.some.inj e3
    subst eu
    have hv : z < v := by
      cases hw with
      | nil => omega
      | snoc _ _ h3 => exact h3
    obtain ⟨y, ey, hy⟩ := hw.behind (t := 1) (.cons .nil hz hv) (j + 1) (by omega) (.inr (.inr trivial))
    rw [eb] at ey
    have e4 := Option.some.inj ey
    subst e4
    have hb := hy (by omega)
    rw [show 1 + (k - (j + 1)) = k - j by omega] at hb
    exact snoc_le hl h1 (hmin b hab hb)
end Fo
namespace Fo
open PySem PySem.Spec PyProof.Rows L2
/-- y = {k: v for ..}, y a local -/
theorem ps_setDc {X : Cx} {i : Nat} {y : Str} {py : Pos} {kx vx tg iter : Expr} {ifs : List Expr} {scope : Scope}
    {own : List (Str × Nat)} {pos spos : Pos} {wi : TI} {g : TG} {tt : TT} {tk tv : TE}
    (calm : X.calm = true) (nd : X.N.Nodup) (hy : X.N[i]? = some y)
    (loc : X.env.scope.names.lookup y = some .local)
    (sw : swapsWith (.DictComp kx vx [⟨tg, iter, ifs, 0⟩] scope pos) (some (.Name y py)) spos.line X.env = pure true)
    (pi : PI X tg iter wi) (blk : BlkOk X.N X.env.scope scope own)
    (pg : ∀ (s : Shared) (H : Hp) (C : Addr) (cl : List (Str × Addr)) (fp : List Addr),
      PG (X.blk s H scope (compEnvC scope cl C X.env) fp) tg g)
    (pt : ∀ (s : Shared) (H : Hp) (C : Addr) (cl : List (Str × Addr)) (fp : List Addr),
      PTs (X.blk s H scope (compEnvC scope cl C X.env) fp) ifs tt)
    (pk : ∀ (s : Shared) (H : Hp) (C : Addr) (cl : List (Str × Addr)) (fp : List Addr),
      PE (X.blk s H scope (compEnvC scope cl C X.env) fp) kx tk)
    (pv' : ∀ (s : Shared) (H : Hp) (C : Addr) (cl : List (Str × Addr)) (fp : List Addr),
      PE (X.blk s H scope (compEnvC scope cl C X.env) fp) vx tv)
    (fold : ∀ x, foldedSetIterable iter X.env x = pure x := by intro _; rfl) :
    PS X (.Assign [.Name y py] (.DictComp kx vx [⟨tg, iter, ifs, 0⟩] scope pos) spos)
      (tAsg (tDc wi g tt tk tv (own.map (·.2))) (gName i)) := by
  refine ⟨fun ps s1 σ1 H1 D1 I1 h1 => ?_⟩
  rw [exec_Assign_Name_used _ _ _ _ sw]
  refine wpAny_bind (wpAny_standAt
    (wpAny_bind ?_))
  have h2 : tDc wi g tt tk tv (own.map (·.2)) σ1 H1 (fun x G => gName i x σ1 G D1.nx) := h1
  show wpAny _ X.A (do
    let _ ← comprehension (.DictComp kx vx [⟨tg, iter, ifs, 0⟩] scope pos) scope X.env (firstIterPos [⟨tg, iter, ifs, 0⟩] pos) newDict false (eval iter X.env) (some (assign (.Name y py) X.env))) _ _ s1
  refine wpAny_bind (thn (dc_core (Qf := fun _ t => SP X ps D1 .next t) calm nd I1 pi blk pg pt pk pv' fold h2
    fun L C t m G J qq hn ff => ?_) fun _ t hq => wpAny_pure (wpAny_pure hq))
  show wpAny _ _ (assign (.Name y py)
    X.env (.ref L)) _ _ _
  refine wpAny_assign_Name (store_ok2 (v := V.ref L) J nd hy (.inl loc) rfl (fun t2 J2 ⟨b, sb, hb⟩ => ?_) (.inr loc))
  obtain ⟨e0, e1, e2, e3, e4, e5⟩ := ff
  have ne : C ≠ b := by
    rcases hb with z | z
    · rw [z]
      exact e1
    · exact fun q => e4 y b z q.symm
  exact ⟨m, hn.sameBut sb ne, fun h3 sb3 =>
    ⟨_, G, J2.turned (t' := t2.toks) (fun c o hc e => (sb3.2 c hc).trans e) e0 e1 e3 e4 e5, qq⟩⟩
theorem dc_range {lo : Int} {n : Nat} {g : TG} {tt : TT} {tk tv : TE} {vs : List Nat} {σ : L2.St} {H1 : Hp} {D : Addr} {Qd : Hp → Prop}
    (Pv : Nat → Hp → Prop) (h0 : Pv 0 (upd H1 D (.dK [])))
    (hs : ∀ i G, i < n → Pv i G → g (.int (lo + i)) (wipe σ vs) G fun σ2 H2 => wipe σ2 vs = wipe σ vs ∧ tt σ2 H2 fun b H3 =>
      if b = true then tk σ2 H3 fun yk H4 => tv σ2 H4 fun zv H5 => ∃ kvs k, yk = kV k ∧ H5 D = some (.dK kvs) ∧ kvs.length < sizeLine ∧ Pv (i + 1) (upd H5 D (.dK (putK kvs k zv))) else Pv (i + 1) H3)
    (hd : ∀ G, Pv n G → Qd G) :
    ∃ W : Nat → Nat → Hp → Prop, (∃ m, W 0 m (upd H1 D (.dK []))) ∧ ∀ i m G, W i m G →
      ((Itr lo n).stop i G ∧ Qd G) ∨ ((Itr lo n).go i G ∧ ∃ Nx : Hp → Prop, (∀ G', Nx G' → ∃ m', m' < m ∧ W (i + 1) m' G') ∧ ∀ x G', (Itr lo n).yld i G x G' → g x (wipe σ vs) G' fun σ2 H2 => wipe σ2 vs = wipe σ vs ∧ tt σ2 H2 fun b H3 =>
        if b = true then tk σ2 H3 fun yk H4 => tv σ2 H4 fun zv H5 => ∃ kvs k, yk = kV k ∧ H5 D = some (.dK kvs) ∧ kvs.length < sizeLine ∧ Nx (upd H5 D (.dK (putK kvs k zv))) else Nx H3) := by
  refine ⟨fun i m G => m = n - i ∧ (i ≤ n ∧ Pv i G), ⟨n, (Nat.sub_zero n).symm, Nat.zero_le n, h0⟩, ?_⟩
  rintro i m G ⟨rfl, hi, p⟩
  by_cases c : i < n
  · refine .inr ⟨c, Pv (i + 1), fun G' p' => ⟨n - (i + 1), by omega, rfl, c, p'⟩, fun x G' y => ?_⟩
    obtain ⟨rfl, rfl⟩ := y
    exact hs i _ c p
  · have e : i = n := by omega
    subst e
    exact .inl ⟨Nat.le_refl _, hd G p⟩
end Fo
namespace Fo
open PySem PySem.Spec PyProof.Rows L2
def spWhole : Sp := fun vs H Q _ => ∃ i : Int, vs = [.int i] ∧ Q (.bl true) H
section
variable {P : Program} {w : World} {K : PySem.W.Frag} {mg : Str → Option Value} {base : Heap}
theorem scWhole : FnScope ["thing"] ["thing"] (defScope s_is_whole) := ⟨rfl, rfl, rfl, by decide +kernel, rfl, by decide +kernel, by decide +kernel⟩
theorem ok_whole {f : Addr} {fd : FuncData} {k : Nat} (T : Df K mg "is_whole" s_is_whole ["thing"] f fd) (B : Bi mg) : FnOk P w K mg base CX0 (k + 1) f fd ["thing"] spWhole := by
  refine T.F.ok scWhole (fun vs H Q E h => ?_) (fun cdv A outer s H vs Q E hr h => ?_)
  · obtain ⟨i, rfl, _⟩ := h
    rfl
  · obtain ⟨i, rfl, q⟩ := h
    refine ⟨_, pss_one (ps_ret (pe_and (pe_callB call_isi (by rfl) B.isinstance (by decide +kernel) (pa_cons (pv 0) (pa_cons (pe_bltn (v := .ty "int") (by rfl) B.int (by decide +kernel) rfl) pa_nil)))
      (pe_one (pe_not (pe_callB call_isi (by rfl) B.isinstance (by decide +kernel) (pa_cons (pv 0) (pa_cons (pe_bltn (v := .ty "bool") (by rfl) B.bool (by decide +kernel) rfl) pa_nil))))))), ?_⟩
    refine ⟨_, rfl, _, _, _, _, true, rfl, .ty _, .base (.int _), kit_ty (by decide +kernel), true, rfl, iteT ?_⟩
    exact ⟨_, rfl, _, _, _, _, false, rfl, .ty _, .base (.int _), kit_ty (by decide +kernel), false, rfl, q⟩
end
end Fo
namespace Fo
open PySem PySem.Spec PyProof.Rows L2
/-! ### whole numbers, orders -/
def spIsOrd : Sp := fun vs H Q _ => ∃ (a : Addr) (n : Nat) (ns : List Int), vs = [.ref a] ∧ H a = some (.lst (ns.map V.int)) ∧ IsOrd n ns ∧ 1 ≤ n ∧ n ≤ 12 ∧ ∀ H', Same H H' → Q (.bl true) H'
def spCheck : Sp := fun vs H Q _ => ∃ (a : Addr) (n : Nat) (ns : List Int), vs = [.ref a] ∧ H a = some (.lst (ns.map V.int)) ∧ IsOrd n ns ∧ 1 ≤ n ∧ n ≤ 12 ∧ ∀ H', Same H H' → Q .non H'
section
variable {P : Program} {w : World} {K : PySem.W.Frag} {mg : Str → Option Value} {base : Heap}
theorem scIsOrd : FnScope ["thing", "number"] ["thing"] (defScope s_is_order) := ⟨rfl, rfl, rfl, by decide +kernel, rfl, by decide +kernel, by decide +kernel⟩
theorem all_true (n : Nat) : (List.replicate n true).all id = true := by simp
set_option maxHeartbeats 2000000 in
theorem ok_is_order {f fW : Addr} {fd fdW : FuncData} {k : Nat} {t : Tok} (T : Df K mg "is_order" s_is_order ["thing"] f fd) (TW : Df K mg "is_whole" s_is_whole ["thing"] fW fdW) (B : Bi mg) (mM : mg "MOST_THINGS" = some (.int 12 t)) : FnOk P w K mg base CX0 (k + 2) f fd ["thing"] spIsOrd := by
  have GW : FnOk P w K mg base CX0 (k + 1) fW fdW ["thing"] spWhole := ok_whole TW B
  refine T.F.ok scIsOrd (fun vs H Q E h => ?_) (fun cdv A outer s H vs Q E hr h => ?_)
  · obtain ⟨a, n, ns, rfl, _⟩ := h
    rfl
  · obtain ⟨a, n, ns, rfl, hl, ho, hn1, hn2, q⟩ := h
    have hlm : (ns.map V.int).length = n := by rw [List.length_map, ho.len]
    refine ⟨_, pss_cons (ps_if (PW.pt (pw_or (pt_not (pt_val (pe_callB call_isi (by rfl) B.isinstance (by decide +kernel) (pa_cons (pv 0) (pa_cons (pe_bltn (v := .ty "list") (by rfl) B.list (by decide +kernel) rfl) pa_nil)))))
        (pw_or (pt_cmpR op_lt (pe_callB call_len_seq (by rfl) B.len PySem.boot_len (pa_cons (pv 0) pa_nil)) pe_int (nomark _)) (pw_or1 (pt_cmpR op_gt (pe_callB call_len_seq (by rfl) B.len PySem.boot_len (pa_cons (pv 0) pa_nil)) (pe_glob (v := .int 12) (by rfl) mM ⟨_, rfl⟩) (nomark _))))))
        (pss_one (ps_ret pe_bl)) pss_nil)
      (pss_cons (ps_if (pt_not (pt_val (pe_callB (cr_all rfl) (by rfl) B.all (by decide +kernel) (pa_cons (pe_lc (own := [("number", 1)]) (g := gName 1) (tt := tYes) (te := tCall spWhole [] E0 (tCons (tVar 1) tNil)) rfl scIsOrd.nd (pi_list (pv 0)) (blkOk_by (N := ["thing", "number"]) (sc := defScope s_is_order) (by decide +kernel)) (fun _ _ _ _ _ => pg_name (i := 1) scIsOrd.nd rfl (.inl rfl)) (fun _ _ _ _ _ => pts_nil)
          (fun _ _ _ _ _ => pe_call GW hr (by rfl) TW.g TW.F.kp TW.b .nil pass0 (pa_cons (pv 1) pa_nil))) pa_nil)))) (pss_one (ps_ret pe_bl)) pss_nil)
      (pss_one (ps_ret (pe_cmpR (op_eqD hr.units) (pe_callB cr_sorted (by rfl) B.sorted (by decide +kernel) (pa_cons (pv 0) pa_nil)) (pe_listRg rfl (by rfl) B.list (prg_1 (by rfl) B.range (pe_callB call_len_seq (by rfl) B.len PySem.boot_len (pa_cons (pv 0) pa_nil)))) (nomark _))))), ?_⟩
    refine ⟨_, rfl, _, _, _, _, true, rfl, .ty _, .base (.lst hl), kit_ty (by decide +kernel), true, rfl, iteF ?_⟩
    refine ⟨_, rfl, a, _, rfl, .inl (SqL.of hl), _, 1, rfl, rfl, _, rfl, ite2 (fun c => absurd (of_decide_eq_true c) (by rw [hlm]; omega)) (fun _ => ?_)⟩
    refine ⟨_, rfl, a, _, rfl, .inl (SqL.of hl), _, 12, rfl, rfl, _, rfl, ite2 (fun c => absurd (of_decide_eq_true c) (by rw [hlm]; omega)) (fun _ => ?_)⟩
    refine ⟨_, rfl, a, rfl, ⟨_, SqL.of hl⟩, fun p np => ?_⟩
    refine lc_list (K := K) (a := a) (xs := ns.map V.int) (fun i H3 => H3 p = some (.lst ((List.replicate i true).map V.bl)) ∧ Same H H3) ⟨upd_same, same_new np⟩ (fun i H3 _ hP => SqL.of (hP.2 _ _ hl)) (fun i x H3 hx hP => ?_) (fun H3 hP => ?_)
    · obtain ⟨y, ey, rfl⟩ := int_at_inv hx
      obtain ⟨hp3, sm⟩ := hP
      refine ⟨rfl, _, rfl, y, rfl, _, hp3, line_lt (by
        rw [List.length_map, List.length_replicate]
        have := (List.getElem?_eq_some_iff.mp hx).1
        omega), ?_, fun b o e => ?_⟩
      · rw [upd_same, List.replicate_succ', List.map_append]
        rfl
      · rw [upd_ne (ne_of_none e np)]
        exact sm _ _ e
    · obtain ⟨hp3, sm⟩ := hP
      have hl3 := sm _ _ hl
      refine ⟨p, _, rfl, SqL.of hp3, _, rfl, ?_⟩
      rw [all_true]
      refine iteF ?_
      refine ⟨_, rfl, a, ns, rfl, SqL.of hl3, by rw [ho.len]; omega, fun ns' s1 hperm hsrt ns1 => ?_⟩
      have hl4 := same_new (o := .lst (ns'.map V.int)) ns1 _ _ hl3
      refine ⟨_, rfl, a, _, rfl, .inl (SqL.of hl4), _, rfl, RgOk.of_le (by omega) (by rw [hlm]; omega) (by omega) (by omega), fun s2 ns2 => ?_⟩
      have e1 : ns' = rg n := sorted_eq (hperm.trans ho) hsrt (rg_sorted n)
      subst e1
      rw [hlm]
      have h1 : (upd (upd H3 s1 (.lst ((rg n).map V.int))) s2 (.lst (rgV 0 (n : Int)))) s1 = some (.lst ((rg n).map V.int)) := same_new ns2 _ _ upd_same
      have h2 : (upd (upd H3 s1 (.lst ((rg n).map V.int))) s2 (.lst (rgV 0 (n : Int)))) s2 = some (.lst ((rg n).map V.int)) := by rw [upd_same, rg_V]
      refine ⟨_, _, dp_list h1, dp_list h2, shaped_list _, shaped_list _, ?_⟩
      rw [eqv_list]
      exact q _ ((sm.trans (same_new ns1)).trans (same_new ns2))
theorem scCheck : FnScope ["thing"] ["thing"] (defScope s_check_order) := ⟨rfl, rfl, rfl, by decide +kernel, rfl, by decide +kernel, by decide +kernel⟩
theorem ok_check {f fO fW : Addr} {fd fdO fdW : FuncData} {k : Nat} {t : Tok} (T : Df K mg "check_order" s_check_order ["thing"] f fd) (TO : Df K mg "is_order" s_is_order ["thing"] fO fdO) (TW : Df K mg "is_whole" s_is_whole ["thing"] fW fdW) (B : Bi mg) (mM : mg "MOST_THINGS" = some (.int 12 t)) : FnOk P w K mg base CX0 (k + 3) f fd ["thing"] spCheck := by
  have GO : FnOk P w K mg base CX0 (k + 2) fO fdO ["thing"] spIsOrd := ok_is_order TO TW B mM
  refine T.F.ok scCheck (fun vs H Q E h => ?_) (fun cdv A outer s H vs Q E hr h => ?_)
  · obtain ⟨a, n, ns, rfl, _⟩ := h
    rfl
  · obtain ⟨a, n, ns, rfl, hl, ho, hn1, hn2, q⟩ := h
    refine ⟨_, pss_one (ps_if (pt_not (pt_val (pe_call GO hr (by rfl) TO.g TO.F.kp TO.b .nil pass0 (pa_cons (pv 0) pa_nil)))) (pss_one ps_never) pss_nil), ?_⟩
    exact ⟨_, rfl, a, n, ns, rfl, hl, ho, hn1, hn2, fun H' sm => ⟨_, rfl, iteF (q H' sm)⟩⟩
end
end Fo
namespace Fo
open PySem PySem.Spec PyProof.Rows L2
def IsWay (w : Str) : Prop := w = "swap" ∨ w = "spot" ∨ w = "shift"
theorem n1 : ¬ (("spot" : Str) = "swap") := by decide +kernel
theorem n2 : ¬ (("shift" : Str) = "swap") := by decide +kernel
theorem n3 : ¬ (("shift" : Str) = "spot") := by decide +kernel
/-- the ways as the top has written them -/
structure Wy (K : PySem.W.Frag) (mg : Str → Option Value) (aW : Addr) : Prop where
  g : mg "WAYS" = some (.ref aW)
  t : ∀ H : Hp, SqT K H aW [.str "swap", .str "spot", .str "shift"]
theorem wy_mk {K : PySem.W.Frag} {mg : Str → Option Value} {aW : Addr} {dd : Option Addr} {n : Nat} {t1 t2 t3 : Tok} {sl : Array (Option Value)} (g : mg "WAYS" = some (.ref aW)) (l : K.lookup aW = some ⟨.type "tuple", dd, .seq #[.str "swap" t1, .str "spot" t2, .str "shift" t3] n, sl⟩) : Wy K mg aW :=
  ⟨g, fun H => .inr ⟨_, _, _, l, rfl, rfl, line_small (by show 3 ≤ 16777216; decide), .cons ⟨_, rfl⟩ (.cons ⟨_, rfl⟩ (.cons ⟨_, rfl⟩ .nil))⟩⟩
def spWay : Sp := fun vs H Q _ => ∃ (w : Str), vs = [.str w] ∧ IsWay w ∧ Q .non H
section
variable {P : Program} {w : World} {K : PySem.W.Frag} {mg : Str → Option Value} {base : Heap}
theorem scWay : FnScope ["thing"] ["thing"] (defScope s_check_way) := ⟨rfl, rfl, rfl, by decide +kernel, rfl, by decide +kernel, by decide +kernel⟩
theorem ok_way {f aW : Addr} {fd : FuncData} {k : Nat} (T : Df K mg "check_way" s_check_way ["thing"] f fd) (W : Wy K mg aW) (B : Bi mg) : FnOk P w K mg base CX0 (k + 1) f fd ["thing"] spWay := by
  refine T.F.ok scWay (fun vs H Q E h => ?_) (fun cdv A outer s H vs Q E hr h => ?_)
  · obtain ⟨z, rfl, _⟩ := h
    rfl
  · obtain ⟨z, rfl, hz, q⟩ := h
    refine ⟨_, 
      (pss_one (ps_if (PW.pt (pw_or (pt_not (pt_val (pe_callB call_isi (by rfl) B.isinstance (by decide +kernel) (pa_cons (pv 0) (pa_cons (pe_bltn (v := .ty "str") (by rfl) B.str (by decide +kernel) rfl) pa_nil))))) (pw_or1 (pt_cmpR op_notIn_seq (pv 0) (pe_glob (v := .ref aW) (by rfl) W.g rfl) (by rfl)))))
        (pss_one ps_never)
        pss_nil)), ?_⟩
    refine ⟨_, rfl, _, _, _, _, true, rfl, .ty _, .base (.str _), kit_ty (by decide +kernel), true, rfl, iteF ?_⟩
    rcases hz with rfl | rfl | rfl
    · exact ⟨_, rfl, aW, _, rfl, .inr (W.t H), rfl, rfl, _, rfl, ite2 (fun c => absurd c (by decide +kernel)) (fun _ => q)⟩
    · exact ⟨_, rfl, aW, _, rfl, .inr (W.t H), rfl, rfl, _, rfl, ite2 (fun c => absurd c (by decide +kernel)) (fun _ => q)⟩
    · exact ⟨_, rfl, aW, _, rfl, .inr (W.t H), rfl, rfl, _, rfl, ite2 (fun c => absurd c (by decide +kernel)) (fun _ => q)⟩
end
end Fo
namespace Fo
open PySem PySem.Spec PyProof.Rows L2
def spFit : Sp := fun vs H Q _ => ∃ (a b : Addr) (ns ms : List Int), vs = [.ref a, .ref b] ∧ H a = some (.lst (ns.map V.int)) ∧ H b = some (.lst (ms.map V.int)) ∧ ns.length = ms.length ∧ Q .non H
section
variable {P : Program} {w : World} {K : PySem.W.Frag} {mg : Str → Option Value} {base : Heap}
theorem scFit : FnScope ["one", "other"] ["one", "other"] (defScope s_check_fit) := ⟨rfl, rfl, rfl, by decide +kernel, rfl, by decide +kernel, by decide +kernel⟩
theorem ok_fit {f : Addr} {fd : FuncData} {k : Nat} (T : Df K mg "check_fit" s_check_fit ["one", "other"] f fd) (B : Bi mg) : FnOk P w K mg base CX0 (k + 1) f fd ["one", "other"] spFit := by
  refine T.F.ok scFit (fun vs H Q E h => ?_) (fun cdv A outer s H vs Q E hr h => ?_)
  · obtain ⟨a, b, ns, ms, rfl, _⟩ := h
    rfl
  · obtain ⟨a, b, ns, ms, rfl, ha, hb, e, q⟩ := h
    refine ⟨_, 
      (pss_one (ps_if (pt_cmpR op_ne (pe_callB call_len_seq (by rfl) B.len PySem.boot_len (pa_cons (pv 0) pa_nil)) (pe_callB call_len_seq (by rfl) B.len PySem.boot_len (pa_cons (pv 1) pa_nil)) (nomark _))
        (pss_one ps_never)
        pss_nil)), ?_⟩
    refine ⟨_, rfl, a, _, rfl, .inl (SqL.of ha), _, rfl, b, _, rfl, .inl (SqL.of hb), rfl, _, rfl, ?_⟩
    rw [List.length_map, List.length_map, e]
    exact iteNS rfl q
end
end Fo
namespace Fo
open PySem PySem.Spec PyProof.Rows L2
def farW (w : Str) (xs ys : List Int) : Int := if w = "swap" then farSwap xs ys else if w = "spot" then farSpot xs ys else farShift xs ys
theorem farW_swap (xs ys : List Int) : farW "swap" xs ys = farSwap xs ys := if_pos rfl
theorem farW_spot (xs ys : List Int) : farW "spot" xs ys = farSpot xs ys := by
  unfold farW
  rw [if_neg n1, if_pos rfl]
theorem farW_shift (xs ys : List Int) : farW "shift" xs ys = farShift xs ys := by
  unfold farW
  rw [if_neg n2, if_neg n3]
theorem farW_turn {w : Str} {n : Nat} {xs ys : List Int} (ox : IsOrd n xs) (oy : IsOrd n ys) (hn : 1 ≤ n) : farW w ys xs = farW w xs ys := by
  unfold farW
  rw [farSwap_turn ox oy, farSpot_turn (by rw [ox.len, oy.len]), farShift_turn ox oy hn]
theorem farW_self {w : Str} {n : Nat} {xs : List Int} (ox : IsOrd n xs) (hn : 1 ≤ n) : farW w xs xs = 0 := by
  unfold farW
  rw [farSwap_self ox, farSpot_self, farShift_self ox hn]
  split
  · rfl
  · split <;> rfl
abbrev rAbs : List V → Hp → VK → Prop := fun xs H Q => ∃ i, xs = [.int i] ∧ Q (.int (if i < 0 then -i else i)) H
def spFar : Sp := fun vs H Q _ => ∃ (w : Str) (a b : Addr) (n : Nat) (xs ys : List Int), vs = [.str w, .ref a, .ref b] ∧ IsWay w ∧ H a = some (.lst (xs.map V.int)) ∧ H b = some (.lst (ys.map V.int)) ∧ IsOrd n xs ∧ IsOrd n ys ∧ 1 ≤ n ∧ n ≤ 12 ∧ ∀ (H' : Hp), Same H H' → Q (.int (farW w xs ys)) H'
end Fo
namespace Fo
open PySem PySem.Spec PyProof.Rows L2
def two (vs : List V) (H : Hp) (a b : Addr) (n : Nat) (xs ys : List Int) : Prop := vs = [.ref a, .ref b] ∧ H a = some (.lst (xs.map V.int)) ∧ H b = some (.lst (ys.map V.int)) ∧ IsOrd n xs ∧ IsOrd n ys ∧ 1 ≤ n ∧ n ≤ 12
end Fo
namespace Fo
open PySem PySem.Spec PyProof.Rows L2
def spPlaces : Sp := fun vs H Q _ => ∃ (a : Addr) (n : Nat) (ns : List Int), vs = [.ref a] ∧ H a = some (.lst (ns.map V.int)) ∧ IsOrd n ns ∧ 1 ≤ n ∧ n ≤ 12 ∧
  ∀ (ps : List Int) (l : Addr) (H' : Hp), IsBack ns ps → H l = none → H' l = some (.lst (ps.map V.int)) → Same H H' → Q (.ref l) H'
section
variable {P : Program} {w : World} {K : PySem.W.Frag} {mg : Str → Option Value} {base : Heap}
theorem scPlaces : FnScope ["order", "places", "place", "thing"] ["order"] (defScope s_places_in) := ⟨rfl, rfl, rfl, by decide +kernel, rfl, by decide +kernel, by decide +kernel⟩
set_option maxHeartbeats 2000000 in
theorem ok_places {f : Addr} {fd : FuncData} {k : Nat} (T : Df K mg "places_in" s_places_in ["order"] f fd) (B : Bi mg) : FnOk P w K mg base CX0 (k + 1) f fd ["order"] spPlaces := by
  refine T.F.ok scPlaces (fun vs H Q E h => ?_) (fun cdv A outer s H vs Q E hr h => ?_)
  · obtain ⟨a, n, ns, rfl, _⟩ := h
    rfl
  · obtain ⟨a, n, ns, rfl, ha, ho, hn1, hn2, q⟩ := h
    have hlm : (ns.map V.int).length = n := by rw [List.length_map, ho.len]
    have hz : ∀ m : Nat, (List.replicate m [V.int 0]).flatten = (List.replicate m (0 : Int)).map V.int := by
      intro m
      induction m with
      | zero => rfl
      | succ m ih => rw [List.replicate_succ, List.replicate_succ, List.flatten_cons, ih]; rfl
    refine ⟨_, 
      (pss_cons (ps_set (i := 1) scPlaces.nd rfl (.inl rfl) (pe_op op_rep (pe_lst (pa_cons pe_int pa_nil)) (pe_callB call_len_seq (by rfl) B.len PySem.boot_len (pa_cons (pv 0) pa_nil))))
      (pss_cons (ps_for PassesOwn.never rfl (pi_enum (by rfl) B.enumerate (pa_cons (pv 0) pa_nil)) (pg_tup (by rfl) (pgs_cons (pg_name (i := 2) scPlaces.nd rfl (.inl rfl)) (pgs_cons (pg_name (i := 3) scPlaces.nd rfl (.inl rfl)) pgs_nil)))
        (pss_one (ps_asg (pv 2) (pg_sub (pv 1) (pv 3) set_list))))
      (pss_one (ps_ret (pv 1))))), ?_⟩
    refine ⟨line_small (by show 1 ≤ 16777216; decide), fun z nz => ?_⟩
    have s1 := same_new (o := .lst [.int 0]) nz
    refine ⟨_, rfl, a, _, rfl, .inl (SqL.of (s1 _ _ ha)), z, _, _, rfl, rfl, upd_same, by omega, by rw [hlm]; omega, line_small (by rw [hlm, Int.toNat_natCast]; show 1 * n ≤ _; omega), fun l nl => ?_⟩
    have s2 := s1.trans (same_new (o := .lst (List.replicate (((ns.map V.int).length : Nat) : Int).toNat [V.int 0]).flatten) nl)
    have nHl : H l = none := s1.free nl
    refine ⟨_, rfl, a, _, rfl, SqL.of (s2 _ _ ha), ?_⟩
    refine for_enumL (xs := ns.map V.int) (fun i σ H3 => ∃ (y2 y3 : Option V) (ps : List Int), σ = [some (.ref a), some (.ref l), y2, y3] ∧ H3 l = some (.lst (ps.map V.int)) ∧ ps.length = n ∧ (∀ (j : Nat) (x : Int), j < i → ns[j]? = some x → ps[x.toNat]? = some (j : Int)) ∧ Same H H3)
      ⟨none, none, List.replicate n 0, rfl, by rw [upd_same, hz, hlm, Int.toNat_natCast], by rw [List.length_replicate], fun j x hj => absurd hj (Nat.not_lt_zero _), s2⟩ (fun i σ H3 hP => by obtain ⟨_, _, _, _, _, _, _, sm⟩ := hP; exact SqL.of (sm _ _ ha)) (fun i x t σ H3 hx hP nt => ?_) (fun σ H3 hP => ?_)
    · obtain ⟨y2, y3, ps, rfl, hl3, el, hat, sm⟩ := hP
      obtain ⟨y, ey, rfl⟩ := int_at_inv hx
      have hy := ho.mem (List.mem_of_getElem? ey)
      have s3 := same_new (o := .tup [.int (i : Nat), .int y]) nt
      have hl4 := s3 _ _ hl3
      refine ⟨t, _, rfl, .inl (.inl upd_same), rfl, _, _, rfl, _, _, rfl, rfl, ?_⟩
      refine ⟨_, rfl, _, rfl, _, rfl, l, _, _, y.toNat, rfl, rfl, hl4, ix_n (by omega) (by rw [List.length_map]; omega), ?_⟩
      refine ⟨_, _, ps.set y.toNat (i : Int), rfl, by rw [upd_same, List.map_set], by rw [List.length_set]; exact el, fun j x hj hx2 => ?_, fun c o e => ?_⟩
      · by_cases c : j = i
        · subst c
          have e1 : x = y := Option.some.inj (hx2.symm.trans ey)
          subst e1
          rw [List.getElem?_set_self (by omega)]
        · have hx3 := ho.mem (List.mem_of_getElem? hx2)
          have ne : y.toNat ≠ x.toNat := fun e => c (nd_ix ho.nodup hx2 (by rw [ey]; congr 1; omega))
          rw [List.getElem?_set_ne ne]
          exact hat j x (by omega) hx2
      · rw [upd_ne (ne_of_none e nHl)]
        exact s3 _ _ (sm _ _ e)
    · obtain ⟨y2, y3, ps, rfl, hl3, el, hat, sm⟩ := hP
      rw [hlm] at hat
      refine ⟨_, rfl, q ps l H3 ⟨by rw [el, ho.len], fun j x hx => hat j x ?_ hx⟩ nHl hl3 sm⟩
      have := (List.getElem?_eq_some_iff.mp hx).1
      rw [ho.len] at this
      exact this
end
end Fo
namespace Fo
open PySem PySem.Spec PyProof.Rows L2
theorem g0_getD {s : List Int} {i : Nat} {x : Int} (h : s[i]? = some x) : g0 s i = x := g0_at h
def spSeats : Sp := fun vs H Q _ => ∃ (a b : Addr) (n : Nat) (xs ys : List Int), two vs H a b n xs ys ∧ ∀ (l : Addr) (H' : Hp), H l = none → H' l = some (.lst ((seatsL xs ys).map V.int)) → Same H H' → Q (.ref l) H'
section
variable {P : Program} {w : World} {K : PySem.W.Frag} {mg : Str → Option Value} {base : Heap}
theorem scSeats : FnScope ["one", "other", "places", "thing"] ["one", "other"] (defScope s_seats_in) := ⟨rfl, rfl, rfl, by decide +kernel, rfl, by decide +kernel, by decide +kernel⟩
set_option maxHeartbeats 2000000 in
theorem ok_seats {f fP : Addr} {fd fdP : FuncData} {k : Nat} (T : Df K mg "seats_in" s_seats_in ["one", "other"] f fd) (T_places_in : Df K mg "places_in" s_places_in ["order"] fP fdP) (B : Bi mg) : FnOk P w K mg base CX0 (k + 2) f fd ["one", "other"] spSeats := by
  have G_places_in : FnOk P w K mg base CX0 (k + 1) fP fdP ["order"] spPlaces := ok_places T_places_in B
  refine T.F.ok scSeats (fun vs H Q E h => ?_) (fun cdv A outer s H vs Q E hr h => ?_)
  · obtain ⟨a, b, n, xs, ys, ⟨rfl, _⟩, _⟩ := h
    rfl
  · obtain ⟨a, b, n, xs, ys, ⟨rfl, ha, hb, ox, oy, hn1, hn2⟩, q⟩ := h
    refine ⟨_, 
      (pss_cons (ps_set (i := 2) scSeats.nd rfl (.inr rfl) (pe_call G_places_in hr (by rfl) T_places_in.g T_places_in.F.kp T_places_in.b .nil pass0 (pa_cons (pv 1) pa_nil)))
      (pss_one (ps_ret (pe_lc (own := [("thing", 3)]) (g := (gName 3)) (tt := tYes) (te := (tOp (rIxL K) (tVar 2) (tVar 3))) rfl scSeats.nd (pi_list (pv 0)) (blkOk_by (N := ["one", "other", "places", "thing"]) (sc := defScope s_seats_in) (by decide +kernel)) (fun _ _ _ _ _ => (pg_name (i := 3) scSeats.nd rfl (.inl rfl))) (fun _ _ _ _ _ => pts_nil) (fun _ _ _ _ _ => (pe_ix ix_list (pv 2) (pv 3) (fun _ _ => rfl))))))), ?_⟩
    refine ⟨_, rfl, b, n, ys, rfl, hb, oy, hn1, hn2, fun ps l H1 hps nl hl s1 => ?_⟩
    refine ⟨_, rfl, a, rfl, ⟨_, SqL.of (s1 _ _ ha)⟩, fun D nD => ?_⟩
    have nHD : H D = none := s1.free nD
    refine lc_list (K := K) (a := a) (xs := xs.map V.int) (fun i H3 => H3 D = some (.lst (((seatsL xs ys).take i).map V.int)) ∧ H3 l = some (.lst (ps.map V.int)) ∧ Same H H3) ⟨upd_same, same_new nD _ _ hl, s1.trans (same_new nD)⟩ (fun i H3 _ hP => SqL.of (hP.2.2 _ _ ha)) (fun i x H3 hx hP => ?_) (fun H3 hP => ?_)
    · obtain ⟨y, ey, rfl⟩ := int_at_inv hx
      obtain ⟨hD3, hl3, sm⟩ := hP
      have hy := ox.mem (List.mem_of_getElem? ey)
      have hi := (List.getElem?_eq_some_iff.mp ey).1
      rw [ox.len] at hi
      refine ⟨rfl, _, rfl, _, rfl, l, _, _, _, rfl, rfl, SqL.of hl3, at_of (j := y.toNat) (by omega) (int_at (back_pos oy hps hy.1 hy.2)), _, hD3, line_lt (by rw [List.length_map, List.length_take]; omega), ?_, ?_, fun c o e => ?_⟩
      · rw [upd_same, take_more (seats_at ey), List.map_append]
        rfl
      · rw [upd_ne (ne_of_none hl nD)]
        exact hl3
      · rw [upd_ne (ne_of_none e nHD)]
        exact sm _ _ e
    · obtain ⟨hD3, hl3, sm⟩ := hP
      rw [List.take_of_length_le (by rw [seats_len, List.length_map]; exact Nat.le_refl _)] at hD3
      exact q D H3 nHD hD3 sm
end
end Fo
namespace Fo
open PySem PySem.Spec PyProof.Rows L2
def spSwap : Sp := fun vs H Q _ => ∃ (a b : Addr) (n : Nat) (xs ys : List Int), two vs H a b n xs ys ∧ ∀ (H' : Hp), Same H H' → Q (.int (farSwap xs ys)) H'
def spSpot : Sp := fun vs H Q _ => ∃ (a b : Addr) (n : Nat) (xs ys : List Int), two vs H a b n xs ys ∧ ∀ (H' : Hp), Same H H' → Q (.int (farSpot xs ys)) H'
def spShift : Sp := fun vs H Q _ => ∃ (a b : Addr) (n : Nat) (xs ys : List Int), two vs H a b n xs ys ∧ ∀ (H' : Hp), Same H H' → Q (.int (farShift xs ys)) H'
section
variable {P : Program} {w : World} {K : PySem.W.Frag} {mg : Str → Option Value} {base : Heap}
theorem scSwap : FnScope ["one", "other", "seats", "turned", "place", "seat", "later"] ["one", "other"] (defScope s_far_by_swap) := ⟨rfl, rfl, rfl, by decide +kernel, rfl, by decide +kernel, by decide +kernel⟩
set_option maxHeartbeats 2000000 in
theorem ok_swap {f fP : Addr} {fd fdP : FuncData} {k : Nat} (T : Df K mg "far_by_swap" s_far_by_swap ["one", "other"] f fd) (T_seats_in : Df K mg "seats_in" s_seats_in ["one", "other"] fP fdP) (G_seats_in : FnOk P w K mg base CX0 k fP fdP ["one", "other"] spSeats) (B : Bi mg) : FnOk P w K mg base CX0 (k + 1) f fd ["one", "other"] spSwap := by
  refine T.F.ok scSwap (fun vs H Q E h => ?_) (fun cdv A outer s H vs Q E hr h => ?_)
  · obtain ⟨a, b, n, xs, ys, ⟨rfl, _⟩, _⟩ := h
    rfl
  · obtain ⟨a, b, n, xs, ys, ⟨rfl, ha, hb, ox, oy, hn1, hn2⟩, q⟩ := h
    refine ⟨_, 
      (pss_cons (ps_set (i := 2) scSwap.nd rfl (.inl rfl) (pe_call G_seats_in hr (by rfl) T_seats_in.g T_seats_in.F.kp T_seats_in.b .nil pass0 (pa_cons (pv 0) (pa_cons (pv 1) pa_nil))))
      (pss_cons (ps_set (i := 3) scSwap.nd rfl (.inl rfl) pe_int)
      (pss_cons (ps_for PassesOwn.never rfl (pi_enum (by rfl) B.enumerate (pa_cons (pv 2) pa_nil)) (pg_tup (by rfl) (pgs_cons (pg_name (i := 4) scSwap.nd rfl (.inl rfl)) (pgs_cons (pg_name (i := 5) scSwap.nd rfl (.inr rfl)) pgs_nil)))
        (pss_one (ps_aug (i := 3) scSwap.nd rfl (.inl rfl) (pe_callB call_len_seq (by rfl) B.len PySem.boot_len (pa_cons (pe_lc (own := [("later", 6)]) (g := (gName 6)) (tt := (tTest (tOp (rI0 fun i j => .bl (decide (i < j))) (tVar 6) (tVar 5)))) (te := (tVar 6)) rfl scSwap.nd (pi_list (pe_slice sl_list (pv 2) (po_some (pe_op op_add (pv 4) pe_int)) po_none)) (blkOk_by (N := ["one", "other", "seats", "turned", "place", "seat", "later"]) (sc := defScope s_far_by_swap) (by decide +kernel)) (fun _ _ _ _ _ => (pg_name (i := 6) scSwap.nd rfl (.inl rfl))) (fun _ _ _ _ _ => (pts_one (pt_cmpR op_lt (pv 6) (pv 5) (nomark _)))) (fun _ _ _ _ _ => (pv 6))) pa_nil)) ip_add)))
      (pss_one (ps_ret (pv 3)))))), ?_⟩
    refine ⟨_, rfl, _, rfl, a, b, n, xs, ys, ⟨rfl, ha, hb, ox, oy, hn1, hn2⟩, fun l H1 nl hl s1 => ?_⟩
    have os := seats_ord ox oy
    refine ⟨_, rfl, l, _, rfl, SqL.of hl, ?_⟩
    refine for_enumL (xs := (seatsL xs ys).map V.int) (fun i σ H3 => ∃ (y4 y5 y6 : Option V), σ = [some (.ref a), some (.ref b), some (.ref l), some (.int ((sumN (rg i) (fun p => cntL (seatsL xs ys) p.toNat) : Nat) : Int)), y4, y5, y6] ∧ H3 l = some (.lst ((seatsL xs ys).map V.int)) ∧ Same H H3)
      ⟨none, none, none, rfl, hl, s1⟩ (fun i σ H3 hP => by obtain ⟨_, _, _, _, hl3, _⟩ := hP; exact SqL.of hl3) (fun i x t σ H3 hx hP nt => ?_) (fun σ H3 hP => ?_)
    · obtain ⟨y4, y5, y6, rfl, hl3, sm⟩ := hP
      obtain ⟨y, ey, rfl⟩ := int_at_inv hx
      have hi := (List.getElem?_eq_some_iff.mp ey).1
      rw [os.len] at hi
      have s3 := same_new (o := .tup [.int (i : Nat), .int y]) nt
      refine ⟨t, _, rfl, .inl (.inl upd_same), rfl, _, _, rfl, _, _, rfl, rfl, ?_⟩
      refine ⟨_, rfl, _, rfl, _, rfl, (i : Int), 1, rfl, rfl, _, rfl, l, _, rfl, SqL.of (s3 _ _ hl3), fun c nc => ?_⟩
      have s4 := s3.trans (same_new (o := .lst (cutV ((seatsL xs ys).map V.int) (some ((i : Int) + 1)) none)) nc)
      have ecut : cutV ((seatsL xs ys).map V.int) (some ((i : Int) + 1)) none = (((seatsL xs ys).drop (i + 1)).map V.int) := by
        rw [cut_ints, show (i : Int) + 1 = ((i + 1 : Nat) : Int) by omega, cutI_tail]
      have hc4 : (upd (upd H3 t (.tup [.int (i : Nat), .int y])) c (.lst (cutV ((seatsL xs ys).map V.int) (some ((i : Int) + 1)) none))) c = some (.lst (((seatsL xs ys).drop (i + 1)).map V.int)) := by rw [upd_same, ecut]
      refine ⟨c, rfl, ⟨_, SqL.of hc4⟩, fun D nD => ?_⟩
      have ncD : c ≠ D := ne_of_none hc4 nD
      refine lc_list (K := K) (a := c) (xs := ((seatsL xs ys).drop (i + 1)).map V.int) (fun m H5 => H5 D = some (.lst (((((seatsL xs ys).drop (i + 1)).take m).filter (fun z => decide (z < g0 (seatsL xs ys) i))).map V.int)) ∧ H5 c = some (.lst (((seatsL xs ys).drop (i + 1)).map V.int)) ∧ Same H3 H5)
        ⟨upd_same, by rw [upd_ne ncD]; exact hc4, s4.trans (same_new nD)⟩ (fun m H5 _ hP => SqL.of hP.2.1) (fun m x H5 hx hP => ?_) (fun H5 hP => ?_)
      · obtain ⟨hD5, hc5, s5⟩ := hP
        obtain ⟨z, ez, rfl⟩ := int_at_inv hx
        have eg : g0 (seatsL xs ys) i = y := g0_at ey
        refine ⟨rfl, _, rfl, _, rfl, z, y, rfl, rfl, _, rfl, ite2 (fun c => ?_) (fun c => ?_)⟩
        · have hz : z < y := of_decide_eq_true c
          refine ⟨_, rfl, _, hD5, line_lt ?_, ?_, by rw [upd_ne ncD]; exact hc5, fun u o e => ?_⟩
          · rw [List.length_map]
            refine Nat.lt_of_le_of_lt (List.length_filter_le _ _) ?_
            rw [List.length_take, List.length_drop, os.len]
            omega
          · rw [upd_same, filter_more _ ez, eg, decide_eq_true hz, if_pos rfl, List.map_append]
            rfl
          · rw [upd_ne (ne_of_none (s4 _ _ e) nD)]
            exact s5 _ _ e
        · refine ⟨?_, hc5, s5⟩
          rw [filter_more _ ez, eg, decide_eq_false (fun hz => c (decide_eq_true hz)), if_neg (by decide), List.append_nil]
          rw [eg] at hD5
          exact hD5
      · obtain ⟨hD5, hc5, s5⟩ := hP
        rw [List.length_map, List.take_length] at hD5
        refine ⟨D, _, rfl, .inl (SqL.of hD5), _, _, rfl, rfl, ?_⟩
        refine ⟨some (.int (i : Int)), some (.int y), y6, ?_, s5 _ _ hl3, sm.trans s5⟩
        rw [rg_succ, sumN_append, sumN_cons, sumN_nil, List.length_map]
        show [some (.ref a), some (.ref b), some (.ref l), some (V.int (((sumN (rg i) (fun p => cntL (seatsL xs ys) p.toNat) : Nat) : Int) + ((cntL (seatsL xs ys) i : Nat) : Int))), some (.int (i : Int)), some (.int y), y6] = _
        rw [Int.toNat_natCast, Int.natCast_add, Nat.add_zero]
    · obtain ⟨y4, y5, y6, rfl, hl3, sm⟩ := hP
      refine ⟨_, rfl, ?_⟩
      have z := q H3 sm
      unfold farSwap invN at z
      rw [List.length_map]
      exact z
theorem scSpot : FnScope ["one", "other", "place"] ["one", "other"] (defScope s_far_by_spot) := ⟨rfl, rfl, rfl, by decide +kernel, rfl, by decide +kernel, by decide +kernel⟩
set_option maxHeartbeats 2000000 in
theorem ok_spot {f : Addr} {fd : FuncData} {k : Nat} (T : Df K mg "far_by_spot" s_far_by_spot ["one", "other"] f fd) (B : Bi mg) : FnOk P w K mg base CX0 (k + 1) f fd ["one", "other"] spSpot := by
  refine T.F.ok scSpot (fun vs H Q E h => ?_) (fun cdv A outer s H vs Q E hr h => ?_)
  · obtain ⟨a, b, n, xs, ys, ⟨rfl, _⟩, _⟩ := h
    rfl
  · obtain ⟨a, b, n, xs, ys, ⟨rfl, ha, hb, ox, oy, hn1, hn2⟩, q⟩ := h
    have hxl : (xs.map V.int).length = n := by rw [List.length_map, ox.len]
    refine ⟨_, 
      (pss_one (ps_ret (pe_callB call_len_seq (by rfl) B.len PySem.boot_len (pa_cons (pe_lc (own := [("place", 2)]) (g := (gName 2)) (tt := (tTest (tOp rNe (tOp (rIxL K) (tVar 0) (tVar 2)) (tOp (rIxL K) (tVar 1) (tVar 2))))) (te := (tVar 2)) rfl scSpot.nd (pi_range1 (by rfl) B.range (pa_cons (pe_callB call_len_seq (by rfl) B.len PySem.boot_len (pa_cons (pv 0) pa_nil)) pa_nil)) (blkOk_by (N := ["one", "other", "place"]) (sc := defScope s_far_by_spot) (by decide +kernel)) (fun _ _ _ _ _ => (pg_name (i := 2) scSpot.nd rfl (.inl rfl))) (fun _ _ _ _ _ => (pts_one (pt_cmpR op_ne (pe_ix ix_list (pv 0) (pv 2) (fun _ _ => rfl)) (pe_ix ix_list (pv 1) (pv 2) (fun _ _ => rfl)) (nomark _)))) (fun _ _ _ _ _ => (pv 2))) pa_nil)))), ?_⟩
    refine ⟨_, rfl, a, _, rfl, .inl (SqL.of ha), _, rfl, by omega, by rw [hxl]; omega, fun D nD => ?_⟩
    rw [hxl, Int.toNat_natCast]
    refine lc_range (lo := 0) (n := n) (fun m H3 => H3 D = some (.lst (((rg m).filter (fun p => !decide (g0 xs p = g0 ys p))).map V.int)) ∧ Same H H3) ⟨upd_same, same_new nD⟩ (fun m H3 hm hP => ?_) (fun H3 hP => ?_)
    · obtain ⟨hD3, sm⟩ := hP
      obtain ⟨x, ex, _⟩ := ord_ix ox hm
      obtain ⟨y, ey, _⟩ := ord_ix oy hm
      have gx : g0 xs (m : Int) = x := g0_at ex
      have gy : g0 ys (m : Int) = y := g0_at ey
      have fm : ((rg (m + 1)).filter fun p => !decide (g0 xs p = g0 ys p)) = ((rg m).filter fun p => !decide (g0 xs p = g0 ys p)) ++ (if x = y then [] else [(m : Int)]) := by
        rw [rg_succ, List.filter_append, List.filter_cons, gx, gy]
        congr 1
        by_cases c : x = y
        · simp [c]
        · simp [c]
      refine ⟨rfl, _, rfl, _, rfl, a, _, _, _, rfl, rfl, SqL.of (sm _ _ ha), at_of (j := m) (by omega) (int_at ex), _, rfl, _, rfl, b, _, _, _, rfl, rfl, SqL.of (sm _ _ hb), at_of (j := m) (by omega) (int_at ey), rfl, _, rfl, ?_⟩
      by_cases c : x = y
      · subst c
        refine iteNS rfl ⟨?_, sm⟩
        rw [fm, if_pos rfl, List.append_nil]
        exact hD3
      · rw [decide_eq_false (fun e => c (V.int.inj e))]
        refine iteT ⟨_, rfl, _, hD3, line_lt ?_, ?_, fun u o e => ?_⟩
        · rw [List.length_map]
          refine Nat.lt_of_le_of_lt (List.length_filter_le _ _) ?_
          rw [rg_len]
          omega
        · rw [upd_same, fm, if_neg c, List.map_append, Int.zero_add]
          rfl
        · rw [upd_ne (ne_of_none e nD)]
          exact sm _ _ e
    · obtain ⟨hD3, sm⟩ := hP
      refine ⟨D, _, rfl, .inl (SqL.of hD3), ?_⟩
      have z := q H3 sm
      unfold farSpot spotL at z
      rw [ox.len] at z
      rw [List.length_map]
      exact z
theorem scShift : FnScope ["one", "other", "place", "seat"] ["one", "other"] (defScope s_far_by_shift) := ⟨rfl, rfl, rfl, by decide +kernel, rfl, by decide +kernel, by decide +kernel⟩
set_option maxHeartbeats 2000000 in
theorem ok_shift {f fP : Addr} {fd fdP : FuncData} {k : Nat} (T : Df K mg "far_by_shift" s_far_by_shift ["one", "other"] f fd) (T_seats_in : Df K mg "seats_in" s_seats_in ["one", "other"] fP fdP) (G_seats_in : FnOk P w K mg base CX0 k fP fdP ["one", "other"] spSeats) (B : Bi mg) : FnOk P w K mg base CX0 (k + 1) f fd ["one", "other"] spShift := by
  refine T.F.ok scShift (fun vs H Q E h => ?_) (fun cdv A outer s H vs Q E hr h => ?_)
  · obtain ⟨a, b, n, xs, ys, ⟨rfl, _⟩, _⟩ := h
    rfl
  · obtain ⟨a, b, n, xs, ys, ⟨rfl, ha, hb, ox, oy, hn1, hn2⟩, q⟩ := h
    refine ⟨_, 
      (pss_one (ps_ret (pe_callB (cr_max rfl) (by rfl) B.max (by decide +kernel) (pa_cons (pe_lc (own := [("place", 2), ("seat", 3)]) (g := (gTup K 2 (gCons (gName 2) (gCons (gName 3) gNil)))) (tt := tYes) (te := (tCB rAbs (tCons (tOp (rI0 fun i j => .int (i - j)) (tVar 2) (tVar 3)) tNil))) rfl scShift.nd (pi_enum (by rfl) B.enumerate (pa_cons (pe_call G_seats_in hr (by rfl) T_seats_in.g T_seats_in.F.kp T_seats_in.b .nil pass0 (pa_cons (pv 0) (pa_cons (pv 1) pa_nil))) pa_nil)) (blkOk_by (N := ["one", "other", "place", "seat"]) (sc := defScope s_far_by_shift) (by decide +kernel)) (fun _ _ _ _ _ => (pg_tup (by rfl) (pgs_cons (pg_name (i := 2) scShift.nd rfl (.inl rfl)) (pgs_cons (pg_name (i := 3) scShift.nd rfl (.inl rfl)) pgs_nil)))) (fun _ _ _ _ _ => pts_nil) (fun _ _ _ _ _ => (pe_callB call_abs (by rfl) B.abs (by decide +kernel) (pa_cons (pe_op op_sub (pv 2) (pv 3)) pa_nil)))) pa_nil)))), ?_⟩
    have os := seats_ord ox oy
    refine ⟨_, rfl, _, rfl, a, b, n, xs, ys, ⟨rfl, ha, hb, ox, oy, hn1, hn2⟩, fun l H1 nl hl s1 => ?_⟩
    refine ⟨l, _, rfl, SqL.of hl, fun D nD => ?_⟩
    have nlD : l ≠ D := ne_of_none hl nD
    have nHD : H D = none := s1.free nD
    refine lc_enumL (K := K) (a := l) (xs := (seatsL xs ys).map V.int) (fun m H3 => H3 D = some (.lst (((gapsL xs ys).take m).map V.int)) ∧ H3 l = some (.lst ((seatsL xs ys).map V.int)) ∧ Same H H3) ⟨upd_same, by rw [upd_ne nlD]; exact hl, s1.trans (same_new nD)⟩ (fun m H3 _ hP => SqL.of hP.2.1) (fun m x t H3 hx hP nt => ?_) (fun H3 hP => ?_)
    · obtain ⟨hD3, hl3, sm⟩ := hP
      obtain ⟨y, ey, rfl⟩ := int_at_inv hx
      have hi := (List.getElem?_eq_some_iff.mp ey).1
      rw [os.len] at hi
      have s3 := same_new (o := .tup [.int (m : Nat), .int y]) nt
      have eg : (gapsL xs ys)[m]? = some (absI ((m : Int) - y)) := by
        unfold gapsL rg
        rw [List.map_map, List.getElem?_map, List.getElem?_range (by rw [ox.len]; exact hi)]
        show some (absI ((m : Int) - g0 (seatsL xs ys) (m : Int))) = _
        rw [g0_at ey]
      refine ⟨t, _, rfl, .inl (.inl upd_same), rfl, _, _, rfl, _, _, rfl, rfl, rfl, ?_⟩
      refine ⟨_, rfl, _, rfl, (m : Int), y, rfl, rfl, _, rfl, _, s3 _ _ hD3, line_lt (by rw [List.length_map, List.length_take, gaps_len, ox.len]; omega), ?_, ?_, fun u o e => ?_⟩
      · rw [upd_same, take_more eg, List.map_append]
        rfl
      · rw [upd_ne nlD]
        exact s3 _ _ hl3
      · rw [upd_ne (ne_of_none e nHD)]
        exact s3 _ _ (sm _ _ e)
    · obtain ⟨hD3, hl3, sm⟩ := hP
      rw [List.take_of_length_le (by rw [gaps_len, List.length_map, seats_len]; exact Nat.le_refl _)] at hD3
      refine ⟨D, gapsL xs ys, rfl, SqL.of hD3, by rw [gaps_len, ox.len]; exact hn1, fun m hm hle => ?_⟩
      have e : farShift xs ys = m := maxL_of (gaps_nonneg xs ys) hm hle
      rw [← e]
      exact q H3 sm
theorem scKnown : FnScope ["way", "one", "other"] ["way", "one", "other"] (defScope s_known_far) := ⟨rfl, rfl, rfl, by decide +kernel, rfl, by decide +kernel, by decide +kernel⟩
theorem ok_known {f f4 f5 f6 : Addr} {fd d4 d5 d6 : FuncData} {k : Nat} (T : Df K mg "known_far" s_known_far ["way", "one", "other"] f fd) (T_far_by_swap : Df K mg "far_by_swap" s_far_by_swap ["one", "other"] f4 d4) (T_far_by_spot : Df K mg "far_by_spot" s_far_by_spot ["one", "other"] f5 d5) (T_far_by_shift : Df K mg "far_by_shift" s_far_by_shift ["one", "other"] f6 d6)
    (G_far_by_swap : FnOk P w K mg base CX0 k f4 d4 ["one", "other"] spSwap) (G_far_by_spot : FnOk P w K mg base CX0 k f5 d5 ["one", "other"] spSpot) (G_far_by_shift : FnOk P w K mg base CX0 k f6 d6 ["one", "other"] spShift) :
    FnOk P w K mg base CX0 (k + 1) f fd ["way", "one", "other"] spFar := by
  refine T.F.ok scKnown (fun vs H Q E h => ?_) (fun cdv A outer s H vs Q E hr h => ?_)
  · obtain ⟨z, a, b, n, xs, ys, rfl, _⟩ := h
    rfl
  · obtain ⟨z, a, b, n, xs, ys, rfl, hz, ha, hb, ox, oy, hn1, hn2, q⟩ := h
    refine ⟨_, 
      (pss_cons (ps_if (pt_cmpR op_eq (pv 0) pe_str (nomark _))
        (pss_one (ps_ret (pe_call G_far_by_swap hr (by rfl) T_far_by_swap.g T_far_by_swap.F.kp T_far_by_swap.b .nil pass0 (pa_cons (pv 1) (pa_cons (pv 2) pa_nil)))))
        pss_nil)
      (pss_cons (ps_if (pt_cmpR op_eq (pv 0) pe_str (nomark _))
        (pss_one (ps_ret (pe_call G_far_by_spot hr (by rfl) T_far_by_spot.g T_far_by_spot.F.kp T_far_by_spot.b .nil pass0 (pa_cons (pv 1) (pa_cons (pv 2) pa_nil)))))
        pss_nil)
      (pss_one (ps_ret (pe_call G_far_by_shift hr (by rfl) T_far_by_shift.g T_far_by_shift.F.kp T_far_by_shift.b .nil pass0 (pa_cons (pv 1) (pa_cons (pv 2) pa_nil))))))), ?_⟩
    rcases hz with rfl | rfl | rfl
    · refine ⟨_, rfl, rfl, _, rfl, ite2 (fun _ => ?_) (fun c => absurd (by decide +kernel) c)⟩
      exact ⟨_, rfl, _, rfl, a, b, n, xs, ys, ⟨rfl, ha, hb, ox, oy, hn1, hn2⟩, fun H2 s2 => by rw [← farW_swap]; exact q H2 s2⟩
    · refine ⟨_, rfl, rfl, _, rfl, ite2 (fun c => absurd c (by decide +kernel)) (fun _ => ?_)⟩
      refine ⟨_, rfl, rfl, _, rfl, ite2 (fun _ => ?_) (fun c => absurd (by decide +kernel) c)⟩
      exact ⟨_, rfl, _, rfl, a, b, n, xs, ys, ⟨rfl, ha, hb, ox, oy, hn1, hn2⟩, fun H2 s2 => by rw [← farW_spot]; exact q H2 s2⟩
    · refine ⟨_, rfl, rfl, _, rfl, ite2 (fun c => absurd c (by decide +kernel)) (fun _ => ?_)⟩
      refine ⟨_, rfl, rfl, _, rfl, ite2 (fun c => absurd c (by decide +kernel)) (fun _ => ?_)⟩
      exact ⟨_, rfl, _, rfl, a, b, n, xs, ys, ⟨rfl, ha, hb, ox, oy, hn1, hn2⟩, fun H2 s2 => by rw [← farW_shift]; exact q H2 s2⟩
end
end Fo
namespace Fo
open PySem PySem.Spec PyProof.Rows L2
abbrev dM (m : Int) (xs : List Int) : PyData := .tuple [.int m, dL xs]
theorem shaped_mid (m : Int) (xs : List Int) : SeqAt.shaped (dM m xs) = true := by
  unfold SeqAt.shaped
  rw [Bool.and_eq_true_iff]
  constructor
  · rw [PyData.canLay0]
    show (PyData.canLay0 (.int m) && (PyData.canLay0 (dL xs) && PyData.canLayAll0 [])) = true
    rw [lay_list]
    rfl
  · apply decide_eq_true
    rw [PyData.depth]
    show PyData.depthAll [.int m, dL xs] + 1 ≤ _
    rw [PyData.depthAll, PyData.depthAll, depth_list]
    simp [PyData.depth, PyData.depthAll]
theorem dp_mid {K : PySem.W.Frag} {H : Hp} {p g : Addr} {m : Int} {xs : List Int} (hp : H p = some (.tup [.int m, .ref g])) (hg : H g = some (.lst (xs.map V.int))) : Dp K H (.ref p) (dM m xs) := .tup (SqT.of hp) (.cons (.int m) (.cons (dp_list hg) .nil))
def rLtM (K : PySem.W.Frag) : R2 := fun x y H Q => ∃ (m m' : Int) (xs xs' : List Int), Dp K H x (dM m xs) ∧ Dp K H y (dM m' xs') ∧ Q (.bl (decide (m < m' ∨ (m = m' ∧ xs < xs')))) H
theorem lt_mid (m m' : Int) (xs xs' : List Int) : PySem.W.dataLt (dM m xs) (dM m' xs') = decide (m < m' ∨ (m = m' ∧ xs < xs')) := by
  have al : PySem.W.alike (dL xs) (dL xs') = true := by
    simp only [PySem.W.alike]
    exact PySem.W.alike_ints _ _
  rw [PySem.W.dataLt_pair (by simp [PySem.W.alike]) al, eqv_int, eqv_ints, PySem.W.dataLt_int, PySem.W.dataLt_list]
  have e := PySem.W.dataLt_ints xs xs'
  unfold PySem.W.rowLt at e
  rw [e]
  by_cases c : m = m'
  · subst c
    have h0 : ¬ m < m := Int.lt_irrefl m
    by_cases d : xs = xs'
    · subst d
      have h1 : ¬ xs < xs := List.lt_irrefl xs
      simp [h1]
    · simp [d]
  · simp [c]
theorem op_ltM {X : Cx} (hu : X.A.units + 64 < cLine) : OpR X (compareOp .Lt) (rLtM X.K) := by
  intro pins s σ H x y v u Q I rx ry h
  obtain ⟨m, m', xs, xs', hd, he, q⟩ := h
  obtain ⟨as, r1⟩ := Dp.reads I _ _ _ hd rx
  obtain ⟨bs, r2⟩ := Dp.reads I _ _ _ he ry
  refine PySem.W.lt_data r1 r2 ?_ (fun z => by cases z) ?_ ?_
  · simp only [PySem.W.alike, PySem.W.alikeAll]
    simp [PySem.W.alike_ints]
  · have e : (dM m xs).depth = 2 := by
      rw [PyData.depth]
      show PyData.depthAll [.int m, dL xs] + 1 = 2
      rw [PyData.depthAll, PyData.depthAll, depth_list]
      simp [PyData.depth, PyData.depthAll]
    rw [e]
    have := Nat.min_le_left 2 (dM m' xs').depth
    omega
  · rw [lt_mid]
    exact ⟨.bl _, H, I, rfl, q⟩
end Fo
namespace Fo
open PySem PySem.Spec PyProof.Rows L2
/-! ### a deck: a list of drawn numbers that never gets empty -/
def DqAt (H : Hp) (d : Addr) : Prop := ∃ ms : List Int, H d = some (.lst (ms.map V.int)) ∧ 1 ≤ ms.length ∧ ms.length ≤ 1200 ∧ ∀ m ∈ ms, 0 ≤ m ∧ m < 2147483648
def KeepD (d : Addr) (H H' : Hp) : Prop := ∀ b o, H b = some o → b ≠ d → H' b = some o
theorem KeepD.refl (d : Addr) (H : Hp) : KeepD d H H := fun _ _ e _ => e
theorem KeepD.trans {d : Addr} {H H1 H2 : Hp} (a : KeepD d H H1) (b : KeepD d H1 H2) : KeepD d H H2 := fun c o e f => b c o (a c o e f) f
theorem KeepD.of_same {d : Addr} {H H' : Hp} (h : Same H H') : KeepD d H H' := fun b o e _ => h b o e
theorem KeepD.new {d : Addr} {H : Hp} {p : Addr} {o : HO} (e : H p = none) : KeepD d H (upd H p o) := KeepD.of_same (same_new e)
theorem KeepD.none {d : Addr} {H H1 : Hp} (k : KeepD d H H1) {p : Addr} (np : H1 p = none) (nf : p ≠ d) : H p = none := by
  cases e : H p with
  | none => rfl
  | some o =>
    have z := k p o e nf
    rw [np] at z
    cases z
theorem DqAt.same {H H' : Hp} {d : Addr} (h : DqAt H d) (s : Same H H') : DqAt H' d := by
  obtain ⟨ms, e, r⟩ := h
  exact ⟨ms, s _ _ e, r⟩
theorem DqAt.ne {H : Hp} {d : Addr} (h : DqAt H d) {p : Addr} (e : H p = none) : p ≠ d := by
  obtain ⟨ms, e1, _⟩ := h
  exact (ne_of_none e1 e).symm
theorem DqAt.upd {H : Hp} {d : Addr} (h : DqAt H d) {p : Addr} {o : HO} (n1 : p ≠ d) : DqAt (upd H p o) d := by
  obtain ⟨ms, e, r⟩ := h
  exact ⟨ms, by rw [upd_ne n1.symm]; exact e, r⟩
theorem DqAt.new {H : Hp} {d : Addr} (h : DqAt H d) {p : Addr} {o : HO} (e : H p = none) : DqAt (L2.upd H p o) d := h.upd (h.ne e)
def spCell (K : PySem.W.Frag) : Sp := fun vs H Q _ => ∃ (a : Addr) (ns : List Int) (k : Nat), vs = [.ref a, .int k] ∧ SqL K H a (ns.map V.int) ∧ ∀ (v : Int), Q (.int v) H
def spStir : Sp := fun vs H Q _ => ∃ (c k : Int), vs = [.int c, .int k] ∧ 0 ≤ k ∧ k ≤ 1200 ∧ ∀ (v : Int), 0 ≤ v → v < 2147483648 → Q (.int v) H
def spDeckN : Sp := fun vs H Q _ => ∃ (c : Int) (many : Nat), vs = [.int c, .int many] ∧ 1 ≤ many ∧ many ≤ 1200 ∧ ∀ (d : Addr) (H' : Hp), H d = none → DqAt H' d → Same H H' → Q (.ref d) H'
def spNext : Sp := fun vs H Q _ => ∃ (d : Addr), vs = [.ref d] ∧ DqAt H d ∧ ∀ (v : Int) (H' : Hp), 0 ≤ v → v < 2147483648 → DqAt H' d → KeepD d H H' → Q (.int v) H'
def spOrderN : Sp := fun vs H Q _ => ∃ (d : Addr) (n : Nat), vs = [.ref d, .int n] ∧ DqAt H d ∧ n ≤ 12 ∧
  ∀ (ns : List Int) (l : Addr) (H' : Hp), IsOrd n ns → H l = none → H' l = some (.lst (ns.map V.int)) → l ≠ d → DqAt H' d → KeepD d H H' → Q (.ref l) H'
def spNearN : Sp := fun vs H Q _ => ∃ (d o : Addr) (n : Nat) (ns : List Int), vs = [.ref d, .ref o] ∧ DqAt H d ∧ H o = some (.lst (ns.map V.int)) ∧ IsOrd n ns ∧ 1 ≤ n ∧ n ≤ 12 ∧
  ∀ (ms : List Int) (l : Addr) (H' : Hp), IsOrd n ms → H l = none → H' l = some (.lst (ms.map V.int)) → l ≠ d → DqAt H' d → KeepD d H H' → Q (.ref l) H'
theorem mod_b (x : Int) {m : Int} (h : 0 < m) : 0 ≤ x % m ∧ x % m < m := ⟨Int.emod_nonneg x (by omega), Int.emod_lt_of_pos x h⟩
theorem mul_b {x y a b : Int} (hx : 0 ≤ x) (hxa : x ≤ a) (hy : 0 ≤ y) (hyb : y ≤ b) : 0 ≤ x * y ∧ x * y ≤ a * b := ⟨Int.mul_nonneg hx hy, Int.mul_le_mul hxa hyb hy (by omega)⟩
section
variable {P : Program} {w : World} {K : PySem.W.Frag} {mg : Str → Option Value} {base : Heap}
theorem scCell : FnScope ["script", "k"] ["script", "k"] (defScope s_law_cell_at) := ⟨rfl, rfl, rfl, by decide +kernel, rfl, by decide +kernel, by decide +kernel⟩
theorem ok_cell {f : Addr} {fd : FuncData} {k : Nat} (T : Df K mg "_law_cell_at" s_law_cell_at ["script", "k"] f fd) (B : Bi mg) : FnOk P w K mg base CX0 (k + 1) f fd ["script", "k"] (spCell K) := by
  refine T.F.ok scCell (fun vs H Q E h => ?_) (fun cdv A outer s H vs Q E hr h => ?_)
  · obtain ⟨a, ns, k, rfl, _⟩ := h
    rfl
  · obtain ⟨a, ns, k, rfl, hS, q⟩ := h
    refine ⟨_, 
      (pss_cons (ps_if (pt_cmpR op_lt (pv 1) (pe_callB call_len_seq (by rfl) B.len PySem.boot_len (pa_cons (pv 0) pa_nil)) (nomark _))
        (pss_one (ps_ret (pe_ix ix_list (pv 0) (pv 1) (fun _ _ => rfl))))
        pss_nil)
      (pss_one (ps_ret pe_int))), ?_⟩
    refine ⟨_, rfl, _, rfl, a, _, rfl, .inl hS, (k : Int), _, rfl, rfl, _, rfl, ite2 (fun c => ?_) (fun _ => q 0)⟩
    have hl : (k : Int) < (((ns.map V.int).length : Nat) : Int) := of_decide_eq_true c
    rw [List.length_map] at hl
    exact ⟨_, rfl, _, rfl, a, _, _, _, rfl, rfl, hS, at_of (j := k) rfl (int_at (List.getElem?_eq_getElem (show k < ns.length by omega))), q _⟩
theorem scStir : FnScope ["cell", "k", "one"] ["cell", "k"] (defScope s_law_stir) := ⟨rfl, rfl, rfl, by decide +kernel, rfl, by decide +kernel, by decide +kernel⟩
theorem ok_stir {f : Addr} {fd : FuncData} {k : Nat} (T : Df K mg "_law_stir" s_law_stir ["cell", "k"] f fd) (B : Bi mg) : FnOk P w K mg base CX0 (k + 1) f fd ["cell", "k"] spStir := by
  refine T.F.ok scStir (fun vs H Q E h => ?_) (fun cdv A outer s H vs Q E hr h => ?_)
  · obtain ⟨c, k, rfl, _⟩ := h
    rfl
  · obtain ⟨c, k, rfl, k0, k1, q⟩ := h
    refine ⟨_, 
      (Evl.pss_cut (ps_set (i := 2) scStir.nd rfl (.inl rfl) (pe_op op_mod (pe_op op_mul (pe_op op_add (pe_op op_add (pe_op op_mod (pv 0) pe_int) (pe_op op_mul pe_int (pv 1))) pe_int) pe_int) pe_int))
      (Evl.pss_cut (ps_set (i := 2) scStir.nd rfl (.inl rfl) (pe_op op_mod (pe_op op_mul (pv 2) (pv 2)) pe_int))
      (pss_one (ps_ret (pe_op op_fdiv (pe_op op_mod (pe_op op_mul (pe_op op_add (pv 2) (pe_op op_mul pe_int (pv 1))) pe_int) pe_int) pe_int))))), ?_⟩
    refine ⟨fun τ G => ∃ x : Int, 0 ≤ x ∧ x < 2147483647 ∧ τ = [some (.int c), some (.int k), some (.int x)] ∧ G = H, ?_, fun τ G hM => ?_⟩
    · exact ⟨_, rfl, c, 2147483629, rfl, rfl, (show (0 : Int) < 2147483629 by decide), _, rfl, 9973, k, rfl, rfl, .inl ⟨by decide, by decide⟩, _, _, rfl, rfl, _, 5, rfl, rfl, _, 48271, rfl, rfl, .inr ⟨by decide, by decide⟩, _, 2147483647, rfl, rfl, (show (0 : Int) < 2147483647 by decide), _, (mod_b _ (by decide)).1, (mod_b _ (by decide)).2, rfl, rfl⟩
    obtain ⟨x, x0, x1, rfl, e1⟩ := hM
    subst e1
    refine ⟨fun τ G' => ∃ y : Int, 0 ≤ y ∧ y < 2147483587 ∧ τ = [some (.int c), some (.int k), some (.int y)] ∧ G' = G, ?_, fun τ G' hM => ?_⟩
    · exact ⟨_, rfl, _, rfl, x, x, rfl, rfl, .inl ⟨by omega, by omega⟩, _, 2147483587, rfl, rfl, (show (0 : Int) < 2147483587 by decide), _, (mod_b _ (by decide)).1, (mod_b _ (by decide)).2, rfl, rfl⟩
    obtain ⟨y, y0, y1, rfl, e1⟩ := hM
    subst e1
    have h1 := mod_b ((y + 7919 * k) * 16807) (m := 2147483563) (by decide)
    exact ⟨_, rfl, _, rfl, 7919, k, rfl, rfl, .inl ⟨by decide, by decide⟩, _, _, rfl, rfl, _, 16807, rfl, rfl, .inr ⟨by decide, by decide⟩, _, 2147483563, rfl, rfl, (show (0 : Int) < 2147483563 by decide), _, 8, rfl, rfl, ⟨by decide, by decide⟩, q _ (by omega) (by omega)⟩
theorem scDeckN : FnScope ["cell", "many", "found", "digits", "k", "number"] ["cell", "many"] (defScope s_law_deck) := ⟨rfl, rfl, rfl, by decide +kernel, rfl, by decide +kernel, by decide +kernel⟩
set_option maxHeartbeats 2000000 in
theorem ok_deckN {f fS : Addr} {fd fdS : FuncData} {k : Nat} (T : Df K mg "_law_deck" s_law_deck ["cell", "many"] f fd) (T__law_stir : Df K mg "_law_stir" s_law_stir ["cell", "k"] fS fdS) (B : Bi mg) : FnOk P w K mg base CX0 (k + 2) f fd ["cell", "many"] spDeckN := by
  have G__law_stir : FnOk P w K mg base CX0 (k + 1) fS fdS ["cell", "k"] spStir := ok_stir T__law_stir B
  refine T.F.ok scDeckN (fun vs H Q E h => ?_) (fun cdv A outer s H vs Q E hr h => ?_)
  · obtain ⟨c, m, rfl, _⟩ := h
    rfl
  · obtain ⟨c, m, rfl, m1, m2, q⟩ := h
    refine ⟨_, 
      (pss_cons (ps_set (i := 2) scDeckN.nd rfl (.inl rfl) (pe_lst pa_nil))
      (pss_cons (ps_set (i := 3) scDeckN.nd rfl (.inl rfl) (pv 0))
      (pss_cons (ps_for PassesOwn.never rfl (pi_range1 (by rfl) B.range (pa_cons (pv 1) pa_nil)) (pg_name (i := 4) scDeckN.nd rfl (.inl rfl))
        (pss_cons (ps_set (i := 5) scDeckN.nd rfl (.inl rfl) (pe_call G__law_stir hr (by rfl) T__law_stir.g T__law_stir.F.kp T__law_stir.b .nil pass0 (pa_cons (pv 0) (pa_cons (pv 4) pa_nil))))
        (Evl.pss_cut (ps_if (pt_cmpR op_ge (pv 0) (pe_op op_pow pe_int pe_int) (nomark _))
          (pss_one (ps_set (i := 5) scDeckN.nd rfl (.inl rfl) (pe_op op_mod (pv 3) pe_int)))
          pss_nil)
        (pss_cons (ps_set (i := 3) scDeckN.nd rfl (.inl rfl) (pe_op op_fdiv (pv 3) pe_int))
        (pss_one (ps_expr (pe_bm PySem.F.plainAttrs_list PySem.F.slot_list_append PySem.F.type_list_append mt_append (pv 2) (pa_cons (pv 5) pa_nil))))))))
      (pss_one (ps_ret (pe_revL (pv 2))))))), ?_⟩
    refine ⟨line_small (by show 0 ≤ 16777216; decide), fun l nl => ⟨_, rfl, ?_⟩⟩
    refine ⟨_, rfl, m, rfl, by omega, by omega, ?_⟩
    rw [Int.toNat_natCast]
    refine for_range (n := m) (fun i σ H3 => ∃ (x : Int) (y4 y5 : Option V) (ms : List Int), σ = [some (.int c), some (.int m), some (.ref l), some (.int x), y4, y5] ∧ H3 l = some (.lst (ms.map V.int)) ∧ ms.length = i ∧ (∀ z ∈ ms, 0 ≤ z ∧ z < 2147483648) ∧ Same H H3)
      ⟨c, none, none, [], rfl, upd_same, rfl, (fun _ h => absurd h List.not_mem_nil), same_new nl⟩ (fun i σ H3 hi hP => ?_) (fun σ H3 hP => ?_)
    · obtain ⟨x, y4, y5, ms, rfl, hl3, el, hb, s3⟩ := hP
      refine ⟨_, rfl, _, rfl, c, _, rfl, by omega, by omega, fun v v0 v1 => ?_⟩
      refine ⟨fun τ G => ∃ z : Int, 0 ≤ z ∧ z < 2147483648 ∧ τ = [some (.int c), some (.int m), some (.ref l), some (.int x), some (.int (0 + (i : Int))), some (.int z)] ∧ G = H3, ?_, fun τ G hM => ?_⟩
      · refine ⟨_, rfl, 10, 18, rfl, rfl, ⟨by decide, by decide, by decide⟩, c, _, rfl, rfl, _, rfl, ite2 (fun _ => ?_) (fun _ => ⟨v, v0, v1, rfl, rfl⟩)⟩
        have h1 := mod_b x (m := 720720) (by decide)
        exact ⟨_, rfl, x, 720720, rfl, rfl, (show (0 : Int) < 720720 by decide), _, h1.1, by omega, rfl, rfl⟩
      obtain ⟨z, z0, z1, rfl, e1⟩ := hM
      subst e1
      refine ⟨_, rfl, x, 720720, rfl, rfl, ⟨by decide, by decide⟩, ?_⟩
      refine ⟨_, rfl, .inl ⟨rfl, _, SqL.of hl3⟩, _, rfl, l, _, _, rfl, rfl, hl3, line_lt (by rw [List.length_map]; omega), ?_⟩
      refine ⟨_, _, _, ms ++ [z], rfl, by rw [upd_same, List.map_append]; rfl, by rw [List.length_append, el]; rfl, fun u hu => ?_, fun b o e => ?_⟩
      · rcases List.mem_append.mp hu with h | h
        · exact hb u h
        · rw [List.mem_singleton.mp h]
          exact ⟨z0, z1⟩
      · rw [upd_ne (ne_of_none e nl)]
        exact s3 _ _ e
    · obtain ⟨x, y4, y5, ms, rfl, hl3, el, hb, s3⟩ := hP
      refine ⟨_, rfl, l, _, rfl, SqL.of hl3, fun p np => ?_⟩
      have hHp : H p = none := by
        cases e : H p with
        | none => rfl
        | some o =>
          have z := s3 p o e
          rw [np] at z
          cases z
      refine q p _ hHp ⟨ms.reverse, by rw [upd_same, List.map_reverse], by rw [List.length_reverse]; omega, by rw [List.length_reverse]; omega, fun z hz => hb z (List.mem_reverse.mp hz)⟩ (s3.trans (same_new np))
theorem scNext : FnScope ["deck"] ["deck"] (defScope s_law_next) := ⟨rfl, rfl, rfl, by decide +kernel, rfl, by decide +kernel, by decide +kernel⟩
set_option maxHeartbeats 2000000 in
theorem ok_next {f fS : Addr} {fd fdS : FuncData} {k : Nat} (T : Df K mg "_law_next" s_law_next ["deck"] f fd) (T__law_stir : Df K mg "_law_stir" s_law_stir ["cell", "k"] fS fdS) (B : Bi mg) : FnOk P w K mg base CX0 (k + 2) f fd ["deck"] spNext := by
  have G__law_stir : FnOk P w K mg base CX0 (k + 1) fS fdS ["cell", "k"] spStir := ok_stir T__law_stir B
  refine T.F.ok scNext (fun vs H Q E h => ?_) (fun cdv A outer s H vs Q E hr h => ?_)
  · obtain ⟨d, rfl, _⟩ := h
    rfl
  · obtain ⟨d, rfl, ⟨ms, hd, l1, l2, hb⟩, q⟩ := h
    refine ⟨_, 
      (Evl.pss_cut (ps_if (pt_cmpR op_eq (pe_callB call_len_seq (by rfl) B.len PySem.boot_len (pa_cons (pv 0) pa_nil)) pe_int (nomark _))
        (pss_one (ps_expr (pe_bm PySem.F.plainAttrs_list PySem.F.slot_list_insert PySem.F.type_list_insert mt_insert (pv 0) (pa_cons pe_int (pa_cons (pe_op op_mul (pe_call G__law_stir hr (by rfl) T__law_stir.g T__law_stir.F.kp T__law_stir.b .nil pass0 (pa_cons (pe_ix ix_list (pv 0) pe_int (fun _ _ => rfl)) (pa_cons pe_int pa_nil))) (pe_callTy call_int1 (by rfl) B.int (by decide +kernel) (pa_cons (pe_cmpR op_gt (pe_ix ix_list (pv 0) pe_int (fun _ _ => rfl)) pe_int (nomark _)) pa_nil))) pa_nil)))))
        pss_nil)
      (pss_one (ps_ret (pe_bm0 PySem.F.plainAttrs_list PySem.F.slot_list_pop PySem.F.type_list_pop mt_pop (pv 0))))), ?_⟩
    refine ⟨fun τ G => ∃ ks : List Int, τ = [some (.ref d)] ∧ G d = some (.lst (ks.map V.int)) ∧ 2 ≤ ks.length ∧ ks.length ≤ 1200 ∧ (∀ z ∈ ks, 0 ≤ z ∧ z < 2147483648) ∧ KeepD d H G, ?_, fun τ G hM => ?_⟩
    · refine ⟨_, rfl, d, _, rfl, .inl (SqL.of hd), rfl, _, rfl, ite2 (fun c => ?_) (fun c => ?_)⟩
      · have hl : ms.length = 1 := by
          have z : V.int (((ms.map V.int).length : Nat) : Int) = V.int 1 := of_decide_eq_true c
          have z2 : (((ms.map V.int).length : Nat) : Int) = 1 := V.int.inj z
          rw [List.length_map] at z2
          omega
        obtain ⟨x, rfl⟩ := List.length_eq_one_iff.mp hl
        have hx := hb x List.mem_cons_self
        refine ⟨_, rfl, .inl ⟨rfl, _, SqL.of hd⟩, _, rfl, d, _, 0, _, rfl, rfl, SqL.of hd, rfl, x, 7, rfl, by decide, by decide, fun v v0 v1 => ⟨_, rfl, d, _, 0, _, rfl, rfl, SqL.of hd, rfl, x, 0, rfl, rfl, .inr ⟨_, rfl, v, _, rfl, rfl, .inl ⟨by omega, by omega⟩, ?_⟩⟩⟩
        refine ⟨d, _, 0, _, rfl, rfl, hd, line_lt (by show 1 < 16777216; decide), by decide, by decide, ?_⟩
        obtain ⟨u, eu, u0, u1⟩ : ∃ u : Int, v * (if decide ((0 : Int) < x) = true then 1 else 0) = u ∧ 0 ≤ u ∧ u < 2147483648 := by
          by_cases c : (0 : Int) < x
          · rw [decide_eq_true c, if_pos rfl, Int.mul_one]
            exact ⟨v, rfl, v0, v1⟩
          · rw [decide_eq_false c, if_neg (by decide), Int.mul_zero]
            exact ⟨0, rfl, by decide, by decide⟩
        refine ⟨[u, x], rfl, ?_, by show 2 ≤ 2; decide, by show 2 ≤ 1200; decide, fun z hz => ?_, fun b o e nb => by rw [upd_ne nb]; exact e⟩
        · rw [upd_same]
          dsimp only
          rw [eu]
          rfl
        · rcases List.mem_cons.mp hz with rfl | hz
          · exact ⟨u0, u1⟩
          · rw [List.mem_singleton.mp hz]
            exact hx
      · refine ⟨ms, rfl, hd, ?_, l2, hb, KeepD.refl _ _⟩
        by_cases e : ms.length = 1
        · exfalso
          apply c
          apply decide_eq_true
          rw [List.length_map, e]
          rfl
        · omega
    obtain ⟨ks, rfl, hk, l3, l4, hb3, kp⟩ := hM
    obtain ⟨y, ey⟩ : ∃ y, ks[ks.length - 1]? = some y := ⟨ks[ks.length - 1]'(by omega), List.getElem?_eq_getElem (by omega)⟩
    have hy := hb3 y (List.mem_of_getElem? ey)
    refine ⟨_, rfl, .inl ⟨rfl, _, SqL.of hk⟩, d, _, _, rfl, rfl, hk, by rw [List.length_map]; exact int_at ey, ?_⟩
    refine q y _ hy.1 hy.2 ⟨ks.dropLast, by rw [upd_same, List.map_dropLast], by rw [List.length_dropLast]; omega, by rw [List.length_dropLast]; omega, fun z hz => hb3 z ((List.dropLast_prefix ks).subset hz)⟩ (kp.trans fun b o e nb => by rw [upd_ne nb]; exact e)
end
end Fo
namespace Fo
open PySem PySem.Spec PyProof.Rows L2
theorem ins_perm (xs : List Int) (k : Nat) (y : Int) : (xs.take k ++ [y] ++ xs.drop k).Perm (y :: xs) := by
  rw [List.append_assoc]
  have h1 : (xs.take k ++ ([y] ++ xs.drop k)).Perm ([y] ++ (xs.take k ++ xs.drop k)) := by
    rw [← List.append_assoc, ← List.append_assoc]
    exact List.Perm.append_right _ List.perm_append_comm
  rw [List.take_append_drop] at h1
  exact h1
theorem set2_perm {xs : List Int} {p q : Nat} {a b : Int} (ha : xs[p]? = some a) (hb : xs[q]? = some b) : ((xs.set p b).set q a).Perm xs := by
  obtain ⟨h1, e1⟩ := List.getElem?_eq_some_iff.mp ha
  obtain ⟨h2, e2⟩ := List.getElem?_eq_some_iff.mp hb
  rw [← e1, ← e2]
  exact List.set_set_perm h1 h2
theorem set2_V (xs : List Int) (p q : Nat) (a b : Int) : ((xs.map V.int).set p (V.int b)).set q (V.int a) = ((xs.set p b).set q a).map V.int := by
  rw [List.map_set, List.map_set]
section
variable {P : Program} {w : World} {K : PySem.W.Frag} {mg : Str → Option Value} {base : Heap}
theorem scOrderN : FnScope ["deck", "n", "left", "thing"] ["deck", "n"] (defScope s_law_order) := ⟨rfl, rfl, rfl, by decide +kernel, rfl, by decide +kernel, by decide +kernel⟩
set_option maxHeartbeats 4000000 in
theorem ok_orderN {f fD : Addr} {fd fdD : FuncData} {k : Nat} (T : Df K mg "_law_order" s_law_order ["deck", "n"] f fd) (T__law_next : Df K mg "_law_next" s_law_next ["deck"] fD fdD) (G__law_next : FnOk P w K mg base CX0 k fD fdD ["deck"] spNext) (B : Bi mg) : FnOk P w K mg base CX0 (k + 1) f fd ["deck", "n"] spOrderN := by
  refine T.F.ok scOrderN (fun vs H Q E h => ?_) (fun cdv A outer s H vs Q E hr h => ?_)
  · obtain ⟨D, n, rfl, _⟩ := h
    rfl
  · obtain ⟨d, n, rfl, hD, hn2, q⟩ := h
    refine ⟨_, 
      (pss_cons (ps_set (i := 2) scOrderN.nd rfl (.inr rfl) (pe_listRg rfl (by rfl) B.list (prg_1 (by rfl) B.range (pv 1))))
      (pss_one (ps_ret (pe_lc (own := [("thing", 3)]) (g := (gName 3)) (tt := tYes) (te := (tBM K "list" rPopAt (tVar 2) (tCons (tOp (rI (fun _ j => 0 < j) fun i j => .int (i % j)) (tCall spNext [] E0 (tCons (tVar 0) tNil)) (tCB (rLenS K) (tCons (tVar 2) tNil))) tNil))) rfl scOrderN.nd (pi_range1 (by rfl) B.range (pa_cons (pv 1) pa_nil)) (blkOk_by (N := ["deck", "n", "left", "thing"]) (sc := defScope s_law_order) (by decide +kernel)) (fun _ _ _ _ _ => (pg_name (i := 3) scOrderN.nd rfl (.inl rfl))) (fun _ _ _ _ _ => pts_nil) (fun _ _ _ _ _ => (pe_bm PySem.F.plainAttrs_list PySem.F.slot_list_pop PySem.F.type_list_pop mt_popAt (pv 2) (pa_cons (pe_op op_mod (pe_call G__law_next hr (by rfl) T__law_next.g T__law_next.F.kp T__law_next.b .nil pass0 (pa_cons (pv 0) pa_nil)) (pe_callB call_len_seq (by rfl) B.len PySem.boot_len (pa_cons (pv 2) pa_nil))) pa_nil))))))), ?_⟩
    refine ⟨_, rfl, n, rfl, RgOk.of_le (by omega) (by omega) (by omega) (by omega), fun l nl => ?_⟩
    have hl0 : (upd H l (.lst (rgV 0 (n : Int)))) l = some (.lst ((rg n).map V.int)) := by rw [upd_same, rg_V]
    have D0 := hD.new (o := .lst (rgV 0 (n : Int))) nl
    have nf := hD.ne nl
    have k0 : KeepD d H (upd H l (.lst (rgV 0 (n : Int)))) := KeepD.new nl
    refine ⟨_, rfl, n, rfl, by omega, by omega, ?_⟩
    rw [Int.toNat_natCast]
    intro p np
    have npf := D0.ne np
    have lp : l ≠ p := ne_of_none hl0 np
    refine lc_range (lo := 0) (n := n) (fun i H3 => ∃ (rest acc : List Int), (acc ++ rest).Perm (rg n) ∧ acc.length = i ∧ H3 l = some (.lst (rest.map V.int)) ∧ H3 p = some (.lst (acc.map V.int)) ∧ DqAt H3 d ∧ ∀ b o, H b = some o → b ≠ d → H3 b = some o)
      ⟨rg n, [], List.Perm.refl _, rfl, by rw [upd_ne lp]; exact hl0, upd_same, D0.new np, fun b o e f => by rw [upd_ne (ne_of_none (k0 b o e f) np)]; exact k0 b o e f⟩ (fun i H3 hi hP => ?_) (fun H3 hP => ?_)
    · obtain ⟨rest, acc, hperm, el, hl3, hp3, D3, kp3⟩ := hP
      have hlen : rest.length = n - i := by
        have := List.Perm.length_eq hperm
        rw [List.length_append, rg_len] at this
        omega
      have hlm : (rest.map V.int).length = rest.length := List.length_map _
      refine ⟨rfl, ?_⟩
      refine ⟨_, rfl, .inl ⟨rfl, _, SqL.of hl3⟩, _, rfl, d, rfl, D3, fun v H4 v0 v1 D4 k4 => ?_⟩
      have hl4 := k4 l _ hl3 nf
      have hp4 := k4 p _ hp3 npf
      obtain ⟨j, ej, hj⟩ : ∃ j : Nat, v % (((rest.map V.int).length : Nat) : Int) = (j : Int) ∧ j < rest.length := by
        rw [hlm]
        have h1 := mod_b v (m := ((rest.length : Nat) : Int)) (by omega)
        exact ⟨(v % ((rest.length : Nat) : Int)).toNat, by omega, by omega⟩
      refine ⟨_, rfl, l, _, rfl, .inl (SqL.of hl4), v, _, rfl, rfl, by rw [hlm]; omega, ?_⟩
      obtain ⟨y, ey⟩ : ∃ y, rest[j]? = some y := ⟨rest[j]'(by omega), List.getElem?_eq_getElem (by omega)⟩
      refine ⟨l, _, _, j, _, rfl, rfl, hl4, by rw [ej]; omega, by rw [ej]; omega, seq_ix ej (by rw [hlm]; omega), int_at ey, ?_⟩
      refine ⟨acc.map V.int, by rw [upd_ne lp.symm]; exact hp4, line_lt (by rw [List.length_map]; omega), rest.eraseIdx j, acc ++ [y], ?_, by rw [List.length_append, el]; rfl, ?_, by rw [upd_same, List.map_append]; rfl, ?_, fun b o e f => ?_⟩
      · rw [List.append_assoc]
        exact (List.Perm.append_left acc (pop_perm ey)).trans hperm
      · rw [upd_ne lp, upd_same, map_erase]
      · exact (D4.upd nf).upd npf
      · have e4 := k4 b o (kp3 b o e f) f
        have nbl : b ≠ l := ne_of_none e nl
        have nbp : b ≠ p := ne_of_none (k0 b o e f) np
        rw [upd_ne nbp, upd_ne nbl]
        exact e4
    · obtain ⟨rest, acc, hperm, el, hl3, hp3, D3, kp3⟩ := hP
      have hr0 : rest = [] := by
        have := List.Perm.length_eq hperm
        rw [List.length_append, rg_len] at this
        exact List.eq_nil_of_length_eq_zero (by omega)
      subst hr0
      rw [List.append_nil] at hperm
      exact q acc p H3 hperm (k0.none np npf) hp3 npf D3 kp3
theorem scNearN : FnScope ["deck", "order", "found", "way", "turn", "p", "q"] ["deck", "order"] (defScope s_law_near) := ⟨rfl, rfl, rfl, by decide +kernel, rfl, by decide +kernel, by decide +kernel⟩
set_option maxHeartbeats 4000000 in
theorem ok_nearN {f fD : Addr} {fd fdD : FuncData} {k : Nat} (T : Df K mg "_law_near" s_law_near ["deck", "order"] f fd) (T__law_next : Df K mg "_law_next" s_law_next ["deck"] fD fdD) (G__law_next : FnOk P w K mg base CX0 k fD fdD ["deck"] spNext) (B : Bi mg) : FnOk P w K mg base CX0 (k + 1) f fd ["deck", "order"] spNearN := by
  refine T.F.ok scNearN (fun vs H Q E h => ?_) (fun cdv A outer s H vs Q E hr h => ?_)
  · obtain ⟨D, o, n, ns, rfl, _⟩ := h
    rfl
  · obtain ⟨d, o, n, ns, rfl, hD, h0, ho, hn1, hn2, q⟩ := h
    have hlm : (ns.map V.int).length = n := by rw [List.length_map, ho.len]
    refine ⟨_, 
      (pss_cons (ps_set (i := 2) scNearN.nd rfl (.inl rfl) (pe_callTy call_list_of (by rfl) B.list (by decide +kernel) (pa_cons (pv 1) pa_nil)))
      (pss_cons (ps_set (i := 3) scNearN.nd rfl (.inl rfl) (pe_op op_mod (pe_call G__law_next hr (by rfl) T__law_next.g T__law_next.F.kp T__law_next.b .nil pass0 (pa_cons (pv 0) pa_nil)) pe_int))
      (pss_cons (ps_for PassesOwn.never rfl (pi_range1 (by rfl) B.range (pa_cons (pe_op op_mul (pe_ix ix_list (pe_lst (pa_cons pe_int (pa_cons pe_int (pa_cons pe_int (pa_cons pe_int pa_nil))))) (pe_op op_mod (pe_call G__law_next hr (by rfl) T__law_next.g T__law_next.F.kp T__law_next.b .nil pass0 (pa_cons (pv 0) pa_nil)) pe_int) (fun _ _ => rfl)) (pe_callTy call_int1 (by rfl) B.int (by decide +kernel) (pa_cons (pe_cmpR op_gt (pe_callB call_len_seq (by rfl) B.len PySem.boot_len (pa_cons (pv 2) pa_nil)) pe_int (nomark _)) pa_nil))) pa_nil)) (pg_name (i := 4) scNearN.nd rfl (.inl rfl))
        (pss_cons (ps_set (i := 5) scNearN.nd rfl (.inl rfl) (pe_op op_mod (pe_call G__law_next hr (by rfl) T__law_next.g T__law_next.F.kp T__law_next.b .nil pass0 (pa_cons (pv 0) pa_nil)) (pe_op op_sub (pe_callB call_len_seq (by rfl) B.len PySem.boot_len (pa_cons (pv 2) pa_nil)) pe_int)))
        (pss_cons (ps_set (i := 6) scNearN.nd rfl (.inl rfl) (pe_ix ix_list (pe_lst (pa_cons (pe_op op_add (pv 5) pe_int) (pa_cons (pe_op op_mod (pe_call G__law_next hr (by rfl) T__law_next.g T__law_next.F.kp T__law_next.b .nil pass0 (pa_cons (pv 0) pa_nil)) (pe_callB call_len_seq (by rfl) B.len PySem.boot_len (pa_cons (pv 2) pa_nil))) (pa_cons (pe_op op_add (pv 5) pe_int) pa_nil)))) (pv 3) (fun _ _ => rfl)))
        (pss_one (ps_if (pt_cmpR op_lt (pv 3) pe_int (nomark _))
          (pss_one (ps_asg (pe_tup (pa_cons (pe_ix ix_list (pv 2) (pv 6) (fun _ _ => rfl)) (pa_cons (pe_ix ix_list (pv 2) (pv 5) (fun _ _ => rfl)) pa_nil))) (pg_tup (by rfl) (pgs_cons (pg_sub (pv 2) (pv 5) set_list) (pgs_cons (pg_sub (pv 2) (pv 6) set_list) pgs_nil)))))
          (pss_one (ps_expr (pe_bm PySem.F.plainAttrs_list PySem.F.slot_list_insert PySem.F.type_list_insert mt_insert (pv 2) (pa_cons (pe_op op_mod (pe_call G__law_next hr (by rfl) T__law_next.g T__law_next.F.kp T__law_next.b .nil pass0 (pa_cons (pv 0) pa_nil)) (pe_callB call_len_seq (by rfl) B.len PySem.boot_len (pa_cons (pv 2) pa_nil))) (pa_cons (pe_bm PySem.F.plainAttrs_list PySem.F.slot_list_pop PySem.F.type_list_pop mt_popAt (pv 2) (pa_cons (pv 5) pa_nil)) pa_nil))))))))))
      (pss_one (ps_ret (pv 2)))))), ?_⟩
    refine ⟨_, rfl, o, _, rfl, .inl (SqL.of h0), fun l nl => ?_⟩
    have s0 := same_new (o := .lst (ns.map V.int)) nl
    have D0 := hD.new (o := .lst (ns.map V.int)) nl
    have nf := hD.ne nl
    refine ⟨_, rfl, d, rfl, D0, fun w1 H1 _ _ D1 k1 => ⟨w1, 3, rfl, rfl, (show (0 : Int) < 3 by decide), ?_⟩⟩
    have hl1 := k1 l _ upd_same nf
    have kk1 : KeepD d H H1 := (KeepD.of_same s0).trans k1
    have hw := mod_b w1 (m := 3) (by decide)
    refine ⟨line_small (by show 4 ≤ 16777216; decide), fun t nt => ?_⟩
    have D1t := D1.new (o := .lst [.int 1, .int 1, .int 2, .int 4]) nt
    have ntd := D1.ne nt
    refine ⟨_, rfl, d, rfl, D1t, fun w2 H2 _ _ D2 k2 => ⟨w2, 4, rfl, rfl, (show (0 : Int) < 4 by decide), ?_⟩⟩
    have ht2 := k2 t _ upd_same ntd
    have kk2 : KeepD d H H2 := (kk1.trans (KeepD.new nt)).trans k2
    have hl2 := k2 l _ (same_new nt _ _ hl1) nf
    have hw2 := mod_b w2 (m := 4) (by decide)
    obtain ⟨u, eu, u0, u1⟩ : ∃ u : Int, atI [V.int 1, V.int 1, V.int 2, V.int 4] (w2 % 4) = some (.int u) ∧ 0 ≤ u ∧ u ≤ 4 := by
      have : w2 % 4 = 0 ∨ w2 % 4 = 1 ∨ w2 % 4 = 2 ∨ w2 % 4 = 3 := by omega
      rcases this with h | h | h | h <;> rw [h]
      · exact ⟨1, rfl, by decide, by decide⟩
      · exact ⟨1, rfl, by decide, by decide⟩
      · exact ⟨2, rfl, by decide, by decide⟩
      · exact ⟨4, rfl, by decide, by decide⟩
    refine ⟨t, _, _, _, rfl, rfl, SqL.of ht2, eu, _, rfl, l, _, rfl, .inl (SqL.of hl2), _, 1, rfl, rfl, .inr ⟨_, rfl, u, _, rfl, rfl, .inl ⟨by omega, by omega⟩, _, rfl, ?_⟩⟩
    obtain ⟨m, em, hm⟩ : ∃ m : Nat, u * (if decide ((1 : Int) < (((ns.map V.int).length : Nat) : Int)) = true then 1 else 0) = (m : Int) ∧ (m ≤ 4 ∧ (n = 1 → m = 0)) := by
      rw [hlm]
      by_cases c : (1 : Int) < (n : Int)
      · rw [decide_eq_true c, if_pos rfl, Int.mul_one]
        exact ⟨u.toNat, by omega, by omega, by omega⟩
      · rw [decide_eq_false c, if_neg (by decide), Int.mul_zero]
        exact ⟨0, by omega, by omega, fun _ => rfl⟩
    refine ⟨by rw [em]; omega, by rw [em]; omega, ?_⟩
    rw [em, Int.toNat_natCast]
    refine for_range (n := m) (fun i σ H3 => ∃ (y4 y5 y6 : Option V) (xs : List Int), σ = [some (.ref d), some (.ref o), some (.ref l), some (.int (w1 % 3)), y4, y5, y6] ∧ IsOrd n xs ∧ H3 l = some (.lst (xs.map V.int)) ∧ DqAt H3 d ∧ KeepD d H H3)
      ⟨none, none, none, ns, rfl, ho, hl2, D2, kk2⟩ (fun i σ H3 hi hP => ?_) (fun σ H3 hP => ?_)
    · obtain ⟨y4, y5, y6, xs, rfl, o3, hl3, D3, k3⟩ := hP
      have hxl := o3.len
      have hn : 2 ≤ n := by
        by_cases c : n = 1
        · have := hm.2 c
          omega
        · omega
      have hxm : (xs.map V.int).length = n := by rw [List.length_map]; exact hxl
      refine ⟨_, rfl, d, rfl, D3, fun v1 H4 _ _ D4 k4 => ?_⟩
      have hl4 := k4 l _ hl3 nf
      refine ⟨_, rfl, l, _, rfl, .inl (SqL.of hl4), _, 1, rfl, rfl, v1, _, rfl, rfl, by rw [hxm]; omega, ?_⟩
      obtain ⟨p, ep, hp⟩ : ∃ p : Nat, v1 % ((((xs.map V.int).length : Nat) : Int) - 1) = (p : Int) ∧ p + 1 < n := by
        rw [hxm]
        have h1 := mod_b v1 (m := (n : Int) - 1) (by omega)
        exact ⟨(v1 % ((n : Int) - 1)).toNat, by omega, by omega⟩
      show gName 5 (V.int (v1 % ((((xs.map V.int).length : Nat) : Int) - 1))) _ _ _
      rw [ep]
      refine ⟨_, rfl, (p : Int), 1, rfl, rfl, _, rfl, d, rfl, D4, fun v2 H5 _ _ D5 k5 => ?_⟩
      have hl5 := k5 l _ hl4 nf
      refine ⟨_, rfl, l, _, rfl, .inl (SqL.of hl5), v2, _, rfl, rfl, by rw [hxm]; omega, ?_⟩
      obtain ⟨u, eu, hu⟩ : ∃ u : Nat, v2 % (((xs.map V.int).length : Nat) : Int) = (u : Int) ∧ u < n := by
        rw [hxm]
        have h1 := mod_b v2 (m := (n : Int)) (by omega)
        exact ⟨(v2 % (n : Int)).toNat, by omega, by omega⟩
      refine ⟨_, rfl, (p : Int), 1, rfl, rfl, line_small (by show 3 ≤ 16777216; decide), fun t2 nt2 => ?_⟩
      have s6 := same_new (o := .lst [.int ((p : Int) + 1), .int (v2 % (((xs.map V.int).length : Nat) : Int)), .int ((p : Int) + 1)]) nt2
      have hl6 := s6 _ _ hl5
      obtain ⟨z, ez, hz⟩ : ∃ z : Nat, atI [V.int ((p : Int) + 1), V.int (v2 % (((xs.map V.int).length : Nat) : Int)), V.int ((p : Int) + 1)] (w1 % 3) = some (.int z) ∧ z < n := by
        have : w1 % 3 = 0 ∨ w1 % 3 = 1 ∨ w1 % 3 = 2 := by omega
        rcases this with h | h | h <;> rw [h, eu]
        · exact ⟨p + 1, rfl, hp⟩
        · exact ⟨u, rfl, hu⟩
        · exact ⟨p + 1, rfl, hp⟩
      refine ⟨_, rfl, t2, _, _, _, rfl, rfl, SqL.of upd_same, ez, ?_⟩
      obtain ⟨a, ea⟩ : ∃ a, xs[p]? = some a := ⟨xs[p]'(by omega), List.getElem?_eq_getElem (by omega)⟩
      obtain ⟨b, eb⟩ : ∃ b, xs[z]? = some b := ⟨xs[z]'(by omega), List.getElem?_eq_getElem (by omega)⟩
      have D6 := D5.new (o := .lst [.int ((p : Int) + 1), .int (v2 % (((xs.map V.int).length : Nat) : Int)), .int ((p : Int) + 1)]) nt2
      have k6 : KeepD d H (upd H5 t2 (.lst [.int ((p : Int) + 1), .int (v2 % (((xs.map V.int).length : Nat) : Int)), .int ((p : Int) + 1)])) := ((k3.trans k4).trans k5).trans (KeepD.of_same s6)
      generalize upd H5 t2 (.lst [.int ((p : Int) + 1), .int (v2 % (((xs.map V.int).length : Nat) : Int)), .int ((p : Int) + 1)]) = H6 at hl6 D6 k6 ⊢
      refine ⟨_, rfl, _, 2, rfl, rfl, _, rfl, ite2 (fun _ => ?_) (fun _ => ?_)⟩
      · refine ⟨_, rfl, _, rfl, l, _, _, _, rfl, rfl, SqL.of hl6, at_of (j := z) rfl (int_at eb), _, rfl, _, rfl, l, _, _, _, rfl, rfl, SqL.of hl6, at_of (j := p) rfl (int_at ea), line_small (by show 2 ≤ 16777216; decide), fun t3 nt3 => ?_⟩
        have hl7 := same_new (o := .tup [.int b, .int a]) nt3 _ _ hl6
        refine ⟨t3, _, rfl, .inl (.inl upd_same), rfl, _, _, rfl, _, rfl, _, rfl, l, _, _, p, rfl, rfl, hl7, ix_n rfl (by rw [List.length_map]; omega), ?_⟩
        refine ⟨_, _, rfl, _, rfl, _, rfl, l, _, _, z, rfl, rfl, upd_same, ix_n rfl (by rw [List.length_set, List.length_map]; omega), ?_⟩
        refine ⟨rfl, _, _, _, (xs.set p b).set z a, rfl, (set2_perm ea eb).trans o3, by rw [upd_same, set2_V], ((D6.new nt3).upd nf).upd nf, fun c x e f => ?_⟩
        have nc : c ≠ l := ne_of_none e nl
        rw [upd_ne nc, upd_ne nc]
        exact same_new nt3 _ _ (k6 c x e f)
      · refine ⟨_, rfl, .inl ⟨rfl, _, SqL.of hl6⟩, _, rfl, d, rfl, D6, fun v3 H7 _ _ D7 k7 => ?_⟩
        have hl7 := k7 l _ hl6 nf
        refine ⟨_, rfl, l, _, rfl, .inl (SqL.of hl7), v3, _, rfl, rfl, by rw [hxm]; omega, ?_⟩
        obtain ⟨y, ey, hy⟩ : ∃ y : Nat, v3 % (((xs.map V.int).length : Nat) : Int) = (y : Int) ∧ y < n := by
          rw [hxm]
          have h1 := mod_b v3 (m := (n : Int)) (by omega)
          exact ⟨(v3 % (n : Int)).toNat, by omega, by omega⟩
        refine ⟨_, rfl, .inl ⟨rfl, _, SqL.of hl7⟩, _, rfl, l, _, _, p, _, rfl, rfl, hl7, by omega, by omega, seq_ix rfl (by rw [hxm]; omega), int_at ea, ?_⟩
        refine ⟨l, _, _, _, rfl, rfl, upd_same, line_lt (by rw [map_erase, List.length_map, List.length_eraseIdx, hxl]; split <;> omega), by rw [ey]; omega, by rw [ey]; omega, ?_⟩
        refine ⟨_, _, _, (xs.eraseIdx p).take y ++ [a] ++ (xs.eraseIdx p).drop y, rfl, ((ins_perm _ _ _).trans (pop_perm ea)).trans o3, ?_, (D7.upd nf).upd nf, fun c x e f => ?_⟩
        · rw [upd_same, map_erase, List.map_append, List.map_append, List.map_take, List.map_drop, ey, Int.toNat_natCast]
          rfl
        · have nc : c ≠ l := ne_of_none e nl
          rw [upd_ne nc, upd_ne nc]
          exact k7 c x (k6 c x e f) f
    · obtain ⟨y4, y5, y6, xs, rfl, o3, hl3, D3, k3⟩ := hP
      exact ⟨_, rfl, q xs l H3 o3 nl hl3 nf D3 k3⟩
end
end Fo
namespace Fo
open PySem PySem.Spec PyProof.Rows L2
/-- a list of orders of n things -/
structure OL (H : Hp) (l : Addr) (as : List Addr) (rs : List (List Int)) (n : Nat) : Prop where
  top : H l = some (.lst (as.map V.ref))
  ll : LL H as rs
  ord : ∀ r ∈ rs, IsOrd n r
  n1 : 1 ≤ n
  n2 : n ≤ 12
theorem OL.same {H H' : Hp} {l : Addr} {as : List Addr} {rs : List (List Int)} {n : Nat} (h : OL H l as rs n) (s : Same H H') : OL H' l as rs n := ⟨s _ _ h.top, h.ll.same s, h.ord, h.n1, h.n2⟩
theorem OL.keepD {H H' : Hp} {l d : Addr} {as : List Addr} {rs : List (List Int)} {n : Nat} (h : OL H l as rs n) (s : KeepD d H H') (nl : l ≠ d) (na : d ∉ as) : OL H' l as rs n :=
  ⟨s _ _ h.top nl, h.ll.keep fun a ha o e => s a o e (fun q => na (by rw [← q]; exact ha)), h.ord, h.n1, h.n2⟩
def spPoll : Sp := fun vs H Q _ => ∃ (d : Addr) (n most : Nat), vs = [.ref d, .int n, .int most] ∧ DqAt H d ∧ 1 ≤ n ∧ n ≤ 12 ∧ 1 ≤ most ∧ most ≤ 20 ∧
  ∀ (l : Addr) (as : List Addr) (rs : List (List Int)) (H' : Hp), OL H' l as rs n → 1 ≤ rs.length → rs.length ≤ most → H l = none → (∀ a ∈ as, H a = none) → l ≠ d → d ∉ as → DqAt H' d → KeepD d H H' → Q (.ref l) H'
section
variable {P : Program} {w : World} {K : PySem.W.Frag} {mg : Str → Option Value} {base : Heap}
theorem scPoll : FnScope ["deck", "n", "most", "first", "found", "kind", "turn", "at", "some"] ["deck", "n", "most"] (defScope s_law_poll) := ⟨rfl, rfl, rfl, by decide +kernel, rfl, by decide +kernel, by decide +kernel⟩
set_option maxHeartbeats 4000000 in
theorem ok_poll {f fD fO fN : Addr} {fd fdD fdO fdN : FuncData} {k : Nat} (T : Df K mg "_law_poll" s_law_poll ["deck", "n", "most"] f fd) (T__law_next : Df K mg "_law_next" s_law_next ["deck"] fD fdD) (G__law_next : FnOk P w K mg base CX0 k fD fdD ["deck"] spNext) (T__law_order : Df K mg "_law_order" s_law_order ["deck", "n"] fO fdO) (G__law_order : FnOk P w K mg base CX0 k fO fdO ["deck", "n"] spOrderN) (T__law_near : Df K mg "_law_near" s_law_near ["deck", "order"] fN fdN) (G__law_near : FnOk P w K mg base CX0 k fN fdN ["deck", "order"] spNearN) (B : Bi mg) : FnOk P w K mg base CX0 (k + 1) f fd ["deck", "n", "most"] spPoll := by
  refine T.F.ok scPoll (fun vs H Q E h => ?_) (fun cdv A outer s H vs Q E hr h => ?_)
  · obtain ⟨D, n, m, rfl, _⟩ := h
    rfl
  · obtain ⟨d, n, most, rfl, hD, hn1, hn2, hm1, hm2, q⟩ := h
    refine ⟨_, 
      (pss_cons (ps_set (i := 3) scPoll.nd rfl (.inl rfl) (pe_call G__law_order hr (by rfl) T__law_order.g T__law_order.F.kp T__law_order.b .nil pass0 (pa_cons (pv 0) (pa_cons (pv 1) pa_nil))))
      (pss_cons (ps_set (i := 4) scPoll.nd rfl (.inl rfl) (pe_lst (pa_cons (pv 3) pa_nil)))
      (pss_cons (ps_set (i := 5) scPoll.nd rfl (.inl rfl) (pe_op op_mod (pe_call G__law_next hr (by rfl) T__law_next.g T__law_next.F.kp T__law_next.b .nil pass0 (pa_cons (pv 0) pa_nil)) pe_int))
      (pss_cons (ps_for PassesOwn.never rfl (pi_range1 (by rfl) B.range (pa_cons (pe_ix ix_list (pe_lst (pa_cons (pe_op op_mod (pe_call G__law_next hr (by rfl) T__law_next.g T__law_next.F.kp T__law_next.b .nil pass0 (pa_cons (pv 0) pa_nil)) (pv 2)) (pa_cons (pe_op op_sub (pv 2) pe_int) (pa_cons (pe_op op_mod (pe_call G__law_next hr (by rfl) T__law_next.g T__law_next.F.kp T__law_next.b .nil pass0 (pa_cons (pv 0) pa_nil)) (pe_callB (call_min2 rfl) (by rfl) B.min (by decide +kernel) (pa_cons (pv 2) (pa_cons pe_int pa_nil)))) pa_nil)))) (pe_op op_mod (pe_call G__law_next hr (by rfl) T__law_next.g T__law_next.F.kp T__law_next.b .nil pass0 (pa_cons (pv 0) pa_nil)) pe_int) (fun _ _ => rfl)) pa_nil)) (pg_name (i := 6) scPoll.nd rfl (.inl rfl))
        (pss_cons (ps_set (i := 7) scPoll.nd rfl (.inl rfl) (pe_op op_mod (pe_call G__law_next hr (by rfl) T__law_next.g T__law_next.F.kp T__law_next.b .nil pass0 (pa_cons (pv 0) pa_nil)) (pv 1)))
        (pss_cons (ps_set (i := 8) scPoll.nd rfl (.inl rfl) (pe_lst (pa_cons (pe_call G__law_near hr (by rfl) T__law_near.g T__law_near.F.kp T__law_near.b .nil pass0 (pa_cons (pv 0) (pa_cons (pv 3) pa_nil))) (pa_cons (pe_call G__law_order hr (by rfl) T__law_order.g T__law_order.F.kp T__law_order.b .nil pass0 (pa_cons (pv 0) (pa_cons (pv 1) pa_nil))) (pa_cons (pe_op op_cat (pe_slice sl_list (pv 3) (po_some (pv 7)) po_none) (pe_slice sl_list (pv 3) po_none (po_some (pv 7)))) (pa_cons (pe_revL (pv 3)) pa_nil))))))
        (pss_cons (ps_expr (pe_bm PySem.F.plainAttrs_list PySem.F.slot_list_append PySem.F.type_list_append mt_append (pv 8) (pa_cons (pe_callTy call_list_of (by rfl) B.list (by decide +kernel) (pa_cons (pe_ix ix_list (pv 4) (pe_op op_mod (pe_call G__law_next hr (by rfl) T__law_next.g T__law_next.F.kp T__law_next.b .nil pass0 (pa_cons (pv 0) pa_nil)) (pe_callB call_len_seq (by rfl) B.len PySem.boot_len (pa_cons (pv 4) pa_nil))) (fun _ _ => rfl)) pa_nil)) pa_nil)))
        (pss_one (ps_expr (pe_bm PySem.F.plainAttrs_list PySem.F.slot_list_append PySem.F.type_list_append mt_append (pv 4) (pa_cons (pe_ix ix_list (pv 8) (pe_ix ix_list (pe_lst (pa_cons pe_int (pa_cons pe_int (pa_cons pe_int (pa_cons (pe_op op_mod (pe_call G__law_next hr (by rfl) T__law_next.g T__law_next.F.kp T__law_next.b .nil pass0 (pa_cons (pv 0) pa_nil)) pe_int) pa_nil))))) (pv 5) (fun _ _ => rfl)) (fun _ _ => rfl)) pa_nil))))))))
      (pss_one (ps_ret (pv 4))))))), ?_⟩
    refine ⟨_, rfl, _, rfl, d, n, rfl, hD, hn2, fun fs f0 H1 ofs nf0 hf1 nfd D1 k1 => ?_⟩
    refine ⟨_, rfl, line_small (by show 1 ≤ 16777216; decide), fun l nl => ?_⟩
    have hf2 := same_new (o := .lst [.ref f0]) nl _ _ hf1
    have D2 := D1.new (o := .lst [.ref f0]) nl
    have nld := D1.ne nl
    have nlf : l ≠ f0 := (ne_of_none hf1 nl).symm
    have k2 : KeepD d H (upd H1 l (.lst [.ref f0])) := k1.trans (KeepD.new nl)
    have nHl : H l = none := k1.none nl nld
    have hl2 : (upd H1 l (.lst [.ref f0])) l = some (.lst [.ref f0]) := upd_same
    generalize upd H1 l (.lst [.ref f0]) = H2 at hf2 D2 k2 hl2 ⊢
    refine ⟨_, rfl, d, rfl, D2, fun w1 H3 _ _ D3 k3 => ⟨w1, 4, rfl, rfl, (show (0 : Int) < 4 by decide), ?_⟩⟩
    have hw := mod_b w1 (m := 4) (by decide)
    refine ⟨_, rfl, d, rfl, D3, fun w2 H4 _ _ D4 k4 => ⟨_, rfl, w2, most, rfl, rfl, (show (0 : Int) < (most : Int) by omega), _, rfl, (most : Int), 1, rfl, rfl, _, rfl, d, rfl, D4, fun w3 H5 _ _ D5 k5 => ?_⟩⟩
    refine ⟨_, rfl, (most : Int), 4, rfl, w3, _, rfl, rfl, (by show (0 : Int) < if 4 < (most : Int) then 4 else (most : Int); split <;> omega), ?_⟩
    refine ⟨line_small (by show 3 ≤ 16777216; decide), fun t nt => ?_⟩
    have h1 := mod_b w2 (m := (most : Int)) (by omega)
    have h2 := mod_b w3 (m := (if 4 < (most : Int) then 4 else (most : Int))) (by split <;> omega)
    have h3 : (if 4 < (most : Int) then 4 else (most : Int)) ≤ most := by split <;> omega
    have D6 := D5.new (o := .lst [.int (w2 % most), .int ((most : Int) - 1), .int (w3 % (if 4 < (most : Int) then 4 else (most : Int)))]) nt
    have ntd := D5.ne nt
    refine ⟨_, rfl, d, rfl, D6, fun w4 H7 _ _ D7 k7 => ⟨w4, 3, rfl, rfl, (show (0 : Int) < 3 by decide), ?_⟩⟩
    have ht7 := k7 t _ upd_same ntd
    have k37 : KeepD d H2 H7 := ((k3.trans k4).trans k5).trans ((KeepD.new nt).trans k7)
    have h4 := mod_b w4 (m := 3) (by decide)
    obtain ⟨m, em, hm⟩ : ∃ m : Nat, atI [V.int (w2 % most), V.int ((most : Int) - 1), V.int (w3 % (if 4 < (most : Int) then 4 else (most : Int)))] (w4 % 3) = some (.int m) ∧ m + 1 ≤ most := by
      have : w4 % 3 = 0 ∨ w4 % 3 = 1 ∨ w4 % 3 = 2 := by omega
      rcases this with h | h | h <;> rw [h]
      · refine ⟨(w2 % most).toNat, ?_, by omega⟩
        rw [Int.toNat_of_nonneg h1.1]
        rfl
      · refine ⟨most - 1, ?_, by omega⟩
        rw [show ((most - 1 : Nat) : Int) = (most : Int) - 1 by omega]
        rfl
      · refine ⟨(w3 % (if 4 < (most : Int) then 4 else (most : Int))).toNat, ?_, by omega⟩
        rw [Int.toNat_of_nonneg h2.1]
        rfl
    refine ⟨t, _, _, _, rfl, rfl, SqL.of ht7, em, m, rfl, by omega, by omega, ?_⟩
    rw [Int.toNat_natCast]
    have hf7 := k37 f0 _ hf2 nfd
    have hl7 := k37 l _ hl2 nld
    refine for_range (n := m) (fun i σ G => ∃ (y6 y7 y8 : Option V) (as : List Addr) (rs : List (List Int)), σ = [some (.ref d), some (.int n), some (.int most), some (.ref f0), some (.ref l), some (.int (w1 % 4)), y6, y7, y8] ∧ G l = some (.lst (as.map V.ref)) ∧ LL G as rs ∧ (∀ r ∈ rs, IsOrd n r) ∧ rs.length = i + 1 ∧ G f0 = some (.lst (fs.map V.int)) ∧ (∀ a ∈ as, H a = none) ∧ d ∉ as ∧ l ∉ as ∧ DqAt G d ∧ KeepD d H G)
      ⟨none, none, none, [f0], [fs], rfl, hl7, ⟨hf7, trivial⟩, fun r hr => by rw [List.mem_singleton.mp hr]; exact ofs, rfl, hf7, fun a ha => by rw [List.mem_singleton.mp ha]; exact nf0, fun hd => nfd (List.mem_singleton.mp hd).symm, fun hd => nlf (List.mem_singleton.mp hd), D7, k2.trans k37⟩ (fun i σ G hi hP => ?_) (fun σ G hP => ?_)
    · obtain ⟨y6, y7, y8, as, rs, rfl, hl, hLL, ho, hlen, hf, hna, nda, nla, DG, kG⟩ := hP
      have halen := hLL.len
      -- at = next % n
      refine ⟨_, rfl, d, rfl, DG, fun v1 G1 _ _ DG1 kk1 => ⟨_, rfl, v1, n, rfl, rfl, (show (0 : Int) < (n : Int) by omega), ?_⟩⟩
      obtain ⟨c, ec, hc⟩ : ∃ c : Nat, v1 % (n : Int) = (c : Int) ∧ c < n := by
        have h1 := mod_b v1 (m := (n : Int)) (by omega)
        exact ⟨(v1 % (n : Int)).toNat, by omega, by omega⟩
      show gName 7 (V.int (v1 % (n : Int))) _ _ _
      rw [ec]
      have hf1 := kk1 f0 _ hf nfd
      -- near
      refine ⟨_, rfl, _, rfl, d, f0, n, fs, rfl, DG1, hf1, ofs, hn1, hn2, fun r1 a1 G2 o1 na1 ha1 nd1 DG2 kk2 => ?_⟩
      have hf2 := kk2 f0 _ hf1 nfd
      have c2 : KeepD d G G2 := kk1.trans kk2
      -- order
      refine ⟨_, rfl, _, rfl, d, n, rfl, DG2, hn2, fun r2 a2 G3 o2 na2 ha2 nd2 DG3 kk3 => ?_⟩
      have hf3 := kk3 f0 _ hf2 nfd
      have c3 : KeepD d G G3 := c2.trans kk3
      -- first[at:] + first[:at]
      refine ⟨_, rfl, _, rfl, _, rfl, f0, _, rfl, SqL.of hf3, fun p1 np1 => ?_⟩
      have s1 := same_new (o := .lst (cutV (fs.map V.int) (some (c : Int)) none)) np1
      refine ⟨_, rfl, _, rfl, _, rfl, f0, _, rfl, SqL.of (s1 _ _ hf3), fun p2 np2 => ?_⟩
      have s2 := s1.trans (same_new (o := .lst (cutV (fs.map V.int) none (some (c : Int)))) np2)
      have hp1 := same_new (o := .lst (cutV (fs.map V.int) none (some (c : Int)))) np2 p1 (.lst (cutV (fs.map V.int) (some (c : Int)) none)) upd_same
      have hp2 : (upd (upd G3 p1 (.lst (cutV (fs.map V.int) (some (c : Int)) none))) p2 (.lst (cutV (fs.map V.int) none (some (c : Int))))) p2 = _ := upd_same
      generalize upd (upd G3 p1 (.lst (cutV (fs.map V.int) (some (c : Int)) none))) p2 (.lst (cutV (fs.map V.int) none (some (c : Int)))) = G4 at s2 hp1 hp2 ⊢
      rw [cut_ints, cutI_tail] at hp1
      rw [cut_ints, cutI_head] at hp2
      have lf : fs.length = n := ofs.len
      refine ⟨_, _, _, _, rfl, rfl, hp1, hp2, line_small (by rw [List.length_map, List.length_drop, List.length_map, List.length_take]; omega), fun a3 na3 => ?_⟩
      have DG4 := DG3.same s2
      have c4 : KeepD d G G4 := c3.trans (KeepD.of_same s2)
      have nd3 := DG4.ne na3
      have s3 := same_new (o := .lst ((fs.drop c).map V.int ++ (fs.take c).map V.int)) na3
      -- first[::-1]
      refine ⟨_, rfl, f0, _, rfl, SqL.of (s3 _ _ (s2 _ _ hf3)), fun a4 na4 => ?_⟩
      have s4 := s3.trans (same_new (o := .lst (fs.map V.int).reverse) na4)
      have ha3 := same_new (o := .lst (fs.map V.int).reverse) na4 a3 (.lst ((fs.drop c).map V.int ++ (fs.take c).map V.int)) upd_same
      have ha4 : (upd (upd G4 a3 (.lst ((fs.drop c).map V.int ++ (fs.take c).map V.int))) a4 (.lst (fs.map V.int).reverse)) a4 = _ := upd_same
      have nd4 := (DG4.new na3).ne na4
      have na4' : G4 a4 = none := s3.free na4
      generalize upd (upd G4 a3 (.lst ((fs.drop c).map V.int ++ (fs.take c).map V.int))) a4 (.lst (fs.map V.int).reverse) = G5 at s4 ha3 ha4 ⊢
      have DG5 := DG4.same s4
      refine ⟨line_small (by show 4 ≤ 16777216; decide), fun sm nsm => ?_⟩
      have nsd := DG5.ne nsm
      have s5 := same_new (o := .lst [.ref a1, .ref a2, .ref a3, .ref a4]) nsm
      have hsm : (upd G5 sm (.lst [.ref a1, .ref a2, .ref a3, .ref a4])) sm = _ := upd_same
      have DG6 := DG5.same s5
      have c6 : KeepD d G (upd G5 sm (.lst [.ref a1, .ref a2, .ref a3, .ref a4])) := c4.trans (KeepD.of_same (s4.trans s5))
      have ga1 := (s4.trans s5) _ _ (s2 _ _ (kk3 _ _ ha1 nd1))
      have ga2 := (s4.trans s5) _ _ (s2 _ _ ha2)
      have ga3 := s5 _ _ ha3
      have ga4 := s5 _ _ ha4
      generalize upd G5 sm (.lst [.ref a1, .ref a2, .ref a3, .ref a4]) = G6 at s5 hsm DG6 c6 ga1 ga2 ga3 ga4 ⊢
      -- some.append(list(found[next % len(found)]))
      refine ⟨_, rfl, .inl ⟨rfl, _, SqL.of hsm⟩, _, rfl, _, rfl, d, rfl, DG6, fun v2 G7 _ _ DG7 kk7 => ?_⟩
      have c7 : KeepD d G G7 := c6.trans kk7
      have hl7 := c7 l _ hl nld
      refine ⟨_, rfl, l, _, rfl, .inl (SqL.of hl7), v2, _, rfl, rfl, (by show (0 : Int) < (((as.map V.ref).length : Nat) : Int); rw [List.length_map]; omega), ?_⟩
      obtain ⟨j, ej, hj⟩ : ∃ j : Nat, v2 % (((as.map V.ref).length : Nat) : Int) = (j : Int) ∧ j < as.length := by
        rw [List.length_map]
        have h1 := mod_b v2 (m := ((as.length : Nat) : Int)) (by omega)
        exact ⟨(v2 % ((as.length : Nat) : Int)).toNat, by omega, by omega⟩
      have LL7 : LL G7 as rs := hLL.keep fun a ha o e => c7 a o e (fun q => nda (by rw [← q]; exact ha))
      obtain ⟨b, eb⟩ : ∃ b, as[j]? = some b := ⟨as[j], List.getElem?_eq_getElem hj⟩
      obtain ⟨rb, erb, hb7⟩ := LL7.get eb
      have orb := ho rb (List.mem_of_getElem? erb)
      refine ⟨l, _, _, _, rfl, rfl, SqL.of hl7, at_of ej (ref_at eb), b, _, rfl, .inl (SqL.of hb7), fun a5 na5 => ?_⟩
      have nd5 := DG7.ne na5
      have s8 := same_new (o := .lst (rb.map V.int)) na5
      have hsm8 := s8 _ _ (kk7 _ _ hsm nsd)
      have ga5 : (upd G7 a5 (.lst (rb.map V.int))) a5 = _ := upd_same
      have gb1 := s8 _ _ (kk7 _ _ ga1 nd1)
      have gb2 := s8 _ _ (kk7 _ _ ga2 nd2)
      have gb3 := s8 _ _ (kk7 _ _ ga3 nd3)
      have gb4 := s8 _ _ (kk7 _ _ ga4 nd4)
      have DG8 := DG7.same s8
      have c8 : KeepD d G (upd G7 a5 (.lst (rb.map V.int))) := c7.trans (KeepD.of_same s8)
      generalize upd G7 a5 (.lst (rb.map V.int)) = G8 at s8 hsm8 ga5 gb1 gb2 gb3 gb4 DG8 c8 ⊢
      refine ⟨sm, _, _, rfl, rfl, hsm8, line_lt (by show 4 < 16777216; decide), ?_⟩
      have nGs : G sm = none := (c4.trans (KeepD.of_same s4)).none nsm nsd
      have n1 : G a1 = none := kk1.none na1 nd1
      have n2 : G a2 = none := c2.none na2 nd2
      have n3 : G a3 = none := c4.none na3 nd3
      have n4 : G a4 = none := c4.none na4' nd4
      have n5 : G a5 = none := c7.none na5 nd5
      have ne_ : ∀ {x : Addr} {y : List Int}, G8 x = some (.lst (y.map V.int)) → x ≠ sm := fun {x y} e => ne_of e hsm8 (by
        intro z
        cases y with
        | nil => cases z
        | cons u v => cases z)
      -- found.append(some[[0, 1, 2, next % 5][kind]])
      have DG9 := DG8.upd (o := .lst [.ref a1, .ref a2, .ref a3, .ref a4, .ref a5]) nsd
      have c9 : KeepD d G (upd G8 sm (.lst [.ref a1, .ref a2, .ref a3, .ref a4, .ref a5])) := fun b o e nb => by rw [upd_ne (ne_of_none e nGs)]; exact c8 b o e nb
      have hsm9 : (upd G8 sm (.lst [.ref a1, .ref a2, .ref a3, .ref a4, .ref a5])) sm = _ := upd_same
      have e1 := (upd_ne (H := G8) (o := .lst [.ref a1, .ref a2, .ref a3, .ref a4, .ref a5]) (ne_ gb1)).trans gb1
      have e2 := (upd_ne (H := G8) (o := .lst [.ref a1, .ref a2, .ref a3, .ref a4, .ref a5]) (ne_ gb2)).trans gb2
      have e3 := (upd_ne (H := G8) (o := .lst [.ref a1, .ref a2, .ref a3, .ref a4, .ref a5]) (ne_ (by rw [← List.map_append] at gb3; exact gb3))).trans gb3
      have e4 := (upd_ne (H := G8) (o := .lst [.ref a1, .ref a2, .ref a3, .ref a4, .ref a5]) (ne_ (by rw [← List.map_reverse] at gb4; exact gb4))).trans gb4
      have e5 := (upd_ne (H := G8) (o := .lst [.ref a1, .ref a2, .ref a3, .ref a4, .ref a5]) (ne_ ga5)).trans ga5
      have eG : upd G8 sm (.lst ([.ref a1, .ref a2, .ref a3, .ref a4] ++ [.ref a5])) = upd G8 sm (.lst [.ref a1, .ref a2, .ref a3, .ref a4, .ref a5]) := rfl
      rw [eG]
      generalize upd G8 sm (.lst [.ref a1, .ref a2, .ref a3, .ref a4, .ref a5]) = G9 at DG9 c9 hsm9 e1 e2 e3 e4 e5 ⊢
      have hl9 := c9 l _ hl nld
      refine ⟨_, rfl, .inl ⟨rfl, _, SqL.of hl9⟩, _, rfl, _, rfl, d, rfl, DG9, fun v3 GA _ _ DGA kkA => ⟨v3, 5, rfl, rfl, (show (0 : Int) < 5 by decide), ?_⟩⟩
      refine ⟨line_small (by show 4 ≤ 16777216; decide), fun t2 nt2 => ?_⟩
      have sA := same_new (o := .lst [.int 0, .int 1, .int 2, .int (v3 % 5)]) nt2
      have cB : KeepD d G9 (upd GA t2 (.lst [.int 0, .int 1, .int 2, .int (v3 % 5)])) := kkA.trans (KeepD.of_same sA)
      have DGB := DGA.same sA
      have htB : (upd GA t2 (.lst [.int 0, .int 1, .int 2, .int (v3 % 5)])) t2 = _ := upd_same
      generalize upd GA t2 (.lst [.int 0, .int 1, .int 2, .int (v3 % 5)]) = GB at cB DGB htB ⊢
      have h5 := mod_b v3 (m := 5) (by decide)
      obtain ⟨z, ez, hz⟩ : ∃ z : Nat, atI [V.int 0, V.int 1, V.int 2, V.int (v3 % 5)] (w1 % 4) = some (.int z) ∧ z < 5 := by
        have : w1 % 4 = 0 ∨ w1 % 4 = 1 ∨ w1 % 4 = 2 ∨ w1 % 4 = 3 := by omega
        rcases this with h | h | h | h <;> rw [h]
        · exact ⟨0, rfl, by decide⟩
        · exact ⟨1, rfl, by decide⟩
        · exact ⟨2, rfl, by decide⟩
        · refine ⟨(v3 % 5).toNat, ?_, by omega⟩
          rw [Int.toNat_of_nonneg h5.1]
          rfl
      refine ⟨_, rfl, t2, _, _, _, rfl, rfl, SqL.of htB, ez, ?_⟩
      obtain ⟨a, r, ea, na, nda', hea, hor⟩ : ∃ (a : Addr) (r : List Int), [V.ref a1, V.ref a2, V.ref a3, V.ref a4, V.ref a5][z]? = some (.ref a) ∧ G a = none ∧ a ≠ d ∧ G9 a = some (.lst (r.map V.int)) ∧ IsOrd n r := by
        have : z = 0 ∨ z = 1 ∨ z = 2 ∨ z = 3 ∨ z = 4 := by omega
        rcases this with rfl | rfl | rfl | rfl | rfl
        · exact ⟨a1, r1, rfl, n1, nd1, e1, o1⟩
        · exact ⟨a2, r2, rfl, n2, nd2, e2, o2⟩
        · refine ⟨a3, fs.drop c ++ fs.take c, rfl, n3, nd3, by rw [List.map_append]; exact e3, ?_⟩
          have : (fs.drop c ++ fs.take c).Perm (fs.take c ++ fs.drop c) := List.perm_append_comm
          rw [List.take_append_drop] at this
          exact this.trans ofs
        · exact ⟨a4, fs.reverse, rfl, n4, nd4, by rw [List.map_reverse]; exact e4, (List.reverse_perm fs).trans ofs⟩
        · exact ⟨a5, rb, rfl, n5, nd5, e5, orb⟩
      have hlB := cB l _ hl9 nld
      have hsB := cB sm _ hsm9 nsd
      refine ⟨sm, _, _, _, rfl, rfl, SqL.of hsB, at_of (j := z) rfl ea, ?_⟩
      refine ⟨l, _, _, rfl, rfl, hlB, line_lt (by rw [List.length_map]; omega), ?_⟩
      have cF : KeepD d G GB := c9.trans cB
      have nla2 : a ≠ l := fun e => by rw [e, hl] at na; cases na
      have LLB : LL GB as rs := hLL.keep fun a ha o e => cF a o e (fun q => nda (by rw [← q]; exact ha))
      refine ⟨_, _, _, as ++ [a], rs ++ [r], rfl, by rw [upd_same, List.map_append]; rfl, ?_, fun u hu => ?_, by rw [List.length_append, hlen]; rfl, ?_, fun u hu => ?_, fun hd => ?_, fun hd => ?_, DGB.upd nld, fun u o e nu => ?_⟩
      · refine LL.snoc (LLB.keep fun u hu o e => ?_) ?_
        · rw [upd_ne (fun q => nla (by rw [← q]; exact hu))]
          exact e
        · rw [upd_ne nla2]
          exact cB a _ hea nda'
      · rcases List.mem_append.mp hu with h | h
        · exact ho u h
        · rw [List.mem_singleton.mp h]
          exact hor
      · rw [upd_ne nlf.symm]
        exact cF f0 _ hf nfd
      · rcases List.mem_append.mp hu with h | h
        · exact hna u h
        · rw [List.mem_singleton.mp h]
          exact kG.none na nda'
      · rcases List.mem_append.mp hd with h | h
        · exact nda h
        · exact nda' (List.mem_singleton.mp h).symm
      · rcases List.mem_append.mp hd with h | h
        · exact nla h
        · exact nla2 (List.mem_singleton.mp h).symm
      · rw [upd_ne (fun q => by rw [q, nHl] at e; cases e)]
        exact cF u o (kG u o e nu) nu
    · obtain ⟨y6, y7, y8, as, rs, rfl, hl, hLL, ho, hlen, hf, hna, nda, nla, DG, kG⟩ := hP
      exact ⟨_, rfl, q l as rs G ⟨hl, hLL, ho, hn1, hn2⟩ (by omega) (by omega) nHl hna nld nda DG kG⟩
end
end Fo
namespace Fo
open PySem PySem.Spec PyProof.Rows L2
/-! {(i, j): v for .. for ..}: two clauses, each key a tuple on the heap -/
section
variable {kx vx ta ia tb ib : Expr} {fa fb : List Expr} {sc : Scope} {at0 : Pos}
abbrev dc2E (kx vx ta ia : Expr) (fa : List Expr) (tb ib : Expr) (fb : List Expr) (sc : Scope) (at0 : Pos) : Expr :=
  .DictComp kx vx [⟨ta, ia, fa, 0⟩, ⟨tb, ib, fb, 0⟩] sc at0
theorem dc2_turn0 (it acc : Value) (env : Env) :
    compTurn (dc2E kx vx ta ia fa tb ib fb sc at0) 0 it acc env = (do
      standAt ia.pos
      match ← pyNext it with
      | none =>
        pure (.done .next)
      | some u =>
        letOwnedTupleGo ta it u
        assign ta env u
        let mut good := true
        for c in fa do
          if good then good ← isTrue c env (eval c env)
        if good then
          let y ← eval ib env
          standAt ib.pos
          let y ← foldedSetIterable ib env y
          let _ ← runOwn (.compStart (dc2E kx vx ta ia fa tb ib fb sc at0) 1 (← holding [y] (pyIter y)) acc env) env
        again (.compLoop (dc2E kx vx ta ia fa tb ib fb sc at0) 0 it acc env)) := by rfl
theorem dc2_turn1 (it : Value) (D : Addr) (env : Env) :
    compTurn (dc2E kx vx ta ia fa tb ib fb sc at0) 1 it (.ref D) env = (do
      standAt ib.pos
      match ← pyNext it with
      | none =>
        pure (.done .next)
      | some u =>
        letOwnedTupleGo tb it u
        assign tb env u
        let mut good := true
        for c in fb do
          if good then good ← isTrue c env (eval c env)
        if good then
          (do
            let k0 ← eval kx env
            let v0 ← holding [k0] (eval vx env)
            standAt { kx.pos with endLine := vx.pos.endLine, endCol := vx.pos.endCol }
            holding [k0, v0] (dictSet D k0 v0))
        again (.compLoop (dc2E kx vx ta ia fa tb ib fb sc at0) 1 it (.ref D) env)) := by rfl
variable {prog : Program} {w : World} {A : Around} {R : Result → Shared → Prop} {s : Shared} {it acc : Value} {env : Env}
theorem dc2_out (hs : ∀ x, foldedSetIterable ib env x = pure x) (J : Nat → Shared → Prop)
    (go : ∀ n s, J n s → wpAny (model prog w) A (pyNext it) (fun r s₁ => match r with
      | none => R (.ok .next) s₁
      | some u => wpAny (model prog w) A (letOwnedTupleGo ta it u) (fun _ s₂ =>
          wpAny (model prog w) A (assign ta env u) (fun _ s₃ =>
            wpAny (model prog w) A (forIn fa true fun c r => if r = true then do let ok ← isTrue c env (eval c env); pure (ForInStep.yield ok) else pure (ForInStep.yield r)) (fun ok s₄ =>
              if ok = true then
                wpAny (model prog w) A (eval ib env) (fun x s₅ => wpAny (model prog w) A (pyIter x) (fun i1 s₆ =>
                  codeAny (model prog w) A (.compStart (dc2E kx vx ta ia fa tb ib fb sc at0) 1 i1 acc env) (fun r s' => match r with
                    | .ok _ => ∃ m, m < n ∧ J m s'
                    | .error _ => False) s₆)
                  (notedBy (model prog w) A env fun e s' => R (.error e) s') s₅)
                  (notedBy (model prog w) A env fun e s' => R (.error e) s') s₄
              else ∃ m, m < n ∧ J m s₄)
              (notedBy (model prog w) A env fun e s' => R (.error e) s') s₃)
            (notedBy (model prog w) A env fun e s' => R (.error e) s') s₂)
          (notedBy (model prog w) A env fun e s' => R (.error e) s') s₁)
      (notedBy (model prog w) A env fun e s' => R (.error e) s') s)
    (n : Nat) (h : J n s) : codeAny (model prog w) A (.compLoop (dc2E kx vx ta ia fa tb ib fb sc at0) 0 it acc env) R s := by
  refine codeAny_loop rfl J (fun n s hJ => ?_) n h
  show wpAny _ A ((compTurn (dc2E kx vx ta ia fa tb ib fb sc at0) 0 it acc env).onRaise (fun x => do noteFrame x env; theTreesLotGoes x)) _ _ s
  refine wpAny_noted ?_
  rw [dc2_turn0]
  have lift : ∀ {α : Type} {m : Sem α} {P Q : α → Shared → Prop} {E : Value → Shared → Prop} {s : Shared}, wpAny (model prog w) A m P E s → (∀ a s, P a s → Q a s) → wpAny (model prog w) A m Q E s :=
    fun h k => wpAny_mono h k fun _ _ z => z
  refine wpAny_bind (wpAny_standAt (wpAny_bind (lift (go n s hJ) fun r s₁ h₁ => ?_)))
  match r, h₁ with
  | none, h₁ => exact wpAny_pure h₁
  | some u, h₁ =>
    refine wpAny_bind (lift h₁ fun _ s₂ h₂ => wpAny_bind (lift h₂ fun _ s₃ h₃ => wpAny_bind (lift h₃ fun ok s₄ h₄ => ?_)))
    match ok, h₄ with
    | false, h₄ => exact wpAny_pure ⟨rfl, h₄⟩
    | true, h₄ =>
      refine wpAny_bind (lift h₄ fun x s₅ h₅ => wpAny_bind (wpAny_standAt (wpAny_bind (wpAny_of_eq (hs x) (wpAny_bind (wpAny_holding (lift h₅ fun i1 s₆ h₆ => ?_)))))))
      refine wpAny_bind (wpAny_runOwn ?_)
      rw [Around.mark_none]
      refine codeAny_mono h₆ fun r s' hr => ?_
      match r, hr with
      | .ok f, hr =>
        first
          | exact wpAny_pure ⟨rfl, hr⟩
          | exact wpAny_bind (wpAny_pure (wpAny_pure ⟨rfl, hr⟩))
      | .error e, hr => exact False.elim hr
theorem dc2_in {D : Addr} (J : Nat → Shared → Prop)
    (go : ∀ n s, J n s → wpAny (model prog w) A (pyNext it) (fun r s₁ => match r with
      | none => R (.ok .next) s₁
      | some u => wpAny (model prog w) A (letOwnedTupleGo tb it u) (fun _ s₂ =>
          wpAny (model prog w) A (assign tb env u) (fun _ s₃ =>
            wpAny (model prog w) A (forIn fb true fun c r => if r = true then do let ok ← isTrue c env (eval c env); pure (ForInStep.yield ok) else pure (ForInStep.yield r)) (fun ok s₄ =>
              if ok = true then
                wpAny (model prog w) A (eval kx env) (fun k0 s₅ => wpAny (model prog w) A (eval vx env) (fun v0 s₆ =>
                  wpAny (model prog w) A (dictSet D k0 v0) (fun _ s₇ => ∃ m, m < n ∧ J m s₇)
                    (notedBy (model prog w) A env fun e s' => R (.error e) s') s₆)
                  (notedBy (model prog w) A env fun e s' => R (.error e) s') s₅)
                  (notedBy (model prog w) A env fun e s' => R (.error e) s') s₄
              else ∃ m, m < n ∧ J m s₄)
              (notedBy (model prog w) A env fun e s' => R (.error e) s') s₃)
            (notedBy (model prog w) A env fun e s' => R (.error e) s') s₂)
          (notedBy (model prog w) A env fun e s' => R (.error e) s') s₁)
      (notedBy (model prog w) A env fun e s' => R (.error e) s') s)
    (n : Nat) (h : J n s) : codeAny (model prog w) A (.compLoop (dc2E kx vx ta ia fa tb ib fb sc at0) 1 it (.ref D) env) R s := by
  refine codeAny_loop rfl J (fun n s hJ => ?_) n h
  show wpAny _ A ((compTurn (dc2E kx vx ta ia fa tb ib fb sc at0) 1 it (.ref D) env).onRaise (fun x => do noteFrame x env; theTreesLotGoes x)) _ _ s
  refine wpAny_noted ?_
  rw [dc2_turn1]
  have lift : ∀ {α : Type} {m : Sem α} {P Q : α → Shared → Prop} {E : Value → Shared → Prop} {s : Shared}, wpAny (model prog w) A m P E s → (∀ a s, P a s → Q a s) → wpAny (model prog w) A m Q E s :=
    fun h k => wpAny_mono h k fun _ _ z => z
  refine wpAny_bind (wpAny_standAt (wpAny_bind (lift (go n s hJ) fun r s₁ h₁ => ?_)))
  match r, h₁ with
  | none, h₁ => exact wpAny_pure h₁
  | some u, h₁ =>
    refine wpAny_bind (lift h₁ fun _ s₂ h₂ => wpAny_bind (lift h₂ fun _ s₃ h₃ => wpAny_bind (lift h₃ fun ok s₄ h₄ => ?_)))
    match ok, h₄ with
    | false, h₄ => exact wpAny_pure ⟨rfl, h₄⟩
    | true, h₄ =>
      exact wpAny_bind (wpAny_bind (lift h₄ fun k0 s₅ h₅ => wpAny_bind (wpAny_holding (lift h₅ fun v0 s₆ h₆ =>
        wpAny_bind (wpAny_standAt (wpAny_holding (lift h₆ fun _ s₇ h₇ => wpAny_pure ⟨rfl, h₇⟩)))))))
theorem dc2_start (h0 : codeAny (model prog w) A (.compLoop (dc2E kx vx ta ia fa tb ib fb sc at0) 1 it acc env) R s)
    (h : wpAny (model prog w) A (pyIter it) (fun i' s' => codeAny (model prog w) A (.compLoop (dc2E kx vx ta ia fa tb ib fb sc at0) 1 i' acc env) R s')
      (notedBy (model prog w) A env fun x s' => R (.error x) s') s) :
    codeAny (model prog w) A (.compStart (dc2E kx vx ta ia fa tb ib fb sc at0) 1 it acc env) R s := by
  refine codeAny_of_tree ?_
  show wpAny _ _ ((compStart (dc2E kx vx ta ia fa tb ib fb sc at0) 1 it acc env).onRaise (fun x => do noteFrame x env; standAt theWindowsPlace)) _ _ s
  refine wpAny_notedAt ?_
  unfold compStart
  show wpAny _ _ (ask >>= _) _ _ s
  refine wpAny_bind (wpAny_askSetting (wpAny_ite ?_))
  have later : ∀ {v : Value} {s' : Shared}, codeAny (model prog w) A (.compLoop (dc2E kx vx ta ia fa tb ib fb sc at0) 1 v acc env) R s' → wpAny (model prog w) A (again (.compLoop (dc2E kx vx ta ia fa tb ib fb sc at0) 1 v acc env)) (fun fin s' => match fin with | .done f => R (.ok f) s' | .again c' => c'.quiet = true ∧ codeAny (model prog w) A c' R s') (notedBy (model prog w) A env fun x s' => R (.error x) s') s' :=
    fun k => wpAny_pure ⟨rfl, k⟩
  split
  · first
      | exact wpAny_bind (wpAny_pure (later h0))
      | exact later h0
  · first
      | exact wpAny_bind (wpAny_rule (wpAny_bind (wpAny_standAt (wpAny_bind (wpAny_mono h (fun _ _ k => later k) fun _ _ z => z)))))
      | (refine wpAny_bind (wpAny_rule ?_)
         show wpAny _ _ (standAt ib.pos >>= _) _ _ s
         exact wpAny_bind (wpAny_standAt (wpAny_bind (wpAny_mono h (fun _ _ k => later k) fun _ _ z => z))))
end
/-- d[k] = v by a comprehension, k a tuple -/
theorem dt_store {X : Cx} {pins : List (Addr × Obj)} {σ : L2.St} {H : Hp} {s : Shared} {E : Value → Shared → Prop} {D b : Addr} {kvs : List (List Key × V)} {k : List Key} {v : V} {u r : Value} {Q : Unit → Shared → Prop}
    (hu : X.A.units < cLine) (I : Inv X pins σ H s) (hD : H D = some (.dT kvs)) (hb : H b = some (.tup (k.map kV))) (hz : kvs.length < sizeLine)
    (ry : RelV (.ref b) u) (rv : RelV v r) (h : ∀ s', Inv X pins σ (upd H D (.dT (putK kvs k v))) s' → Q () s') : wpAny (model X.prog X.w) X.A (dictSet D u r) Q E s := by
  cases (show u = Value.ref b from ry)
  obtain ⟨z, hd, xs, rel, dd⟩ := dt_of I.hok hD
  have hl : (putK kvs k v).length ≤ sizeLine := by
    have := length_putK kvs k v
    omega
  refine wpAny_dictSet_heap (hsz := by rw [← Paired.length rel]; exact z) hu (key_of I.hok hb) dd fun h' dd' hs => h _ ?_
  obtain ⟨q, es, ep, hq, h2, h3, h4, _, h5⟩ := dd'
  refine d_write I (by rw [hD]; exact True.intro) hs ⟨q, hq⟩ ⟨hl, hd, _, (rel.put k hb rv).keeps fun c ys ec => ?_, q, es, ep, hq, h2, h3, h4, h5⟩
  rw [upd_ne (ne_of ec hD (fun z => nomatch z))]
  exact ec
/-- {k: v for .. if .. for .. if ..}, D the new dict; each key a tuple of ints and texts -/
def tDc2 (wi : TI) (g : TG) (tt : TT) (wj : TI) (gj : TG) (tj : TT) (tk tv : TE) (vs vj : List Nat) : TE := fun σ H Q => wi σ H fun J H1 => ∀ D, H1 D = none →
  ∃ W : Nat → Nat → Hp → Prop, (∃ m, W 0 m (upd H1 D (.dT []))) ∧ ∀ i m G, W i m G →
    (J.stop i G ∧ Q (.ref D) G) ∨
    (J.go i G ∧ ∃ Nx : Hp → Prop, (∀ G', Nx G' → ∃ m', m' < m ∧ W (i + 1) m' G') ∧ ∀ x G', J.yld i G x G' →
      g x (wipe σ vs) G' fun σ2 H2 => wipe σ2 vs = wipe σ vs ∧ tt σ2 H2 fun b H3 =>
        if b = true then wj σ2 H3 fun Jj H4 =>
          ∃ Wj : Nat → Nat → Hp → Prop, (∃ m, Wj 0 m H4) ∧ ∀ j k G, Wj j k G →
            (Jj.stop j G ∧ Nx G) ∨
            (Jj.go j G ∧ ∃ Ny : Hp → Prop, (∀ G', Ny G' → ∃ k', k' < k ∧ Wj (j + 1) k' G') ∧ ∀ x G', Jj.yld j G x G' →
              gj x (wipe σ2 vj) G' fun σ3 H5 => wipe σ3 vj = wipe σ2 vj ∧ tj σ3 H5 fun b H6 =>
                if b = true then tk σ3 H6 fun y H7 => tv σ3 H7 fun z H8 =>
                  ∃ kvs k p, y = .ref p ∧ H8 p = some (.tup (k.map kV)) ∧ H8 D = some (.dT kvs) ∧ kvs.length < sizeLine ∧ Ny (upd H8 D (.dT (putK kvs k z)))
                else Ny H6)
        else Nx H3)
theorem pe_dc2 {X : Cx} {kx vx ta ia tb ib : Expr} {fa fb : List Expr} {sc : Scope} {own : List (Str × Nat)} {vj : List Nat} {at0 : Pos} {wi wj : TI} {g gj : TG} {tt tj : TT} {tk tv : TE}
    (hu : X.A.units < cLine) (calm : X.calm = true) (nd : X.N.Nodup) (pi : PI X ta ia wi) (blk : BlkOk X.N X.env.scope sc own) (hv : ∀ i ∈ vj, i ∈ own.map (·.2))
    (pg : ∀ (s : Shared) (H : Hp) (C : Addr) (cl : List (Str × Addr)) (fp : List Addr),
      PG (X.blk s H sc (compEnvC sc cl C X.env) fp) ta g)
    (pt : ∀ (s : Shared) (H : Hp) (C : Addr) (cl : List (Str × Addr)) (fp : List Addr),
      PTs (X.blk s H sc (compEnvC sc cl C X.env) fp) fa tt)
    (pj : ∀ (s : Shared) (H : Hp) (C : Addr) (cl : List (Str × Addr)) (fp : List Addr),
      PI (X.blk s H sc (compEnvC sc cl C X.env) fp) tb ib wj)
    (pgj : ∀ (s : Shared) (H : Hp) (C : Addr) (cl : List (Str × Addr)) (fp : List Addr),
      PG (X.blk s H sc (compEnvC sc cl C X.env) fp) tb gj)
    (ptj : ∀ (s : Shared) (H : Hp) (C : Addr) (cl : List (Str × Addr)) (fp : List Addr),
      PTs (X.blk s H sc (compEnvC sc cl C X.env) fp) fb tj)
    (pk : ∀ (s : Shared) (H : Hp) (C : Addr) (cl : List (Str × Addr)) (fp : List Addr),
      PE (X.blk s H sc (compEnvC sc cl C X.env) fp) kx tk)
    (pv' : ∀ (s : Shared) (H : Hp) (C : Addr) (cl : List (Str × Addr)) (fp : List Addr),
      PE (X.blk s H sc (compEnvC sc cl C X.env) fp) vx tv)
    (fold : ∀ x, foldedSetIterable ia X.env x = pure x := by intro _; rfl) (foldj : ∀ env x, foldedSetIterable ib env x = pure x := by intro _ _; rfl) :
    PE X (dc2E kx vx ta ia fa tb ib fb sc at0) (tDc2 wi g tt wj gj tj tk tv (own.map (·.2)) vj) := by
  refine ⟨fun pins s σ H Q I h => ?_⟩
  rw [arm_eval_DictComp]
  have free : ∀ y ∈ sc.names, y.2 = .free → ∃ c, X.env.cells.lookup y.1 = some c := fun y hy e =>
    I.ok.has _ (blk.free y hy e)
  refine wpAny_comprehension_free (use := none) rfl fold (closure_ok free) blk.kind (fun y hy e => by rw [blk.uniq y hy, e])
    (thn (pi.run pins s σ H _ I h) fun xv s1 hx => thn hx fun itv s2 h2 => ?_)
  obtain ⟨it, fp, tn, J, H2, e, I2, T, st2, f2, q⟩ := h2
  subst e
  refine wpAny_newObj_type (newEnv_comp ?_)
  generalize hD : s2.heap.objs.size = D
  obtain ⟨W, ⟨m0, w0⟩, turn⟩ := q D (I2.hok.fresh (Nat.le_of_eq hD))
  let s3 : Shared := { s2 with heap := s2.heap.push { cls := .type "dict", data := .dict #[] } }
  let H3 : Hp := upd H2 D (.dT [])
  have h3 : s3.heap = s2.heap.push { cls := .type "dict", data := .dict #[] } := rfl
  have I3 : Inv X pins σ H3 s3 := by
    refine I2.laid (t' := s2.toks) (fun b o e => Heap.get?_push_of_some _ e) (Nat.le_of_eq hD) ?_
    rw [← hD]
    exact dt_empty s2.heap I2.big
  have low : ∀ b ∈ fp, b < s2.heap.objs.size := fun b hb => by
    obtain ⟨o, e, _⟩ := T.obj _ _ st2 b hb
    exact Heap.lt_size e
  have f3 : ∀ b ∈ fp, FpOk X pins H3 b ∧ b < s3.heap.objs.size := fun b hb => by
    have lt := low b hb
    refine ⟨⟨?_, (f2 b hb).2⟩, by rw [h3, Heap.size_push]; exact Nat.lt_succ_of_lt lt⟩
    show upd H2 D (.dT []) b = none
    rw [upd_ne (by rw [← hD]; exact Nat.ne_of_lt lt)]
    exact (f2 b hb).1
  have st3 : tn 0 s3.heap := T.keep _ _ _ st2 fun b _ o e => by rw [h3]; exact Heap.get?_push_of_some _ e
  have I4 := block_start I3 blk nd f3
  have pg := pg s3 H3 s3.heap.objs.size (cellsFrom (s3.heap.objs.size + 1) sc.names (cloFrom X.env.cells sc.names [])) fp
  have pt := pt s3 H3 s3.heap.objs.size (cellsFrom (s3.heap.objs.size + 1) sc.names (cloFrom X.env.cells sc.names [])) fp
  have pj := pj s3 H3 s3.heap.objs.size (cellsFrom (s3.heap.objs.size + 1) sc.names (cloFrom X.env.cells sc.names [])) fp
  have pgj := pgj s3 H3 s3.heap.objs.size (cellsFrom (s3.heap.objs.size + 1) sc.names (cloFrom X.env.cells sc.names [])) fp
  have ptj := ptj s3 H3 s3.heap.objs.size (cellsFrom (s3.heap.objs.size + 1) sc.names (cloFrom X.env.cells sc.names [])) fp
  have pk := pk s3 H3 s3.heap.objs.size (cellsFrom (s3.heap.objs.size + 1) sc.names (cloFrom X.env.cells sc.names [])) fp
  have pe := pv' s3 H3 s3.heap.objs.size (cellsFrom (s3.heap.objs.size + 1) sc.names (cloFrom X.env.cells sc.names [])) fp
  have nfp : ∀ b ∈ fp, H3 b = none := fun b hb => (f3 b hb).1.1
  show codeAny _ _ (.compStart (dc2E kx vx ta ia fa tb ib fb sc at0) 0 (.ref it) (.ref D) (compEnvC sc (cellsFrom (s3.heap.objs.size + 1) sc.names (cloFrom X.env.cells sc.names [])) s3.heap.objs.size X.env)) (compPost (model X.prog X.w) X.A X.xe none _ (.ref D) s3.heap.objs.size) { s3 with heap := pushCells (s3.heap.push { cls := .type "dict", data := .dict #[] }) sc.names }
  generalize hce : compEnvC sc (cellsFrom (s3.heap.objs.size + 1) sc.names (cloFrom X.env.cells sc.names [])) s3.heap.objs.size X.env = ce at I4 pg pt pj pgj ptj pk pe ⊢
  have cL : ce.locals = s3.heap.objs.size := by rw [← hce]; rfl
  have hw0 : W 0 m0 H3 := w0
  clear_value H3
  generalize hs4 : ({ s3 with heap := pushCells (s3.heap.push { cls := .type "dict", data := .dict #[] }) sc.names } : Shared) = s4 at I4 ⊢
  have st4 : tn 0 s4.heap := T.keep _ _ _ st3 fun b _ o e => by rw [← hs4]; exact pushCells_keeps _ _ _ _ (Heap.get?_push_of_some _ e)
  clear_value s3
  have B0 : ∀ {H' : Hp}, (∀ b ∈ fp, H' b = none) → ∀ {σ' : L2.St} {s' : Shared}, Inv (X.blk s3 H3 sc ce fp) [] σ' H' s' → ∀ b ∈ fp, FpOk (X.blk s3 H3 sc ce fp) [] H' b := fun hn _ _ I' b hb =>
    ⟨hn b hb, (I'.ok.exf b hb).1, I'.ok.exfs b hb, .inl hb, fun x c e => (I'.ok.exf b hb).2 x c e, fun p hp => absurd (show p ∈ ([] : List (Addr × Obj)) ++ [] from hp) (by simp)⟩
  have loop : codeAny (model X.prog X.w) X.A (.compLoop (dc2E kx vx ta ia fa tb ib fb sc at0) 0 (.ref it) (.ref D) ce) (compPost (model X.prog X.w) X.A X.xe none (EP X pins σ Q) (.ref D) s3.heap.objs.size) s4 := by
    refine dc2_out (foldj ce) (fun n s' => ∃ i H', Inv (X.blk s3 H3 sc ce fp) [] (wipe σ (own.map (·.2))) H' s' ∧ tn i s'.heap ∧ (∀ b ∈ fp, H' b = none) ∧ W i n H') ?_ m0 ⟨0, H3, I4, st4, nfp, hw0⟩
    rintro n s5 ⟨i, H5, I5, st5, n5, w5⟩
    rcases turn i n H5 w5 with ⟨stop, qq⟩ | ⟨go, Nx, hNx, step⟩
    · refine thnF (T.done (X.blk s3 H3 sc ce fp) rfl rfl rfl calm i [] s5 _ H5 (fun _ _ => False) I5 (B0 n5 I5) st5 stop) fun r s6 ⟨hr, I6⟩ => ?_
      subst hr
      have I7 : Inv X pins σ H5 s6 := I3.call' (ch := fp) I6.os I6.base I6.hok I6.bare fun b hb =>
        let z := (f3 b hb).1.2
        ⟨z.2.2.1, z.1, z.2.2.2.1, z.2.2.2.2⟩
      have nC : H5 s3.heap.objs.size = none := by rw [← cL]; exact I6.free
      obtain ⟨m, hn, _⟩ := I6.loc
      have hn : s6.heap.Ns s3.heap.objs.size m := by rw [← cL]; exact hn
      obtain ⟨f0, f1, _, f3', f4, f5⟩ := I3.fpOk (Nat.le_refl _) nC
      exact ⟨m, hn, fun h'' sb => ⟨.ref D, H5, I7.turned (t' := s6.toks) (fun b o hb e => (sb.2 b hb).trans e) f0 f1 f3' f4 f5, rfl, qq⟩⟩
    · refine thnF (T.item (X.blk s3 H3 sc ce fp) rfl rfl rfl calm i [] s5 _ H5 (fun _ _ => False) I5 (B0 n5 I5) st5 go) fun r s6 ⟨u, hr, h6⟩ => ?_
      subst hr
      refine thnF h6 fun _ s7 ⟨x, H7, I7, r7, y7, st7, n7⟩ => ?_
      have I7' := I7.pinned (B0 n7 I7) (T.obj _ _ st7)
      refine thnF (pg.run _ s7 _ H7 x u _ I7' r7 (step x H7 y7)) fun _ s8 ⟨σ8, H8, I8, hw8, q8⟩ => ?_
      refine thnF (pt.run _ s8 σ8 H8 _ I8 q8) fun b s9 ⟨H9, I9, q9⟩ => ?_
      have len8 : (wipe σ (own.map (·.2))).length = σ8.length := by rw [← hw8, wipe_length]
      have back : ∀ {σ9 : L2.St} {s' : Shared} {H' : Hp}, Inv (X.blk s3 H3 sc ce fp) ([] ++ pinsAt fp s7.heap) σ9 H' s' → (wipe σ (own.map (·.2))).length = σ9.length → (∀ (j : Nat) v, (wipe σ (own.map (·.2)))[j]? = some (some v) → σ9[j]? = some (some v)) → Nx H' →
          ∃ m, m < n ∧ ∃ i H', Inv (X.blk s3 H3 sc ce fp) [] (wipe σ (own.map (·.2))) H' s' ∧ tn i s'.heap ∧ (∀ b ∈ fp, H' b = none) ∧ W i m H' := fun {σ9 s' H'} I' hl hk nx => by
        obtain ⟨m', hm, w'⟩ := hNx H' nx
        have stay : ∀ b ∈ fp, ∀ o, s7.heap.get? b = some o → s'.heap.get? b = some o ∧ H' b = none := fun b hb o e => by
          have z := I'.pin (b, o) (List.mem_append_right _ (List.mem_append_right _ (mem_pinsAt hb e)))
          exact ⟨z.1, z.2.1⟩
        refine ⟨m', hm, i + 1, H', (I'.unpinned (pins := [])).weak hl hk, T.keep _ _ _ st7 fun b hb o e => (stay b hb o e).1, fun b hb => ?_, w'⟩
        obtain ⟨o, e, _⟩ := T.obj _ _ st7 b hb
        exact (stay b hb o e).2
      have k8 : ∀ (j : Nat) v, (wipe σ (own.map (·.2)))[j]? = some (some v) → σ8[j]? = some (some v) := fun j v e => by
        rw [← hw8] at e
        exact (wipe_some e).1
      have k9 : ∀ (j : Nat) v, (wipe σ (own.map (·.2)))[j]? = some (some v) → (wipe σ8 vj)[j]? = some (some v) := fun j v e => by
        rw [← hw8] at e
        obtain ⟨e1, e2⟩ := wipe_some e
        rw [wipe_out fun z => e2 (hv j z)]
        exact e1
      match b, q9 with
      | false, q9 =>
        exact back I9 len8 k8 (by simpa using q9)
      | true, q9 =>
        rw [if_pos rfl] at q9 ⊢
        refine thnF (pj.run _ s9 σ8 H9 _ I9 q9) fun xv s10 hx => thnF hx fun itv s11 h11 => ?_
        obtain ⟨i1, fp1, tn1, J1, H11, e1, I11, T1, st11, f11, W1, ⟨m1, w1⟩, turn1⟩ := h11
        subst e1
        have B1 : ∀ {H' : Hp}, (∀ b ∈ fp1, H' b = none) → ∀ b ∈ fp1, FpOk (X.blk s3 H3 sc ce fp) ([] ++ pinsAt fp s7.heap) H' b := fun hn b hb => ⟨hn b hb, (f11 b hb).2⟩
        have loop1 : codeAny (model X.prog X.w) X.A (.compLoop (dc2E kx vx ta ia fa tb ib fb sc at0) 1 (.ref i1) (.ref D) ce)
            (fun r s' => match r with
              | .ok _ => ∃ m, m < n ∧ ∃ i H', Inv (X.blk s3 H3 sc ce fp) [] (wipe σ (own.map (·.2))) H' s' ∧ tn i s'.heap ∧ (∀ b ∈ fp, H' b = none) ∧ W i m H'
              | .error _ => False) s11 := by
          refine dc2_in (fun k s' => ∃ j H', Inv (X.blk s3 H3 sc ce fp) ([] ++ pinsAt fp s7.heap) (wipe σ8 vj) H' s' ∧ tn1 j s'.heap ∧ (∀ b ∈ fp1, H' b = none) ∧ W1 j k H') ?_ m1 ⟨0, H11, I11.weak (wipe_length _ _) (fun j v e => (wipe_some e).1), st11, fun b hb => (f11 b hb).1, w1⟩
          rintro k s12 ⟨j, H12, I12, st12, n12, w12⟩
          rcases turn1 j k H12 w12 with ⟨stop1, nx1⟩ | ⟨go1, Ny, hNy, step1⟩
          · refine thnF (T1.done (X.blk s3 H3 sc ce fp) rfl rfl rfl calm j _ s12 (wipe σ8 vj) H12 (fun _ _ => False) I12 (B1 n12) st12 stop1) fun r s13 ⟨hr, I13⟩ => ?_
            subst hr
            exact back I13 (len8.trans (wipe_length σ8 vj).symm) k9 nx1
          · refine thnF (T1.item (X.blk s3 H3 sc ce fp) rfl rfl rfl calm j _ s12 (wipe σ8 vj) H12 (fun _ _ => False) I12 (B1 n12) st12 go1) fun r s13 ⟨u1, hr, h13⟩ => ?_
            subst hr
            refine thnF h13 fun _ s14 ⟨x1, H14, I14, r14, y14, st14, n14⟩ => ?_
            have I14' := I14.pinned (B1 n14) (T1.obj _ _ st14)
            refine thnF (pgj.run _ s14 (wipe σ8 vj) H14 x1 u1 _ I14' r14 (step1 x1 H14 y14)) fun _ s15 ⟨σ15, H15, I15, hw15, q15⟩ => ?_
            refine thnF (ptj.run _ s15 σ15 H15 _ I15 q15) fun b1 s16 ⟨H16, I16, q16⟩ => ?_
            have back1 : ∀ {s' : Shared} {H' : Hp}, Inv (X.blk s3 H3 sc ce fp) (([] ++ pinsAt fp s7.heap) ++ pinsAt fp1 s14.heap) σ15 H' s' → Ny H' → ∃ m, m < k ∧ ∃ j H', Inv (X.blk s3 H3 sc ce fp) ([] ++ pinsAt fp s7.heap) (wipe σ8 vj) H' s' ∧ tn1 j s'.heap ∧ (∀ b ∈ fp1, H' b = none) ∧ W1 j m H' := fun {s' H'} I' nx => by
              obtain ⟨m', hm, w'⟩ := hNy H' nx
              have stay : ∀ b ∈ fp1, ∀ o, s14.heap.get? b = some o → s'.heap.get? b = some o ∧ H' b = none := fun b hb o e => by
                have z := I'.pin (b, o) (List.mem_append_right _ (List.mem_append_right _ (mem_pinsAt hb e)))
                exact ⟨z.1, z.2.1⟩
              refine ⟨m', hm, j + 1, H', I'.unpinned.weak (by rw [← hw15, wipe_length]) (fun j v e => by rw [← hw15] at e; exact (wipe_some e).1), T1.keep _ _ _ st14 fun b hb o e => (stay b hb o e).1, fun b hb => ?_, w'⟩
              obtain ⟨o, e, _⟩ := T1.obj _ _ st14 b hb
              exact (stay b hb o e).2
            match b1, q16 with
            | false, q16 => exact back1 I16 (by simpa using q16)
            | true, q16 =>
              rw [if_pos rfl] at q16 ⊢
              refine thnF (pk.run _ s16 σ15 H16 _ I16 q16) fun z s17 ⟨yk, H17, I17, r17, q17⟩ => ?_
              refine thnF (pe.run _ s17 σ15 H17 _ I17 q17) fun z2 s18 ⟨yv, H18, I18, r18, kvs, kk, p, ek, hp18, hD18, hz18, nx⟩ => ?_
              subst ek
              exact dt_store (X := X.blk s3 H3 sc ce fp) hu I18 hD18 hp18 hz18 r17 r18 fun s19 I19 => back1 I19 nx
        exact dc2_start loop1 (T1.self X.A 0 _ _ _ st11 loop1)
  exact codeAny_compStart_dict loop (T.self X.A 0 _ _ _ st4 loop)
/-- the first clause over a range -/
theorem dc2_outer {lo : Int} {n : Nat} {g gj : TG} {tt tj : TT} {wj : TI} {tk tv : TE} {vs vj : List Nat} {σ : L2.St} {H1 : Hp} {D : Addr} {Qd : Hp → Prop}
    (Pv : Nat → Hp → Prop) (h0 : Pv 0 (upd H1 D (.dT [])))
    (hs : ∀ i G, i < n → Pv i G → g (.int (lo + i)) (wipe σ vs) G fun σ2 H2 => wipe σ2 vs = wipe σ vs ∧ tt σ2 H2 fun b H3 =>
      if b = true then wj σ2 H3 fun Jj H4 =>
        ∃ Wj : Nat → Nat → Hp → Prop, (∃ m, Wj 0 m H4) ∧ ∀ j k G, Wj j k G →
          (Jj.stop j G ∧ Pv (i + 1) G) ∨
          (Jj.go j G ∧ ∃ Ny : Hp → Prop, (∀ G', Ny G' → ∃ k', k' < k ∧ Wj (j + 1) k' G') ∧ ∀ x G', Jj.yld j G x G' →
            gj x (wipe σ2 vj) G' fun σ3 H5 => wipe σ3 vj = wipe σ2 vj ∧ tj σ3 H5 fun b H6 =>
              if b = true then tk σ3 H6 fun y H7 => tv σ3 H7 fun z H8 =>
                ∃ kvs k p, y = .ref p ∧ H8 p = some (.tup (k.map kV)) ∧ H8 D = some (.dT kvs) ∧ kvs.length < sizeLine ∧ Ny (upd H8 D (.dT (putK kvs k z)))
              else Ny H6)
      else Pv (i + 1) H3) (hd : ∀ G, Pv n G → Qd G) :
    ∃ W : Nat → Nat → Hp → Prop, (∃ m, W 0 m (upd H1 D (.dT []))) ∧ ∀ i m G, W i m G →
      ((Itr lo n).stop i G ∧ Qd G) ∨
      ((Itr lo n).go i G ∧ ∃ Nx : Hp → Prop, (∀ G', Nx G' → ∃ m', m' < m ∧ W (i + 1) m' G') ∧ ∀ x G', (Itr lo n).yld i G x G' →
        g x (wipe σ vs) G' fun σ2 H2 => wipe σ2 vs = wipe σ vs ∧ tt σ2 H2 fun b H3 =>
          if b = true then wj σ2 H3 fun Jj H4 =>
            ∃ Wj : Nat → Nat → Hp → Prop, (∃ m, Wj 0 m H4) ∧ ∀ j k G, Wj j k G →
              (Jj.stop j G ∧ Nx G) ∨
              (Jj.go j G ∧ ∃ Ny : Hp → Prop, (∀ G', Ny G' → ∃ k', k' < k ∧ Wj (j + 1) k' G') ∧ ∀ x G', Jj.yld j G x G' →
                gj x (wipe σ2 vj) G' fun σ3 H5 => wipe σ3 vj = wipe σ2 vj ∧ tj σ3 H5 fun b H6 =>
                  if b = true then tk σ3 H6 fun y H7 => tv σ3 H7 fun z H8 =>
                    ∃ kvs k p, y = .ref p ∧ H8 p = some (.tup (k.map kV)) ∧ H8 D = some (.dT kvs) ∧ kvs.length < sizeLine ∧ Ny (upd H8 D (.dT (putK kvs k z)))
                  else Ny H6)
          else Nx H3) := by
  refine ⟨fun i m G => m = n - i ∧ (i ≤ n ∧ Pv i G), ⟨n, (Nat.sub_zero n).symm, Nat.zero_le n, h0⟩, ?_⟩
  rintro i m G ⟨rfl, hi, p⟩
  by_cases c : i < n
  · refine .inr ⟨c, Pv (i + 1), fun G' p' => ⟨n - (i + 1), by omega, rfl, c, p'⟩, fun x G' y => ?_⟩
    obtain ⟨rfl, rfl⟩ := y
    exact hs i _ c p
  · have e : i = n := by omega
    subst e
    exact .inl ⟨Nat.le_refl _, hd G p⟩
/-- the second one over a range -/
theorem dc2_inner {lo : Int} {n : Nat} {gj : TG} {tj : TT} {tk tv : TE} {vj : List Nat} {σ2 : L2.St} {H4 : Hp} {D : Addr} {Nx : Hp → Prop}
    (Pw : Nat → Hp → Prop) (h0 : Pw 0 H4)
    (hs : ∀ j G, j < n → Pw j G → gj (.int (lo + j)) (wipe σ2 vj) G fun σ3 H5 => wipe σ3 vj = wipe σ2 vj ∧ tj σ3 H5 fun b H6 =>
      if b = true then tk σ3 H6 fun y H7 => tv σ3 H7 fun z H8 =>
        ∃ kvs k p, y = .ref p ∧ H8 p = some (.tup (k.map kV)) ∧ H8 D = some (.dT kvs) ∧ kvs.length < sizeLine ∧ Pw (j + 1) (upd H8 D (.dT (putK kvs k z)))
      else Pw (j + 1) H6) (hd : ∀ G, Pw n G → Nx G) :
    ∃ Wj : Nat → Nat → Hp → Prop, (∃ m, Wj 0 m H4) ∧ ∀ j k G, Wj j k G →
      ((Itr lo n).stop j G ∧ Nx G) ∨
      ((Itr lo n).go j G ∧ ∃ Ny : Hp → Prop, (∀ G', Ny G' → ∃ k', k' < k ∧ Wj (j + 1) k' G') ∧ ∀ x G', (Itr lo n).yld j G x G' →
        gj x (wipe σ2 vj) G' fun σ3 H5 => wipe σ3 vj = wipe σ2 vj ∧ tj σ3 H5 fun b H6 =>
          if b = true then tk σ3 H6 fun y H7 => tv σ3 H7 fun z H8 =>
            ∃ kvs k p, y = .ref p ∧ H8 p = some (.tup (k.map kV)) ∧ H8 D = some (.dT kvs) ∧ kvs.length < sizeLine ∧ Ny (upd H8 D (.dT (putK kvs k z)))
          else Ny H6) := by
  refine ⟨fun j m G => m = n - j ∧ (j ≤ n ∧ Pw j G), ⟨n, (Nat.sub_zero n).symm, Nat.zero_le n, h0⟩, ?_⟩
  rintro j m G ⟨rfl, hi, p⟩
  by_cases c : j < n
  · refine .inr ⟨c, Pw (j + 1), fun G' p' => ⟨n - (j + 1), by omega, rfl, c, p'⟩, fun x G' y => ?_⟩
    obtain ⟨rfl, rfl⟩ := y
    exact hs j _ c p
  · have e : j = n := by omega
    subst e
    exact .inl ⟨Nat.le_refl _, hd G p⟩
end Fo
namespace Fo
open PySem PySem.Spec PyProof.Rows L2
/-! dicts keyed by tuples: ==, dict(pairs), values(), clear() -/
section
variable {prog : Program} {w : World} {K : Type} [DecidableEq K] {knd : HeapKind prog w K} {A : Around} {E : Value → Shared → Prop} {s : Shared}
theorem same_pairsH {nm : String} {a b : Addr} {xa xb : List (K × Addr × Value)} {Q : Bool → Shared → Prop} (hu : knd.room A) (ha : (a == sysModules) = false) (hb : (b == sysModules) = false)
    (da : s.heap.DictOfH knd a xa) (db : s.heap.DictOfH knd b xb) (hl : xa.length = xb.length)
    (hits : ∀ k p v, (k, p, v) ∈ xa → ∃ q y, atKey xb k = some (q, y) ∧ SeqAt.EqAt A s v y true) (h : Q true s) :
    wpAny (model prog w) A (Builtin.Dict.samePairs nm a b) Q E s := by
  obtain ⟨oa, es, ep, hoa, _, hda, hea, hisa, _⟩ := da
  obtain ⟨ob, es', ep', hob, _, hdb, heb, hisb, hnb⟩ := db
  have za := size_of_entries hea
  have zb := size_of_entries heb
  unfold Builtin.Dict.samePairs Builtin.Dict.showsAll
  have neg : ∀ {c : Addr}, (c == sysModules) = false → ¬ (c == sysModules) = true := fun e z => by rw [e] at z; cases z
  rw [if_neg (neg ha), if_neg (neg hb)]
  refine wpAny_bind (wpAny_pure (wpAny_bind (wpAny_pure (wpAny_bind (wpAny_dictEntries hoa hda ?_)))))
  dsimp only
  refine wpAny_bind (wpAny_dictEntries hob hdb ?_)
  rw [if_neg (by rw [za, zb, hl]; simp)]
  refine wpAny_bind (wpAny_dictEpoch hoa hda (wpAny_bind ?_))
  rw [Std.Legacy.Range.forIn_eq_forIn_range']
  simp only [Std.Legacy.Range.size, Nat.sub_zero, Nat.add_sub_cancel, Nat.div_one]
  refine wpAny_forIn_list _ (fun rest q s' => s' = s ∧ q = (none, ()) ∧ ∃ i, rest = List.range' i (es.size - i) ∧ i ≤ es.size) _ ?_ ?_ _ _ ⟨rfl, rfl, 0, by simp, Nat.zero_le _⟩
  · rintro x rest q s' ⟨rfl, rfl, i, hr, hi⟩
    obtain ⟨hlt, rfl, hrest⟩ : i < es.size ∧ x = i ∧ rest = List.range' (i + 1) (es.size - (i + 1)) := by
      rcases Nat.lt_or_ge i es.size with g | g
      · refine ⟨g, ?_⟩
        rw [show es.size - i = (es.size - (i + 1)) + 1 by omega, List.range'_succ] at hr
        injection hr with h1 h2
        exact ⟨h1, h2⟩
      · rw [Nat.sub_eq_zero_of_le g] at hr
        cases hr
    refine wpAny_bind (wpAny_dictEntries hoa hda ?_)
    obtain ⟨⟨k, p, v⟩, hkv⟩ : ∃ z, xa[x]? = some z := ⟨_, List.getElem?_eq_getElem (by omega)⟩
    have hex : es[x]? = some ⟨knd.hash k, .ref p, v⟩ := by rw [entry_at hea x, hkv]; rfl
    rw [hex]
    obtain ⟨q', y, hq, he⟩ := hits k p v (List.mem_of_getElem? hkv)
    show wpAny _ _ (holding [Value.ref p, v] _ >>= _) _ _ _
    refine wpAny_bind (wpAny_holding (wpAny_bind (wpAny_dictFind_heap hu (hisa _ (List.mem_of_getElem? hkv)) hob hdb heb hisb hnb (fun hno => ?_) (fun j pp hj => ?_))))
    · rw [atKey_none_of_get hno] at hq
      cases hq
    · rw [atKey_of_get hnb hj] at hq
      cases hq
      refine wpAny_bind (wpAny_dictEntries hob hdb ?_)
      rw [entry_at heb j, hj]
      refine wpAny_holding (he prog w _ _ ?_)
      show wpAny _ _ (if (!true) = true then _ else _) _ _ _
      rw [if_neg (by decide)]
      refine wpAny_bind (wpAny_dictEpoch hoa hda ?_)
      rw [if_neg (by simp)]
      exact wpAny_pure ⟨rfl, rfl, x + 1, hrest, hlt⟩
  · rintro q s' ⟨rfl, rfl, i, hr, hi⟩
    exact wpAny_pure h
theorem ne_dictsH {a b : Addr} {xa xb : List (K × Addr × Value)} {Q : Value → Shared → Prop} (hr : knd.room A.in1) (hu : A.units < cLine) (ha : (a == sysModules) = false) (hb : (b == sysModules) = false)
    (da : s.heap.DictOfH knd a xa) (db : s.heap.DictOfH knd b xb) (hl : xa.length = xb.length)
    (hits : ∀ k p v, (k, p, v) ∈ xa → ∃ q y, atKey xb k = some (q, y) ∧ SeqAt.EqAt A.in1 s v y true) (h : Q (.bool false) s) :
    wpAny (model prog w) A (compareOp .NotEq (.ref a) (.ref b)) Q E s := by
  refine wpAny_richCompare_same_room (op := .NotEq) da.typeIs db.typeIs PySem.F.slot_dict_ne (wpAny_call_entry PySem.F.slot_dict_ne da.typeIs PySem.F.entry_dict_ne ?_ (PySem.F.args_dict_ne_2 _ _)) hu
  show wpAny _ _ (Builtin.Dict.dictSlotArgs "__ne__" ⟨[.ref a, .ref b], []⟩ >>= _) _ _ s
  refine wpAny_bind ?_
  unfold Builtin.Dict.dictSlotArgs
  refine wpAny_bind (wpAny_notOrdered_dict da.typeIs ?_)
  show wpAny _ _ (pure (Value.ref a, Value.ref b)) _ _ s
  refine wpAny_pure (wpAny_bind (wpAny_isInstance (T := "dict") db.typeIs PySem.F.sub_dict_dict ?_))
  simp only [Bool.not_true, Bool.false_eq_true, if_false]
  refine wpAny_bind (wpAny_pure (wpAny_bind (wpAny_pure (wpAny_bind (same_pairsH hr ha hb da db hl hits (wpAny_pure ⟨_, rfl, ?_, ?_⟩))))))
  · exact fun x => nomatch x
  · simpa using h
end
section
variable {X : Cx}
theorem pairs_mem {α β : Type} {G : α → β → Prop} {l : List α} {m : List β} (h : Paired G l m) : ∀ y ∈ m, ∃ x ∈ l, G x y := by
  induction h with
  | nil => intro y hy; cases hy
  | @cons a b l m r t ih =>
    intro y hy
    rcases List.mem_cons.mp hy with rfl | hy
    · exact ⟨a, List.mem_cons_self, r⟩
    · obtain ⟨x, hx, g⟩ := ih y hy
      exact ⟨x, List.mem_cons_of_mem _ hx, g⟩
/-- != of two dicts that are the same, whatever the order of their keys -/
def rNeDT : R2 := fun x y H Q => ∃ a b ks ls, x = .ref a ∧ y = .ref b ∧ H a = some (.dT ks) ∧ H b = some (.dT ls) ∧ ks.length = ls.length ∧ (∀ p ∈ ks, valV ls p.1 = some p.2 ∧ flatB p.2 = true) ∧ Q (.bl false) H
theorem op_neDT (hu : X.A.units + 1 < cLine) : OpR X (compareOp .NotEq) rNeDT := by
  intro pins s σ H x y v u Q I rx ry h
  obtain ⟨a, b, ks, ls, rfl, rfl, ea, eb, hlen, hp, q⟩ := h
  obtain rfl : v = Value.ref a := rx
  obtain rfl : u = Value.ref b := ry
  obtain ⟨_, ya, xa, ra, da⟩ := dt_of I.hok ea
  obtain ⟨_, yb, xb, rb, db⟩ := dt_of I.hok eb
  refine ne_dictsH (tupleKind_room_in1 hu) (by omega) ya yb da db (by rw [← Paired.length ra, ← Paired.length rb]; exact hlen) (fun k p v m => ?_) ⟨.bl false, H, I, rfl, q⟩
  obtain ⟨⟨k', x⟩, hx, e1, e2, e3⟩ := pairs_mem ra _ m
  obtain rfl : k' = k := e1
  obtain ⟨g1, g2⟩ := hp _ hx
  have rr : RelO (some x) ((atKey xb k').map (·.2)) := by rw [← g1]; exact rb.val k'
  obtain ⟨y, hy, ry⟩ := rr.some_of
  obtain ⟨⟨q', y'⟩, hq, rfl⟩ := Option.map_eq_some_iff.mp hy
  exact ⟨q', y', hq, eqAt_same e3 ry g2⟩
theorem kt_new {P : Program} {w : World} {H : Hp} {h : Heap} {a : Addr} {kvs : List (List Key × V)} {xs : List (List Key × Addr × Value)} (z : kvs.length ≤ sizeLine) (hd : (a == sysModules) = false) (rel : KT H kvs xs) (dd : h.DictOfH (tupleKind (mixKind P w)) a xs) : ObjOk P w H h a (.dT kvs) := by
  obtain ⟨o, es, ep, h1, h2, h3, h4, _, h5⟩ := dd
  exact ⟨z, hd, xs, rel, o, es, ep, h1, h2, h3, h4, h5⟩
/-- d.clear() -/
def rClearT : V → List V → Hp → VK → Prop := fun x xs H Q => ∃ (a : Addr) (kvs : List (List L2.Key × V)), x = .ref a ∧ xs = [] ∧ H a = some (.dT kvs) ∧ Q .non (upd H a (.dT []))
theorem mt_clearT : MtR X "dict.clear" rClearT := by
  intro pins s σ H x xs v us Q I rx rxs h
  obtain ⟨a, kvs, rfl, rfl, ha, q⟩ := h
  cases rx
  cases rxs
  obtain ⟨z, hd, ys, rel, dd⟩ := dt_of I.hok ha
  refine clear_keyed (kvs := pairsH ys) (knd := tupleKind (mixKind X.prog X.w)) ⟨ys, dd, rfl⟩ (fun h' dd' hs => ?_) (by rw [pairsH_length, ← Paired.length rel]; exact z)
  obtain ⟨zs, dz, ez⟩ := dd'
  have hz : zs = [] := by
    cases zs with
    | nil => rfl
    | cons a l => cases ez
  subst hz
  have he : ∃ q, h'.get? a = some q := let ⟨q, _, _, hq, _⟩ := dz; ⟨q, hq⟩
  exact ⟨.non, _, d_write (t' := s.toks) I (by rw [ha]; exact True.intro) hs he (kt_new (Nat.zero_le _) hd .nil dz), rfl, q⟩
/-- the values of the locked dict at d -/
def ItdT (d : Addr) (o : Obj) (kvs : List (List Key × V)) : It :=
  ⟨fun i H => H d = some (.frz o (.dT kvs)) ∧ i < kvs.length, fun i H x H' => H' = H ∧ ∃ k, kvs[i]? = some (k, x), fun i H => H d = some (.frz o (.dT kvs)) ∧ kvs.length ≤ i⟩
theorem frz_vals {pins : List (Addr × Obj)} {σ : L2.St} {H : Hp} {s : Shared} {d : Addr} {o : Obj} {kvs : List (List Key × V)} (I : Inv X pins σ H s) (h : H d = some (.frz o (.dT kvs))) :
    (d == sysModules) = false ∧ s.heap.get? d = some o ∧ o.ExactDict ∧ ∃ (es : Array DictEntry) (ep : Nat), o.data = .dict es ep ∧ es.size = kvs.length ∧
      ∀ (i : Nat) (hi : i < es.size) (k : List Key) (v : V), kvs[i]? = some (k, v) → RelV v es[i].val := by
  obtain ⟨hd, z, hs, xs, pr, o', es, ep, ho, hx, hdt, he, _⟩ := I.hok d _ h
  rw [hd] at ho
  cases ho
  refine ⟨hs, hd, hx, es, ep, hdt, ?_, fun i hi k v e => ?_⟩
  · rw [size_of_entries he, Paired.length pr]
  · obtain ⟨b, hb, _, _, e3⟩ := paired_get pr e
    have q := entry_at he i
    rw [hb, Array.getElem?_eq_getElem hi] at q
    have q' := Option.some.inj q
    rw [q']
    exact e3
section
variable {P : Program} {w : World} {K : PySem.W.Frag} {tg : Expr} {d : Addr} {o : Obj} {es : Array DictEntry} {ep : Nat}
theorem turn_valsT {kvs : List (List Key × V)} (it : Addr) (hod : o.data = .dict es ep) : Turn P w K tg (ItdT d o kvs) [it] it (fun i h => h.IsValIter it d i kvs.length ep) where
  mem := by simp
  obj := fun i h st b hb => by
    obtain rfl : b = it := by simpa using hb
    obtain ⟨oi, e, c, dd⟩ := st
    exact ⟨oi, e, fun v z => by rw [dd] at z; cases z⟩
  keep := fun i h h' st k => st.at fun oi e => k it (by simp) oi e
  item := by
    intro X hP hw hK hc i pins s σ H E I hf st hg
    subst hP hw hK
    obtain ⟨hd, hi⟩ := hg
    obtain ⟨f0, f1, f2, f3, f4, f5⟩ := hf it (by simp)
    obtain ⟨hs, hgd, hx, es', ep', hdt, hsz, ent⟩ := frz_vals I hd
    obtain ⟨rfl, rfl⟩ := dict_ep hod hdt
    obtain ⟨⟨k, v⟩, hkv⟩ : ∃ p, kvs[i]? = some p := ⟨kvs[i], List.getElem?_eq_getElem hi⟩
    rw [← hsz] at st
    have hi' : i < es'.size := by omega
    refine wpAny_pyNext_values_item_raw st ⟨o, hgd, hx, hdt⟩ hi' fun h' st' sb => ?_
    have J : Inv X pins σ H { s with heap := h' } := I.turned (t' := s.toks) (fun b ob hb e => (sb.2 b hb).trans e) f0 f1 f3 f4 f5
    obtain ⟨oi, e, c, dd⟩ := id st'
    refine ⟨es'[i].val, rfl, go_of (s := { s with heap := h' }) e c dd (by decide) ⟨v, H, J, ent i hi' k v hkv, ⟨rfl, k, hkv⟩, ?_, fun b hb => (hf b hb).1⟩⟩
    show h'.IsValIter it d (i + 1) kvs.length _
    rw [← hsz]
    exact st'
  done := by
    intro X hP hw hK hc i pins s σ H E I hf st hg
    subst hP hw hK
    obtain ⟨hd, hi⟩ := hg
    obtain ⟨f0, f1, f2, f3, f4, f5⟩ := hf it (by simp)
    obtain ⟨hs, hgd, hx, es', ep', hdt, hsz, ent⟩ := frz_vals I hd
    obtain ⟨rfl, rfl⟩ := dict_ep hod hdt
    rw [← hsz] at st
    exact wpAny_pyNext_values_end_raw (I.ok.hd hc) st ⟨o, hgd, hx, hdt⟩ (by omega) fun h' eb => ⟨rfl, I.turned (t' := s.toks) (fun b ob hb e => eb b ob hb e) f0 f1 f3 f4 f5⟩
  self := fun A i s Q E st h => wpAny_pyIter_valiter st h
end
def iValsT (td : TE) : TI := fun σ H R => td σ H fun x H1 => ∃ d o kvs, x = .ref d ∧ H1 d = some (.frz o (.dT kvs)) ∧ R (ItdT d o kvs) H1
theorem pi_valuesT {tg e : Expr} {td : TE} {apos cpos : Pos} (he : PE X e td) (hbase : attributeBase e "values" X.env (eval e X.env) = eval e X.env := by rfl) (hline : (apos.endLine == cpos.line) = true := by rfl) :
    PI X tg (.Call (.Attribute e "values" apos) [] [] cpos) (iValsT td) := by
  refine ⟨fun pins s σ H R I h => ?_⟩
  refine wpAny_Call_method (T := "dict") (id := "dict.values") hbase rfl hline F.plainAttrs_dict F.slot_dict_values F.type_dict_values (thn (he.run pins s σ H _ I h) fun u s1 ⟨x, H1, I1, rx, d, o, kvs, ex, hd, q⟩ => ?_)
  subst ex
  obtain rfl : u = Value.ref d := rx
  obtain ⟨hs, hgd, hx, es, ep, hdt, hsz, ent⟩ := frz_vals I1 hd
  have raw : s1.heap.DictRaw d es ep := ⟨o, hgd, hx, hdt⟩
  refine ⟨raw.typeIs, fun a e => by cases e; exact ⟨o, hgd, hx.2.1⟩, ?_⟩
  have I2 : Inv X pins σ H1 { s1 with heap := s1.heap.push { cls := .type "dict_values", data := .fields #[.ref d] } } := I1.kept (t' := s1.toks) fun b ob q => Heap.get?_push_of_some _ q
  have fin : wpAny (model X.prog X.w) X.A (pyIter (.ref s1.heap.objs.size)) (PIE X pins σ tg R) X.xe { s1 with heap := s1.heap.push { cls := .type "dict_values", data := .fields #[.ref d] } } := by
    refine wpAny_pyIter_values_raw (d := d) (es := es) (ep := ep) ⟨_, Heap.get?_push_size _ rfl, rfl, rfl⟩ (raw.at fun o e => Heap.get?_push_of_some _ e) (pi_one (tk := s1.toks) I2 _ (turn_valsT _ hdt) ⟨_, Heap.get?_push_size _ rfl, rfl, ?_⟩ q)
    rw [← hsz] <;> rfl
  show wpAny _ _ (callWith cpos (.builtin "dict.values") [.ref d] [] []) _ X.xe s1
  exact method_meetsIn F.slot_dict_values F.entry_dict_values rfl (PySem.evalArgs_none ⟨rfl, raw.typeIs, F.args_dict_values_1 _, _, meets_dict_values_raw d hs, ⟨es, ep, raw⟩, fin⟩)
end
def mergeT (kvs more : List (List Key × V)) : List (List Key × V) := more.foldl (fun acc kv => putK acc kv.1 kv.2) kvs
theorem KT.merge {H : Hp} : ∀ {more : List (List Key × V)} {rs : List (List Key × Addr × Value)} {kvs : List (List Key × V)} {vs : List (List Key × Addr × Value)}, KT H more rs → KT H kvs vs → KT H (mergeT kvs more) (storedAllH vs rs)
  | _, _, _, _, .nil, h => h
  | _, _, _, _, .cons (a := kv) (b := x) ⟨h1, h2, h3⟩ t, h => by
    show KT H (mergeT (putK _ kv.1 kv.2) _) (storedAllH (storedH _ x.1 x.2.1 x.2.2) _)
    refine KT.merge t ?_
    rw [← h1]
    exact h.put kv.1 h2 h3
theorem length_mergeT : ∀ (more kvs : List (List Key × V)), (mergeT kvs more).length ≤ kvs.length + more.length
  | [], kvs => Nat.le_refl _
  | kv :: more, kvs => by
    have h1 := length_mergeT more (putK kvs kv.1 kv.2)
    have h2 := length_putK kvs kv.1 kv.2
    show (mergeT (putK kvs kv.1 kv.2) more).length ≤ _
    rw [List.length_cons]
    omega
section
variable {X : Cx}
/-- the pairs at ps: each a key's tuple and a value -/
theorem pairs_ofT {pins : List (Addr × Obj)} {σ : L2.St} {H : Hp} {s : Shared} (I : Inv X pins σ H s) : ∀ {ps : List Addr} {kvs : List (List Key × V)}, Paired (fun p kv => ∃ b, SqT X.K H p [.ref b, kv.2] ∧ H b = some (.tup (kv.1.map kV))) ps kvs →
    ∃ xs : List (List Key × Addr × Value), KT H kvs xs ∧ xs.length = ps.length ∧ ∀ (j : Nat) (x : List Key × Addr × Value), xs[j]? = some x → ∃ p, ps[j]? = some p ∧ IsTup s.heap p #[.ref x.2.1, x.2.2]
  | _, _, .nil => ⟨[], .nil, rfl, fun j q e => by simp at e⟩
  | _, _, .cons (a := p) (b := kv) ⟨b, h, hb⟩ t => by
    obtain ⟨xs, r, hl, hp⟩ := pairs_ofT I t
    obtain ⟨its, rv, ht, _⟩ := I.tuple h
    obtain ⟨u, y, ei, ru, ry⟩ := vals2 rv
    subst ei
    cases ru
    refine ⟨(kv.1, b, y) :: xs, .cons ⟨rfl, hb, ry⟩ r, by rw [List.length_cons, List.length_cons, hl], fun j q e => ?_⟩
    cases j with
    | zero =>
      have e' : (kv.1, b, y) = q := Option.some.inj e
      subst e'
      exact ⟨p, rfl, ht⟩
    | succ j =>
      obtain ⟨b, e1, e2⟩ := hp j q (by simpa using e)
      exact ⟨b, by simpa using e1, e2⟩
theorem u2_of {k : Nat} {A : Around} (r : Room k A) : A.units + 2 < cLine := by have := r.un; omega
/-- dict(xs) of a list of pairs whose keys are tuples -/
def rDictT (K : PySem.W.Frag) : List V → Hp → VK → Prop := fun xs H Q => ∃ (a : Addr) (ps : List Addr) (kvs : List (List Key × V)), xs = [.ref a] ∧ H a = some (.lst (ps.map V.ref)) ∧
  Paired (fun (p : Addr) (kv : List Key × V) => ∃ b, SqT K H p [V.ref b, kv.2] ∧ H b = some (.tup (kv.1.map kV))) ps kvs ∧ ∀ p, H p = none → Q (.ref p) (upd H p (.dT (mergeT [] kvs)))
theorem call_dictT (calm : X.calm = true) (hu : X.A.units + 2 < cLine) : CallR X (.type "dict") (rDictT X.K) := by
  intro pins s σ H xs us Q I r q
  obtain ⟨a, ps, kvs, ex, hq, hp, q⟩ := q
  subst ex
  obtain ⟨u, eu, rx⟩ := vals1 r
  subst eu
  cases rx
  obtain ⟨hz, its, n, rv, hg⟩ := I.hok a _ hq
  have ei := refs_at rv
  subst ei
  rw [List.length_map] at hz
  obtain ⟨ys, rel, hl, hpr⟩ := pairs_ofT I hp
  have hlk : kvs.length = ys.length := Paired.length rel
  let prs : List (Value × Value) := ys.map fun x => (Value.ref x.2.1, x.2.2)
  have hat : ∀ {j : Nat} {k v : Value}, prs[j]? = some (k, v) → ∃ x, ys[j]? = some x ∧ k = .ref x.2.1 ∧ v = x.2.2 := fun {j k v} e => by
    rw [List.getElem?_map] at e
    obtain ⟨x, hx, e⟩ := Option.map_eq_some_iff.mp e
    cases e
    exact ⟨x, hx, rfl, rfl⟩
  have stay : ∀ h', (∀ b o, s.heap.get? b = some o → h'.get? b = some o) → ∀ x ∈ ys, (tupleKind (mixKind X.prog X.w)).is h' x.1 x.2.1 := fun h' k x hx => by
    obtain ⟨kv, hkv, e1, e2, e3⟩ := pairs_mem rel x hx
    obtain ⟨o, its, n, h1, h2, h3, h4⟩ := key_of I.hok (by rw [← e1]; exact e2 : H x.2.1 = some (.tup (x.1.map kV)))
    exact ⟨o, its, n, k _ _ h1, h2, h3, h4⟩
  refine call_dict_pairsH (knd := tupleKind (mixKind X.prog X.w)) (ps := ys) (wr := []) (PairArg.list a (ps.map Value.ref).toArray (fun j => (ps[j]?).getD 0) prs) (I.ok.hd calm) hu
    ⟨⟨_, n, hg, rfl, rfl, rfl⟩, by simp [prs, hl], fun j k v e => ?_⟩ ⟨by simp [prs], fun i k v e => ?_⟩ (fun h' k x hx => ?_) (by simp only [prs, List.length_map]; omega) fun h' tk dd k => ?_
  · obtain ⟨x, hx, rfl, rfl⟩ := hat e
    obtain ⟨p, e1, e2⟩ := hpr j x hx
    refine ⟨by simp [e1], ?_⟩
    show PairAt s.heap ((ps[j]?).getD 0) _ _
    rw [e1]
    exact .inl e2
  · obtain ⟨x, hx, rfl, rfl⟩ := hat e
    exact ⟨x.1, x.2.1, hx, rfl⟩
  · exact stay h' (fun b o e => k b o (Nat.ne_of_lt (Heap.lt_size e)) (fun z => nomatch z) e) x hx
  · have hm : (s.heap.objs.size == sysModules) = false := beq_eq_false_iff_ne.mpr (Nat.ne_of_gt I.big)
    have hlen : (mergeT [] kvs).length ≤ sizeLine := by
      have := length_mergeT kvs []
      rw [List.length_nil, Nat.zero_add] at this
      omega
    have hf := I.hok.fresh (Nat.le_refl s.heap.objs.size)
    refine ⟨.ref s.heap.objs.size, upd H s.heap.objs.size (.dT (mergeT [] kvs)), I.laid (t' := tk) (fun b o e => k b o (fun z => nomatch z) e) (Nat.le_refl _) (kt_new hlen hm ((KT.merge rel .nil).keeps fun b ys e => ?_) dd), rfl, q _ hf⟩
    rw [upd_ne (ne_of_none e hf)]
    exact e
end
end Fo
namespace Fo
open PySem PySem.Spec PyProof.Rows L2
/-- where a thing stands in an order -/
theorem idx_read {K : PySem.W.Frag} {H : Hp} {a : Addr} {n : Nat} {ys : List Int} {x : Int} {Q : VK} (o : IsOrd n ys) (h : H a = some (.lst (ys.map V.int))) (x0 : 0 ≤ x) (x1 : x < n) (q : Q (.int (pos ys x)) H) : rIndex K (.ref a) [.int x] H Q := by
  obtain ⟨j, hj, ej, pj⟩ := pos_at o x0 x1
  refine ⟨a, _, _, j, _, rfl, rfl, SqL.of h, rfl, flat_ints ys, int_at ej, ?_, fun u z' hu hz' => ?_, ?_⟩
  · show (x == x) = true
    exact beq_self_eq_true _
  · obtain ⟨y, ey, rfl⟩ := int_at_inv hz'
    show (y == x) = false
    rw [beq_eq_false_iff_ne]
    intro e
    subst e
    exact absurd (nd_ix o.nodup ey ej) (by omega)
  · rw [← pj]
    exact q
theorem idx_facts {n : Nat} {ys : List Int} {x : Int} (o : IsOrd n ys) (x0 : 0 ≤ x) (x1 : x < n) : ∃ j : Nat, (ys.map V.int)[j]? = some (V.int x) ∧ eqV (V.int x) (V.int x) = true ∧ (∀ (m : Nat) (z' : V), m < j → (ys.map V.int)[m]? = some z' → eqV z' (V.int x) = false) ∧ ((j : Nat) : Int) = pos ys x := by
  obtain ⟨j, hj, ej, pj⟩ := pos_at o x0 x1
  refine ⟨j, int_at ej, ?_, fun u z' hu hz' => ?_, pj.symm⟩
  · show (x == x) = true
    exact beq_self_eq_true _
  · obtain ⟨y, ey, rfl⟩ := int_at_inv hz'
    show (y == x) = false
    rw [beq_eq_false_iff_ne]
    intro e
    subst e
    exact absurd (nd_ix o.nodup ey ej) (by omega)
end Fo
namespace Fo
open PySem PySem.Spec PyProof.Rows L2
theorem lc_zipL {K : PySem.W.Frag} {a b : Addr} {xs ys : List V} {g : TG} {tt : TT} {te : TE} {vs : List Nat} {σ : L2.St} {H1 : Hp} {D : Addr} {Qd : Hp → Prop} (hlen : xs.length = ys.length) (Pv : Nat → Hp → Prop) (h0 : Pv 0 (upd H1 D (.lst []))) (hl : ∀ i H, i ≤ xs.length → Pv i H → SqL K H a xs ∧ SqL K H b ys)
    (hs : ∀ (i : Nat) (x y : V) (T : Addr) (H : Hp), xs[i]? = some x → ys[i]? = some y → Pv i H → H T = none → g (.ref T) (wipe σ vs) (upd H T (.tup [x, y])) fun σ2 H2 => wipe σ2 vs = wipe σ vs ∧ tt σ2 H2 fun b H3 =>
      if b = true then te σ2 H3 fun y H4 => ∃ acc, H4 D = some (.lst acc) ∧ acc.length < sizeLine ∧ Pv (i + 1) (upd H4 D (.lst (acc ++ [y]))) else Pv (i + 1) H3) (hd : ∀ H, Pv xs.length H → Qd H) :
    ∃ W : Nat → Nat → Hp → Prop, (∃ m, W 0 m (upd H1 D (.lst []))) ∧ ∀ i m H, W i m H →
      ((Itz K a b).stop i H ∧ Qd H) ∨ ((Itz K a b).go i H ∧ ∃ Nx : Hp → Prop, (∀ H', Nx H' → ∃ m', m' < m ∧ W (i + 1) m' H') ∧ ∀ x H', (Itz K a b).yld i H x H' → g x (wipe σ vs) H' fun σ2 H2 => wipe σ2 vs = wipe σ vs ∧ tt σ2 H2 fun b H3 =>
        if b = true then te σ2 H3 fun y H4 => ∃ acc, H4 D = some (.lst acc) ∧ acc.length < sizeLine ∧ Nx (upd H4 D (.lst (acc ++ [y]))) else Nx H3) := by
  refine ⟨fun i m H => m = xs.length - i ∧ i ≤ xs.length ∧ Pv i H, ⟨xs.length, by simp, Nat.zero_le _, h0⟩, ?_⟩
  rintro i m H ⟨rfl, hi, p⟩
  obtain ⟨q1, q2⟩ := hl i H hi p
  by_cases hlt : i < xs.length
  · refine .inr ⟨⟨xs, ys, xs[i], ys[i], q1, q2, by simp [hlt], List.getElem?_eq_getElem (by omega)⟩, Pv (i + 1), fun H' p' => ⟨xs.length - (i + 1), by omega, rfl, hlt, p'⟩, fun x H' y => ?_⟩
    obtain ⟨T, x', y', rfl, hT, rfl, f1, f2⟩ := y
    exact hs i x' y' T H (f1 xs q1) (f2 ys q2) p hT
  · have e : i = xs.length := by omega
    subst e
    exact .inl ⟨⟨xs, ys, q1, q2, .inl (Nat.le_refl _)⟩, hd H p⟩
end Fo
namespace Fo
open PySem PySem.Spec PyProof.Rows L2
theorem all_trues {l : List Bool} (h : ∀ b ∈ l, b = true) : l.all id = true := List.all_eq_true.mpr fun b hb => h b hb
def sumW (w : Str) (xs : List Int) (rs : List (List Int)) : Int := (rs.map (farW w xs)).sum
def spOLst : Sp := fun vs H Q _ => ∃ (l : Addr) (as : List Addr) (rs : List (List Int)) (n : Nat), vs = [.ref l] ∧ OL H l as rs n ∧ rs.length ≤ 1000 ∧ ∀ H', Same H H' → Q (.bl true) H'
def spCPoll : Sp := fun vs H Q _ => ∃ (l : Addr) (as : List Addr) (rs : List (List Int)) (n : Nat), vs = [.ref l] ∧ OL H l as rs n ∧ 1 ≤ rs.length ∧ rs.length ≤ 20 ∧ ∀ H', Same H H' → Q .non H'
def spKSum : Sp := fun vs H Q _ => ∃ (w : Str) (l o : Addr) (as : List Addr) (rs : List (List Int)) (n : Nat) (xs : List Int), vs = [.str w, .ref l, .ref o] ∧ IsWay w ∧ OL H l as rs n ∧ rs.length ≤ 1000 ∧ H o = some (.lst (xs.map V.int)) ∧ IsOrd n xs ∧ ∀ H', Same H H' → Q (.int (sumW w xs rs)) H'
theorem take_more' {α : Type} {l : List α} {i : Nat} {x : α} (h : l[i]? = some x) : l.take (i + 1) = l.take i ++ [x] := by
  rw [List.take_add_one, h]
  rfl
section
variable {P : Program} {w : World} {K : PySem.W.Frag} {mg : Str → Option Value} {base : Heap}
theorem scOLst : FnScope ["thing", "each", "order"] ["thing"] (defScope s_is_order_list) := ⟨rfl, rfl, rfl, by decide +kernel, rfl, by decide +kernel, by decide +kernel⟩
set_option maxHeartbeats 2000000 in
theorem ok_olst {f f1 : Addr} {fd d1 : FuncData} {k : Nat} (T : Df K mg "is_order_list" s_is_order_list ["thing"] f fd) (T_is_order : Df K mg "is_order" s_is_order ["thing"] f1 d1) (G_is_order : FnOk P w K mg base CX0 k f1 d1 ["thing"] spIsOrd) (B : Bi mg) : FnOk P w K mg base CX0 (k + 1) f fd ["thing"] spOLst := by
  refine T.F.ok scOLst (fun vs H Q E h => ?_) (fun cdv A outer s H vs Q E hr h => ?_)
  · obtain ⟨l, as, rs, n, rfl, _⟩ := h
    rfl
  · obtain ⟨l, as, rs, n, rfl, hO, hlen, q⟩ := h
    have hal := hO.ll.len
    refine ⟨_, 
      (pss_cons (ps_if (PW.pt (pw_or (pt_not (pt_val (pe_callB call_isi (by rfl) B.isinstance (by decide +kernel) (pa_cons (pv 0) (pa_cons (pe_bltn (v := .ty "list") (by rfl) B.list (by decide +kernel) rfl) pa_nil))))) (pw_or1 (pt_not (pt_val (pe_callB (cr_all rfl) (by rfl) B.all (by decide +kernel) (pa_cons (pe_lc (own := [("each", 1)]) (g := (gName 1)) (tt := tYes) (te := (tCall spIsOrd [] E0 (tCons (tVar 1) tNil))) rfl scOLst.nd (pi_list (pv 0)) (blkOk_by (N := ["thing", "each", "order"]) (sc := defScope s_is_order_list) (by decide +kernel)) (fun _ _ _ _ _ => (pg_name (i := 1) scOLst.nd rfl (.inl rfl))) (fun _ _ _ _ _ => pts_nil) (fun _ _ _ _ _ => (pe_call G_is_order hr (by rfl) T_is_order.g T_is_order.F.kp T_is_order.b .nil pass0 (pa_cons (pv 1) pa_nil)))) pa_nil)))))))
        (pss_one (ps_ret pe_bl))
        pss_nil)
      (pss_one (ps_ret (pe_callB (cr_all rfl) (by rfl) B.all (by decide +kernel) (pa_cons (pe_lc (own := [("order", 2)]) (g := (gName 2)) (tt := tYes) (te := (tOp rEq (tCB (rLenS K) (tCons (tVar 2) tNil)) (tCB (rLenS K) (tCons (tOp (rIxL K) (tVar 0) (tC (.int 0))) tNil)))) rfl scOLst.nd (pi_list (pv 0)) (blkOk_by (N := ["thing", "each", "order"]) (sc := defScope s_is_order_list) (by decide +kernel)) (fun _ _ _ _ _ => (pg_name (i := 2) scOLst.nd rfl (.inl rfl))) (fun _ _ _ _ _ => pts_nil) (fun _ _ _ _ _ => (pe_cmpR op_eq (pe_callB call_len_seq (by rfl) B.len PySem.boot_len (pa_cons (pv 2) pa_nil)) (pe_callB call_len_seq (by rfl) B.len PySem.boot_len (pa_cons (pe_ix ix_list (pv 0) pe_int (fun _ _ => rfl)) pa_nil)) (nomark _)))) pa_nil))))), ?_⟩
    refine ⟨_, rfl, _, _, _, _, true, rfl, .ty _, .base (.lst hO.top), kit_ty (by decide +kernel), true, rfl, iteF ?_⟩
    refine ⟨_, rfl, l, rfl, ⟨_, SqL.of hO.top⟩, fun p np => ?_⟩
    refine lc_list (K := K) (a := l) (xs := as.map V.ref) (fun i H3 => H3 p = some (.lst ((List.replicate i true).map V.bl)) ∧ Same H H3) ⟨upd_same, same_new np⟩ (fun i H3 _ hP => SqL.of (hP.2 _ _ hO.top)) (fun i x H3 hx hP => ?_) (fun H3 hP => ?_)
    · obtain ⟨a, ea, rfl⟩ := ref_at_inv hx
      obtain ⟨hp3, sm⟩ := hP
      obtain ⟨r, er, ha⟩ := (hO.ll.same sm).get ea
      refine ⟨rfl, _, rfl, a, n, r, rfl, ha, hO.ord r (List.mem_of_getElem? er), hO.n1, hO.n2, fun H4 s4 => ⟨_, s4 _ _ hp3, line_lt (by
        rw [List.length_map, List.length_replicate]
        have := (List.getElem?_eq_some_iff.mp ea).1
        omega), ?_, fun b o e => ?_⟩⟩
      · rw [upd_same, List.replicate_succ', List.map_append]
        rfl
      · rw [upd_ne (ne_of_none e np)]
        exact s4 _ _ (sm _ _ e)
    · obtain ⟨hp3, sm⟩ := hP
      have h3 := hO.same sm
      refine ⟨p, _, rfl, SqL.of hp3, _, rfl, ?_⟩
      rw [all_true]
      refine iteF ?_
      refine ⟨_, rfl, l, rfl, ⟨_, SqL.of h3.top⟩, fun p2 np2 => ?_⟩
      refine lc_list (K := K) (a := l) (xs := as.map V.ref) (fun i H5 => H5 p2 = some (.lst ((List.replicate i true).map V.bl)) ∧ Same H3 H5) ⟨upd_same, same_new np2⟩ (fun i H5 _ hP => SqL.of (hP.2 _ _ h3.top)) (fun i x H5 hx hP => ?_) (fun H5 hP => ?_)
      · obtain ⟨a, ea, rfl⟩ := ref_at_inv hx
        obtain ⟨hp5, sm5⟩ := hP
        have h5 := h3.same sm5
        obtain ⟨r, er, ha⟩ := h5.ll.get ea
        have hi := (List.getElem?_eq_some_iff.mp ea).1
        obtain ⟨a0, ea0⟩ : ∃ a0, as[0]? = some a0 := ⟨as[0]'(by omega), List.getElem?_eq_getElem (by omega)⟩
        obtain ⟨r0, er0, ha0⟩ := h5.ll.get ea0
        have l1 := (h5.ord r (List.mem_of_getElem? er)).len
        have l2 := (h5.ord r0 (List.mem_of_getElem? er0)).len
        refine ⟨rfl, _, rfl, a, _, rfl, .inl (SqL.of ha), _, rfl, l, _, 0, _, rfl, rfl, SqL.of h5.top, at_of (j := 0) rfl (ref_at ea0), a0, _, rfl, .inl (SqL.of ha0), rfl, ?_⟩
        refine ⟨_, hp5, line_lt (by rw [List.length_map, List.length_replicate]; omega), ?_, fun b o e => ?_⟩
        · rw [upd_same, List.replicate_succ', List.map_append, List.length_map, List.length_map, l1, l2, decide_eq_true rfl]
          rfl
        · rw [upd_ne (ne_of_none e np2)]
          exact sm5 _ _ e
      · obtain ⟨hp5, sm5⟩ := hP
        refine ⟨p2, _, rfl, SqL.of hp5, ?_⟩
        rw [all_true]
        exact q _ (sm.trans sm5)
theorem scCPoll : FnScope ["thing"] ["thing"] (defScope s_check_poll) := ⟨rfl, rfl, rfl, by decide +kernel, rfl, by decide +kernel, by decide +kernel⟩
theorem ok_cpoll {f f1 : Addr} {fd d1 : FuncData} {k : Nat} {t : Tok} (T : Df K mg "check_poll" s_check_poll ["thing"] f fd) (T_is_order_list : Df K mg "is_order_list" s_is_order_list ["thing"] f1 d1) (G_is_order_list : FnOk P w K mg base CX0 k f1 d1 ["thing"] spOLst) (B : Bi mg) (mP : mg "MOST_POLLED" = some (.int 20 t)) : FnOk P w K mg base CX0 (k + 1) f fd ["thing"] spCPoll := by
  refine T.F.ok scCPoll (fun vs H Q E h => ?_) (fun cdv A outer s H vs Q E hr h => ?_)
  · obtain ⟨l, as, rs, n, rfl, _⟩ := h
    rfl
  · obtain ⟨l, as, rs, n, rfl, hO, h1, h2, q⟩ := h
    have hal := hO.ll.len
    have hml : (as.map V.ref).length = as.length := List.length_map _
    refine ⟨_, 
      (pss_one (ps_if (PW.pt (pw_or (pt_not (pt_val (pe_call G_is_order_list hr (by rfl) T_is_order_list.g T_is_order_list.F.kp T_is_order_list.b .nil pass0 (pa_cons (pv 0) pa_nil)))) (pw_or (pt_cmpR op_eq (pe_callB call_len_seq (by rfl) B.len PySem.boot_len (pa_cons (pv 0) pa_nil)) pe_int (nomark _)) (pw_or1 (pt_cmpR op_gt (pe_callB call_len_seq (by rfl) B.len PySem.boot_len (pa_cons (pv 0) pa_nil)) (pe_glob (v := .int 20) (by rfl) mP ⟨_, rfl⟩) (nomark _))))))
        (pss_one ps_never)
        pss_nil)), ?_⟩
    refine ⟨_, rfl, l, as, rs, n, rfl, hO, by omega, fun H1 s1 => ⟨_, rfl, iteF ?_⟩⟩
    have t1 := (hO.same s1).top
    refine ⟨_, rfl, l, _, rfl, .inl (SqL.of t1), rfl, _, rfl, ite2 (fun c => ?_) (fun _ => ?_)⟩
    · exfalso
      have z : V.int (((as.map V.ref).length : Nat) : Int) = V.int 0 := of_decide_eq_true c
      have z2 : (((as.map V.ref).length : Nat) : Int) = 0 := V.int.inj z
      omega
    refine ⟨_, rfl, l, _, rfl, .inl (SqL.of t1), _, 20, rfl, rfl, _, rfl, ite2 (fun c => absurd (of_decide_eq_true c) (by rw [hml]; omega)) (fun _ => q _ s1)⟩
theorem scKSum : FnScope ["way", "poll", "order", "other"] ["way", "poll", "order"] (defScope s_known_sum) := ⟨rfl, rfl, rfl, by decide +kernel, rfl, by decide +kernel, by decide +kernel⟩
set_option maxHeartbeats 2000000 in
theorem ok_ksum {f f1 : Addr} {fd d1 : FuncData} {k : Nat} (T : Df K mg "known_sum" s_known_sum ["way", "poll", "order"] f fd) (T_known_far : Df K mg "known_far" s_known_far ["way", "one", "other"] f1 d1) (G_known_far : FnOk P w K mg base CX0 k f1 d1 ["way", "one", "other"] spFar) (B : Bi mg) : FnOk P w K mg base CX0 (k + 1) f fd ["way", "poll", "order"] spKSum := by
  refine T.F.ok scKSum (fun vs H Q E h => ?_) (fun cdv A outer s H vs Q E hr h => ?_)
  · obtain ⟨z, l, o, as, rs, n, xs, rfl, _⟩ := h
    rfl
  · obtain ⟨z, l, o, as, rs, n, xs, rfl, hz, hO, h2, ho, ox, q⟩ := h
    have hal := hO.ll.len
    refine ⟨_, 
      (pss_one (ps_ret (pe_callB (cr_sum rfl) (by rfl) B.sum (by decide +kernel) (pa_cons (pe_lc (own := [("other", 3)]) (g := (gName 3)) (tt := tYes) (te := (tCall spFar [] E0 (tCons (tVar 0) (tCons (tVar 2) (tCons (tVar 3) tNil))))) rfl scKSum.nd (pi_list (pv 1)) (blkOk_by (N := ["way", "poll", "order", "other"]) (sc := defScope s_known_sum) (by decide +kernel)) (fun _ _ _ _ _ => (pg_name (i := 3) scKSum.nd rfl (.inl rfl))) (fun _ _ _ _ _ => pts_nil) (fun _ _ _ _ _ => (pe_call G_known_far hr (by rfl) T_known_far.g T_known_far.F.kp T_known_far.b .nil pass0 (pa_cons (pv 0) (pa_cons (pv 2) (pa_cons (pv 3) pa_nil)))))) pa_nil)))), ?_⟩
    refine ⟨_, rfl, l, rfl, ⟨_, SqL.of hO.top⟩, fun p np => ?_⟩
    refine lc_list (K := K) (a := l) (xs := as.map V.ref) (fun i H3 => H3 p = some (.lst (((rs.take i).map (farW z xs)).map V.int)) ∧ Same H H3) ⟨upd_same, same_new np⟩ (fun i H3 _ hP => SqL.of (hP.2 _ _ hO.top)) (fun i x H3 hx hP => ?_) (fun H3 hP => ?_)
    · obtain ⟨a, ea, rfl⟩ := ref_at_inv hx
      obtain ⟨hp3, sm⟩ := hP
      obtain ⟨r, er, ha⟩ := (hO.ll.same sm).get ea
      have hi := (List.getElem?_eq_some_iff.mp ea).1
      refine ⟨rfl, _, rfl, _, rfl, _, rfl, z, o, a, n, xs, r, rfl, hz, sm _ _ ho, ha, ox, hO.ord r (List.mem_of_getElem? er), hO.n1, hO.n2, fun H4 s4 => ⟨_, s4 _ _ hp3, line_lt (by rw [List.length_map, List.length_map, List.length_take]; omega), ?_, fun b o e => ?_⟩⟩
      · rw [upd_same, take_more' er, List.map_append, List.map_append]
        rfl
      · rw [upd_ne (ne_of_none e np)]
        exact s4 _ _ (sm _ _ e)
    · obtain ⟨hp3, sm⟩ := hP
      rw [List.take_of_length_le (by rw [List.length_map]; omega)] at hp3
      exact ⟨p, _, rfl, SqL.of hp3, q _ sm⟩
end
end Fo
namespace Fo
open PySem PySem.Spec PyProof.Rows L2
def aN (rs : List (List Int)) (i j : Int) : Int := (((rs.filter fun r => decide (pos r i < pos r j)).length : Nat) : Int)
def aM (n : Nat) (rs : List (List Int)) : List (List Int) := (rg n).map fun i => (rg n).map fun j => aN rs i j
theorem aN_self (rs : List (List Int)) (t : Int) : aN rs t t = 0 := by
  unfold aN
  rw [List.filter_eq_nil_iff.mpr]
  · rfl
  · intro r _
    simp
def spAhead : Sp := fun vs H Q _ => ∃ (l : Addr) (as : List Addr) (rs : List (List Int)) (n : Nat), vs = [.ref l] ∧ OL H l as rs n ∧ 1 ≤ rs.length ∧ rs.length ≤ 1000 ∧
  ∀ (l' : Addr) (as' : List Addr) (H' : Hp), H l' = none → H' l' = some (.lst (as'.map V.ref)) → LL H' as' (aM n rs) → Same H H' → Q (.ref l') H'
/-- lists of places, each of an order -/
def Bks : List (List Int) → List (List Int) → Prop
  | [], [] => True
  | p :: ps, r :: rs => IsBack r p ∧ Bks ps rs
  | _, _ => False
theorem Bks.len : ∀ {ps rs : List (List Int)}, Bks ps rs → ps.length = rs.length
  | [], [], _ => rfl
  | [], _ :: _, h => h.elim
  | _ :: _, [], h => h.elim
  | _ :: _, _ :: _, h => by rw [List.length_cons, List.length_cons, Bks.len h.2]
theorem Bks.snoc : ∀ {ps rs : List (List Int)} {p r : List Int}, Bks ps rs → IsBack r p → Bks (ps ++ [p]) (rs ++ [r])
  | [], [], _, _, _, e => ⟨e, trivial⟩
  | [], _ :: _, _, _, h, _ => h.elim
  | _ :: _, [], _, _, h, _ => h.elim
  | _ :: _, _ :: _, _, _, h, e => ⟨h.1, Bks.snoc h.2 e⟩
theorem Bks.get : ∀ {ps rs : List (List Int)} {i : Nat} {r : List Int}, Bks ps rs → rs[i]? = some r → ∃ p, ps[i]? = some p ∧ IsBack r p
  | [], [], _, _, _, e => by simp at e
  | [], _ :: _, _, _, h, _ => h.elim
  | _ :: _, [], _, _, h, _ => h.elim
  | p :: ps, r :: rs, 0, r', h, e => by
    have e2 : r = r' := Option.some.inj e
    subst e2
    exact ⟨p, rfl, h.1⟩
  | p :: ps, r :: rs, i + 1, r', h, e => Bks.get (i := i) h.2 e
theorem rg_at {n i : Nat} (h : i < n) : (rg n)[i]? = some (i : Int) := by
  unfold rg
  rw [List.getElem?_map, List.getElem?_range h]
  rfl
theorem rg_take {n i : Nat} (h : i ≤ n) : (rg n).take i = rg i := by
  unfold rg
  rw [← List.map_take, List.take_range, Nat.min_eq_left h]
theorem filter_more' {l : List (List Int)} {m : Nat} {x : List Int} (p : List Int → Bool) (h : l[m]? = some x) : (l.take (m + 1)).filter p = (l.take m).filter p ++ (if p x then [x] else []) := by
  rw [List.take_add_one, h, List.filter_append]
  show _ ++ List.filter p [x] = _
  rw [List.filter_cons]
  rfl
section
variable {P : Program} {w : World} {K : PySem.W.Frag} {mg : Str → Option Value} {base : Heap}
theorem scAhead : FnScope ["poll", "things", "places", "order", "i", "j", "seats"] ["poll"] (defScope s_counts_ahead) := ⟨rfl, rfl, rfl, by decide +kernel, rfl, by decide +kernel, by decide +kernel⟩
set_option maxHeartbeats 4000000 in
theorem ok_ahead {f f1 : Addr} {fd d1 : FuncData} {k : Nat} (T : Df K mg "counts_ahead" s_counts_ahead ["poll"] f fd) (T_places_in : Df K mg "places_in" s_places_in ["order"] f1 d1) (G_places_in : FnOk P w K mg base CX0 k f1 d1 ["order"] spPlaces) (B : Bi mg) : FnOk P w K mg base CX0 (k + 1) f fd ["poll"] spAhead := by
  refine T.F.ok scAhead (fun vs H Q E h => ?_) (fun cdv A outer s H vs Q E hr h => ?_)
  · obtain ⟨l, as, rs, n, rfl, _⟩ := h
    rfl
  · obtain ⟨l, as, rs, n, rfl, hO, h1, h2, q⟩ := h
    have hal := hO.ll.len
    refine ⟨_, 
      (pss_cons (ps_set (i := 1) scAhead.nd rfl (.inr rfl) (pe_listRg rfl (by rfl) B.list (prg_1 (by rfl) B.range (pe_callB call_len_seq (by rfl) B.len PySem.boot_len (pa_cons (pe_ix ix_list (pv 0) pe_int (fun _ _ => rfl)) pa_nil)))))
      (pss_cons (ps_set (i := 2) scAhead.nd rfl (.inr rfl) (pe_lc (own := [("order", 3)]) (g := (gName 3)) (tt := tYes) (te := (tCall spPlaces [] E0 (tCons (tVar 3) tNil))) rfl scAhead.nd (pi_list (pv 0)) (blkOk_by (N := ["poll", "things", "places", "order", "i", "j", "seats"]) (sc := defScope s_counts_ahead) (by decide +kernel)) (fun _ _ _ _ _ => (pg_name (i := 3) scAhead.nd rfl (.inl rfl))) (fun _ _ _ _ _ => pts_nil) (fun _ _ _ _ _ => (pe_call G_places_in hr (by rfl) T_places_in.g T_places_in.F.kp T_places_in.b .nil pass0 (pa_cons (pv 3) pa_nil)))))
      (pss_one (ps_ret (pe_lc (own := [("i", 4)]) (g := (gName 4)) (tt := tYes) (te := (tLc (iList K (tVar 1)) (gName 5) tYes (tCB (rLenS K) (tCons (tLc (iList K (tVar 2)) (gName 6) (tTest (tOp (rI0 fun i j => .bl (decide (i < j))) (tOp (rIxL K) (tVar 6) (tVar 4)) (tOp (rIxL K) (tVar 6) (tVar 5)))) (tVar 6) [6]) tNil)) [5])) rfl scAhead.nd (pi_list (pv 1)) (blkOk_by (N := ["poll", "things", "places", "order", "i", "j", "seats"]) (sc := defScope s_counts_ahead) (by decide +kernel)) (fun _ _ _ _ _ => (pg_name (i := 4) scAhead.nd rfl (.inr rfl))) (fun _ _ _ _ _ => pts_nil) (fun _ _ _ _ _ => (pe_lc (own := [("j", 5)]) (g := (gName 5)) (tt := tYes) (te := (tCB (rLenS K) (tCons (tLc (iList K (tVar 2)) (gName 6) (tTest (tOp (rI0 fun i j => .bl (decide (i < j))) (tOp (rIxL K) (tVar 6) (tVar 4)) (tOp (rIxL K) (tVar 6) (tVar 5)))) (tVar 6) [6]) tNil))) rfl scAhead.nd (pi_list (pv 1)) (blkOk_by (N := ["poll", "things", "places", "order", "i", "j", "seats"]) (by rfl)) (fun _ _ _ _ _ => (pg_name (i := 5) scAhead.nd rfl (.inr rfl))) (fun _ _ _ _ _ => pts_nil) (fun _ _ _ _ _ => (pe_callB call_len_seq (by rfl) B.len PySem.boot_len (pa_cons (pe_lc (own := [("seats", 6)]) (g := (gName 6)) (tt := (tTest (tOp (rI0 fun i j => .bl (decide (i < j))) (tOp (rIxL K) (tVar 6) (tVar 4)) (tOp (rIxL K) (tVar 6) (tVar 5))))) (te := (tVar 6)) rfl scAhead.nd (pi_list (pv 2)) (blkOk_by (N := ["poll", "things", "places", "order", "i", "j", "seats"]) (by rfl)) (fun _ _ _ _ _ => (pg_name (i := 6) scAhead.nd rfl (.inl rfl))) (fun _ _ _ _ _ => (pts_one (pt_cmpR op_lt (pe_ix ix_list (pv 6) (pv 4) (fun _ _ => rfl)) (pe_ix ix_list (pv 6) (pv 5) (fun _ _ => rfl)) (nomark _)))) (fun _ _ _ _ _ => (pv 6))) pa_nil)))))))))), ?_⟩
    obtain ⟨a0, ea0⟩ : ∃ a0, as[0]? = some a0 := ⟨as[0]'(by omega), List.getElem?_eq_getElem (by omega)⟩
    obtain ⟨r0, er0, ha0⟩ := hO.ll.get ea0
    have lr0 : (r0.map V.int).length = n := by rw [List.length_map]; exact (hO.ord r0 (List.mem_of_getElem? er0)).len
    have hn2 := hO.n2
    refine ⟨_, rfl, l, _, 0, _, rfl, rfl, SqL.of hO.top, at_of (j := 0) rfl (ref_at ea0), a0, _, rfl, .inl (SqL.of ha0), _, rfl, RgOk.of_le (by omega) (by rw [lr0]; omega) (by omega) (by omega), fun th nth => ?_⟩
    rw [lr0]
    have s1 := same_new (o := .lst (rgV 0 (n : Int))) nth
    have hth : (upd H th (.lst (rgV 0 (n : Int)))) th = some (.lst ((rg n).map V.int)) := by rw [upd_same, rg_V]
    have hO1 := hO.same s1
    generalize upd H th (.lst (rgV 0 (n : Int))) = H1 at s1 hth hO1 ⊢
    -- places
    refine ⟨_, rfl, l, rfl, ⟨_, SqL.of hO1.top⟩, fun D nD => ?_⟩
    refine lc_list (K := K) (a := l) (xs := as.map V.ref) (fun i H3 => ∃ (bs : List Addr) (ps : List (List Int)), H3 D = some (.lst (bs.map V.ref)) ∧ LL H3 bs ps ∧ Bks ps (rs.take i) ∧ D ∉ bs ∧ Same H1 H3) ⟨[], [], upd_same, trivial, trivial, List.not_mem_nil, same_new nD⟩ (fun i H3 _ hP => by obtain ⟨_, _, _, _, _, _, sm⟩ := hP; exact SqL.of (sm _ _ hO1.top)) (fun i x H3 hx hP => ?_) (fun H2 hP => ?_)
    · obtain ⟨a, ea, rfl⟩ := ref_at_inv hx
      obtain ⟨bs, ps, hD3, hL3, hB3, nDb, sm⟩ := hP
      obtain ⟨r, er, ha⟩ := (hO1.ll.same sm).get ea
      have hbl := hL3.len
      have hpl := hB3.len
      rw [List.length_take] at hpl
      refine ⟨rfl, _, rfl, a, n, r, rfl, ha, hO.ord r (List.mem_of_getElem? er), hO.n1, hO.n2, fun p c H4 hb nc hc s4 => ?_⟩
      have ncD : c ≠ D := fun e => by rw [e, hD3] at nc; cases nc
      refine ⟨_, s4 _ _ hD3, line_lt (by rw [List.length_map]; omega), bs ++ [c], ps ++ [p], by rw [upd_same, List.map_append]; rfl, ?_, by rw [take_more' er]; exact hB3.snoc hb, fun hu => ?_, fun b o e => ?_⟩
      · refine LL.snoc ((hL3.same s4).keep fun u hu o e => ?_) ?_
        · rw [upd_ne (fun q => nDb (by rw [← q]; exact hu))]
          exact e
        · rw [upd_ne ncD]
          exact hc
      · rcases List.mem_append.mp hu with h | h
        · exact nDb h
        · exact ncD (List.mem_singleton.mp h).symm
      · rw [upd_ne (ne_of_none e nD)]
        exact s4 _ _ (sm _ _ e)
    obtain ⟨cs, ps, hD2, hL2, hB2, nDc, s2⟩ := hP
    rw [List.take_of_length_le (by rw [List.length_map]; omega)] at hB2
    have hth2 := s2 _ _ hth
    have hcl := hL2.len
    have hpl := hB2.len
    have s02 := s1.trans s2
    clear hO1 hth ha0 s1 s2 nDc nD
    -- the table
    refine ⟨_, rfl, th, rfl, ⟨_, SqL.of hth2⟩, fun D2 nD2 => ?_⟩
    refine lc_list (K := K) (a := th) (xs := (rg n).map V.int) (fun i H3 => ∃ bs : List Addr, H3 D2 = some (.lst (bs.map V.ref)) ∧ LL H3 bs ((aM n rs).take i) ∧ D2 ∉ bs ∧ Same H2 H3) ⟨[], upd_same, trivial, List.not_mem_nil, same_new nD2⟩ (fun i H3 _ hP => by obtain ⟨_, _, _, _, sm⟩ := hP; exact SqL.of (sm _ _ hth2)) (fun i x H3 hx hP => ?_) (fun H3 hP => ?_)
    · obtain ⟨y, ey, rfl⟩ := int_at_inv hx
      have hi := (List.getElem?_eq_some_iff.mp ey).1
      rw [rg_len] at hi
      rw [rg_at hi] at ey
      have := Option.some.inj ey
      subst this
      obtain ⟨bs, hD3, hL3, nDb, sm⟩ := hP
      have hbl := hL3.len
      have hml : (aM n rs).length = n := by unfold aM; rw [List.length_map, rg_len]
      rw [List.length_take] at hbl
      have emi : (aM n rs)[i]? = some ((rg n).map fun j => aN rs (i : Int) j) := by
        unfold aM
        rw [List.getElem?_map, rg_at hi]
        rfl
      refine ⟨rfl, _, rfl, th, rfl, ⟨_, SqL.of (sm _ _ hth2)⟩, fun D3 nD3 => ?_⟩
      refine lc_list (K := K) (a := th) (xs := (rg n).map V.int) (fun j H4 => H4 D3 = some (.lst (((rg j).map fun u => aN rs (i : Int) u).map V.int)) ∧ Same H3 H4) ⟨upd_same, same_new nD3⟩ (fun j H4 _ hP => SqL.of (hP.2 _ _ (sm _ _ hth2))) (fun j x H4 hx hP => ?_) (fun H4 hP => ?_)
      · obtain ⟨y, ey, rfl⟩ := int_at_inv hx
        have hj := (List.getElem?_eq_some_iff.mp ey).1
        rw [rg_len] at hj
        rw [rg_at hj] at ey
        have := Option.some.inj ey
        subst this
        obtain ⟨hD4, sm4⟩ := hP
        have hDp := sm4 _ _ (sm _ _ hD2)
        have hLp := (hL2.same sm).same sm4
        refine ⟨rfl, _, rfl, D, rfl, ⟨_, SqL.of hDp⟩, fun D5 nD5 => ?_⟩
        refine lc_list (K := K) (a := D) (xs := cs.map V.ref) (fun m H5 => ∃ ds : List V, H5 D5 = some (.lst ds) ∧ ds.length = ((rs.take m).filter fun r => decide (pos r (i : Int) < pos r (j : Int))).length ∧ Same H4 H5) ⟨[], upd_same, rfl, same_new nD5⟩ (fun m H5 _ hP => by obtain ⟨_, _, _, sm⟩ := hP; exact SqL.of (sm _ _ hDp)) (fun m x H5 hx hP => ?_) (fun H5 hP => ?_)
        · obtain ⟨c, ec, rfl⟩ := ref_at_inv hx
          obtain ⟨ds, hD5, hdl, sm5⟩ := hP
          have hm := (List.getElem?_eq_some_iff.mp ec).1
          obtain ⟨r, er⟩ : ∃ r, rs[m]? = some r := ⟨rs[m]'(by omega), List.getElem?_eq_getElem (by omega)⟩
          obtain ⟨p, ep, hbk⟩ := hB2.get er
          obtain ⟨p', ep', hc⟩ := (hLp.same sm5).get ec
          rw [ep] at ep'
          have := Option.some.inj ep'
          subst this
          have orr := hO.ord r (List.mem_of_getElem? er)
          have bi := back_pos orr hbk (x := (i : Int)) (by omega) (by omega)
          have bj := back_pos orr hbk (x := (j : Int)) (by omega) (by omega)
          rw [Int.toNat_natCast] at bi bj
          refine ⟨rfl, _, rfl, _, rfl, c, _, _, _, rfl, rfl, SqL.of hc, at_of (j := i) rfl (int_at bi), _, rfl, _, rfl, c, _, _, _, rfl, rfl, SqL.of hc, at_of (j := j) rfl (int_at bj), _, _, rfl, rfl, _, rfl, ite2 (fun cc => ?_) (fun cc => ?_)⟩
          · have hlt : pos r (i : Int) < pos r (j : Int) := of_decide_eq_true cc
            have hfl : ((rs.take m).filter fun r => decide (pos r (i : Int) < pos r (j : Int))).length ≤ m := Nat.le_trans (List.length_filter_le _ _) (by rw [List.length_take]; omega)
            refine ⟨_, rfl, _, hD5, line_lt (by omega), ds ++ [.ref c], upd_same, ?_, fun b o e => ?_⟩
            · rw [filter_more' _ er, decide_eq_true hlt, if_pos rfl, List.length_append, List.length_append, hdl]
              rfl
            · rw [upd_ne (ne_of_none e nD5)]
              exact sm5 _ _ e
          · refine ⟨ds, hD5, ?_, sm5⟩
            rw [filter_more' _ er, decide_eq_false (fun hz => cc (decide_eq_true hz)), if_neg (by decide), List.append_nil]
            exact hdl
        · obtain ⟨ds, hD5, hdl, sm5⟩ := hP
          rw [List.length_map, hcl, hpl, List.take_length] at hdl
          refine ⟨D5, _, rfl, .inl (SqL.of hD5), _, sm5 _ _ hD4, line_lt (by rw [List.length_map, List.length_map, rg_len]; omega), ?_, fun b o e => ?_⟩
          · rw [upd_same, rg_succ, List.map_append, List.map_append, hdl]
            rfl
          · rw [upd_ne (ne_of_none e nD3)]
            exact sm5 _ _ (sm4 _ _ e)
      · obtain ⟨hD4, sm4⟩ := hP
        rw [List.length_map, rg_len] at hD4
        have nD32 : D3 ≠ D2 := fun e => by rw [e, hD3] at nD3; cases nD3
        refine ⟨_, sm4 _ _ hD3, line_lt (by rw [List.length_map]; omega), bs ++ [D3], by rw [upd_same, List.map_append]; rfl, ?_, fun hu => ?_, fun b o e => ?_⟩
        · rw [take_more' emi]
          refine LL.snoc ((hL3.same sm4).keep fun u hu o e => ?_) ?_
          · rw [upd_ne (fun q => nDb (by rw [← q]; exact hu))]
            exact e
          · rw [upd_ne nD32]
            exact hD4
        · rcases List.mem_append.mp hu with h | h
          · exact nDb h
          · exact nD32 (List.mem_singleton.mp h).symm
        · rw [upd_ne (ne_of_none e nD2)]
          exact sm4 _ _ (sm _ _ e)
    · obtain ⟨bs, hD3, hL3, nDb, sm⟩ := hP
      rw [List.take_of_length_le (by unfold aM; rw [List.length_map, List.length_map]; exact Nat.le_refl _)] at hL3
      exact q D2 bs H3 (s02.free nD2) hD3 hL3 (s02.trans sm)
end
end Fo
namespace Fo
open PySem PySem.Spec PyProof.Rows L2 PyProof
theorem bit_and {u t : Nat} (h : u.testBit t = false) : u &&& 2 ^ t = 0 := by
  apply Nat.eq_of_testBit_eq
  intro i
  rw [Nat.testBit_and, Nat.testBit_two_pow, Nat.zero_testBit]
  by_cases c : t = i
  · subst c; simp [h]
  · simp [c]
theorem bit_read {u t : Nat} (hu : u < 4096) (ht : t < 12) : decide (V.int (Builtin.bitAnd (u : Int) (1 * 2 ^ ((t : Nat) : Int).toNat)) = V.int 0) = !u.testBit t := by
  rw [Int.one_mul, Int.toNat_natCast, show ((2 : Int) ^ t) = ((2 ^ t : Nat) : Int) by rw [Int.natCast_pow]; rfl, bitAnd_pp (Int.natCast_nonneg _) (Int.natCast_nonneg _), Int.toNat_natCast, Int.toNat_natCast]
  cases h : u.testBit t with
  | false =>
    rw [bit_and h]
    rfl
  | true =>
    rw [decide_eq_false]
    · rfl
    · intro e
      have e2 : u &&& 2 ^ t = 0 := by have := V.int.inj e; omega
      have e3 := congrArg (fun x => Nat.testBit x t) e2
      simp [h] at e3
end Fo
namespace Fo
open PySem PySem.Spec PyProof.Rows L2
structure AhAt (H : Hp) (l : Addr) (as : List Addr) (n : Nat) (rs : List (List Int)) : Prop where
  top : H l = some (.lst (as.map V.ref))
  ll : LL H as (aM n rs)
  n1 : 1 ≤ n
  n2 : n ≤ 9
theorem AhAt.same {H H' : Hp} {l : Addr} {as : List Addr} {n : Nat} {rs : List (List Int)} (h : AhAt H l as n rs) (s : Same H H') : AhAt H' l as n rs := ⟨s _ _ h.top, h.ll.same s, h.n1, h.n2⟩
theorem aM_len (n : Nat) (rs : List (List Int)) : (aM n rs).length = n := by unfold aM; rw [List.length_map, rg_len]
theorem AhAt.len {H : Hp} {l : Addr} {as : List Addr} {n : Nat} {rs : List (List Int)} (h : AhAt H l as n rs) : (as.map V.ref).length = n := by rw [List.length_map, h.ll.len, aM_len]
def spFew : Sp := fun vs H Q _ => ∃ (n m : Int), vs = [.int n, .int m] ∧ n ≤ m ∧ Q .non H
def spTIn : Sp := fun vs H Q _ => ∃ (S : Nat) (l : Addr) (as : List Addr) (n : Nat) (rs : List (List Int)), vs = [.int S, .ref l] ∧ AhAt H l as n rs ∧ S < 2 ^ n ∧ ∀ (t : Addr) (H' : Hp), H t = none → H' t = some (.lst ((tI n S).map V.int)) → Same H H' → Q (.ref t) H'
def spSwf : Sp := fun vs H Q _ => ∃ (t : Int) (S : Nat) (l m : Addr) (as : List Addr) (n : Nat) (rs : List (List Int)) (ss : List Int), vs = [.int t, .int S, .ref l, .ref m] ∧ AhAt H l as n rs ∧ H m = some (.lst (ss.map V.int)) ∧ S < 2 ^ n ∧ S ≤ ss.length ∧ t ∈ tI n S ∧ ∀ H', Same H H' → Q (.int (swf (aN rs) n ss t S)) H'
def spLSums : Sp := fun vs H Q _ => ∃ (l : Addr) (as : List Addr) (n : Nat) (rs : List (List Int)), vs = [.ref l] ∧ AhAt H l as n rs ∧ ∀ (m : Addr) (ss : List Int) (H' : Hp), H m = none → H' m = some (.lst (ss.map V.int)) → ss.length = 2 ^ n → IsSums (aN rs) n ss → Same H H' → Q (.ref m) H'
def spBFirst : Sp := fun vs H Q _ => ∃ (S : Nat) (l m : Addr) (as : List Addr) (n : Nat) (rs : List (List Int)) (ss : List Int), vs = [.int S, .ref l, .ref m] ∧ AhAt H l as n rs ∧ H m = some (.lst (ss.map V.int)) ∧ 1 ≤ S ∧ S < 2 ^ n ∧ ss.length = 2 ^ n ∧ IsSums (aN rs) n ss ∧ ∀ (t : Nat) (H' : Hp), t < n → S.testBit t = true → ss.getD S 0 = swf (aN rs) n ss (t : Int) S → (∀ u ∈ tI n S, ss.getD S 0 = swf (aN rs) n ss u S → (t : Int) ≤ u) → Same H H' → Q (.int t) H'
def spMPairs : Sp := fun vs H Q _ => ∃ (l : Addr) (as : List Addr) (n : Nat) (rs : List (List Int)), vs = [.ref l] ∧ AhAt H l as n rs ∧ ∀ (p g : Addr) (m : Int) (xs : List Int) (H' : Hp), H p = none → H g = none → H' p = some (.tup [.int m, .ref g]) → H' g = some (.lst (xs.map V.int)) → amin (cst (aN rs)) (allK n n) = some (m, xs) → Same H H' → Q (.ref p) H'
theorem pow_nat (t : Nat) : (1 : Int) * 2 ^ ((t : Nat) : Int).toNat = ((2 ^ t : Nat) : Int) := by
  rw [Int.one_mul, Int.toNat_natCast, Int.natCast_pow]
  rfl
theorem tI_len (n S : Nat) : (tI n S).length ≤ n := by
  unfold tI tN
  rw [List.length_map]
  exact Nat.le_trans (List.length_filter_le _ _) (by rw [List.length_range]; exact Nat.le_refl _)
theorem getD_more {ss : List Int} {m : Int} {i : Nat} (h : i < ss.length) : (ss ++ [m]).getD i 0 = ss.getD i 0 := by
  rw [List.getD_eq_getElem?_getD, List.getD_eq_getElem?_getD, List.getElem?_append_left h]
theorem getD_end (ss : List Int) (m : Int) : (ss ++ [m]).getD ss.length 0 = m := by
  rw [List.getD_eq_getElem?_getD, List.getElem?_append_right (Nat.le_refl _), Nat.sub_self]
  rfl
theorem getD_at {ss : List Int} {i : Nat} (h : i < ss.length) : ss[i]? = some (ss.getD i 0) := by
  rw [List.getD_eq_getElem?_getD, List.getElem?_eq_getElem h]
  rfl
theorem swf_more {a : Int → Int → Int} {n : Nat} {ss : List Int} {m t : Int} {S : Nat} (h0 : 1 ≤ S) (h : S ≤ ss.length) : swf a n (ss ++ [m]) t S = swf a n ss t S := by
  unfold swf
  have p := Nat.two_pow_pos t.toNat
  rw [getD_more (by omega)]
theorem aM_at {n : Nat} {rs : List (List Int)} {i j : Nat} (hi : i < n) (hj : j < n) : ∃ r, (aM n rs)[i]? = some r ∧ r[j]? = some (aN rs (i : Int) (j : Int)) := by
  refine ⟨(rg n).map fun j => aN rs (i : Int) j, ?_, ?_⟩
  · unfold aM
    rw [List.getElem?_map, rg_at hi]
    rfl
  · rw [List.getElem?_map, rg_at hj]
    rfl
section
variable {P : Program} {w : World} {K : PySem.W.Frag} {mg : Str → Option Value} {base : Heap}
theorem scFew : FnScope ["n", "most"] ["n", "most"] (defScope s_check_few) := ⟨rfl, rfl, rfl, by decide +kernel, rfl, by decide +kernel, by decide +kernel⟩
theorem ok_few {f : Addr} {fd : FuncData} {k : Nat} (T : Df K mg "check_few" s_check_few ["n", "most"] f fd) : FnOk P w K mg base CX0 (k + 1) f fd ["n", "most"] spFew := by
  refine T.F.ok scFew (fun vs H Q E h => ?_) (fun cdv A outer s H vs Q E hr h => ?_)
  · obtain ⟨n, m, rfl, _⟩ := h
    rfl
  · obtain ⟨n, m, rfl, hl, q⟩ := h
    refine ⟨_, 
      (pss_one (ps_if (pt_cmpR op_gt (pv 0) (pv 1) (nomark _))
        (pss_one ps_never)
        pss_nil)), ?_⟩
    exact ⟨_, rfl, _, rfl, n, m, rfl, rfl, _, rfl, ite2 (fun c => absurd (of_decide_eq_true c) (by omega)) (fun _ => q)⟩
theorem scTIn : FnScope ["left", "ahead", "thing"] ["left", "ahead"] (defScope s_things_in) := ⟨rfl, rfl, rfl, by decide +kernel, rfl, by decide +kernel, by decide +kernel⟩
set_option maxHeartbeats 2000000 in
theorem ok_tin {f : Addr} {fd : FuncData} {k : Nat} (T : Df K mg "things_in" s_things_in ["left", "ahead"] f fd) (B : Bi mg) : FnOk P w K mg base CX0 (k + 1) f fd ["left", "ahead"] spTIn := by
  refine T.F.ok scTIn (fun vs H Q E h => ?_) (fun cdv A outer s H vs Q E hr h => ?_)
  · obtain ⟨S, l, as, n, rs, rfl, _⟩ := h
    rfl
  · obtain ⟨S, l, as, n, rs, rfl, hA, hS, q⟩ := h
    have h9 := pow9 n (by have := hA.n2; omega)
    have hn2 := hA.n2
    refine ⟨_, 
      (pss_one (ps_ret (pe_lc (own := [("thing", 2)]) (g := (gName 2)) (tt := (tTest (tOp rNe (tOp (rI0 fun i j => .int (Builtin.bitAnd i j)) (tVar 0) (tOp (rI CPow fun i j => .int (i * 2 ^ j.toNat)) (tC (.int 1)) (tVar 2))) (tC (.int 0))))) (te := (tVar 2)) rfl scTIn.nd (pi_range1 (by rfl) B.range (pa_cons (pe_callB call_len_seq (by rfl) B.len PySem.boot_len (pa_cons (pv 1) pa_nil)) pa_nil)) (blkOk_by (N := ["left", "ahead", "thing"]) (sc := defScope s_things_in) (by decide +kernel)) (fun _ _ _ _ _ => (pg_name (i := 2) scTIn.nd rfl (.inl rfl))) (fun _ _ _ _ _ => (pts_one (pt_cmpR op_ne (pe_op op_and (pv 0) (pe_op op_shl pe_int (pv 2))) pe_int (nomark _)))) (fun _ _ _ _ _ => (pv 2))))), ?_⟩
    refine ⟨_, rfl, l, _, rfl, .inl (SqL.of hA.top), _, rfl, by rw [hA.len]; omega, by rw [hA.len]; omega, fun D nD => ?_⟩
    rw [hA.len, Int.toNat_natCast]
    refine lc_range (lo := 0) (n := n) (fun i H3 => H3 D = some (.lst ((((List.range i).filter fun t => S.testBit t).map fun t => ((t : Nat) : Int)).map V.int)) ∧ Same H H3) ⟨upd_same, same_new nD⟩ (fun i H3 hi hP => ?_) (fun H3 hP => ?_)
    · obtain ⟨hD3, sm⟩ := hP
      rw [show (0 : Int) + (i : Int) = (i : Int) by omega]
      refine ⟨rfl, _, rfl, _, rfl, 1, _, rfl, rfl, ⟨by omega, by omega, by decide⟩, _, _, rfl, rfl, rfl, _, rfl, ?_⟩
      show (if (!decide (V.int (Builtin.bitAnd (S : Int) (1 * 2 ^ ((i : Nat) : Int).toNat)) = V.int 0)) = true then _ else _)
      rw [bit_read (by omega) (by omega), Bool.not_not]
      have fm : (List.range (i + 1)).filter (fun t => S.testBit t) = (List.range i).filter (fun t => S.testBit t) ++ (if S.testBit i then [i] else []) := by
        rw [List.range_succ, List.filter_append, List.filter_cons]
        rfl
      have hfl : ((List.range i).filter fun t => S.testBit t).length ≤ i := Nat.le_trans (List.length_filter_le _ _) (by rw [List.length_range]; exact Nat.le_refl _)
      by_cases c : S.testBit i = true
      · rw [if_pos c]
        refine ⟨_, rfl, _, hD3, line_lt (by rw [List.length_map, List.length_map]; omega), ?_, fun b o e => ?_⟩
        · rw [upd_same, fm, if_pos c, List.map_append, List.map_append]
          rfl
        · rw [upd_ne (ne_of_none e nD)]
          exact sm _ _ e
      · rw [if_neg c]
        refine ⟨?_, sm⟩
        rw [fm, if_neg c, List.append_nil]
        exact hD3
    · obtain ⟨hD3, sm⟩ := hP
      exact q D H3 nD hD3 sm
theorem scSwf : FnScope ["thing", "left", "ahead", "sums", "turned", "other"] ["thing", "left", "ahead", "sums"] (defScope s_sum_with_first) := ⟨rfl, rfl, rfl, by decide +kernel, rfl, by decide +kernel, by decide +kernel⟩
set_option maxHeartbeats 2000000 in
theorem ok_swf {f f1 : Addr} {fd d1 : FuncData} {k : Nat} (T : Df K mg "sum_with_first" s_sum_with_first ["thing", "left", "ahead", "sums"] f fd) (T_things_in : Df K mg "things_in" s_things_in ["left", "ahead"] f1 d1) (G_things_in : FnOk P w K mg base CX0 k f1 d1 ["left", "ahead"] spTIn) (B : Bi mg) : FnOk P w K mg base CX0 (k + 1) f fd ["thing", "left", "ahead", "sums"] spSwf := by
  refine T.F.ok scSwf (fun vs H Q E h => ?_) (fun cdv A outer s H vs Q E hr h => ?_)
  · obtain ⟨t, S, l, m, as, n, rs, ss, rfl, _⟩ := h
    rfl
  · obtain ⟨t, S, l, m, as, n, rs, ss, rfl, hA, hm, hS, hSl, ht, q⟩ := h
    have hn2 := hA.n2
    have h9 := pow9 n (by omega)
    obtain ⟨tt, htn, htb, rfl⟩ := tI_mem.mp ht
    refine ⟨_, 
      (pss_cons (ps_set (i := 4) scSwf.nd rfl (.inl rfl) (pe_callB (cr_sum rfl) (by rfl) B.sum (by decide +kernel) (pa_cons (pe_lc (own := [("other", 5)]) (g := (gName 5)) (tt := tYes) (te := (tOp (rIxL K) (tOp (rIxL K) (tVar 2) (tVar 5)) (tVar 0))) rfl scSwf.nd (pi_list (pe_call G_things_in hr (by rfl) T_things_in.g T_things_in.F.kp T_things_in.b .nil pass0 (pa_cons (pv 1) (pa_cons (pv 2) pa_nil)))) (blkOk_by (N := ["thing", "left", "ahead", "sums", "turned", "other"]) (sc := defScope s_sum_with_first) (by decide +kernel)) (fun _ _ _ _ _ => (pg_name (i := 5) scSwf.nd rfl (.inl rfl))) (fun _ _ _ _ _ => pts_nil) (fun _ _ _ _ _ => (pe_ix ix_list (pe_ix ix_list (pv 2) (pv 5) (fun _ _ => rfl)) (pv 0) (fun _ _ => rfl)))) pa_nil)))
      (pss_one (ps_ret (pe_op op_add (pv 4) (pe_ix ix_list (pv 3) (pe_op op_sub (pv 1) (pe_op op_shl pe_int (pv 0))) (fun _ _ => rfl)))))), ?_⟩
    refine ⟨_, rfl, _, rfl, S, l, as, n, rs, rfl, hA, hS, fun p H1 np hp s1 => ?_⟩
    have hA1 := hA.same s1
    refine ⟨p, rfl, ⟨_, SqL.of hp⟩, fun D nD => ?_⟩
    have hpD : p ≠ D := ne_of_none hp nD
    refine lc_list (K := K) (a := p) (xs := (tI n S).map V.int) (fun i H3 => H3 D = some (.lst ((((tI n S).take i).map fun o => aN rs o (tt : Int)).map V.int)) ∧ Same H1 H3) ⟨upd_same, same_new nD⟩ (fun i H3 _ hP => SqL.of (hP.2 _ _ hp)) (fun i x H3 hx hP => ?_) (fun H3 hP => ?_)
    · obtain ⟨y, ey, rfl⟩ := int_at_inv hx
      obtain ⟨hD3, sm⟩ := hP
      have hi := (List.getElem?_eq_some_iff.mp ey).1
      have htl := tI_len n S
      obtain ⟨u, hu, hub, rfl⟩ := tI_mem.mp (List.mem_of_getElem? ey)
      obtain ⟨r, er, erj⟩ := aM_at (rs := rs) hu htn
      have hul : u < as.length := by rw [hA.ll.len, aM_len]; exact hu
      obtain ⟨b, eb⟩ : ∃ b, as[u]? = some b := ⟨as[u], List.getElem?_eq_getElem hul⟩
      obtain ⟨r', er', hb⟩ := (hA1.ll.same sm).get eb
      rw [er] at er'
      have := Option.some.inj er'
      subst this
      refine ⟨rfl, _, rfl, _, rfl, l, _, _, _, rfl, rfl, SqL.of (sm _ _ hA1.top), at_of (j := u) rfl (ref_at eb), _, rfl, b, _, _, _, rfl, rfl, SqL.of hb, at_of (j := tt) rfl (int_at erj), _, hD3, line_lt (by rw [List.length_map, List.length_map, List.length_take]; omega), ?_, fun b o e => ?_⟩
      · rw [upd_same, take_more ey, List.map_append, List.map_append]
        rfl
      · rw [upd_ne (ne_of_none e nD)]
        exact sm _ _ e
    · obtain ⟨hD3, sm⟩ := hP
      rw [List.length_map, List.take_length] at hD3
      refine ⟨D, _, rfl, SqL.of hD3, ?_⟩
      have hsub := bits_sub S (by omega) tt (by omega) htb
      have p2 : 0 < 2 ^ tt := Nat.two_pow_pos tt
      have s13 := s1.trans sm
      refine ⟨_, rfl, _, rfl, _, rfl, _, rfl, 1, _, rfl, rfl, ⟨by omega, by omega, by decide⟩, (S : Int), _, rfl, rfl, m, _, _, _, rfl, rfl, SqL.of (s13 _ _ hm), at_of (j := S - 2 ^ tt) ?_ (int_at (getD_at (show S - 2 ^ tt < ss.length by omega))), _, _, rfl, rfl, ?_⟩
      · rw [pow_nat]
        omega
      · have z := q _ s13
        unfold swf at z
        rw [Int.toNat_natCast] at z
        exact z
theorem scLSums : FnScope ["ahead", "sums", "left", "thing"] ["ahead"] (defScope s_least_sums) := ⟨rfl, rfl, rfl, by decide +kernel, rfl, by decide +kernel, by decide +kernel⟩
set_option maxHeartbeats 4000000 in
theorem ok_lsums {f f1 f2 : Addr} {fd d1 d2 : FuncData} {k : Nat} (T : Df K mg "least_sums" s_least_sums ["ahead"] f fd) (T_things_in : Df K mg "things_in" s_things_in ["left", "ahead"] f1 d1) (T_sum_with_first : Df K mg "sum_with_first" s_sum_with_first ["thing", "left", "ahead", "sums"] f2 d2) (G_things_in : FnOk P w K mg base CX0 k f1 d1 ["left", "ahead"] spTIn) (G_sum_with_first : FnOk P w K mg base CX0 k f2 d2 ["thing", "left", "ahead", "sums"] spSwf) (B : Bi mg) : FnOk P w K mg base CX0 (k + 1) f fd ["ahead"] spLSums := by
  refine T.F.ok scLSums (fun vs H Q E h => ?_) (fun cdv A outer s H vs Q E hr h => ?_)
  · obtain ⟨l, as, n, rs, rfl, _⟩ := h
    rfl
  · obtain ⟨l, as, n, rs, rfl, hA, q⟩ := h
    have hn2 := hA.n2
    have h9 := pow9 n (by omega)
    have p2 : 0 < 2 ^ n := Nat.two_pow_pos n
    refine ⟨_, 
      (pss_cons (ps_set (i := 1) scLSums.nd rfl (.inr rfl) (pe_lst (pa_cons pe_int pa_nil)))
      (pss_cons (ps_for PassesOwn.never rfl (pi_range2 (by rfl) B.range (pa_cons pe_int (pa_cons (pe_op op_shl pe_int (pe_callB call_len_seq (by rfl) B.len PySem.boot_len (pa_cons (pv 0) pa_nil))) pa_nil))) (pg_name (i := 2) scLSums.nd rfl (.inr rfl))
        (pss_one (ps_expr (pe_bm PySem.F.plainAttrs_list PySem.F.slot_list_append PySem.F.type_list_append mt_append (pv 1) (pa_cons (pe_callB (cr_min rfl) (by rfl) B.min (by decide +kernel) (pa_cons (pe_lc (own := [("thing", 3)]) (g := (gName 3)) (tt := tYes) (te := (tCall spSwf [] E0 (tCons (tVar 3) (tCons (tVar 2) (tCons (tVar 0) (tCons (tVar 1) tNil)))))) rfl scLSums.nd (pi_list (pe_call G_things_in hr (by rfl) T_things_in.g T_things_in.F.kp T_things_in.b .nil pass0 (pa_cons (pv 2) (pa_cons (pv 0) pa_nil)))) (blkOk_by (N := ["ahead", "sums", "left", "thing"]) (sc := defScope s_least_sums) (by decide +kernel)) (fun _ _ _ _ _ => (pg_name (i := 3) scLSums.nd rfl (.inl rfl))) (fun _ _ _ _ _ => pts_nil) (fun _ _ _ _ _ => (pe_call G_sum_with_first hr (by rfl) T_sum_with_first.g T_sum_with_first.F.kp T_sum_with_first.b .nil pass0 (pa_cons (pv 3) (pa_cons (pv 2) (pa_cons (pv 0) (pa_cons (pv 1) pa_nil))))))) pa_nil)) pa_nil)))))
      (pss_one (ps_ret (pv 1))))), ?_⟩
    refine ⟨line_small (by show 1 ≤ 16777216; decide), fun m nm => ?_⟩
    have s0 := same_new (o := .lst [.int 0]) nm
    have hA0 := hA.same s0
    refine ⟨_, rfl, l, _, rfl, .inl (SqL.of hA0.top), 1, _, rfl, rfl, ⟨by omega, by rw [hA.len]; omega, by decide⟩, 1, _, rfl, ?_⟩
    have eN : (1 : Int) * 2 ^ ((((as.map V.ref).length : Nat) : Int)).toNat = ((2 ^ n : Nat) : Int) := by rw [hA.len]; exact pow_nat n
    refine ⟨⟨by omega, by omega, by rw [eN]; omega, by rw [eN]; omega⟩, ?_⟩
    rw [eN, show (((2 ^ n : Nat) : Int) - 1).toNat = 2 ^ n - 1 by omega]
    refine for_range (lo := 1) (n := 2 ^ n - 1) (fun i σ H3 => ∃ (y2 y3 : Option V) (ss : List Int), σ = [some (.ref l), some (.ref m), y2, y3] ∧ H3 m = some (.lst (ss.map V.int)) ∧ ss.length = i + 1 ∧ ss.getD 0 0 = 0 ∧ (∀ S, 1 ≤ S → S ≤ i → (∃ t ∈ tI n S, ss.getD S 0 = swf (aN rs) n ss t S) ∧ ∀ t ∈ tI n S, ss.getD S 0 ≤ swf (aN rs) n ss t S) ∧ Same H H3)
      ⟨_, _, [0], rfl, upd_same, rfl, rfl, fun S h1 h2 => by omega, s0⟩ (fun i σ H3 hi hP => ?_) (fun σ H3 hP => ?_)
    · obtain ⟨y2, y3, ss, rfl, hm3, hsl, hz, hS, sm⟩ := hP
      have hA3 := hA.same sm
      rw [show (1 : Int) + (i : Int) = ((i + 1 : Nat) : Int) by omega]
      refine ⟨_, rfl, .inl ⟨rfl, _, SqL.of hm3⟩, _, rfl, _, rfl, i + 1, l, as, n, rs, rfl, hA3, by omega, fun p H4 np hp s4 => ?_⟩
      refine ⟨p, rfl, ⟨_, SqL.of hp⟩, fun D nD => ?_⟩
      have hm4 := s4 _ _ hm3
      refine lc_list (K := K) (a := p) (xs := (tI n (i + 1)).map V.int) (fun j H5 => H5 D = some (.lst ((((tI n (i + 1)).take j).map fun t => swf (aN rs) n ss t (i + 1)).map V.int)) ∧ Same H4 H5) ⟨upd_same, same_new nD⟩ (fun j H5 _ hP => SqL.of (hP.2 _ _ hp)) (fun j x H5 hx hP => ?_) (fun H5 hP => ?_)
      · obtain ⟨y, ey, rfl⟩ := int_at_inv hx
        obtain ⟨hD5, sm5⟩ := hP
        have htl := tI_len n (i + 1)
        have hj := (List.getElem?_eq_some_iff.mp ey).1
        refine ⟨rfl, _, rfl, _, rfl, _, rfl, _, rfl, y, i + 1, l, m, as, n, rs, ss, rfl, (hA3.same s4).same sm5, sm5 _ _ hm4, by omega, by omega, List.mem_of_getElem? ey, fun H6 s6 => ⟨_, s6 _ _ hD5, line_lt (by rw [List.length_map, List.length_map, List.length_take]; omega), ?_, fun b o e => ?_⟩⟩
        · rw [upd_same, take_more ey, List.map_append, List.map_append]
          rfl
        · rw [upd_ne (ne_of_none e nD)]
          exact s6 _ _ (sm5 _ _ e)
      · obtain ⟨hD5, sm5⟩ := hP
        rw [List.length_map, List.take_length] at hD5
        have hne : 0 < (tI n (i + 1)).length := by
          cases q : tI n (i + 1) with
          | nil => exact absurd (tI_nil (by omega) q) (by omega)
          | cons x r => exact Nat.succ_pos _
        refine ⟨D, _, rfl, SqL.of hD5, by rw [List.length_map]; exact hne, fun v hv hle => ?_⟩
        have hm5 := sm5 _ _ hm4
        refine ⟨m, _, _, rfl, rfl, hm5, line_lt (by rw [List.length_map]; omega), ?_⟩
        refine ⟨_, _, ss ++ [v], rfl, by rw [upd_same, List.map_append]; rfl, by rw [List.length_append, hsl]; rfl, by rw [getD_more (by omega)]; exact hz, fun S h1 h2 => ?_, fun b o e => ?_⟩
        · by_cases c : S ≤ i
          · obtain ⟨⟨t, ht, e⟩, hl⟩ := hS S h1 c
            rw [getD_more (by omega)]
            exact ⟨⟨t, ht, by rw [swf_more h1 (by omega)]; exact e⟩, fun t ht => by rw [swf_more h1 (by omega)]; exact hl t ht⟩
          · have e : S = i + 1 := by omega
            subst e
            rw [← hsl, getD_end, hsl]
            obtain ⟨t, ht, e⟩ := List.mem_map.mp hv
            exact ⟨⟨t, ht, by rw [swf_more h1 (by omega)]; exact e.symm⟩, fun t ht => by rw [swf_more h1 (by omega)]; exact hle _ (List.mem_map_of_mem ht)⟩
        · rw [upd_ne (ne_of_none e nm)]
          exact sm5 _ _ (s4 _ _ (sm _ _ e))
    · obtain ⟨y2, y3, ss, rfl, hm3, hsl, hz, hS, sm⟩ := hP
      exact ⟨_, rfl, q m ss H3 nm hm3 (by omega) ⟨hz, fun S h1 h2 => (hS S h1 (by omega)).1, fun S h1 h2 => (hS S h1 (by omega)).2⟩ sm⟩
theorem scBFirst : FnScope ["left", "ahead", "sums", "thing"] ["left", "ahead", "sums"] (defScope s_best_first) := ⟨rfl, rfl, rfl, by decide +kernel, rfl, by decide +kernel, by decide +kernel⟩
set_option maxHeartbeats 4000000 in
theorem ok_bfirst {f f1 f2 : Addr} {fd d1 d2 : FuncData} {k : Nat} (T : Df K mg "best_first" s_best_first ["left", "ahead", "sums"] f fd) (T_things_in : Df K mg "things_in" s_things_in ["left", "ahead"] f1 d1) (T_sum_with_first : Df K mg "sum_with_first" s_sum_with_first ["thing", "left", "ahead", "sums"] f2 d2) (G_things_in : FnOk P w K mg base CX0 k f1 d1 ["left", "ahead"] spTIn) (G_sum_with_first : FnOk P w K mg base CX0 k f2 d2 ["thing", "left", "ahead", "sums"] spSwf) (B : Bi mg) : FnOk P w K mg base CX0 (k + 1) f fd ["left", "ahead", "sums"] spBFirst := by
  refine T.F.ok scBFirst (fun vs H Q E h => ?_) (fun cdv A outer s H vs Q E hr h => ?_)
  · obtain ⟨S, l, m, as, n, rs, ss, rfl, _⟩ := h
    rfl
  · obtain ⟨S, l, m, as, n, rs, ss, rfl, hA, hm, hS1, hS2, hsl, hs, q⟩ := h
    have hn2 := hA.n2
    have h9 := pow9 n (by omega)
    refine ⟨_, 
      (pss_one (ps_ret (pe_callB (cr_min rfl) (by rfl) B.min (by decide +kernel) (pa_cons (pe_lc (own := [("thing", 3)]) (g := (gName 3)) (tt := (tTest (tOp rEq (tCall spSwf [] E0 (tCons (tVar 3) (tCons (tVar 0) (tCons (tVar 1) (tCons (tVar 2) tNil))))) (tOp (rIxL K) (tVar 2) (tVar 0))))) (te := (tVar 3)) rfl scBFirst.nd (pi_list (pe_call G_things_in hr (by rfl) T_things_in.g T_things_in.F.kp T_things_in.b .nil pass0 (pa_cons (pv 0) (pa_cons (pv 1) pa_nil)))) (blkOk_by (N := ["left", "ahead", "sums", "thing"]) (sc := defScope s_best_first) (by decide +kernel)) (fun _ _ _ _ _ => (pg_name (i := 3) scBFirst.nd rfl (.inl rfl))) (fun _ _ _ _ _ => (pts_one (pt_cmpR op_eq (pe_call G_sum_with_first hr (by rfl) T_sum_with_first.g T_sum_with_first.F.kp T_sum_with_first.b .nil pass0 (pa_cons (pv 3) (pa_cons (pv 0) (pa_cons (pv 1) (pa_cons (pv 2) pa_nil))))) (pe_ix ix_list (pv 2) (pv 0) (fun _ _ => rfl)) (nomark _)))) (fun _ _ _ _ _ => (pv 3))) pa_nil)))), ?_⟩
    refine ⟨_, rfl, _, rfl, S, l, as, n, rs, rfl, hA, hS2, fun p H1 np hp s1 => ?_⟩
    have hA1 := hA.same s1
    have hm1 := s1 _ _ hm
    refine ⟨p, rfl, ⟨_, SqL.of hp⟩, fun D nD => ?_⟩
    refine lc_list (K := K) (a := p) (xs := (tI n S).map V.int) (fun i H3 => H3 D = some (.lst ((((tI n S).take i).filter fun t => decide (swf (aN rs) n ss t S = ss.getD S 0)).map V.int)) ∧ Same H1 H3) ⟨upd_same, same_new nD⟩ (fun i H3 _ hP => SqL.of (hP.2 _ _ hp)) (fun i x H3 hx hP => ?_) (fun H3 hP => ?_)
    · obtain ⟨y, ey, rfl⟩ := int_at_inv hx
      obtain ⟨hD3, sm⟩ := hP
      have hi := (List.getElem?_eq_some_iff.mp ey).1
      have htl := tI_len n S
      refine ⟨rfl, _, rfl, _, rfl, _, rfl, _, rfl, y, S, l, m, as, n, rs, ss, rfl, hA1.same sm, sm _ _ hm1, hS2, by omega, List.mem_of_getElem? ey, fun H4 s4 => ?_⟩
      refine ⟨_, rfl, _, rfl, m, _, _, _, rfl, rfl, SqL.of (s4 _ _ (sm _ _ hm1)), at_of (j := S) rfl (int_at (getD_at (show S < ss.length by omega))), rfl, _, rfl, ite2 (fun c => ?_) (fun c => ?_)⟩
      · have e : swf (aN rs) n ss y S = ss.getD S 0 := V.int.inj (of_decide_eq_true c)
        refine ⟨_, rfl, _, s4 _ _ hD3, line_lt (by rw [List.length_map]; exact Nat.lt_of_le_of_lt (List.length_filter_le _ _) (by rw [List.length_take]; omega)), ?_, fun b o e => ?_⟩
        · rw [upd_same, filter_more _ ey, decide_eq_true e, if_pos rfl, List.map_append]
          rfl
        · rw [upd_ne (ne_of_none e nD)]
          exact s4 _ _ (sm _ _ e)
      · refine ⟨?_, sm.trans s4⟩
        rw [filter_more _ ey, decide_eq_false (fun e => c (decide_eq_true (by rw [e]))), if_neg (by decide), List.append_nil]
        exact s4 _ _ hD3
    · obtain ⟨hD3, sm⟩ := hP
      rw [List.length_map, List.take_length] at hD3
      obtain ⟨t0, ht0, e0⟩ := hs.ex S hS1 hS2
      have hm0 : t0 ∈ (tI n S).filter fun t => decide (swf (aN rs) n ss t S = ss.getD S 0) := List.mem_filter.mpr ⟨ht0, decide_eq_true e0.symm⟩
      refine ⟨D, _, rfl, SqL.of hD3, List.length_pos_of_mem hm0, fun v hv hle => ?_⟩
      obtain ⟨hv1, hv2⟩ := List.mem_filter.mp hv
      obtain ⟨t, ht, hb, rfl⟩ := tI_mem.mp hv1
      exact q t H3 ht hb (of_decide_eq_true hv2).symm (fun u hu eu => hle u (List.mem_filter.mpr ⟨hu, decide_eq_true eu.symm⟩)) (s1.trans sm)
theorem scMPairs : FnScope ["ahead", "sums", "left", "order", "thing"] ["ahead"] (defScope s_middle_by_pairs) := ⟨rfl, rfl, rfl, by decide +kernel, rfl, by decide +kernel, by decide +kernel⟩
set_option maxHeartbeats 4000000 in
theorem ok_mpairs {f f1 f2 : Addr} {fd d1 d2 : FuncData} {k : Nat} (T : Df K mg "middle_by_pairs" s_middle_by_pairs ["ahead"] f fd) (T_least_sums : Df K mg "least_sums" s_least_sums ["ahead"] f1 d1) (T_best_first : Df K mg "best_first" s_best_first ["left", "ahead", "sums"] f2 d2) (G_least_sums : FnOk P w K mg base CX0 k f1 d1 ["ahead"] spLSums) (G_best_first : FnOk P w K mg base CX0 k f2 d2 ["left", "ahead", "sums"] spBFirst) (B : Bi mg) : FnOk P w K mg base CX0 (k + 1) f fd ["ahead"] spMPairs := by
  refine T.F.ok scMPairs (fun vs H Q E h => ?_) (fun cdv A outer s H vs Q E hr h => ?_)
  · obtain ⟨l, as, n, rs, rfl, _⟩ := h
    rfl
  · obtain ⟨l, as, n, rs, rfl, hA, q⟩ := h
    have hn2 := hA.n2
    have h9 := pow9 n (by omega)
    have p2 : 0 < 2 ^ n := Nat.two_pow_pos n
    refine ⟨_, 
      (pss_cons (ps_set (i := 1) scMPairs.nd rfl (.inl rfl) (pe_call G_least_sums hr (by rfl) T_least_sums.g T_least_sums.F.kp T_least_sums.b .nil pass0 (pa_cons (pv 0) pa_nil)))
      (pss_cons (ps_set (i := 2) scMPairs.nd rfl (.inl rfl) (pe_op op_sub (pe_callB call_len_seq (by rfl) B.len PySem.boot_len (pa_cons (pv 1) pa_nil)) pe_int))
      (pss_cons (ps_set (i := 3) scMPairs.nd rfl (.inl rfl) (pe_lst pa_nil))
      (pss_cons (ps_while PassesOwn.never (pt_cmpR op_gt (pv 2) pe_int (nomark _))
        (pss_cons (ps_set (i := 4) scMPairs.nd rfl (.inl rfl) (pe_call G_best_first hr (by rfl) T_best_first.g T_best_first.F.kp T_best_first.b .nil pass0 (pa_cons (pv 2) (pa_cons (pv 0) (pa_cons (pv 1) pa_nil)))))
        (pss_cons (ps_expr (pe_bm PySem.F.plainAttrs_list PySem.F.slot_list_append PySem.F.type_list_append mt_append (pv 3) (pa_cons (pv 4) pa_nil)))
        (pss_one (ps_aug (i := 2) scMPairs.nd rfl (.inl rfl) (pe_op op_shl pe_int (pv 4)) ip_sub)))))
      (pss_one (ps_ret (pe_tup (pa_cons (pe_ix ix_list (pv 1) (pe_un un_neg pe_int) (fun _ _ => rfl)) (pa_cons (pv 3) pa_nil))))))))), ?_⟩
    refine ⟨_, rfl, l, as, n, rs, rfl, hA, fun m ss H1 nm hm hsl hs s1 => ?_⟩
    refine ⟨_, rfl, m, _, rfl, .inl (SqL.of hm), _, 1, rfl, rfl, ?_⟩
    have eL : ((((ss.map V.int).length : Nat) : Int) - 1) = ((2 ^ n - 1 : Nat) : Int) := by rw [List.length_map, hsl]; omega
    show gName 2 (V.int ((((ss.map V.int).length : Nat) : Int) - 1)) _ _ _
    rw [eL]
    refine ⟨line_small (by show 0 ≤ 16777216; decide), fun g ng => ?_⟩
    have s2 := same_new (o := .lst []) ng
    have s02 := s1.trans s2
    have ngH : H g = none := s1.free ng
    have hm2 := s2 _ _ hm
    have ngm : g ≠ m := (ne_of_none hm ng).symm
    refine ⟨fun mm σ G => ∃ (S : Nat) (acc : List Int) (y4 : Option V), S = mm ∧ σ = [some (.ref l), some (.ref m), some (.int S), some (.ref g), y4] ∧ S < 2 ^ n ∧ (∀ r, Gr (aN rs) n ss S r → Gr (aN rs) n ss (2 ^ n - 1) (acc ++ r)) ∧ (tI n S).length + acc.length = n ∧ G g = some (.lst (acc.map V.int)) ∧ G m = some (.lst (ss.map V.int)) ∧ Same H G,
      ⟨_, 2 ^ n - 1, [], none, rfl, rfl, by omega, fun r h => h, by rw [tI_full n (by omega), rg_len]; rfl, upd_same, hm2, s02⟩, fun mm σ G hW => ?_⟩
    obtain ⟨S, acc, y4, rfl, rfl, hS, hG, hl, hg, hm3, sG⟩ := hW
    refine ⟨_, rfl, _, 0, rfl, rfl, _, rfl, ite2 (fun c => ?_) (fun c => ?_)⟩
    · have hS1 : 1 ≤ S := by have : (0 : Int) < (S : Int) := of_decide_eq_true c; omega
      refine ⟨_, fun σ' H' h => h, ?_⟩
      refine ⟨_, rfl, _, rfl, _, rfl, S, l, m, as, n, rs, ss, rfl, hA.same sG, hm3, hS1, hS, hsl, hs, fun t G2 ht hb he hle s3 => ?_⟩
      have hg2 := s3 _ _ hg
      have hperm := tI_out (by omega) hS ht hb
      have hpl := List.Perm.length_eq hperm
      rw [List.length_cons] at hpl
      have hsub := bits_sub S (by omega) t (by omega) hb
      have pt : 0 < 2 ^ t := Nat.two_pow_pos t
      refine ⟨_, rfl, .inl ⟨rfl, _, SqL.of hg2⟩, _, rfl, g, _, _, rfl, rfl, hg2, line_lt (by rw [List.length_map]; omega), ?_⟩
      refine ⟨_, rfl, _, rfl, 1, _, rfl, rfl, ⟨by omega, by omega, by decide⟩, _, _, rfl, rfl, ?_⟩
      refine ⟨S - 2 ^ t, by omega, S - 2 ^ t, acc ++ [(t : Int)], some (.int t), rfl, ?_, Nat.lt_of_le_of_lt (Nat.sub_le _ _) hS, fun r h => ?_, by rw [List.length_append]; show _ + (acc.length + 1) = n; omega, by rw [upd_same, List.map_append]; rfl, by rw [upd_ne ngm.symm]; exact s3 _ _ hm3, fun b o e => ?_⟩
      · have e : (S : Int) - 1 * 2 ^ ((t : Nat) : Int).toNat = ((S - 2 ^ t : Nat) : Int) := by rw [pow_nat]; omega
        show [some (V.ref l), some (V.ref m), some (V.int ((S : Int) - 1 * 2 ^ ((t : Nat) : Int).toNat)), some (V.ref g), some (V.int t)] = _
        rw [e]
      · rw [List.append_assoc]
        exact hG _ (Gr.cons ht hb he hle h)
      · rw [upd_ne (ne_of_none e ngH)]
        exact s3 _ _ (sG _ _ e)
    · have hS0 : S = 0 := by
        have : ¬ (0 : Int) < (S : Int) := fun h => c (decide_eq_true h)
        omega
      subst hS0
      have hfin := hG [] Gr.nil
      rw [List.append_nil] at hfin
      have ham := amin_gr (aN_self rs) (by omega) hs hfin
      have eix : atI (ss.map V.int) (-1) = some (V.int (ss.getD (2 ^ n - 1) 0)) := by
        unfold atI ixN
        rw [List.length_map, hsl, if_neg (by omega), if_pos (by omega)]
        show (ss.map V.int)[(-1 + ((2 ^ n : Nat) : Int)).toNat]? = _
        rw [show (-1 + ((2 ^ n : Nat) : Int)).toNat = 2 ^ n - 1 by omega]
        exact int_at (getD_at (by omega))
      refine ⟨_, rfl, 1, rfl, m, _, _, _, rfl, rfl, SqL.of hm3, eix, _, rfl, line_small (by show 2 ≤ 16777216; decide), fun p np => ?_⟩
      have sp := same_new (o := .tup [.int (ss.getD (2 ^ n - 1) 0), .ref g]) np
      exact q p g _ acc _ (sG.free np) ngH upd_same (sp _ _ hg) ham (sG.trans sp)
end
end Fo
namespace Fo
open PySem PySem.Spec PyProof.Rows L2
/-! ### a slice with a step that is reckoned, 1 or -1 -/
theorem pick_one (items : Array Value) : slicePick items none none (some 1) = items := by
  have e : slicePick items none none (some 1) = slicePick items none none none := rfl
  rw [e, PySem.W.kmk_pick_nat (a := 0) (b := items.size) items rfl, List.drop_zero, Nat.sub_zero, ← Array.length_toList, List.take_length]
def tStepL (K : PySem.W.Frag) (te ts : TE) : TE := fun σ H Q => te σ H fun x H1 => ∃ a, x = .ref a ∧ tPart ts σ H1 fun o H2 => ∃ xs, SqL K H2 a xs ∧
  ((o = some 1 ∧ ∀ p, H2 p = none → Q (.ref p) (upd H2 p (.lst xs))) ∨ (o = some (-1) ∧ ∀ p, H2 p = none → Q (.ref p) (upd H2 p (.lst xs.reverse))))
theorem pe_stepL {X : Cx} {e st : Expr} {te ts : TE} {p3 pos : Pos} (he : PE X e te) (hst : PE X st ts)
    (hsub : ∀ u : Value, ∀ r : Addr, subscripted (.Slice none none (some st) p3) false u (.ref r) = operate [u, .ref r] (getItem u (.ref r)) := by intro _ _; with_unfolding_all rfl) : PE X (.Subscript e (.Slice none none (some st) p3) pos) (tStepL X.K te ts) := by
  refine ⟨fun pins s σ H Q I h => ?_⟩
  refine Subscript_ (thn (he.run pins s σ H _ I h) fun v s1 z1 => ?_)
  obtain ⟨x, H1, I1, r1, a, ex, q1⟩ := z1
  subst ex
  cases r1
  refine wpAny_Slice (thn (po_none.run pins s1 σ H1 (fun o H2 => o = none ∧ H2 = H1) I1 ⟨rfl, rfl⟩) fun vl s2 z2 => ?_)
  obtain ⟨l, H2, I2, pl, el, e2⟩ := z2
  subst el e2
  refine thn (po_none.run pins s2 σ H2 (fun o H3 => o = none ∧ H3 = H2) I2 ⟨rfl, rfl⟩) fun vu s3 z3 => ?_
  obtain ⟨u, H3, I3, pu, eu, e3⟩ := z3
  subst eu e3
  refine thn ((po_some hst).run pins s3 σ H3 _ I3 q1) fun vs s4 z4 => ?_
  obtain ⟨o, H4, I4, ps, xs, hx, q⟩ := z4
  have I5 : Inv X pins σ H4 { s4 with heap := s4.heap.push { cls := .type "slice", data := .fields #[vl, vu, vs] } } := I4.kept (t' := s4.toks) fun b ob w => Heap.get?_push_of_some _ w
  obtain ⟨its, r, ht, hz⟩ := I5.list hx
  have hlen := r.length
  show wpAny (model X.prog X.w) X.A (subscriptTail e (.Slice none none (some st) p3) (.ref a) (.ref s4.heap.objs.size)) (EP X pins σ Q) X.xe _
  refine tail_any (ops := [.ref a, .ref s4.heap.objs.size]) ht.isList.typeIs (PySem.slot_list_getitem.lookup) ?_ (hsub _ _)
  rcases q with ⟨eo, q⟩ | ⟨eo, q⟩
  · subst eo
    refine wpAny_getItem_list_slice ht.isList (Heap.IsSliceOf.new _ vl vu vs) pl pu ps (by decide) ?_ (by rw [List.size_toArray]; omega)
    rw [pick_one]
    refine ⟨.ref _, _, I5.laid (t' := s4.toks) (o := .lst xs) (fun b ob w => Heap.get?_push_of_some _ w) (Nat.le_refl _) ?_, rfl, q _ (I5.hok.fresh (Nat.le_refl _))⟩
    exact ⟨hz, _, 0, r, Heap.get?_push_size _ rfl⟩
  · subst eo
    refine wpAny_getItem_list_slice ht.isList (Heap.IsSliceOf.new _ vl vu vs) pl pu ps (by decide) ?_ (by rw [List.size_toArray]; omega)
    rw [PySem.W.krv_pick]
    refine ⟨.ref _, _, I5.laid (t' := s4.toks) (o := .lst xs.reverse) (fun b ob w => Heap.get?_push_of_some _ w) (Nat.le_refl _) ?_, rfl, q _ (I5.hok.fresh (Nat.le_refl _))⟩
    exact ⟨by rw [List.length_reverse]; exact hz, _, 0, r.reverse, Heap.get?_push_size _ rfl⟩
end Fo
namespace Fo
open PySem PySem.Spec PyProof.Rows L2
def spAllO : Sp := fun vs H Q _ => ∃ n : Nat, vs = [.int n] ∧ 1 ≤ n ∧ n ≤ 6 ∧ ∀ (l : Addr) (as : List Addr) (H' : Hp), H l = none → H' l = some (.lst (as.map V.ref)) → LL H' as (allK n n) → (∀ a ∈ as, H a = none ∧ a ≠ l) → as.Nodup → Same H H' → Q (.ref l) H'
end Fo
namespace Fo
open PySem PySem.Spec PyProof.Rows L2
/-- an inner for over a list that stands still -/
theorem in_list {K : PySem.W.Frag} {a : Addr} {xs : List V} {g1 : TG} {tt1 : TT} {te : TE} {vs1 : List Nat} {σ2 : L2.St} {H4 : Hp} {D : Addr} {Nx : Hp → Prop} (Pw : Nat → Hp → Prop) (h0 : Pw 0 H4) (hl : ∀ i H, i ≤ xs.length → Pw i H → SqL K H a xs)
    (hs : ∀ j x H, xs[j]? = some x → Pw j H → g1 x (wipe σ2 vs1) H fun σ3 H5 => wipe σ3 vs1 = wipe σ2 vs1 ∧ tt1 σ3 H5 fun b H6 =>
      if b = true then te σ3 H6 fun y H7 => ∃ acc, H7 D = some (.lst acc) ∧ acc.length < sizeLine ∧ Pw (j + 1) (upd H7 D (.lst (acc ++ [y]))) else Pw (j + 1) H6) (hd : ∀ H, Pw xs.length H → Nx H) :
    ∃ W1 : Nat → Nat → Hp → Prop, (∃ m, W1 0 m H4) ∧ ∀ j k H, W1 j k H →
      ((Itl K a).stop j H ∧ Nx H) ∨ ((Itl K a).go j H ∧ ∃ Nx1 : Hp → Prop, (∀ H', Nx1 H' → ∃ k', k' < k ∧ W1 (j + 1) k' H') ∧ ∀ x H', (Itl K a).yld j H x H' → g1 x (wipe σ2 vs1) H' fun σ3 H5 => wipe σ3 vs1 = wipe σ2 vs1 ∧ tt1 σ3 H5 fun b H6 =>
        if b = true then te σ3 H6 fun y H7 => ∃ acc, H7 D = some (.lst acc) ∧ acc.length < sizeLine ∧ Nx1 (upd H7 D (.lst (acc ++ [y]))) else Nx1 H6) := by
  refine ⟨fun j m H => m = xs.length - j ∧ j ≤ xs.length ∧ Pw j H, ⟨xs.length, by simp, Nat.zero_le _, h0⟩, ?_⟩
  rintro j m H ⟨rfl, hi, p⟩
  have q := hl j H hi p
  by_cases hlt : j < xs.length
  · refine .inr ⟨⟨xs, xs[j], q, by simp [hlt]⟩, Pw (j + 1), fun H' p' => ⟨xs.length - (j + 1), by omega, rfl, hlt, p'⟩, fun x H' y => ?_⟩
    obtain ⟨e, y⟩ := y
    subst e
    exact hs j x _ (y _ q) p
  · have e : j = xs.length := by omega
    subst e
    exact .inl ⟨⟨xs, q, Nat.le_refl _⟩, hd H p⟩
/-! ### orders with choices -/
def extC (ch : List Int) (o : List Int) : List (List Int) := (ch.filter fun t => !decide (t ∈ o)).map fun t => o ++ [t]
def ordW (chs : List (List Int)) : List (List Int) := chs.foldl (fun b ch => b.flatMap (extC ch)) [[]]
theorem ordW_more {chs : List (List Int)} {i : Nat} {ch : List Int} (h : chs[i]? = some ch) : ordW (chs.take (i + 1)) = (ordW (chs.take i)).flatMap (extC ch) := by
  unfold ordW
  rw [List.take_add_one, h, List.foldl_append]
  rfl
theorem extC_more {ch : List Int} {o : List Int} {j : Nat} {t : Int} (h : ch[j]? = some t) : extC (ch.take (j + 1)) o = extC (ch.take j) o ++ (if t ∈ o then [] else [o ++ [t]]) := by
  unfold extC
  rw [List.take_add_one, h, List.filter_append, List.map_append]
  congr 1
  show List.map _ (List.filter _ [t]) = _
  rw [List.filter_cons]
  by_cases c : t ∈ o
  · rw [decide_eq_true c, if_pos c]
    rfl
  · rw [decide_eq_false c, if_neg c]
    rfl
theorem extC_len (ch o : List Int) : (extC ch o).length ≤ ch.length := by
  unfold extC
  rw [List.length_map]
  exact List.length_filter_le _ _
theorem flatC_len (ch : List Int) : ∀ l : List (List Int), (l.flatMap (extC ch)).length ≤ l.length * ch.length
  | [] => Nat.zero_le _
  | o :: l => by
    rw [List.flatMap_cons, List.length_append, List.length_cons, Nat.add_mul, Nat.one_mul]
    have := flatC_len ch l
    have := extC_len ch o
    omega
theorem ordW_all (n : Nat) : ∀ i, ordW (List.replicate i (rg n)) = allK n i
  | 0 => rfl
  | i + 1 => by
    have h := ordW_more (chs := List.replicate (i + 1) (rg n)) (i := i) (ch := rg n) (by rw [List.getElem?_replicate, if_pos (by omega)])
    rw [List.take_of_length_le (by rw [List.length_replicate]; omega), List.take_replicate, Nat.min_eq_left (by omega), ordW_all n i] at h
    exact h
theorem ordW_rows : ∀ (i : Nat) (chs : List (List Int)), ∀ r ∈ ordW (chs.take i), r.length ≤ i
  | 0, chs, r, h => by
    rw [List.take_zero] at h
    rw [List.mem_singleton.mp h]
    exact Nat.le_refl _
  | i + 1, chs, r, h => by
    cases e : chs[i]? with
    | none =>
      have : chs.take (i + 1) = chs.take i := by rw [List.take_add_one, e]; simp
      rw [this] at h
      exact Nat.le_succ_of_le (ordW_rows i chs r h)
    | some ch =>
      rw [ordW_more e] at h
      obtain ⟨o, ho, hr⟩ := List.mem_flatMap.mp h
      obtain ⟨t, _, rfl⟩ := List.mem_map.mp hr
      have := ordW_rows i chs o ho
      rw [List.length_append]
      show _ + 1 ≤ _
      omega
def spOrdW : Sp := fun vs H Q _ => ∃ (c : Addr) (cs : List Addr) (chs : List (List Int)), vs = [.ref c] ∧ H c = some (.lst (cs.map V.ref)) ∧ LL H cs chs ∧ chs.length ≤ 12 ∧ (∀ ch ∈ chs, ch.length ≤ 12) ∧ (∀ i, i ≤ chs.length → (ordW (chs.take i)).length ≤ 100000) ∧
  ∀ (l : Addr) (as : List Addr) (H' : Hp), H l = none → H' l = some (.lst (as.map V.ref)) → LL H' as (ordW chs) → (∀ a ∈ as, H a = none ∧ a ≠ l) → as.Nodup → Same H H' → Q (.ref l) H'
section
variable {P : Program} {w : World} {K : PySem.W.Frag} {mg : Str → Option Value} {base : Heap}
theorem scOrdW : FnScope ["choices", "begun", "things", "start", "thing"] ["choices"] (defScope s_orders_with) := ⟨rfl, rfl, rfl, by decide +kernel, rfl, by decide +kernel, by decide +kernel⟩
set_option maxHeartbeats 4000000 in
theorem ok_ordW {f : Addr} {fd : FuncData} {k : Nat} (T : Df K mg "orders_with" s_orders_with ["choices"] f fd) (B : Bi mg) : FnOk P w K mg base CX0 (k + 1) f fd ["choices"] spOrdW := by
  refine T.F.ok scOrdW (fun vs H Q E h => ?_) (fun cdv A outer s H vs Q E hr h => ?_)
  · obtain ⟨c, cs, chs, rfl, _⟩ := h
    rfl
  · obtain ⟨c0, ks, chs, rfl, hc, hLc, hcl, hch, hsz, q⟩ := h
    have hkl := hLc.len
    refine ⟨_, 
      (pss_cons (ps_set (i := 1) scOrdW.nd rfl (.inl rfl) (pe_lst (pa_cons (pe_lst pa_nil) pa_nil)))
      (pss_cons (ps_for PassesOwn.never rfl (pi_list (pv 0)) (pg_name (i := 2) scOrdW.nd rfl (.inr rfl))
        (pss_one (ps_setLc2 (i := 1) (own := [("start", 3), ("thing", 4)]) (vs1 := [4]) (wi1 := iList K (tVar 2)) (g := (gName 3)) (tt := tYes) (g1 := (gName 4)) (tt1 := (tTest (tOp (rIn K true) (tVar 4) (tVar 3)))) (te := (tOp rCat (tVar 3) (tLst (tCons (tVar 4) tNil)))) (by rfl) scOrdW.nd rfl rfl (sw_true rfl rfl rfl (by decide +kernel)) (pi_list (pv 1)) (blkOk_by (N := ["choices", "begun", "things", "start", "thing"]) (sc := defScope s_orders_with) (by decide +kernel)) (by decide) (fun _ _ _ _ _ => (pg_name (i := 3) scOrdW.nd rfl (.inl rfl))) (fun _ _ _ _ _ => pts_nil) (fun _ _ _ _ _ => (pi_list (pv 2))) (fun _ _ _ _ _ => (pg_name (i := 4) scOrdW.nd rfl (.inl rfl))) (fun _ _ _ _ _ => (pts_one (pt_cmpR op_notIn_seq (pv 4) (pv 3) (by rfl)))) (fun _ _ _ _ _ => (pe_op op_cat (pv 3) (pe_lst (pa_cons (pv 4) pa_nil)))))))
      (pss_one (ps_ret (pv 1))))), ?_⟩
    refine ⟨Nat.zero_le _, fun e0 ne0 => ⟨line_small (by show 1 ≤ 16777216; decide), fun bg nbg => ?_⟩⟩
    have s0 := same_new (o := .lst []) ne0
    have s1 := same_new (o := .lst [.ref e0]) nbg
    have nHbg : H bg = none := s0.free nbg
    have neb : e0 ≠ bg := ne_of_none upd_same nbg
    refine ⟨_, rfl, c0, rfl, ⟨_, SqL.of (s1 _ _ (s0 _ _ hc))⟩, ?_⟩
    refine for_list (xs := ks.map V.ref) (fun i σ H3 => ∃ (bg : Addr) (y2 y3 y4 : Option V) (as : List Addr), σ = [some (.ref c0), some (.ref bg), y2, y3, y4] ∧ H bg = none ∧ H3 bg = some (.lst (as.map V.ref)) ∧ LL H3 as (ordW (chs.take i)) ∧ (∀ c ∈ as, H c = none ∧ c ≠ bg) ∧ as.Nodup ∧ Same H H3)
      ⟨bg, _, _, _, [e0], rfl, nHbg, upd_same, ⟨s1 _ _ upd_same, trivial⟩, fun c hc => by rw [List.mem_singleton.mp hc]; exact ⟨ne0, neb⟩, List.nodup_cons.mpr ⟨List.not_mem_nil, List.nodup_nil⟩, s0.trans s1⟩ (fun i σ H3 _ hP => by obtain ⟨_, _, _, _, _, _, _, _, _, _, _, sm⟩ := hP; exact SqL.of (sm _ _ hc)) (fun i x σ H3 hx hP => ?_) (fun σ H3 hP => ?_)
    · obtain ⟨bg, y2, y3, y4, as, rfl, nbg, hb3, hLL, hfr, hnd, sm⟩ := hP
      obtain ⟨kc, ek, rfl⟩ := ref_at_inv hx
      obtain ⟨ch, ech, hkc⟩ := hLc.get ek
      have hi := (List.getElem?_eq_some_iff.mp ech).1
      have hchl := hch ch (List.mem_of_getElem? ech)
      have hlen := hLL.len
      have hal := hsz i (by omega)
      have hkc3 := sm _ _ hkc
      refine ⟨_, rfl, bg, rfl, ⟨_, SqL.of hb3⟩, fun D nD => ?_⟩
      have nHD : H D = none := sm.free nD
      refine lc2_list (K := K) (a := bg) (xs := as.map V.ref) (fun m H4 => ∃ cs : List Addr, H4 D = some (.lst (cs.map V.ref)) ∧ LL H4 cs (((ordW (chs.take i)).take m).flatMap (extC ch)) ∧ (∀ c ∈ cs, H3 c = none ∧ c ≠ D) ∧ cs.Nodup ∧ Same H3 H4)
        ⟨[], upd_same, trivial, fun c hc => absurd hc List.not_mem_nil, List.nodup_nil, same_new nD⟩ (fun m H4 _ hP => by obtain ⟨_, _, _, _, _, s4⟩ := hP; exact SqL.of (s4 _ _ hb3)) (fun m x H4 hx hP => ?_) (fun H4 hP => ?_)
      · obtain ⟨cs, hD4, hLc4, hfc, hndc, s4⟩ := hP
        obtain ⟨r, er, rfl⟩ := ref_at_inv hx
        obtain ⟨row, erow, hrow⟩ := hLL.get er
        have hrl := ordW_rows i chs row (List.mem_of_getElem? erow)
        refine ⟨rfl, ?_⟩
        refine ⟨_, rfl, kc, rfl, ⟨_, SqL.of (s4 _ _ hkc3)⟩, ?_⟩
        refine in_list (K := K) (a := kc) (xs := ch.map V.int) (fun j H5 => ∃ cs : List Addr, H5 D = some (.lst (cs.map V.ref)) ∧ LL H5 cs (((ordW (chs.take i)).take m).flatMap (extC ch) ++ extC (ch.take j) row) ∧ (∀ c ∈ cs, H3 c = none ∧ c ≠ D) ∧ cs.Nodup ∧ Same H3 H5)
          ⟨cs, hD4, by rw [show extC (ch.take 0) row = [] from rfl, List.append_nil]; exact hLc4, hfc, hndc, s4⟩ (fun j H5 _ hP => by obtain ⟨_, _, _, _, _, s5⟩ := hP; exact SqL.of (s5 _ _ hkc3)) (fun j x H5 hx hP => ?_) (fun H5 hP => ?_)
        · obtain ⟨cs5, hD5, hL5, hf5, hnd5, s5⟩ := hP
          obtain ⟨t, et, rfl⟩ := int_at_inv hx
          have hrow5 := s5 _ _ hrow
          refine ⟨rfl, _, rfl, _, rfl, r, _, rfl, .inl (SqL.of hrow5), rfl, flat_ints row, _, rfl, ?_⟩
          show if (!inV (.int t) (row.map V.int)) = true then _ else _
          rw [inV_int]
          have em := extC_more (o := row) et
          by_cases c : t ∈ row
          · rw [decide_eq_true c]
            refine iteF ⟨cs5, hD5, ?_, hf5, hnd5, s5⟩
            rw [em, if_pos c, List.append_nil]
            exact hL5
          · rw [decide_eq_false c]
            refine iteT ⟨_, rfl, _, rfl, line_small (by show 1 ≤ 16777216; decide), fun p np => ?_⟩
            have sp1 := same_new (o := .lst [.int t]) np
            refine ⟨r, p, _, _, rfl, rfl, sp1 _ _ hrow5, upd_same, line_small (by rw [List.length_map]; show _ + 1 ≤ _; omega), fun z nz => ?_⟩
            have sp2 := same_new (o := .lst (row.map V.int ++ [.int t])) nz
            have hD6 := sp2 _ _ (sp1 _ _ hD5)
            have nzD : z ≠ D := (ne_of_none (sp1 _ _ hD5) nz).symm
            have hl5 := hL5.len
            have hcount : cs5.length < 16777216 := by
              have h1 : (((ordW (chs.take i)).take m).flatMap (extC ch) ++ extC (ch.take j) row).length ≤ ((ordW (chs.take i)).take m).length * ch.length + ch.length := by
                rw [List.length_append]
                have a1 := flatC_len ch ((ordW (chs.take i)).take m)
                have a2 := extC_len (ch.take j) row
                rw [List.length_take] at a2
                omega
              have h2 : ((ordW (chs.take i)).take m).length * ch.length ≤ 100000 * 12 := Nat.mul_le_mul (by rw [List.length_take]; omega) hchl
              omega
            refine ⟨_, hD6, line_lt (by rw [List.length_map]; exact hcount), cs5 ++ [z], by rw [upd_same, List.map_append]; rfl, ?_, fun c hc => ?_, ?_, fun u ob e => ?_⟩
            · rw [em, if_neg c, ← List.append_assoc]
              refine LL.snoc (((hL5.same sp1).same sp2).keep fun u hu ob e => by rw [upd_ne (hf5 u hu).2]; exact e) ?_
              rw [upd_ne nzD, upd_same, List.map_append]
              rfl
            · rcases List.mem_append.mp hc with hc | hc
              · exact hf5 c hc
              · rw [List.mem_singleton.mp hc]
                exact ⟨(s5.trans sp1).free nz, nzD⟩
            · rw [List.nodup_append]
              refine ⟨hnd5, List.nodup_cons.mpr ⟨List.not_mem_nil, List.nodup_nil⟩, fun x hx y hy e => ?_⟩
              rw [List.mem_singleton.mp hy] at e
              obtain ⟨ob, eo⟩ := hL5.tracked hx
              rw [e] at eo
              have := sp1 _ _ eo
              rw [nz] at this
              cases this
            · rw [upd_ne (ne_of_none e nD)]
              exact sp2 _ _ (sp1 _ _ (s5 _ _ e))
        · obtain ⟨cs5, hD5, hL5, hf5, hnd5, s5⟩ := hP
          refine ⟨cs5, hD5, ?_, hf5, hnd5, s5⟩
          rw [List.length_map, List.take_length] at hL5
          rw [List.take_add_one, erow, List.flatMap_append]
          show LL H5 cs5 (_ ++ (extC ch row ++ []))
          rw [List.append_nil]
          exact hL5
      · obtain ⟨cs, hD4, hLc4, hfc, hndc, s4⟩ := hP
        rw [List.length_map, hlen, List.take_length] at hLc4
        refine ⟨D, _, _, _, cs, rfl, nHD, hD4, ?_, fun c hc => ⟨sm.free (hfc c hc).1, (hfc c hc).2⟩, hndc, sm.trans s4⟩
        rw [ordW_more ech]
        exact hLc4
    · obtain ⟨bg, y2, y3, y4, as, rfl, nbg, hb3, hLL, hfr, hnd, sm⟩ := hP
      rw [List.length_map, hkl, List.take_length] at hLL
      exact ⟨_, rfl, q bg as H3 nbg hb3 hLL hfr hnd sm⟩
theorem LL_rep {H : Hp} {a : Addr} {r : List Int} (h : H a = some (.lst (r.map V.int))) : ∀ m, LL H (List.replicate m a) (List.replicate m r)
  | 0 => trivial
  | m + 1 => ⟨h, LL_rep h m⟩
theorem rep_flat (v : V) : ∀ m : Nat, (List.replicate m [v]).flatten = List.replicate m v
  | 0 => rfl
  | m + 1 => by rw [List.replicate_succ, List.flatten_cons, rep_flat v m]; rfl
theorem scAllO : FnScope ["n"] ["n"] (defScope s_all_orders) := ⟨rfl, rfl, rfl, by decide +kernel, rfl, by decide +kernel, by decide +kernel⟩
theorem ok_all_orders {f f1 : Addr} {fd d1 : FuncData} {k : Nat} (T : Df K mg "all_orders" s_all_orders ["n"] f fd) (T_orders_with : Df K mg "orders_with" s_orders_with ["choices"] f1 d1) (B : Bi mg) : FnOk P w K mg base CX0 (k + 2) f fd ["n"] spAllO := by
  have G_orders_with : FnOk P w K mg base CX0 (k + 1) f1 d1 ["choices"] spOrdW := ok_ordW T_orders_with B
  refine T.F.ok scAllO (fun vs H Q E h => ?_) (fun cdv A outer s H vs Q E hr h => ?_)
  · obtain ⟨n, rfl, _⟩ := h
    rfl
  · obtain ⟨n, rfl, hn1, hn2, q⟩ := h
    refine ⟨_, 
      (pss_one (ps_ret (pe_call G_orders_with hr (by rfl) T_orders_with.g T_orders_with.F.kp T_orders_with.b .nil pass0 (pa_cons (pe_op op_rep (pe_lst (pa_cons (pe_listRg rfl (by rfl) B.list (prg_1 (by rfl) B.range (pv 0))) pa_nil)) (pv 0)) pa_nil)))), ?_⟩
    refine ⟨_, rfl, n, rfl, RgOk.of_le (by omega) (by omega) (by omega) (by omega), fun l nl => ?_⟩
    have t1 := same_new (o := .lst (rgV 0 (n : Int))) nl
    have hl : (upd H l (.lst (rgV 0 (n : Int)))) l = some (.lst ((rg n).map V.int)) := by rw [upd_same, rg_V]
    refine ⟨line_small (by show 1 ≤ 16777216; decide), fun l1 nl1 => ?_⟩
    have t2 := same_new (o := .lst [.ref l]) nl1
    refine ⟨_, rfl, l1, _, _, rfl, rfl, upd_same, by omega, by omega, line_small (by rw [Int.toNat_natCast]; show 1 * n ≤ _; omega), fun l2 nl2 => ?_⟩
    have t3 := same_new (o := .lst (List.replicate ((n : Nat) : Int).toNat [V.ref l]).flatten) nl2
    have tt := (t1.trans t2).trans t3
    refine ⟨l2, List.replicate n l, List.replicate n (rg n), rfl, by rw [upd_same, Int.toNat_natCast, rep_flat, List.map_replicate], LL_rep (t3 _ _ (t2 _ _ hl)) n, by rw [List.length_replicate]; omega, fun ch hc => ?_, fun i hi => ?_, fun r as H' nr hr hLL hfr hnd s' => ?_⟩
    · rw [(List.mem_replicate.mp hc).2, rg_len]
      omega
    · rw [List.length_replicate] at hi
      rw [List.take_replicate, Nat.min_eq_left hi, ordW_all]
      have h1 := allK_len hn2 i hi
      have h2 := pow6 (show i ≤ 6 by omega)
      omega
    · rw [ordW_all] at hLL
      exact q r as H' (tt.free nr) hr hLL (fun c hc => ⟨tt.free (hfr c hc).1, (hfr c hc).2⟩) hnd (tt.trans s')
end
end Fo
namespace Fo
open PySem PySem.Spec PyProof.Rows L2
def nearL (w : Str) (n : Nat) (xs : List Int) (r : Int) : List (List Int) := (allK n n).filter fun o => decide (farW w xs o ≤ r)
theorem filter_moreL {l : List (List Int)} {m : Nat} {x : List Int} (p : List Int → Bool) (h : l[m]? = some x) : (l.take (m + 1)).filter p = (l.take m).filter p ++ (if p x then [x] else []) := by
  rw [List.take_add_one, h, List.filter_append]
  show _ ++ List.filter p [x] = _
  rw [List.filter_cons]
  rfl
theorem extend_LL {H : Hp} : ∀ {as bs : List Addr} {rs ss : List (List Int)}, LL H as rs → LL H bs ss → LL H (as ++ bs) (rs ++ ss)
  | [], _, [], _, _, h => h
  | [], _, _ :: _, _, h, _ => h.elim
  | _ :: _, _, [], _, h, _ => h.elim
  | _ :: _, _, _ :: _, _, h, h2 => ⟨h.1, extend_LL h.2 h2⟩
end Fo
namespace Fo
open PySem PySem.Spec PyProof.Rows L2
def spMAll : Sp := fun vs H Q _ => ∃ (w : Str) (l : Addr) (as : List Addr) (rs : List (List Int)) (n : Nat), vs = [.str w, .ref l, .int n] ∧ IsWay w ∧ OL H l as rs n ∧ rs.length ≤ 1000 ∧ n ≤ 6 ∧ ∀ (p g : Addr) (m : Int) (xs : List Int) (H' : Hp), H p = none → H g = none → H' p = some (.tup [.int m, .ref g]) → H' g = some (.lst (xs.map V.int)) → amin (fun o => sumW w o rs) (allK n n) = some (m, xs) → Same H H' → Q (.ref p) H'
/-- what is made least -/
def midF (w : Str) (rs : List (List Int)) (o : List Int) : Int := if w = "swap" then cst (aN rs) o else sumW w o rs
def spMid : Sp := fun vs H Q _ => ∃ (w : Str) (l : Addr) (as : List Addr) (rs : List (List Int)) (n : Nat), vs = [.str w, .ref l] ∧ IsWay w ∧ OL H l as rs n ∧ 1 ≤ rs.length ∧ rs.length ≤ 20 ∧ (n ≤ 6 ∨ (w = "swap" ∧ n ≤ 9)) ∧ ∀ (p g : Addr) (m : Int) (xs : List Int) (H' : Hp), H p = none → H g = none → H' p = some (.tup [.int m, .ref g]) → H' g = some (.lst (xs.map V.int)) → amin (midF w rs) (allK n n) = some (m, xs) → Same H H' → Q (.ref p) H'
theorem amin_more {f : List Int → Int} {L : List (List Int)} {i : Nat} {o : List Int} (h : L[i]? = some o) : amin f (L.take (i + 1)) = aStep f (amin f (L.take i)) o := by
  rw [List.take_add_one, h]
  exact amin_snoc f _ o
section
variable {P : Program} {w : World} {K : PySem.W.Frag} {mg : Str → Option Value} {base : Heap}
theorem scMAll : FnScope ["way", "poll", "n", "least", "best", "order", "far"] ["way", "poll", "n"] (defScope s_middle_by_all) := ⟨rfl, rfl, rfl, by decide +kernel, rfl, by decide +kernel, by decide +kernel⟩
set_option maxHeartbeats 4000000 in
theorem ok_mall {f f1 f2 : Addr} {fd d1 d2 : FuncData} {k : Nat} (T : Df K mg "middle_by_all" s_middle_by_all ["way", "poll", "n"] f fd) (T_all_orders : Df K mg "all_orders" s_all_orders ["n"] f1 d1) (T_known_sum : Df K mg "known_sum" s_known_sum ["way", "poll", "order"] f2 d2) (G_all_orders : FnOk P w K mg base CX0 k f1 d1 ["n"] spAllO) (G_known_sum : FnOk P w K mg base CX0 k f2 d2 ["way", "poll", "order"] spKSum) : FnOk P w K mg base CX0 (k + 1) f fd ["way", "poll", "n"] spMAll := by
  refine T.F.ok scMAll (fun vs H Q E h => ?_) (fun cdv A outer s H vs Q E hr h => ?_)
  · obtain ⟨z, l, as, rs, n, rfl, _⟩ := h
    rfl
  · obtain ⟨z, l, as, rs, n, rfl, hz, hO, hlen, hn6, q⟩ := h
    refine ⟨_, 
      (pss_cons (ps_asg (pe_tup (pa_cons pe_non (pa_cons pe_non pa_nil))) (pg_tup (by rfl) (pgs_cons (pg_name (i := 3) scMAll.nd rfl (.inl rfl)) (pgs_cons (pg_name (i := 4) scMAll.nd rfl (.inl rfl)) pgs_nil))))
      (pss_cons (ps_for PassesOwn.never rfl (pi_list (pe_call G_all_orders hr (by rfl) T_all_orders.g T_all_orders.F.kp T_all_orders.b .nil pass0 (pa_cons (pv 2) pa_nil))) (pg_name (i := 5) scMAll.nd rfl (.inl rfl))
        (pss_cons (ps_set (i := 6) scMAll.nd rfl (.inl rfl) (pe_call G_known_sum hr (by rfl) T_known_sum.g T_known_sum.F.kp T_known_sum.b .nil pass0 (pa_cons (pv 0) (pa_cons (pv 1) (pa_cons (pv 5) pa_nil)))))
        (pss_one (ps_if (PW.pt (pw_or (pt_cmpR op_isN (pv 3) pe_non (nomark _)) (pw_or1 (pt_cmpR op_lt (pv 6) (pv 3) (nomark _)))))
          (pss_one (ps_par (i := 3) (j := 4) (by rfl) scMAll.nd rfl rfl (by decide) rfl rfl (pa_cons (pv 6) (pa_cons (pv 5) pa_nil)) (by rfl)))
          pss_nil))))
      (pss_one (ps_ret (pe_tup (pa_cons (pv 3) (pa_cons (pv 4) pa_nil))))))), ?_⟩
    refine ⟨line_small (by show 2 ≤ 16777216; decide), fun t0 nt0 => ⟨t0, _, rfl, .inl (.inl upd_same), rfl, _, _, rfl, _, _, rfl, rfl, ?_⟩⟩
    have s0 := same_new (o := .tup [.non, .non]) nt0
    replace hO := hO.same s0
    replace q : ∀ (p g : Addr) (m : Int) (xs : List Int) (H' : Hp), (upd H t0 (.tup [.non, .non])) p = none → (upd H t0 (.tup [.non, .non])) g = none → H' p = some (.tup [.int m, .ref g]) → H' g = some (.lst (xs.map V.int)) → amin (fun o => sumW z o rs) (allK n n) = some (m, xs) → Same (upd H t0 (.tup [.non, .non])) H' → Q (.ref p) H' := fun p g m xs H' np ng hp hg ha s => q p g m xs H' (s0.free np) (s0.free ng) hp hg ha (s0.trans s)
    generalize upd H t0 (.tup [.non, .non]) = H0 at hO q ⊢
    refine ⟨_, rfl, n, rfl, hO.n1, hn6, fun al bs H1 nal hal hLL hbs hnd s1 => ?_⟩
    have hO1 := hO.same s1
    have hbl := hLL.len
    refine ⟨al, rfl, ⟨_, SqL.of hal⟩, ?_⟩
    refine for_list (xs := bs.map V.ref) (fun i σ G => ∃ (y5 y6 : Option V) (v3 v4 : V), σ = [some (.str z), some (.ref l), some (.int n), some v3, some v4, y5, y6] ∧ ((v3 = .non ∧ v4 = .non ∧ amin (fun o => sumW z o rs) ((allK n n).take i) = none) ∨ ∃ (m : Int) (g : Addr) (xs : List Int), v3 = .int m ∧ v4 = .ref g ∧ amin (fun o => sumW z o rs) ((allK n n).take i) = some (m, xs) ∧ G g = some (.lst (xs.map V.int)) ∧ H0 g = none) ∧ Same H1 G)
      ⟨_, _, _, _, rfl, .inl ⟨rfl, rfl, rfl⟩, Same.refl _⟩ (fun i σ G _ hP => by obtain ⟨_, _, _, _, _, _, sm⟩ := hP; exact SqL.of (sm _ _ hal)) (fun i x σ G hx hP => ?_) (fun σ G hP => ?_)
    · obtain ⟨y5, y6, v3, v4, rfl, hst, sm⟩ := hP
      obtain ⟨b, eb, rfl⟩ := ref_at_inv hx
      obtain ⟨o, eo, hb⟩ := (hLL.same sm).get eb
      have oo := all_ord (List.mem_of_getElem? eo)
      have nb := (hbs b (List.mem_of_getElem? eb)).1
      refine ⟨_, rfl, _, rfl, _, rfl, z, l, b, as, rs, n, o, rfl, hz, hO1.same sm, hlen, hb, oo, fun G2 s2 => ?_⟩
      have hb2 := s2 _ _ hb
      have am := amin_more (f := fun o => sumW z o rs) eo
      rcases hst with ⟨rfl, rfl, ea⟩ | ⟨m, g, xs, rfl, rfl, ea, hg, ng⟩
      · refine ⟨_, rfl, rfl, _, rfl, ite2 (fun _ => ?_) (fun c => absurd (decide_eq_true rfl) c)⟩
        rw [ea] at am
        exact ⟨_, rfl, _, rfl, _, _, rfl, _, _, _, _, rfl, .inr ⟨_, b, o, rfl, rfl, am, hb2, nb⟩, sm.trans s2⟩
      · refine ⟨_, rfl, rfl, _, rfl, ite2 (fun c => by cases of_decide_eq_true c) (fun _ => ?_)⟩
        rw [ea] at am
        refine ⟨_, rfl, _, rfl, _, m, rfl, rfl, _, rfl, ite2 (fun c => ?_) (fun c => ?_)⟩
        · have hlt : sumW z o rs < m := of_decide_eq_true c
          refine ⟨_, rfl, _, rfl, _, _, rfl, _, _, _, _, rfl, .inr ⟨_, b, o, rfl, rfl, ?_, hb2, nb⟩, sm.trans s2⟩
          rw [am]
          show (if sumW z o rs < m then _ else _) = _
          rw [if_pos hlt]
        · refine ⟨_, _, _, _, rfl, .inr ⟨m, g, xs, rfl, rfl, ?_, s2 _ _ hg, ng⟩, sm.trans s2⟩
          rw [am]
          show (if sumW z o rs < m then _ else _) = _
          rw [if_neg (fun h => c (decide_eq_true h))]
    · obtain ⟨y5, y6, v3, v4, rfl, hst, sm⟩ := hP
      rw [List.length_map, hbl, List.take_length] at hst
      have hne : allK n n ≠ [] := List.ne_nil_of_mem (ord_all (n := n) (r := rg n) (List.Perm.refl _))
      rcases hst with ⟨_, _, ea⟩ | ⟨m, g, xs, rfl, rfl, ea, hg, ng⟩
      · exact absurd (amin_none ea) hne
      · refine ⟨_, rfl, _, rfl, line_small (by show 2 ≤ 16777216; decide), fun p np => ?_⟩
        have sp := same_new (o := .tup [.int m, .ref g]) np
        exact q p g m xs _ ((s1.trans sm).free np) ng upd_same (sp _ _ hg) ea ((s1.trans sm).trans sp)
theorem scMid : FnScope ["way", "poll", "n"] ["way", "poll"] (defScope s_middle_of) := ⟨rfl, rfl, rfl, by decide +kernel, rfl, by decide +kernel, by decide +kernel⟩
set_option maxHeartbeats 2000000 in
theorem ok_mid {f f1 f2 f3 f4 f5 f6 : Addr} {fd d1 d2 d3 d4 d5 d6 : FuncData} {k : Nat} {t1 t2 : Tok} (T : Df K mg "middle_of" s_middle_of ["way", "poll"] f fd) (T_check_poll : Df K mg "check_poll" s_check_poll ["thing"] f1 d1) (T_check_way : Df K mg "check_way" s_check_way ["thing"] f2 d2) (T_check_few : Df K mg "check_few" s_check_few ["n", "most"] f3 d3) (T_middle_by_pairs : Df K mg "middle_by_pairs" s_middle_by_pairs ["ahead"] f4 d4) (T_counts_ahead : Df K mg "counts_ahead" s_counts_ahead ["poll"] f5 d5) (T_middle_by_all : Df K mg "middle_by_all" s_middle_by_all ["way", "poll", "n"] f6 d6)
    (G_check_poll : FnOk P w K mg base CX0 k f1 d1 ["thing"] spCPoll) (G_check_way : FnOk P w K mg base CX0 k f2 d2 ["thing"] spWay) (G_check_few : FnOk P w K mg base CX0 k f3 d3 ["n", "most"] spFew) (G_middle_by_pairs : FnOk P w K mg base CX0 k f4 d4 ["ahead"] spMPairs) (G_counts_ahead : FnOk P w K mg base CX0 k f5 d5 ["poll"] spAhead) (G_middle_by_all : FnOk P w K mg base CX0 k f6 d6 ["way", "poll", "n"] spMAll) (B : Bi mg) (mB : mg "MOST_BY_PAIRS" = some (.int 9 t1)) (mL : mg "MOST_LISTED" = some (.int 6 t2)) : FnOk P w K mg base CX0 (k + 1) f fd ["way", "poll"] spMid := by
  refine T.F.ok scMid (fun vs H Q E h => ?_) (fun cdv A outer s H vs Q E hr h => ?_)
  · obtain ⟨z, l, as, rs, n, rfl, _⟩ := h
    rfl
  · obtain ⟨z, l, as, rs, n, rfl, hz, hO, h1, h2, hn, q⟩ := h
    have hal := hO.ll.len
    refine ⟨_, 
      (pss_cons (ps_expr (pe_call G_check_poll hr (by rfl) T_check_poll.g T_check_poll.F.kp T_check_poll.b .nil pass0 (pa_cons (pv 1) pa_nil)))
      (pss_cons (ps_expr (pe_call G_check_way hr (by rfl) T_check_way.g T_check_way.F.kp T_check_way.b .nil pass0 (pa_cons (pv 0) pa_nil)))
      (pss_cons (ps_set (i := 2) scMid.nd rfl (.inl rfl) (pe_callB call_len_seq (by rfl) B.len PySem.boot_len (pa_cons (pe_ix ix_list (pv 1) pe_int (fun _ _ => rfl)) pa_nil)))
      (pss_cons (ps_if (pt_cmpR op_eq (pv 0) pe_str (nomark _))
        (pss_cons (ps_expr (pe_call G_check_few hr (by rfl) T_check_few.g T_check_few.F.kp T_check_few.b .nil pass0 (pa_cons (pv 2) (pa_cons (pe_glob (v := .int 9) (by rfl) mB ⟨_, rfl⟩) pa_nil))))
        (pss_one (ps_ret (pe_call G_middle_by_pairs hr (by rfl) T_middle_by_pairs.g T_middle_by_pairs.F.kp T_middle_by_pairs.b .nil pass0 (pa_cons (pe_call G_counts_ahead hr (by rfl) T_counts_ahead.g T_counts_ahead.F.kp T_counts_ahead.b .nil pass0 (pa_cons (pv 1) pa_nil)) pa_nil)))))
        pss_nil)
      (pss_cons (ps_expr (pe_call G_check_few hr (by rfl) T_check_few.g T_check_few.F.kp T_check_few.b .nil pass0 (pa_cons (pv 2) (pa_cons (pe_glob (v := .int 6) (by rfl) mL ⟨_, rfl⟩) pa_nil))))
      (pss_one (ps_ret (pe_call G_middle_by_all hr (by rfl) T_middle_by_all.g T_middle_by_all.F.kp T_middle_by_all.b .nil pass0 (pa_cons (pv 0) (pa_cons (pv 1) (pa_cons (pv 2) pa_nil))))))))))), ?_⟩
    refine ⟨_, rfl, l, as, rs, n, rfl, hO, h1, h2, fun H1 s1 => ?_⟩
    have hO1 := hO.same s1
    refine ⟨_, rfl, z, rfl, hz, ?_⟩
    obtain ⟨a0, ea0⟩ : ∃ a0, as[0]? = some a0 := ⟨as[0]'(by omega), List.getElem?_eq_getElem (by omega)⟩
    obtain ⟨r0, er0, ha0⟩ := hO1.ll.get ea0
    have lr0 : (r0.map V.int).length = n := by rw [List.length_map]; exact (hO.ord r0 (List.mem_of_getElem? er0)).len
    refine ⟨_, rfl, l, _, 0, _, rfl, rfl, SqL.of hO1.top, at_of (j := 0) rfl (ref_at ea0), a0, _, rfl, .inl (SqL.of ha0), ?_⟩
    rw [lr0]
    refine ⟨_, rfl, rfl, _, rfl, ite2 (fun c => ?_) (fun c => ?_)⟩
    · have ez : z = "swap" := V.str.inj (of_decide_eq_true c)
      subst ez
      have hn9 : n ≤ 9 := by omega
      refine ⟨_, rfl, (n : Int), 9, rfl, by omega, ?_⟩
      refine ⟨_, rfl, l, as, rs, n, rfl, hO1, h1, by omega, fun l' as' H2 nl' hl' hLL' s2 => ?_⟩
      refine ⟨l', as', n, rs, rfl, ⟨hl', hLL', hO.n1, hn9⟩, fun p g m xs H3 np ng hp hg ha s3 => ?_⟩
      have s12 := s1.trans s2
      refine q p g m xs H3 (s12.free np) (s12.free ng) hp hg ?_ (s12.trans s3)
      rw [← ha]
      apply amin_congr
      intro o _
      unfold midF
      rw [if_pos rfl]
    · have nz : z ≠ "swap" := fun e => c (decide_eq_true (by rw [e]))
      have hn6 : n ≤ 6 := by
        rcases hn with h | h
        · exact h
        · exact absurd h.1 nz
      refine ⟨_, rfl, (n : Int), 6, rfl, by omega, ?_⟩
      refine ⟨_, rfl, _, rfl, _, rfl, z, l, as, rs, n, rfl, hz, hO1, by omega, hn6, fun p g m xs H3 np ng hp hg ha s3 => ?_⟩
      refine q p g m xs H3 (s1.free np) (s1.free ng) hp hg ?_ (s1.trans s3)
      rw [← ha]
      apply amin_congr
      intro o _
      unfold midF
      rw [if_neg nz]
end
end Fo
namespace Fo
open PySem PySem.Spec PyProof.Rows L2
/-! ### turned pairs, one after the other -/
def invR : List Int → Nat
  | [] => 0
  | x :: r => (r.filter (fun z => decide (z < x))).length + invR r
theorem rg_cons (n : Nat) : rg (n + 1) = 0 :: (rg n).map (· + 1) := by
  unfold rg
  rw [List.range_succ_eq_map, List.map_cons, List.map_map, List.map_map]
  rfl
theorem inv_NR : ∀ s : List Int, invN s = invR s
  | [] => rfl
  | x :: r => by
    have ih := inv_NR r
    unfold invN at ih ⊢
    rw [List.length_cons, rg_cons, sumN_cons, sumN_map]
    show cntL (x :: r) (0 : Int).toNat + _ = (r.filter (fun z => decide (z < x))).length + invR r
    rw [← ih]
    have e1 : cntL (x :: r) (0 : Int).toNat = (r.filter (fun z => decide (z < x))).length := rfl
    rw [e1]
    congr 1
    apply sumN_congr
    intro i hi
    have hb := rg_mem.mp hi
    obtain ⟨j, rfl⟩ : ∃ j : Nat, i = (j : Int) := ⟨i.toNat, by omega⟩
    rw [show ((j : Int) + 1).toNat = j + 1 by omega, Int.toNat_natCast]
    unfold cntL
    have e2 : g0 (x :: r) ((j + 1 : Nat) : Int) = g0 r (j : Int) := by
      unfold g0
      rw [Int.toNat_natCast, Int.toNat_natCast]
      rfl
    rw [e2]
    rfl
theorem filt_perm {a b : List Int} (h : a.Perm b) (p : Int → Bool) : (a.filter p).length = (b.filter p).length := (h.filter p).length_eq
theorem invR_at : ∀ (A : List Int) (a b : Int) (B : List Int), b < a → invR (A ++ a :: b :: B) = invR (A ++ b :: a :: B) + 1
  | [], a, b, B, h => by
    show ((b :: B).filter (fun z => decide (z < a))).length + ((B.filter (fun z => decide (z < b))).length + invR B) = ((a :: B).filter (fun z => decide (z < b))).length + ((B.filter (fun z => decide (z < a))).length + invR B) + 1
    rw [List.filter_cons, List.filter_cons, decide_eq_true h, decide_eq_false (show ¬ a < b by omega), if_pos rfl, if_neg (by decide), List.length_cons]
    omega
  | x :: A, a, b, B, h => by
    have ih := invR_at A a b B h
    show ((A ++ a :: b :: B).filter (fun z => decide (z < x))).length + invR (A ++ a :: b :: B) = ((A ++ b :: a :: B).filter (fun z => decide (z < x))).length + invR (A ++ b :: a :: B) + 1
    rw [ih, filt_perm (List.Perm.append_left A (List.Perm.swap b a B))]
    omega
theorem invR_sw {s : List Int} {p : Nat} {a b : Int} (ha : s[p]? = some a) (hb : s[p + 1]? = some b) (h : b < a) : invR s = invR (sw s p) + 1 := by
  have hl := (List.getElem?_eq_some_iff.mp hb).1
  obtain ⟨A, x, y, B, rfl, rfl⟩ := split2 hl
  have ex : x = a := by
    rw [List.getElem?_append_right (Nat.le_refl _), Nat.sub_self] at ha
    exact Option.some.inj ha
  have ey : y = b := by
    rw [List.getElem?_append_right (by omega), show A.length + 1 - A.length = 1 by omega] at hb
    exact Option.some.inj hb
  subst ex ey
  rw [sw_at, invR_at A x y B h]
def firstDesc : List Int → Option Nat
  | [] => none
  | [_] => none
  | x :: y :: r => if y < x then some 0 else (firstDesc (y :: r)).map (· + 1)
theorem fd_cons (x y : Int) (r : List Int) : firstDesc (x :: y :: r) = if y < x then some 0 else (firstDesc (y :: r)).map (· + 1) := by rw [firstDesc]
theorem fd_some : ∀ {s : List Int} {p : Nat} {a b : Int}, (∀ (j : Nat) (u v : Int), j < p → s[j]? = some u → s[j + 1]? = some v → u ≤ v) → s[p]? = some a → s[p + 1]? = some b → b < a → firstDesc s = some p
  | [], p, a, b, _, ha, _, _ => by simp at ha
  | [_], p, a, b, _, _, hb, _ => by simp at hb
  | x :: y :: r, 0, a, b, _, ha, hb, h => by
    have e1 : x = a := Option.some.inj ha
    have e2 : y = b := Option.some.inj hb
    rw [fd_cons, if_pos (by omega)]
  | x :: y :: r, p + 1, a, b, hl, ha, hb, h => by
    have h0 : x ≤ y := hl 0 x y (by omega) rfl rfl
    have ih := fd_some (s := y :: r) (p := p) (a := a) (b := b) (fun j u v hj hu hv => hl (j + 1) u v (by omega) hu hv) ha hb h
    rw [fd_cons, if_neg (by omega), ih]
    rfl
theorem fd_none : ∀ {s : List Int}, (∀ (j : Nat) (u v : Int), s[j]? = some u → s[j + 1]? = some v → u ≤ v) → firstDesc s = none
  | [], _ => rfl
  | [_], _ => rfl
  | x :: y :: r, hl => by
    have h0 : x ≤ y := hl 0 x y rfl rfl
    have ih := fd_none (s := y :: r) (fun j u v hu hv => hl (j + 1) u v hu hv)
    rw [fd_cons, if_neg (by omega), ih]
    rfl
theorem fd_at : ∀ {s : List Int} {p : Nat}, firstDesc s = some p → ∃ a b, s[p]? = some a ∧ s[p + 1]? = some b ∧ b < a ∧ ∀ (j : Nat) (u v : Int), j < p → s[j]? = some u → s[j + 1]? = some v → u ≤ v
  | [], p, h => by cases h
  | [_], p, h => by cases h
  | x :: y :: r, p, h => by
    rw [fd_cons] at h
    by_cases c : y < x
    · rw [if_pos c] at h
      cases h
      exact ⟨x, y, rfl, rfl, c, fun j u v hj => absurd hj (Nat.not_lt_zero _)⟩
    · rw [if_neg c] at h
      cases e : firstDesc (y :: r) with
      | none => rw [e] at h; cases h
      | some q =>
        rw [e] at h
        have ep : q + 1 = p := Option.some.inj h
        subst ep
        obtain ⟨a, b, ha, hb, hlt, hl⟩ := fd_at e
        refine ⟨a, b, ha, hb, hlt, fun j u v hj hu hv => ?_⟩
        cases j with
        | zero =>
          have e1 : x = u := Option.some.inj hu
          have e2 : y = v := Option.some.inj hv
          omega
        | succ j => exact hl j u v (by omega) hu hv
theorem fd_sorted : ∀ {s : List Int}, firstDesc s = none → s.Pairwise (· ≤ ·)
  | [], _ => List.Pairwise.nil
  | [_], _ => List.pairwise_singleton _ _
  | x :: y :: r, h => by
    rw [fd_cons] at h
    by_cases c : y < x
    · rw [if_pos c] at h; cases h
    · rw [if_neg c] at h
      have e : firstDesc (y :: r) = none := by
        cases e : firstDesc (y :: r) with
        | none => rfl
        | some q => rw [e] at h; cases h
      have ih := fd_sorted e
      refine List.Pairwise.cons (fun z hz => ?_) ih
      rcases List.mem_cons.mp hz with rfl | hz
      · omega
      · have := (List.pairwise_cons.mp ih).1 z hz
        omega
theorem invR_sorted : ∀ {s : List Int}, s.Pairwise (· ≤ ·) → invR s = 0
  | [], _ => rfl
  | x :: r, h => by
    obtain ⟨h1, h2⟩ := List.pairwise_cons.mp h
    show (r.filter (fun z => decide (z < x))).length + invR r = 0
    rw [invR_sorted h2, List.filter_eq_nil_iff.mpr (fun z hz => by
      have := h1 z hz
      simp
      omega)]
    rfl
theorem fd_pos {s : List Int} (h : 0 < invR s) : ∃ p, firstDesc s = some p := by
  cases e : firstDesc s with
  | none => rw [invR_sorted (fd_sorted e)] at h; omega
  | some p => exact ⟨p, rfl⟩
/-- the first of the shortest walks, of at most m places -/
def gw : Nat → List Int → List Int
  | 0, _ => []
  | m + 1, s => match firstDesc s with
    | none => []
    | some p => (p : Int) :: gw m (sw s p)
abbrev walkL (s : List Int) : List Int := gw (invR s) s
theorem walk_none {s : List Int} (h : firstDesc s = none) : walkL s = [] := by
  unfold walkL
  rw [invR_sorted (fd_sorted h)]
  rfl
theorem walk_some {s : List Int} {p : Nat} (h : firstDesc s = some p) : walkL s = (p : Int) :: walkL (sw s p) := by
  obtain ⟨a, b, ha, hb, hlt, _⟩ := fd_at h
  unfold walkL
  rw [invR_sw ha hb hlt, gw, h]
theorem walk_len : ∀ (m : Nat) (s : List Int), invR s = m → (walkL s).length = m
  | 0, s, h => by
    unfold walkL
    rw [h]
    rfl
  | m + 1, s, h => by
    obtain ⟨p, hp⟩ := fd_pos (s := s) (by omega)
    obtain ⟨a, b, ha, hb, hlt, _⟩ := fd_at hp
    rw [walk_some hp, List.length_cons, walk_len m (sw s p) (by have := invR_sw ha hb hlt; omega)]
theorem invR_len (s : List Int) : invR s ≤ s.length * s.length := by
  induction s with
  | nil => exact Nat.le_refl _
  | cons x r ih =>
    show (r.filter _).length + invR r ≤ (r.length + 1) * (r.length + 1)
    have h1 : (r.filter (fun z => decide (z < x))).length ≤ r.length := List.length_filter_le _ _
    have h2 : (r.length + 1) * (r.length + 1) = r.length * r.length + r.length + r.length + 1 := by
      rw [Nat.add_mul, Nat.mul_add]
      omega
    omega
theorem seats_sw {xs ys : List Int} {p : Nat} (h : p + 1 < xs.length) : seatsL (sw xs p) ys = sw (seatsL xs ys) p := by
  obtain ⟨A, a, b, B, rfl, rfl⟩ := split2 h
  rw [sw_at]
  unfold seatsL
  rw [List.map_append, List.map_cons, List.map_cons, List.map_append, List.map_cons, List.map_cons]
  have e := sw_at (A.map (pos ys)) (pos ys a) (pos ys b) (B.map (pos ys))
  rw [List.length_map] at e
  exact e.symm
theorem cut_sw {xs : List Int} {p : Nat} {a b : Int} (ha : xs[p]? = some a) (hb : xs[p + 1]? = some b) : xs.take p ++ [b, a] ++ xs.drop (p + 2) = sw xs p := by
  have hl := (List.getElem?_eq_some_iff.mp hb).1
  obtain ⟨A, x, y, B, rfl, rfl⟩ := split2 hl
  have ex : x = a := by
    rw [List.getElem?_append_right (Nat.le_refl _), Nat.sub_self] at ha
    exact Option.some.inj ha
  have ey : y = b := by
    rw [List.getElem?_append_right (by omega), show A.length + 1 - A.length = 1 by omega] at hb
    exact Option.some.inj hb
  subst ex ey
  rw [sw_at, List.take_left, List.drop_append, List.drop_of_length_le (by omega), show A.length + 2 - A.length = 2 by omega]
  simp
theorem filt_map (l : List Int) (f : Int → Int) (p : Int → Bool) : ((l.map f).filter p).length = (l.filter (fun x => p (f x))).length := by
  rw [List.filter_map, List.length_map]
  rfl
end Fo
namespace Fo
open PySem PySem.Spec PyProof.Rows L2
/-! ### how far, by things -/
theorem sumN_le {l : List Int} {f g : Int → Nat} (h : ∀ x ∈ l, f x ≤ g x) : sumN l f ≤ sumN l g := by
  induction l with
  | nil => exact Nat.le_refl _
  | cons a l ih =>
    rw [sumN_cons, sumN_cons]
    have h1 := h a List.mem_cons_self
    have h2 := ih fun x hx => h x (List.mem_cons_of_mem _ hx)
    omega
theorem sumN_one {l : List Int} {f : Int → Nat} {x : Int} (h : x ∈ l) : f x ≤ sumN l f := by
  induction l with
  | nil => exact absurd h List.not_mem_nil
  | cons a l ih =>
    rw [sumN_cons]
    rcases List.mem_cons.mp h with rfl | h
    · omega
    · have := ih h
      omega
theorem ind_le {a : Bool} {n : Nat} (h : a = true → 1 ≤ n) : ind a ≤ n := by
  unfold ind
  cases a
  · exact Nat.zero_le _
  · exact h rfl
theorem ind_true {a : Bool} (h : a = true) : ind a = 1 := by rw [h]; rfl
theorem g0_seats {n : Nat} {xs ys : List Int} (o : IsOrd n xs) {p : Int} (h : p ∈ rg n) : g0 (seatsL xs ys) p = pos ys (g0 xs p) := by
  have h1 := rg_mem.mp h
  obtain ⟨x, hx, _⟩ := ord_ix o (j := p.toNat) (by omega)
  have e := g0_at hx
  have e2 := g0_at (seats_at (ys := ys) hx)
  rw [Int.toNat_of_nonneg h1.1] at e e2
  rw [e, e2]
def dT (xs ys : List Int) (t u : Int) : Nat := ind (decide (pos xs t < pos xs u) && decide (pos ys u < pos ys t))
def swT (n : Nat) (xs ys : List Int) : Nat := sumN (rg n) fun t => sumN (rg n) fun u => dT xs ys t u
def spT (n : Nat) (xs ys : List Int) : Nat := sumN (rg n) fun t => ind (!decide (pos xs t = pos ys t))
def shL (n : Nat) (xs ys : List Int) : List Int := (rg n).map fun t => absI (pos xs t - pos ys t)
theorem swap_T {n : Nat} {xs ys : List Int} (ox : IsOrd n xs) (oy : IsOrd n ys) : farSwap xs ys = ((swT n xs ys : Nat) : Int) := by
  unfold farSwap
  rw [inv_eq, seats_len, ox.len]
  unfold invF swT
  congr 1
  rw [sum_pos ox]
  apply sumN_congr
  intro t ht
  rw [sum_pos ox]
  apply sumN_congr
  intro u hu
  unfold dT
  rw [g0_seats ox (pos_in ox ht), g0_seats ox (pos_in ox hu), g0_pos ox ht, g0_pos ox hu]
theorem spot_T {n : Nat} {xs ys : List Int} (ox : IsOrd n xs) (oy : IsOrd n ys) : farSpot xs ys = ((spT n xs ys : Nat) : Int) := by
  unfold farSpot spotL spT
  rw [filter_len, ox.len]
  congr 1
  rw [sum_g0 ox (fun t => ind (!decide (pos xs t = pos ys t)))]
  apply sumN_congr
  intro p hp
  rw [pos_g0 ox hp]
  by_cases c : g0 xs p = g0 ys p
  · rw [decide_eq_true c, c, pos_g0 oy hp, decide_eq_true rfl]
  · have d : ¬ (p = pos ys (g0 xs p)) := fun e => c (by
      have := g0_pos oy (g0_in ox hp)
      rw [← e] at this
      exact this.symm)
    rw [decide_eq_false c, decide_eq_false d]
theorem shift_mem {n : Nat} {xs ys : List Int} (ox : IsOrd n xs) : ∀ g, g ∈ gapsL xs ys ↔ g ∈ shL n xs ys := by
  intro g
  unfold gapsL shL
  rw [ox.len, List.mem_map, List.mem_map]
  constructor
  · rintro ⟨p, hp, rfl⟩
    exact ⟨g0 xs p, g0_in ox hp, by rw [pos_g0 ox hp, g0_seats ox hp]⟩
  · rintro ⟨t, ht, rfl⟩
    exact ⟨pos xs t, pos_in ox ht, by rw [g0_seats ox (pos_in ox ht), g0_pos ox ht]⟩
theorem shift_T {n : Nat} {xs ys : List Int} (ox : IsOrd n xs) (hn : 1 ≤ n) : (∃ t ∈ rg n, farShift xs ys = absI (pos xs t - pos ys t)) ∧ ∀ t ∈ rg n, absI (pos xs t - pos ys t) ≤ farShift xs ys := by
  obtain ⟨h1, h2⟩ := maxL_mem (gaps_nonneg xs ys) (by rw [gaps_len, ox.len]; exact hn)
  constructor
  · obtain ⟨t, ht, e⟩ := List.mem_map.mp ((shift_mem ox _).mp h1)
    exact ⟨t, ht, e.symm⟩
  · intro t ht
    exact h2 _ ((shift_mem ox _).mpr (List.mem_map.mpr ⟨t, ht, rfl⟩))
theorem shift_of {n : Nat} {xs ys : List Int} {m : Int} (ox : IsOrd n xs) (h : ∃ t ∈ rg n, m = absI (pos xs t - pos ys t)) (hle : ∀ t ∈ rg n, absI (pos xs t - pos ys t) ≤ m) : farShift xs ys = m := by
  obtain ⟨t, ht, e⟩ := h
  refine maxL_of (gaps_nonneg xs ys) ((shift_mem ox _).mpr (List.mem_map.mpr ⟨t, ht, e.symm⟩)) fun x hx => ?_
  obtain ⟨u, hu, rfl⟩ := List.mem_map.mp ((shift_mem ox _).mp hx)
  exact hle u hu
/-! ### alike just where 0 -/
theorem invR_zero : ∀ {s : List Int}, invR s = 0 → s.Pairwise (· ≤ ·)
  | [], _ => List.Pairwise.nil
  | x :: r, h => by
    have h' : (r.filter (fun z => decide (z < x))).length + invR r = 0 := h
    refine List.Pairwise.cons (fun z hz => ?_) (invR_zero (by omega))
    have e : r.filter (fun z => decide (z < x)) = [] := List.eq_nil_of_length_eq_zero (by omega)
    have := List.filter_eq_nil_iff.mp e z hz
    simp at this
    exact this
theorem same_of_pos {n : Nat} {xs ys : List Int} (ox : IsOrd n xs) (oy : IsOrd n ys) (h : ∀ p ∈ rg n, pos ys (g0 xs p) = p) : xs = ys := by
  rw [g0_ord ox, g0_ord oy]
  apply List.map_congr_left
  intro p hp
  have e := g0_pos oy (g0_in ox hp)
  rw [h p hp] at e
  exact e.symm
theorem farW_zero {w : Str} {n : Nat} {xs ys : List Int} (hw : IsWay w) (ox : IsOrd n xs) (oy : IsOrd n ys) (hn : 1 ≤ n) (h : farW w xs ys = 0) : xs = ys := by
  rcases hw with rfl | rfl | rfl
  · rw [farW_swap] at h
    unfold farSwap at h
    rw [inv_NR] at h
    have hs := invR_zero (s := seatsL xs ys) (by omega)
    have e := sorted_eq (seats_ord ox oy) hs (rg_sorted n)
    refine same_of_pos ox oy fun p hp => ?_
    rw [← g0_seats ox hp, e]
    have h1 := rg_mem.mp hp
    have z : (rg n)[p.toNat]? = some p := by
      unfold rg
      rw [List.getElem?_map, List.getElem?_range (by omega)]
      show some ((p.toNat : Nat) : Int) = some p
      rw [Int.toNat_of_nonneg h1.1]
    have z2 := g0_at z
    rw [Int.toNat_of_nonneg h1.1] at z2
    exact z2
  · rw [farW_spot] at h
    unfold farSpot spotL at h
    have e : ((rg xs.length).filter fun p => !decide (g0 xs p = g0 ys p)) = [] := List.eq_nil_of_length_eq_zero (by omega)
    rw [g0_ord ox, g0_ord oy]
    apply List.map_congr_left
    intro p hp
    have := List.filter_eq_nil_iff.mp e p (by rw [ox.len]; exact hp)
    simpa using this
  · rw [farW_shift] at h
    have h2 := (shift_T (ys := ys) ox hn).2
    rw [h] at h2
    refine same_of_pos ox oy fun p hp => ?_
    have := h2 _ (g0_in ox hp)
    rw [pos_g0 ox hp] at this
    unfold absI at this
    split at this <;> omega
/-! ### by a third one never shorter -/
theorem farW_third {w : Str} {n : Nat} {xs ys zs : List Int} (hw : IsWay w) (ox : IsOrd n xs) (oy : IsOrd n ys) (oz : IsOrd n zs) (hn : 1 ≤ n) : farW w xs ys ≤ farW w xs zs + farW w zs ys := by
  rcases hw with rfl | rfl | rfl
  · rw [farW_swap, farW_swap, farW_swap, swap_T ox oy, swap_T ox oz, swap_T oz oy]
    have : swT n xs ys ≤ swT n xs zs + swT n zs ys := by
      unfold swT
      rw [← sumN_add]
      apply sumN_le
      intro t ht
      rw [← sumN_add]
      apply sumN_le
      intro u hu
      unfold dT
      apply ind_le
      intro h
      rw [Bool.and_eq_true] at h
      have h1 := of_decide_eq_true h.1
      have h2 := of_decide_eq_true h.2
      by_cases c : pos zs u < pos zs t
      · rw [ind_true (by rw [decide_eq_true h1, decide_eq_true c]; rfl)]
        omega
      · have ne : pos zs t ≠ pos zs u := fun e => by
          have := pos_inj oz ht hu e
          subst this
          omega
        rw [ind_true (a := decide (pos zs t < pos zs u) && decide (pos ys u < pos ys t)) (by rw [decide_eq_true (show pos zs t < pos zs u by omega), decide_eq_true h2]; rfl)]
        omega
    omega
  · rw [farW_spot, farW_spot, farW_spot, spot_T ox oy, spot_T ox oz, spot_T oz oy]
    have : spT n xs ys ≤ spT n xs zs + spT n zs ys := by
      unfold spT
      rw [← sumN_add]
      apply sumN_le
      intro t _
      apply ind_le
      intro h
      by_cases c : pos xs t = pos zs t
      · have d : ¬ (pos zs t = pos ys t) := fun e => by
          rw [c, e] at h
          simp at h
        rw [ind_true (a := !decide (pos zs t = pos ys t)) (by rw [decide_eq_false d]; rfl)]
        omega
      · rw [ind_true (a := !decide (pos xs t = pos zs t)) (by rw [decide_eq_false c]; rfl)]
        omega
    omega
  · rw [farW_shift, farW_shift, farW_shift]
    obtain ⟨t, ht, e⟩ := (shift_T (ys := ys) ox hn).1
    have h1 := (shift_T (ys := zs) ox hn).2 t ht
    have h2 := (shift_T (ys := ys) oz hn).2 t ht
    rw [e]
    unfold absI at h1 h2 ⊢
    split at h1 <;> split at h2 <;> split <;> omega
/-! ### called otherwise, and from behind -/
/-- two pairs of orders whose things stand alike -/
theorem farW_called {w : Str} {n : Nat} {xs ys xs' ys' : List Int} {r : Int → Int} (hw : IsWay w) (ox : IsOrd n xs) (oy : IsOrd n ys) (ox' : IsOrd n xs') (oy' : IsOrd n ys') (hn : 1 ≤ n) (hr : IsOrd n ((rg n).map r)) (h1 : ∀ t ∈ rg n, pos xs' (r t) = pos xs t) (h2 : ∀ t ∈ rg n, pos ys' (r t) = pos ys t) : farW w xs' ys' = farW w xs ys := by
  have sr : ∀ f : Int → Nat, sumN (rg n) f = sumN (rg n) fun t => f (r t) := fun f => by
    have e : sumN ((rg n).map r) f = sumN (rg n) fun t => f (r t) := sumN_map _ _ _
    rw [← e]
    exact (sumN_perm hr f).symm
  have rin : ∀ t ∈ rg n, r t ∈ rg n := fun t ht => rg_mem.mpr (hr.mem (List.mem_map.mpr ⟨t, ht, rfl⟩))
  have ron : ∀ t' ∈ rg n, ∃ t ∈ rg n, r t = t' := fun t' ht' => List.mem_map.mp ((List.Perm.mem_iff hr).mpr ht')
  rcases hw with rfl | rfl | rfl
  · rw [farW_swap, farW_swap, swap_T ox' oy', swap_T ox oy]
    congr 1
    unfold swT
    rw [sr]
    apply sumN_congr
    intro t ht
    rw [sr]
    apply sumN_congr
    intro u hu
    unfold dT
    rw [h1 t ht, h1 u hu, h2 t ht, h2 u hu]
  · rw [farW_spot, farW_spot, spot_T ox' oy', spot_T ox oy]
    congr 1
    unfold spT
    rw [sr]
    apply sumN_congr
    intro t ht
    rw [h1 t ht, h2 t ht]
  · rw [farW_shift, farW_shift]
    obtain ⟨⟨t, ht, e⟩, hle⟩ := shift_T (ys := ys) ox hn
    refine shift_of ox' ⟨r t, rin t ht, by rw [h1 t ht, h2 t ht]; exact e⟩ fun t' ht' => ?_
    obtain ⟨u, hu, rfl⟩ := ron t' ht'
    rw [h1 u hu, h2 u hu]
    exact hle u hu
theorem behind_ord {n : Nat} {ns ms : List Int} (o1 : IsOrd n ns) (o2 : IsOrd n ms) : IsOrd n (behindL ns ms) := by
  have h : (behindL ns ms).Perm ((rg n).map (g0 ns)) := List.Perm.map _ o2
  rw [← g0_ord o1] at h
  exact h.trans o1
theorem behind_pos {n : Nat} {zs xs : List Int} (oz : IsOrd n zs) (ox : IsOrd n xs) : ∀ t ∈ rg n, pos (behindL zs xs) (g0 zs t) = pos xs t := by
  intro t ht
  have h1 := rg_mem.mp ht
  obtain ⟨j, _, ej, pj⟩ := pos_at ox h1.1 h1.2
  obtain ⟨z, hz, _⟩ := ord_ix oz (j := t.toNat) (by omega)
  have e := g0_at hz
  rw [Int.toNat_of_nonneg h1.1] at e
  rw [e, pj]
  exact pos_of (behind_ord oz ox) (behind_at ej hz)
theorem rev_pos {n : Nat} {xs : List Int} (ox : IsOrd n xs) : ∀ t ∈ rg n, pos xs.reverse t = (n : Int) - 1 - pos xs t := by
  intro t ht
  have h1 := rg_mem.mp ht
  obtain ⟨j, hj, ej, pj⟩ := pos_at ox h1.1 h1.2
  have hl := ox.len
  have er : xs.reverse[n - 1 - j]? = some t := by
    rw [List.getElem?_reverse (by omega), hl, show n - 1 - (n - 1 - j) = j by omega]
    exact ej
  rw [pj, pos_of (n := n) ((List.reverse_perm xs).trans ox) er]
  omega
theorem farW_rev {w : Str} {n : Nat} {xs ys : List Int} (hw : IsWay w) (ox : IsOrd n xs) (oy : IsOrd n ys) (hn : 1 ≤ n) : farW w xs.reverse ys.reverse = farW w xs ys := by
  have ox' : IsOrd n xs.reverse := (List.reverse_perm xs).trans ox
  have oy' : IsOrd n ys.reverse := (List.reverse_perm ys).trans oy
  rcases hw with rfl | rfl | rfl
  · rw [farW_swap, farW_swap, swap_T ox' oy', swap_T ox oy]
    congr 1
    unfold swT
    rw [sumN_swap]
    apply sumN_congr
    intro t ht
    apply sumN_congr
    intro u hu
    unfold dT
    rw [rev_pos ox u hu, rev_pos ox t ht, rev_pos oy u hu, rev_pos oy t ht]
    congr 1
    congr 1
    · by_cases c : pos xs t < pos xs u
      · rw [decide_eq_true c, decide_eq_true (by omega)]
      · rw [decide_eq_false c, decide_eq_false (by omega)]
    · by_cases c : pos ys u < pos ys t
      · rw [decide_eq_true c, decide_eq_true (by omega)]
      · rw [decide_eq_false c, decide_eq_false (by omega)]
  · rw [farW_spot, farW_spot, spot_T ox' oy', spot_T ox oy]
    congr 1
    unfold spT
    apply sumN_congr
    intro t ht
    rw [rev_pos ox t ht, rev_pos oy t ht]
    by_cases c : pos xs t = pos ys t
    · rw [decide_eq_true c, decide_eq_true (by omega)]
    · rw [decide_eq_false c, decide_eq_false (by omega)]
  · rw [farW_shift, farW_shift]
    have ea : ∀ t ∈ rg n, absI (pos xs.reverse t - pos ys.reverse t) = absI (pos xs t - pos ys t) := fun t ht => by
      rw [rev_pos ox t ht, rev_pos oy t ht]
      unfold absI
      split <;> split <;> omega
    obtain ⟨⟨t, ht, e⟩, hle⟩ := shift_T (ys := ys) ox hn
    exact shift_of ox' ⟨t, ht, by rw [ea t ht]; exact e⟩ fun u hu => by rw [ea u hu]; exact hle u hu
/-! ### how far at most -/
theorem invR_two (s : List Int) : 2 * invR s + s.length ≤ s.length * s.length := by
  induction s with
  | nil => exact Nat.le_refl _
  | cons x r ih =>
    show 2 * ((r.filter _).length + invR r) + (r.length + 1) ≤ (r.length + 1) * (r.length + 1)
    have h1 : (r.filter (fun z => decide (z < x))).length ≤ r.length := List.length_filter_le _ _
    have h2 : (r.length + 1) * (r.length + 1) = r.length * r.length + r.length + r.length + 1 := by
      rw [Nat.add_mul, Nat.mul_add]
      omega
    omega
theorem swap_most {n : Nat} {xs ys : List Int} (ox : IsOrd n xs) : 2 * farSwap xs ys ≤ (n : Int) * ((n : Int) - 1) := by
  unfold farSwap
  rw [inv_NR]
  have h := invR_two (seatsL xs ys)
  rw [seats_len, ox.len] at h
  have e : (n : Int) * ((n : Int) - 1) = ((n * n : Nat) : Int) - (n : Int) := by
    rw [Int.mul_sub, Int.mul_one, Int.natCast_mul]
  rw [e]
  omega
theorem spot_most {n : Nat} {xs ys : List Int} (ox : IsOrd n xs) : farSpot xs ys ≤ n := by
  unfold farSpot spotL
  rw [ox.len]
  have h := List.length_filter_le (fun p => !decide (g0 xs p = g0 ys p)) (rg n)
  rw [rg_len] at h
  omega
theorem spot_one {n : Nat} {xs ys : List Int} (ox : IsOrd n xs) (oy : IsOrd n ys) : farSpot xs ys ≠ 1 := by
  intro h
  unfold farSpot at h
  obtain ⟨p, hp⟩ := List.length_eq_one_iff.mp (show (spotL xs ys).length = 1 by omega)
  have mem : ∀ q, q ∈ spotL xs ys ↔ q ∈ rg n ∧ g0 xs q ≠ g0 ys q := fun q => by
    unfold spotL
    rw [List.mem_filter, ox.len]
    simp
  have hpm := (mem p).mp (by rw [hp]; exact List.mem_cons_self)
  have hq := pos_in oy (g0_in ox hpm.1)
  have e := g0_pos oy (g0_in ox hpm.1)
  have nq : pos ys (g0 xs p) ≠ p := fun z => hpm.2 (by rw [z] at e; exact e.symm)
  have same : g0 xs (pos ys (g0 xs p)) = g0 ys (pos ys (g0 xs p)) := by
    by_cases c : g0 xs (pos ys (g0 xs p)) = g0 ys (pos ys (g0 xs p))
    · exact c
    · have := (mem _).mpr ⟨hq, c⟩
      rw [hp] at this
      exact absurd (List.mem_singleton.mp this) nq
  rw [e] at same
  have e2 := pos_g0 ox hq
  rw [same, pos_g0 ox hpm.1] at e2
  exact nq e2.symm
theorem shift_most {n : Nat} {xs ys : List Int} (ox : IsOrd n xs) (oy : IsOrd n ys) (hn : 1 ≤ n) : farShift xs ys ≤ (n : Int) - 1 := by
  obtain ⟨t, ht, e⟩ := (shift_T (ys := ys) ox hn).1
  have h1 := rg_mem.mp (pos_in ox ht)
  have h2 := rg_mem.mp (pos_in oy ht)
  rw [e]
  unfold absI
  split <;> omega
theorem below_sum (n : Nat) : ∀ b : Nat, b ≤ n → sumN (rg n) (fun j => ind (decide (j < (b : Int)))) = b := by
  induction n with
  | zero => intro b hb; have : b = 0 := by omega
            subst this; rfl
  | succ n ih =>
    intro b hb
    rw [rg_succ, sumN_append, sumN_cons, sumN_nil]
    by_cases c : b = n + 1
    · subst c
      rw [sumN_congr (g := fun j => ind (decide (j < (n : Int)))) (fun j hj => by
        have := rg_mem.mp hj
        rw [decide_eq_true this.2, decide_eq_true (show j < ((n + 1 : Nat) : Int) by omega)]), ih n (Nat.le_refl _), ind_true (decide_eq_true (by omega))]
    · rw [ih b (by omega), decide_eq_false (show ¬ ((n : Int) < (b : Int)) by omega)]
      rfl
/-- so many others stand the other way round as a thing is shifted -/
theorem turned_most {n : Nat} {xs ys : List Int} (ox : IsOrd n xs) (oy : IsOrd n ys) {t : Int} (ht : t ∈ rg n) : pos ys t - pos xs t ≤ ((sumN (rg n) (fun u => dT xs ys t u) : Nat) : Int) := by
  have h1 := rg_mem.mp (pos_in ox ht)
  have h2 := rg_mem.mp (pos_in oy ht)
  have ea := below_sum n (pos xs t).toNat (by omega)
  have eb := below_sum n (pos ys t).toNat (by omega)
  rw [sum_pos ox] at ea
  rw [sum_pos oy] at eb
  rw [Int.toNat_of_nonneg h1.1] at ea
  rw [Int.toNat_of_nonneg h2.1] at eb
  have : sumN (rg n) (fun u => ind (decide (pos ys u < pos ys t))) ≤ sumN (rg n) (fun u => ind (decide (pos xs u < pos xs t))) + sumN (rg n) (fun u => dT xs ys t u) := by
    rw [← sumN_add]
    apply sumN_le
    intro u hu
    apply ind_le
    intro h
    have hlt := of_decide_eq_true h
    by_cases c : pos xs u < pos xs t
    · rw [ind_true (decide_eq_true c)]
      omega
    · have ne : pos xs t ≠ pos xs u := fun e => by
        have := pos_inj ox ht hu e
        subst this
        omega
      unfold dT
      rw [ind_true (a := decide (pos xs t < pos xs u) && decide (pos ys u < pos ys t)) (by rw [decide_eq_true (show pos xs t < pos xs u by omega), decide_eq_true hlt]; rfl)]
      omega
  omega
theorem dT_turn (xs ys : List Int) (t u : Int) : dT ys xs t u = dT xs ys u t := by
  unfold dT
  rw [Bool.and_comm]
theorem turned_abs {n : Nat} {xs ys : List Int} (ox : IsOrd n xs) (oy : IsOrd n ys) {t : Int} (ht : t ∈ rg n) : absI (pos xs t - pos ys t) ≤ ((sumN (rg n) (fun u => dT xs ys t u) : Nat) : Int) + ((sumN (rg n) (fun u => dT xs ys u t) : Nat) : Int) := by
  have h1 := turned_most ox oy ht
  have h2 := turned_most oy ox ht
  rw [sumN_congr (g := fun u => dT xs ys u t) (fun u _ => dT_turn xs ys t u)] at h2
  unfold absI
  split <;> omega
theorem shift_swap {n : Nat} {xs ys : List Int} (ox : IsOrd n xs) (oy : IsOrd n ys) (hn : 1 ≤ n) : farShift xs ys ≤ farSwap xs ys := by
  obtain ⟨t, ht, e⟩ := (shift_T (ys := ys) ox hn).1
  have h1 := turned_most ox oy ht
  have h2 := turned_most oy ox ht
  have b1 : sumN (rg n) (fun u => dT xs ys t u) ≤ swT n xs ys := sumN_one (f := fun t => sumN (rg n) fun u => dT xs ys t u) ht
  have b2 : sumN (rg n) (fun u => dT ys xs t u) ≤ swT n ys xs := sumN_one (f := fun t => sumN (rg n) fun u => dT ys xs t u) ht
  have e1 := swap_T ox oy
  have e2 := swap_T oy ox
  have e3 := farSwap_turn ox oy
  rw [e]
  unfold absI
  split <;> omega
theorem spot_swap {n : Nat} {xs ys : List Int} (ox : IsOrd n xs) (oy : IsOrd n ys) : farSpot xs ys ≤ 2 * farSwap xs ys := by
  rw [spot_T ox oy, swap_T ox oy]
  have : spT n xs ys ≤ swT n xs ys + swT n xs ys := by
    have e : swT n xs ys = sumN (rg n) fun t => sumN (rg n) fun u => dT xs ys u t := by
      unfold swT
      rw [sumN_swap]
    have e2 : swT n xs ys + swT n xs ys = sumN (rg n) fun t => sumN (rg n) (fun u => dT xs ys t u) + sumN (rg n) (fun u => dT xs ys u t) := by
      rw [sumN_add, ← e]
      rfl
    rw [e2]
    unfold spT
    apply sumN_le
    intro t ht
    apply ind_le
    intro h
    have ha := turned_abs ox oy ht
    have ne : ¬ (pos xs t = pos ys t) := fun z => by
      rw [z] at h
      simp at h
    unfold absI at ha
    split at ha <;> omega
  omega
/-! ### backs -/
theorem back_list {n : Nat} {ns ps : List Int} (o : IsOrd n ns) (h : IsBack ns ps) : ps = (rg n).map (pos ns) := by
  apply List.ext_getElem?
  intro t
  by_cases c : t < n
  · have e := back_pos o h (x := (t : Int)) (by omega) (by omega)
    rw [Int.toNat_natCast] at e
    rw [e]
    unfold rg
    rw [List.map_map, List.getElem?_map, List.getElem?_range c]
    rfl
  · rw [List.getElem?_eq_none (by rw [h.1, o.len]; omega), List.getElem?_eq_none (by rw [List.length_map, rg_len]; omega)]
theorem back_ord {n : Nat} {ns ps : List Int} (o : IsOrd n ns) (h : IsBack ns ps) : IsOrd n ps := by
  rw [back_list o h]
  exact pos_ord o
theorem back_g0 {n : Nat} {ns ps : List Int} (o : IsOrd n ns) (h : IsBack ns ps) : ∀ t ∈ rg n, g0 ps t = pos ns t := by
  intro t ht
  have h1 := rg_mem.mp ht
  have e := g0_at (back_pos o h h1.1 h1.2)
  rw [Int.toNat_of_nonneg h1.1] at e
  exact e
theorem back_back {n : Nat} {ns ps : List Int} (o : IsOrd n ns) (h : IsBack ns ps) : IsBack ps ns := by
  refine ⟨h.1.symm, fun j x hx => ?_⟩
  have hj := (List.getElem?_eq_some_iff.mp hx).1
  rw [h.1, o.len] at hj
  obtain ⟨i, hi, ei, pi⟩ := pos_at o (x := (j : Int)) (by omega) (by omega)
  have e := back_pos o h (x := (j : Int)) (by omega) (by omega)
  rw [Int.toNat_natCast, hx] at e
  have ex : x = (i : Int) := (Option.some.inj e).trans pi
  rw [ex, Int.toNat_natCast]
  exact ei
theorem spot_back {n : Nat} {xs ys ps qs : List Int} (ox : IsOrd n xs) (oy : IsOrd n ys) (hp : IsBack xs ps) (hq : IsBack ys qs) : farSpot ps qs = farSpot xs ys := by
  rw [spot_T ox oy]
  unfold farSpot spotL spT
  rw [filter_len, hp.1, ox.len]
  congr 1
  apply sumN_congr
  intro t ht
  rw [back_g0 ox hp t ht, back_g0 oy hq t ht]
theorem behind_back {n : Nat} {xs ps : List Int} (ox : IsOrd n xs) (hp : IsBack xs ps) : behindL xs ps = rg n := by
  rw [back_list ox hp]
  unfold behindL
  rw [List.map_map]
  have e : (rg n).map ((fun p => xs.getD p.toNat 0) ∘ pos xs) = (rg n).map (fun t => t) := List.map_congr_left fun t ht => g0_pos ox ht
  rw [e, List.map_id']
theorem behind_assoc {n : Nat} {xs ys zs : List Int} (ox : IsOrd n xs) (oy : IsOrd n ys) (oz : IsOrd n zs) : behindL (behindL xs ys) zs = behindL xs (behindL ys zs) := by
  apply List.ext_getElem?
  intro i
  by_cases c : i < n
  · obtain ⟨z, hz, z0, z1⟩ := ord_ix oz c
    obtain ⟨y, hy, y0, y1⟩ := ord_ix oy (j := z.toNat) (by omega)
    obtain ⟨x, hx, _⟩ := ord_ix ox (j := y.toNat) (by omega)
    rw [behind_at hz (behind_at hy hx), behind_at (behind_at hz hy) hx]
  · rw [List.getElem?_eq_none (by rw [behind_len, oz.len]; omega), List.getElem?_eq_none (by rw [behind_len, behind_len, oz.len]; omega)]
end Fo
namespace Fo
open PySem PySem.Spec PyProof.Rows L2
def flw (n : Nat) (rs : List (List Int)) (i : Int) : List Int := (rg n).filter fun j => decide ((rs.length : Int) < 2 * aN rs i j)
def flM (n : Nat) (rs : List (List Int)) : List (List Int) := (rg n).map (flw n rs)
theorem flw_mem {n : Nat} {rs : List (List Int)} {i j : Int} (h : j ∈ flw n rs i) : 0 ≤ j ∧ j < n := rg_mem.mp (List.mem_filter.mp h).1
theorem flM_len (n : Nat) (rs : List (List Int)) : (flM n rs).length = n := by unfold flM; rw [List.length_map, rg_len]
theorem flM_at {n : Nat} {rs : List (List Int)} {i : Nat} (h : i < n) : (flM n rs)[i]? = some (flw n rs (i : Int)) := by
  unfold flM
  rw [List.getElem?_map, rg_at h]
  rfl
theorem flw_len (n : Nat) (rs : List (List Int)) (i : Int) : (flw n rs i).length ≤ n := Nat.le_trans (List.length_filter_le _ _) (by rw [rg_len]; exact Nat.le_refl _)
theorem flw_sorted (n : Nat) (rs : List (List Int)) (i : Int) : (flw n rs i).Pairwise (· < ·) := by
  unfold flw rg
  exact List.Pairwise.filter _ (List.Pairwise.map _ (fun a b h => by omega) List.pairwise_lt_range)
def spMBeh : Sp := fun vs H Q _ => ∃ (l : Addr) (as : List Addr) (rs : List (List Int)) (n : Nat), vs = [.ref l] ∧ OL H l as rs n ∧ 1 ≤ rs.length ∧ rs.length ≤ 1000 ∧
  ∀ (l' : Addr) (as' : List Addr) (H' : Hp), H' l' = some (.lst (as'.map V.ref)) → LL H' as' (flM n rs) → Same H H' → Q (.ref l') H'
/-- the things that a dict of reached ones has -/
def Rk (kvs : List (Key × V)) (u : Int) : Prop := (valV kvs (Sum.inl u)).isSome = true
def unr (n : Nat) (kvs : List (Key × V)) : Nat := ((rg n).filter fun u => (valV kvs (Sum.inl u)).isNone).length
theorem Rk_put (kvs : List (Key × V)) (x u : Int) (y : V) : Rk (putK kvs (Sum.inl x) y) u ↔ (Rk kvs u ∨ u = x) := by
  unfold Rk
  rw [valV_put]
  by_cases c : (Sum.inl u : Key) = Sum.inl x
  · rw [if_pos c]
    exact ⟨fun _ => .inr (Sum.inl.inj c), fun _ => rfl⟩
  · rw [if_neg c]
    exact ⟨.inl, fun h => h.elim _root_.id fun e => absurd (by rw [e]) c⟩
theorem filt_lt {l : List Int} {p q : Int → Bool} {x : Int} (h : ∀ u ∈ l, q u = true → p u = true) (hx : x ∈ l) (h1 : p x = true) (h2 : q x = false) : (l.filter q).length + 1 ≤ (l.filter p).length := by
  induction l with
  | nil => exact absurd hx List.not_mem_nil
  | cons a l ih =>
    have hle : (l.filter q).length ≤ (l.filter p).length := by
      have : ∀ m : List Int, (∀ u ∈ m, q u = true → p u = true) → (m.filter q).length ≤ (m.filter p).length := fun m => by
        induction m with
        | nil => intro _; exact Nat.le_refl _
        | cons b m ih2 =>
          intro hm
          have i2 := ih2 fun u hu => hm u (List.mem_cons_of_mem _ hu)
          have hb := hm b List.mem_cons_self
          rw [List.filter_cons, List.filter_cons]
          cases e1 : q b <;> cases e2 : p b
          · simpa using i2
          · simp
            omega
          · rw [hb e1] at e2
            cases e2
          · simpa using i2
      exact this l fun u hu => h u (List.mem_cons_of_mem _ hu)
    rcases List.mem_cons.mp hx with rfl | hx
    · rw [List.filter_cons, List.filter_cons, h1, h2]
      simp
      omega
    · have i2 := ih (fun u hu => h u (List.mem_cons_of_mem _ hu)) hx
      have ha := h a List.mem_cons_self
      rw [List.filter_cons, List.filter_cons]
      cases e1 : q a <;> cases e2 : p a
      · simpa using i2
      · simp
        omega
      · rw [ha e1] at e2
        cases e2
      · simpa using i2
theorem unr_put {n : Nat} {kvs : List (Key × V)} {x : Int} {y : V} (hx : 0 ≤ x ∧ x < n) (h : valV kvs (Sum.inl x) = none) : unr n (putK kvs (Sum.inl x) y) + 1 ≤ unr n kvs := by
  unfold unr
  refine filt_lt (x := x) (fun u _ hu => ?_) (rg_mem.mpr hx) (by rw [h]; rfl) (by rw [valV_put, if_pos rfl]; rfl)
  rw [valV_put] at hu
  by_cases c : (Sum.inl u : Key) = Sum.inl x
  · rw [if_pos c] at hu
    cases hu
  · rw [if_neg c] at hu
    exact hu
def spLonger : Sp := fun vs H Q _ => ∃ (lp lf rd : Addr) (ps fs : List Addr) (P : List (List Int)) (n k : Nat) (rs : List (List Int)) (kvs : List (Key × V)), vs = [.ref lp, .ref lf, .ref rd] ∧ n ≤ 12 ∧ H lp = some (.lst (ps.map V.ref)) ∧ LL H ps P ∧ H lf = some (.lst (fs.map V.ref)) ∧ LL H fs (flM n rs) ∧ H rd = some (.dK kvs) ∧ kvs.length + unr n kvs ≤ n ∧ k ≤ 12 ∧ (∀ p ∈ P, p.length = k + 1 ∧ 0 ≤ p.getLastD 0 ∧ p.getLastD 0 < n) ∧ P.Pairwise (· < ·) ∧
  ∀ (l' : Addr) (as' : List Addr) (P' : List (List Int)) (kvs' : List (Key × V)) (H' : Hp), H l' = none → (∀ a ∈ as', H a = none) → l' ≠ rd → rd ∉ as' → H' l' = some (.lst (as'.map V.ref)) → LL H' as' P' → H' rd = some (.dK kvs') → kvs'.length + unr n kvs' ≤ n → (P' ≠ [] → unr n kvs' + 1 ≤ unr n kvs) → BStep (flw n rs) P P' (Rk kvs) (Rk kvs') → KeepD rd H H' → Q (.ref l') H'
theorem last_at {p : List Int} {k : Nat} (h : p.length = k + 1) : atI (p.map V.int) (-1) = some (V.int (p.getLastD 0)) := by
  unfold atI ixN
  rw [List.length_map, h, if_neg (by omega), if_pos (by omega)]
  show (p.map V.int)[(-1 + ((k + 1 : Nat) : Int)).toNat]? = _
  rw [show (-1 + ((k + 1 : Nat) : Int)).toNat = k by omega]
  cases List.eq_nil_or_concat p with
  | inl e => rw [e] at h; cases h
  | inr e =>
    obtain ⟨p', x, rfl⟩ := e
    rw [List.concat_eq_append] at h ⊢
    rw [List.length_append] at h
    have e : p'.length = k := by simpa using h
    rw [List.getElem?_map, List.getElem?_append_right (by omega), e, Nat.sub_self]
    simp
section
variable {P : Program} {w : World} {K : PySem.W.Frag} {mg : Str → Option Value} {base : Heap}
theorem scMBeh : FnScope ["poll", "counts", "other", "many"] ["poll"] (defScope s_mostly_behind) := ⟨rfl, rfl, rfl, by decide +kernel, rfl, by decide +kernel, by decide +kernel⟩
set_option maxHeartbeats 4000000 in
theorem ok_mbeh {f f1 : Addr} {fd d1 : FuncData} {k : Nat} (T : Df K mg "mostly_behind" s_mostly_behind ["poll"] f fd) (T_counts_ahead : Df K mg "counts_ahead" s_counts_ahead ["poll"] f1 d1) (G_counts_ahead : FnOk P w K mg base CX0 k f1 d1 ["poll"] spAhead) (B : Bi mg) : FnOk P w K mg base CX0 (k + 1) f fd ["poll"] spMBeh := by
  refine T.F.ok scMBeh (fun vs H Q E h => ?_) (fun cdv A outer s H vs Q E hr h => ?_)
  · obtain ⟨l, as, rs, n, rfl, _⟩ := h
    rfl
  · obtain ⟨l, as, rs, n, rfl, hO, h1, h2, q⟩ := h
    have hal := hO.ll.len
    have hn2 := hO.n2
    refine ⟨_, 
      (pss_one (ps_ret (pe_lc (own := [("counts", 1)]) (g := (gName 1)) (tt := tYes) (te := (tLc (iEnum K (tCons (tVar 1) tNil)) (gTup K 2 (gCons (gName 2) (gCons (gName 3) gNil))) (tTest (tOp (rI0 fun i j => .bl (decide (j < i))) (tOp (rI CMul fun i j => .int (i * j)) (tC (.int 2)) (tVar 3)) (tCB (rLenS K) (tCons (tVar 0) tNil)))) (tVar 2) [2, 3])) rfl scMBeh.nd (pi_list (pe_call G_counts_ahead hr (by rfl) T_counts_ahead.g T_counts_ahead.F.kp T_counts_ahead.b .nil pass0 (pa_cons (pv 0) pa_nil))) (blkOk_by (N := ["poll", "counts", "other", "many"]) (sc := defScope s_mostly_behind) (by decide +kernel)) (fun _ _ _ _ _ => (pg_name (i := 1) scMBeh.nd rfl (.inl rfl))) (fun _ _ _ _ _ => pts_nil) (fun _ _ _ _ _ => (pe_lc (own := [("other", 2), ("many", 3)]) (g := (gTup K 2 (gCons (gName 2) (gCons (gName 3) gNil)))) (tt := (tTest (tOp (rI0 fun i j => .bl (decide (j < i))) (tOp (rI CMul fun i j => .int (i * j)) (tC (.int 2)) (tVar 3)) (tCB (rLenS K) (tCons (tVar 0) tNil))))) (te := (tVar 2)) rfl scMBeh.nd (pi_enum (by rfl) B.enumerate (pa_cons (pv 1) pa_nil)) (blkOk_by (N := ["poll", "counts", "other", "many"]) (by rfl)) (fun _ _ _ _ _ => (pg_tup (by rfl) (pgs_cons (pg_name (i := 2) scMBeh.nd rfl (.inl rfl)) (pgs_cons (pg_name (i := 3) scMBeh.nd rfl (.inl rfl)) pgs_nil)))) (fun _ _ _ _ _ => (pts_one (pt_cmpR op_gt (pe_op op_mul pe_int (pv 3)) (pe_callB call_len_seq (by rfl) B.len PySem.boot_len (pa_cons (pv 0) pa_nil)) (nomark _)))) (fun _ _ _ _ _ => (pv 2))))))), ?_⟩
    refine ⟨_, rfl, l, as, rs, n, rfl, hO, h1, h2, fun m ms H1 nm hm hLm s1 => ?_⟩
    have hO1 := hO.same s1
    have hml := hLm.len
    have eml : (aM n rs).length = n := by unfold aM; rw [List.length_map, rg_len]
    refine ⟨m, rfl, ⟨_, SqL.of hm⟩, fun D nD => ?_⟩
    refine lc_list (K := K) (a := m) (xs := ms.map V.ref) (fun i H3 => ∃ bs : List Addr, H3 D = some (.lst (bs.map V.ref)) ∧ LL H3 bs ((flM n rs).take i) ∧ D ∉ bs ∧ Same H1 H3) ⟨[], upd_same, trivial, List.not_mem_nil, same_new nD⟩ (fun i H3 _ hP => by obtain ⟨_, _, _, _, sm⟩ := hP; exact SqL.of (sm _ _ hm)) (fun i x H3 hx hP => ?_) (fun H3 hP => ?_)
    · obtain ⟨a, ea, rfl⟩ := ref_at_inv hx
      obtain ⟨bs, hD3, hL3, nDb, sm⟩ := hP
      have hi := (List.getElem?_eq_some_iff.mp ea).1
      rw [hml, eml] at hi
      obtain ⟨r, er, ha⟩ := (hLm.same sm).get ea
      have emi : (aM n rs)[i]? = some ((rg n).map fun j => aN rs (i : Int) j) := by
        unfold aM
        rw [List.getElem?_map, rg_at hi]
        rfl
      rw [emi] at er
      have er2 := Option.some.inj er
      subst er2
      have hbl := hL3.len
      rw [List.length_take, flM_len] at hbl
      refine ⟨rfl, _, rfl, a, _, rfl, SqL.of ha, fun D2 nD2 => ?_⟩
      refine lc_enumL (K := K) (a := a) (xs := ((rg n).map fun j => aN rs (i : Int) j).map V.int) (fun j H4 => H4 D2 = some (.lst (((rg j).filter fun u => decide ((rs.length : Int) < 2 * aN rs (i : Int) u)).map V.int)) ∧ Same H3 H4) ⟨upd_same, same_new nD2⟩ (fun j H4 _ hP => SqL.of (hP.2 _ _ ha)) (fun j x t H4 hx hP nt => ?_) (fun H4 hP => ?_)
      · obtain ⟨hD4, sm4⟩ := hP
        obtain ⟨y, ey, rfl⟩ := int_at_inv hx
        have hj := (List.getElem?_eq_some_iff.mp ey).1
        rw [List.length_map, rg_len] at hj
        rw [List.getElem?_map, rg_at hj] at ey
        have ey2 : aN rs (i : Int) (j : Int) = y := Option.some.inj ey
        subst ey2
        have s5 := same_new (o := .tup [.int (j : Nat), .int (aN rs (i : Int) (j : Int))]) nt
        have top5 := s5 _ _ (sm4 _ _ (sm _ _ hO1.top))
        have fm : (rg (j + 1)).filter (fun u => decide ((rs.length : Int) < 2 * aN rs (i : Int) u)) = (rg j).filter (fun u => decide ((rs.length : Int) < 2 * aN rs (i : Int) u)) ++ (if decide ((rs.length : Int) < 2 * aN rs (i : Int) (j : Int)) then [(j : Int)] else []) := by
          rw [rg_succ, List.filter_append, List.filter_cons]
          rfl
        refine ⟨t, _, rfl, .inl (.inl upd_same), rfl, _, _, rfl, _, _, rfl, rfl, rfl, ?_⟩
        refine ⟨_, rfl, 2, _, rfl, rfl, .inl ⟨by decide, by decide⟩, _, rfl, l, _, rfl, .inl (SqL.of top5), _, _, rfl, rfl, _, rfl, ite2 (fun c => ?_) (fun c => ?_)⟩
        · have hc : (rs.length : Int) < 2 * aN rs (i : Int) (j : Int) := by
            have := of_decide_eq_true c
            rw [List.length_map, hal] at this
            exact this
          refine ⟨_, rfl, _, s5 _ _ hD4, line_lt (by rw [List.length_map]; exact Nat.lt_of_le_of_lt (List.length_filter_le _ _) (by rw [rg_len]; omega)), ?_, fun b o e => ?_⟩
          · rw [upd_same, fm, decide_eq_true hc, if_pos rfl, List.map_append]
            rfl
          · rw [upd_ne (ne_of_none e nD2)]
            exact s5 _ _ (sm4 _ _ e)
        · have hc : ¬ (rs.length : Int) < 2 * aN rs (i : Int) (j : Int) := fun h => c (decide_eq_true (by rw [List.length_map, hal]; exact h))
          refine ⟨?_, sm4.trans s5⟩
          rw [fm, decide_eq_false hc, if_neg (by decide), List.append_nil]
          exact s5 _ _ hD4
      · obtain ⟨hD4, sm4⟩ := hP
        rw [List.length_map, List.length_map, rg_len] at hD4
        have nD32 : D2 ≠ D := fun e => by rw [e, hD3] at nD2; cases nD2
        refine ⟨_, sm4 _ _ hD3, line_lt (by rw [List.length_map]; omega), bs ++ [D2], by rw [upd_same, List.map_append]; rfl, ?_, fun hu => ?_, fun b o e => ?_⟩
        · rw [take_more' (flM_at hi)]
          refine LL.snoc ((hL3.same sm4).keep fun u hu o e => ?_) ?_
          · rw [upd_ne (fun q => nDb (by rw [← q]; exact hu))]
            exact e
          · rw [upd_ne nD32]
            exact hD4
        · rcases List.mem_append.mp hu with h | h
          · exact nDb h
          · exact nD32 (List.mem_singleton.mp h).symm
        · rw [upd_ne (ne_of_none e nD)]
          exact sm4 _ _ (sm _ _ e)
    · obtain ⟨bs, hD3, hL3, nDb, sm⟩ := hP
      rw [List.length_map, hml, eml, List.take_of_length_le (by rw [flM_len]; exact Nat.le_refl _)] at hL3
      exact q D bs H3 hD3 hL3 (s1.trans sm)
theorem scLonger : FnScope ["paths", "followers", "reached", "longer", "path", "thing"] ["paths", "followers", "reached"] (defScope s_longer_paths) := ⟨rfl, rfl, rfl, by decide +kernel, rfl, by decide +kernel, by decide +kernel⟩
set_option maxHeartbeats 4000000 in
theorem ok_longer {f : Addr} {fd : FuncData} {k : Nat} (T : Df K mg "longer_paths" s_longer_paths ["paths", "followers", "reached"] f fd) (B : Bi mg) : FnOk P w K mg base CX0 (k + 1) f fd ["paths", "followers", "reached"] spLonger := by
  refine T.F.ok scLonger (fun vs H Q E h => ?_) (fun cdv A outer s H vs Q E hr h => ?_)
  · obtain ⟨lp, lf, rd, ps, fs, P, n, k, rs, kvs, rfl, _⟩ := h
    rfl
  · obtain ⟨lp, lf, rd, ps, fs, PP, n, k', rs, kvs, rfl, hn, hlp, hLp, hlf, hLf, hrd, hku, hk, hP, hsrt, q⟩ := h
    have hpl := hLp.len
    have hfl := hLf.len
    rw [flM_len] at hfl
    refine ⟨_, 
      (pss_cons (ps_set (i := 3) scLonger.nd rfl (.inl rfl) (pe_lst pa_nil))
      (pss_cons (ps_for PassesOwn.never rfl (pi_list (pv 0)) (pg_name (i := 4) scLonger.nd rfl (.inl rfl))
        (pss_one (ps_for PassesOwn.never rfl (pi_list (pe_ix ix_list (pv 1) (pe_ix ix_list (pv 4) (pe_un un_neg pe_int) (fun _ _ => rfl)) (fun _ _ => rfl))) (pg_name (i := 5) scLonger.nd rfl (.inl rfl))
          (pss_one (ps_if (pt_cmp (pc_dnotin (hu_of hr) (pv 5) (pv 2)))
            (pss_cons (ps_dput (hu_of hr) (pv 2) (pv 5) pe_bl (by rfl))
            (pss_one (ps_expr (pe_bm PySem.F.plainAttrs_list PySem.F.slot_list_append PySem.F.type_list_append mt_append (pv 3) (pa_cons (pe_op op_cat (pv 4) (pe_lst (pa_cons (pv 5) pa_nil))) pa_nil)))))
            pss_nil)))))
      (pss_one (ps_ret (pv 3))))), ?_⟩
    refine ⟨line_small (by show 0 ≤ 16777216; decide), fun lg nlg => ?_⟩
    have s0 := same_new (o := .lst []) nlg
    have nlr : lg ≠ rd := (ne_of_none hrd nlg).symm
    have nlpr : lp ≠ rd := fun e => by rw [e, hrd] at hlp; cases hlp
    have nlfr : lf ≠ rd := fun e => by rw [e, hrd] at hlf; cases hlf
    have nps : ∀ a ∈ ps, a ≠ rd := fun a ha e => by
      obtain ⟨i, hi⟩ := List.mem_iff_getElem?.mp ha
      obtain ⟨r, _, hr'⟩ := hLp.get hi
      rw [e, hrd] at hr'
      cases hr'
    have nfs : ∀ a ∈ fs, a ≠ rd := fun a ha e => by
      obtain ⟨i, hi⟩ := List.mem_iff_getElem?.mp ha
      obtain ⟨r, _, hr'⟩ := hLf.get hi
      rw [e, hrd] at hr'
      cases hr'
    -- what holds while it is gone through: D of the pairs gone through
    let J : (List Int → Int → Prop) → Hp → List Addr → List (List Int) → List (Key × V) → Prop := fun Dn G cs P' kv =>
      G lg = some (.lst (cs.map V.ref)) ∧ LL G cs P' ∧ (∀ a ∈ cs, H a = none ∧ a ≠ lg ∧ a ≠ rd) ∧ G rd = some (.dK kv) ∧ kv.length + unr n kv ≤ n ∧ P'.length + unr n kv ≤ unr n kvs ∧
      (∀ p' ∈ P', ∃ p ∈ PP, ∃ u ∈ flw n rs (p.getLastD 0), p' = p ++ [u] ∧ ¬ Rk kvs u ∧ Dn p u) ∧ P'.Pairwise (· < ·) ∧ (∀ u, Rk kv u ↔ (Rk kvs u ∨ ∃ p' ∈ P', p'.getLastD 0 = u)) ∧
      (∀ p u, Dn p u → Rk kvs u ∨ ∃ p' ∈ P', p'.getLastD 0 = u ∧ p' ≤ p ++ [u]) ∧ KeepD rd H G
    refine ⟨_, rfl, lp, rfl, ⟨_, SqL.of (s0 _ _ hlp)⟩, ?_⟩
    refine for_list (xs := ps.map V.ref) (fun i σ G => ∃ (y4 y5 : Option V) (cs : List Addr) (P' : List (List Int)) (kv : List (Key × V)), σ = [some (.ref lp), some (.ref lf), some (.ref rd), some (.ref lg), y4, y5] ∧ J (fun p u => p ∈ PP.take i ∧ u ∈ flw n rs (p.getLastD 0)) G cs P' kv)
      ⟨_, _, [], [], kvs, rfl, upd_same, trivial, fun a h => absurd h List.not_mem_nil, s0 _ _ hrd, hku, by show 0 + _ ≤ _; omega, fun p h => absurd h List.not_mem_nil, List.Pairwise.nil, fun u => ⟨.inl, fun h => h.elim _root_.id fun ⟨p, hp, _⟩ => absurd hp List.not_mem_nil⟩, fun p u h => absurd h.1 (by rw [List.take_zero]; exact List.not_mem_nil), KeepD.of_same s0⟩ (fun i σ G _ hW => by
        obtain ⟨_, _, _, _, _, _, _, _, _, _, _, _, _, _, _, _, kp⟩ := hW
        exact SqL.of (kp _ _ hlp nlpr)) (fun i x σ G hx hW => ?_) (fun σ G hW => ?_)
    · obtain ⟨y4, y5, cs, P', kv, rfl, hJ⟩ := hW
      obtain ⟨a, ea, rfl⟩ := ref_at_inv hx
      obtain ⟨p, ep, ha0⟩ := hLp.get ea
      have hpm := List.mem_of_getElem? ep
      obtain ⟨pl, p0, p1⟩ := hP p hpm
      obtain ⟨v, hv⟩ : ∃ v : Nat, p.getLastD 0 = (v : Int) := ⟨(p.getLastD 0).toNat, by omega⟩
      have hvn : v < n := by omega
      obtain ⟨b, eb⟩ : ∃ b, fs[v]? = some b := ⟨fs[v]'(by omega), List.getElem?_eq_getElem (by omega)⟩
      obtain ⟨fr, efr, hb0⟩ := hLf.get eb
      rw [flM_at hvn] at efr
      have efr2 := Option.some.inj efr
      subst efr2
      have kp0 : KeepD rd H G := by
        obtain ⟨_, _, _, _, _, _, _, _, _, _, kp⟩ := hJ
        exact kp
      have haG := kp0 _ _ ha0 (nps a (List.mem_of_getElem? ea))
      have hlfG := kp0 _ _ hlf nlfr
      have hbG := kp0 _ _ hb0 (nfs b (List.mem_of_getElem? eb))
      have la := last_at pl
      refine ⟨_, rfl, _, rfl, 1, rfl, a, _, _, _, rfl, rfl, SqL.of haG, la, lf, _, _, _, rfl, rfl, SqL.of hlfG, at_of (j := v) hv (ref_at eb), b, rfl, ⟨_, SqL.of hbG⟩, ?_⟩
      refine for_list (xs := (flw n rs (v : Int)).map V.int) (fun j σ G2 => ∃ (y5 : Option V) (cs : List Addr) (P' : List (List Int)) (kv : List (Key × V)), σ = [some (.ref lp), some (.ref lf), some (.ref rd), some (.ref lg), some (.ref a), y5] ∧ J (fun p' u => (p' ∈ PP.take i ∧ u ∈ flw n rs (p'.getLastD 0)) ∨ (p' = p ∧ u ∈ (flw n rs (v : Int)).take j)) G2 cs P' kv)
        ⟨_, cs, P', kv, rfl, ?_⟩ (fun j σ G2 _ hW => by
          obtain ⟨_, _, _, _, _, _, _, _, _, _, _, _, _, _, _, kp⟩ := hW
          exact SqL.of (kp _ _ hb0 (nfs b (List.mem_of_getElem? eb)))) (fun j x σ G2 hx hW => ?_) (fun σ G2 hW => ?_)
      · obtain ⟨j1, j2, j3, j4, j5, j6, j7, j8, j9, j10, j11⟩ := hJ
        refine ⟨j1, j2, j3, j4, j5, j6, fun p' hp' => ?_, j8, j9, fun p' u h => ?_, j11⟩
        · obtain ⟨p2, h2, u, hu, e, hR, hd⟩ := j7 p' hp'
          exact ⟨p2, h2, u, hu, e, hR, .inl hd⟩
        · rcases h with h | h
          · exact j10 p' u h
          · exact absurd h.2 (by rw [List.take_zero]; exact List.not_mem_nil)
      · obtain ⟨z5, cs, P', kv, rfl, j1, j2, j3, j4, j5, j6, j7, j8, j9, j10, j11⟩ := hW
        obtain ⟨u, eu, rfl⟩ := int_at_inv hx
        have hum := List.mem_of_getElem? eu
        have hun := flw_mem hum
        have haG2 := j11 _ _ ha0 (nps a (List.mem_of_getElem? ea))
        refine ⟨_, rfl, _, rfl, rd, _, rfl, DGet.k (k := Sum.inl u) j4, _, rfl, ?_⟩
        cases hval : valV kv (Sum.inl u) with
        | some y =>
          refine iteF ⟨_, cs, P', kv, rfl, j1, j2, j3, j4, j5, j6, fun p' hp' => ?_, j8, j9, fun p' u' h => ?_, j11⟩
          · obtain ⟨p2, h2, u2, hu2, e, hR, hd⟩ := j7 p' hp'
            refine ⟨p2, h2, u2, hu2, e, hR, hd.imp _root_.id fun h => ⟨h.1, ?_⟩⟩
            rw [take_more eu]
            exact List.mem_append_left _ h.2
          · rcases h with h | ⟨rfl, h⟩
            · exact j10 p' u' (.inl h)
            · rw [take_more eu] at h
              rcases List.mem_append.mp h with h | h
              · exact j10 p' u' (.inr ⟨rfl, h⟩)
              · rw [List.mem_singleton.mp h]
                have hRk : Rk kv u := by unfold Rk; rw [hval]; rfl
                rcases (j9 u).mp hRk with h | ⟨q', hq', e⟩
                · exact .inl h
                · obtain ⟨p2, h2, u2, hu2, e2, _, hd⟩ := j7 q' hq'
                  have eu2 : u2 = u := by rw [e2] at e; simpa using e
                  subst eu2
                  refine .inr ⟨q', hq', e, ?_⟩
                  rw [e2]
                  have le2 : p2 ≤ p' := by
                    rcases hd with hd | hd
                    · rw [List.mem_iff_getElem?] at hd
                      obtain ⟨⟨i2, hi2⟩, _⟩ := hd
                      have hlt : i2 < i := by
                        have := (List.getElem?_eq_some_iff.mp hi2).1
                        rw [List.length_take] at this
                        omega
                      rw [List.getElem?_take_of_lt hlt] at hi2
                      have hs2 := List.pairwise_iff_getElem.mp hsrt
                      obtain ⟨g1, e1⟩ := List.getElem?_eq_some_iff.mp hi2
                      obtain ⟨g2, e3⟩ := List.getElem?_eq_some_iff.mp ep
                      have := hs2 i2 i g1 g2 hlt
                      rw [e1, e3] at this
                      exact List.le_of_lt this
                    · rw [hd.1]
                      exact List.le_refl _
                  exact snoc_le (by rw [(hP p2 h2).1, pl]) le2 (Int.le_refl _)
        | none =>
          refine iteT ⟨_, rfl, _, rfl, rd, _, rfl, DPut.k (k := Sum.inl u) j4 (line_lt (by omega)), ?_⟩
          have hlg1 : (upd G2 rd (.dK (putK kv (Sum.inl u) (.bl true)))) lg = _ := (upd_ne nlr).trans j1
          have ha1 : (upd G2 rd (.dK (putK kv (Sum.inl u) (.bl true)))) a = _ := (upd_ne (nps a (List.mem_of_getElem? ea))).trans haG2
          have hrd1 : (upd G2 rd (.dK (putK kv (Sum.inl u) (.bl true)))) rd = _ := upd_same
          have hL1 : LL (upd G2 rd (.dK (putK kv (Sum.inl u) (.bl true)))) cs P' := j2.keep fun c hc o e => by rw [upd_ne (j3 c hc).2.2]; exact e
          have kp1 : KeepD rd H (upd G2 rd (.dK (putK kv (Sum.inl u) (.bl true)))) := fun c o e nc => by rw [upd_ne nc]; exact j11 c o e nc
          generalize upd G2 rd (.dK (putK kv (Sum.inl u) (.bl true))) = G3 at hlg1 ha1 hrd1 hL1 kp1 ⊢
          have hcl := j2.len
          have hup := unr_put (y := V.bl true) hun hval
          have hkl := length_putK kv (Sum.inl u) (V.bl true)
          refine ⟨_, rfl, .inl ⟨rfl, _, SqL.of hlg1⟩, _, rfl, _, rfl, line_small (by show 1 ≤ 16777216; decide), fun e1 ne1 => ?_⟩
          have s4 := same_new (o := .lst [.int u]) ne1
          refine ⟨a, e1, _, _, rfl, rfl, s4 _ _ ha1, upd_same, line_small (by rw [List.length_map, pl]; show k' + 1 + 1 ≤ 16777216; omega), fun e2 ne2 => ?_⟩
          have s5 := s4.trans (same_new (o := .lst (p.map V.int ++ [.int u])) ne2)
          have he2 : (upd (upd G3 e1 (.lst [.int u])) e2 (.lst (p.map V.int ++ [.int u]))) e2 = _ := upd_same
          generalize upd (upd G3 e1 (.lst [.int u])) e2 (.lst (p.map V.int ++ [.int u])) = G4 at s5 he2 ⊢
          have hlg4 := s5 _ _ hlg1
          have ne2G3 : G3 e2 = none := s4.free ne2
          have ne2lg : e2 ≠ lg := fun z => by rw [z, hlg1] at ne2G3; cases ne2G3
          have ne2rd : e2 ≠ rd := fun z => by rw [z, hrd1] at ne2G3; cases ne2G3
          have ne2H : H e2 = none := kp1.none ne2G3 ne2rd
          have hul : P'.length + unr n kv ≤ n := by
            have : unr n kvs ≤ n := Nat.le_trans (List.length_filter_le _ _) (by rw [rg_len]; exact Nat.le_refl _)
            omega
          have hnR : ¬ Rk kvs u := fun h => by
            have := (j9 u).mpr (.inl h)
            unfold Rk at this
            rw [hval] at this
            cases this
          refine ⟨lg, _, _, rfl, rfl, hlg4, line_lt (by rw [List.length_map]; omega), ?_⟩
          refine ⟨_, cs ++ [e2], P' ++ [p ++ [u]], putK kv (Sum.inl u) (.bl true), rfl, by rw [upd_same, List.map_append]; rfl, ?_, fun c hc => ?_, by rw [upd_ne nlr.symm]; exact s5 _ _ hrd1, by omega, by rw [List.length_append]; show _ + 1 + _ ≤ _; omega, fun p' hp' => ?_, ?_, fun u' => ?_, fun p' u' h => ?_, fun c o e nc => ?_⟩
          · refine LL.snoc ((hL1.same s5).keep fun c hc o e => ?_) ?_
            · rw [upd_ne (j3 c hc).2.1]
              exact e
            · rw [upd_ne ne2lg, he2, List.map_append]
              rfl
          · rcases List.mem_append.mp hc with h | h
            · exact j3 c h
            · rw [List.mem_singleton.mp h]
              exact ⟨ne2H, ne2lg, ne2rd⟩
          · rcases List.mem_append.mp hp' with h | h
            · obtain ⟨p2, h2, u2, hu2, e, hR, hd⟩ := j7 p' h
              refine ⟨p2, h2, u2, hu2, e, hR, hd.imp _root_.id fun h => ⟨h.1, ?_⟩⟩
              rw [take_more eu]
              exact List.mem_append_left _ h.2
            · rw [List.mem_singleton.mp h]
              refine ⟨p, hpm, u, by rw [hv]; exact hum, rfl, hnR, .inr ⟨rfl, ?_⟩⟩
              rw [take_more eu]
              exact List.mem_append_right _ (List.mem_singleton.mpr rfl)
          · refine List.pairwise_append.mpr ⟨j8, List.pairwise_singleton _ _, fun x hx y hy => ?_⟩
            rw [List.mem_singleton.mp hy]
            obtain ⟨p2, h2, u2, hu2, e, hR, hd⟩ := j7 x hx
            rw [e]
            rcases hd with hd | hd
            · obtain ⟨i2, hi2⟩ := List.mem_iff_getElem?.mp hd.1
              have hlt : i2 < i := by
                have := (List.getElem?_eq_some_iff.mp hi2).1
                rw [List.length_take] at this
                omega
              rw [List.getElem?_take_of_lt hlt] at hi2
              have hs2 := List.pairwise_iff_getElem.mp hsrt
              obtain ⟨g1, e1⟩ := List.getElem?_eq_some_iff.mp hi2
              obtain ⟨g2, e3⟩ := List.getElem?_eq_some_iff.mp ep
              have := hs2 i2 i g1 g2 hlt
              rw [e1, e3] at this
              exact lt_snoc (by rw [(hP p2 h2).1, pl]) this u2 u
            · rw [hd.1]
              apply snoc_lt
              obtain ⟨j2', hj2⟩ := List.mem_iff_getElem?.mp hd.2
              have hlt : j2' < j := by
                have := (List.getElem?_eq_some_iff.mp hj2).1
                rw [List.length_take] at this
                omega
              rw [List.getElem?_take_of_lt hlt] at hj2
              have hs2 := List.pairwise_iff_getElem.mp (flw_sorted n rs (v : Int))
              obtain ⟨g1, e1⟩ := List.getElem?_eq_some_iff.mp hj2
              obtain ⟨g2, e3⟩ := List.getElem?_eq_some_iff.mp eu
              have := hs2 j2' j g1 g2 hlt
              rw [e1, e3] at this
              exact this
          · rw [Rk_put, j9 u']
            constructor
            · rintro ((h | ⟨q', hq', e⟩) | rfl)
              · exact .inl h
              · exact .inr ⟨q', List.mem_append_left _ hq', e⟩
              · exact .inr ⟨p ++ [u'], List.mem_append_right _ (List.mem_singleton.mpr rfl), by simp⟩
            · rintro (h | ⟨q', hq', e⟩)
              · exact .inl (.inl h)
              · rcases List.mem_append.mp hq' with h | h
                · exact .inl (.inr ⟨q', h, e⟩)
                · rw [List.mem_singleton.mp h] at e
                  refine .inr ?_
                  have : u = u' := by simpa using e
                  exact this.symm
          · rcases h with h | ⟨rfl, h⟩
            · rcases j10 p' u' (.inl h) with h | ⟨q', hq', e, hle⟩
              · exact .inl h
              · exact .inr ⟨q', List.mem_append_left _ hq', e, hle⟩
            · rw [take_more eu] at h
              rcases List.mem_append.mp h with h | h
              · rcases j10 p' u' (.inr ⟨rfl, h⟩) with h | ⟨q', hq', e, hle⟩
                · exact .inl h
                · exact .inr ⟨q', List.mem_append_left _ hq', e, hle⟩
              · rw [List.mem_singleton.mp h]
                exact .inr ⟨p' ++ [u], List.mem_append_right _ (List.mem_singleton.mpr rfl), by simp, List.le_refl _⟩
          · rw [upd_ne (ne_of_none e nlg)]
            exact s5 _ _ (kp1 c o e nc)
      · obtain ⟨z5, cs, P', kv, rfl, j1, j2, j3, j4, j5, j6, j7, j8, j9, j10, j11⟩ := hW
        rw [List.length_map, List.take_length] at j7 j10
        refine ⟨_, _, cs, P', kv, rfl, j1, j2, j3, j4, j5, j6, fun p' hp' => ?_, j8, j9, fun p' u h => ?_, j11⟩
        · obtain ⟨p2, h2, u2, hu2, e, hR, hd⟩ := j7 p' hp'
          refine ⟨p2, h2, u2, hu2, e, hR, ?_, hu2⟩
          rw [take_more' ep]
          rcases hd with hd | hd
          · exact List.mem_append_left _ hd.1
          · exact List.mem_append_right _ (List.mem_singleton.mpr hd.1)
        · rw [take_more' ep] at h
          rcases List.mem_append.mp h.1 with h1 | h1
          · exact j10 p' u (.inl ⟨h1, h.2⟩)
          · have e := List.mem_singleton.mp h1
            refine j10 p' u (.inr ⟨e, ?_⟩)
            have := h.2
            rw [e, hv] at this
            exact this
    · obtain ⟨y4, y5, cs, P', kv, rfl, j1, j2, j3, j4, j5, j6, j7, j8, j9, j10, j11⟩ := hW
      rw [List.length_map, hpl, List.take_length] at j7 j10
      refine ⟨_, rfl, q lg cs P' kv G nlg (fun a ha => (j3 a ha).1) nlr (fun h => (j3 rd h).2.2 rfl) j1 j2 j4 j5 (fun hne => ?_) ⟨fun p' hp' => ?_, j8, j9, fun p hp u hu => j10 p u ⟨hp, hu⟩⟩ j11⟩
      · have : 0 < P'.length := List.length_pos_iff.mpr hne
        omega
      · obtain ⟨p2, h2, u2, hu2, e, hR, _⟩ := j7 p' hp'
        exact ⟨p2, h2, u2, hu2, e, hR⟩
end
end Fo
namespace Fo
open PySem PySem.Spec PyProof.Rows L2
def Rn (kvs : List (Key × V)) (u : Int) : Prop := Rk kvs u ∨ u < 0
theorem step_neg {n : Nat} {rs : List (List Int)} {P P' : List (List Int)} {kvs kvs' : List (Key × V)} (S : BStep (flw n rs) P P' (Rk kvs) (Rk kvs')) : BStep (flw n rs) P P' (Rn kvs) (Rn kvs') where
  a := fun q hq => by
    obtain ⟨p, hp, u, hu, e, hR⟩ := S.a q hq
    refine ⟨p, hp, u, hu, e, fun h => h.elim hR fun h => ?_⟩
    have := flw_mem hu
    omega
  b := S.b
  r := fun u => by
    unfold Rn
    rw [S.r u]
    constructor
    · rintro ((h | h) | h)
      · exact .inl (.inl h)
      · exact .inr h
      · exact .inl (.inr h)
    · rintro ((h | h) | h)
      · exact .inl (.inl h)
      · exact .inr h
      · exact .inl (.inr h)
  g := fun p hp u hu => by
    rcases S.g p hp u hu with h | h
    · exact .inl (.inl h)
    · exact .inr h
theorem filt_le {p q : Int → Bool} : ∀ {m : List Int}, (∀ u ∈ m, q u = true → p u = true) → (m.filter q).length ≤ (m.filter p).length
  | [], _ => Nat.le_refl _
  | b :: m, hm => by
    have i2 := filt_le (m := m) fun u hu => hm u (List.mem_cons_of_mem _ hu)
    have hb := hm b List.mem_cons_self
    rw [List.filter_cons, List.filter_cons]
    cases e1 : q b <;> cases e2 : p b
    · simpa using i2
    · simp
      omega
    · rw [hb e1] at e2
      cases e2
    · simpa using i2
theorem BInv.congr {fl : Int → List Int} {z : Int} {k : Nat} {P : List (List Int)} {Rb R R' : Int → Prop} (I : BInv fl z k P Rb R) (h : ∀ u, R' u ↔ R u) : BInv fl z k P Rb R' := ⟨I.a, I.b, I.c, I.d, I.e, fun v h1 h2 u hu hz => (h u).mpr (I.f v h1 h2 u hu hz), fun u => (h u).trans (I.r u), fun u hu => (h u).mpr (I.h u hu)⟩
theorem wk_bound {n : Nat} {rs : List (List Int)} {z : Int} (hz : 0 ≤ z ∧ z < n) {k : Nat} {p : List Int} {v : Int} (h : Wk (flw n rs) z k p v) : 0 ≤ v ∧ v < n := by
  cases h with
  | nil => exact hz
  | snoc _ hu _ => exact flw_mem hu
def spRFrom : Sp := fun vs H Q _ => ∃ (z : Nat) (lf : Addr) (fs : List Addr) (n : Nat) (rs : List (List Int)), vs = [.int z, .ref lf] ∧ z < n ∧ n ≤ 12 ∧ H lf = some (.lst (fs.map V.ref)) ∧ LL H fs (flM n rs) ∧
  (∀ H', RingAt (flw n rs) (z : Int) none → Same H H' → Q .non H') ∧ (∀ (g : Addr) (p : List Int) (H' : Hp), H g = none → H' g = some (.lst (p.map V.int)) → RingAt (flw n rs) (z : Int) (some p) → p.length ≤ n → Same H H' → Q (.ref g) H')
def spRing : Sp := fun vs H Q _ => ∃ (l : Addr) (as : List Addr) (rs : List (List Int)) (n : Nat), vs = [.ref l] ∧ OL H l as rs n ∧ 1 ≤ rs.length ∧ rs.length ≤ 20 ∧ n ≤ 9 ∧
  (∀ H', (∀ z : Nat, z < n → RingAt (flw n rs) (z : Int) none) → Same H H' → Q .non H') ∧ (∀ (g : Addr) (p : List Int) (z : Nat) (H' : Hp), H g = none → H' g = some (.lst (p.map V.int)) → z < n → RingAt (flw n rs) (z : Int) (some p) → p.length ≤ n → (∀ z' : Nat, z' < n → ∀ p', RingAt (flw n rs) (z' : Int) (some p') → p.length < p'.length ∨ (p.length = p'.length ∧ z ≤ z')) → (∀ z' : Nat, z' < n → RingAt (flw n rs) (z' : Int) none ∨ ∃ p', RingAt (flw n rs) (z' : Int) (some p')) → Same H H' → Q (.ref g) H')
theorem ring_not {fl : Int → List Int} {z : Int} {p : List Int} (h : RingAt fl z none) (h2 : RingAt fl z (some p)) : False := by
  obtain ⟨k, v, h1, h3, _⟩ := h2
  exact h k p v h1 h3
theorem unr_le {n : Nat} {kvs : List (Key × V)} {m : Nat} (h : ∀ u : Int, 0 ≤ u → u < m → Rk kvs u) (hm : m ≤ n) : unr n kvs + m ≤ n := by
  unfold unr
  have hs : ∀ j : Nat, m ≤ j → ((rg j).filter fun u => (valV kvs (Sum.inl u)).isNone).length + m ≤ j := fun j => by
    induction j with
    | zero => intro h0; have : m = 0 := by omega
              subst this; exact Nat.le_refl _
    | succ j ih =>
      intro hj
      rw [rg_succ, List.filter_append, List.length_append]
      by_cases c : m ≤ j
      · have i1 := ih c
        have i2 := List.length_filter_le (fun u => (valV kvs (Sum.inl u)).isNone) [(j : Int)]
        have e1 : [(j : Int)].length = 1 := rfl
        omega
      · have e : m = j + 1 := by omega
        have z1 : ∀ i : Nat, i ≤ m → (rg i).filter (fun u => (valV kvs (Sum.inl u)).isNone) = [] := fun i hi => by
          rw [List.filter_eq_nil_iff]
          intro u hu
          have hb := rg_mem.mp hu
          have := h u hb.1 (by omega)
          unfold Rk at this
          cases hv : valV kvs (Sum.inl u) with
          | none => rw [hv] at this; cases this
          | some y => simp
        have z2 : [(j : Int)].filter (fun u => (valV kvs (Sum.inl u)).isNone) = [] := by
          rw [List.filter_eq_nil_iff]
          intro u hu
          rw [List.mem_singleton.mp hu]
          have := h (j : Int) (by omega) (by omega)
          unfold Rk at this
          cases hv : valV kvs (Sum.inl (j : Int)) with
          | none => rw [hv] at this; cases this
          | some y => simp
        rw [z1 j (by omega), z2]
        show 0 + 0 + m ≤ j + 1
        omega
  exact hs n hm
section
variable {P : Program} {w : World} {K : PySem.W.Frag} {mg : Str → Option Value} {base : Heap}
theorem scRFrom : FnScope ["least", "followers", "reached", "paths", "path", "thing"] ["least", "followers"] (defScope s_ring_from) := ⟨rfl, rfl, rfl, by decide +kernel, rfl, by decide +kernel, by decide +kernel⟩
set_option maxHeartbeats 4000000 in
theorem ok_rfrom {f f1 : Addr} {fd d1 : FuncData} {k : Nat} (T : Df K mg "ring_from" s_ring_from ["least", "followers"] f fd) (T_longer_paths : Df K mg "longer_paths" s_longer_paths ["paths", "followers", "reached"] f1 d1) (G_longer_paths : FnOk P w K mg base CX0 k f1 d1 ["paths", "followers", "reached"] spLonger) (B : Bi mg) : FnOk P w K mg base CX0 (k + 1) f fd ["least", "followers"] spRFrom := by
  refine T.F.ok scRFrom (fun vs H Q E h => ?_) (fun cdv A outer s H vs Q E hr h => ?_)
  · obtain ⟨z, lf, fs, n, rs, rfl, _⟩ := h
    rfl
  · obtain ⟨z, lf, fs, n, rs, rfl, hz, hn, hlf, hLf, q0, q1⟩ := h
    have hfl := hLf.len
    rw [flM_len] at hfl
    refine ⟨_, 
      (pss_cons (ps_setDc (i := 2) (own := [("thing", 5)]) (g := (gName 5)) (tt := tYes) (tk := (tVar 5)) (tv := (tC (.bl true))) (by rfl) scRFrom.nd rfl rfl (by rfl) (pi_range1 (by rfl) B.range (pa_cons (pe_op op_add (pv 0) pe_int) pa_nil)) (blkOk_by (N := ["least", "followers", "reached", "paths", "path", "thing"]) (sc := defScope s_ring_from) (by decide +kernel)) (fun _ _ _ _ _ => (pg_name (i := 5) scRFrom.nd rfl (.inl rfl))) (fun _ _ _ _ _ => pts_nil) (fun _ _ _ _ _ => (pv 5)) (fun _ _ _ _ _ => pe_bl))
      (pss_cons (ps_set (i := 3) scRFrom.nd rfl (.inl rfl) (pe_lst (pa_cons (pe_lst (pa_cons (pv 0) pa_nil)) pa_nil)))
      (pss_cons (ps_while PassesOwn.never (pt_cmpR op_gt (pe_callB call_len_seq (by rfl) B.len PySem.boot_len (pa_cons (pv 3) pa_nil)) pe_int (nomark _))
        (pss_cons (ps_for PassesOwn.never rfl (pi_list (pv 3)) (pg_name (i := 4) scRFrom.nd rfl (.inl rfl))
          (pss_one (ps_if (pt_cmpR op_in_seq (pv 0) (pe_ix ix_list (pv 1) (pe_ix ix_list (pv 4) (pe_un un_neg pe_int) (fun _ _ => rfl)) (fun _ _ => rfl)) (by rfl))
            (pss_one (ps_ret (pv 4)))
            pss_nil)))
        (pss_one (ps_set (i := 3) scRFrom.nd rfl (.inl rfl) (pe_call G_longer_paths hr (by rfl) T_longer_paths.g T_longer_paths.F.kp T_longer_paths.b .nil pass0 (pa_cons (pv 3) (pa_cons (pv 1) (pa_cons (pv 2) pa_nil))))))))
      (pss_one (ps_ret pe_non))))), ?_⟩
    -- reached
    refine ⟨_, rfl, (z : Int), 1, rfl, rfl, _, rfl, by omega, by omega, fun rd nrd => ?_⟩
    rw [show ((z : Int) + 1).toNat = z + 1 by omega]
    refine dc_range (lo := 0) (n := z + 1) (fun i G => ∃ kvs : List (Key × V), G rd = some (.dK kvs) ∧ kvs.length ≤ i ∧ (∀ u, Rk kvs u ↔ (0 ≤ u ∧ u < i)) ∧ Same H G) ⟨[], upd_same, Nat.le_refl _, fun u => ⟨fun h => absurd h (by unfold Rk; rw [valV_nil]; decide), fun h => absurd h (by omega)⟩, same_new nrd⟩ (fun i G hi hP => ?_) (fun G hP => ?_)
    · obtain ⟨kvs, hk, hkl, hku, sG⟩ := hP
      refine ⟨rfl, _, rfl, kvs, Sum.inl (0 + (i : Int)), rfl, hk, line_lt (by omega), putK kvs (Sum.inl (0 + (i : Int))) (.bl true), upd_same, Nat.le_trans (length_putK _ _ _) (by omega), fun u => ?_, fun b o e => ?_⟩
      · rw [Rk_put, hku u]
        omega
      · rw [upd_ne (ne_of_none e nrd)]
        exact sG _ _ e
    obtain ⟨kvs, hk, hkl, hku, sG⟩ := hP
    -- paths
    refine ⟨_, rfl, line_small (by show 1 ≤ 16777216; decide), fun e1 ne1 => ⟨line_small (by show 1 ≤ 16777216; decide), fun lp nlp => ?_⟩⟩
    have s1 := (same_new (o := .lst [.int (z : Int)]) ne1).trans (same_new (o := .lst [.ref e1]) nlp)
    have he1 := same_new (o := .lst [.ref e1]) nlp e1 (.lst [.int (z : Int)]) upd_same
    have hlp : (upd (upd G e1 (.lst [.int (z : Int)])) lp (.lst [.ref e1])) lp = _ := upd_same
    generalize upd (upd G e1 (.lst [.int (z : Int)])) lp (.lst [.ref e1]) = G1 at s1 he1 hlp ⊢
    have s01 := sG.trans s1
    have nlfr : lf ≠ rd := fun e => by rw [e, nrd] at hlf; cases hlf
    have hne1 : H e1 = none := sG.free ne1
    have hu0 : unr n kvs + (z + 1) ≤ n := unr_le (fun u h0 h1 => (hku u).mpr ⟨h0, h1⟩) (by omega)
    refine ⟨fun mm σ G => ∃ (k : Nat) (PP : List (List Int)) (Rb : Int → Prop) (kv : List (Key × V)) (lp : Addr) (ps : List Addr) (y4 : Option V), (2 * unr n kv + PP.length.min 1) = mm ∧ σ = [some (.int (z : Int)), some (.ref lf), some (.ref rd), some (.ref lp), y4, none] ∧ BInv (flw n rs) (z : Int) k PP Rb (Rn kv) ∧ G lp = some (.lst (ps.map V.ref)) ∧ LL G ps PP ∧ (∀ a ∈ ps, H a = none) ∧ G rd = some (.dK kv) ∧ kv.length + unr n kv ≤ n ∧ (PP ≠ [] → unr n kv + k + 1 ≤ n) ∧ Same H G,
      ⟨_, 0, [[(z : Int)]], (fun u => u < (z : Int)), kvs, lp, [e1], none, rfl, rfl, ?_, hlp, ⟨he1, trivial⟩, fun a ha => by rw [List.mem_singleton.mp ha]; exact hne1, s1 _ _ hk, by omega, fun _ => by omega, s01⟩, fun mm σ G hW => ?_⟩
    · refine binv0.congr fun u => ?_
      unfold Rn
      rw [hku u]
      omega
    obtain ⟨k, PP, Rb, kv, lp, ps, y4, emm, rfl, I, hlp, hLp, hps, hrd, hku, hk1, sG⟩ := hW
    have hpl := hLp.len
    refine ⟨_, rfl, lp, _, rfl, .inl (SqL.of hlp), _, 0, rfl, rfl, _, rfl, ite2 (fun c => ?_) (fun c => ?_)⟩
    · have hne : PP ≠ [] := fun e => by
        have h0 : (0 : Int) < (((ps.map V.ref).length : Nat) : Int) := of_decide_eq_true c
        rw [List.length_map, hpl, e] at h0
        exact absurd h0 (by decide)
      refine ⟨_, fun σ' H' h => h, ?_⟩
      have hlfG := sG _ _ hlf
      refine ⟨_, rfl, lp, rfl, ⟨_, SqL.of hlp⟩, ?_⟩
      refine for_list (xs := ps.map V.ref) (fun i σ G' => ∃ y4 : Option V, σ = [some (.int (z : Int)), some (.ref lf), some (.ref rd), some (.ref lp), y4, none] ∧ (∀ p ∈ PP.take i, (z : Int) ∉ flw n rs (p.getLastD 0)) ∧ G' = G) ⟨_, rfl, fun p h => absurd h (by rw [List.take_zero]; exact List.not_mem_nil), rfl⟩ (fun i σ G' _ hW => by obtain ⟨_, _, _, rfl⟩ := hW; exact SqL.of hlp) (fun i x σ G' hx hW => ?_) (fun σ G' hW => ?_)
      · obtain ⟨y4, rfl, hno, rfl⟩ := hW
        obtain ⟨a, ea, rfl⟩ := ref_at_inv hx
        obtain ⟨p, ep, ha⟩ := hLp.get ea
        obtain ⟨v, hw, _⟩ := I.a p (List.mem_of_getElem? ep)
        have hvb := wk_bound (by omega) hw
        obtain ⟨vn, rfl⟩ : ∃ vn : Nat, v = (vn : Int) := ⟨v.toNat, by omega⟩
        obtain ⟨b, eb⟩ : ∃ b, fs[vn]? = some b := ⟨fs[vn]'(by omega), List.getElem?_eq_getElem (by omega)⟩
        obtain ⟨fr, efr, hb0⟩ := hLf.get eb
        rw [flM_at (show vn < n by omega)] at efr
        have efr2 := Option.some.inj efr
        subst efr2
        have hb := sG _ _ hb0
        have la := last_at hw.len
        rw [hw.last] at la
        refine ⟨_, rfl, _, rfl, _, rfl, 1, rfl, a, _, _, _, rfl, rfl, SqL.of ha, la, lf, _, _, _, rfl, rfl, SqL.of hlfG, at_of (j := vn) rfl (ref_at eb), b, _, rfl, .inl (SqL.of hb), rfl, flat_ints _, _, rfl, ?_⟩
        show if inV (.int (z : Int)) ((flw n rs (vn : Int)).map V.int) = true then _ else _
        rw [inV_int]
        by_cases cz : (z : Int) ∈ flw n rs (vn : Int)
        · rw [decide_eq_true cz, if_pos rfl]
          refine ⟨_, rfl, q1 a p G' (hps a (List.mem_of_getElem? ea)) ha ?_ (by rw [hw.len]; have := hk1 hne; omega) sG⟩
          obtain ⟨hi, e3⟩ := List.getElem?_eq_some_iff.mp ep
          refine binv_some I (P1 := PP.take i) (P2 := PP.drop (i + 1)) ?_ hno (by rw [hw.last]; exact cz)
          rw [← e3, ← List.drop_eq_getElem_cons hi, List.take_append_drop]
        · rw [decide_eq_false cz, if_neg (by decide)]
          refine ⟨_, rfl, fun p' hp' => ?_, rfl⟩
          rw [take_more' ep] at hp'
          rcases List.mem_append.mp hp' with h | h
          · exact hno p' h
          · rw [List.mem_singleton.mp h, hw.last]
            exact cz
      · obtain ⟨y4, rfl, hno, rfl⟩ := hW
        rw [List.length_map, hpl, List.take_length] at hno
        have hk1' := hk1 hne
        refine ⟨_, rfl, _, rfl, _, rfl, lp, lf, rd, ps, fs, PP, n, k, rs, kv, rfl, hn, hlp, hLp, hlfG, hLf.same sG, hrd, hku, by omega, fun p hp => ?_, I.b, fun l' as' P' kvs' H' nl' nas' nlr nda hl' hL' hrd' hku' hun hS kp => ?_⟩
        · obtain ⟨v, hw, _⟩ := I.a p hp
          have hvb := wk_bound (by omega) hw
          rw [hw.last]
          exact ⟨hw.len, hvb.1, hvb.2⟩
        · have hS2 := step_neg hS
          have I2 := binv_step I hno hS2
          refine ⟨2 * unr n kvs' + P'.length.min 1, ?_, k + 1, P', Rn kv, kvs', l', as', y4, rfl, rfl, I2, hl', hL', fun a ha => sG.free (nas' a ha), hrd', hku', fun hne' => ?_, fun b o e => kp b o (sG b o e) (ne_of_none e nrd)⟩
          · have hm1 : PP.length.min 1 = 1 := by
              have : 0 < PP.length := List.length_pos_iff.mpr hne
              show min PP.length 1 = 1
              omega
            rw [← emm, hm1]
            by_cases cP : P' = []
            · subst cP
              have hle : unr n kvs' ≤ unr n kv := by
                unfold unr
                refine filt_le fun u _ hu => ?_
                have hr := hS.r u
                cases hv : valV kv (Sum.inl u) with
                | none => rfl
                | some y =>
                  have h1 : Rk kv u := by unfold Rk; rw [hv]; rfl
                  have h2 := hr.mpr (.inl h1)
                  unfold Rk at h2
                  cases hv2 : valV kvs' (Sum.inl u) with
                  | none => rw [hv2] at h2; cases h2
                  | some y2 => rw [hv2] at hu; cases hu
              show 2 * unr n kvs' + 0 < _
              omega
            · have h1 := hun cP
              have h2 : P'.length.min 1 ≤ 1 := Nat.min_le_right _ _
              omega
          · have h1 := hun hne'
            omega
    · have hnil : PP = [] := by
        apply List.eq_nil_of_length_eq_zero
        have h0 : ¬ (0 : Int) < (((ps.map V.ref).length : Nat) : Int) := fun h => c (decide_eq_true h)
        rw [List.length_map, hpl] at h0
        omega
      subst hnil
      exact q0 G (binv_none I) sG
theorem scRing : FnScope ["poll", "n", "followers", "best", "least", "ring"] ["poll"] (defScope s_ring_of) := ⟨rfl, rfl, rfl, by decide +kernel, rfl, by decide +kernel, by decide +kernel⟩
set_option maxHeartbeats 4000000 in
theorem ok_ring {f f1 f2 f3 f4 : Addr} {fd d1 d2 d3 d4 : FuncData} {k : Nat} {t1 : Tok} (T : Df K mg "ring_of" s_ring_of ["poll"] f fd) (T_check_poll : Df K mg "check_poll" s_check_poll ["thing"] f1 d1) (T_check_few : Df K mg "check_few" s_check_few ["n", "most"] f2 d2) (T_mostly_behind : Df K mg "mostly_behind" s_mostly_behind ["poll"] f3 d3) (T_ring_from : Df K mg "ring_from" s_ring_from ["least", "followers"] f4 d4) (G_check_poll : FnOk P w K mg base CX0 k f1 d1 ["thing"] spCPoll) (G_check_few : FnOk P w K mg base CX0 k f2 d2 ["n", "most"] spFew) (G_mostly_behind : FnOk P w K mg base CX0 k f3 d3 ["poll"] spMBeh) (G_ring_from : FnOk P w K mg base CX0 k f4 d4 ["least", "followers"] spRFrom) (B : Bi mg) (mB : mg "MOST_BY_PAIRS" = some (.int 9 t1)) : FnOk P w K mg base CX0 (k + 1) f fd ["poll"] spRing := by
  refine T.F.ok scRing (fun vs H Q E h => ?_) (fun cdv A outer s H vs Q E hr h => ?_)
  · obtain ⟨l, as, rs, n, rfl, _⟩ := h
    rfl
  · obtain ⟨l, as, rs, n, rfl, hO, h1, h2, hn9, q0, q1⟩ := h
    have hal := hO.ll.len
    refine ⟨_, 
      (pss_cons (ps_expr (pe_call G_check_poll hr (by rfl) T_check_poll.g T_check_poll.F.kp T_check_poll.b .nil pass0 (pa_cons (pv 0) pa_nil)))
      (pss_cons (ps_set (i := 1) scRing.nd rfl (.inl rfl) (pe_callB call_len_seq (by rfl) B.len PySem.boot_len (pa_cons (pe_ix ix_list (pv 0) pe_int (fun _ _ => rfl)) pa_nil)))
      (pss_cons (ps_expr (pe_call G_check_few hr (by rfl) T_check_few.g T_check_few.F.kp T_check_few.b .nil pass0 (pa_cons (pv 1) (pa_cons (pe_glob (v := .int 9) (by rfl) mB ⟨_, rfl⟩) pa_nil))))
      (pss_cons (ps_set (i := 2) scRing.nd rfl (.inl rfl) (pe_call G_mostly_behind hr (by rfl) T_mostly_behind.g T_mostly_behind.F.kp T_mostly_behind.b .nil pass0 (pa_cons (pv 0) pa_nil)))
      (pss_cons (ps_set (i := 3) scRing.nd rfl (.inl rfl) pe_non)
      (pss_cons (ps_for PassesOwn.never rfl (pi_range1 (by rfl) B.range (pa_cons (pv 1) pa_nil)) (pg_name (i := 4) scRing.nd rfl (.inl rfl))
        (pss_cons (ps_set (i := 5) scRing.nd rfl (.inl rfl) (pe_call G_ring_from hr (by rfl) T_ring_from.g T_ring_from.F.kp T_ring_from.b .nil pass0 (pa_cons (pv 4) (pa_cons (pv 2) pa_nil))))
        (pss_one (ps_if (PW.pt (pw_and (pt_cmpR op_notN (pv 5) pe_non (nomark _)) (pw_and1 (PW.pt (pw_or (pt_cmpR op_isN (pv 3) pe_non (nomark _)) (pw_or1 (pt_cmpR op_lt (pe_callB call_len_seq (by rfl) B.len PySem.boot_len (pa_cons (pv 5) pa_nil)) (pe_callB call_len_seq (by rfl) B.len PySem.boot_len (pa_cons (pv 3) pa_nil)) (nomark _))))))))
          (pss_one (ps_set (i := 3) scRing.nd rfl (.inl rfl) (pv 5)))
          pss_nil))))
      (pss_one (ps_ret (pv 3))))))))), ?_⟩
    refine ⟨_, rfl, l, as, rs, n, rfl, hO, h1, h2, fun H1 s1 => ?_⟩
    have hO1 := hO.same s1
    obtain ⟨a0, ea0⟩ : ∃ a0, as[0]? = some a0 := ⟨as[0]'(by omega), List.getElem?_eq_getElem (by omega)⟩
    obtain ⟨r0, er0, ha0⟩ := hO1.ll.get ea0
    have lr0 : (r0.map V.int).length = n := by rw [List.length_map]; exact (hO.ord r0 (List.mem_of_getElem? er0)).len
    refine ⟨_, rfl, l, _, 0, _, rfl, rfl, SqL.of hO1.top, at_of (j := 0) rfl (ref_at ea0), a0, _, rfl, .inl (SqL.of ha0), ?_⟩
    rw [lr0]
    refine ⟨_, rfl, (n : Int), 9, rfl, by omega, ?_⟩
    refine ⟨_, rfl, l, as, rs, n, rfl, hO1, h1, by omega, fun lf fs H2 hlf hLf s2 => ?_⟩
    have s02 := s1.trans s2
    refine ⟨_, rfl, n, rfl, by omega, by omega, ?_⟩
    rw [Int.toNat_natCast]
    refine for_range (n := n) (fun i σ G => ∃ (y4 y5 : Option V) (v3 : V), σ = [some (.ref l), some (.int n), some (.ref lf), some v3, y4, y5] ∧ ((v3 = .non ∧ ∀ z : Nat, z < i → RingAt (flw n rs) (z : Int) none) ∨ ∃ (g : Addr) (p : List Int) (z : Nat), v3 = .ref g ∧ H g = none ∧ G g = some (.lst (p.map V.int)) ∧ z < i ∧ RingAt (flw n rs) (z : Int) (some p) ∧ p.length ≤ n ∧ (∀ z' : Nat, z' < i → ∀ p', RingAt (flw n rs) (z' : Int) (some p') → p.length < p'.length ∨ (p.length = p'.length ∧ z ≤ z')) ∧ ∀ z' : Nat, z' < i → RingAt (flw n rs) (z' : Int) none ∨ ∃ p', RingAt (flw n rs) (z' : Int) (some p')) ∧ Same H2 G)
      ⟨_, _, _, rfl, .inl ⟨rfl, fun z h => absurd h (Nat.not_lt_zero _)⟩, Same.refl _⟩ (fun i σ G hi hW => ?_) (fun σ G hW => ?_)
    · obtain ⟨y4, y5, v3, rfl, hst, sG⟩ := hW
      rw [show (0 : Int) + (i : Int) = (i : Int) by omega]
      have s0G := s02.trans sG
      refine ⟨_, rfl, _, rfl, i, lf, fs, n, rs, rfl, hi, by omega, sG _ _ hlf, hLf.same sG, fun G1 hR s3 => ?_, fun g p G1 ng hg hR hpl s3 => ?_⟩
      · -- no ring from here
        refine ⟨_, rfl, rfl, _, rfl, ite2 (fun c => absurd c (by decide)) (fun _ => ?_)⟩
        refine iteF ⟨_, _, _, rfl, ?_, sG.trans s3⟩
        rcases hst with ⟨e, hz⟩ | ⟨g, p, z, e, ng, hg, hz, hR2, hl, hm, hh⟩
        · refine .inl ⟨e, fun z h => ?_⟩
          by_cases c : z = i
          · rw [c]
            exact hR
          · exact hz z (by omega)
        · refine .inr ⟨g, p, z, e, ng, s3 _ _ hg, by omega, hR2, hl, fun z' h p' hp' => ?_, fun z' h => ?_⟩
          · by_cases c : z' = i
            · rw [c] at hp'
              exact (ring_not hR hp').elim
            · exact hm z' (by omega) p' hp'
          · by_cases c : z' = i
            · rw [c]
              exact .inl hR
            · exact hh z' (by omega)
      · -- a ring from here
        have ngH := s0G.free ng
        refine ⟨_, rfl, rfl, _, rfl, ite2 (fun _ => ?_) (fun c => absurd rfl c)⟩
        have hh2 : ∀ z' : Nat, z' < i + 1 → RingAt (flw n rs) (z' : Int) none ∨ ∃ p', RingAt (flw n rs) (z' : Int) (some p') := fun z' h => by
          by_cases c : z' = i
          · rw [c]
            exact .inr ⟨p, hR⟩
          · rcases hst with ⟨_, hz⟩ | ⟨_, _, _, _, _, _, _, _, _, _, hh⟩
            · exact .inl (hz z' (by omega))
            · exact hh z' (by omega)
        rcases hst with ⟨rfl, hz⟩ | ⟨g2, p2, z, rfl, ng2, hg2, hz, hR2, hl2, hm, _⟩
        · refine ⟨_, rfl, rfl, _, rfl, ite2 (fun _ => ?_) (fun c => absurd (decide_eq_true rfl) c)⟩
          refine ⟨_, rfl, _, _, _, rfl, .inr ⟨g, p, i, rfl, ngH, hg, by omega, hR, hpl, fun z' h p' hp' => ?_, hh2⟩, sG.trans s3⟩
          by_cases c : z' = i
          · rw [c] at hp'
            rw [hR.uniq (o := none) hp']
            exact .inr ⟨rfl, by omega⟩
          · exact (ring_not (hz z' (by omega)) hp').elim
        · refine ⟨_, rfl, rfl, _, rfl, ite2 (fun c => by cases of_decide_eq_true c) (fun _ => ?_)⟩
          refine ⟨_, rfl, g, _, rfl, .inl (SqL.of hg), _, rfl, g2, _, rfl, .inl (SqL.of (s3 _ _ hg2)), _, _, rfl, rfl, _, rfl, ite2 (fun c => ?_) (fun c => ?_)⟩
          · have hlt : p.length < p2.length := by
              have := of_decide_eq_true c
              rw [List.length_map, List.length_map] at this
              omega
            refine ⟨_, rfl, _, _, _, rfl, .inr ⟨g, p, i, rfl, ngH, hg, by omega, hR, hpl, fun z' h p' hp' => ?_, hh2⟩, sG.trans s3⟩
            by_cases cz : z' = i
            · rw [cz] at hp'
              rw [hR.uniq (o := none) hp']
              exact .inr ⟨rfl, by omega⟩
            · rcases hm z' (by omega) p' hp' with h | h
              · exact .inl (by omega)
              · exact .inl (by omega)
          · have hge : ¬ p.length < p2.length := fun h => c (decide_eq_true (by rw [List.length_map, List.length_map]; omega))
            refine ⟨_, _, _, rfl, .inr ⟨g2, p2, z, rfl, ng2, s3 _ _ hg2, by omega, hR2, hl2, fun z' h p' hp' => ?_, hh2⟩, sG.trans s3⟩
            by_cases cz : z' = i
            · rw [cz] at hp'
              rw [← hR.uniq (o := none) hp']
              by_cases ce : p2.length < p.length
              · exact .inl ce
              · exact .inr ⟨by omega, by omega⟩
            · exact hm z' (by omega) p' hp'
    · obtain ⟨y4, y5, v3, rfl, hst, sG⟩ := hW
      rcases hst with ⟨rfl, hz⟩ | ⟨g, p, z, rfl, ng, hg, hz, hR, hl, hm, hh⟩
      · exact ⟨_, rfl, q0 G hz (s02.trans sG)⟩
      · exact ⟨_, rfl, q1 g p z G ng hg hz hR hl hm hh (s02.trans sG)⟩
end
end Fo
namespace Fo
open PySem PySem.Spec PyProof.Rows L2
theorem aN_sum (rs : List (List Int)) (i j : Int) : aN rs i j + aN rs j i ≤ rs.length := by
  unfold aN
  induction rs with
  | nil => exact Int.le_refl _
  | cons r rs ih =>
    rw [List.filter_cons, List.filter_cons, List.length_cons]
    by_cases c : pos r i < pos r j
    · have c2 : ¬ pos r j < pos r i := by omega
      rw [decide_eq_true c, decide_eq_false c2]
      simp only [if_true, List.length_cons, Bool.false_eq_true, if_false]
      omega
    · rw [decide_eq_false c]
      by_cases c2 : pos r j < pos r i
      · rw [decide_eq_true c2]
        simp only [if_true, List.length_cons, Bool.false_eq_true, if_false]
        omega
      · rw [decide_eq_false c2]
        simp only [Bool.false_eq_true, if_false]
        omega
theorem fl_self (n : Nat) (rs : List (List Int)) (z : Int) : z ∉ flw n rs z := by
  intro h
  have := of_decide_eq_true (List.mem_filter.mp h).2
  rw [aN_self] at this
  omega
theorem fl_asym {n : Nat} {rs : List (List Int)} {x y : Int} (h : y ∈ flw n rs x) : x ∉ flw n rs y := by
  intro h2
  have h1 := of_decide_eq_true (List.mem_filter.mp h).2
  have h3 := of_decide_eq_true (List.mem_filter.mp h2).2
  have := aN_sum rs x y
  omega
theorem fl_dom {n : Nat} {rs : List (List Int)} (ho : ∀ r ∈ rs, IsOrd n r) {x y : Int} (h : y ∈ flw n rs x) : 0 ≤ x ∧ x < n := by
  by_cases c : 0 ≤ x ∧ x < n
  · exact c
  · exfalso
    have h1 := of_decide_eq_true (List.mem_filter.mp h).2
    have e : aN rs x y = 0 := by
      unfold aN
      rw [List.filter_eq_nil_iff.mpr]
      · rfl
      · intro r hr
        have hx : x ∉ r := fun hm => c ((ho r hr).mem hm)
        have e1 : pos r x = (r.length : Int) := by
          unfold pos
          rw [List.idxOf_eq_length hx]
        have e2 : pos r y ≤ (r.length : Int) := by
          unfold pos
          have := List.idxOf_le_length (a := y) (l := r)
          omega
        simp
        omega
    omega
/-- no ring of fewer than three -/
theorem no_short {n : Nat} {rs : List (List Int)} {z : Int} {k : Nat} (hk : k < 2) {w : List Int} {v : Int} (h : Wk (flw n rs) z k w v) : z ∉ flw n rs v := by
  match k, hk, h with
  | 0, _, h =>
    obtain ⟨_, rfl⟩ := h.zero
    exact fl_self n rs v
  | 1, _, h =>
    obtain ⟨p', v', _, h', hv, _⟩ := h.succ
    obtain ⟨_, rfl⟩ := h'.zero
    exact fl_asym hv
def rgF (lo : Int) (n : Nat) : List Int := (List.range ((n : Int) - lo).toNat).map fun i => lo + ((i : Nat) : Int)
theorem rgF_mem {lo : Int} {n : Nat} {x : Int} : x ∈ rgF lo n ↔ lo ≤ x ∧ x < n := by
  unfold rgF
  rw [List.mem_map]
  constructor
  · rintro ⟨i, hi, rfl⟩
    have := List.mem_range.mp hi
    omega
  · rintro ⟨h1, h2⟩
    exact ⟨(x - lo).toNat, List.mem_range.mpr (by omega), by omega⟩
/-- the sets from behind, as the law makes them -/
def bkL (n : Nat) (fl : Int → List Int) (z : Int) (size : Nat) : Nat → List Int
  | 0 => [z]
  | t + 1 => (rgF (z + (if t + 1 < size then 1 else 0)) n).filter fun x => (bkL n fl z size t).any fun y => decide (y ∈ fl x)
theorem bk_mem {n : Nat} {fl : Int → List Int} {z : Int} {size : Nat} (hd : ∀ x y, y ∈ fl x → x < n) : ∀ t < size, ∀ x, x ∈ bkL n fl z size t ↔ Bw fl z t x
  | 0, _, x => by
    constructor
    · intro h
      rw [List.mem_singleton.mp h]
      exact .nil
    · intro h
      cases h
      exact List.mem_singleton.mpr rfl
  | t + 1, ht, x => by
    have ih := bk_mem (n := n) (fl := fl) (z := z) (size := size) hd t (by omega)
    show x ∈ (rgF (z + (if t + 1 < size then 1 else 0)) n).filter _ ↔ _
    rw [List.mem_filter, if_pos ht, rgF_mem, List.any_eq_true]
    constructor
    · rintro ⟨⟨h1, h2⟩, y, hy, hxy⟩
      exact .cons ((ih y).mp hy) (of_decide_eq_true hxy) (by omega)
    · intro h
      cases h with
      | @cons _ _ y hb hy hz => exact ⟨⟨by omega, hd x y hy⟩, y, (ih y).mpr hb, decide_eq_true hy⟩
theorem bk_close {n : Nat} {fl : Int → List Int} {z : Int} {size : Nat} (hd : ∀ x y, y ∈ fl x → x < n) (hz : z < n) (hs : 1 ≤ size) : z ∈ bkL n fl z size size ↔ ∃ y, Bw fl z (size - 1) y ∧ y ∈ fl z := by
  obtain ⟨t, rfl⟩ : ∃ t, size = t + 1 := ⟨size - 1, by omega⟩
  show z ∈ (rgF (z + (if t + 1 < t + 1 then 1 else 0)) n).filter _ ↔ _
  rw [List.mem_filter, if_neg (Nat.lt_irrefl _), rgF_mem, List.any_eq_true]
  constructor
  · rintro ⟨_, y, hy, hzy⟩
    exact ⟨y, (bk_mem hd t (by omega) y).mp hy, of_decide_eq_true hzy⟩
  · rintro ⟨y, hb, hy⟩
    exact ⟨⟨by omega, hz⟩, y, (bk_mem hd t (by omega) y).mpr hb, decide_eq_true hy⟩
theorem closed_behind {fl : Int → List Int} {z : Int} {k : Nat} {w : List Int} {v : Int} (hk : 1 ≤ k) (h : Wk fl z k w v) (hz : z ∈ fl v) : ∃ y, Bw fl z k y ∧ y ∈ fl z := by
  have hv : z < v := by
    cases h with
    | nil => omega
    | snoc _ _ h3 => exact h3
  obtain ⟨x, ex, hx⟩ := h.behind (t := 1) (.cons .nil hz hv) 1 hk (.inr (.inr trivial))
  obtain ⟨a, b, ea, eb, hab⟩ := h.arc 0 (by omega)
  rw [h.first] at ea
  have e1 := Option.some.inj ea
  subst e1
  rw [eb] at ex
  have e2 := Option.some.inj ex
  subst e2
  have := hx (Nat.le_refl _)
  rw [show 1 + (k - 1) = k by omega] at this
  exact ⟨b, this, hab⟩
/-- the answer of ring_of and the law's are one -/
structure DueAt (n : Nat) (fl : Int → List Int) (k z : Nat) (p : List Int) : Prop where
  k2 : 2 ≤ k
  kn : k < n
  zn : z < n
  wk : ∃ v, Wk fl (z : Int) k p v ∧ (z : Int) ∈ fl v
  le : ∀ w u, Wk fl (z : Int) k w u → (z : Int) ∈ fl u → p ≤ w
  no : ∀ k' z' : Nat, 2 ≤ k' → z' < n → (k' < k ∨ (k' = k ∧ z' < z)) → ∀ w v, Wk fl (z' : Int) k' w v → (z' : Int) ∉ fl v
theorem ring_none {n : Nat} {rs : List (List Int)} (h : ∀ z : Nat, z < n → RingAt (flw n rs) (z : Int) none) {k z : Nat} {p : List Int} (hd : DueAt n (flw n rs) k z p) : False := by
  obtain ⟨v, h1, h2⟩ := hd.wk
  exact h z hd.zn k p v h1 h2
theorem ring_due {n : Nat} {rs : List (List Int)} {z0 : Nat} {q : List Int} (hz0 : z0 < n) (hq : RingAt (flw n rs) (z0 : Int) (some q)) (hql : q.length ≤ n) (hm : ∀ z' : Nat, z' < n → ∀ p', RingAt (flw n rs) (z' : Int) (some p') → q.length < p'.length ∨ (q.length = p'.length ∧ z0 ≤ z'))
    (hall : ∀ z : Nat, z < n → RingAt (flw n rs) (z : Int) none ∨ ∃ p, RingAt (flw n rs) (z : Int) (some p)) : (∀ {k z : Nat} {p : List Int}, DueAt n (flw n rs) k z p → p = q) ∧ ¬ ∀ k z : Nat, 2 ≤ k → k < n → z < n → ∀ w v, Wk (flw n rs) (z : Int) k w v → (z : Int) ∉ flw n rs v := by
  have hq' := hq
  obtain ⟨k0, v0, w0, c0, n0, l0⟩ := hq'
  have lq := w0.len
  have hk2 : 2 ≤ k0 := by
    by_cases c : k0 < 2
    · exact absurd c0 (no_short c w0)
    · omega
  refine ⟨fun {k z p} hd => ?_, fun hno => hno k0 z0 hk2 (by omega) hz0 q v0 w0 c0⟩
  obtain ⟨v, h1, h2⟩ := hd.wk
  -- the ring from z is no longer than p, the best no longer than that
  obtain ⟨p2, hp2⟩ : ∃ p2, RingAt (flw n rs) (z : Int) (some p2) := by
    rcases hall z hd.zn with h | h
    · exact absurd h2 (h k p v h1)
    · exact h
  have hp2' := hp2
  obtain ⟨k2, v2, w2, c2, n2, l2⟩ := hp2'
  have lp2 := w2.len
  have hk : k2 ≤ k := by
    by_cases c : k < k2
    · exact absurd h2 (n2 k c p v h1)
    · omega
  have hle : k0 ≤ k2 ∧ (k0 = k2 → z0 ≤ z) := by
    rcases hm z hd.zn p2 hp2 with h | h
    · exact ⟨by omega, fun e => by omega⟩
    · exact ⟨by omega, fun _ => h.2⟩
  have hno := hd.no k0 z0 hk2 hz0
  have hk3 : k0 = k ∧ z0 = z := by
    by_cases c1 : k0 < k
    · exact absurd c0 (hno (.inl c1) q v0 w0)
    · have e : k0 = k := by omega
      by_cases c2 : z0 < z
      · exact absurd c0 (hno (.inr ⟨e, c2⟩) q v0 w0)
      · have := hle.2 (by omega)
        exact ⟨e, by omega⟩
  obtain ⟨rfl, rfl⟩ := hk3
  exact List.le_antisymm (hd.le q v0 w0 c0) (l0 p v h1 h2)
end Fo
namespace Fo
open PySem PySem.Spec PyProof.Rows L2
/-! pairs of things, told by a dict keyed by them -/
abbrev kk (i j : Int) : List Key := [Sum.inl i, Sum.inl j]
def tk (rs : List (List Int)) (ps : List (Int × Int)) : List (List Key × V) := ps.map fun p => (kk p.1 p.2, V.int (aN rs p.1 p.2))
def pre (f : Nat → List (Int × Int)) (i : Nat) : List (Int × Int) := (List.range i).flatMap f
theorem pre_succ (f : Nat → List (Int × Int)) (i : Nat) : pre f (i + 1) = pre f i ++ f i := by
  unfold pre
  rw [List.range_succ, List.flatMap_append, List.flatMap_cons, List.flatMap_nil, List.append_nil]
theorem pre_len {f : Nat → List (Int × Int)} {m : Nat} (h : ∀ u, (f u).length ≤ m) : ∀ i : Nat, (pre f i).length ≤ i * m
  | 0 => Nat.zero_le _
  | i + 1 => by
    have := pre_len h i
    have := h i
    rw [pre_succ, List.length_append, Nat.add_mul]
    omega
def upR (n i : Nat) : List (Int × Int) := (List.range (n - (i + 1))).map fun u => ((i : Int), ((i + 1 + u : Nat) : Int))
def alR (n i : Nat) : List (Int × Int) := (List.range n).map fun (j : Nat) => ((i : Int), (j : Int))
def prR (j : Nat) : List (Int × Int) := (List.range j).map fun (i : Nat) => ((i : Int), (j : Int))
def upP (n : Nat) : List (Int × Int) := pre (upR n) n
def alP (n : Nat) : List (Int × Int) := pre (alR n) n
def prP (n : Nat) : List (Int × Int) := pre prR n
theorem up_facts : ∀ n, n < 13 → (upP n).Nodup ∧ (alP n).filter (fun p => decide (p.1 < p.2)) = upP n ∧ (prP n).Perm (upP n) ∧ (upP n).length ≤ 144 ∧ (alP n).length ≤ 144 := by decide +kernel
theorem up_mem {n : Nat} {p : Int × Int} (h : p ∈ upP n) : 0 ≤ p.1 ∧ p.1 < p.2 ∧ p.2 < n := by
  unfold upP pre at h
  obtain ⟨i, hi, h⟩ := List.mem_flatMap.mp h
  obtain ⟨u, hu, rfl⟩ := List.mem_map.mp h
  have := List.mem_range.mp hi
  have := List.mem_range.mp hu
  show 0 ≤ (i : Int) ∧ (i : Int) < ((i + 1 + u : Nat) : Int) ∧ ((i + 1 + u : Nat) : Int) < n
  omega
theorem kk_inj {a b c d : Int} (h : kk a b = kk c d) : a = c ∧ b = d := ⟨Sum.inl.inj (List.head_eq_of_cons_eq h), Sum.inl.inj (List.head_eq_of_cons_eq (List.tail_eq_of_cons_eq h))⟩
theorem tk_none {rs : List (List Int)} {ps : List (Int × Int)} {p : Int × Int} (h : p ∉ ps) : valV (tk rs ps) (kk p.1 p.2) = none := by
  induction ps with
  | nil => rfl
  | cons q ps ih =>
    show valV ((kk q.1 q.2, V.int (aN rs q.1 q.2)) :: tk rs ps) _ = none
    rw [valV_neg (fun e => h (by obtain ⟨e1, e2⟩ := kk_inj e; rw [show p = q from Prod.ext e1.symm e2.symm]; exact List.mem_cons_self))]
    exact ih fun m => h (List.mem_cons_of_mem _ m)
theorem tk_get {rs : List (List Int)} {ps : List (Int × Int)} {p : Int × Int} (h : p ∈ ps) : valV (tk rs ps) (kk p.1 p.2) = some (.int (aN rs p.1 p.2)) := by
  induction ps with
  | nil => cases h
  | cons q ps ih =>
    show valV ((kk q.1 q.2, V.int (aN rs q.1 q.2)) :: tk rs ps) _ = _
    by_cases e : q = p
    · subst e
      rw [valV_pos rfl]
    · rw [valV_neg (fun z => e (by obtain ⟨e1, e2⟩ := kk_inj z; exact Prod.ext e1 e2))]
      rcases List.mem_cons.mp h with z | z
      · exact absurd z.symm e
      · exact ih z
theorem tk_put {rs : List (List Int)} {ps : List (Int × Int)} {p : Int × Int} (h : p ∉ ps) : putK (tk rs ps) (kk p.1 p.2) (.int (aN rs p.1 p.2)) = tk rs (ps ++ [p]) := by
  rw [putK_new _ (tk_none h)]
  unfold tk
  rw [List.map_append]
  rfl
theorem tk_merge {rs : List (List Int)} : ∀ (ps qs : List (Int × Int)), (qs ++ ps).Nodup → mergeT (tk rs qs) (tk rs ps) = tk rs (qs ++ ps)
  | [], qs, _ => by rw [List.append_nil]; rfl
  | p :: ps, qs, h => by
    have hp : p ∉ qs := fun m => (List.nodup_append.mp h).2.2 p m p List.mem_cons_self rfl
    show mergeT (putK (tk rs qs) (kk p.1 p.2) (.int (aN rs p.1 p.2))) (tk rs ps) = _
    have e : qs ++ p :: ps = (qs ++ [p]) ++ ps := by rw [List.append_assoc]; rfl
    rw [tk_put hp, e]
    exact tk_merge ps _ (by rw [← e]; exact h)
theorem tk_at {rs : List (List Int)} {ps : List (Int × Int)} {i : Nat} {k : List Key} {v : V} (h : (tk rs ps)[i]? = some (k, v)) : ∃ p, ps[i]? = some p ∧ k = kk p.1 p.2 ∧ v = .int (aN rs p.1 p.2) := by
  unfold tk at h
  rw [List.getElem?_map] at h
  obtain ⟨p, hp, e⟩ := Option.map_eq_some_iff.mp h
  cases e
  exact ⟨p, hp, rfl, rfl⟩
theorem tk_len {rs : List (List Int)} {ps : List (Int × Int)} : (tk rs ps).length = ps.length := List.length_map _
theorem pre_fresh {n i j : Nat} (lo : Nat) (f : Nat → List (Int × Int)) (hf : ∀ u, ∀ p ∈ f u, p.1 = (u : Int)) (g : Nat → Int) (hg : ∀ u, g u = ((lo + u : Nat) : Int)) :
    ((i : Int), g j) ∉ pre f i ++ (List.range j).map fun u => ((i : Int), g u) := by
  intro m
  rcases List.mem_append.mp m with m | m
  · obtain ⟨u, hu, m⟩ := List.mem_flatMap.mp m
    have := hf u _ m
    have := List.mem_range.mp hu
    have : (i : Int) = (u : Int) := by assumption
    omega
  · obtain ⟨u, hu, e⟩ := List.mem_map.mp m
    have := List.mem_range.mp hu
    have e2 : g u = g j := (Prod.mk.inj e).2
    rw [hg, hg] at e2
    omega
theorem aN_flip {n : Nat} {rs : List (List Int)} (ho : ∀ r ∈ rs, IsOrd n r) {i j : Int} (hi : 0 ≤ i) (hi2 : i < n) (hj : 0 ≤ j) (hj2 : j < n) (ne : i ≠ j) : aN rs j i = (rs.length : Int) - aN rs i j := by
  unfold aN
  induction rs with
  | nil => rfl
  | cons r rs ih =>
    have ih := ih fun r m => ho r (List.mem_cons_of_mem _ m)
    have orr := ho r List.mem_cons_self
    have hne : pos r i ≠ pos r j := fun e => ne (pos_inj orr (rg_mem.mpr ⟨hi, hi2⟩) (rg_mem.mpr ⟨hj, hj2⟩) e)
    rw [List.filter_cons, List.filter_cons, List.length_cons]
    by_cases c : pos r i < pos r j
    · rw [decide_eq_true c, decide_eq_false (show ¬ pos r j < pos r i by omega)]
      simp only [if_true, List.length_cons, Bool.false_eq_true, if_false]
      omega
    · rw [decide_eq_false c, decide_eq_true (show pos r j < pos r i by omega)]
      simp only [if_true, List.length_cons, Bool.false_eq_true, if_false]
      omega
theorem aN_bd (rs : List (List Int)) (i j : Int) : 0 ≤ aN rs i j ∧ aN rs i j ≤ rs.length := by
  unfold aN
  have := List.length_filter_le (fun r => decide (pos r i < pos r j)) rs
  omega
def mn (a b : Int) : Int := if b < a then b else a
/-- the sum over all pairs of the rarer way round -/
def psum (n : Nat) (rs : List (List Int)) : Int := ((prP n).map fun p => mn (aN rs p.1 p.2) (aN rs p.2 p.1)).sum
theorem sumPm66 {l m : List Int} (h : l.Perm m) : l.sum = m.sum := by
  induction h with
  | nil => rfl
  | cons x _ ih => rw [List.sum_cons, List.sum_cons, ih]
  | swap x y l => rw [List.sum_cons, List.sum_cons, List.sum_cons, List.sum_cons]; omega
  | trans _ _ h1 h2 => rw [h1, h2]
theorem psum_up {n : Nat} {rs : List (List Int)} (hn : n ≤ 12) (ho : ∀ r ∈ rs, IsOrd n r) : ((upP n).map fun p => mn (aN rs p.1 p.2) ((rs.length : Int) - aN rs p.1 p.2)).sum = psum n rs := by
  unfold psum
  have hp := (up_facts n (by omega)).2.2.1
  rw [← sumPm66 ((hp.symm).map fun p => mn (aN rs p.1 p.2) (aN rs p.2 p.1))]
  congr 1
  refine List.map_congr_left fun p m => ?_
  obtain ⟨h1, h2, h3⟩ := up_mem m
  rw [aN_flip ho h1 (by omega) (by omega) h3 (by omega)]
theorem aM_row {n : Nat} {rs : List (List Int)} {i : Nat} (h : i < n) : (aM n rs)[i]? = some ((rg n).map fun j => aN rs (i : Int) j) := by
  unfold aM
  rw [List.getElem?_map, rg_at h]
  rfl
theorem aM_cell {n : Nat} {rs : List (List Int)} {i j : Nat} (h : j < n) : (((rg n).map fun j => aN rs (i : Int) j).map V.int)[j]? = some (.int (aN rs (i : Int) (j : Int))) := by
  rw [List.getElem?_map, List.getElem?_map, rg_at h]
  rfl
/-- ahead[i][j] on the heap -/
theorem cell_at {H : Hp} {la : Addr} {as : List Addr} {n : Nat} {rs : List (List Int)} (h : H la = some (.lst (as.map V.ref))) (hL : LL H as (aM n rs)) {i j : Nat} (hi : i < n) (hj : j < n) :
    ∃ a, (as.map V.ref)[i]? = some (.ref a) ∧ H a = some (.lst (((rg n).map fun j => aN rs (i : Int) j).map V.int)) := by
  have hl := hL.len
  have ml : (aM n rs).length = n := by unfold aM; rw [List.length_map, rg_len]
  obtain ⟨a, ea⟩ : ∃ a, as[i]? = some a := ⟨_, List.getElem?_eq_getElem (by omega)⟩
  obtain ⟨r, er, ha⟩ := hL.get ea
  rw [aM_row hi] at er
  cases er
  exact ⟨a, ref_at ea, ha⟩
/-- a comprehension's first clause over a range -/
theorem lc2_rng {lo : Int} {n : Nat} {g : TG} {tt : TT} {wi1 : TI} {g1 : TG} {tt1 : TT} {te : TE} {vs vs1 : List Nat} {σ : L2.St} {H1 : Hp} {D : Addr} {Qd : Hp → Prop} (Pv : Nat → Hp → Prop) (h0 : Pv 0 (upd H1 D (.lst [])))
    (hs : ∀ i H, i < n → Pv i H → g (.int (lo + i)) (wipe σ vs) H fun σ2 H2 => wipe σ2 vs = wipe σ vs ∧ tt σ2 H2 fun b H3 =>
      if b = true then wi1 σ2 H3 fun J1 H4 => ∃ W1 : Nat → Nat → Hp → Prop, (∃ m, W1 0 m H4) ∧ ∀ j k H, W1 j k H →
        (J1.stop j H ∧ Pv (i + 1) H) ∨ (J1.go j H ∧ ∃ Nx1 : Hp → Prop, (∀ H', Nx1 H' → ∃ k', k' < k ∧ W1 (j + 1) k' H') ∧ ∀ x H', J1.yld j H x H' → g1 x (wipe σ2 vs1) H' fun σ3 H5 => wipe σ3 vs1 = wipe σ2 vs1 ∧ tt1 σ3 H5 fun b H6 =>
          if b = true then te σ3 H6 fun y H7 => ∃ acc, H7 D = some (.lst acc) ∧ acc.length < sizeLine ∧ Nx1 (upd H7 D (.lst (acc ++ [y]))) else Nx1 H6)
      else Pv (i + 1) H3) (hd : ∀ H, Pv n H → Qd H) :
    ∃ W : Nat → Nat → Hp → Prop, (∃ m, W 0 m (upd H1 D (.lst []))) ∧ ∀ i m H, W i m H →
      ((Itr lo n).stop i H ∧ Qd H) ∨ ((Itr lo n).go i H ∧ ∃ Nx : Hp → Prop, (∀ H', Nx H' → ∃ m', m' < m ∧ W (i + 1) m' H') ∧ ∀ x H', (Itr lo n).yld i H x H' → g x (wipe σ vs) H' fun σ2 H2 => wipe σ2 vs = wipe σ vs ∧ tt σ2 H2 fun b H3 =>
        if b = true then wi1 σ2 H3 fun J1 H4 => ∃ W1 : Nat → Nat → Hp → Prop, (∃ m, W1 0 m H4) ∧ ∀ j k H, W1 j k H →
          (J1.stop j H ∧ Nx H) ∨ (J1.go j H ∧ ∃ Nx1 : Hp → Prop, (∀ H', Nx1 H' → ∃ k', k' < k ∧ W1 (j + 1) k' H') ∧ ∀ x H', J1.yld j H x H' → g1 x (wipe σ2 vs1) H' fun σ3 H5 => wipe σ3 vs1 = wipe σ2 vs1 ∧ tt1 σ3 H5 fun b H6 =>
            if b = true then te σ3 H6 fun y H7 => ∃ acc, H7 D = some (.lst acc) ∧ acc.length < sizeLine ∧ Nx1 (upd H7 D (.lst (acc ++ [y]))) else Nx1 H6)
        else Nx H3) := by
  refine ⟨fun i m H => m = n - i ∧ i ≤ n ∧ Pv i H, ⟨n, by simp, Nat.zero_le _, h0⟩, ?_⟩
  rintro i m H ⟨rfl, hi, p⟩
  by_cases hlt : i < n
  · refine .inr ⟨hlt, Pv (i + 1), fun H' p' => ⟨n - (i + 1), by omega, rfl, hlt, p'⟩, fun x H' y => ?_⟩
    obtain ⟨rfl, rfl⟩ := y
    exact hs i _ hlt p
  · have e : i = n := by omega
    subst e
    exact .inl ⟨Nat.le_refl _, hd H p⟩
def spPairs : Sp := fun vs H Q _ => ∃ (l : Addr) (as : List Addr) (rs : List (List Int)) (n : Nat), vs = [.ref l] ∧ OL H l as rs n ∧ 1 ≤ rs.length ∧ rs.length ≤ 20 ∧ ∀ (d : Addr) (H' : Hp), H d = none → H' d = some (.dT (tk rs (upP n))) → Same H H' → Q (.ref d) H'
def spPSum : Sp := fun vs H Q _ => ∃ (l : Addr) (as : List Addr) (rs : List (List Int)) (n : Nat), vs = [.ref l] ∧ OL H l as rs n ∧ 1 ≤ rs.length ∧ rs.length ≤ 20 ∧ ∀ (H' : Hp), Same H H' → Q (.int (psum n rs)) H'
section
variable {P : Program} {w : World} {K : PySem.W.Frag} {mg : Str → Option Value} {base : Heap}
theorem scPah : FnScope ["poll", "ahead", "i", "j"] ["poll"] (defScope s_pairs_ahead) := ⟨rfl, rfl, rfl, by decide +kernel, rfl, by decide +kernel, by decide +kernel⟩
set_option maxHeartbeats 4000000 in
theorem ok_pairs {f f1 f2 : Addr} {fd d1 d2 : FuncData} {k : Nat} (T : Df K mg "pairs_ahead" s_pairs_ahead ["poll"] f fd) (T_check_poll : Df K mg "check_poll" s_check_poll ["thing"] f1 d1) (T_counts_ahead : Df K mg "counts_ahead" s_counts_ahead ["poll"] f2 d2) (G_check_poll : FnOk P w K mg base CX0 k f1 d1 ["thing"] spCPoll) (G_counts_ahead : FnOk P w K mg base CX0 k f2 d2 ["poll"] spAhead) (B : Bi mg) : FnOk P w K mg base CX0 (k + 1) f fd ["poll"] spPairs := by
  refine T.F.ok scPah (fun vs H Q E h => ?_) (fun cdv A outer s H vs Q E hr h => ?_)
  · obtain ⟨l, as, rs, n, rfl, _⟩ := h
    rfl
  · obtain ⟨l, as, rs, n, rfl, hO, h1, h2, q⟩ := h
    have hn2 := hO.n2
    refine ⟨_, 
      (pss_cons (ps_expr (pe_call G_check_poll hr (by rfl) T_check_poll.g T_check_poll.F.kp T_check_poll.b .nil pass0 (pa_cons (pv 0) pa_nil)))
      (pss_cons (ps_set (i := 1) scPah.nd rfl (.inr rfl) (pe_call G_counts_ahead hr (by rfl) T_counts_ahead.g T_counts_ahead.F.kp T_counts_ahead.b .nil pass0 (pa_cons (pv 0) pa_nil)))
      (pss_one (ps_ret (pe_dc2 hr.units0 rfl scPah.nd (own := [("i", 2), ("j", 3)]) (vj := [3]) (wj := (iRng2 (tCons (tOp (rI0 fun i j => .int (i + j)) (tVar 2) (tC (.int 1))) (tCons (tCB (rLenS K) (tCons (tVar 1) tNil)) tNil)))) (g := (gName 2)) (tt := tYes) (gj := (gName 3)) (tj := tYes) (tk := (tTup (tCons (tVar 2) (tCons (tVar 3) tNil)))) (tv := (tOp (rIxL K) (tOp (rIxL K) (tVar 1) (tVar 2)) (tVar 3))) (pi_range1 (by rfl) B.range (pa_cons (pe_callB call_len_seq (by rfl) B.len PySem.boot_len (pa_cons (pv 1) pa_nil)) pa_nil)) (blkOk_by (N := ["poll", "ahead", "i", "j"]) (sc := defScope s_pairs_ahead) (by decide +kernel)) (by decide) (fun _ _ _ _ _ => (pg_name (i := 2) scPah.nd rfl (.inl rfl))) (fun _ _ _ _ _ => pts_nil) (fun _ _ _ _ _ => (pi_range2 (by rfl) B.range (pa_cons (pe_op op_add (pv 2) pe_int) (pa_cons (pe_callB call_len_seq (by rfl) B.len PySem.boot_len (pa_cons (pv 1) pa_nil)) pa_nil)))) (fun _ _ _ _ _ => (pg_name (i := 3) scPah.nd rfl (.inl rfl))) (fun _ _ _ _ _ => pts_nil) (fun _ _ _ _ _ => (pe_tup (pa_cons (pv 2) (pa_cons (pv 3) pa_nil)))) (fun _ _ _ _ _ => (pe_ix ix_list (pe_ix ix_list (pv 1) (pv 2) (fun _ _ => rfl)) (pv 3) (fun _ _ => rfl)))))))), ?_⟩
    refine ⟨_, rfl, l, as, rs, n, rfl, hO, h1, h2, fun H1 s1 => ?_⟩
    refine ⟨_, rfl, l, as, rs, n, rfl, hO.same s1, h1, by omega, fun la bs H2 nla hla hL s2 => ?_⟩
    have s12 := s1.trans s2
    have hbl : bs.length = n := by rw [hL.len]; unfold aM; rw [List.length_map, rg_len]
    have hbm : (bs.map V.ref).length = n := by rw [List.length_map, hbl]
    refine ⟨_, rfl, la, _, rfl, .inl (SqL.of hla), n, by rw [hbm], by omega, by omega, fun D nD => ?_⟩
    have nlaD : la ≠ D := ne_of_none hla nD
    refine dc2_outer (lo := 0) (fun i G => G D = some (.dT (tk rs (pre (upR n) i))) ∧ Same H2 G) ⟨upd_same, same_new nD⟩ (fun i G hi hP => ?_) (fun G hP => q D G (s12.free nD) hP.1 (s12.trans hP.2))
    obtain ⟨hD, sG⟩ := hP
    rw [show (0 : Int) + (i : Int) = (i : Int) by omega]
    have ei : ((n : Int) - ((i : Int) + 1)).toNat = n - (i + 1) := by omega
    refine ⟨rfl, _, rfl, _, _, rfl, rfl, _, rfl, la, _, rfl, .inl (SqL.of (sG _ _ hla)), (i : Int) + 1, n, by rw [hbm], ⟨by omega, by omega, by omega, by omega⟩, ?_⟩
    rw [ei]
    refine dc2_inner (lo := (i : Int) + 1) (fun j G => G D = some (.dT (tk rs (pre (upR n) i ++ (List.range j).map fun (u : Nat) => ((i : Int), ((i + 1 + u : Nat) : Int))))) ∧ Same H2 G) ⟨by rw [List.range_zero, List.map_nil, List.append_nil]; exact hD, sG⟩ (fun j G hj hP => ?_) (fun G hP => by rw [pre_succ]; exact hP)
    obtain ⟨hD, sG⟩ := hP
    obtain ⟨a, ea, ha⟩ := cell_at (sG _ _ hla) (hL.same sG) (i := i) (j := i + 1 + j) hi (by omega)
    have ex : (i : Int) + 1 + (j : Int) = ((i + 1 + j : Nat) : Int) := by omega
    rw [ex]
    refine ⟨rfl, _, rfl, _, rfl, line_small (by show 2 ≤ 16777216; decide), fun t nt => ?_⟩
    have st := same_new (o := .tup [.int (i : Int), .int ((i + 1 + j : Nat) : Int)]) nt
    refine ⟨_, rfl, _, rfl, la, _, _, _, rfl, rfl, SqL.of (st _ _ (sG _ _ hla)), at_of (j := i) rfl ea, _, rfl, a, _, _, _, rfl, rfl, SqL.of (st _ _ ha), at_of (j := i + 1 + j) rfl (aM_cell (by omega)), ?_⟩
    have nDt : D ≠ t := ne_of_none hD nt
    have fr := pre_fresh (n := n) (i := i) (j := j) (i + 1) (upR n) (fun u p m => by obtain ⟨v, _, rfl⟩ := List.mem_map.mp m; rfl) (fun u => ((i + 1 + u : Nat) : Int)) (fun u => rfl)
    refine ⟨_, kk (i : Int) ((i + 1 + j : Nat) : Int), t, rfl, upd_same, st _ _ hD, line_lt ?_, ?_, fun b o e => ?_⟩
    · rw [tk_len, List.length_append, List.length_map, List.length_range]
      have := (up_facts n (by omega)).2.2.2.1
      have e2 : (upP n).length = (pre (upR n) n).length := rfl
      have hp := pre_len (f := upR n) (m := n) (fun u => by unfold upR; rw [List.length_map, List.length_range]; omega) i
      have : i * n ≤ 12 * 12 := Nat.mul_le_mul (by omega) hn2
      omega
    · rw [upd_same, tk_put fr, List.range_succ, List.map_append, List.append_assoc]
      rfl
    · rw [upd_ne (ne_of_none e nD)]
      exact st _ _ (sG _ _ e)
theorem scPsm : FnScope ["poll", "ahead", "j", "i"] ["poll"] (defScope s_pair_sum) := ⟨rfl, rfl, rfl, by decide +kernel, rfl, by decide +kernel, by decide +kernel⟩
set_option maxHeartbeats 4000000 in
theorem ok_psum {f f1 f2 : Addr} {fd d1 d2 : FuncData} {k : Nat} (T : Df K mg "pair_sum" s_pair_sum ["poll"] f fd) (T_check_poll : Df K mg "check_poll" s_check_poll ["thing"] f1 d1) (T_counts_ahead : Df K mg "counts_ahead" s_counts_ahead ["poll"] f2 d2) (G_check_poll : FnOk P w K mg base CX0 k f1 d1 ["thing"] spCPoll) (G_counts_ahead : FnOk P w K mg base CX0 k f2 d2 ["poll"] spAhead) (B : Bi mg) : FnOk P w K mg base CX0 (k + 1) f fd ["poll"] spPSum := by
  refine T.F.ok scPsm (fun vs H Q E h => ?_) (fun cdv A outer s H vs Q E hr h => ?_)
  · obtain ⟨l, as, rs, n, rfl, _⟩ := h
    rfl
  · obtain ⟨l, as, rs, n, rfl, hO, h1, h2, q⟩ := h
    have hn2 := hO.n2
    refine ⟨_, 
      (pss_cons (ps_expr (pe_call G_check_poll hr (by rfl) T_check_poll.g T_check_poll.F.kp T_check_poll.b .nil pass0 (pa_cons (pv 0) pa_nil)))
      (pss_cons (ps_set (i := 1) scPsm.nd rfl (.inr rfl) (pe_call G_counts_ahead hr (by rfl) T_counts_ahead.g T_counts_ahead.F.kp T_counts_ahead.b .nil pass0 (pa_cons (pv 0) pa_nil)))
      (pss_one (ps_ret (pe_callB (cr_sum rfl) (by rfl) B.sum (by decide +kernel) (pa_cons (pe_lc2 (own := [("j", 2), ("i", 3)]) (vs1 := [3]) (g := (gName 2)) (tt := tYes) (g1 := (gName 3)) (tt1 := tYes) (te := (tCB rMin2 (tCons (tOp (rIxL K) (tOp (rIxL K) (tVar 1) (tVar 3)) (tVar 2)) (tCons (tOp (rIxL K) (tOp (rIxL K) (tVar 1) (tVar 2)) (tVar 3)) tNil)))) rfl scPsm.nd (pi_range1 (by rfl) B.range (pa_cons (pe_callB call_len_seq (by rfl) B.len PySem.boot_len (pa_cons (pv 1) pa_nil)) pa_nil)) (blkOk_by (N := ["poll", "ahead", "j", "i"]) (sc := defScope s_pair_sum) (by decide +kernel)) (by decide) (fun _ _ _ _ _ => (pg_name (i := 2) scPsm.nd rfl (.inl rfl))) (fun _ _ _ _ _ => pts_nil) (fun _ _ _ _ _ => (pi_range1 (by rfl) B.range (pa_cons (pv 2) pa_nil))) (fun _ _ _ _ _ => (pg_name (i := 3) scPsm.nd rfl (.inl rfl))) (fun _ _ _ _ _ => pts_nil) (fun _ _ _ _ _ => (pe_callB (call_min2 rfl) (by rfl) B.min (by decide +kernel) (pa_cons (pe_ix ix_list (pe_ix ix_list (pv 1) (pv 3) (fun _ _ => rfl)) (pv 2) (fun _ _ => rfl)) (pa_cons (pe_ix ix_list (pe_ix ix_list (pv 1) (pv 2) (fun _ _ => rfl)) (pv 3) (fun _ _ => rfl)) pa_nil))))) pa_nil)))))), ?_⟩
    refine ⟨_, rfl, l, as, rs, n, rfl, hO, h1, h2, fun H1 s1 => ?_⟩
    refine ⟨_, rfl, l, as, rs, n, rfl, hO.same s1, h1, by omega, fun la bs H2 nla hla hL s2 => ?_⟩
    have s12 := s1.trans s2
    have hbl : bs.length = n := by rw [hL.len]; unfold aM; rw [List.length_map, rg_len]
    have hbm : (bs.map V.ref).length = n := by rw [List.length_map, hbl]
    let F : Int × Int → Int := fun p => mn (aN rs p.1 p.2) (aN rs p.2 p.1)
    refine ⟨_, rfl, la, _, rfl, .inl (SqL.of hla), n, by rw [hbm], by omega, by omega, fun D nD => ?_⟩
    refine lc2_rng (lo := 0) (fun i G => G D = some (.lst (((pre prR i).map F).map V.int)) ∧ Same H2 G) ⟨upd_same, same_new nD⟩ (fun j G hj hP => ?_) (fun G hP => ⟨D, _, rfl, SqL.of hP.1, q _ (s12.trans hP.2)⟩)
    obtain ⟨hD, sG⟩ := hP
    rw [show (0 : Int) + (j : Int) = (j : Int) by omega]
    refine ⟨rfl, _, rfl, j, rfl, by omega, by omega, ?_⟩
    rw [Int.toNat_natCast]
    refine in_range (fun i G => G D = some (.lst (((pre prR j ++ (List.range i).map fun (u : Nat) => ((u : Int), (j : Int))).map F).map V.int)) ∧ Same H2 G) ⟨by rw [List.range_zero, List.map_nil, List.append_nil]; exact hD, sG⟩ (fun i G hi hP => ?_) (fun G hP => by rw [pre_succ]; exact hP)
    obtain ⟨hD, sG⟩ := hP
    rw [show (0 : Int) + (i : Int) = (i : Int) by omega]
    obtain ⟨a, ea, ha⟩ := cell_at (sG _ _ hla) (hL.same sG) (i := i) (j := j) (by omega) (by omega)
    obtain ⟨b, eb, hb⟩ := cell_at (sG _ _ hla) (hL.same sG) (i := j) (j := i) (by omega) (by omega)
    refine ⟨rfl, _, rfl, _, rfl, la, _, _, _, rfl, rfl, SqL.of (sG _ _ hla), at_of (j := i) rfl ea, _, rfl, a, _, _, _, rfl, rfl, SqL.of ha, at_of (j := j) rfl (aM_cell (by omega)), ?_⟩
    refine ⟨_, rfl, _, rfl, la, _, _, _, rfl, rfl, SqL.of (sG _ _ hla), at_of (j := j) rfl eb, _, rfl, b, _, _, _, rfl, rfl, SqL.of hb, at_of (j := i) rfl (aM_cell (by omega)), ?_⟩
    refine ⟨_, _, rfl, _, hD, line_lt ?_, ?_, fun b o e => ?_⟩
    · rw [List.length_map, List.length_map, List.length_append, List.length_map, List.length_range]
      have := pre_len (f := prR) (m := n)
      have hp : ∀ j : Nat, j ≤ n → (pre prR j).length ≤ j * n := fun j hj => by
        induction j with
        | zero => exact Nat.zero_le _
        | succ j ih =>
          rw [pre_succ, List.length_append, Nat.add_mul]
          have := ih (by omega)
          have : (prR j).length = j := by unfold prR; rw [List.length_map, List.length_range]
          omega
      have := hp j (by omega)
      have : j * n ≤ 12 * 12 := Nat.mul_le_mul (by omega) hn2
      omega
    · rw [upd_same, List.range_succ]
      simp only [List.map_append, List.append_assoc]
      rfl
    · rw [upd_ne (ne_of_none e nD)]
      exact sG _ _ e
end
end Fo
namespace Fo
open PySem PySem.Spec PyProof.Rows L2
def spPolS : Sp := fun vs H Q _ => ∃ (w : Str) (l o : Addr) (as : List Addr) (rs : List (List Int)) (n : Nat) (xs : List Int), vs = [.str w, .ref l, .ref o] ∧ IsWay w ∧ OL H l as rs n ∧ 1 ≤ rs.length ∧ rs.length ≤ 20 ∧ H o = some (.lst (xs.map V.int)) ∧ IsOrd n xs ∧ ∀ H', Same H H' → Q (.int (sumW w xs rs)) H'
section
variable {P : Program} {w : World} {K : PySem.W.Frag} {mg : Str → Option Value} {base : Heap}
theorem scPolS : FnScope ["way", "poll", "order"] ["way", "poll", "order"] (defScope s_poll_sum) := ⟨rfl, rfl, rfl, by decide +kernel, rfl, by decide +kernel, by decide +kernel⟩
set_option maxHeartbeats 2000000 in
theorem ok_polS {f f1 f2 f3 f4 f5 : Addr} {fd d1 d2 d3 d4 d5 : FuncData} {k : Nat} (T : Df K mg "poll_sum" s_poll_sum ["way", "poll", "order"] f fd) (T_check_poll : Df K mg "check_poll" s_check_poll ["thing"] f1 d1) (T_check_order : Df K mg "check_order" s_check_order ["thing"] f2 d2) (T_check_way : Df K mg "check_way" s_check_way ["thing"] f3 d3) (T_check_fit : Df K mg "check_fit" s_check_fit ["one", "other"] f4 d4) (T_known_sum : Df K mg "known_sum" s_known_sum ["way", "poll", "order"] f5 d5)
    (G_check_poll : FnOk P w K mg base CX0 k f1 d1 ["thing"] spCPoll) (G_check_order : FnOk P w K mg base CX0 k f2 d2 ["thing"] spCheck) (G_check_way : FnOk P w K mg base CX0 k f3 d3 ["thing"] spWay) (G_check_fit : FnOk P w K mg base CX0 k f4 d4 ["one", "other"] spFit) (G_known_sum : FnOk P w K mg base CX0 k f5 d5 ["way", "poll", "order"] spKSum) : FnOk P w K mg base CX0 (k + 1) f fd ["way", "poll", "order"] spPolS := by
  refine T.F.ok scPolS (fun vs H Q E h => ?_) (fun cdv A outer s H vs Q E hr h => ?_)
  · obtain ⟨z, l, o, as, rs, n, xs, rfl, _⟩ := h
    rfl
  · obtain ⟨z, l, o, as, rs, n, xs, rfl, hz, hO, h1, h2, ho, ox, q⟩ := h
    have hal := hO.ll.len
    refine ⟨_, 
      (pss_cons (ps_expr (pe_call G_check_poll hr (by rfl) T_check_poll.g T_check_poll.F.kp T_check_poll.b .nil pass0 (pa_cons (pv 1) pa_nil)))
      (pss_cons (ps_expr (pe_call G_check_order hr (by rfl) T_check_order.g T_check_order.F.kp T_check_order.b .nil pass0 (pa_cons (pv 2) pa_nil)))
      (pss_cons (ps_expr (pe_call G_check_way hr (by rfl) T_check_way.g T_check_way.F.kp T_check_way.b .nil pass0 (pa_cons (pv 0) pa_nil)))
      (pss_cons (ps_expr (pe_call G_check_fit hr (by rfl) T_check_fit.g T_check_fit.F.kp T_check_fit.b .nil pass0 (pa_cons (pv 2) (pa_cons (pe_ix ix_list (pv 1) pe_int (fun _ _ => rfl)) pa_nil))))
      (pss_one (ps_ret (pe_call G_known_sum hr (by rfl) T_known_sum.g T_known_sum.F.kp T_known_sum.b .nil pass0 (pa_cons (pv 0) (pa_cons (pv 1) (pa_cons (pv 2) pa_nil)))))))))), ?_⟩
    refine ⟨_, rfl, l, as, rs, n, rfl, hO, h1, h2, fun H1 s1 => ?_⟩
    refine ⟨_, rfl, o, n, xs, rfl, s1 _ _ ho, ox, hO.n1, hO.n2, fun H2 s2 => ?_⟩
    have s12 := s1.trans s2
    have hO2 := hO.same s12
    refine ⟨_, rfl, z, rfl, hz, ?_⟩
    obtain ⟨a0, ea0⟩ : ∃ a0, as[0]? = some a0 := ⟨as[0]'(by omega), List.getElem?_eq_getElem (by omega)⟩
    obtain ⟨r0, er0, ha0⟩ := hO2.ll.get ea0
    refine ⟨_, rfl, _, rfl, l, _, 0, _, rfl, rfl, SqL.of hO2.top, at_of (j := 0) rfl (ref_at ea0), o, a0, xs, r0, rfl, s12 _ _ ho, ha0, by rw [ox.len, (hO.ord r0 (List.mem_of_getElem? er0)).len], ?_⟩
    exact ⟨_, rfl, _, rfl, _, rfl, z, l, o, as, rs, n, xs, rfl, hz, hO2, by omega, s12 _ _ ho, ox, fun H3 s3 => q _ (s12.trans s3)⟩
end
end Fo
namespace Fo
open PySem PySem.Spec PyProof.Rows L2
/-! ### arcs: pairs of unlike things -/
abbrev Arc := Addr × Nat × Nat
abbrev aV (ps : List Arc) : List V := ps.map fun p => V.ref p.1
structure ArAt (H : Hp) (ar : Addr) (ps : List Arc) (n : Nat) : Prop where
  top : H ar = some (.lst (aV ps))
  each : ∀ p ∈ ps, H p.1 = some (.tup [.int (p.2.1 : Int), .int (p.2.2 : Int)]) ∧ p.2.1 < n ∧ p.2.2 < n ∧ p.2.1 ≠ p.2.2
abbrev dP (u v : Int) : PyData := .tuple [.int u, .int v]
theorem lay_pair (u v : Int) : PyData.canLay0 (dP u v) = true := by rfl
theorem depth_pair (u v : Int) : PyData.depth (dP u v) = 1 := by
  rw [PyData.depth]
  simp [PyData.depthAll, PyData.depth]
theorem shaped_pair (u v : Int) : SeqAt.shaped (dP u v) = true := by
  unfold SeqAt.shaped
  rw [lay_pair, depth_pair]
  rfl
theorem lay_pairs : ∀ ps : List Arc, PyData.canLayAll0 (ps.map fun p => dP (p.2.1 : Int) (p.2.2 : Int)) = true
  | [] => rfl
  | p :: ps => by
    show (PyData.canLay0 (dP _ _) && PyData.canLayAll0 (ps.map fun p => dP (p.2.1 : Int) (p.2.2 : Int))) = true
    rw [lay_pairs ps, lay_pair]
    rfl
theorem depth_pairs : ∀ ps : List Arc, PyData.depthAll (ps.map fun p => dP (p.2.1 : Int) (p.2.2 : Int)) ≤ 1
  | [] => by simp [PyData.depthAll]
  | p :: ps => by
    show PyData.depthAll (dP _ _ :: ps.map fun p => dP (p.2.1 : Int) (p.2.2 : Int)) ≤ 1
    rw [PyData.depthAll, depth_pair]
    have := depth_pairs ps
    omega
theorem shaped_pairs (ps : List Arc) : SeqAt.shaped (.list (ps.map fun p => dP (p.2.1 : Int) (p.2.2 : Int))) = true := by
  unfold SeqAt.shaped
  rw [Bool.and_eq_true_iff]
  constructor
  · rw [PyData.canLay0]
    exact lay_pairs ps
  · apply decide_eq_true
    rw [PyData.depth]
    have := depth_pairs ps
    omega
theorem dp_pair {K : PySem.W.Frag} {H : Hp} {t : Addr} {u v : Int} (h : H t = some (.tup [.int u, .int v])) : Dp K H (.ref t) (dP u v) := .tup (SqT.of h) (.cons (.int u) (.cons (.int v) .nil))
theorem dp_pairs {K : PySem.W.Frag} {H : Hp} : ∀ ps : List Arc, (∀ p ∈ ps, H p.1 = some (.tup [.int (p.2.1 : Int), .int (p.2.2 : Int)])) → DpAll K H (aV ps) (ps.map fun p => dP (p.2.1 : Int) (p.2.2 : Int))
  | [], _ => .nil
  | p :: ps, h => .cons (dp_pair (h p List.mem_cons_self)) (dp_pairs ps fun q hq => h q (List.mem_cons_of_mem _ hq))
theorem arc_perm {xs : List Int} {u v : Int} (hn : xs.Nodup) (hu : u ∈ xs) (hv : v ∈ xs) (huv : u ≠ v) : ([u, v] ++ xs.filter fun x => !decide (x ∈ [u, v])).Perm xs := by
  have hnd : ([u, v] ++ xs.filter fun x => !decide (x ∈ [u, v])).Nodup := by
    rw [List.nodup_append]
    refine ⟨?_, List.Pairwise.filter _ hn, fun a ha b hb e => ?_⟩
    · rw [List.nodup_cons]
      exact ⟨fun h => huv (List.mem_singleton.mp h), List.nodup_cons.mpr ⟨List.not_mem_nil, List.nodup_nil⟩⟩
    · have := (List.mem_filter.mp hb).2
      rw [← e, decide_eq_true ha] at this
      cases this
  rw [List.perm_ext_iff_of_nodup hnd hn]
  intro a
  rw [List.mem_append, List.mem_filter]
  constructor
  · rintro (h | h)
    · rcases List.mem_cons.mp h with rfl | h
      · exact hu
      · rw [List.mem_singleton.mp h]
        exact hv
    · exact h.1
  · intro h
    by_cases c : a ∈ [u, v]
    · exact .inl c
    · exact .inr ⟨h, by rw [decide_eq_false c]; rfl⟩
def spByArcs : Sp := fun vs H Q _ => ∃ (d ar : Addr) (ps : List Arc) (n : Nat), vs = [.ref d, .int n, .ref ar] ∧ DqAt H d ∧ ArAt H ar ps n ∧ 2 ≤ n ∧ n ≤ 12 ∧ ps.length ≤ 10 ∧ ar ≠ d ∧
  ∀ (l : Addr) (as : List Addr) (rs : List (List Int)) (H' : Hp), OL H' l as rs n → rs.length = 2 * ps.length → H l = none → (∀ a ∈ as, H a = none) → l ≠ d → d ∉ as → DqAt H' d → KeepD d H H' → Q (.ref l) H'
def spRPoll : Sp := fun vs H Q _ => ∃ (d : Addr) (n : Nat), vs = [.ref d, .int n] ∧ DqAt H d ∧ 3 ≤ n ∧ n ≤ 9 ∧
  ∀ (l : Addr) (as : List Addr) (rs : List (List Int)) (H' : Hp), OL H' l as rs n → 1 ≤ rs.length → rs.length ≤ 20 → H l = none → l ≠ d → d ∉ as → DqAt H' d → KeepD d H H' → Q (.ref l) H'
theorem tup_ne_dq {H : Hp} {d t : Addr} {u v : V} (h : DqAt H d) (e : H t = some (.tup [u, v])) : t ≠ d := fun q => by
  obtain ⟨ms, e1, _⟩ := h
  rw [q, e1] at e
  cases e
theorem units65 {k : Nat} {A : Around} (r : Room k A) : A.units + 65 < cLine := by have := r.un; omega
section
variable {P : Program} {w : World} {K : PySem.W.Frag} {mg : Str → Option Value} {base : Heap}
theorem scByArcs : FnScope ["deck", "n", "arcs", "found", "one", "other", "rest", "thing"] ["deck", "n", "arcs"] (defScope s_law_by_arcs) := ⟨rfl, rfl, rfl, by decide +kernel, rfl, by decide +kernel, by decide +kernel⟩
set_option maxHeartbeats 4000000 in
theorem ok_byarcs {f fO : Addr} {fd fdO : FuncData} {k : Nat} (T : Df K mg "_law_by_arcs" s_law_by_arcs ["deck", "n", "arcs"] f fd) (T__law_order : Df K mg "_law_order" s_law_order ["deck", "n"] fO fdO) (G__law_order : FnOk P w K mg base CX0 k fO fdO ["deck", "n"] spOrderN) (B : Bi mg) : FnOk P w K mg base CX0 (k + 1) f fd ["deck", "n", "arcs"] spByArcs := by
  refine T.F.ok scByArcs (fun vs H Q E h => ?_) (fun cdv A outer s H vs Q E hr h => ?_)
  · obtain ⟨d, ar, ps, n, rfl, _⟩ := h
    rfl
  · obtain ⟨d, ar, ps, n, rfl, hD, hA, hn1, hn2, hpl, nad, q⟩ := h
    refine ⟨_, 
      (pss_cons (ps_set (i := 3) scByArcs.nd rfl (.inl rfl) (pe_lst pa_nil))
      (pss_cons (ps_for PassesOwn.never rfl (pi_list (pv 2)) (pg_tup (by rfl) (pgs_cons (pg_name (i := 4) scByArcs.nd rfl (.inr rfl)) (pgs_cons (pg_name (i := 5) scByArcs.nd rfl (.inr rfl)) pgs_nil)))
        (pss_cons (ps_setLc (i := 6) (own := [("thing", 7)]) (g := (gName 7)) (tt := (tTest (tOp (rIn K true) (tVar 7) (tTup (tCons (tVar 4) (tCons (tVar 5) tNil)))))) (te := (tVar 7)) (by rfl) scByArcs.nd rfl rfl (sw_true rfl rfl rfl (by decide +kernel)) (pi_list (pe_call G__law_order hr (by rfl) T__law_order.g T__law_order.F.kp T__law_order.b .nil pass0 (pa_cons (pv 0) (pa_cons (pv 1) pa_nil)))) (blkOk_by (N := ["deck", "n", "arcs", "found", "one", "other", "rest", "thing"]) (sc := defScope s_law_by_arcs) (by decide +kernel)) (fun _ _ _ _ _ => (pg_name (i := 7) scByArcs.nd rfl (.inl rfl))) (fun _ _ _ _ _ => (pts_one (pt_cmpR op_notIn_seq (pv 7) (pe_tup (pa_cons (pv 4) (pa_cons (pv 5) pa_nil))) (by rfl)))) (fun _ _ _ _ _ => (pv 7)))
        (pss_one (ps_set (i := 3) scByArcs.nd rfl (.inl rfl) (pe_op op_cat (pv 3) (pe_lst (pa_cons (pe_op op_cat (pe_lst (pa_cons (pv 4) (pa_cons (pv 5) pa_nil))) (pv 6)) (pa_cons (pe_op op_cat (pe_revL (pv 6)) (pe_lst (pa_cons (pv 4) (pa_cons (pv 5) pa_nil)))) pa_nil))))))))
      (pss_one (ps_ret (pv 3))))), ?_⟩
    refine ⟨line_small (by show 0 ≤ 16777216; decide), fun l0 nl0 => ?_⟩
    have s0 := same_new (o := .lst []) nl0
    refine ⟨_, rfl, ar, rfl, ⟨_, SqL.of (s0 _ _ hA.top)⟩, ?_⟩
    refine for_list (xs := aV ps) (fun i σ G => ∃ (lf : Addr) (as : List Addr) (rs : List (List Int)) (y4 y5 y6 : Option V), σ = [some (.ref d), some (.int n), some (.ref ar), some (.ref lf), y4, y5, y6, none] ∧ G lf = some (.lst (as.map V.ref)) ∧ LL G as rs ∧ (∀ r ∈ rs, IsOrd n r) ∧ rs.length = 2 * i ∧ H lf = none ∧ lf ≠ d ∧ (∀ a ∈ as, H a = none ∧ a ≠ d) ∧ DqAt G d ∧ KeepD d H G)
      ⟨l0, [], [], _, _, _, rfl, upd_same, trivial, fun r h => absurd h List.not_mem_nil, rfl, nl0, hD.ne nl0, fun a h => absurd h List.not_mem_nil, hD.new nl0, KeepD.of_same s0⟩ (fun i σ G _ hP => by
        obtain ⟨_, _, _, _, _, _, _, _, _, _, _, _, _, _, _, kp⟩ := hP
        exact SqL.of (kp _ _ hA.top nad)) (fun i x σ G hx hP => ?_) (fun σ G hP => ?_)
    · obtain ⟨lf, as, rs, y4, y5, y6, rfl, hlf, hLL, ho, hlen, nlf, nlfd, has, DG, kG⟩ := hP
      have hal := hLL.len
      rw [List.getElem?_map] at hx
      cases ep : ps[i]? with
      | none => rw [ep] at hx; cases hx
      | some p =>
        rw [ep] at hx
        have ex : V.ref p.1 = x := Option.some.inj hx
        subst ex
        have hi := (List.getElem?_eq_some_iff.mp ep).1
        obtain ⟨ht0, hu, hv, huv⟩ := hA.each p (List.mem_of_getElem? ep)
        have ht := kG _ _ ht0 (tup_ne_dq hD ht0)
        refine ⟨p.1, _, rfl, .inl (.inl ht), rfl, _, _, rfl, _, _, rfl, rfl, ?_⟩
        -- rest
        refine ⟨_, rfl, _, rfl, d, n, rfl, DG, hn2, fun xs o G1 ox no ho1 nod D1 k1 => ?_⟩
        refine ⟨o, rfl, ⟨_, SqL.of ho1⟩, fun D nD => ?_⟩
        have nDd := D1.ne nD
        refine lc_list (K := K) (a := o) (xs := xs.map V.int) (fun m G2 => G2 D = some (.lst (((xs.take m).filter fun x => !decide (x ∈ [(p.2.1 : Int), (p.2.2 : Int)])).map V.int)) ∧ Same G1 G2) ⟨upd_same, same_new nD⟩ (fun m G2 _ hP => SqL.of (hP.2 _ _ ho1)) (fun m x G2 hx hP => ?_) (fun G2 hP => ?_)
        · obtain ⟨hD2, s2⟩ := hP
          obtain ⟨y, ey, rfl⟩ := int_at_inv hx
          have hm := (List.getElem?_eq_some_iff.mp ey).1
          rw [ox.len] at hm
          refine ⟨rfl, _, rfl, _, rfl, _, rfl, line_small (by show 2 ≤ 16777216; decide), fun tk ntk => ?_⟩
          have s3 := same_new (o := .tup [.int (p.2.1 : Int), .int (p.2.2 : Int)]) ntk
          refine ⟨tk, _, rfl, .inr (SqT.of upd_same), rfl, flat_ints [(p.2.1 : Int), (p.2.2 : Int)], _, rfl, ?_⟩
          show if (!inV (.int y) ([(p.2.1 : Int), (p.2.2 : Int)].map V.int)) = true then _ else _
          rw [inV_int]
          by_cases c : y ∈ [(p.2.1 : Int), (p.2.2 : Int)]
          · rw [decide_eq_true c]
            refine iteF ⟨?_, s2.trans s3⟩
            rw [filter_more _ ey, decide_eq_true c]
            show _ = some (HO.lst ((_ ++ []).map V.int))
            rw [List.append_nil]
            exact s3 _ _ hD2
          · rw [decide_eq_false c]
            refine iteT ⟨_, rfl, _, s3 _ _ hD2, line_lt (by rw [List.length_map]; exact Nat.lt_of_le_of_lt (List.length_filter_le _ _) (by rw [List.length_take]; omega)), ?_, fun b o e => ?_⟩
            · rw [upd_same, filter_more _ ey, decide_eq_false c, List.map_append]
              rfl
            · rw [upd_ne (ne_of_none e nD)]
              exact s3 _ _ (s2 _ _ e)
        · obtain ⟨hD2, s2⟩ := hP
          rw [List.length_map, List.take_length] at hD2
          have D2 := D1.same s2
          have k2 := k1.trans (KeepD.of_same s2)
          have kk2 := kG.trans k2
          have hper := arc_perm ox.nodup ((List.Perm.mem_iff ox).mpr (rg_mem.mpr ⟨by omega, by omega⟩)) ((List.Perm.mem_iff ox).mpr (rg_mem.mpr ⟨by omega, by omega⟩)) (show ((p.2.1 : Nat) : Int) ≠ ((p.2.2 : Nat) : Int) by omega)
          generalize hrest : (xs.filter fun x => !decide (x ∈ [(p.2.1 : Int), (p.2.2 : Int)])) = rest at hD2 hper
          have hrl : rest.length + 2 = n := by
            have := List.Perm.length_eq hper
            rw [List.length_append, ox.len] at this
            have e2 : [(p.2.1 : Int), (p.2.2 : Int)].length = 2 := rfl
            omega
          have hlf2 := k2 lf _ hlf nlfd
          have hLL2 : LL G2 as rs := hLL.keep fun a ha ob e => k2 a ob e (has a ha).2
          clear hLL hlf D1 k1 ho1
          -- [one, other] + rest
          refine ⟨_, rfl, _, rfl, _, rfl, line_small (by show 2 ≤ 16777216; decide), fun p1 np1 => ?_⟩
          have t1 := same_new (o := .lst [.int (p.2.1 : Int), .int (p.2.2 : Int)]) np1
          refine ⟨_, rfl, p1, D, _, _, rfl, rfl, upd_same, t1 _ _ hD2, line_small (by rw [List.length_map]; show 2 + _ ≤ 16777216; omega), fun p2 np2 => ?_⟩
          have t2 := t1.trans (same_new (o := .lst ([.int (p.2.1 : Int), .int (p.2.2 : Int)] ++ rest.map V.int)) np2)
          have hp2 : (upd (upd G2 p1 (.lst [.int (p.2.1 : Int), .int (p.2.2 : Int)])) p2 (.lst ([.int (p.2.1 : Int), .int (p.2.2 : Int)] ++ rest.map V.int))) p2 = some (.lst (([(p.2.1 : Int), (p.2.2 : Int)] ++ rest).map V.int)) := by rw [upd_same, List.map_append]; rfl
          have np2' : G2 p2 = none := t1.free np2
          generalize upd (upd G2 p1 (.lst [.int (p.2.1 : Int), .int (p.2.2 : Int)])) p2 (.lst ([.int (p.2.1 : Int), .int (p.2.2 : Int)] ++ rest.map V.int)) = G3 at t2 hp2 ⊢
          -- rest[::-1] + [one, other]
          refine ⟨_, rfl, D, _, rfl, SqL.of (t2 _ _ hD2), fun p3 np3 => ?_⟩
          have t3 := same_new (o := .lst (rest.map V.int).reverse) np3
          refine ⟨_, rfl, _, rfl, line_small (by show 2 ≤ 16777216; decide), fun p4 np4 => ?_⟩
          have t4 := same_new (o := .lst [.int (p.2.1 : Int), .int (p.2.2 : Int)]) np4
          refine ⟨p3, p4, _, _, rfl, rfl, t4 _ _ upd_same, upd_same, line_small (by rw [List.length_reverse, List.length_map]; show _ + 2 ≤ 16777216; omega), fun p5 np5 => ?_⟩
          have t5 := (t3.trans t4).trans (same_new (o := .lst ((rest.map V.int).reverse ++ [.int (p.2.1 : Int), .int (p.2.2 : Int)])) np5)
          have hp5 : (upd (upd (upd G3 p3 (.lst (rest.map V.int).reverse)) p4 (.lst [.int (p.2.1 : Int), .int (p.2.2 : Int)])) p5 (.lst ((rest.map V.int).reverse ++ [.int (p.2.1 : Int), .int (p.2.2 : Int)]))) p5 = some (.lst ((rest.reverse ++ [(p.2.1 : Int), (p.2.2 : Int)]).map V.int)) := by rw [upd_same, List.map_append, List.map_reverse]; rfl
          have np5' : G3 p5 = none := (t3.trans t4).free np5
          generalize upd (upd (upd G3 p3 (.lst (rest.map V.int).reverse)) p4 (.lst [.int (p.2.1 : Int), .int (p.2.2 : Int)])) p5 (.lst ((rest.map V.int).reverse ++ [.int (p.2.1 : Int), .int (p.2.2 : Int)])) = G4 at t5 hp5 ⊢
          have t25 := t2.trans t5
          refine ⟨line_small (by show 2 ≤ 16777216; decide), fun p6 np6 => ?_⟩
          have t6 := same_new (o := .lst [.ref p2, .ref p5]) np6
          refine ⟨lf, p6, _, _, rfl, rfl, t6 _ _ (t25 _ _ hlf2), upd_same, line_small (by rw [List.length_map, hal]; show _ + 2 ≤ 16777216; omega), fun p7 np7 => ?_⟩
          have t7 := t6.trans (same_new (o := .lst (as.map V.ref ++ [.ref p2, .ref p5])) np7)
          have t27 := t25.trans t7
          have np7' : G4 p7 = none := t6.free np7
          have o1 : IsOrd n ([(p.2.1 : Int), (p.2.2 : Int)] ++ rest) := hper.trans ox
          have o2 : IsOrd n (rest.reverse ++ [(p.2.1 : Int), (p.2.2 : Int)]) := (List.perm_append_comm.trans (List.Perm.append_left _ (List.reverse_perm rest))).trans o1
          have np2d := D2.ne np2'
          have np5d := (D2.same t2).ne np5'
          have np7d := (D2.same t25).ne np7'
          have hLL4 := hLL2.same t25
          refine ⟨p7, as ++ [p2] ++ [p5], rs ++ [_] ++ [_], _, _, _, rfl, ?_, LL.snoc (LL.snoc (hLL4.same t7) ((t5.trans t7) _ _ hp2)) (t7 _ _ hp5), fun r hr' => ?_, by rw [List.length_append, List.length_append, hlen]; show 2 * i + 1 + 1 = _; omega, kk2.none (t25.free np7') np7d, np7d, fun a ha => ?_, D2.same t27, kk2.trans (KeepD.of_same t27)⟩
          · rw [upd_same, List.map_append, List.map_append, List.append_assoc]
            rfl
          · rcases List.mem_append.mp hr' with h | h
            · rcases List.mem_append.mp h with h | h
              · exact ho r h
              · rw [List.mem_singleton.mp h]
                exact o1
            · rw [List.mem_singleton.mp h]
              exact o2
          · rcases List.mem_append.mp ha with h | h
            · rcases List.mem_append.mp h with h | h
              · exact has a h
              · rw [List.mem_singleton.mp h]
                exact ⟨kk2.none np2' np2d, np2d⟩
            · rw [List.mem_singleton.mp h]
              exact ⟨kk2.none (t2.free np5') np5d, np5d⟩
    · obtain ⟨lf, as, rs, y4, y5, y6, rfl, hlf, hLL, ho, hlen, nlf, nlfd, has, DG, kG⟩ := hP
      rw [List.length_map] at hlen
      exact ⟨_, rfl, q lf as rs G ⟨hlf, hLL, ho, by omega, hn2⟩ hlen nlf (fun a ha => (has a ha).1) nlfd (fun h => (has d h).2 rfl) DG kG⟩
end
end Fo
namespace Fo
open PySem PySem.Spec PyProof.Rows L2
theorem erase_aV : ∀ (ps : List Arc) (j : Nat), aV (ps.eraseIdx j) = (aV ps).eraseIdx j
  | [], j => rfl
  | p :: ps, 0 => rfl
  | p :: ps, j + 1 => congrArg (V.ref p.1 :: ·) (erase_aV ps j)
theorem at_back {m : Nat} {xs : List Int} (hm : 0 < m) (hl : xs.length = m) {k : Nat} (hk : k < m) : ∃ j, j < m ∧ j ≠ (if 2 ≤ m then k else m) ∧ atI (xs.map V.int) ((k : Int) - 1) = some (V.int (xs.getD j 0)) := by
  by_cases c : k = 0
  · subst c
    refine ⟨m - 1, by omega, by split <;> omega, ?_⟩
    unfold atI ixN
    rw [List.length_map, hl, if_neg (by omega), if_pos (by omega)]
    show (xs.map V.int)[(((0 : Nat) : Int) - 1 + (m : Int)).toNat]? = _
    rw [show (((0 : Nat) : Int) - 1 + (m : Int)).toNat = m - 1 by omega, List.getElem?_map, List.getElem?_eq_getElem (by omega), List.getD_eq_getElem?_getD, List.getElem?_eq_getElem (by omega)]
    rfl
  · refine ⟨k - 1, by omega, by split <;> omega, ?_⟩
    rw [show (k : Int) - 1 = ((k - 1 : Nat) : Int) by omega]
    refine at_of (j := k - 1) rfl ?_
    rw [List.getElem?_map, List.getElem?_eq_getElem (by omega), List.getD_eq_getElem?_getD, List.getElem?_eq_getElem (by omega)]
    rfl
section
variable {P : Program} {w : World} {K : PySem.W.Frag} {mg : Str → Option Value} {base : Heap}
theorem scRPoll : FnScope ["deck", "n", "some", "arcs", "way", "one", "other", "found", "left", "k", "order"] ["deck", "n"] (defScope s_law_ring_poll) := ⟨rfl, rfl, rfl, by decide +kernel, rfl, by decide +kernel, by decide +kernel⟩
set_option maxHeartbeats 8000000 in
theorem ok_rpoll {f fO fD fA : Addr} {fd fdO fdD fdA : FuncData} {k : Nat} (T : Df K mg "_law_ring_poll" s_law_ring_poll ["deck", "n"] f fd) (T__law_order : Df K mg "_law_order" s_law_order ["deck", "n"] fO fdO) (T__law_next : Df K mg "_law_next" s_law_next ["deck"] fD fdD) (T__law_by_arcs : Df K mg "_law_by_arcs" s_law_by_arcs ["deck", "n", "arcs"] fA fdA) (G__law_order : FnOk P w K mg base CX0 k fO fdO ["deck", "n"] spOrderN) (G__law_next : FnOk P w K mg base CX0 k fD fdD ["deck"] spNext) (G__law_by_arcs : FnOk P w K mg base CX0 k fA fdA ["deck", "n", "arcs"] spByArcs) (B : Bi mg) : FnOk P w K mg base CX0 (k + 1) f fd ["deck", "n"] spRPoll := by
  refine T.F.ok scRPoll (fun vs H Q E h => ?_) (fun cdv A outer s H vs Q E hr h => ?_)
  · obtain ⟨d, n, rfl, _⟩ := h
    rfl
  · obtain ⟨d, n, rfl, hD, hn1, hn2, q⟩ := h
    refine ⟨_, 
      (pss_cons (ps_set (i := 2) scRPoll.nd rfl (.inr rfl) (pe_slice sl_list (pe_call G__law_order hr (by rfl) T__law_order.g T__law_order.F.kp T__law_order.b .nil pass0 (pa_cons (pv 0) (pa_cons (pv 1) pa_nil))) po_none (po_some (pe_op op_add pe_int (pe_op op_mod (pe_call G__law_next hr (by rfl) T__law_next.g T__law_next.F.kp T__law_next.b .nil pass0 (pa_cons (pv 0) pa_nil)) pe_int)))))
      (pss_cons (ps_setLc (i := 3) (own := [("k", 9)]) (g := (gName 9)) (tt := tYes) (te := (tTup (tCons (tOp (rIxL K) (tVar 2) (tOp (rI0 fun i j => .int (i - j)) (tVar 9) (tC (.int 1)))) (tCons (tOp (rIxL K) (tVar 2) (tVar 9)) tNil)))) (by rfl) scRPoll.nd rfl rfl (sw_true rfl rfl rfl (by decide +kernel)) (pi_range1 (by rfl) B.range (pa_cons (pe_callB call_len_seq (by rfl) B.len PySem.boot_len (pa_cons (pv 2) pa_nil)) pa_nil)) (blkOk_by (N := ["deck", "n", "some", "arcs", "way", "one", "other", "found", "left", "k", "order"]) (sc := defScope s_law_ring_poll) (by decide +kernel)) (fun _ _ _ _ _ => (pg_name (i := 9) scRPoll.nd rfl (.inl rfl))) (fun _ _ _ _ _ => pts_nil) (fun _ _ _ _ _ => (pe_tup (pa_cons (pe_ix ix_list (pv 2) (pe_op op_sub (pv 9) pe_int) (fun _ _ => rfl)) (pa_cons (pe_ix ix_list (pv 2) (pv 9) (fun _ _ => rfl)) pa_nil)))))
      (pss_cons (ps_set (i := 4) scRPoll.nd rfl (.inl rfl) (pe_op op_mod (pe_call G__law_next hr (by rfl) T__law_next.g T__law_next.F.kp T__law_next.b .nil pass0 (pa_cons (pv 0) pa_nil)) pe_int))
      (Evl.pss_cut (ps_if (pt_cmpR op_eq (pv 4) pe_int (nomark _))
        (pss_one (ps_expr (pe_bm PySem.F.plainAttrs_list PySem.F.slot_list_pop PySem.F.type_list_pop mt_popAt (pv 3) (pa_cons (pe_op op_mod (pe_call G__law_next hr (by rfl) T__law_next.g T__law_next.F.kp T__law_next.b .nil pass0 (pa_cons (pv 0) pa_nil)) (pe_callB call_len_seq (by rfl) B.len PySem.boot_len (pa_cons (pv 3) pa_nil))) pa_nil))))
        pss_nil)
      (Evl.pss_cut (ps_if (pt_cmpR op_eq (pv 4) pe_int (nomark _))
        (pss_cons (ps_set (i := 5) scRPoll.nd rfl (.inl rfl) (pe_op op_mod (pe_call G__law_next hr (by rfl) T__law_next.g T__law_next.F.kp T__law_next.b .nil pass0 (pa_cons (pv 0) pa_nil)) (pv 1)))
        (pss_cons (ps_set (i := 6) scRPoll.nd rfl (.inl rfl) (pe_op op_mod (pe_op op_add (pe_op op_add (pv 5) pe_int) (pe_op op_mod (pe_call G__law_next hr (by rfl) T__law_next.g T__law_next.F.kp T__law_next.b .nil pass0 (pa_cons (pv 0) pa_nil)) (pe_op op_sub (pv 1) pe_int))) (pv 1)))
        (pss_one (ps_if (PW.pt (pw_and (pt_cmpR (op_notInD (units65 hr)) (pe_tup (pa_cons (pv 5) (pa_cons (pv 6) pa_nil))) (pv 3) (by rfl)) (pw_and1 (pt_cmpR (op_notInD (units65 hr)) (pe_tup (pa_cons (pv 6) (pa_cons (pv 5) pa_nil))) (pv 3) (by rfl)))))
          (pss_one (ps_expr (pe_bm PySem.F.plainAttrs_list PySem.F.slot_list_append PySem.F.type_list_append mt_append (pv 3) (pa_cons (pe_tup (pa_cons (pv 5) (pa_cons (pv 6) pa_nil))) pa_nil))))
          pss_nil))))
        pss_nil)
      (pss_cons (ps_set (i := 7) scRPoll.nd rfl (.inr rfl) (pe_call G__law_by_arcs hr (by rfl) T__law_by_arcs.g T__law_by_arcs.F.kp T__law_by_arcs.b .nil pass0 (pa_cons (pv 0) (pa_cons (pv 1) (pa_cons (pe_slice sl_list (pv 3) po_none (po_some pe_int)) pa_nil)))))
      (pss_cons (ps_set (i := 8) scRPoll.nd rfl (.inr rfl) (pe_listRg rfl (by rfl) B.list (prg_1 (by rfl) B.range (pe_callB call_len_seq (by rfl) B.len PySem.boot_len (pa_cons (pv 7) pa_nil)))))
      (pss_one (ps_ret (pe_lc (own := [("order", 10)]) (g := (gName 10)) (tt := tYes) (te := (tOp (rIxL K) (tVar 7) (tBM K "list" rPopAt (tVar 8) (tCons (tOp (rI (fun _ j => 0 < j) fun i j => .int (i % j)) (tCall spNext [] E0 (tCons (tVar 0) tNil)) (tCB (rLenS K) (tCons (tVar 8) tNil))) tNil)))) rfl scRPoll.nd (pi_list (pv 7)) (blkOk_by (N := ["deck", "n", "some", "arcs", "way", "one", "other", "found", "left", "k", "order"]) (sc := defScope s_law_ring_poll) (by decide +kernel)) (fun _ _ _ _ _ => (pg_name (i := 10) scRPoll.nd rfl (.inl rfl))) (fun _ _ _ _ _ => pts_nil) (fun _ _ _ _ _ => (pe_ix ix_list (pv 7) (pe_bm PySem.F.plainAttrs_list PySem.F.slot_list_pop PySem.F.type_list_pop mt_popAt (pv 8) (pa_cons (pe_op op_mod (pe_call G__law_next hr (by rfl) T__law_next.g T__law_next.F.kp T__law_next.b .nil pass0 (pa_cons (pv 0) pa_nil)) (pe_callB call_len_seq (by rfl) B.len PySem.boot_len (pa_cons (pv 8) pa_nil))) pa_nil)) (fun _ _ => rfl))))))))))))), ?_⟩
    -- some
    refine ⟨_, rfl, _, rfl, d, n, rfl, hD, by omega, fun xs o H1 ox no ho nod D1 k1 => ?_⟩
    refine ⟨_, rfl, d, rfl, D1, fun v1 H2 _ _ D2 k2 => ⟨v1, 7, rfl, rfl, (show (0 : Int) < 7 by decide), 3, _, rfl, rfl, _, rfl, o, _, rfl, SqL.of (k2 _ _ ho nod), fun sm nsm => ?_⟩⟩
    have b1 := mod_b v1 (m := 7) (by decide)
    obtain ⟨c, ec⟩ : ∃ c : Nat, (3 : Int) + v1 % 7 = (c : Int) := ⟨(3 + v1 % 7).toNat, by omega⟩
    have ecut : cutV (xs.map V.int) none (some ((3 : Int) + v1 % 7)) = (xs.take c).map V.int := by rw [ec, cut_ints, cutI_head]
    have hsm : (upd H2 sm (.lst (cutV (xs.map V.int) none (some ((3 : Int) + v1 % 7))))) sm = some (.lst ((xs.take c).map V.int)) := by rw [upd_same, ecut]
    have D3 := D2.new (o := .lst (cutV (xs.map V.int) none (some ((3 : Int) + v1 % 7)))) nsm
    have k3 : KeepD d H (upd H2 sm (.lst (cutV (xs.map V.int) none (some ((3 : Int) + v1 % 7))))) := (k1.trans k2).trans (KeepD.new nsm)
    have nsd := D2.ne nsm
    have hnd : (xs.take c).Nodup := List.Sublist.nodup (List.take_sublist _ _) ox.nodup
    have hmem : ∀ x ∈ xs.take c, 0 ≤ x ∧ x < n := fun x hx => ox.mem (List.mem_of_mem_take hx)
    obtain ⟨m, hml, hm3, hm9⟩ : ∃ m, (xs.take c).length = m ∧ 3 ≤ m ∧ m ≤ 9 := ⟨_, rfl, by rw [List.length_take, ox.len]; omega, by rw [List.length_take, ox.len]; omega⟩
    generalize xs.take c = ys at hsm hnd hmem hml ⊢
    generalize upd H2 sm (.lst (cutV (xs.map V.int) none (some ((3 : Int) + v1 % 7)))) = H3 at hsm D3 k3 ⊢
    have hymap : (ys.map V.int).length = m := by rw [List.length_map, hml]
    -- arcs
    refine ⟨_, rfl, sm, _, rfl, .inl (SqL.of hsm), _, rfl, by rw [hymap]; omega, by rw [hymap]; omega, fun ar nar => ?_⟩
    rw [hymap, Int.toNat_natCast]
    have nard := D3.ne nar
    refine lc_range (lo := 0) (n := m) (fun i G => ∃ ps : List Arc, G ar = some (.lst (aV ps)) ∧ ps.length = i ∧ (∀ p ∈ ps, G p.1 = some (.tup [.int (p.2.1 : Int), .int (p.2.2 : Int)]) ∧ p.2.1 < n ∧ p.2.2 < n ∧ p.2.1 ≠ p.2.2) ∧ Same H3 G) ⟨[], upd_same, rfl, fun p h => absurd h List.not_mem_nil, same_new nar⟩ (fun i G hi hP => ?_) (fun G hP => ?_)
    · obtain ⟨ps, har, hpl, hps, sG⟩ := hP
      have hsmG := sG _ _ hsm
      rw [show (0 : Int) + (i : Int) = (i : Int) by omega]
      obtain ⟨j, hj, hji, eat⟩ := at_back (by omega) hml hi
      rw [if_pos (by omega)] at hji
      have hxi : ys[i]? = some (ys.getD i 0) := by
        rw [List.getD_eq_getElem?_getD, List.getElem?_eq_getElem (by omega)]
        rfl
      have hxj : ys[j]? = some (ys.getD j 0) := by
        rw [List.getD_eq_getElem?_getD, List.getElem?_eq_getElem (by omega)]
        rfl
      have mi := hmem _ (List.mem_of_getElem? hxi)
      have mj := hmem _ (List.mem_of_getElem? hxj)
      have hne : ys.getD j 0 ≠ ys.getD i 0 := fun e => hji (by
        rw [e] at hxj
        obtain ⟨g1, e1⟩ := List.getElem?_eq_some_iff.mp hxj
        obtain ⟨g2, e2⟩ := List.getElem?_eq_some_iff.mp hxi
        exact (List.getElem_inj hnd).mp (e1.trans e2.symm))
      obtain ⟨un, hun⟩ : ∃ un : Nat, ys.getD j 0 = (un : Int) := ⟨(ys.getD j 0).toNat, by omega⟩
      obtain ⟨vn, hvn⟩ : ∃ vn : Nat, ys.getD i 0 = (vn : Int) := ⟨(ys.getD i 0).toNat, by omega⟩
      rw [hun] at eat hne mj
      rw [hvn] at hxi hne mi
      refine ⟨rfl, _, rfl, _, rfl, (i : Int), 1, rfl, rfl, sm, _, _, _, rfl, rfl, SqL.of hsmG, eat, _, rfl, _, rfl, sm, _, _, _, rfl, rfl, SqL.of hsmG, at_of (j := i) rfl (int_at hxi), line_small (by show 2 ≤ 16777216; decide), fun t nt => ?_⟩
      have st := same_new (o := .tup [.int (un : Int), .int (vn : Int)]) nt
      have ntar : t ≠ ar := (ne_of_none har nt).symm
      refine ⟨_, st _ _ har, line_lt (by rw [List.length_map]; omega), ps ++ [(t, un, vn)], by rw [upd_same]; unfold aV; rw [List.map_append]; rfl, by rw [List.length_append, hpl]; rfl, fun p hp => ?_, fun b ob e => ?_⟩
      · rcases List.mem_append.mp hp with h | h
        · obtain ⟨g1, g2⟩ := hps p h
          refine ⟨?_, g2⟩
          rw [upd_ne (fun z => by rw [z, har] at g1; cases g1)]
          exact st _ _ g1
        · rw [List.mem_singleton.mp h]
          exact ⟨by rw [upd_ne ntar, upd_same], by show un < n; omega, by show vn < n; omega, by show un ≠ vn; omega⟩
      · rw [upd_ne (ne_of_none e nar)]
        exact st _ _ (sG _ _ e)
    obtain ⟨ps, har, hpl, hps, sG⟩ := hP
    have DG := D3.same sG
    have kG := k3.trans (KeepD.of_same sG)
    have nHar : H ar = none := k3.none nar nard
    clear D1 D2 D3 k1 k2 k3 hsm ho sG
    -- way
    refine ⟨_, rfl, d, rfl, DG, fun v2 G1 _ _ D1 k1 => ⟨v2, 4, rfl, rfl, (show (0 : Int) < 4 by decide), ?_⟩⟩
    have har1 := k1 _ _ har nard
    have hps1 : ∀ p ∈ ps, G1 p.1 = some (.tup [.int (p.2.1 : Int), .int (p.2.2 : Int)]) ∧ p.2.1 < n ∧ p.2.2 < n ∧ p.2.1 ≠ p.2.2 := fun p hp => ⟨k1 _ _ (hps p hp).1 (tup_ne_dq DG (hps p hp).1), (hps p hp).2⟩
    have kG1 := kG.trans k1
    -- if way == 0
    refine ⟨fun τ G' => ∃ ps : List Arc, τ = [some (.ref d), some (.int n), some (.ref sm), some (.ref ar), some (.int (v2 % 4)), none, none, none, none, none, none] ∧ ArAt G' ar ps n ∧ 2 ≤ ps.length ∧ ps.length ≤ 9 ∧ DqAt G' d ∧ KeepD d H G', ?_, fun τ G' hM => ?_⟩
    · refine ⟨_, rfl, rfl, _, rfl, ite2 (fun _ => ?_) (fun _ => ⟨ps, rfl, ⟨har1, hps1⟩, by omega, by omega, D1, kG1⟩)⟩
      refine ⟨_, rfl, .inl ⟨rfl, _, SqL.of har1⟩, _, rfl, d, rfl, D1, fun v3 G2 _ _ D2 k2 => ?_⟩
      have har2 := k2 _ _ har1 nard
      have hal2 : (aV ps).length = m := by rw [List.length_map, hpl]
      refine ⟨_, rfl, ar, _, rfl, .inl (SqL.of har2), v3, _, rfl, rfl, by rw [hal2]; omega, ?_⟩
      obtain ⟨j, ej, hj⟩ : ∃ j : Nat, v3 % (((aV ps).length : Nat) : Int) = (j : Int) ∧ j < m := by
        rw [hal2]
        have h1 := mod_b v3 (m := (m : Int)) (by omega)
        exact ⟨(v3 % (m : Int)).toNat, by omega, by omega⟩
      obtain ⟨p, ep⟩ : ∃ p, ps[j]? = some p := ⟨ps[j]'(by omega), List.getElem?_eq_getElem (by omega)⟩
      refine ⟨ar, _, _, j, V.ref p.1, rfl, rfl, har2, by rw [ej]; omega, by rw [ej]; omega, seq_ix ej (by rw [hal2]; omega), by rw [List.getElem?_map, ep]; rfl, ?_⟩
      have hel : (ps.eraseIdx j).length = m - 1 := by rw [List.length_eraseIdx, if_pos (by omega), hpl]
      refine ⟨ps.eraseIdx j, rfl, ⟨?_, fun p' hp' => ?_⟩, by omega, by omega, D2.upd nard, fun b ob e nb => by rw [upd_ne (ne_of_none e nHar)]; exact (kG1.trans k2) b ob e nb⟩
      · rw [upd_same]
        unfold aV
        rw [← erase_aV]
      · obtain ⟨g1, g2⟩ := hps1 p' (List.mem_of_mem_eraseIdx hp')
        refine ⟨?_, g2⟩
        have g3 := k2 _ _ g1 (tup_ne_dq D1 g1)
        rw [upd_ne (fun z => by rw [z, har2] at g3; cases g3)]
        exact g3
    obtain ⟨ps, rfl, hA, hp2, hp9, DG, kG⟩ := hM
    clear hps1 har1 D1 k1 kG1 hps har hpl
    have hw4 := mod_b v2 (m := 4) (by decide)
    -- if way == 1
    refine ⟨fun τ G1 => ∃ (ps : List Arc) (y5 y6 : Option V), τ = [some (.ref d), some (.int n), some (.ref sm), some (.ref ar), some (.int (v2 % 4)), y5, y6, none, none, none, none] ∧ ArAt G1 ar ps n ∧ 2 ≤ ps.length ∧ ps.length ≤ 10 ∧ DqAt G1 d ∧ KeepD d H G1, ?_, fun τ G1 hM => ?_⟩
    · refine ⟨_, rfl, rfl, _, rfl, ite2 (fun _ => ?_) (fun _ => ⟨ps, _, _, rfl, hA, hp2, by omega, DG, kG⟩)⟩
      refine ⟨_, rfl, d, rfl, DG, fun v3 G2 _ _ D2 k2 => ⟨_, rfl, v3, n, rfl, rfl, (show (0 : Int) < (n : Int) by omega), ?_⟩⟩
      obtain ⟨un, hun, hul⟩ : ∃ un : Nat, v3 % (n : Int) = (un : Int) ∧ un < n := by
        have h1 := mod_b v3 (m := (n : Int)) (by omega)
        exact ⟨(v3 % (n : Int)).toNat, by omega, by omega⟩
      show gName 5 (V.int (v3 % (n : Int))) _ _ _
      rw [hun]
      refine ⟨_, rfl, (un : Int), 1, rfl, rfl, _, rfl, d, rfl, D2, fun v4 G3 _ _ D3 k3 => ⟨_, rfl, (n : Int), 1, rfl, rfl, v4, _, rfl, rfl, (show (0 : Int) < (n : Int) - 1 by omega), _, _, rfl, rfl, _, rfl, _, (n : Int), rfl, rfl, (show (0 : Int) < (n : Int) by omega), ?_⟩⟩
      have h4 := mod_b v4 (m := (n : Int) - 1) (by omega)
      obtain ⟨vn, hvn, hvl, hne⟩ : ∃ vn : Nat, ((un : Int) + 1 + v4 % ((n : Int) - 1)) % (n : Int) = (vn : Int) ∧ vn < n ∧ un ≠ vn := by
        have h1 := mod_b ((un : Int) + 1 + v4 % ((n : Int) - 1)) (m := (n : Int)) (by omega)
        refine ⟨(((un : Int) + 1 + v4 % ((n : Int) - 1)) % (n : Int)).toNat, by omega, by omega, fun e => ?_⟩
        have e2 : ((un : Int) + 1 + v4 % ((n : Int) - 1)) % (n : Int) = (un : Int) := by omega
        by_cases c : (un : Int) + 1 + v4 % ((n : Int) - 1) < (n : Int)
        · rw [Int.emod_eq_of_lt (by omega) c] at e2
          omega
        · have e3 : ((un : Int) + 1 + v4 % ((n : Int) - 1)) % (n : Int) = (un : Int) + 1 + v4 % ((n : Int) - 1) - (n : Int) := by
            rw [← Int.sub_emod_right, Int.emod_eq_of_lt (by omega) (by omega)]
          omega
      show gName 6 (V.int (((un : Int) + 1 + v4 % ((n : Int) - 1)) % (n : Int))) _ _ _
      rw [hvn]
      have k23 := k2.trans k3
      have har3 := k23 _ _ hA.top nard
      have hps3 : ∀ p ∈ ps, G3 p.1 = some (.tup [.int (p.2.1 : Int), .int (p.2.2 : Int)]) ∧ p.2.1 < n ∧ p.2.2 < n ∧ p.2.1 ≠ p.2.2 := fun p hp => ⟨k23 _ _ (hA.each p hp).1 (tup_ne_dq DG (hA.each p hp).1), (hA.each p hp).2⟩
      have kG3 := kG.trans k23
      have fin : ∀ G4, Same G3 G4 → ∃ (ps : List Arc) (y5 y6 : Option V), ([some (.ref d), some (.int n), some (.ref sm), some (.ref ar), some (.int (v2 % 4)), some (.int (un : Int)), some (.int (vn : Int)), none, none, none, none] : L2.St) = [some (.ref d), some (.int n), some (.ref sm), some (.ref ar), some (.int (v2 % 4)), y5, y6, none, none, none, none] ∧ ArAt G4 ar ps n ∧ 2 ≤ ps.length ∧ ps.length ≤ 10 ∧ DqAt G4 d ∧ KeepD d H G4 := fun G4 s4 => ⟨ps, _, _, rfl, ⟨s4 _ _ har3, fun p hp => ⟨s4 _ _ (hps3 p hp).1, (hps3 p hp).2⟩⟩, hp2, by omega, D3.same s4, kG3.trans (KeepD.of_same s4)⟩
      refine ⟨_, rfl, _, rfl, line_small (by show 2 ≤ 16777216; decide), fun t1 nt1 => ?_⟩
      have s4 := same_new (o := .tup [.int (un : Int), .int (vn : Int)]) nt1
      refine ⟨_, rfl, _, _, dp_pair upd_same, .lst (SqL.of (s4 _ _ har3)) (dp_pairs ps fun p hp => s4 _ _ (hps3 p hp).1), shaped_pair _ _, shaped_pairs ps, _, rfl, ite2 (fun _ => ?_) (fun _ => iteF (fin _ s4))⟩
      refine ⟨_, rfl, _, rfl, line_small (by show 2 ≤ 16777216; decide), fun t2 nt2 => ?_⟩
      have s5 := s4.trans (same_new (o := .tup [.int (vn : Int), .int (un : Int)]) nt2)
      refine ⟨_, rfl, _, _, dp_pair upd_same, .lst (SqL.of (s5 _ _ har3)) (dp_pairs ps fun p hp => s5 _ _ (hps3 p hp).1), shaped_pair _ _, shaped_pairs ps, _, rfl, ite2 (fun _ => ?_) (fun _ => fin _ s5)⟩
      have har5 := s5 _ _ har3
      refine ⟨_, rfl, .inl ⟨rfl, _, SqL.of har5⟩, _, rfl, _, rfl, line_small (by show 2 ≤ 16777216; decide), fun t3 nt3 => ?_⟩
      have s6 := s5.trans (same_new (o := .tup [.int (un : Int), .int (vn : Int)]) nt3)
      have har6 := s6 _ _ har3
      have nt3ar : t3 ≠ ar := (ne_of_none har5 nt3).symm
      refine ⟨ar, _, _, rfl, rfl, har6, line_lt (by rw [List.length_map]; omega), ?_⟩
      refine ⟨ps ++ [(t3, un, vn)], _, _, rfl, ⟨by rw [upd_same]; unfold aV; rw [List.map_append]; rfl, fun p hp => ?_⟩, by rw [List.length_append]; omega, by rw [List.length_append]; show _ + 1 ≤ 10; omega, (D3.same s6).upd nard, fun b ob e nb => by rw [upd_ne (ne_of_none e nHar)]; exact (kG3.trans (KeepD.of_same s6)) b ob e nb⟩
      rcases List.mem_append.mp hp with h | h
      · obtain ⟨g1, g2⟩ := hps3 p h
        refine ⟨?_, g2⟩
        have g3 := s6 _ _ g1
        rw [upd_ne (fun z => by rw [z, har6] at g3; cases g3)]
        exact g3
      · rw [List.mem_singleton.mp h]
        exact ⟨by rw [upd_ne nt3ar, upd_same], hul, hvl, hne⟩
    obtain ⟨ps, y5, y6, rfl, hA, hp2, hp10, DG, kG⟩ := hM
    -- found
    refine ⟨_, rfl, _, rfl, _, rfl, 10, rfl, ar, _, rfl, SqL.of hA.top, fun a10 na10 => ?_⟩
    have ecut2 : cutV (aV ps) none (some 10) = aV ps := by
      unfold cutV
      rw [HT.sIx_none, show (10 : Int) = ((10 : Nat) : Int) from rfl, HT.sIx_nat, List.drop_zero, Nat.sub_zero, List.length_map]
      rw [Nat.min_eq_right (by omega), List.take_of_length_le (by rw [List.length_map]; exact Nat.le_refl _)]
    rw [ecut2]
    have s1 := same_new (o := .lst (aV ps)) na10
    have na10d := DG.ne na10
    refine ⟨d, a10, ps, n, rfl, DG.same s1, ⟨upd_same, fun p hp => ⟨s1 _ _ (hA.each p hp).1, (hA.each p hp).2⟩⟩, by omega, by omega, hp10, na10d, fun l as rs G2 hO hrl nl nas nld nda D2 k2 => ?_⟩
    have kG2 : KeepD d H G2 := (kG.trans (KeepD.of_same s1)).trans k2
    have hal := hO.ll.len
    have hvl : (as.map V.ref).length = rs.length := by rw [List.length_map, hal]
    -- left
    refine ⟨_, rfl, l, _, rfl, .inl (SqL.of hO.top), _, rfl, RgOk.of_le (by omega) (by rw [hvl]; omega) (by omega) (by omega), fun lf nlf => ?_⟩
    rw [hvl]
    have s3 := same_new (o := .lst (rgV 0 ((rs.length : Nat) : Int))) nlf
    have hlf : (upd G2 lf (.lst (rgV 0 ((rs.length : Nat) : Int)))) lf = some (.lst ((rg rs.length).map V.int)) := by rw [upd_same, rg_V]
    have hO3 := hO.same s3
    have D3 := D2.same s3
    have nlfd := D2.ne nlf
    have nlfl : lf ≠ l := (ne_of_none hO.top nlf).symm
    have nlfa : lf ∉ as := fun h => by
      obtain ⟨ob, e⟩ := hO.ll.tracked h
      rw [nlf] at e
      cases e
    have kG3 := kG2.trans (KeepD.of_same s3)
    generalize upd G2 lf (.lst (rgV 0 ((rs.length : Nat) : Int))) = G3 at hlf hO3 D3 kG3 ⊢
    refine ⟨_, rfl, l, rfl, ⟨_, SqL.of hO3.top⟩, fun D nD => ?_⟩
    have nDd := D3.ne nD
    have nDl : D ≠ l := (ne_of_none hO3.top nD).symm
    have nDlf : D ≠ lf := (ne_of_none hlf nD).symm
    have nDa : D ∉ as := fun h => by
      obtain ⟨ob, e⟩ := hO3.ll.tracked h
      rw [nD] at e
      cases e
    have nHlf : H lf = none := kG2.none nlf nlfd
    have nHD : H D = none := kG3.none nD nDd
    refine lc_list (K := K) (a := l) (xs := as.map V.ref) (fun i G4 => ∃ (rest : List Int) (bs : List Addr) (ss : List (List Int)), G4 lf = some (.lst (rest.map V.int)) ∧ rest.length + i = rs.length ∧ (∀ x ∈ rest, 0 ≤ x ∧ x < rs.length) ∧ G4 D = some (.lst (bs.map V.ref)) ∧ LL G4 bs ss ∧ (∀ r ∈ ss, IsOrd n r) ∧ ss.length = i ∧ (∀ b ∈ bs, b ∈ as) ∧ OL G4 l as rs n ∧ DqAt G4 d ∧ KeepD d H G4)
      ⟨rg rs.length, [], [], by rw [upd_ne nDlf.symm]; exact hlf, by rw [rg_len]; rfl, fun x hx => rg_mem.mp hx, upd_same, trivial, fun r h => absurd h List.not_mem_nil, rfl, fun b h => absurd h List.not_mem_nil, hO3.same (same_new nD), D3.new nD, kG3.trans (KeepD.new nD)⟩ (fun i G4 _ hP => by
        obtain ⟨_, _, _, _, _, _, _, _, _, _, _, hO4, _⟩ := hP
        exact SqL.of hO4.top) (fun i x G4 hx hP => ?_) (fun G4 hP => ?_)
    · obtain ⟨rest, bs, ss, hlf4, hrl4, hrm, hD4, hLL4, ho4, hsl, hbs, hO4, D4, k4⟩ := hP
      have hi := (List.getElem?_eq_some_iff.mp hx).1
      rw [hvl] at hi
      have hlm : (rest.map V.int).length = rest.length := List.length_map _
      have hbl := hLL4.len
      refine ⟨rfl, _, rfl, _, rfl, .inl ⟨rfl, _, SqL.of hlf4⟩, _, rfl, d, rfl, D4, fun v5 G5 _ _ D5 k5 => ?_⟩
      have hlf5 := k5 _ _ hlf4 nlfd
      have hD5 := k5 _ _ hD4 nDd
      have hO5 := hO4.keepD k5 nld nda
      have hLL5 : LL G5 bs ss := hLL4.keep fun b hb ob e => k5 b ob e (fun z => nda (by rw [← z]; exact hbs b hb))
      refine ⟨_, rfl, lf, _, rfl, .inl (SqL.of hlf5), v5, _, rfl, rfl, by rw [hlm]; omega, ?_⟩
      obtain ⟨j, ej, hj⟩ : ∃ j : Nat, v5 % (((rest.map V.int).length : Nat) : Int) = (j : Int) ∧ j < rest.length := by
        rw [hlm]
        have h1 := mod_b v5 (m := ((rest.length : Nat) : Int)) (by omega)
        exact ⟨(v5 % ((rest.length : Nat) : Int)).toNat, by omega, by omega⟩
      obtain ⟨y, ey⟩ : ∃ y, rest[j]? = some y := ⟨rest[j], List.getElem?_eq_getElem hj⟩
      have hy := hrm y (List.mem_of_getElem? ey)
      obtain ⟨yn, rfl⟩ : ∃ yn : Nat, y = (yn : Int) := ⟨y.toNat, by omega⟩
      obtain ⟨b, eb⟩ : ∃ b, as[yn]? = some b := ⟨as[yn]'(by omega), List.getElem?_eq_getElem (by omega)⟩
      obtain ⟨r, er, hb⟩ := hO5.ll.get eb
      have hbm := List.mem_of_getElem? eb
      refine ⟨lf, _, _, j, _, rfl, rfl, hlf5, by rw [ej]; omega, by rw [ej]; omega, seq_ix ej (by rw [hlm]; omega), int_at ey, ?_⟩
      have k6 : ∀ c ob, G5 c = some ob → c ≠ lf → (upd G5 lf (.lst ((rest.map V.int).eraseIdx j))) c = some ob := fun c ob e nc => by rw [upd_ne nc]; exact e
      refine ⟨l, _, _, _, rfl, rfl, SqL.of (k6 _ _ hO5.top nlfl.symm), at_of (j := yn) rfl (ref_at eb), _, k6 _ _ hD5 nDlf, line_lt (by rw [List.length_map]; omega), ?_⟩
      have nbD : ∀ c ∈ as, c ≠ D := fun c hc z => nDa (by rw [← z]; exact hc)
      have nbl : ∀ c ∈ as, c ≠ lf := fun c hc z => nlfa (by rw [← z]; exact hc)
      have k7 : ∀ c ob, G5 c = some ob → c ≠ lf → c ≠ D → (upd (upd G5 lf (.lst ((rest.map V.int).eraseIdx j))) D (.lst (bs.map V.ref ++ [.ref b]))) c = some ob := fun c ob e n1 n2 => by rw [upd_ne n2]; exact k6 c ob e n1
      refine ⟨rest.eraseIdx j, bs ++ [b], ss ++ [r], by rw [upd_ne nDlf.symm, upd_same, map_erase], by rw [List.length_eraseIdx, if_pos hj]; omega, fun x hx => hrm x (List.mem_of_mem_eraseIdx hx), by rw [upd_same, List.map_append]; rfl, LL.snoc (hLL5.keep fun c hc ob e => k7 c ob e (nbl c (hbs c hc)) (nbD c (hbs c hc))) (k7 b _ hb (nbl b hbm) (nbD b hbm)), fun r' hr' => ?_, by rw [List.length_append, hsl]; rfl, fun c hc => ?_, ⟨k7 l _ hO5.top nlfl.symm nDl.symm, hO5.ll.keep fun c hc ob e => k7 c ob e (nbl c hc) (nbD c hc), hO5.ord, hO5.n1, hO5.n2⟩, (D5.upd nlfd).upd nDd, fun c ob e nc => k7 c ob (k5 c ob (k4 c ob e nc) nc) (ne_of_none e nHlf) (ne_of_none e nHD)⟩
      · rcases List.mem_append.mp hr' with h | h
        · exact ho4 r' h
        · rw [List.mem_singleton.mp h]
          exact hO.ord r (List.mem_of_getElem? er)
      · rcases List.mem_append.mp hc with h | h
        · exact hbs c h
        · rw [List.mem_singleton.mp h]
          exact hbm
    · obtain ⟨rest, bs, ss, hlf4, hrl4, hrm, hD4, hLL4, ho4, hsl, hbs, hO4, D4, k4⟩ := hP
      rw [hvl] at hsl
      exact q D bs ss G4 ⟨hD4, hLL4, ho4, by omega, by omega⟩ (by omega) (by omega) nHD nDd (fun h => nda (hbs d h)) D4 k4
end
end Fo
namespace Fo
open PySem PySem.Spec PyProof.Rows L2
/-! ### rings from behind; things in a row where there is no ring (k69) -/
theorem Wk.part {fl : Int → List Int} {z : Int} {k : Nat} {w : List Int} {v : Int} (h : Wk fl z k w v) : ∀ i ≤ k, ∃ q x, w[i]? = some x ∧ Wk fl z i q x := by
  induction h with
  | nil =>
    intro i hi
    have e : i = 0 := by omega
    subst e
    exact ⟨[z], z, rfl, .nil⟩
  | @snoc k p v u hw hu hz ih =>
    intro i hi
    by_cases c : i = k + 1
    · subst c
      refine ⟨p ++ [u], u, ?_, .snoc hw hu hz⟩
      rw [List.getElem?_append_right (by rw [hw.len]; omega), hw.len, Nat.sub_self]
      rfl
    · obtain ⟨q, x, e, hq⟩ := ih i (by omega)
      refine ⟨q, x, ?_, hq⟩
      rw [List.getElem?_append_left (by rw [hw.len]; omega)]
      exact e
theorem wk_join {fl : Int → List Int} {z : Int} {t : Nat} {y : Int} (hb : Bw fl z t y) : ∀ {i : Nat} {q : List Int} {x : Int}, Wk fl z i q x → y ∈ fl x → ∃ w v, Wk fl z (i + t) w v ∧ z ∈ fl v := by
  induction hb with
  | nil => exact fun hw hy => ⟨_, _, hw, hy⟩
  | @cons t x' y' hb h1 h2 ih =>
    intro i q x hw hy
    obtain ⟨w, v, h3, h4⟩ := ih (.snoc hw hy h2) h1
    exact ⟨w, v, by rw [show i + (t + 1) = i + 1 + t by omega]; exact h3, h4⟩
/-- there is a closed walk of k + 1 things, z the least of them -/
def Clo (fl : Int → List Int) (z : Int) (k : Nat) : Prop := ∃ w v, Wk fl z k w v ∧ z ∈ fl v
theorem ring_nodup {fl : Int → List Int} {z : Int} {k : Nat} {p : List Int} {v : Int} (h : Wk fl z k p v) (hz : z ∈ fl v) (hm : ∀ j < k, ¬ Clo fl z j) : p.Nodup := by
  refine List.pairwise_iff_getElem.mpr fun i j hi hj hij e => ?_
  have hl := h.len
  obtain ⟨q, x, ex, hq⟩ := h.part i (by omega)
  have hv : z < v := by
    cases h with
    | nil => have h9 : j < 1 := hj; omega
    | snoc _ _ h3 => exact h3
  obtain ⟨y, ey, hy⟩ := h.behind (t := 1) (.cons .nil hz hv) j (by omega) (.inr (.inr trivial))
  have e1 : x = y := by
    rw [List.getElem?_eq_getElem hi] at ex
    rw [List.getElem?_eq_getElem hj] at ey
    rw [← Option.some.inj ex, ← Option.some.inj ey, e]
  subst e1
  have hb := hy (by omega)
  rw [show 1 + (k - j) = (k - j) + 1 by omega] at hb
  cases hb with
  | cons hb h1 h2 =>
    obtain ⟨w, u, h3, h4⟩ := wk_join hb hq h1
    exact hm (i + (k - j)) (by omega) ⟨w, u, h3, h4⟩
theorem wk_least {fl : Int → List Int} {z : Int} {k : Nat} {p : List Int} {v : Int} (h : Wk fl z k p v) : ∀ x ∈ p, z ≤ x := by
  induction h with
  | nil => intro x hx; rw [List.mem_singleton.mp hx]; exact Int.le_refl _
  | snoc _ _ hz ih =>
    intro x hx
    rcases List.mem_append.mp hx with hx | hx
    · exact ih x hx
    · rw [List.mem_singleton.mp hx]; exact Int.le_of_lt hz
theorem wk_rev {fl fl' : Int → List Int} {z : Int} (hr : ∀ x y, y ∈ fl x → x ∈ fl' y) : ∀ (k : Nat) {p : List Int} {v : Int}, Wk fl z (k + 1) p v → ∀ {j : Nat} {q : List Int}, Wk fl' z j q v → ∃ q' x1, Wk fl' z (j + k) q' x1 ∧ x1 ∈ fl z
  | 0, p, v, h, j, q, hq => by
    obtain ⟨p', v', rfl, h1, h2, h3⟩ := h.succ
    obtain ⟨_, rfl⟩ := h1.zero
    exact ⟨q, v, hq, h2⟩
  | k + 1, p, v, h, j, q, hq => by
    obtain ⟨p', v', rfl, h1, h2, h3⟩ := h.succ
    obtain ⟨_, _, _, _, _, h4⟩ := h1.succ
    obtain ⟨q', x1, h5, h6⟩ := wk_rev hr k h1 (.snoc hq (hr _ _ h2) h4)
    exact ⟨q', x1, by rw [show j + (k + 1) = j + 1 + k by omega]; exact h5, h6⟩
theorem clo_rev {fl fl' : Int → List Int} {z : Int} (hr : ∀ x y, y ∈ fl x → x ∈ fl' y) (hs : z ∉ fl z) {k : Nat} (h : Clo fl z k) : Clo fl' z k := by
  obtain ⟨w, v, h1, h2⟩ := h
  cases k with
  | zero =>
    obtain ⟨_, rfl⟩ := h1.zero
    exact absurd h2 hs
  | succ k =>
    obtain ⟨_, _, _, _, _, h4⟩ := h1.succ
    obtain ⟨q', x1, h5, h6⟩ := wk_rev hr k h1 (.snoc .nil (hr _ _ h2) h4)
    exact ⟨q', x1, by rw [show k + 1 = 0 + 1 + k by omega]; exact h5, hr _ _ h6⟩
/-- no ring: all things from z on stand in a row, none behind one that it goes before -/
theorem topo {fl : Int → List Int} {n : Nat} (h : ∀ z : Nat, z < n → RingAt fl (z : Int) none) : ∀ m ≤ n, ∃ L : List Int, L.Nodup ∧ (∀ x, x ∈ L ↔ ((n - m : Nat) : Int) ≤ x ∧ x < n) ∧ L.Pairwise fun a b => a ∉ fl b := by
  intro m
  induction m with
  | zero => exact fun _ => ⟨[], .nil, fun x => ⟨fun q => absurd q List.not_mem_nil, fun q => by omega⟩, .nil⟩
  | succ m ih =>
    intro hm
    obtain ⟨L, hn, hx, hp⟩ := ih (by omega)
    classical
    let z : Int := ((n - (m + 1) : Nat) : Int)
    have ez : ((n - m : Nat) : Int) = z + 1 := by simp only [z]; omega
    let R : Int → Bool := fun v => decide (∃ k q, Wk fl z (k + 1) q v)
    have Rt : ∀ {v}, R v = true ↔ ∃ k q, Wk fl z (k + 1) q v := fun {v} => decide_eq_true_iff
    have Rf : ∀ {v}, (!R v) = true ↔ ¬ ∃ k q, Wk fl z (k + 1) q v := fun {v} => by
      rw [Bool.not_eq_true', decide_eq_false_iff_not]
    have gt : ∀ {v}, v ∈ L → z < v := fun hv => by have := ((hx _).mp hv).1; omega
    have hz := h (n - (m + 1)) (by omega)
    refine ⟨L.filter (fun v => !R v) ++ z :: L.filter R, ?_, fun x => ?_, ?_⟩
    · refine List.pairwise_append.mpr ⟨hn.filter _, List.pairwise_cons.mpr ⟨fun b hb e => ?_, hn.filter _⟩, fun a ha b hb e => ?_⟩
      · have := gt (List.mem_filter.mp hb).1; omega
      · rcases List.mem_cons.mp hb with rfl | hb
        · have := gt (List.mem_filter.mp ha).1; omega
        · subst e
          exact Rf.mp (List.mem_filter.mp ha).2 (Rt.mp (List.mem_filter.mp hb).2)
    · rw [List.mem_append, List.mem_cons, List.mem_filter, List.mem_filter, hx, ez]
      constructor
      · rintro (⟨⟨h1, h2⟩, _⟩ | rfl | ⟨⟨h1, h2⟩, _⟩)
        · exact ⟨by show z ≤ x; omega, h2⟩
        · exact ⟨Int.le_refl _, by simp only [z]; omega⟩
        · exact ⟨by show z ≤ x; omega, h2⟩
      · rintro ⟨h1, h2⟩
        have h1' : z ≤ x := h1
        by_cases c : x = z
        · exact .inr (.inl c)
        · cases r : R x with
          | true => exact .inr (.inr ⟨⟨by omega, h2⟩, rfl⟩)
          | false => exact .inl ⟨⟨by omega, h2⟩, rfl⟩
    · refine List.pairwise_append.mpr ⟨hp.filter _, List.pairwise_cons.mpr ⟨fun b hb e => ?_, hp.filter _⟩, fun a ha b hb e => ?_⟩
      · obtain ⟨k, q, hw⟩ := Rt.mp (List.mem_filter.mp hb).2
        exact hz _ _ _ hw e
      · have ha2 := Rf.mp (List.mem_filter.mp ha).2
        have ga := gt (List.mem_filter.mp ha).1
        rcases List.mem_cons.mp hb with rfl | hb
        · exact ha2 ⟨0, _, .snoc .nil e ga⟩
        · obtain ⟨k, q, hw⟩ := Rt.mp (List.mem_filter.mp hb).2
          exact ha2 ⟨k + 1, _, .snoc hw e ga⟩
theorem topo_ord {fl : Int → List Int} {n : Nat} (h : ∀ z : Nat, z < n → RingAt fl (z : Int) none) : ∃ L : List Int, IsOrd n L ∧ ∀ t ∈ rg n, ∀ u ∈ rg n, pos L t < pos L u → t ∉ fl u := by
  obtain ⟨L, hn, hx, hp⟩ := topo h n (Nat.le_refl _)
  have o : IsOrd n L := by
    refine (List.perm_ext_iff_of_nodup hn (rg_nodup n)).mpr fun x => ?_
    rw [hx, rg_mem, Nat.sub_self]
    rfl
  refine ⟨L, o, fun t ht u hu hlt => ?_⟩
  obtain ⟨i, hi, ei, pi⟩ := pos_at o (rg_mem.mp ht).1 (rg_mem.mp ht).2
  obtain ⟨j, hj, ej, pj⟩ := pos_at o (rg_mem.mp hu).1 (rg_mem.mp hu).2
  obtain ⟨li, e1⟩ := List.getElem?_eq_some_iff.mp ei
  obtain ⟨lj, e2⟩ := List.getElem?_eq_some_iff.mp ej
  have := List.pairwise_iff_getElem.mp hp i j li lj (by omega)
  rwa [e1, e2] at this
end Fo
namespace Fo
open PySem PySem.Spec PyProof.Rows L2
/-! ### sums over pairs (k69) -/
def aU (rs : List (List Int)) (i j : Int) : Nat := (rs.filter fun r => decide (pos r i < pos r j)).length
theorem aN_aU (rs : List (List Int)) (i j : Int) : aN rs i j = ((aU rs i j : Nat) : Int) := rfl
/-- what an order costs: each pair by who goes first -/
def cN (n : Nat) (o : List Int) (f : Int → Int → Nat) : Nat := sumN (rg n) fun t => sumN (rg n) fun u => if pos o t < pos o u then f u t else 0
theorem intSum (f : Int → Int → Nat) (t : Int) : ∀ r : List Int, (r.map fun o => ((f o t : Nat) : Int)).sum = ((sumN r (fun o => f o t) : Nat) : Int)
  | [] => rfl
  | x :: r => by
    rw [List.map_cons, List.sum_cons, intSum f t r, sumN_cons]
    push_cast
    rfl
theorem cst_two (f : Int → Int → Nat) : ∀ o : List Int, o.Nodup → cst (fun i j => ((f i j : Nat) : Int)) o = ((sumN o (fun t => sumN o fun u => if pos o t < pos o u then f u t else 0) : Nat) : Int)
  | [], _ => rfl
  | x :: r, hn => by
    obtain ⟨h1, h2⟩ := List.nodup_cons.mp hn
    have p0 : pos (x :: r) x = 0 := by unfold pos; rw [List.idxOf_cons_self]; rfl
    have p1 : ∀ {y}, y ∈ r → pos (x :: r) y = pos r y + 1 := fun {y} hy => by
      unfold pos
      have e : (x == y) = false := by rw [beq_eq_false_iff_ne]; exact fun e => h1 (e ▸ hy)
      rw [List.idxOf_cons, e, cond_false]
      push_cast
      rfl
    have pn : ∀ y, 0 ≤ pos r y := fun y => Int.natCast_nonneg _
    show (r.map fun o => ((f o x : Nat) : Int)).sum + cst _ r = _
    rw [intSum f x r, cst_two f r h2, sumN_cons, sumN_cons, if_neg (Int.lt_irrefl _), Nat.zero_add]
    have e1 : sumN r (fun u => if pos (x :: r) x < pos (x :: r) u then f u x else 0) = sumN r fun u => f u x := sumN_congr fun u hu => by
      rw [p0, p1 hu, if_pos (by have := pn u; omega)]
    have e2 : sumN r (fun t => sumN (x :: r) fun u => if pos (x :: r) t < pos (x :: r) u then f u t else 0) = sumN r fun t => sumN r fun u => if pos r t < pos r u then f u t else 0 := sumN_congr fun t ht => by
      rw [sumN_cons, p0, p1 ht, if_neg (by have := pn t; omega), Nat.zero_add]
      refine sumN_congr fun u hu => ?_
      rw [p1 hu]
      by_cases c : pos r t < pos r u
      · rw [if_pos c, if_pos (by omega)]
      · rw [if_neg c, if_neg (by omega)]
    rw [e1, e2]
    push_cast
    rfl
theorem cst_cN {n : Nat} {o : List Int} (ho : IsOrd n o) (rs : List (List Int)) : cst (aN rs) o = ((cN n o (aU rs) : Nat) : Int) := by
  show cst (fun i j => ((aU rs i j : Nat) : Int)) o = _
  rw [cst_two (aU rs) o ho.nodup]
  unfold cN
  rw [sumN_perm ho]
  congr 1
  exact sumN_congr fun t _ => sumN_perm ho _
theorem cN_add (n : Nat) (o : List Int) (f g : Int → Int → Nat) : cN n o (fun i j => f i j + g i j) = cN n o f + cN n o g := by
  unfold cN
  rw [← sumN_add]
  refine sumN_congr fun t _ => ?_
  rw [← sumN_add]
  refine sumN_congr fun u _ => ?_
  by_cases c : pos o t < pos o u
  · rw [if_pos c, if_pos c, if_pos c]
  · rw [if_neg c, if_neg c, if_neg c]
theorem cN_one {n : Nat} {o r : List Int} : cN n o (fun i j => ind (decide (pos r i < pos r j))) = swT n o r := by
  unfold cN swT dT
  refine sumN_congr fun t _ => sumN_congr fun u _ => ?_
  by_cases c : pos o t < pos o u
  · rw [if_pos c, decide_eq_true c, Bool.true_and]
  · rw [if_neg c, decide_eq_false c, Bool.false_and]; rfl
theorem aU_cons (r : List Int) (rs : List (List Int)) (i j : Int) : aU (r :: rs) i j = ind (decide (pos r i < pos r j)) + aU rs i j := by
  unfold aU
  rw [List.filter_cons]
  cases decide (pos r i < pos r j) with
  | true => rw [if_pos rfl, List.length_cons]; show _ = 1 + _; omega
  | false => rw [if_neg (by decide)]; show _ = 0 + _; omega
theorem swap_cN {n : Nat} {o : List Int} (ho : IsOrd n o) : ∀ rs : List (List Int), (∀ r ∈ rs, IsOrd n r) → sumW "swap" o rs = ((cN n o (aU rs) : Nat) : Int)
  | [], _ => by
    show (0 : Int) = _
    have : cN n o (aU []) = 0 := sumN_zero fun t _ => sumN_zero fun u _ => by
      show (if _ then 0 else 0) = 0
      split <;> rfl
    rw [this]; rfl
  | r :: rs, hr => by
    have e : aU (r :: rs) = fun i j => ind (decide (pos r i < pos r j)) + aU rs i j := by
      funext i j
      exact aU_cons r rs i j
    rw [e, cN_add, cN_one]
    show farW "swap" o r + sumW "swap" o rs = _
    rw [swap_cN ho rs fun x hx => hr x (List.mem_cons_of_mem _ hx), farW_swap, swap_T ho (hr r List.mem_cons_self)]
    push_cast
    rfl
theorem midF_sum {n : Nat} {w : Str} {o : List Int} {rs : List (List Int)} (ho : IsOrd n o) (hr : ∀ r ∈ rs, IsOrd n r) : midF w rs o = sumW w o rs := by
  unfold midF
  by_cases c : w = "swap"
  · subst c
    rw [if_pos rfl, cst_cN ho, swap_cN ho rs hr]
  · rw [if_neg c]
/-- the pairs, each once -/
def prS (n : Nat) (h : Int → Int → Nat) : Nat := sumN (rg n) fun j => sumN (rg j.toNat) fun i => h i j
theorem prS_succ (n : Nat) (h : Int → Int → Nat) : prS (n + 1) h = prS n h + sumN (rg n) fun i => h i (n : Int) := by
  unfold prS
  rw [rg_succ, sumN_append, sumN_cons, sumN_nil, Nat.add_zero]
  rfl
theorem two_prS {g : Int → Int → Nat} (h0 : ∀ t, g t t = 0) : ∀ n : Nat, sumN (rg n) (fun t => sumN (rg n) fun u => g t u) = prS n fun i j => g i j + g j i
  | 0 => rfl
  | n + 1 => by
    have ih := two_prS h0 n
    rw [prS_succ, ← ih, rg_succ, sumN_append, sumN_cons, sumN_nil, Nat.add_zero, sumN_append, sumN_cons, sumN_nil, h0, Nat.add_zero, sumN_add]
    have e : sumN (rg n) (fun t => sumN (rg n ++ [(n : Int)]) fun u => g t u) = sumN (rg n) (fun t => sumN (rg n) fun u => g t u) + sumN (rg n) fun t => g t (n : Int) := by
      rw [← sumN_add]
      refine sumN_congr fun t _ => ?_
      rw [sumN_append, sumN_cons, sumN_nil, Nat.add_zero]
    rw [e]
    exact Nat.add_assoc _ _ _
theorem prS_le {n : Nat} {f g : Int → Int → Nat} (h : ∀ i j : Int, 0 ≤ i → i < j → j < n → f i j ≤ g i j) : prS n f ≤ prS n g :=
  sumN_le fun j hj => sumN_le fun i hi => by
    have h1 := rg_mem.mp hj
    have h2 := rg_mem.mp hi
    exact h i j h2.1 (by omega) h1.2
theorem sum_flat (f : Nat → List (Int × Int)) (F : Int × Int → Int) (G : Nat → Nat) (h : ∀ j, ((f j).map F).sum = ((G j : Nat) : Int)) : ∀ n : Nat, ((pre f n).map F).sum = ((sumN (rg n) (fun j => G j.toNat) : Nat) : Int)
  | 0 => rfl
  | n + 1 => by
    rw [pre_succ, List.map_append, List.sum_append, sum_flat f F G h n, h, rg_succ, sumN_append, sumN_cons, sumN_nil, Nat.add_zero]
    push_cast
    rfl
theorem psum_prS (n : Nat) (rs : List (List Int)) : psum n rs = ((prS n (fun i j => min (aU rs i j) (aU rs j i)) : Nat) : Int) := by
  unfold psum prP
  rw [sum_flat prR _ (fun j => sumN (rg j) fun i => min (aU rs i (j : Int)) (aU rs (j : Int) i)) (fun j => ?_) n]
  · unfold prS
    congr 1
    refine sumN_congr fun j hj => ?_
    have := (rg_mem.mp hj).1
    rw [show ((j.toNat : Nat) : Int) = j by omega]
  · unfold prR rg
    rw [List.map_map]
    have : ∀ l : List Nat, (l.map ((fun p : Int × Int => mn (aN rs p.1 p.2) (aN rs p.2 p.1)) ∘ fun (i : Nat) => ((i : Int), (j : Int)))).sum = ((sumN (l.map fun k => ((k : Nat) : Int)) (fun i => min (aU rs i (j : Int)) (aU rs (j : Int) i)) : Nat) : Int) := fun l => by
      induction l with
      | nil => rfl
      | cons x l ih =>
        rw [List.map_cons, List.sum_cons, ih, List.map_cons, sumN_cons]
        show mn (aN rs x j) (aN rs j x) + _ = _
        rw [aN_aU, aN_aU]
        unfold mn
        push_cast
        split <;> omega
    exact this _
theorem cN_prS (n : Nat) (o : List Int) (f : Int → Int → Nat) : cN n o f = prS n fun i j => (if pos o i < pos o j then f j i else 0) + if pos o j < pos o i then f i j else 0 :=
  two_prS (fun t => if_neg (Int.lt_irrefl _)) n
theorem cN_least {n : Nat} {o : List Int} (ho : IsOrd n o) (rs : List (List Int)) : psum n rs ≤ ((cN n o (aU rs) : Nat) : Int) := by
  rw [psum_prS, cN_prS]
  refine Int.ofNat_le.mpr (prS_le fun i j h1 h2 h3 => ?_)
  have ne : pos o i ≠ pos o j := fun e => by
    have := pos_inj ho (rg_mem.mpr ⟨h1, by omega⟩) (rg_mem.mpr ⟨by omega, h3⟩) e
    omega
  by_cases c : pos o i < pos o j
  · rw [if_pos c]; have := Nat.min_le_right (aU rs i j) (aU rs j i); omega
  · rw [if_pos (show pos o j < pos o i by omega)]; have := Nat.min_le_left (aU rs i j) (aU rs j i); omega
/-- no ring: the row of all things costs the pairs' sum -/
theorem no_ring_sum {n : Nat} {rs : List (List Int)} (ho : ∀ r ∈ rs, IsOrd n r) (h : ∀ z : Nat, z < n → RingAt (flw n rs) (z : Int) none) : ∃ L, IsOrd n L ∧ ((cN n L (aU rs) : Nat) : Int) ≤ psum n rs := by
  obtain ⟨L, oL, hL⟩ := topo_ord h
  refine ⟨L, oL, ?_⟩
  have key : ∀ t u : Int, 0 ≤ t → t < n → 0 ≤ u → u < n → pos L t < pos L u → aU rs u t ≤ aU rs t u := fun t u t0 t1 u0 u1 hlt => by
    have h1 := hL t (rg_mem.mpr ⟨t0, t1⟩) u (rg_mem.mpr ⟨u0, u1⟩) hlt
    have ne : t ≠ u := fun e => by rw [e] at hlt; exact Int.lt_irrefl _ hlt
    have h2 := aN_flip ho t0 t1 u0 u1 ne
    have h3 : ¬ (rs.length : Int) < 2 * aN rs u t := fun c => h1 (List.mem_filter.mpr ⟨rg_mem.mpr ⟨t0, t1⟩, decide_eq_true c⟩)
    rw [aN_aU] at h2 h3
    rw [aN_aU] at h2
    omega
  rw [psum_prS, cN_prS]
  refine Int.ofNat_le.mpr (prS_le fun i j h1 h2 h3 => ?_)
  by_cases c : pos L i < pos L j
  · have := key i j h1 (by omega) (by omega) h3 c
    rw [if_pos c, if_neg (by omega)]; omega
  · by_cases d : pos L j < pos L i
    · have := key j i (by omega) h3 h1 (by omega) d
      rw [if_neg c, if_pos d]; omega
    · rw [if_neg c, if_neg d]; omega
end Fo
namespace Fo
open PySem PySem.Spec PyProof.Rows L2
theorem farW_nonneg (w : Str) (xs ys : List Int) : 0 ≤ farW w xs ys := by
  unfold farW
  split
  · unfold farSwap; omega
  · split
    · unfold farSpot; omega
    · unfold farShift
      have : ∀ l : List Int, 0 ≤ maxL l := fun l => by
        induction l with
        | nil => exact Int.le_refl _
        | cons a l ih => show 0 ≤ max a (maxL l); omega
      exact this _
end Fo
namespace Fo
open PySem PySem.Spec PyProof.Rows L2
/-! ### middles of polls told otherwise (k69) -/
def MidR (n : Nat) (w : Str) (rs : List (List Int)) (m : Int) (xs : List Int) : Prop := amin (midF w rs) (allK n n) = some (m, xs)
theorem MidR.spec {n : Nat} {w : Str} {rs : List (List Int)} {m : Int} {xs : List Int} (h : MidR n w rs m xs) (hr : ∀ r ∈ rs, IsOrd n r) : IsOrd n xs ∧ m = sumW w xs rs ∧ ∀ o, IsOrd n o → m ≤ sumW w o rs ∧ (sumW w o rs = m → ¬ o < xs) := by
  have hne : allK n n ≠ [] := List.ne_nil_of_mem (ord_all (n := n) (r := rg n) (List.Perm.refl _))
  obtain ⟨b, L1, L2, e1, e2, h1, h2⟩ := amin_spec (midF w rs) _ (allK n n) rfl hne
  have e3 := h.symm.trans e1
  cases e3
  have ox : IsOrd n xs := all_ord (by rw [e2]; exact List.mem_append_right _ List.mem_cons_self)
  refine ⟨ox, midF_sum ox hr, fun o oo => ?_⟩
  rw [← midF_sum oo hr]
  refine ⟨h2 o (ord_all oo), fun e hlt => ?_⟩
  have hm := ord_all oo
  have srt := allK_sorted (n := n) n
  rw [e2] at hm srt
  rcases List.mem_append.mp hm with hm | hm
  · have := h1 o hm; omega
  · rcases List.mem_cons.mp hm with rfl | hm
    · exact List.lt_irrefl _ hlt
    · exact List.lt_irrefl _ (List.lt_trans hlt ((List.pairwise_cons.mp (List.pairwise_append.mp srt).2.1).1 o hm))
theorem sumW_cons (w : Str) (o r : List Int) (rs : List (List Int)) : sumW w o (r :: rs) = farW w o r + sumW w o rs := by
  unfold sumW
  rw [List.map_cons, List.sum_cons]
theorem sumW_app (w : Str) (o : List Int) (rs qs : List (List Int)) : sumW w o (rs ++ qs) = sumW w o rs + sumW w o qs := by
  unfold sumW
  rw [List.map_append, List.sum_append]
theorem sumW_perm (w : Str) (o : List Int) {rs qs : List (List Int)} (h : rs.Perm qs) : sumW w o rs = sumW w o qs := sum_perm (h.map _)
theorem sumW_map {w : Str} {n : Nat} {f : List Int → List Int} (hf : ∀ x y, IsOrd n x → IsOrd n y → farW w (f x) (f y) = farW w x y) {o : List Int} (oo : IsOrd n o) : ∀ {rs : List (List Int)}, (∀ r ∈ rs, IsOrd n r) → sumW w (f o) (rs.map f) = sumW w o rs
  | [], _ => rfl
  | r :: rs, hr => by
    rw [List.map_cons, sumW_cons, sumW_cons, hf o r oo (hr r List.mem_cons_self), sumW_map hf oo fun x hx => hr x (List.mem_cons_of_mem _ hx)]
theorem mid_map {w : Str} {n : Nat} {f : List Int → List Int} (hf : ∀ x y, IsOrd n x → IsOrd n y → farW w (f x) (f y) = farW w x y) (ho : ∀ x, IsOrd n x → IsOrd n (f x)) (hs : ∀ y, IsOrd n y → ∃ x, IsOrd n x ∧ f x = y)
    {rs : List (List Int)} (hr : ∀ r ∈ rs, IsOrd n r) {m m' : Int} {xs xs' : List Int} (h : MidR n w rs m xs) (h' : MidR n w (rs.map f) m' xs') : m' = m := by
  have hr' : ∀ r ∈ rs.map f, IsOrd n r := fun r hm => by
    obtain ⟨q, hq, rfl⟩ := List.mem_map.mp hm
    exact ho q (hr q hq)
  obtain ⟨ox, em, hl⟩ := h.spec hr
  obtain ⟨ox', em', hl'⟩ := h'.spec hr'
  have h1 := (hl' (f xs) (ho xs ox)).1
  rw [sumW_map hf ox hr, ← em] at h1
  obtain ⟨y, oy, ey⟩ := hs xs' ox'
  have h2 := (hl y oy).1
  rw [← sumW_map hf oy hr, ey, ← em'] at h2
  omega
theorem mid_called {w : Str} {n : Nat} (hw : IsWay w) (hn : 1 ≤ n) {nm : List Int} (on : IsOrd n nm) {rs : List (List Int)} (hr : ∀ r ∈ rs, IsOrd n r) {m m' : Int} {xs xs' : List Int} (h : MidR n w rs m xs) (h' : MidR n w (rs.map (behindL nm)) m' xs') : m' = m := by
  refine mid_map (fun x y ox oy => farW_called hw ox oy (behind_ord on ox) (behind_ord on oy) hn (show IsOrd n ((rg n).map (g0 nm)) by rw [← g0_ord on]; exact on) (behind_pos on ox) (behind_pos on oy)) (fun x ox => behind_ord on ox) (fun y oy => ?_) hr h h'
  refine ⟨y.map (pos nm), (oy.map _).trans (pos_ord on), ?_⟩
  unfold behindL
  rw [List.map_map]
  refine (List.map_congr_left fun x hx => ?_).trans (List.map_id y)
  exact g0_pos on ((List.Perm.mem_iff oy).mp hx)
theorem mid_rev {w : Str} {n : Nat} (hw : IsWay w) (hn : 1 ≤ n) {rs : List (List Int)} (hr : ∀ r ∈ rs, IsOrd n r) {m m' : Int} {xs xs' : List Int} (h : MidR n w rs m xs) (h' : MidR n w (rs.map List.reverse) m' xs') : m' = m :=
  mid_map (fun _ _ ox oy => farW_rev hw ox oy hn) (fun x ox => (List.reverse_perm x).trans ox) (fun y oy => ⟨y.reverse, (List.reverse_perm y).trans oy, List.reverse_reverse y⟩) hr h h'
theorem mid_turned {w : Str} {n : Nat} {rs : List (List Int)} (hr : ∀ r ∈ rs, IsOrd n r) {m m' : Int} {xs xs' : List Int} (h : MidR n w rs m xs) (h' : MidR n w rs.reverse m' xs') : m' = m ∧ xs' = xs := by
  have e : amin (midF w rs.reverse) (allK n n) = amin (midF w rs) (allK n n) := amin_congr fun o ho => by
    have oo := all_ord ho
    rw [midF_sum oo hr, midF_sum oo fun r hm => hr r (List.mem_reverse.mp hm)]
    exact sumW_perm w o (List.reverse_perm rs)
  have := h'.symm.trans (e.trans h)
  cases this
  exact ⟨rfl, rfl⟩
theorem mid_one {w : Str} {n : Nat} (hw : IsWay w) (hn : 1 ≤ n) {r : List Int} (or : IsOrd n r) {m : Int} {xs : List Int} (h : MidR n w [r] m xs) : m = 0 ∧ xs = r := by
  obtain ⟨ox, em, hl⟩ := h.spec fun x hx => by rw [List.mem_singleton.mp hx]; exact or
  have h1 := (hl r or).1
  rw [sumW_cons, farW_self or hn] at h1
  rw [sumW_cons] at em
  have h2 := farW_nonneg w xs r
  have e0 : ∀ o, sumW w o [] = 0 := fun _ => rfl
  rw [e0] at h1 em
  exact ⟨by omega, farW_zero hw ox or hn (by omega)⟩
theorem amin_two {f g : List Int → Int} : ∀ (n : Nat) {L : List (List Int)}, L.length = n → (∀ o ∈ L, g o = 2 * f o) → amin g L = (amin f L).map fun p => (2 * p.1, p.2)
  | 0, L, hl, _ => by rw [List.eq_nil_of_length_eq_zero hl]; rfl
  | n + 1, L, hl, h => by
    rcases List.eq_nil_or_concat L with rfl | ⟨L', o, rfl⟩
    · cases hl
    · rw [List.concat_eq_append] at hl h ⊢
      rw [amin_snoc, amin_snoc, amin_two n (by rw [List.length_append] at hl; simpa using hl) fun x hx => h x (List.mem_append_left _ hx)]
      have e := h o (List.mem_append_right _ (List.mem_singleton.mpr rfl))
      cases amin f L' with
      | none => show some (g o, o) = some (2 * f o, o); rw [e]
      | some p =>
        show (if g o < 2 * p.1 then some (g o, o) else some (2 * p.1, p.2)) = (if f o < p.1 then some (f o, o) else some (p.1, p.2)).map _
        rw [e]
        by_cases c : f o < p.1
        · rw [if_pos c, if_pos (by omega)]; rfl
        · rw [if_neg c, if_neg (by omega)]; rfl
theorem mid_twice {w : Str} {n : Nat} {rs : List (List Int)} (hr : ∀ r ∈ rs, IsOrd n r) {m m' : Int} {xs xs' : List Int} (h : MidR n w rs m xs) (h' : MidR n w (rs ++ rs) m' xs') : m' = 2 * m ∧ xs' = xs := by
  have hr' : ∀ r ∈ rs ++ rs, IsOrd n r := fun r hm => (List.mem_append.mp hm).elim (hr r) (hr r)
  have e := amin_two (f := midF w rs) (g := midF w (rs ++ rs)) _ (L := allK n n) rfl fun o ho => by
    rw [midF_sum (all_ord ho) hr, midF_sum (all_ord ho) hr', sumW_app]
    omega
  have h1 : amin (midF w rs) (allK n n) = some (m, xs) := h
  rw [h1] at e
  have := h'.symm.trans e
  cases this
  exact ⟨rfl, rfl⟩
/-- the sum that middle_of finds is no less than the pairs' sum; without a ring it is that -/
theorem mid_psum {n : Nat} {rs : List (List Int)} (hr : ∀ r ∈ rs, IsOrd n r) {m : Int} {xs : List Int} (h : MidR n "swap" rs m xs) : psum n rs ≤ m ∧ ((∀ z : Nat, z < n → RingAt (flw n rs) (z : Int) none) → m = psum n rs) := by
  obtain ⟨ox, em, hl⟩ := h.spec hr
  have h1 : psum n rs ≤ m := by
    rw [em, swap_cN ox rs hr]
    exact cN_least ox rs
  refine ⟨h1, fun hz => ?_⟩
  obtain ⟨L, oL, hL⟩ := no_ring_sum hr hz
  have h2 := (hl L oL).1
  rw [swap_cN oL rs hr] at h2
  omega
/-- told from behind: who goes before whom is turned -/
theorem aN_behind {n : Nat} {rs : List (List Int)} (hr : ∀ r ∈ rs, IsOrd n r) {i j : Int} (hi : i ∈ rg n) (hj : j ∈ rg n) : aN (rs.map List.reverse) i j = aN rs j i := by
  unfold aN
  rw [List.filter_map, List.length_map]
  congr 2
  refine List.filter_congr fun r hm => ?_
  show decide (pos r.reverse i < pos r.reverse j) = _
  rw [rev_pos (hr r hm) i hi, rev_pos (hr r hm) j hj]
  exact decide_eq_decide.mpr ⟨fun c => by omega, fun c => by omega⟩
theorem flw_behind {n : Nat} {rs : List (List Int)} (hr : ∀ r ∈ rs, IsOrd n r) {x y : Int} (h : y ∈ flw n rs x) : x ∈ flw n (rs.map List.reverse) y := by
  have hx := fl_dom hr h
  have hx : x ∈ rg n := rg_mem.mpr hx
  obtain ⟨hy, hd⟩ := List.mem_filter.mp h
  refine List.mem_filter.mpr ⟨hx, ?_⟩
  rw [aN_behind hr hy hx, List.length_map]
  exact hd
theorem clo_behind {n : Nat} {rs : List (List Int)} (hr : ∀ r ∈ rs, IsOrd n r) {z : Int} {k : Nat} : Clo (flw n rs) z k ↔ Clo (flw n (rs.map List.reverse)) z k := by
  have hr' : ∀ r ∈ rs.map List.reverse, IsOrd n r := fun r hm => by
    obtain ⟨q, hq, rfl⟩ := List.mem_map.mp hm
    exact (List.reverse_perm q).trans (hr q hq)
  refine ⟨clo_rev (fun x y h => flw_behind hr h) (fl_self n rs z), clo_rev (fun x y h => ?_) (fl_self n _ z)⟩
  have := flw_behind hr' h
  rwa [List.map_map, show List.reverse ∘ List.reverse = (id : List Int → List Int) from funext List.reverse_reverse, List.map_id] at this
/-- what ring_of tells -/
def RingR (n : Nat) (rs : List (List Int)) : Option (List Int) → Prop
  | none => ∀ z : Nat, z < n → ∀ k, ¬ Clo (flw n rs) (z : Int) k
  | some p => ∃ z k : Nat, z < n ∧ (∃ v, Wk (flw n rs) (z : Int) k p v ∧ (z : Int) ∈ flw n rs v) ∧ ∀ z' : Nat, z' < n → ∀ j < k, ¬ Clo (flw n rs) (z' : Int) j
theorem RingR.behind {n : Nat} {rs : List (List Int)} (hr : ∀ r ∈ rs, IsOrd n r) {p q : Option (List Int)} (hp : RingR n rs p) (hq : RingR n (rs.map List.reverse) q) : p.map List.length = q.map List.length := by
  cases p with
  | none =>
    cases q with
    | none => rfl
    | some q =>
      obtain ⟨z, k, hz, ⟨v, h1, h2⟩, _⟩ := hq
      exact absurd ((clo_behind hr).mpr ⟨q, v, h1, h2⟩) (hp z hz k)
  | some p =>
    obtain ⟨z, k, hz, ⟨v, h1, h2⟩, h3⟩ := hp
    cases q with
    | none => exact absurd ((clo_behind hr).mp ⟨p, v, h1, h2⟩) (hq z hz k)
    | some q =>
      obtain ⟨z', k', hz', ⟨v', h1', h2'⟩, h3'⟩ := hq
      show some p.length = some q.length
      rw [h1.len, h1'.len]
      have e : k = k' := by
        rcases Nat.lt_trichotomy k k' with c | c | c
        · exact absurd ((clo_behind hr).mp ⟨p, v, h1, h2⟩) (h3' z hz k c)
        · exact c
        · exact absurd ((clo_behind hr).mpr ⟨q, v', h1', h2'⟩) (h3 z' hz' k' c)
      rw [e]
theorem ringR_none {n : Nat} {rs : List (List Int)} (h : ∀ z : Nat, z < n → RingAt (flw n rs) (z : Int) none) : RingR n rs none := fun z hz k hc => by
  obtain ⟨w, v, h1, h2⟩ := hc
  exact h z hz k w v h1 h2
theorem ringR_some {n : Nat} {rs : List (List Int)} {z : Nat} {p : List Int} (hz : z < n) (hp : RingAt (flw n rs) (z : Int) (some p)) (hm : ∀ z' : Nat, z' < n → ∀ p', RingAt (flw n rs) (z' : Int) (some p') → p.length < p'.length ∨ (p.length = p'.length ∧ z ≤ z'))
    (hall : ∀ z : Nat, z < n → RingAt (flw n rs) (z : Int) none ∨ ∃ p, RingAt (flw n rs) (z : Int) (some p)) : RingR n rs (some p) := by
  obtain ⟨k, v, h1, h2, h3, h4⟩ := hp
  refine ⟨z, k, hz, ⟨v, h1, h2⟩, fun z' hz' j hj hc => ?_⟩
  obtain ⟨w, u, w1, w2⟩ := hc
  rcases hall z' hz' with h | ⟨p', hp'⟩
  · exact h j w u w1 w2
  · have hl := hm z' hz' p' hp'
    obtain ⟨k', v', g1, g2, g3, g4⟩ := hp'
    rw [h1.len, g1.len] at hl
    by_cases c : j < k'
    · exact g3 j c w u w1 w2
    · omega
theorem RingR.nodup {n : Nat} {rs : List (List Int)} {p : List Int} (h : RingR n rs (some p)) : p.Nodup := by
  obtain ⟨z, k, hz, ⟨v, h1, h2⟩, h3⟩ := h
  exact ring_nodup h1 h2 (h3 z hz)
theorem RingR.first {n : Nat} {rs : List (List Int)} {p : List Int} (h : RingR n rs (some p)) : ∃ z : Int, p[0]? = some z ∧ ∀ x ∈ p, z ≤ x := by
  obtain ⟨z, k, hz, ⟨v, h1, h2⟩, h3⟩ := h
  exact ⟨z, h1.first, wk_least h1⟩
/-- each thing of a ring stands behind the one before it more often than not, the first one behind the last -/
theorem RingR.arcs {n : Nat} {rs : List (List Int)} (hr : ∀ r ∈ rs, IsOrd n r) {p : List Int} (h : RingR n rs (some p)) : ∃ l, p.getLast? = some l ∧ (∃ y, p[0]? = some y ∧ y ∈ flw n rs l) ∧ ∀ i, i + 1 < p.length → ∃ x y, p[i]? = some x ∧ p[i + 1]? = some y ∧ y ∈ flw n rs x := by
  obtain ⟨z, k, hz, ⟨v, h1, h2⟩, h3⟩ := h
  refine ⟨v, ?_, ⟨z, h1.first, h2⟩, fun i hi => h1.arc i (by rw [h1.len] at hi; omega)⟩
  rw [List.getLast?_eq_getElem?, h1.len]
  exact h1.at_last
end Fo
namespace Fo
open PySem PySem.Spec PyProof.Rows L2
/-- [order[::-1] for order in a list of orders] -/
theorem lc_revs {K : PySem.W.Frag} {σ : L2.St} {j : Nat} {vs : List Nat} {l D : Addr} {as : List Addr} {rs : List (List Int)} {H : Hp} {Qd : Hp → Prop} (hl : H l = some (.lst (as.map V.ref))) (hL : LL H as rs) (hlen : rs.length ≤ 1000) (nD : H D = none)
    (hw : ∀ x, wipe ((wipe σ vs).set j (some x)) vs = wipe σ vs) (hv : ∀ x : V, ((wipe σ vs).set j (some x))[j]? = some (some x))
    (q : ∀ (cs : List Addr) (H' : Hp), (∀ c ∈ cs, H c = none) → H' D = some (.lst (cs.map V.ref)) → LL H' cs (rs.map List.reverse) → Same H H' → Qd H') :
    ∃ W : Nat → Nat → Hp → Prop, (∃ m, W 0 m (upd H D (.lst []))) ∧ ∀ i m H1, W i m H1 →
      ((Itl K l).stop i H1 ∧ Qd H1) ∨ ((Itl K l).go i H1 ∧ ∃ Nx : Hp → Prop, (∀ H', Nx H' → ∃ m', m' < m ∧ W (i + 1) m' H') ∧ ∀ x H', (Itl K l).yld i H1 x H' → gName j x (wipe σ vs) H' fun σ2 H2 => wipe σ2 vs = wipe σ vs ∧ tYes σ2 H2 fun b H3 =>
        if b = true then tRevL K (tVar j) σ2 H3 fun y H4 => ∃ acc, H4 D = some (.lst acc) ∧ acc.length < sizeLine ∧ Nx (upd H4 D (.lst (acc ++ [y]))) else Nx H3) := by
  have hal := hL.len
  refine lc_list (K := K) (a := l) (xs := as.map V.ref) (fun i G => ∃ cs : List Addr, G D = some (.lst (cs.map V.ref)) ∧ (∀ c ∈ cs, H c = none ∧ c ≠ D) ∧ LL G cs ((rs.take i).map List.reverse) ∧ Same H G) ⟨[], upd_same, fun c m => absurd m List.not_mem_nil, trivial, same_new nD⟩ (fun i G _ hP => by obtain ⟨_, _, _, _, sm⟩ := hP; exact SqL.of (sm _ _ hl)) (fun i x G hx hP => ?_) (fun G hP => ?_)
  · obtain ⟨c0, ec, rfl⟩ := ref_at_inv hx
    obtain ⟨cs, hp, hfr, hLc, sm⟩ := hP
    obtain ⟨row, er, hc⟩ := (hL.same sm).get ec
    have hi := (List.getElem?_eq_some_iff.mp er).1
    have lc := hLc.len
    rw [List.length_map, List.length_take] at lc
    refine ⟨hw _, _, hv _, c0, _, rfl, SqL.of hc, fun u nu => ?_⟩
    have s2 := same_new (o := .lst (row.map V.int).reverse) nu
    have nup : u ≠ D := fun y => by rw [y, hp] at nu; cases nu
    refine ⟨_, s2 _ _ hp, line_lt (by rw [List.length_map]; omega), cs ++ [u], by rw [upd_same, List.map_append]; rfl, fun c m => ?_, ?_, fun b o e => ?_⟩
    · rcases List.mem_append.mp m with m | m
      · exact hfr c m
      · rw [List.mem_singleton.mp m]; exact ⟨sm.free nu, nup⟩
    · rw [take_more' er, List.map_append]
      refine LL.snoc ((hLc.same s2).keep fun v m o e => by rw [upd_ne (hfr v m).2]; exact e) ?_
      rw [upd_ne nup, upd_same, ← List.map_reverse]
    · rw [upd_ne (ne_of_none e nD)]
      exact s2 _ _ (sm _ _ e)
  · obtain ⟨cs, hp, hfr, hLc, sm⟩ := hP
    rw [List.take_of_length_le (by rw [List.length_map]; omega)] at hLc
    exact q cs G (fun c m => (hfr c m).1) hp hLc sm
theorem LL.rev {H : Hp} : ∀ {as : List Addr} {rs : List (List Int)}, LL H as rs → LL H as.reverse rs.reverse
  | [], [], _ => trivial
  | a :: as, r :: rs, h => by
    rw [List.reverse_cons, List.reverse_cons]
    exact LL.snoc (LL.rev h.2) h.1
  | [], _ :: _, h => h.elim
  | _ :: _, [], h => h.elim
end Fo
namespace Fo
open PySem PySem.Spec PyProof.Rows L2
/-! ### _law_sums_right (k69) -/
theorem cut_one {as : List Addr} {a0 : Addr} (h : as[0]? = some a0) : cutV (as.map V.ref) none (some 1) = [V.ref a0] := by
  cases as with
  | nil => cases h
  | cons a as =>
    cases h
    unfold cutV
    rw [HT.sIx_none, show (some (1 : Int)) = some ((1 : Nat) : Int) from rfl, HT.sIx_nat]
    simp
theorem ll_app {H : Hp} : ∀ {as bs : List Addr} {rs ss : List (List Int)}, LL H as rs → LL H bs ss → LL H (as ++ bs) (rs ++ ss)
  | [], _, [], _, _, h => h
  | _ :: _, _, _ :: _, _, h, h' => ⟨h.1, ll_app h.2 h'⟩
  | [], _, _ :: _, _, h, _ => h.elim
  | _ :: _, _, [], _, h, _ => h.elim
def spSumsR : Sp := fun vs H Q _ => ∃ (d : Addr) (w : Str) (l : Addr) (as : List Addr) (rs : List (List Int)) (n : Nat), vs = [.ref d, .str w, .ref l] ∧ DqAt H d ∧ IsWay w ∧ OL H l as rs n ∧ 1 ≤ rs.length ∧ rs.length ≤ 20 ∧ (n ≤ 6 ∨ (w = "swap" ∧ n ≤ 9)) ∧ l ≠ d ∧ d ∉ as ∧
  ∀ H', DqAt H' d → KeepD d H H' → Q (.bl true) H'
section
variable {P : Program} {w : World} {K : PySem.W.Frag} {mg : Str → Option Value} {base : Heap}
theorem scSumsR : FnScope ["deck", "way", "poll", "total", "order", "n", "other", "names", "called", "behind", "turn", "one", "thing"] ["deck", "way", "poll"] (defScope s_law_sums_right) := ⟨rfl, rfl, rfl, by decide +kernel, rfl, by decide +kernel, by decide +kernel⟩
set_option maxHeartbeats 4000000 in
theorem ok_sumsR {f f1 f2 f3 f4 : Addr} {fd d1 d2 d3 d4 : FuncData} {k : Nat} (T : Df K mg "_law_sums_right" s_law_sums_right ["deck", "way", "poll"] f fd) (T_middle_of : Df K mg "middle_of" s_middle_of ["way", "poll"] f1 d1) (T_poll_sum : Df K mg "poll_sum" s_poll_sum ["way", "poll", "order"] f2 d2) (T__law_near : Df K mg "_law_near" s_law_near ["deck", "order"] f3 d3) (T__law_order : Df K mg "_law_order" s_law_order ["deck", "n"] f4 d4)
    (G_middle_of : FnOk P w K mg base CX0 k f1 d1 ["way", "poll"] spMid) (G_poll_sum : FnOk P w K mg base CX0 k f2 d2 ["way", "poll", "order"] spPolS) (G__law_near : FnOk P w K mg base CX0 k f3 d3 ["deck", "order"] spNearN) (G__law_order : FnOk P w K mg base CX0 k f4 d4 ["deck", "n"] spOrderN) (B : Bi mg) : FnOk P w K mg base CX0 (k + 1) f fd ["deck", "way", "poll"] spSumsR := by
  refine T.F.ok scSumsR (fun vs H Q E h => ?_) (fun cdv A outer s H vs Q E hr h => ?_)
  · obtain ⟨d, z, l, as, rs, n, rfl, _⟩ := h
    rfl
  · obtain ⟨d, z, l, as, rs, n, rfl, hD, hz, hO, h1, h2, h3, nld, nda, q⟩ := h
    have hal := hO.ll.len
    refine ⟨_, 
      (pss_cons (ps_asg (pe_call G_middle_of hr (by rfl) T_middle_of.g T_middle_of.F.kp T_middle_of.b .nil pass0 (pa_cons (pv 1) (pa_cons (pv 2) pa_nil))) (pg_tup (by rfl) (pgs_cons (pg_name (i := 3) scSumsR.nd rfl (.inl rfl)) (pgs_cons (pg_name (i := 4) scSumsR.nd rfl (.inr rfl)) pgs_nil))))
      (pss_cons (ps_set (i := 5) scSumsR.nd rfl (.inl rfl) (pe_callB call_len_seq (by rfl) B.len PySem.boot_len (pa_cons (pe_ix ix_list (pv 2) pe_int (fun _ _ => rfl)) pa_nil)))
      (pss_cons (ps_if (pt_cmpR op_ne (pe_call G_poll_sum hr (by rfl) T_poll_sum.g T_poll_sum.F.kp T_poll_sum.b .nil pass0 (pa_cons (pv 1) (pa_cons (pv 2) (pa_cons (pv 4) pa_nil)))) (pv 3) (nomark _))
        (pss_one (ps_ret pe_bl))
        pss_nil)
      (pss_cons (ps_for PassesOwn.never rfl (pi_list (pe_op op_cat (pe_op op_cat (pv 2) (pe_lc (own := [("turn", 10)]) (g := (gName 10)) (tt := tYes) (te := (tCall spNearN [] E0 (tCons (tVar 0) (tCons (tVar 4) tNil)))) rfl scSumsR.nd (pi_range1 (by rfl) B.range (pa_cons pe_int pa_nil)) (blkOk_by (N := ["deck", "way", "poll", "total", "order", "n", "other", "names", "called", "behind", "turn", "one", "thing"]) (sc := defScope s_law_sums_right) (by decide +kernel)) (fun _ _ _ _ _ => (pg_name (i := 10) scSumsR.nd rfl (.inl rfl))) (fun _ _ _ _ _ => pts_nil) (fun _ _ _ _ _ => (pe_call G__law_near hr (by rfl) T__law_near.g T__law_near.F.kp T__law_near.b .nil pass0 (pa_cons (pv 0) (pa_cons (pv 4) pa_nil)))))) (pe_lst (pa_cons (pe_call G__law_order hr (by rfl) T__law_order.g T__law_order.F.kp T__law_order.b .nil pass0 (pa_cons (pv 0) (pa_cons (pv 5) pa_nil))) (pa_cons (pe_listRg rfl (by rfl) B.list (prg_1 (by rfl) B.range (pv 5))) pa_nil))))) (pg_name (i := 6) scSumsR.nd rfl (.inl rfl))
        (pss_one (ps_if (pt_cmpR (op_ltM hr.units) (pe_tup (pa_cons (pe_call G_poll_sum hr (by rfl) T_poll_sum.g T_poll_sum.F.kp T_poll_sum.b .nil pass0 (pa_cons (pv 1) (pa_cons (pv 2) (pa_cons (pv 6) pa_nil)))) (pa_cons (pv 6) pa_nil))) (pe_tup (pa_cons (pv 3) (pa_cons (pv 4) pa_nil))) (nomark _))
          (pss_one (ps_ret pe_bl))
          pss_nil)))
      (pss_cons (ps_set (i := 7) scSumsR.nd rfl (.inr rfl) (pe_call G__law_order hr (by rfl) T__law_order.g T__law_order.F.kp T__law_order.b .nil pass0 (pa_cons (pv 0) (pa_cons (pv 5) pa_nil))))
      (pss_cons (ps_setLc (i := 8) (own := [("one", 11)]) (g := (gName 11)) (tt := tYes) (te := (tLc (iList K (tVar 11)) (gName 12) tYes (tOp (rIxL K) (tVar 7) (tVar 12)) [12])) (by rfl) scSumsR.nd rfl rfl (sw_true rfl rfl rfl (by decide +kernel)) (pi_list (pv 2)) (blkOk_by (N := ["deck", "way", "poll", "total", "order", "n", "other", "names", "called", "behind", "turn", "one", "thing"]) (sc := defScope s_law_sums_right) (by decide +kernel)) (fun _ _ _ _ _ => (pg_name (i := 11) scSumsR.nd rfl (.inl rfl))) (fun _ _ _ _ _ => pts_nil) (fun _ _ _ _ _ => (pe_lc (own := [("thing", 12)]) (g := (gName 12)) (tt := tYes) (te := (tOp (rIxL K) (tVar 7) (tVar 12))) rfl scSumsR.nd (pi_list (pv 11)) (blkOk_by (N := ["deck", "way", "poll", "total", "order", "n", "other", "names", "called", "behind", "turn", "one", "thing"]) (by rfl)) (fun _ _ _ _ _ => (pg_name (i := 12) scSumsR.nd rfl (.inl rfl))) (fun _ _ _ _ _ => pts_nil) (fun _ _ _ _ _ => (pe_ix ix_list (pv 7) (pv 12) (fun _ _ => rfl))))))
      (pss_cons (ps_setLc (i := 9) (own := [("one", 11)]) (g := (gName 11)) (tt := tYes) (te := (tRevL K (tVar 11))) (by rfl) scSumsR.nd rfl rfl (sw_true rfl rfl rfl (by decide +kernel)) (pi_list (pv 2)) (blkOk_by (N := ["deck", "way", "poll", "total", "order", "n", "other", "names", "called", "behind", "turn", "one", "thing"]) (sc := defScope s_law_sums_right) (by decide +kernel)) (fun _ _ _ _ _ => (pg_name (i := 11) scSumsR.nd rfl (.inl rfl))) (fun _ _ _ _ _ => pts_nil) (fun _ _ _ _ _ => (pe_revL (pv 11))))
      (pss_cons (ps_if (PW.pt (pw_or (pt_cmpR op_ne (pe_ix ix_tup (pe_call G_middle_of hr (by rfl) T_middle_of.g T_middle_of.F.kp T_middle_of.b .nil pass0 (pa_cons (pv 1) (pa_cons (pv 8) pa_nil))) pe_int (fun _ _ => rfl)) (pv 3) (nomark _)) (pw_or1 (pt_cmpR op_ne (pe_ix ix_tup (pe_call G_middle_of hr (by rfl) T_middle_of.g T_middle_of.F.kp T_middle_of.b .nil pass0 (pa_cons (pv 1) (pa_cons (pv 9) pa_nil))) pe_int (fun _ _ => rfl)) (pv 3) (nomark _)))))
        (pss_one (ps_ret pe_bl))
        pss_nil)
      (pss_cons (ps_if (PW.pt (pw_or (pt_cmpR (op_neD hr.units) (pe_call G_middle_of hr (by rfl) T_middle_of.g T_middle_of.F.kp T_middle_of.b .nil pass0 (pa_cons (pv 1) (pa_cons (pe_revL (pv 2)) pa_nil))) (pe_tup (pa_cons (pv 3) (pa_cons (pv 4) pa_nil))) (nomark _)) (pw_or1 (pt_cmpR (op_neD hr.units) (pe_call G_middle_of hr (by rfl) T_middle_of.g T_middle_of.F.kp T_middle_of.b .nil pass0 (pa_cons (pv 1) (pa_cons (pe_slice sl_list (pv 2) po_none (po_some pe_int)) pa_nil))) (pe_tup (pa_cons pe_int (pa_cons (pe_ix ix_list (pv 2) pe_int (fun _ _ => rfl)) pa_nil))) (nomark _)))))
        (pss_one (ps_ret pe_bl))
        pss_nil)
      (pss_one (ps_ret (pe_or (pe_cmpR op_gt (pe_callB call_len_seq (by rfl) B.len PySem.boot_len (pa_cons (pv 2) pa_nil)) pe_int (nomark _)) (pe_one (pe_cmpR (op_eqD hr.units) (pe_call G_middle_of hr (by rfl) T_middle_of.g T_middle_of.F.kp T_middle_of.b .nil pass0 (pa_cons (pv 1) (pa_cons (pe_op op_cat (pv 2) (pv 2)) pa_nil))) (pe_tup (pa_cons (pe_op op_mul pe_int (pv 3)) (pa_cons (pv 4) pa_nil))) (nomark _))))))))))))))), ?_⟩
    refine ⟨_, rfl, _, rfl, z, l, as, rs, n, rfl, hz, hO, h1, h2, h3, fun p g m xs H1 np ng hp hg am s1 => ?_⟩
    have hr0 := hO.ord
    have mid : MidR n z rs m xs := am
    obtain ⟨ox, em, hle⟩ := mid.spec hr0
    have hn1 := hO.n1
    have hn12 := hO.n2
    have hO1 := hO.same s1
    refine ⟨p, _, rfl, .inl (.inl hp), rfl, _, _, rfl, _, _, rfl, rfl, ?_⟩
    obtain ⟨a0, ea0⟩ : ∃ a0, as[0]? = some a0 := ⟨as[0]'(by omega), List.getElem?_eq_getElem (by omega)⟩
    obtain ⟨r0, er0, ha0⟩ := hO1.ll.get ea0
    have or0 := hr0 r0 (List.mem_of_getElem? er0)
    refine ⟨_, rfl, l, _, 0, _, rfl, rfl, SqL.of hO1.top, at_of (j := 0) rfl (ref_at ea0), a0, _, rfl, .inl (SqL.of ha0), ?_⟩
    rw [List.length_map, or0.len]
    refine ⟨_, rfl, _, rfl, _, rfl, z, l, g, as, rs, n, xs, rfl, hz, hO1, h1, h2, hg, ox, fun H2 s2 => ⟨_, rfl, ?_⟩⟩
    have s12 := s1.trans s2
    have hO2 := hO.same s12
    have hg2 := s2 _ _ hg
    have hp2 := s2 _ _ hp
    have D2 := hD.same s12
    have ngd : g ≠ d := hD.ne ng
    have nHd : ∀ {x}, H x = none → x ≠ d := fun {x} hx => hD.ne hx
    refine ⟨rfl, _, rfl, iteNS (by rw [em]) ?_⟩
    refine ⟨_, rfl, 6, rfl, by decide, by decide, fun D nD => ?_⟩
    have nDd := D2.ne nD
    have nDg : g ≠ D := ne_of_none hg2 nD
    refine lc_range (lo := 0) (n := 6) (fun i H3 => ∃ (bs : List Addr) (ss : List (List Int)), H3 D = some (.lst (bs.map V.ref)) ∧ LL H3 bs ss ∧ ss.length = i ∧ (∀ r ∈ ss, IsOrd n r) ∧ d ∉ bs ∧ D ∉ bs ∧ DqAt H3 d ∧ KeepD d H2 H3)
      ⟨[], [], upd_same, trivial, rfl, fun r h => absurd h List.not_mem_nil, List.not_mem_nil, List.not_mem_nil, D2.new nD, KeepD.new nD⟩ (fun i H3 hi hP => ?_) (fun H3 hP => ?_)
    · obtain ⟨bs, ss, hp3, hL3, hl3, ho3, hd3, hpb, D3, k3⟩ := hP
      have hbl := hL3.len
      refine ⟨rfl, _, rfl, _, rfl, d, g, n, xs, rfl, D3, k3 _ _ hg2 ngd, ox, hn1, hn12, fun ms u H4 om nu hu nud D4 k4 => ?_⟩
      have hp4 := k4 D _ hp3 nDd
      have nup : u ≠ D := fun e => by rw [e, hp3] at nu; cases nu
      refine ⟨_, hp4, line_lt (by rw [List.length_map]; omega), bs ++ [u], ss ++ [ms], by rw [upd_same, List.map_append]; rfl, ?_, by rw [List.length_append, hl3]; rfl, fun r hr => ?_, fun h => ?_, fun h => ?_, D4.upd nDd, fun b o e nb => ?_⟩
      · refine LL.snoc ((hL3.keep (H' := H4) fun c hc o e => k4 c o e (fun q => hd3 (by rw [← q]; exact hc))).keep fun c hc o e => ?_) ?_
        · rw [upd_ne (fun q => hpb (by rw [← q]; exact hc))]
          exact e
        · rw [upd_ne nup]
          exact hu
      · rcases List.mem_append.mp hr with h | h
        · exact ho3 r h
        · rw [List.mem_singleton.mp h]
          exact om
      · rcases List.mem_append.mp h with h | h
        · exact hd3 h
        · exact nud (List.mem_singleton.mp h).symm
      · rcases List.mem_append.mp h with h | h
        · exact hpb h
        · exact nup (List.mem_singleton.mp h).symm
      · rw [upd_ne (ne_of_none e nD)]
        exact k4 b o (k3 b o e nb) nb
    obtain ⟨bs, ss, hD3, hL3, hl3, ho3, hd3, hpb, D3, k3⟩ := hP
    have hbl := hL3.len
    have hO3 := hO2.keepD k3 nld nda
    refine ⟨l, D, _, _, rfl, rfl, hO3.top, hD3, line_small (by rw [List.length_map, List.length_map]; omega), fun p2 np2 => ?_⟩
    have s4 := same_new (o := .lst (as.map V.ref ++ bs.map V.ref)) np2
    have hp2' : (upd H3 p2 (.lst (as.map V.ref ++ bs.map V.ref))) p2 = _ := upd_same
    have D4 := D3.same s4
    have hO4 := hO3.same s4
    have hL4 := hL3.same s4
    have k4 := k3.trans (KeepD.of_same s4)
    have np2d := D3.ne np2
    clear s4
    generalize upd H3 p2 (.lst (as.map V.ref ++ bs.map V.ref)) = H4 at hp2' D4 hO4 hL4 k4 ⊢
    refine ⟨_, rfl, _, rfl, d, n, rfl, D4, hn12, fun ns o5 H5 oN no5 ho5 no5d D5 k5 => ?_⟩
    have kk5 := k4.trans k5
    have hp25 := k5 _ _ hp2' np2d
    have hL5 := hL4.keep (H' := H5) fun c hc o e => k5 c o e (fun q => hd3 (by rw [← q]; exact hc))
    have hO5 := hO4.keepD k5 nld nda
    refine ⟨_, rfl, n, rfl, ⟨by omega, by omega⟩, fun q6 nq6 => ⟨line_small (by show 2 ≤ 16777216; decide), fun p7 np7 => ?_⟩⟩
    have s6 := same_new (o := .lst (rgV 0 (n : Int))) nq6
    have s7 := same_new (o := .lst [.ref o5, .ref q6]) np7
    have s67 := s6.trans s7
    have hq6 : (upd (upd H5 q6 (.lst (rgV 0 (n : Int)))) p7 (.lst [.ref o5, .ref q6])) q6 = some (.lst ((rg n).map V.int)) := s7 _ _ (by rw [upd_same, rg_V])
    have hp7 : (upd (upd H5 q6 (.lst (rgV 0 (n : Int)))) p7 (.lst [.ref o5, .ref q6])) p7 = _ := upd_same
    have hp27 := s67 _ _ hp25
    have ho7 := s67 _ _ ho5
    have D7 := D5.same s67
    have hL7 := hL5.same s67
    have hO7 := hO5.same s67
    have kk7 := kk5.trans (KeepD.of_same s67)
    clear s6 s7 s67 D3 D4 k4 hL3 hL4 hO3 hO4 kk5 hL5 hO5 hp25
    generalize upd (upd H5 q6 (.lst (rgV 0 (n : Int)))) p7 (.lst [.ref o5, .ref q6]) = H7 at hq6 hp7 hp27 ho7 D7 hL7 hO7 kk7 ⊢
    refine ⟨p2, p7, _, _, rfl, rfl, hp27, hp7, line_small (by rw [List.length_append, List.length_map, List.length_map]; show _ + 2 ≤ _; omega), fun p8 np8 => ?_⟩
    have el : (as.map V.ref ++ bs.map V.ref) ++ [V.ref o5, V.ref q6] = (as ++ bs ++ [o5] ++ [q6]).map V.ref := by simp
    rw [el]
    have s8 := same_new (o := .lst ((as ++ bs ++ [o5] ++ [q6]).map V.ref)) np8
    have hp8 : (upd H7 p8 (.lst ((as ++ bs ++ [o5] ++ [q6]).map V.ref))) p8 = _ := upd_same
    have hL8 : LL (upd H7 p8 (.lst ((as ++ bs ++ [o5] ++ [q6]).map V.ref))) (as ++ bs ++ [o5] ++ [q6]) (rs ++ ss ++ [ns] ++ [rg n]) :=
      LL.snoc (LL.snoc (ll_app (hO7.ll.same s8) (hL7.same s8)) (s8 _ _ ho7)) (s8 _ _ hq6)
    have hord8 : ∀ r ∈ rs ++ ss ++ [ns] ++ [rg n], IsOrd n r := fun r hr => by
      rcases List.mem_append.mp hr with hr | hr
      · rcases List.mem_append.mp hr with hr | hr
        · rcases List.mem_append.mp hr with hr | hr
          · exact hr0 r hr
          · exact ho3 r hr
        · rw [List.mem_singleton.mp hr]; exact oN
      · rw [List.mem_singleton.mp hr]; exact List.Perm.refl _
    have D8 := D7.same s8
    have hO8 := hO7.same s8
    have kk8 := kk7.trans (KeepD.of_same s8)
    clear s8 D7 hL7 hO7 kk7 hq6 hp7 hp27 ho7
    generalize upd H7 p8 (.lst ((as ++ bs ++ [o5] ++ [q6]).map V.ref)) = H8 at hp8 hL8 D8 hO8 kk8 ⊢
    have hg8 := kk8 _ _ hg2 ngd
    have hcmp : ∀ o, IsOrd n o → decide (sumW z o rs < m ∨ (sumW z o rs = m ∧ o < xs)) = false := fun o oo => decide_eq_false fun h => by
      obtain ⟨g1, g2⟩ := hle o oo
      rcases h with h | ⟨h, h'⟩
      · omega
      · exact g2 h h'
    refine ⟨p8, rfl, ⟨_, SqL.of hp8⟩, ?_⟩
    refine for_list (xs := (as ++ bs ++ [o5] ++ [q6]).map V.ref) (fun j σ G => ∃ (y6 : Option V), σ = [some (.ref d), some (.str z), some (.ref l), some (.int m), some (.ref g), some (.int n), y6, none, none, none, none, none, none] ∧ Same H8 G)
      ⟨_, rfl, Same.refl _⟩ (fun j σ G _ hP => by obtain ⟨_, _, sm⟩ := hP; exact SqL.of (sm _ _ hp8)) (fun j x σ G hx hP => ?_) (fun σ G hP => ?_)
    · obtain ⟨y6, rfl, sG⟩ := hP
      obtain ⟨ob, eo, rfl⟩ := ref_at_inv hx
      obtain ⟨o, eor, hob⟩ := (hL8.same sG).get eo
      have oo := hord8 o (List.mem_of_getElem? eor)
      refine ⟨_, rfl, _, rfl, _, rfl, z, l, ob, as, rs, n, o, rfl, hz, hO8.same sG, h1, h2, hob, oo, fun G2 s2' => ?_⟩
      refine ⟨_, rfl, line_small (by show 2 ≤ 16777216; decide), fun t1 nt1 => ?_⟩
      have u1 := same_new (o := .tup [.int (sumW z o rs), .ref ob]) nt1
      refine ⟨_, rfl, _, rfl, line_small (by show 2 ≤ 16777216; decide), fun t2 nt2 => ?_⟩
      have u2 := same_new (o := .tup [.int m, .ref g]) nt2
      have sA := (s2'.trans u1).trans u2
      refine ⟨sumW z o rs, m, o, xs, dp_mid (u2 _ _ upd_same) (sA _ _ hob), dp_mid upd_same (sA _ _ (sG _ _ hg8)), _, rfl, ?_⟩
      rw [hcmp o oo]
      exact iteF ⟨_, rfl, sG.trans sA⟩
    obtain ⟨y6, rfl, sG⟩ := hP
    have hO9 := hO8.same sG
    have D9 := D8.same sG
    have kk9 := kk8.trans (KeepD.of_same sG)
    clear hO8 D8 kk8 hL8 hp8 hg8 sG
    -- names
    refine ⟨_, rfl, _, rfl, d, n, rfl, D9, hn12, fun nm e1 H10 onm ne1 hnm ne1d D10 k10 => ?_⟩
    have hO10 := hO9.keepD k10 nld nda
    have kk10 := kk9.trans k10
    have hg10 := kk10 _ _ hg2 ngd
    have hp10 := kk10 _ _ hp2 (nHd np)
    -- called
    refine ⟨_, rfl, l, rfl, ⟨_, SqL.of hO10.top⟩, fun D1 nD1 => ?_⟩
    have nD1d := D10.ne nD1
    refine lc_list (K := K) (a := l) (xs := as.map V.ref) (fun i G => ∃ cs : List Addr, G D1 = some (.lst (cs.map V.ref)) ∧ (∀ c ∈ cs, H10 c = none ∧ c ≠ D1) ∧ LL G cs ((rs.take i).map (behindL nm)) ∧ Same H10 G) ⟨[], upd_same, fun c m => absurd m List.not_mem_nil, trivial, same_new nD1⟩ (fun i G _ hP => by obtain ⟨_, _, _, _, sm⟩ := hP; exact SqL.of (sm _ _ hO10.top)) (fun i x G hx hP => ?_) (fun G hP => ?_)
    · obtain ⟨c0, ec, rfl⟩ := ref_at_inv hx
      obtain ⟨cs, hpc, hfr, hLc, sm⟩ := hP
      obtain ⟨row, er, hc⟩ := (hO10.ll.same sm).get ec
      have orow := hr0 row (List.mem_of_getElem? er)
      have hi := (List.getElem?_eq_some_iff.mp er).1
      have lc := hLc.len
      rw [List.length_map, List.length_take] at lc
      refine ⟨rfl, _, rfl, c0, rfl, ⟨_, SqL.of hc⟩, fun u nu => ?_⟩
      refine lc_list (K := K) (a := c0) (xs := row.map V.int) (fun j G2 => G2 u = some (.lst ((behindL nm (row.take j)).map V.int)) ∧ Same G G2) ⟨upd_same, same_new nu⟩ (fun j G2 _ hP => SqL.of (hP.2 _ _ hc)) (fun j x G2 hx hP => ?_) (fun G2 hP => ?_)
      · obtain ⟨hu, s2'⟩ := hP
        obtain ⟨y, ey, rfl⟩ := int_at_inv hx
        have hy := orow.mem (List.mem_of_getElem? ey)
        obtain ⟨yn, rfl⟩ : ∃ yn : Nat, y = (yn : Int) := ⟨y.toNat, by omega⟩
        have hyn : yn < nm.length := by rw [onm.len]; omega
        have hj := (List.getElem?_eq_some_iff.mp ey).1
        refine ⟨rfl, _, rfl, _, rfl, e1, _, _, _, rfl, rfl, SqL.of (s2' _ _ (sm _ _ hnm)), at_of (j := yn) rfl (int_at (List.getElem?_eq_getElem hyn)), ?_⟩
        refine ⟨_, hu, line_lt (by rw [List.length_map]; unfold behindL; rw [List.length_map, List.length_take]; have := orow.len; omega), ?_, fun b o e => ?_⟩
        · rw [upd_same, take_more' ey]
          unfold behindL
          rw [List.map_append, List.map_append]
          congr 3
          show [V.int _] = [V.int (nm.getD ((yn : Int)).toNat 0)]
          rw [Int.toNat_natCast, List.getD_eq_getElem?_getD, List.getElem?_eq_getElem hyn]
          rfl
        · rw [upd_ne (ne_of_none e nu)]
          exact s2' _ _ e
      · obtain ⟨hu, s2'⟩ := hP
        rw [List.length_map, List.take_length] at hu
        have nuD : u ≠ D1 := fun y => by rw [y, hpc] at nu; cases nu
        refine ⟨_, s2' _ _ hpc, line_lt (by rw [List.length_map]; omega), cs ++ [u], by rw [upd_same, List.map_append]; rfl, fun c m => ?_, ?_, fun b o e => ?_⟩
        · rcases List.mem_append.mp m with m | m
          · exact hfr c m
          · rw [List.mem_singleton.mp m]; exact ⟨sm.free nu, nuD⟩
        · rw [take_more' er, List.map_append]
          refine LL.snoc ((hLc.same s2').keep fun v m o e => by rw [upd_ne (hfr v m).2]; exact e) ?_
          rw [upd_ne nuD]
          exact hu
        · rw [upd_ne (ne_of_none e nD1)]
          exact s2' _ _ (sm _ _ e)
    obtain ⟨cs, hD1, hfr, hLc, s11⟩ := hP
    rw [List.take_of_length_le (by rw [List.length_map]; omega)] at hLc
    have hOc : OL G D1 cs (rs.map (behindL nm)) n := ⟨hD1, hLc, fun r hr => by
      obtain ⟨q, hq, rfl⟩ := List.mem_map.mp hr
      exact behind_ord onm (hr0 q hq), hn1, hn12⟩
    have hO11 := hO10.same s11
    have D11 := D10.same s11
    have kk11 := kk10.trans (KeepD.of_same s11)
    have hg11 := s11 _ _ hg10
    have hp11 := s11 _ _ hp10
    clear hLc hfr hD1 s11
    -- behind
    refine ⟨_, rfl, l, rfl, ⟨_, SqL.of hO11.top⟩, fun D5' nD5 => ?_⟩
    refine lc_revs (K := K) hO11.top hO11.ll (by omega) nD5 (fun _ => rfl) (fun _ => rfl) fun ds H12 hfd hD12 hLd s12' => ?_
    have hOd : OL H12 D5' ds (rs.map List.reverse) n := ⟨hD12, hLd, fun r hr => by
      obtain ⟨q, hq, rfl⟩ := List.mem_map.mp hr
      exact (List.reverse_perm q).trans (hr0 q hq), hn1, hn12⟩
    have hOc12 := hOc.same s12'
    have hO12 := hO11.same s12'
    have D12 := D11.same s12'
    have kk12 := kk11.trans (KeepD.of_same s12')
    have hg12 := s12' _ _ hg11
    have hp12 := s12' _ _ hp11
    -- the middles of those
    refine ⟨_, rfl, _, rfl, z, D1, cs, _, n, rfl, hz, hOc12, by rw [List.length_map]; omega, by rw [List.length_map]; omega, h3, fun pc gc mc xc H13 npc ngc hpc hgc amc s13 => ?_⟩
    have ec : mc = m := mid_called hz hn1 onm hr0 mid amc
    refine ⟨pc, _, 0, _, rfl, rfl, SqT.of hpc, rfl, _, rfl, rfl, _, rfl, iteNS (by rw [ec]) ?_⟩
    refine ⟨_, rfl, _, rfl, z, D5', ds, _, n, rfl, hz, hOd.same s13, by rw [List.length_map]; omega, by rw [List.length_map]; omega, h3, fun pd gd md xd H14 npd ngd' hpd hgd amd s14 => ?_⟩
    have ed : md = m := mid_rev hz hn1 hr0 mid amd
    refine ⟨pd, _, 0, _, rfl, rfl, SqT.of hpd, rfl, _, rfl, rfl, _, rfl, iteNS (by rw [ed]) ?_⟩
    have hO14 := (hO12.same s13).same s14
    have D14 := (D12.same s13).same s14
    have kk14 := kk12.trans (KeepD.of_same (s13.trans s14))
    have hg14 := s14 _ _ (s13 _ _ hg12)
    -- the poll from its end
    refine ⟨_, rfl, _, rfl, l, _, rfl, SqL.of hO14.top, fun r1 nr1 => ?_⟩
    have v1 := same_new (o := .lst (as.map V.ref).reverse) nr1
    have hOr : OL (upd H14 r1 (.lst (as.map V.ref).reverse)) r1 as.reverse rs.reverse n := ⟨by rw [upd_same, List.map_reverse], LL.rev (hO14.ll.same v1), fun r hr => hr0 r (List.mem_reverse.mp hr), hn1, hn12⟩
    refine ⟨z, r1, _, _, n, rfl, hz, hOr, by rw [List.length_reverse]; omega, by rw [List.length_reverse]; omega, h3, fun pe ge me xe H15 npe nge hpe hge ame s15 => ?_⟩
    obtain ⟨ee, ee'⟩ := mid_turned hr0 mid ame
    have v15 := v1.trans s15
    refine ⟨_, rfl, _, rfl, line_small (by show 2 ≤ 16777216; decide), fun t1 nt1 => ?_⟩
    have v2 := same_new (o := .tup [.int m, .ref g]) nt1
    refine ⟨_, _, dp_mid (v2 _ _ hpe) (v2 _ _ hge), dp_mid upd_same ((v15.trans v2) _ _ hg14), shaped_mid _ _, shaped_mid _ _, _, rfl, ?_⟩
    rw [ee, ee', SeqAt.eqv_refl _ (SeqAt.canLay_of_shaped (shaped_mid m xs))]
    refine iteF ?_
    have v16 := v15.trans v2
    have hO16 := hO14.same v16
    have D16 := D14.same v16
    have kk16 := kk14.trans (KeepD.of_same v16)
    have hg16 := v16 _ _ hg14
    clear v1 v2 v15 v16 hOr hpe hge ame s15
    generalize upd H15 t1 (.tup [.int m, .ref g]) = H16 at hO16 D16 kk16 hg16 ⊢
    -- the first order alone
    unfold tNoPart
    refine ⟨_, rfl, _, rfl, 1, rfl, l, _, rfl, SqL.of hO16.top, fun r2 nr2 => ?_⟩
    rw [cut_one ea0]
    have v1 := same_new (o := .lst [V.ref a0]) nr2
    have hO17 := hO16.same v1
    obtain ⟨r0', er0', ha17⟩ := hO17.ll.get ea0
    have e00 : r0' = r0 := Option.some.inj (er0'.symm.trans er0)
    subst e00
    have hO1' : OL (upd H16 r2 (.lst [V.ref a0])) r2 [a0] [r0'] n := ⟨upd_same, ⟨ha17, trivial⟩, fun r hr => by rw [List.mem_singleton.mp hr]; exact or0, hn1, hn12⟩
    refine ⟨z, r2, _, _, n, rfl, hz, hO1', Nat.le_refl _, (show 1 ≤ 20 by decide), h3, fun pf gf mf xf H18 npf ngf hpf hgf amf s18 => ?_⟩
    obtain ⟨ef, ef'⟩ := mid_one hz hn1 or0 amf
    have v18 := v1.trans s18
    have hO18 := hO16.same v18
    refine ⟨_, rfl, l, _, 0, _, rfl, rfl, SqL.of hO18.top, at_of (j := 0) rfl (ref_at ea0), line_small (by show 2 ≤ 16777216; decide), fun t2 nt2 => ?_⟩
    have v2 := same_new (o := .tup [.int 0, .ref a0]) nt2
    refine ⟨_, _, dp_mid (v2 _ _ hpf) (v2 _ _ hgf), dp_mid upd_same (v2 _ _ (s18 _ _ ha17)), shaped_mid _ _, shaped_mid _ _, _, rfl, ?_⟩
    rw [ef, ef', SeqAt.eqv_refl _ (SeqAt.canLay_of_shaped (shaped_mid 0 r0'))]
    refine iteF ?_
    have v19 := v18.trans v2
    have hO19 := hO16.same v19
    have D19 := D16.same v19
    have kk19 := kk16.trans (KeepD.of_same v19)
    have hg19 := v19 _ _ hg16
    clear v1 v2 v18 v19 hO17 hO18 hO1' hpf hgf amf s18 ha17
    generalize upd H18 t2 (.tup [.int 0, .ref a0]) = H19 at hO19 D19 kk19 hg19 ⊢
    -- twice the poll
    refine ⟨_, rfl, l, _, rfl, .inl (SqL.of hO19.top), ?_⟩
    refine ⟨_, 10, rfl, rfl, _, rfl, ite2 (fun _ => q _ D19 ((KeepD.of_same s12).trans kk19)) (fun c10 => ?_)⟩
    have h10 : rs.length ≤ 10 := by
      have : ¬ (10 : Int) < (((as.map V.ref).length : Nat) : Int) := fun y => c10 (decide_eq_true y)
      rw [List.length_map] at this
      omega
    refine ⟨_, rfl, _, rfl, _, rfl, l, l, _, _, rfl, rfl, hO19.top, hO19.top, line_small (by rw [List.length_map]; omega), fun r3 nr3 => ?_⟩
    have v1 := same_new (o := .lst (as.map V.ref ++ as.map V.ref)) nr3
    have hO2' : OL (upd H19 r3 (.lst (as.map V.ref ++ as.map V.ref))) r3 (as ++ as) (rs ++ rs) n := ⟨by rw [upd_same, List.map_append], ll_app (hO19.ll.same v1) (hO19.ll.same v1), fun r hr => (List.mem_append.mp hr).elim (hr0 r) (hr0 r), hn1, hn12⟩
    refine ⟨z, r3, _, _, n, rfl, hz, hO2', by rw [List.length_append]; omega, by rw [List.length_append]; omega, h3, fun ph gh mh xh H20 nph ngh hph hgh amh s20 => ?_⟩
    obtain ⟨eh, eh'⟩ := mid_twice hr0 mid amh
    have v20 := v1.trans s20
    refine ⟨_, rfl, 2, m, rfl, rfl, .inl ⟨by decide, by decide⟩, _, rfl, line_small (by show 2 ≤ 16777216; decide), fun t3 nt3 => ?_⟩
    have v2 := same_new (o := .tup [.int (2 * m), .ref g]) nt3
    refine ⟨_, _, dp_mid (v2 _ _ hph) (v2 _ _ hgh), dp_mid upd_same (v2 _ _ (v20 _ _ hg19)), shaped_mid _ _, shaped_mid _ _, ?_⟩
    rw [eh, eh', SeqAt.eqv_refl _ (SeqAt.canLay_of_shaped (shaped_mid (2 * m) xs))]
    exact q _ ((D19.same v20).same v2) (((KeepD.of_same s12).trans kk19).trans (KeepD.of_same (v20.trans v2)))
end
end Fo
namespace Fo
open PySem PySem.Spec PyProof.Rows L2
/-! ### _law_rings_right (k69) -/
def spRingsR : Sp := fun vs H Q _ => ∃ (l : Addr) (as : List Addr) (rs : List (List Int)) (n : Nat), vs = [.ref l] ∧ OL H l as rs n ∧ 1 ≤ rs.length ∧ rs.length ≤ 20 ∧ n ≤ 9 ∧ ∀ H', Same H H' → Q (.bl true) H'
theorem unlock_same {H G : Hp} {d : Addr} {o : Obj} {u : HO} (h : H d = some u) (s : Same (upd H d (.frz o u)) G) : Same H (upd G d u) := fun b x e => by
  by_cases c : b = d
  · subst c
    rw [h] at e
    rw [upd_same, e]
  · rw [upd_ne c]
    exact s b x (by rw [upd_ne c]; exact e)
def RV (H : Hp) (n : Nat) (v : V) : Option (List Int) → Prop
  | none => v = .non
  | some p => ∃ g, v = .ref g ∧ H g = some (.lst (p.map V.int)) ∧ p.length ≤ n
theorem RV.same {H H' : Hp} {n : Nat} {v : V} : ∀ {o : Option (List Int)}, RV H n v o → Same H H' → RV H' n v o
  | none, h, _ => h
  | some _, ⟨g, e, hg, hl⟩, s => ⟨g, e, s _ _ hg, hl⟩
theorem ring_seq {σ : L2.St} {H : Hp} {te : TE} {j : Nat} {rest : TS} {D : Ends} {E : XK} {rs : List (List Int)} {n : Nat} (h1 : 1 ≤ rs.length) (h2 : rs.length ≤ 20) (h3 : n ≤ 9)
    (ht : ∀ Q' : VK, (∀ (l : Addr) (as : List Addr) (H1 : Hp), OL H1 l as rs n → Same H H1 → Q' (.ref l) H1) → te σ H Q')
    (q : ∀ (v : V) (o : Option (List Int)) (H' : Hp), RingR n rs o → RV H' n v o → Same H H' → rest D (σ.set j (some v)) H') : tSeq (tAsg (tCall spRing [] E (tCons te tNil)) (gName j)) rest D σ H := by
  refine ht _ fun l as H1 hO s1 => ?_
  exact ⟨l, as, rs, n, rfl, hO, h1, h2, h3, fun H' hz sm => q _ none H' (ringR_none hz) rfl (s1.trans sm), fun g p z H' ng hg hz hp hl hm hall sm => q _ (some p) H' (ringR_some hz hp hm hall) ⟨g, rfl, hg, hl⟩ (s1.trans sm)⟩
theorem and_ring {σ : L2.St} {H : Hp} {n : Nat} {Q : Bool → Hp → Prop} {rv : V} {ro : Option (List Int)} {m p : Int} (hx : σ[1]? = some (some rv)) (h3 : σ[3]? = some (some (.int m))) (h2 : σ[2]? = some (some (.int p))) (hV : RV H n rv ro) (he : ro = none → m = p) (q : Q false H) :
    tAnd (tTest (tOp (fun x y H Q => y = V.non ∧ Q (V.bl (decide (x = V.non))) H) (tVar 1) (tC .non))) (tTest (tOp rNe (tVar 3) (tVar 2))) σ H Q := by
  refine ⟨_, hx, rfl, _, rfl, ?_⟩
  cases ro with
  | none =>
    have e : rv = .non := hV
    subst e
    have := he rfl
    subst this
    show if decide (V.non = V.non) = true then _ else _
    rw [if_pos (decide_eq_true rfl)]
    refine ⟨_, h3, _, h2, rfl, _, rfl, ?_⟩
    rw [decide_eq_true rfl]
    exact q
  | some r =>
    obtain ⟨g, rfl, _, _⟩ := hV
    rw [decide_eq_false (fun z => by cases z), if_neg (by decide)]
    exact q
theorem mem_upC : ∀ n < 10, ∀ b < n, ∀ a < b, (upP n).contains (Int.ofNat a, Int.ofNat b) = true := by decide +kernel
theorem mem_up (n : Nat) (hn : n < 10) (b : Nat) (hb : b < n) (a : Nat) (ha : a < b) : (((a : Nat) : Int), ((b : Nat) : Int)) ∈ upP n := List.contains_iff_mem.mp (mem_upC n hn b hb a ha)
theorem get_pair {n : Nat} {rs : List (List Int)} (hr : ∀ r ∈ rs, IsOrd n r) (hn : n ≤ 9) {a b : Int} (a0 : 0 ≤ a) (a1 : a < n) (b0 : 0 ≤ b) (b1 : b < n) (ne : a ≠ b) :
    ∃ i, (valV (tk rs (upP n)) (kk b a)).getD (.int 0) = .int i ∧ (valV (tk rs (upP n)) (kk a b)).getD (.int ((rs.length : Int) - i)) = .int (aN rs a b) := by
  by_cases c : a < b
  · have hm : (a, b) ∈ upP n := by
      have := mem_up n (by omega) b.toNat (by omega) a.toNat (by omega)
      rwa [Int.toNat_of_nonneg a0, Int.toNat_of_nonneg b0] at this
    have hno : (b, a) ∉ upP n := fun h => by have := (up_mem h).2.1; simp only at this; omega
    refine ⟨0, ?_, ?_⟩
    · rw [tk_none (p := (b, a)) hno]; rfl
    · rw [tk_get (p := (a, b)) hm]; rfl
  · have hm : (b, a) ∈ upP n := by
      have := mem_up n (by omega) a.toNat (by omega) b.toNat (by omega)
      rwa [Int.toNat_of_nonneg a0, Int.toNat_of_nonneg b0] at this
    have hno : (a, b) ∉ upP n := fun h => by have := (up_mem h).2.1; simp only at this; omega
    refine ⟨aN rs b a, ?_, ?_⟩
    · rw [tk_get (p := (b, a)) hm]; rfl
    · rw [tk_none (p := (a, b)) hno, aN_flip hr b0 b1 a0 a1 (Ne.symm ne)]; rfl
section
variable {P : Program} {w : World} {K : PySem.W.Frag} {mg : Str → Option Value} {base : Heap}
theorem scRingsR : FnScope ["poll", "ring", "least", "total", "pairs", "behind", "other", "k", "thing", "before", "many", "one", "pair"] ["poll"] (defScope s_law_rings_right) := ⟨rfl, rfl, rfl, by decide +kernel, rfl, by decide +kernel, by decide +kernel⟩
set_option maxHeartbeats 4000000 in
theorem ok_ringsR {f f1 f2 f3 f4 : Addr} {fd d1 d2 d3 d4 : FuncData} {k : Nat} (T : Df K mg "_law_rings_right" s_law_rings_right ["poll"] f fd) (T_ring_of : Df K mg "ring_of" s_ring_of ["poll"] f1 d1) (T_pair_sum : Df K mg "pair_sum" s_pair_sum ["poll"] f2 d2) (T_middle_of : Df K mg "middle_of" s_middle_of ["way", "poll"] f3 d3) (T_pairs_ahead : Df K mg "pairs_ahead" s_pairs_ahead ["poll"] f4 d4)
    (G_ring_of : FnOk P w K mg base CX0 k f1 d1 ["poll"] spRing) (G_pair_sum : FnOk P w K mg base CX0 k f2 d2 ["poll"] spPSum) (G_middle_of : FnOk P w K mg base CX0 k f3 d3 ["way", "poll"] spMid) (G_pairs_ahead : FnOk P w K mg base CX0 k f4 d4 ["poll"] spPairs) (B : Bi mg) : FnOk P w K mg base CX0 (k + 1) f fd ["poll"] spRingsR := by
  refine T.F.ok scRingsR (fun vs H Q E h => ?_) (fun cdv A outer s H vs Q E hr h => ?_)
  · obtain ⟨l, as, rs, n, rfl, _⟩ := h
    rfl
  · obtain ⟨l, as, rs, n, rfl, hO, h1, h2, h3, q⟩ := h
    refine ⟨_, 
      (pss_cons (ps_set (i := 1) scRingsR.nd rfl (.inl rfl) (pe_call G_ring_of hr (by rfl) T_ring_of.g T_ring_of.F.kp T_ring_of.b .nil pass0 (pa_cons (pv 0) pa_nil)))
      (pss_cons (ps_set (i := 2) scRingsR.nd rfl (.inl rfl) (pe_call G_pair_sum hr (by rfl) T_pair_sum.g T_pair_sum.F.kp T_pair_sum.b .nil pass0 (pa_cons (pv 0) pa_nil)))
      (pss_cons (ps_set (i := 3) scRingsR.nd rfl (.inl rfl) (pe_ix ix_tup (pe_call G_middle_of hr (by rfl) T_middle_of.g T_middle_of.F.kp T_middle_of.b .nil pass0 (pa_cons pe_str (pa_cons (pv 0) pa_nil))) pe_int (fun _ _ => rfl)))
      (pss_cons (ps_if (PW.pt (pw_or (pt_cmpR op_lt (pv 3) (pv 2) (nomark _)) (pw_or1 (PW.pt (pw_and (pt_cmpR op_isN (pv 1) pe_non (nomark _)) (pw_and1 (pt_cmpR op_ne (pv 3) (pv 2) (nomark _))))))))
        (pss_one (ps_ret pe_bl))
        pss_nil)
      (pss_cons (ps_set (i := 4) scRingsR.nd rfl (.inr rfl) (pe_call G_pairs_ahead hr (by rfl) T_pairs_ahead.g T_pairs_ahead.F.kp T_pairs_ahead.b .nil pass0 (pa_cons (pv 0) pa_nil)))
      (pss_cons (ps_set (i := 5) scRingsR.nd rfl (.inr rfl) (pe_call G_pairs_ahead hr (by rfl) T_pairs_ahead.g T_pairs_ahead.F.kp T_pairs_ahead.b .nil pass0 (pa_cons (pe_lc (own := [("one", 11)]) (g := (gName 11)) (tt := tYes) (te := (tRevL K (tVar 11))) rfl scRingsR.nd (pi_list (pv 0)) (blkOk_by (N := ["poll", "ring", "least", "total", "pairs", "behind", "other", "k", "thing", "before", "many", "one", "pair"]) (sc := defScope s_law_rings_right) (by decide +kernel)) (fun _ _ _ _ _ => (pg_name (i := 11) scRingsR.nd rfl (.inl rfl))) (fun _ _ _ _ _ => pts_nil) (fun _ _ _ _ _ => (pe_revL (pv 11)))) pa_nil)))
      (pss_cons (ps_if (pt_cmpR op_ne (pe_callB call_len_dT (by rfl) B.len PySem.boot_len (pa_cons (pv 4) pa_nil)) (pe_callB call_len_dT (by rfl) B.len PySem.boot_len (pa_cons (pv 5) pa_nil)) (nomark _))
        (pss_one (ps_ret pe_bl))
        pss_nil)
      (pss_cons (ps_if (pt_cmpR (op_neD hr.units) (pe_lock (pe_lc (own := [("pair", 12)]) (g := (gName 12)) (tt := (tTest (tOp rNe (tOp (rI0 fun i j => .int (i + j)) (tDGet (tVar 4) (tVar 12)) (tDGet (tVar 5) (tVar 12))) (tCB (rLenS K) (tCons (tVar 0) tNil))))) (te := (tVar 12)) rfl scRingsR.nd (pi_keys (pv 4)) (blkOk_by (N := ["poll", "ring", "least", "total", "pairs", "behind", "other", "k", "thing", "before", "many", "one", "pair"]) (sc := defScope s_law_rings_right) (by decide +kernel)) (fun _ _ _ _ _ => (pg_name (i := 12) scRingsR.nd rfl (.inl rfl))) (fun _ _ _ _ _ => (pts_one (pt_cmpR op_ne (pe_op op_add (pe_dget (hu_of hr) (pv 4) (pv 12) (fun _ _ => rfl)) (pe_dget (hu_of hr) (pv 5) (pv 12) (fun _ _ => rfl))) (pe_callB call_len_seq (by rfl) B.len PySem.boot_len (pa_cons (pv 0) pa_nil)) (nomark _)))) (fun _ _ _ _ _ => (pv 12)))) (pe_lst pa_nil) (nomark _))
        (pss_one (ps_ret pe_bl))
        pss_nil)
      (pss_cons (ps_set (i := 6) scRingsR.nd rfl (.inl rfl) (pe_call G_ring_of hr (by rfl) T_ring_of.g T_ring_of.F.kp T_ring_of.b .nil pass0 (pa_cons (pe_lc (own := [("one", 11)]) (g := (gName 11)) (tt := tYes) (te := (tRevL K (tVar 11))) rfl scRingsR.nd (pi_list (pv 0)) (blkOk_by (N := ["poll", "ring", "least", "total", "pairs", "behind", "other", "k", "thing", "before", "many", "one", "pair"]) (sc := defScope s_law_rings_right) (by decide +kernel)) (fun _ _ _ _ _ => (pg_name (i := 11) scRingsR.nd rfl (.inl rfl))) (fun _ _ _ _ _ => pts_nil) (fun _ _ _ _ _ => (pe_revL (pv 11)))) pa_nil)))
      (pss_cons (ps_if (pt_cmpR op_isN (pv 1) pe_non (nomark _))
        (pss_one (ps_ret (pe_cmpR op_isN (pv 6) pe_non (nomark _))))
        pss_nil)
      (pss_cons (ps_if (PW.pt (pw_or (pt_cmpR op_isN (pv 6) pe_non (nomark _)) (pw_or (pt_cmpR op_ne (pe_callB call_len_seq (by rfl) B.len PySem.boot_len (pa_cons (pv 6) pa_nil)) (pe_callB call_len_seq (by rfl) B.len PySem.boot_len (pa_cons (pv 1) pa_nil)) (nomark _)) (pw_or (pt_cmpR op_ne (RZ.pe_lenSetI (by rfl) B.len (by rfl) B.set (pv 1)) (pe_callB call_len_seq (by rfl) B.len PySem.boot_len (pa_cons (pv 1) pa_nil)) (nomark _)) (pw_or1 (pt_cmpR op_ne (pe_ix ix_list (pv 1) pe_int (fun _ _ => rfl)) (pe_callB (cr_min rfl) (by rfl) B.min (by decide +kernel) (pa_cons (pv 1) pa_nil)) (nomark _)))))))
        (pss_one (ps_ret pe_bl))
        pss_nil)
      (pss_cons (ps_for PassesOwn.never rfl (pi_enum (by rfl) B.enumerate (pa_cons (pv 1) pa_nil)) (pg_tup (by rfl) (pgs_cons (pg_name (i := 7) scRingsR.nd rfl (.inl rfl)) (pgs_cons (pg_name (i := 8) scRingsR.nd rfl (.inl rfl)) pgs_nil)))
        (pss_cons (ps_set (i := 9) scRingsR.nd rfl (.inl rfl) (pe_ix ix_list (pv 1) (pe_op op_sub (pv 7) pe_int) (fun _ _ => rfl)))
        (pss_cons (ps_set (i := 10) scRingsR.nd rfl (.inl rfl) (pe_dget2 (hu_of hr) (pv 4) (pe_tup (pa_cons (pv 9) (pa_cons (pv 8) pa_nil))) (pe_op op_sub (pe_callB call_len_seq (by rfl) B.len PySem.boot_len (pa_cons (pv 0) pa_nil)) (pe_dget2 (hu_of hr) (pv 4) (pe_tup (pa_cons (pv 8) (pa_cons (pv 9) pa_nil))) pe_int ⟨by rfl, by rfl, by rfl, by rfl⟩)) ⟨by rfl, by rfl, by rfl, by rfl⟩))
        (pss_one (ps_if (pt_cmpR op_le (pe_op op_mul pe_int (pv 10)) (pe_callB call_len_seq (by rfl) B.len PySem.boot_len (pa_cons (pv 0) pa_nil)) (nomark _))
          (pss_one (ps_ret pe_bl))
          pss_nil)))))
      (pss_one (ps_ret pe_bl)))))))))))))), ?_⟩
    have hr0 := hO.ord
    have hn1 := hO.n1
    have hn12 := hO.n2
    refine ring_seq h1 h2 h3 (fun Q' hq => ⟨_, rfl, hq l as H hO (Same.refl _)⟩) fun rv ro H1 hR hV s1 => ?_
    have hO1 := hO.same s1
    refine ⟨_, rfl, l, as, rs, n, rfl, hO1, h1, h2, fun H2 s2 => ?_⟩
    have hO2 := hO1.same s2
    refine ⟨_, rfl, "swap", l, as, rs, n, rfl, .inl rfl, hO2, h1, h2, .inr ⟨rfl, h3⟩, fun pm gm m xs H3 npm ngm hpm hgm am s3 => ⟨pm, _, 0, _, rfl, rfl, SqT.of hpm, rfl, ?_⟩⟩
    have hO3 := hO2.same s3
    have hV3 := hV.same (s2.trans s3)
    have s03 := (s1.trans s2).trans s3
    obtain ⟨ml, mz⟩ := mid_psum hr0 am
    clear hO1 hO2 hV s1 s2 s3 hpm hgm
    refine ⟨_, rfl, _, rfl, m, psum n rs, rfl, rfl, _, rfl, ite2 (fun c => absurd (of_decide_eq_true c) (by omega)) (fun _ => and_ring rfl rfl rfl hV3 (fun e => mz fun z hz j w v g1 g2 => ?_) (iteF ?_))⟩
    · rw [e] at hR
      exact hR z hz j ⟨w, v, g1, g2⟩
    refine ⟨_, rfl, l, as, rs, n, rfl, hO3, h1, h2, fun pd H4 npd hpd s4 => ?_⟩
    have hO4 := hO3.same s4
    have hV4 := hV3.same s4
    have s04 := s03.trans s4
    refine ⟨_, rfl, l, rfl, ⟨_, SqL.of hO4.top⟩, fun D nD => ?_⟩
    refine lc_revs (K := K) hO4.top hO4.ll (by omega) nD (fun _ => rfl) (fun _ => rfl) fun ds H5 hfd hD hLd s5 => ?_
    have hrr : ∀ r ∈ rs.map List.reverse, IsOrd n r := fun r hr => by
      obtain ⟨q, hq, rfl⟩ := List.mem_map.mp hr
      exact (List.reverse_perm q).trans (hr0 q hq)
    have hOd : OL H5 D ds (rs.map List.reverse) n := ⟨hD, hLd, hrr, hn1, hn12⟩
    refine ⟨D, ds, _, n, rfl, hOd, by rw [List.length_map]; omega, by rw [List.length_map]; omega, fun bd H6 nbd hbd s6 => ?_⟩
    have hO6 := (hO4.same s5).same s6
    have hV6 := (hV4.same s5).same s6
    have hpd6 := s6 _ _ (s5 _ _ hpd)
    have s06 := (s04.trans s5).trans s6
    have nbp : bd ≠ pd := (ne_of_none (s5 _ _ hpd) nbd).symm
    clear hO3 hO4 hV3 hV4 s03 s04 s4 s5 s6 hOd hD hLd hfd hpd
    refine ⟨_, rfl, pd, _, rfl, hpd6, _, rfl, bd, _, rfl, hbd, rfl, _, rfl, iteNS (by rw [tk_len, tk_len]) ?_⟩
    -- the pairs one way round and the other
    refine ⟨pd, _, hpd6, trivial, fun od => ⟨_, rfl, pd, od, rfl, .inr ⟨_, upd_same, fun D7 nD7 => ?_⟩⟩⟩
    have nD76 : H6 D7 = none := by
      rw [← nD7, upd_ne]
      exact fun z => by rw [z, upd_same] at nD7; cases nD7
    have nDp : D7 ≠ pd := fun z => by rw [z, hpd6] at nD76; cases nD76
    refine lc_it walk_keysT (fun i G => G D7 = some (.lst (([] : List Int).map V.int)) ∧ Same (upd H6 pd (.frz od (.dT (tk rs (upP n))))) G)
      ⟨upd_same, same_new nD7⟩ (fun i G _ hP => hP.2 _ _ upd_same) (fun i x G G' hi hP hy => ?_) (fun G hP => ?_)
    · obtain ⟨rfl, k', v, c, ek, rfl, hc⟩ := hy
      obtain ⟨p, ep, rfl, rfl⟩ := tk_at ek
      have hpm := List.mem_of_getElem? ep
      obtain ⟨p0, p1, p2⟩ := up_mem hpm
      have gt := hP.2 _ _ (upd_same (H := H6) (a := pd) (o := .frz od (.dT (tk rs (upP n)))))
      have gb : G' bd = some (.dT (tk (rs.map List.reverse) (upP n))) := hP.2 _ _ (by rw [upd_ne nbp]; exact hbd)
      have gl : G' l = some (.lst (as.map V.ref)) := hP.2 _ _ (by rw [upd_ne (fun z => by have := hO6.top; rw [z, hpd6] at this; cases this)]; exact hO6.top)
      refine ⟨rfl, _, rfl, _, rfl, pd, _, rfl, .inr ⟨_, kk p.1 p.2, c, .inr ⟨od, gt⟩, rfl, hc, (tk_get hpm).symm⟩, _, rfl, _, rfl, bd, _, rfl, .inr ⟨_, kk p.1 p.2, c, .inl gb, rfl, hc, (tk_get hpm).symm⟩, _, _, rfl, rfl, _, rfl, l, _, rfl, .inl (SqL.of gl), rfl, _, rfl, iteNS ?_ hP⟩
      have e1 := aN_behind hr0 (i := p.1) (j := p.2) (rg_mem.mpr ⟨p0, by omega⟩) (rg_mem.mpr ⟨by omega, p2⟩)
      have e2 := aN_flip hr0 p0 (show p.1 < n by omega) (show 0 ≤ p.2 by omega) p2 (by omega)
      have e3 := hO6.ll.len
      rw [List.length_map, e1, e2, e3]
      show V.int (aN rs p.1 p.2 + ((rs.length : Int) - aN rs p.1 p.2)) = V.int (rs.length : Int)
      congr 1
      omega
    obtain ⟨hD7, sG⟩ := hP
    have gt := sG _ _ (upd_same (H := H6) (a := pd) (o := .frz od (.dT (tk rs (upP n)))))
    refine ⟨gt, ?_⟩
    have sD := unlock_same hpd6 sG
    have hpd7 : (upd G pd (.dT (tk rs (upP n)))) pd = some (.dT (tk rs (upP n))) := upd_same
    have hDD : (upd G pd (.dT (tk rs (upP n)))) D7 = some (.lst (([] : List Int).map V.int)) := by rw [upd_ne nDp]; exact hD7
    generalize upd G pd (.dT (tk rs (upP n))) = H8 at sD hpd7 hDD ⊢
    refine ⟨line_small (by show 0 ≤ 16777216; decide), fun e0 ne0 => ?_⟩
    have t6 := same_new (o := .lst []) ne0
    refine ⟨_, _, dp_list (t6 _ _ hDD), dp_list (ns := []) upd_same, shaped_list _, shaped_list _, _, rfl, ?_⟩
    rw [eqv_list]
    refine iteF ?_
    have hpd9 := t6 _ _ hpd7
    have s69 := sD.trans t6
    generalize upd H8 e0 (.lst []) = H9 at hpd9 s69 ⊢
    have hO9 := hO6.same s69
    have hV9 := hV6.same s69
    have s09 := s06.trans s69
    clear hO6 hV6 s06 s69 t6 sD hDD hpd7 gt sG hD7
    -- the ring from behind
    unfold tNext
    dsimp only
    refine ring_seq (rs := rs.map List.reverse) (n := n) (by rw [List.length_map]; omega) (by rw [List.length_map]; omega) h3 (fun Q' hq => ⟨_, rfl, l, rfl, ⟨_, SqL.of hO9.top⟩, fun D8 nD8 => lc_revs (K := K) hO9.top hO9.ll (by omega) nD8 (fun _ => rfl) (fun _ => rfl) fun ds8 H10 hfd8 hD8 hLd8 s10 => hq D8 ds8 H10 ⟨hD8, hLd8, hrr, hn1, hn12⟩ s10⟩) fun sv so H10 hS hW s10 => ?_
    have hO10 := hO9.same s10
    have hV10 := hV9.same s10
    have hpd10 := s10 _ _ hpd9
    have s010 := s09.trans s10
    have hlen := RingR.behind hr0 hR hS
    clear hO9 hV9 s09 hpd9 s10
    cases ro with
    | none =>
      have e : rv = .non := hV10
      subst e
      cases so with
      | some p => cases hlen
      | none =>
        have e : sv = .non := hW
        subst e
        refine ⟨_, rfl, rfl, _, rfl, ite2 (fun _ => ?_) (fun c => absurd (decide_eq_true rfl) c)⟩
        refine ⟨_, rfl, rfl, ?_⟩
        rw [decide_eq_true rfl]
        exact q _ s010
    | some p =>
    cases so with
    | none => cases hlen
    | some p' =>
    obtain ⟨g, rfl, hg, hgl⟩ := hV10
    obtain ⟨g', rfl, hg', hgl'⟩ := hW
    have hl2 : p.length = p'.length := Option.some.inj hlen
    refine ⟨_, rfl, rfl, _, rfl, ite2 (fun c => by cases of_decide_eq_true c) (fun _ => ?_)⟩
    obtain ⟨zf, ez, hzl⟩ := hR.first
    have hnd := hR.nodup
    obtain ⟨lst, elst, ⟨y0, ey0, hy0⟩, harc⟩ := hR.arcs hr0
    have hp1 : 0 < p.length := by
      rcases Nat.eq_zero_or_pos p.length with h | h
      · rw [List.eq_nil_of_length_eq_zero h] at ez; cases ez
      · exact h
    dsimp only
    have hp0 : p[0]? = some zf := ez
    refine ⟨_, rfl, rfl, _, rfl, ite2 (fun c => by cases of_decide_eq_true c) (fun _ => ?_)⟩
    refine ⟨_, rfl, g', _, rfl, .inl (SqL.of hg'), _, rfl, g, _, rfl, .inl (SqL.of hg), rfl, _, rfl, iteNS (by rw [List.length_map, List.length_map, hl2]) ?_⟩
    refine ⟨_, rfl, g, p, rfl, SqL.of hg, hnd, by omega, _, rfl, g, _, rfl, .inl (SqL.of hg), rfl, _, rfl, iteNS (by rw [List.length_map]) ?_⟩
    refine ⟨_, rfl, g, _, 0, _, rfl, rfl, SqL.of hg, at_of (j := 0) rfl (int_at ez), _, rfl, g, p, rfl, SqL.of hg, hp1, fun mm hmm hmle => ⟨rfl, _, rfl, iteNS (by
      have z1 := hzl mm hmm
      have z2 := hmle zf (List.mem_of_getElem? ez)
      rw [show zf = mm by omega]) ?_⟩⟩
    have hb : ∀ (i : Nat) (th : Int), p[i]? = some th → ∃ b, atI (p.map V.int) ((i : Int) - 1) = some (V.int b) ∧ th ∈ flw n rs b := fun i th hi => by
      cases i with
      | zero =>
        obtain ⟨kk', ek⟩ : ∃ kk', p.length = kk' + 1 := ⟨p.length - 1, by omega⟩
        refine ⟨lst, ?_, ?_⟩
        · have := last_at ek
          rw [List.getLastD_eq_getLast?, elst] at this
          exact this
        · have e : y0 = th := Option.some.inj (ey0.symm.trans hi)
          rw [← e]; exact hy0
      | succ j =>
        obtain ⟨x, y, ex, ey, hxy⟩ := harc j (List.getElem?_eq_some_iff.mp hi).1
        have e : y = th := Option.some.inj (ey.symm.trans hi)
        exact ⟨x, at_of (j := j) (by omega) (int_at ex), by rw [← e]; exact hxy⟩
    refine ⟨_, rfl, g, _, rfl, SqL.of hg, ?_⟩
    refine for_enumL (xs := p.map V.int) (fun i σ G => ∃ y7 y8 y9 y10 y11 y12 : Option V, σ = [some (.ref l), some (.ref g), some (.int (psum n rs)), some (.int m), some (.ref pd), some (.ref bd), some (.ref g'), y7, y8, y9, y10, y11, y12] ∧ Same H10 G)
      ⟨_, _, _, _, _, _, rfl, Same.refl _⟩ (fun i σ G hW => by obtain ⟨_, _, _, _, _, _, _, sm⟩ := hW; exact SqL.of (sm _ _ hg)) (fun i x t σ G hx hW nt => ?_) (fun σ G hW => ?_)
    · obtain ⟨y7, y8, y9, y10, y11, y12, rfl, sm⟩ := hW
      obtain ⟨th, eth, rfl⟩ := int_at_inv hx
      obtain ⟨b, eat, hfl⟩ := hb i th eth
      obtain ⟨b0, b1⟩ := fl_dom hr0 hfl
      obtain ⟨c0, c1⟩ := flw_mem hfl
      have hne : b ≠ th := fun e => by rw [e] at hfl; exact fl_self n rs th hfl
      obtain ⟨iv, ei1, ei2⟩ := get_pair hr0 h3 b0 b1 c0 c1 hne
      have hmany : (rs.length : Int) < 2 * aN rs b th := of_decide_eq_true (List.mem_filter.mp hfl).2
      have st := same_new (o := .tup [.int (i : Nat), .int th]) nt
      have ht4 : (upd G t (.tup [.int (i : Nat), .int th])) t = some (.tup [.int (i : Nat), .int th]) := upd_same
      have sm4 := sm.trans st
      generalize upd G t (.tup [.int (i : Nat), .int th]) = G4 at ht4 sm4 ⊢
      refine ⟨t, _, rfl, SqT.of ht4, rfl, _, _, rfl, _, _, rfl, rfl, ?_⟩
      refine ⟨_, rfl, _, rfl, (i : Int), 1, rfl, rfl, g, _, _, _, rfl, rfl, SqL.of (sm4 _ _ hg), eat, ?_⟩
      have hl4 := (hO10.same sm4).top
      have hpd4 := sm4 _ _ hpd10
      refine ⟨_, rfl, pd, rfl, .inr ⟨_, .inl hpd4⟩, _, rfl, _, rfl, line_small (by show 2 ≤ 16777216; decide), fun t1 nt1 => ?_⟩
      have u1 := same_new (o := .tup [.int b, .int th]) nt1
      have ht1 : (upd G4 t1 (.tup [.int b, .int th])) t1 = some (.tup ((kk b th).map kV)) := upd_same
      generalize upd G4 t1 (.tup [.int b, .int th]) = G5 at u1 ht1 ⊢
      refine ⟨_, rfl, l, _, rfl, .inl (SqL.of (u1 _ _ hl4)), _, rfl, pd, rfl, .inr ⟨_, .inl (u1 _ _ hpd4)⟩, _, rfl, _, rfl, line_small (by show 2 ≤ 16777216; decide), fun t2 nt2 => ?_⟩
      have u2 := same_new (o := .tup [.int th, .int b]) nt2
      have ht2 : (upd G5 t2 (.tup [.int th, .int b])) t2 = some (.tup ((kk th b).map kV)) := upd_same
      generalize upd G5 t2 (.tup [.int th, .int b]) = G6 at u2 ht2 ⊢
      have u12 := u1.trans u2
      refine ⟨_, DGet.t (u12 _ _ hpd4) ht2, ?_⟩
      rw [ei1]
      refine ⟨_, iv, rfl, rfl, _, DGet.t (u12 _ _ hpd4) (u2 _ _ ht1), ?_⟩
      rw [List.length_map, hO10.ll.len, ei2]
      refine ⟨_, rfl, 2, _, rfl, rfl, .inl ⟨by decide, by decide⟩, _, rfl, l, _, rfl, .inl (SqL.of (u12 _ _ hl4)), _, _, rfl, rfl, _, rfl, ite2 (fun c => absurd (of_decide_eq_true c) ?_) (fun _ => ?_)⟩
      · rw [List.length_map, hO10.ll.len]
        omega
      · exact ⟨_, _, _, _, _, _, rfl, sm4.trans u12⟩
    · obtain ⟨y7, y8, y9, y10, y11, y12, rfl, sm⟩ := hW
      exact q _ (s010.trans sm)
end
end Fo
namespace Fo
open PySem PySem.Spec PyProof.Rows L2
def spLaw (K : PySem.W.Frag) : Sp := fun vs H Q _ => ∃ (a : Addr) (ns : List Int), vs = [.ref a] ∧ SqL K H a (ns.map V.int) ∧ ns.length ≤ 63 ∧ ∀ H', Q (.bl true) H'
abbrev rListOf (K : PySem.W.Frag) : List V → Hp → VK → Prop := fun xs H Q => ∃ p ys, xs = [.ref p] ∧ (SqL K H p ys ∨ SqT K H p ys) ∧ ∀ l, H l = none → Q (.ref l) (upd H l (.lst ys))
def spCopied : Sp := fun vs H Q _ => ∃ (l : Addr) (as : List Addr) (rs : List (List Int)), vs = [.ref l] ∧ H l = some (.lst (as.map V.ref)) ∧ LL H as rs ∧ rs.length ≤ 1000 ∧ ∀ (l' : Addr) (as' : List Addr) (H' : Hp), H l' = none → (∀ a ∈ as', H a = none) → l' ∉ as' → H' l' = some (.lst (as'.map V.ref)) → LL H' as' rs → Same H H' → Q (.ref l') H'
theorem dp_of {K : PySem.W.Frag} {H : Hp} {l : Addr} {as : List Addr} {rs : List (List Int)} {n : Nat} (h : OL H l as rs n) : Dp K H (.ref l) (dLL rs) := dp_lists h.top h.ll
section
variable {P : Program} {w : World} {K : PySem.W.Frag} {mg : Str → Option Value} {base : Heap}
end
end Fo
namespace Fo
open PySem PySem.Spec PyProof.Rows L2
theorem way3 {m : Nat} {x : V} (h : [V.str "swap", V.str "spot", V.str "shift"][m]? = some x) : ∃ w : Str, x = .str w ∧ IsWay w := by
  match m, h with
  | 0, h => exact ⟨"swap", (Option.some.inj h).symm, .inl rfl⟩
  | 1, h => exact ⟨"spot", (Option.some.inj h).symm, .inr (.inl rfl)⟩
  | 2, h => exact ⟨"shift", (Option.some.inj h).symm, .inr (.inr rfl)⟩
  | m + 3, h => cases h
theorem turns2 (n : Nat) : ∃ m : Nat, (if (if 2 < (n : Int) then 2 else (n : Int)) > 1 then (if 2 < (n : Int) then 2 else (n : Int)) else 1) = (m : Int) ∧ m ≤ 2 := by
  by_cases c : 2 < (n : Int)
  · exact ⟨2, by rw [if_pos c]; rfl, by decide⟩
  · rw [if_neg c]
    by_cases c2 : (n : Int) > 1
    · exact ⟨n, by rw [if_pos c2], by omega⟩
    · exact ⟨1, by rw [if_neg c2]; rfl, by decide⟩
section
variable {P : Program} {w : World} {K : PySem.W.Frag} {mg : Str → Option Value} {base : Heap}
theorem scLaw : FnScope ["script", "k", "deck", "n", "poll", "way"] ["script"] (defScope s_law) := ⟨rfl, rfl, rfl, by decide +kernel, rfl, by decide +kernel, by decide +kernel⟩
set_option maxHeartbeats 8000000 in
theorem ok_law {f f1 f2 f3 f4 f5 f6 f7 : Addr} {fd d1 d2 d3 d4 d5 d6 d7 : FuncData} (T : Fun K "law" "law" s_law f fd) (T__law_deck : Df K mg "_law_deck" s_law_deck ["cell", "many"] f1 d1) (T__law_cell_at : Df K mg "_law_cell_at" s_law_cell_at ["script", "k"] f2 d2) (T__law_next : Df K mg "_law_next" s_law_next ["deck"] f3 d3) (T__law_poll : Df K mg "_law_poll" s_law_poll ["deck", "n", "most"] f4 d4) (T__law_ring_poll : Df K mg "_law_ring_poll" s_law_ring_poll ["deck", "n"] f5 d5) (T__law_sums_right : Df K mg "_law_sums_right" s_law_sums_right ["deck", "way", "poll"] f6 d6) (T__law_rings_right : Df K mg "_law_rings_right" s_law_rings_right ["poll"] f7 d7)
    (G__law_deck : FnOk P w K mg base CX0 11 f1 d1 ["cell", "many"] spDeckN) (G__law_cell_at : FnOk P w K mg base CX0 11 f2 d2 ["script", "k"] (spCell K)) (G__law_next : FnOk P w K mg base CX0 11 f3 d3 ["deck"] spNext) (G__law_poll : FnOk P w K mg base CX0 11 f4 d4 ["deck", "n", "most"] spPoll) (G__law_ring_poll : FnOk P w K mg base CX0 11 f5 d5 ["deck", "n"] spRPoll) (G__law_sums_right : FnOk P w K mg base CX0 11 f6 d6 ["deck", "way", "poll"] spSumsR) (G__law_rings_right : FnOk P w K mg base CX0 11 f7 d7 ["poll"] spRingsR) (B : Bi mg) : FnOk P w K mg base CX0 12 f fd ["script"] (spLaw K) := by
  refine T.ok scLaw (fun vs H Q E h => ?_) (fun cdv A outer s H vs Q E hr h => ?_)
  · obtain ⟨a, ns, rfl, _⟩ := h
    rfl
  · obtain ⟨a, ns, rfl, hS, hlen, q⟩ := h
    refine ⟨_, 
      (pss_cons (ps_for PassesOwn.never rfl (pi_range1 (by rfl) B.range (pa_cons (pe_callB (call_max2 rfl) (by rfl) B.max (by decide +kernel) (pa_cons pe_int (pa_cons (pe_callB (call_min2 rfl) (by rfl) B.min (by decide +kernel) (pa_cons (pe_callB call_len_seq (by rfl) B.len PySem.boot_len (pa_cons (pv 0) pa_nil)) (pa_cons pe_int pa_nil))) pa_nil))) pa_nil)) (pg_name (i := 1) scLaw.nd rfl (.inl rfl))
        (pss_cons (ps_set (i := 2) scLaw.nd rfl (.inr rfl) (pe_call G__law_deck hr (by rfl) T__law_deck.g T__law_deck.F.kp T__law_deck.b .nil pass0 (pa_cons (pe_call G__law_cell_at hr (by rfl) T__law_cell_at.g T__law_cell_at.F.kp T__law_cell_at.b .nil pass0 (pa_cons (pv 0) (pa_cons (pv 1) pa_nil))) (pa_cons pe_int pa_nil))))
        (pss_cons (ps_set (i := 3) scLaw.nd rfl (.inl rfl) (pe_op op_add pe_int (pe_op op_mod (pe_call G__law_next hr (by rfl) T__law_next.g T__law_next.F.kp T__law_next.b .nil pass0 (pa_cons (pv 2) pa_nil)) pe_int)))
        (pss_cons (ps_set (i := 4) scLaw.nd rfl (.inr rfl) (pe_call G__law_poll hr (by rfl) T__law_poll.g T__law_poll.F.kp T__law_poll.b .nil pass0 (pa_cons (pv 2) (pa_cons (pv 3) (pa_cons pe_int pa_nil)))))
        (pss_cons (ps_if (pt_cmpR (op_neD hr.units) (pe_lc (own := [("way", 5)]) (g := (gName 5)) (tt := (tNot (tB (tCall spSumsR [] E0 (tCons (tVar 2) (tCons (tVar 5) (tCons (tVar 4) tNil))))))) (te := (tVar 5)) rfl scLaw.nd (pi_tup (pe_tup (pa_cons pe_str (pa_cons pe_str (pa_cons pe_str pa_nil))))) (blkOk_by (N := ["script", "k", "deck", "n", "poll", "way"]) (sc := defScope s_law) (by decide +kernel)) (fun _ _ _ _ _ => (pg_name (i := 5) scLaw.nd rfl (.inl rfl))) (fun _ _ _ _ _ => (pts_one (pt_not (pt_val (pe_call G__law_sums_right hr (by rfl) T__law_sums_right.g T__law_sums_right.F.kp T__law_sums_right.b .nil pass0 (pa_cons (pv 2) (pa_cons (pv 5) (pa_cons (pv 4) pa_nil)))))))) (fun _ _ _ _ _ => (pv 5))) (pe_lst pa_nil) (nomark _))
          (pss_one (ps_ret pe_bl))
          pss_nil)
        (pss_cons (ps_set (i := 3) scLaw.nd rfl (.inl rfl) (pe_op op_add pe_int (pe_op op_mod (pe_call G__law_next hr (by rfl) T__law_next.g T__law_next.F.kp T__law_next.b .nil pass0 (pa_cons (pv 2) pa_nil)) pe_int)))
        (pss_cons (ps_set (i := 4) scLaw.nd rfl (.inr rfl) (pe_call G__law_poll hr (by rfl) T__law_poll.g T__law_poll.F.kp T__law_poll.b .nil pass0 (pa_cons (pv 2) (pa_cons (pv 3) (pa_cons pe_int pa_nil)))))
        (Evl.pss_cut (ps_if (pt_cmpR op_eq (pe_op op_mod (pe_call G__law_next hr (by rfl) T__law_next.g T__law_next.F.kp T__law_next.b .nil pass0 (pa_cons (pv 2) pa_nil)) pe_int) pe_int (nomark _))
          (pss_one (ps_set (i := 4) scLaw.nd rfl (.inr rfl) (pe_call G__law_ring_poll hr (by rfl) T__law_ring_poll.g T__law_ring_poll.F.kp T__law_ring_poll.b .nil pass0 (pa_cons (pv 2) (pa_cons (pv 3) pa_nil)))))
          pss_nil)
        (pss_one (ps_if (PW.pt (pw_or (pt_not (pt_val (pe_call G__law_sums_right hr (by rfl) T__law_sums_right.g T__law_sums_right.F.kp T__law_sums_right.b .nil pass0 (pa_cons (pv 2) (pa_cons pe_str (pa_cons (pv 4) pa_nil)))))) (pw_or1 (pt_not (pt_val (pe_call G__law_rings_right hr (by rfl) T__law_rings_right.g T__law_rings_right.F.kp T__law_rings_right.b .nil pass0 (pa_cons (pv 4) pa_nil)))))))
          (pss_one (ps_ret pe_bl))
          pss_nil))))))))))
      (pss_one (ps_ret pe_bl))), ?_⟩
    refine ⟨_, rfl, a, _, rfl, .inl hS, _, 2, rfl, 1, _, rfl, _, rfl, ?_⟩
    obtain ⟨m, em, hm⟩ := turns2 (ns.map V.int).length
    refine ⟨by rw [em]; omega, by rw [em]; omega, ?_⟩
    rw [em, Int.toNat_natCast]
    refine for_range (n := m) (fun i σ H3 => ∃ (y1 y2 y3 y4 y5 : Option V), σ = [some (.ref a), y1, y2, y3, y4, y5] ∧ Same H H3)
      ⟨_, _, _, _, _, rfl, Same.refl _⟩ (fun i σ H3 hi hP => ?_) (fun σ H3 hP => q _)
    obtain ⟨y1, y2, y3, y4, y5, rfl, s3⟩ := hP
    refine ⟨_, rfl, _, rfl, a, ns, i, by rw [show (0 + (i : Int)) = (i : Int) by omega]; rfl, s3.seq hS, fun c => ⟨c, 900, rfl, by decide, by decide, fun d H4 nd D4 s4 => ?_⟩⟩
    have s04 := s3.trans s4
    have nHd : H d = none := s3.free nd
    -- n, poll
    refine ⟨_, rfl, d, rfl, D4, fun v1 H5 _ _ D5 k5 => ⟨v1, 5, rfl, rfl, (show (0 : Int) < 5 by decide), 1, _, rfl, rfl, ?_⟩⟩
    have b1 := mod_b v1 (m := 5) (by decide)
    obtain ⟨n, en⟩ : ∃ n : Nat, 1 + v1 % 5 = (n : Int) := ⟨(1 + v1 % 5).toNat, by omega⟩
    refine ⟨_, rfl, _, rfl, d, n, 10, (by show [V.ref d, V.int (1 + v1 % 5), V.int 10] = _; rw [en]; rfl), D5, by omega, by omega, by decide, by decide, fun l as rs H6 hO hl1 hl2 nl nas nld nda D6 k6 => ?_⟩
    have kk6 : KeepD d H4 H6 := k5.trans k6
    -- the three ways
    refine ⟨line_small (by show 3 ≤ 16777216; decide), fun tw ntw => ?_⟩
    have st := same_new (o := .tup [.str "swap", .str "spot", .str "shift"]) ntw
    have htw : (upd H6 tw (.tup [.str "swap", .str "spot", .str "shift"])) tw = _ := upd_same
    have D7 := D6.same st
    have hO7 := hO.same st
    have kk7 := kk6.trans (KeepD.of_same st)
    have ntwd := D6.ne ntw
    generalize upd H6 tw (.tup [.str "swap", .str "spot", .str "shift"]) = H7 at htw D7 hO7 kk7 ⊢
    refine ⟨tw, rfl, ⟨_, SqT.of htw⟩, fun D nD => ?_⟩
    have nDd := D7.ne nD
    refine lc_tup (K := K) (a := tw) (xs := [.str "swap", .str "spot", .str "shift"]) (fun j G => G D = some (.lst (([] : List Int).map V.int)) ∧ DqAt G d ∧ KeepD d H7 G) ⟨upd_same, D7.new nD, KeepD.new nD⟩ (fun j G _ hP => SqT.of (hP.2.2 _ _ htw ntwd)) (fun j x G hx hP => ?_) (fun G hP => ?_)
    · obtain ⟨hD, DG, kG⟩ := hP
      obtain ⟨wy, rfl, hwy⟩ := way3 hx
      refine ⟨rfl, _, rfl, _, rfl, _, rfl, d, wy, l, as, rs, n, rfl, DG, hwy, hO7.keepD kG nld nda, hl1, by omega, .inl (by omega), nld, nda, fun G2 D2 k2 => ?_⟩
      exact ⟨true, rfl, iteF ⟨k2 _ _ hD nDd, D2, kG.trans k2⟩⟩
    obtain ⟨hD, DG, kG⟩ := hP
    refine ⟨line_small (by show 0 ≤ 16777216; decide), fun e0 ne0 => ?_⟩
    have t6 := same_new (o := .lst []) ne0
    refine ⟨_, _, dp_list (t6 _ _ hD), dp_list (ns := []) upd_same, shaped_list _, shaped_list _, _, rfl, ?_⟩
    rw [eqv_list]
    refine iteF ?_
    have D8 := DG.same t6
    have kk8 := (kk7.trans kG).trans (KeepD.of_same t6)
    clear hO7 hO D5 D6 D7 DG kG kk6 kk7 k5 k6 hD t6 htw st nas
    generalize upd G e0 (.lst []) = H8 at D8 kk8 ⊢
    -- the second poll
    refine ⟨_, rfl, d, rfl, D8, fun v2 H9 _ _ D9 k9 => ⟨v2, 7, rfl, rfl, (show (0 : Int) < 7 by decide), 3, _, rfl, rfl, ?_⟩⟩
    have b2 := mod_b v2 (m := 7) (by decide)
    obtain ⟨n2, en2⟩ : ∃ n : Nat, 3 + v2 % 7 = (n : Int) := ⟨(3 + v2 % 7).toNat, by omega⟩
    refine ⟨_, rfl, _, rfl, d, n2, 10, (by show [V.ref d, V.int (3 + v2 % 7), V.int 10] = _; rw [en2]; rfl), D9, by omega, by omega, by decide, by decide, fun l2 as2 rs2 HA hO2 hm1 hm2 nl2 nas2 nld2 nda2 DA kA => ?_⟩
    have kkA := (kk8.trans k9).trans kA
    have fin : ∀ {G : Hp}, KeepD d H4 G → Same H G := fun {G} kk b o e => kk b o (s04 b o e) (ne_of_none e nHd)
    refine ⟨fun τ G => ∃ (l : Addr) (as : List Addr) (rs : List (List Int)), τ = [some (.ref a), some (.int (0 + (i : Int))), some (.ref d), some (.int (3 + v2 % 7)), some (.ref l), y5] ∧ OL G l as rs n2 ∧ 1 ≤ rs.length ∧ rs.length ≤ 20 ∧ l ≠ d ∧ d ∉ as ∧ DqAt G d ∧ KeepD d H4 G, ?_, fun τ G hM => ?_⟩
    · refine ⟨_, rfl, d, rfl, DA, fun v5 G1 _ _ D10 k10 => ⟨v5, 2, rfl, rfl, (show (0 : Int) < 2 by decide), rfl, _, rfl, ?_⟩⟩
      refine ite2 (fun _ => ?_) (fun _ => ⟨l2, as2, rs2, rfl, hO2.keepD k10 nld2 nda2, hm1, by omega, nld2, nda2, D10, kkA.trans k10⟩)
      refine ⟨_, rfl, _, rfl, d, n2, (by show [V.ref d, V.int (3 + v2 % 7)] = _; rw [en2]), D10, by omega, by omega, fun l' as' rs' G2 hO' h1 h2 nl' nld' nda' D11 k11 => ?_⟩
      exact ⟨l', as', rs', rfl, hO', h1, h2, nld', nda', D11, (kkA.trans k10).trans k11⟩
    obtain ⟨l, as, rs, rfl, hO, h1, h2, nld, nda, DG, kG⟩ := hM
    refine ⟨_, rfl, _, rfl, d, "swap", l, as, rs, n2, rfl, DG, .inl rfl, hO, h1, h2, .inr ⟨rfl, by omega⟩, nld, nda, fun G2 D2 k2 => ?_⟩
    refine ⟨true, rfl, iteF ?_⟩
    refine ⟨_, rfl, l, as, rs, n2, rfl, hO.keepD k2 nld nda, h1, h2, by omega, fun G3 s3' => ?_⟩
    exact ⟨true, rfl, iteF ⟨_, _, _, _, _, rfl, fin ((kG.trans k2).trans (KeepD.of_same s3'))⟩⟩
end
end Fo
--LAWCALL ok_law F_law T__law_deck T__law_cell_at T__law_next T__law_poll T__law_ring_poll T__law_sums_right T__law_rings_right (ok_deckN (k := 9) T__law_deck T__law_stir B) (ok_cell (k := 10) T__law_cell_at B) (ok_next (k := 9) T__law_next T__law_stir B) (ok_poll (k := 10) T__law_poll T__law_next (ok_next (k := 8) T__law_next T__law_stir B) T__law_order (ok_orderN (k := 9) T__law_order T__law_next (ok_next (k := 7) T__law_next T__law_stir B) B) T__law_near (ok_nearN (k := 9) T__law_near T__law_next (ok_next (k := 7) T__law_next T__law_stir B) B) B) (ok_rpoll (k := 10) T__law_ring_poll T__law_order T__law_next T__law_by_arcs (ok_orderN (k := 9) T__law_order T__law_next (ok_next (k := 7) T__law_next T__law_stir B) B) (ok_next (k := 8) T__law_next T__law_stir B) (ok_byarcs (k := 9) T__law_by_arcs T__law_order (ok_orderN (k := 8) T__law_order T__law_next (ok_next (k := 6) T__law_next T__law_stir B) B) B) B) (ok_sumsR (k := 10) T__law_sums_right T_middle_of T_poll_sum T__law_near T__law_order (ok_mid (k := 9) T_middle_of T_check_poll T_check_way T_check_few T_middle_by_pairs T_counts_ahead T_middle_by_all (ok_cpoll (k := 8) T_check_poll T_is_order_list (ok_olst (k := 7) T_is_order_list T_is_order (ok_is_order (k := 5) T_is_order T_is_whole B m_MOST_THINGS) B) B m_MOST_POLLED) (ok_way (k := 8) T_check_way m_WAYS B) (ok_few (k := 8) T_check_few) (ok_mpairs (k := 8) T_middle_by_pairs T_least_sums T_best_first (ok_lsums (k := 7) T_least_sums T_things_in T_sum_with_first (ok_tin (k := 6) T_things_in B) (ok_swf (k := 6) T_sum_with_first T_things_in (ok_tin (k := 5) T_things_in B) B) B) (ok_bfirst (k := 7) T_best_first T_things_in T_sum_with_first (ok_tin (k := 6) T_things_in B) (ok_swf (k := 6) T_sum_with_first T_things_in (ok_tin (k := 5) T_things_in B) B) B) B) (ok_ahead (k := 8) T_counts_ahead T_places_in (ok_places (k := 7) T_places_in B) B) (ok_mall (k := 8) T_middle_by_all T_all_orders T_known_sum (ok_all_orders (k := 6) T_all_orders T_orders_with B) (ok_ksum (k := 7) T_known_sum T_known_far (ok_known (k := 6) T_known_far T_far_by_swap T_far_by_spot T_far_by_shift (ok_swap (k := 5) T_far_by_swap T_seats_in (ok_seats (k := 3) T_seats_in T_places_in B) B) (ok_spot (k := 5) T_far_by_spot B) (ok_shift (k := 5) T_far_by_shift T_seats_in (ok_seats (k := 3) T_seats_in T_places_in B) B)) B)) B m_MOST_BY_PAIRS m_MOST_LISTED) (ok_polS (k := 9) T_poll_sum T_check_poll T_check_order T_check_way T_check_fit T_known_sum (ok_cpoll (k := 8) T_check_poll T_is_order_list (ok_olst (k := 7) T_is_order_list T_is_order (ok_is_order (k := 5) T_is_order T_is_whole B m_MOST_THINGS) B) B m_MOST_POLLED) (ok_check (k := 6) T_check_order T_is_order T_is_whole B m_MOST_THINGS) (ok_way (k := 8) T_check_way m_WAYS B) (ok_fit (k := 8) T_check_fit B) (ok_ksum (k := 8) T_known_sum T_known_far (ok_known (k := 7) T_known_far T_far_by_swap T_far_by_spot T_far_by_shift (ok_swap (k := 6) T_far_by_swap T_seats_in (ok_seats (k := 4) T_seats_in T_places_in B) B) (ok_spot (k := 6) T_far_by_spot B) (ok_shift (k := 6) T_far_by_shift T_seats_in (ok_seats (k := 4) T_seats_in T_places_in B) B)) B)) (ok_nearN (k := 9) T__law_near T__law_next (ok_next (k := 7) T__law_next T__law_stir B) B) (ok_orderN (k := 9) T__law_order T__law_next (ok_next (k := 7) T__law_next T__law_stir B) B) B) (ok_ringsR (k := 10) T__law_rings_right T_ring_of T_pair_sum T_middle_of T_pairs_ahead (ok_ring (k := 9) T_ring_of T_check_poll T_check_few T_mostly_behind T_ring_from (ok_cpoll (k := 8) T_check_poll T_is_order_list (ok_olst (k := 7) T_is_order_list T_is_order (ok_is_order (k := 5) T_is_order T_is_whole B m_MOST_THINGS) B) B m_MOST_POLLED) (ok_few (k := 8) T_check_few) (ok_mbeh (k := 8) T_mostly_behind T_counts_ahead (ok_ahead (k := 7) T_counts_ahead T_places_in (ok_places (k := 6) T_places_in B) B) B) (ok_rfrom (k := 8) T_ring_from T_longer_paths (ok_longer (k := 7) T_longer_paths B) B) B m_MOST_BY_PAIRS) (ok_psum (k := 9) T_pair_sum T_check_poll T_counts_ahead (ok_cpoll (k := 8) T_check_poll T_is_order_list (ok_olst (k := 7) T_is_order_list T_is_order (ok_is_order (k := 5) T_is_order T_is_whole B m_MOST_THINGS) B) B m_MOST_POLLED) (ok_ahead (k := 8) T_counts_ahead T_places_in (ok_places (k := 7) T_places_in B) B) B) (ok_mid (k := 9) T_middle_of T_check_poll T_check_way T_check_few T_middle_by_pairs T_counts_ahead T_middle_by_all (ok_cpoll (k := 8) T_check_poll T_is_order_list (ok_olst (k := 7) T_is_order_list T_is_order (ok_is_order (k := 5) T_is_order T_is_whole B m_MOST_THINGS) B) B m_MOST_POLLED) (ok_way (k := 8) T_check_way m_WAYS B) (ok_few (k := 8) T_check_few) (ok_mpairs (k := 8) T_middle_by_pairs T_least_sums T_best_first (ok_lsums (k := 7) T_least_sums T_things_in T_sum_with_first (ok_tin (k := 6) T_things_in B) (ok_swf (k := 6) T_sum_with_first T_things_in (ok_tin (k := 5) T_things_in B) B) B) (ok_bfirst (k := 7) T_best_first T_things_in T_sum_with_first (ok_tin (k := 6) T_things_in B) (ok_swf (k := 6) T_sum_with_first T_things_in (ok_tin (k := 5) T_things_in B) B) B) B) (ok_ahead (k := 8) T_counts_ahead T_places_in (ok_places (k := 7) T_places_in B) B) (ok_mall (k := 8) T_middle_by_all T_all_orders T_known_sum (ok_all_orders (k := 6) T_all_orders T_orders_with B) (ok_ksum (k := 7) T_known_sum T_known_far (ok_known (k := 6) T_known_far T_far_by_swap T_far_by_spot T_far_by_shift (ok_swap (k := 5) T_far_by_swap T_seats_in (ok_seats (k := 3) T_seats_in T_places_in B) B) (ok_spot (k := 5) T_far_by_spot B) (ok_shift (k := 5) T_far_by_shift T_seats_in (ok_seats (k := 3) T_seats_in T_places_in B) B)) B)) B m_MOST_BY_PAIRS m_MOST_LISTED) (ok_pairs (k := 9) T_pairs_ahead T_check_poll T_counts_ahead (ok_cpoll (k := 8) T_check_poll T_is_order_list (ok_olst (k := 7) T_is_order_list T_is_order (ok_is_order (k := 5) T_is_order T_is_whole B m_MOST_THINGS) B) B m_MOST_POLLED) (ok_ahead (k := 8) T_counts_ahead T_places_in (ok_places (k := 7) T_places_in B) B) B) B) B
namespace Fo
open PySem PySem.Spec PyProof.Rows L2
set_option maxHeartbeats 8000000 in
theorem all_mk {l : PySem.W.OpenLaw} {w : World} {K : PySem.W.Frag} {h : Heap} {mg : Str → Option Value} {fa : Addr} (X : K.In h) (G : h.Ns mainGlobals mg) (hfa : mg "law" = some (.ref fa))
    {f0 f1 f2 f3 f4 f5 f6 f7 f8 f9 f10 f11 f12 f13 f14 f15 f16 f17 f18 f19 f20 f21 f22 f23 f24 f25 f26 f27 f28 f29 f30 f31 f32 f33 f34 f35 f36 f37 f38 f39 f40 f41 f42 f43 : Addr} {od0 an0 od1 an1 od2 an2 od3 an3 od4 an4 od5 an5 od6 an6 od7 an7 od8 an8 od9 an9 od10 an10 od11 an11 od12 an12 od13 an13 od14 an14 od15 an15 od16 an16 od17 an17 od18 an18 od19 an19 od20 an20 od21 an21 od22 an22 od23 an23 od24 an24 od25 an25 od26 an26 od27 an27 od28 an28 od29 an29 od30 an30 od31 an31 od32 an32 od33 an33 od34 an34 od35 an35 od36 an36 od37 an37 od38 an38 od39 an39 od40 an40 od41 an41 od42 an42 od43 an43 : Option Addr} {sl0 sl1 sl2 sl3 sl4 sl5 sl6 sl7 sl8 sl9 sl10 sl11 sl12 sl13 sl14 sl15 sl16 sl17 sl18 sl19 sl20 sl21 sl22 sl23 sl24 sl25 sl26 sl27 sl28 sl29 sl30 sl31 sl32 sl33 sl34 sl35 sl36 sl37 sl38 sl39 sl40 sl41 sl42 sl43 : Array (Option Value)} {oc0 kV0 dc0 pm0 cd0 ct0 oc1 kV1 dc1 pm1 cd1 ct1 oc2 kV2 dc2 pm2 cd2 ct2 oc3 kV3 dc3 pm3 cd3 ct3 oc4 kV4 dc4 pm4 cd4 ct4 oc5 kV5 dc5 pm5 cd5 ct5 oc6 kV6 dc6 pm6 cd6 ct6 oc7 kV7 dc7 pm7 cd7 ct7 oc8 kV8 dc8 pm8 cd8 ct8 oc9 kV9 dc9 pm9 cd9 ct9 oc10 kV10 dc10 pm10 cd10 ct10 oc11 kV11 dc11 pm11 cd11 ct11 oc12 kV12 dc12 pm12 cd12 ct12 oc13 kV13 dc13 pm13 cd13 ct13 oc14 kV14 dc14 pm14 cd14 ct14 oc15 kV15 dc15 pm15 cd15 ct15 oc16 kV16 dc16 pm16 cd16 ct16 oc17 kV17 dc17 pm17 cd17 ct17 oc18 kV18 dc18 pm18 cd18 ct18 oc19 kV19 dc19 pm19 cd19 ct19 oc20 kV20 dc20 pm20 cd20 ct20 oc21 kV21 dc21 pm21 cd21 ct21 oc22 kV22 dc22 pm22 cd22 ct22 oc23 kV23 dc23 pm23 cd23 ct23 oc24 kV24 dc24 pm24 cd24 ct24 oc25 kV25 dc25 pm25 cd25 ct25 oc26 kV26 dc26 pm26 cd26 ct26 oc27 kV27 dc27 pm27 cd27 ct27 oc28 kV28 dc28 pm28 cd28 ct28 oc29 kV29 dc29 pm29 cd29 ct29 oc30 kV30 dc30 pm30 cd30 ct30 oc31 kV31 dc31 pm31 cd31 ct31 oc32 kV32 dc32 pm32 cd32 ct32 oc33 kV33 dc33 pm33 cd33 ct33 oc34 kV34 dc34 pm34 cd34 ct34 oc35 kV35 dc35 pm35 cd35 ct35 oc36 kV36 dc36 pm36 cd36 ct36 oc37 kV37 dc37 pm37 cd37 ct37 oc38 kV38 dc38 pm38 cd38 ct38 oc39 kV39 dc39 pm39 cd39 ct39 oc40 kV40 dc40 pm40 cd40 ct40 oc41 kV41 dc41 pm41 cd41 ct41 oc42 kV42 dc42 pm42 cd42 ct42 oc43 kV43 dc43 pm43 cd43 ct43 : Value} {tk_MOST_THINGS tk_MOST_LISTED tk_MOST_POLLED tk_MOST_BY_PAIRS : Tok} {aW : Addr} {ddW : Option Addr} {nW : Nat} {tW1 tW2 tW3 : Tok} {slW : Array (Option Value)}
    (a0 : PySem.W.nsIn K mainGlobals "is_whole" = some (some (.ref f0))) (l0 : K.lookup f0 = some ⟨oc0, od0, .func (PySem.W.fnOf "is_whole" "is_whole" (defArgs s_is_whole) (defBody s_is_whole) (defScope s_is_whole) .none kV0 dc0 pm0 an0 cd0 ct0), sl0⟩) (c0 : PySem.W.codeIn K cd0 "is_whole" = true) (k0 : PySem.W.keepIn K (.ref f0) = true)
    (a1 : PySem.W.nsIn K mainGlobals "check_way" = some (some (.ref f1))) (l1 : K.lookup f1 = some ⟨oc1, od1, .func (PySem.W.fnOf "check_way" "check_way" (defArgs s_check_way) (defBody s_check_way) (defScope s_check_way) .none kV1 dc1 pm1 an1 cd1 ct1), sl1⟩) (c1 : PySem.W.codeIn K cd1 "check_way" = true) (k1 : PySem.W.keepIn K (.ref f1) = true)
    (a2 : PySem.W.nsIn K mainGlobals "check_few" = some (some (.ref f2))) (l2 : K.lookup f2 = some ⟨oc2, od2, .func (PySem.W.fnOf "check_few" "check_few" (defArgs s_check_few) (defBody s_check_few) (defScope s_check_few) .none kV2 dc2 pm2 an2 cd2 ct2), sl2⟩) (c2 : PySem.W.codeIn K cd2 "check_few" = true) (k2 : PySem.W.keepIn K (.ref f2) = true)
    (a3 : PySem.W.nsIn K mainGlobals "is_order" = some (some (.ref f3))) (l3 : K.lookup f3 = some ⟨oc3, od3, .func (PySem.W.fnOf "is_order" "is_order" (defArgs s_is_order) (defBody s_is_order) (defScope s_is_order) .none kV3 dc3 pm3 an3 cd3 ct3), sl3⟩) (c3 : PySem.W.codeIn K cd3 "is_order" = true) (k3 : PySem.W.keepIn K (.ref f3) = true)
    (a4 : PySem.W.nsIn K mainGlobals "check_order" = some (some (.ref f4))) (l4 : K.lookup f4 = some ⟨oc4, od4, .func (PySem.W.fnOf "check_order" "check_order" (defArgs s_check_order) (defBody s_check_order) (defScope s_check_order) .none kV4 dc4 pm4 an4 cd4 ct4), sl4⟩) (c4 : PySem.W.codeIn K cd4 "check_order" = true) (k4 : PySem.W.keepIn K (.ref f4) = true)
    (a5 : PySem.W.nsIn K mainGlobals "check_fit" = some (some (.ref f5))) (l5 : K.lookup f5 = some ⟨oc5, od5, .func (PySem.W.fnOf "check_fit" "check_fit" (defArgs s_check_fit) (defBody s_check_fit) (defScope s_check_fit) .none kV5 dc5 pm5 an5 cd5 ct5), sl5⟩) (c5 : PySem.W.codeIn K cd5 "check_fit" = true) (k5 : PySem.W.keepIn K (.ref f5) = true)
    (a6 : PySem.W.nsIn K mainGlobals "is_order_list" = some (some (.ref f6))) (l6 : K.lookup f6 = some ⟨oc6, od6, .func (PySem.W.fnOf "is_order_list" "is_order_list" (defArgs s_is_order_list) (defBody s_is_order_list) (defScope s_is_order_list) .none kV6 dc6 pm6 an6 cd6 ct6), sl6⟩) (c6 : PySem.W.codeIn K cd6 "is_order_list" = true) (k6 : PySem.W.keepIn K (.ref f6) = true)
    (a7 : PySem.W.nsIn K mainGlobals "places_in" = some (some (.ref f7))) (l7 : K.lookup f7 = some ⟨oc7, od7, .func (PySem.W.fnOf "places_in" "places_in" (defArgs s_places_in) (defBody s_places_in) (defScope s_places_in) .none kV7 dc7 pm7 an7 cd7 ct7), sl7⟩) (c7 : PySem.W.codeIn K cd7 "places_in" = true) (k7 : PySem.W.keepIn K (.ref f7) = true)
    (a8 : PySem.W.nsIn K mainGlobals "seats_in" = some (some (.ref f8))) (l8 : K.lookup f8 = some ⟨oc8, od8, .func (PySem.W.fnOf "seats_in" "seats_in" (defArgs s_seats_in) (defBody s_seats_in) (defScope s_seats_in) .none kV8 dc8 pm8 an8 cd8 ct8), sl8⟩) (c8 : PySem.W.codeIn K cd8 "seats_in" = true) (k8 : PySem.W.keepIn K (.ref f8) = true)
    (a9 : PySem.W.nsIn K mainGlobals "known_far" = some (some (.ref f9))) (l9 : K.lookup f9 = some ⟨oc9, od9, .func (PySem.W.fnOf "known_far" "known_far" (defArgs s_known_far) (defBody s_known_far) (defScope s_known_far) .none kV9 dc9 pm9 an9 cd9 ct9), sl9⟩) (c9 : PySem.W.codeIn K cd9 "known_far" = true) (k9 : PySem.W.keepIn K (.ref f9) = true)
    (a10 : PySem.W.nsIn K mainGlobals "far_by_swap" = some (some (.ref f10))) (l10 : K.lookup f10 = some ⟨oc10, od10, .func (PySem.W.fnOf "far_by_swap" "far_by_swap" (defArgs s_far_by_swap) (defBody s_far_by_swap) (defScope s_far_by_swap) .none kV10 dc10 pm10 an10 cd10 ct10), sl10⟩) (c10 : PySem.W.codeIn K cd10 "far_by_swap" = true) (k10 : PySem.W.keepIn K (.ref f10) = true)
    (a11 : PySem.W.nsIn K mainGlobals "far_by_spot" = some (some (.ref f11))) (l11 : K.lookup f11 = some ⟨oc11, od11, .func (PySem.W.fnOf "far_by_spot" "far_by_spot" (defArgs s_far_by_spot) (defBody s_far_by_spot) (defScope s_far_by_spot) .none kV11 dc11 pm11 an11 cd11 ct11), sl11⟩) (c11 : PySem.W.codeIn K cd11 "far_by_spot" = true) (k11 : PySem.W.keepIn K (.ref f11) = true)
    (a12 : PySem.W.nsIn K mainGlobals "far_by_shift" = some (some (.ref f12))) (l12 : K.lookup f12 = some ⟨oc12, od12, .func (PySem.W.fnOf "far_by_shift" "far_by_shift" (defArgs s_far_by_shift) (defBody s_far_by_shift) (defScope s_far_by_shift) .none kV12 dc12 pm12 an12 cd12 ct12), sl12⟩) (c12 : PySem.W.codeIn K cd12 "far_by_shift" = true) (k12 : PySem.W.keepIn K (.ref f12) = true)
    (a13 : PySem.W.nsIn K mainGlobals "all_orders" = some (some (.ref f13))) (l13 : K.lookup f13 = some ⟨oc13, od13, .func (PySem.W.fnOf "all_orders" "all_orders" (defArgs s_all_orders) (defBody s_all_orders) (defScope s_all_orders) .none kV13 dc13 pm13 an13 cd13 ct13), sl13⟩) (c13 : PySem.W.codeIn K cd13 "all_orders" = true) (k13 : PySem.W.keepIn K (.ref f13) = true)
    (a14 : PySem.W.nsIn K mainGlobals "orders_with" = some (some (.ref f14))) (l14 : K.lookup f14 = some ⟨oc14, od14, .func (PySem.W.fnOf "orders_with" "orders_with" (defArgs s_orders_with) (defBody s_orders_with) (defScope s_orders_with) .none kV14 dc14 pm14 an14 cd14 ct14), sl14⟩) (c14 : PySem.W.codeIn K cd14 "orders_with" = true) (k14 : PySem.W.keepIn K (.ref f14) = true)
    (a15 : PySem.W.nsIn K mainGlobals "check_poll" = some (some (.ref f15))) (l15 : K.lookup f15 = some ⟨oc15, od15, .func (PySem.W.fnOf "check_poll" "check_poll" (defArgs s_check_poll) (defBody s_check_poll) (defScope s_check_poll) .none kV15 dc15 pm15 an15 cd15 ct15), sl15⟩) (c15 : PySem.W.codeIn K cd15 "check_poll" = true) (k15 : PySem.W.keepIn K (.ref f15) = true)
    (a16 : PySem.W.nsIn K mainGlobals "poll_sum" = some (some (.ref f16))) (l16 : K.lookup f16 = some ⟨oc16, od16, .func (PySem.W.fnOf "poll_sum" "poll_sum" (defArgs s_poll_sum) (defBody s_poll_sum) (defScope s_poll_sum) .none kV16 dc16 pm16 an16 cd16 ct16), sl16⟩) (c16 : PySem.W.codeIn K cd16 "poll_sum" = true) (k16 : PySem.W.keepIn K (.ref f16) = true)
    (a17 : PySem.W.nsIn K mainGlobals "known_sum" = some (some (.ref f17))) (l17 : K.lookup f17 = some ⟨oc17, od17, .func (PySem.W.fnOf "known_sum" "known_sum" (defArgs s_known_sum) (defBody s_known_sum) (defScope s_known_sum) .none kV17 dc17 pm17 an17 cd17 ct17), sl17⟩) (c17 : PySem.W.codeIn K cd17 "known_sum" = true) (k17 : PySem.W.keepIn K (.ref f17) = true)
    (a18 : PySem.W.nsIn K mainGlobals "middle_of" = some (some (.ref f18))) (l18 : K.lookup f18 = some ⟨oc18, od18, .func (PySem.W.fnOf "middle_of" "middle_of" (defArgs s_middle_of) (defBody s_middle_of) (defScope s_middle_of) .none kV18 dc18 pm18 an18 cd18 ct18), sl18⟩) (c18 : PySem.W.codeIn K cd18 "middle_of" = true) (k18 : PySem.W.keepIn K (.ref f18) = true)
    (a19 : PySem.W.nsIn K mainGlobals "middle_by_all" = some (some (.ref f19))) (l19 : K.lookup f19 = some ⟨oc19, od19, .func (PySem.W.fnOf "middle_by_all" "middle_by_all" (defArgs s_middle_by_all) (defBody s_middle_by_all) (defScope s_middle_by_all) .none kV19 dc19 pm19 an19 cd19 ct19), sl19⟩) (c19 : PySem.W.codeIn K cd19 "middle_by_all" = true) (k19 : PySem.W.keepIn K (.ref f19) = true)
    (a20 : PySem.W.nsIn K mainGlobals "middle_by_pairs" = some (some (.ref f20))) (l20 : K.lookup f20 = some ⟨oc20, od20, .func (PySem.W.fnOf "middle_by_pairs" "middle_by_pairs" (defArgs s_middle_by_pairs) (defBody s_middle_by_pairs) (defScope s_middle_by_pairs) .none kV20 dc20 pm20 an20 cd20 ct20), sl20⟩) (c20 : PySem.W.codeIn K cd20 "middle_by_pairs" = true) (k20 : PySem.W.keepIn K (.ref f20) = true)
    (a21 : PySem.W.nsIn K mainGlobals "best_first" = some (some (.ref f21))) (l21 : K.lookup f21 = some ⟨oc21, od21, .func (PySem.W.fnOf "best_first" "best_first" (defArgs s_best_first) (defBody s_best_first) (defScope s_best_first) .none kV21 dc21 pm21 an21 cd21 ct21), sl21⟩) (c21 : PySem.W.codeIn K cd21 "best_first" = true) (k21 : PySem.W.keepIn K (.ref f21) = true)
    (a22 : PySem.W.nsIn K mainGlobals "least_sums" = some (some (.ref f22))) (l22 : K.lookup f22 = some ⟨oc22, od22, .func (PySem.W.fnOf "least_sums" "least_sums" (defArgs s_least_sums) (defBody s_least_sums) (defScope s_least_sums) .none kV22 dc22 pm22 an22 cd22 ct22), sl22⟩) (c22 : PySem.W.codeIn K cd22 "least_sums" = true) (k22 : PySem.W.keepIn K (.ref f22) = true)
    (a23 : PySem.W.nsIn K mainGlobals "sum_with_first" = some (some (.ref f23))) (l23 : K.lookup f23 = some ⟨oc23, od23, .func (PySem.W.fnOf "sum_with_first" "sum_with_first" (defArgs s_sum_with_first) (defBody s_sum_with_first) (defScope s_sum_with_first) .none kV23 dc23 pm23 an23 cd23 ct23), sl23⟩) (c23 : PySem.W.codeIn K cd23 "sum_with_first" = true) (k23 : PySem.W.keepIn K (.ref f23) = true)
    (a24 : PySem.W.nsIn K mainGlobals "things_in" = some (some (.ref f24))) (l24 : K.lookup f24 = some ⟨oc24, od24, .func (PySem.W.fnOf "things_in" "things_in" (defArgs s_things_in) (defBody s_things_in) (defScope s_things_in) .none kV24 dc24 pm24 an24 cd24 ct24), sl24⟩) (c24 : PySem.W.codeIn K cd24 "things_in" = true) (k24 : PySem.W.keepIn K (.ref f24) = true)
    (a25 : PySem.W.nsIn K mainGlobals "counts_ahead" = some (some (.ref f25))) (l25 : K.lookup f25 = some ⟨oc25, od25, .func (PySem.W.fnOf "counts_ahead" "counts_ahead" (defArgs s_counts_ahead) (defBody s_counts_ahead) (defScope s_counts_ahead) .none kV25 dc25 pm25 an25 cd25 ct25), sl25⟩) (c25 : PySem.W.codeIn K cd25 "counts_ahead" = true) (k25 : PySem.W.keepIn K (.ref f25) = true)
    (a26 : PySem.W.nsIn K mainGlobals "pairs_ahead" = some (some (.ref f26))) (l26 : K.lookup f26 = some ⟨oc26, od26, .func (PySem.W.fnOf "pairs_ahead" "pairs_ahead" (defArgs s_pairs_ahead) (defBody s_pairs_ahead) (defScope s_pairs_ahead) .none kV26 dc26 pm26 an26 cd26 ct26), sl26⟩) (c26 : PySem.W.codeIn K cd26 "pairs_ahead" = true) (k26 : PySem.W.keepIn K (.ref f26) = true)
    (a27 : PySem.W.nsIn K mainGlobals "pair_sum" = some (some (.ref f27))) (l27 : K.lookup f27 = some ⟨oc27, od27, .func (PySem.W.fnOf "pair_sum" "pair_sum" (defArgs s_pair_sum) (defBody s_pair_sum) (defScope s_pair_sum) .none kV27 dc27 pm27 an27 cd27 ct27), sl27⟩) (c27 : PySem.W.codeIn K cd27 "pair_sum" = true) (k27 : PySem.W.keepIn K (.ref f27) = true)
    (a28 : PySem.W.nsIn K mainGlobals "ring_of" = some (some (.ref f28))) (l28 : K.lookup f28 = some ⟨oc28, od28, .func (PySem.W.fnOf "ring_of" "ring_of" (defArgs s_ring_of) (defBody s_ring_of) (defScope s_ring_of) .none kV28 dc28 pm28 an28 cd28 ct28), sl28⟩) (c28 : PySem.W.codeIn K cd28 "ring_of" = true) (k28 : PySem.W.keepIn K (.ref f28) = true)
    (a29 : PySem.W.nsIn K mainGlobals "mostly_behind" = some (some (.ref f29))) (l29 : K.lookup f29 = some ⟨oc29, od29, .func (PySem.W.fnOf "mostly_behind" "mostly_behind" (defArgs s_mostly_behind) (defBody s_mostly_behind) (defScope s_mostly_behind) .none kV29 dc29 pm29 an29 cd29 ct29), sl29⟩) (c29 : PySem.W.codeIn K cd29 "mostly_behind" = true) (k29 : PySem.W.keepIn K (.ref f29) = true)
    (a30 : PySem.W.nsIn K mainGlobals "ring_from" = some (some (.ref f30))) (l30 : K.lookup f30 = some ⟨oc30, od30, .func (PySem.W.fnOf "ring_from" "ring_from" (defArgs s_ring_from) (defBody s_ring_from) (defScope s_ring_from) .none kV30 dc30 pm30 an30 cd30 ct30), sl30⟩) (c30 : PySem.W.codeIn K cd30 "ring_from" = true) (k30 : PySem.W.keepIn K (.ref f30) = true)
    (a31 : PySem.W.nsIn K mainGlobals "longer_paths" = some (some (.ref f31))) (l31 : K.lookup f31 = some ⟨oc31, od31, .func (PySem.W.fnOf "longer_paths" "longer_paths" (defArgs s_longer_paths) (defBody s_longer_paths) (defScope s_longer_paths) .none kV31 dc31 pm31 an31 cd31 ct31), sl31⟩) (c31 : PySem.W.codeIn K cd31 "longer_paths" = true) (k31 : PySem.W.keepIn K (.ref f31) = true)
    (a32 : PySem.W.nsIn K mainGlobals "_law_cell_at" = some (some (.ref f32))) (l32 : K.lookup f32 = some ⟨oc32, od32, .func (PySem.W.fnOf "_law_cell_at" "_law_cell_at" (defArgs s_law_cell_at) (defBody s_law_cell_at) (defScope s_law_cell_at) .none kV32 dc32 pm32 an32 cd32 ct32), sl32⟩) (c32 : PySem.W.codeIn K cd32 "_law_cell_at" = true) (k32 : PySem.W.keepIn K (.ref f32) = true)
    (a33 : PySem.W.nsIn K mainGlobals "_law_stir" = some (some (.ref f33))) (l33 : K.lookup f33 = some ⟨oc33, od33, .func (PySem.W.fnOf "_law_stir" "_law_stir" (defArgs s_law_stir) (defBody s_law_stir) (defScope s_law_stir) .none kV33 dc33 pm33 an33 cd33 ct33), sl33⟩) (c33 : PySem.W.codeIn K cd33 "_law_stir" = true) (k33 : PySem.W.keepIn K (.ref f33) = true)
    (a34 : PySem.W.nsIn K mainGlobals "_law_deck" = some (some (.ref f34))) (l34 : K.lookup f34 = some ⟨oc34, od34, .func (PySem.W.fnOf "_law_deck" "_law_deck" (defArgs s_law_deck) (defBody s_law_deck) (defScope s_law_deck) .none kV34 dc34 pm34 an34 cd34 ct34), sl34⟩) (c34 : PySem.W.codeIn K cd34 "_law_deck" = true) (k34 : PySem.W.keepIn K (.ref f34) = true)
    (a35 : PySem.W.nsIn K mainGlobals "_law_next" = some (some (.ref f35))) (l35 : K.lookup f35 = some ⟨oc35, od35, .func (PySem.W.fnOf "_law_next" "_law_next" (defArgs s_law_next) (defBody s_law_next) (defScope s_law_next) .none kV35 dc35 pm35 an35 cd35 ct35), sl35⟩) (c35 : PySem.W.codeIn K cd35 "_law_next" = true) (k35 : PySem.W.keepIn K (.ref f35) = true)
    (a36 : PySem.W.nsIn K mainGlobals "_law_order" = some (some (.ref f36))) (l36 : K.lookup f36 = some ⟨oc36, od36, .func (PySem.W.fnOf "_law_order" "_law_order" (defArgs s_law_order) (defBody s_law_order) (defScope s_law_order) .none kV36 dc36 pm36 an36 cd36 ct36), sl36⟩) (c36 : PySem.W.codeIn K cd36 "_law_order" = true) (k36 : PySem.W.keepIn K (.ref f36) = true)
    (a37 : PySem.W.nsIn K mainGlobals "_law_near" = some (some (.ref f37))) (l37 : K.lookup f37 = some ⟨oc37, od37, .func (PySem.W.fnOf "_law_near" "_law_near" (defArgs s_law_near) (defBody s_law_near) (defScope s_law_near) .none kV37 dc37 pm37 an37 cd37 ct37), sl37⟩) (c37 : PySem.W.codeIn K cd37 "_law_near" = true) (k37 : PySem.W.keepIn K (.ref f37) = true)
    (a38 : PySem.W.nsIn K mainGlobals "_law_poll" = some (some (.ref f38))) (l38 : K.lookup f38 = some ⟨oc38, od38, .func (PySem.W.fnOf "_law_poll" "_law_poll" (defArgs s_law_poll) (defBody s_law_poll) (defScope s_law_poll) .none kV38 dc38 pm38 an38 cd38 ct38), sl38⟩) (c38 : PySem.W.codeIn K cd38 "_law_poll" = true) (k38 : PySem.W.keepIn K (.ref f38) = true)
    (a39 : PySem.W.nsIn K mainGlobals "_law_by_arcs" = some (some (.ref f39))) (l39 : K.lookup f39 = some ⟨oc39, od39, .func (PySem.W.fnOf "_law_by_arcs" "_law_by_arcs" (defArgs s_law_by_arcs) (defBody s_law_by_arcs) (defScope s_law_by_arcs) .none kV39 dc39 pm39 an39 cd39 ct39), sl39⟩) (c39 : PySem.W.codeIn K cd39 "_law_by_arcs" = true) (k39 : PySem.W.keepIn K (.ref f39) = true)
    (a40 : PySem.W.nsIn K mainGlobals "_law_ring_poll" = some (some (.ref f40))) (l40 : K.lookup f40 = some ⟨oc40, od40, .func (PySem.W.fnOf "_law_ring_poll" "_law_ring_poll" (defArgs s_law_ring_poll) (defBody s_law_ring_poll) (defScope s_law_ring_poll) .none kV40 dc40 pm40 an40 cd40 ct40), sl40⟩) (c40 : PySem.W.codeIn K cd40 "_law_ring_poll" = true) (k40 : PySem.W.keepIn K (.ref f40) = true)
    (a41 : PySem.W.nsIn K mainGlobals "_law_sums_right" = some (some (.ref f41))) (l41 : K.lookup f41 = some ⟨oc41, od41, .func (PySem.W.fnOf "_law_sums_right" "_law_sums_right" (defArgs s_law_sums_right) (defBody s_law_sums_right) (defScope s_law_sums_right) .none kV41 dc41 pm41 an41 cd41 ct41), sl41⟩) (c41 : PySem.W.codeIn K cd41 "_law_sums_right" = true) (k41 : PySem.W.keepIn K (.ref f41) = true)
    (a42 : PySem.W.nsIn K mainGlobals "_law_rings_right" = some (some (.ref f42))) (l42 : K.lookup f42 = some ⟨oc42, od42, .func (PySem.W.fnOf "_law_rings_right" "_law_rings_right" (defArgs s_law_rings_right) (defBody s_law_rings_right) (defScope s_law_rings_right) .none kV42 dc42 pm42 an42 cd42 ct42), sl42⟩) (c42 : PySem.W.codeIn K cd42 "_law_rings_right" = true) (k42 : PySem.W.keepIn K (.ref f42) = true)
    (a43 : PySem.W.nsIn K mainGlobals "law" = some (some (.ref f43))) (l43 : K.lookup f43 = some ⟨oc43, od43, .func (PySem.W.fnOf "law" "law" (defArgs s_law) (defBody s_law) (defScope s_law) .none kV43 dc43 pm43 an43 cd43 ct43), sl43⟩) (c43 : PySem.W.codeIn K cd43 "law" = true) (k43 : PySem.W.keepIn K (.ref f43) = true)
    (g_MOST_THINGS : PySem.W.nsIn K mainGlobals "MOST_THINGS" = some (some (.int 12 tk_MOST_THINGS)))
    (g_MOST_LISTED : PySem.W.nsIn K mainGlobals "MOST_LISTED" = some (some (.int 6 tk_MOST_LISTED)))
    (g_MOST_POLLED : PySem.W.nsIn K mainGlobals "MOST_POLLED" = some (some (.int 20 tk_MOST_POLLED)))
    (g_MOST_BY_PAIRS : PySem.W.nsIn K mainGlobals "MOST_BY_PAIRS" = some (some (.int 9 tk_MOST_BY_PAIRS)))
    (g_WAYS : PySem.W.nsIn K mainGlobals "WAYS" = some (some (.ref aW))) (l_WAYS : K.lookup aW = some ⟨.type "tuple", ddW, .seq #[.str "swap" tW1, .str "spot" tW2, .str "shift" tW3] nW, slW⟩)
    (z_ValueError : PySem.W.nsIn K mainGlobals "ValueError" = some none)
    (z_abs : PySem.W.nsIn K mainGlobals "abs" = some none)
    (z_all : PySem.W.nsIn K mainGlobals "all" = some none)
    (z_bool : PySem.W.nsIn K mainGlobals "bool" = some none)
    (z_enumerate : PySem.W.nsIn K mainGlobals "enumerate" = some none)
    (z_int : PySem.W.nsIn K mainGlobals "int" = some none)
    (z_isinstance : PySem.W.nsIn K mainGlobals "isinstance" = some none)
    (z_len : PySem.W.nsIn K mainGlobals "len" = some none)
    (z_list : PySem.W.nsIn K mainGlobals "list" = some none)
    (z_max : PySem.W.nsIn K mainGlobals "max" = some none)
    (z_min : PySem.W.nsIn K mainGlobals "min" = some none)
    (z_range : PySem.W.nsIn K mainGlobals "range" = some none)
    (z_set : PySem.W.nsIn K mainGlobals "set" = some none)
    (z_sorted : PySem.W.nsIn K mainGlobals "sorted" = some none)
    (z_str : PySem.W.nsIn K mainGlobals "str" = some none)
    (z_sum : PySem.W.nsIn K mainGlobals "sum" = some none)
    : ∃ fd : FuncData, (∀ (s : Shared) (v : Value), BindsTo s fd ⟨[v], []⟩ [("script", v)]) ∧ ∀ base : Heap, K.In base → base.Ns mainGlobals mg → FnOk l.prog w K mg base CX0 12 fa fd ["script"] (spLaw K) := by
  have e := hfa.symm.trans (PySem.W.mg_of X G a43)
  cases e
  have F0 := fun_mk (st := s_is_whole) l0 c0 k0
  have F1 := fun_mk (st := s_check_way) l1 c1 k1
  have F2 := fun_mk (st := s_check_few) l2 c2 k2
  have F3 := fun_mk (st := s_is_order) l3 c3 k3
  have F4 := fun_mk (st := s_check_order) l4 c4 k4
  have F5 := fun_mk (st := s_check_fit) l5 c5 k5
  have F6 := fun_mk (st := s_is_order_list) l6 c6 k6
  have F7 := fun_mk (st := s_places_in) l7 c7 k7
  have F8 := fun_mk (st := s_seats_in) l8 c8 k8
  have F9 := fun_mk (st := s_known_far) l9 c9 k9
  have F10 := fun_mk (st := s_far_by_swap) l10 c10 k10
  have F11 := fun_mk (st := s_far_by_spot) l11 c11 k11
  have F12 := fun_mk (st := s_far_by_shift) l12 c12 k12
  have F13 := fun_mk (st := s_all_orders) l13 c13 k13
  have F14 := fun_mk (st := s_orders_with) l14 c14 k14
  have F15 := fun_mk (st := s_check_poll) l15 c15 k15
  have F16 := fun_mk (st := s_poll_sum) l16 c16 k16
  have F17 := fun_mk (st := s_known_sum) l17 c17 k17
  have F18 := fun_mk (st := s_middle_of) l18 c18 k18
  have F19 := fun_mk (st := s_middle_by_all) l19 c19 k19
  have F20 := fun_mk (st := s_middle_by_pairs) l20 c20 k20
  have F21 := fun_mk (st := s_best_first) l21 c21 k21
  have F22 := fun_mk (st := s_least_sums) l22 c22 k22
  have F23 := fun_mk (st := s_sum_with_first) l23 c23 k23
  have F24 := fun_mk (st := s_things_in) l24 c24 k24
  have F25 := fun_mk (st := s_counts_ahead) l25 c25 k25
  have F26 := fun_mk (st := s_pairs_ahead) l26 c26 k26
  have F27 := fun_mk (st := s_pair_sum) l27 c27 k27
  have F28 := fun_mk (st := s_ring_of) l28 c28 k28
  have F29 := fun_mk (st := s_mostly_behind) l29 c29 k29
  have F30 := fun_mk (st := s_ring_from) l30 c30 k30
  have F31 := fun_mk (st := s_longer_paths) l31 c31 k31
  have F32 := fun_mk (st := s_law_cell_at) l32 c32 k32
  have F33 := fun_mk (st := s_law_stir) l33 c33 k33
  have F34 := fun_mk (st := s_law_deck) l34 c34 k34
  have F35 := fun_mk (st := s_law_next) l35 c35 k35
  have F36 := fun_mk (st := s_law_order) l36 c36 k36
  have F37 := fun_mk (st := s_law_near) l37 c37 k37
  have F38 := fun_mk (st := s_law_poll) l38 c38 k38
  have F39 := fun_mk (st := s_law_by_arcs) l39 c39 k39
  have F40 := fun_mk (st := s_law_ring_poll) l40 c40 k40
  have F41 := fun_mk (st := s_law_sums_right) l41 c41 k41
  have F42 := fun_mk (st := s_law_rings_right) l42 c42 k42
  have F43 := fun_mk (st := s_law) l43 c43 k43
  have T_is_whole : Df K mg "is_whole" s_is_whole ["thing"] f0 _ := ⟨F0, F0.binds (ps := ["thing"]) (fun _ _ _ _ _ _ us hl => match us, hl with | [_], _ => rfl), PySem.W.mg_of X G a0⟩
  have T_check_way : Df K mg "check_way" s_check_way ["thing"] f1 _ := ⟨F1, F1.binds (ps := ["thing"]) (fun _ _ _ _ _ _ us hl => match us, hl with | [_], _ => rfl), PySem.W.mg_of X G a1⟩
  have T_check_few : Df K mg "check_few" s_check_few ["n", "most"] f2 _ := ⟨F2, F2.binds (ps := ["n", "most"]) (fun _ _ _ _ _ _ us hl => match us, hl with | [_, _], _ => rfl), PySem.W.mg_of X G a2⟩
  have T_is_order : Df K mg "is_order" s_is_order ["thing"] f3 _ := ⟨F3, F3.binds (ps := ["thing"]) (fun _ _ _ _ _ _ us hl => match us, hl with | [_], _ => rfl), PySem.W.mg_of X G a3⟩
  have T_check_order : Df K mg "check_order" s_check_order ["thing"] f4 _ := ⟨F4, F4.binds (ps := ["thing"]) (fun _ _ _ _ _ _ us hl => match us, hl with | [_], _ => rfl), PySem.W.mg_of X G a4⟩
  have T_check_fit : Df K mg "check_fit" s_check_fit ["one", "other"] f5 _ := ⟨F5, F5.binds (ps := ["one", "other"]) (fun _ _ _ _ _ _ us hl => match us, hl with | [_, _], _ => rfl), PySem.W.mg_of X G a5⟩
  have T_is_order_list : Df K mg "is_order_list" s_is_order_list ["thing"] f6 _ := ⟨F6, F6.binds (ps := ["thing"]) (fun _ _ _ _ _ _ us hl => match us, hl with | [_], _ => rfl), PySem.W.mg_of X G a6⟩
  have T_places_in : Df K mg "places_in" s_places_in ["order"] f7 _ := ⟨F7, F7.binds (ps := ["order"]) (fun _ _ _ _ _ _ us hl => match us, hl with | [_], _ => rfl), PySem.W.mg_of X G a7⟩
  have T_seats_in : Df K mg "seats_in" s_seats_in ["one", "other"] f8 _ := ⟨F8, F8.binds (ps := ["one", "other"]) (fun _ _ _ _ _ _ us hl => match us, hl with | [_, _], _ => rfl), PySem.W.mg_of X G a8⟩
  have T_known_far : Df K mg "known_far" s_known_far ["way", "one", "other"] f9 _ := ⟨F9, F9.binds (ps := ["way", "one", "other"]) (fun _ _ _ _ _ _ us hl => match us, hl with | [_, _, _], _ => rfl), PySem.W.mg_of X G a9⟩
  have T_far_by_swap : Df K mg "far_by_swap" s_far_by_swap ["one", "other"] f10 _ := ⟨F10, F10.binds (ps := ["one", "other"]) (fun _ _ _ _ _ _ us hl => match us, hl with | [_, _], _ => rfl), PySem.W.mg_of X G a10⟩
  have T_far_by_spot : Df K mg "far_by_spot" s_far_by_spot ["one", "other"] f11 _ := ⟨F11, F11.binds (ps := ["one", "other"]) (fun _ _ _ _ _ _ us hl => match us, hl with | [_, _], _ => rfl), PySem.W.mg_of X G a11⟩
  have T_far_by_shift : Df K mg "far_by_shift" s_far_by_shift ["one", "other"] f12 _ := ⟨F12, F12.binds (ps := ["one", "other"]) (fun _ _ _ _ _ _ us hl => match us, hl with | [_, _], _ => rfl), PySem.W.mg_of X G a12⟩
  have T_all_orders : Df K mg "all_orders" s_all_orders ["n"] f13 _ := ⟨F13, F13.binds (ps := ["n"]) (fun _ _ _ _ _ _ us hl => match us, hl with | [_], _ => rfl), PySem.W.mg_of X G a13⟩
  have T_orders_with : Df K mg "orders_with" s_orders_with ["choices"] f14 _ := ⟨F14, F14.binds (ps := ["choices"]) (fun _ _ _ _ _ _ us hl => match us, hl with | [_], _ => rfl), PySem.W.mg_of X G a14⟩
  have T_check_poll : Df K mg "check_poll" s_check_poll ["thing"] f15 _ := ⟨F15, F15.binds (ps := ["thing"]) (fun _ _ _ _ _ _ us hl => match us, hl with | [_], _ => rfl), PySem.W.mg_of X G a15⟩
  have T_poll_sum : Df K mg "poll_sum" s_poll_sum ["way", "poll", "order"] f16 _ := ⟨F16, F16.binds (ps := ["way", "poll", "order"]) (fun _ _ _ _ _ _ us hl => match us, hl with | [_, _, _], _ => rfl), PySem.W.mg_of X G a16⟩
  have T_known_sum : Df K mg "known_sum" s_known_sum ["way", "poll", "order"] f17 _ := ⟨F17, F17.binds (ps := ["way", "poll", "order"]) (fun _ _ _ _ _ _ us hl => match us, hl with | [_, _, _], _ => rfl), PySem.W.mg_of X G a17⟩
  have T_middle_of : Df K mg "middle_of" s_middle_of ["way", "poll"] f18 _ := ⟨F18, F18.binds (ps := ["way", "poll"]) (fun _ _ _ _ _ _ us hl => match us, hl with | [_, _], _ => rfl), PySem.W.mg_of X G a18⟩
  have T_middle_by_all : Df K mg "middle_by_all" s_middle_by_all ["way", "poll", "n"] f19 _ := ⟨F19, F19.binds (ps := ["way", "poll", "n"]) (fun _ _ _ _ _ _ us hl => match us, hl with | [_, _, _], _ => rfl), PySem.W.mg_of X G a19⟩
  have T_middle_by_pairs : Df K mg "middle_by_pairs" s_middle_by_pairs ["ahead"] f20 _ := ⟨F20, F20.binds (ps := ["ahead"]) (fun _ _ _ _ _ _ us hl => match us, hl with | [_], _ => rfl), PySem.W.mg_of X G a20⟩
  have T_best_first : Df K mg "best_first" s_best_first ["left", "ahead", "sums"] f21 _ := ⟨F21, F21.binds (ps := ["left", "ahead", "sums"]) (fun _ _ _ _ _ _ us hl => match us, hl with | [_, _, _], _ => rfl), PySem.W.mg_of X G a21⟩
  have T_least_sums : Df K mg "least_sums" s_least_sums ["ahead"] f22 _ := ⟨F22, F22.binds (ps := ["ahead"]) (fun _ _ _ _ _ _ us hl => match us, hl with | [_], _ => rfl), PySem.W.mg_of X G a22⟩
  have T_sum_with_first : Df K mg "sum_with_first" s_sum_with_first ["thing", "left", "ahead", "sums"] f23 _ := ⟨F23, F23.binds (ps := ["thing", "left", "ahead", "sums"]) (fun _ _ _ _ _ _ us hl => match us, hl with | [_, _, _, _], _ => rfl), PySem.W.mg_of X G a23⟩
  have T_things_in : Df K mg "things_in" s_things_in ["left", "ahead"] f24 _ := ⟨F24, F24.binds (ps := ["left", "ahead"]) (fun _ _ _ _ _ _ us hl => match us, hl with | [_, _], _ => rfl), PySem.W.mg_of X G a24⟩
  have T_counts_ahead : Df K mg "counts_ahead" s_counts_ahead ["poll"] f25 _ := ⟨F25, F25.binds (ps := ["poll"]) (fun _ _ _ _ _ _ us hl => match us, hl with | [_], _ => rfl), PySem.W.mg_of X G a25⟩
  have T_pairs_ahead : Df K mg "pairs_ahead" s_pairs_ahead ["poll"] f26 _ := ⟨F26, F26.binds (ps := ["poll"]) (fun _ _ _ _ _ _ us hl => match us, hl with | [_], _ => rfl), PySem.W.mg_of X G a26⟩
  have T_pair_sum : Df K mg "pair_sum" s_pair_sum ["poll"] f27 _ := ⟨F27, F27.binds (ps := ["poll"]) (fun _ _ _ _ _ _ us hl => match us, hl with | [_], _ => rfl), PySem.W.mg_of X G a27⟩
  have T_ring_of : Df K mg "ring_of" s_ring_of ["poll"] f28 _ := ⟨F28, F28.binds (ps := ["poll"]) (fun _ _ _ _ _ _ us hl => match us, hl with | [_], _ => rfl), PySem.W.mg_of X G a28⟩
  have T_mostly_behind : Df K mg "mostly_behind" s_mostly_behind ["poll"] f29 _ := ⟨F29, F29.binds (ps := ["poll"]) (fun _ _ _ _ _ _ us hl => match us, hl with | [_], _ => rfl), PySem.W.mg_of X G a29⟩
  have T_ring_from : Df K mg "ring_from" s_ring_from ["least", "followers"] f30 _ := ⟨F30, F30.binds (ps := ["least", "followers"]) (fun _ _ _ _ _ _ us hl => match us, hl with | [_, _], _ => rfl), PySem.W.mg_of X G a30⟩
  have T_longer_paths : Df K mg "longer_paths" s_longer_paths ["paths", "followers", "reached"] f31 _ := ⟨F31, F31.binds (ps := ["paths", "followers", "reached"]) (fun _ _ _ _ _ _ us hl => match us, hl with | [_, _, _], _ => rfl), PySem.W.mg_of X G a31⟩
  have T__law_cell_at : Df K mg "_law_cell_at" s_law_cell_at ["script", "k"] f32 _ := ⟨F32, F32.binds (ps := ["script", "k"]) (fun _ _ _ _ _ _ us hl => match us, hl with | [_, _], _ => rfl), PySem.W.mg_of X G a32⟩
  have T__law_stir : Df K mg "_law_stir" s_law_stir ["cell", "k"] f33 _ := ⟨F33, F33.binds (ps := ["cell", "k"]) (fun _ _ _ _ _ _ us hl => match us, hl with | [_, _], _ => rfl), PySem.W.mg_of X G a33⟩
  have T__law_deck : Df K mg "_law_deck" s_law_deck ["cell", "many"] f34 _ := ⟨F34, F34.binds (ps := ["cell", "many"]) (fun _ _ _ _ _ _ us hl => match us, hl with | [_, _], _ => rfl), PySem.W.mg_of X G a34⟩
  have T__law_next : Df K mg "_law_next" s_law_next ["deck"] f35 _ := ⟨F35, F35.binds (ps := ["deck"]) (fun _ _ _ _ _ _ us hl => match us, hl with | [_], _ => rfl), PySem.W.mg_of X G a35⟩
  have T__law_order : Df K mg "_law_order" s_law_order ["deck", "n"] f36 _ := ⟨F36, F36.binds (ps := ["deck", "n"]) (fun _ _ _ _ _ _ us hl => match us, hl with | [_, _], _ => rfl), PySem.W.mg_of X G a36⟩
  have T__law_near : Df K mg "_law_near" s_law_near ["deck", "order"] f37 _ := ⟨F37, F37.binds (ps := ["deck", "order"]) (fun _ _ _ _ _ _ us hl => match us, hl with | [_, _], _ => rfl), PySem.W.mg_of X G a37⟩
  have T__law_poll : Df K mg "_law_poll" s_law_poll ["deck", "n", "most"] f38 _ := ⟨F38, F38.binds (ps := ["deck", "n", "most"]) (fun _ _ _ _ _ _ us hl => match us, hl with | [_, _, _], _ => rfl), PySem.W.mg_of X G a38⟩
  have T__law_by_arcs : Df K mg "_law_by_arcs" s_law_by_arcs ["deck", "n", "arcs"] f39 _ := ⟨F39, F39.binds (ps := ["deck", "n", "arcs"]) (fun _ _ _ _ _ _ us hl => match us, hl with | [_, _, _], _ => rfl), PySem.W.mg_of X G a39⟩
  have T__law_ring_poll : Df K mg "_law_ring_poll" s_law_ring_poll ["deck", "n"] f40 _ := ⟨F40, F40.binds (ps := ["deck", "n"]) (fun _ _ _ _ _ _ us hl => match us, hl with | [_, _], _ => rfl), PySem.W.mg_of X G a40⟩
  have T__law_sums_right : Df K mg "_law_sums_right" s_law_sums_right ["deck", "way", "poll"] f41 _ := ⟨F41, F41.binds (ps := ["deck", "way", "poll"]) (fun _ _ _ _ _ _ us hl => match us, hl with | [_, _, _], _ => rfl), PySem.W.mg_of X G a41⟩
  have T__law_rings_right : Df K mg "_law_rings_right" s_law_rings_right ["poll"] f42 _ := ⟨F42, F42.binds (ps := ["poll"]) (fun _ _ _ _ _ _ us hl => match us, hl with | [_], _ => rfl), PySem.W.mg_of X G a42⟩
  have B : Bi mg := ⟨PySem.W.mg_none_of X G z_ValueError, PySem.W.mg_none_of X G z_abs, PySem.W.mg_none_of X G z_all, PySem.W.mg_none_of X G z_bool, PySem.W.mg_none_of X G z_enumerate, PySem.W.mg_none_of X G z_int, PySem.W.mg_none_of X G z_isinstance, PySem.W.mg_none_of X G z_len, PySem.W.mg_none_of X G z_list, PySem.W.mg_none_of X G z_max, PySem.W.mg_none_of X G z_min, PySem.W.mg_none_of X G z_range, PySem.W.mg_none_of X G z_set, PySem.W.mg_none_of X G z_sorted, PySem.W.mg_none_of X G z_str, PySem.W.mg_none_of X G z_sum⟩
  have m_WAYS := wy_mk (PySem.W.mg_of X G g_WAYS) l_WAYS
  have m_MOST_THINGS := PySem.W.mg_of X G g_MOST_THINGS
  have m_MOST_LISTED := PySem.W.mg_of X G g_MOST_LISTED
  have m_MOST_POLLED := PySem.W.mg_of X G g_MOST_POLLED
  have m_MOST_BY_PAIRS := PySem.W.mg_of X G g_MOST_BY_PAIRS
  exact ⟨PySem.W.fnOf "law" "law" (defArgs s_law) (defBody s_law) (defScope s_law) .none kV43 dc43 pm43 an43 cd43 ct43, fun s v => .of_eq rfl, fun base _ _ => ok_law F43 T__law_deck T__law_cell_at T__law_next T__law_poll T__law_ring_poll T__law_sums_right T__law_rings_right (ok_deckN (k := 9) T__law_deck T__law_stir B) (ok_cell (k := 10) T__law_cell_at B) (ok_next (k := 9) T__law_next T__law_stir B) (ok_poll (k := 10) T__law_poll T__law_next (ok_next (k := 8) T__law_next T__law_stir B) T__law_order (ok_orderN (k := 9) T__law_order T__law_next (ok_next (k := 7) T__law_next T__law_stir B) B) T__law_near (ok_nearN (k := 9) T__law_near T__law_next (ok_next (k := 7) T__law_next T__law_stir B) B) B) (ok_rpoll (k := 10) T__law_ring_poll T__law_order T__law_next T__law_by_arcs (ok_orderN (k := 9) T__law_order T__law_next (ok_next (k := 7) T__law_next T__law_stir B) B) (ok_next (k := 8) T__law_next T__law_stir B) (ok_byarcs (k := 9) T__law_by_arcs T__law_order (ok_orderN (k := 8) T__law_order T__law_next (ok_next (k := 6) T__law_next T__law_stir B) B) B) B) (ok_sumsR (k := 10) T__law_sums_right T_middle_of T_poll_sum T__law_near T__law_order (ok_mid (k := 9) T_middle_of T_check_poll T_check_way T_check_few T_middle_by_pairs T_counts_ahead T_middle_by_all (ok_cpoll (k := 8) T_check_poll T_is_order_list (ok_olst (k := 7) T_is_order_list T_is_order (ok_is_order (k := 5) T_is_order T_is_whole B m_MOST_THINGS) B) B m_MOST_POLLED) (ok_way (k := 8) T_check_way m_WAYS B) (ok_few (k := 8) T_check_few) (ok_mpairs (k := 8) T_middle_by_pairs T_least_sums T_best_first (ok_lsums (k := 7) T_least_sums T_things_in T_sum_with_first (ok_tin (k := 6) T_things_in B) (ok_swf (k := 6) T_sum_with_first T_things_in (ok_tin (k := 5) T_things_in B) B) B) (ok_bfirst (k := 7) T_best_first T_things_in T_sum_with_first (ok_tin (k := 6) T_things_in B) (ok_swf (k := 6) T_sum_with_first T_things_in (ok_tin (k := 5) T_things_in B) B) B) B) (ok_ahead (k := 8) T_counts_ahead T_places_in (ok_places (k := 7) T_places_in B) B) (ok_mall (k := 8) T_middle_by_all T_all_orders T_known_sum (ok_all_orders (k := 6) T_all_orders T_orders_with B) (ok_ksum (k := 7) T_known_sum T_known_far (ok_known (k := 6) T_known_far T_far_by_swap T_far_by_spot T_far_by_shift (ok_swap (k := 5) T_far_by_swap T_seats_in (ok_seats (k := 3) T_seats_in T_places_in B) B) (ok_spot (k := 5) T_far_by_spot B) (ok_shift (k := 5) T_far_by_shift T_seats_in (ok_seats (k := 3) T_seats_in T_places_in B) B)) B)) B m_MOST_BY_PAIRS m_MOST_LISTED) (ok_polS (k := 9) T_poll_sum T_check_poll T_check_order T_check_way T_check_fit T_known_sum (ok_cpoll (k := 8) T_check_poll T_is_order_list (ok_olst (k := 7) T_is_order_list T_is_order (ok_is_order (k := 5) T_is_order T_is_whole B m_MOST_THINGS) B) B m_MOST_POLLED) (ok_check (k := 6) T_check_order T_is_order T_is_whole B m_MOST_THINGS) (ok_way (k := 8) T_check_way m_WAYS B) (ok_fit (k := 8) T_check_fit B) (ok_ksum (k := 8) T_known_sum T_known_far (ok_known (k := 7) T_known_far T_far_by_swap T_far_by_spot T_far_by_shift (ok_swap (k := 6) T_far_by_swap T_seats_in (ok_seats (k := 4) T_seats_in T_places_in B) B) (ok_spot (k := 6) T_far_by_spot B) (ok_shift (k := 6) T_far_by_shift T_seats_in (ok_seats (k := 4) T_seats_in T_places_in B) B)) B)) (ok_nearN (k := 9) T__law_near T__law_next (ok_next (k := 7) T__law_next T__law_stir B) B) (ok_orderN (k := 9) T__law_order T__law_next (ok_next (k := 7) T__law_next T__law_stir B) B) B) (ok_ringsR (k := 10) T__law_rings_right T_ring_of T_pair_sum T_middle_of T_pairs_ahead (ok_ring (k := 9) T_ring_of T_check_poll T_check_few T_mostly_behind T_ring_from (ok_cpoll (k := 8) T_check_poll T_is_order_list (ok_olst (k := 7) T_is_order_list T_is_order (ok_is_order (k := 5) T_is_order T_is_whole B m_MOST_THINGS) B) B m_MOST_POLLED) (ok_few (k := 8) T_check_few) (ok_mbeh (k := 8) T_mostly_behind T_counts_ahead (ok_ahead (k := 7) T_counts_ahead T_places_in (ok_places (k := 6) T_places_in B) B) B) (ok_rfrom (k := 8) T_ring_from T_longer_paths (ok_longer (k := 7) T_longer_paths B) B) B m_MOST_BY_PAIRS) (ok_psum (k := 9) T_pair_sum T_check_poll T_counts_ahead (ok_cpoll (k := 8) T_check_poll T_is_order_list (ok_olst (k := 7) T_is_order_list T_is_order (ok_is_order (k := 5) T_is_order T_is_whole B m_MOST_THINGS) B) B m_MOST_POLLED) (ok_ahead (k := 8) T_counts_ahead T_places_in (ok_places (k := 7) T_places_in B) B) B) (ok_mid (k := 9) T_middle_of T_check_poll T_check_way T_check_few T_middle_by_pairs T_counts_ahead T_middle_by_all (ok_cpoll (k := 8) T_check_poll T_is_order_list (ok_olst (k := 7) T_is_order_list T_is_order (ok_is_order (k := 5) T_is_order T_is_whole B m_MOST_THINGS) B) B m_MOST_POLLED) (ok_way (k := 8) T_check_way m_WAYS B) (ok_few (k := 8) T_check_few) (ok_mpairs (k := 8) T_middle_by_pairs T_least_sums T_best_first (ok_lsums (k := 7) T_least_sums T_things_in T_sum_with_first (ok_tin (k := 6) T_things_in B) (ok_swf (k := 6) T_sum_with_first T_things_in (ok_tin (k := 5) T_things_in B) B) B) (ok_bfirst (k := 7) T_best_first T_things_in T_sum_with_first (ok_tin (k := 6) T_things_in B) (ok_swf (k := 6) T_sum_with_first T_things_in (ok_tin (k := 5) T_things_in B) B) B) B) (ok_ahead (k := 8) T_counts_ahead T_places_in (ok_places (k := 7) T_places_in B) B) (ok_mall (k := 8) T_middle_by_all T_all_orders T_known_sum (ok_all_orders (k := 6) T_all_orders T_orders_with B) (ok_ksum (k := 7) T_known_sum T_known_far (ok_known (k := 6) T_known_far T_far_by_swap T_far_by_spot T_far_by_shift (ok_swap (k := 5) T_far_by_swap T_seats_in (ok_seats (k := 3) T_seats_in T_places_in B) B) (ok_spot (k := 5) T_far_by_spot B) (ok_shift (k := 5) T_far_by_shift T_seats_in (ok_seats (k := 3) T_seats_in T_places_in B) B)) B)) B m_MOST_BY_PAIRS m_MOST_LISTED) (ok_pairs (k := 9) T_pairs_ahead T_check_poll T_counts_ahead (ok_cpoll (k := 8) T_check_poll T_is_order_list (ok_olst (k := 7) T_is_order_list T_is_order (ok_is_order (k := 5) T_is_order T_is_whole B m_MOST_THINGS) B) B m_MOST_POLLED) (ok_ahead (k := 8) T_counts_ahead T_places_in (ok_places (k := 7) T_places_in B) B) B) B) B⟩
end Fo
open PySem PySem.W PyProof.Rows
set_option maxRecDepth 100000 in
set_option maxHeartbeats 0 in
theorem PySem.Challenge.cw_farorders_k69_whole_polls_otherwise_holds : PySem.Challenge.rw_farorders_k69_whole_polls_otherwise.Holds := by
  w_on; o_law; k_head; (case hw => w_witness2)
  k_fill
  refine L2.walk_of (l := PySem.Challenge.rw_farorders_k69_whole_polls_otherwise) (n := 63) (k := 12) (x := "script") (CX := fun _ => L2.CX0) (sp := fun w => Fo.spLaw _) rfl (by decide) rfl ⟨rfl, by decide, by decide⟩ (fun w h Y => PySem.W.kIn_of Y) ?F (fun _ _ a ns hl _ hS => ⟨a, ns, rfl, hS, hl, fun _ => rfl⟩) (fun _ _ _ _ _ h => h)
  case F =>
    intro w mg fa h KX G hmg
    refine' Fo.all_mk KX G hmg ?a0 ?l0 ?c0 ?k0 ?a1 ?l1 ?c1 ?k1 ?a2 ?l2 ?c2 ?k2 ?a3 ?l3 ?c3 ?k3 ?a4 ?l4 ?c4 ?k4 ?a5 ?l5 ?c5 ?k5 ?a6 ?l6 ?c6 ?k6 ?a7 ?l7 ?c7 ?k7 ?a8 ?l8 ?c8 ?k8 ?a9 ?l9 ?c9 ?k9 ?a10 ?l10 ?c10 ?k10 ?a11 ?l11 ?c11 ?k11 ?a12 ?l12 ?c12 ?k12 ?a13 ?l13 ?c13 ?k13 ?a14 ?l14 ?c14 ?k14 ?a15 ?l15 ?c15 ?k15 ?a16 ?l16 ?c16 ?k16 ?a17 ?l17 ?c17 ?k17 ?a18 ?l18 ?c18 ?k18 ?a19 ?l19 ?c19 ?k19 ?a20 ?l20 ?c20 ?k20 ?a21 ?l21 ?c21 ?k21 ?a22 ?l22 ?c22 ?k22 ?a23 ?l23 ?c23 ?k23 ?a24 ?l24 ?c24 ?k24 ?a25 ?l25 ?c25 ?k25 ?a26 ?l26 ?c26 ?k26 ?a27 ?l27 ?c27 ?k27 ?a28 ?l28 ?c28 ?k28 ?a29 ?l29 ?c29 ?k29 ?a30 ?l30 ?c30 ?k30 ?a31 ?l31 ?c31 ?k31 ?a32 ?l32 ?c32 ?k32 ?a33 ?l33 ?c33 ?k33 ?a34 ?l34 ?c34 ?k34 ?a35 ?l35 ?c35 ?k35 ?a36 ?l36 ?c36 ?k36 ?a37 ?l37 ?c37 ?k37 ?a38 ?l38 ?c38 ?k38 ?a39 ?l39 ?c39 ?k39 ?a40 ?l40 ?c40 ?k40 ?a41 ?l41 ?c41 ?k41 ?a42 ?l42 ?c42 ?k42 ?a43 ?l43 ?c43 ?k43 ?g_MOST_THINGS ?g_MOST_LISTED ?g_MOST_POLLED ?g_MOST_BY_PAIRS ?g_WAYS ?l_WAYS ?z_ValueError ?z_abs ?z_all ?z_bool ?z_enumerate ?z_int ?z_isinstance ?z_len ?z_list ?z_max ?z_min ?z_range ?z_set ?z_sorted ?z_str ?z_sum
    (case a0 => k_is); (case l0 => k_is); (case c0 => k_is); (case k0 => k_is); (case a1 => k_is); (case l1 => k_is); (case c1 => k_is); (case k1 => k_is); (case a2 => k_is); (case l2 => k_is); (case c2 => k_is); (case k2 => k_is); (case a3 => k_is); (case l3 => k_is); (case c3 => k_is); (case k3 => k_is); (case a4 => k_is); (case l4 => k_is); (case c4 => k_is); (case k4 => k_is); (case a5 => k_is); (case l5 => k_is); (case c5 => k_is); (case k5 => k_is); (case a6 => k_is); (case l6 => k_is); (case c6 => k_is); (case k6 => k_is); (case a7 => k_is); (case l7 => k_is); (case c7 => k_is); (case k7 => k_is); (case a8 => k_is); (case l8 => k_is); (case c8 => k_is); (case k8 => k_is); (case a9 => k_is); (case l9 => k_is); (case c9 => k_is); (case k9 => k_is); (case a10 => k_is); (case l10 => k_is); (case c10 => k_is); (case k10 => k_is); (case a11 => k_is); (case l11 => k_is); (case c11 => k_is); (case k11 => k_is); (case a12 => k_is); (case l12 => k_is); (case c12 => k_is); (case k12 => k_is); (case a13 => k_is); (case l13 => k_is); (case c13 => k_is); (case k13 => k_is); (case a14 => k_is); (case l14 => k_is); (case c14 => k_is); (case k14 => k_is); (case a15 => k_is); (case l15 => k_is); (case c15 => k_is); (case k15 => k_is); (case a16 => k_is); (case l16 => k_is); (case c16 => k_is); (case k16 => k_is); (case a17 => k_is); (case l17 => k_is); (case c17 => k_is); (case k17 => k_is); (case a18 => k_is); (case l18 => k_is); (case c18 => k_is); (case k18 => k_is); (case a19 => k_is); (case l19 => k_is); (case c19 => k_is); (case k19 => k_is); (case a20 => k_is); (case l20 => k_is); (case c20 => k_is); (case k20 => k_is); (case a21 => k_is); (case l21 => k_is); (case c21 => k_is); (case k21 => k_is); (case a22 => k_is); (case l22 => k_is); (case c22 => k_is); (case k22 => k_is); (case a23 => k_is); (case l23 => k_is); (case c23 => k_is); (case k23 => k_is); (case a24 => k_is); (case l24 => k_is); (case c24 => k_is); (case k24 => k_is); (case a25 => k_is); (case l25 => k_is); (case c25 => k_is); (case k25 => k_is); (case a26 => k_is); (case l26 => k_is); (case c26 => k_is); (case k26 => k_is); (case a27 => k_is); (case l27 => k_is); (case c27 => k_is); (case k27 => k_is); (case a28 => k_is); (case l28 => k_is); (case c28 => k_is); (case k28 => k_is); (case a29 => k_is); (case l29 => k_is); (case c29 => k_is); (case k29 => k_is); (case a30 => k_is); (case l30 => k_is); (case c30 => k_is); (case k30 => k_is); (case a31 => k_is); (case l31 => k_is); (case c31 => k_is); (case k31 => k_is); (case a32 => k_is); (case l32 => k_is); (case c32 => k_is); (case k32 => k_is); (case a33 => k_is); (case l33 => k_is); (case c33 => k_is); (case k33 => k_is); (case a34 => k_is); (case l34 => k_is); (case c34 => k_is); (case k34 => k_is); (case a35 => k_is); (case l35 => k_is); (case c35 => k_is); (case k35 => k_is); (case a36 => k_is); (case l36 => k_is); (case c36 => k_is); (case k36 => k_is); (case a37 => k_is); (case l37 => k_is); (case c37 => k_is); (case k37 => k_is); (case a38 => k_is); (case l38 => k_is); (case c38 => k_is); (case k38 => k_is); (case a39 => k_is); (case l39 => k_is); (case c39 => k_is); (case k39 => k_is); (case a40 => k_is); (case l40 => k_is); (case c40 => k_is); (case k40 => k_is); (case a41 => k_is); (case l41 => k_is); (case c41 => k_is); (case k41 => k_is); (case a42 => k_is); (case l42 => k_is); (case c42 => k_is); (case k42 => k_is); (case a43 => k_is); (case l43 => k_is); (case c43 => k_is); (case k43 => k_is); (case g_MOST_THINGS => k_is); (case g_MOST_LISTED => k_is); (case g_MOST_POLLED => k_is); (case g_MOST_BY_PAIRS => k_is); (case g_WAYS => k_is); (case l_WAYS => k_is); (case z_ValueError => k_is); (case z_abs => k_is); (case z_all => k_is); (case z_bool => k_is); (case z_enumerate => k_is); (case z_int => k_is); (case z_isinstance => k_is); (case z_len => k_is); (case z_list => k_is); (case z_max => k_is); (case z_min => k_is); (case z_range => k_is); (case z_set => k_is); (case z_sorted => k_is); (case z_str => k_is); (case z_sum => k_is)

