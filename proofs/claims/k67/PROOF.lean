import PyProof.Rows.All
import Wide.All
import OpenK.AllK
import Wide.FinOn
import HandS.ForMost
import HandS.IsInst
import HandS.Conv
import HandS.Style
import HandS.More
import HandS.Evl
import HandS.Zip
import HandS.SetFor
import HandS.Sort
import HandS.Wide
import HandS.Deep
import KE.SortData
import HandS.DictComp
import PySem.Challenge.RW_farorders_k67_rings_told
set_option Elab.async false
set_option linter.all false
set_option maxRecDepth 100000
namespace Fo
open PySem PySem.Spec PyProof.Rows L2
/-! ### lists and orders -/
def rg (n : Nat) : List Int := (List.range n).map fun k => ((k : Nat) : Int)
def IsOrd (n : Nat) (ns : List Int) : Prop := ns.Perm (rg n)
theorem rg_len (n : Nat) : (rg n).length = n := by
  unfold rg
  rw [List.length_map, List.length_range]
theorem rg_mem {n : Nat} {x : Int} : x ∈ rg n ↔ 0 ≤ x ∧ x < n := by
  unfold rg
  rw [List.mem_map]
  constructor
  · rintro ⟨k, hk, rfl⟩
    have := List.mem_range.mp hk
    omega
  · rintro ⟨h0, h1⟩
    exact ⟨x.toNat, List.mem_range.mpr (by omega), by omega⟩
theorem rg_nodup (n : Nat) : (rg n).Nodup := by
  unfold rg
  exact List.Pairwise.map _ (fun a b h e => h (by omega)) List.nodup_range
theorem rg_sorted (n : Nat) : (rg n).Pairwise (· ≤ ·) := by
  unfold rg
  exact List.Pairwise.map _ (fun a b h => by omega) List.pairwise_lt_range
theorem rg_V (n : Nat) : rgV 0 (n : Int) = (rg n).map V.int := by
  unfold rgV rg
  rw [List.map_map, show ((n : Int) - 0).toNat = n by omega]
  apply List.map_congr_left
  intro a _
  show V.int (0 + (a : Int)) = V.int (a : Int)
  rw [Int.zero_add]
theorem IsOrd.len {n : Nat} {ns : List Int} (h : IsOrd n ns) : ns.length = n := (List.Perm.length_eq h).trans (rg_len n)
theorem IsOrd.mem {n : Nat} {ns : List Int} (h : IsOrd n ns) {x : Int} (m : x ∈ ns) : 0 ≤ x ∧ x < n := rg_mem.mp ((List.Perm.mem_iff h).mp m)
theorem IsOrd.nodup {n : Nat} {ns : List Int} (h : IsOrd n ns) : ns.Nodup := (List.Perm.nodup_iff h).mpr (rg_nodup n)
/-- two sorted lists of the same things are one -/
theorem sorted_eq : ∀ {a b : List Int}, a.Perm b → a.Pairwise (· ≤ ·) → b.Pairwise (· ≤ ·) → a = b := by
  intro a b hp ha hb
  exact List.Perm.eq_of_pairwise (fun x y _ _ h1 h2 => by omega) ha hb hp
/-- the things at p and p + 1 change places -/
def sw (xs : List Int) (p : Nat) : List Int := (xs.set p (xs.getD (p + 1) 0)).set (p + 1) (xs.getD p 0)
theorem split2 : ∀ {xs : List Int} {p : Nat}, p + 1 < xs.length → ∃ A a b B, xs = A ++ a :: b :: B ∧ A.length = p
  | [], p, h => by simp at h
  | [_], p, h => by simp at h
  | a :: b :: r, 0, _ => ⟨[], a, b, r, rfl, rfl⟩
  | a :: b :: r, p + 1, h => by
    obtain ⟨A, x, y, B, e, l⟩ := split2 (xs := b :: r) (p := p) (by simpa using h)
    exact ⟨a :: A, x, y, B, by rw [e]; rfl, by rw [List.length_cons, l]⟩
theorem sw_at : ∀ (A : List Int) (a b : Int) (B : List Int), sw (A ++ a :: b :: B) A.length = A ++ b :: a :: B
  | [], a, b, B => rfl
  | x :: A, a, b, B => by
    have ih := sw_at A a b B
    unfold sw at ih ⊢
    show x :: _ = x :: _
    exact congrArg (x :: ·) ih
theorem sw_perm {xs : List Int} {p : Nat} (h : p + 1 < xs.length) : (sw xs p).Perm xs := by
  obtain ⟨A, a, b, B, rfl, rfl⟩ := split2 h
  rw [sw_at]
  exact List.Perm.append_left A (List.Perm.swap a b B)
theorem sw_len (xs : List Int) (p : Nat) : (sw xs p).length = xs.length := by
  unfold sw
  rw [List.length_set, List.length_set]
theorem sw_ord {n : Nat} {xs : List Int} {p : Nat} (o : IsOrd n xs) (h : p + 1 < n) : IsOrd n (sw xs p) :=
  (sw_perm (by rw [o.len]; exact h)).trans o
theorem sw_V {xs : List Int} {p : Nat} {a b : Int} (ha : xs[p]? = some a) (hb : xs[p + 1]? = some b) : ((xs.map V.int).set p (V.int b)).set (p + 1) (V.int a) = (sw xs p).map V.int := by
  unfold sw
  rw [List.getD_eq_getElem?_getD, List.getD_eq_getElem?_getD, ha, hb, List.map_set, List.map_set]
  rfl
theorem pop_ins {xs : List Int} {p : Nat} {a : Int} (h : p + 1 < xs.length) (ha : xs[p]? = some a) : (xs.eraseIdx p).take (p + 1) ++ [a] ++ (xs.eraseIdx p).drop (p + 1) = sw xs p := by
  obtain ⟨A, x, y, B, rfl, rfl⟩ := split2 h
  have ex : x = a := by
    rw [List.getElem?_append_right (Nat.le_refl _), Nat.sub_self] at ha
    exact Option.some.inj ha
  subst ex
  rw [sw_at, List.eraseIdx_append_of_length_le (Nat.le_refl _), Nat.sub_self]
  show (A ++ y :: B).take (A.length + 1) ++ [x] ++ (A ++ y :: B).drop (A.length + 1) = _
  rw [List.take_append, List.drop_append]
  have t : A.length + 1 - A.length = 1 := by omega
  rw [t, List.take_of_length_le (by omega), List.drop_of_length_le (by omega)]
  simp
/-- the order at a walk's end -/
def wEnd (xs : List Int) (ws : List Int) : List Int := ws.foldl (fun x p => sw x p.toNat) xs
theorem wEnd_more {xs ws : List Int} {i : Nat} {p : Int} (h : ws[i]? = some p) : wEnd xs (ws.take (i + 1)) = sw (wEnd xs (ws.take i)) p.toNat := by
  unfold wEnd
  rw [List.take_add_one, h, List.foldl_append]
  rfl
theorem wEnd_ord {n : Nat} {xs : List Int} (o : IsOrd n xs) : ∀ {ws : List Int}, (∀ p ∈ ws, 0 ≤ p ∧ p + 1 < n) → IsOrd n (wEnd xs ws) := by
  intro ws
  induction ws generalizing xs with
  | nil => intro _; exact o
  | cons p ws ih =>
    intro h
    have hp := h p List.mem_cons_self
    exact ih (sw_ord o (by omega)) fun q hq => h q (List.mem_cons_of_mem _ hq)
theorem nodup_len : ∀ {l m : List Int}, l.Nodup → (∀ x ∈ l, x ∈ m) → l.length ≤ m.length
  | [], m, _, _ => Nat.zero_le _
  | a :: l, m, hn, hs => by
    obtain ⟨h1, h2⟩ := List.nodup_cons.mp hn
    have ha := hs a List.mem_cons_self
    have ih := nodup_len (l := l) (m := m.erase a) h2 fun x hx => by
      have ne : x ≠ a := fun e => h1 (by rw [← e]; exact hx)
      exact (List.mem_erase_of_ne ne).mpr (hs x (List.mem_cons_of_mem _ hx))
    rw [List.length_erase_of_mem ha] at ih
    have : 0 < m.length := List.length_pos_of_mem ha
    rw [List.length_cons]
    omega
theorem int_at {ns : List Int} {i : Nat} {x : Int} (h : ns[i]? = some x) : (ns.map V.int)[i]? = some (V.int x) := by
  rw [List.getElem?_map, h]
  rfl
theorem int_at_inv {ns : List Int} {i : Nat} {v : V} (h : (ns.map V.int)[i]? = some v) : ∃ x, ns[i]? = some x ∧ v = V.int x := by
  rw [List.getElem?_map] at h
  cases e : ns[i]? with
  | none => rw [e] at h; cases h
  | some x => rw [e] at h; exact ⟨x, rfl, (Option.some.inj h).symm⟩
theorem line_small {n : Nat} (h : n ≤ 16777216) : n ≤ sizeLine := by rw [sizeLine_eq]; exact h
theorem line_lt {n : Nat} (h : n < 16777216) : n < sizeLine := by rw [sizeLine_eq]; exact h
/-! ### data of ints -/
theorem dp_ints {K : PySem.W.Frag} {H : Hp} : ∀ ns : List Int, DpAll K H (ns.map V.int) (ns.map PyData.int)
  | [] => .nil
  | n :: r => .cons (.int n) (dp_ints r)
theorem dp_list {K : PySem.W.Frag} {H : Hp} {a : Addr} {ns : List Int} (h : H a = some (.lst (ns.map V.int))) : Dp K H (.ref a) (.list (ns.map PyData.int)) := .lst (SqL.of h) (dp_ints ns)
theorem eqv_int (i j : Int) : PyData.eqv (.int i) (.int j) = (i == j) := rfl
end Fo
namespace Fo
open PySem PySem.Spec PyProof.Rows L2
abbrev dI (ns : List Int) : List PyData := ns.map PyData.int
abbrev dL (ns : List Int) : PyData := .list (dI ns)
abbrev dLL (l : List (List Int)) : PyData := .list (l.map dL)
theorem lay_ints : ∀ ns : List Int, PyData.canLayAll0 (dI ns) = true
  | [] => rfl
  | n :: r => by
    show (PyData.canLay0 (.int n) && PyData.canLayAll0 (dI r)) = true
    rw [lay_ints r]
    rfl
theorem depth_ints : ∀ ns : List Int, PyData.depthAll (dI ns) = 0
  | [] => by simp [PyData.depthAll]
  | n :: r => by
    show PyData.depthAll (.int n :: dI r) = 0
    rw [PyData.depthAll, depth_ints r]
    simp [PyData.depth]
theorem lay_list (ns : List Int) : PyData.canLay0 (dL ns) = true := by
  rw [PyData.canLay0]
  exact lay_ints ns
theorem depth_list (ns : List Int) : PyData.depth (dL ns) = 1 := by
  rw [PyData.depth, depth_ints]
theorem shaped_list (ns : List Int) : SeqAt.shaped (dL ns) = true := by
  unfold SeqAt.shaped
  rw [lay_list, depth_list]
  rfl
theorem lay_lists : ∀ l : List (List Int), PyData.canLayAll0 (l.map dL) = true
  | [] => rfl
  | n :: r => by
    show (PyData.canLay0 (dL n) && PyData.canLayAll0 (r.map dL)) = true
    rw [lay_lists r, lay_list]
    rfl
theorem depth_lists : ∀ l : List (List Int), PyData.depthAll (l.map dL) ≤ 1
  | [] => by simp [PyData.depthAll]
  | n :: r => by
    show PyData.depthAll (dL n :: r.map dL) ≤ 1
    rw [PyData.depthAll, depth_list]
    have := depth_lists r
    omega
theorem shaped_lists (l : List (List Int)) : SeqAt.shaped (dLL l) = true := by
  unfold SeqAt.shaped
  rw [Bool.and_eq_true_iff]
  constructor
  · rw [PyData.canLay0]
    exact lay_lists l
  · apply decide_eq_true
    rw [PyData.depth]
    have := depth_lists l
    omega
theorem eqv_list (ns : List Int) : PyData.eqv (dL ns) (dL ns) = true := SeqAt.eqv_refl _ (lay_list ns)
theorem eqv_lists (l : List (List Int)) : PyData.eqv (dLL l) (dLL l) = true := SeqAt.eqv_refl _ (SeqAt.canLay_of_shaped (shaped_lists l))
theorem eqvAll_ints : ∀ a b : List Int, PyData.eqvAll (dI a) (dI b) = decide (a = b)
  | [], [] => by simp [PyData.eqvAll]
  | [], _ :: _ => by simp [PyData.eqvAll]
  | _ :: _, [] => by simp [PyData.eqvAll]
  | x :: a, y :: b => by
    show PyData.eqvAll (.int x :: dI a) (.int y :: dI b) = _
    rw [PyData.eqvAll, eqvAll_ints a b]
    show ((x == y) && decide (a = b)) = decide (x :: a = y :: b)
    by_cases h : x = y
    · subst h
      simp
    · simp [h]
theorem eqv_ints (a b : List Int) : PyData.eqv (dL a) (dL b) = decide (a = b) := by
  rw [PyData.eqv]
  exact eqvAll_ints a b
end Fo
namespace Fo
open PySem PySem.Spec PyProof.Rows L2
/-! ### slices of ints -/
def cutI (ws : List Int) (lo hi : Option Int) : List Int := (ws.drop (HT.sIx ws.length 0 lo)).take (HT.sIx ws.length ws.length hi - HT.sIx ws.length 0 lo)
theorem cut_ints (ws : List Int) (lo hi : Option Int) : cutV (ws.map V.int) lo hi = (cutI ws lo hi).map V.int := by
  unfold cutV cutI
  rw [List.length_map, List.map_take, List.map_drop]
theorem cutI_mem {ws : List Int} {lo hi : Option Int} {x : Int} (h : x ∈ cutI ws lo hi) : x ∈ ws := List.mem_of_mem_drop (List.mem_of_mem_take h)
theorem cutI_len (ws : List Int) (lo hi : Option Int) : (cutI ws lo hi).length ≤ ws.length := by
  unfold cutI
  rw [List.length_take, List.length_drop]
  omega
theorem cutI_head (ws : List Int) (k : Nat) : cutI ws none (some (k : Int)) = ws.take k := by
  unfold cutI
  rw [HT.sIx_none, HT.sIx_nat, List.drop_zero, Nat.sub_zero]
  by_cases h : k ≤ ws.length
  · rw [Nat.min_eq_left h]
  · rw [Nat.min_eq_right (by omega), List.take_length, List.take_of_length_le (by omega)]
theorem cutI_tail (ws : List Int) (k : Nat) : cutI ws (some (k : Int)) none = ws.drop k := by
  unfold cutI
  rw [HT.sIx_none, HT.sIx_nat]
  by_cases h : k ≤ ws.length
  · rw [Nat.min_eq_left h, List.take_of_length_le (by rw [List.length_drop]; exact Nat.le_refl _)]
  · rw [Nat.min_eq_right (by omega), List.drop_of_length_le (Nat.le_refl _), List.drop_of_length_le (by omega), List.take_nil]
end Fo
namespace Fo
open PySem PySem.Spec PyProof.Rows L2
/-! ### the text -/
def topS (i : Nat) : Stmt := PySem.Challenge.pw_farorders_k67_rings_told.main.body.getD i (.Pass ⟨0, 0, 0, 0⟩)
abbrev s_OrderError : Stmt := topS 1
abbrev s_NoOrder : Stmt := topS 2
abbrev s_TooMany : Stmt := topS 3
abbrev s_is_whole : Stmt := topS 5
abbrev s_check_few : Stmt := topS 6
abbrev s_is_order : Stmt := topS 9
abbrev s_is_order_list : Stmt := topS 10
abbrev s_places_in : Stmt := topS 11
abbrev s_check_poll : Stmt := topS 15
abbrev s_counts_ahead : Stmt := topS 16
abbrev s_ring_of : Stmt := topS 17
abbrev s_mostly_behind : Stmt := topS 18
abbrev s_ring_from : Stmt := topS 19
abbrev s_longer_paths : Stmt := topS 20
abbrev s_law_cell_at : Stmt := topS 22
abbrev s_law_stir : Stmt := topS 23
abbrev s_law_deck : Stmt := topS 24
abbrev s_law_next : Stmt := topS 25
abbrev s_law_order : Stmt := topS 26
abbrev s_law_near : Stmt := topS 27
abbrev s_law_poll : Stmt := topS 28
abbrev s_law_places : Stmt := topS 29
abbrev s_law_whole : Stmt := topS 30
abbrev s_law_copied : Stmt := topS 31
abbrev s_law_ahead : Stmt := topS 32
abbrev s_law_by_arcs : Stmt := topS 33
abbrev s_law_ring_poll : Stmt := topS 34
abbrev s_law_back : Stmt := topS 35
abbrev s_law_due : Stmt := topS 36
abbrev s_law : Stmt := topS 37
/-- a def of the text, where it stands -/
structure Df (K : PySem.W.Frag) (mg : Str → Option Value) (x : Str) (st : Stmt) (ps : List Str) (f : Addr) (fd : FuncData) : Prop where
  F : Fun K x x st f fd
  b : Binds K fd ps []
  g : mg x = some (.ref f)
/-- the built-in names as they were -/
structure Bi (mg : Str → Option Value) : Prop where
  all : mg "all" = none
  bool : mg "bool" = none
  enumerate : mg "enumerate" = none
  int : mg "int" = none
  isinstance : mg "isinstance" = none
  len : mg "len" = none
  list : mg "list" = none
  max : mg "max" = none
  min : mg "min" = none
  range : mg "range" = none
  sorted : mg "sorted" = none
end Fo
namespace Fo
open PySem PySem.Spec PyProof.Rows L2
theorem same_new {H : Hp} {p : Addr} {o : HO} (h : H p = none) : Same H (upd H p o) := fun b x e => by
  rw [upd_ne (ne_of_none e h)]
  exact e
theorem at2_0 {x y : V} : atI [x, y] 0 = some x := rfl
theorem at2_1 {x y : V} : atI [x, y] 1 = some y := rfl
end Fo
namespace Fo
open PySem PySem.Spec PyProof.Rows L2
theorem pop_perm : ∀ {xs : List Int} {k : Nat} {y : Int}, xs[k]? = some y → (y :: xs.eraseIdx k).Perm xs
  | [], k, y, h => by simp at h
  | a :: r, 0, y, h => by
    have e : a = y := Option.some.inj h
    subst e
    exact List.Perm.refl _
  | a :: r, k + 1, y, h => by
    have ih := pop_perm (xs := r) (k := k) (y := y) h
    show (y :: a :: r.eraseIdx k).Perm (a :: r)
    exact (List.Perm.swap a y _).trans (List.Perm.cons a ih)
theorem map_erase : ∀ (xs : List Int) (k : Nat), (xs.map V.int).eraseIdx k = (xs.eraseIdx k).map V.int
  | [], k => rfl
  | a :: r, 0 => rfl
  | a :: r, k + 1 => congrArg (V.int a :: ·) (map_erase r k)
/-- what len asks of a list or a tuple -/
abbrev rLenS (K : PySem.W.Frag) : List V → Hp → VK → Prop := fun xs H Q => ∃ p ys, xs = [.ref p] ∧ (SqL K H p ys ∨ SqT K H p ys) ∧ Q (.int ys.length) H
theorem seq_ix {i : Int} {k n : Nat} (e : i = (k : Int)) (h : k < n) : seqIndex? i n = some k := by
  subst e
  unfold seqIndex?
  have h1 : ¬ ((k : Int) < 0) := by omega
  simp only [h1, if_false]
  have h2 : (decide ((0 : Int) ≤ (k : Int)) && decide ((k : Int) < (n : Int))) = true := by
    simp
    omega
  rw [if_pos h2, Int.toNat_natCast]
theorem ix_n {i : Int} {k n : Nat} (e : i = (k : Int)) (h : k < n) : ixN n i = some k := by
  subst e
  unfold ixN
  rw [if_pos (by omega), if_pos (by omega), Int.toNat_natCast]
end Fo
namespace Fo
open PySem PySem.Spec PyProof.Rows L2
abbrev rMax2 : List V → Hp → VK → Prop := fun xs H Q => ∃ i j, xs = [.int i, .int j] ∧ Q (.int (if j > i then j else i)) H
abbrev rMin2 : List V → Hp → VK → Prop := fun xs H Q => ∃ i j, xs = [.int i, .int j] ∧ Q (.int (if j < i then j else i)) H
abbrev rInt1 : List V → Hp → VK → Prop := fun xs H Q => (∃ i, xs = [.int i] ∧ Q (.int i) H) ∨ ∃ k, xs = [.bl k] ∧ Q (.int (if k then 1 else 0)) H
theorem filter_more {l : List Int} {m : Nat} {x : Int} (p : Int → Bool) (h : l[m]? = some x) : (l.take (m + 1)).filter p = (l.take m).filter p ++ (if p x then [x] else []) := by
  rw [List.take_add_one, h, List.filter_append]
  show _ ++ List.filter p [x] = _
  rw [List.filter_cons]
  rfl
end Fo
namespace Fo
open PySem PySem.Spec PyProof.Rows L2
/-- a loop over enumerate of a list that stands still -/
theorem for_enumL {K : PySem.W.Frag} {a : Addr} {xs : List V} {g : TG} {tb : TS} {D : Ends} {σ : L2.St} {H : Hp} (Pv : Nat → L2.St → Hp → Prop) (h0 : Pv 0 σ H) (hq : ∀ i σ H, Pv i σ H → SqL K H a xs)
    (hs : ∀ (i : Nat) (x : V) (T : Addr) (σ : L2.St) (H : Hp), xs[i]? = some x → Pv i σ H → H T = none → g (.ref T) σ (upd H T (.tup [.int (i : Nat), x])) fun σ2 H2 => tb { D with nx := Pv (i + 1), ct := Pv (i + 1), bk := D.nx } σ2 H2) (hd : ∀ σ H, Pv xs.length σ H → D.nx σ H) :
    ∃ W : Nat → Nat → L2.St → Hp → Prop, (∃ m, W 0 m σ H) ∧ ∀ i m σ H, W i m σ H →
      ((Ite K a).stop i H ∧ D.nx σ H) ∨ ((Ite K a).go i H ∧ ∃ N : L2.St → Hp → Prop, (∀ σ' H', N σ' H' → ∃ m', m' < m ∧ W (i + 1) m' σ' H') ∧ ∀ v H', (Ite K a).yld i H v H' → g v σ H' fun σ2 H2 => tb { D with nx := N, ct := N, bk := D.nx } σ2 H2) := by
  refine ⟨fun i m σ H => m = xs.length - i ∧ i ≤ xs.length ∧ Pv i σ H, ⟨xs.length, rfl, Nat.zero_le _, h0⟩, ?_⟩
  rintro i m σ H ⟨rfl, hi, p⟩
  have qx := hq i σ H p
  by_cases hlt : i < xs.length
  · have hx : xs[i]? = some xs[i] := List.getElem?_eq_getElem hlt
    refine .inr ⟨⟨xs, _, qx, hx⟩, Pv (i + 1), fun σ' H' p' => ⟨xs.length - (i + 1), by omega, rfl, hlt, p'⟩, fun v H' y => ?_⟩
    obtain ⟨T, x', rfl, hT, rfl, f1⟩ := y
    exact hs i x' T σ H (f1 xs qx) p hT
  · have e : i = xs.length := by omega
    subst e
    exact .inl ⟨⟨xs, qx, Nat.le_refl _⟩, hd σ H p⟩
/-- a comprehension over enumerate of a list that stands still -/
theorem lc_enumL {K : PySem.W.Frag} {a : Addr} {xs : List V} {g : TG} {tt : TT} {te : TE} {vs : List Nat} {σ : L2.St} {H1 : Hp} {D : Addr} {Qd : Hp → Prop} (Pv : Nat → Hp → Prop) (h0 : Pv 0 (upd H1 D (.lst []))) (hl : ∀ i H, i ≤ xs.length → Pv i H → SqL K H a xs)
    (hs : ∀ (i : Nat) (x : V) (T : Addr) (H : Hp), xs[i]? = some x → Pv i H → H T = none → g (.ref T) (wipe σ vs) (upd H T (.tup [.int (i : Nat), x])) fun σ2 H2 => wipe σ2 vs = wipe σ vs ∧ tt σ2 H2 fun b H3 =>
      if b = true then te σ2 H3 fun y H4 => ∃ acc, H4 D = some (.lst acc) ∧ acc.length < sizeLine ∧ Pv (i + 1) (upd H4 D (.lst (acc ++ [y]))) else Pv (i + 1) H3) (hd : ∀ H, Pv xs.length H → Qd H) :
    ∃ W : Nat → Nat → Hp → Prop, (∃ m, W 0 m (upd H1 D (.lst []))) ∧ ∀ i m H, W i m H →
      ((Ite K a).stop i H ∧ Qd H) ∨ ((Ite K a).go i H ∧ ∃ Nx : Hp → Prop, (∀ H', Nx H' → ∃ m', m' < m ∧ W (i + 1) m' H') ∧ ∀ x H', (Ite K a).yld i H x H' → g x (wipe σ vs) H' fun σ2 H2 => wipe σ2 vs = wipe σ vs ∧ tt σ2 H2 fun b H3 =>
        if b = true then te σ2 H3 fun y H4 => ∃ acc, H4 D = some (.lst acc) ∧ acc.length < sizeLine ∧ Nx (upd H4 D (.lst (acc ++ [y]))) else Nx H3) := by
  refine ⟨fun i m H => m = xs.length - i ∧ i ≤ xs.length ∧ Pv i H, ⟨xs.length, by simp, Nat.zero_le _, h0⟩, ?_⟩
  rintro i m H ⟨rfl, hi, p⟩
  have q := hl i H hi p
  by_cases hlt : i < xs.length
  · refine .inr ⟨⟨xs, xs[i], q, by simp [hlt]⟩, Pv (i + 1), fun H' p' => ⟨xs.length - (i + 1), by omega, rfl, hlt, p'⟩, fun x H' y => ?_⟩
    obtain ⟨T, x', rfl, hT, rfl, f1⟩ := y
    exact hs i x' T H (f1 xs q) p hT
  · have e : i = xs.length := by omega
    subst e
    exact .inl ⟨⟨xs, q, Nat.le_refl _⟩, hd H p⟩
/-! ### the back of an order -/
def IsBack (ns ps : List Int) : Prop := ps.length = ns.length ∧ ∀ (j : Nat) (x : Int), ns[j]? = some x → ps[x.toNat]? = some (j : Int)
theorem ord_at {n : Nat} {ns : List Int} (o : IsOrd n ns) {t : Nat} (h : t < n) : ∃ j : Nat, j < n ∧ ns[j]? = some (t : Int) := by
  have m : (t : Int) ∈ ns := (List.Perm.mem_iff o).mpr (rg_mem.mpr ⟨by omega, by omega⟩)
  obtain ⟨j, hj⟩ := List.mem_iff_getElem?.mp m
  exact ⟨j, by have := (List.getElem?_eq_some_iff.mp hj).1; rw [o.len] at this; exact this, hj⟩
theorem ord_ix {n : Nat} {ns : List Int} (o : IsOrd n ns) {j : Nat} (h : j < n) : ∃ x : Int, ns[j]? = some x ∧ 0 ≤ x ∧ x < n := by
  have hj : j < ns.length := by rw [o.len]; exact h
  exact ⟨ns[j], List.getElem?_eq_getElem hj, o.mem (List.getElem_mem hj)⟩
theorem back_eq {n : Nat} {ns a b : List Int} (o : IsOrd n ns) (ha : IsBack ns a) (hb : IsBack ns b) : a = b := by
  apply List.ext_getElem?
  intro t
  by_cases h : t < n
  · obtain ⟨j, _, hj⟩ := ord_at o h
    have h1 := ha.2 j _ hj
    have h2 := hb.2 j _ hj
    rw [Int.toNat_natCast] at h1 h2
    rw [h1, h2]
  · rw [List.getElem?_eq_none (by rw [ha.1, o.len]; omega), List.getElem?_eq_none (by rw [hb.1, o.len]; omega)]
def behindL (ns ms : List Int) : List Int := ms.map fun p => ns.getD p.toNat 0
theorem behind_at {ns ms : List Int} {i : Nat} {p x : Int} (hp : ms[i]? = some p) (hx : ns[p.toNat]? = some x) : (behindL ns ms)[i]? = some x := by
  unfold behindL
  rw [List.getElem?_map, hp]
  show some (ns.getD p.toNat 0) = some x
  rw [List.getD_eq_getElem?_getD, hx]
  rfl
theorem behind_len (ns ms : List Int) : (behindL ns ms).length = ms.length := by
  unfold behindL
  rw [List.length_map]
theorem take_more {l : List Int} {i : Nat} {x : Int} (h : l[i]? = some x) : l.take (i + 1) = l.take i ++ [x] := by
  rw [List.take_add_one, h]
  rfl
theorem flat_ints : ∀ ns : List Int, (ns.map V.int).all flatV = true
  | [] => rfl
  | n :: r => by
    show (flatV (V.int n) && (r.map V.int).all flatV) = true
    rw [flat_ints r]
    rfl
theorem eqV_int (i j : Int) : eqV (.int i) (.int j) = (i == j) := rfl
end Fo
namespace Fo
open PySem PySem.Spec PyProof.Rows L2
/-! ### sums -/
def ind (b : Bool) : Nat := if b then 1 else 0
def sumN (l : List Int) (f : Int → Nat) : Nat := (l.map f).sum
theorem sumN_nil (f : Int → Nat) : sumN [] f = 0 := rfl
theorem sumN_cons (a : Int) (l : List Int) (f : Int → Nat) : sumN (a :: l) f = f a + sumN l f := by
  unfold sumN
  rw [List.map_cons, List.sum_cons]
theorem sumN_append (l m : List Int) (f : Int → Nat) : sumN (l ++ m) f = sumN l f + sumN m f := by
  unfold sumN
  rw [List.map_append, List.sum_append]
theorem sumN_perm {l m : List Int} (h : l.Perm m) (f : Int → Nat) : sumN l f = sumN m f := by
  induction h with
  | nil => rfl
  | cons x _ ih => rw [sumN_cons, sumN_cons, ih]
  | swap x y l => rw [sumN_cons, sumN_cons, sumN_cons, sumN_cons]; omega
  | trans _ _ h1 h2 => exact h1.trans h2
theorem sumN_congr {l : List Int} {f g : Int → Nat} (h : ∀ x ∈ l, f x = g x) : sumN l f = sumN l g := by
  unfold sumN
  rw [List.map_congr_left h]
theorem sumN_map (l : List Int) (g : Int → Int) (f : Int → Nat) : sumN (l.map g) f = sumN l (fun x => f (g x)) := by
  unfold sumN
  rw [List.map_map]
  rfl
theorem sumN_zero {l : List Int} {f : Int → Nat} (h : ∀ x ∈ l, f x = 0) : sumN l f = 0 := by
  rw [sumN_congr h]
  induction l with
  | nil => rfl
  | cons a l ih => rw [sumN_cons, ih fun x hx => h x (List.mem_cons_of_mem _ hx)]
theorem sumN_add (l : List Int) (f g : Int → Nat) : sumN l (fun x => f x + g x) = sumN l f + sumN l g := by
  induction l with
  | nil => rfl
  | cons a l ih => rw [sumN_cons, sumN_cons, sumN_cons, ih]; omega
theorem sumN_swap (l m : List Int) (f : Int → Int → Nat) : sumN l (fun i => sumN m (fun j => f i j)) = sumN m (fun j => sumN l (fun i => f i j)) := by
  induction l with
  | nil => exact (sumN_zero fun x _ => rfl).symm
  | cons a l ih =>
    rw [sumN_cons, ih, ← sumN_add]
    exact sumN_congr fun x _ => by rw [sumN_cons]
theorem filter_len (l : List Int) (p : Int → Bool) : (l.filter p).length = sumN l (fun x => ind (p x)) := by
  induction l with
  | nil => rfl
  | cons a l ih =>
    rw [sumN_cons, List.filter_cons]
    unfold ind at ih ⊢
    cases p a
    · simp only [Bool.false_eq_true, if_false]; omega
    · simp only [if_true, List.length_cons]; omega
/-! ### a list by its places -/
def g0 (s : List Int) (i : Int) : Int := s.getD i.toNat 0
theorem g0_at {s : List Int} {i : Nat} {x : Int} (h : s[i]? = some x) : g0 s (i : Int) = x := by
  unfold g0
  rw [Int.toNat_natCast, List.getD_eq_getElem?_getD, h]
  rfl
theorem by_places (s : List Int) : s = (rg s.length).map (g0 s) := by
  apply List.ext_getElem?
  intro i
  unfold rg
  rw [List.getElem?_map, List.getElem?_map]
  by_cases h : i < s.length
  · rw [List.getElem?_range h, List.getElem?_eq_getElem h]
    show some s[i] = some (g0 s (i : Int))
    rw [g0_at (List.getElem?_eq_getElem h)]
  · rw [List.getElem?_eq_none (by omega), List.getElem?_eq_none (by rw [List.length_range]; omega)]
    rfl
theorem rg_succ (n : Nat) : rg (n + 1) = rg n ++ [(n : Int)] := by
  unfold rg
  rw [List.range_succ, List.map_append]
  rfl
/-- how many of the later ones are less -/
def cntL (s : List Int) (i : Nat) : Nat := ((s.drop (i + 1)).filter (fun x => decide (x < g0 s i))).length
def invF (n : Nat) (a : Int → Int) : Nat := sumN (rg n) fun i => sumN (rg n) fun j => ind (decide (i < j) && decide (a j < a i))
def invN (s : List Int) : Nat := sumN (rg s.length) fun i => cntL s i.toNat
theorem drop_sum (n i : Nat) (f : Int → Nat) : sumN ((rg n).drop (i + 1)) f = sumN (rg n) fun j => if (i : Int) < j then f j else 0 := by
  induction n with
  | zero => rfl
  | succ n ih =>
    rw [rg_succ, sumN_append, ← ih, List.drop_append, sumN_append, rg_len]
    congr 1
    by_cases h : i + 1 ≤ n
    · rw [show i + 1 - n = 0 by omega, List.drop_zero, sumN_cons, sumN_cons, sumN_nil, sumN_nil, if_pos (by omega)]
    · rw [show i + 1 - n = (i - n) + 1 by omega, List.drop_succ_cons, List.drop_nil, sumN_cons, sumN_nil, sumN_nil, if_neg (by omega)]
theorem cnt_sum (s : List Int) (i : Nat) : cntL s i = sumN (rg s.length) fun j => ind (decide ((i : Int) < j) && decide (g0 s j < g0 s i)) := by
  unfold cntL
  rw [filter_len]
  have e : s.drop (i + 1) = ((rg s.length).drop (i + 1)).map (g0 s) := by
    rw [List.map_drop, ← by_places]
  rw [e, sumN_map, drop_sum]
  apply sumN_congr
  intro j _
  unfold ind
  by_cases h : (i : Int) < j
  · simp [h]
  · simp [h]
theorem inv_eq (s : List Int) : invN s = invF s.length (g0 s) := by
  unfold invN invF
  apply sumN_congr
  intro i hi
  have := rg_mem.mp hi
  rw [cnt_sum, Int.toNat_of_nonneg this.1]
/-! ### places of things -/
def pos (ys : List Int) (x : Int) : Int := ((ys.idxOf x : Nat) : Int)
def seatsL (xs ys : List Int) : List Int := xs.map (pos ys)
theorem pos_of {n : Nat} {ys : List Int} (o : IsOrd n ys) {j : Nat} {x : Int} (h : ys[j]? = some x) : pos ys x = (j : Int) := by
  obtain ⟨hj, e⟩ := List.getElem?_eq_some_iff.mp h
  have m : x ∈ ys := List.mem_of_getElem? h
  have hi : ys.idxOf x < ys.length := List.idxOf_lt_length_iff.mpr m
  have h2 : ys[ys.idxOf x]? = some x := by
    rw [List.getElem?_eq_getElem hi]
    exact congrArg some (List.getElem_idxOf hi)
  unfold pos
  rw [nd_ix o.nodup h2 h]
theorem pos_at {n : Nat} {ys : List Int} (o : IsOrd n ys) {x : Int} (h0 : 0 ≤ x) (h1 : x < n) : ∃ j : Nat, j < n ∧ ys[j]? = some x ∧ pos ys x = (j : Int) := by
  obtain ⟨j, hj, e⟩ := ord_at o (t := x.toNat) (by omega)
  rw [Int.toNat_of_nonneg h0] at e
  exact ⟨j, hj, e, pos_of o e⟩
theorem back_pos {n : Nat} {ys ps : List Int} (o : IsOrd n ys) (h : IsBack ys ps) {x : Int} (h0 : 0 ≤ x) (h1 : x < n) : ps[x.toNat]? = some (pos ys x) := by
  obtain ⟨j, hj, e, ep⟩ := pos_at o h0 h1
  rw [ep]
  exact h.2 j x e
theorem seats_len (xs ys : List Int) : (seatsL xs ys).length = xs.length := by
  unfold seatsL
  rw [List.length_map]
theorem seats_at {xs ys : List Int} {i : Nat} {x : Int} (h : xs[i]? = some x) : (seatsL xs ys)[i]? = some (pos ys x) := by
  unfold seatsL
  rw [List.getElem?_map, h]
  rfl
theorem seats_self {n : Nat} {ys : List Int} (o : IsOrd n ys) : seatsL ys ys = rg n := by
  apply List.ext_getElem?
  intro i
  by_cases h : i < n
  · obtain ⟨x, hx, _⟩ := ord_ix o h
    rw [seats_at hx, pos_of o hx]
    unfold rg
    rw [List.getElem?_map, List.getElem?_range h]
    rfl
  · rw [List.getElem?_eq_none (by rw [seats_len, o.len]; omega), List.getElem?_eq_none (by rw [rg_len]; omega)]
theorem seats_ord {n : Nat} {xs ys : List Int} (ox : IsOrd n xs) (oy : IsOrd n ys) : IsOrd n (seatsL xs ys) := by
  have h : (seatsL xs ys).Perm (seatsL ys ys) := List.Perm.map _ (ox.trans oy.symm)
  rw [seats_self oy] at h
  exact h
theorem g0_ord {n : Nat} {s : List Int} (o : IsOrd n s) : s = (rg n).map (g0 s) := by
  have e := by_places s
  rw [o.len] at e
  exact e
/-- inversions from the other side -/
theorem inv_turn {n : Nat} {s t : List Int} (os : IsOrd n s) (ot : IsOrd n t) (h : ∀ u ∈ rg n, g0 s (g0 t u) = u) : invN s = invN t := by
  rw [inv_eq, inv_eq, os.len, ot.len]
  unfold invF
  have p1 : ∀ f : Int → Nat, sumN (rg n) f = sumN (rg n) fun u => f (g0 t u) := fun f => by
    have e : sumN ((rg n).map (g0 t)) f = sumN (rg n) fun u => f (g0 t u) := sumN_map _ _ _
    rw [← e, ← g0_ord ot]
    exact (sumN_perm ot f).symm
  rw [p1]
  rw [sumN_congr (g := fun u => sumN (rg n) fun v => ind (decide (g0 t u < g0 t v) && decide (v < u))) (fun u hu => by
    rw [p1]
    exact sumN_congr fun v hv => by rw [h u hu, h v hv])]
  rw [sumN_swap]
  apply sumN_congr
  intro v _
  apply sumN_congr
  intro u _
  rw [Bool.and_comm]
theorem seats_turn {n : Nat} {xs ys : List Int} (ox : IsOrd n xs) (oy : IsOrd n ys) : ∀ u ∈ rg n, g0 (seatsL xs ys) (g0 (seatsL ys xs) u) = u := by
  intro u hu
  have hb := rg_mem.mp hu
  obtain ⟨y, hy, y0, y1⟩ := ord_ix oy (j := u.toNat) (by omega)
  have e1 : g0 (seatsL ys xs) u = pos xs y := by
    have := g0_at (seats_at (ys := xs) hy)
    rw [Int.toNat_of_nonneg hb.1] at this
    exact this
  obtain ⟨j, hj, ej, pj⟩ := pos_at ox y0 y1
  rw [e1, pj, g0_at (seats_at (ys := ys) ej), pos_of oy hy]
  omega
/-! ### how far two orders are -/
def farSwap (xs ys : List Int) : Int := ((invN (seatsL xs ys) : Nat) : Int)
def spotL (xs ys : List Int) : List Int := (rg xs.length).filter fun p => !decide (g0 xs p = g0 ys p)
def farSpot (xs ys : List Int) : Int := (((spotL xs ys).length : Nat) : Int)
def absI (i : Int) : Int := if i < 0 then -i else i
def gapsL (xs ys : List Int) : List Int := (rg xs.length).map fun p => absI (p - g0 (seatsL xs ys) p)
def maxL (l : List Int) : Int := l.foldr max 0
def farShift (xs ys : List Int) : Int := maxL (gapsL xs ys)
theorem maxL_of : ∀ {l : List Int} {m : Int}, (∀ x ∈ l, 0 ≤ x) → m ∈ l → (∀ x ∈ l, x ≤ m) → maxL l = m := by
  intro l m h0 hm hle
  have key : ∀ l : List Int, (∀ x ∈ l, x ≤ m) → maxL l ≤ m := by
    intro l hl
    induction l with
    | nil => exact h0 m hm
    | cons a l ih =>
      show max a (maxL l) ≤ m
      have h1 := hl a List.mem_cons_self
      have h2 := ih fun x hx => hl x (List.mem_cons_of_mem _ hx)
      omega
  have key2 : ∀ l : List Int, ∀ x ∈ l, x ≤ maxL l := by
    intro l
    induction l with
    | nil => intro x hx; exact absurd hx List.not_mem_nil
    | cons a l ih =>
      intro x hx
      show x ≤ max a (maxL l)
      rcases List.mem_cons.mp hx with rfl | hx
      · omega
      · have := ih x hx
        omega
  have := key l hle
  have := key2 l m hm
  omega
theorem gaps_nonneg (xs ys : List Int) : ∀ x ∈ gapsL xs ys, 0 ≤ x := by
  intro x hx
  obtain ⟨p, _, rfl⟩ := List.mem_map.mp hx
  unfold absI
  split <;> omega
theorem maxL_mem {l : List Int} (h0 : ∀ x ∈ l, 0 ≤ x) (hl : 0 < l.length) : maxL l ∈ l ∧ ∀ x ∈ l, x ≤ maxL l := by
  induction l with
  | nil => exact absurd hl (Nat.lt_irrefl _)
  | cons a l ih =>
    show max a (maxL l) ∈ a :: l ∧ ∀ x ∈ a :: l, x ≤ max a (maxL l)
    by_cases c : 0 < l.length
    · obtain ⟨h1, h2⟩ := ih (fun x hx => h0 x (List.mem_cons_of_mem _ hx)) c
      constructor
      · by_cases d : maxL l ≤ a
        · rw [Int.max_eq_left d]
          exact List.mem_cons_self
        · rw [Int.max_eq_right (by omega)]
          exact List.mem_cons_of_mem _ h1
      · intro x hx
        rcases List.mem_cons.mp hx with rfl | hx
        · omega
        · have := h2 x hx
          omega
    · have e : l = [] := List.eq_nil_of_length_eq_zero (by omega)
      subst e
      have := h0 a List.mem_cons_self
      have e2 : max a (maxL []) = a := by show max a 0 = a; omega
      rw [e2]
      exact ⟨List.mem_cons_self, fun x hx => by rw [List.mem_singleton.mp hx]; exact Int.le_refl _⟩
theorem farSwap_turn {n : Nat} {xs ys : List Int} (ox : IsOrd n xs) (oy : IsOrd n ys) : farSwap ys xs = farSwap xs ys := by
  unfold farSwap
  rw [inv_turn (seats_ord ox oy) (seats_ord oy ox) (seats_turn ox oy)]
theorem inv_rg (n : Nat) : invN (rg n) = 0 := by
  rw [inv_eq]
  unfold invF
  apply sumN_zero
  intro i hi
  apply sumN_zero
  intro j hj
  rw [rg_len] at hi hj
  have hi2 := rg_mem.mp hi
  have hj2 := rg_mem.mp hj
  have e : ∀ k : Int, k ∈ rg n → g0 (rg n) k = k := fun k hk => by
    have := rg_mem.mp hk
    have z : (rg n)[k.toNat]? = some k := by
      unfold rg
      rw [List.getElem?_map, List.getElem?_range (by omega)]
      show some ((k.toNat : Nat) : Int) = some k
      rw [Int.toNat_of_nonneg this.1]
    have z2 := g0_at z
    rw [Int.toNat_of_nonneg this.1] at z2
    exact z2
  rw [e i hi, e j hj]
  unfold ind
  by_cases c : i < j
  · have d : ¬ j < i := by omega
    simp [c, d]
  · simp [c]
theorem farSwap_self {n : Nat} {xs : List Int} (ox : IsOrd n xs) : farSwap xs xs = 0 := by
  unfold farSwap
  rw [seats_self ox, inv_rg]
  rfl
theorem farSpot_turn {xs ys : List Int} (h : xs.length = ys.length) : farSpot ys xs = farSpot xs ys := by
  unfold farSpot spotL
  rw [h]
  congr 3
  funext p
  congr 1
  by_cases c : g0 ys p = g0 xs p
  · rw [decide_eq_true c, decide_eq_true c.symm]
  · rw [decide_eq_false c, decide_eq_false fun e => c e.symm]
theorem farSpot_self (xs : List Int) : farSpot xs xs = 0 := by
  unfold farSpot spotL
  have e : ((rg xs.length).filter fun p => !decide (g0 xs p = g0 xs p)) = [] := by
    rw [List.filter_eq_nil_iff]
    intro a _
    simp
  rw [e]
  rfl
theorem gaps_len (xs ys : List Int) : (gapsL xs ys).length = xs.length := by
  unfold gapsL
  rw [List.length_map, rg_len]
theorem gaps_sub {n : Nat} {xs ys : List Int} (ox : IsOrd n xs) (oy : IsOrd n ys) : ∀ g ∈ gapsL ys xs, g ∈ gapsL xs ys := by
  intro g hg
  obtain ⟨u, hu, rfl⟩ := List.mem_map.mp hg
  rw [oy.len] at hu
  have hb := (seats_ord oy ox).mem (x := g0 (seatsL ys xs) u) (by
    have e := g0_ord (seats_ord oy ox)
    rw [e]
    exact List.mem_map.mpr ⟨u, hu, by rw [← e]⟩)
  refine List.mem_map.mpr ⟨g0 (seatsL ys xs) u, by rw [ox.len]; exact rg_mem.mpr hb, ?_⟩
  rw [seats_turn ox oy u hu]
  unfold absI
  split <;> split <;> omega
theorem farShift_turn {n : Nat} {xs ys : List Int} (ox : IsOrd n xs) (oy : IsOrd n ys) (hn : 1 ≤ n) : farShift ys xs = farShift xs ys := by
  unfold farShift
  obtain ⟨h1, h2⟩ := maxL_mem (gaps_nonneg xs ys) (by rw [gaps_len, ox.len]; exact hn)
  exact maxL_of (gaps_nonneg ys xs) (gaps_sub oy ox _ h1) fun x hx => h2 x (gaps_sub ox oy x hx)
theorem farShift_self {n : Nat} {xs : List Int} (ox : IsOrd n xs) (hn : 1 ≤ n) : farShift xs xs = 0 := by
  unfold farShift
  have z : ∀ g ∈ gapsL xs xs, g = 0 := by
    intro g hg
    obtain ⟨u, hu, rfl⟩ := List.mem_map.mp hg
    rw [ox.len] at hu
    have hb := rg_mem.mp hu
    rw [seats_self ox]
    have e : (rg n)[u.toNat]? = some u := by
      unfold rg
      rw [List.getElem?_map, List.getElem?_range (by omega)]
      show some ((u.toNat : Nat) : Int) = some u
      rw [Int.toNat_of_nonneg hb.1]
    have z2 := g0_at e
    rw [Int.toNat_of_nonneg hb.1] at z2
    rw [z2]
    unfold absI
    split <;> omega
  obtain ⟨h1, _⟩ := maxL_mem (gaps_nonneg xs xs) (by rw [gaps_len, ox.len]; exact hn)
  exact z _ h1
end Fo
namespace Fo
open PySem PySem.Spec PyProof.Rows L2
theorem pos_ord {n : Nat} {xs : List Int} (o : IsOrd n xs) : IsOrd n ((rg n).map (pos xs)) := by
  have h : ((rg n).map (pos xs)).Perm (seatsL xs xs) := List.Perm.map _ o.symm
  rw [seats_self o] at h
  exact h
theorem pos_in {n : Nat} {xs : List Int} (o : IsOrd n xs) {t : Int} (h : t ∈ rg n) : pos xs t ∈ rg n := by
  have := (pos_ord o).mem (List.mem_map.mpr ⟨t, h, rfl⟩)
  exact rg_mem.mpr this
theorem pos_inj {n : Nat} {xs : List Int} (o : IsOrd n xs) {t u : Int} (ht : t ∈ rg n) (hu : u ∈ rg n) (e : pos xs t = pos xs u) : t = u := by
  have h1 := rg_mem.mp ht
  have h2 := rg_mem.mp hu
  obtain ⟨i, _, ei, pi⟩ := pos_at o h1.1 h1.2
  obtain ⟨j, _, ej, pj⟩ := pos_at o h2.1 h2.2
  have : i = j := by omega
  subst this
  exact Option.some.inj (ei.symm.trans ej)
/-- a sum over the places is a sum over the things -/
theorem sum_pos {n : Nat} {xs : List Int} (o : IsOrd n xs) (f : Int → Nat) : sumN (rg n) f = sumN (rg n) fun t => f (pos xs t) := by
  have e : sumN ((rg n).map (pos xs)) f = sumN (rg n) fun t => f (pos xs t) := sumN_map _ _ _
  rw [← e]
  exact (sumN_perm (pos_ord o) f).symm
theorem sum_g0 {n : Nat} {xs : List Int} (o : IsOrd n xs) (f : Int → Nat) : sumN (rg n) f = sumN (rg n) fun p => f (g0 xs p) := by
  have e : sumN ((rg n).map (g0 xs)) f = sumN (rg n) fun t => f (g0 xs t) := sumN_map _ _ _
  rw [← e, ← g0_ord o]
  exact (sumN_perm o f).symm
theorem g0_pos {n : Nat} {xs : List Int} (o : IsOrd n xs) {t : Int} (h : t ∈ rg n) : g0 xs (pos xs t) = t := by
  have h1 := rg_mem.mp h
  obtain ⟨j, _, ej, pj⟩ := pos_at o h1.1 h1.2
  rw [pj]
  exact g0_at ej
theorem pos_g0 {n : Nat} {xs : List Int} (o : IsOrd n xs) {p : Int} (h : p ∈ rg n) : pos xs (g0 xs p) = p := by
  have h1 := rg_mem.mp h
  obtain ⟨x, hx, _⟩ := ord_ix o (j := p.toNat) (by omega)
  have e := g0_at hx
  rw [Int.toNat_of_nonneg h1.1] at e
  rw [e, pos_of o hx]
  omega
theorem g0_in {n : Nat} {xs : List Int} (o : IsOrd n xs) {p : Int} (h : p ∈ rg n) : g0 xs p ∈ rg n := by
  have h1 := rg_mem.mp h
  obtain ⟨x, hx, x0, x1⟩ := ord_ix o (j := p.toNat) (by omega)
  have e := g0_at hx
  rw [Int.toNat_of_nonneg h1.1] at e
  rw [e]
  exact rg_mem.mpr ⟨x0, x1⟩
end Fo
namespace Fo
open PySem PySem.Spec PyProof.Rows L2
/-! ### all orders of few things -/
def extO (n : Nat) (o : List Int) : List (List Int) := ((rg n).filter fun t => !decide (t ∈ o)).map fun t => o ++ [t]
def allK (n : Nat) : Nat → List (List Int)
  | 0 => [[]]
  | k + 1 => (allK n k).flatMap (extO n)
theorem allK_row {n : Nat} : ∀ (k : Nat) (r : List Int), r ∈ allK n k → r.length = k ∧ r.Nodup ∧ ∀ x ∈ r, x ∈ rg n
  | 0, r, h => by
    rw [List.mem_singleton.mp h]
    exact ⟨rfl, List.nodup_nil, fun x hx => absurd hx List.not_mem_nil⟩
  | k + 1, r, h => by
    obtain ⟨o, ho, hr⟩ := List.mem_flatMap.mp h
    obtain ⟨h1, h2, h3⟩ := allK_row k o ho
    obtain ⟨t, ht, rfl⟩ := List.mem_map.mp hr
    obtain ⟨ht1, ht2⟩ := List.mem_filter.mp ht
    have hto : t ∉ o := by simpa using ht2
    refine ⟨by rw [List.length_append, h1]; rfl, ?_, fun x hx => ?_⟩
    · rw [List.nodup_append]
      refine ⟨h2, List.nodup_cons.mpr ⟨List.not_mem_nil, List.nodup_nil⟩, fun x hx y hy e => ?_⟩
      rw [List.mem_singleton.mp hy] at e
      exact hto (by rw [← e]; exact hx)
    · rcases List.mem_append.mp hx with hx | hx
      · exact h3 x hx
      · rw [List.mem_singleton.mp hx]
        exact ht1
theorem extO_len (n : Nat) (o : List Int) : (extO n o).length ≤ n := by
  unfold extO
  rw [List.length_map]
  have := List.length_filter_le (fun t => !decide (t ∈ o)) (rg n)
  rw [rg_len] at this
  exact this
theorem flat_len (n : Nat) : ∀ l : List (List Int), (l.flatMap (extO n)).length ≤ l.length * n
  | [] => Nat.zero_le _
  | o :: l => by
    rw [List.flatMap_cons, List.length_append, List.length_cons, Nat.add_mul, Nat.one_mul]
    have := flat_len n l
    have := extO_len n o
    omega
theorem allK_len {n : Nat} (hn : n ≤ 6) : ∀ k, k ≤ n → (allK n k).length ≤ 6 ^ k
  | 0, _ => Nat.le_refl _
  | k + 1, hk => by
    have ih := allK_len hn k (by omega)
    have h1 : (allK n (k + 1)).length ≤ (allK n k).length * n := flat_len n (allK n k)
    have h2 : (allK n k).length * n ≤ 6 ^ k * 6 := Nat.mul_le_mul ih hn
    rw [Nat.pow_succ]
    omega
theorem pow6 {k : Nat} (h : k ≤ 6) : 6 ^ k ≤ 46656 := by
  have : 6 ^ k ≤ 6 ^ 6 := Nat.pow_le_pow_right (by decide) h
  exact this
theorem nodup_count : ∀ {l : List Int}, l.Nodup → ∀ a, l.count a = if a ∈ l then 1 else 0
  | [], _, a => by simp
  | b :: l, h, a => by
    obtain ⟨h1, h2⟩ := List.nodup_cons.mp h
    have ih := nodup_count h2 a
    rw [List.count_cons, ih]
    by_cases c : b = a
    · subst c
      simp [h1]
    · have c2 : ¬ a = b := fun e => c e.symm
      simp [c, c2]
theorem nodup_ord {n : Nat} {s : List Int} (hl : s.length = n) (hn : s.Nodup) (hb : ∀ x ∈ s, x ∈ rg n) : IsOrd n s := by
  unfold IsOrd
  rw [List.perm_iff_count]
  intro a
  rw [nodup_count hn, nodup_count (rg_nodup n)]
  by_cases c : a ∈ s
  · rw [if_pos c, if_pos (hb a c)]
  · rw [if_neg c]
    by_cases d : a ∈ rg n
    · exfalso
      have := nodup_len (l := a :: s) (m := rg n) (List.nodup_cons.mpr ⟨c, hn⟩) fun x hx => by
        rcases List.mem_cons.mp hx with rfl | hx
        · exact d
        · exact hb x hx
      rw [List.length_cons, rg_len] at this
      omega
    · rw [if_neg d]
theorem all_ord {n : Nat} {r : List Int} (h : r ∈ allK n n) : IsOrd n r := by
  obtain ⟨h1, h2, h3⟩ := allK_row n r h
  exact nodup_ord h1 h2 h3
theorem inV_int (t : Int) : ∀ row : List Int, inV (.int t) (row.map V.int) = decide (t ∈ row)
  | [] => rfl
  | a :: r => by
    have ih := inV_int t r
    unfold inV at ih ⊢
    rw [List.map_cons, List.any_cons, ih, eqV_int]
    by_cases c : a = t
    · subst c
      simp
    · have c2 : ¬ t = a := fun e => c e.symm
      simp [c, c2]
theorem ext_more {n : Nat} {o : List Int} (j : Nat) : ((rg (j + 1)).filter fun t => !decide (t ∈ o)).map (fun t => o ++ [t]) = (((rg j).filter fun t => !decide (t ∈ o)).map fun t => o ++ [t]) ++ (if (j : Int) ∈ o then [] else [o ++ [(j : Int)]]) := by
  rw [rg_succ, List.filter_append, List.map_append, List.filter_cons]
  congr 1
  by_cases c : (j : Int) ∈ o
  · rw [decide_eq_true c, if_pos c]
    rfl
  · rw [decide_eq_false c, if_neg c]
    rfl
/-! ### comprehensions with two fors: a list, then a range -/
theorem lc2_list {K : PySem.W.Frag} {a : Addr} {xs : List V} {g : TG} {tt : TT} {wi1 : TI} {g1 : TG} {tt1 : TT} {te : TE} {vs vs1 : List Nat} {σ : L2.St} {H1 : Hp} {D : Addr} {Qd : Hp → Prop} (Pv : Nat → Hp → Prop) (h0 : Pv 0 (upd H1 D (.lst []))) (hl : ∀ i H, i ≤ xs.length → Pv i H → SqL K H a xs)
    (hs : ∀ i x H, xs[i]? = some x → Pv i H → g x (wipe σ vs) H fun σ2 H2 => wipe σ2 vs = wipe σ vs ∧ tt σ2 H2 fun b H3 =>
      if b = true then wi1 σ2 H3 fun J1 H4 => ∃ W1 : Nat → Nat → Hp → Prop, (∃ m, W1 0 m H4) ∧ ∀ j k H, W1 j k H →
        (J1.stop j H ∧ Pv (i + 1) H) ∨ (J1.go j H ∧ ∃ Nx1 : Hp → Prop, (∀ H', Nx1 H' → ∃ k', k' < k ∧ W1 (j + 1) k' H') ∧ ∀ x H', J1.yld j H x H' → g1 x (wipe σ2 vs1) H' fun σ3 H5 => wipe σ3 vs1 = wipe σ2 vs1 ∧ tt1 σ3 H5 fun b H6 =>
          if b = true then te σ3 H6 fun y H7 => ∃ acc, H7 D = some (.lst acc) ∧ acc.length < sizeLine ∧ Nx1 (upd H7 D (.lst (acc ++ [y]))) else Nx1 H6)
      else Pv (i + 1) H3) (hd : ∀ H, Pv xs.length H → Qd H) :
    ∃ W : Nat → Nat → Hp → Prop, (∃ m, W 0 m (upd H1 D (.lst []))) ∧ ∀ i m H, W i m H →
      ((Itl K a).stop i H ∧ Qd H) ∨ ((Itl K a).go i H ∧ ∃ Nx : Hp → Prop, (∀ H', Nx H' → ∃ m', m' < m ∧ W (i + 1) m' H') ∧ ∀ x H', (Itl K a).yld i H x H' → g x (wipe σ vs) H' fun σ2 H2 => wipe σ2 vs = wipe σ vs ∧ tt σ2 H2 fun b H3 =>
        if b = true then wi1 σ2 H3 fun J1 H4 => ∃ W1 : Nat → Nat → Hp → Prop, (∃ m, W1 0 m H4) ∧ ∀ j k H, W1 j k H →
          (J1.stop j H ∧ Nx H) ∨ (J1.go j H ∧ ∃ Nx1 : Hp → Prop, (∀ H', Nx1 H' → ∃ k', k' < k ∧ W1 (j + 1) k' H') ∧ ∀ x H', J1.yld j H x H' → g1 x (wipe σ2 vs1) H' fun σ3 H5 => wipe σ3 vs1 = wipe σ2 vs1 ∧ tt1 σ3 H5 fun b H6 =>
            if b = true then te σ3 H6 fun y H7 => ∃ acc, H7 D = some (.lst acc) ∧ acc.length < sizeLine ∧ Nx1 (upd H7 D (.lst (acc ++ [y]))) else Nx1 H6)
        else Nx H3) := by
  refine ⟨fun i m H => m = xs.length - i ∧ i ≤ xs.length ∧ Pv i H, ⟨xs.length, by simp, Nat.zero_le _, h0⟩, ?_⟩
  rintro i m H ⟨rfl, hi, p⟩
  have q := hl i H hi p
  by_cases hlt : i < xs.length
  · refine .inr ⟨⟨xs, xs[i], q, by simp [hlt]⟩, Pv (i + 1), fun H' p' => ⟨xs.length - (i + 1), by omega, rfl, hlt, p'⟩, fun x H' y => ?_⟩
    obtain ⟨e, y⟩ := y
    subst e
    exact hs i x _ (y _ q) p
  · have e : i = xs.length := by omega
    subst e
    exact .inl ⟨⟨xs, q, Nat.le_refl _⟩, hd H p⟩
theorem in_range {lo : Int} {n : Nat} {g1 : TG} {tt1 : TT} {te : TE} {vs1 : List Nat} {σ2 : L2.St} {H4 : Hp} {D : Addr} {Nx : Hp → Prop} (Pw : Nat → Hp → Prop) (h0 : Pw 0 H4)
    (hs : ∀ j H, j < n → Pw j H → g1 (.int (lo + j)) (wipe σ2 vs1) H fun σ3 H5 => wipe σ3 vs1 = wipe σ2 vs1 ∧ tt1 σ3 H5 fun b H6 =>
      if b = true then te σ3 H6 fun y H7 => ∃ acc, H7 D = some (.lst acc) ∧ acc.length < sizeLine ∧ Pw (j + 1) (upd H7 D (.lst (acc ++ [y]))) else Pw (j + 1) H6) (hd : ∀ H, Pw n H → Nx H) :
    ∃ W1 : Nat → Nat → Hp → Prop, (∃ m, W1 0 m H4) ∧ ∀ j k H, W1 j k H →
      ((Itr lo n).stop j H ∧ Nx H) ∨ ((Itr lo n).go j H ∧ ∃ Nx1 : Hp → Prop, (∀ H', Nx1 H' → ∃ k', k' < k ∧ W1 (j + 1) k' H') ∧ ∀ x H', (Itr lo n).yld j H x H' → g1 x (wipe σ2 vs1) H' fun σ3 H5 => wipe σ3 vs1 = wipe σ2 vs1 ∧ tt1 σ3 H5 fun b H6 =>
        if b = true then te σ3 H6 fun y H7 => ∃ acc, H7 D = some (.lst acc) ∧ acc.length < sizeLine ∧ Nx1 (upd H7 D (.lst (acc ++ [y]))) else Nx1 H6) := by
  refine ⟨fun j m H => m = n - j ∧ j ≤ n ∧ Pw j H, ⟨n, by simp, Nat.zero_le _, h0⟩, ?_⟩
  rintro j m H ⟨rfl, hi, p⟩
  by_cases hlt : j < n
  · refine .inr ⟨hlt, Pw (j + 1), fun H' p' => ⟨n - (j + 1), by omega, rfl, hlt, p'⟩, fun x H' y => ?_⟩
    obtain ⟨e, y⟩ := y
    subst e y
    exact hs j _ hlt p
  · have e : j = n := by omega
    subst e
    exact .inl ⟨Nat.le_refl _, hd H p⟩
end Fo
namespace Fo
open PySem PySem.Spec PyProof.Rows L2
/-- all orders stand in order -/
theorem extO_sorted (n : Nat) (o : List Int) : (extO n o).Pairwise (· < ·) := by
  unfold extO
  rw [List.pairwise_map]
  have h : (rg n).Pairwise (· < ·) := by
    unfold rg
    exact List.Pairwise.map _ (fun a b h => by omega) List.pairwise_lt_range
  exact (h.filter _).imp fun {a b} h => by
    induction o with
    | nil => exact List.cons_lt_cons_iff.mpr (.inl h)
    | cons x o ih => exact List.cons_lt_cons_iff.mpr (.inr ⟨rfl, ih⟩)
theorem lt_snoc {a b : List Int} (hl : a.length = b.length) (h : a < b) (x y : Int) : a ++ [x] < b ++ [y] := by
  induction a generalizing b with
  | nil =>
    match b, hl with
    | [], _ => exact absurd h (List.lt_irrefl _)
  | cons u a ih =>
    match b, hl with
    | v :: b, hl =>
      rcases List.cons_lt_cons_iff.mp h with h1 | ⟨h1, h2⟩
      · exact List.cons_lt_cons_iff.mpr (.inl h1)
      · exact List.cons_lt_cons_iff.mpr (.inr ⟨h1, ih (by simpa using hl) h2⟩)
theorem allK_sorted {n : Nat} : ∀ k, (allK n k).Pairwise (· < ·)
  | 0 => List.pairwise_singleton _ _
  | k + 1 => by
    show List.Pairwise _ ((allK n k).flatMap (extO n))
    rw [List.pairwise_flatMap]
    refine ⟨fun o _ => extO_sorted n o, (allK_sorted k).imp_of_mem fun {a b} ha hb h x hx y hy => ?_⟩
    obtain ⟨t, _, rfl⟩ := List.mem_map.mp hx
    obtain ⟨u, _, rfl⟩ := List.mem_map.mp hy
    exact lt_snoc (by rw [(allK_row k a ha).1, (allK_row k b hb).1]) h t u
theorem allK_mem {n : Nat} : ∀ (k : Nat) (r : List Int), r.length = k → r.Nodup → (∀ x ∈ r, x ∈ rg n) → r ∈ allK n k
  | 0, r, hl, _, _ => by rw [List.length_eq_zero_iff.mp hl]; exact List.mem_cons_self
  | k + 1, r, hl, hn, hs => by
    have hne : r ≠ [] := fun e => by rw [e] at hl; cases hl
    have e := List.dropLast_concat_getLast hne
    rw [← e] at hn hs ⊢
    rw [List.nodup_append] at hn
    have ih := allK_mem k r.dropLast (by rw [List.length_dropLast, hl]; rfl) hn.1 fun x hx => hs x (List.mem_append.mpr (.inl hx))
    refine List.mem_flatMap.mpr ⟨_, ih, List.mem_map.mpr ⟨r.getLast hne, List.mem_filter.mpr ⟨hs _ (List.mem_append.mpr (.inr (List.mem_singleton.mpr rfl))), ?_⟩, rfl⟩⟩
    rw [decide_eq_false (fun z => hn.2.2 _ z _ (List.mem_singleton.mpr rfl) rfl)]
    rfl
theorem ord_mem {n : Nat} {r : List Int} (o : IsOrd n r) : r ∈ allK n n := allK_mem n r o.len o.nodup fun x hx => rg_mem.mpr (o.mem hx)
end Fo
namespace Fo
open PySem PySem.Spec PyProof.Rows L2
/-! ### walks from a thing over greater ones, and rings -/
inductive Wk (fl : Int → List Int) (z : Int) : Nat → List Int → Int → Prop where
  | nil : Wk fl z 0 [z] z
  | snoc {k : Nat} {p : List Int} {v u : Int} : Wk fl z k p v → u ∈ fl v → z < u → Wk fl z (k + 1) (p ++ [u]) u
section
variable {fl : Int → List Int} {z : Int}
theorem Wk.len {k : Nat} {p : List Int} {v : Int} (h : Wk fl z k p v) : p.length = k + 1 := by
  induction h with
  | nil => rfl
  | snoc _ _ _ ih => rw [List.length_append, ih]; rfl
theorem Wk.last {k : Nat} {p : List Int} {v : Int} (h : Wk fl z k p v) : p.getLastD 0 = v := by
  cases h with
  | nil => rfl
  | snoc h _ _ => simp
theorem Wk.at_last {k : Nat} {p : List Int} {v : Int} (h : Wk fl z k p v) : p[k]? = some v := by
  cases h with
  | nil => rfl
  | @snoc k p v u h _ _ => rw [List.getElem?_append_right (by rw [h.len]; omega), h.len]; simp
theorem Wk.ge {k : Nat} {p : List Int} {v : Int} (h : Wk fl z k p v) : z ≤ v := by
  cases h with
  | nil => exact Int.le_refl _
  | snoc _ _ h => exact Int.le_of_lt h
theorem Wk.zero {p : List Int} {v : Int} (h : Wk fl z 0 p v) : p = [z] ∧ v = z := by
  cases h
  exact ⟨rfl, rfl⟩
theorem Wk.succ {k : Nat} {p : List Int} {v : Int} (h : Wk fl z (k + 1) p v) : ∃ (p' : List Int) (v' : Int), p = p' ++ [v] ∧ Wk fl z k p' v' ∧ v ∈ fl v' ∧ z < v := by
  cases h with
  | snoc h1 h2 h3 => exact ⟨_, _, rfl, h1, h2, h3⟩
theorem snoc_le {a b : List Int} {x y : Int} (hl : a.length = b.length) (h : a ≤ b) (hxy : x ≤ y) : a ++ [x] ≤ b ++ [y] := by
  rcases List.le_iff_lt_or_eq.mp h with h | h
  · exact List.le_of_lt (lt_snoc hl h x y)
  · subst h
    induction a with
    | nil =>
      show [x] ≤ [y]
      rw [List.cons_le_cons_iff]
      by_cases c : x < y
      · exact .inl c
      · exact .inr ⟨by omega, List.le_refl _⟩
    | cons u a ih =>
      show u :: (a ++ [x]) ≤ u :: (a ++ [y])
      rw [List.cons_le_cons_iff]
      exact .inr ⟨rfl, ih rfl (List.le_refl _)⟩
theorem snoc_lt (a : List Int) {x y : Int} (h : x < y) : a ++ [x] < a ++ [y] := by
  induction a with
  | nil => exact List.cons_lt_cons_iff.mpr (.inl h)
  | cons u a ih => exact List.cons_lt_cons_iff.mpr (.inr ⟨rfl, ih⟩)
/-- the paths of one length, the first ones to things not reached before -/
structure BInv (fl : Int → List Int) (z : Int) (k : Nat) (P : List (List Int)) (Rb R : Int → Prop) : Prop where
  a : ∀ p ∈ P, ∃ v, Wk fl z k p v ∧ ¬ Rb v
  b : P.Pairwise (· < ·)
  c : ∀ w v, Wk fl z k w v → Rb v ∨ ∃ p ∈ P, p.getLastD 0 = v ∧ p ≤ w
  d : ∀ j < k, ∀ w v, Wk fl z j w v → Rb v
  e : ∀ v, Rb v → z ≤ v → z ∉ fl v
  f : ∀ v, Rb v → z ≤ v → ∀ u ∈ fl v, z < u → R u
  r : ∀ u, R u ↔ (Rb u ∨ ∃ p ∈ P, p.getLastD 0 = u)
  h : ∀ u, u ≤ z → R u
theorem binv0 : BInv fl z 0 [[z]] (fun u => u < z) (fun u => u ≤ z) where
  a := fun p hp => by
    rw [List.mem_singleton.mp hp]
    exact ⟨z, .nil, Int.lt_irrefl z⟩
  b := List.pairwise_singleton _ _
  c := fun w v h => by
    obtain ⟨rfl, rfl⟩ := h.zero
    exact .inr ⟨[v], List.mem_singleton.mpr rfl, rfl, List.le_refl _⟩
  d := fun j h => absurd h (Nat.not_lt_zero j)
  e := fun v h1 h2 => by omega
  f := fun v h1 h2 => by omega
  r := fun u => by
    constructor
    · intro h
      by_cases c : u < z
      · exact .inl c
      · exact .inr ⟨[z], List.mem_singleton.mpr rfl, by show z = u; omega⟩
    · rintro (h | ⟨p, hp, e⟩)
      · exact Int.le_of_lt h
      · rw [List.mem_singleton.mp hp] at e
        have e2 : z = u := e
        omega
  h := fun u h => h
/-- what one turn makes of them -/
structure BStep (fl : Int → List Int) (P P' : List (List Int)) (R R' : Int → Prop) : Prop where
  a : ∀ q ∈ P', ∃ p ∈ P, ∃ u ∈ fl (p.getLastD 0), q = p ++ [u] ∧ ¬ R u
  b : P'.Pairwise (· < ·)
  r : ∀ u, R' u ↔ (R u ∨ ∃ q ∈ P', q.getLastD 0 = u)
  g : ∀ p ∈ P, ∀ u ∈ fl (p.getLastD 0), R u ∨ ∃ q ∈ P', q.getLastD 0 = u ∧ q ≤ p ++ [u]
theorem binv_step {k : Nat} {P P' : List (List Int)} {Rb R R' : Int → Prop} (I : BInv fl z k P Rb R) (hno : ∀ p ∈ P, z ∉ fl (p.getLastD 0)) (S : BStep fl P P' R R') : BInv fl z (k + 1) P' R R' where
  a := fun q hq => by
    obtain ⟨p, hp, u, hu, rfl, hR⟩ := S.a q hq
    obtain ⟨v, hw, _⟩ := I.a p hp
    rw [hw.last] at hu
    have hz : z < u := by
      by_cases c : u ≤ z
      · exact absurd (I.h u c) hR
      · omega
    exact ⟨u, .snoc hw hu hz, hR⟩
  b := S.b
  c := fun w v hw => by
    obtain ⟨w', v', rfl, hw', hv, hz⟩ := hw.succ
    rcases I.c w' v' hw' with h | ⟨p, hp, e, hle⟩
    · exact .inl (I.f v' h hw'.ge v hv hz)
    · rcases S.g p hp v (by rw [e]; exact hv) with h | ⟨q, hq, e2, hle2⟩
      · exact .inl h
      · obtain ⟨v2, hp2, _⟩ := I.a p hp
        exact .inr ⟨q, hq, e2, List.le_trans hle2 (snoc_le (by rw [hp2.len, hw'.len]) hle (Int.le_refl _))⟩
  d := fun j hj w v hw => by
    by_cases c : j < k
    · exact (I.r v).mpr (.inl (I.d j c w v hw))
    · have e : j = k := by omega
      subst e
      rcases I.c w v hw with h | ⟨p, hp, e, _⟩
      · exact (I.r v).mpr (.inl h)
      · exact (I.r v).mpr (.inr ⟨p, hp, e⟩)
  e := fun v hv hz => by
    rcases (I.r v).mp hv with h | ⟨p, hp, e⟩
    · exact I.e v h hz
    · rw [← e]
      exact hno p hp
  f := fun v hv hz u hu hzu => by
    rcases (I.r v).mp hv with h | ⟨p, hp, e⟩
    · exact (S.r u).mpr (.inl (I.f v h hz u hu hzu))
    · rcases S.g p hp u (by rw [e]; exact hu) with h | ⟨q, hq, e2, _⟩
      · exact (S.r u).mpr (.inl h)
      · exact (S.r u).mpr (.inr ⟨q, hq, e2⟩)
  r := S.r
  h := fun u h => (S.r u).mpr (.inl (I.h u h))
/-- the first of the shortest rings whose least thing is z, or none -/
def RingAt (fl : Int → List Int) (z : Int) : Option (List Int) → Prop
  | none => ∀ j w v, Wk fl z j w v → z ∉ fl v
  | some p => ∃ k v, Wk fl z k p v ∧ z ∈ fl v ∧ (∀ j < k, ∀ w u, Wk fl z j w u → z ∉ fl u) ∧ ∀ w u, Wk fl z k w u → z ∈ fl u → p ≤ w
theorem binv_none {k : Nat} {Rb R : Int → Prop} (I : BInv fl z k [] Rb R) : RingAt fl z none := by
  have all : ∀ j w v, Wk fl z j w v → Rb v := by
    intro j
    induction j with
    | zero =>
      intro w v hw
      by_cases c : 0 < k
      · exact I.d 0 c w v hw
      · have e : k = 0 := by omega
        subst e
        rcases I.c w v hw with h | ⟨p, hp, _⟩
        · exact h
        · exact absurd hp List.not_mem_nil
    | succ j ih =>
      intro w v hw
      obtain ⟨w', v', rfl, hw', hv, hz⟩ := hw.succ
      rcases (I.r v).mp (I.f v' (ih w' v' hw') hw'.ge v hv hz) with h | ⟨p, hp, _⟩
      · exact h
      · exact absurd hp List.not_mem_nil
  intro j w v hw
  exact I.e v (all j w v hw) hw.ge
theorem binv_some {k : Nat} {P P1 P2 : List (List Int)} {p : List Int} {Rb R : Int → Prop} (I : BInv fl z k P Rb R) (e : P = P1 ++ p :: P2) (h1 : ∀ q ∈ P1, z ∉ fl (q.getLastD 0)) (h2 : z ∈ fl (p.getLastD 0)) : RingAt fl z (some p) := by
  have hp : p ∈ P := by rw [e]; exact List.mem_append_right _ List.mem_cons_self
  obtain ⟨v, hw, _⟩ := I.a p hp
  refine ⟨k, v, hw, by rw [← hw.last]; exact h2, fun j hj w u hu => I.e u (I.d j hj w u hu) hu.ge, fun w u hu hz => ?_⟩
  rcases I.c w u hu with h | ⟨q, hq, eq, hle⟩
  · exact absurd hz (I.e u h hu.ge)
  · refine List.le_trans ?_ hle
    rw [e] at hq
    rcases List.mem_append.mp hq with hq | hq
    · exact absurd (by rw [eq]; exact hz) (h1 q hq)
    · rcases List.mem_cons.mp hq with rfl | hq
      · exact List.le_refl _
      · have srt := I.b
        rw [e] at srt
        exact List.le_of_lt ((List.pairwise_cons.mp (List.pairwise_append.mp srt).2.1).1 q hq)
theorem RingAt.uniq {o : Option (List Int)} {p q : List Int} (hp : RingAt fl z (some p)) (hq : RingAt fl z (some q)) : p = q := by
  obtain ⟨k, v, h1, h2, h3, h4⟩ := hp
  obtain ⟨k', v', g1, g2, g3, g4⟩ := hq
  have e : k = k' := by
    rcases Nat.lt_trichotomy k k' with h | h | h
    · exact absurd h2 (g3 k h p v h1)
    · exact h
    · exact absurd g2 (h3 k' h q v' g1)
  subst e
  exact List.le_antisymm (h4 q v' g1 g2) (g4 p v h1 h2)
end
/-! ### from behind -/
inductive Bw (fl : Int → List Int) (z : Int) : Nat → Int → Prop where
  | nil : Bw fl z 0 z
  | cons {t : Nat} {x y : Int} : Bw fl z t y → y ∈ fl x → z < x → Bw fl z (t + 1) x
theorem Wk.behind {fl : Int → List Int} {z : Int} {k : Nat} {w : List Int} {v : Int} (h : Wk fl z k w v) : ∀ {t : Nat}, Bw fl z t v → ∀ j ≤ k, 1 ≤ j ∨ t = 0 ∨ True → ∃ x, w[j]? = some x ∧ (1 ≤ j → Bw fl z (t + (k - j)) x) := by
  induction h with
  | nil =>
    intro t hb j hj _
    have e : j = 0 := by omega
    subst e
    exact ⟨z, rfl, fun h => absurd h (by omega)⟩
  | @snoc k p v u hw hu hz ih =>
    intro t hb j hj _
    by_cases c : j = k + 1
    · subst c
      refine ⟨u, ?_, fun _ => by rw [Nat.sub_self]; exact hb⟩
      rw [List.getElem?_append_right (by rw [hw.len]; omega), hw.len, Nat.sub_self]
      rfl
    · by_cases cv : z < v
      · obtain ⟨x, ex, hx⟩ := ih (t := t + 1) (.cons hb hu cv) j (by omega) (.inr (.inr trivial))
        refine ⟨x, ?_, fun h => ?_⟩
        · rw [List.getElem?_append_left (by rw [hw.len]; omega)]
          exact ex
        · have := hx h
          rw [show t + 1 + (k - j) = t + (k + 1 - j) by omega] at this
          exact this
      · -- v = z: the walk has just begun
        cases hw with
        | nil =>
          have e : j = 0 := by omega
          subst e
          exact ⟨z, rfl, fun h => absurd h (by omega)⟩
        | snoc _ _ h3 => exact absurd h3 cv
theorem Wk.arc {fl : Int → List Int} {z : Int} {k : Nat} {w : List Int} {v : Int} (h : Wk fl z k w v) : ∀ j < k, ∃ x y, w[j]? = some x ∧ w[j + 1]? = some y ∧ y ∈ fl x := by
  induction h with
  | nil => intro j hj; omega
  | @snoc k p v u hw hu hz ih =>
    intro j hj
    by_cases c : j = k
    · subst c
      refine ⟨v, u, ?_, ?_, hu⟩
      · rw [List.getElem?_append_left (by rw [hw.len]; omega)]
        exact hw.at_last
      · rw [List.getElem?_append_right (by rw [hw.len]; omega), hw.len, Nat.sub_self]
        rfl
    · obtain ⟨x, y, ex, ey, h⟩ := ih j (by omega)
      refine ⟨x, y, ?_, ?_, h⟩
      · rw [List.getElem?_append_left (by rw [hw.len]; omega)]
        exact ex
      · rw [List.getElem?_append_left (by rw [hw.len]; omega)]
        exact ey
theorem Wk.first {fl : Int → List Int} {z : Int} {k : Nat} {w : List Int} {v : Int} (h : Wk fl z k w v) : w[0]? = some z := by
  induction h with
  | nil => rfl
  | @snoc k p v u hw _ _ ih =>
    rw [List.getElem?_append_left (by rw [hw.len]; omega)]
    exact ih
/-- the first ring of k + 1 things from z: each time the least thing from which one can go on -/
theorem greedy_step {fl : Int → List Int} {z : Int} {k j : Nat} {c : List Int} {u x : Int} (hc : Wk fl z j c u) (hj : j < k) (hx : x ∈ fl u ∧ Bw fl z (k - j) x) (hmin : ∀ y, y ∈ fl u → Bw fl z (k - j) y → x ≤ y)
    (hle : ∀ w v, Wk fl z k w v → z ∈ fl v → c ≤ w.take (j + 1)) : Wk fl z (j + 1) (c ++ [x]) x ∧ ∀ w v, Wk fl z k w v → z ∈ fl v → c ++ [x] ≤ w.take (j + 2) := by
  have hzx : z < x := by
    have := hx.2
    cases h : k - j with
    | zero => omega
    | succ t =>
      rw [h] at this
      cases this with
      | cons _ _ h3 => exact h3
  refine ⟨.snoc hc hx.1 hzx, fun w v hw hz => ?_⟩
  have h1 := hle w v hw hz
  obtain ⟨a, b, ea, eb, hab⟩ := hw.arc j hj
  have e2 : w.take (j + 2) = w.take (j + 1) ++ [b] := by rw [List.take_add_one, eb]; rfl
  rw [e2]
  have hl : c.length = (w.take (j + 1)).length := by rw [hc.len, List.length_take, hw.len]; omega
  rcases List.le_iff_lt_or_eq.mp h1 with h | h
  · exact List.le_of_lt (lt_snoc hl h x b)
  · have eu : a = u := by
      have e3 := hc.at_last
      rw [h, List.getElem?_take_of_lt (by omega), ea] at e3
      exact Option.some.inj e3
    subst eu
    have hv : z < v := by
      cases hw with
      | nil => omega
      | snoc _ _ h3 => exact h3
    obtain ⟨y, ey, hy⟩ := hw.behind (t := 1) (.cons .nil hz hv) (j + 1) (by omega) (.inr (.inr trivial))
    rw [eb] at ey
    have e4 := Option.some.inj ey
    subst e4
    have hb := hy (by omega)
    rw [show 1 + (k - (j + 1)) = k - j by omega] at hb
    exact snoc_le hl h1 (hmin b hab hb)
end Fo
namespace Fo
open PySem PySem.Spec PyProof.Rows L2
/-- y = {k: v for ..}, y a local -/
theorem ps_setDc {X : Cx} {i : Nat} {y : Str} {py : Pos} {kx vx tg iter : Expr} {ifs : List Expr} {scope : Scope}
    {own : List (Str × Nat)} {pos spos : Pos} {wi : TI} {g : TG} {tt : TT} {tk tv : TE}
    (calm : X.calm = true) (nd : X.N.Nodup) (hy : X.N[i]? = some y)
    (loc : X.env.scope.names.lookup y = some .local)
    (sw : swapsWith (.DictComp kx vx [⟨tg, iter, ifs, 0⟩] scope pos) (some (.Name y py)) spos.line X.env = pure true)
    (pi : PI X tg iter wi) (blk : BlkOk X.N X.env.scope scope own)
    (pg : ∀ (s : Shared) (H : Hp) (C : Addr) (cl : List (Str × Addr)) (fp : List Addr),
      PG (X.blk s H scope (compEnvC scope cl C X.env) fp) tg g)
    (pt : ∀ (s : Shared) (H : Hp) (C : Addr) (cl : List (Str × Addr)) (fp : List Addr),
      PTs (X.blk s H scope (compEnvC scope cl C X.env) fp) ifs tt)
    (pk : ∀ (s : Shared) (H : Hp) (C : Addr) (cl : List (Str × Addr)) (fp : List Addr),
      PE (X.blk s H scope (compEnvC scope cl C X.env) fp) kx tk)
    (pv' : ∀ (s : Shared) (H : Hp) (C : Addr) (cl : List (Str × Addr)) (fp : List Addr),
      PE (X.blk s H scope (compEnvC scope cl C X.env) fp) vx tv)
    (fold : ∀ x, foldedSetIterable iter X.env x = pure x := by intro _; rfl) :
    PS X (.Assign [.Name y py] (.DictComp kx vx [⟨tg, iter, ifs, 0⟩] scope pos) spos)
      (tAsg (tDc wi g tt tk tv (own.map (·.2))) (gName i)) := by
  refine ⟨fun ps s1 σ1 H1 D1 I1 h1 => ?_⟩
  rw [exec_Assign_Name_used _ _ _ _ sw]
  refine wpAny_bind (wpAny_standAt
    (wpAny_bind ?_))
  have h2 : tDc wi g tt tk tv (own.map (·.2)) σ1 H1 (fun x G => gName i x σ1 G D1.nx) := h1
  show wpAny _ X.A (do
    let _ ← comprehension (.DictComp kx vx [⟨tg, iter, ifs, 0⟩] scope pos) scope X.env (firstIterPos [⟨tg, iter, ifs, 0⟩] pos) newDict false (eval iter X.env) (some (assign (.Name y py) X.env))) _ _ s1
  refine wpAny_bind (thn (dc_core (Qf := fun _ t => SP X ps D1 .next t) calm nd I1 pi blk pg pt pk pv' fold h2
    fun L C t m G J qq hn ff => ?_) fun _ t hq => wpAny_pure (wpAny_pure hq))
  show wpAny _ _ (assign (.Name y py)
    X.env (.ref L)) _ _ _
  refine wpAny_assign_Name (store_ok2 (v := V.ref L) J nd hy (.inl loc) rfl (fun t2 J2 ⟨b, sb, hb⟩ => ?_) (.inr loc))
  obtain ⟨e0, e1, e2, e3, e4, e5⟩ := ff
  have ne : C ≠ b := by
    rcases hb with z | z
    · rw [z]
      exact e1
    · exact fun q => e4 y b z q.symm
  exact ⟨m, hn.sameBut sb ne, fun h3 sb3 =>
    ⟨_, G, J2.turned (t' := t2.toks) (fun c o hc e => (sb3.2 c hc).trans e) e0 e1 e3 e4 e5, qq⟩⟩
theorem dc_range {lo : Int} {n : Nat} {g : TG} {tt : TT} {tk tv : TE} {vs : List Nat} {σ : L2.St} {H1 : Hp} {D : Addr} {Qd : Hp → Prop}
    (Pv : Nat → Hp → Prop) (h0 : Pv 0 (upd H1 D (.dK [])))
    (hs : ∀ i G, i < n → Pv i G → g (.int (lo + i)) (wipe σ vs) G fun σ2 H2 => wipe σ2 vs = wipe σ vs ∧ tt σ2 H2 fun b H3 =>
      if b = true then tk σ2 H3 fun yk H4 => tv σ2 H4 fun zv H5 => ∃ kvs k, yk = kV k ∧ H5 D = some (.dK kvs) ∧ kvs.length < sizeLine ∧ Pv (i + 1) (upd H5 D (.dK (putK kvs k zv))) else Pv (i + 1) H3)
    (hd : ∀ G, Pv n G → Qd G) :
    ∃ W : Nat → Nat → Hp → Prop, (∃ m, W 0 m (upd H1 D (.dK []))) ∧ ∀ i m G, W i m G →
      ((Itr lo n).stop i G ∧ Qd G) ∨ ((Itr lo n).go i G ∧ ∃ Nx : Hp → Prop, (∀ G', Nx G' → ∃ m', m' < m ∧ W (i + 1) m' G') ∧ ∀ x G', (Itr lo n).yld i G x G' → g x (wipe σ vs) G' fun σ2 H2 => wipe σ2 vs = wipe σ vs ∧ tt σ2 H2 fun b H3 =>
        if b = true then tk σ2 H3 fun yk H4 => tv σ2 H4 fun zv H5 => ∃ kvs k, yk = kV k ∧ H5 D = some (.dK kvs) ∧ kvs.length < sizeLine ∧ Nx (upd H5 D (.dK (putK kvs k zv))) else Nx H3) := by
  refine ⟨fun i m G => m = n - i ∧ (i ≤ n ∧ Pv i G), ⟨n, (Nat.sub_zero n).symm, Nat.zero_le n, h0⟩, ?_⟩
  rintro i m G ⟨rfl, hi, p⟩
  by_cases c : i < n
  · refine .inr ⟨c, Pv (i + 1), fun G' p' => ⟨n - (i + 1), by omega, rfl, c, p'⟩, fun x G' y => ?_⟩
    obtain ⟨rfl, rfl⟩ := y
    exact hs i _ c p
  · have e : i = n := by omega
    subst e
    exact .inl ⟨Nat.le_refl _, hd G p⟩
end Fo
namespace Fo
open PySem PySem.Spec PyProof.Rows L2
/-! ### a deck: a list of drawn numbers that never gets empty -/
def DqAt (H : Hp) (d : Addr) : Prop := ∃ ms : List Int, H d = some (.lst (ms.map V.int)) ∧ 1 ≤ ms.length ∧ ms.length ≤ 1000 ∧ ∀ m ∈ ms, 0 ≤ m ∧ m < 2147483648
def KeepD (d : Addr) (H H' : Hp) : Prop := ∀ b o, H b = some o → b ≠ d → H' b = some o
theorem KeepD.refl (d : Addr) (H : Hp) : KeepD d H H := fun _ _ e _ => e
theorem KeepD.trans {d : Addr} {H H1 H2 : Hp} (a : KeepD d H H1) (b : KeepD d H1 H2) : KeepD d H H2 := fun c o e f => b c o (a c o e f) f
theorem KeepD.of_same {d : Addr} {H H' : Hp} (h : Same H H') : KeepD d H H' := fun b o e _ => h b o e
theorem KeepD.new {d : Addr} {H : Hp} {p : Addr} {o : HO} (e : H p = none) : KeepD d H (upd H p o) := KeepD.of_same (same_new e)
theorem KeepD.none {d : Addr} {H H1 : Hp} (k : KeepD d H H1) {p : Addr} (np : H1 p = none) (nf : p ≠ d) : H p = none := by
  cases e : H p with
  | none => rfl
  | some o =>
    have z := k p o e nf
    rw [np] at z
    cases z
theorem DqAt.same {H H' : Hp} {d : Addr} (h : DqAt H d) (s : Same H H') : DqAt H' d := by
  obtain ⟨ms, e, r⟩ := h
  exact ⟨ms, s _ _ e, r⟩
theorem DqAt.ne {H : Hp} {d : Addr} (h : DqAt H d) {p : Addr} (e : H p = none) : p ≠ d := by
  obtain ⟨ms, e1, _⟩ := h
  exact (ne_of_none e1 e).symm
theorem DqAt.upd {H : Hp} {d : Addr} (h : DqAt H d) {p : Addr} {o : HO} (n1 : p ≠ d) : DqAt (upd H p o) d := by
  obtain ⟨ms, e, r⟩ := h
  exact ⟨ms, by rw [upd_ne n1.symm]; exact e, r⟩
theorem DqAt.new {H : Hp} {d : Addr} (h : DqAt H d) {p : Addr} {o : HO} (e : H p = none) : DqAt (L2.upd H p o) d := h.upd (h.ne e)
def spCell (K : PySem.W.Frag) : Sp := fun vs H Q _ => ∃ (a : Addr) (ns : List Int) (k : Nat), vs = [.ref a, .int k] ∧ SqL K H a (ns.map V.int) ∧ ∀ (v : Int), Q (.int v) H
def spStir : Sp := fun vs H Q _ => ∃ (c k : Int), vs = [.int c, .int k] ∧ 0 ≤ k ∧ k ≤ 1000 ∧ ∀ (v : Int), 0 ≤ v → v < 2147483648 → Q (.int v) H
def spDeckN : Sp := fun vs H Q _ => ∃ (c : Int) (many : Nat), vs = [.int c, .int many] ∧ 1 ≤ many ∧ many ≤ 1000 ∧ ∀ (d : Addr) (H' : Hp), H d = none → DqAt H' d → Same H H' → Q (.ref d) H'
def spNext : Sp := fun vs H Q _ => ∃ (d : Addr), vs = [.ref d] ∧ DqAt H d ∧ ∀ (v : Int) (H' : Hp), 0 ≤ v → v < 2147483648 → DqAt H' d → KeepD d H H' → Q (.int v) H'
def spOrderN : Sp := fun vs H Q _ => ∃ (d : Addr) (n : Nat), vs = [.ref d, .int n] ∧ DqAt H d ∧ n ≤ 12 ∧
  ∀ (ns : List Int) (l : Addr) (H' : Hp), IsOrd n ns → H l = none → H' l = some (.lst (ns.map V.int)) → l ≠ d → DqAt H' d → KeepD d H H' → Q (.ref l) H'
def spNearN : Sp := fun vs H Q _ => ∃ (d o : Addr) (n : Nat) (ns : List Int), vs = [.ref d, .ref o] ∧ DqAt H d ∧ H o = some (.lst (ns.map V.int)) ∧ IsOrd n ns ∧ 1 ≤ n ∧ n ≤ 12 ∧
  ∀ (ms : List Int) (l : Addr) (H' : Hp), IsOrd n ms → H l = none → H' l = some (.lst (ms.map V.int)) → l ≠ d → DqAt H' d → KeepD d H H' → Q (.ref l) H'
theorem mod_b (x : Int) {m : Int} (h : 0 < m) : 0 ≤ x % m ∧ x % m < m := ⟨Int.emod_nonneg x (by omega), Int.emod_lt_of_pos x h⟩
theorem mul_b {x y a b : Int} (hx : 0 ≤ x) (hxa : x ≤ a) (hy : 0 ≤ y) (hyb : y ≤ b) : 0 ≤ x * y ∧ x * y ≤ a * b := ⟨Int.mul_nonneg hx hy, Int.mul_le_mul hxa hyb hy (by omega)⟩
section
variable {P : Program} {w : World} {K : PySem.W.Frag} {mg : Str → Option Value} {base : Heap}
theorem scCell : FnScope ["script", "k"] ["script", "k"] (defScope s_law_cell_at) := ⟨rfl, rfl, rfl, by decide +kernel, rfl, by decide +kernel, by decide +kernel⟩
theorem ok_cell {f : Addr} {fd : FuncData} {k : Nat} (T : Df K mg "_law_cell_at" s_law_cell_at ["script", "k"] f fd) (B : Bi mg) : FnOk P w K mg base CX0 (k + 1) f fd ["script", "k"] (spCell K) := by
  refine T.F.ok scCell (fun vs H Q E h => ?_) (fun cdv A outer s H vs Q E hr h => ?_)
  · obtain ⟨a, ns, k, rfl, _⟩ := h
    rfl
  · obtain ⟨a, ns, k, rfl, hS, q⟩ := h
    refine ⟨_, 
      (pss_cons (ps_if (pt_cmpR op_lt (pv 1) (pe_callB call_len_seq (by rfl) B.len PySem.boot_len (pa_cons (pv 0) pa_nil)) (nomark _))
        (pss_one (ps_ret (pe_ix ix_list (pv 0) (pv 1) (fun _ _ => rfl))))
        pss_nil)
      (pss_one (ps_ret pe_int))), ?_⟩
    refine ⟨_, rfl, _, rfl, a, _, rfl, .inl hS, (k : Int), _, rfl, rfl, _, rfl, ite2 (fun c => ?_) (fun _ => q 0)⟩
    have hl : (k : Int) < (((ns.map V.int).length : Nat) : Int) := of_decide_eq_true c
    rw [List.length_map] at hl
    exact ⟨_, rfl, _, rfl, a, _, _, _, rfl, rfl, hS, at_of (j := k) rfl (int_at (List.getElem?_eq_getElem (show k < ns.length by omega))), q _⟩
theorem scStir : FnScope ["cell", "k", "one"] ["cell", "k"] (defScope s_law_stir) := ⟨rfl, rfl, rfl, by decide +kernel, rfl, by decide +kernel, by decide +kernel⟩
theorem ok_stir {f : Addr} {fd : FuncData} {k : Nat} (T : Df K mg "_law_stir" s_law_stir ["cell", "k"] f fd) (B : Bi mg) : FnOk P w K mg base CX0 (k + 1) f fd ["cell", "k"] spStir := by
  refine T.F.ok scStir (fun vs H Q E h => ?_) (fun cdv A outer s H vs Q E hr h => ?_)
  · obtain ⟨c, k, rfl, _⟩ := h
    rfl
  · obtain ⟨c, k, rfl, k0, k1, q⟩ := h
    refine ⟨_, 
      (Evl.pss_cut (ps_set (i := 2) scStir.nd rfl (.inl rfl) (pe_op op_mod (pe_op op_mul (pe_op op_add (pe_op op_add (pe_op op_mod (pv 0) pe_int) (pe_op op_mul pe_int (pv 1))) pe_int) pe_int) pe_int))
      (Evl.pss_cut (ps_set (i := 2) scStir.nd rfl (.inl rfl) (pe_op op_mod (pe_op op_mul (pv 2) (pv 2)) pe_int))
      (pss_one (ps_ret (pe_op op_fdiv (pe_op op_mod (pe_op op_mul (pe_op op_add (pv 2) (pe_op op_mul pe_int (pv 1))) pe_int) pe_int) pe_int))))), ?_⟩
    refine ⟨fun τ G => ∃ x : Int, 0 ≤ x ∧ x < 2147483647 ∧ τ = [some (.int c), some (.int k), some (.int x)] ∧ G = H, ?_, fun τ G hM => ?_⟩
    · exact ⟨_, rfl, c, 2147483629, rfl, rfl, (show (0 : Int) < 2147483629 by decide), _, rfl, 9973, k, rfl, rfl, .inl ⟨by decide, by decide⟩, _, _, rfl, rfl, _, 5, rfl, rfl, _, 48271, rfl, rfl, .inr ⟨by decide, by decide⟩, _, 2147483647, rfl, rfl, (show (0 : Int) < 2147483647 by decide), _, (mod_b _ (by decide)).1, (mod_b _ (by decide)).2, rfl, rfl⟩
    obtain ⟨x, x0, x1, rfl, e1⟩ := hM
    subst e1
    refine ⟨fun τ G' => ∃ y : Int, 0 ≤ y ∧ y < 2147483587 ∧ τ = [some (.int c), some (.int k), some (.int y)] ∧ G' = G, ?_, fun τ G' hM => ?_⟩
    · exact ⟨_, rfl, _, rfl, x, x, rfl, rfl, .inl ⟨by omega, by omega⟩, _, 2147483587, rfl, rfl, (show (0 : Int) < 2147483587 by decide), _, (mod_b _ (by decide)).1, (mod_b _ (by decide)).2, rfl, rfl⟩
    obtain ⟨y, y0, y1, rfl, e1⟩ := hM
    subst e1
    have h1 := mod_b ((y + 7919 * k) * 16807) (m := 2147483563) (by decide)
    exact ⟨_, rfl, _, rfl, 7919, k, rfl, rfl, .inl ⟨by decide, by decide⟩, _, _, rfl, rfl, _, 16807, rfl, rfl, .inr ⟨by decide, by decide⟩, _, 2147483563, rfl, rfl, (show (0 : Int) < 2147483563 by decide), _, 8, rfl, rfl, ⟨by decide, by decide⟩, q _ (by omega) (by omega)⟩
theorem scDeckN : FnScope ["cell", "many", "found", "digits", "k", "number"] ["cell", "many"] (defScope s_law_deck) := ⟨rfl, rfl, rfl, by decide +kernel, rfl, by decide +kernel, by decide +kernel⟩
set_option maxHeartbeats 2000000 in
theorem ok_deckN {f fS : Addr} {fd fdS : FuncData} {k : Nat} (T : Df K mg "_law_deck" s_law_deck ["cell", "many"] f fd) (T__law_stir : Df K mg "_law_stir" s_law_stir ["cell", "k"] fS fdS) (B : Bi mg) : FnOk P w K mg base CX0 (k + 2) f fd ["cell", "many"] spDeckN := by
  have G__law_stir : FnOk P w K mg base CX0 (k + 1) fS fdS ["cell", "k"] spStir := ok_stir T__law_stir B
  refine T.F.ok scDeckN (fun vs H Q E h => ?_) (fun cdv A outer s H vs Q E hr h => ?_)
  · obtain ⟨c, m, rfl, _⟩ := h
    rfl
  · obtain ⟨c, m, rfl, m1, m2, q⟩ := h
    refine ⟨_, 
      (pss_cons (ps_set (i := 2) scDeckN.nd rfl (.inl rfl) (pe_lst pa_nil))
      (pss_cons (ps_set (i := 3) scDeckN.nd rfl (.inl rfl) (pv 0))
      (pss_cons (ps_for PassesOwn.never rfl (pi_range1 (by rfl) B.range (pa_cons (pv 1) pa_nil)) (pg_name (i := 4) scDeckN.nd rfl (.inl rfl))
        (pss_cons (ps_set (i := 5) scDeckN.nd rfl (.inl rfl) (pe_call G__law_stir hr (by rfl) T__law_stir.g T__law_stir.F.kp T__law_stir.b .nil pass0 (pa_cons (pv 0) (pa_cons (pv 4) pa_nil))))
        (Evl.pss_cut (ps_if (pt_cmpR op_ge (pv 0) (pe_op op_pow pe_int pe_int) (nomark _))
          (pss_one (ps_set (i := 5) scDeckN.nd rfl (.inl rfl) (pe_op op_mod (pv 3) pe_int)))
          pss_nil)
        (pss_cons (ps_set (i := 3) scDeckN.nd rfl (.inl rfl) (pe_op op_fdiv (pv 3) pe_int))
        (pss_one (ps_expr (pe_bm PySem.F.plainAttrs_list PySem.F.slot_list_append PySem.F.type_list_append mt_append (pv 2) (pa_cons (pv 5) pa_nil))))))))
      (pss_one (ps_ret (pe_revL (pv 2))))))), ?_⟩
    refine ⟨line_small (by show 0 ≤ 16777216; decide), fun l nl => ⟨_, rfl, ?_⟩⟩
    refine ⟨_, rfl, m, rfl, by omega, by omega, ?_⟩
    rw [Int.toNat_natCast]
    refine for_range (n := m) (fun i σ H3 => ∃ (x : Int) (y4 y5 : Option V) (ms : List Int), σ = [some (.int c), some (.int m), some (.ref l), some (.int x), y4, y5] ∧ H3 l = some (.lst (ms.map V.int)) ∧ ms.length = i ∧ (∀ z ∈ ms, 0 ≤ z ∧ z < 2147483648) ∧ Same H H3)
      ⟨c, none, none, [], rfl, upd_same, rfl, (fun _ h => absurd h List.not_mem_nil), same_new nl⟩ (fun i σ H3 hi hP => ?_) (fun σ H3 hP => ?_)
    · obtain ⟨x, y4, y5, ms, rfl, hl3, el, hb, s3⟩ := hP
      refine ⟨_, rfl, _, rfl, c, _, rfl, by omega, by omega, fun v v0 v1 => ?_⟩
      refine ⟨fun τ G => ∃ z : Int, 0 ≤ z ∧ z < 2147483648 ∧ τ = [some (.int c), some (.int m), some (.ref l), some (.int x), some (.int (0 + (i : Int))), some (.int z)] ∧ G = H3, ?_, fun τ G hM => ?_⟩
      · refine ⟨_, rfl, 10, 18, rfl, rfl, ⟨by decide, by decide, by decide⟩, c, _, rfl, rfl, _, rfl, ite2 (fun _ => ?_) (fun _ => ⟨v, v0, v1, rfl, rfl⟩)⟩
        have h1 := mod_b x (m := 720720) (by decide)
        exact ⟨_, rfl, x, 720720, rfl, rfl, (show (0 : Int) < 720720 by decide), _, h1.1, by omega, rfl, rfl⟩
      obtain ⟨z, z0, z1, rfl, e1⟩ := hM
      subst e1
      refine ⟨_, rfl, x, 720720, rfl, rfl, ⟨by decide, by decide⟩, ?_⟩
      refine ⟨_, rfl, .inl ⟨rfl, _, SqL.of hl3⟩, _, rfl, l, _, _, rfl, rfl, hl3, line_lt (by rw [List.length_map]; omega), ?_⟩
      refine ⟨_, _, _, ms ++ [z], rfl, by rw [upd_same, List.map_append]; rfl, by rw [List.length_append, el]; rfl, fun u hu => ?_, fun b o e => ?_⟩
      · rcases List.mem_append.mp hu with h | h
        · exact hb u h
        · rw [List.mem_singleton.mp h]
          exact ⟨z0, z1⟩
      · rw [upd_ne (ne_of_none e nl)]
        exact s3 _ _ e
    · obtain ⟨x, y4, y5, ms, rfl, hl3, el, hb, s3⟩ := hP
      refine ⟨_, rfl, l, _, rfl, SqL.of hl3, fun p np => ?_⟩
      have hHp : H p = none := by
        cases e : H p with
        | none => rfl
        | some o =>
          have z := s3 p o e
          rw [np] at z
          cases z
      refine q p _ hHp ⟨ms.reverse, by rw [upd_same, List.map_reverse], by rw [List.length_reverse]; omega, by rw [List.length_reverse]; omega, fun z hz => hb z (List.mem_reverse.mp hz)⟩ (s3.trans (same_new np))
theorem scNext : FnScope ["deck"] ["deck"] (defScope s_law_next) := ⟨rfl, rfl, rfl, by decide +kernel, rfl, by decide +kernel, by decide +kernel⟩
set_option maxHeartbeats 2000000 in
theorem ok_next {f fS : Addr} {fd fdS : FuncData} {k : Nat} (T : Df K mg "_law_next" s_law_next ["deck"] f fd) (T__law_stir : Df K mg "_law_stir" s_law_stir ["cell", "k"] fS fdS) (B : Bi mg) : FnOk P w K mg base CX0 (k + 2) f fd ["deck"] spNext := by
  have G__law_stir : FnOk P w K mg base CX0 (k + 1) fS fdS ["cell", "k"] spStir := ok_stir T__law_stir B
  refine T.F.ok scNext (fun vs H Q E h => ?_) (fun cdv A outer s H vs Q E hr h => ?_)
  · obtain ⟨d, rfl, _⟩ := h
    rfl
  · obtain ⟨d, rfl, ⟨ms, hd, l1, l2, hb⟩, q⟩ := h
    refine ⟨_, 
      (Evl.pss_cut (ps_if (pt_cmpR op_eq (pe_callB call_len_seq (by rfl) B.len PySem.boot_len (pa_cons (pv 0) pa_nil)) pe_int (nomark _))
        (pss_one (ps_expr (pe_bm PySem.F.plainAttrs_list PySem.F.slot_list_insert PySem.F.type_list_insert mt_insert (pv 0) (pa_cons pe_int (pa_cons (pe_op op_mul (pe_call G__law_stir hr (by rfl) T__law_stir.g T__law_stir.F.kp T__law_stir.b .nil pass0 (pa_cons (pe_ix ix_list (pv 0) pe_int (fun _ _ => rfl)) (pa_cons pe_int pa_nil))) (pe_callTy call_int1 (by rfl) B.int (by decide +kernel) (pa_cons (pe_cmpR op_gt (pe_ix ix_list (pv 0) pe_int (fun _ _ => rfl)) pe_int (nomark _)) pa_nil))) pa_nil)))))
        pss_nil)
      (pss_one (ps_ret (pe_bm0 PySem.F.plainAttrs_list PySem.F.slot_list_pop PySem.F.type_list_pop mt_pop (pv 0))))), ?_⟩
    refine ⟨fun τ G => ∃ ks : List Int, τ = [some (.ref d)] ∧ G d = some (.lst (ks.map V.int)) ∧ 2 ≤ ks.length ∧ ks.length ≤ 1000 ∧ (∀ z ∈ ks, 0 ≤ z ∧ z < 2147483648) ∧ KeepD d H G, ?_, fun τ G hM => ?_⟩
    · refine ⟨_, rfl, d, _, rfl, .inl (SqL.of hd), rfl, _, rfl, ite2 (fun c => ?_) (fun c => ?_)⟩
      · have hl : ms.length = 1 := by
          have z : V.int (((ms.map V.int).length : Nat) : Int) = V.int 1 := of_decide_eq_true c
          have z2 : (((ms.map V.int).length : Nat) : Int) = 1 := V.int.inj z
          rw [List.length_map] at z2
          omega
        obtain ⟨x, rfl⟩ := List.length_eq_one_iff.mp hl
        have hx := hb x List.mem_cons_self
        refine ⟨_, rfl, .inl ⟨rfl, _, SqL.of hd⟩, _, rfl, d, _, 0, _, rfl, rfl, SqL.of hd, rfl, x, 7, rfl, by decide, by decide, fun v v0 v1 => ⟨_, rfl, d, _, 0, _, rfl, rfl, SqL.of hd, rfl, x, 0, rfl, rfl, .inr ⟨_, rfl, v, _, rfl, rfl, .inl ⟨by omega, by omega⟩, ?_⟩⟩⟩
        refine ⟨d, _, 0, _, rfl, rfl, hd, line_lt (by show 1 < 16777216; decide), by decide, by decide, ?_⟩
        obtain ⟨u, eu, u0, u1⟩ : ∃ u : Int, v * (if decide ((0 : Int) < x) = true then 1 else 0) = u ∧ 0 ≤ u ∧ u < 2147483648 := by
          by_cases c : (0 : Int) < x
          · rw [decide_eq_true c, if_pos rfl, Int.mul_one]
            exact ⟨v, rfl, v0, v1⟩
          · rw [decide_eq_false c, if_neg (by decide), Int.mul_zero]
            exact ⟨0, rfl, by decide, by decide⟩
        refine ⟨[u, x], rfl, ?_, by show 2 ≤ 2; decide, by show 2 ≤ 1000; decide, fun z hz => ?_, fun b o e nb => by rw [upd_ne nb]; exact e⟩
        · rw [upd_same]
          dsimp only
          rw [eu]
          rfl
        · rcases List.mem_cons.mp hz with rfl | hz
          · exact ⟨u0, u1⟩
          · rw [List.mem_singleton.mp hz]
            exact hx
      · refine ⟨ms, rfl, hd, ?_, l2, hb, KeepD.refl _ _⟩
        by_cases e : ms.length = 1
        · exfalso
          apply c
          apply decide_eq_true
          rw [List.length_map, e]
          rfl
        · omega
    obtain ⟨ks, rfl, hk, l3, l4, hb3, kp⟩ := hM
    obtain ⟨y, ey⟩ : ∃ y, ks[ks.length - 1]? = some y := ⟨ks[ks.length - 1]'(by omega), List.getElem?_eq_getElem (by omega)⟩
    have hy := hb3 y (List.mem_of_getElem? ey)
    refine ⟨_, rfl, .inl ⟨rfl, _, SqL.of hk⟩, d, _, _, rfl, rfl, hk, by rw [List.length_map]; exact int_at ey, ?_⟩
    refine q y _ hy.1 hy.2 ⟨ks.dropLast, by rw [upd_same, List.map_dropLast], by rw [List.length_dropLast]; omega, by rw [List.length_dropLast]; omega, fun z hz => hb3 z ((List.dropLast_prefix ks).subset hz)⟩ (kp.trans fun b o e nb => by rw [upd_ne nb]; exact e)
end
end Fo
namespace Fo
open PySem PySem.Spec PyProof.Rows L2
theorem ins_perm (xs : List Int) (k : Nat) (y : Int) : (xs.take k ++ [y] ++ xs.drop k).Perm (y :: xs) := by
  rw [List.append_assoc]
  have h1 : (xs.take k ++ ([y] ++ xs.drop k)).Perm ([y] ++ (xs.take k ++ xs.drop k)) := by
    rw [← List.append_assoc, ← List.append_assoc]
    exact List.Perm.append_right _ List.perm_append_comm
  rw [List.take_append_drop] at h1
  exact h1
theorem set2_perm {xs : List Int} {p q : Nat} {a b : Int} (ha : xs[p]? = some a) (hb : xs[q]? = some b) : ((xs.set p b).set q a).Perm xs := by
  obtain ⟨h1, e1⟩ := List.getElem?_eq_some_iff.mp ha
  obtain ⟨h2, e2⟩ := List.getElem?_eq_some_iff.mp hb
  rw [← e1, ← e2]
  exact List.set_set_perm h1 h2
theorem set2_V (xs : List Int) (p q : Nat) (a b : Int) : ((xs.map V.int).set p (V.int b)).set q (V.int a) = ((xs.set p b).set q a).map V.int := by
  rw [List.map_set, List.map_set]
section
variable {P : Program} {w : World} {K : PySem.W.Frag} {mg : Str → Option Value} {base : Heap}
theorem scOrderN : FnScope ["deck", "n", "left", "thing"] ["deck", "n"] (defScope s_law_order) := ⟨rfl, rfl, rfl, by decide +kernel, rfl, by decide +kernel, by decide +kernel⟩
set_option maxHeartbeats 4000000 in
theorem ok_orderN {f fD : Addr} {fd fdD : FuncData} {k : Nat} (T : Df K mg "_law_order" s_law_order ["deck", "n"] f fd) (T__law_next : Df K mg "_law_next" s_law_next ["deck"] fD fdD) (G__law_next : FnOk P w K mg base CX0 k fD fdD ["deck"] spNext) (B : Bi mg) : FnOk P w K mg base CX0 (k + 1) f fd ["deck", "n"] spOrderN := by
  refine T.F.ok scOrderN (fun vs H Q E h => ?_) (fun cdv A outer s H vs Q E hr h => ?_)
  · obtain ⟨D, n, rfl, _⟩ := h
    rfl
  · obtain ⟨d, n, rfl, hD, hn2, q⟩ := h
    refine ⟨_, 
      (pss_cons (ps_set (i := 2) scOrderN.nd rfl (.inr rfl) (pe_listRg rfl (by rfl) B.list (prg_1 (by rfl) B.range (pv 1))))
      (pss_one (ps_ret (pe_lc (own := [("thing", 3)]) (g := (gName 3)) (tt := tYes) (te := (tBM K "list" rPopAt (tVar 2) (tCons (tOp (rI (fun _ j => 0 < j) fun i j => .int (i % j)) (tCall spNext [] E0 (tCons (tVar 0) tNil)) (tCB (rLenS K) (tCons (tVar 2) tNil))) tNil))) rfl scOrderN.nd (pi_range1 (by rfl) B.range (pa_cons (pv 1) pa_nil)) (blkOk_by (N := ["deck", "n", "left", "thing"]) (sc := defScope s_law_order) (by decide +kernel)) (fun _ _ _ _ _ => (pg_name (i := 3) scOrderN.nd rfl (.inl rfl))) (fun _ _ _ _ _ => pts_nil) (fun _ _ _ _ _ => (pe_bm PySem.F.plainAttrs_list PySem.F.slot_list_pop PySem.F.type_list_pop mt_popAt (pv 2) (pa_cons (pe_op op_mod (pe_call G__law_next hr (by rfl) T__law_next.g T__law_next.F.kp T__law_next.b .nil pass0 (pa_cons (pv 0) pa_nil)) (pe_callB call_len_seq (by rfl) B.len PySem.boot_len (pa_cons (pv 2) pa_nil))) pa_nil))))))), ?_⟩
    refine ⟨_, rfl, n, rfl, RgOk.of_le (by omega) (by omega) (by omega) (by omega), fun l nl => ?_⟩
    have hl0 : (upd H l (.lst (rgV 0 (n : Int)))) l = some (.lst ((rg n).map V.int)) := by rw [upd_same, rg_V]
    have D0 := hD.new (o := .lst (rgV 0 (n : Int))) nl
    have nf := hD.ne nl
    have k0 : KeepD d H (upd H l (.lst (rgV 0 (n : Int)))) := KeepD.new nl
    refine ⟨_, rfl, n, rfl, by omega, by omega, ?_⟩
    rw [Int.toNat_natCast]
    intro p np
    have npf := D0.ne np
    have lp : l ≠ p := ne_of_none hl0 np
    refine lc_range (lo := 0) (n := n) (fun i H3 => ∃ (rest acc : List Int), (acc ++ rest).Perm (rg n) ∧ acc.length = i ∧ H3 l = some (.lst (rest.map V.int)) ∧ H3 p = some (.lst (acc.map V.int)) ∧ DqAt H3 d ∧ ∀ b o, H b = some o → b ≠ d → H3 b = some o)
      ⟨rg n, [], List.Perm.refl _, rfl, by rw [upd_ne lp]; exact hl0, upd_same, D0.new np, fun b o e f => by rw [upd_ne (ne_of_none (k0 b o e f) np)]; exact k0 b o e f⟩ (fun i H3 hi hP => ?_) (fun H3 hP => ?_)
    · obtain ⟨rest, acc, hperm, el, hl3, hp3, D3, kp3⟩ := hP
      have hlen : rest.length = n - i := by
        have := List.Perm.length_eq hperm
        rw [List.length_append, rg_len] at this
        omega
      have hlm : (rest.map V.int).length = rest.length := List.length_map _
      refine ⟨rfl, ?_⟩
      refine ⟨_, rfl, .inl ⟨rfl, _, SqL.of hl3⟩, _, rfl, d, rfl, D3, fun v H4 v0 v1 D4 k4 => ?_⟩
      have hl4 := k4 l _ hl3 nf
      have hp4 := k4 p _ hp3 npf
      obtain ⟨j, ej, hj⟩ : ∃ j : Nat, v % (((rest.map V.int).length : Nat) : Int) = (j : Int) ∧ j < rest.length := by
        rw [hlm]
        have h1 := mod_b v (m := ((rest.length : Nat) : Int)) (by omega)
        exact ⟨(v % ((rest.length : Nat) : Int)).toNat, by omega, by omega⟩
      refine ⟨_, rfl, l, _, rfl, .inl (SqL.of hl4), v, _, rfl, rfl, by rw [hlm]; omega, ?_⟩
      obtain ⟨y, ey⟩ : ∃ y, rest[j]? = some y := ⟨rest[j]'(by omega), List.getElem?_eq_getElem (by omega)⟩
      refine ⟨l, _, _, j, _, rfl, rfl, hl4, by rw [ej]; omega, by rw [ej]; omega, seq_ix ej (by rw [hlm]; omega), int_at ey, ?_⟩
      refine ⟨acc.map V.int, by rw [upd_ne lp.symm]; exact hp4, line_lt (by rw [List.length_map]; omega), rest.eraseIdx j, acc ++ [y], ?_, by rw [List.length_append, el]; rfl, ?_, by rw [upd_same, List.map_append]; rfl, ?_, fun b o e f => ?_⟩
      · rw [List.append_assoc]
        exact (List.Perm.append_left acc (pop_perm ey)).trans hperm
      · rw [upd_ne lp, upd_same, map_erase]
      · exact (D4.upd nf).upd npf
      · have e4 := k4 b o (kp3 b o e f) f
        have nbl : b ≠ l := ne_of_none e nl
        have nbp : b ≠ p := ne_of_none (k0 b o e f) np
        rw [upd_ne nbp, upd_ne nbl]
        exact e4
    · obtain ⟨rest, acc, hperm, el, hl3, hp3, D3, kp3⟩ := hP
      have hr0 : rest = [] := by
        have := List.Perm.length_eq hperm
        rw [List.length_append, rg_len] at this
        exact List.eq_nil_of_length_eq_zero (by omega)
      subst hr0
      rw [List.append_nil] at hperm
      exact q acc p H3 hperm (k0.none np npf) hp3 npf D3 kp3
theorem scNearN : FnScope ["deck", "order", "found", "way", "turn", "p", "q"] ["deck", "order"] (defScope s_law_near) := ⟨rfl, rfl, rfl, by decide +kernel, rfl, by decide +kernel, by decide +kernel⟩
set_option maxHeartbeats 4000000 in
theorem ok_nearN {f fD : Addr} {fd fdD : FuncData} {k : Nat} (T : Df K mg "_law_near" s_law_near ["deck", "order"] f fd) (T__law_next : Df K mg "_law_next" s_law_next ["deck"] fD fdD) (G__law_next : FnOk P w K mg base CX0 k fD fdD ["deck"] spNext) (B : Bi mg) : FnOk P w K mg base CX0 (k + 1) f fd ["deck", "order"] spNearN := by
  refine T.F.ok scNearN (fun vs H Q E h => ?_) (fun cdv A outer s H vs Q E hr h => ?_)
  · obtain ⟨D, o, n, ns, rfl, _⟩ := h
    rfl
  · obtain ⟨d, o, n, ns, rfl, hD, h0, ho, hn1, hn2, q⟩ := h
    have hlm : (ns.map V.int).length = n := by rw [List.length_map, ho.len]
    refine ⟨_, 
      (pss_cons (ps_set (i := 2) scNearN.nd rfl (.inl rfl) (pe_callTy call_list_of (by rfl) B.list (by decide +kernel) (pa_cons (pv 1) pa_nil)))
      (pss_cons (ps_set (i := 3) scNearN.nd rfl (.inl rfl) (pe_op op_mod (pe_call G__law_next hr (by rfl) T__law_next.g T__law_next.F.kp T__law_next.b .nil pass0 (pa_cons (pv 0) pa_nil)) pe_int))
      (pss_cons (ps_for PassesOwn.never rfl (pi_range1 (by rfl) B.range (pa_cons (pe_op op_mul (pe_ix ix_list (pe_lst (pa_cons pe_int (pa_cons pe_int (pa_cons pe_int (pa_cons pe_int pa_nil))))) (pe_op op_mod (pe_call G__law_next hr (by rfl) T__law_next.g T__law_next.F.kp T__law_next.b .nil pass0 (pa_cons (pv 0) pa_nil)) pe_int) (fun _ _ => rfl)) (pe_callTy call_int1 (by rfl) B.int (by decide +kernel) (pa_cons (pe_cmpR op_gt (pe_callB call_len_seq (by rfl) B.len PySem.boot_len (pa_cons (pv 2) pa_nil)) pe_int (nomark _)) pa_nil))) pa_nil)) (pg_name (i := 4) scNearN.nd rfl (.inl rfl))
        (pss_cons (ps_set (i := 5) scNearN.nd rfl (.inl rfl) (pe_op op_mod (pe_call G__law_next hr (by rfl) T__law_next.g T__law_next.F.kp T__law_next.b .nil pass0 (pa_cons (pv 0) pa_nil)) (pe_op op_sub (pe_callB call_len_seq (by rfl) B.len PySem.boot_len (pa_cons (pv 2) pa_nil)) pe_int)))
        (pss_cons (ps_set (i := 6) scNearN.nd rfl (.inl rfl) (pe_ix ix_list (pe_lst (pa_cons (pe_op op_add (pv 5) pe_int) (pa_cons (pe_op op_mod (pe_call G__law_next hr (by rfl) T__law_next.g T__law_next.F.kp T__law_next.b .nil pass0 (pa_cons (pv 0) pa_nil)) (pe_callB call_len_seq (by rfl) B.len PySem.boot_len (pa_cons (pv 2) pa_nil))) (pa_cons (pe_op op_add (pv 5) pe_int) pa_nil)))) (pv 3) (fun _ _ => rfl)))
        (pss_one (ps_if (pt_cmpR op_lt (pv 3) pe_int (nomark _))
          (pss_one (ps_asg (pe_tup (pa_cons (pe_ix ix_list (pv 2) (pv 6) (fun _ _ => rfl)) (pa_cons (pe_ix ix_list (pv 2) (pv 5) (fun _ _ => rfl)) pa_nil))) (pg_tup (by rfl) (pgs_cons (pg_sub (pv 2) (pv 5) set_list) (pgs_cons (pg_sub (pv 2) (pv 6) set_list) pgs_nil)))))
          (pss_one (ps_expr (pe_bm PySem.F.plainAttrs_list PySem.F.slot_list_insert PySem.F.type_list_insert mt_insert (pv 2) (pa_cons (pe_op op_mod (pe_call G__law_next hr (by rfl) T__law_next.g T__law_next.F.kp T__law_next.b .nil pass0 (pa_cons (pv 0) pa_nil)) (pe_callB call_len_seq (by rfl) B.len PySem.boot_len (pa_cons (pv 2) pa_nil))) (pa_cons (pe_bm PySem.F.plainAttrs_list PySem.F.slot_list_pop PySem.F.type_list_pop mt_popAt (pv 2) (pa_cons (pv 5) pa_nil)) pa_nil))))))))))
      (pss_one (ps_ret (pv 2)))))), ?_⟩
    refine ⟨_, rfl, o, _, rfl, .inl (SqL.of h0), fun l nl => ?_⟩
    have s0 := same_new (o := .lst (ns.map V.int)) nl
    have D0 := hD.new (o := .lst (ns.map V.int)) nl
    have nf := hD.ne nl
    refine ⟨_, rfl, d, rfl, D0, fun w1 H1 _ _ D1 k1 => ⟨w1, 3, rfl, rfl, (show (0 : Int) < 3 by decide), ?_⟩⟩
    have hl1 := k1 l _ upd_same nf
    have kk1 : KeepD d H H1 := (KeepD.of_same s0).trans k1
    have hw := mod_b w1 (m := 3) (by decide)
    refine ⟨line_small (by show 4 ≤ 16777216; decide), fun t nt => ?_⟩
    have D1t := D1.new (o := .lst [.int 1, .int 1, .int 2, .int 4]) nt
    have ntd := D1.ne nt
    refine ⟨_, rfl, d, rfl, D1t, fun w2 H2 _ _ D2 k2 => ⟨w2, 4, rfl, rfl, (show (0 : Int) < 4 by decide), ?_⟩⟩
    have ht2 := k2 t _ upd_same ntd
    have kk2 : KeepD d H H2 := (kk1.trans (KeepD.new nt)).trans k2
    have hl2 := k2 l _ (same_new nt _ _ hl1) nf
    have hw2 := mod_b w2 (m := 4) (by decide)
    obtain ⟨u, eu, u0, u1⟩ : ∃ u : Int, atI [V.int 1, V.int 1, V.int 2, V.int 4] (w2 % 4) = some (.int u) ∧ 0 ≤ u ∧ u ≤ 4 := by
      have : w2 % 4 = 0 ∨ w2 % 4 = 1 ∨ w2 % 4 = 2 ∨ w2 % 4 = 3 := by omega
      rcases this with h | h | h | h <;> rw [h]
      · exact ⟨1, rfl, by decide, by decide⟩
      · exact ⟨1, rfl, by decide, by decide⟩
      · exact ⟨2, rfl, by decide, by decide⟩
      · exact ⟨4, rfl, by decide, by decide⟩
    refine ⟨t, _, _, _, rfl, rfl, SqL.of ht2, eu, _, rfl, l, _, rfl, .inl (SqL.of hl2), _, 1, rfl, rfl, .inr ⟨_, rfl, u, _, rfl, rfl, .inl ⟨by omega, by omega⟩, _, rfl, ?_⟩⟩
    obtain ⟨m, em, hm⟩ : ∃ m : Nat, u * (if decide ((1 : Int) < (((ns.map V.int).length : Nat) : Int)) = true then 1 else 0) = (m : Int) ∧ (m ≤ 4 ∧ (n = 1 → m = 0)) := by
      rw [hlm]
      by_cases c : (1 : Int) < (n : Int)
      · rw [decide_eq_true c, if_pos rfl, Int.mul_one]
        exact ⟨u.toNat, by omega, by omega, by omega⟩
      · rw [decide_eq_false c, if_neg (by decide), Int.mul_zero]
        exact ⟨0, by omega, by omega, fun _ => rfl⟩
    refine ⟨by rw [em]; omega, by rw [em]; omega, ?_⟩
    rw [em, Int.toNat_natCast]
    refine for_range (n := m) (fun i σ H3 => ∃ (y4 y5 y6 : Option V) (xs : List Int), σ = [some (.ref d), some (.ref o), some (.ref l), some (.int (w1 % 3)), y4, y5, y6] ∧ IsOrd n xs ∧ H3 l = some (.lst (xs.map V.int)) ∧ DqAt H3 d ∧ KeepD d H H3)
      ⟨none, none, none, ns, rfl, ho, hl2, D2, kk2⟩ (fun i σ H3 hi hP => ?_) (fun σ H3 hP => ?_)
    · obtain ⟨y4, y5, y6, xs, rfl, o3, hl3, D3, k3⟩ := hP
      have hxl := o3.len
      have hn : 2 ≤ n := by
        by_cases c : n = 1
        · have := hm.2 c
          omega
        · omega
      have hxm : (xs.map V.int).length = n := by rw [List.length_map]; exact hxl
      refine ⟨_, rfl, d, rfl, D3, fun v1 H4 _ _ D4 k4 => ?_⟩
      have hl4 := k4 l _ hl3 nf
      refine ⟨_, rfl, l, _, rfl, .inl (SqL.of hl4), _, 1, rfl, rfl, v1, _, rfl, rfl, by rw [hxm]; omega, ?_⟩
      obtain ⟨p, ep, hp⟩ : ∃ p : Nat, v1 % ((((xs.map V.int).length : Nat) : Int) - 1) = (p : Int) ∧ p + 1 < n := by
        rw [hxm]
        have h1 := mod_b v1 (m := (n : Int) - 1) (by omega)
        exact ⟨(v1 % ((n : Int) - 1)).toNat, by omega, by omega⟩
      show gName 5 (V.int (v1 % ((((xs.map V.int).length : Nat) : Int) - 1))) _ _ _
      rw [ep]
      refine ⟨_, rfl, (p : Int), 1, rfl, rfl, _, rfl, d, rfl, D4, fun v2 H5 _ _ D5 k5 => ?_⟩
      have hl5 := k5 l _ hl4 nf
      refine ⟨_, rfl, l, _, rfl, .inl (SqL.of hl5), v2, _, rfl, rfl, by rw [hxm]; omega, ?_⟩
      obtain ⟨u, eu, hu⟩ : ∃ u : Nat, v2 % (((xs.map V.int).length : Nat) : Int) = (u : Int) ∧ u < n := by
        rw [hxm]
        have h1 := mod_b v2 (m := (n : Int)) (by omega)
        exact ⟨(v2 % (n : Int)).toNat, by omega, by omega⟩
      refine ⟨_, rfl, (p : Int), 1, rfl, rfl, line_small (by show 3 ≤ 16777216; decide), fun t2 nt2 => ?_⟩
      have s6 := same_new (o := .lst [.int ((p : Int) + 1), .int (v2 % (((xs.map V.int).length : Nat) : Int)), .int ((p : Int) + 1)]) nt2
      have hl6 := s6 _ _ hl5
      obtain ⟨z, ez, hz⟩ : ∃ z : Nat, atI [V.int ((p : Int) + 1), V.int (v2 % (((xs.map V.int).length : Nat) : Int)), V.int ((p : Int) + 1)] (w1 % 3) = some (.int z) ∧ z < n := by
        have : w1 % 3 = 0 ∨ w1 % 3 = 1 ∨ w1 % 3 = 2 := by omega
        rcases this with h | h | h <;> rw [h, eu]
        · exact ⟨p + 1, rfl, hp⟩
        · exact ⟨u, rfl, hu⟩
        · exact ⟨p + 1, rfl, hp⟩
      refine ⟨_, rfl, t2, _, _, _, rfl, rfl, SqL.of upd_same, ez, ?_⟩
      obtain ⟨a, ea⟩ : ∃ a, xs[p]? = some a := ⟨xs[p]'(by omega), List.getElem?_eq_getElem (by omega)⟩
      obtain ⟨b, eb⟩ : ∃ b, xs[z]? = some b := ⟨xs[z]'(by omega), List.getElem?_eq_getElem (by omega)⟩
      have D6 := D5.new (o := .lst [.int ((p : Int) + 1), .int (v2 % (((xs.map V.int).length : Nat) : Int)), .int ((p : Int) + 1)]) nt2
      have k6 : KeepD d H (upd H5 t2 (.lst [.int ((p : Int) + 1), .int (v2 % (((xs.map V.int).length : Nat) : Int)), .int ((p : Int) + 1)])) := ((k3.trans k4).trans k5).trans (KeepD.of_same s6)
      generalize upd H5 t2 (.lst [.int ((p : Int) + 1), .int (v2 % (((xs.map V.int).length : Nat) : Int)), .int ((p : Int) + 1)]) = H6 at hl6 D6 k6 ⊢
      refine ⟨_, rfl, _, 2, rfl, rfl, _, rfl, ite2 (fun _ => ?_) (fun _ => ?_)⟩
      · refine ⟨_, rfl, _, rfl, l, _, _, _, rfl, rfl, SqL.of hl6, at_of (j := z) rfl (int_at eb), _, rfl, _, rfl, l, _, _, _, rfl, rfl, SqL.of hl6, at_of (j := p) rfl (int_at ea), line_small (by show 2 ≤ 16777216; decide), fun t3 nt3 => ?_⟩
        have hl7 := same_new (o := .tup [.int b, .int a]) nt3 _ _ hl6
        refine ⟨t3, _, rfl, .inl (.inl upd_same), rfl, _, _, rfl, _, rfl, _, rfl, l, _, _, p, rfl, rfl, hl7, ix_n rfl (by rw [List.length_map]; omega), ?_⟩
        refine ⟨_, _, rfl, _, rfl, _, rfl, l, _, _, z, rfl, rfl, upd_same, ix_n rfl (by rw [List.length_set, List.length_map]; omega), ?_⟩
        refine ⟨rfl, _, _, _, (xs.set p b).set z a, rfl, (set2_perm ea eb).trans o3, by rw [upd_same, set2_V], ((D6.new nt3).upd nf).upd nf, fun c x e f => ?_⟩
        have nc : c ≠ l := ne_of_none e nl
        rw [upd_ne nc, upd_ne nc]
        exact same_new nt3 _ _ (k6 c x e f)
      · refine ⟨_, rfl, .inl ⟨rfl, _, SqL.of hl6⟩, _, rfl, d, rfl, D6, fun v3 H7 _ _ D7 k7 => ?_⟩
        have hl7 := k7 l _ hl6 nf
        refine ⟨_, rfl, l, _, rfl, .inl (SqL.of hl7), v3, _, rfl, rfl, by rw [hxm]; omega, ?_⟩
        obtain ⟨y, ey, hy⟩ : ∃ y : Nat, v3 % (((xs.map V.int).length : Nat) : Int) = (y : Int) ∧ y < n := by
          rw [hxm]
          have h1 := mod_b v3 (m := (n : Int)) (by omega)
          exact ⟨(v3 % (n : Int)).toNat, by omega, by omega⟩
        refine ⟨_, rfl, .inl ⟨rfl, _, SqL.of hl7⟩, _, rfl, l, _, _, p, _, rfl, rfl, hl7, by omega, by omega, seq_ix rfl (by rw [hxm]; omega), int_at ea, ?_⟩
        refine ⟨l, _, _, _, rfl, rfl, upd_same, line_lt (by rw [map_erase, List.length_map, List.length_eraseIdx, hxl]; split <;> omega), by rw [ey]; omega, by rw [ey]; omega, ?_⟩
        refine ⟨_, _, _, (xs.eraseIdx p).take y ++ [a] ++ (xs.eraseIdx p).drop y, rfl, ((ins_perm _ _ _).trans (pop_perm ea)).trans o3, ?_, (D7.upd nf).upd nf, fun c x e f => ?_⟩
        · rw [upd_same, map_erase, List.map_append, List.map_append, List.map_take, List.map_drop, ey, Int.toNat_natCast]
          rfl
        · have nc : c ≠ l := ne_of_none e nl
          rw [upd_ne nc, upd_ne nc]
          exact k7 c x (k6 c x e f) f
    · obtain ⟨y4, y5, y6, xs, rfl, o3, hl3, D3, k3⟩ := hP
      exact ⟨_, rfl, q xs l H3 o3 nl hl3 nf D3 k3⟩
end
end Fo
namespace Fo
open PySem PySem.Spec PyProof.Rows L2
/-! ### lists of lists -/
def LL (H : Hp) : List Addr → List (List Int) → Prop
  | [], [] => True
  | a :: as, r :: rs => H a = some (.lst (r.map V.int)) ∧ LL H as rs
  | _, _ => False
theorem LL.len {H : Hp} : ∀ {as : List Addr} {rs : List (List Int)}, LL H as rs → as.length = rs.length
  | [], [], _ => rfl
  | [], _ :: _, h => h.elim
  | _ :: _, [], h => h.elim
  | a :: as, r :: rs, h => by rw [List.length_cons, List.length_cons, LL.len h.2]
theorem LL.keep {H H' : Hp} : ∀ {as : List Addr} {rs : List (List Int)}, LL H as rs → (∀ a ∈ as, ∀ o, H a = some o → H' a = some o) → LL H' as rs
  | [], [], _, _ => trivial
  | [], _ :: _, h, _ => h.elim
  | _ :: _, [], h, _ => h.elim
  | a :: as, r :: rs, h, k => ⟨k a List.mem_cons_self _ h.1, LL.keep h.2 fun b hb => k b (List.mem_cons_of_mem _ hb)⟩
theorem LL.same {H H' : Hp} {as : List Addr} {rs : List (List Int)} (h : LL H as rs) (s : Same H H') : LL H' as rs := h.keep fun a _ o e => s a o e
theorem LL.get {H : Hp} : ∀ {as : List Addr} {rs : List (List Int)} {i : Nat} {a : Addr}, LL H as rs → as[i]? = some a → ∃ r, rs[i]? = some r ∧ H a = some (.lst (r.map V.int))
  | [], [], _, _, _, e => by simp at e
  | [], _ :: _, _, _, h, _ => h.elim
  | _ :: _, [], _, _, h, _ => h.elim
  | a :: as, r :: rs, 0, b, h, e => by
    have e2 : a = b := Option.some.inj e
    subst e2
    exact ⟨r, rfl, h.1⟩
  | a :: as, r :: rs, i + 1, b, h, e => LL.get (i := i) h.2 e
theorem LL.tracked {H : Hp} {as : List Addr} {rs : List (List Int)} (h : LL H as rs) {a : Addr} (ha : a ∈ as) : ∃ o, H a = some o := by
  obtain ⟨i, hi⟩ := List.mem_iff_getElem?.mp ha
  obtain ⟨r, _, e⟩ := h.get hi
  exact ⟨_, e⟩
theorem LL.snoc {H : Hp} : ∀ {as : List Addr} {rs : List (List Int)} {a : Addr} {r : List Int}, LL H as rs → H a = some (.lst (r.map V.int)) → LL H (as ++ [a]) (rs ++ [r])
  | [], [], _, _, _, e => ⟨e, trivial⟩
  | [], _ :: _, _, _, h, _ => h.elim
  | _ :: _, [], _, _, h, _ => h.elim
  | b :: as, s :: rs, _, _, h, e => ⟨h.1, LL.snoc h.2 e⟩
theorem LL.drop {H : Hp} : ∀ {as : List Addr} {rs : List (List Int)} (k : Nat), LL H as rs → LL H (as.drop k) (rs.drop k)
  | as, rs, 0, h => h
  | [], [], k + 1, _ => trivial
  | [], _ :: _, _ + 1, h => h.elim
  | _ :: _, [], _ + 1, h => h.elim
  | _ :: as, _ :: rs, k + 1, h => LL.drop k h.2
theorem dp_LL {K : PySem.W.Frag} {H : Hp} : ∀ {as : List Addr} {rs : List (List Int)}, LL H as rs → DpAll K H (as.map V.ref) (rs.map dL)
  | [], [], _ => .nil
  | [], _ :: _, h => h.elim
  | _ :: _, [], h => h.elim
  | _ :: _, _ :: _, h => .cons (dp_list h.1) (dp_LL h.2)
theorem dp_lists {K : PySem.W.Frag} {H : Hp} {l : Addr} {as : List Addr} {rs : List (List Int)} (hl : H l = some (.lst (as.map V.ref))) (h : LL H as rs) : Dp K H (.ref l) (dLL rs) := .lst (SqL.of hl) (dp_LL h)
theorem ref_at {as : List Addr} {i : Nat} {a : Addr} (h : as[i]? = some a) : (as.map V.ref)[i]? = some (V.ref a) := by
  rw [List.getElem?_map, h]
  rfl
theorem ref_at_inv {as : List Addr} {i : Nat} {v : V} (h : (as.map V.ref)[i]? = some v) : ∃ a, as[i]? = some a ∧ v = V.ref a := by
  rw [List.getElem?_map] at h
  cases e : as[i]? with
  | none => rw [e] at h; cases h
  | some x => rw [e] at h; exact ⟨x, rfl, (Option.some.inj h).symm⟩
theorem cutV_tail (xs : List V) (k : Nat) : cutV xs (some (k : Int)) none = xs.drop k := by
  unfold cutV
  rw [HT.sIx_none, HT.sIx_nat]
  by_cases h : k ≤ xs.length
  · rw [Nat.min_eq_left h, List.take_of_length_le (by rw [List.length_drop]; exact Nat.le_refl _)]
  · rw [Nat.min_eq_right (by omega), List.drop_of_length_le (Nat.le_refl _), List.drop_of_length_le (by omega), List.take_nil]
end Fo
namespace Fo
open PySem PySem.Spec PyProof.Rows L2
/-- a list of orders of n things -/
structure OL (H : Hp) (l : Addr) (as : List Addr) (rs : List (List Int)) (n : Nat) : Prop where
  top : H l = some (.lst (as.map V.ref))
  ll : LL H as rs
  ord : ∀ r ∈ rs, IsOrd n r
  n1 : 1 ≤ n
  n2 : n ≤ 12
theorem OL.same {H H' : Hp} {l : Addr} {as : List Addr} {rs : List (List Int)} {n : Nat} (h : OL H l as rs n) (s : Same H H') : OL H' l as rs n := ⟨s _ _ h.top, h.ll.same s, h.ord, h.n1, h.n2⟩
theorem OL.keepD {H H' : Hp} {l d : Addr} {as : List Addr} {rs : List (List Int)} {n : Nat} (h : OL H l as rs n) (s : KeepD d H H') (nl : l ≠ d) (na : d ∉ as) : OL H' l as rs n :=
  ⟨s _ _ h.top nl, h.ll.keep fun a ha o e => s a o e (fun q => na (by rw [← q]; exact ha)), h.ord, h.n1, h.n2⟩
def spPoll : Sp := fun vs H Q _ => ∃ (d : Addr) (n most : Nat), vs = [.ref d, .int n, .int most] ∧ DqAt H d ∧ 1 ≤ n ∧ n ≤ 12 ∧ 1 ≤ most ∧ most ≤ 20 ∧
  ∀ (l : Addr) (as : List Addr) (rs : List (List Int)) (H' : Hp), OL H' l as rs n → 1 ≤ rs.length → rs.length ≤ most → H l = none → (∀ a ∈ as, H a = none) → l ≠ d → d ∉ as → DqAt H' d → KeepD d H H' → Q (.ref l) H'
section
variable {P : Program} {w : World} {K : PySem.W.Frag} {mg : Str → Option Value} {base : Heap}
theorem scPoll : FnScope ["deck", "n", "most", "first", "found", "kind", "turn", "at", "some"] ["deck", "n", "most"] (defScope s_law_poll) := ⟨rfl, rfl, rfl, by decide +kernel, rfl, by decide +kernel, by decide +kernel⟩
set_option maxHeartbeats 4000000 in
theorem ok_poll {f fD fO fN : Addr} {fd fdD fdO fdN : FuncData} {k : Nat} (T : Df K mg "_law_poll" s_law_poll ["deck", "n", "most"] f fd) (T__law_next : Df K mg "_law_next" s_law_next ["deck"] fD fdD) (G__law_next : FnOk P w K mg base CX0 k fD fdD ["deck"] spNext) (T__law_order : Df K mg "_law_order" s_law_order ["deck", "n"] fO fdO) (G__law_order : FnOk P w K mg base CX0 k fO fdO ["deck", "n"] spOrderN) (T__law_near : Df K mg "_law_near" s_law_near ["deck", "order"] fN fdN) (G__law_near : FnOk P w K mg base CX0 k fN fdN ["deck", "order"] spNearN) (B : Bi mg) : FnOk P w K mg base CX0 (k + 1) f fd ["deck", "n", "most"] spPoll := by
  refine T.F.ok scPoll (fun vs H Q E h => ?_) (fun cdv A outer s H vs Q E hr h => ?_)
  · obtain ⟨D, n, m, rfl, _⟩ := h
    rfl
  · obtain ⟨d, n, most, rfl, hD, hn1, hn2, hm1, hm2, q⟩ := h
    refine ⟨_, 
      (pss_cons (ps_set (i := 3) scPoll.nd rfl (.inl rfl) (pe_call G__law_order hr (by rfl) T__law_order.g T__law_order.F.kp T__law_order.b .nil pass0 (pa_cons (pv 0) (pa_cons (pv 1) pa_nil))))
      (pss_cons (ps_set (i := 4) scPoll.nd rfl (.inl rfl) (pe_lst (pa_cons (pv 3) pa_nil)))
      (pss_cons (ps_set (i := 5) scPoll.nd rfl (.inl rfl) (pe_op op_mod (pe_call G__law_next hr (by rfl) T__law_next.g T__law_next.F.kp T__law_next.b .nil pass0 (pa_cons (pv 0) pa_nil)) pe_int))
      (pss_cons (ps_for PassesOwn.never rfl (pi_range1 (by rfl) B.range (pa_cons (pe_ix ix_list (pe_lst (pa_cons (pe_op op_mod (pe_call G__law_next hr (by rfl) T__law_next.g T__law_next.F.kp T__law_next.b .nil pass0 (pa_cons (pv 0) pa_nil)) (pv 2)) (pa_cons (pe_op op_sub (pv 2) pe_int) (pa_cons (pe_op op_mod (pe_call G__law_next hr (by rfl) T__law_next.g T__law_next.F.kp T__law_next.b .nil pass0 (pa_cons (pv 0) pa_nil)) (pe_callB (call_min2 rfl) (by rfl) B.min (by decide +kernel) (pa_cons (pv 2) (pa_cons pe_int pa_nil)))) pa_nil)))) (pe_op op_mod (pe_call G__law_next hr (by rfl) T__law_next.g T__law_next.F.kp T__law_next.b .nil pass0 (pa_cons (pv 0) pa_nil)) pe_int) (fun _ _ => rfl)) pa_nil)) (pg_name (i := 6) scPoll.nd rfl (.inl rfl))
        (pss_cons (ps_set (i := 7) scPoll.nd rfl (.inl rfl) (pe_op op_mod (pe_call G__law_next hr (by rfl) T__law_next.g T__law_next.F.kp T__law_next.b .nil pass0 (pa_cons (pv 0) pa_nil)) (pv 1)))
        (pss_cons (ps_set (i := 8) scPoll.nd rfl (.inl rfl) (pe_lst (pa_cons (pe_call G__law_near hr (by rfl) T__law_near.g T__law_near.F.kp T__law_near.b .nil pass0 (pa_cons (pv 0) (pa_cons (pv 3) pa_nil))) (pa_cons (pe_call G__law_order hr (by rfl) T__law_order.g T__law_order.F.kp T__law_order.b .nil pass0 (pa_cons (pv 0) (pa_cons (pv 1) pa_nil))) (pa_cons (pe_op op_cat (pe_slice sl_list (pv 3) (po_some (pv 7)) po_none) (pe_slice sl_list (pv 3) po_none (po_some (pv 7)))) (pa_cons (pe_revL (pv 3)) pa_nil))))))
        (pss_cons (ps_expr (pe_bm PySem.F.plainAttrs_list PySem.F.slot_list_append PySem.F.type_list_append mt_append (pv 8) (pa_cons (pe_callTy call_list_of (by rfl) B.list (by decide +kernel) (pa_cons (pe_ix ix_list (pv 4) (pe_op op_mod (pe_call G__law_next hr (by rfl) T__law_next.g T__law_next.F.kp T__law_next.b .nil pass0 (pa_cons (pv 0) pa_nil)) (pe_callB call_len_seq (by rfl) B.len PySem.boot_len (pa_cons (pv 4) pa_nil))) (fun _ _ => rfl)) pa_nil)) pa_nil)))
        (pss_one (ps_expr (pe_bm PySem.F.plainAttrs_list PySem.F.slot_list_append PySem.F.type_list_append mt_append (pv 4) (pa_cons (pe_ix ix_list (pv 8) (pe_ix ix_list (pe_lst (pa_cons pe_int (pa_cons pe_int (pa_cons pe_int (pa_cons (pe_op op_mod (pe_call G__law_next hr (by rfl) T__law_next.g T__law_next.F.kp T__law_next.b .nil pass0 (pa_cons (pv 0) pa_nil)) pe_int) pa_nil))))) (pv 5) (fun _ _ => rfl)) (fun _ _ => rfl)) pa_nil))))))))
      (pss_one (ps_ret (pv 4))))))), ?_⟩
    refine ⟨_, rfl, _, rfl, d, n, rfl, hD, hn2, fun fs f0 H1 ofs nf0 hf1 nfd D1 k1 => ?_⟩
    refine ⟨_, rfl, line_small (by show 1 ≤ 16777216; decide), fun l nl => ?_⟩
    have hf2 := same_new (o := .lst [.ref f0]) nl _ _ hf1
    have D2 := D1.new (o := .lst [.ref f0]) nl
    have nld := D1.ne nl
    have nlf : l ≠ f0 := (ne_of_none hf1 nl).symm
    have k2 : KeepD d H (upd H1 l (.lst [.ref f0])) := k1.trans (KeepD.new nl)
    have nHl : H l = none := k1.none nl nld
    have hl2 : (upd H1 l (.lst [.ref f0])) l = some (.lst [.ref f0]) := upd_same
    generalize upd H1 l (.lst [.ref f0]) = H2 at hf2 D2 k2 hl2 ⊢
    refine ⟨_, rfl, d, rfl, D2, fun w1 H3 _ _ D3 k3 => ⟨w1, 4, rfl, rfl, (show (0 : Int) < 4 by decide), ?_⟩⟩
    have hw := mod_b w1 (m := 4) (by decide)
    refine ⟨_, rfl, d, rfl, D3, fun w2 H4 _ _ D4 k4 => ⟨_, rfl, w2, most, rfl, rfl, (show (0 : Int) < (most : Int) by omega), _, rfl, (most : Int), 1, rfl, rfl, _, rfl, d, rfl, D4, fun w3 H5 _ _ D5 k5 => ?_⟩⟩
    refine ⟨_, rfl, (most : Int), 4, rfl, w3, _, rfl, rfl, (by show (0 : Int) < if 4 < (most : Int) then 4 else (most : Int); split <;> omega), ?_⟩
    refine ⟨line_small (by show 3 ≤ 16777216; decide), fun t nt => ?_⟩
    have h1 := mod_b w2 (m := (most : Int)) (by omega)
    have h2 := mod_b w3 (m := (if 4 < (most : Int) then 4 else (most : Int))) (by split <;> omega)
    have h3 : (if 4 < (most : Int) then 4 else (most : Int)) ≤ most := by split <;> omega
    have D6 := D5.new (o := .lst [.int (w2 % most), .int ((most : Int) - 1), .int (w3 % (if 4 < (most : Int) then 4 else (most : Int)))]) nt
    have ntd := D5.ne nt
    refine ⟨_, rfl, d, rfl, D6, fun w4 H7 _ _ D7 k7 => ⟨w4, 3, rfl, rfl, (show (0 : Int) < 3 by decide), ?_⟩⟩
    have ht7 := k7 t _ upd_same ntd
    have k37 : KeepD d H2 H7 := ((k3.trans k4).trans k5).trans ((KeepD.new nt).trans k7)
    have h4 := mod_b w4 (m := 3) (by decide)
    obtain ⟨m, em, hm⟩ : ∃ m : Nat, atI [V.int (w2 % most), V.int ((most : Int) - 1), V.int (w3 % (if 4 < (most : Int) then 4 else (most : Int)))] (w4 % 3) = some (.int m) ∧ m + 1 ≤ most := by
      have : w4 % 3 = 0 ∨ w4 % 3 = 1 ∨ w4 % 3 = 2 := by omega
      rcases this with h | h | h <;> rw [h]
      · refine ⟨(w2 % most).toNat, ?_, by omega⟩
        rw [Int.toNat_of_nonneg h1.1]
        rfl
      · refine ⟨most - 1, ?_, by omega⟩
        rw [show ((most - 1 : Nat) : Int) = (most : Int) - 1 by omega]
        rfl
      · refine ⟨(w3 % (if 4 < (most : Int) then 4 else (most : Int))).toNat, ?_, by omega⟩
        rw [Int.toNat_of_nonneg h2.1]
        rfl
    refine ⟨t, _, _, _, rfl, rfl, SqL.of ht7, em, m, rfl, by omega, by omega, ?_⟩
    rw [Int.toNat_natCast]
    have hf7 := k37 f0 _ hf2 nfd
    have hl7 := k37 l _ hl2 nld
    refine for_range (n := m) (fun i σ G => ∃ (y6 y7 y8 : Option V) (as : List Addr) (rs : List (List Int)), σ = [some (.ref d), some (.int n), some (.int most), some (.ref f0), some (.ref l), some (.int (w1 % 4)), y6, y7, y8] ∧ G l = some (.lst (as.map V.ref)) ∧ LL G as rs ∧ (∀ r ∈ rs, IsOrd n r) ∧ rs.length = i + 1 ∧ G f0 = some (.lst (fs.map V.int)) ∧ (∀ a ∈ as, H a = none) ∧ d ∉ as ∧ l ∉ as ∧ DqAt G d ∧ KeepD d H G)
      ⟨none, none, none, [f0], [fs], rfl, hl7, ⟨hf7, trivial⟩, fun r hr => by rw [List.mem_singleton.mp hr]; exact ofs, rfl, hf7, fun a ha => by rw [List.mem_singleton.mp ha]; exact nf0, fun hd => nfd (List.mem_singleton.mp hd).symm, fun hd => nlf (List.mem_singleton.mp hd), D7, k2.trans k37⟩ (fun i σ G hi hP => ?_) (fun σ G hP => ?_)
    · obtain ⟨y6, y7, y8, as, rs, rfl, hl, hLL, ho, hlen, hf, hna, nda, nla, DG, kG⟩ := hP
      have halen := hLL.len
      -- at = next % n
      refine ⟨_, rfl, d, rfl, DG, fun v1 G1 _ _ DG1 kk1 => ⟨_, rfl, v1, n, rfl, rfl, (show (0 : Int) < (n : Int) by omega), ?_⟩⟩
      obtain ⟨c, ec, hc⟩ : ∃ c : Nat, v1 % (n : Int) = (c : Int) ∧ c < n := by
        have h1 := mod_b v1 (m := (n : Int)) (by omega)
        exact ⟨(v1 % (n : Int)).toNat, by omega, by omega⟩
      show gName 7 (V.int (v1 % (n : Int))) _ _ _
      rw [ec]
      have hf1 := kk1 f0 _ hf nfd
      -- near
      refine ⟨_, rfl, _, rfl, d, f0, n, fs, rfl, DG1, hf1, ofs, hn1, hn2, fun r1 a1 G2 o1 na1 ha1 nd1 DG2 kk2 => ?_⟩
      have hf2 := kk2 f0 _ hf1 nfd
      have c2 : KeepD d G G2 := kk1.trans kk2
      -- order
      refine ⟨_, rfl, _, rfl, d, n, rfl, DG2, hn2, fun r2 a2 G3 o2 na2 ha2 nd2 DG3 kk3 => ?_⟩
      have hf3 := kk3 f0 _ hf2 nfd
      have c3 : KeepD d G G3 := c2.trans kk3
      -- first[at:] + first[:at]
      refine ⟨_, rfl, _, rfl, _, rfl, f0, _, rfl, SqL.of hf3, fun p1 np1 => ?_⟩
      have s1 := same_new (o := .lst (cutV (fs.map V.int) (some (c : Int)) none)) np1
      refine ⟨_, rfl, _, rfl, _, rfl, f0, _, rfl, SqL.of (s1 _ _ hf3), fun p2 np2 => ?_⟩
      have s2 := s1.trans (same_new (o := .lst (cutV (fs.map V.int) none (some (c : Int)))) np2)
      have hp1 := same_new (o := .lst (cutV (fs.map V.int) none (some (c : Int)))) np2 p1 (.lst (cutV (fs.map V.int) (some (c : Int)) none)) upd_same
      have hp2 : (upd (upd G3 p1 (.lst (cutV (fs.map V.int) (some (c : Int)) none))) p2 (.lst (cutV (fs.map V.int) none (some (c : Int))))) p2 = _ := upd_same
      generalize upd (upd G3 p1 (.lst (cutV (fs.map V.int) (some (c : Int)) none))) p2 (.lst (cutV (fs.map V.int) none (some (c : Int)))) = G4 at s2 hp1 hp2 ⊢
      rw [cut_ints, cutI_tail] at hp1
      rw [cut_ints, cutI_head] at hp2
      have lf : fs.length = n := ofs.len
      refine ⟨_, _, _, _, rfl, rfl, hp1, hp2, line_small (by rw [List.length_map, List.length_drop, List.length_map, List.length_take]; omega), fun a3 na3 => ?_⟩
      have DG4 := DG3.same s2
      have c4 : KeepD d G G4 := c3.trans (KeepD.of_same s2)
      have nd3 := DG4.ne na3
      have s3 := same_new (o := .lst ((fs.drop c).map V.int ++ (fs.take c).map V.int)) na3
      -- first[::-1]
      refine ⟨_, rfl, f0, _, rfl, SqL.of (s3 _ _ (s2 _ _ hf3)), fun a4 na4 => ?_⟩
      have s4 := s3.trans (same_new (o := .lst (fs.map V.int).reverse) na4)
      have ha3 := same_new (o := .lst (fs.map V.int).reverse) na4 a3 (.lst ((fs.drop c).map V.int ++ (fs.take c).map V.int)) upd_same
      have ha4 : (upd (upd G4 a3 (.lst ((fs.drop c).map V.int ++ (fs.take c).map V.int))) a4 (.lst (fs.map V.int).reverse)) a4 = _ := upd_same
      have nd4 := (DG4.new na3).ne na4
      have na4' : G4 a4 = none := s3.free na4
      generalize upd (upd G4 a3 (.lst ((fs.drop c).map V.int ++ (fs.take c).map V.int))) a4 (.lst (fs.map V.int).reverse) = G5 at s4 ha3 ha4 ⊢
      have DG5 := DG4.same s4
      refine ⟨line_small (by show 4 ≤ 16777216; decide), fun sm nsm => ?_⟩
      have nsd := DG5.ne nsm
      have s5 := same_new (o := .lst [.ref a1, .ref a2, .ref a3, .ref a4]) nsm
      have hsm : (upd G5 sm (.lst [.ref a1, .ref a2, .ref a3, .ref a4])) sm = _ := upd_same
      have DG6 := DG5.same s5
      have c6 : KeepD d G (upd G5 sm (.lst [.ref a1, .ref a2, .ref a3, .ref a4])) := c4.trans (KeepD.of_same (s4.trans s5))
      have ga1 := (s4.trans s5) _ _ (s2 _ _ (kk3 _ _ ha1 nd1))
      have ga2 := (s4.trans s5) _ _ (s2 _ _ ha2)
      have ga3 := s5 _ _ ha3
      have ga4 := s5 _ _ ha4
      generalize upd G5 sm (.lst [.ref a1, .ref a2, .ref a3, .ref a4]) = G6 at s5 hsm DG6 c6 ga1 ga2 ga3 ga4 ⊢
      -- some.append(list(found[next % len(found)]))
      refine ⟨_, rfl, .inl ⟨rfl, _, SqL.of hsm⟩, _, rfl, _, rfl, d, rfl, DG6, fun v2 G7 _ _ DG7 kk7 => ?_⟩
      have c7 : KeepD d G G7 := c6.trans kk7
      have hl7 := c7 l _ hl nld
      refine ⟨_, rfl, l, _, rfl, .inl (SqL.of hl7), v2, _, rfl, rfl, (by show (0 : Int) < (((as.map V.ref).length : Nat) : Int); rw [List.length_map]; omega), ?_⟩
      obtain ⟨j, ej, hj⟩ : ∃ j : Nat, v2 % (((as.map V.ref).length : Nat) : Int) = (j : Int) ∧ j < as.length := by
        rw [List.length_map]
        have h1 := mod_b v2 (m := ((as.length : Nat) : Int)) (by omega)
        exact ⟨(v2 % ((as.length : Nat) : Int)).toNat, by omega, by omega⟩
      have LL7 : LL G7 as rs := hLL.keep fun a ha o e => c7 a o e (fun q => nda (by rw [← q]; exact ha))
      obtain ⟨b, eb⟩ : ∃ b, as[j]? = some b := ⟨as[j], List.getElem?_eq_getElem hj⟩
      obtain ⟨rb, erb, hb7⟩ := LL7.get eb
      have orb := ho rb (List.mem_of_getElem? erb)
      refine ⟨l, _, _, _, rfl, rfl, SqL.of hl7, at_of ej (ref_at eb), b, _, rfl, .inl (SqL.of hb7), fun a5 na5 => ?_⟩
      have nd5 := DG7.ne na5
      have s8 := same_new (o := .lst (rb.map V.int)) na5
      have hsm8 := s8 _ _ (kk7 _ _ hsm nsd)
      have ga5 : (upd G7 a5 (.lst (rb.map V.int))) a5 = _ := upd_same
      have gb1 := s8 _ _ (kk7 _ _ ga1 nd1)
      have gb2 := s8 _ _ (kk7 _ _ ga2 nd2)
      have gb3 := s8 _ _ (kk7 _ _ ga3 nd3)
      have gb4 := s8 _ _ (kk7 _ _ ga4 nd4)
      have DG8 := DG7.same s8
      have c8 : KeepD d G (upd G7 a5 (.lst (rb.map V.int))) := c7.trans (KeepD.of_same s8)
      generalize upd G7 a5 (.lst (rb.map V.int)) = G8 at s8 hsm8 ga5 gb1 gb2 gb3 gb4 DG8 c8 ⊢
      refine ⟨sm, _, _, rfl, rfl, hsm8, line_lt (by show 4 < 16777216; decide), ?_⟩
      have nGs : G sm = none := (c4.trans (KeepD.of_same s4)).none nsm nsd
      have n1 : G a1 = none := kk1.none na1 nd1
      have n2 : G a2 = none := c2.none na2 nd2
      have n3 : G a3 = none := c4.none na3 nd3
      have n4 : G a4 = none := c4.none na4' nd4
      have n5 : G a5 = none := c7.none na5 nd5
      have ne_ : ∀ {x : Addr} {y : List Int}, G8 x = some (.lst (y.map V.int)) → x ≠ sm := fun {x y} e => ne_of e hsm8 (by
        intro z
        cases y with
        | nil => cases z
        | cons u v => cases z)
      -- found.append(some[[0, 1, 2, next % 5][kind]])
      have DG9 := DG8.upd (o := .lst [.ref a1, .ref a2, .ref a3, .ref a4, .ref a5]) nsd
      have c9 : KeepD d G (upd G8 sm (.lst [.ref a1, .ref a2, .ref a3, .ref a4, .ref a5])) := fun b o e nb => by rw [upd_ne (ne_of_none e nGs)]; exact c8 b o e nb
      have hsm9 : (upd G8 sm (.lst [.ref a1, .ref a2, .ref a3, .ref a4, .ref a5])) sm = _ := upd_same
      have e1 := (upd_ne (H := G8) (o := .lst [.ref a1, .ref a2, .ref a3, .ref a4, .ref a5]) (ne_ gb1)).trans gb1
      have e2 := (upd_ne (H := G8) (o := .lst [.ref a1, .ref a2, .ref a3, .ref a4, .ref a5]) (ne_ gb2)).trans gb2
      have e3 := (upd_ne (H := G8) (o := .lst [.ref a1, .ref a2, .ref a3, .ref a4, .ref a5]) (ne_ (by rw [← List.map_append] at gb3; exact gb3))).trans gb3
      have e4 := (upd_ne (H := G8) (o := .lst [.ref a1, .ref a2, .ref a3, .ref a4, .ref a5]) (ne_ (by rw [← List.map_reverse] at gb4; exact gb4))).trans gb4
      have e5 := (upd_ne (H := G8) (o := .lst [.ref a1, .ref a2, .ref a3, .ref a4, .ref a5]) (ne_ ga5)).trans ga5
      have eG : upd G8 sm (.lst ([.ref a1, .ref a2, .ref a3, .ref a4] ++ [.ref a5])) = upd G8 sm (.lst [.ref a1, .ref a2, .ref a3, .ref a4, .ref a5]) := rfl
      rw [eG]
      generalize upd G8 sm (.lst [.ref a1, .ref a2, .ref a3, .ref a4, .ref a5]) = G9 at DG9 c9 hsm9 e1 e2 e3 e4 e5 ⊢
      have hl9 := c9 l _ hl nld
      refine ⟨_, rfl, .inl ⟨rfl, _, SqL.of hl9⟩, _, rfl, _, rfl, d, rfl, DG9, fun v3 GA _ _ DGA kkA => ⟨v3, 5, rfl, rfl, (show (0 : Int) < 5 by decide), ?_⟩⟩
      refine ⟨line_small (by show 4 ≤ 16777216; decide), fun t2 nt2 => ?_⟩
      have sA := same_new (o := .lst [.int 0, .int 1, .int 2, .int (v3 % 5)]) nt2
      have cB : KeepD d G9 (upd GA t2 (.lst [.int 0, .int 1, .int 2, .int (v3 % 5)])) := kkA.trans (KeepD.of_same sA)
      have DGB := DGA.same sA
      have htB : (upd GA t2 (.lst [.int 0, .int 1, .int 2, .int (v3 % 5)])) t2 = _ := upd_same
      generalize upd GA t2 (.lst [.int 0, .int 1, .int 2, .int (v3 % 5)]) = GB at cB DGB htB ⊢
      have h5 := mod_b v3 (m := 5) (by decide)
      obtain ⟨z, ez, hz⟩ : ∃ z : Nat, atI [V.int 0, V.int 1, V.int 2, V.int (v3 % 5)] (w1 % 4) = some (.int z) ∧ z < 5 := by
        have : w1 % 4 = 0 ∨ w1 % 4 = 1 ∨ w1 % 4 = 2 ∨ w1 % 4 = 3 := by omega
        rcases this with h | h | h | h <;> rw [h]
        · exact ⟨0, rfl, by decide⟩
        · exact ⟨1, rfl, by decide⟩
        · exact ⟨2, rfl, by decide⟩
        · refine ⟨(v3 % 5).toNat, ?_, by omega⟩
          rw [Int.toNat_of_nonneg h5.1]
          rfl
      refine ⟨_, rfl, t2, _, _, _, rfl, rfl, SqL.of htB, ez, ?_⟩
      obtain ⟨a, r, ea, na, nda', hea, hor⟩ : ∃ (a : Addr) (r : List Int), [V.ref a1, V.ref a2, V.ref a3, V.ref a4, V.ref a5][z]? = some (.ref a) ∧ G a = none ∧ a ≠ d ∧ G9 a = some (.lst (r.map V.int)) ∧ IsOrd n r := by
        have : z = 0 ∨ z = 1 ∨ z = 2 ∨ z = 3 ∨ z = 4 := by omega
        rcases this with rfl | rfl | rfl | rfl | rfl
        · exact ⟨a1, r1, rfl, n1, nd1, e1, o1⟩
        · exact ⟨a2, r2, rfl, n2, nd2, e2, o2⟩
        · refine ⟨a3, fs.drop c ++ fs.take c, rfl, n3, nd3, by rw [List.map_append]; exact e3, ?_⟩
          have : (fs.drop c ++ fs.take c).Perm (fs.take c ++ fs.drop c) := List.perm_append_comm
          rw [List.take_append_drop] at this
          exact this.trans ofs
        · exact ⟨a4, fs.reverse, rfl, n4, nd4, by rw [List.map_reverse]; exact e4, (List.reverse_perm fs).trans ofs⟩
        · exact ⟨a5, rb, rfl, n5, nd5, e5, orb⟩
      have hlB := cB l _ hl9 nld
      have hsB := cB sm _ hsm9 nsd
      refine ⟨sm, _, _, _, rfl, rfl, SqL.of hsB, at_of (j := z) rfl ea, ?_⟩
      refine ⟨l, _, _, rfl, rfl, hlB, line_lt (by rw [List.length_map]; omega), ?_⟩
      have cF : KeepD d G GB := c9.trans cB
      have nla2 : a ≠ l := fun e => by rw [e, hl] at na; cases na
      have LLB : LL GB as rs := hLL.keep fun a ha o e => cF a o e (fun q => nda (by rw [← q]; exact ha))
      refine ⟨_, _, _, as ++ [a], rs ++ [r], rfl, by rw [upd_same, List.map_append]; rfl, ?_, fun u hu => ?_, by rw [List.length_append, hlen]; rfl, ?_, fun u hu => ?_, fun hd => ?_, fun hd => ?_, DGB.upd nld, fun u o e nu => ?_⟩
      · refine LL.snoc (LLB.keep fun u hu o e => ?_) ?_
        · rw [upd_ne (fun q => nla (by rw [← q]; exact hu))]
          exact e
        · rw [upd_ne nla2]
          exact cB a _ hea nda'
      · rcases List.mem_append.mp hu with h | h
        · exact ho u h
        · rw [List.mem_singleton.mp h]
          exact hor
      · rw [upd_ne nlf.symm]
        exact cF f0 _ hf nfd
      · rcases List.mem_append.mp hu with h | h
        · exact hna u h
        · rw [List.mem_singleton.mp h]
          exact kG.none na nda'
      · rcases List.mem_append.mp hd with h | h
        · exact nda h
        · exact nda' (List.mem_singleton.mp h).symm
      · rcases List.mem_append.mp hd with h | h
        · exact nla h
        · exact nla2 (List.mem_singleton.mp h).symm
      · rw [upd_ne (fun q => by rw [q, nHl] at e; cases e)]
        exact cF u o (kG u o e nu) nu
    · obtain ⟨y6, y7, y8, as, rs, rfl, hl, hLL, ho, hlen, hf, hna, nda, nla, DG, kG⟩ := hP
      exact ⟨_, rfl, q l as rs G ⟨hl, hLL, ho, hn1, hn2⟩ (by omega) (by omega) nHl hna nld nda DG kG⟩
end
end Fo
namespace Fo
open PySem PySem.Spec PyProof.Rows L2
def spWhole : Sp := fun vs H Q _ => ∃ i : Int, vs = [.int i] ∧ Q (.bl true) H
section
variable {P : Program} {w : World} {K : PySem.W.Frag} {mg : Str → Option Value} {base : Heap}
theorem scWhole : FnScope ["thing"] ["thing"] (defScope s_is_whole) := ⟨rfl, rfl, rfl, by decide +kernel, rfl, by decide +kernel, by decide +kernel⟩
theorem ok_whole {f : Addr} {fd : FuncData} {k : Nat} (T : Df K mg "is_whole" s_is_whole ["thing"] f fd) (B : Bi mg) : FnOk P w K mg base CX0 (k + 1) f fd ["thing"] spWhole := by
  refine T.F.ok scWhole (fun vs H Q E h => ?_) (fun cdv A outer s H vs Q E hr h => ?_)
  · obtain ⟨i, rfl, _⟩ := h
    rfl
  · obtain ⟨i, rfl, q⟩ := h
    refine ⟨_, pss_one (ps_ret (pe_and (pe_callB call_isi (by rfl) B.isinstance (by decide +kernel) (pa_cons (pv 0) (pa_cons (pe_bltn (v := .ty "int") (by rfl) B.int (by decide +kernel) rfl) pa_nil)))
      (pe_one (pe_not (pe_callB call_isi (by rfl) B.isinstance (by decide +kernel) (pa_cons (pv 0) (pa_cons (pe_bltn (v := .ty "bool") (by rfl) B.bool (by decide +kernel) rfl) pa_nil))))))), ?_⟩
    refine ⟨_, rfl, _, _, _, _, true, rfl, .ty _, .base (.int _), kit_ty (by decide +kernel), true, rfl, iteT ?_⟩
    exact ⟨_, rfl, _, _, _, _, false, rfl, .ty _, .base (.int _), kit_ty (by decide +kernel), false, rfl, q⟩
end
end Fo
namespace Fo
open PySem PySem.Spec PyProof.Rows L2
/-! ### whole numbers, orders -/
def spIsOrd : Sp := fun vs H Q _ => ∃ (a : Addr) (n : Nat) (ns : List Int), vs = [.ref a] ∧ H a = some (.lst (ns.map V.int)) ∧ IsOrd n ns ∧ 1 ≤ n ∧ n ≤ 12 ∧ ∀ H', Same H H' → Q (.bl true) H'
def spCheck : Sp := fun vs H Q _ => ∃ (a : Addr) (n : Nat) (ns : List Int), vs = [.ref a] ∧ H a = some (.lst (ns.map V.int)) ∧ IsOrd n ns ∧ 1 ≤ n ∧ n ≤ 12 ∧ ∀ H', Same H H' → Q .non H'
section
variable {P : Program} {w : World} {K : PySem.W.Frag} {mg : Str → Option Value} {base : Heap}
theorem scIsOrd : FnScope ["thing", "number"] ["thing"] (defScope s_is_order) := ⟨rfl, rfl, rfl, by decide +kernel, rfl, by decide +kernel, by decide +kernel⟩
theorem all_true (n : Nat) : (List.replicate n true).all id = true := by simp
set_option maxHeartbeats 2000000 in
theorem ok_is_order {f fW : Addr} {fd fdW : FuncData} {k : Nat} {t : Tok} (T : Df K mg "is_order" s_is_order ["thing"] f fd) (TW : Df K mg "is_whole" s_is_whole ["thing"] fW fdW) (B : Bi mg) (mM : mg "MOST_THINGS" = some (.int 12 t)) : FnOk P w K mg base CX0 (k + 2) f fd ["thing"] spIsOrd := by
  have GW : FnOk P w K mg base CX0 (k + 1) fW fdW ["thing"] spWhole := ok_whole TW B
  refine T.F.ok scIsOrd (fun vs H Q E h => ?_) (fun cdv A outer s H vs Q E hr h => ?_)
  · obtain ⟨a, n, ns, rfl, _⟩ := h
    rfl
  · obtain ⟨a, n, ns, rfl, hl, ho, hn1, hn2, q⟩ := h
    have hlm : (ns.map V.int).length = n := by rw [List.length_map, ho.len]
    refine ⟨_, pss_cons (ps_if (PW.pt (pw_or (pt_not (pt_val (pe_callB call_isi (by rfl) B.isinstance (by decide +kernel) (pa_cons (pv 0) (pa_cons (pe_bltn (v := .ty "list") (by rfl) B.list (by decide +kernel) rfl) pa_nil)))))
        (pw_or (pt_cmpR op_lt (pe_callB call_len_seq (by rfl) B.len PySem.boot_len (pa_cons (pv 0) pa_nil)) pe_int (nomark _)) (pw_or1 (pt_cmpR op_gt (pe_callB call_len_seq (by rfl) B.len PySem.boot_len (pa_cons (pv 0) pa_nil)) (pe_glob (v := .int 12) (by rfl) mM ⟨_, rfl⟩) (nomark _))))))
        (pss_one (ps_ret pe_bl)) pss_nil)
      (pss_cons (ps_if (pt_not (pt_val (pe_callB (cr_all rfl) (by rfl) B.all (by decide +kernel) (pa_cons (pe_lc (own := [("number", 1)]) (g := gName 1) (tt := tYes) (te := tCall spWhole [] E0 (tCons (tVar 1) tNil)) rfl scIsOrd.nd (pi_list (pv 0)) (blkOk_by (N := ["thing", "number"]) (sc := defScope s_is_order) (by decide +kernel)) (fun _ _ _ _ _ => pg_name (i := 1) scIsOrd.nd rfl (.inl rfl)) (fun _ _ _ _ _ => pts_nil)
          (fun _ _ _ _ _ => pe_call GW hr (by rfl) TW.g TW.F.kp TW.b .nil pass0 (pa_cons (pv 1) pa_nil))) pa_nil)))) (pss_one (ps_ret pe_bl)) pss_nil)
      (pss_one (ps_ret (pe_cmpR (op_eqD hr.units) (pe_callB cr_sorted (by rfl) B.sorted (by decide +kernel) (pa_cons (pv 0) pa_nil)) (pe_listRg rfl (by rfl) B.list (prg_1 (by rfl) B.range (pe_callB call_len_seq (by rfl) B.len PySem.boot_len (pa_cons (pv 0) pa_nil)))) (nomark _))))), ?_⟩
    refine ⟨_, rfl, _, _, _, _, true, rfl, .ty _, .base (.lst hl), kit_ty (by decide +kernel), true, rfl, iteF ?_⟩
    refine ⟨_, rfl, a, _, rfl, .inl (SqL.of hl), _, 1, rfl, rfl, _, rfl, ite2 (fun c => absurd (of_decide_eq_true c) (by rw [hlm]; omega)) (fun _ => ?_)⟩
    refine ⟨_, rfl, a, _, rfl, .inl (SqL.of hl), _, 12, rfl, rfl, _, rfl, ite2 (fun c => absurd (of_decide_eq_true c) (by rw [hlm]; omega)) (fun _ => ?_)⟩
    refine ⟨_, rfl, a, rfl, ⟨_, SqL.of hl⟩, fun p np => ?_⟩
    refine lc_list (K := K) (a := a) (xs := ns.map V.int) (fun i H3 => H3 p = some (.lst ((List.replicate i true).map V.bl)) ∧ Same H H3) ⟨upd_same, same_new np⟩ (fun i H3 _ hP => SqL.of (hP.2 _ _ hl)) (fun i x H3 hx hP => ?_) (fun H3 hP => ?_)
    · obtain ⟨y, ey, rfl⟩ := int_at_inv hx
      obtain ⟨hp3, sm⟩ := hP
      refine ⟨rfl, _, rfl, y, rfl, _, hp3, line_lt (by
        rw [List.length_map, List.length_replicate]
        have := (List.getElem?_eq_some_iff.mp hx).1
        omega), ?_, fun b o e => ?_⟩
      · rw [upd_same, List.replicate_succ', List.map_append]
        rfl
      · rw [upd_ne (ne_of_none e np)]
        exact sm _ _ e
    · obtain ⟨hp3, sm⟩ := hP
      have hl3 := sm _ _ hl
      refine ⟨p, _, rfl, SqL.of hp3, _, rfl, ?_⟩
      rw [all_true]
      refine iteF ?_
      refine ⟨_, rfl, a, ns, rfl, SqL.of hl3, by rw [ho.len]; omega, fun ns' s1 hperm hsrt ns1 => ?_⟩
      have hl4 := same_new (o := .lst (ns'.map V.int)) ns1 _ _ hl3
      refine ⟨_, rfl, a, _, rfl, .inl (SqL.of hl4), _, rfl, RgOk.of_le (by omega) (by rw [hlm]; omega) (by omega) (by omega), fun s2 ns2 => ?_⟩
      have e1 : ns' = rg n := sorted_eq (hperm.trans ho) hsrt (rg_sorted n)
      subst e1
      rw [hlm]
      have h1 : (upd (upd H3 s1 (.lst ((rg n).map V.int))) s2 (.lst (rgV 0 (n : Int)))) s1 = some (.lst ((rg n).map V.int)) := same_new ns2 _ _ upd_same
      have h2 : (upd (upd H3 s1 (.lst ((rg n).map V.int))) s2 (.lst (rgV 0 (n : Int)))) s2 = some (.lst ((rg n).map V.int)) := by rw [upd_same, rg_V]
      refine ⟨_, _, dp_list h1, dp_list h2, shaped_list _, shaped_list _, ?_⟩
      rw [eqv_list]
      exact q _ ((sm.trans (same_new ns1)).trans (same_new ns2))
end
end Fo
namespace Fo
open PySem PySem.Spec PyProof.Rows L2
def spPlaces : Sp := fun vs H Q _ => ∃ (a : Addr) (n : Nat) (ns : List Int), vs = [.ref a] ∧ H a = some (.lst (ns.map V.int)) ∧ IsOrd n ns ∧ 1 ≤ n ∧ n ≤ 12 ∧
  ∀ (ps : List Int) (l : Addr) (H' : Hp), IsBack ns ps → H l = none → H' l = some (.lst (ps.map V.int)) → Same H H' → Q (.ref l) H'
section
variable {P : Program} {w : World} {K : PySem.W.Frag} {mg : Str → Option Value} {base : Heap}
theorem scPlaces : FnScope ["order", "places", "place", "thing"] ["order"] (defScope s_places_in) := ⟨rfl, rfl, rfl, by decide +kernel, rfl, by decide +kernel, by decide +kernel⟩
set_option maxHeartbeats 2000000 in
theorem ok_places {f : Addr} {fd : FuncData} {k : Nat} (T : Df K mg "places_in" s_places_in ["order"] f fd) (B : Bi mg) : FnOk P w K mg base CX0 (k + 1) f fd ["order"] spPlaces := by
  refine T.F.ok scPlaces (fun vs H Q E h => ?_) (fun cdv A outer s H vs Q E hr h => ?_)
  · obtain ⟨a, n, ns, rfl, _⟩ := h
    rfl
  · obtain ⟨a, n, ns, rfl, ha, ho, hn1, hn2, q⟩ := h
    have hlm : (ns.map V.int).length = n := by rw [List.length_map, ho.len]
    have hz : ∀ m : Nat, (List.replicate m [V.int 0]).flatten = (List.replicate m (0 : Int)).map V.int := by
      intro m
      induction m with
      | zero => rfl
      | succ m ih => rw [List.replicate_succ, List.replicate_succ, List.flatten_cons, ih]; rfl
    refine ⟨_, 
      (pss_cons (ps_set (i := 1) scPlaces.nd rfl (.inl rfl) (pe_op op_rep (pe_lst (pa_cons pe_int pa_nil)) (pe_callB call_len_seq (by rfl) B.len PySem.boot_len (pa_cons (pv 0) pa_nil))))
      (pss_cons (ps_for PassesOwn.never rfl (pi_enum (by rfl) B.enumerate (pa_cons (pv 0) pa_nil)) (pg_tup (by rfl) (pgs_cons (pg_name (i := 2) scPlaces.nd rfl (.inl rfl)) (pgs_cons (pg_name (i := 3) scPlaces.nd rfl (.inl rfl)) pgs_nil)))
        (pss_one (ps_asg (pv 2) (pg_sub (pv 1) (pv 3) set_list))))
      (pss_one (ps_ret (pv 1))))), ?_⟩
    refine ⟨line_small (by show 1 ≤ 16777216; decide), fun z nz => ?_⟩
    have s1 := same_new (o := .lst [.int 0]) nz
    refine ⟨_, rfl, a, _, rfl, .inl (SqL.of (s1 _ _ ha)), z, _, _, rfl, rfl, upd_same, by omega, by rw [hlm]; omega, line_small (by rw [hlm, Int.toNat_natCast]; show 1 * n ≤ _; omega), fun l nl => ?_⟩
    have s2 := s1.trans (same_new (o := .lst (List.replicate (((ns.map V.int).length : Nat) : Int).toNat [V.int 0]).flatten) nl)
    have nHl : H l = none := s1.free nl
    refine ⟨_, rfl, a, _, rfl, SqL.of (s2 _ _ ha), ?_⟩
    refine for_enumL (xs := ns.map V.int) (fun i σ H3 => ∃ (y2 y3 : Option V) (ps : List Int), σ = [some (.ref a), some (.ref l), y2, y3] ∧ H3 l = some (.lst (ps.map V.int)) ∧ ps.length = n ∧ (∀ (j : Nat) (x : Int), j < i → ns[j]? = some x → ps[x.toNat]? = some (j : Int)) ∧ Same H H3)
      ⟨none, none, List.replicate n 0, rfl, by rw [upd_same, hz, hlm, Int.toNat_natCast], by rw [List.length_replicate], fun j x hj => absurd hj (Nat.not_lt_zero _), s2⟩ (fun i σ H3 hP => by obtain ⟨_, _, _, _, _, _, _, sm⟩ := hP; exact SqL.of (sm _ _ ha)) (fun i x t σ H3 hx hP nt => ?_) (fun σ H3 hP => ?_)
    · obtain ⟨y2, y3, ps, rfl, hl3, el, hat, sm⟩ := hP
      obtain ⟨y, ey, rfl⟩ := int_at_inv hx
      have hy := ho.mem (List.mem_of_getElem? ey)
      have s3 := same_new (o := .tup [.int (i : Nat), .int y]) nt
      have hl4 := s3 _ _ hl3
      refine ⟨t, _, rfl, .inl (.inl upd_same), rfl, _, _, rfl, _, _, rfl, rfl, ?_⟩
      refine ⟨_, rfl, _, rfl, _, rfl, l, _, _, y.toNat, rfl, rfl, hl4, ix_n (by omega) (by rw [List.length_map]; omega), ?_⟩
      refine ⟨_, _, ps.set y.toNat (i : Int), rfl, by rw [upd_same, List.map_set], by rw [List.length_set]; exact el, fun j x hj hx2 => ?_, fun c o e => ?_⟩
      · by_cases c : j = i
        · subst c
          have e1 : x = y := Option.some.inj (hx2.symm.trans ey)
          subst e1
          rw [List.getElem?_set_self (by omega)]
        · have hx3 := ho.mem (List.mem_of_getElem? hx2)
          have ne : y.toNat ≠ x.toNat := fun e => c (nd_ix ho.nodup hx2 (by rw [ey]; congr 1; omega))
          rw [List.getElem?_set_ne ne]
          exact hat j x (by omega) hx2
      · rw [upd_ne (ne_of_none e nHl)]
        exact s3 _ _ (sm _ _ e)
    · obtain ⟨y2, y3, ps, rfl, hl3, el, hat, sm⟩ := hP
      rw [hlm] at hat
      refine ⟨_, rfl, q ps l H3 ⟨by rw [el, ho.len], fun j x hx => hat j x ?_ hx⟩ nHl hl3 sm⟩
      have := (List.getElem?_eq_some_iff.mp hx).1
      rw [ho.len] at this
      exact this
end
end Fo
namespace Fo
open PySem PySem.Spec PyProof.Rows L2
def spOLst : Sp := fun vs H Q _ => ∃ (l : Addr) (as : List Addr) (rs : List (List Int)) (n : Nat), vs = [.ref l] ∧ OL H l as rs n ∧ rs.length ≤ 1000 ∧ ∀ H', Same H H' → Q (.bl true) H'
theorem take_more' {α : Type} {l : List α} {i : Nat} {x : α} (h : l[i]? = some x) : l.take (i + 1) = l.take i ++ [x] := by
  rw [List.take_add_one, h]
  rfl
section
variable {P : Program} {w : World} {K : PySem.W.Frag} {mg : Str → Option Value} {base : Heap}
theorem scOLst : FnScope ["thing", "each", "order"] ["thing"] (defScope s_is_order_list) := ⟨rfl, rfl, rfl, by decide +kernel, rfl, by decide +kernel, by decide +kernel⟩
set_option maxHeartbeats 2000000 in
theorem ok_olst {f f1 : Addr} {fd d1 : FuncData} {k : Nat} (T : Df K mg "is_order_list" s_is_order_list ["thing"] f fd) (T_is_order : Df K mg "is_order" s_is_order ["thing"] f1 d1) (G_is_order : FnOk P w K mg base CX0 k f1 d1 ["thing"] spIsOrd) (B : Bi mg) : FnOk P w K mg base CX0 (k + 1) f fd ["thing"] spOLst := by
  refine T.F.ok scOLst (fun vs H Q E h => ?_) (fun cdv A outer s H vs Q E hr h => ?_)
  · obtain ⟨l, as, rs, n, rfl, _⟩ := h
    rfl
  · obtain ⟨l, as, rs, n, rfl, hO, hlen, q⟩ := h
    have hal := hO.ll.len
    refine ⟨_, 
      (pss_cons (ps_if (PW.pt (pw_or (pt_not (pt_val (pe_callB call_isi (by rfl) B.isinstance (by decide +kernel) (pa_cons (pv 0) (pa_cons (pe_bltn (v := .ty "list") (by rfl) B.list (by decide +kernel) rfl) pa_nil))))) (pw_or1 (pt_not (pt_val (pe_callB (cr_all rfl) (by rfl) B.all (by decide +kernel) (pa_cons (pe_lc (own := [("each", 1)]) (g := (gName 1)) (tt := tYes) (te := (tCall spIsOrd [] E0 (tCons (tVar 1) tNil))) rfl scOLst.nd (pi_list (pv 0)) (blkOk_by (N := ["thing", "each", "order"]) (sc := defScope s_is_order_list) (by decide +kernel)) (fun _ _ _ _ _ => (pg_name (i := 1) scOLst.nd rfl (.inl rfl))) (fun _ _ _ _ _ => pts_nil) (fun _ _ _ _ _ => (pe_call G_is_order hr (by rfl) T_is_order.g T_is_order.F.kp T_is_order.b .nil pass0 (pa_cons (pv 1) pa_nil)))) pa_nil)))))))
        (pss_one (ps_ret pe_bl))
        pss_nil)
      (pss_one (ps_ret (pe_callB (cr_all rfl) (by rfl) B.all (by decide +kernel) (pa_cons (pe_lc (own := [("order", 2)]) (g := (gName 2)) (tt := tYes) (te := (tOp rEq (tCB (rLenS K) (tCons (tVar 2) tNil)) (tCB (rLenS K) (tCons (tOp (rIxL K) (tVar 0) (tC (.int 0))) tNil)))) rfl scOLst.nd (pi_list (pv 0)) (blkOk_by (N := ["thing", "each", "order"]) (sc := defScope s_is_order_list) (by decide +kernel)) (fun _ _ _ _ _ => (pg_name (i := 2) scOLst.nd rfl (.inl rfl))) (fun _ _ _ _ _ => pts_nil) (fun _ _ _ _ _ => (pe_cmpR op_eq (pe_callB call_len_seq (by rfl) B.len PySem.boot_len (pa_cons (pv 2) pa_nil)) (pe_callB call_len_seq (by rfl) B.len PySem.boot_len (pa_cons (pe_ix ix_list (pv 0) pe_int (fun _ _ => rfl)) pa_nil)) (nomark _)))) pa_nil))))), ?_⟩
    refine ⟨_, rfl, _, _, _, _, true, rfl, .ty _, .base (.lst hO.top), kit_ty (by decide +kernel), true, rfl, iteF ?_⟩
    refine ⟨_, rfl, l, rfl, ⟨_, SqL.of hO.top⟩, fun p np => ?_⟩
    refine lc_list (K := K) (a := l) (xs := as.map V.ref) (fun i H3 => H3 p = some (.lst ((List.replicate i true).map V.bl)) ∧ Same H H3) ⟨upd_same, same_new np⟩ (fun i H3 _ hP => SqL.of (hP.2 _ _ hO.top)) (fun i x H3 hx hP => ?_) (fun H3 hP => ?_)
    · obtain ⟨a, ea, rfl⟩ := ref_at_inv hx
      obtain ⟨hp3, sm⟩ := hP
      obtain ⟨r, er, ha⟩ := (hO.ll.same sm).get ea
      refine ⟨rfl, _, rfl, a, n, r, rfl, ha, hO.ord r (List.mem_of_getElem? er), hO.n1, hO.n2, fun H4 s4 => ⟨_, s4 _ _ hp3, line_lt (by
        rw [List.length_map, List.length_replicate]
        have := (List.getElem?_eq_some_iff.mp ea).1
        omega), ?_, fun b o e => ?_⟩⟩
      · rw [upd_same, List.replicate_succ', List.map_append]
        rfl
      · rw [upd_ne (ne_of_none e np)]
        exact s4 _ _ (sm _ _ e)
    · obtain ⟨hp3, sm⟩ := hP
      have h3 := hO.same sm
      refine ⟨p, _, rfl, SqL.of hp3, _, rfl, ?_⟩
      rw [all_true]
      refine iteF ?_
      refine ⟨_, rfl, l, rfl, ⟨_, SqL.of h3.top⟩, fun p2 np2 => ?_⟩
      refine lc_list (K := K) (a := l) (xs := as.map V.ref) (fun i H5 => H5 p2 = some (.lst ((List.replicate i true).map V.bl)) ∧ Same H3 H5) ⟨upd_same, same_new np2⟩ (fun i H5 _ hP => SqL.of (hP.2 _ _ h3.top)) (fun i x H5 hx hP => ?_) (fun H5 hP => ?_)
      · obtain ⟨a, ea, rfl⟩ := ref_at_inv hx
        obtain ⟨hp5, sm5⟩ := hP
        have h5 := h3.same sm5
        obtain ⟨r, er, ha⟩ := h5.ll.get ea
        have hi := (List.getElem?_eq_some_iff.mp ea).1
        obtain ⟨a0, ea0⟩ : ∃ a0, as[0]? = some a0 := ⟨as[0]'(by omega), List.getElem?_eq_getElem (by omega)⟩
        obtain ⟨r0, er0, ha0⟩ := h5.ll.get ea0
        have l1 := (h5.ord r (List.mem_of_getElem? er)).len
        have l2 := (h5.ord r0 (List.mem_of_getElem? er0)).len
        refine ⟨rfl, _, rfl, a, _, rfl, .inl (SqL.of ha), _, rfl, l, _, 0, _, rfl, rfl, SqL.of h5.top, at_of (j := 0) rfl (ref_at ea0), a0, _, rfl, .inl (SqL.of ha0), rfl, ?_⟩
        refine ⟨_, hp5, line_lt (by rw [List.length_map, List.length_replicate]; omega), ?_, fun b o e => ?_⟩
        · rw [upd_same, List.replicate_succ', List.map_append, List.length_map, List.length_map, l1, l2, decide_eq_true rfl]
          rfl
        · rw [upd_ne (ne_of_none e np2)]
          exact sm5 _ _ e
      · obtain ⟨hp5, sm5⟩ := hP
        refine ⟨p2, _, rfl, SqL.of hp5, ?_⟩
        rw [all_true]
        exact q _ (sm.trans sm5)
end
end Fo
namespace Fo
open PySem PySem.Spec PyProof.Rows L2
def spCPoll : Sp := fun vs H Q _ => ∃ (l : Addr) (as : List Addr) (rs : List (List Int)) (n : Nat), vs = [.ref l] ∧ OL H l as rs n ∧ 1 ≤ rs.length ∧ rs.length ≤ 20 ∧ ∀ H', Same H H' → Q .non H'
section
variable {P : Program} {w : World} {K : PySem.W.Frag} {mg : Str → Option Value} {base : Heap}
theorem scCPoll : FnScope ["thing"] ["thing"] (defScope s_check_poll) := ⟨rfl, rfl, rfl, by decide +kernel, rfl, by decide +kernel, by decide +kernel⟩
theorem ok_cpoll {f f1 : Addr} {fd d1 : FuncData} {k : Nat} {t : Tok} (T : Df K mg "check_poll" s_check_poll ["thing"] f fd) (T_is_order_list : Df K mg "is_order_list" s_is_order_list ["thing"] f1 d1) (G_is_order_list : FnOk P w K mg base CX0 k f1 d1 ["thing"] spOLst) (B : Bi mg) (mP : mg "MOST_POLLED" = some (.int 20 t)) : FnOk P w K mg base CX0 (k + 1) f fd ["thing"] spCPoll := by
  refine T.F.ok scCPoll (fun vs H Q E h => ?_) (fun cdv A outer s H vs Q E hr h => ?_)
  · obtain ⟨l, as, rs, n, rfl, _⟩ := h
    rfl
  · obtain ⟨l, as, rs, n, rfl, hO, h1, h2, q⟩ := h
    have hal := hO.ll.len
    have hml : (as.map V.ref).length = as.length := List.length_map _
    refine ⟨_, 
      (pss_one (ps_if (PW.pt (pw_or (pt_not (pt_val (pe_call G_is_order_list hr (by rfl) T_is_order_list.g T_is_order_list.F.kp T_is_order_list.b .nil pass0 (pa_cons (pv 0) pa_nil)))) (pw_or (pt_cmpR op_eq (pe_callB call_len_seq (by rfl) B.len PySem.boot_len (pa_cons (pv 0) pa_nil)) pe_int (nomark _)) (pw_or1 (pt_cmpR op_gt (pe_callB call_len_seq (by rfl) B.len PySem.boot_len (pa_cons (pv 0) pa_nil)) (pe_glob (v := .int 20) (by rfl) mP ⟨_, rfl⟩) (nomark _))))))
        (pss_one ps_never)
        pss_nil)), ?_⟩
    refine ⟨_, rfl, l, as, rs, n, rfl, hO, by omega, fun H1 s1 => ⟨_, rfl, iteF ?_⟩⟩
    have t1 := (hO.same s1).top
    refine ⟨_, rfl, l, _, rfl, .inl (SqL.of t1), rfl, _, rfl, ite2 (fun c => ?_) (fun _ => ?_)⟩
    · exfalso
      have z : V.int (((as.map V.ref).length : Nat) : Int) = V.int 0 := of_decide_eq_true c
      have z2 : (((as.map V.ref).length : Nat) : Int) = 0 := V.int.inj z
      omega
    refine ⟨_, rfl, l, _, rfl, .inl (SqL.of t1), _, 20, rfl, rfl, _, rfl, ite2 (fun c => absurd (of_decide_eq_true c) (by rw [hml]; omega)) (fun _ => q _ s1)⟩
end
end Fo
namespace Fo
open PySem PySem.Spec PyProof.Rows L2
def spFew : Sp := fun vs H Q _ => ∃ (n m : Int), vs = [.int n, .int m] ∧ n ≤ m ∧ Q .non H
section
variable {P : Program} {w : World} {K : PySem.W.Frag} {mg : Str → Option Value} {base : Heap}
theorem scFew : FnScope ["n", "most"] ["n", "most"] (defScope s_check_few) := ⟨rfl, rfl, rfl, by decide +kernel, rfl, by decide +kernel, by decide +kernel⟩
theorem ok_few {f : Addr} {fd : FuncData} {k : Nat} (T : Df K mg "check_few" s_check_few ["n", "most"] f fd) : FnOk P w K mg base CX0 (k + 1) f fd ["n", "most"] spFew := by
  refine T.F.ok scFew (fun vs H Q E h => ?_) (fun cdv A outer s H vs Q E hr h => ?_)
  · obtain ⟨n, m, rfl, _⟩ := h
    rfl
  · obtain ⟨n, m, rfl, hl, q⟩ := h
    refine ⟨_, 
      (pss_one (ps_if (pt_cmpR op_gt (pv 0) (pv 1) (nomark _))
        (pss_one ps_never)
        pss_nil)), ?_⟩
    exact ⟨_, rfl, _, rfl, n, m, rfl, rfl, _, rfl, ite2 (fun c => absurd (of_decide_eq_true c) (by omega)) (fun _ => q)⟩
end
end Fo
namespace Fo
open PySem PySem.Spec PyProof.Rows L2
def aN (rs : List (List Int)) (i j : Int) : Int := (((rs.filter fun r => decide (pos r i < pos r j)).length : Nat) : Int)
def aM (n : Nat) (rs : List (List Int)) : List (List Int) := (rg n).map fun i => (rg n).map fun j => aN rs i j
theorem aN_self (rs : List (List Int)) (t : Int) : aN rs t t = 0 := by
  unfold aN
  rw [List.filter_eq_nil_iff.mpr]
  · rfl
  · intro r _
    simp
def spAhead : Sp := fun vs H Q _ => ∃ (l : Addr) (as : List Addr) (rs : List (List Int)) (n : Nat), vs = [.ref l] ∧ OL H l as rs n ∧ 1 ≤ rs.length ∧ rs.length ≤ 1000 ∧
  ∀ (l' : Addr) (as' : List Addr) (H' : Hp), H l' = none → H' l' = some (.lst (as'.map V.ref)) → LL H' as' (aM n rs) → Same H H' → Q (.ref l') H'
/-- lists of places, each of an order -/
def Bks : List (List Int) → List (List Int) → Prop
  | [], [] => True
  | p :: ps, r :: rs => IsBack r p ∧ Bks ps rs
  | _, _ => False
theorem Bks.len : ∀ {ps rs : List (List Int)}, Bks ps rs → ps.length = rs.length
  | [], [], _ => rfl
  | [], _ :: _, h => h.elim
  | _ :: _, [], h => h.elim
  | _ :: _, _ :: _, h => by rw [List.length_cons, List.length_cons, Bks.len h.2]
theorem Bks.snoc : ∀ {ps rs : List (List Int)} {p r : List Int}, Bks ps rs → IsBack r p → Bks (ps ++ [p]) (rs ++ [r])
  | [], [], _, _, _, e => ⟨e, trivial⟩
  | [], _ :: _, _, _, h, _ => h.elim
  | _ :: _, [], _, _, h, _ => h.elim
  | _ :: _, _ :: _, _, _, h, e => ⟨h.1, Bks.snoc h.2 e⟩
theorem Bks.get : ∀ {ps rs : List (List Int)} {i : Nat} {r : List Int}, Bks ps rs → rs[i]? = some r → ∃ p, ps[i]? = some p ∧ IsBack r p
  | [], [], _, _, _, e => by simp at e
  | [], _ :: _, _, _, h, _ => h.elim
  | _ :: _, [], _, _, h, _ => h.elim
  | p :: ps, r :: rs, 0, r', h, e => by
    have e2 : r = r' := Option.some.inj e
    subst e2
    exact ⟨p, rfl, h.1⟩
  | p :: ps, r :: rs, i + 1, r', h, e => Bks.get (i := i) h.2 e
theorem rg_at {n i : Nat} (h : i < n) : (rg n)[i]? = some (i : Int) := by
  unfold rg
  rw [List.getElem?_map, List.getElem?_range h]
  rfl
theorem rg_take {n i : Nat} (h : i ≤ n) : (rg n).take i = rg i := by
  unfold rg
  rw [← List.map_take, List.take_range, Nat.min_eq_left h]
theorem filter_more' {l : List (List Int)} {m : Nat} {x : List Int} (p : List Int → Bool) (h : l[m]? = some x) : (l.take (m + 1)).filter p = (l.take m).filter p ++ (if p x then [x] else []) := by
  rw [List.take_add_one, h, List.filter_append]
  show _ ++ List.filter p [x] = _
  rw [List.filter_cons]
  rfl
section
variable {P : Program} {w : World} {K : PySem.W.Frag} {mg : Str → Option Value} {base : Heap}
theorem scAhead : FnScope ["poll", "things", "places", "order", "i", "j", "seats"] ["poll"] (defScope s_counts_ahead) := ⟨rfl, rfl, rfl, by decide +kernel, rfl, by decide +kernel, by decide +kernel⟩
set_option maxHeartbeats 4000000 in
theorem ok_ahead {f f1 : Addr} {fd d1 : FuncData} {k : Nat} (T : Df K mg "counts_ahead" s_counts_ahead ["poll"] f fd) (T_places_in : Df K mg "places_in" s_places_in ["order"] f1 d1) (G_places_in : FnOk P w K mg base CX0 k f1 d1 ["order"] spPlaces) (B : Bi mg) : FnOk P w K mg base CX0 (k + 1) f fd ["poll"] spAhead := by
  refine T.F.ok scAhead (fun vs H Q E h => ?_) (fun cdv A outer s H vs Q E hr h => ?_)
  · obtain ⟨l, as, rs, n, rfl, _⟩ := h
    rfl
  · obtain ⟨l, as, rs, n, rfl, hO, h1, h2, q⟩ := h
    have hal := hO.ll.len
    refine ⟨_, 
      (pss_cons (ps_set (i := 1) scAhead.nd rfl (.inr rfl) (pe_listRg rfl (by rfl) B.list (prg_1 (by rfl) B.range (pe_callB call_len_seq (by rfl) B.len PySem.boot_len (pa_cons (pe_ix ix_list (pv 0) pe_int (fun _ _ => rfl)) pa_nil)))))
      (pss_cons (ps_set (i := 2) scAhead.nd rfl (.inr rfl) (pe_lc (own := [("order", 3)]) (g := (gName 3)) (tt := tYes) (te := (tCall spPlaces [] E0 (tCons (tVar 3) tNil))) rfl scAhead.nd (pi_list (pv 0)) (blkOk_by (N := ["poll", "things", "places", "order", "i", "j", "seats"]) (sc := defScope s_counts_ahead) (by decide +kernel)) (fun _ _ _ _ _ => (pg_name (i := 3) scAhead.nd rfl (.inl rfl))) (fun _ _ _ _ _ => pts_nil) (fun _ _ _ _ _ => (pe_call G_places_in hr (by rfl) T_places_in.g T_places_in.F.kp T_places_in.b .nil pass0 (pa_cons (pv 3) pa_nil)))))
      (pss_one (ps_ret (pe_lc (own := [("i", 4)]) (g := (gName 4)) (tt := tYes) (te := (tLc (iList K (tVar 1)) (gName 5) tYes (tCB (rLenS K) (tCons (tLc (iList K (tVar 2)) (gName 6) (tTest (tOp (rI0 fun i j => .bl (decide (i < j))) (tOp (rIxL K) (tVar 6) (tVar 4)) (tOp (rIxL K) (tVar 6) (tVar 5)))) (tVar 6) [6]) tNil)) [5])) rfl scAhead.nd (pi_list (pv 1)) (blkOk_by (N := ["poll", "things", "places", "order", "i", "j", "seats"]) (sc := defScope s_counts_ahead) (by decide +kernel)) (fun _ _ _ _ _ => (pg_name (i := 4) scAhead.nd rfl (.inr rfl))) (fun _ _ _ _ _ => pts_nil) (fun _ _ _ _ _ => (pe_lc (own := [("j", 5)]) (g := (gName 5)) (tt := tYes) (te := (tCB (rLenS K) (tCons (tLc (iList K (tVar 2)) (gName 6) (tTest (tOp (rI0 fun i j => .bl (decide (i < j))) (tOp (rIxL K) (tVar 6) (tVar 4)) (tOp (rIxL K) (tVar 6) (tVar 5)))) (tVar 6) [6]) tNil))) rfl scAhead.nd (pi_list (pv 1)) (blkOk_by (N := ["poll", "things", "places", "order", "i", "j", "seats"]) (by rfl)) (fun _ _ _ _ _ => (pg_name (i := 5) scAhead.nd rfl (.inr rfl))) (fun _ _ _ _ _ => pts_nil) (fun _ _ _ _ _ => (pe_callB call_len_seq (by rfl) B.len PySem.boot_len (pa_cons (pe_lc (own := [("seats", 6)]) (g := (gName 6)) (tt := (tTest (tOp (rI0 fun i j => .bl (decide (i < j))) (tOp (rIxL K) (tVar 6) (tVar 4)) (tOp (rIxL K) (tVar 6) (tVar 5))))) (te := (tVar 6)) rfl scAhead.nd (pi_list (pv 2)) (blkOk_by (N := ["poll", "things", "places", "order", "i", "j", "seats"]) (by rfl)) (fun _ _ _ _ _ => (pg_name (i := 6) scAhead.nd rfl (.inl rfl))) (fun _ _ _ _ _ => (pts_one (pt_cmpR op_lt (pe_ix ix_list (pv 6) (pv 4) (fun _ _ => rfl)) (pe_ix ix_list (pv 6) (pv 5) (fun _ _ => rfl)) (nomark _)))) (fun _ _ _ _ _ => (pv 6))) pa_nil)))))))))), ?_⟩
    obtain ⟨a0, ea0⟩ : ∃ a0, as[0]? = some a0 := ⟨as[0]'(by omega), List.getElem?_eq_getElem (by omega)⟩
    obtain ⟨r0, er0, ha0⟩ := hO.ll.get ea0
    have lr0 : (r0.map V.int).length = n := by rw [List.length_map]; exact (hO.ord r0 (List.mem_of_getElem? er0)).len
    have hn2 := hO.n2
    refine ⟨_, rfl, l, _, 0, _, rfl, rfl, SqL.of hO.top, at_of (j := 0) rfl (ref_at ea0), a0, _, rfl, .inl (SqL.of ha0), _, rfl, RgOk.of_le (by omega) (by rw [lr0]; omega) (by omega) (by omega), fun th nth => ?_⟩
    rw [lr0]
    have s1 := same_new (o := .lst (rgV 0 (n : Int))) nth
    have hth : (upd H th (.lst (rgV 0 (n : Int)))) th = some (.lst ((rg n).map V.int)) := by rw [upd_same, rg_V]
    have hO1 := hO.same s1
    generalize upd H th (.lst (rgV 0 (n : Int))) = H1 at s1 hth hO1 ⊢
    -- places
    refine ⟨_, rfl, l, rfl, ⟨_, SqL.of hO1.top⟩, fun D nD => ?_⟩
    refine lc_list (K := K) (a := l) (xs := as.map V.ref) (fun i H3 => ∃ (bs : List Addr) (ps : List (List Int)), H3 D = some (.lst (bs.map V.ref)) ∧ LL H3 bs ps ∧ Bks ps (rs.take i) ∧ D ∉ bs ∧ Same H1 H3) ⟨[], [], upd_same, trivial, trivial, List.not_mem_nil, same_new nD⟩ (fun i H3 _ hP => by obtain ⟨_, _, _, _, _, _, sm⟩ := hP; exact SqL.of (sm _ _ hO1.top)) (fun i x H3 hx hP => ?_) (fun H2 hP => ?_)
    · obtain ⟨a, ea, rfl⟩ := ref_at_inv hx
      obtain ⟨bs, ps, hD3, hL3, hB3, nDb, sm⟩ := hP
      obtain ⟨r, er, ha⟩ := (hO1.ll.same sm).get ea
      have hbl := hL3.len
      have hpl := hB3.len
      rw [List.length_take] at hpl
      refine ⟨rfl, _, rfl, a, n, r, rfl, ha, hO.ord r (List.mem_of_getElem? er), hO.n1, hO.n2, fun p c H4 hb nc hc s4 => ?_⟩
      have ncD : c ≠ D := fun e => by rw [e, hD3] at nc; cases nc
      refine ⟨_, s4 _ _ hD3, line_lt (by rw [List.length_map]; omega), bs ++ [c], ps ++ [p], by rw [upd_same, List.map_append]; rfl, ?_, by rw [take_more' er]; exact hB3.snoc hb, fun hu => ?_, fun b o e => ?_⟩
      · refine LL.snoc ((hL3.same s4).keep fun u hu o e => ?_) ?_
        · rw [upd_ne (fun q => nDb (by rw [← q]; exact hu))]
          exact e
        · rw [upd_ne ncD]
          exact hc
      · rcases List.mem_append.mp hu with h | h
        · exact nDb h
        · exact ncD (List.mem_singleton.mp h).symm
      · rw [upd_ne (ne_of_none e nD)]
        exact s4 _ _ (sm _ _ e)
    obtain ⟨cs, ps, hD2, hL2, hB2, nDc, s2⟩ := hP
    rw [List.take_of_length_le (by rw [List.length_map]; omega)] at hB2
    have hth2 := s2 _ _ hth
    have hcl := hL2.len
    have hpl := hB2.len
    have s02 := s1.trans s2
    clear hO1 hth ha0 s1 s2 nDc nD
    -- the table
    refine ⟨_, rfl, th, rfl, ⟨_, SqL.of hth2⟩, fun D2 nD2 => ?_⟩
    refine lc_list (K := K) (a := th) (xs := (rg n).map V.int) (fun i H3 => ∃ bs : List Addr, H3 D2 = some (.lst (bs.map V.ref)) ∧ LL H3 bs ((aM n rs).take i) ∧ D2 ∉ bs ∧ Same H2 H3) ⟨[], upd_same, trivial, List.not_mem_nil, same_new nD2⟩ (fun i H3 _ hP => by obtain ⟨_, _, _, _, sm⟩ := hP; exact SqL.of (sm _ _ hth2)) (fun i x H3 hx hP => ?_) (fun H3 hP => ?_)
    · obtain ⟨y, ey, rfl⟩ := int_at_inv hx
      have hi := (List.getElem?_eq_some_iff.mp ey).1
      rw [rg_len] at hi
      rw [rg_at hi] at ey
      have := Option.some.inj ey
      subst this
      obtain ⟨bs, hD3, hL3, nDb, sm⟩ := hP
      have hbl := hL3.len
      have hml : (aM n rs).length = n := by unfold aM; rw [List.length_map, rg_len]
      rw [List.length_take] at hbl
      have emi : (aM n rs)[i]? = some ((rg n).map fun j => aN rs (i : Int) j) := by
        unfold aM
        rw [List.getElem?_map, rg_at hi]
        rfl
      refine ⟨rfl, _, rfl, th, rfl, ⟨_, SqL.of (sm _ _ hth2)⟩, fun D3 nD3 => ?_⟩
      refine lc_list (K := K) (a := th) (xs := (rg n).map V.int) (fun j H4 => H4 D3 = some (.lst (((rg j).map fun u => aN rs (i : Int) u).map V.int)) ∧ Same H3 H4) ⟨upd_same, same_new nD3⟩ (fun j H4 _ hP => SqL.of (hP.2 _ _ (sm _ _ hth2))) (fun j x H4 hx hP => ?_) (fun H4 hP => ?_)
      · obtain ⟨y, ey, rfl⟩ := int_at_inv hx
        have hj := (List.getElem?_eq_some_iff.mp ey).1
        rw [rg_len] at hj
        rw [rg_at hj] at ey
        have := Option.some.inj ey
        subst this
        obtain ⟨hD4, sm4⟩ := hP
        have hDp := sm4 _ _ (sm _ _ hD2)
        have hLp := (hL2.same sm).same sm4
        refine ⟨rfl, _, rfl, D, rfl, ⟨_, SqL.of hDp⟩, fun D5 nD5 => ?_⟩
        refine lc_list (K := K) (a := D) (xs := cs.map V.ref) (fun m H5 => ∃ ds : List V, H5 D5 = some (.lst ds) ∧ ds.length = ((rs.take m).filter fun r => decide (pos r (i : Int) < pos r (j : Int))).length ∧ Same H4 H5) ⟨[], upd_same, rfl, same_new nD5⟩ (fun m H5 _ hP => by obtain ⟨_, _, _, sm⟩ := hP; exact SqL.of (sm _ _ hDp)) (fun m x H5 hx hP => ?_) (fun H5 hP => ?_)
        · obtain ⟨c, ec, rfl⟩ := ref_at_inv hx
          obtain ⟨ds, hD5, hdl, sm5⟩ := hP
          have hm := (List.getElem?_eq_some_iff.mp ec).1
          obtain ⟨r, er⟩ : ∃ r, rs[m]? = some r := ⟨rs[m]'(by omega), List.getElem?_eq_getElem (by omega)⟩
          obtain ⟨p, ep, hbk⟩ := hB2.get er
          obtain ⟨p', ep', hc⟩ := (hLp.same sm5).get ec
          rw [ep] at ep'
          have := Option.some.inj ep'
          subst this
          have orr := hO.ord r (List.mem_of_getElem? er)
          have bi := back_pos orr hbk (x := (i : Int)) (by omega) (by omega)
          have bj := back_pos orr hbk (x := (j : Int)) (by omega) (by omega)
          rw [Int.toNat_natCast] at bi bj
          refine ⟨rfl, _, rfl, _, rfl, c, _, _, _, rfl, rfl, SqL.of hc, at_of (j := i) rfl (int_at bi), _, rfl, _, rfl, c, _, _, _, rfl, rfl, SqL.of hc, at_of (j := j) rfl (int_at bj), _, _, rfl, rfl, _, rfl, ite2 (fun cc => ?_) (fun cc => ?_)⟩
          · have hlt : pos r (i : Int) < pos r (j : Int) := of_decide_eq_true cc
            have hfl : ((rs.take m).filter fun r => decide (pos r (i : Int) < pos r (j : Int))).length ≤ m := Nat.le_trans (List.length_filter_le _ _) (by rw [List.length_take]; omega)
            refine ⟨_, rfl, _, hD5, line_lt (by omega), ds ++ [.ref c], upd_same, ?_, fun b o e => ?_⟩
            · rw [filter_more' _ er, decide_eq_true hlt, if_pos rfl, List.length_append, List.length_append, hdl]
              rfl
            · rw [upd_ne (ne_of_none e nD5)]
              exact sm5 _ _ e
          · refine ⟨ds, hD5, ?_, sm5⟩
            rw [filter_more' _ er, decide_eq_false (fun hz => cc (decide_eq_true hz)), if_neg (by decide), List.append_nil]
            exact hdl
        · obtain ⟨ds, hD5, hdl, sm5⟩ := hP
          rw [List.length_map, hcl, hpl, List.take_length] at hdl
          refine ⟨D5, _, rfl, .inl (SqL.of hD5), _, sm5 _ _ hD4, line_lt (by rw [List.length_map, List.length_map, rg_len]; omega), ?_, fun b o e => ?_⟩
          · rw [upd_same, rg_succ, List.map_append, List.map_append, hdl]
            rfl
          · rw [upd_ne (ne_of_none e nD3)]
            exact sm5 _ _ (sm4 _ _ e)
      · obtain ⟨hD4, sm4⟩ := hP
        rw [List.length_map, rg_len] at hD4
        have nD32 : D3 ≠ D2 := fun e => by rw [e, hD3] at nD3; cases nD3
        refine ⟨_, sm4 _ _ hD3, line_lt (by rw [List.length_map]; omega), bs ++ [D3], by rw [upd_same, List.map_append]; rfl, ?_, fun hu => ?_, fun b o e => ?_⟩
        · rw [take_more' emi]
          refine LL.snoc ((hL3.same sm4).keep fun u hu o e => ?_) ?_
          · rw [upd_ne (fun q => nDb (by rw [← q]; exact hu))]
            exact e
          · rw [upd_ne nD32]
            exact hD4
        · rcases List.mem_append.mp hu with h | h
          · exact nDb h
          · exact nD32 (List.mem_singleton.mp h).symm
        · rw [upd_ne (ne_of_none e nD2)]
          exact sm4 _ _ (sm _ _ e)
    · obtain ⟨bs, hD3, hL3, nDb, sm⟩ := hP
      rw [List.take_of_length_le (by unfold aM; rw [List.length_map, List.length_map]; exact Nat.le_refl _)] at hL3
      exact q D2 bs H3 (s02.free nD2) hD3 hL3 (s02.trans sm)
end
end Fo
namespace Fo
open PySem PySem.Spec PyProof.Rows L2
/-- a dict that has for each thing of an order its place -/
def PlD (kvs : List (Key × V)) (xs : List Int) : Prop := ∀ x ∈ xs, valV kvs (Sum.inl x) = some (.int (pos xs x))
def spPlD : Sp := fun vs H Q _ => ∃ (a : Addr) (n : Nat) (xs : List Int), vs = [.ref a] ∧ H a = some (.lst (xs.map V.int)) ∧ IsOrd n xs ∧ n ≤ 12 ∧ ∀ (d : Addr) (kvs : List (Key × V)) (H' : Hp), H d = none → H' d = some (.dK kvs) → PlD kvs xs → Same H H' → Q (.ref d) H'
section
variable {P : Program} {w : World} {K : PySem.W.Frag} {mg : Str → Option Value} {base : Heap}
theorem scPlD : FnScope ["order", "found", "place", "thing"] ["order"] (defScope s_law_places) := ⟨rfl, rfl, rfl, by decide +kernel, rfl, by decide +kernel, by decide +kernel⟩
set_option maxHeartbeats 2000000 in
theorem ok_pld {f : Addr} {fd : FuncData} {k : Nat} (T : Df K mg "_law_places" s_law_places ["order"] f fd) (B : Bi mg) : FnOk P w K mg base CX0 (k + 1) f fd ["order"] spPlD := by
  refine T.F.ok scPlD (fun vs H Q E h => ?_) (fun cdv A outer s H vs Q E hr h => ?_)
  · obtain ⟨a, n, xs, rfl, _⟩ := h
    rfl
  · obtain ⟨a, n, xs, rfl, ha, ox, hn, q⟩ := h
    refine ⟨_, 
      (pss_cons (ps_set (i := 1) scPlD.nd rfl (.inl rfl) pe_dnewK)
      (pss_cons (ps_for PassesOwn.never rfl (pi_enum (by rfl) B.enumerate (pa_cons (pv 0) pa_nil)) (pg_tup (by rfl) (pgs_cons (pg_name (i := 2) scPlD.nd rfl (.inl rfl)) (pgs_cons (pg_name (i := 3) scPlD.nd rfl (.inl rfl)) pgs_nil)))
        (pss_one (ps_dput (hu_of hr) (pv 1) (pv 3) (pv 2) (by rfl))))
      (pss_one (ps_ret (pv 1))))), ?_⟩
    intro d nd
    have s0 := same_new (o := .dK []) nd
    refine ⟨_, rfl, a, _, rfl, SqL.of (s0 _ _ ha), ?_⟩
    refine for_enumL (xs := xs.map V.int) (fun i σ H3 => ∃ (y2 y3 : Option V) (kvs : List (Key × V)), σ = [some (.ref a), some (.ref d), y2, y3] ∧ H3 d = some (.dK kvs) ∧ kvs.length ≤ i ∧ (∀ x ∈ xs.take i, valV kvs (Sum.inl x) = some (.int (pos xs x))) ∧ Same H H3)
      ⟨none, none, [], rfl, upd_same, Nat.le_refl _, (fun x hx => absurd hx (by rw [List.take_zero]; exact List.not_mem_nil)), s0⟩ (fun i σ H3 hP => by obtain ⟨_, _, _, _, _, _, _, sm⟩ := hP; exact SqL.of (sm _ _ ha)) (fun i x t σ H3 hx hP nt => ?_) (fun σ H3 hP => ?_)
    · obtain ⟨y2, y3, kvs, rfl, hd, hl, hv, sm⟩ := hP
      obtain ⟨y, ey, rfl⟩ := int_at_inv hx
      have hi := (List.getElem?_eq_some_iff.mp ey).1
      rw [ox.len] at hi
      have s3 := same_new (o := .tup [.int (i : Nat), .int y]) nt
      have hd3 := s3 _ _ hd
      refine ⟨t, _, rfl, .inl (.inl upd_same), rfl, _, _, rfl, _, _, rfl, rfl, ?_⟩
      refine ⟨_, rfl, _, rfl, _, rfl, d, _, rfl, DPut.k (k := Sum.inl y) hd3 (line_lt (by omega)), ?_⟩
      refine ⟨_, _, putK kvs (Sum.inl y) (.int (i : Nat)), rfl, upd_same, Nat.le_trans (length_putK _ _ _) (by omega), fun x hx => ?_, fun b o e => ?_⟩
      · rw [valV_put]
        by_cases c : (Sum.inl x : Key) = Sum.inl y
        · rw [if_pos c]
          have e : x = y := Sum.inl.inj c
          subst e
          rw [pos_of ox ey]
        · rw [if_neg c]
          rw [take_more ey] at hx
          rcases List.mem_append.mp hx with h | h
          · exact hv x h
          · exact absurd (by rw [List.mem_singleton.mp h]) c
      · rw [upd_ne (ne_of_none e nd)]
        exact s3 _ _ (sm _ _ e)
    · obtain ⟨y2, y3, kvs, rfl, hd, hl, hv, sm⟩ := hP
      rw [List.length_map, List.take_length] at hv
      exact ⟨_, rfl, q d kvs H3 nd hd hv sm⟩
end
end Fo
namespace Fo
open PySem PySem.Spec PyProof.Rows L2
def spLaw (K : PySem.W.Frag) : Sp := fun vs H Q _ => ∃ (a : Addr) (ns : List Int), vs = [.ref a] ∧ SqL K H a (ns.map V.int) ∧ ns.length ≤ 63 ∧ ∀ H', Q (.bl true) H'
abbrev rListOf (K : PySem.W.Frag) : List V → Hp → VK → Prop := fun xs H Q => ∃ p ys, xs = [.ref p] ∧ (SqL K H p ys ∨ SqT K H p ys) ∧ ∀ l, H l = none → Q (.ref l) (upd H l (.lst ys))
def spCopied : Sp := fun vs H Q _ => ∃ (l : Addr) (as : List Addr) (rs : List (List Int)), vs = [.ref l] ∧ H l = some (.lst (as.map V.ref)) ∧ LL H as rs ∧ rs.length ≤ 1000 ∧ ∀ (l' : Addr) (as' : List Addr) (H' : Hp), H l' = none → (∀ a ∈ as', H a = none) → l' ∉ as' → H' l' = some (.lst (as'.map V.ref)) → LL H' as' rs → Same H H' → Q (.ref l') H'
theorem dp_of {K : PySem.W.Frag} {H : Hp} {l : Addr} {as : List Addr} {rs : List (List Int)} {n : Nat} (h : OL H l as rs n) : Dp K H (.ref l) (dLL rs) := dp_lists h.top h.ll
section
variable {P : Program} {w : World} {K : PySem.W.Frag} {mg : Str → Option Value} {base : Heap}
theorem scLWhole : FnScope ["thing"] ["thing"] (defScope s_law_whole) := ⟨rfl, rfl, rfl, by decide +kernel, rfl, by decide +kernel, by decide +kernel⟩
theorem ok_lwhole {f : Addr} {fd : FuncData} {k : Nat} (T : Df K mg "_law_whole" s_law_whole ["thing"] f fd) (B : Bi mg) : FnOk P w K mg base CX0 (k + 1) f fd ["thing"] spWhole := by
  refine T.F.ok scLWhole (fun vs H Q E h => ?_) (fun cdv A outer s H vs Q E hr h => ?_)
  · obtain ⟨i, rfl, _⟩ := h
    rfl
  · obtain ⟨i, rfl, q⟩ := h
    refine ⟨_, 
      (pss_one (ps_ret (pe_and (pe_callB call_isi (by rfl) B.isinstance (by decide +kernel) (pa_cons (pv 0) (pa_cons (pe_bltn (v := .ty "int") (by rfl) B.int (by decide +kernel) rfl) pa_nil))) (pe_one (pe_not (pe_callB call_isi (by rfl) B.isinstance (by decide +kernel) (pa_cons (pv 0) (pa_cons (pe_bltn (v := .ty "bool") (by rfl) B.bool (by decide +kernel) rfl) pa_nil)))))))), ?_⟩
    refine ⟨_, rfl, _, _, _, _, true, rfl, .ty _, .base (.int _), kit_ty (by decide +kernel), true, rfl, iteT ?_⟩
    exact ⟨_, rfl, _, _, _, _, false, rfl, .ty _, .base (.int _), kit_ty (by decide +kernel), false, rfl, q⟩
theorem scCopied : FnScope ["orders", "order"] ["orders"] (defScope s_law_copied) := ⟨rfl, rfl, rfl, by decide +kernel, rfl, by decide +kernel, by decide +kernel⟩
set_option maxHeartbeats 2000000 in
theorem ok_copied {f : Addr} {fd : FuncData} {k : Nat} (T : Df K mg "_law_copied" s_law_copied ["orders"] f fd) (B : Bi mg) : FnOk P w K mg base CX0 (k + 1) f fd ["orders"] spCopied := by
  refine T.F.ok scCopied (fun vs H Q E h => ?_) (fun cdv A outer s H vs Q E hr h => ?_)
  · obtain ⟨l, as, rs, rfl, _⟩ := h
    rfl
  · obtain ⟨l, as, rs, rfl, ht, hLL, hlen, q⟩ := h
    have hal := hLL.len
    refine ⟨_, 
      (pss_one (ps_ret (pe_lc (own := [("order", 1)]) (g := (gName 1)) (tt := tYes) (te := (tCB (rListOf K) (tCons (tVar 1) tNil))) rfl scCopied.nd (pi_list (pv 0)) (blkOk_by (N := ["orders", "order"]) (sc := defScope s_law_copied) (by decide +kernel)) (fun _ _ _ _ _ => (pg_name (i := 1) scCopied.nd rfl (.inl rfl))) (fun _ _ _ _ _ => pts_nil) (fun _ _ _ _ _ => (pe_callTy call_list_of (by rfl) B.list (by decide +kernel) (pa_cons (pv 1) pa_nil)))))), ?_⟩
    refine ⟨_, rfl, l, rfl, ⟨_, SqL.of ht⟩, fun p np => ?_⟩
    refine lc_list (K := K) (a := l) (xs := as.map V.ref) (fun i H3 => ∃ bs : List Addr, H3 p = some (.lst (bs.map V.ref)) ∧ LL H3 bs (rs.take i) ∧ (∀ a ∈ bs, H a = none) ∧ p ∉ bs ∧ Same H H3) ⟨[], upd_same, trivial, fun a ha => absurd ha List.not_mem_nil, List.not_mem_nil, same_new np⟩ (fun i H3 _ hP => by obtain ⟨_, _, _, _, _, sm⟩ := hP; exact SqL.of (sm _ _ ht)) (fun i x H3 hx hP => ?_) (fun H3 hP => ?_)
    · obtain ⟨a, ea, rfl⟩ := ref_at_inv hx
      obtain ⟨bs, hp3, hL3, hn3, np3, sm⟩ := hP
      obtain ⟨r, er, ha⟩ := (hLL.same sm).get ea
      have hbl := hL3.len
      rw [List.length_take] at hbl
      refine ⟨rfl, _, rfl, a, _, rfl, .inl (SqL.of ha), fun c nc => ?_⟩
      have s4 := same_new (o := .lst (r.map V.int)) nc
      have npc : p ≠ c := ne_of_none hp3 nc
      refine ⟨_, s4 _ _ hp3, line_lt (by rw [List.length_map]; omega), bs ++ [c], by rw [upd_same, List.map_append]; rfl, ?_, fun u hu => ?_, fun hu => ?_, fun b o e => ?_⟩
      · rw [take_more' er]
        refine LL.snoc ((hL3.same s4).keep fun u hu o e => ?_) ?_
        · rw [upd_ne (fun q => np3 (by rw [← q]; exact hu))]
          exact e
        · rw [upd_ne npc.symm, upd_same]
      · rcases List.mem_append.mp hu with h | h
        · exact hn3 u h
        · rw [List.mem_singleton.mp h]
          exact sm.free nc
      · rcases List.mem_append.mp hu with h | h
        · exact np3 h
        · exact npc (List.mem_singleton.mp h)
      · rw [upd_ne (ne_of_none e np)]
        exact s4 _ _ (sm _ _ e)
    · obtain ⟨bs, hp3, hL3, hn3, np3, sm⟩ := hP
      rw [List.take_of_length_le (by rw [List.length_map]; omega)] at hL3
      exact q p bs H3 np hn3 np3 hp3 hL3 sm
end
end Fo
namespace Fo
open PySem PySem.Spec PyProof.Rows L2
def flw (n : Nat) (rs : List (List Int)) (i : Int) : List Int := (rg n).filter fun j => decide ((rs.length : Int) < 2 * aN rs i j)
def flM (n : Nat) (rs : List (List Int)) : List (List Int) := (rg n).map (flw n rs)
theorem flw_mem {n : Nat} {rs : List (List Int)} {i j : Int} (h : j ∈ flw n rs i) : 0 ≤ j ∧ j < n := rg_mem.mp (List.mem_filter.mp h).1
theorem flM_len (n : Nat) (rs : List (List Int)) : (flM n rs).length = n := by unfold flM; rw [List.length_map, rg_len]
theorem flM_at {n : Nat} {rs : List (List Int)} {i : Nat} (h : i < n) : (flM n rs)[i]? = some (flw n rs (i : Int)) := by
  unfold flM
  rw [List.getElem?_map, rg_at h]
  rfl
theorem flw_len (n : Nat) (rs : List (List Int)) (i : Int) : (flw n rs i).length ≤ n := Nat.le_trans (List.length_filter_le _ _) (by rw [rg_len]; exact Nat.le_refl _)
theorem flw_sorted (n : Nat) (rs : List (List Int)) (i : Int) : (flw n rs i).Pairwise (· < ·) := by
  unfold flw rg
  exact List.Pairwise.filter _ (List.Pairwise.map _ (fun a b h => by omega) List.pairwise_lt_range)
def spMBeh : Sp := fun vs H Q _ => ∃ (l : Addr) (as : List Addr) (rs : List (List Int)) (n : Nat), vs = [.ref l] ∧ OL H l as rs n ∧ 1 ≤ rs.length ∧ rs.length ≤ 1000 ∧
  ∀ (l' : Addr) (as' : List Addr) (H' : Hp), H' l' = some (.lst (as'.map V.ref)) → LL H' as' (flM n rs) → Same H H' → Q (.ref l') H'
/-- the things that a dict of reached ones has -/
def Rk (kvs : List (Key × V)) (u : Int) : Prop := (valV kvs (Sum.inl u)).isSome = true
def unr (n : Nat) (kvs : List (Key × V)) : Nat := ((rg n).filter fun u => (valV kvs (Sum.inl u)).isNone).length
theorem Rk_put (kvs : List (Key × V)) (x u : Int) (y : V) : Rk (putK kvs (Sum.inl x) y) u ↔ (Rk kvs u ∨ u = x) := by
  unfold Rk
  rw [valV_put]
  by_cases c : (Sum.inl u : Key) = Sum.inl x
  · rw [if_pos c]
    exact ⟨fun _ => .inr (Sum.inl.inj c), fun _ => rfl⟩
  · rw [if_neg c]
    exact ⟨.inl, fun h => h.elim _root_.id fun e => absurd (by rw [e]) c⟩
theorem filt_lt {l : List Int} {p q : Int → Bool} {x : Int} (h : ∀ u ∈ l, q u = true → p u = true) (hx : x ∈ l) (h1 : p x = true) (h2 : q x = false) : (l.filter q).length + 1 ≤ (l.filter p).length := by
  induction l with
  | nil => exact absurd hx List.not_mem_nil
  | cons a l ih =>
    have hle : (l.filter q).length ≤ (l.filter p).length := by
      have : ∀ m : List Int, (∀ u ∈ m, q u = true → p u = true) → (m.filter q).length ≤ (m.filter p).length := fun m => by
        induction m with
        | nil => intro _; exact Nat.le_refl _
        | cons b m ih2 =>
          intro hm
          have i2 := ih2 fun u hu => hm u (List.mem_cons_of_mem _ hu)
          have hb := hm b List.mem_cons_self
          rw [List.filter_cons, List.filter_cons]
          cases e1 : q b <;> cases e2 : p b
          · simpa using i2
          · simp
            omega
          · rw [hb e1] at e2
            cases e2
          · simpa using i2
      exact this l fun u hu => h u (List.mem_cons_of_mem _ hu)
    rcases List.mem_cons.mp hx with rfl | hx
    · rw [List.filter_cons, List.filter_cons, h1, h2]
      simp
      omega
    · have i2 := ih (fun u hu => h u (List.mem_cons_of_mem _ hu)) hx
      have ha := h a List.mem_cons_self
      rw [List.filter_cons, List.filter_cons]
      cases e1 : q a <;> cases e2 : p a
      · simpa using i2
      · simp
        omega
      · rw [ha e1] at e2
        cases e2
      · simpa using i2
theorem unr_put {n : Nat} {kvs : List (Key × V)} {x : Int} {y : V} (hx : 0 ≤ x ∧ x < n) (h : valV kvs (Sum.inl x) = none) : unr n (putK kvs (Sum.inl x) y) + 1 ≤ unr n kvs := by
  unfold unr
  refine filt_lt (x := x) (fun u _ hu => ?_) (rg_mem.mpr hx) (by rw [h]; rfl) (by rw [valV_put, if_pos rfl]; rfl)
  rw [valV_put] at hu
  by_cases c : (Sum.inl u : Key) = Sum.inl x
  · rw [if_pos c] at hu
    cases hu
  · rw [if_neg c] at hu
    exact hu
def spLonger : Sp := fun vs H Q _ => ∃ (lp lf rd : Addr) (ps fs : List Addr) (P : List (List Int)) (n k : Nat) (rs : List (List Int)) (kvs : List (Key × V)), vs = [.ref lp, .ref lf, .ref rd] ∧ n ≤ 12 ∧ H lp = some (.lst (ps.map V.ref)) ∧ LL H ps P ∧ H lf = some (.lst (fs.map V.ref)) ∧ LL H fs (flM n rs) ∧ H rd = some (.dK kvs) ∧ kvs.length + unr n kvs ≤ n ∧ k ≤ 12 ∧ (∀ p ∈ P, p.length = k + 1 ∧ 0 ≤ p.getLastD 0 ∧ p.getLastD 0 < n) ∧ P.Pairwise (· < ·) ∧
  ∀ (l' : Addr) (as' : List Addr) (P' : List (List Int)) (kvs' : List (Key × V)) (H' : Hp), H l' = none → (∀ a ∈ as', H a = none) → l' ≠ rd → rd ∉ as' → H' l' = some (.lst (as'.map V.ref)) → LL H' as' P' → H' rd = some (.dK kvs') → kvs'.length + unr n kvs' ≤ n → (P' ≠ [] → unr n kvs' + 1 ≤ unr n kvs) → BStep (flw n rs) P P' (Rk kvs) (Rk kvs') → KeepD rd H H' → Q (.ref l') H'
theorem last_at {p : List Int} {k : Nat} (h : p.length = k + 1) : atI (p.map V.int) (-1) = some (V.int (p.getLastD 0)) := by
  unfold atI ixN
  rw [List.length_map, h, if_neg (by omega), if_pos (by omega)]
  show (p.map V.int)[(-1 + ((k + 1 : Nat) : Int)).toNat]? = _
  rw [show (-1 + ((k + 1 : Nat) : Int)).toNat = k by omega]
  cases List.eq_nil_or_concat p with
  | inl e => rw [e] at h; cases h
  | inr e =>
    obtain ⟨p', x, rfl⟩ := e
    rw [List.concat_eq_append] at h ⊢
    rw [List.length_append] at h
    have e : p'.length = k := by simpa using h
    rw [List.getElem?_map, List.getElem?_append_right (by omega), e, Nat.sub_self]
    simp
section
variable {P : Program} {w : World} {K : PySem.W.Frag} {mg : Str → Option Value} {base : Heap}
theorem scMBeh : FnScope ["poll", "counts", "other", "many"] ["poll"] (defScope s_mostly_behind) := ⟨rfl, rfl, rfl, by decide +kernel, rfl, by decide +kernel, by decide +kernel⟩
set_option maxHeartbeats 4000000 in
theorem ok_mbeh {f f1 : Addr} {fd d1 : FuncData} {k : Nat} (T : Df K mg "mostly_behind" s_mostly_behind ["poll"] f fd) (T_counts_ahead : Df K mg "counts_ahead" s_counts_ahead ["poll"] f1 d1) (G_counts_ahead : FnOk P w K mg base CX0 k f1 d1 ["poll"] spAhead) (B : Bi mg) : FnOk P w K mg base CX0 (k + 1) f fd ["poll"] spMBeh := by
  refine T.F.ok scMBeh (fun vs H Q E h => ?_) (fun cdv A outer s H vs Q E hr h => ?_)
  · obtain ⟨l, as, rs, n, rfl, _⟩ := h
    rfl
  · obtain ⟨l, as, rs, n, rfl, hO, h1, h2, q⟩ := h
    have hal := hO.ll.len
    have hn2 := hO.n2
    refine ⟨_, 
      (pss_one (ps_ret (pe_lc (own := [("counts", 1)]) (g := (gName 1)) (tt := tYes) (te := (tLc (iEnum K (tCons (tVar 1) tNil)) (gTup K 2 (gCons (gName 2) (gCons (gName 3) gNil))) (tTest (tOp (rI0 fun i j => .bl (decide (j < i))) (tOp (rI CMul fun i j => .int (i * j)) (tC (.int 2)) (tVar 3)) (tCB (rLenS K) (tCons (tVar 0) tNil)))) (tVar 2) [2, 3])) rfl scMBeh.nd (pi_list (pe_call G_counts_ahead hr (by rfl) T_counts_ahead.g T_counts_ahead.F.kp T_counts_ahead.b .nil pass0 (pa_cons (pv 0) pa_nil))) (blkOk_by (N := ["poll", "counts", "other", "many"]) (sc := defScope s_mostly_behind) (by decide +kernel)) (fun _ _ _ _ _ => (pg_name (i := 1) scMBeh.nd rfl (.inl rfl))) (fun _ _ _ _ _ => pts_nil) (fun _ _ _ _ _ => (pe_lc (own := [("other", 2), ("many", 3)]) (g := (gTup K 2 (gCons (gName 2) (gCons (gName 3) gNil)))) (tt := (tTest (tOp (rI0 fun i j => .bl (decide (j < i))) (tOp (rI CMul fun i j => .int (i * j)) (tC (.int 2)) (tVar 3)) (tCB (rLenS K) (tCons (tVar 0) tNil))))) (te := (tVar 2)) rfl scMBeh.nd (pi_enum (by rfl) B.enumerate (pa_cons (pv 1) pa_nil)) (blkOk_by (N := ["poll", "counts", "other", "many"]) (by rfl)) (fun _ _ _ _ _ => (pg_tup (by rfl) (pgs_cons (pg_name (i := 2) scMBeh.nd rfl (.inl rfl)) (pgs_cons (pg_name (i := 3) scMBeh.nd rfl (.inl rfl)) pgs_nil)))) (fun _ _ _ _ _ => (pts_one (pt_cmpR op_gt (pe_op op_mul pe_int (pv 3)) (pe_callB call_len_seq (by rfl) B.len PySem.boot_len (pa_cons (pv 0) pa_nil)) (nomark _)))) (fun _ _ _ _ _ => (pv 2))))))), ?_⟩
    refine ⟨_, rfl, l, as, rs, n, rfl, hO, h1, h2, fun m ms H1 nm hm hLm s1 => ?_⟩
    have hO1 := hO.same s1
    have hml := hLm.len
    have eml : (aM n rs).length = n := by unfold aM; rw [List.length_map, rg_len]
    refine ⟨m, rfl, ⟨_, SqL.of hm⟩, fun D nD => ?_⟩
    refine lc_list (K := K) (a := m) (xs := ms.map V.ref) (fun i H3 => ∃ bs : List Addr, H3 D = some (.lst (bs.map V.ref)) ∧ LL H3 bs ((flM n rs).take i) ∧ D ∉ bs ∧ Same H1 H3) ⟨[], upd_same, trivial, List.not_mem_nil, same_new nD⟩ (fun i H3 _ hP => by obtain ⟨_, _, _, _, sm⟩ := hP; exact SqL.of (sm _ _ hm)) (fun i x H3 hx hP => ?_) (fun H3 hP => ?_)
    · obtain ⟨a, ea, rfl⟩ := ref_at_inv hx
      obtain ⟨bs, hD3, hL3, nDb, sm⟩ := hP
      have hi := (List.getElem?_eq_some_iff.mp ea).1
      rw [hml, eml] at hi
      obtain ⟨r, er, ha⟩ := (hLm.same sm).get ea
      have emi : (aM n rs)[i]? = some ((rg n).map fun j => aN rs (i : Int) j) := by
        unfold aM
        rw [List.getElem?_map, rg_at hi]
        rfl
      rw [emi] at er
      have er2 := Option.some.inj er
      subst er2
      have hbl := hL3.len
      rw [List.length_take, flM_len] at hbl
      refine ⟨rfl, _, rfl, a, _, rfl, SqL.of ha, fun D2 nD2 => ?_⟩
      refine lc_enumL (K := K) (a := a) (xs := ((rg n).map fun j => aN rs (i : Int) j).map V.int) (fun j H4 => H4 D2 = some (.lst (((rg j).filter fun u => decide ((rs.length : Int) < 2 * aN rs (i : Int) u)).map V.int)) ∧ Same H3 H4) ⟨upd_same, same_new nD2⟩ (fun j H4 _ hP => SqL.of (hP.2 _ _ ha)) (fun j x t H4 hx hP nt => ?_) (fun H4 hP => ?_)
      · obtain ⟨hD4, sm4⟩ := hP
        obtain ⟨y, ey, rfl⟩ := int_at_inv hx
        have hj := (List.getElem?_eq_some_iff.mp ey).1
        rw [List.length_map, rg_len] at hj
        rw [List.getElem?_map, rg_at hj] at ey
        have ey2 : aN rs (i : Int) (j : Int) = y := Option.some.inj ey
        subst ey2
        have s5 := same_new (o := .tup [.int (j : Nat), .int (aN rs (i : Int) (j : Int))]) nt
        have top5 := s5 _ _ (sm4 _ _ (sm _ _ hO1.top))
        have fm : (rg (j + 1)).filter (fun u => decide ((rs.length : Int) < 2 * aN rs (i : Int) u)) = (rg j).filter (fun u => decide ((rs.length : Int) < 2 * aN rs (i : Int) u)) ++ (if decide ((rs.length : Int) < 2 * aN rs (i : Int) (j : Int)) then [(j : Int)] else []) := by
          rw [rg_succ, List.filter_append, List.filter_cons]
          rfl
        refine ⟨t, _, rfl, .inl (.inl upd_same), rfl, _, _, rfl, _, _, rfl, rfl, rfl, ?_⟩
        refine ⟨_, rfl, 2, _, rfl, rfl, .inl ⟨by decide, by decide⟩, _, rfl, l, _, rfl, .inl (SqL.of top5), _, _, rfl, rfl, _, rfl, ite2 (fun c => ?_) (fun c => ?_)⟩
        · have hc : (rs.length : Int) < 2 * aN rs (i : Int) (j : Int) := by
            have := of_decide_eq_true c
            rw [List.length_map, hal] at this
            exact this
          refine ⟨_, rfl, _, s5 _ _ hD4, line_lt (by rw [List.length_map]; exact Nat.lt_of_le_of_lt (List.length_filter_le _ _) (by rw [rg_len]; omega)), ?_, fun b o e => ?_⟩
          · rw [upd_same, fm, decide_eq_true hc, if_pos rfl, List.map_append]
            rfl
          · rw [upd_ne (ne_of_none e nD2)]
            exact s5 _ _ (sm4 _ _ e)
        · have hc : ¬ (rs.length : Int) < 2 * aN rs (i : Int) (j : Int) := fun h => c (decide_eq_true (by rw [List.length_map, hal]; exact h))
          refine ⟨?_, sm4.trans s5⟩
          rw [fm, decide_eq_false hc, if_neg (by decide), List.append_nil]
          exact s5 _ _ hD4
      · obtain ⟨hD4, sm4⟩ := hP
        rw [List.length_map, List.length_map, rg_len] at hD4
        have nD32 : D2 ≠ D := fun e => by rw [e, hD3] at nD2; cases nD2
        refine ⟨_, sm4 _ _ hD3, line_lt (by rw [List.length_map]; omega), bs ++ [D2], by rw [upd_same, List.map_append]; rfl, ?_, fun hu => ?_, fun b o e => ?_⟩
        · rw [take_more' (flM_at hi)]
          refine LL.snoc ((hL3.same sm4).keep fun u hu o e => ?_) ?_
          · rw [upd_ne (fun q => nDb (by rw [← q]; exact hu))]
            exact e
          · rw [upd_ne nD32]
            exact hD4
        · rcases List.mem_append.mp hu with h | h
          · exact nDb h
          · exact nD32 (List.mem_singleton.mp h).symm
        · rw [upd_ne (ne_of_none e nD)]
          exact sm4 _ _ (sm _ _ e)
    · obtain ⟨bs, hD3, hL3, nDb, sm⟩ := hP
      rw [List.length_map, hml, eml, List.take_of_length_le (by rw [flM_len]; exact Nat.le_refl _)] at hL3
      exact q D bs H3 hD3 hL3 (s1.trans sm)
theorem scLonger : FnScope ["paths", "followers", "reached", "longer", "path", "thing"] ["paths", "followers", "reached"] (defScope s_longer_paths) := ⟨rfl, rfl, rfl, by decide +kernel, rfl, by decide +kernel, by decide +kernel⟩
set_option maxHeartbeats 4000000 in
theorem ok_longer {f : Addr} {fd : FuncData} {k : Nat} (T : Df K mg "longer_paths" s_longer_paths ["paths", "followers", "reached"] f fd) (B : Bi mg) : FnOk P w K mg base CX0 (k + 1) f fd ["paths", "followers", "reached"] spLonger := by
  refine T.F.ok scLonger (fun vs H Q E h => ?_) (fun cdv A outer s H vs Q E hr h => ?_)
  · obtain ⟨lp, lf, rd, ps, fs, P, n, k, rs, kvs, rfl, _⟩ := h
    rfl
  · obtain ⟨lp, lf, rd, ps, fs, PP, n, k', rs, kvs, rfl, hn, hlp, hLp, hlf, hLf, hrd, hku, hk, hP, hsrt, q⟩ := h
    have hpl := hLp.len
    have hfl := hLf.len
    rw [flM_len] at hfl
    refine ⟨_, 
      (pss_cons (ps_set (i := 3) scLonger.nd rfl (.inl rfl) (pe_lst pa_nil))
      (pss_cons (ps_for PassesOwn.never rfl (pi_list (pv 0)) (pg_name (i := 4) scLonger.nd rfl (.inl rfl))
        (pss_one (ps_for PassesOwn.never rfl (pi_list (pe_ix ix_list (pv 1) (pe_ix ix_list (pv 4) (pe_un un_neg pe_int) (fun _ _ => rfl)) (fun _ _ => rfl))) (pg_name (i := 5) scLonger.nd rfl (.inl rfl))
          (pss_one (ps_if (pt_cmp (pc_dnotin (hu_of hr) (pv 5) (pv 2)))
            (pss_cons (ps_dput (hu_of hr) (pv 2) (pv 5) pe_bl (by rfl))
            (pss_one (ps_expr (pe_bm PySem.F.plainAttrs_list PySem.F.slot_list_append PySem.F.type_list_append mt_append (pv 3) (pa_cons (pe_op op_cat (pv 4) (pe_lst (pa_cons (pv 5) pa_nil))) pa_nil)))))
            pss_nil)))))
      (pss_one (ps_ret (pv 3))))), ?_⟩
    refine ⟨line_small (by show 0 ≤ 16777216; decide), fun lg nlg => ?_⟩
    have s0 := same_new (o := .lst []) nlg
    have nlr : lg ≠ rd := (ne_of_none hrd nlg).symm
    have nlpr : lp ≠ rd := fun e => by rw [e, hrd] at hlp; cases hlp
    have nlfr : lf ≠ rd := fun e => by rw [e, hrd] at hlf; cases hlf
    have nps : ∀ a ∈ ps, a ≠ rd := fun a ha e => by
      obtain ⟨i, hi⟩ := List.mem_iff_getElem?.mp ha
      obtain ⟨r, _, hr'⟩ := hLp.get hi
      rw [e, hrd] at hr'
      cases hr'
    have nfs : ∀ a ∈ fs, a ≠ rd := fun a ha e => by
      obtain ⟨i, hi⟩ := List.mem_iff_getElem?.mp ha
      obtain ⟨r, _, hr'⟩ := hLf.get hi
      rw [e, hrd] at hr'
      cases hr'
    -- what holds while it is gone through: D of the pairs gone through
    let J : (List Int → Int → Prop) → Hp → List Addr → List (List Int) → List (Key × V) → Prop := fun Dn G cs P' kv =>
      G lg = some (.lst (cs.map V.ref)) ∧ LL G cs P' ∧ (∀ a ∈ cs, H a = none ∧ a ≠ lg ∧ a ≠ rd) ∧ G rd = some (.dK kv) ∧ kv.length + unr n kv ≤ n ∧ P'.length + unr n kv ≤ unr n kvs ∧
      (∀ p' ∈ P', ∃ p ∈ PP, ∃ u ∈ flw n rs (p.getLastD 0), p' = p ++ [u] ∧ ¬ Rk kvs u ∧ Dn p u) ∧ P'.Pairwise (· < ·) ∧ (∀ u, Rk kv u ↔ (Rk kvs u ∨ ∃ p' ∈ P', p'.getLastD 0 = u)) ∧
      (∀ p u, Dn p u → Rk kvs u ∨ ∃ p' ∈ P', p'.getLastD 0 = u ∧ p' ≤ p ++ [u]) ∧ KeepD rd H G
    refine ⟨_, rfl, lp, rfl, ⟨_, SqL.of (s0 _ _ hlp)⟩, ?_⟩
    refine for_list (xs := ps.map V.ref) (fun i σ G => ∃ (y4 y5 : Option V) (cs : List Addr) (P' : List (List Int)) (kv : List (Key × V)), σ = [some (.ref lp), some (.ref lf), some (.ref rd), some (.ref lg), y4, y5] ∧ J (fun p u => p ∈ PP.take i ∧ u ∈ flw n rs (p.getLastD 0)) G cs P' kv)
      ⟨_, _, [], [], kvs, rfl, upd_same, trivial, fun a h => absurd h List.not_mem_nil, s0 _ _ hrd, hku, by show 0 + _ ≤ _; omega, fun p h => absurd h List.not_mem_nil, List.Pairwise.nil, fun u => ⟨.inl, fun h => h.elim _root_.id fun ⟨p, hp, _⟩ => absurd hp List.not_mem_nil⟩, fun p u h => absurd h.1 (by rw [List.take_zero]; exact List.not_mem_nil), KeepD.of_same s0⟩ (fun i σ G _ hW => by
        obtain ⟨_, _, _, _, _, _, _, _, _, _, _, _, _, _, _, _, kp⟩ := hW
        exact SqL.of (kp _ _ hlp nlpr)) (fun i x σ G hx hW => ?_) (fun σ G hW => ?_)
    · obtain ⟨y4, y5, cs, P', kv, rfl, hJ⟩ := hW
      obtain ⟨a, ea, rfl⟩ := ref_at_inv hx
      obtain ⟨p, ep, ha0⟩ := hLp.get ea
      have hpm := List.mem_of_getElem? ep
      obtain ⟨pl, p0, p1⟩ := hP p hpm
      obtain ⟨v, hv⟩ : ∃ v : Nat, p.getLastD 0 = (v : Int) := ⟨(p.getLastD 0).toNat, by omega⟩
      have hvn : v < n := by omega
      obtain ⟨b, eb⟩ : ∃ b, fs[v]? = some b := ⟨fs[v]'(by omega), List.getElem?_eq_getElem (by omega)⟩
      obtain ⟨fr, efr, hb0⟩ := hLf.get eb
      rw [flM_at hvn] at efr
      have efr2 := Option.some.inj efr
      subst efr2
      have kp0 : KeepD rd H G := by
        obtain ⟨_, _, _, _, _, _, _, _, _, _, kp⟩ := hJ
        exact kp
      have haG := kp0 _ _ ha0 (nps a (List.mem_of_getElem? ea))
      have hlfG := kp0 _ _ hlf nlfr
      have hbG := kp0 _ _ hb0 (nfs b (List.mem_of_getElem? eb))
      have la := last_at pl
      refine ⟨_, rfl, _, rfl, 1, rfl, a, _, _, _, rfl, rfl, SqL.of haG, la, lf, _, _, _, rfl, rfl, SqL.of hlfG, at_of (j := v) hv (ref_at eb), b, rfl, ⟨_, SqL.of hbG⟩, ?_⟩
      refine for_list (xs := (flw n rs (v : Int)).map V.int) (fun j σ G2 => ∃ (y5 : Option V) (cs : List Addr) (P' : List (List Int)) (kv : List (Key × V)), σ = [some (.ref lp), some (.ref lf), some (.ref rd), some (.ref lg), some (.ref a), y5] ∧ J (fun p' u => (p' ∈ PP.take i ∧ u ∈ flw n rs (p'.getLastD 0)) ∨ (p' = p ∧ u ∈ (flw n rs (v : Int)).take j)) G2 cs P' kv)
        ⟨_, cs, P', kv, rfl, ?_⟩ (fun j σ G2 _ hW => by
          obtain ⟨_, _, _, _, _, _, _, _, _, _, _, _, _, _, _, kp⟩ := hW
          exact SqL.of (kp _ _ hb0 (nfs b (List.mem_of_getElem? eb)))) (fun j x σ G2 hx hW => ?_) (fun σ G2 hW => ?_)
      · obtain ⟨j1, j2, j3, j4, j5, j6, j7, j8, j9, j10, j11⟩ := hJ
        refine ⟨j1, j2, j3, j4, j5, j6, fun p' hp' => ?_, j8, j9, fun p' u h => ?_, j11⟩
        · obtain ⟨p2, h2, u, hu, e, hR, hd⟩ := j7 p' hp'
          exact ⟨p2, h2, u, hu, e, hR, .inl hd⟩
        · rcases h with h | h
          · exact j10 p' u h
          · exact absurd h.2 (by rw [List.take_zero]; exact List.not_mem_nil)
      · obtain ⟨z5, cs, P', kv, rfl, j1, j2, j3, j4, j5, j6, j7, j8, j9, j10, j11⟩ := hW
        obtain ⟨u, eu, rfl⟩ := int_at_inv hx
        have hum := List.mem_of_getElem? eu
        have hun := flw_mem hum
        have haG2 := j11 _ _ ha0 (nps a (List.mem_of_getElem? ea))
        refine ⟨_, rfl, _, rfl, rd, _, rfl, DGet.k (k := Sum.inl u) j4, _, rfl, ?_⟩
        cases hval : valV kv (Sum.inl u) with
        | some y =>
          refine iteF ⟨_, cs, P', kv, rfl, j1, j2, j3, j4, j5, j6, fun p' hp' => ?_, j8, j9, fun p' u' h => ?_, j11⟩
          · obtain ⟨p2, h2, u2, hu2, e, hR, hd⟩ := j7 p' hp'
            refine ⟨p2, h2, u2, hu2, e, hR, hd.imp _root_.id fun h => ⟨h.1, ?_⟩⟩
            rw [take_more eu]
            exact List.mem_append_left _ h.2
          · rcases h with h | ⟨rfl, h⟩
            · exact j10 p' u' (.inl h)
            · rw [take_more eu] at h
              rcases List.mem_append.mp h with h | h
              · exact j10 p' u' (.inr ⟨rfl, h⟩)
              · rw [List.mem_singleton.mp h]
                have hRk : Rk kv u := by unfold Rk; rw [hval]; rfl
                rcases (j9 u).mp hRk with h | ⟨q', hq', e⟩
                · exact .inl h
                · obtain ⟨p2, h2, u2, hu2, e2, _, hd⟩ := j7 q' hq'
                  have eu2 : u2 = u := by rw [e2] at e; simpa using e
                  subst eu2
                  refine .inr ⟨q', hq', e, ?_⟩
                  rw [e2]
                  have le2 : p2 ≤ p' := by
                    rcases hd with hd | hd
                    · rw [List.mem_iff_getElem?] at hd
                      obtain ⟨⟨i2, hi2⟩, _⟩ := hd
                      have hlt : i2 < i := by
                        have := (List.getElem?_eq_some_iff.mp hi2).1
                        rw [List.length_take] at this
                        omega
                      rw [List.getElem?_take_of_lt hlt] at hi2
                      have hs2 := List.pairwise_iff_getElem.mp hsrt
                      obtain ⟨g1, e1⟩ := List.getElem?_eq_some_iff.mp hi2
                      obtain ⟨g2, e3⟩ := List.getElem?_eq_some_iff.mp ep
                      have := hs2 i2 i g1 g2 hlt
                      rw [e1, e3] at this
                      exact List.le_of_lt this
                    · rw [hd.1]
                      exact List.le_refl _
                  exact snoc_le (by rw [(hP p2 h2).1, pl]) le2 (Int.le_refl _)
        | none =>
          refine iteT ⟨_, rfl, _, rfl, rd, _, rfl, DPut.k (k := Sum.inl u) j4 (line_lt (by omega)), ?_⟩
          have hlg1 : (upd G2 rd (.dK (putK kv (Sum.inl u) (.bl true)))) lg = _ := (upd_ne nlr).trans j1
          have ha1 : (upd G2 rd (.dK (putK kv (Sum.inl u) (.bl true)))) a = _ := (upd_ne (nps a (List.mem_of_getElem? ea))).trans haG2
          have hrd1 : (upd G2 rd (.dK (putK kv (Sum.inl u) (.bl true)))) rd = _ := upd_same
          have hL1 : LL (upd G2 rd (.dK (putK kv (Sum.inl u) (.bl true)))) cs P' := j2.keep fun c hc o e => by rw [upd_ne (j3 c hc).2.2]; exact e
          have kp1 : KeepD rd H (upd G2 rd (.dK (putK kv (Sum.inl u) (.bl true)))) := fun c o e nc => by rw [upd_ne nc]; exact j11 c o e nc
          generalize upd G2 rd (.dK (putK kv (Sum.inl u) (.bl true))) = G3 at hlg1 ha1 hrd1 hL1 kp1 ⊢
          have hcl := j2.len
          have hup := unr_put (y := V.bl true) hun hval
          have hkl := length_putK kv (Sum.inl u) (V.bl true)
          refine ⟨_, rfl, .inl ⟨rfl, _, SqL.of hlg1⟩, _, rfl, _, rfl, line_small (by show 1 ≤ 16777216; decide), fun e1 ne1 => ?_⟩
          have s4 := same_new (o := .lst [.int u]) ne1
          refine ⟨a, e1, _, _, rfl, rfl, s4 _ _ ha1, upd_same, line_small (by rw [List.length_map, pl]; show k' + 1 + 1 ≤ 16777216; omega), fun e2 ne2 => ?_⟩
          have s5 := s4.trans (same_new (o := .lst (p.map V.int ++ [.int u])) ne2)
          have he2 : (upd (upd G3 e1 (.lst [.int u])) e2 (.lst (p.map V.int ++ [.int u]))) e2 = _ := upd_same
          generalize upd (upd G3 e1 (.lst [.int u])) e2 (.lst (p.map V.int ++ [.int u])) = G4 at s5 he2 ⊢
          have hlg4 := s5 _ _ hlg1
          have ne2G3 : G3 e2 = none := s4.free ne2
          have ne2lg : e2 ≠ lg := fun z => by rw [z, hlg1] at ne2G3; cases ne2G3
          have ne2rd : e2 ≠ rd := fun z => by rw [z, hrd1] at ne2G3; cases ne2G3
          have ne2H : H e2 = none := kp1.none ne2G3 ne2rd
          have hul : P'.length + unr n kv ≤ n := by
            have : unr n kvs ≤ n := Nat.le_trans (List.length_filter_le _ _) (by rw [rg_len]; exact Nat.le_refl _)
            omega
          have hnR : ¬ Rk kvs u := fun h => by
            have := (j9 u).mpr (.inl h)
            unfold Rk at this
            rw [hval] at this
            cases this
          refine ⟨lg, _, _, rfl, rfl, hlg4, line_lt (by rw [List.length_map]; omega), ?_⟩
          refine ⟨_, cs ++ [e2], P' ++ [p ++ [u]], putK kv (Sum.inl u) (.bl true), rfl, by rw [upd_same, List.map_append]; rfl, ?_, fun c hc => ?_, by rw [upd_ne nlr.symm]; exact s5 _ _ hrd1, by omega, by rw [List.length_append]; show _ + 1 + _ ≤ _; omega, fun p' hp' => ?_, ?_, fun u' => ?_, fun p' u' h => ?_, fun c o e nc => ?_⟩
          · refine LL.snoc ((hL1.same s5).keep fun c hc o e => ?_) ?_
            · rw [upd_ne (j3 c hc).2.1]
              exact e
            · rw [upd_ne ne2lg, he2, List.map_append]
              rfl
          · rcases List.mem_append.mp hc with h | h
            · exact j3 c h
            · rw [List.mem_singleton.mp h]
              exact ⟨ne2H, ne2lg, ne2rd⟩
          · rcases List.mem_append.mp hp' with h | h
            · obtain ⟨p2, h2, u2, hu2, e, hR, hd⟩ := j7 p' h
              refine ⟨p2, h2, u2, hu2, e, hR, hd.imp _root_.id fun h => ⟨h.1, ?_⟩⟩
              rw [take_more eu]
              exact List.mem_append_left _ h.2
            · rw [List.mem_singleton.mp h]
              refine ⟨p, hpm, u, by rw [hv]; exact hum, rfl, hnR, .inr ⟨rfl, ?_⟩⟩
              rw [take_more eu]
              exact List.mem_append_right _ (List.mem_singleton.mpr rfl)
          · refine List.pairwise_append.mpr ⟨j8, List.pairwise_singleton _ _, fun x hx y hy => ?_⟩
            rw [List.mem_singleton.mp hy]
            obtain ⟨p2, h2, u2, hu2, e, hR, hd⟩ := j7 x hx
            rw [e]
            rcases hd with hd | hd
            · obtain ⟨i2, hi2⟩ := List.mem_iff_getElem?.mp hd.1
              have hlt : i2 < i := by
                have := (List.getElem?_eq_some_iff.mp hi2).1
                rw [List.length_take] at this
                omega
              rw [List.getElem?_take_of_lt hlt] at hi2
              have hs2 := List.pairwise_iff_getElem.mp hsrt
              obtain ⟨g1, e1⟩ := List.getElem?_eq_some_iff.mp hi2
              obtain ⟨g2, e3⟩ := List.getElem?_eq_some_iff.mp ep
              have := hs2 i2 i g1 g2 hlt
              rw [e1, e3] at this
              exact lt_snoc (by rw [(hP p2 h2).1, pl]) this u2 u
            · rw [hd.1]
              apply snoc_lt
              obtain ⟨j2', hj2⟩ := List.mem_iff_getElem?.mp hd.2
              have hlt : j2' < j := by
                have := (List.getElem?_eq_some_iff.mp hj2).1
                rw [List.length_take] at this
                omega
              rw [List.getElem?_take_of_lt hlt] at hj2
              have hs2 := List.pairwise_iff_getElem.mp (flw_sorted n rs (v : Int))
              obtain ⟨g1, e1⟩ := List.getElem?_eq_some_iff.mp hj2
              obtain ⟨g2, e3⟩ := List.getElem?_eq_some_iff.mp eu
              have := hs2 j2' j g1 g2 hlt
              rw [e1, e3] at this
              exact this
          · rw [Rk_put, j9 u']
            constructor
            · rintro ((h | ⟨q', hq', e⟩) | rfl)
              · exact .inl h
              · exact .inr ⟨q', List.mem_append_left _ hq', e⟩
              · exact .inr ⟨p ++ [u'], List.mem_append_right _ (List.mem_singleton.mpr rfl), by simp⟩
            · rintro (h | ⟨q', hq', e⟩)
              · exact .inl (.inl h)
              · rcases List.mem_append.mp hq' with h | h
                · exact .inl (.inr ⟨q', h, e⟩)
                · rw [List.mem_singleton.mp h] at e
                  refine .inr ?_
                  have : u = u' := by simpa using e
                  exact this.symm
          · rcases h with h | ⟨rfl, h⟩
            · rcases j10 p' u' (.inl h) with h | ⟨q', hq', e, hle⟩
              · exact .inl h
              · exact .inr ⟨q', List.mem_append_left _ hq', e, hle⟩
            · rw [take_more eu] at h
              rcases List.mem_append.mp h with h | h
              · rcases j10 p' u' (.inr ⟨rfl, h⟩) with h | ⟨q', hq', e, hle⟩
                · exact .inl h
                · exact .inr ⟨q', List.mem_append_left _ hq', e, hle⟩
              · rw [List.mem_singleton.mp h]
                exact .inr ⟨p' ++ [u], List.mem_append_right _ (List.mem_singleton.mpr rfl), by simp, List.le_refl _⟩
          · rw [upd_ne (ne_of_none e nlg)]
            exact s5 _ _ (kp1 c o e nc)
      · obtain ⟨z5, cs, P', kv, rfl, j1, j2, j3, j4, j5, j6, j7, j8, j9, j10, j11⟩ := hW
        rw [List.length_map, List.take_length] at j7 j10
        refine ⟨_, _, cs, P', kv, rfl, j1, j2, j3, j4, j5, j6, fun p' hp' => ?_, j8, j9, fun p' u h => ?_, j11⟩
        · obtain ⟨p2, h2, u2, hu2, e, hR, hd⟩ := j7 p' hp'
          refine ⟨p2, h2, u2, hu2, e, hR, ?_, hu2⟩
          rw [take_more' ep]
          rcases hd with hd | hd
          · exact List.mem_append_left _ hd.1
          · exact List.mem_append_right _ (List.mem_singleton.mpr hd.1)
        · rw [take_more' ep] at h
          rcases List.mem_append.mp h.1 with h1 | h1
          · exact j10 p' u (.inl ⟨h1, h.2⟩)
          · have e := List.mem_singleton.mp h1
            refine j10 p' u (.inr ⟨e, ?_⟩)
            have := h.2
            rw [e, hv] at this
            exact this
    · obtain ⟨y4, y5, cs, P', kv, rfl, j1, j2, j3, j4, j5, j6, j7, j8, j9, j10, j11⟩ := hW
      rw [List.length_map, hpl, List.take_length] at j7 j10
      refine ⟨_, rfl, q lg cs P' kv G nlg (fun a ha => (j3 a ha).1) nlr (fun h => (j3 rd h).2.2 rfl) j1 j2 j4 j5 (fun hne => ?_) ⟨fun p' hp' => ?_, j8, j9, fun p hp u hu => j10 p u ⟨hp, hu⟩⟩ j11⟩
      · have : 0 < P'.length := List.length_pos_iff.mpr hne
        omega
      · obtain ⟨p2, h2, u2, hu2, e, hR, _⟩ := j7 p' hp'
        exact ⟨p2, h2, u2, hu2, e, hR⟩
end
end Fo
namespace Fo
open PySem PySem.Spec PyProof.Rows L2
def Rn (kvs : List (Key × V)) (u : Int) : Prop := Rk kvs u ∨ u < 0
theorem step_neg {n : Nat} {rs : List (List Int)} {P P' : List (List Int)} {kvs kvs' : List (Key × V)} (S : BStep (flw n rs) P P' (Rk kvs) (Rk kvs')) : BStep (flw n rs) P P' (Rn kvs) (Rn kvs') where
  a := fun q hq => by
    obtain ⟨p, hp, u, hu, e, hR⟩ := S.a q hq
    refine ⟨p, hp, u, hu, e, fun h => h.elim hR fun h => ?_⟩
    have := flw_mem hu
    omega
  b := S.b
  r := fun u => by
    unfold Rn
    rw [S.r u]
    constructor
    · rintro ((h | h) | h)
      · exact .inl (.inl h)
      · exact .inr h
      · exact .inl (.inr h)
    · rintro ((h | h) | h)
      · exact .inl (.inl h)
      · exact .inr h
      · exact .inl (.inr h)
  g := fun p hp u hu => by
    rcases S.g p hp u hu with h | h
    · exact .inl (.inl h)
    · exact .inr h
theorem filt_le {p q : Int → Bool} : ∀ {m : List Int}, (∀ u ∈ m, q u = true → p u = true) → (m.filter q).length ≤ (m.filter p).length
  | [], _ => Nat.le_refl _
  | b :: m, hm => by
    have i2 := filt_le (m := m) fun u hu => hm u (List.mem_cons_of_mem _ hu)
    have hb := hm b List.mem_cons_self
    rw [List.filter_cons, List.filter_cons]
    cases e1 : q b <;> cases e2 : p b
    · simpa using i2
    · simp
      omega
    · rw [hb e1] at e2
      cases e2
    · simpa using i2
theorem BInv.congr {fl : Int → List Int} {z : Int} {k : Nat} {P : List (List Int)} {Rb R R' : Int → Prop} (I : BInv fl z k P Rb R) (h : ∀ u, R' u ↔ R u) : BInv fl z k P Rb R' := ⟨I.a, I.b, I.c, I.d, I.e, fun v h1 h2 u hu hz => (h u).mpr (I.f v h1 h2 u hu hz), fun u => (h u).trans (I.r u), fun u hu => (h u).mpr (I.h u hu)⟩
theorem wk_bound {n : Nat} {rs : List (List Int)} {z : Int} (hz : 0 ≤ z ∧ z < n) {k : Nat} {p : List Int} {v : Int} (h : Wk (flw n rs) z k p v) : 0 ≤ v ∧ v < n := by
  cases h with
  | nil => exact hz
  | snoc _ hu _ => exact flw_mem hu
def spRFrom : Sp := fun vs H Q _ => ∃ (z : Nat) (lf : Addr) (fs : List Addr) (n : Nat) (rs : List (List Int)), vs = [.int z, .ref lf] ∧ z < n ∧ n ≤ 12 ∧ H lf = some (.lst (fs.map V.ref)) ∧ LL H fs (flM n rs) ∧
  (∀ H', RingAt (flw n rs) (z : Int) none → Same H H' → Q .non H') ∧ (∀ (g : Addr) (p : List Int) (H' : Hp), H g = none → H' g = some (.lst (p.map V.int)) → RingAt (flw n rs) (z : Int) (some p) → p.length ≤ n → Same H H' → Q (.ref g) H')
def spRing : Sp := fun vs H Q _ => ∃ (l : Addr) (as : List Addr) (rs : List (List Int)) (n : Nat), vs = [.ref l] ∧ OL H l as rs n ∧ 1 ≤ rs.length ∧ rs.length ≤ 20 ∧ n ≤ 9 ∧
  (∀ H', (∀ z : Nat, z < n → RingAt (flw n rs) (z : Int) none) → Same H H' → Q .non H') ∧ (∀ (g : Addr) (p : List Int) (z : Nat) (H' : Hp), H g = none → H' g = some (.lst (p.map V.int)) → z < n → RingAt (flw n rs) (z : Int) (some p) → p.length ≤ n → (∀ z' : Nat, z' < n → ∀ p', RingAt (flw n rs) (z' : Int) (some p') → p.length < p'.length ∨ (p.length = p'.length ∧ z ≤ z')) → (∀ z' : Nat, z' < n → RingAt (flw n rs) (z' : Int) none ∨ ∃ p', RingAt (flw n rs) (z' : Int) (some p')) → Same H H' → Q (.ref g) H')
theorem ring_not {fl : Int → List Int} {z : Int} {p : List Int} (h : RingAt fl z none) (h2 : RingAt fl z (some p)) : False := by
  obtain ⟨k, v, h1, h3, _⟩ := h2
  exact h k p v h1 h3
theorem unr_le {n : Nat} {kvs : List (Key × V)} {m : Nat} (h : ∀ u : Int, 0 ≤ u → u < m → Rk kvs u) (hm : m ≤ n) : unr n kvs + m ≤ n := by
  unfold unr
  have hs : ∀ j : Nat, m ≤ j → ((rg j).filter fun u => (valV kvs (Sum.inl u)).isNone).length + m ≤ j := fun j => by
    induction j with
    | zero => intro h0; have : m = 0 := by omega
              subst this; exact Nat.le_refl _
    | succ j ih =>
      intro hj
      rw [rg_succ, List.filter_append, List.length_append]
      by_cases c : m ≤ j
      · have i1 := ih c
        have i2 := List.length_filter_le (fun u => (valV kvs (Sum.inl u)).isNone) [(j : Int)]
        have e1 : [(j : Int)].length = 1 := rfl
        omega
      · have e : m = j + 1 := by omega
        have z1 : ∀ i : Nat, i ≤ m → (rg i).filter (fun u => (valV kvs (Sum.inl u)).isNone) = [] := fun i hi => by
          rw [List.filter_eq_nil_iff]
          intro u hu
          have hb := rg_mem.mp hu
          have := h u hb.1 (by omega)
          unfold Rk at this
          cases hv : valV kvs (Sum.inl u) with
          | none => rw [hv] at this; cases this
          | some y => simp
        have z2 : [(j : Int)].filter (fun u => (valV kvs (Sum.inl u)).isNone) = [] := by
          rw [List.filter_eq_nil_iff]
          intro u hu
          rw [List.mem_singleton.mp hu]
          have := h (j : Int) (by omega) (by omega)
          unfold Rk at this
          cases hv : valV kvs (Sum.inl (j : Int)) with
          | none => rw [hv] at this; cases this
          | some y => simp
        rw [z1 j (by omega), z2]
        show 0 + 0 + m ≤ j + 1
        omega
  exact hs n hm
section
variable {P : Program} {w : World} {K : PySem.W.Frag} {mg : Str → Option Value} {base : Heap}
theorem scRFrom : FnScope ["least", "followers", "reached", "paths", "path", "thing"] ["least", "followers"] (defScope s_ring_from) := ⟨rfl, rfl, rfl, by decide +kernel, rfl, by decide +kernel, by decide +kernel⟩
set_option maxHeartbeats 4000000 in
theorem ok_rfrom {f f1 : Addr} {fd d1 : FuncData} {k : Nat} (T : Df K mg "ring_from" s_ring_from ["least", "followers"] f fd) (T_longer_paths : Df K mg "longer_paths" s_longer_paths ["paths", "followers", "reached"] f1 d1) (G_longer_paths : FnOk P w K mg base CX0 k f1 d1 ["paths", "followers", "reached"] spLonger) (B : Bi mg) : FnOk P w K mg base CX0 (k + 1) f fd ["least", "followers"] spRFrom := by
  refine T.F.ok scRFrom (fun vs H Q E h => ?_) (fun cdv A outer s H vs Q E hr h => ?_)
  · obtain ⟨z, lf, fs, n, rs, rfl, _⟩ := h
    rfl
  · obtain ⟨z, lf, fs, n, rs, rfl, hz, hn, hlf, hLf, q0, q1⟩ := h
    have hfl := hLf.len
    rw [flM_len] at hfl
    refine ⟨_, 
      (pss_cons (ps_setDc (i := 2) (own := [("thing", 5)]) (g := (gName 5)) (tt := tYes) (tk := (tVar 5)) (tv := (tC (.bl true))) (by rfl) scRFrom.nd rfl rfl (by rfl) (pi_range1 (by rfl) B.range (pa_cons (pe_op op_add (pv 0) pe_int) pa_nil)) (blkOk_by (N := ["least", "followers", "reached", "paths", "path", "thing"]) (sc := defScope s_ring_from) (by decide +kernel)) (fun _ _ _ _ _ => (pg_name (i := 5) scRFrom.nd rfl (.inl rfl))) (fun _ _ _ _ _ => pts_nil) (fun _ _ _ _ _ => (pv 5)) (fun _ _ _ _ _ => pe_bl))
      (pss_cons (ps_set (i := 3) scRFrom.nd rfl (.inl rfl) (pe_lst (pa_cons (pe_lst (pa_cons (pv 0) pa_nil)) pa_nil)))
      (pss_cons (ps_while PassesOwn.never (pt_cmpR op_gt (pe_callB call_len_seq (by rfl) B.len PySem.boot_len (pa_cons (pv 3) pa_nil)) pe_int (nomark _))
        (pss_cons (ps_for PassesOwn.never rfl (pi_list (pv 3)) (pg_name (i := 4) scRFrom.nd rfl (.inl rfl))
          (pss_one (ps_if (pt_cmpR op_in_seq (pv 0) (pe_ix ix_list (pv 1) (pe_ix ix_list (pv 4) (pe_un un_neg pe_int) (fun _ _ => rfl)) (fun _ _ => rfl)) (by rfl))
            (pss_one (ps_ret (pv 4)))
            pss_nil)))
        (pss_one (ps_set (i := 3) scRFrom.nd rfl (.inl rfl) (pe_call G_longer_paths hr (by rfl) T_longer_paths.g T_longer_paths.F.kp T_longer_paths.b .nil pass0 (pa_cons (pv 3) (pa_cons (pv 1) (pa_cons (pv 2) pa_nil))))))))
      (pss_one (ps_ret pe_non))))), ?_⟩
    -- reached
    refine ⟨_, rfl, (z : Int), 1, rfl, rfl, _, rfl, by omega, by omega, fun rd nrd => ?_⟩
    rw [show ((z : Int) + 1).toNat = z + 1 by omega]
    refine dc_range (lo := 0) (n := z + 1) (fun i G => ∃ kvs : List (Key × V), G rd = some (.dK kvs) ∧ kvs.length ≤ i ∧ (∀ u, Rk kvs u ↔ (0 ≤ u ∧ u < i)) ∧ Same H G) ⟨[], upd_same, Nat.le_refl _, fun u => ⟨fun h => absurd h (by unfold Rk; rw [valV_nil]; decide), fun h => absurd h (by omega)⟩, same_new nrd⟩ (fun i G hi hP => ?_) (fun G hP => ?_)
    · obtain ⟨kvs, hk, hkl, hku, sG⟩ := hP
      refine ⟨rfl, _, rfl, kvs, Sum.inl (0 + (i : Int)), rfl, hk, line_lt (by omega), putK kvs (Sum.inl (0 + (i : Int))) (.bl true), upd_same, Nat.le_trans (length_putK _ _ _) (by omega), fun u => ?_, fun b o e => ?_⟩
      · rw [Rk_put, hku u]
        omega
      · rw [upd_ne (ne_of_none e nrd)]
        exact sG _ _ e
    obtain ⟨kvs, hk, hkl, hku, sG⟩ := hP
    -- paths
    refine ⟨_, rfl, line_small (by show 1 ≤ 16777216; decide), fun e1 ne1 => ⟨line_small (by show 1 ≤ 16777216; decide), fun lp nlp => ?_⟩⟩
    have s1 := (same_new (o := .lst [.int (z : Int)]) ne1).trans (same_new (o := .lst [.ref e1]) nlp)
    have he1 := same_new (o := .lst [.ref e1]) nlp e1 (.lst [.int (z : Int)]) upd_same
    have hlp : (upd (upd G e1 (.lst [.int (z : Int)])) lp (.lst [.ref e1])) lp = _ := upd_same
    generalize upd (upd G e1 (.lst [.int (z : Int)])) lp (.lst [.ref e1]) = G1 at s1 he1 hlp ⊢
    have s01 := sG.trans s1
    have nlfr : lf ≠ rd := fun e => by rw [e, nrd] at hlf; cases hlf
    have hne1 : H e1 = none := sG.free ne1
    have hu0 : unr n kvs + (z + 1) ≤ n := unr_le (fun u h0 h1 => (hku u).mpr ⟨h0, h1⟩) (by omega)
    refine ⟨fun mm σ G => ∃ (k : Nat) (PP : List (List Int)) (Rb : Int → Prop) (kv : List (Key × V)) (lp : Addr) (ps : List Addr) (y4 : Option V), (2 * unr n kv + PP.length.min 1) = mm ∧ σ = [some (.int (z : Int)), some (.ref lf), some (.ref rd), some (.ref lp), y4, none] ∧ BInv (flw n rs) (z : Int) k PP Rb (Rn kv) ∧ G lp = some (.lst (ps.map V.ref)) ∧ LL G ps PP ∧ (∀ a ∈ ps, H a = none) ∧ G rd = some (.dK kv) ∧ kv.length + unr n kv ≤ n ∧ (PP ≠ [] → unr n kv + k + 1 ≤ n) ∧ Same H G,
      ⟨_, 0, [[(z : Int)]], (fun u => u < (z : Int)), kvs, lp, [e1], none, rfl, rfl, ?_, hlp, ⟨he1, trivial⟩, fun a ha => by rw [List.mem_singleton.mp ha]; exact hne1, s1 _ _ hk, by omega, fun _ => by omega, s01⟩, fun mm σ G hW => ?_⟩
    · refine binv0.congr fun u => ?_
      unfold Rn
      rw [hku u]
      omega
    obtain ⟨k, PP, Rb, kv, lp, ps, y4, emm, rfl, I, hlp, hLp, hps, hrd, hku, hk1, sG⟩ := hW
    have hpl := hLp.len
    refine ⟨_, rfl, lp, _, rfl, .inl (SqL.of hlp), _, 0, rfl, rfl, _, rfl, ite2 (fun c => ?_) (fun c => ?_)⟩
    · have hne : PP ≠ [] := fun e => by
        have h0 : (0 : Int) < (((ps.map V.ref).length : Nat) : Int) := of_decide_eq_true c
        rw [List.length_map, hpl, e] at h0
        exact absurd h0 (by decide)
      refine ⟨_, fun σ' H' h => h, ?_⟩
      have hlfG := sG _ _ hlf
      refine ⟨_, rfl, lp, rfl, ⟨_, SqL.of hlp⟩, ?_⟩
      refine for_list (xs := ps.map V.ref) (fun i σ G' => ∃ y4 : Option V, σ = [some (.int (z : Int)), some (.ref lf), some (.ref rd), some (.ref lp), y4, none] ∧ (∀ p ∈ PP.take i, (z : Int) ∉ flw n rs (p.getLastD 0)) ∧ G' = G) ⟨_, rfl, fun p h => absurd h (by rw [List.take_zero]; exact List.not_mem_nil), rfl⟩ (fun i σ G' _ hW => by obtain ⟨_, _, _, rfl⟩ := hW; exact SqL.of hlp) (fun i x σ G' hx hW => ?_) (fun σ G' hW => ?_)
      · obtain ⟨y4, rfl, hno, rfl⟩ := hW
        obtain ⟨a, ea, rfl⟩ := ref_at_inv hx
        obtain ⟨p, ep, ha⟩ := hLp.get ea
        obtain ⟨v, hw, _⟩ := I.a p (List.mem_of_getElem? ep)
        have hvb := wk_bound (by omega) hw
        obtain ⟨vn, rfl⟩ : ∃ vn : Nat, v = (vn : Int) := ⟨v.toNat, by omega⟩
        obtain ⟨b, eb⟩ : ∃ b, fs[vn]? = some b := ⟨fs[vn]'(by omega), List.getElem?_eq_getElem (by omega)⟩
        obtain ⟨fr, efr, hb0⟩ := hLf.get eb
        rw [flM_at (show vn < n by omega)] at efr
        have efr2 := Option.some.inj efr
        subst efr2
        have hb := sG _ _ hb0
        have la := last_at hw.len
        rw [hw.last] at la
        refine ⟨_, rfl, _, rfl, _, rfl, 1, rfl, a, _, _, _, rfl, rfl, SqL.of ha, la, lf, _, _, _, rfl, rfl, SqL.of hlfG, at_of (j := vn) rfl (ref_at eb), b, _, rfl, .inl (SqL.of hb), rfl, flat_ints _, _, rfl, ?_⟩
        show if inV (.int (z : Int)) ((flw n rs (vn : Int)).map V.int) = true then _ else _
        rw [inV_int]
        by_cases cz : (z : Int) ∈ flw n rs (vn : Int)
        · rw [decide_eq_true cz, if_pos rfl]
          refine ⟨_, rfl, q1 a p G' (hps a (List.mem_of_getElem? ea)) ha ?_ (by rw [hw.len]; have := hk1 hne; omega) sG⟩
          obtain ⟨hi, e3⟩ := List.getElem?_eq_some_iff.mp ep
          refine binv_some I (P1 := PP.take i) (P2 := PP.drop (i + 1)) ?_ hno (by rw [hw.last]; exact cz)
          rw [← e3, ← List.drop_eq_getElem_cons hi, List.take_append_drop]
        · rw [decide_eq_false cz, if_neg (by decide)]
          refine ⟨_, rfl, fun p' hp' => ?_, rfl⟩
          rw [take_more' ep] at hp'
          rcases List.mem_append.mp hp' with h | h
          · exact hno p' h
          · rw [List.mem_singleton.mp h, hw.last]
            exact cz
      · obtain ⟨y4, rfl, hno, rfl⟩ := hW
        rw [List.length_map, hpl, List.take_length] at hno
        have hk1' := hk1 hne
        refine ⟨_, rfl, _, rfl, _, rfl, lp, lf, rd, ps, fs, PP, n, k, rs, kv, rfl, hn, hlp, hLp, hlfG, hLf.same sG, hrd, hku, by omega, fun p hp => ?_, I.b, fun l' as' P' kvs' H' nl' nas' nlr nda hl' hL' hrd' hku' hun hS kp => ?_⟩
        · obtain ⟨v, hw, _⟩ := I.a p hp
          have hvb := wk_bound (by omega) hw
          rw [hw.last]
          exact ⟨hw.len, hvb.1, hvb.2⟩
        · have hS2 := step_neg hS
          have I2 := binv_step I hno hS2
          refine ⟨2 * unr n kvs' + P'.length.min 1, ?_, k + 1, P', Rn kv, kvs', l', as', y4, rfl, rfl, I2, hl', hL', fun a ha => sG.free (nas' a ha), hrd', hku', fun hne' => ?_, fun b o e => kp b o (sG b o e) (ne_of_none e nrd)⟩
          · have hm1 : PP.length.min 1 = 1 := by
              have : 0 < PP.length := List.length_pos_iff.mpr hne
              show min PP.length 1 = 1
              omega
            rw [← emm, hm1]
            by_cases cP : P' = []
            · subst cP
              have hle : unr n kvs' ≤ unr n kv := by
                unfold unr
                refine filt_le fun u _ hu => ?_
                have hr := hS.r u
                cases hv : valV kv (Sum.inl u) with
                | none => rfl
                | some y =>
                  have h1 : Rk kv u := by unfold Rk; rw [hv]; rfl
                  have h2 := hr.mpr (.inl h1)
                  unfold Rk at h2
                  cases hv2 : valV kvs' (Sum.inl u) with
                  | none => rw [hv2] at h2; cases h2
                  | some y2 => rw [hv2] at hu; cases hu
              show 2 * unr n kvs' + 0 < _
              omega
            · have h1 := hun cP
              have h2 : P'.length.min 1 ≤ 1 := Nat.min_le_right _ _
              omega
          · have h1 := hun hne'
            omega
    · have hnil : PP = [] := by
        apply List.eq_nil_of_length_eq_zero
        have h0 : ¬ (0 : Int) < (((ps.map V.ref).length : Nat) : Int) := fun h => c (decide_eq_true h)
        rw [List.length_map, hpl] at h0
        omega
      subst hnil
      exact q0 G (binv_none I) sG
theorem scRing : FnScope ["poll", "n", "followers", "best", "least", "ring"] ["poll"] (defScope s_ring_of) := ⟨rfl, rfl, rfl, by decide +kernel, rfl, by decide +kernel, by decide +kernel⟩
set_option maxHeartbeats 4000000 in
theorem ok_ring {f f1 f2 f3 f4 : Addr} {fd d1 d2 d3 d4 : FuncData} {k : Nat} {t1 : Tok} (T : Df K mg "ring_of" s_ring_of ["poll"] f fd) (T_check_poll : Df K mg "check_poll" s_check_poll ["thing"] f1 d1) (T_check_few : Df K mg "check_few" s_check_few ["n", "most"] f2 d2) (T_mostly_behind : Df K mg "mostly_behind" s_mostly_behind ["poll"] f3 d3) (T_ring_from : Df K mg "ring_from" s_ring_from ["least", "followers"] f4 d4) (G_check_poll : FnOk P w K mg base CX0 k f1 d1 ["thing"] spCPoll) (G_check_few : FnOk P w K mg base CX0 k f2 d2 ["n", "most"] spFew) (G_mostly_behind : FnOk P w K mg base CX0 k f3 d3 ["poll"] spMBeh) (G_ring_from : FnOk P w K mg base CX0 k f4 d4 ["least", "followers"] spRFrom) (B : Bi mg) (mB : mg "MOST_BY_PAIRS" = some (.int 9 t1)) : FnOk P w K mg base CX0 (k + 1) f fd ["poll"] spRing := by
  refine T.F.ok scRing (fun vs H Q E h => ?_) (fun cdv A outer s H vs Q E hr h => ?_)
  · obtain ⟨l, as, rs, n, rfl, _⟩ := h
    rfl
  · obtain ⟨l, as, rs, n, rfl, hO, h1, h2, hn9, q0, q1⟩ := h
    have hal := hO.ll.len
    refine ⟨_, 
      (pss_cons (ps_expr (pe_call G_check_poll hr (by rfl) T_check_poll.g T_check_poll.F.kp T_check_poll.b .nil pass0 (pa_cons (pv 0) pa_nil)))
      (pss_cons (ps_set (i := 1) scRing.nd rfl (.inl rfl) (pe_callB call_len_seq (by rfl) B.len PySem.boot_len (pa_cons (pe_ix ix_list (pv 0) pe_int (fun _ _ => rfl)) pa_nil)))
      (pss_cons (ps_expr (pe_call G_check_few hr (by rfl) T_check_few.g T_check_few.F.kp T_check_few.b .nil pass0 (pa_cons (pv 1) (pa_cons (pe_glob (v := .int 9) (by rfl) mB ⟨_, rfl⟩) pa_nil))))
      (pss_cons (ps_set (i := 2) scRing.nd rfl (.inl rfl) (pe_call G_mostly_behind hr (by rfl) T_mostly_behind.g T_mostly_behind.F.kp T_mostly_behind.b .nil pass0 (pa_cons (pv 0) pa_nil)))
      (pss_cons (ps_set (i := 3) scRing.nd rfl (.inl rfl) pe_non)
      (pss_cons (ps_for PassesOwn.never rfl (pi_range1 (by rfl) B.range (pa_cons (pv 1) pa_nil)) (pg_name (i := 4) scRing.nd rfl (.inl rfl))
        (pss_cons (ps_set (i := 5) scRing.nd rfl (.inl rfl) (pe_call G_ring_from hr (by rfl) T_ring_from.g T_ring_from.F.kp T_ring_from.b .nil pass0 (pa_cons (pv 4) (pa_cons (pv 2) pa_nil))))
        (pss_one (ps_if (PW.pt (pw_and (pt_cmpR op_notN (pv 5) pe_non (nomark _)) (pw_and1 (PW.pt (pw_or (pt_cmpR op_isN (pv 3) pe_non (nomark _)) (pw_or1 (pt_cmpR op_lt (pe_callB call_len_seq (by rfl) B.len PySem.boot_len (pa_cons (pv 5) pa_nil)) (pe_callB call_len_seq (by rfl) B.len PySem.boot_len (pa_cons (pv 3) pa_nil)) (nomark _))))))))
          (pss_one (ps_set (i := 3) scRing.nd rfl (.inl rfl) (pv 5)))
          pss_nil))))
      (pss_one (ps_ret (pv 3))))))))), ?_⟩
    refine ⟨_, rfl, l, as, rs, n, rfl, hO, h1, h2, fun H1 s1 => ?_⟩
    have hO1 := hO.same s1
    obtain ⟨a0, ea0⟩ : ∃ a0, as[0]? = some a0 := ⟨as[0]'(by omega), List.getElem?_eq_getElem (by omega)⟩
    obtain ⟨r0, er0, ha0⟩ := hO1.ll.get ea0
    have lr0 : (r0.map V.int).length = n := by rw [List.length_map]; exact (hO.ord r0 (List.mem_of_getElem? er0)).len
    refine ⟨_, rfl, l, _, 0, _, rfl, rfl, SqL.of hO1.top, at_of (j := 0) rfl (ref_at ea0), a0, _, rfl, .inl (SqL.of ha0), ?_⟩
    rw [lr0]
    refine ⟨_, rfl, (n : Int), 9, rfl, by omega, ?_⟩
    refine ⟨_, rfl, l, as, rs, n, rfl, hO1, h1, by omega, fun lf fs H2 hlf hLf s2 => ?_⟩
    have s02 := s1.trans s2
    refine ⟨_, rfl, n, rfl, by omega, by omega, ?_⟩
    rw [Int.toNat_natCast]
    refine for_range (n := n) (fun i σ G => ∃ (y4 y5 : Option V) (v3 : V), σ = [some (.ref l), some (.int n), some (.ref lf), some v3, y4, y5] ∧ ((v3 = .non ∧ ∀ z : Nat, z < i → RingAt (flw n rs) (z : Int) none) ∨ ∃ (g : Addr) (p : List Int) (z : Nat), v3 = .ref g ∧ H g = none ∧ G g = some (.lst (p.map V.int)) ∧ z < i ∧ RingAt (flw n rs) (z : Int) (some p) ∧ p.length ≤ n ∧ (∀ z' : Nat, z' < i → ∀ p', RingAt (flw n rs) (z' : Int) (some p') → p.length < p'.length ∨ (p.length = p'.length ∧ z ≤ z')) ∧ ∀ z' : Nat, z' < i → RingAt (flw n rs) (z' : Int) none ∨ ∃ p', RingAt (flw n rs) (z' : Int) (some p')) ∧ Same H2 G)
      ⟨_, _, _, rfl, .inl ⟨rfl, fun z h => absurd h (Nat.not_lt_zero _)⟩, Same.refl _⟩ (fun i σ G hi hW => ?_) (fun σ G hW => ?_)
    · obtain ⟨y4, y5, v3, rfl, hst, sG⟩ := hW
      rw [show (0 : Int) + (i : Int) = (i : Int) by omega]
      have s0G := s02.trans sG
      refine ⟨_, rfl, _, rfl, i, lf, fs, n, rs, rfl, hi, by omega, sG _ _ hlf, hLf.same sG, fun G1 hR s3 => ?_, fun g p G1 ng hg hR hpl s3 => ?_⟩
      · -- no ring from here
        refine ⟨_, rfl, rfl, _, rfl, ite2 (fun c => absurd c (by decide)) (fun _ => ?_)⟩
        refine iteF ⟨_, _, _, rfl, ?_, sG.trans s3⟩
        rcases hst with ⟨e, hz⟩ | ⟨g, p, z, e, ng, hg, hz, hR2, hl, hm, hh⟩
        · refine .inl ⟨e, fun z h => ?_⟩
          by_cases c : z = i
          · rw [c]
            exact hR
          · exact hz z (by omega)
        · refine .inr ⟨g, p, z, e, ng, s3 _ _ hg, by omega, hR2, hl, fun z' h p' hp' => ?_, fun z' h => ?_⟩
          · by_cases c : z' = i
            · rw [c] at hp'
              exact (ring_not hR hp').elim
            · exact hm z' (by omega) p' hp'
          · by_cases c : z' = i
            · rw [c]
              exact .inl hR
            · exact hh z' (by omega)
      · -- a ring from here
        have ngH := s0G.free ng
        refine ⟨_, rfl, rfl, _, rfl, ite2 (fun _ => ?_) (fun c => absurd rfl c)⟩
        have hh2 : ∀ z' : Nat, z' < i + 1 → RingAt (flw n rs) (z' : Int) none ∨ ∃ p', RingAt (flw n rs) (z' : Int) (some p') := fun z' h => by
          by_cases c : z' = i
          · rw [c]
            exact .inr ⟨p, hR⟩
          · rcases hst with ⟨_, hz⟩ | ⟨_, _, _, _, _, _, _, _, _, _, hh⟩
            · exact .inl (hz z' (by omega))
            · exact hh z' (by omega)
        rcases hst with ⟨rfl, hz⟩ | ⟨g2, p2, z, rfl, ng2, hg2, hz, hR2, hl2, hm, _⟩
        · refine ⟨_, rfl, rfl, _, rfl, ite2 (fun _ => ?_) (fun c => absurd (decide_eq_true rfl) c)⟩
          refine ⟨_, rfl, _, _, _, rfl, .inr ⟨g, p, i, rfl, ngH, hg, by omega, hR, hpl, fun z' h p' hp' => ?_, hh2⟩, sG.trans s3⟩
          by_cases c : z' = i
          · rw [c] at hp'
            rw [hR.uniq (o := none) hp']
            exact .inr ⟨rfl, by omega⟩
          · exact (ring_not (hz z' (by omega)) hp').elim
        · refine ⟨_, rfl, rfl, _, rfl, ite2 (fun c => by cases of_decide_eq_true c) (fun _ => ?_)⟩
          refine ⟨_, rfl, g, _, rfl, .inl (SqL.of hg), _, rfl, g2, _, rfl, .inl (SqL.of (s3 _ _ hg2)), _, _, rfl, rfl, _, rfl, ite2 (fun c => ?_) (fun c => ?_)⟩
          · have hlt : p.length < p2.length := by
              have := of_decide_eq_true c
              rw [List.length_map, List.length_map] at this
              omega
            refine ⟨_, rfl, _, _, _, rfl, .inr ⟨g, p, i, rfl, ngH, hg, by omega, hR, hpl, fun z' h p' hp' => ?_, hh2⟩, sG.trans s3⟩
            by_cases cz : z' = i
            · rw [cz] at hp'
              rw [hR.uniq (o := none) hp']
              exact .inr ⟨rfl, by omega⟩
            · rcases hm z' (by omega) p' hp' with h | h
              · exact .inl (by omega)
              · exact .inl (by omega)
          · have hge : ¬ p.length < p2.length := fun h => c (decide_eq_true (by rw [List.length_map, List.length_map]; omega))
            refine ⟨_, _, _, rfl, .inr ⟨g2, p2, z, rfl, ng2, s3 _ _ hg2, by omega, hR2, hl2, fun z' h p' hp' => ?_, hh2⟩, sG.trans s3⟩
            by_cases cz : z' = i
            · rw [cz] at hp'
              rw [← hR.uniq (o := none) hp']
              by_cases ce : p2.length < p.length
              · exact .inl ce
              · exact .inr ⟨by omega, by omega⟩
            · exact hm z' (by omega) p' hp'
    · obtain ⟨y4, y5, v3, rfl, hst, sG⟩ := hW
      rcases hst with ⟨rfl, hz⟩ | ⟨g, p, z, rfl, ng, hg, hz, hR, hl, hm, hh⟩
      · exact ⟨_, rfl, q0 G hz (s02.trans sG)⟩
      · exact ⟨_, rfl, q1 g p z G ng hg hz hR hl hm hh (s02.trans sG)⟩
end
end Fo
namespace Fo
open PySem PySem.Spec PyProof.Rows L2
theorem aN_sum (rs : List (List Int)) (i j : Int) : aN rs i j + aN rs j i ≤ rs.length := by
  unfold aN
  induction rs with
  | nil => exact Int.le_refl _
  | cons r rs ih =>
    rw [List.filter_cons, List.filter_cons, List.length_cons]
    by_cases c : pos r i < pos r j
    · have c2 : ¬ pos r j < pos r i := by omega
      rw [decide_eq_true c, decide_eq_false c2]
      simp only [if_true, List.length_cons, Bool.false_eq_true, if_false]
      omega
    · rw [decide_eq_false c]
      by_cases c2 : pos r j < pos r i
      · rw [decide_eq_true c2]
        simp only [if_true, List.length_cons, Bool.false_eq_true, if_false]
        omega
      · rw [decide_eq_false c2]
        simp only [Bool.false_eq_true, if_false]
        omega
theorem fl_self (n : Nat) (rs : List (List Int)) (z : Int) : z ∉ flw n rs z := by
  intro h
  have := of_decide_eq_true (List.mem_filter.mp h).2
  rw [aN_self] at this
  omega
theorem fl_asym {n : Nat} {rs : List (List Int)} {x y : Int} (h : y ∈ flw n rs x) : x ∉ flw n rs y := by
  intro h2
  have h1 := of_decide_eq_true (List.mem_filter.mp h).2
  have h3 := of_decide_eq_true (List.mem_filter.mp h2).2
  have := aN_sum rs x y
  omega
theorem fl_dom {n : Nat} {rs : List (List Int)} (ho : ∀ r ∈ rs, IsOrd n r) {x y : Int} (h : y ∈ flw n rs x) : 0 ≤ x ∧ x < n := by
  by_cases c : 0 ≤ x ∧ x < n
  · exact c
  · exfalso
    have h1 := of_decide_eq_true (List.mem_filter.mp h).2
    have e : aN rs x y = 0 := by
      unfold aN
      rw [List.filter_eq_nil_iff.mpr]
      · rfl
      · intro r hr
        have hx : x ∉ r := fun hm => c ((ho r hr).mem hm)
        have e1 : pos r x = (r.length : Int) := by
          unfold pos
          rw [List.idxOf_eq_length hx]
        have e2 : pos r y ≤ (r.length : Int) := by
          unfold pos
          have := List.idxOf_le_length (a := y) (l := r)
          omega
        simp
        omega
    omega
/-- no ring of fewer than three -/
theorem no_short {n : Nat} {rs : List (List Int)} {z : Int} {k : Nat} (hk : k < 2) {w : List Int} {v : Int} (h : Wk (flw n rs) z k w v) : z ∉ flw n rs v := by
  match k, hk, h with
  | 0, _, h =>
    obtain ⟨_, rfl⟩ := h.zero
    exact fl_self n rs v
  | 1, _, h =>
    obtain ⟨p', v', _, h', hv, _⟩ := h.succ
    obtain ⟨_, rfl⟩ := h'.zero
    exact fl_asym hv
def rgF (lo : Int) (n : Nat) : List Int := (List.range ((n : Int) - lo).toNat).map fun i => lo + ((i : Nat) : Int)
theorem rgF_mem {lo : Int} {n : Nat} {x : Int} : x ∈ rgF lo n ↔ lo ≤ x ∧ x < n := by
  unfold rgF
  rw [List.mem_map]
  constructor
  · rintro ⟨i, hi, rfl⟩
    have := List.mem_range.mp hi
    omega
  · rintro ⟨h1, h2⟩
    exact ⟨(x - lo).toNat, List.mem_range.mpr (by omega), by omega⟩
/-- the sets from behind, as the law makes them -/
def bkL (n : Nat) (fl : Int → List Int) (z : Int) (size : Nat) : Nat → List Int
  | 0 => [z]
  | t + 1 => (rgF (z + (if t + 1 < size then 1 else 0)) n).filter fun x => (bkL n fl z size t).any fun y => decide (y ∈ fl x)
theorem bk_mem {n : Nat} {fl : Int → List Int} {z : Int} {size : Nat} (hd : ∀ x y, y ∈ fl x → x < n) : ∀ t < size, ∀ x, x ∈ bkL n fl z size t ↔ Bw fl z t x
  | 0, _, x => by
    constructor
    · intro h
      rw [List.mem_singleton.mp h]
      exact .nil
    · intro h
      cases h
      exact List.mem_singleton.mpr rfl
  | t + 1, ht, x => by
    have ih := bk_mem (n := n) (fl := fl) (z := z) (size := size) hd t (by omega)
    show x ∈ (rgF (z + (if t + 1 < size then 1 else 0)) n).filter _ ↔ _
    rw [List.mem_filter, if_pos ht, rgF_mem, List.any_eq_true]
    constructor
    · rintro ⟨⟨h1, h2⟩, y, hy, hxy⟩
      exact .cons ((ih y).mp hy) (of_decide_eq_true hxy) (by omega)
    · intro h
      cases h with
      | @cons _ _ y hb hy hz => exact ⟨⟨by omega, hd x y hy⟩, y, (ih y).mpr hb, decide_eq_true hy⟩
theorem bk_close {n : Nat} {fl : Int → List Int} {z : Int} {size : Nat} (hd : ∀ x y, y ∈ fl x → x < n) (hz : z < n) (hs : 1 ≤ size) : z ∈ bkL n fl z size size ↔ ∃ y, Bw fl z (size - 1) y ∧ y ∈ fl z := by
  obtain ⟨t, rfl⟩ : ∃ t, size = t + 1 := ⟨size - 1, by omega⟩
  show z ∈ (rgF (z + (if t + 1 < t + 1 then 1 else 0)) n).filter _ ↔ _
  rw [List.mem_filter, if_neg (Nat.lt_irrefl _), rgF_mem, List.any_eq_true]
  constructor
  · rintro ⟨_, y, hy, hzy⟩
    exact ⟨y, (bk_mem hd t (by omega) y).mp hy, of_decide_eq_true hzy⟩
  · rintro ⟨y, hb, hy⟩
    exact ⟨⟨by omega, hz⟩, y, (bk_mem hd t (by omega) y).mpr hb, decide_eq_true hy⟩
theorem closed_behind {fl : Int → List Int} {z : Int} {k : Nat} {w : List Int} {v : Int} (hk : 1 ≤ k) (h : Wk fl z k w v) (hz : z ∈ fl v) : ∃ y, Bw fl z k y ∧ y ∈ fl z := by
  have hv : z < v := by
    cases h with
    | nil => omega
    | snoc _ _ h3 => exact h3
  obtain ⟨x, ex, hx⟩ := h.behind (t := 1) (.cons .nil hz hv) 1 hk (.inr (.inr trivial))
  obtain ⟨a, b, ea, eb, hab⟩ := h.arc 0 (by omega)
  rw [h.first] at ea
  have e1 := Option.some.inj ea
  subst e1
  rw [eb] at ex
  have e2 := Option.some.inj ex
  subst e2
  have := hx (Nat.le_refl _)
  rw [show 1 + (k - 1) = k by omega] at this
  exact ⟨b, this, hab⟩
/-- the answer of ring_of and the law's are one -/
structure DueAt (n : Nat) (fl : Int → List Int) (k z : Nat) (p : List Int) : Prop where
  k2 : 2 ≤ k
  kn : k < n
  zn : z < n
  wk : ∃ v, Wk fl (z : Int) k p v ∧ (z : Int) ∈ fl v
  le : ∀ w u, Wk fl (z : Int) k w u → (z : Int) ∈ fl u → p ≤ w
  no : ∀ k' z' : Nat, 2 ≤ k' → z' < n → (k' < k ∨ (k' = k ∧ z' < z)) → ∀ w v, Wk fl (z' : Int) k' w v → (z' : Int) ∉ fl v
theorem ring_none {n : Nat} {rs : List (List Int)} (h : ∀ z : Nat, z < n → RingAt (flw n rs) (z : Int) none) {k z : Nat} {p : List Int} (hd : DueAt n (flw n rs) k z p) : False := by
  obtain ⟨v, h1, h2⟩ := hd.wk
  exact h z hd.zn k p v h1 h2
theorem ring_due {n : Nat} {rs : List (List Int)} {z0 : Nat} {q : List Int} (hz0 : z0 < n) (hq : RingAt (flw n rs) (z0 : Int) (some q)) (hql : q.length ≤ n) (hm : ∀ z' : Nat, z' < n → ∀ p', RingAt (flw n rs) (z' : Int) (some p') → q.length < p'.length ∨ (q.length = p'.length ∧ z0 ≤ z'))
    (hall : ∀ z : Nat, z < n → RingAt (flw n rs) (z : Int) none ∨ ∃ p, RingAt (flw n rs) (z : Int) (some p)) : (∀ {k z : Nat} {p : List Int}, DueAt n (flw n rs) k z p → p = q) ∧ ¬ ∀ k z : Nat, 2 ≤ k → k < n → z < n → ∀ w v, Wk (flw n rs) (z : Int) k w v → (z : Int) ∉ flw n rs v := by
  have hq' := hq
  obtain ⟨k0, v0, w0, c0, n0, l0⟩ := hq'
  have lq := w0.len
  have hk2 : 2 ≤ k0 := by
    by_cases c : k0 < 2
    · exact absurd c0 (no_short c w0)
    · omega
  refine ⟨fun {k z p} hd => ?_, fun hno => hno k0 z0 hk2 (by omega) hz0 q v0 w0 c0⟩
  obtain ⟨v, h1, h2⟩ := hd.wk
  -- the ring from z is no longer than p, the best no longer than that
  obtain ⟨p2, hp2⟩ : ∃ p2, RingAt (flw n rs) (z : Int) (some p2) := by
    rcases hall z hd.zn with h | h
    · exact absurd h2 (h k p v h1)
    · exact h
  have hp2' := hp2
  obtain ⟨k2, v2, w2, c2, n2, l2⟩ := hp2'
  have lp2 := w2.len
  have hk : k2 ≤ k := by
    by_cases c : k < k2
    · exact absurd h2 (n2 k c p v h1)
    · omega
  have hle : k0 ≤ k2 ∧ (k0 = k2 → z0 ≤ z) := by
    rcases hm z hd.zn p2 hp2 with h | h
    · exact ⟨by omega, fun e => by omega⟩
    · exact ⟨by omega, fun _ => h.2⟩
  have hno := hd.no k0 z0 hk2 hz0
  have hk3 : k0 = k ∧ z0 = z := by
    by_cases c1 : k0 < k
    · exact absurd c0 (hno (.inl c1) q v0 w0)
    · have e : k0 = k := by omega
      by_cases c2 : z0 < z
      · exact absurd c0 (hno (.inr ⟨e, c2⟩) q v0 w0)
      · have := hle.2 (by omega)
        exact ⟨e, by omega⟩
  obtain ⟨rfl, rfl⟩ := hk3
  exact List.le_antisymm (hd.le q v0 w0 c0) (l0 p v h1 h2)
end Fo
namespace Fo
open PySem PySem.Spec PyProof.Rows L2
def DL (H : Hp) : List Addr → List (List Int) → Prop
  | [], [] => True
  | d :: ds, r :: rs => (∃ kvs, H d = some (.dK kvs) ∧ PlD kvs r) ∧ DL H ds rs
  | _, _ => False
theorem DL.keep {H H' : Hp} : ∀ {as : List Addr} {rs : List (List Int)}, DL H as rs → (∀ a ∈ as, ∀ o, H a = some o → H' a = some o) → DL H' as rs
  | [], [], _, _ => trivial
  | [], _ :: _, h, _ => h.elim
  | _ :: _, [], h, _ => h.elim
  | a :: as, r :: rs, h, k => by
    obtain ⟨⟨kvs, e, hp⟩, h2⟩ := h
    exact ⟨⟨kvs, k a List.mem_cons_self _ e, hp⟩, DL.keep h2 fun b hb => k b (List.mem_cons_of_mem _ hb)⟩
theorem DL.same {H H' : Hp} {as : List Addr} {rs : List (List Int)} (h : DL H as rs) (s : Same H H') : DL H' as rs := h.keep fun a _ o e => s a o e
theorem DL.len {H : Hp} : ∀ {as : List Addr} {rs : List (List Int)}, DL H as rs → as.length = rs.length
  | [], [], _ => rfl
  | [], _ :: _, h => h.elim
  | _ :: _, [], h => h.elim
  | a :: as, r :: rs, h => by rw [List.length_cons, List.length_cons, DL.len h.2]
theorem DL.get {H : Hp} : ∀ {as : List Addr} {rs : List (List Int)} {i : Nat} {a : Addr}, DL H as rs → as[i]? = some a → ∃ r kvs, rs[i]? = some r ∧ H a = some (.dK kvs) ∧ PlD kvs r
  | [], [], _, _, _, e => by simp at e
  | [], _ :: _, _, _, h, _ => h.elim
  | _ :: _, [], _, _, h, _ => h.elim
  | a :: as, r :: rs, 0, b, h, e => by
    have e2 : a = b := Option.some.inj e
    subst e2
    obtain ⟨kvs, e, hp⟩ := h.1
    exact ⟨r, kvs, rfl, e, hp⟩
  | a :: as, r :: rs, i + 1, b, h, e => DL.get (i := i) h.2 e
theorem DL.snoc {H : Hp} : ∀ {as : List Addr} {rs : List (List Int)} {a : Addr} {r : List Int} {kvs : List (Key × V)}, DL H as rs → H a = some (.dK kvs) → PlD kvs r → DL H (as ++ [a]) (rs ++ [r])
  | [], [], _, _, kvs, _, e, hp => ⟨⟨kvs, e, hp⟩, trivial⟩
  | [], _ :: _, _, _, _, h, _, _ => h.elim
  | _ :: _, [], _, _, _, h, _, _ => h.elim
  | _ :: _, _ :: _, _, _, _, h, e, hp => ⟨h.1, DL.snoc h.2 e hp⟩
def spAheadD : Sp := fun vs H Q _ => ∃ (l : Addr) (as : List Addr) (rs : List (List Int)) (n : Nat), vs = [.ref l] ∧ OL H l as rs n ∧ 1 ≤ rs.length ∧ rs.length ≤ 20 ∧ ∀ (cd : Addr) (kvs : List (List Key × V)) (H' : Hp), H' cd = some (.dT kvs) → (∀ i j : Nat, i < n → j < n → valV kvs [Sum.inl (i : Int), Sum.inl (j : Int)] = some (.int (aN rs (i : Int) (j : Int)))) → Same H H' → Q (.ref cd) H'
def spBack : Sp := fun vs H Q _ => ∃ (lf : Addr) (fs : List Addr) (n z size : Nat) (rs : List (List Int)), vs = [.ref lf, .int z, .int size] ∧ H lf = some (.lst (fs.map V.ref)) ∧ LL H fs (flM n rs) ∧ z < n ∧ n ≤ 12 ∧ size ≤ n ∧ ∀ (l' : Addr) (as' : List Addr) (H' : Hp), H' l' = some (.lst (as'.map V.ref)) → LL H' as' ((List.range (size + 1)).map (bkL n (flw n rs) (z : Int) size)) → Same H H' → Q (.ref l') H'
def spDue : Sp := fun vs H Q _ => ∃ (l : Addr) (as : List Addr) (rs : List (List Int)) (n : Nat), vs = [.ref l] ∧ OL H l as rs n ∧ 1 ≤ rs.length ∧ rs.length ≤ 20 ∧ n ≤ 9 ∧
  (∀ H', (∀ k z : Nat, 2 ≤ k → k < n → z < n → ∀ w v, Wk (flw n rs) (z : Int) k w v → (z : Int) ∉ flw n rs v) → Same H H' → Q .non H') ∧ (∀ (g : Addr) (p : List Int) (k z : Nat) (H' : Hp), H' g = some (.lst (p.map V.int)) → DueAt n (flw n rs) k z p → Same H H' → Q (.ref g) H')
theorem bkL_len (n : Nat) (fl : Int → List Int) (z : Int) (size : Nat) (hz : 0 ≤ z) (hn : 1 ≤ n) : ∀ t, (bkL n fl z size t).length ≤ n
  | 0 => hn
  | t + 1 => by
    refine Nat.le_trans (List.length_filter_le _ _) ?_
    unfold rgF
    rw [List.length_map, List.length_range]
    split <;> omega
theorem any_filter {l : List Int} {p : Int → Bool} : (l.any p = true) ↔ l.filter p ≠ [] := by
  rw [List.any_eq_true]
  constructor
  · rintro ⟨x, hx, h⟩ e
    have := List.mem_filter.mpr ⟨hx, h⟩
    rw [e] at this
    exact absurd this List.not_mem_nil
  · intro h
    obtain ⟨x, hx⟩ := List.exists_mem_of_ne_nil _ h
    obtain ⟨h1, h2⟩ := List.mem_filter.mp hx
    exact ⟨x, h1, h2⟩
section
variable {P : Program} {w : World} {K : PySem.W.Frag} {mg : Str → Option Value} {base : Heap}
theorem scAheadD : FnScope ["poll", "some", "found", "one", "other", "order", "places"] ["poll"] (defScope s_law_ahead) := ⟨rfl, rfl, rfl, by decide +kernel, rfl, by decide +kernel, by decide +kernel⟩
set_option maxHeartbeats 4000000 in
theorem ok_aheadD {f f1 : Addr} {fd d1 : FuncData} {k : Nat} (T : Df K mg "_law_ahead" s_law_ahead ["poll"] f fd) (T__law_places : Df K mg "_law_places" s_law_places ["order"] f1 d1) (G__law_places : FnOk P w K mg base CX0 k f1 d1 ["order"] spPlD) (B : Bi mg) : FnOk P w K mg base CX0 (k + 1) f fd ["poll"] spAheadD := by
  refine T.F.ok scAheadD (fun vs H Q E h => ?_) (fun cdv A outer s H vs Q E hr h => ?_)
  · obtain ⟨l, as, rs, n, rfl, _⟩ := h
    rfl
  · obtain ⟨l, as, rs, n, rfl, hO, h1, h2, q⟩ := h
    have hal := hO.ll.len
    have hn2 := hO.n2
    refine ⟨_, 
      (pss_cons (ps_setLc (i := 1) (own := [("order", 5)]) (g := (gName 5)) (tt := tYes) (te := (tCall spPlD [] E0 (tCons (tVar 5) tNil))) (by rfl) scAheadD.nd rfl rfl (sw_true rfl rfl rfl (by decide +kernel)) (pi_list (pv 0)) (blkOk_by (N := ["poll", "some", "found", "one", "other", "order", "places"]) (sc := defScope s_law_ahead) (by decide +kernel)) (fun _ _ _ _ _ => (pg_name (i := 5) scAheadD.nd rfl (.inl rfl))) (fun _ _ _ _ _ => pts_nil) (fun _ _ _ _ _ => (pe_call G__law_places hr (by rfl) T__law_places.g T__law_places.F.kp T__law_places.b .nil pass0 (pa_cons (pv 5) pa_nil))))
      (pss_cons (ps_set (i := 2) scAheadD.nd rfl (.inl rfl) pe_dnewT)
      (pss_cons (ps_for PassesOwn.never rfl (pi_range1 (by rfl) B.range (pa_cons (pe_callB call_len_seq (by rfl) B.len PySem.boot_len (pa_cons (pe_ix ix_list (pv 0) pe_int (fun _ _ => rfl)) pa_nil)) pa_nil)) (pg_name (i := 3) scAheadD.nd rfl (.inr rfl))
        (pss_one (ps_for PassesOwn.never rfl (pi_range1 (by rfl) B.range (pa_cons (pe_callB call_len_seq (by rfl) B.len PySem.boot_len (pa_cons (pe_ix ix_list (pv 0) pe_int (fun _ _ => rfl)) pa_nil)) pa_nil)) (pg_name (i := 4) scAheadD.nd rfl (.inr rfl))
          (pss_one (ps_dput (hu_of hr) (pv 2) (pe_tup (pa_cons (pv 3) (pa_cons (pv 4) pa_nil))) (pe_callB call_len_seq (by rfl) B.len PySem.boot_len (pa_cons (pe_lc (own := [("places", 6)]) (g := (gName 6)) (tt := (tTest (tOp (rI0 fun i j => .bl (decide (i < j))) (tDGet (tVar 6) (tVar 3)) (tDGet (tVar 6) (tVar 4))))) (te := (tC (.int 1))) rfl scAheadD.nd (pi_list (pv 1)) (blkOk_by (N := ["poll", "some", "found", "one", "other", "order", "places"]) (sc := defScope s_law_ahead) (by decide +kernel)) (fun _ _ _ _ _ => (pg_name (i := 6) scAheadD.nd rfl (.inl rfl))) (fun _ _ _ _ _ => (pts_one (pt_cmpR op_lt (pe_dget (hu_of hr) (pv 6) (pv 3) (fun _ _ => rfl)) (pe_dget (hu_of hr) (pv 6) (pv 4) (fun _ _ => rfl)) (nomark _)))) (fun _ _ _ _ _ => pe_int)) pa_nil)) (by rfl))))))
      (pss_one (ps_ret (pv 2)))))), ?_⟩
    obtain ⟨a0, ea0⟩ : ∃ a0, as[0]? = some a0 := ⟨as[0]'(by omega), List.getElem?_eq_getElem (by omega)⟩
    obtain ⟨r0, er0, ha0⟩ := hO.ll.get ea0
    have lr0 : (r0.map V.int).length = n := by rw [List.length_map]; exact (hO.ord r0 (List.mem_of_getElem? er0)).len
    have na0 : ∀ {b : Addr}, H b = none → a0 ≠ b := fun h => ne_of_none ha0 h
    -- some
    refine ⟨_, rfl, l, rfl, ⟨_, SqL.of hO.top⟩, fun D nD => ?_⟩
    refine lc_list (K := K) (a := l) (xs := as.map V.ref) (fun i H3 => ∃ (bs : List Addr), H3 D = some (.lst (bs.map V.ref)) ∧ DL H3 bs (rs.take i) ∧ D ∉ bs ∧ Same H H3) ⟨[], upd_same, trivial, List.not_mem_nil, same_new nD⟩ (fun i H3 _ hP => by obtain ⟨_, _, _, _, sm⟩ := hP; exact SqL.of (sm _ _ hO.top)) (fun i x H3 hx hP => ?_) (fun H1 hP => ?_)
    · obtain ⟨a, ea, rfl⟩ := ref_at_inv hx
      obtain ⟨bs, hD3, hL3, nDb, sm⟩ := hP
      obtain ⟨r, er, ha⟩ := (hO.ll.same sm).get ea
      have hbl := hL3.len
      rw [List.length_take] at hbl
      refine ⟨rfl, _, rfl, a, n, r, rfl, ha, hO.ord r (List.mem_of_getElem? er), hn2, fun c kvs H4 nc hc hpl s4 => ?_⟩
      have ncD : c ≠ D := fun e => by rw [e, hD3] at nc; cases nc
      refine ⟨_, s4 _ _ hD3, line_lt (by rw [List.length_map]; omega), bs ++ [c], by rw [upd_same, List.map_append]; rfl, ?_, fun hu => ?_, fun b o e => ?_⟩
      · rw [take_more' er]
        refine DL.snoc ((hL3.same s4).keep fun u hu o e => ?_) ?_ hpl
        · rw [upd_ne (fun q => nDb (by rw [← q]; exact hu))]
          exact e
        · rw [upd_ne ncD]
          exact hc
      · rcases List.mem_append.mp hu with h | h
        · exact nDb h
        · exact ncD (List.mem_singleton.mp h).symm
      · rw [upd_ne (ne_of_none e nD)]
        exact s4 _ _ (sm _ _ e)
    obtain ⟨bs, hD1, hL1, nDb, s1⟩ := hP
    rw [List.take_of_length_le (by rw [List.length_map]; omega)] at hL1
    have hO1 := hO.same s1
    have hbl := hL1.len
    have ha1 := s1 _ _ ha0
    -- found = {}
    intro cd ncd
    have s2 := same_new (o := .dT []) ncd
    have nHcd : H cd = none := s1.free ncd
    have nlcd : l ≠ cd := ne_of_none hO.top nHcd
    have nacd : a0 ≠ cd := na0 nHcd
    have nDcd : D ≠ cd := fun e => by rw [e, ncd] at hD1; cases hD1
    refine ⟨_, rfl, l, _, 0, _, rfl, rfl, SqL.of (s2 _ _ hO1.top), at_of (j := 0) rfl (ref_at ea0), a0, _, rfl, .inl (SqL.of (s2 _ _ ha1)), _, rfl, by omega, by rw [lr0]; omega, ?_⟩
    rw [lr0, Int.toNat_natCast]
    refine for_range (n := n) (fun i σ G => ∃ (y3 y4 : Option V) (kvs : List (List Key × V)), σ = [some (.ref l), some (.ref D), some (.ref cd), y3, y4, none, none] ∧ G cd = some (.dT kvs) ∧ kvs.length ≤ i * n ∧ (∀ u j : Nat, u < i → j < n → valV kvs [Sum.inl (u : Int), Sum.inl (j : Int)] = some (.int (aN rs (u : Int) (j : Int)))) ∧ KeepD cd H1 G)
      ⟨_, _, [], rfl, upd_same, Nat.zero_le _, fun u j h => absurd h (Nat.not_lt_zero _), KeepD.of_same s2⟩ (fun i σ G hi hP => ?_) (fun σ G hP => ?_)
    · obtain ⟨y3, y4, kvs, rfl, hcd, hkl, hkv, kG⟩ := hP
      rw [show (0 : Int) + (i : Int) = (i : Int) by omega]
      refine ⟨_, rfl, l, _, 0, _, rfl, rfl, SqL.of (kG _ _ hO1.top nlcd), at_of (j := 0) rfl (ref_at ea0), a0, _, rfl, .inl (SqL.of (kG _ _ ha1 nacd)), _, rfl, by omega, by rw [lr0]; omega, ?_⟩
      rw [lr0, Int.toNat_natCast]
      refine for_range (n := n) (fun j σ G2 => ∃ (y4 : Option V) (kvs : List (List Key × V)), σ = [some (.ref l), some (.ref D), some (.ref cd), some (.int (i : Int)), y4, none, none] ∧ G2 cd = some (.dT kvs) ∧ kvs.length ≤ i * n + j ∧ (∀ u v : Nat, v < n → (u < i ∨ (u = i ∧ v < j)) → valV kvs [Sum.inl (u : Int), Sum.inl (v : Int)] = some (.int (aN rs (u : Int) (v : Int)))) ∧ KeepD cd H1 G2)
        ⟨_, kvs, rfl, hcd, by omega, fun u v hv h => by
          rcases h with h | h
          · exact hkv u v h hv
          · exact absurd h.2 (Nat.not_lt_zero _), kG⟩ (fun j σ G2 hj hP => ?_) (fun σ G2 hP => ?_)
      · obtain ⟨y4, kvs2, rfl, hcd2, hkl2, hkv2, kG2⟩ := hP
        rw [show (0 : Int) + (j : Int) = (j : Int) by omega]
        have hD2 := kG2 D _ hD1 nDcd
        have hDL2 : DL G2 bs rs := hL1.keep fun a ha o e => kG2 a o e (fun q => by rw [q, ncd] at e; cases e)
        have hin : i * n + j < 16777216 := by
          have : i * n ≤ 12 * 12 := Nat.mul_le_mul (by omega) hn2
          omega
        refine ⟨_, rfl, D, rfl, ⟨_, SqL.of hD2⟩, fun D3 nD3 => ?_⟩
        refine lc_list (K := K) (a := D) (xs := bs.map V.ref) (fun m G3 => ∃ ds : List V, G3 D3 = some (.lst ds) ∧ ds.length = ((rs.take m).filter fun r => decide (pos r (i : Int) < pos r (j : Int))).length ∧ Same G2 G3) ⟨[], upd_same, rfl, same_new nD3⟩ (fun m G3 _ hP => by obtain ⟨_, _, _, sm⟩ := hP; exact SqL.of (sm _ _ hD2)) (fun m x G3 hx hP => ?_) (fun G3 hP => ?_)
        · obtain ⟨a, ea, rfl⟩ := ref_at_inv hx
          obtain ⟨ds, hD3, hdl, sm3⟩ := hP
          obtain ⟨r, kv, er, ha, hpl⟩ := (hDL2.same sm3).get ea
          have hm := (List.getElem?_eq_some_iff.mp ea).1
          have orr := hO.ord r (List.mem_of_getElem? er)
          have gj := DGet.k (k := Sum.inl (j : Int)) ha
          rw [hpl (j : Int) ((List.Perm.mem_iff orr).mpr (rg_mem.mpr ⟨by omega, by omega⟩))] at gj
          have gi := DGet.k (k := Sum.inl (i : Int)) ha
          rw [hpl (i : Int) ((List.Perm.mem_iff orr).mpr (rg_mem.mpr ⟨by omega, by omega⟩))] at gi
          have hfl : ((rs.take m).filter fun r => decide (pos r (i : Int) < pos r (j : Int))).length ≤ m := Nat.le_trans (List.length_filter_le _ _) (by rw [List.length_take]; omega)
          refine ⟨rfl, _, rfl, _, rfl, a, _, rfl, gi, _, rfl, _, rfl, a, _, rfl, gj, _, _, rfl, rfl, _, rfl, ite2 (fun cc => ?_) (fun cc => ?_)⟩
          · have hlt : pos r (i : Int) < pos r (j : Int) := of_decide_eq_true cc
            refine ⟨_, hD3, line_lt (by omega), ds ++ [.int 1], upd_same, ?_, fun b o e => ?_⟩
            · rw [filter_more' _ er, decide_eq_true hlt, if_pos rfl, List.length_append, List.length_append, hdl]
              rfl
            · rw [upd_ne (ne_of_none e nD3)]
              exact sm3 _ _ e
          · refine ⟨ds, hD3, ?_, sm3⟩
            rw [filter_more' _ er, decide_eq_false (fun hz => cc (decide_eq_true hz)), if_neg (by decide), List.append_nil]
            exact hdl
        · obtain ⟨ds, hD3, hdl, sm3⟩ := hP
          rw [List.length_map, hbl, List.take_length] at hdl
          refine ⟨D3, _, rfl, .inl (SqL.of hD3), _, rfl, _, rfl, _, rfl, line_small (by show 2 ≤ 16777216; decide), fun tk ntk => ?_⟩
          have ex : ((ds.length : Nat) : Int) = aN rs (i : Int) (j : Int) := by rw [hdl]; rfl
          refine ⟨cd, _, rfl, DPut.t (k := [Sum.inl (i : Int), Sum.inl (j : Int)]) (same_new ntk _ _ (sm3 _ _ hcd2)) upd_same (line_lt (by omega)), ?_⟩
          rw [ex]
          refine ⟨_, _, rfl, upd_same, Nat.le_trans (length_putK _ _ _) (by omega), fun u v hv h => ?_, fun b o e nb => ?_⟩
          · rw [valV_put]
            by_cases c : [(Sum.inl (u : Int) : Key), Sum.inl (v : Int)] = [Sum.inl (i : Int), Sum.inl (j : Int)]
            · rw [if_pos c]
              have c1 := List.head_eq_of_cons_eq c
              have c2 := List.head_eq_of_cons_eq (List.tail_eq_of_cons_eq c)
              have e1 : (u : Int) = (i : Int) := Sum.inl.inj c1
              have e2 : (v : Int) = (j : Int) := Sum.inl.inj c2
              rw [e1, e2]
            · rw [if_neg c]
              refine hkv2 u v hv ?_
              rcases h with h | h
              · exact .inl h
              · by_cases d : v = j
                · exact absurd (by rw [h.1, d]) c
                · exact .inr ⟨h.1, by omega⟩
          · rw [upd_ne nb]
            exact same_new ntk _ _ (sm3 _ _ (kG2 b o e nb))
      · obtain ⟨y4, kvs2, rfl, hcd2, hkl2, hkv2, kG2⟩ := hP
        refine ⟨_, y4, kvs2, rfl, hcd2, by rw [Nat.add_mul]; omega, fun u j hu hj => hkv2 u j hj ?_, kG2⟩
        by_cases c : u < i
        · exact .inl c
        · exact .inr ⟨by omega, hj⟩
    · obtain ⟨y3, y4, kvs, rfl, hcd, hkl, hkv, kG⟩ := hP
      exact ⟨_, rfl, q cd kvs G hcd hkv fun b o e => kG b o (s1 _ _ e) (ne_of_none e nHcd)⟩
theorem scBack : FnScope ["above", "thing", "size", "found", "turn", "least", "one", "two"] ["above", "thing", "size"] (defScope s_law_back) := ⟨rfl, rfl, rfl, by decide +kernel, rfl, by decide +kernel, by decide +kernel⟩
set_option maxHeartbeats 4000000 in
theorem ok_backL {f : Addr} {fd : FuncData} {k : Nat} (T : Df K mg "_law_back" s_law_back ["above", "thing", "size"] f fd) (B : Bi mg) : FnOk P w K mg base CX0 (k + 1) f fd ["above", "thing", "size"] spBack := by
  refine T.F.ok scBack (fun vs H Q E h => ?_) (fun cdv A outer s H vs Q E hr h => ?_)
  · obtain ⟨lf, fs, n, z, size, rs, rfl, _⟩ := h
    rfl
  · obtain ⟨lf, fs, n, z, size, rs, rfl, hlf, hLf, hz, hn, hsz, q⟩ := h
    have hfl := hLf.len
    rw [flM_len] at hfl
    have hfm : (fs.map V.ref).length = n := by rw [List.length_map, hfl]
    refine ⟨_, 
      (pss_cons (ps_set (i := 3) scBack.nd rfl (.inr rfl) (pe_lst (pa_cons (pe_lst (pa_cons (pv 1) pa_nil)) pa_nil)))
      (pss_cons (ps_for PassesOwn.never rfl (pi_range1 (by rfl) B.range (pa_cons (pv 2) pa_nil)) (pg_name (i := 4) scBack.nd rfl (.inl rfl))
        (pss_cons (ps_set (i := 5) scBack.nd rfl (.inl rfl) (pe_op op_add (pv 1) (pe_callTy call_int1 (by rfl) B.int (by decide +kernel) (pa_cons (pe_cmpR op_lt (pe_op op_add (pv 4) pe_int) (pv 2) (nomark _)) pa_nil))))
        (pss_one (ps_expr (pe_bm PySem.F.plainAttrs_list PySem.F.slot_list_append PySem.F.type_list_append mt_append (pv 3) (pa_cons (pe_lc (own := [("one", 6)]) (g := (gName 6)) (tt := (tTest (tOp (rNeD K) (tLc (iList K (tOp (rIxL K) (tVar 3) (tUn (rU fun i => .int (-i)) (tC (.int 1))))) (gName 7) (tTest (tOp (rIn K false) (tVar 7) (tOp (rIxL K) (tVar 0) (tVar 6)))) (tVar 7) [7]) (tLst tNil)))) (te := (tVar 6)) rfl scBack.nd (pi_range2 (by rfl) B.range (pa_cons (pv 5) (pa_cons (pe_callB call_len_seq (by rfl) B.len PySem.boot_len (pa_cons (pv 0) pa_nil)) pa_nil))) (blkOk_by (N := ["above", "thing", "size", "found", "turn", "least", "one", "two"]) (sc := defScope s_law_back) (by decide +kernel)) (fun _ _ _ _ _ => (pg_name (i := 6) scBack.nd rfl (.inr rfl))) (fun _ _ _ _ _ => (pts_one (pt_cmpR (op_neD hr.units) (pe_lc (own := [("two", 7)]) (g := (gName 7)) (tt := (tTest (tOp (rIn K false) (tVar 7) (tOp (rIxL K) (tVar 0) (tVar 6))))) (te := (tVar 7)) rfl scBack.nd (pi_list (pe_ix ix_list (pv 3) (pe_un un_neg pe_int) (fun _ _ => rfl))) (blkOk_by (N := ["above", "thing", "size", "found", "turn", "least", "one", "two"]) (by rfl)) (fun _ _ _ _ _ => (pg_name (i := 7) scBack.nd rfl (.inl rfl))) (fun _ _ _ _ _ => (pts_one (pt_cmpR op_in_seq (pv 7) (pe_ix ix_list (pv 0) (pv 6) (fun _ _ => rfl)) (by rfl)))) (fun _ _ _ _ _ => (pv 7))) (pe_lst pa_nil) (nomark _)))) (fun _ _ _ _ _ => (pv 6))) pa_nil))))))
      (pss_one (ps_ret (pv 3))))), ?_⟩
    refine ⟨_, rfl, line_small (by show 1 ≤ 16777216; decide), fun e1 ne1 => ⟨line_small (by show 1 ≤ 16777216; decide), fun lg nlg => ?_⟩⟩
    have s1 := (same_new (o := .lst [.int (z : Int)]) ne1).trans (same_new (o := .lst [.ref e1]) nlg)
    have he1 := same_new (o := .lst [.ref e1]) nlg e1 (.lst [.int (z : Int)]) upd_same
    have hlg : (upd (upd H e1 (.lst [.int (z : Int)])) lg (.lst [.ref e1])) lg = _ := upd_same
    have nHlg : H lg = none := (same_new (o := .lst [.int (z : Int)]) ne1).free nlg
    have nel : e1 ≠ lg := fun e => by rw [e, upd_same] at nlg; cases nlg
    generalize upd (upd H e1 (.lst [.int (z : Int)])) lg (.lst [.ref e1]) = H1 at s1 he1 hlg ⊢
    refine ⟨_, rfl, size, rfl, by omega, by omega, ?_⟩
    rw [Int.toNat_natCast]
    refine for_range (n := size) (fun i σ G => ∃ (y4 y5 : Option V) (cs : List Addr), σ = [some (.ref lf), some (.int (z : Int)), some (.int (size : Int)), some (.ref lg), y4, y5, none, none] ∧ G lg = some (.lst (cs.map V.ref)) ∧ LL G cs ((List.range (i + 1)).map (bkL n (flw n rs) (z : Int) size)) ∧ lg ∉ cs ∧ Same H G)
      ⟨_, _, [e1], rfl, hlg, ⟨he1, trivial⟩, fun h => nel (List.mem_singleton.mp h).symm, s1⟩ (fun i σ G hi hP => ?_) (fun σ G hP => ?_)
    · obtain ⟨y4, y5, cs, rfl, hlgG, hLc, ncs, sG⟩ := hP
      have hcl := hLc.len
      rw [List.length_map, List.length_range] at hcl
      rw [show (0 : Int) + (i : Int) = (i : Int) by omega]
      refine ⟨_, rfl, _, rfl, (i : Int), 1, rfl, rfl, _, rfl, _, _, rfl, rfl, .inr ⟨_, rfl, (z : Int), _, rfl, rfl, ?_⟩⟩
      obtain ⟨lo, elo, hlo⟩ : ∃ lo : Nat, (z : Int) + (if decide ((i : Int) + 1 < (size : Int)) = true then 1 else 0) = (lo : Int) ∧ (lo : Int) = (z : Int) + (if i + 1 < size then 1 else 0) := by
        by_cases c : i + 1 < size
        · rw [decide_eq_true (by omega), if_pos rfl, if_pos c]
          exact ⟨z + 1, by omega, by omega⟩
        · rw [decide_eq_false (by omega), if_neg (by decide), if_neg c]
          exact ⟨z, by omega, by omega⟩
      show gName 5 (V.int ((z : Int) + (if decide ((i : Int) + 1 < (size : Int)) = true then 1 else 0))) _ _ _
      rw [elo]
      refine ⟨_, rfl, .inl ⟨rfl, _, SqL.of hlgG⟩, ?_⟩
      refine ⟨_, rfl, _, rfl, lf, _, rfl, .inl (SqL.of (sG _ _ hlf)), _, _, rfl, ⟨by omega, by omega, by omega, by rw [hfm]; omega⟩, fun D nD => ?_⟩
      rw [hfm]
      -- the last row so far
      obtain ⟨c, ec⟩ : ∃ c, cs[i]? = some c := ⟨cs[i]'(by omega), List.getElem?_eq_getElem (by omega)⟩
      obtain ⟨bt, ebt, hc⟩ := hLc.get ec
      rw [List.getElem?_map, List.getElem?_range (by omega)] at ebt
      have ebt2 : bkL n (flw n rs) (z : Int) size i = bt := Option.some.inj ebt
      subst ebt2
      have eix : atI (cs.map V.ref) (-1) = some (V.ref c) := by
        unfold atI ixN
        rw [List.length_map, hcl, if_neg (by omega), if_pos (by omega)]
        show (cs.map V.ref)[(-1 + ((i + 1 : Nat) : Int)).toNat]? = _
        rw [show (-1 + ((i + 1 : Nat) : Int)).toNat = i by omega]
        exact ref_at ec
      have hbl := bkL_len n (flw n rs) (z : Int) size (by omega) (by omega) i
      have nlD : lg ≠ D := ne_of_none hlgG nD
      let pr : Int → Bool := fun x => (bkL n (flw n rs) (z : Int) size i).any fun y => decide (y ∈ flw n rs x)
      refine lc_range (lo := (lo : Int)) (n := ((n : Int) - (lo : Int)).toNat) (fun j G2 => G2 D = some (.lst ((((List.range j).map fun u => (lo : Int) + ((u : Nat) : Int)).filter pr).map V.int)) ∧ Same G G2) ⟨upd_same, same_new nD⟩ (fun j G2 hj hP => ?_) (fun G2 hP => ?_)
      · obtain ⟨hD2, s2⟩ := hP
        obtain ⟨xn, hxn⟩ : ∃ xn : Nat, (lo : Int) + (j : Int) = (xn : Int) := ⟨lo + j, by omega⟩
        have hxl : xn < n := by omega
        obtain ⟨b, eb⟩ : ∃ b, fs[xn]? = some b := ⟨fs[xn]'(by omega), List.getElem?_eq_getElem (by omega)⟩
        obtain ⟨fr, efr, hb0⟩ := hLf.get eb
        rw [flM_at hxl] at efr
        have efr2 := Option.some.inj efr
        subst efr2
        have sHG2 := sG.trans s2
        have hlg2 := s2 _ _ hlgG
        have hc2 := s2 _ _ hc
        refine ⟨rfl, _, rfl, 1, rfl, lg, _, _, _, rfl, rfl, SqL.of hlg2, eix, c, rfl, ⟨_, SqL.of hc2⟩, fun D3 nD3 => ?_⟩
        refine lc_list (K := K) (a := c) (xs := (bkL n (flw n rs) (z : Int) size i).map V.int) (fun m G3 => G3 D3 = some (.lst ((((bkL n (flw n rs) (z : Int) size i).take m).filter fun y => decide (y ∈ flw n rs (xn : Int))).map V.int)) ∧ Same G2 G3) ⟨upd_same, same_new nD3⟩ (fun m G3 _ hP => SqL.of (hP.2 _ _ hc2)) (fun m x G3 hx hP => ?_) (fun G3 hP => ?_)
        · obtain ⟨hD3, s3⟩ := hP
          obtain ⟨y, ey, rfl⟩ := int_at_inv hx
          have hm := (List.getElem?_eq_some_iff.mp ey).1
          have sHG3 := sHG2.trans s3
          refine ⟨rfl, _, rfl, _, rfl, _, rfl, lf, _, _, _, rfl, rfl, SqL.of (sHG3 _ _ hlf), at_of (j := xn) hxn (ref_at eb), b, _, rfl, .inl (SqL.of (sHG3 _ _ hb0)), rfl, flat_ints _, _, rfl, ?_⟩
          show if inV (.int y) ((flw n rs (xn : Int)).map V.int) = true then _ else _
          rw [inV_int]
          by_cases cy : y ∈ flw n rs (xn : Int)
          · rw [decide_eq_true cy, if_pos rfl]
            refine ⟨_, rfl, _, hD3, line_lt (by rw [List.length_map]; exact Nat.lt_of_le_of_lt (List.length_filter_le _ _) (by rw [List.length_take]; omega)), ?_, fun b o e => ?_⟩
            · rw [upd_same, filter_more _ ey, decide_eq_true cy, if_pos rfl, List.map_append]
              rfl
            · rw [upd_ne (ne_of_none e nD3)]
              exact s3 _ _ e
          · rw [decide_eq_false cy, if_neg (by decide)]
            refine ⟨?_, s3⟩
            rw [filter_more _ ey, decide_eq_false cy, if_neg (by decide), List.append_nil]
            exact hD3
        · obtain ⟨hD3, s3⟩ := hP
          rw [List.length_map, List.take_length] at hD3
          refine ⟨line_small (by show 0 ≤ 16777216; decide), fun e0 ne0 => ?_⟩
          have s4 := s3.trans (same_new (o := .lst (([] : List Int).map V.int)) ne0)
          refine ⟨_, _, dp_list (same_new ne0 _ _ hD3), dp_list (ns := []) upd_same, shaped_list _, shaped_list _, _, rfl, ?_⟩
          rw [eqv_ints]
          have hD4 := s4 _ _ hD2
          have fm : ((List.range (j + 1)).map fun u => (lo : Int) + ((u : Nat) : Int)).filter pr = ((List.range j).map fun u => (lo : Int) + ((u : Nat) : Int)).filter pr ++ (if pr (xn : Int) then [(xn : Int)] else []) := by
            rw [List.range_succ, List.map_append, List.filter_append]
            show _ ++ List.filter pr [(lo : Int) + (j : Int)] = _
            rw [hxn, List.filter_cons]
            rfl
          by_cases cp : ((bkL n (flw n rs) (z : Int) size i).filter fun y => decide (y ∈ flw n rs (xn : Int))) = []
          · rw [decide_eq_true cp]
            have hpf : pr (xn : Int) = false := by
              cases hpv : pr (xn : Int) with
              | false => rfl
              | true => exact absurd cp (any_filter.mp hpv)
            refine iteF ⟨?_, s2.trans s4⟩
            rw [fm, hpf]
            show _ = some (HO.lst ((_ ++ []).map V.int))
            rw [List.append_nil]
            exact hD4
          · rw [decide_eq_false cp]
            have hpt : pr (xn : Int) = true := any_filter.mpr cp
            refine iteT ⟨_, rfl, _, hD4, line_lt (by rw [List.length_map]; exact Nat.lt_of_le_of_lt (List.length_filter_le _ _) (by rw [List.length_map, List.length_range]; omega)), ?_, fun b o e => ?_⟩
            · rw [upd_same, fm, hpt, if_pos rfl, List.map_append, hxn]
              rfl
            · rw [upd_ne (ne_of_none e nD)]
              exact s4 _ _ (s2 _ _ e)
      · obtain ⟨hD2, s2⟩ := hP
        have hlg2 := s2 _ _ hlgG
        refine ⟨lg, _, _, rfl, rfl, hlg2, line_lt (by rw [List.length_map]; omega), ?_⟩
        refine ⟨_, _, cs ++ [D], rfl, by rw [upd_same, List.map_append]; rfl, ?_, fun h => ?_, fun b o e => ?_⟩
        · rw [List.range_succ, List.map_append]
          refine LL.snoc ((hLc.same s2).keep fun u hu o e => ?_) ?_
          · rw [upd_ne (fun q => ncs (by rw [← q]; exact hu))]
            exact e
          · rw [upd_ne nlD.symm, hD2]
            show _ = some (HO.lst ((List.filter _ (rgF ((z : Int) + (if i + 1 < size then 1 else 0)) n)).map V.int))
            rw [← hlo]
            rfl
        · rcases List.mem_append.mp h with h | h
          · exact ncs h
          · exact nlD (List.mem_singleton.mp h)
        · rw [upd_ne (ne_of_none e nHlg)]
          exact s2 _ _ (sG _ _ e)
    · obtain ⟨y4, y5, cs, rfl, hlgG, hLc, ncs, sG⟩ := hP
      exact ⟨_, rfl, q lg cs G hlgG hLc sG⟩
end
end Fo
namespace Fo
open PySem PySem.Spec PyProof.Rows L2
theorem bw_first {fl : Int → List Int} {z : Int} {t : Nat} {x : Int} (h : Bw fl z (t + 1) x) : ∃ y, y ∈ fl x ∧ Bw fl z t y := by
  cases h with
  | cons h1 h2 _ => exact ⟨_, h2, h1⟩
theorem bw_zero {fl : Int → List Int} {z y : Int} (h : Bw fl z 0 y) : y = z := by
  cases h
  rfl
section
variable {P : Program} {w : World} {K : PySem.W.Frag} {mg : Str → Option Value} {base : Heap}
theorem scDue : FnScope ["poll", "ahead", "n", "above", "one", "size", "thing", "back", "ring", "left", "other"] ["poll"] (defScope s_law_due) := ⟨rfl, rfl, rfl, by decide +kernel, rfl, by decide +kernel, by decide +kernel⟩
set_option maxHeartbeats 4000000 in
theorem ok_due {f f1 f2 : Addr} {fd d1 d2 : FuncData} {k : Nat} (T : Df K mg "_law_due" s_law_due ["poll"] f fd) (T__law_ahead : Df K mg "_law_ahead" s_law_ahead ["poll"] f1 d1) (T__law_back : Df K mg "_law_back" s_law_back ["above", "thing", "size"] f2 d2) (G__law_ahead : FnOk P w K mg base CX0 k f1 d1 ["poll"] spAheadD) (G__law_back : FnOk P w K mg base CX0 k f2 d2 ["above", "thing", "size"] spBack) (B : Bi mg) : FnOk P w K mg base CX0 (k + 1) f fd ["poll"] spDue := by
  refine T.F.ok scDue (fun vs H Q E h => ?_) (fun cdv A outer s H vs Q E hr h => ?_)
  · obtain ⟨l, as, rs, n, rfl, _⟩ := h
    rfl
  · obtain ⟨l, as, rs, n, rfl, hO, h1, h2, hn9, q0, q1⟩ := h
    have hal := hO.ll.len
    have hn1 := hO.n1
    have hdom : ∀ x y, y ∈ flw n rs x → x < n := fun x y h => (fl_dom hO.ord h).2
    refine ⟨_, 
      (pss_cons (ps_set (i := 1) scDue.nd rfl (.inr rfl) (pe_call G__law_ahead hr (by rfl) T__law_ahead.g T__law_ahead.F.kp T__law_ahead.b .nil pass0 (pa_cons (pv 0) pa_nil)))
      (pss_cons (ps_set (i := 2) scDue.nd rfl (.inl rfl) (pe_callB call_len_seq (by rfl) B.len PySem.boot_len (pa_cons (pe_ix ix_list (pv 0) pe_int (fun _ _ => rfl)) pa_nil)))
      (pss_cons (ps_set (i := 3) scDue.nd rfl (.inl rfl) (pe_lst pa_nil))
      (pss_cons (ps_for PassesOwn.never rfl (pi_range1 (by rfl) B.range (pa_cons (pv 2) pa_nil)) (pg_name (i := 4) scDue.nd rfl (.inr rfl))
        (pss_one (ps_expr (pe_bm PySem.F.plainAttrs_list PySem.F.slot_list_append PySem.F.type_list_append mt_append (pv 3) (pa_cons (pe_lc (own := [("other", 10)]) (g := (gName 10)) (tt := (tTest (tOp (rI0 fun i j => .bl (decide (j < i))) (tOp (rI CMul fun i j => .int (i * j)) (tC (.int 2)) (tDGet (tVar 1) (tTup (tCons (tVar 4) (tCons (tVar 10) tNil))))) (tCB (rLenS K) (tCons (tVar 0) tNil))))) (te := (tVar 10)) rfl scDue.nd (pi_range1 (by rfl) B.range (pa_cons (pv 2) pa_nil)) (blkOk_by (N := ["poll", "ahead", "n", "above", "one", "size", "thing", "back", "ring", "left", "other"]) (sc := defScope s_law_due) (by decide +kernel)) (fun _ _ _ _ _ => (pg_name (i := 10) scDue.nd rfl (.inl rfl))) (fun _ _ _ _ _ => (pts_one (pt_cmpR op_gt (pe_op op_mul pe_int (pe_dget (hu_of hr) (pv 1) (pe_tup (pa_cons (pv 4) (pa_cons (pv 10) pa_nil))) (fun _ _ => rfl))) (pe_callB call_len_seq (by rfl) B.len PySem.boot_len (pa_cons (pv 0) pa_nil)) (nomark _)))) (fun _ _ _ _ _ => (pv 10))) pa_nil)))))
      (pss_cons (ps_for PassesOwn.never rfl (pi_range2 (by rfl) B.range (pa_cons pe_int (pa_cons (pe_op op_add (pv 2) pe_int) pa_nil))) (pg_name (i := 5) scDue.nd rfl (.inl rfl))
        (pss_one (ps_for PassesOwn.never rfl (pi_range1 (by rfl) B.range (pa_cons (pv 2) pa_nil)) (pg_name (i := 6) scDue.nd rfl (.inl rfl))
          (pss_cons (ps_set (i := 7) scDue.nd rfl (.inr rfl) (pe_call G__law_back hr (by rfl) T__law_back.g T__law_back.F.kp T__law_back.b .nil pass0 (pa_cons (pv 3) (pa_cons (pv 6) (pa_cons (pv 5) pa_nil)))))
          (pss_one (ps_if (pt_cmpR op_in_seq (pv 6) (pe_ix ix_list (pv 7) (pv 5) (fun _ _ => rfl)) (by rfl))
            (pss_cons (ps_set (i := 8) scDue.nd rfl (.inl rfl) (pe_lst (pa_cons (pv 6) pa_nil)))
            (pss_cons (ps_for PassesOwn.never rfl (pi_range3 (by rfl) B.range (pa_cons (pe_op op_sub (pv 5) pe_int) (pa_cons pe_int (pa_cons (pe_un un_neg pe_int) pa_nil)))) (pg_name (i := 9) scDue.nd rfl (.inr rfl))
              (pss_one (ps_expr (pe_bm PySem.F.plainAttrs_list PySem.F.slot_list_append PySem.F.type_list_append mt_append (pv 8) (pa_cons (pe_callB (cr_min rfl) (by rfl) B.min (by decide +kernel) (pa_cons (pe_lc (own := [("one", 4)]) (g := (gName 4)) (tt := (tTest (tOp (rIn K false) (tVar 4) (tOp (rIxL K) (tVar 7) (tVar 9))))) (te := (tVar 4)) rfl scDue.nd (pi_list (pe_ix ix_list (pv 3) (pe_ix ix_list (pv 8) (pe_un un_neg pe_int) (fun _ _ => rfl)) (fun _ _ => rfl))) (blkOk_by (N := ["poll", "ahead", "n", "above", "one", "size", "thing", "back", "ring", "left", "other"]) (sc := defScope s_law_due) (by decide +kernel)) (fun _ _ _ _ _ => (pg_name (i := 4) scDue.nd rfl (.inl rfl))) (fun _ _ _ _ _ => (pts_one (pt_cmpR op_in_seq (pv 4) (pe_ix ix_list (pv 7) (pv 9) (fun _ _ => rfl)) (by rfl)))) (fun _ _ _ _ _ => (pv 4))) pa_nil)) pa_nil)))))
            (pss_one (ps_ret (pv 8)))))
            pss_nil))))))
      (pss_one (ps_ret pe_non))))))), ?_⟩
    refine ⟨_, rfl, l, as, rs, n, rfl, hO, h1, h2, fun cd kvs H1 hcd hkv s1 => ?_⟩
    have hO1 := hO.same s1
    obtain ⟨a0, ea0⟩ : ∃ a0, as[0]? = some a0 := ⟨as[0]'(by omega), List.getElem?_eq_getElem (by omega)⟩
    obtain ⟨r0, er0, ha0⟩ := hO1.ll.get ea0
    have lr0 : (r0.map V.int).length = n := by rw [List.length_map]; exact (hO.ord r0 (List.mem_of_getElem? er0)).len
    refine ⟨_, rfl, l, _, 0, _, rfl, rfl, SqL.of hO1.top, at_of (j := 0) rfl (ref_at ea0), a0, _, rfl, .inl (SqL.of ha0), ?_⟩
    rw [lr0]
    -- above
    refine ⟨line_small (by show 0 ≤ 16777216; decide), fun lf nlf => ?_⟩
    have s2 := same_new (o := .lst []) nlf
    refine ⟨_, rfl, n, rfl, by omega, by omega, ?_⟩
    rw [Int.toNat_natCast]
    refine for_range (n := n) (fun i σ G => ∃ (y4 : Option V) (fs : List Addr), σ = [some (.ref l), some (.ref cd), some (.int n), some (.ref lf), y4, none, none, none, none, none, none] ∧ G lf = some (.lst (fs.map V.ref)) ∧ LL G fs ((flM n rs).take i) ∧ lf ∉ fs ∧ Same H1 G)
      ⟨_, [], rfl, upd_same, trivial, List.not_mem_nil, s2⟩ (fun i σ G hi hP => ?_) (fun σ G hP => ?_)
    · obtain ⟨y4, fs, rfl, hlf, hLf, nlfs, sG⟩ := hP
      rw [show (0 : Int) + (i : Int) = (i : Int) by omega]
      have hfl := hLf.len
      rw [List.length_take, flM_len] at hfl
      refine ⟨_, rfl, .inl ⟨rfl, _, SqL.of hlf⟩, _, rfl, n, rfl, by omega, by omega, fun D nD => ?_⟩
      rw [Int.toNat_natCast]
      have nlD : lf ≠ D := ne_of_none hlf nD
      refine lc_range (lo := 0) (n := n) (fun j G2 => G2 D = some (.lst (((rg j).filter fun u => decide ((rs.length : Int) < 2 * aN rs (i : Int) u)).map V.int)) ∧ Same G G2) ⟨upd_same, same_new nD⟩ (fun j G2 hj hP => ?_) (fun G2 hP => ?_)
      · obtain ⟨hD2, s3⟩ := hP
        rw [show (0 : Int) + (j : Int) = (j : Int) by omega]
        have sA := sG.trans s3
        have fm : (rg (j + 1)).filter (fun u => decide ((rs.length : Int) < 2 * aN rs (i : Int) u)) = (rg j).filter (fun u => decide ((rs.length : Int) < 2 * aN rs (i : Int) u)) ++ (if decide ((rs.length : Int) < 2 * aN rs (i : Int) (j : Int)) then [(j : Int)] else []) := by
          rw [rg_succ, List.filter_append, List.filter_cons]
          rfl
        refine ⟨rfl, _, rfl, _, rfl, _, rfl, line_small (by show 2 ≤ 16777216; decide), fun tk ntk => ?_⟩
        have s4 := s3.trans (same_new (o := .tup [.int (i : Int), .int (j : Int)]) ntk)
        have gt := DGet.t (k := [Sum.inl (i : Int), Sum.inl (j : Int)]) (same_new (o := .tup [.int (i : Int), .int (j : Int)]) ntk _ _ (sA _ _ hcd)) upd_same
        rw [hkv i j hi hj] at gt
        have top5 := s4 _ _ (sG _ _ hO1.top)
        refine ⟨cd, _, rfl, gt, 2, _, rfl, rfl, .inl ⟨by decide, by decide⟩, _, rfl, l, _, rfl, .inl (SqL.of top5), _, _, rfl, rfl, _, rfl, ite2 (fun c => ?_) (fun c => ?_)⟩
        · have hc : (rs.length : Int) < 2 * aN rs (i : Int) (j : Int) := by
            have := of_decide_eq_true c
            rw [List.length_map, hal] at this
            exact this
          refine ⟨_, rfl, _, same_new ntk _ _ hD2, line_lt (by rw [List.length_map]; exact Nat.lt_of_le_of_lt (List.length_filter_le _ _) (by rw [rg_len]; omega)), ?_, fun b o e => ?_⟩
          · rw [upd_same, fm, decide_eq_true hc, if_pos rfl, List.map_append]
            rfl
          · rw [upd_ne (ne_of_none e nD)]
            exact s4 _ _ e
        · have hc : ¬ (rs.length : Int) < 2 * aN rs (i : Int) (j : Int) := fun h => c (decide_eq_true (by rw [List.length_map, hal]; exact h))
          refine ⟨?_, s4⟩
          rw [fm, decide_eq_false hc, if_neg (by decide), List.append_nil]
          exact same_new ntk _ _ hD2
      · obtain ⟨hD2, s3⟩ := hP
        refine ⟨lf, _, _, rfl, rfl, s3 _ _ hlf, line_lt (by rw [List.length_map]; omega), ?_⟩
        refine ⟨_, fs ++ [D], rfl, by rw [upd_same, List.map_append]; rfl, ?_, fun h => ?_, fun b o e => ?_⟩
        · rw [take_more' (flM_at hi)]
          refine LL.snoc ((hLf.same s3).keep fun u hu o e => ?_) ?_
          · rw [upd_ne (fun q => nlfs (by rw [← q]; exact hu))]
            exact e
          · rw [upd_ne nlD.symm]
            exact hD2
        · rcases List.mem_append.mp h with h | h
          · exact nlfs h
          · exact nlD (List.mem_singleton.mp h)
        · rw [upd_ne (ne_of_none e nlf)]
          exact s3 _ _ (sG _ _ e)
    obtain ⟨y4, fs, rfl, hlf, hLf, nlfs, sG⟩ := hP
    rw [List.take_of_length_le (by rw [flM_len]; exact Nat.le_refl _)] at hLf
    have hfl := hLf.len
    rw [flM_len] at hfl
    have s0G := s1.trans sG
    -- sizes
    refine ⟨_, rfl, (n : Int), 1, rfl, rfl, 3, _, rfl, ⟨by omega, by omega, by omega, by omega⟩, ?_⟩
    refine for_range (lo := 3) (n := ((n : Int) + 1 - 3).toNat) (fun i σ G2 => ∃ (y5 y6 y7 y8 y9 : Option V), σ = [some (.ref l), some (.ref cd), some (.int n), some (.ref lf), y4, y5, y6, y7, y8, y9, none] ∧ (∀ k z : Nat, 2 ≤ k → k < i + 2 → z < n → ∀ w v, Wk (flw n rs) (z : Int) k w v → (z : Int) ∉ flw n rs v) ∧ Same G G2)
      ⟨_, _, _, _, _, rfl, fun k z h1 h2 => by omega, Same.refl _⟩ (fun i σ G2 hi hP => ?_) (fun σ G2 hP => ?_)
    · obtain ⟨y5, y6, y7, y8, y9, rfl, hno, sG2⟩ := hP
      obtain ⟨k0, hk0⟩ : ∃ k0 : Nat, k0 = i + 2 := ⟨_, rfl⟩
      have hkn : k0 < n := by omega
      rw [show (3 : Int) + (i : Int) = ((k0 + 1 : Nat) : Int) by omega]
      refine ⟨_, rfl, n, rfl, by omega, by omega, ?_⟩
      rw [Int.toNat_natCast]
      refine for_range (n := n) (fun j σ G3 => ∃ (y6 y7 y8 y9 : Option V), σ = [some (.ref l), some (.ref cd), some (.int n), some (.ref lf), y4, some (.int ((k0 + 1 : Nat) : Int)), y6, y7, y8, y9, none] ∧ (∀ z : Nat, z < j → ∀ w v, Wk (flw n rs) (z : Int) k0 w v → (z : Int) ∉ flw n rs v) ∧ Same G G3)
        ⟨_, _, _, _, rfl, fun z h => absurd h (Nat.not_lt_zero _), sG2⟩ (fun j σ G3 hj hP => ?_) (fun σ G3 hP => ?_)
      · obtain ⟨z6, z7, z8, z9, rfl, hno2, sG3⟩ := hP
        rw [show (0 : Int) + (j : Int) = (j : Int) by omega]
        have hlf3 := sG3 _ _ hlf
        have hLf3 := hLf.same sG3
        refine ⟨_, rfl, _, rfl, _, rfl, lf, fs, n, j, k0 + 1, rs, rfl, hlf3, hLf3, hj, by omega, by omega, fun lb bs G4 hlb hLb s4 => ?_⟩
        have hbl := hLb.len
        rw [List.length_map, List.length_range] at hbl
        have sG4 := sG3.trans s4
        -- the row of back at t
        have row : ∀ t ≤ k0 + 1, ∃ b, bs[t]? = some b ∧ G4 b = some (.lst ((bkL n (flw n rs) (j : Int) (k0 + 1) t).map V.int)) := fun t ht => by
          obtain ⟨b, eb⟩ : ∃ b, bs[t]? = some b := ⟨bs[t]'(by omega), List.getElem?_eq_getElem (by omega)⟩
          obtain ⟨r, er, hb⟩ := hLb.get eb
          rw [List.getElem?_map, List.getElem?_range (by omega)] at er
          have e2 : bkL n (flw n rs) (j : Int) (k0 + 1) t = r := Option.some.inj er
          rw [← e2] at hb
          exact ⟨b, eb, hb⟩
        obtain ⟨bS, ebS, hbS⟩ := row (k0 + 1) (Nat.le_refl _)
        refine ⟨_, rfl, _, rfl, _, rfl, lb, _, _, _, rfl, rfl, SqL.of hlb, at_of (j := k0 + 1) rfl (ref_at ebS), bS, _, rfl, .inl (SqL.of hbS), rfl, flat_ints _, _, rfl, ?_⟩
        show if inV (.int (j : Int)) ((bkL n (flw n rs) (j : Int) (k0 + 1) (k0 + 1)).map V.int) = true then _ else _
        rw [inV_int]
        have hclose := bk_close (fl := flw n rs) (z := (j : Int)) (size := k0 + 1) hdom (by omega) (by omega)
        rw [Nat.add_sub_cancel] at hclose
        by_cases cz : (j : Int) ∈ bkL n (flw n rs) (j : Int) (k0 + 1) (k0 + 1)
        · rw [decide_eq_true cz, if_pos rfl]
          obtain ⟨yy, hyb, hyf⟩ := hclose.mp cz
          -- ring = [thing]
          refine ⟨_, rfl, line_small (by show 1 ≤ 16777216; decide), fun g ng => ?_⟩
          have s5 := same_new (o := .lst [.int (j : Int)]) ng
          refine ⟨_, rfl, ((k0 + 1 : Nat) : Int), 1, rfl, rfl, 1, rfl, _, 0, -1, _, rfl, RgC.neg (by omega) (by omega) (by omega) (by omega), ?_⟩
          have en : (((k0 + 1 : Nat) : Int) - 1 - 0).toNat = k0 := by omega
          rw [en]
          refine for_rangeC (lo := ((k0 + 1 : Nat) : Int) - 1) (c := -1) (n := k0) (fun i' σ G5 => ∃ (y9 : Option V) (c : List Int) (u : Int), σ = [some (.ref l), some (.ref cd), some (.int n), some (.ref lf), y4, some (.int ((k0 + 1 : Nat) : Int)), some (.int (j : Int)), some (.ref lb), some (.ref g), y9, none] ∧ G5 g = some (.lst (c.map V.int)) ∧ Wk (flw n rs) (j : Int) i' c u ∧ (∃ y, y ∈ flw n rs u ∧ Bw (flw n rs) (j : Int) (k0 - i') y) ∧ (∀ w v, Wk (flw n rs) (j : Int) k0 w v → (j : Int) ∈ flw n rs v → c ≤ w.take (i' + 1)) ∧ Same G4 G5)
            ⟨_, [(j : Int)], (j : Int), rfl, upd_same, .nil, ⟨yy, hyf, hyb⟩, fun w v hw _ => ?_, s5⟩ (fun i' σ G5 hi' hP => ?_) (fun σ G5 hP => ?_)
          · have := hw.first
            rw [List.take_add_one, List.take_zero, this]
            exact List.le_refl _
          · obtain ⟨y9', c, u, rfl, hg, hw, ⟨y0, hy0, hb0⟩, hle, s6⟩ := hP
            have sG5 := sG4.trans s6
            have hub := wk_bound (by omega) hw
            obtain ⟨un, rfl⟩ : ∃ un : Nat, u = (un : Int) := ⟨u.toNat, by omega⟩
            obtain ⟨b, eb⟩ : ∃ b, fs[un]? = some b := ⟨fs[un]'(by omega), List.getElem?_eq_getElem (by omega)⟩
            obtain ⟨fr, efr, hb⟩ := (hLf.same sG5).get eb
            rw [flM_at (show un < n by omega)] at efr
            have efr2 := Option.some.inj efr
            subst efr2
            have la := last_at hw.len
            rw [hw.last] at la
            have el : ((k0 + 1 : Nat) : Int) - 1 + ((i' : Nat) : Int) * (-1) = ((k0 - i' : Nat) : Int) := by omega
            rw [el]
            obtain ⟨bt, ebt, hbt⟩ := row (k0 - i') (by omega)
            have hlb5 := s6 _ _ hlb
            have hbt5 := s6 _ _ hbt
            have bm := bk_mem (n := n) (fl := flw n rs) (z := (j : Int)) (size := k0 + 1) hdom (k0 - i') (by omega)
            refine ⟨_, rfl, .inl ⟨rfl, _, SqL.of hg⟩, _, rfl, _, rfl, 1, rfl, g, _, _, _, rfl, rfl, SqL.of hg, la, lf, _, _, _, rfl, rfl, SqL.of (sG5 _ _ hlf), at_of (j := un) rfl (ref_at eb), b, rfl, ⟨_, SqL.of hb⟩, fun D nD => ?_⟩
            refine lc_list (K := K) (a := b) (xs := (flw n rs (un : Int)).map V.int) (fun m G6 => G6 D = some (.lst ((((flw n rs (un : Int)).take m).filter fun x => decide (x ∈ bkL n (flw n rs) (j : Int) (k0 + 1) (k0 - i'))).map V.int)) ∧ Same G5 G6) ⟨upd_same, same_new nD⟩ (fun m G6 _ hP => SqL.of (hP.2 _ _ hb)) (fun m x G6 hx hP => ?_) (fun G6 hP => ?_)
            · obtain ⟨hD6, s7⟩ := hP
              obtain ⟨x', ex, rfl⟩ := int_at_inv hx
              have hm := (List.getElem?_eq_some_iff.mp ex).1
              have hfw := flw_len n rs (un : Int)
              refine ⟨rfl, _, rfl, _, rfl, _, rfl, lb, _, _, _, rfl, rfl, SqL.of (s7 _ _ hlb5), at_of (j := k0 - i') rfl (ref_at ebt), bt, _, rfl, .inl (SqL.of (s7 _ _ hbt5)), rfl, flat_ints _, _, rfl, ?_⟩
              show if inV (.int x') ((bkL n (flw n rs) (j : Int) (k0 + 1) (k0 - i')).map V.int) = true then _ else _
              rw [inV_int]
              by_cases cx : x' ∈ bkL n (flw n rs) (j : Int) (k0 + 1) (k0 - i')
              · rw [decide_eq_true cx, if_pos rfl]
                refine ⟨_, rfl, _, hD6, line_lt (by rw [List.length_map]; exact Nat.lt_of_le_of_lt (List.length_filter_le _ _) (by rw [List.length_take]; omega)), ?_, fun b o e => ?_⟩
                · rw [upd_same, filter_more _ ex, decide_eq_true cx, if_pos rfl, List.map_append]
                  rfl
                · rw [upd_ne (ne_of_none e nD)]
                  exact s7 _ _ e
              · rw [decide_eq_false cx, if_neg (by decide)]
                refine ⟨?_, s7⟩
                rw [filter_more _ ex, decide_eq_false cx, if_neg (by decide), List.append_nil]
                exact hD6
            · obtain ⟨hD6, s7⟩ := hP
              rw [List.length_map, List.take_length] at hD6
              have hm0 : y0 ∈ (flw n rs (un : Int)).filter fun x => decide (x ∈ bkL n (flw n rs) (j : Int) (k0 + 1) (k0 - i')) := List.mem_filter.mpr ⟨hy0, decide_eq_true ((bm y0).mpr hb0)⟩
              refine ⟨D, _, rfl, SqL.of hD6, List.length_pos_of_mem hm0, fun x hx hxl => ?_⟩
              obtain ⟨hx1, hx2⟩ := List.mem_filter.mp hx
              have hxb := (bm x).mp (of_decide_eq_true hx2)
              have hgr := greedy_step hw (by omega) ⟨hx1, hxb⟩ (fun y h1 h2 => hxl y (List.mem_filter.mpr ⟨h1, decide_eq_true ((bm y).mpr h2)⟩)) hle
              have hg6 := s7 _ _ hg
              refine ⟨g, _, _, rfl, rfl, hg6, line_lt (by rw [List.length_map, hw.len]; omega), ?_⟩
              refine ⟨_, c ++ [x], x, rfl, by rw [upd_same, List.map_append]; rfl, hgr.1, ?_, hgr.2, fun b o e => ?_⟩
              · obtain ⟨t, ht⟩ : ∃ t, k0 - i' = t + 1 := ⟨k0 - i' - 1, by omega⟩
                rw [ht] at hxb
                obtain ⟨y, hy1, hy2⟩ := bw_first hxb
                refine ⟨y, hy1, ?_⟩
                rw [show k0 - (i' + 1) = t by omega]
                exact hy2
              · rw [upd_ne (ne_of_none e ng)]
                exact s7 _ _ (s6 _ _ e)
          · obtain ⟨y9', c, u, rfl, hg, hw, ⟨y0, hy0, hb0⟩, hle, s6⟩ := hP
            rw [Nat.sub_self] at hb0
            have e0 := bw_zero hb0
            rw [e0] at hy0
            refine ⟨_, rfl, q1 g c k0 j G5 hg ⟨by omega, hkn, hj, ⟨u, hw, hy0⟩, fun w v h1 h2 => ?_, fun k' z' h2 hz' h => ?_⟩ (s0G.trans (sG4.trans s6))⟩
            · have := hle w v h1 h2
              rw [List.take_of_length_le (by rw [h1.len]; exact Nat.le_refl _)] at this
              exact this
            · rcases h with h | ⟨h, h3⟩
              · exact hno k' z' h2 (by omega) hz'
              · rw [h]
                exact hno2 z' h3
        · rw [decide_eq_false cz, if_neg (by decide)]
          refine ⟨_, _, _, _, rfl, fun z hz w v hw => ?_, sG4⟩
          by_cases c : z = j
          · subst c
            intro hzv
            exact cz (hclose.mpr (by
              obtain ⟨y, h1, h2⟩ := closed_behind (by omega) hw hzv
              exact ⟨y, h1, h2⟩))
          · exact hno2 z (by omega) w v hw
      · obtain ⟨z6, z7, z8, z9, rfl, hno2, sG3⟩ := hP
        refine ⟨_, _, _, _, _, rfl, fun k z h1 h2 hz => ?_, sG3⟩
        by_cases c : k = k0
        · rw [c]
          exact hno2 z hz
        · exact hno k z h1 (by omega) hz
    · obtain ⟨y5, y6, y7, y8, y9, rfl, hno, sG2⟩ := hP
      exact q0 G2 (fun k z h1 h2 hz => hno k z h1 (by omega) hz) (s0G.trans sG2)
end
end Fo
namespace Fo
open PySem PySem.Spec PyProof.Rows L2
/-! ### arcs: pairs of unlike things -/
abbrev Arc := Addr × Nat × Nat
abbrev aV (ps : List Arc) : List V := ps.map fun p => V.ref p.1
structure ArAt (H : Hp) (ar : Addr) (ps : List Arc) (n : Nat) : Prop where
  top : H ar = some (.lst (aV ps))
  each : ∀ p ∈ ps, H p.1 = some (.tup [.int (p.2.1 : Int), .int (p.2.2 : Int)]) ∧ p.2.1 < n ∧ p.2.2 < n ∧ p.2.1 ≠ p.2.2
abbrev dP (u v : Int) : PyData := .tuple [.int u, .int v]
theorem lay_pair (u v : Int) : PyData.canLay0 (dP u v) = true := by rfl
theorem depth_pair (u v : Int) : PyData.depth (dP u v) = 1 := by
  rw [PyData.depth]
  simp [PyData.depthAll, PyData.depth]
theorem shaped_pair (u v : Int) : SeqAt.shaped (dP u v) = true := by
  unfold SeqAt.shaped
  rw [lay_pair, depth_pair]
  rfl
theorem lay_pairs : ∀ ps : List Arc, PyData.canLayAll0 (ps.map fun p => dP (p.2.1 : Int) (p.2.2 : Int)) = true
  | [] => rfl
  | p :: ps => by
    show (PyData.canLay0 (dP _ _) && PyData.canLayAll0 (ps.map fun p => dP (p.2.1 : Int) (p.2.2 : Int))) = true
    rw [lay_pairs ps, lay_pair]
    rfl
theorem depth_pairs : ∀ ps : List Arc, PyData.depthAll (ps.map fun p => dP (p.2.1 : Int) (p.2.2 : Int)) ≤ 1
  | [] => by simp [PyData.depthAll]
  | p :: ps => by
    show PyData.depthAll (dP _ _ :: ps.map fun p => dP (p.2.1 : Int) (p.2.2 : Int)) ≤ 1
    rw [PyData.depthAll, depth_pair]
    have := depth_pairs ps
    omega
theorem shaped_pairs (ps : List Arc) : SeqAt.shaped (.list (ps.map fun p => dP (p.2.1 : Int) (p.2.2 : Int))) = true := by
  unfold SeqAt.shaped
  rw [Bool.and_eq_true_iff]
  constructor
  · rw [PyData.canLay0]
    exact lay_pairs ps
  · apply decide_eq_true
    rw [PyData.depth]
    have := depth_pairs ps
    omega
theorem dp_pair {K : PySem.W.Frag} {H : Hp} {t : Addr} {u v : Int} (h : H t = some (.tup [.int u, .int v])) : Dp K H (.ref t) (dP u v) := .tup (SqT.of h) (.cons (.int u) (.cons (.int v) .nil))
theorem dp_pairs {K : PySem.W.Frag} {H : Hp} : ∀ ps : List Arc, (∀ p ∈ ps, H p.1 = some (.tup [.int (p.2.1 : Int), .int (p.2.2 : Int)])) → DpAll K H (aV ps) (ps.map fun p => dP (p.2.1 : Int) (p.2.2 : Int))
  | [], _ => .nil
  | p :: ps, h => .cons (dp_pair (h p List.mem_cons_self)) (dp_pairs ps fun q hq => h q (List.mem_cons_of_mem _ hq))
theorem arc_perm {xs : List Int} {u v : Int} (hn : xs.Nodup) (hu : u ∈ xs) (hv : v ∈ xs) (huv : u ≠ v) : ([u, v] ++ xs.filter fun x => !decide (x ∈ [u, v])).Perm xs := by
  have hnd : ([u, v] ++ xs.filter fun x => !decide (x ∈ [u, v])).Nodup := by
    rw [List.nodup_append]
    refine ⟨?_, List.Pairwise.filter _ hn, fun a ha b hb e => ?_⟩
    · rw [List.nodup_cons]
      exact ⟨fun h => huv (List.mem_singleton.mp h), List.nodup_cons.mpr ⟨List.not_mem_nil, List.nodup_nil⟩⟩
    · have := (List.mem_filter.mp hb).2
      rw [← e, decide_eq_true ha] at this
      cases this
  rw [List.perm_ext_iff_of_nodup hnd hn]
  intro a
  rw [List.mem_append, List.mem_filter]
  constructor
  · rintro (h | h)
    · rcases List.mem_cons.mp h with rfl | h
      · exact hu
      · rw [List.mem_singleton.mp h]
        exact hv
    · exact h.1
  · intro h
    by_cases c : a ∈ [u, v]
    · exact .inl c
    · exact .inr ⟨h, by rw [decide_eq_false c]; rfl⟩
def spByArcs : Sp := fun vs H Q _ => ∃ (d ar : Addr) (ps : List Arc) (n : Nat), vs = [.ref d, .int n, .ref ar] ∧ DqAt H d ∧ ArAt H ar ps n ∧ 2 ≤ n ∧ n ≤ 12 ∧ ps.length ≤ 10 ∧ ar ≠ d ∧
  ∀ (l : Addr) (as : List Addr) (rs : List (List Int)) (H' : Hp), OL H' l as rs n → rs.length = 2 * ps.length → H l = none → (∀ a ∈ as, H a = none) → l ≠ d → d ∉ as → DqAt H' d → KeepD d H H' → Q (.ref l) H'
def spRPoll : Sp := fun vs H Q _ => ∃ (d : Addr) (n : Nat), vs = [.ref d, .int n] ∧ DqAt H d ∧ 3 ≤ n ∧ n ≤ 9 ∧
  ∀ (l : Addr) (as : List Addr) (rs : List (List Int)) (H' : Hp), OL H' l as rs n → 1 ≤ rs.length → rs.length ≤ 20 → H l = none → l ≠ d → d ∉ as → DqAt H' d → KeepD d H H' → Q (.ref l) H'
theorem tup_ne_dq {H : Hp} {d t : Addr} {u v : V} (h : DqAt H d) (e : H t = some (.tup [u, v])) : t ≠ d := fun q => by
  obtain ⟨ms, e1, _⟩ := h
  rw [q, e1] at e
  cases e
theorem units65 {k : Nat} {A : Around} (r : Room k A) : A.units + 65 < cLine := by have := r.un; omega
section
variable {P : Program} {w : World} {K : PySem.W.Frag} {mg : Str → Option Value} {base : Heap}
theorem scByArcs : FnScope ["deck", "n", "arcs", "found", "one", "other", "rest", "thing"] ["deck", "n", "arcs"] (defScope s_law_by_arcs) := ⟨rfl, rfl, rfl, by decide +kernel, rfl, by decide +kernel, by decide +kernel⟩
set_option maxHeartbeats 4000000 in
theorem ok_byarcs {f fO : Addr} {fd fdO : FuncData} {k : Nat} (T : Df K mg "_law_by_arcs" s_law_by_arcs ["deck", "n", "arcs"] f fd) (T__law_order : Df K mg "_law_order" s_law_order ["deck", "n"] fO fdO) (G__law_order : FnOk P w K mg base CX0 k fO fdO ["deck", "n"] spOrderN) (B : Bi mg) : FnOk P w K mg base CX0 (k + 1) f fd ["deck", "n", "arcs"] spByArcs := by
  refine T.F.ok scByArcs (fun vs H Q E h => ?_) (fun cdv A outer s H vs Q E hr h => ?_)
  · obtain ⟨d, ar, ps, n, rfl, _⟩ := h
    rfl
  · obtain ⟨d, ar, ps, n, rfl, hD, hA, hn1, hn2, hpl, nad, q⟩ := h
    refine ⟨_, 
      (pss_cons (ps_set (i := 3) scByArcs.nd rfl (.inl rfl) (pe_lst pa_nil))
      (pss_cons (ps_for PassesOwn.never rfl (pi_list (pv 2)) (pg_tup (by rfl) (pgs_cons (pg_name (i := 4) scByArcs.nd rfl (.inr rfl)) (pgs_cons (pg_name (i := 5) scByArcs.nd rfl (.inr rfl)) pgs_nil)))
        (pss_cons (ps_setLc (i := 6) (own := [("thing", 7)]) (g := (gName 7)) (tt := (tTest (tOp (rIn K true) (tVar 7) (tTup (tCons (tVar 4) (tCons (tVar 5) tNil)))))) (te := (tVar 7)) (by rfl) scByArcs.nd rfl rfl (sw_true rfl rfl rfl (by decide +kernel)) (pi_list (pe_call G__law_order hr (by rfl) T__law_order.g T__law_order.F.kp T__law_order.b .nil pass0 (pa_cons (pv 0) (pa_cons (pv 1) pa_nil)))) (blkOk_by (N := ["deck", "n", "arcs", "found", "one", "other", "rest", "thing"]) (sc := defScope s_law_by_arcs) (by decide +kernel)) (fun _ _ _ _ _ => (pg_name (i := 7) scByArcs.nd rfl (.inl rfl))) (fun _ _ _ _ _ => (pts_one (pt_cmpR op_notIn_seq (pv 7) (pe_tup (pa_cons (pv 4) (pa_cons (pv 5) pa_nil))) (by rfl)))) (fun _ _ _ _ _ => (pv 7)))
        (pss_one (ps_set (i := 3) scByArcs.nd rfl (.inl rfl) (pe_op op_cat (pv 3) (pe_lst (pa_cons (pe_op op_cat (pe_lst (pa_cons (pv 4) (pa_cons (pv 5) pa_nil))) (pv 6)) (pa_cons (pe_op op_cat (pe_revL (pv 6)) (pe_lst (pa_cons (pv 4) (pa_cons (pv 5) pa_nil)))) pa_nil))))))))
      (pss_one (ps_ret (pv 3))))), ?_⟩
    refine ⟨line_small (by show 0 ≤ 16777216; decide), fun l0 nl0 => ?_⟩
    have s0 := same_new (o := .lst []) nl0
    refine ⟨_, rfl, ar, rfl, ⟨_, SqL.of (s0 _ _ hA.top)⟩, ?_⟩
    refine for_list (xs := aV ps) (fun i σ G => ∃ (lf : Addr) (as : List Addr) (rs : List (List Int)) (y4 y5 y6 : Option V), σ = [some (.ref d), some (.int n), some (.ref ar), some (.ref lf), y4, y5, y6, none] ∧ G lf = some (.lst (as.map V.ref)) ∧ LL G as rs ∧ (∀ r ∈ rs, IsOrd n r) ∧ rs.length = 2 * i ∧ H lf = none ∧ lf ≠ d ∧ (∀ a ∈ as, H a = none ∧ a ≠ d) ∧ DqAt G d ∧ KeepD d H G)
      ⟨l0, [], [], _, _, _, rfl, upd_same, trivial, fun r h => absurd h List.not_mem_nil, rfl, nl0, hD.ne nl0, fun a h => absurd h List.not_mem_nil, hD.new nl0, KeepD.of_same s0⟩ (fun i σ G _ hP => by
        obtain ⟨_, _, _, _, _, _, _, _, _, _, _, _, _, _, _, kp⟩ := hP
        exact SqL.of (kp _ _ hA.top nad)) (fun i x σ G hx hP => ?_) (fun σ G hP => ?_)
    · obtain ⟨lf, as, rs, y4, y5, y6, rfl, hlf, hLL, ho, hlen, nlf, nlfd, has, DG, kG⟩ := hP
      have hal := hLL.len
      rw [List.getElem?_map] at hx
      cases ep : ps[i]? with
      | none => rw [ep] at hx; cases hx
      | some p =>
        rw [ep] at hx
        have ex : V.ref p.1 = x := Option.some.inj hx
        subst ex
        have hi := (List.getElem?_eq_some_iff.mp ep).1
        obtain ⟨ht0, hu, hv, huv⟩ := hA.each p (List.mem_of_getElem? ep)
        have ht := kG _ _ ht0 (tup_ne_dq hD ht0)
        refine ⟨p.1, _, rfl, .inl (.inl ht), rfl, _, _, rfl, _, _, rfl, rfl, ?_⟩
        -- rest
        refine ⟨_, rfl, _, rfl, d, n, rfl, DG, hn2, fun xs o G1 ox no ho1 nod D1 k1 => ?_⟩
        refine ⟨o, rfl, ⟨_, SqL.of ho1⟩, fun D nD => ?_⟩
        have nDd := D1.ne nD
        refine lc_list (K := K) (a := o) (xs := xs.map V.int) (fun m G2 => G2 D = some (.lst (((xs.take m).filter fun x => !decide (x ∈ [(p.2.1 : Int), (p.2.2 : Int)])).map V.int)) ∧ Same G1 G2) ⟨upd_same, same_new nD⟩ (fun m G2 _ hP => SqL.of (hP.2 _ _ ho1)) (fun m x G2 hx hP => ?_) (fun G2 hP => ?_)
        · obtain ⟨hD2, s2⟩ := hP
          obtain ⟨y, ey, rfl⟩ := int_at_inv hx
          have hm := (List.getElem?_eq_some_iff.mp ey).1
          rw [ox.len] at hm
          refine ⟨rfl, _, rfl, _, rfl, _, rfl, line_small (by show 2 ≤ 16777216; decide), fun tk ntk => ?_⟩
          have s3 := same_new (o := .tup [.int (p.2.1 : Int), .int (p.2.2 : Int)]) ntk
          refine ⟨tk, _, rfl, .inr (SqT.of upd_same), rfl, flat_ints [(p.2.1 : Int), (p.2.2 : Int)], _, rfl, ?_⟩
          show if (!inV (.int y) ([(p.2.1 : Int), (p.2.2 : Int)].map V.int)) = true then _ else _
          rw [inV_int]
          by_cases c : y ∈ [(p.2.1 : Int), (p.2.2 : Int)]
          · rw [decide_eq_true c]
            refine iteF ⟨?_, s2.trans s3⟩
            rw [filter_more _ ey, decide_eq_true c]
            show _ = some (HO.lst ((_ ++ []).map V.int))
            rw [List.append_nil]
            exact s3 _ _ hD2
          · rw [decide_eq_false c]
            refine iteT ⟨_, rfl, _, s3 _ _ hD2, line_lt (by rw [List.length_map]; exact Nat.lt_of_le_of_lt (List.length_filter_le _ _) (by rw [List.length_take]; omega)), ?_, fun b o e => ?_⟩
            · rw [upd_same, filter_more _ ey, decide_eq_false c, List.map_append]
              rfl
            · rw [upd_ne (ne_of_none e nD)]
              exact s3 _ _ (s2 _ _ e)
        · obtain ⟨hD2, s2⟩ := hP
          rw [List.length_map, List.take_length] at hD2
          have D2 := D1.same s2
          have k2 := k1.trans (KeepD.of_same s2)
          have kk2 := kG.trans k2
          have hper := arc_perm ox.nodup ((List.Perm.mem_iff ox).mpr (rg_mem.mpr ⟨by omega, by omega⟩)) ((List.Perm.mem_iff ox).mpr (rg_mem.mpr ⟨by omega, by omega⟩)) (show ((p.2.1 : Nat) : Int) ≠ ((p.2.2 : Nat) : Int) by omega)
          generalize hrest : (xs.filter fun x => !decide (x ∈ [(p.2.1 : Int), (p.2.2 : Int)])) = rest at hD2 hper
          have hrl : rest.length + 2 = n := by
            have := List.Perm.length_eq hper
            rw [List.length_append, ox.len] at this
            have e2 : [(p.2.1 : Int), (p.2.2 : Int)].length = 2 := rfl
            omega
          have hlf2 := k2 lf _ hlf nlfd
          have hLL2 : LL G2 as rs := hLL.keep fun a ha ob e => k2 a ob e (has a ha).2
          clear hLL hlf D1 k1 ho1
          -- [one, other] + rest
          refine ⟨_, rfl, _, rfl, _, rfl, line_small (by show 2 ≤ 16777216; decide), fun p1 np1 => ?_⟩
          have t1 := same_new (o := .lst [.int (p.2.1 : Int), .int (p.2.2 : Int)]) np1
          refine ⟨_, rfl, p1, D, _, _, rfl, rfl, upd_same, t1 _ _ hD2, line_small (by rw [List.length_map]; show 2 + _ ≤ 16777216; omega), fun p2 np2 => ?_⟩
          have t2 := t1.trans (same_new (o := .lst ([.int (p.2.1 : Int), .int (p.2.2 : Int)] ++ rest.map V.int)) np2)
          have hp2 : (upd (upd G2 p1 (.lst [.int (p.2.1 : Int), .int (p.2.2 : Int)])) p2 (.lst ([.int (p.2.1 : Int), .int (p.2.2 : Int)] ++ rest.map V.int))) p2 = some (.lst (([(p.2.1 : Int), (p.2.2 : Int)] ++ rest).map V.int)) := by rw [upd_same, List.map_append]; rfl
          have np2' : G2 p2 = none := t1.free np2
          generalize upd (upd G2 p1 (.lst [.int (p.2.1 : Int), .int (p.2.2 : Int)])) p2 (.lst ([.int (p.2.1 : Int), .int (p.2.2 : Int)] ++ rest.map V.int)) = G3 at t2 hp2 ⊢
          -- rest[::-1] + [one, other]
          refine ⟨_, rfl, D, _, rfl, SqL.of (t2 _ _ hD2), fun p3 np3 => ?_⟩
          have t3 := same_new (o := .lst (rest.map V.int).reverse) np3
          refine ⟨_, rfl, _, rfl, line_small (by show 2 ≤ 16777216; decide), fun p4 np4 => ?_⟩
          have t4 := same_new (o := .lst [.int (p.2.1 : Int), .int (p.2.2 : Int)]) np4
          refine ⟨p3, p4, _, _, rfl, rfl, t4 _ _ upd_same, upd_same, line_small (by rw [List.length_reverse, List.length_map]; show _ + 2 ≤ 16777216; omega), fun p5 np5 => ?_⟩
          have t5 := (t3.trans t4).trans (same_new (o := .lst ((rest.map V.int).reverse ++ [.int (p.2.1 : Int), .int (p.2.2 : Int)])) np5)
          have hp5 : (upd (upd (upd G3 p3 (.lst (rest.map V.int).reverse)) p4 (.lst [.int (p.2.1 : Int), .int (p.2.2 : Int)])) p5 (.lst ((rest.map V.int).reverse ++ [.int (p.2.1 : Int), .int (p.2.2 : Int)]))) p5 = some (.lst ((rest.reverse ++ [(p.2.1 : Int), (p.2.2 : Int)]).map V.int)) := by rw [upd_same, List.map_append, List.map_reverse]; rfl
          have np5' : G3 p5 = none := (t3.trans t4).free np5
          generalize upd (upd (upd G3 p3 (.lst (rest.map V.int).reverse)) p4 (.lst [.int (p.2.1 : Int), .int (p.2.2 : Int)])) p5 (.lst ((rest.map V.int).reverse ++ [.int (p.2.1 : Int), .int (p.2.2 : Int)])) = G4 at t5 hp5 ⊢
          have t25 := t2.trans t5
          refine ⟨line_small (by show 2 ≤ 16777216; decide), fun p6 np6 => ?_⟩
          have t6 := same_new (o := .lst [.ref p2, .ref p5]) np6
          refine ⟨lf, p6, _, _, rfl, rfl, t6 _ _ (t25 _ _ hlf2), upd_same, line_small (by rw [List.length_map, hal]; show _ + 2 ≤ 16777216; omega), fun p7 np7 => ?_⟩
          have t7 := t6.trans (same_new (o := .lst (as.map V.ref ++ [.ref p2, .ref p5])) np7)
          have t27 := t25.trans t7
          have np7' : G4 p7 = none := t6.free np7
          have o1 : IsOrd n ([(p.2.1 : Int), (p.2.2 : Int)] ++ rest) := hper.trans ox
          have o2 : IsOrd n (rest.reverse ++ [(p.2.1 : Int), (p.2.2 : Int)]) := (List.perm_append_comm.trans (List.Perm.append_left _ (List.reverse_perm rest))).trans o1
          have np2d := D2.ne np2'
          have np5d := (D2.same t2).ne np5'
          have np7d := (D2.same t25).ne np7'
          have hLL4 := hLL2.same t25
          refine ⟨p7, as ++ [p2] ++ [p5], rs ++ [_] ++ [_], _, _, _, rfl, ?_, LL.snoc (LL.snoc (hLL4.same t7) ((t5.trans t7) _ _ hp2)) (t7 _ _ hp5), fun r hr' => ?_, by rw [List.length_append, List.length_append, hlen]; show 2 * i + 1 + 1 = _; omega, kk2.none (t25.free np7') np7d, np7d, fun a ha => ?_, D2.same t27, kk2.trans (KeepD.of_same t27)⟩
          · rw [upd_same, List.map_append, List.map_append, List.append_assoc]
            rfl
          · rcases List.mem_append.mp hr' with h | h
            · rcases List.mem_append.mp h with h | h
              · exact ho r h
              · rw [List.mem_singleton.mp h]
                exact o1
            · rw [List.mem_singleton.mp h]
              exact o2
          · rcases List.mem_append.mp ha with h | h
            · rcases List.mem_append.mp h with h | h
              · exact has a h
              · rw [List.mem_singleton.mp h]
                exact ⟨kk2.none np2' np2d, np2d⟩
            · rw [List.mem_singleton.mp h]
              exact ⟨kk2.none (t2.free np5') np5d, np5d⟩
    · obtain ⟨lf, as, rs, y4, y5, y6, rfl, hlf, hLL, ho, hlen, nlf, nlfd, has, DG, kG⟩ := hP
      rw [List.length_map] at hlen
      exact ⟨_, rfl, q lf as rs G ⟨hlf, hLL, ho, by omega, hn2⟩ hlen nlf (fun a ha => (has a ha).1) nlfd (fun h => (has d h).2 rfl) DG kG⟩
end
end Fo
namespace Fo
open PySem PySem.Spec PyProof.Rows L2
theorem erase_aV : ∀ (ps : List Arc) (j : Nat), aV (ps.eraseIdx j) = (aV ps).eraseIdx j
  | [], j => rfl
  | p :: ps, 0 => rfl
  | p :: ps, j + 1 => congrArg (V.ref p.1 :: ·) (erase_aV ps j)
theorem at_back {m : Nat} {xs : List Int} (hm : 0 < m) (hl : xs.length = m) {k : Nat} (hk : k < m) : ∃ j, j < m ∧ j ≠ (if 2 ≤ m then k else m) ∧ atI (xs.map V.int) ((k : Int) - 1) = some (V.int (xs.getD j 0)) := by
  by_cases c : k = 0
  · subst c
    refine ⟨m - 1, by omega, by split <;> omega, ?_⟩
    unfold atI ixN
    rw [List.length_map, hl, if_neg (by omega), if_pos (by omega)]
    show (xs.map V.int)[(((0 : Nat) : Int) - 1 + (m : Int)).toNat]? = _
    rw [show (((0 : Nat) : Int) - 1 + (m : Int)).toNat = m - 1 by omega, List.getElem?_map, List.getElem?_eq_getElem (by omega), List.getD_eq_getElem?_getD, List.getElem?_eq_getElem (by omega)]
    rfl
  · refine ⟨k - 1, by omega, by split <;> omega, ?_⟩
    rw [show (k : Int) - 1 = ((k - 1 : Nat) : Int) by omega]
    refine at_of (j := k - 1) rfl ?_
    rw [List.getElem?_map, List.getElem?_eq_getElem (by omega), List.getD_eq_getElem?_getD, List.getElem?_eq_getElem (by omega)]
    rfl
section
variable {P : Program} {w : World} {K : PySem.W.Frag} {mg : Str → Option Value} {base : Heap}
theorem scRPoll : FnScope ["deck", "n", "some", "arcs", "way", "one", "other", "found", "left", "k", "order"] ["deck", "n"] (defScope s_law_ring_poll) := ⟨rfl, rfl, rfl, by decide +kernel, rfl, by decide +kernel, by decide +kernel⟩
set_option maxHeartbeats 8000000 in
theorem ok_rpoll {f fO fD fA : Addr} {fd fdO fdD fdA : FuncData} {k : Nat} (T : Df K mg "_law_ring_poll" s_law_ring_poll ["deck", "n"] f fd) (T__law_order : Df K mg "_law_order" s_law_order ["deck", "n"] fO fdO) (T__law_next : Df K mg "_law_next" s_law_next ["deck"] fD fdD) (T__law_by_arcs : Df K mg "_law_by_arcs" s_law_by_arcs ["deck", "n", "arcs"] fA fdA) (G__law_order : FnOk P w K mg base CX0 k fO fdO ["deck", "n"] spOrderN) (G__law_next : FnOk P w K mg base CX0 k fD fdD ["deck"] spNext) (G__law_by_arcs : FnOk P w K mg base CX0 k fA fdA ["deck", "n", "arcs"] spByArcs) (B : Bi mg) : FnOk P w K mg base CX0 (k + 1) f fd ["deck", "n"] spRPoll := by
  refine T.F.ok scRPoll (fun vs H Q E h => ?_) (fun cdv A outer s H vs Q E hr h => ?_)
  · obtain ⟨d, n, rfl, _⟩ := h
    rfl
  · obtain ⟨d, n, rfl, hD, hn1, hn2, q⟩ := h
    refine ⟨_, 
      (pss_cons (ps_set (i := 2) scRPoll.nd rfl (.inr rfl) (pe_slice sl_list (pe_call G__law_order hr (by rfl) T__law_order.g T__law_order.F.kp T__law_order.b .nil pass0 (pa_cons (pv 0) (pa_cons (pv 1) pa_nil))) po_none (po_some (pe_op op_add pe_int (pe_op op_mod (pe_call G__law_next hr (by rfl) T__law_next.g T__law_next.F.kp T__law_next.b .nil pass0 (pa_cons (pv 0) pa_nil)) pe_int)))))
      (pss_cons (ps_setLc (i := 3) (own := [("k", 9)]) (g := (gName 9)) (tt := tYes) (te := (tTup (tCons (tOp (rIxL K) (tVar 2) (tOp (rI0 fun i j => .int (i - j)) (tVar 9) (tC (.int 1)))) (tCons (tOp (rIxL K) (tVar 2) (tVar 9)) tNil)))) (by rfl) scRPoll.nd rfl rfl (sw_true rfl rfl rfl (by decide +kernel)) (pi_range1 (by rfl) B.range (pa_cons (pe_callB call_len_seq (by rfl) B.len PySem.boot_len (pa_cons (pv 2) pa_nil)) pa_nil)) (blkOk_by (N := ["deck", "n", "some", "arcs", "way", "one", "other", "found", "left", "k", "order"]) (sc := defScope s_law_ring_poll) (by decide +kernel)) (fun _ _ _ _ _ => (pg_name (i := 9) scRPoll.nd rfl (.inl rfl))) (fun _ _ _ _ _ => pts_nil) (fun _ _ _ _ _ => (pe_tup (pa_cons (pe_ix ix_list (pv 2) (pe_op op_sub (pv 9) pe_int) (fun _ _ => rfl)) (pa_cons (pe_ix ix_list (pv 2) (pv 9) (fun _ _ => rfl)) pa_nil)))))
      (pss_cons (ps_set (i := 4) scRPoll.nd rfl (.inl rfl) (pe_op op_mod (pe_call G__law_next hr (by rfl) T__law_next.g T__law_next.F.kp T__law_next.b .nil pass0 (pa_cons (pv 0) pa_nil)) pe_int))
      (Evl.pss_cut (ps_if (pt_cmpR op_eq (pv 4) pe_int (nomark _))
        (pss_one (ps_expr (pe_bm PySem.F.plainAttrs_list PySem.F.slot_list_pop PySem.F.type_list_pop mt_popAt (pv 3) (pa_cons (pe_op op_mod (pe_call G__law_next hr (by rfl) T__law_next.g T__law_next.F.kp T__law_next.b .nil pass0 (pa_cons (pv 0) pa_nil)) (pe_callB call_len_seq (by rfl) B.len PySem.boot_len (pa_cons (pv 3) pa_nil))) pa_nil))))
        pss_nil)
      (Evl.pss_cut (ps_if (pt_cmpR op_eq (pv 4) pe_int (nomark _))
        (pss_cons (ps_set (i := 5) scRPoll.nd rfl (.inl rfl) (pe_op op_mod (pe_call G__law_next hr (by rfl) T__law_next.g T__law_next.F.kp T__law_next.b .nil pass0 (pa_cons (pv 0) pa_nil)) (pv 1)))
        (pss_cons (ps_set (i := 6) scRPoll.nd rfl (.inl rfl) (pe_op op_mod (pe_op op_add (pe_op op_add (pv 5) pe_int) (pe_op op_mod (pe_call G__law_next hr (by rfl) T__law_next.g T__law_next.F.kp T__law_next.b .nil pass0 (pa_cons (pv 0) pa_nil)) (pe_op op_sub (pv 1) pe_int))) (pv 1)))
        (pss_one (ps_if (PW.pt (pw_and (pt_cmpR (op_notInD (units65 hr)) (pe_tup (pa_cons (pv 5) (pa_cons (pv 6) pa_nil))) (pv 3) (by rfl)) (pw_and1 (pt_cmpR (op_notInD (units65 hr)) (pe_tup (pa_cons (pv 6) (pa_cons (pv 5) pa_nil))) (pv 3) (by rfl)))))
          (pss_one (ps_expr (pe_bm PySem.F.plainAttrs_list PySem.F.slot_list_append PySem.F.type_list_append mt_append (pv 3) (pa_cons (pe_tup (pa_cons (pv 5) (pa_cons (pv 6) pa_nil))) pa_nil))))
          pss_nil))))
        pss_nil)
      (pss_cons (ps_set (i := 7) scRPoll.nd rfl (.inr rfl) (pe_call G__law_by_arcs hr (by rfl) T__law_by_arcs.g T__law_by_arcs.F.kp T__law_by_arcs.b .nil pass0 (pa_cons (pv 0) (pa_cons (pv 1) (pa_cons (pe_slice sl_list (pv 3) po_none (po_some pe_int)) pa_nil)))))
      (pss_cons (ps_set (i := 8) scRPoll.nd rfl (.inr rfl) (pe_listRg rfl (by rfl) B.list (prg_1 (by rfl) B.range (pe_callB call_len_seq (by rfl) B.len PySem.boot_len (pa_cons (pv 7) pa_nil)))))
      (pss_one (ps_ret (pe_lc (own := [("order", 10)]) (g := (gName 10)) (tt := tYes) (te := (tOp (rIxL K) (tVar 7) (tBM K "list" rPopAt (tVar 8) (tCons (tOp (rI (fun _ j => 0 < j) fun i j => .int (i % j)) (tCall spNext [] E0 (tCons (tVar 0) tNil)) (tCB (rLenS K) (tCons (tVar 8) tNil))) tNil)))) rfl scRPoll.nd (pi_list (pv 7)) (blkOk_by (N := ["deck", "n", "some", "arcs", "way", "one", "other", "found", "left", "k", "order"]) (sc := defScope s_law_ring_poll) (by decide +kernel)) (fun _ _ _ _ _ => (pg_name (i := 10) scRPoll.nd rfl (.inl rfl))) (fun _ _ _ _ _ => pts_nil) (fun _ _ _ _ _ => (pe_ix ix_list (pv 7) (pe_bm PySem.F.plainAttrs_list PySem.F.slot_list_pop PySem.F.type_list_pop mt_popAt (pv 8) (pa_cons (pe_op op_mod (pe_call G__law_next hr (by rfl) T__law_next.g T__law_next.F.kp T__law_next.b .nil pass0 (pa_cons (pv 0) pa_nil)) (pe_callB call_len_seq (by rfl) B.len PySem.boot_len (pa_cons (pv 8) pa_nil))) pa_nil)) (fun _ _ => rfl))))))))))))), ?_⟩
    -- some
    refine ⟨_, rfl, _, rfl, d, n, rfl, hD, by omega, fun xs o H1 ox no ho nod D1 k1 => ?_⟩
    refine ⟨_, rfl, d, rfl, D1, fun v1 H2 _ _ D2 k2 => ⟨v1, 7, rfl, rfl, (show (0 : Int) < 7 by decide), 3, _, rfl, rfl, _, rfl, o, _, rfl, SqL.of (k2 _ _ ho nod), fun sm nsm => ?_⟩⟩
    have b1 := mod_b v1 (m := 7) (by decide)
    obtain ⟨c, ec⟩ : ∃ c : Nat, (3 : Int) + v1 % 7 = (c : Int) := ⟨(3 + v1 % 7).toNat, by omega⟩
    have ecut : cutV (xs.map V.int) none (some ((3 : Int) + v1 % 7)) = (xs.take c).map V.int := by rw [ec, cut_ints, cutI_head]
    have hsm : (upd H2 sm (.lst (cutV (xs.map V.int) none (some ((3 : Int) + v1 % 7))))) sm = some (.lst ((xs.take c).map V.int)) := by rw [upd_same, ecut]
    have D3 := D2.new (o := .lst (cutV (xs.map V.int) none (some ((3 : Int) + v1 % 7)))) nsm
    have k3 : KeepD d H (upd H2 sm (.lst (cutV (xs.map V.int) none (some ((3 : Int) + v1 % 7))))) := (k1.trans k2).trans (KeepD.new nsm)
    have nsd := D2.ne nsm
    have hnd : (xs.take c).Nodup := List.Sublist.nodup (List.take_sublist _ _) ox.nodup
    have hmem : ∀ x ∈ xs.take c, 0 ≤ x ∧ x < n := fun x hx => ox.mem (List.mem_of_mem_take hx)
    obtain ⟨m, hml, hm3, hm9⟩ : ∃ m, (xs.take c).length = m ∧ 3 ≤ m ∧ m ≤ 9 := ⟨_, rfl, by rw [List.length_take, ox.len]; omega, by rw [List.length_take, ox.len]; omega⟩
    generalize xs.take c = ys at hsm hnd hmem hml ⊢
    generalize upd H2 sm (.lst (cutV (xs.map V.int) none (some ((3 : Int) + v1 % 7)))) = H3 at hsm D3 k3 ⊢
    have hymap : (ys.map V.int).length = m := by rw [List.length_map, hml]
    -- arcs
    refine ⟨_, rfl, sm, _, rfl, .inl (SqL.of hsm), _, rfl, by rw [hymap]; omega, by rw [hymap]; omega, fun ar nar => ?_⟩
    rw [hymap, Int.toNat_natCast]
    have nard := D3.ne nar
    refine lc_range (lo := 0) (n := m) (fun i G => ∃ ps : List Arc, G ar = some (.lst (aV ps)) ∧ ps.length = i ∧ (∀ p ∈ ps, G p.1 = some (.tup [.int (p.2.1 : Int), .int (p.2.2 : Int)]) ∧ p.2.1 < n ∧ p.2.2 < n ∧ p.2.1 ≠ p.2.2) ∧ Same H3 G) ⟨[], upd_same, rfl, fun p h => absurd h List.not_mem_nil, same_new nar⟩ (fun i G hi hP => ?_) (fun G hP => ?_)
    · obtain ⟨ps, har, hpl, hps, sG⟩ := hP
      have hsmG := sG _ _ hsm
      rw [show (0 : Int) + (i : Int) = (i : Int) by omega]
      obtain ⟨j, hj, hji, eat⟩ := at_back (by omega) hml hi
      rw [if_pos (by omega)] at hji
      have hxi : ys[i]? = some (ys.getD i 0) := by
        rw [List.getD_eq_getElem?_getD, List.getElem?_eq_getElem (by omega)]
        rfl
      have hxj : ys[j]? = some (ys.getD j 0) := by
        rw [List.getD_eq_getElem?_getD, List.getElem?_eq_getElem (by omega)]
        rfl
      have mi := hmem _ (List.mem_of_getElem? hxi)
      have mj := hmem _ (List.mem_of_getElem? hxj)
      have hne : ys.getD j 0 ≠ ys.getD i 0 := fun e => hji (by
        rw [e] at hxj
        obtain ⟨g1, e1⟩ := List.getElem?_eq_some_iff.mp hxj
        obtain ⟨g2, e2⟩ := List.getElem?_eq_some_iff.mp hxi
        exact (List.getElem_inj hnd).mp (e1.trans e2.symm))
      obtain ⟨un, hun⟩ : ∃ un : Nat, ys.getD j 0 = (un : Int) := ⟨(ys.getD j 0).toNat, by omega⟩
      obtain ⟨vn, hvn⟩ : ∃ vn : Nat, ys.getD i 0 = (vn : Int) := ⟨(ys.getD i 0).toNat, by omega⟩
      rw [hun] at eat hne mj
      rw [hvn] at hxi hne mi
      refine ⟨rfl, _, rfl, _, rfl, (i : Int), 1, rfl, rfl, sm, _, _, _, rfl, rfl, SqL.of hsmG, eat, _, rfl, _, rfl, sm, _, _, _, rfl, rfl, SqL.of hsmG, at_of (j := i) rfl (int_at hxi), line_small (by show 2 ≤ 16777216; decide), fun t nt => ?_⟩
      have st := same_new (o := .tup [.int (un : Int), .int (vn : Int)]) nt
      have ntar : t ≠ ar := (ne_of_none har nt).symm
      refine ⟨_, st _ _ har, line_lt (by rw [List.length_map]; omega), ps ++ [(t, un, vn)], by rw [upd_same]; unfold aV; rw [List.map_append]; rfl, by rw [List.length_append, hpl]; rfl, fun p hp => ?_, fun b ob e => ?_⟩
      · rcases List.mem_append.mp hp with h | h
        · obtain ⟨g1, g2⟩ := hps p h
          refine ⟨?_, g2⟩
          rw [upd_ne (fun z => by rw [z, har] at g1; cases g1)]
          exact st _ _ g1
        · rw [List.mem_singleton.mp h]
          exact ⟨by rw [upd_ne ntar, upd_same], by show un < n; omega, by show vn < n; omega, by show un ≠ vn; omega⟩
      · rw [upd_ne (ne_of_none e nar)]
        exact st _ _ (sG _ _ e)
    obtain ⟨ps, har, hpl, hps, sG⟩ := hP
    have DG := D3.same sG
    have kG := k3.trans (KeepD.of_same sG)
    have nHar : H ar = none := k3.none nar nard
    clear D1 D2 D3 k1 k2 k3 hsm ho sG
    -- way
    refine ⟨_, rfl, d, rfl, DG, fun v2 G1 _ _ D1 k1 => ⟨v2, 4, rfl, rfl, (show (0 : Int) < 4 by decide), ?_⟩⟩
    have har1 := k1 _ _ har nard
    have hps1 : ∀ p ∈ ps, G1 p.1 = some (.tup [.int (p.2.1 : Int), .int (p.2.2 : Int)]) ∧ p.2.1 < n ∧ p.2.2 < n ∧ p.2.1 ≠ p.2.2 := fun p hp => ⟨k1 _ _ (hps p hp).1 (tup_ne_dq DG (hps p hp).1), (hps p hp).2⟩
    have kG1 := kG.trans k1
    -- if way == 0
    refine ⟨fun τ G' => ∃ ps : List Arc, τ = [some (.ref d), some (.int n), some (.ref sm), some (.ref ar), some (.int (v2 % 4)), none, none, none, none, none, none] ∧ ArAt G' ar ps n ∧ 2 ≤ ps.length ∧ ps.length ≤ 9 ∧ DqAt G' d ∧ KeepD d H G', ?_, fun τ G' hM => ?_⟩
    · refine ⟨_, rfl, rfl, _, rfl, ite2 (fun _ => ?_) (fun _ => ⟨ps, rfl, ⟨har1, hps1⟩, by omega, by omega, D1, kG1⟩)⟩
      refine ⟨_, rfl, .inl ⟨rfl, _, SqL.of har1⟩, _, rfl, d, rfl, D1, fun v3 G2 _ _ D2 k2 => ?_⟩
      have har2 := k2 _ _ har1 nard
      have hal2 : (aV ps).length = m := by rw [List.length_map, hpl]
      refine ⟨_, rfl, ar, _, rfl, .inl (SqL.of har2), v3, _, rfl, rfl, by rw [hal2]; omega, ?_⟩
      obtain ⟨j, ej, hj⟩ : ∃ j : Nat, v3 % (((aV ps).length : Nat) : Int) = (j : Int) ∧ j < m := by
        rw [hal2]
        have h1 := mod_b v3 (m := (m : Int)) (by omega)
        exact ⟨(v3 % (m : Int)).toNat, by omega, by omega⟩
      obtain ⟨p, ep⟩ : ∃ p, ps[j]? = some p := ⟨ps[j]'(by omega), List.getElem?_eq_getElem (by omega)⟩
      refine ⟨ar, _, _, j, V.ref p.1, rfl, rfl, har2, by rw [ej]; omega, by rw [ej]; omega, seq_ix ej (by rw [hal2]; omega), by rw [List.getElem?_map, ep]; rfl, ?_⟩
      have hel : (ps.eraseIdx j).length = m - 1 := by rw [List.length_eraseIdx, if_pos (by omega), hpl]
      refine ⟨ps.eraseIdx j, rfl, ⟨?_, fun p' hp' => ?_⟩, by omega, by omega, D2.upd nard, fun b ob e nb => by rw [upd_ne (ne_of_none e nHar)]; exact (kG1.trans k2) b ob e nb⟩
      · rw [upd_same]
        unfold aV
        rw [← erase_aV]
      · obtain ⟨g1, g2⟩ := hps1 p' (List.mem_of_mem_eraseIdx hp')
        refine ⟨?_, g2⟩
        have g3 := k2 _ _ g1 (tup_ne_dq D1 g1)
        rw [upd_ne (fun z => by rw [z, har2] at g3; cases g3)]
        exact g3
    obtain ⟨ps, rfl, hA, hp2, hp9, DG, kG⟩ := hM
    clear hps1 har1 D1 k1 kG1 hps har hpl
    have hw4 := mod_b v2 (m := 4) (by decide)
    -- if way == 1
    refine ⟨fun τ G1 => ∃ (ps : List Arc) (y5 y6 : Option V), τ = [some (.ref d), some (.int n), some (.ref sm), some (.ref ar), some (.int (v2 % 4)), y5, y6, none, none, none, none] ∧ ArAt G1 ar ps n ∧ 2 ≤ ps.length ∧ ps.length ≤ 10 ∧ DqAt G1 d ∧ KeepD d H G1, ?_, fun τ G1 hM => ?_⟩
    · refine ⟨_, rfl, rfl, _, rfl, ite2 (fun _ => ?_) (fun _ => ⟨ps, _, _, rfl, hA, hp2, by omega, DG, kG⟩)⟩
      refine ⟨_, rfl, d, rfl, DG, fun v3 G2 _ _ D2 k2 => ⟨_, rfl, v3, n, rfl, rfl, (show (0 : Int) < (n : Int) by omega), ?_⟩⟩
      obtain ⟨un, hun, hul⟩ : ∃ un : Nat, v3 % (n : Int) = (un : Int) ∧ un < n := by
        have h1 := mod_b v3 (m := (n : Int)) (by omega)
        exact ⟨(v3 % (n : Int)).toNat, by omega, by omega⟩
      show gName 5 (V.int (v3 % (n : Int))) _ _ _
      rw [hun]
      refine ⟨_, rfl, (un : Int), 1, rfl, rfl, _, rfl, d, rfl, D2, fun v4 G3 _ _ D3 k3 => ⟨_, rfl, (n : Int), 1, rfl, rfl, v4, _, rfl, rfl, (show (0 : Int) < (n : Int) - 1 by omega), _, _, rfl, rfl, _, rfl, _, (n : Int), rfl, rfl, (show (0 : Int) < (n : Int) by omega), ?_⟩⟩
      have h4 := mod_b v4 (m := (n : Int) - 1) (by omega)
      obtain ⟨vn, hvn, hvl, hne⟩ : ∃ vn : Nat, ((un : Int) + 1 + v4 % ((n : Int) - 1)) % (n : Int) = (vn : Int) ∧ vn < n ∧ un ≠ vn := by
        have h1 := mod_b ((un : Int) + 1 + v4 % ((n : Int) - 1)) (m := (n : Int)) (by omega)
        refine ⟨(((un : Int) + 1 + v4 % ((n : Int) - 1)) % (n : Int)).toNat, by omega, by omega, fun e => ?_⟩
        have e2 : ((un : Int) + 1 + v4 % ((n : Int) - 1)) % (n : Int) = (un : Int) := by omega
        by_cases c : (un : Int) + 1 + v4 % ((n : Int) - 1) < (n : Int)
        · rw [Int.emod_eq_of_lt (by omega) c] at e2
          omega
        · have e3 : ((un : Int) + 1 + v4 % ((n : Int) - 1)) % (n : Int) = (un : Int) + 1 + v4 % ((n : Int) - 1) - (n : Int) := by
            rw [← Int.sub_emod_right, Int.emod_eq_of_lt (by omega) (by omega)]
          omega
      show gName 6 (V.int (((un : Int) + 1 + v4 % ((n : Int) - 1)) % (n : Int))) _ _ _
      rw [hvn]
      have k23 := k2.trans k3
      have har3 := k23 _ _ hA.top nard
      have hps3 : ∀ p ∈ ps, G3 p.1 = some (.tup [.int (p.2.1 : Int), .int (p.2.2 : Int)]) ∧ p.2.1 < n ∧ p.2.2 < n ∧ p.2.1 ≠ p.2.2 := fun p hp => ⟨k23 _ _ (hA.each p hp).1 (tup_ne_dq DG (hA.each p hp).1), (hA.each p hp).2⟩
      have kG3 := kG.trans k23
      have fin : ∀ G4, Same G3 G4 → ∃ (ps : List Arc) (y5 y6 : Option V), ([some (.ref d), some (.int n), some (.ref sm), some (.ref ar), some (.int (v2 % 4)), some (.int (un : Int)), some (.int (vn : Int)), none, none, none, none] : L2.St) = [some (.ref d), some (.int n), some (.ref sm), some (.ref ar), some (.int (v2 % 4)), y5, y6, none, none, none, none] ∧ ArAt G4 ar ps n ∧ 2 ≤ ps.length ∧ ps.length ≤ 10 ∧ DqAt G4 d ∧ KeepD d H G4 := fun G4 s4 => ⟨ps, _, _, rfl, ⟨s4 _ _ har3, fun p hp => ⟨s4 _ _ (hps3 p hp).1, (hps3 p hp).2⟩⟩, hp2, by omega, D3.same s4, kG3.trans (KeepD.of_same s4)⟩
      refine ⟨_, rfl, _, rfl, line_small (by show 2 ≤ 16777216; decide), fun t1 nt1 => ?_⟩
      have s4 := same_new (o := .tup [.int (un : Int), .int (vn : Int)]) nt1
      refine ⟨_, rfl, _, _, dp_pair upd_same, .lst (SqL.of (s4 _ _ har3)) (dp_pairs ps fun p hp => s4 _ _ (hps3 p hp).1), shaped_pair _ _, shaped_pairs ps, _, rfl, ite2 (fun _ => ?_) (fun _ => iteF (fin _ s4))⟩
      refine ⟨_, rfl, _, rfl, line_small (by show 2 ≤ 16777216; decide), fun t2 nt2 => ?_⟩
      have s5 := s4.trans (same_new (o := .tup [.int (vn : Int), .int (un : Int)]) nt2)
      refine ⟨_, rfl, _, _, dp_pair upd_same, .lst (SqL.of (s5 _ _ har3)) (dp_pairs ps fun p hp => s5 _ _ (hps3 p hp).1), shaped_pair _ _, shaped_pairs ps, _, rfl, ite2 (fun _ => ?_) (fun _ => fin _ s5)⟩
      have har5 := s5 _ _ har3
      refine ⟨_, rfl, .inl ⟨rfl, _, SqL.of har5⟩, _, rfl, _, rfl, line_small (by show 2 ≤ 16777216; decide), fun t3 nt3 => ?_⟩
      have s6 := s5.trans (same_new (o := .tup [.int (un : Int), .int (vn : Int)]) nt3)
      have har6 := s6 _ _ har3
      have nt3ar : t3 ≠ ar := (ne_of_none har5 nt3).symm
      refine ⟨ar, _, _, rfl, rfl, har6, line_lt (by rw [List.length_map]; omega), ?_⟩
      refine ⟨ps ++ [(t3, un, vn)], _, _, rfl, ⟨by rw [upd_same]; unfold aV; rw [List.map_append]; rfl, fun p hp => ?_⟩, by rw [List.length_append]; omega, by rw [List.length_append]; show _ + 1 ≤ 10; omega, (D3.same s6).upd nard, fun b ob e nb => by rw [upd_ne (ne_of_none e nHar)]; exact (kG3.trans (KeepD.of_same s6)) b ob e nb⟩
      rcases List.mem_append.mp hp with h | h
      · obtain ⟨g1, g2⟩ := hps3 p h
        refine ⟨?_, g2⟩
        have g3 := s6 _ _ g1
        rw [upd_ne (fun z => by rw [z, har6] at g3; cases g3)]
        exact g3
      · rw [List.mem_singleton.mp h]
        exact ⟨by rw [upd_ne nt3ar, upd_same], hul, hvl, hne⟩
    obtain ⟨ps, y5, y6, rfl, hA, hp2, hp10, DG, kG⟩ := hM
    -- found
    refine ⟨_, rfl, _, rfl, _, rfl, 10, rfl, ar, _, rfl, SqL.of hA.top, fun a10 na10 => ?_⟩
    have ecut2 : cutV (aV ps) none (some 10) = aV ps := by
      unfold cutV
      rw [HT.sIx_none, show (10 : Int) = ((10 : Nat) : Int) from rfl, HT.sIx_nat, List.drop_zero, Nat.sub_zero, List.length_map]
      rw [Nat.min_eq_right (by omega), List.take_of_length_le (by rw [List.length_map]; exact Nat.le_refl _)]
    rw [ecut2]
    have s1 := same_new (o := .lst (aV ps)) na10
    have na10d := DG.ne na10
    refine ⟨d, a10, ps, n, rfl, DG.same s1, ⟨upd_same, fun p hp => ⟨s1 _ _ (hA.each p hp).1, (hA.each p hp).2⟩⟩, by omega, by omega, hp10, na10d, fun l as rs G2 hO hrl nl nas nld nda D2 k2 => ?_⟩
    have kG2 : KeepD d H G2 := (kG.trans (KeepD.of_same s1)).trans k2
    have hal := hO.ll.len
    have hvl : (as.map V.ref).length = rs.length := by rw [List.length_map, hal]
    -- left
    refine ⟨_, rfl, l, _, rfl, .inl (SqL.of hO.top), _, rfl, RgOk.of_le (by omega) (by rw [hvl]; omega) (by omega) (by omega), fun lf nlf => ?_⟩
    rw [hvl]
    have s3 := same_new (o := .lst (rgV 0 ((rs.length : Nat) : Int))) nlf
    have hlf : (upd G2 lf (.lst (rgV 0 ((rs.length : Nat) : Int)))) lf = some (.lst ((rg rs.length).map V.int)) := by rw [upd_same, rg_V]
    have hO3 := hO.same s3
    have D3 := D2.same s3
    have nlfd := D2.ne nlf
    have nlfl : lf ≠ l := (ne_of_none hO.top nlf).symm
    have nlfa : lf ∉ as := fun h => by
      obtain ⟨ob, e⟩ := hO.ll.tracked h
      rw [nlf] at e
      cases e
    have kG3 := kG2.trans (KeepD.of_same s3)
    generalize upd G2 lf (.lst (rgV 0 ((rs.length : Nat) : Int))) = G3 at hlf hO3 D3 kG3 ⊢
    refine ⟨_, rfl, l, rfl, ⟨_, SqL.of hO3.top⟩, fun D nD => ?_⟩
    have nDd := D3.ne nD
    have nDl : D ≠ l := (ne_of_none hO3.top nD).symm
    have nDlf : D ≠ lf := (ne_of_none hlf nD).symm
    have nDa : D ∉ as := fun h => by
      obtain ⟨ob, e⟩ := hO3.ll.tracked h
      rw [nD] at e
      cases e
    have nHlf : H lf = none := kG2.none nlf nlfd
    have nHD : H D = none := kG3.none nD nDd
    refine lc_list (K := K) (a := l) (xs := as.map V.ref) (fun i G4 => ∃ (rest : List Int) (bs : List Addr) (ss : List (List Int)), G4 lf = some (.lst (rest.map V.int)) ∧ rest.length + i = rs.length ∧ (∀ x ∈ rest, 0 ≤ x ∧ x < rs.length) ∧ G4 D = some (.lst (bs.map V.ref)) ∧ LL G4 bs ss ∧ (∀ r ∈ ss, IsOrd n r) ∧ ss.length = i ∧ (∀ b ∈ bs, b ∈ as) ∧ OL G4 l as rs n ∧ DqAt G4 d ∧ KeepD d H G4)
      ⟨rg rs.length, [], [], by rw [upd_ne nDlf.symm]; exact hlf, by rw [rg_len]; rfl, fun x hx => rg_mem.mp hx, upd_same, trivial, fun r h => absurd h List.not_mem_nil, rfl, fun b h => absurd h List.not_mem_nil, hO3.same (same_new nD), D3.new nD, kG3.trans (KeepD.new nD)⟩ (fun i G4 _ hP => by
        obtain ⟨_, _, _, _, _, _, _, _, _, _, _, hO4, _⟩ := hP
        exact SqL.of hO4.top) (fun i x G4 hx hP => ?_) (fun G4 hP => ?_)
    · obtain ⟨rest, bs, ss, hlf4, hrl4, hrm, hD4, hLL4, ho4, hsl, hbs, hO4, D4, k4⟩ := hP
      have hi := (List.getElem?_eq_some_iff.mp hx).1
      rw [hvl] at hi
      have hlm : (rest.map V.int).length = rest.length := List.length_map _
      have hbl := hLL4.len
      refine ⟨rfl, _, rfl, _, rfl, .inl ⟨rfl, _, SqL.of hlf4⟩, _, rfl, d, rfl, D4, fun v5 G5 _ _ D5 k5 => ?_⟩
      have hlf5 := k5 _ _ hlf4 nlfd
      have hD5 := k5 _ _ hD4 nDd
      have hO5 := hO4.keepD k5 nld nda
      have hLL5 : LL G5 bs ss := hLL4.keep fun b hb ob e => k5 b ob e (fun z => nda (by rw [← z]; exact hbs b hb))
      refine ⟨_, rfl, lf, _, rfl, .inl (SqL.of hlf5), v5, _, rfl, rfl, by rw [hlm]; omega, ?_⟩
      obtain ⟨j, ej, hj⟩ : ∃ j : Nat, v5 % (((rest.map V.int).length : Nat) : Int) = (j : Int) ∧ j < rest.length := by
        rw [hlm]
        have h1 := mod_b v5 (m := ((rest.length : Nat) : Int)) (by omega)
        exact ⟨(v5 % ((rest.length : Nat) : Int)).toNat, by omega, by omega⟩
      obtain ⟨y, ey⟩ : ∃ y, rest[j]? = some y := ⟨rest[j], List.getElem?_eq_getElem hj⟩
      have hy := hrm y (List.mem_of_getElem? ey)
      obtain ⟨yn, rfl⟩ : ∃ yn : Nat, y = (yn : Int) := ⟨y.toNat, by omega⟩
      obtain ⟨b, eb⟩ : ∃ b, as[yn]? = some b := ⟨as[yn]'(by omega), List.getElem?_eq_getElem (by omega)⟩
      obtain ⟨r, er, hb⟩ := hO5.ll.get eb
      have hbm := List.mem_of_getElem? eb
      refine ⟨lf, _, _, j, _, rfl, rfl, hlf5, by rw [ej]; omega, by rw [ej]; omega, seq_ix ej (by rw [hlm]; omega), int_at ey, ?_⟩
      have k6 : ∀ c ob, G5 c = some ob → c ≠ lf → (upd G5 lf (.lst ((rest.map V.int).eraseIdx j))) c = some ob := fun c ob e nc => by rw [upd_ne nc]; exact e
      refine ⟨l, _, _, _, rfl, rfl, SqL.of (k6 _ _ hO5.top nlfl.symm), at_of (j := yn) rfl (ref_at eb), _, k6 _ _ hD5 nDlf, line_lt (by rw [List.length_map]; omega), ?_⟩
      have nbD : ∀ c ∈ as, c ≠ D := fun c hc z => nDa (by rw [← z]; exact hc)
      have nbl : ∀ c ∈ as, c ≠ lf := fun c hc z => nlfa (by rw [← z]; exact hc)
      have k7 : ∀ c ob, G5 c = some ob → c ≠ lf → c ≠ D → (upd (upd G5 lf (.lst ((rest.map V.int).eraseIdx j))) D (.lst (bs.map V.ref ++ [.ref b]))) c = some ob := fun c ob e n1 n2 => by rw [upd_ne n2]; exact k6 c ob e n1
      refine ⟨rest.eraseIdx j, bs ++ [b], ss ++ [r], by rw [upd_ne nDlf.symm, upd_same, map_erase], by rw [List.length_eraseIdx, if_pos hj]; omega, fun x hx => hrm x (List.mem_of_mem_eraseIdx hx), by rw [upd_same, List.map_append]; rfl, LL.snoc (hLL5.keep fun c hc ob e => k7 c ob e (nbl c (hbs c hc)) (nbD c (hbs c hc))) (k7 b _ hb (nbl b hbm) (nbD b hbm)), fun r' hr' => ?_, by rw [List.length_append, hsl]; rfl, fun c hc => ?_, ⟨k7 l _ hO5.top nlfl.symm nDl.symm, hO5.ll.keep fun c hc ob e => k7 c ob e (nbl c hc) (nbD c hc), hO5.ord, hO5.n1, hO5.n2⟩, (D5.upd nlfd).upd nDd, fun c ob e nc => k7 c ob (k5 c ob (k4 c ob e nc) nc) (ne_of_none e nHlf) (ne_of_none e nHD)⟩
      · rcases List.mem_append.mp hr' with h | h
        · exact ho4 r' h
        · rw [List.mem_singleton.mp h]
          exact hO.ord r (List.mem_of_getElem? er)
      · rcases List.mem_append.mp hc with h | h
        · exact hbs c h
        · rw [List.mem_singleton.mp h]
          exact hbm
    · obtain ⟨rest, bs, ss, hlf4, hrl4, hrm, hD4, hLL4, ho4, hsl, hbs, hO4, D4, k4⟩ := hP
      rw [hvl] at hsl
      exact q D bs ss G4 ⟨hD4, hLL4, ho4, by omega, by omega⟩ (by omega) (by omega) nHD nDd (fun h => nda (hbs d h)) D4 k4
end
end Fo
namespace Fo
open PySem PySem.Spec PyProof.Rows L2
theorem turns4 (n : Nat) : ∃ m : Nat, (if (if 4 < (n : Int) then 4 else (n : Int)) > 1 then (if 4 < (n : Int) then 4 else (n : Int)) else 1) = (m : Int) ∧ m ≤ 4 := by
  by_cases c : 4 < (n : Int)
  · exact ⟨4, by rw [if_pos c]; rfl, by decide⟩
  · rw [if_neg c]
    by_cases c2 : (n : Int) > 1
    · exact ⟨n, by rw [if_pos c2], by omega⟩
    · exact ⟨1, by rw [if_neg c2]; rfl, by decide⟩
section
variable {P : Program} {w : World} {K : PySem.W.Frag} {mg : Str → Option Value} {base : Heap}
theorem scLaw : FnScope ["script", "k", "deck", "n", "poll", "due", "handed", "again", "found", "one"] ["script"] (defScope s_law) := ⟨rfl, rfl, rfl, by decide +kernel, rfl, by decide +kernel, by decide +kernel⟩
set_option maxHeartbeats 8000000 in
theorem ok_law {f f1 f2 f3 f4 f5 f6 f7 f8 f9 : Addr} {fd d1 d2 d3 d4 d5 d6 d7 d8 d9 : FuncData} (T : Fun K "law" "law" s_law f fd) (T__law_deck : Df K mg "_law_deck" s_law_deck ["cell", "many"] f1 d1) (T__law_cell_at : Df K mg "_law_cell_at" s_law_cell_at ["script", "k"] f2 d2) (T__law_next : Df K mg "_law_next" s_law_next ["deck"] f3 d3) (T__law_poll : Df K mg "_law_poll" s_law_poll ["deck", "n", "most"] f4 d4) (T__law_copied : Df K mg "_law_copied" s_law_copied ["orders"] f5 d5) (T__law_ring_poll : Df K mg "_law_ring_poll" s_law_ring_poll ["deck", "n"] f6 d6) (T__law_due : Df K mg "_law_due" s_law_due ["poll"] f7 d7) (T_ring_of : Df K mg "ring_of" s_ring_of ["poll"] f8 d8) (T__law_whole : Df K mg "_law_whole" s_law_whole ["thing"] f9 d9)
    (G__law_deck : FnOk P w K mg base CX0 11 f1 d1 ["cell", "many"] spDeckN) (G__law_cell_at : FnOk P w K mg base CX0 11 f2 d2 ["script", "k"] (spCell K)) (G__law_next : FnOk P w K mg base CX0 11 f3 d3 ["deck"] spNext) (G__law_poll : FnOk P w K mg base CX0 11 f4 d4 ["deck", "n", "most"] spPoll) (G__law_copied : FnOk P w K mg base CX0 11 f5 d5 ["orders"] spCopied) (G__law_ring_poll : FnOk P w K mg base CX0 11 f6 d6 ["deck", "n"] spRPoll) (G__law_due : FnOk P w K mg base CX0 11 f7 d7 ["poll"] spDue) (G_ring_of : FnOk P w K mg base CX0 11 f8 d8 ["poll"] spRing) (G__law_whole : FnOk P w K mg base CX0 11 f9 d9 ["thing"] spWhole) (B : Bi mg) : FnOk P w K mg base CX0 12 f fd ["script"] (spLaw K) := by
  refine T.ok scLaw (fun vs H Q E h => ?_) (fun cdv A outer s H vs Q E hr h => ?_)
  · obtain ⟨a, ns, rfl, _⟩ := h
    rfl
  · obtain ⟨a, ns, rfl, hS, hlen, q⟩ := h
    refine ⟨_, 
      (pss_cons (ps_for PassesOwn.never rfl (pi_range1 (by rfl) B.range (pa_cons (pe_callB (call_max2 rfl) (by rfl) B.max (by decide +kernel) (pa_cons pe_int (pa_cons (pe_callB (call_min2 rfl) (by rfl) B.min (by decide +kernel) (pa_cons (pe_callB call_len_seq (by rfl) B.len PySem.boot_len (pa_cons (pv 0) pa_nil)) (pa_cons pe_int pa_nil))) pa_nil))) pa_nil)) (pg_name (i := 1) scLaw.nd rfl (.inl rfl))
        (pss_cons (ps_set (i := 2) scLaw.nd rfl (.inl rfl) (pe_call G__law_deck hr (by rfl) T__law_deck.g T__law_deck.F.kp T__law_deck.b .nil pass0 (pa_cons (pe_call G__law_cell_at hr (by rfl) T__law_cell_at.g T__law_cell_at.F.kp T__law_cell_at.b .nil pass0 (pa_cons (pv 0) (pa_cons (pv 1) pa_nil))) (pa_cons pe_int pa_nil))))
        (pss_cons (ps_set (i := 3) scLaw.nd rfl (.inl rfl) (pe_ix ix_list (pe_lst (pa_cons (pe_op op_add pe_int (pe_op op_mod (pe_call G__law_next hr (by rfl) T__law_next.g T__law_next.F.kp T__law_next.b .nil pass0 (pa_cons (pv 2) pa_nil)) pe_int)) (pa_cons (pe_op op_add pe_int (pe_op op_mod (pe_call G__law_next hr (by rfl) T__law_next.g T__law_next.F.kp T__law_next.b .nil pass0 (pa_cons (pv 2) pa_nil)) pe_int)) (pa_cons pe_int pa_nil)))) (pe_op op_mod (pe_call G__law_next hr (by rfl) T__law_next.g T__law_next.F.kp T__law_next.b .nil pass0 (pa_cons (pv 2) pa_nil)) pe_int) (fun _ _ => rfl)))
        (pss_cons (ps_set (i := 4) scLaw.nd rfl (.inl rfl) (pe_call G__law_poll hr (by rfl) T__law_poll.g T__law_poll.F.kp T__law_poll.b .nil pass0 (pa_cons (pv 2) (pa_cons (pv 3) (pa_cons (pe_ix ix_list (pe_lst (pa_cons pe_int (pa_cons pe_int pa_nil))) (pe_op op_mod (pe_call G__law_next hr (by rfl) T__law_next.g T__law_next.F.kp T__law_next.b .nil pass0 (pa_cons (pv 2) pa_nil)) pe_int) (fun _ _ => rfl)) pa_nil)))))
        (Evl.pss_cut (ps_if (PW.pt (pw_and (pt_cmpR op_gt (pv 3) pe_int (nomark _)) (pw_and1 (pt_cmpR op_eq (pe_op op_mod (pe_call G__law_next hr (by rfl) T__law_next.g T__law_next.F.kp T__law_next.b .nil pass0 (pa_cons (pv 2) pa_nil)) pe_int) pe_int (nomark _)))))
          (pss_one (ps_set (i := 4) scLaw.nd rfl (.inl rfl) (pe_call G__law_ring_poll hr (by rfl) T__law_ring_poll.g T__law_ring_poll.F.kp T__law_ring_poll.b .nil pass0 (pa_cons (pv 2) (pa_cons (pv 3) pa_nil)))))
          pss_nil)
        (pss_cons (ps_set (i := 5) scLaw.nd rfl (.inl rfl) (pe_call G__law_due hr (by rfl) T__law_due.g T__law_due.F.kp T__law_due.b .nil pass0 (pa_cons (pv 4) pa_nil)))
        (pss_cons (ps_set (i := 6) scLaw.nd rfl (.inl rfl) (pe_call G__law_copied hr (by rfl) T__law_copied.g T__law_copied.F.kp T__law_copied.b .nil pass0 (pa_cons (pv 4) pa_nil)))
        (pss_one (ps_for PassesOwn.never rfl (pi_range1 (by rfl) B.range (pa_cons pe_int pa_nil)) (pg_name (i := 7) scLaw.nd rfl (.inl rfl))
          (pss_cons (ps_set (i := 8) scLaw.nd rfl (.inl rfl) (pe_call G_ring_of hr (by rfl) T_ring_of.g T_ring_of.F.kp T_ring_of.b .nil pass0 (pa_cons (pv 6) pa_nil)))
          (Evl.pss_cut (ps_if (pt_cmpR op_isN (pv 5) pe_non (nomark _))
            (pss_one (ps_if (pt_cmpR op_notN (pv 8) pe_non (nomark _))
              (pss_one (ps_ret pe_bl))
              pss_nil))
            (pss_cons (ps_if (PW.pt (pw_or (pt_not (pt_val (pe_callB call_isi (by rfl) B.isinstance (by decide +kernel) (pa_cons (pv 8) (pa_cons (pe_bltn (v := .ty "list") (by rfl) B.list (by decide +kernel) rfl) pa_nil))))) (pw_or (pt_cmpR (op_neD hr.units) (pv 8) (pv 5) (nomark _)) (pw_or1 (pt_cmpR (op_neD hr.units) (pe_lc (own := [("one", 9)]) (g := (gName 9)) (tt := (tNot (tB (tCall spWhole [] E0 (tCons (tVar 9) tNil))))) (te := (tVar 9)) rfl scLaw.nd (pi_list (pv 8)) (blkOk_by (N := ["script", "k", "deck", "n", "poll", "due", "handed", "again", "found", "one"]) (sc := defScope s_law) (by decide +kernel)) (fun _ _ _ _ _ => (pg_name (i := 9) scLaw.nd rfl (.inl rfl))) (fun _ _ _ _ _ => (pts_one (pt_not (pt_val (pe_call G__law_whole hr (by rfl) T__law_whole.g T__law_whole.F.kp T__law_whole.b .nil pass0 (pa_cons (pv 9) pa_nil)))))) (fun _ _ _ _ _ => (pv 9))) (pe_lst pa_nil) (nomark _))))))
              (pss_one (ps_ret pe_bl))
              pss_nil)
            (pss_one (ps_expr (pe_bm PySem.F.plainAttrs_list PySem.F.slot_list_append PySem.F.type_list_append mt_append (pv 8) (pa_cons pe_int pa_nil))))))
          (pss_one (ps_if (pt_cmpR (op_neD hr.units) (pv 6) (pv 4) (nomark _))
            (pss_one (ps_ret pe_bl))
            pss_nil)))))))))))))
      (pss_one (ps_ret pe_bl))), ?_⟩
    refine ⟨_, rfl, a, _, rfl, .inl hS, _, 4, rfl, 1, _, rfl, _, rfl, ?_⟩
    obtain ⟨m, em, hm⟩ := turns4 (ns.map V.int).length
    refine ⟨by rw [em]; omega, by rw [em]; omega, ?_⟩
    rw [em, Int.toNat_natCast]
    refine for_range (n := m) (fun i σ H3 => ∃ (y1 y2 y3 y4 y5 y6 y7 y8 y9 : Option V), σ = [some (.ref a), y1, y2, y3, y4, y5, y6, y7, y8, y9] ∧ Same H H3)
      ⟨_, _, _, _, _, _, _, _, _, rfl, Same.refl _⟩ (fun i σ H3 hi hP => ?_) (fun σ H3 hP => q _)
    obtain ⟨y1, y2, y3, y4, y5, y6, y7, y8, y9, rfl, s3⟩ := hP
    refine ⟨_, rfl, _, rfl, a, ns, i, by rw [show (0 + (i : Int)) = (i : Int) by omega]; rfl, s3.seq hS, fun c => ⟨c, 900, rfl, by decide, by decide, fun d H4 nd D4 s4 => ?_⟩⟩
    have s04 := s3.trans s4
    have nHd : H d = none := s3.free nd
    -- n
    refine ⟨_, rfl, d, rfl, D4, fun v1 H5 _ _ D5 k5 => ⟨v1, 9, rfl, rfl, (show (0 : Int) < 9 by decide), 1, _, rfl, rfl, ?_⟩⟩
    refine ⟨_, rfl, d, rfl, D5, fun v2 H6 _ _ D6 k6 => ⟨v2, 7, rfl, rfl, (show (0 : Int) < 7 by decide), 3, _, rfl, rfl, ?_⟩⟩
    refine ⟨line_small (by show 3 ≤ 16777216; decide), fun t nt => ?_⟩
    have D7 := D6.new (o := .lst [.int (1 + v1 % 9), .int (3 + v2 % 7), .int 9]) nt
    have ntd := D6.ne nt
    refine ⟨_, rfl, d, rfl, D7, fun v3 H8 _ _ D8 k8 => ⟨v3, 3, rfl, rfl, (show (0 : Int) < 3 by decide), ?_⟩⟩
    have b1 := mod_b v1 (m := 9) (by decide)
    have b2 := mod_b v2 (m := 7) (by decide)
    have b3 := mod_b v3 (m := 3) (by decide)
    obtain ⟨n, en, hn1, hn2⟩ : ∃ n : Nat, atI [V.int (1 + v1 % 9), V.int (3 + v2 % 7), V.int 9] (v3 % 3) = some (.int n) ∧ 1 ≤ n ∧ n ≤ 9 := by
      have : v3 % 3 = 0 ∨ v3 % 3 = 1 ∨ v3 % 3 = 2 := by omega
      rcases this with h | h | h <;> rw [h]
      · refine ⟨(1 + v1 % 9).toNat, ?_, by omega, by omega⟩
        rw [Int.toNat_of_nonneg (by omega)]
        rfl
      · refine ⟨(3 + v2 % 7).toNat, ?_, by omega, by omega⟩
        rw [Int.toNat_of_nonneg (by omega)]
        rfl
      · exact ⟨9, rfl, by decide, by decide⟩
    refine ⟨t, _, _, _, rfl, rfl, SqL.of (k8 t _ upd_same ntd), en, ?_⟩
    have kk8 : KeepD d H4 H8 := ((k5.trans k6).trans (KeepD.new nt)).trans k8
    -- poll
    refine ⟨_, rfl, _, rfl, line_small (by show 2 ≤ 16777216; decide), fun t2 nt2 => ?_⟩
    have nt2d := D8.ne nt2
    refine ⟨_, rfl, d, rfl, D8.new nt2, fun v4 H8b _ _ D8b k8b => ⟨v4, 2, rfl, rfl, (show (0 : Int) < 2 by decide), ?_⟩⟩
    have b4 := mod_b v4 (m := 2) (by decide)
    obtain ⟨mo, emo, hmo1, hmo2⟩ : ∃ mo : Nat, atI [V.int 20, V.int 7] (v4 % 2) = some (.int mo) ∧ 1 ≤ mo ∧ mo ≤ 20 := by
      have : v4 % 2 = 0 ∨ v4 % 2 = 1 := by omega
      rcases this with h | h <;> rw [h]
      · exact ⟨20, rfl, by decide, by decide⟩
      · exact ⟨7, rfl, by decide, by decide⟩
    refine ⟨t2, _, _, _, rfl, rfl, SqL.of (k8b t2 _ upd_same nt2d), emo, ?_⟩
    refine ⟨d, n, mo, rfl, D8b, hn1, by omega, hmo1, hmo2, fun l as rs H9 hO hl1 hl2 nl nas nld nda D9 k9 => ?_⟩
    have kk9 : KeepD d H4 H9 := (kk8.trans ((KeepD.new nt2).trans k8b)).trans k9
    have kF : Same H H9 := fun b o e => kk9 b o (s04 b o e) (ne_of_none e nHd)
    clear kk9 kk8 k5 k6 k8 k8b k9 D4 D5 D6 D7 D8 D8b s3 s04 s4
    -- perhaps a poll with a ring
    refine ⟨fun τ G => ∃ (l : Addr) (as : List Addr) (rs : List (List Int)), τ = [some (.ref a), some (.int (0 + (i : Int))), some (.ref d), some (.int n), some (.ref l), y5, y6, y7, y8, y9] ∧ OL G l as rs n ∧ 1 ≤ rs.length ∧ rs.length ≤ 20 ∧ Same H G, ?_, fun τ G hM => ?_⟩
    · refine ⟨_, rfl, (n : Int), 2, rfl, rfl, _, rfl, ite2 (fun c => ?_) (fun _ => iteF ⟨l, as, rs, rfl, hO, hl1, by omega, kF⟩)⟩
      have hn3 : (2 : Int) < (n : Int) := of_decide_eq_true c
      refine ⟨_, rfl, d, rfl, D9, fun v5 G1 _ _ D10 k10 => ⟨v5, 2, rfl, rfl, (show (0 : Int) < 2 by decide), rfl, _, rfl, ?_⟩⟩
      have kF1 : Same H G1 := fun b o e => k10 b o (kF b o e) (ne_of_none e nHd)
      refine ite2 (fun _ => ?_) (fun _ => ⟨l, as, rs, rfl, hO.keepD k10 nld nda, hl1, by omega, kF1⟩)
      refine ⟨_, rfl, _, rfl, d, n, rfl, D10, by omega, hn2, fun l' as' rs' G2 hO' h1 h2 nl' nld' nda' D11 k11 => ?_⟩
      exact ⟨l', as', rs', rfl, hO', h1, h2, fun b o e => k11 b o (kF1 b o e) (ne_of_none e nHd)⟩
    obtain ⟨l, as, rs, rfl, hO, hl1, hl2, kG⟩ := hM
    -- due, handed; then both are asked
    refine ⟨_, rfl, l, as, rs, n, rfl, hO, hl1, hl2, hn2, fun G1 hno s1 => ?_, fun gd pd kd zd G1 hgd hdue s1 => ?_⟩
    · refine ⟨_, rfl, l, as, rs, rfl, (hO.same s1).top, (hO.same s1).ll, by omega, fun l2 as2 G2 nl2 nas2 nin2 ht2 hLL2 s2 => ?_⟩
      have s12 := s1.trans s2
      have hO2 := hO.same s12
      have hP2 : OL G2 l2 as2 rs n := ⟨ht2, hLL2, hO.ord, hn1, by omega⟩
      refine ⟨2, rfl, by decide, by decide, ?_⟩
      refine for_range (n := 2) (fun j σ G3 => ∃ (z7 z8 z9 : Option V), σ = [some (.ref a), some (.int (0 + (i : Int))), some (.ref d), some (.int n), some (.ref l), some .non, some (.ref l2), z7, z8, z9] ∧ Same G2 G3) ⟨_, _, _, rfl, Same.refl _⟩ (fun j σ G3 hj hP => ?_) (fun σ G3 hP => ?_)
      · obtain ⟨z7, z8, z9, rfl, s3⟩ := hP
        refine ⟨_, rfl, l2, as2, rs, n, rfl, hP2.same s3, hl1, hl2, hn2, fun G4 hR s4 => ?_, fun g p z G4 ng hg hz hR hpl hm hall s4 => ?_⟩
        · have s34 := s3.trans s4
          refine ⟨fun τ G5 => ∃ (z7 z8 z9 : Option V), τ = [some (.ref a), some (.int (0 + (i : Int))), some (.ref d), some (.int n), some (.ref l), some .non, some (.ref l2), z7, z8, z9] ∧ G5 = G4, ?_, fun τ G5 hM => ?_⟩
          · refine ⟨_, rfl, rfl, _, rfl, ite2 (fun _ => ?_) (fun c => absurd (decide_eq_true rfl) c)⟩
            exact ⟨_, rfl, rfl, _, rfl, iteF ⟨_, _, _, rfl, rfl⟩⟩
          · obtain ⟨z7, z8, z9, rfl, rfl⟩ := hM
            refine ⟨_, rfl, _, rfl, _, _, dp_of (hP2.same s34), dp_of (hO2.same s34), shaped_lists _, shaped_lists _, _, rfl, ?_⟩
            rw [eqv_lists]
            exact iteF ⟨_, _, _, rfl, s34⟩
        · exfalso
          obtain ⟨k0, v0, w0, c0, _, _⟩ := hR
          have hk2 : 2 ≤ k0 := by
            by_cases c : k0 < 2
            · exact absurd c0 (no_short c w0)
            · omega
          have lq := w0.len
          exact hno k0 z hk2 (by omega) hz p v0 w0 c0
      · obtain ⟨z7, z8, z9, rfl, s3⟩ := hP
        exact ⟨_, _, _, _, _, _, _, _, _, rfl, (kG.trans s12).trans s3⟩
    · refine ⟨_, rfl, l, as, rs, rfl, (hO.same s1).top, (hO.same s1).ll, by omega, fun l2 as2 G2 nl2 nas2 nin2 ht2 hLL2 s2 => ?_⟩
      have s12 := s1.trans s2
      have hO2 := hO.same s12
      have hP2 : OL G2 l2 as2 rs n := ⟨ht2, hLL2, hO.ord, hn1, by omega⟩
      have hgd2 := s2 _ _ hgd
      refine ⟨2, rfl, by decide, by decide, ?_⟩
      refine for_range (n := 2) (fun j σ G3 => ∃ (z7 z8 z9 : Option V), σ = [some (.ref a), some (.int (0 + (i : Int))), some (.ref d), some (.int n), some (.ref l), some (.ref gd), some (.ref l2), z7, z8, z9] ∧ Same G2 G3) ⟨_, _, _, rfl, Same.refl _⟩ (fun j σ G3 hj hP => ?_) (fun σ G3 hP => ?_)
      · obtain ⟨z7, z8, z9, rfl, s3⟩ := hP
        refine ⟨_, rfl, l2, as2, rs, n, rfl, hP2.same s3, hl1, hl2, hn2, fun G4 hR s4 => ?_, fun g p z G4 ng hg hz hR hpl hm hall s4 => ?_⟩
        · exact (ring_none hR hdue).elim
        · have s34 := s3.trans s4
          have epq := (ring_due hz hR hpl hm hall).1 hdue
          subst epq
          refine ⟨fun τ G5 => ∃ (z7 z8 z9 : Option V), τ = [some (.ref a), some (.int (0 + (i : Int))), some (.ref d), some (.int n), some (.ref l), some (.ref gd), some (.ref l2), z7, z8, z9] ∧ Same G3 G5, ?_, fun τ G5 hM => ?_⟩
          · refine ⟨_, rfl, rfl, _, rfl, ite2 (fun c => by cases of_decide_eq_true c) (fun _ => ?_)⟩
            have hgd4 := s34 _ _ hgd2
            refine ⟨_, rfl, _, _, _, _, true, rfl, .ty _, .base (.lst hg), kit_ty (by decide +kernel), true, rfl, iteF ?_⟩
            refine ⟨_, rfl, _, rfl, _, _, dp_list hg, dp_list hgd4, shaped_list _, shaped_list _, _, rfl, ?_⟩
            rw [eqv_list]
            refine iteF ?_
            refine ⟨_, rfl, g, rfl, ⟨_, SqL.of hg⟩, fun D nD => ?_⟩
            refine lc_list (K := K) (a := g) (xs := pd.map V.int) (fun i' H5 => H5 D = some (.lst (([] : List Int).map V.int)) ∧ Same G4 H5) ⟨upd_same, same_new nD⟩ (fun i' H5 _ hP => SqL.of (hP.2 _ _ hg)) (fun i' x H5 hx hP => ?_) (fun H5 hP => ?_)
            · obtain ⟨y, ey, rfl⟩ := int_at_inv hx
              exact ⟨rfl, _, rfl, y, rfl, _, rfl, iteF hP⟩
            · obtain ⟨hD5, s5⟩ := hP
              refine ⟨line_small (by show 0 ≤ 16777216; decide), fun e0 ne0 => ?_⟩
              have s6 := same_new (o := .lst (([] : List Int).map V.int)) ne0
              refine ⟨_, _, dp_list (s6 _ _ hD5), dp_list (ns := []) upd_same, shaped_list _, shaped_list _, _, rfl, ?_⟩
              rw [eqv_list]
              refine iteF ?_
              have hg6 := (s5.trans s6) _ _ hg
              refine ⟨_, rfl, .inl ⟨rfl, _, SqL.of hg6⟩, g, _, _, rfl, rfl, hg6, line_lt (by rw [List.length_map]; omega), ?_⟩
              refine ⟨_, _, _, rfl, fun b o e => ?_⟩
              rw [upd_ne (ne_of_none e ng)]
              exact (s5.trans s6) _ _ (s4 _ _ e)
          · obtain ⟨z7, z8, z9, rfl, s5⟩ := hM
            refine ⟨_, rfl, _, rfl, _, _, dp_of ((hP2.same s3).same s5), dp_of ((hO2.same s3).same s5), shaped_lists _, shaped_lists _, _, rfl, ?_⟩
            rw [eqv_lists]
            exact iteF ⟨_, _, _, rfl, s3.trans s5⟩
      · obtain ⟨z7, z8, z9, rfl, s3⟩ := hP
        exact ⟨_, _, _, _, _, _, _, _, _, rfl, (kG.trans s12).trans s3⟩
end
end Fo
--LAWCALL ok_law F_law T__law_deck T__law_cell_at T__law_next T__law_poll T__law_copied T__law_ring_poll T__law_due T_ring_of T__law_whole (ok_deckN (k := 9) T__law_deck T__law_stir B) (ok_cell (k := 10) T__law_cell_at B) (ok_next (k := 9) T__law_next T__law_stir B) (ok_poll (k := 10) T__law_poll T__law_next (ok_next (k := 8) T__law_next T__law_stir B) T__law_order (ok_orderN (k := 9) T__law_order T__law_next (ok_next (k := 7) T__law_next T__law_stir B) B) T__law_near (ok_nearN (k := 9) T__law_near T__law_next (ok_next (k := 7) T__law_next T__law_stir B) B) B) (ok_copied (k := 10) T__law_copied B) (ok_rpoll (k := 10) T__law_ring_poll T__law_order T__law_next T__law_by_arcs (ok_orderN (k := 9) T__law_order T__law_next (ok_next (k := 7) T__law_next T__law_stir B) B) (ok_next (k := 8) T__law_next T__law_stir B) (ok_byarcs (k := 9) T__law_by_arcs T__law_order (ok_orderN (k := 8) T__law_order T__law_next (ok_next (k := 6) T__law_next T__law_stir B) B) B) B) (ok_due (k := 10) T__law_due T__law_ahead T__law_back (ok_aheadD (k := 9) T__law_ahead T__law_places (ok_pld (k := 8) T__law_places B) B) (ok_backL (k := 9) T__law_back B) B) (ok_ring (k := 10) T_ring_of T_check_poll T_check_few T_mostly_behind T_ring_from (ok_cpoll (k := 9) T_check_poll T_is_order_list (ok_olst (k := 8) T_is_order_list T_is_order (ok_is_order (k := 6) T_is_order T_is_whole B m_MOST_THINGS) B) B m_MOST_POLLED) (ok_few (k := 9) T_check_few) (ok_mbeh (k := 9) T_mostly_behind T_counts_ahead (ok_ahead (k := 8) T_counts_ahead T_places_in (ok_places (k := 7) T_places_in B) B) B) (ok_rfrom (k := 9) T_ring_from T_longer_paths (ok_longer (k := 8) T_longer_paths B) B) B m_MOST_BY_PAIRS) (ok_lwhole (k := 10) T__law_whole B) B
namespace Fo
open PySem PySem.Spec PyProof.Rows L2
set_option maxHeartbeats 8000000 in
theorem all_mk {l : PySem.W.OpenLaw} {w : World} {K : PySem.W.Frag} {h : Heap} {mg : Str → Option Value} {fa : Addr} (X : K.In h) (G : h.Ns mainGlobals mg) (hfa : mg "law" = some (.ref fa))
    {f0 f1 f2 f3 f4 f5 f6 f7 f8 f9 f10 f11 f12 f13 f14 f15 f16 f17 f18 f19 f20 f21 f22 f23 f24 f25 f26 : Addr} {od0 an0 od1 an1 od2 an2 od3 an3 od4 an4 od5 an5 od6 an6 od7 an7 od8 an8 od9 an9 od10 an10 od11 an11 od12 an12 od13 an13 od14 an14 od15 an15 od16 an16 od17 an17 od18 an18 od19 an19 od20 an20 od21 an21 od22 an22 od23 an23 od24 an24 od25 an25 od26 an26 : Option Addr} {sl0 sl1 sl2 sl3 sl4 sl5 sl6 sl7 sl8 sl9 sl10 sl11 sl12 sl13 sl14 sl15 sl16 sl17 sl18 sl19 sl20 sl21 sl22 sl23 sl24 sl25 sl26 : Array (Option Value)} {oc0 kV0 dc0 pm0 cd0 ct0 oc1 kV1 dc1 pm1 cd1 ct1 oc2 kV2 dc2 pm2 cd2 ct2 oc3 kV3 dc3 pm3 cd3 ct3 oc4 kV4 dc4 pm4 cd4 ct4 oc5 kV5 dc5 pm5 cd5 ct5 oc6 kV6 dc6 pm6 cd6 ct6 oc7 kV7 dc7 pm7 cd7 ct7 oc8 kV8 dc8 pm8 cd8 ct8 oc9 kV9 dc9 pm9 cd9 ct9 oc10 kV10 dc10 pm10 cd10 ct10 oc11 kV11 dc11 pm11 cd11 ct11 oc12 kV12 dc12 pm12 cd12 ct12 oc13 kV13 dc13 pm13 cd13 ct13 oc14 kV14 dc14 pm14 cd14 ct14 oc15 kV15 dc15 pm15 cd15 ct15 oc16 kV16 dc16 pm16 cd16 ct16 oc17 kV17 dc17 pm17 cd17 ct17 oc18 kV18 dc18 pm18 cd18 ct18 oc19 kV19 dc19 pm19 cd19 ct19 oc20 kV20 dc20 pm20 cd20 ct20 oc21 kV21 dc21 pm21 cd21 ct21 oc22 kV22 dc22 pm22 cd22 ct22 oc23 kV23 dc23 pm23 cd23 ct23 oc24 kV24 dc24 pm24 cd24 ct24 oc25 kV25 dc25 pm25 cd25 ct25 oc26 kV26 dc26 pm26 cd26 ct26 : Value} {tk_MOST_THINGS tk_MOST_POLLED tk_MOST_BY_PAIRS : Tok}
    (a0 : PySem.W.nsIn K mainGlobals "is_whole" = some (some (.ref f0))) (l0 : K.lookup f0 = some ⟨oc0, od0, .func (PySem.W.fnOf "is_whole" "is_whole" (defArgs s_is_whole) (defBody s_is_whole) (defScope s_is_whole) .none kV0 dc0 pm0 an0 cd0 ct0), sl0⟩) (c0 : PySem.W.codeIn K cd0 "is_whole" = true) (k0 : PySem.W.keepIn K (.ref f0) = true)
    (a1 : PySem.W.nsIn K mainGlobals "check_few" = some (some (.ref f1))) (l1 : K.lookup f1 = some ⟨oc1, od1, .func (PySem.W.fnOf "check_few" "check_few" (defArgs s_check_few) (defBody s_check_few) (defScope s_check_few) .none kV1 dc1 pm1 an1 cd1 ct1), sl1⟩) (c1 : PySem.W.codeIn K cd1 "check_few" = true) (k1 : PySem.W.keepIn K (.ref f1) = true)
    (a2 : PySem.W.nsIn K mainGlobals "is_order" = some (some (.ref f2))) (l2 : K.lookup f2 = some ⟨oc2, od2, .func (PySem.W.fnOf "is_order" "is_order" (defArgs s_is_order) (defBody s_is_order) (defScope s_is_order) .none kV2 dc2 pm2 an2 cd2 ct2), sl2⟩) (c2 : PySem.W.codeIn K cd2 "is_order" = true) (k2 : PySem.W.keepIn K (.ref f2) = true)
    (a3 : PySem.W.nsIn K mainGlobals "is_order_list" = some (some (.ref f3))) (l3 : K.lookup f3 = some ⟨oc3, od3, .func (PySem.W.fnOf "is_order_list" "is_order_list" (defArgs s_is_order_list) (defBody s_is_order_list) (defScope s_is_order_list) .none kV3 dc3 pm3 an3 cd3 ct3), sl3⟩) (c3 : PySem.W.codeIn K cd3 "is_order_list" = true) (k3 : PySem.W.keepIn K (.ref f3) = true)
    (a4 : PySem.W.nsIn K mainGlobals "places_in" = some (some (.ref f4))) (l4 : K.lookup f4 = some ⟨oc4, od4, .func (PySem.W.fnOf "places_in" "places_in" (defArgs s_places_in) (defBody s_places_in) (defScope s_places_in) .none kV4 dc4 pm4 an4 cd4 ct4), sl4⟩) (c4 : PySem.W.codeIn K cd4 "places_in" = true) (k4 : PySem.W.keepIn K (.ref f4) = true)
    (a5 : PySem.W.nsIn K mainGlobals "check_poll" = some (some (.ref f5))) (l5 : K.lookup f5 = some ⟨oc5, od5, .func (PySem.W.fnOf "check_poll" "check_poll" (defArgs s_check_poll) (defBody s_check_poll) (defScope s_check_poll) .none kV5 dc5 pm5 an5 cd5 ct5), sl5⟩) (c5 : PySem.W.codeIn K cd5 "check_poll" = true) (k5 : PySem.W.keepIn K (.ref f5) = true)
    (a6 : PySem.W.nsIn K mainGlobals "counts_ahead" = some (some (.ref f6))) (l6 : K.lookup f6 = some ⟨oc6, od6, .func (PySem.W.fnOf "counts_ahead" "counts_ahead" (defArgs s_counts_ahead) (defBody s_counts_ahead) (defScope s_counts_ahead) .none kV6 dc6 pm6 an6 cd6 ct6), sl6⟩) (c6 : PySem.W.codeIn K cd6 "counts_ahead" = true) (k6 : PySem.W.keepIn K (.ref f6) = true)
    (a7 : PySem.W.nsIn K mainGlobals "ring_of" = some (some (.ref f7))) (l7 : K.lookup f7 = some ⟨oc7, od7, .func (PySem.W.fnOf "ring_of" "ring_of" (defArgs s_ring_of) (defBody s_ring_of) (defScope s_ring_of) .none kV7 dc7 pm7 an7 cd7 ct7), sl7⟩) (c7 : PySem.W.codeIn K cd7 "ring_of" = true) (k7 : PySem.W.keepIn K (.ref f7) = true)
    (a8 : PySem.W.nsIn K mainGlobals "mostly_behind" = some (some (.ref f8))) (l8 : K.lookup f8 = some ⟨oc8, od8, .func (PySem.W.fnOf "mostly_behind" "mostly_behind" (defArgs s_mostly_behind) (defBody s_mostly_behind) (defScope s_mostly_behind) .none kV8 dc8 pm8 an8 cd8 ct8), sl8⟩) (c8 : PySem.W.codeIn K cd8 "mostly_behind" = true) (k8 : PySem.W.keepIn K (.ref f8) = true)
    (a9 : PySem.W.nsIn K mainGlobals "ring_from" = some (some (.ref f9))) (l9 : K.lookup f9 = some ⟨oc9, od9, .func (PySem.W.fnOf "ring_from" "ring_from" (defArgs s_ring_from) (defBody s_ring_from) (defScope s_ring_from) .none kV9 dc9 pm9 an9 cd9 ct9), sl9⟩) (c9 : PySem.W.codeIn K cd9 "ring_from" = true) (k9 : PySem.W.keepIn K (.ref f9) = true)
    (a10 : PySem.W.nsIn K mainGlobals "longer_paths" = some (some (.ref f10))) (l10 : K.lookup f10 = some ⟨oc10, od10, .func (PySem.W.fnOf "longer_paths" "longer_paths" (defArgs s_longer_paths) (defBody s_longer_paths) (defScope s_longer_paths) .none kV10 dc10 pm10 an10 cd10 ct10), sl10⟩) (c10 : PySem.W.codeIn K cd10 "longer_paths" = true) (k10 : PySem.W.keepIn K (.ref f10) = true)
    (a11 : PySem.W.nsIn K mainGlobals "_law_cell_at" = some (some (.ref f11))) (l11 : K.lookup f11 = some ⟨oc11, od11, .func (PySem.W.fnOf "_law_cell_at" "_law_cell_at" (defArgs s_law_cell_at) (defBody s_law_cell_at) (defScope s_law_cell_at) .none kV11 dc11 pm11 an11 cd11 ct11), sl11⟩) (c11 : PySem.W.codeIn K cd11 "_law_cell_at" = true) (k11 : PySem.W.keepIn K (.ref f11) = true)
    (a12 : PySem.W.nsIn K mainGlobals "_law_stir" = some (some (.ref f12))) (l12 : K.lookup f12 = some ⟨oc12, od12, .func (PySem.W.fnOf "_law_stir" "_law_stir" (defArgs s_law_stir) (defBody s_law_stir) (defScope s_law_stir) .none kV12 dc12 pm12 an12 cd12 ct12), sl12⟩) (c12 : PySem.W.codeIn K cd12 "_law_stir" = true) (k12 : PySem.W.keepIn K (.ref f12) = true)
    (a13 : PySem.W.nsIn K mainGlobals "_law_deck" = some (some (.ref f13))) (l13 : K.lookup f13 = some ⟨oc13, od13, .func (PySem.W.fnOf "_law_deck" "_law_deck" (defArgs s_law_deck) (defBody s_law_deck) (defScope s_law_deck) .none kV13 dc13 pm13 an13 cd13 ct13), sl13⟩) (c13 : PySem.W.codeIn K cd13 "_law_deck" = true) (k13 : PySem.W.keepIn K (.ref f13) = true)
    (a14 : PySem.W.nsIn K mainGlobals "_law_next" = some (some (.ref f14))) (l14 : K.lookup f14 = some ⟨oc14, od14, .func (PySem.W.fnOf "_law_next" "_law_next" (defArgs s_law_next) (defBody s_law_next) (defScope s_law_next) .none kV14 dc14 pm14 an14 cd14 ct14), sl14⟩) (c14 : PySem.W.codeIn K cd14 "_law_next" = true) (k14 : PySem.W.keepIn K (.ref f14) = true)
    (a15 : PySem.W.nsIn K mainGlobals "_law_order" = some (some (.ref f15))) (l15 : K.lookup f15 = some ⟨oc15, od15, .func (PySem.W.fnOf "_law_order" "_law_order" (defArgs s_law_order) (defBody s_law_order) (defScope s_law_order) .none kV15 dc15 pm15 an15 cd15 ct15), sl15⟩) (c15 : PySem.W.codeIn K cd15 "_law_order" = true) (k15 : PySem.W.keepIn K (.ref f15) = true)
    (a16 : PySem.W.nsIn K mainGlobals "_law_near" = some (some (.ref f16))) (l16 : K.lookup f16 = some ⟨oc16, od16, .func (PySem.W.fnOf "_law_near" "_law_near" (defArgs s_law_near) (defBody s_law_near) (defScope s_law_near) .none kV16 dc16 pm16 an16 cd16 ct16), sl16⟩) (c16 : PySem.W.codeIn K cd16 "_law_near" = true) (k16 : PySem.W.keepIn K (.ref f16) = true)
    (a17 : PySem.W.nsIn K mainGlobals "_law_poll" = some (some (.ref f17))) (l17 : K.lookup f17 = some ⟨oc17, od17, .func (PySem.W.fnOf "_law_poll" "_law_poll" (defArgs s_law_poll) (defBody s_law_poll) (defScope s_law_poll) .none kV17 dc17 pm17 an17 cd17 ct17), sl17⟩) (c17 : PySem.W.codeIn K cd17 "_law_poll" = true) (k17 : PySem.W.keepIn K (.ref f17) = true)
    (a18 : PySem.W.nsIn K mainGlobals "_law_places" = some (some (.ref f18))) (l18 : K.lookup f18 = some ⟨oc18, od18, .func (PySem.W.fnOf "_law_places" "_law_places" (defArgs s_law_places) (defBody s_law_places) (defScope s_law_places) .none kV18 dc18 pm18 an18 cd18 ct18), sl18⟩) (c18 : PySem.W.codeIn K cd18 "_law_places" = true) (k18 : PySem.W.keepIn K (.ref f18) = true)
    (a19 : PySem.W.nsIn K mainGlobals "_law_whole" = some (some (.ref f19))) (l19 : K.lookup f19 = some ⟨oc19, od19, .func (PySem.W.fnOf "_law_whole" "_law_whole" (defArgs s_law_whole) (defBody s_law_whole) (defScope s_law_whole) .none kV19 dc19 pm19 an19 cd19 ct19), sl19⟩) (c19 : PySem.W.codeIn K cd19 "_law_whole" = true) (k19 : PySem.W.keepIn K (.ref f19) = true)
    (a20 : PySem.W.nsIn K mainGlobals "_law_copied" = some (some (.ref f20))) (l20 : K.lookup f20 = some ⟨oc20, od20, .func (PySem.W.fnOf "_law_copied" "_law_copied" (defArgs s_law_copied) (defBody s_law_copied) (defScope s_law_copied) .none kV20 dc20 pm20 an20 cd20 ct20), sl20⟩) (c20 : PySem.W.codeIn K cd20 "_law_copied" = true) (k20 : PySem.W.keepIn K (.ref f20) = true)
    (a21 : PySem.W.nsIn K mainGlobals "_law_ahead" = some (some (.ref f21))) (l21 : K.lookup f21 = some ⟨oc21, od21, .func (PySem.W.fnOf "_law_ahead" "_law_ahead" (defArgs s_law_ahead) (defBody s_law_ahead) (defScope s_law_ahead) .none kV21 dc21 pm21 an21 cd21 ct21), sl21⟩) (c21 : PySem.W.codeIn K cd21 "_law_ahead" = true) (k21 : PySem.W.keepIn K (.ref f21) = true)
    (a22 : PySem.W.nsIn K mainGlobals "_law_by_arcs" = some (some (.ref f22))) (l22 : K.lookup f22 = some ⟨oc22, od22, .func (PySem.W.fnOf "_law_by_arcs" "_law_by_arcs" (defArgs s_law_by_arcs) (defBody s_law_by_arcs) (defScope s_law_by_arcs) .none kV22 dc22 pm22 an22 cd22 ct22), sl22⟩) (c22 : PySem.W.codeIn K cd22 "_law_by_arcs" = true) (k22 : PySem.W.keepIn K (.ref f22) = true)
    (a23 : PySem.W.nsIn K mainGlobals "_law_ring_poll" = some (some (.ref f23))) (l23 : K.lookup f23 = some ⟨oc23, od23, .func (PySem.W.fnOf "_law_ring_poll" "_law_ring_poll" (defArgs s_law_ring_poll) (defBody s_law_ring_poll) (defScope s_law_ring_poll) .none kV23 dc23 pm23 an23 cd23 ct23), sl23⟩) (c23 : PySem.W.codeIn K cd23 "_law_ring_poll" = true) (k23 : PySem.W.keepIn K (.ref f23) = true)
    (a24 : PySem.W.nsIn K mainGlobals "_law_back" = some (some (.ref f24))) (l24 : K.lookup f24 = some ⟨oc24, od24, .func (PySem.W.fnOf "_law_back" "_law_back" (defArgs s_law_back) (defBody s_law_back) (defScope s_law_back) .none kV24 dc24 pm24 an24 cd24 ct24), sl24⟩) (c24 : PySem.W.codeIn K cd24 "_law_back" = true) (k24 : PySem.W.keepIn K (.ref f24) = true)
    (a25 : PySem.W.nsIn K mainGlobals "_law_due" = some (some (.ref f25))) (l25 : K.lookup f25 = some ⟨oc25, od25, .func (PySem.W.fnOf "_law_due" "_law_due" (defArgs s_law_due) (defBody s_law_due) (defScope s_law_due) .none kV25 dc25 pm25 an25 cd25 ct25), sl25⟩) (c25 : PySem.W.codeIn K cd25 "_law_due" = true) (k25 : PySem.W.keepIn K (.ref f25) = true)
    (a26 : PySem.W.nsIn K mainGlobals "law" = some (some (.ref f26))) (l26 : K.lookup f26 = some ⟨oc26, od26, .func (PySem.W.fnOf "law" "law" (defArgs s_law) (defBody s_law) (defScope s_law) .none kV26 dc26 pm26 an26 cd26 ct26), sl26⟩) (c26 : PySem.W.codeIn K cd26 "law" = true) (k26 : PySem.W.keepIn K (.ref f26) = true)
    (g_MOST_THINGS : PySem.W.nsIn K mainGlobals "MOST_THINGS" = some (some (.int 12 tk_MOST_THINGS)))
    (g_MOST_POLLED : PySem.W.nsIn K mainGlobals "MOST_POLLED" = some (some (.int 20 tk_MOST_POLLED)))
    (g_MOST_BY_PAIRS : PySem.W.nsIn K mainGlobals "MOST_BY_PAIRS" = some (some (.int 9 tk_MOST_BY_PAIRS)))
    (z_all : PySem.W.nsIn K mainGlobals "all" = some none)
    (z_bool : PySem.W.nsIn K mainGlobals "bool" = some none)
    (z_enumerate : PySem.W.nsIn K mainGlobals "enumerate" = some none)
    (z_int : PySem.W.nsIn K mainGlobals "int" = some none)
    (z_isinstance : PySem.W.nsIn K mainGlobals "isinstance" = some none)
    (z_len : PySem.W.nsIn K mainGlobals "len" = some none)
    (z_list : PySem.W.nsIn K mainGlobals "list" = some none)
    (z_max : PySem.W.nsIn K mainGlobals "max" = some none)
    (z_min : PySem.W.nsIn K mainGlobals "min" = some none)
    (z_range : PySem.W.nsIn K mainGlobals "range" = some none)
    (z_sorted : PySem.W.nsIn K mainGlobals "sorted" = some none)
    : ∃ fd : FuncData, (∀ (s : Shared) (v : Value), BindsTo s fd ⟨[v], []⟩ [("script", v)]) ∧ ∀ base : Heap, K.In base → base.Ns mainGlobals mg → FnOk l.prog w K mg base CX0 12 fa fd ["script"] (spLaw K) := by
  have e := hfa.symm.trans (PySem.W.mg_of X G a26)
  cases e
  have F0 := fun_mk (st := s_is_whole) l0 c0 k0
  have F1 := fun_mk (st := s_check_few) l1 c1 k1
  have F2 := fun_mk (st := s_is_order) l2 c2 k2
  have F3 := fun_mk (st := s_is_order_list) l3 c3 k3
  have F4 := fun_mk (st := s_places_in) l4 c4 k4
  have F5 := fun_mk (st := s_check_poll) l5 c5 k5
  have F6 := fun_mk (st := s_counts_ahead) l6 c6 k6
  have F7 := fun_mk (st := s_ring_of) l7 c7 k7
  have F8 := fun_mk (st := s_mostly_behind) l8 c8 k8
  have F9 := fun_mk (st := s_ring_from) l9 c9 k9
  have F10 := fun_mk (st := s_longer_paths) l10 c10 k10
  have F11 := fun_mk (st := s_law_cell_at) l11 c11 k11
  have F12 := fun_mk (st := s_law_stir) l12 c12 k12
  have F13 := fun_mk (st := s_law_deck) l13 c13 k13
  have F14 := fun_mk (st := s_law_next) l14 c14 k14
  have F15 := fun_mk (st := s_law_order) l15 c15 k15
  have F16 := fun_mk (st := s_law_near) l16 c16 k16
  have F17 := fun_mk (st := s_law_poll) l17 c17 k17
  have F18 := fun_mk (st := s_law_places) l18 c18 k18
  have F19 := fun_mk (st := s_law_whole) l19 c19 k19
  have F20 := fun_mk (st := s_law_copied) l20 c20 k20
  have F21 := fun_mk (st := s_law_ahead) l21 c21 k21
  have F22 := fun_mk (st := s_law_by_arcs) l22 c22 k22
  have F23 := fun_mk (st := s_law_ring_poll) l23 c23 k23
  have F24 := fun_mk (st := s_law_back) l24 c24 k24
  have F25 := fun_mk (st := s_law_due) l25 c25 k25
  have F26 := fun_mk (st := s_law) l26 c26 k26
  have T_is_whole : Df K mg "is_whole" s_is_whole ["thing"] f0 _ := ⟨F0, F0.binds (ps := ["thing"]) (fun _ _ _ _ _ _ us hl => match us, hl with | [_], _ => rfl), PySem.W.mg_of X G a0⟩
  have T_check_few : Df K mg "check_few" s_check_few ["n", "most"] f1 _ := ⟨F1, F1.binds (ps := ["n", "most"]) (fun _ _ _ _ _ _ us hl => match us, hl with | [_, _], _ => rfl), PySem.W.mg_of X G a1⟩
  have T_is_order : Df K mg "is_order" s_is_order ["thing"] f2 _ := ⟨F2, F2.binds (ps := ["thing"]) (fun _ _ _ _ _ _ us hl => match us, hl with | [_], _ => rfl), PySem.W.mg_of X G a2⟩
  have T_is_order_list : Df K mg "is_order_list" s_is_order_list ["thing"] f3 _ := ⟨F3, F3.binds (ps := ["thing"]) (fun _ _ _ _ _ _ us hl => match us, hl with | [_], _ => rfl), PySem.W.mg_of X G a3⟩
  have T_places_in : Df K mg "places_in" s_places_in ["order"] f4 _ := ⟨F4, F4.binds (ps := ["order"]) (fun _ _ _ _ _ _ us hl => match us, hl with | [_], _ => rfl), PySem.W.mg_of X G a4⟩
  have T_check_poll : Df K mg "check_poll" s_check_poll ["thing"] f5 _ := ⟨F5, F5.binds (ps := ["thing"]) (fun _ _ _ _ _ _ us hl => match us, hl with | [_], _ => rfl), PySem.W.mg_of X G a5⟩
  have T_counts_ahead : Df K mg "counts_ahead" s_counts_ahead ["poll"] f6 _ := ⟨F6, F6.binds (ps := ["poll"]) (fun _ _ _ _ _ _ us hl => match us, hl with | [_], _ => rfl), PySem.W.mg_of X G a6⟩
  have T_ring_of : Df K mg "ring_of" s_ring_of ["poll"] f7 _ := ⟨F7, F7.binds (ps := ["poll"]) (fun _ _ _ _ _ _ us hl => match us, hl with | [_], _ => rfl), PySem.W.mg_of X G a7⟩
  have T_mostly_behind : Df K mg "mostly_behind" s_mostly_behind ["poll"] f8 _ := ⟨F8, F8.binds (ps := ["poll"]) (fun _ _ _ _ _ _ us hl => match us, hl with | [_], _ => rfl), PySem.W.mg_of X G a8⟩
  have T_ring_from : Df K mg "ring_from" s_ring_from ["least", "followers"] f9 _ := ⟨F9, F9.binds (ps := ["least", "followers"]) (fun _ _ _ _ _ _ us hl => match us, hl with | [_, _], _ => rfl), PySem.W.mg_of X G a9⟩
  have T_longer_paths : Df K mg "longer_paths" s_longer_paths ["paths", "followers", "reached"] f10 _ := ⟨F10, F10.binds (ps := ["paths", "followers", "reached"]) (fun _ _ _ _ _ _ us hl => match us, hl with | [_, _, _], _ => rfl), PySem.W.mg_of X G a10⟩
  have T__law_cell_at : Df K mg "_law_cell_at" s_law_cell_at ["script", "k"] f11 _ := ⟨F11, F11.binds (ps := ["script", "k"]) (fun _ _ _ _ _ _ us hl => match us, hl with | [_, _], _ => rfl), PySem.W.mg_of X G a11⟩
  have T__law_stir : Df K mg "_law_stir" s_law_stir ["cell", "k"] f12 _ := ⟨F12, F12.binds (ps := ["cell", "k"]) (fun _ _ _ _ _ _ us hl => match us, hl with | [_, _], _ => rfl), PySem.W.mg_of X G a12⟩
  have T__law_deck : Df K mg "_law_deck" s_law_deck ["cell", "many"] f13 _ := ⟨F13, F13.binds (ps := ["cell", "many"]) (fun _ _ _ _ _ _ us hl => match us, hl with | [_, _], _ => rfl), PySem.W.mg_of X G a13⟩
  have T__law_next : Df K mg "_law_next" s_law_next ["deck"] f14 _ := ⟨F14, F14.binds (ps := ["deck"]) (fun _ _ _ _ _ _ us hl => match us, hl with | [_], _ => rfl), PySem.W.mg_of X G a14⟩
  have T__law_order : Df K mg "_law_order" s_law_order ["deck", "n"] f15 _ := ⟨F15, F15.binds (ps := ["deck", "n"]) (fun _ _ _ _ _ _ us hl => match us, hl with | [_, _], _ => rfl), PySem.W.mg_of X G a15⟩
  have T__law_near : Df K mg "_law_near" s_law_near ["deck", "order"] f16 _ := ⟨F16, F16.binds (ps := ["deck", "order"]) (fun _ _ _ _ _ _ us hl => match us, hl with | [_, _], _ => rfl), PySem.W.mg_of X G a16⟩
  have T__law_poll : Df K mg "_law_poll" s_law_poll ["deck", "n", "most"] f17 _ := ⟨F17, F17.binds (ps := ["deck", "n", "most"]) (fun _ _ _ _ _ _ us hl => match us, hl with | [_, _, _], _ => rfl), PySem.W.mg_of X G a17⟩
  have T__law_places : Df K mg "_law_places" s_law_places ["order"] f18 _ := ⟨F18, F18.binds (ps := ["order"]) (fun _ _ _ _ _ _ us hl => match us, hl with | [_], _ => rfl), PySem.W.mg_of X G a18⟩
  have T__law_whole : Df K mg "_law_whole" s_law_whole ["thing"] f19 _ := ⟨F19, F19.binds (ps := ["thing"]) (fun _ _ _ _ _ _ us hl => match us, hl with | [_], _ => rfl), PySem.W.mg_of X G a19⟩
  have T__law_copied : Df K mg "_law_copied" s_law_copied ["orders"] f20 _ := ⟨F20, F20.binds (ps := ["orders"]) (fun _ _ _ _ _ _ us hl => match us, hl with | [_], _ => rfl), PySem.W.mg_of X G a20⟩
  have T__law_ahead : Df K mg "_law_ahead" s_law_ahead ["poll"] f21 _ := ⟨F21, F21.binds (ps := ["poll"]) (fun _ _ _ _ _ _ us hl => match us, hl with | [_], _ => rfl), PySem.W.mg_of X G a21⟩
  have T__law_by_arcs : Df K mg "_law_by_arcs" s_law_by_arcs ["deck", "n", "arcs"] f22 _ := ⟨F22, F22.binds (ps := ["deck", "n", "arcs"]) (fun _ _ _ _ _ _ us hl => match us, hl with | [_, _, _], _ => rfl), PySem.W.mg_of X G a22⟩
  have T__law_ring_poll : Df K mg "_law_ring_poll" s_law_ring_poll ["deck", "n"] f23 _ := ⟨F23, F23.binds (ps := ["deck", "n"]) (fun _ _ _ _ _ _ us hl => match us, hl with | [_, _], _ => rfl), PySem.W.mg_of X G a23⟩
  have T__law_back : Df K mg "_law_back" s_law_back ["above", "thing", "size"] f24 _ := ⟨F24, F24.binds (ps := ["above", "thing", "size"]) (fun _ _ _ _ _ _ us hl => match us, hl with | [_, _, _], _ => rfl), PySem.W.mg_of X G a24⟩
  have T__law_due : Df K mg "_law_due" s_law_due ["poll"] f25 _ := ⟨F25, F25.binds (ps := ["poll"]) (fun _ _ _ _ _ _ us hl => match us, hl with | [_], _ => rfl), PySem.W.mg_of X G a25⟩
  have B : Bi mg := ⟨PySem.W.mg_none_of X G z_all, PySem.W.mg_none_of X G z_bool, PySem.W.mg_none_of X G z_enumerate, PySem.W.mg_none_of X G z_int, PySem.W.mg_none_of X G z_isinstance, PySem.W.mg_none_of X G z_len, PySem.W.mg_none_of X G z_list, PySem.W.mg_none_of X G z_max, PySem.W.mg_none_of X G z_min, PySem.W.mg_none_of X G z_range, PySem.W.mg_none_of X G z_sorted⟩
  have m_MOST_THINGS := PySem.W.mg_of X G g_MOST_THINGS
  have m_MOST_POLLED := PySem.W.mg_of X G g_MOST_POLLED
  have m_MOST_BY_PAIRS := PySem.W.mg_of X G g_MOST_BY_PAIRS
  exact ⟨PySem.W.fnOf "law" "law" (defArgs s_law) (defBody s_law) (defScope s_law) .none kV26 dc26 pm26 an26 cd26 ct26, fun s v => .of_eq rfl, fun base _ _ => ok_law F26 T__law_deck T__law_cell_at T__law_next T__law_poll T__law_copied T__law_ring_poll T__law_due T_ring_of T__law_whole (ok_deckN (k := 9) T__law_deck T__law_stir B) (ok_cell (k := 10) T__law_cell_at B) (ok_next (k := 9) T__law_next T__law_stir B) (ok_poll (k := 10) T__law_poll T__law_next (ok_next (k := 8) T__law_next T__law_stir B) T__law_order (ok_orderN (k := 9) T__law_order T__law_next (ok_next (k := 7) T__law_next T__law_stir B) B) T__law_near (ok_nearN (k := 9) T__law_near T__law_next (ok_next (k := 7) T__law_next T__law_stir B) B) B) (ok_copied (k := 10) T__law_copied B) (ok_rpoll (k := 10) T__law_ring_poll T__law_order T__law_next T__law_by_arcs (ok_orderN (k := 9) T__law_order T__law_next (ok_next (k := 7) T__law_next T__law_stir B) B) (ok_next (k := 8) T__law_next T__law_stir B) (ok_byarcs (k := 9) T__law_by_arcs T__law_order (ok_orderN (k := 8) T__law_order T__law_next (ok_next (k := 6) T__law_next T__law_stir B) B) B) B) (ok_due (k := 10) T__law_due T__law_ahead T__law_back (ok_aheadD (k := 9) T__law_ahead T__law_places (ok_pld (k := 8) T__law_places B) B) (ok_backL (k := 9) T__law_back B) B) (ok_ring (k := 10) T_ring_of T_check_poll T_check_few T_mostly_behind T_ring_from (ok_cpoll (k := 9) T_check_poll T_is_order_list (ok_olst (k := 8) T_is_order_list T_is_order (ok_is_order (k := 6) T_is_order T_is_whole B m_MOST_THINGS) B) B m_MOST_POLLED) (ok_few (k := 9) T_check_few) (ok_mbeh (k := 9) T_mostly_behind T_counts_ahead (ok_ahead (k := 8) T_counts_ahead T_places_in (ok_places (k := 7) T_places_in B) B) B) (ok_rfrom (k := 9) T_ring_from T_longer_paths (ok_longer (k := 8) T_longer_paths B) B) B m_MOST_BY_PAIRS) (ok_lwhole (k := 10) T__law_whole B) B⟩
end Fo
open PySem PySem.W PyProof.Rows
set_option maxRecDepth 100000 in
set_option maxHeartbeats 0 in
theorem PySem.Challenge.cw_farorders_k67_rings_told_holds : PySem.Challenge.rw_farorders_k67_rings_told.Holds := by
  w_on; o_law; k_head; (case hw => w_witness2)
  k_fill
  refine L2.walk_of (l := PySem.Challenge.rw_farorders_k67_rings_told) (n := 63) (k := 12) (x := "script") (CX := fun _ => L2.CX0) (sp := fun w => Fo.spLaw _) rfl (by decide) rfl ⟨rfl, by decide, by decide⟩ (fun w h Y => PySem.W.kIn_of Y) ?F (fun _ _ a ns hl _ hS => ⟨a, ns, rfl, hS, hl, fun _ => rfl⟩) (fun _ _ _ _ _ h => h)
  case F =>
    intro w mg fa h KX G hmg
    refine' Fo.all_mk KX G hmg ?a0 ?l0 ?c0 ?k0 ?a1 ?l1 ?c1 ?k1 ?a2 ?l2 ?c2 ?k2 ?a3 ?l3 ?c3 ?k3 ?a4 ?l4 ?c4 ?k4 ?a5 ?l5 ?c5 ?k5 ?a6 ?l6 ?c6 ?k6 ?a7 ?l7 ?c7 ?k7 ?a8 ?l8 ?c8 ?k8 ?a9 ?l9 ?c9 ?k9 ?a10 ?l10 ?c10 ?k10 ?a11 ?l11 ?c11 ?k11 ?a12 ?l12 ?c12 ?k12 ?a13 ?l13 ?c13 ?k13 ?a14 ?l14 ?c14 ?k14 ?a15 ?l15 ?c15 ?k15 ?a16 ?l16 ?c16 ?k16 ?a17 ?l17 ?c17 ?k17 ?a18 ?l18 ?c18 ?k18 ?a19 ?l19 ?c19 ?k19 ?a20 ?l20 ?c20 ?k20 ?a21 ?l21 ?c21 ?k21 ?a22 ?l22 ?c22 ?k22 ?a23 ?l23 ?c23 ?k23 ?a24 ?l24 ?c24 ?k24 ?a25 ?l25 ?c25 ?k25 ?a26 ?l26 ?c26 ?k26 ?g_MOST_THINGS ?g_MOST_POLLED ?g_MOST_BY_PAIRS ?z_all ?z_bool ?z_enumerate ?z_int ?z_isinstance ?z_len ?z_list ?z_max ?z_min ?z_range ?z_sorted
    (case a0 => k_is); (case l0 => k_is); (case c0 => k_is); (case k0 => k_is); (case a1 => k_is); (case l1 => k_is); (case c1 => k_is); (case k1 => k_is); (case a2 => k_is); (case l2 => k_is); (case c2 => k_is); (case k2 => k_is); (case a3 => k_is); (case l3 => k_is); (case c3 => k_is); (case k3 => k_is); (case a4 => k_is); (case l4 => k_is); (case c4 => k_is); (case k4 => k_is); (case a5 => k_is); (case l5 => k_is); (case c5 => k_is); (case k5 => k_is); (case a6 => k_is); (case l6 => k_is); (case c6 => k_is); (case k6 => k_is); (case a7 => k_is); (case l7 => k_is); (case c7 => k_is); (case k7 => k_is); (case a8 => k_is); (case l8 => k_is); (case c8 => k_is); (case k8 => k_is); (case a9 => k_is); (case l9 => k_is); (case c9 => k_is); (case k9 => k_is); (case a10 => k_is); (case l10 => k_is); (case c10 => k_is); (case k10 => k_is); (case a11 => k_is); (case l11 => k_is); (case c11 => k_is); (case k11 => k_is); (case a12 => k_is); (case l12 => k_is); (case c12 => k_is); (case k12 => k_is); (case a13 => k_is); (case l13 => k_is); (case c13 => k_is); (case k13 => k_is); (case a14 => k_is); (case l14 => k_is); (case c14 => k_is); (case k14 => k_is); (case a15 => k_is); (case l15 => k_is); (case c15 => k_is); (case k15 => k_is); (case a16 => k_is); (case l16 => k_is); (case c16 => k_is); (case k16 => k_is); (case a17 => k_is); (case l17 => k_is); (case c17 => k_is); (case k17 => k_is); (case a18 => k_is); (case l18 => k_is); (case c18 => k_is); (case k18 => k_is); (case a19 => k_is); (case l19 => k_is); (case c19 => k_is); (case k19 => k_is); (case a20 => k_is); (case l20 => k_is); (case c20 => k_is); (case k20 => k_is); (case a21 => k_is); (case l21 => k_is); (case c21 => k_is); (case k21 => k_is); (case a22 => k_is); (case l22 => k_is); (case c22 => k_is); (case k22 => k_is); (case a23 => k_is); (case l23 => k_is); (case c23 => k_is); (case k23 => k_is); (case a24 => k_is); (case l24 => k_is); (case c24 => k_is); (case k24 => k_is); (case a25 => k_is); (case l25 => k_is); (case c25 => k_is); (case k25 => k_is); (case a26 => k_is); (case l26 => k_is); (case c26 => k_is); (case k26 => k_is); (case g_MOST_THINGS => k_is); (case g_MOST_POLLED => k_is); (case g_MOST_BY_PAIRS => k_is); (case z_all => k_is); (case z_bool => k_is); (case z_enumerate => k_is); (case z_int => k_is); (case z_isinstance => k_is); (case z_len => k_is); (case z_list => k_is); (case z_max => k_is); (case z_min => k_is); (case z_range => k_is); (case z_sorted => k_is)

