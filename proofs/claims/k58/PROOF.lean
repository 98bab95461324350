import PyProof.Rows.All
import Wide.All
import OpenK.AllK
import Wide.FinOn
import HandS.ForMost
import HandS.IsInst
import HandS.Conv
import HandS.Style
import HandS.More
import HandS.Evl
import HandS.Zip
import HandS.SetFor
import HandS.Sort
import HandS.Wide
import PySem.Challenge.RW_farorders_k58_bounds_by_rounds
set_option Elab.async false
set_option linter.all false
set_option maxRecDepth 100000
namespace Fo
open PySem PySem.Spec PyProof.Rows L2
/-! ### lists and orders -/
def rg (n : Nat) : List Int := (List.range n).map fun k => ((k : Nat) : Int)
def IsOrd (n : Nat) (ns : List Int) : Prop := ns.Perm (rg n)
theorem rg_len (n : Nat) : (rg n).length = n := by
  unfold rg
  rw [List.length_map, List.length_range]
theorem rg_mem {n : Nat} {x : Int} : x ∈ rg n ↔ 0 ≤ x ∧ x < n := by
  unfold rg
  rw [List.mem_map]
  constructor
  · rintro ⟨k, hk, rfl⟩
    have := List.mem_range.mp hk
    omega
  · rintro ⟨h0, h1⟩
    exact ⟨x.toNat, List.mem_range.mpr (by omega), by omega⟩
theorem rg_nodup (n : Nat) : (rg n).Nodup := by
  unfold rg
  exact List.Pairwise.map _ (fun a b h e => h (by omega)) List.nodup_range
theorem rg_sorted (n : Nat) : (rg n).Pairwise (· ≤ ·) := by
  unfold rg
  exact List.Pairwise.map _ (fun a b h => by omega) List.pairwise_lt_range
theorem rg_V (n : Nat) : rgV 0 (n : Int) = (rg n).map V.int := by
  unfold rgV rg
  rw [List.map_map, show ((n : Int) - 0).toNat = n by omega]
  apply List.map_congr_left
  intro a _
  show V.int (0 + (a : Int)) = V.int (a : Int)
  rw [Int.zero_add]
theorem IsOrd.len {n : Nat} {ns : List Int} (h : IsOrd n ns) : ns.length = n := (List.Perm.length_eq h).trans (rg_len n)
theorem IsOrd.mem {n : Nat} {ns : List Int} (h : IsOrd n ns) {x : Int} (m : x ∈ ns) : 0 ≤ x ∧ x < n := rg_mem.mp ((List.Perm.mem_iff h).mp m)
theorem IsOrd.nodup {n : Nat} {ns : List Int} (h : IsOrd n ns) : ns.Nodup := (List.Perm.nodup_iff h).mpr (rg_nodup n)
/-- two sorted lists of the same things are one -/
theorem sorted_eq : ∀ {a b : List Int}, a.Perm b → a.Pairwise (· ≤ ·) → b.Pairwise (· ≤ ·) → a = b := by
  intro a b hp ha hb
  exact List.Perm.eq_of_pairwise (fun x y _ _ h1 h2 => by omega) ha hb hp
/-- the things at p and p + 1 change places -/
def sw (xs : List Int) (p : Nat) : List Int := (xs.set p (xs.getD (p + 1) 0)).set (p + 1) (xs.getD p 0)
theorem split2 : ∀ {xs : List Int} {p : Nat}, p + 1 < xs.length → ∃ A a b B, xs = A ++ a :: b :: B ∧ A.length = p
  | [], p, h => by simp at h
  | [_], p, h => by simp at h
  | a :: b :: r, 0, _ => ⟨[], a, b, r, rfl, rfl⟩
  | a :: b :: r, p + 1, h => by
    obtain ⟨A, x, y, B, e, l⟩ := split2 (xs := b :: r) (p := p) (by simpa using h)
    exact ⟨a :: A, x, y, B, by rw [e]; rfl, by rw [List.length_cons, l]⟩
theorem sw_at : ∀ (A : List Int) (a b : Int) (B : List Int), sw (A ++ a :: b :: B) A.length = A ++ b :: a :: B
  | [], a, b, B => rfl
  | x :: A, a, b, B => by
    have ih := sw_at A a b B
    unfold sw at ih ⊢
    show x :: _ = x :: _
    exact congrArg (x :: ·) ih
theorem sw_perm {xs : List Int} {p : Nat} (h : p + 1 < xs.length) : (sw xs p).Perm xs := by
  obtain ⟨A, a, b, B, rfl, rfl⟩ := split2 h
  rw [sw_at]
  exact List.Perm.append_left A (List.Perm.swap a b B)
theorem sw_len (xs : List Int) (p : Nat) : (sw xs p).length = xs.length := by
  unfold sw
  rw [List.length_set, List.length_set]
theorem sw_ord {n : Nat} {xs : List Int} {p : Nat} (o : IsOrd n xs) (h : p + 1 < n) : IsOrd n (sw xs p) :=
  (sw_perm (by rw [o.len]; exact h)).trans o
theorem sw_V {xs : List Int} {p : Nat} {a b : Int} (ha : xs[p]? = some a) (hb : xs[p + 1]? = some b) : ((xs.map V.int).set p (V.int b)).set (p + 1) (V.int a) = (sw xs p).map V.int := by
  unfold sw
  rw [List.getD_eq_getElem?_getD, List.getD_eq_getElem?_getD, ha, hb, List.map_set, List.map_set]
  rfl
theorem pop_ins {xs : List Int} {p : Nat} {a : Int} (h : p + 1 < xs.length) (ha : xs[p]? = some a) : (xs.eraseIdx p).take (p + 1) ++ [a] ++ (xs.eraseIdx p).drop (p + 1) = sw xs p := by
  obtain ⟨A, x, y, B, rfl, rfl⟩ := split2 h
  have ex : x = a := by
    rw [List.getElem?_append_right (Nat.le_refl _), Nat.sub_self] at ha
    exact Option.some.inj ha
  subst ex
  rw [sw_at, List.eraseIdx_append_of_length_le (Nat.le_refl _), Nat.sub_self]
  show (A ++ y :: B).take (A.length + 1) ++ [x] ++ (A ++ y :: B).drop (A.length + 1) = _
  rw [List.take_append, List.drop_append]
  have t : A.length + 1 - A.length = 1 := by omega
  rw [t, List.take_of_length_le (by omega), List.drop_of_length_le (by omega)]
  simp
/-- the order at a walk's end -/
def wEnd (xs : List Int) (ws : List Int) : List Int := ws.foldl (fun x p => sw x p.toNat) xs
theorem wEnd_more {xs ws : List Int} {i : Nat} {p : Int} (h : ws[i]? = some p) : wEnd xs (ws.take (i + 1)) = sw (wEnd xs (ws.take i)) p.toNat := by
  unfold wEnd
  rw [List.take_add_one, h, List.foldl_append]
  rfl
theorem wEnd_ord {n : Nat} {xs : List Int} (o : IsOrd n xs) : ∀ {ws : List Int}, (∀ p ∈ ws, 0 ≤ p ∧ p + 1 < n) → IsOrd n (wEnd xs ws) := by
  intro ws
  induction ws generalizing xs with
  | nil => intro _; exact o
  | cons p ws ih =>
    intro h
    have hp := h p List.mem_cons_self
    exact ih (sw_ord o (by omega)) fun q hq => h q (List.mem_cons_of_mem _ hq)
theorem nodup_len : ∀ {l m : List Int}, l.Nodup → (∀ x ∈ l, x ∈ m) → l.length ≤ m.length
  | [], m, _, _ => Nat.zero_le _
  | a :: l, m, hn, hs => by
    obtain ⟨h1, h2⟩ := List.nodup_cons.mp hn
    have ha := hs a List.mem_cons_self
    have ih := nodup_len (l := l) (m := m.erase a) h2 fun x hx => by
      have ne : x ≠ a := fun e => h1 (by rw [← e]; exact hx)
      exact (List.mem_erase_of_ne ne).mpr (hs x (List.mem_cons_of_mem _ hx))
    rw [List.length_erase_of_mem ha] at ih
    have : 0 < m.length := List.length_pos_of_mem ha
    rw [List.length_cons]
    omega
theorem int_at {ns : List Int} {i : Nat} {x : Int} (h : ns[i]? = some x) : (ns.map V.int)[i]? = some (V.int x) := by
  rw [List.getElem?_map, h]
  rfl
theorem int_at_inv {ns : List Int} {i : Nat} {v : V} (h : (ns.map V.int)[i]? = some v) : ∃ x, ns[i]? = some x ∧ v = V.int x := by
  rw [List.getElem?_map] at h
  cases e : ns[i]? with
  | none => rw [e] at h; cases h
  | some x => rw [e] at h; exact ⟨x, rfl, (Option.some.inj h).symm⟩
theorem line_small {n : Nat} (h : n ≤ 16777216) : n ≤ sizeLine := by rw [sizeLine_eq]; exact h
theorem line_lt {n : Nat} (h : n < 16777216) : n < sizeLine := by rw [sizeLine_eq]; exact h
/-! ### data of ints -/
theorem dp_ints {K : PySem.W.Frag} {H : Hp} : ∀ ns : List Int, DpAll K H (ns.map V.int) (ns.map PyData.int)
  | [] => .nil
  | n :: r => .cons (.int n) (dp_ints r)
theorem dp_list {K : PySem.W.Frag} {H : Hp} {a : Addr} {ns : List Int} (h : H a = some (.lst (ns.map V.int))) : Dp K H (.ref a) (.list (ns.map PyData.int)) := .lst (SqL.of h) (dp_ints ns)
theorem eqv_int (i j : Int) : PyData.eqv (.int i) (.int j) = (i == j) := rfl
end Fo
namespace Fo
open PySem PySem.Spec PyProof.Rows L2
abbrev dI (ns : List Int) : List PyData := ns.map PyData.int
abbrev dL (ns : List Int) : PyData := .list (dI ns)
abbrev dLL (l : List (List Int)) : PyData := .list (l.map dL)
theorem lay_ints : ∀ ns : List Int, PyData.canLayAll0 (dI ns) = true
  | [] => rfl
  | n :: r => by
    show (PyData.canLay0 (.int n) && PyData.canLayAll0 (dI r)) = true
    rw [lay_ints r]
    rfl
theorem depth_ints : ∀ ns : List Int, PyData.depthAll (dI ns) = 0
  | [] => by simp [PyData.depthAll]
  | n :: r => by
    show PyData.depthAll (.int n :: dI r) = 0
    rw [PyData.depthAll, depth_ints r]
    simp [PyData.depth]
theorem lay_list (ns : List Int) : PyData.canLay0 (dL ns) = true := by
  rw [PyData.canLay0]
  exact lay_ints ns
theorem depth_list (ns : List Int) : PyData.depth (dL ns) = 1 := by
  rw [PyData.depth, depth_ints]
theorem shaped_list (ns : List Int) : SeqAt.shaped (dL ns) = true := by
  unfold SeqAt.shaped
  rw [lay_list, depth_list]
  rfl
theorem lay_lists : ∀ l : List (List Int), PyData.canLayAll0 (l.map dL) = true
  | [] => rfl
  | n :: r => by
    show (PyData.canLay0 (dL n) && PyData.canLayAll0 (r.map dL)) = true
    rw [lay_lists r, lay_list]
    rfl
theorem depth_lists : ∀ l : List (List Int), PyData.depthAll (l.map dL) ≤ 1
  | [] => by simp [PyData.depthAll]
  | n :: r => by
    show PyData.depthAll (dL n :: r.map dL) ≤ 1
    rw [PyData.depthAll, depth_list]
    have := depth_lists r
    omega
theorem shaped_lists (l : List (List Int)) : SeqAt.shaped (dLL l) = true := by
  unfold SeqAt.shaped
  rw [Bool.and_eq_true_iff]
  constructor
  · rw [PyData.canLay0]
    exact lay_lists l
  · apply decide_eq_true
    rw [PyData.depth]
    have := depth_lists l
    omega
theorem eqv_list (ns : List Int) : PyData.eqv (dL ns) (dL ns) = true := SeqAt.eqv_refl _ (lay_list ns)
theorem eqv_lists (l : List (List Int)) : PyData.eqv (dLL l) (dLL l) = true := SeqAt.eqv_refl _ (SeqAt.canLay_of_shaped (shaped_lists l))
theorem eqvAll_ints : ∀ a b : List Int, PyData.eqvAll (dI a) (dI b) = decide (a = b)
  | [], [] => by simp [PyData.eqvAll]
  | [], _ :: _ => by simp [PyData.eqvAll]
  | _ :: _, [] => by simp [PyData.eqvAll]
  | x :: a, y :: b => by
    show PyData.eqvAll (.int x :: dI a) (.int y :: dI b) = _
    rw [PyData.eqvAll, eqvAll_ints a b]
    show ((x == y) && decide (a = b)) = decide (x :: a = y :: b)
    by_cases h : x = y
    · subst h
      simp
    · simp [h]
theorem eqv_ints (a b : List Int) : PyData.eqv (dL a) (dL b) = decide (a = b) := by
  rw [PyData.eqv]
  exact eqvAll_ints a b
end Fo
namespace Fo
open PySem PySem.Spec PyProof.Rows L2
/-! ### slices of ints -/
def cutI (ws : List Int) (lo hi : Option Int) : List Int := (ws.drop (HT.sIx ws.length 0 lo)).take (HT.sIx ws.length ws.length hi - HT.sIx ws.length 0 lo)
theorem cut_ints (ws : List Int) (lo hi : Option Int) : cutV (ws.map V.int) lo hi = (cutI ws lo hi).map V.int := by
  unfold cutV cutI
  rw [List.length_map, List.map_take, List.map_drop]
theorem cutI_mem {ws : List Int} {lo hi : Option Int} {x : Int} (h : x ∈ cutI ws lo hi) : x ∈ ws := List.mem_of_mem_drop (List.mem_of_mem_take h)
theorem cutI_len (ws : List Int) (lo hi : Option Int) : (cutI ws lo hi).length ≤ ws.length := by
  unfold cutI
  rw [List.length_take, List.length_drop]
  omega
theorem cutI_head (ws : List Int) (k : Nat) : cutI ws none (some (k : Int)) = ws.take k := by
  unfold cutI
  rw [HT.sIx_none, HT.sIx_nat, List.drop_zero, Nat.sub_zero]
  by_cases h : k ≤ ws.length
  · rw [Nat.min_eq_left h]
  · rw [Nat.min_eq_right (by omega), List.take_length, List.take_of_length_le (by omega)]
theorem cutI_tail (ws : List Int) (k : Nat) : cutI ws (some (k : Int)) none = ws.drop k := by
  unfold cutI
  rw [HT.sIx_none, HT.sIx_nat]
  by_cases h : k ≤ ws.length
  · rw [Nat.min_eq_left h, List.take_of_length_le (by rw [List.length_drop]; exact Nat.le_refl _)]
  · rw [Nat.min_eq_right (by omega), List.drop_of_length_le (Nat.le_refl _), List.drop_of_length_le (by omega), List.take_nil]
end Fo
namespace Fo
open PySem PySem.Spec PyProof.Rows L2
/-! ### the text -/
def topS (i : Nat) : Stmt := PySem.Challenge.pw_farorders_k58_bounds_by_rounds.main.body.getD i (.Pass ⟨0, 0, 0, 0⟩)
abbrev s_OrderError : Stmt := topS 1
abbrev s_NoWay : Stmt := topS 2
abbrev s_NoNumber : Stmt := topS 3
abbrev s_is_whole : Stmt := topS 6
abbrev s_check_way : Stmt := topS 7
abbrev s_check_from : Stmt := topS 8
abbrev s_check_size : Stmt := topS 9
abbrev s_check_apart : Stmt := topS 10
abbrev s_count_orders : Stmt := topS 13
abbrev s_known_within : Stmt := topS 15
abbrev s_swap_counts : Stmt := topS 16
abbrev s_swap_counts_with_one_more : Stmt := topS 17
abbrev s_spot_counts : Stmt := topS 18
abbrev s_count_all_moved : Stmt := topS 19
abbrev s_shift_within : Stmt := topS 20
abbrev s_things_near : Stmt := topS 21
abbrev s_one_place_further : Stmt := topS 22
abbrev s_bounds_by_rounds : Stmt := topS 24
abbrev s_law_pool : Stmt := topS 26
abbrev s_law_take : Stmt := topS 27
abbrev s_law_far : Stmt := topS 28
abbrev s_law_many : Stmt := topS 29
abbrev s_law_ways : Stmt := topS 30
abbrev s_law_by_swap : Stmt := topS 31
abbrev s_law_by_spot : Stmt := topS 32
abbrev s_law_by_shift : Stmt := topS 33
abbrev s_law_within : Stmt := topS 34
abbrev s_law_distance : Stmt := topS 35
abbrev s_law_right : Stmt := topS 36
abbrev s_law : Stmt := topS 37
/-- a def of the text, where it stands -/
structure Df (K : PySem.W.Frag) (mg : Str → Option Value) (x : Str) (st : Stmt) (ps : List Str) (f : Addr) (fd : FuncData) : Prop where
  F : Fun K x x st f fd
  b : Binds K fd ps []
  g : mg x = some (.ref f)
/-- the built-in names as they were -/
structure Bi (mg : Str → Option Value) : Prop where
  bool : mg "bool" = none
  enumerate : mg "enumerate" = none
  int : mg "int" = none
  isinstance : mg "isinstance" = none
  len : mg "len" = none
  list : mg "list" = none
  max : mg "max" = none
  min : mg "min" = none
  range : mg "range" = none
  str : mg "str" = none
  sum : mg "sum" = none
  tuple : mg "tuple" = none
end Fo
namespace Fo
open PySem PySem.Spec PyProof.Rows L2
theorem same_new {H : Hp} {p : Addr} {o : HO} (h : H p = none) : Same H (upd H p o) := fun b x e => by
  rw [upd_ne (ne_of_none e h)]
  exact e
theorem at2_0 {x y : V} : atI [x, y] 0 = some x := rfl
theorem at2_1 {x y : V} : atI [x, y] 1 = some y := rfl
end Fo
namespace Fo
open PySem PySem.Spec PyProof.Rows L2
theorem pop_perm : ∀ {xs : List Int} {k : Nat} {y : Int}, xs[k]? = some y → (y :: xs.eraseIdx k).Perm xs
  | [], k, y, h => by simp at h
  | a :: r, 0, y, h => by
    have e : a = y := Option.some.inj h
    subst e
    exact List.Perm.refl _
  | a :: r, k + 1, y, h => by
    have ih := pop_perm (xs := r) (k := k) (y := y) h
    show (y :: a :: r.eraseIdx k).Perm (a :: r)
    exact (List.Perm.swap a y _).trans (List.Perm.cons a ih)
theorem map_erase : ∀ (xs : List Int) (k : Nat), (xs.map V.int).eraseIdx k = (xs.eraseIdx k).map V.int
  | [], k => rfl
  | a :: r, 0 => rfl
  | a :: r, k + 1 => congrArg (V.int a :: ·) (map_erase r k)
/-- what len asks of a list or a tuple -/
abbrev rLenS (K : PySem.W.Frag) : List V → Hp → VK → Prop := fun xs H Q => ∃ p ys, xs = [.ref p] ∧ (SqL K H p ys ∨ SqT K H p ys) ∧ Q (.int ys.length) H
theorem seq_ix {i : Int} {k n : Nat} (e : i = (k : Int)) (h : k < n) : seqIndex? i n = some k := by
  subst e
  unfold seqIndex?
  have h1 : ¬ ((k : Int) < 0) := by omega
  simp only [h1, if_false]
  have h2 : (decide ((0 : Int) ≤ (k : Int)) && decide ((k : Int) < (n : Int))) = true := by
    simp
    omega
  rw [if_pos h2, Int.toNat_natCast]
theorem ix_n {i : Int} {k n : Nat} (e : i = (k : Int)) (h : k < n) : ixN n i = some k := by
  subst e
  unfold ixN
  rw [if_pos (by omega), if_pos (by omega), Int.toNat_natCast]
end Fo
namespace Fo
open PySem PySem.Spec PyProof.Rows L2
/-- a loop over enumerate of a list that stands still -/
theorem for_enumL {K : PySem.W.Frag} {a : Addr} {xs : List V} {g : TG} {tb : TS} {D : Ends} {σ : L2.St} {H : Hp} (Pv : Nat → L2.St → Hp → Prop) (h0 : Pv 0 σ H) (hq : ∀ i σ H, Pv i σ H → SqL K H a xs)
    (hs : ∀ (i : Nat) (x : V) (T : Addr) (σ : L2.St) (H : Hp), xs[i]? = some x → Pv i σ H → H T = none → g (.ref T) σ (upd H T (.tup [.int (i : Nat), x])) fun σ2 H2 => tb { D with nx := Pv (i + 1), ct := Pv (i + 1), bk := D.nx } σ2 H2) (hd : ∀ σ H, Pv xs.length σ H → D.nx σ H) :
    ∃ W : Nat → Nat → L2.St → Hp → Prop, (∃ m, W 0 m σ H) ∧ ∀ i m σ H, W i m σ H →
      ((Ite K a).stop i H ∧ D.nx σ H) ∨ ((Ite K a).go i H ∧ ∃ N : L2.St → Hp → Prop, (∀ σ' H', N σ' H' → ∃ m', m' < m ∧ W (i + 1) m' σ' H') ∧ ∀ v H', (Ite K a).yld i H v H' → g v σ H' fun σ2 H2 => tb { D with nx := N, ct := N, bk := D.nx } σ2 H2) := by
  refine ⟨fun i m σ H => m = xs.length - i ∧ i ≤ xs.length ∧ Pv i σ H, ⟨xs.length, rfl, Nat.zero_le _, h0⟩, ?_⟩
  rintro i m σ H ⟨rfl, hi, p⟩
  have qx := hq i σ H p
  by_cases hlt : i < xs.length
  · have hx : xs[i]? = some xs[i] := List.getElem?_eq_getElem hlt
    refine .inr ⟨⟨xs, _, qx, hx⟩, Pv (i + 1), fun σ' H' p' => ⟨xs.length - (i + 1), by omega, rfl, hlt, p'⟩, fun v H' y => ?_⟩
    obtain ⟨T, x', rfl, hT, rfl, f1⟩ := y
    exact hs i x' T σ H (f1 xs qx) p hT
  · have e : i = xs.length := by omega
    subst e
    exact .inl ⟨⟨xs, qx, Nat.le_refl _⟩, hd σ H p⟩
/-- a comprehension over enumerate of a list that stands still -/
theorem lc_enumL {K : PySem.W.Frag} {a : Addr} {xs : List V} {g : TG} {tt : TT} {te : TE} {vs : List Nat} {σ : L2.St} {H1 : Hp} {D : Addr} {Qd : Hp → Prop} (Pv : Nat → Hp → Prop) (h0 : Pv 0 (upd H1 D (.lst []))) (hl : ∀ i H, i ≤ xs.length → Pv i H → SqL K H a xs)
    (hs : ∀ (i : Nat) (x : V) (T : Addr) (H : Hp), xs[i]? = some x → Pv i H → H T = none → g (.ref T) (wipe σ vs) (upd H T (.tup [.int (i : Nat), x])) fun σ2 H2 => wipe σ2 vs = wipe σ vs ∧ tt σ2 H2 fun b H3 =>
      if b = true then te σ2 H3 fun y H4 => ∃ acc, H4 D = some (.lst acc) ∧ acc.length < sizeLine ∧ Pv (i + 1) (upd H4 D (.lst (acc ++ [y]))) else Pv (i + 1) H3) (hd : ∀ H, Pv xs.length H → Qd H) :
    ∃ W : Nat → Nat → Hp → Prop, (∃ m, W 0 m (upd H1 D (.lst []))) ∧ ∀ i m H, W i m H →
      ((Ite K a).stop i H ∧ Qd H) ∨ ((Ite K a).go i H ∧ ∃ Nx : Hp → Prop, (∀ H', Nx H' → ∃ m', m' < m ∧ W (i + 1) m' H') ∧ ∀ x H', (Ite K a).yld i H x H' → g x (wipe σ vs) H' fun σ2 H2 => wipe σ2 vs = wipe σ vs ∧ tt σ2 H2 fun b H3 =>
        if b = true then te σ2 H3 fun y H4 => ∃ acc, H4 D = some (.lst acc) ∧ acc.length < sizeLine ∧ Nx (upd H4 D (.lst (acc ++ [y]))) else Nx H3) := by
  refine ⟨fun i m H => m = xs.length - i ∧ i ≤ xs.length ∧ Pv i H, ⟨xs.length, by simp, Nat.zero_le _, h0⟩, ?_⟩
  rintro i m H ⟨rfl, hi, p⟩
  have q := hl i H hi p
  by_cases hlt : i < xs.length
  · refine .inr ⟨⟨xs, xs[i], q, by simp [hlt]⟩, Pv (i + 1), fun H' p' => ⟨xs.length - (i + 1), by omega, rfl, hlt, p'⟩, fun x H' y => ?_⟩
    obtain ⟨T, x', rfl, hT, rfl, f1⟩ := y
    exact hs i x' T H (f1 xs q) p hT
  · have e : i = xs.length := by omega
    subst e
    exact .inl ⟨⟨xs, q, Nat.le_refl _⟩, hd H p⟩
/-! ### the back of an order -/
def IsBack (ns ps : List Int) : Prop := ps.length = ns.length ∧ ∀ (j : Nat) (x : Int), ns[j]? = some x → ps[x.toNat]? = some (j : Int)
theorem ord_at {n : Nat} {ns : List Int} (o : IsOrd n ns) {t : Nat} (h : t < n) : ∃ j : Nat, j < n ∧ ns[j]? = some (t : Int) := by
  have m : (t : Int) ∈ ns := (List.Perm.mem_iff o).mpr (rg_mem.mpr ⟨by omega, by omega⟩)
  obtain ⟨j, hj⟩ := List.mem_iff_getElem?.mp m
  exact ⟨j, by have := (List.getElem?_eq_some_iff.mp hj).1; rw [o.len] at this; exact this, hj⟩
theorem ord_ix {n : Nat} {ns : List Int} (o : IsOrd n ns) {j : Nat} (h : j < n) : ∃ x : Int, ns[j]? = some x ∧ 0 ≤ x ∧ x < n := by
  have hj : j < ns.length := by rw [o.len]; exact h
  exact ⟨ns[j], List.getElem?_eq_getElem hj, o.mem (List.getElem_mem hj)⟩
theorem back_eq {n : Nat} {ns a b : List Int} (o : IsOrd n ns) (ha : IsBack ns a) (hb : IsBack ns b) : a = b := by
  apply List.ext_getElem?
  intro t
  by_cases h : t < n
  · obtain ⟨j, _, hj⟩ := ord_at o h
    have h1 := ha.2 j _ hj
    have h2 := hb.2 j _ hj
    rw [Int.toNat_natCast] at h1 h2
    rw [h1, h2]
  · rw [List.getElem?_eq_none (by rw [ha.1, o.len]; omega), List.getElem?_eq_none (by rw [hb.1, o.len]; omega)]
def behindL (ns ms : List Int) : List Int := ms.map fun p => ns.getD p.toNat 0
theorem behind_at {ns ms : List Int} {i : Nat} {p x : Int} (hp : ms[i]? = some p) (hx : ns[p.toNat]? = some x) : (behindL ns ms)[i]? = some x := by
  unfold behindL
  rw [List.getElem?_map, hp]
  show some (ns.getD p.toNat 0) = some x
  rw [List.getD_eq_getElem?_getD, hx]
  rfl
theorem behind_len (ns ms : List Int) : (behindL ns ms).length = ms.length := by
  unfold behindL
  rw [List.length_map]
theorem take_more {l : List Int} {i : Nat} {x : Int} (h : l[i]? = some x) : l.take (i + 1) = l.take i ++ [x] := by
  rw [List.take_add_one, h]
  rfl
theorem flat_ints : ∀ ns : List Int, (ns.map V.int).all flatV = true
  | [] => rfl
  | n :: r => by
    show (flatV (V.int n) && (r.map V.int).all flatV) = true
    rw [flat_ints r]
    rfl
theorem eqV_int (i j : Int) : eqV (.int i) (.int j) = (i == j) := rfl
end Fo
namespace Fo
open PySem PySem.Spec PyProof.Rows L2
/-! ### rules of my own: xs[i] op= e, sum(d.values()) -/
section
variable {X : Cx}
def rGetL (K : PySem.W.Frag) : V → V → Hp → VK → Prop := fun o i H Q => ∃ p xs k v, o = .ref p ∧ i = .int k ∧ SqL K H p xs ∧ 0 ≤ k ∧ atI xs k = some v ∧ Q v H
theorem get_list : PGet X (rGetL X.K) := by
  intro pins s σ H o i ov iv Q J ro ri hz
  obtain ⟨p, xs, k, v, eo, ei, sq, k0, at', q⟩ := hz
  subst eo ei
  cases ro
  obtain ⟨tk, ek⟩ := ri
  subst ek
  obtain ⟨its, rl, pl, hlen⟩ := J.list sq
  obtain ⟨j, a1, a2, a3, a4, a5⟩ := atI_get at'
  obtain ⟨u, eu, ru⟩ := rl.get a2
  have l1 := rl.length
  have l2 := line63
  have ej : k.toNat = j := by
    rw [seqIndex_of k0 a5] at a1
    exact Option.some.inj a1
  exact wpAny_getItem_list pl.isList k0 (by omega) (by rw [ej]; simpa using eu) ⟨v, H, J, ru, q⟩
def tSumVals (td : TE) : TE := fun σ H Q => td σ H fun x H1 => ∃ (a : Addr) (kvs : List (Key × V)) (is : List Int), x = V.ref a ∧ H1 a = some (.dK kvs) ∧ kvs.map (·.2) = is.map V.int ∧ Q (.int is.sum) H1
theorem preSum_list (is : List Int) : ∀ n, n ≤ is.length → preSum (fun i => is.getD i 0) n = (is.take n).sum
  | 0, _ => rfl
  | n + 1, h => by
    have e : is[n]? = some is[n] := List.getElem?_eq_getElem (by omega)
    rw [List.take_add_one, e, List.sum_append, ← preSum_list is n (by omega)]
    show preSum _ n + is.getD n 0 = _
    rw [List.getD_eq_getElem?_getD, e]
    show _ + is[n] = _ + (is[n] + 0)
    omega
theorem pe_sumVals {o : Expr} {p pos apos mpos : Pos} {td : TE} (calm : X.calm = true) (gl : Gl X "sum") (mn : X.mg "sum" = none) (hd : PE X o td)
    (ab : attributeBase o "values" X.env (eval o X.env) = eval o X.env := by rfl) (ln : (apos.endLine == mpos.line) = true := by rfl)
    (st : starEach [Expr.Call (.Attribute o "values" apos) [] [] mpos] X.env = [(false, eval (Expr.Call (.Attribute o "values" apos) [] [] mpos) X.env)] := by rfl) :
    PE X (.Call (.Name "sum" p) [.Call (.Attribute o "values" apos) [] [] mpos] [] pos) (tSumVals td) := by
  refine ⟨fun pins s σ H Q J hw => ?_⟩
  refine wpAny_Call_Name_kw (ld_blt J gl mn (u := .builtin "sum") (by decide +kernel) ?_ (by decide +kernel) (by decide +kernel))
  rw [st]
  refine PySem.callWith_builtin1 (wpAny_Call_method0_late ab ln (thn (hd.run pins s σ H _ J hw) fun v s1 ⟨x, H1, J1, r1, a, kvs, is, ex, ha, hv, q⟩ => ?_))
  subst ex
  obtain rfl : v = Value.ref a := r1
  obtain ⟨_, nsys, vs, rel, dof⟩ := dk_of J1.hok ha
  obtain ⟨ep, dat⟩ := dof.dictAt
  obtain ⟨ob, es, ho, exd, hdat, hko, hpr, hnd⟩ := id dat
  refine ⟨"dict", "dict.values", F.plainAttrs_dict, F.slot_dict_values, F.type_dict_values, ⟨ob, ho, exd.1⟩, fun b e => ?_, Calls.callWith_builtin rfl (PySem.evalArgs_none ?_)⟩
  · cases e
    exact ⟨ob, ho, exd.2.1⟩
  refine call_meetsIn F.slot_dict_values ⟨ob, ho, exd.1⟩ F.entry_dict_values (F.args_dict_values_1 _) (meets_dict_values (mixKind X.prog X.w) a nsys) ⟨⟨vs, dof⟩, ?_⟩
  generalize hv1 : s1.heap.push { cls := .type "dict_values", data := .fields #[.ref a] } = hp1
  have kp1 : ∀ b u, s1.heap.get? b = some u → hp1.get? b = some u := fun b u e => by rw [← hv1]; exact Heap.get?_push_of_some _ e
  have dat1 : hp1.DictAt (mixKind X.prog X.w) a vs ep := dat.keep kp1
  have sz : hp1.objs.size = s1.heap.objs.size + 1 := by rw [← hv1]; exact Heap.size_push _ _
  have lt : a < s1.heap.objs.size := Heap.lt_size ho
  have len : vs.length = is.length := by
    have e1 := congrArg List.length hv
    rw [List.length_map, List.length_map] at e1
    exact (KV.length rel).symm.trans e1
  have vals : ∀ (i : Nat) (v : Value), (∃ k, vs[i]? = some (k, v)) → ∃ t, v = Value.int (is.getD i 0) t := fun i v ⟨k, hk⟩ => by
    obtain ⟨x, g1, g2⟩ : ∃ x, kvs[i]? = some (k, x) ∧ RelV x v := KV.at' rel hk
    have e1 : (kvs.map (·.2))[i]? = some x := by
      rw [List.getElem?_map, g1]
      rfl
    rw [hv, List.getElem?_map] at e1
    obtain ⟨j, hj, e2⟩ := Option.map_eq_some_iff.mp e1
    subst e2
    obtain ⟨t, e3⟩ := g2
    refine ⟨t, ?_⟩
    rw [e3, List.getD_eq_getElem?_getD, hj]
    rfl
  have hvw : hp1.get? s1.heap.objs.size = some { cls := .type "dict_values", data := .fields #[.ref a] } := by rw [← hv1]; exact Heap.get?_push_size _ rfl
  refine call_sum_walkG (wpAny_pyIter_values (v := s1.heap.objs.size) (d := a) ⟨_, hvw, rfl, rfl⟩ dat1 ?_)
  refine ⟨_, _, _, _, _, _, fun i => is.getD i 0, rfl, Walks.dictValues (knd := mixKind X.prog X.w) (A := X.A.in1) (J.ok.hd calm) hp1.objs.size a (by rw [sz]; exact Nat.ne_of_lt (Nat.lt_succ_of_lt lt)) vs ep,
    ⟨⟨_, Heap.get?_push_size _ rfl, rfl, rfl⟩, dat1.keep fun b u e => Heap.get?_push_of_some _ e⟩, fun b hb => ?_, vals, fun h' tk t' hk => ?_⟩
  · show b < (hp1.push _).objs.size
    rw [Heap.size_push]
    rcases List.mem_cons.mp hb with e | hb
    · rw [e]
      exact Nat.lt_succ_self _
    · rw [List.mem_singleton.mp hb, sz]
      exact Nat.lt_succ_of_lt (Nat.lt_succ_of_lt lt)
  · refine ⟨.int _, H1, J1.kept (t' := tk) fun b u e => hk b u (fun hm => ?_) (Heap.get?_push_of_some _ (kp1 b u e)), ⟨t', rfl⟩, ?_⟩
    · have e1 : b = hp1.objs.size := List.mem_singleton.mp hm
      have e2 := Heap.lt_size e
      rw [sz] at e1
      rw [e1] at e2
      exact absurd e2 (Nat.not_lt.mpr (Nat.le_succ _))
    · rw [len, preSum_list is _ (Nat.le_refl _), List.take_length]
      exact q
end
/-- a loop over the items of a dict that stands still -/
theorem for_items {d : Addr} {od : Obj} {kvs : List (Key × V)} {g : TG} {tb : TS} {D : Ends} {σ : L2.St} {H : Hp} (Pv : Nat → L2.St → Hp → Prop) (h0 : Pv 0 σ H) (hq : ∀ i σ H, Pv i σ H → H d = some (.frz od (.dK kvs)))
    (hs : ∀ (i : Nat) (k : Key) (v : V) (T : Addr) (σ : L2.St) (H : Hp), kvs[i]? = some (k, v) → Pv i σ H → H T = none → g (.ref T) σ (upd H T (.tup [kV k, v])) fun σ2 H2 => tb { D with nx := Pv (i + 1), ct := Pv (i + 1), bk := D.nx } σ2 H2) (hd : ∀ σ H, Pv kvs.length σ H → D.nx σ H) :
    ∃ W : Nat → Nat → L2.St → Hp → Prop, (∃ m, W 0 m σ H) ∧ ∀ i m σ H, W i m σ H →
      ((Iti d od kvs).stop i H ∧ D.nx σ H) ∨ ((Iti d od kvs).go i H ∧ ∃ N : L2.St → Hp → Prop, (∀ σ' H', N σ' H' → ∃ m', m' < m ∧ W (i + 1) m' σ' H') ∧ ∀ v H', (Iti d od kvs).yld i H v H' → g v σ H' fun σ2 H2 => tb { D with nx := N, ct := N, bk := D.nx } σ2 H2) := by
  refine ⟨fun i m σ H => m = kvs.length - i ∧ i ≤ kvs.length ∧ Pv i σ H, ⟨kvs.length, rfl, Nat.zero_le _, h0⟩, ?_⟩
  rintro i m σ H ⟨rfl, hi, p⟩
  have qx := hq i σ H p
  by_cases hlt : i < kvs.length
  · refine .inr ⟨⟨qx, hlt⟩, Pv (i + 1), fun σ' H' p' => ⟨kvs.length - (i + 1), by omega, rfl, hlt, p'⟩, fun v H' y => ?_⟩
    obtain ⟨T, k, x, hk, rfl, hT, rfl⟩ := y
    exact hs i k x T σ H hk p hT
  · have e : i = kvs.length := by omega
    subst e
    exact .inl ⟨⟨qx, Nat.le_refl _⟩, hd σ H p⟩
/-- .. over its keys -/
theorem for_keys {d : Addr} {od : Obj} {kvs : List (Key × V)} {g : TG} {tb : TS} {D : Ends} {σ : L2.St} {H : Hp} (Pv : Nat → L2.St → Hp → Prop) (h0 : Pv 0 σ H) (hq : ∀ i σ H, Pv i σ H → H d = some (.frz od (.dK kvs)))
    (hs : ∀ (i : Nat) (k : Key) (v : V) (σ : L2.St) (H : Hp), kvs[i]? = some (k, v) → Pv i σ H → g (kV k) σ H fun σ2 H2 => tb { D with nx := Pv (i + 1), ct := Pv (i + 1), bk := D.nx } σ2 H2) (hd : ∀ σ H, Pv kvs.length σ H → D.nx σ H) :
    ∃ W : Nat → Nat → L2.St → Hp → Prop, (∃ m, W 0 m σ H) ∧ ∀ i m σ H, W i m σ H →
      ((Itk d od kvs).stop i H ∧ D.nx σ H) ∨ ((Itk d od kvs).go i H ∧ ∃ N : L2.St → Hp → Prop, (∀ σ' H', N σ' H' → ∃ m', m' < m ∧ W (i + 1) m' σ' H') ∧ ∀ v H', (Itk d od kvs).yld i H v H' → g v σ H' fun σ2 H2 => tb { D with nx := N, ct := N, bk := D.nx } σ2 H2) := by
  refine ⟨fun i m σ H => m = kvs.length - i ∧ i ≤ kvs.length ∧ Pv i σ H, ⟨kvs.length, rfl, Nat.zero_le _, h0⟩, ?_⟩
  rintro i m σ H ⟨rfl, hi, p⟩
  have qx := hq i σ H p
  by_cases hlt : i < kvs.length
  · refine .inr ⟨⟨qx, hlt⟩, Pv (i + 1), fun σ' H' p' => ⟨kvs.length - (i + 1), by omega, rfl, hlt, p'⟩, fun v H' y => ?_⟩
    obtain ⟨rfl, k, x, hk, rfl⟩ := y
    exact hs i k x σ _ hk p
  · have e : i = kvs.length := by omega
    subst e
    exact .inl ⟨⟨qx, Nat.le_refl _⟩, hd σ H p⟩
end Fo
namespace Fo
open PySem PySem.Spec PyProof.Rows L2
/-! ### counts of orders, as the program reckons them -/
def addAt (l : List Int) (i : Nat) (v : Int) : List Int := l.set i (l.getD i 0 + v)
def swIn (m : Int) (far : Nat) : Nat → List Int → List Int
  | 0, l => l
  | p + 1, l => addAt (swIn m far p l) (far + p) m
def swOut (c : List Int) (b : Nat) : Nat → List Int
  | 0 => List.replicate (c.length + b) 0
  | i + 1 => swIn (c.getD i 0) i (b + 1) (swOut c b i)
def swNext (c : List Int) (b : Nat) : List Int := swOut c b c.length
def swC : Nat → List Int
  | 0 => [1]
  | k + 1 => swNext (swC k) (k + 1)
theorem addAt_len (l : List Int) (i : Nat) (v : Int) : (addAt l i v).length = l.length := List.length_set
theorem swIn_len (m : Int) (far : Nat) : ∀ (p : Nat) (l : List Int), (swIn m far p l).length = l.length
  | 0, _ => rfl
  | p + 1, l => by rw [swIn, addAt_len, swIn_len m far p l]
theorem swOut_len (c : List Int) (b : Nat) : ∀ i : Nat, (swOut c b i).length = c.length + b
  | 0 => List.length_replicate
  | i + 1 => by rw [swOut, swIn_len, swOut_len c b i]
def triN : Nat → Nat
  | 0 => 0
  | k + 1 => triN k + (k + 1)
theorem swC_len : ∀ k : Nat, (swC k).length = 1 + triN k
  | 0 => rfl
  | k + 1 => by
    show (swOut (swC k) (k + 1) (swC k).length).length = 1 + (triN k + (k + 1))
    rw [swOut_len, swC_len k]
    omega
theorem tri_le : ∀ k : Nat, k < 12 → triN k ≤ 66 ∧ triN k < (k + 1) * (k + 1) := by decide
theorem swC_good : ∀ k : Nat, k < 12 → (swC k).all (fun x => decide (0 ≤ x)) = true ∧ (swC k).head? = some 1 ∧ (swC k).sum ≤ 479001600 := by decide +kernel
/-! by places -/
def chN (n : Nat) : Nat → Int
  | 0 => 1
  | r + 1 => chN n r * ((n : Int) - r) / (r + 1)
def mvN : Nat → Int × Int
  | 0 => (1, 1)
  | k + 1 => ((mvN k).1 * (k + 1) + -(mvN k).2, -(mvN k).2)
def spC (n : Nat) : List Int := (List.range (n + 1)).map fun r => chN n r * (mvN r).1
theorem ch_small : ∀ n : Nat, n < 13 → ∀ r : Nat, r < 14 → 0 ≤ chN n r ∧ chN n r ≤ 1000 := by decide +kernel
theorem mv_small : ∀ n : Nat, n < 13 → 0 ≤ (mvN n).1 ∧ (mvN n).1 ≤ 479001600 ∧ -1 ≤ (mvN n).2 ∧ (mvN n).2 ≤ 1 := by decide +kernel
theorem spC_good : ∀ n : Nat, n < 13 → (spC n).all (fun x => decide (0 ≤ x)) = true ∧ (spC n).head? = some 1 ∧ (spC n).sum ≤ 479001600 := by decide +kernel
def facN : Nat → Int
  | 0 => 1
  | k + 1 => facN k * (k + 1)
theorem fac_small : ∀ n : Nat, n < 13 → 0 < facN n ∧ facN n ≤ 479001600 := by decide +kernel
def noneN : Nat → List Int
  | 0 => [1, 0]
  | k + 1 => noneN k ++ [((k : Int) + 2 - 1) * ((noneN k).getD (k + 1) 0 + (noneN k).getD k 0)]
theorem spC_law : ∀ n : Nat, n < 13 → spC n = (List.range (n + 1)).map fun r => facN n / facN r / facN (n - r) * (noneN (n - 1)).getD r 0 := by decide +kernel
theorem noneN_len : ∀ k : Nat, (noneN k).length = k + 2
  | 0 => rfl
  | k + 1 => by
    rw [noneN, List.length_append, noneN_len k]
    rfl
theorem noneN_small : ∀ k : Nat, k < 12 → (noneN k).all (fun x => decide (0 ≤ x) && decide (x ≤ 479001600)) = true := by decide +kernel
/-- the sum of a beginning of good counts -/
theorem sum_nonneg : ∀ l : List Int, l.all (fun x => decide (0 ≤ x)) = true → 0 ≤ l.sum
  | [], _ => Int.le_refl _
  | a :: l, h => by
    rw [List.all_cons, Bool.and_eq_true] at h
    have := of_decide_eq_true h.1
    have := sum_nonneg l h.2
    rw [List.sum_cons]
    omega
theorem sum_take {l : List Int} {k : Nat} (h : l.all (fun x => decide (0 ≤ x)) = true) (h1 : l.head? = some 1) (hk : 0 < k) : 1 ≤ (l.take k).sum ∧ (l.take k).sum ≤ l.sum := by
  match l, h1, k, hk with
  | a :: r, h1, k + 1, _ =>
    have e : a = 1 := Option.some.inj h1
    subst e
    rw [List.all_cons, Bool.and_eq_true] at h
    rw [List.take_succ_cons, List.sum_cons, List.sum_cons]
    have hs : (r.take k).sum + (r.drop k).sum = r.sum := by rw [← List.sum_append, List.take_append_drop]
    have h2 := h.2
    rw [← List.take_append_drop k r, List.all_append, Bool.and_eq_true] at h2
    have := sum_nonneg _ h2.1
    have := sum_nonneg _ h2.2
    omega
end Fo
namespace Fo
open PySem PySem.Spec PyProof.Rows L2
/-! ### counts by shift: beginnings by the set of their things -/
def lookN (l : List (Nat × Int)) (k : Nat) : Int := ((l.find? fun p => decide (p.1 = k)).map (·.2)).getD 0
def putN (l : List (Nat × Int)) (k : Nat) (v : Int) : List (Nat × Int) := if l.any (fun p => decide (p.1 = k)) then l.map (fun p => if p.1 = k then (p.1, v) else p) else l ++ [(k, v)]
def keysN (l : List (Nat × Int)) : List Nat := l.map (·.1)
def totN (l : List (Nat × Int)) : Int := (l.map (·.2)).sum
def stIn (u : Nat) (m : Int) (lo : Nat) : Nat → List (Nat × Int) → List (Nat × Int)
  | 0, l => l
  | j + 1, l => if u.testBit (lo + j) then stIn u m lo j l else putN (stIn u m lo j l) (u + 2 ^ (lo + j)) (lookN (stIn u m lo j l) (u + 2 ^ (lo + j)) + m)
def stOut (d : List (Nat × Int)) (lo c : Nat) : Nat → List (Nat × Int)
  | 0 => []
  | i + 1 => stIn (d.getD i (0, 0)).1 (d.getD i (0, 0)).2 lo c (stOut d lo c i)
def loP (p : Nat) (r : Int) : Nat := (max 0 ((p : Int) - r)).toNat
def ctP (n p : Nat) (r : Int) : Nat := (min (n : Int) ((p : Int) + r + 1)).toNat - loP p r
def shD (n : Nat) (r : Int) : Nat → List (Nat × Int)
  | 0 => [(0, 1)]
  | p + 1 => stOut (shD n r p) (loP p r) (ctP n p r) (shD n r p).length
def shN (n : Nat) (r : Int) : Int := totN (shD n r n)
theorem any_keys (l : List (Nat × Int)) (k : Nat) : l.any (fun p => decide (p.1 = k)) = decide (k ∈ keysN l) := by
  induction l with
  | nil => rfl
  | cons p l ih =>
    rw [List.any_cons, ih]
    unfold keysN
    rw [List.map_cons]
    by_cases c : p.1 = k
    · subst c; simp
    · have c2 : ¬ k = p.1 := fun e => c e.symm
      simp [c, c2]
theorem put_keys (l : List (Nat × Int)) (k : Nat) (v : Int) : keysN (putN l k v) = if k ∈ keysN l then keysN l else keysN l ++ [k] := by
  unfold putN
  rw [any_keys]
  by_cases c : k ∈ keysN l
  · rw [decide_eq_true c, if_pos rfl, if_pos c]
    unfold keysN
    rw [List.map_map]
    apply List.map_congr_left
    intro p _
    show (if p.1 = k then (p.1, v) else p).1 = p.1
    split <;> rfl
  · rw [decide_eq_false c, if_neg (by decide), if_neg c]
    unfold keysN
    rw [List.map_append]
    rfl
theorem put_nodup {l : List (Nat × Int)} {k : Nat} {v : Int} (h : (keysN l).Nodup) : (keysN (putN l k v)).Nodup := by
  rw [put_keys]
  split
  · exact h
  · rename_i c
    rw [List.nodup_append]
    refine ⟨h, List.nodup_cons.mpr ⟨List.not_mem_nil, List.nodup_nil⟩, fun x hx y hy e => ?_⟩
    rw [List.mem_singleton.mp hy] at e
    exact c (by rw [← e]; exact hx)
theorem put_mem {l : List (Nat × Int)} {k x : Nat} {v : Int} : x ∈ keysN (putN l k v) ↔ x ∈ keysN l ∨ x = k := by
  rw [put_keys]
  split
  · rename_i c
    exact ⟨.inl, fun h => h.elim id fun e => by rw [e]; exact c⟩
  · rw [List.mem_append, List.mem_singleton]
theorem look_cons (p : Nat × Int) (l : List (Nat × Int)) (k : Nat) : lookN (p :: l) k = if p.1 = k then p.2 else lookN l k := by
  unfold lookN
  rw [List.find?_cons]
  by_cases c : p.1 = k
  · rw [decide_eq_true c, if_pos c]; rfl
  · rw [decide_eq_false c, if_neg c]
theorem put_cons (p : Nat × Int) (l : List (Nat × Int)) (k : Nat) (v : Int) (hn : (keysN (p :: l)).Nodup) : putN (p :: l) k v = if p.1 = k then (p.1, v) :: l else p :: putN l k v := by
  by_cases c : p.1 = k
  · rw [if_pos c]
    unfold putN
    rw [List.any_cons, decide_eq_true c, Bool.true_or, if_pos rfl, List.map_cons, if_pos c]
    congr 1
    have e : l.map (fun p => if p.1 = k then (p.1, v) else p) = l.map id := by
      apply List.map_congr_left
      intro q hq
      have : q.1 ≠ k := fun e => (List.nodup_cons.mp hn).1 (by
        show p.1 ∈ keysN l
        rw [c, ← e]
        exact List.mem_map.mpr ⟨q, hq, rfl⟩)
      rw [if_neg this]
      rfl
    rw [e, List.map_id]
  · rw [if_neg c]
    unfold putN
    rw [List.any_cons, decide_eq_false c, Bool.false_or]
    by_cases d : (l.any fun p => decide (p.1 = k)) = true
    · rw [if_pos d, if_pos d, List.map_cons, if_neg c]
    · rw [if_neg d, if_neg d]
      rfl
theorem put_tot : ∀ (l : List (Nat × Int)) (k : Nat) (m : Int), (keysN l).Nodup → totN (putN l k (lookN l k + m)) = totN l + m
  | [], k, m, _ => by
    show 0 + m + 0 = 0 + m
    omega
  | p :: l, k, m, hn => by
    have ih := put_tot l k m (List.nodup_cons.mp hn).2
    rw [put_cons p l k _ hn, look_cons]
    unfold totN at ih ⊢
    by_cases c : p.1 = k
    · rw [if_pos c, if_pos c, List.map_cons, List.map_cons, List.sum_cons, List.sum_cons]
      omega
    · rw [if_neg c, if_neg c, List.map_cons, List.map_cons, List.sum_cons, List.sum_cons, ih]
      omega
def PosN (l : List (Nat × Int)) : Prop := ∀ p ∈ l, 0 < p.2
theorem look_nonneg {l : List (Nat × Int)} (h : PosN l) (k : Nat) : 0 ≤ lookN l k := by
  induction l with
  | nil => exact Int.le_refl _
  | cons p l ih =>
    rw [look_cons]
    split
    · have := h p List.mem_cons_self; omega
    · exact ih fun q hq => h q (List.mem_cons_of_mem _ hq)
theorem put_pos {l : List (Nat × Int)} (h : PosN l) {k : Nat} {v : Int} (hv : 0 < v) : PosN (putN l k v) := by
  intro p hp
  unfold putN at hp
  split at hp
  · obtain ⟨q, hq, e⟩ := List.mem_map.mp hp
    rw [← e]
    split
    · exact hv
    · exact h q hq
  · rcases List.mem_append.mp hp with hp | hp
    · exact h p hp
    · rw [List.mem_singleton.mp hp]
      exact hv
theorem nodupN_len : ∀ {l m : List Nat}, l.Nodup → (∀ x ∈ l, x ∈ m) → l.length ≤ m.length
  | [], m, _, _ => Nat.zero_le _
  | a :: l, m, hn, hs => by
    obtain ⟨h1, h2⟩ := List.nodup_cons.mp hn
    have ha := hs a List.mem_cons_self
    have ih := nodupN_len (l := l) (m := m.erase a) h2 fun x hx => by
      have ne : x ≠ a := fun e => h1 (by rw [← e]; exact hx)
      exact (List.mem_erase_of_ne ne).mpr (hs x (List.mem_cons_of_mem _ hx))
    rw [List.length_erase_of_mem ha] at ih
    have : 0 < m.length := List.length_pos_of_mem ha
    rw [List.length_cons]
    omega
/-- what holds of the beginnings: no key twice, keys below 2 ^ 12, each counted -/
structure GoodD (l : List (Nat × Int)) : Prop where
  nd : (keysN l).Nodup
  lt : ∀ k ∈ keysN l, k < 4096
  pos : PosN l
theorem GoodD.len {l : List (Nat × Int)} (h : GoodD l) : l.length ≤ 4096 := by
  have h1 : (keysN l).length ≤ (List.range 4096).length := by
    have hsub : ∀ x ∈ keysN l, x ∈ List.range 4096 := fun x hx => List.mem_range.mpr (h.lt x hx)
    exact nodupN_len h.nd hsub
  rw [List.length_range] at h1
  unfold keysN at h1
  rw [List.length_map] at h1
  exact h1
theorem bit_and {u t : Nat} (h : u.testBit t = false) : u &&& 2 ^ t = 0 := by
  apply Nat.eq_of_testBit_eq
  intro i
  rw [Nat.testBit_and, Nat.testBit_two_pow, Nat.zero_testBit]
  by_cases c : t = i
  · subst c; simp [h]
  · simp [c]
theorem bit_add {u t : Nat} (h : u.testBit t = false) (hu : u < 4096) (ht : t < 12) : u + 2 ^ t = u ||| 2 ^ t := by
  have e := bit_and h
  have h2 : 2 ^ t < 4096 := Nat.pow_lt_pow_right (n := 12) (by decide) ht
  have b := BitVec.add_eq_or_of_and_eq_zero (w := 13) (BitVec.ofNat 13 u) (BitVec.ofNat 13 (2 ^ t)) (by
    apply BitVec.eq_of_toNat_eq
    rw [BitVec.toNat_and, BitVec.toNat_ofNat, BitVec.toNat_ofNat, Nat.mod_eq_of_lt (by omega), Nat.mod_eq_of_lt (by omega), e]
    rfl)
  have c := congrArg BitVec.toNat b
  rw [BitVec.toNat_or, BitVec.toNat_add, BitVec.toNat_ofNat, BitVec.toNat_ofNat, Nat.mod_eq_of_lt (show u < 2 ^ 13 by omega), Nat.mod_eq_of_lt (show 2 ^ t < 2 ^ 13 by omega), Nat.mod_eq_of_lt (show u + 2 ^ t < 2 ^ 13 by omega)] at c
  exact c
theorem bit_lt {u t : Nat} (h : u.testBit t = false) (hu : u < 4096) (ht : t < 12) : u + 2 ^ t < 4096 := by
  rw [bit_add h hu ht]
  exact Nat.or_lt_two_pow (n := 12) hu (Nat.pow_lt_pow_right (by decide) ht)
theorem put_good {l : List (Nat × Int)} (h : GoodD l) {u t : Nat} {m : Int} (hb : u.testBit t = false) (hu : u < 4096) (ht : t < 12) (hm : 0 < m) : GoodD (putN l (u + 2 ^ t) (lookN l (u + 2 ^ t) + m)) :=
  ⟨put_nodup h.nd, fun k hk => (put_mem.mp hk).elim (h.lt k) fun e => by rw [e]; exact bit_lt hb hu ht, put_pos h.pos (by have := look_nonneg h.pos (u + 2 ^ t); omega)⟩
theorem stIn_good {u : Nat} {m : Int} {lo : Nat} (hu : u < 4096) (hm : 0 < m) : ∀ (j : Nat) (l : List (Nat × Int)), GoodD l → lo + j ≤ 12 → GoodD (stIn u m lo j l) ∧ totN (stIn u m lo j l) ≤ totN l + j * m ∧ (∀ k ∈ keysN l, k ∈ keysN (stIn u m lo j l)) ∧ ∀ i, i < j → u.testBit (lo + i) = false → u + 2 ^ (lo + i) ∈ keysN (stIn u m lo j l)
  | 0, l, h, _ => ⟨h, by show totN l ≤ totN l + 0 * m; omega, fun k hk => hk, fun i hi => absurd hi (Nat.not_lt_zero _)⟩
  | j + 1, l, h, hj => by
    obtain ⟨h1, h2, h3, h4⟩ := stIn_good (lo := lo) hu hm j l h (by omega)
    have em : ((j + 1 : Nat) : Int) * m = (j : Int) * m + m := by rw [Int.natCast_add, Int.add_mul]; omega
    rw [stIn]
    split
    · rename_i c
      refine ⟨h1, by omega, h3, fun i hi hb => ?_⟩
      by_cases e : i = j
      · subst e; rw [hb] at c; cases c
      · exact h4 i (by omega) hb
    · rename_i c
      have hb : u.testBit (lo + j) = false := by simpa using c
      refine ⟨put_good h1 hb hu (by omega) hm, by rw [put_tot _ _ _ h1.nd]; omega, fun k hk => put_mem.mpr (.inl (h3 k hk)), fun i hi hb2 => ?_⟩
      by_cases e : i = j
      · subst e; exact put_mem.mpr (.inr rfl)
      · exact put_mem.mpr (.inl (h4 i (by omega) hb2))
theorem getD_at {d : List (Nat × Int)} {i : Nat} (h : i < d.length) : d.getD i (0, 0) = d[i] := by
  rw [List.getD_eq_getElem?_getD, List.getElem?_eq_getElem h]
  rfl
theorem take_tot {d : List (Nat × Int)} {i : Nat} (h : i < d.length) : totN (d.take (i + 1)) = totN (d.take i) + (d.getD i (0, 0)).2 := by
  unfold totN
  rw [List.take_add_one, List.getElem?_eq_getElem h, List.map_append, List.sum_append, getD_at h]
  show _ + (d[i].2 + 0) = _
  omega
theorem stOut_good {d : List (Nat × Int)} {lo c : Nat} (hd : GoodD d) (hc : lo + c ≤ 12) : ∀ i, i ≤ d.length → GoodD (stOut d lo c i) ∧ totN (stOut d lo c i) ≤ 12 * totN (d.take i) ∧ ∀ j, j < i → ∀ t, t < c → (d.getD j (0, 0)).1.testBit (lo + t) = false → (d.getD j (0, 0)).1 + 2 ^ (lo + t) ∈ keysN (stOut d lo c i)
  | 0, _ => ⟨⟨List.nodup_nil, fun k hk => absurd hk List.not_mem_nil, fun p hp => absurd hp List.not_mem_nil⟩, by rw [List.take_zero]; show (0 : Int) ≤ 12 * 0; decide, fun j hj => absurd hj (Nat.not_lt_zero _)⟩
  | i + 1, hi => by
    obtain ⟨h1, h2, h3⟩ := stOut_good hd hc i (by omega)
    have hmem : d.getD i (0, 0) ∈ d := by rw [getD_at (by omega)]; exact List.getElem_mem _
    have hm := hd.pos _ hmem
    have hu := hd.lt _ (List.mem_map.mpr ⟨_, hmem, rfl⟩)
    obtain ⟨g1, g2, g3, g4⟩ := stIn_good (lo := lo) hu hm c (stOut d lo c i) h1 hc
    refine ⟨g1, ?_, fun j hj t ht hb => ?_⟩
    · rw [take_tot (by omega)]
      have h12 : (c : Int) * (d.getD i (0, 0)).2 ≤ 12 * (d.getD i (0, 0)).2 := Int.mul_le_mul_of_nonneg_right (by omega) (by omega)
      show totN (stIn _ _ _ _ _) ≤ _
      omega
    · by_cases e : j = i
      · subst e; exact g4 t ht hb
      · exact g3 _ (h3 j (by omega) t ht hb)
theorem lo_ct {n p : Nat} {r : Int} (hn : n ≤ 12) (hp : p < n) (hr : 0 ≤ r) : loP p r + ctP n p r ≤ 12 ∧ loP p r ≤ p ∧ p < loP p r + ctP n p r := by
  unfold ctP loP
  omega
theorem one_bits (p : Nat) : (2 ^ p - 1).testBit p = false ∧ 2 ^ p - 1 + 2 ^ p = 2 ^ (p + 1) - 1 := by
  refine ⟨by simp, ?_⟩
  rw [Nat.pow_succ]
  have := Nat.two_pow_pos p
  omega
theorem shD_good {n : Nat} {r : Int} (hn : n ≤ 12) (hr : 0 ≤ r) : ∀ p, p ≤ n → GoodD (shD n r p) ∧ totN (shD n r p) ≤ 12 ^ p ∧ 2 ^ p - 1 ∈ keysN (shD n r p)
  | 0, _ => ⟨⟨by show [0].Nodup; decide, by show ∀ k ∈ [0], k < 4096; decide, by intro p hp; rw [List.mem_singleton.mp hp]; decide⟩, by show (1 : Int) + 0 ≤ 12 ^ 0; decide, by show 0 ∈ [0]; decide⟩
  | p + 1, hp => by
    obtain ⟨h1, h2, h3⟩ := shD_good hn hr p (by omega)
    obtain ⟨l1, l2, l3⟩ := lo_ct (r := r) hn (show p < n by omega) hr
    obtain ⟨g1, g2, g3⟩ := stOut_good h1 l1 (shD n r p).length (Nat.le_refl _)
    rw [List.take_length] at g2
    refine ⟨g1, ?_, ?_⟩
    · show totN (stOut _ _ _ _) ≤ 12 ^ (p + 1)
      rw [Int.pow_succ]
      omega
    · obtain ⟨b1, b2⟩ := one_bits p
      obtain ⟨q, hq, eq⟩ := List.mem_map.mp h3
      obtain ⟨j, hj, ej⟩ := List.getElem_of_mem hq
      have e : (shD n r p).getD j (0, 0) = q := by rw [getD_at hj, ej]
      have := g3 j hj (p - loP p r) (by omega) (by rw [e, eq, show loP p r + (p - loP p r) = p by omega]; exact b1)
      rw [e, eq, show loP p r + (p - loP p r) = p by omega, b2] at this
      exact this
theorem tot_pos {l : List (Nat × Int)} (h : PosN l) (hl : l ≠ []) : 0 < totN l := by
  have nn : ∀ m : List (Nat × Int), PosN m → 0 ≤ totN m := by
    intro m
    induction m with
    | nil => intro _; exact Int.le_refl _
    | cons p m ih =>
      intro h
      have a := h p List.mem_cons_self
      have b := ih fun q hq => h q (List.mem_cons_of_mem _ hq)
      unfold totN at b ⊢
      rw [List.map_cons, List.sum_cons]
      omega
  match l, h, hl with
  | p :: l, h, _ =>
    have a := h p List.mem_cons_self
    have b := nn l fun q hq => h q (List.mem_cons_of_mem _ hq)
    unfold totN at b ⊢
    rw [List.map_cons, List.sum_cons]
    omega
theorem shN_good {n : Nat} {r : Int} (hn : n ≤ 12) (hr : 0 ≤ r) : 1 ≤ shN n r ∧ shN n r ≤ 8916100448256 := by
  obtain ⟨h1, h2, h3⟩ := shD_good hn hr n (Nat.le_refl _)
  have hne : shD n r n ≠ [] := fun e => by rw [e] at h3; cases h3
  have h4 := tot_pos h1.pos hne
  refine ⟨h4, Int.le_trans h2 ?_⟩
  have h5 : (12 : Nat) ^ n ≤ 12 ^ 12 := Nat.pow_le_pow_right (by decide) hn
  have h6 : (((12 : Nat) ^ n : Nat) : Int) ≤ ((12 ^ 12 : Nat) : Int) := Int.ofNat_le.mpr h5
  rw [Int.natCast_pow] at h6
  exact h6
/-- a reach beyond all is as n's own -/
theorem shD_far {n : Nat} {r : Int} (hr : (n : Int) ≤ r) : ∀ p, p ≤ n → shD n r p = shD n n p
  | 0, _ => rfl
  | p + 1, hp => by
    rw [shD, shD, shD_far hr p (by omega)]
    have e1 : loP p r = loP p n := by unfold loP; omega
    have e2 : ctP n p r = ctP n p n := by unfold ctP; rw [e1]; omega
    rw [e1, e2]
theorem shN_far {n : Nat} {r : Int} : shN n (min (n : Int) r) = shN n r := by
  unfold shN
  by_cases c : (n : Int) ≤ r
  · rw [shD_far c n (Nat.le_refl _), Int.min_eq_left c]
  · rw [Int.min_eq_right (by omega)]
end Fo
namespace Fo
open PySem PySem.Spec PyProof.Rows L2
def spWhole : Sp := fun vs H Q _ => ∃ i : Int, vs = [.int i] ∧ Q (.bl true) H
section
variable {P : Program} {w : World} {K : PySem.W.Frag} {mg : Str → Option Value} {base : Heap}
theorem scWhole : FnScope ["thing"] ["thing"] (defScope s_is_whole) := ⟨rfl, rfl, rfl, by decide +kernel, rfl, by decide +kernel, by decide +kernel⟩
theorem ok_whole {f : Addr} {fd : FuncData} {k : Nat} (T : Df K mg "is_whole" s_is_whole ["thing"] f fd) (B : Bi mg) : FnOk P w K mg base CX0 (k + 1) f fd ["thing"] spWhole := by
  refine T.F.ok scWhole (fun vs H Q E h => ?_) (fun cdv A outer s H vs Q E hr h => ?_)
  · obtain ⟨i, rfl, _⟩ := h
    rfl
  · obtain ⟨i, rfl, q⟩ := h
    refine ⟨_, pss_one (ps_ret (pe_and (pe_callB call_isi (by rfl) B.isinstance (by decide +kernel) (pa_cons (pv 0) (pa_cons (pe_bltn (v := .ty "int") (by rfl) B.int (by decide +kernel) rfl) pa_nil)))
      (pe_one (pe_not (pe_callB call_isi (by rfl) B.isinstance (by decide +kernel) (pa_cons (pv 0) (pa_cons (pe_bltn (v := .ty "bool") (by rfl) B.bool (by decide +kernel) rfl) pa_nil))))))), ?_⟩
    refine ⟨_, rfl, _, _, _, _, true, rfl, .ty _, .base (.int _), kit_ty (by decide +kernel), true, rfl, iteT ?_⟩
    exact ⟨_, rfl, _, _, _, _, false, rfl, .ty _, .base (.int _), kit_ty (by decide +kernel), false, rfl, q⟩
end
end Fo
namespace Fo
open PySem PySem.Spec PyProof.Rows L2
def IsWay (w : Str) : Prop := w = "swap" ∨ w = "spot" ∨ w = "shift"
theorem n1 : ¬ (("spot" : Str) = "swap") := by decide +kernel
theorem n2 : ¬ (("shift" : Str) = "swap") := by decide +kernel
theorem n3 : ¬ (("shift" : Str) = "spot") := by decide +kernel
/-- the ways as the top has written them -/
structure Wy (K : PySem.W.Frag) (mg : Str → Option Value) (aW : Addr) : Prop where
  g : mg "WAYS" = some (.ref aW)
  t : ∀ H : Hp, SqT K H aW [.str "swap", .str "spot", .str "shift"]
theorem wy_mk {K : PySem.W.Frag} {mg : Str → Option Value} {aW : Addr} {dd : Option Addr} {n : Nat} {t1 t2 t3 : Tok} {sl : Array (Option Value)} (g : mg "WAYS" = some (.ref aW)) (l : K.lookup aW = some ⟨.type "tuple", dd, .seq #[.str "swap" t1, .str "spot" t2, .str "shift" t3] n, sl⟩) : Wy K mg aW :=
  ⟨g, fun H => .inr ⟨_, _, _, l, rfl, rfl, line_small (by show 3 ≤ 16777216; decide), .cons ⟨_, rfl⟩ (.cons ⟨_, rfl⟩ (.cons ⟨_, rfl⟩ .nil))⟩⟩
def spWay : Sp := fun vs H Q _ => ∃ (w : Str), vs = [.str w] ∧ IsWay w ∧ Q .non H
section
variable {P : Program} {w : World} {K : PySem.W.Frag} {mg : Str → Option Value} {base : Heap}
theorem scWay : FnScope ["thing"] ["thing"] (defScope s_check_way) := ⟨rfl, rfl, rfl, by decide +kernel, rfl, by decide +kernel, by decide +kernel⟩
theorem ok_way {f aW : Addr} {fd : FuncData} {k : Nat} (T : Df K mg "check_way" s_check_way ["thing"] f fd) (W : Wy K mg aW) (B : Bi mg) : FnOk P w K mg base CX0 (k + 1) f fd ["thing"] spWay := by
  refine T.F.ok scWay (fun vs H Q E h => ?_) (fun cdv A outer s H vs Q E hr h => ?_)
  · obtain ⟨z, rfl, _⟩ := h
    rfl
  · obtain ⟨z, rfl, hz, q⟩ := h
    refine ⟨_, 
      (pss_one (ps_if (PW.pt (pw_or (pt_not (pt_val (pe_callB call_isi (by rfl) B.isinstance (by decide +kernel) (pa_cons (pv 0) (pa_cons (pe_bltn (v := .ty "str") (by rfl) B.str (by decide +kernel) rfl) pa_nil))))) (pw_or1 (pt_cmpR op_notIn_seq (pv 0) (pe_glob (v := .ref aW) (by rfl) W.g rfl) (by rfl)))))
        (pss_one ps_never)
        pss_nil)), ?_⟩
    refine ⟨_, rfl, _, _, _, _, true, rfl, .ty _, .base (.str _), kit_ty (by decide +kernel), true, rfl, iteF ?_⟩
    rcases hz with rfl | rfl | rfl
    · exact ⟨_, rfl, aW, _, rfl, .inr (W.t H), rfl, rfl, _, rfl, ite2 (fun c => absurd c (by decide +kernel)) (fun _ => q)⟩
    · exact ⟨_, rfl, aW, _, rfl, .inr (W.t H), rfl, rfl, _, rfl, ite2 (fun c => absurd c (by decide +kernel)) (fun _ => q)⟩
    · exact ⟨_, rfl, aW, _, rfl, .inr (W.t H), rfl, rfl, _, rfl, ite2 (fun c => absurd c (by decide +kernel)) (fun _ => q)⟩
end
end Fo
namespace Fo
open PySem PySem.Spec PyProof.Rows L2
def spFrom : Sp := fun vs H Q _ => ∃ (r least : Int), vs = [.int r, .int least] ∧ least ≤ r ∧ Q .non H
section
variable {P : Program} {w : World} {K : PySem.W.Frag} {mg : Str → Option Value} {base : Heap}
theorem scFrom : FnScope ["thing", "least"] ["thing", "least"] (defScope s_check_from) := ⟨rfl, rfl, rfl, by decide +kernel, rfl, by decide +kernel, by decide +kernel⟩
theorem ok_from {f fW : Addr} {fd fdW : FuncData} {k : Nat} (T : Df K mg "check_from" s_check_from ["thing", "least"] f fd) (T_is_whole : Df K mg "is_whole" s_is_whole ["thing"] fW fdW) (B : Bi mg) : FnOk P w K mg base CX0 (k + 2) f fd ["thing", "least"] spFrom := by
  have G_is_whole : FnOk P w K mg base CX0 (k + 1) fW fdW ["thing"] spWhole := ok_whole T_is_whole B
  refine T.F.ok scFrom (fun vs H Q E h => ?_) (fun cdv A outer s H vs Q E hr h => ?_)
  · obtain ⟨r, least, rfl, _⟩ := h
    rfl
  · obtain ⟨r, least, rfl, hle, q⟩ := h
    refine ⟨_, 
      (pss_one (ps_if (PW.pt (pw_or (pt_not (pt_val (pe_call G_is_whole hr (by rfl) T_is_whole.g T_is_whole.F.kp T_is_whole.b .nil pass0 (pa_cons (pv 0) pa_nil)))) (pw_or1 (pt_cmpR op_lt (pv 0) (pv 1) (nomark _)))))
        (pss_one ps_never)
        pss_nil)), ?_⟩
    refine ⟨_, rfl, r, rfl, _, rfl, iteF ?_⟩
    exact ⟨_, rfl, _, rfl, r, least, rfl, rfl, _, rfl, ite2 (fun z => absurd (of_decide_eq_true z) (by omega)) (fun _ => q)⟩
end
end Fo
namespace Fo
open PySem PySem.Spec PyProof.Rows L2
def spSize : Sp := fun vs H Q _ => ∃ (n most : Int), vs = [.int n, .int most] ∧ 1 ≤ n ∧ n ≤ most ∧ Q .non H
section
variable {P : Program} {w : World} {K : PySem.W.Frag} {mg : Str → Option Value} {base : Heap}
theorem scSize : FnScope ["thing", "most"] ["thing", "most"] (defScope s_check_size) := ⟨rfl, rfl, rfl, by decide +kernel, rfl, by decide +kernel, by decide +kernel⟩
theorem ok_size {f fW : Addr} {fd fdW : FuncData} {k : Nat} (T : Df K mg "check_size" s_check_size ["thing", "most"] f fd) (T_is_whole : Df K mg "is_whole" s_is_whole ["thing"] fW fdW) (B : Bi mg) : FnOk P w K mg base CX0 (k + 2) f fd ["thing", "most"] spSize := by
  have G_is_whole : FnOk P w K mg base CX0 (k + 1) fW fdW ["thing"] spWhole := ok_whole T_is_whole B
  refine T.F.ok scSize (fun vs H Q E h => ?_) (fun cdv A outer s H vs Q E hr h => ?_)
  · obtain ⟨n, most, rfl, _⟩ := h
    rfl
  · obtain ⟨n, most, rfl, h1, h2, q⟩ := h
    refine ⟨_, 
      (pss_one (ps_if (PW.pt (pw_or (pt_not (pt_val (pe_call G_is_whole hr (by rfl) T_is_whole.g T_is_whole.F.kp T_is_whole.b .nil pass0 (pa_cons (pv 0) pa_nil)))) (pw_or (pt_cmpR op_lt (pv 0) pe_int (nomark _)) (pw_or1 (pt_cmpR op_gt (pv 0) (pv 1) (nomark _))))))
        (pss_one ps_never)
        pss_nil)), ?_⟩
    refine ⟨_, rfl, n, rfl, _, rfl, iteF ?_⟩
    refine ⟨_, rfl, n, 1, rfl, rfl, _, rfl, ite2 (fun z => absurd (of_decide_eq_true z) (by omega)) (fun _ => ?_)⟩
    exact ⟨_, rfl, _, rfl, n, most, rfl, rfl, _, rfl, ite2 (fun z => absurd (of_decide_eq_true z) (by omega)) (fun _ => q)⟩
end
end Fo
namespace Fo
open PySem PySem.Spec PyProof.Rows L2
def spApart : Sp := fun vs H Q _ => ∃ (w : Str) (n most d : Int), vs = [.str w, .int n, .int most, .int d] ∧ IsWay w ∧ 1 ≤ n ∧ n ≤ most ∧ 1 ≤ d ∧ Q .non H
section
variable {P : Program} {w : World} {K : PySem.W.Frag} {mg : Str → Option Value} {base : Heap}
theorem scApart : FnScope ["way", "n", "most", "d"] ["way", "n", "most", "d"] (defScope s_check_apart) := ⟨rfl, rfl, rfl, by decide +kernel, rfl, by decide +kernel, by decide +kernel⟩
theorem ok_apart {f f1 f2 f3 fW aW : Addr} {fd d1 d2 d3 dW : FuncData} {k : Nat} (T : Df K mg "check_apart" s_check_apart ["way", "n", "most", "d"] f fd) (T_check_way : Df K mg "check_way" s_check_way ["thing"] f1 d1) (T_check_size : Df K mg "check_size" s_check_size ["thing", "most"] f2 d2) (T_check_from : Df K mg "check_from" s_check_from ["thing", "least"] f3 d3) (T_is_whole : Df K mg "is_whole" s_is_whole ["thing"] fW dW) (W : Wy K mg aW) (B : Bi mg) : FnOk P w K mg base CX0 (k + 3) f fd ["way", "n", "most", "d"] spApart := by
  have G_check_way : FnOk P w K mg base CX0 (k + 2) f1 d1 ["thing"] spWay := ok_way (k := k + 1) T_check_way W B
  have G_check_size : FnOk P w K mg base CX0 (k + 2) f2 d2 ["thing", "most"] spSize := ok_size T_check_size T_is_whole B
  have G_check_from : FnOk P w K mg base CX0 (k + 2) f3 d3 ["thing", "least"] spFrom := ok_from T_check_from T_is_whole B
  refine T.F.ok scApart (fun vs H Q E h => ?_) (fun cdv A outer s H vs Q E hr h => ?_)
  · obtain ⟨w, n, most, d, rfl, _⟩ := h
    rfl
  · obtain ⟨w, n, most, d, rfl, hw, h1, h2, h3, q⟩ := h
    refine ⟨_, 
      (pss_cons (ps_expr (pe_call G_check_way hr (by rfl) T_check_way.g T_check_way.F.kp T_check_way.b .nil pass0 (pa_cons (pv 0) pa_nil)))
      (pss_cons (ps_expr (pe_call G_check_size hr (by rfl) T_check_size.g T_check_size.F.kp T_check_size.b .nil pass0 (pa_cons (pv 1) (pa_cons (pv 2) pa_nil))))
      (pss_one (ps_expr (pe_call G_check_from hr (by rfl) T_check_from.g T_check_from.F.kp T_check_from.b .nil pass0 (pa_cons (pv 3) (pa_cons pe_int pa_nil))))))), ?_⟩
    exact ⟨_, rfl, w, rfl, hw, _, rfl, _, rfl, n, most, rfl, h1, h2, _, rfl, d, 1, rfl, h3, q⟩
end
end Fo
namespace Fo
open PySem PySem.Spec PyProof.Rows L2
/-! ### the program's counts -/
def spFac : Sp := fun vs H Q _ => ∃ n : Nat, vs = [.int n] ∧ n ≤ 12 ∧ Q (.int (facN n)) H
def spNewL (F : Nat → List Int) : Sp := fun vs H Q _ => ∃ n : Nat, vs = [.int n] ∧ 1 ≤ n ∧ n ≤ 12 ∧ ∀ (l : Addr) (H' : Hp), H l = none → H' l = some (.lst ((F n).map V.int)) → Same H H' → Q (.ref l) H'
def spSwC : Sp := spNewL fun n => swC (n - 1)
def spSpC : Sp := spNewL spC
def spSwM : Sp := fun vs H Q _ => ∃ (a : Addr) (c : List Int) (b : Nat), vs = [.ref a, .int b] ∧ H a = some (.lst (c.map V.int)) ∧ c.length ≤ 100 ∧ b ≤ 12 ∧ ∀ (l : Addr) (H' : Hp), H l = none → H' l = some (.lst ((swNext c b).map V.int)) → Same H H' → Q (.ref l) H'
def spMv : Sp := fun vs H Q _ => ∃ n : Nat, vs = [.int n] ∧ n ≤ 12 ∧ Q (.int (mvN n).1) H
def dN (l : List (Nat × Int)) : List (Key × V) := l.map fun p => (Sum.inl ((p.1 : Nat) : Int), V.int p.2)
def nearT (lo c : Nat) : List Int := (List.range c).map fun j => (((lo + j : Nat)) : Int)
def spNearT : Sp := fun vs H Q _ => ∃ (p n : Nat) (r : Int), vs = [.int p, .int n, .int r] ∧ p < n ∧ n ≤ 12 ∧ 0 ≤ r ∧ ∀ (l : Addr) (H' : Hp), H l = none → H' l = some (.lst ((nearT (loP p r) (ctP n p r)).map V.int)) → Same H H' → Q (.ref l) H'
def spFurther : Sp := fun vs H Q _ => ∃ (a b : Addr) (d : List (Nat × Int)) (lo c : Nat), vs = [.ref a, .ref b] ∧ H a = some (.dK (dN d)) ∧ GoodD d ∧ H b = some (.lst ((nearT lo c).map V.int)) ∧ lo + c ≤ 12 ∧ ∀ (l : Addr) (H' : Hp), H l = none → H' l = some (.dK (dN (stOut d lo c d.length))) → Same H H' → Q (.ref l) H'
def spShN : Sp := fun vs H Q _ => ∃ (n : Nat) (r : Int), vs = [.int n, .int r] ∧ 1 ≤ n ∧ n ≤ 12 ∧ 0 ≤ r ∧ ∀ H', Same H H' → Q (.int (shN n r)) H'
def inW (w : Str) (n : Nat) (r : Int) : Int := if w = "swap" then ((swC (n - 1)).take (r + 1).toNat).sum else if w = "spot" then ((spC n).take (r + 1).toNat).sum else shN n r
def IsWy (w : Str) : Prop := w = "swap" ∨ w = "spot" ∨ w = "shift"
def spKW : Sp := fun vs H Q _ => ∃ (w : Str) (n : Nat) (r : Int), vs = [.str w, .int n, .int r] ∧ IsWay w ∧ 1 ≤ n ∧ n ≤ 12 ∧ 0 ≤ r ∧ ∀ H', Same H H' → Q (.int (inW w n r)) H'
theorem inW_swap (n : Nat) (r : Int) : inW "swap" n r = ((swC (n - 1)).take (r + 1).toNat).sum := by unfold inW; rw [if_pos rfl]
theorem inW_spot (n : Nat) (r : Int) : inW "spot" n r = ((spC n).take (r + 1).toNat).sum := by unfold inW; rw [if_neg n1, if_pos rfl]
theorem inW_shift (n : Nat) (r : Int) : inW "shift" n r = shN n r := by unfold inW; rw [if_neg n2, if_neg n3]
theorem inW_good {w : Str} {n : Nat} {r : Int} (hw : IsWay w) (h1 : 1 ≤ n) (h2 : n ≤ 12) (hr : 0 ≤ r) : 1 ≤ inW w n r ∧ inW w n r ≤ 8916100448256 := by
  rcases hw with rfl | rfl | rfl
  · rw [inW_swap]
    obtain ⟨a, b, c⟩ := swC_good (n - 1) (by omega)
    have := sum_take (k := (r + 1).toNat) a b (by omega)
    omega
  · rw [inW_spot]
    obtain ⟨a, b, c⟩ := spC_good n (by omega)
    have := sum_take (k := (r + 1).toNat) a b (by omega)
    omega
  · rw [inW_shift]
    exact shN_good h2 hr
theorem zeros_flat : ∀ m : Nat, (List.replicate m [V.int 0]).flatten = (List.replicate m (0 : Int)).map V.int
  | 0 => rfl
  | m + 1 => by
    rw [List.replicate_succ, List.replicate_succ, List.flatten_cons, zeros_flat m]
    rfl
theorem addAt_V {l : List Int} {i : Nat} {v : Int} : (l.map V.int).set i (V.int (l.getD i 0 + v)) = (addAt l i v).map V.int := by
  unfold addAt
  rw [List.map_set]
theorem getD_some {l : List Int} {i : Nat} (h : i < l.length) : l[i]? = some (l.getD i 0) := by
  rw [List.getD_eq_getElem?_getD, List.getElem?_eq_getElem h]
  rfl
theorem dN_get (l : List (Nat × Int)) (k : Nat) : (valV (dN l) (Sum.inl (k : Int))).getD (V.int 0) = V.int (lookN l k) := by
  induction l with
  | nil => rfl
  | cons p l ih =>
    rw [look_cons]
    by_cases c : p.1 = k
    · rw [if_pos c]
      show (valV ((Sum.inl ((p.1 : Nat) : Int), V.int p.2) :: dN l) (Sum.inl (k : Int))).getD (V.int 0) = _
      rw [valV_pos (by rw [c])]
      rfl
    · rw [if_neg c]
      show (valV ((Sum.inl ((p.1 : Nat) : Int), V.int p.2) :: dN l) (Sum.inl (k : Int))).getD (V.int 0) = _
      rw [valV_neg (fun e => c (by have := Sum.inl.inj e; omega))]
      exact ih
theorem dN_any (l : List (Nat × Int)) (k : Nat) : ((dN l).any fun kv => decide (kv.1 = Sum.inl (k : Int))) = l.any fun p => decide (p.1 = k) := by
  unfold dN
  rw [List.any_map]
  congr 1
  funext p
  show decide (Sum.inl ((p.1 : Nat) : Int) = (Sum.inl (k : Int) : Key)) = decide (p.1 = k)
  by_cases c : p.1 = k
  · rw [c]; simp
  · rw [decide_eq_false c, decide_eq_false (fun e => c (by have := Sum.inl.inj e; omega))]
theorem dN_put (l : List (Nat × Int)) (k : Nat) (v : Int) : putK (dN l) (Sum.inl (k : Int)) (V.int v) = dN (putN l k v) := by
  unfold putK putN
  rw [dN_any]
  split
  · unfold dN
    rw [List.map_map, List.map_map]
    apply List.map_congr_left
    intro p _
    show (if Sum.inl ((p.1 : Nat) : Int) = (Sum.inl (k : Int) : Key) then _ else _) = _
    by_cases c : p.1 = k
    · subst c
      rw [if_pos rfl]
      show _ = (Sum.inl _, V.int (if p.1 = p.1 then (p.1, v) else p).2)
      rw [if_pos rfl]
      show _ = (Sum.inl (((if p.1 = p.1 then (p.1, v) else p).1 : Nat) : Int), V.int v)
      rw [if_pos rfl]
    · rw [if_neg (fun e => c (by have := Sum.inl.inj e; omega))]
      show _ = (Sum.inl (((if p.1 = k then (p.1, v) else p).1 : Nat) : Int), V.int (if p.1 = k then (p.1, v) else p).2)
      rw [if_neg c]
  · unfold dN
    rw [List.map_append]
    rfl
theorem dN_len (l : List (Nat × Int)) : (dN l).length = l.length := List.length_map _
theorem dN_at {l : List (Nat × Int)} {i : Nat} {k : Key} {v : V} (h : (dN l)[i]? = some (k, v)) : i < l.length ∧ k = Sum.inl (((l.getD i (0, 0)).1 : Nat) : Int) ∧ v = V.int (l.getD i (0, 0)).2 := by
  unfold dN at h
  rw [List.getElem?_map] at h
  cases e : l[i]? with
  | none => rw [e] at h; cases h
  | some p =>
    rw [e] at h
    have h2 := Option.some.inj h
    have hi := (List.getElem?_eq_some_iff.mp e).1
    rw [List.getD_eq_getElem?_getD, e]
    exact ⟨hi, (Prod.mk.inj h2).1.symm, (Prod.mk.inj h2).2.symm⟩
theorem near_at {lo c j : Nat} (h : j < c) : (nearT lo c)[j]? = some (((lo + j : Nat)) : Int) := by
  unfold nearT
  rw [List.getElem?_map, List.getElem?_range h]
  rfl
theorem near_len (lo c : Nat) : (nearT lo c).length = c := by unfold nearT; rw [List.length_map, List.length_range]
theorem near_V {p n : Nat} {r : Int} (hp : p < n) (hr : 0 ≤ r) : rgV (max 0 ((p : Int) - r)) (min (n : Int) ((p : Int) + r + 1)) = (nearT (loP p r) (ctP n p r)).map V.int := by
  unfold rgV nearT
  have e : (min (n : Int) ((p : Int) + r + 1) - max 0 ((p : Int) - r)).toNat = ctP n p r := by
    unfold ctP loP
    omega
  rw [e, List.map_map]
  apply List.map_congr_left
  intro a _
  show V.int (max 0 ((p : Int) - r) + (a : Int)) = V.int ((loP p r + a : Nat) : Int)
  congr 1
  unfold loP
  omega
theorem bit_read {u t : Nat} (hu : u < 4096) (ht : t < 12) : decide (V.int (Builtin.bitAnd (u : Int) (1 * 2 ^ ((t : Nat) : Int).toNat)) = V.int 0) = !u.testBit t := by
  rw [Int.one_mul, Int.toNat_natCast, show ((2 : Int) ^ t) = ((2 ^ t : Nat) : Int) by rw [Int.natCast_pow]; rfl, bitAnd_pp (Int.natCast_nonneg _) (Int.natCast_nonneg _), Int.toNat_natCast, Int.toNat_natCast]
  cases h : u.testBit t with
  | false =>
    rw [bit_and h]
    rfl
  | true =>
    rw [decide_eq_false]
    · rfl
    · intro e
      have e2 : u &&& 2 ^ t = 0 := by have := V.int.inj e; omega
      have e3 := congrArg (fun x => Nat.testBit x t) e2
      simp [h] at e3
theorem bit_or {u t : Nat} (h : u.testBit t = false) (hu : u < 4096) (ht : t < 12) : Builtin.bitOr (u : Int) (1 * 2 ^ ((t : Nat) : Int).toNat) = ((u + 2 ^ t : Nat) : Int) := by
  rw [Int.one_mul, Int.toNat_natCast, show ((2 : Int) ^ t) = ((2 ^ t : Nat) : Int) by rw [Int.natCast_pow]; rfl, bitOr_and, bitAnd_pp (Int.natCast_nonneg _) (Int.natCast_nonneg _), Int.toNat_natCast, Int.toNat_natCast, bit_and h]
  omega
section
variable {P : Program} {w : World} {K : PySem.W.Frag} {mg : Str → Option Value} {base : Heap}
theorem scFac : FnScope ["n", "many", "things"] ["n"] (defScope s_count_orders) := ⟨rfl, rfl, rfl, by decide +kernel, rfl, by decide +kernel, by decide +kernel⟩
theorem ok_fac {f : Addr} {fd : FuncData} {k : Nat} (T : Df K mg "count_orders" s_count_orders ["n"] f fd) (B : Bi mg) : FnOk P w K mg base CX0 (k + 1) f fd ["n"] spFac := by
  refine T.F.ok scFac (fun vs H Q E h => ?_) (fun cdv A outer s H vs Q E hr h => ?_)
  · obtain ⟨n, rfl, _⟩ := h
    rfl
  · obtain ⟨n, rfl, hn, q⟩ := h
    refine ⟨_, 
      (pss_cons (ps_set (i := 1) scFac.nd rfl (.inl rfl) pe_int)
      (pss_cons (ps_for PassesOwn.never rfl (pi_range2 (by rfl) B.range (pa_cons pe_int (pa_cons (pe_op op_add (pv 0) pe_int) pa_nil))) (pg_name (i := 2) scFac.nd rfl (.inl rfl))
        (pss_one (ps_aug (i := 1) scFac.nd rfl (.inl rfl) (pv 2) iop_mul)))
      (pss_one (ps_ret (pv 1))))), ?_⟩
    refine ⟨_, rfl, (n : Int), 1, rfl, rfl, 1, _, rfl, ⟨by omega, by omega, by omega, by omega⟩, ?_⟩
    rw [show ((n : Int) + 1 - 1).toNat = n by omega]
    refine for_range (lo := 1) (n := n) (fun i σ H1 => ∃ y2 : Option V, σ = [some (.int n), some (.int (facN i)), y2] ∧ H1 = H) ⟨_, rfl, rfl⟩ (fun i σ H1 hi hW => ?_) (fun σ H1 hW => ?_)
    · obtain ⟨y2, rfl, rfl⟩ := hW
      have hf := fac_small i (by omega)
      refine ⟨_, rfl, _, rfl, _, _, rfl, rfl, .inl ⟨by omega, by omega⟩, some (.int (1 + (i : Int))), ?_, rfl⟩
      show [some (V.int (n : Int)), some (V.int (facN i * (1 + (i : Int)))), some (V.int (1 + (i : Int)))] = _
      rw [Int.add_comm 1 (i : Int)]
      rfl
    · obtain ⟨y2, rfl, rfl⟩ := hW
      exact ⟨_, rfl, q⟩
theorem scSwM : FnScope ["counts", "behind", "more", "far", "many", "passed"] ["counts", "behind"] (defScope s_swap_counts_with_one_more) := ⟨rfl, rfl, rfl, by decide +kernel, rfl, by decide +kernel, by decide +kernel⟩
set_option maxHeartbeats 1000000 in
theorem ok_swM {f : Addr} {fd : FuncData} {k : Nat} (T : Df K mg "swap_counts_with_one_more" s_swap_counts_with_one_more ["counts", "behind"] f fd) (B : Bi mg) : FnOk P w K mg base CX0 (k + 1) f fd ["counts", "behind"] spSwM := by
  refine T.F.ok scSwM (fun vs H Q E h => ?_) (fun cdv A outer s H vs Q E hr h => ?_)
  · obtain ⟨a, c, b, rfl, _⟩ := h
    rfl
  · obtain ⟨a, c, b, rfl, ha, hc, hb, q⟩ := h
    have hlm : (c.map V.int).length = c.length := List.length_map _
    refine ⟨_, 
      (pss_cons (ps_set (i := 2) scSwM.nd rfl (.inl rfl) (pe_op op_rep (pe_lst (pa_cons pe_int pa_nil)) (pe_op op_add (pe_callB call_len_seq (by rfl) B.len PySem.boot_len (pa_cons (pv 0) pa_nil)) (pv 1))))
      (pss_cons (ps_for PassesOwn.never rfl (pi_enum (by rfl) B.enumerate (pa_cons (pv 0) pa_nil)) (pg_tup (by rfl) (pgs_cons (pg_name (i := 3) scSwM.nd rfl (.inl rfl)) (pgs_cons (pg_name (i := 4) scSwM.nd rfl (.inl rfl)) pgs_nil)))
        (pss_one (ps_for PassesOwn.never rfl (pi_range1 (by rfl) B.range (pa_cons (pe_op op_add (pv 1) pe_int) pa_nil)) (pg_name (i := 5) scSwM.nd rfl (.inl rfl))
          (pss_one (ps_augS (pv 2) (pe_op op_add (pv 3) (pv 5)) get_list (pv 4) ip_add set_list)))))
      (pss_one (ps_ret (pv 2))))), ?_⟩
    refine ⟨line_small (by show 1 ≤ 16777216; decide), fun z nz => ?_⟩
    have s1 := same_new (o := .lst [.int 0]) nz
    refine ⟨_, rfl, a, _, rfl, .inl (SqL.of (s1 _ _ ha)), _, rfl, _, _, rfl, rfl, z, _, _, rfl, rfl, upd_same, by omega, by omega, line_small (by rw [hlm]; show 1 * _ ≤ _; omega), fun l nl => ?_⟩
    have en : ((((c.map V.int).length : Nat) : Int) + (b : Int)).toNat = c.length + b := by rw [hlm]; omega
    have s2 := s1.trans (same_new (o := .lst (List.replicate ((((c.map V.int).length : Nat) : Int) + (b : Int)).toNat [V.int 0]).flatten) nl)
    have hl0 : (upd (upd H z (.lst [.int 0])) l (.lst (List.replicate ((((c.map V.int).length : Nat) : Int) + (b : Int)).toNat [V.int 0]).flatten)) l = some (.lst ((swOut c b 0).map V.int)) := by rw [upd_same, en, zeros_flat]; rfl
    have nHl : H l = none := s1.free nl
    generalize upd (upd H z (.lst [.int 0])) l (.lst (List.replicate ((((c.map V.int).length : Nat) : Int) + (b : Int)).toNat [V.int 0]).flatten) = H1 at s2 hl0 ⊢
    refine ⟨_, rfl, a, _, rfl, SqL.of (s2 _ _ ha), ?_⟩
    refine for_enumL (xs := c.map V.int) (fun i σ H3 => ∃ (y3 y4 y5 : Option V), σ = [some (.ref a), some (.int b), some (.ref l), y3, y4, y5] ∧ H3 l = some (.lst ((swOut c b i).map V.int)) ∧ Same H H3)
      ⟨_, _, _, rfl, hl0, s2⟩ (fun i σ H3 hW => by obtain ⟨_, _, _, _, _, sm⟩ := hW; exact SqL.of (sm _ _ ha)) (fun i x t σ H3 hx hW nt => ?_) (fun σ H3 hW => ?_)
    · obtain ⟨y3, y4, y5, rfl, hl3, sm⟩ := hW
      obtain ⟨y, ey, rfl⟩ := int_at_inv hx
      have hi := (List.getElem?_eq_some_iff.mp ey).1
      have eg : c.getD i 0 = y := by rw [List.getD_eq_getElem?_getD, ey]; rfl
      have st := same_new (o := .tup [.int (i : Nat), .int y]) nt
      have hl4 := st _ _ hl3
      have sm4 := sm.trans st
      have ht4 : (upd H3 t (.tup [.int (i : Nat), .int y])) t = some (.tup [.int (i : Nat), .int y]) := upd_same
      generalize upd H3 t (.tup [.int (i : Nat), .int y]) = H4 at ht4 hl4 sm4 ⊢
      refine ⟨t, _, rfl, .inl (.inl ht4), rfl, _, _, rfl, _, _, rfl, rfl, ?_⟩
      refine ⟨_, rfl, (b : Int), 1, rfl, rfl, _, rfl, by omega, by omega, ?_⟩
      rw [show ((b : Int) + 1).toNat = b + 1 by omega]
      refine for_range (lo := 0) (n := b + 1) (fun j σ H5 => ∃ (y5 : Option V), σ = [some (.ref a), some (.int b), some (.ref l), some (.int (i : Nat)), some (.int y), y5] ∧ H5 l = some (.lst ((swIn y i j (swOut c b i)).map V.int)) ∧ Same H H5) ⟨_, rfl, hl4, sm4⟩ (fun j σ H5 hj hW => ?_) (fun σ H5 hW => ?_)
      · obtain ⟨z5, rfl, hl5, sm5⟩ := hW
        have hlen : (swIn y i j (swOut c b i)).length = c.length + b := by rw [swIn_len, swOut_len]
        have hij : i + j < (swIn y i j (swOut c b i)).length := by omega
        refine ⟨_, rfl, _, rfl, _, rfl, _, _, rfl, rfl, l, _, _, _, rfl, rfl, SqL.of hl5, by omega, at_of (j := i + j) (by omega) (int_at (getD_some hij)), _, rfl, _, _, rfl, rfl, l, _, _, i + j, rfl, rfl, hl5, ix_n (by omega) (by rw [List.length_map]; exact hij), _, rfl, ?_, fun u o e => ?_⟩
        · rw [upd_same, addAt_V]
          rfl
        · rw [upd_ne (ne_of_none e nHl)]
          exact sm5 _ _ e
      · obtain ⟨z5, rfl, hl5, sm5⟩ := hW
        refine ⟨_, _, _, rfl, ?_, sm5⟩
        rw [swOut, eg]
        exact hl5
    · obtain ⟨y3, y4, y5, rfl, hl3, sm⟩ := hW
      rw [hlm] at hl3
      exact ⟨_, rfl, q l H3 nHl hl3 sm⟩
theorem scSwC : FnScope ["n", "counts", "behind"] ["n"] (defScope s_swap_counts) := ⟨rfl, rfl, rfl, by decide +kernel, rfl, by decide +kernel, by decide +kernel⟩
theorem ok_swC {f f1 : Addr} {fd d1 : FuncData} {k : Nat} (T : Df K mg "swap_counts" s_swap_counts ["n"] f fd) (T_swap_counts_with_one_more : Df K mg "swap_counts_with_one_more" s_swap_counts_with_one_more ["counts", "behind"] f1 d1) (B : Bi mg) : FnOk P w K mg base CX0 (k + 2) f fd ["n"] spSwC := by
  have G_swap_counts_with_one_more : FnOk P w K mg base CX0 (k + 1) f1 d1 ["counts", "behind"] spSwM := ok_swM T_swap_counts_with_one_more B
  refine T.F.ok scSwC (fun vs H Q E h => ?_) (fun cdv A outer s H vs Q E hr h => ?_)
  · obtain ⟨n, rfl, _⟩ := h
    rfl
  · obtain ⟨n, rfl, hn1, hn2, q⟩ := h
    refine ⟨_, 
      (pss_cons (ps_set (i := 1) scSwC.nd rfl (.inl rfl) (pe_lst (pa_cons pe_int pa_nil)))
      (pss_cons (ps_for PassesOwn.never rfl (pi_range2 (by rfl) B.range (pa_cons pe_int (pa_cons (pv 0) pa_nil))) (pg_name (i := 2) scSwC.nd rfl (.inl rfl))
        (pss_one (ps_set (i := 1) scSwC.nd rfl (.inl rfl) (pe_call G_swap_counts_with_one_more hr (by rfl) T_swap_counts_with_one_more.g T_swap_counts_with_one_more.F.kp T_swap_counts_with_one_more.b .nil pass0 (pa_cons (pv 1) (pa_cons (pv 2) pa_nil))))))
      (pss_one (ps_ret (pv 1))))), ?_⟩
    refine ⟨line_small (by show 1 ≤ 16777216; decide), fun l nl => ?_⟩
    have s1 := same_new (o := .lst [.int 1]) nl
    refine ⟨_, rfl, 1, (n : Int), rfl, ⟨by omega, by omega, by omega, by omega⟩, ?_⟩
    rw [show ((n : Int) - 1).toNat = n - 1 by omega]
    refine for_range (lo := 1) (n := n - 1) (fun i σ H1 => ∃ (l : Addr) (y2 : Option V), σ = [some (.int n), some (.ref l), y2] ∧ H l = none ∧ H1 l = some (.lst ((swC i).map V.int)) ∧ Same H H1) ⟨l, _, rfl, nl, upd_same, s1⟩ (fun i σ H1 hi hW => ?_) (fun σ H1 hW => ?_)
    · obtain ⟨l, y2, rfl, nl, hl, sm⟩ := hW
      refine ⟨_, rfl, _, rfl, l, swC i, i + 1, by show _ = [V.ref l, V.int ((i + 1 : Nat) : Int)]; rw [show ((i + 1 : Nat) : Int) = 1 + (i : Int) by omega]; rfl, hl, by rw [swC_len]; have := (tri_le i (by omega)).1; omega, by omega, fun l2 H2 nl2 hl2 s2 => ?_⟩
      exact ⟨l2, _, rfl, sm.free nl2, hl2, sm.trans s2⟩
    · obtain ⟨l, y2, rfl, nl, hl, sm⟩ := hW
      exact ⟨_, rfl, q l H1 nl hl sm⟩
end
end Fo
namespace Fo
open PySem PySem.Spec PyProof.Rows L2
abbrev rMax2 : List V → Hp → VK → Prop := fun xs H Q => ∃ i j, xs = [.int i, .int j] ∧ Q (.int (if j > i then j else i)) H
abbrev rMin2 : List V → Hp → VK → Prop := fun xs H Q => ∃ i j, xs = [.int i, .int j] ∧ Q (.int (if j < i then j else i)) H
theorem max_if (i j : Int) : (if j > i then j else i) = max i j := by split <;> omega
theorem min_if (i j : Int) : (if j < i then j else i) = min i j := by split <;> omega
theorem dN_val : ∀ {l : List (Nat × Int)} {i : Nat}, (keysN l).Nodup → i < l.length → valV (dN l) (Sum.inl (((l.getD i (0, 0)).1 : Nat) : Int)) = some (V.int (l.getD i (0, 0)).2)
  | [], i, _, h => absurd h (Nat.not_lt_zero _)
  | p :: l, 0, _, _ => valV_pos rfl
  | p :: l, i + 1, hn, h => by
    obtain ⟨h1, h2⟩ := List.nodup_cons.mp hn
    have ih := dN_val (l := l) (i := i) h2 (by simpa using h)
    have hi : i < l.length := by simpa using h
    show valV ((Sum.inl ((p.1 : Nat) : Int), V.int p.2) :: dN l) (Sum.inl (((l.getD i (0, 0)).1 : Nat) : Int)) = some (V.int (l.getD i (0, 0)).2)
    rw [valV_neg (fun e => h1 (by
      have e2 : p.1 = (l.getD i (0, 0)).1 := by have := Sum.inl.inj e; omega
      exact List.mem_map.mpr ⟨l.getD i (0, 0), by rw [getD_at hi]; exact List.getElem_mem _, e2.symm⟩))]
    exact ih
theorem dN_sum (l : List (Nat × Int)) : (dN l).map (·.2) = (l.map (·.2)).map V.int := by
  unfold dN
  rw [List.map_map, List.map_map]
  rfl
section
variable {P : Program} {w : World} {K : PySem.W.Frag} {mg : Str → Option Value} {base : Heap}
theorem scMv : FnScope ["n", "many", "sign", "things"] ["n"] (defScope s_count_all_moved) := ⟨rfl, rfl, rfl, by decide +kernel, rfl, by decide +kernel, by decide +kernel⟩
theorem ok_mv {f : Addr} {fd : FuncData} {k : Nat} (T : Df K mg "count_all_moved" s_count_all_moved ["n"] f fd) (B : Bi mg) : FnOk P w K mg base CX0 (k + 1) f fd ["n"] spMv := by
  refine T.F.ok scMv (fun vs H Q E h => ?_) (fun cdv A outer s H vs Q E hr h => ?_)
  · obtain ⟨n, rfl, _⟩ := h
    rfl
  · obtain ⟨n, rfl, hn, q⟩ := h
    refine ⟨_, 
      (pss_cons (ps_set (i := 1) scMv.nd rfl (.inl rfl) pe_int)
      (pss_cons (ps_set (i := 2) scMv.nd rfl (.inl rfl) pe_int)
      (pss_cons (ps_for PassesOwn.never rfl (pi_range2 (by rfl) B.range (pa_cons pe_int (pa_cons (pe_op op_add (pv 0) pe_int) pa_nil))) (pg_name (i := 3) scMv.nd rfl (.inl rfl))
        (pss_cons (ps_set (i := 2) scMv.nd rfl (.inl rfl) (pe_un un_neg (pv 2)))
        (pss_one (ps_set (i := 1) scMv.nd rfl (.inl rfl) (pe_op op_add (pe_op op_mul (pv 1) (pv 3)) (pv 2))))))
      (pss_one (ps_ret (pv 1)))))), ?_⟩
    refine ⟨_, rfl, (n : Int), 1, rfl, rfl, 1, _, rfl, ⟨by omega, by omega, by omega, by omega⟩, ?_⟩
    rw [show ((n : Int) + 1 - 1).toNat = n by omega]
    refine for_range (lo := 1) (n := n) (fun i σ H1 => ∃ y2 : Option V, σ = [some (.int n), some (.int (mvN i).1), some (.int (mvN i).2), y2] ∧ H1 = H) ⟨_, rfl, rfl⟩ (fun i σ H1 hi hW => ?_) (fun σ H1 hW => ?_)
    · obtain ⟨y2, rfl, rfl⟩ := hW
      have hf := mv_small i (by omega)
      refine ⟨_, rfl, _, rfl, _, rfl, _, rfl, _, _, rfl, rfl, .inl ⟨by omega, by omega⟩, _, rfl, _, _, rfl, rfl, some (.int (1 + (i : Int))), ?_, rfl⟩
      show [some (V.int (n : Int)), some (V.int ((mvN i).1 * (1 + (i : Int)) + -(mvN i).2)), some (V.int (-(mvN i).2)), some (V.int (1 + (i : Int)))] = _
      rw [Int.add_comm 1 (i : Int)]
      rfl
    · obtain ⟨y2, rfl, rfl⟩ := hW
      exact ⟨_, rfl, q⟩
theorem scSpC : FnScope ["n", "counts", "choices", "r"] ["n"] (defScope s_spot_counts) := ⟨rfl, rfl, rfl, by decide +kernel, rfl, by decide +kernel, by decide +kernel⟩
set_option maxHeartbeats 1000000 in
theorem ok_spC {f f1 : Addr} {fd d1 : FuncData} {k : Nat} (T : Df K mg "spot_counts" s_spot_counts ["n"] f fd) (T_count_all_moved : Df K mg "count_all_moved" s_count_all_moved ["n"] f1 d1) (B : Bi mg) : FnOk P w K mg base CX0 (k + 2) f fd ["n"] spSpC := by
  have G_count_all_moved : FnOk P w K mg base CX0 (k + 1) f1 d1 ["n"] spMv := ok_mv T_count_all_moved B
  refine T.F.ok scSpC (fun vs H Q E h => ?_) (fun cdv A outer s H vs Q E hr h => ?_)
  · obtain ⟨n, rfl, _⟩ := h
    rfl
  · obtain ⟨n, rfl, hn1, hn2, q⟩ := h
    refine ⟨_, 
      (pss_cons (ps_set (i := 1) scSpC.nd rfl (.inl rfl) (pe_lst pa_nil))
      (pss_cons (ps_set (i := 2) scSpC.nd rfl (.inl rfl) pe_int)
      (pss_cons (ps_for PassesOwn.never rfl (pi_range1 (by rfl) B.range (pa_cons (pe_op op_add (pv 0) pe_int) pa_nil)) (pg_name (i := 3) scSpC.nd rfl (.inl rfl))
        (pss_cons (ps_expr (pe_bm PySem.F.plainAttrs_list PySem.F.slot_list_append PySem.F.type_list_append mt_append (pv 1) (pa_cons (pe_op op_mul (pv 2) (pe_call G_count_all_moved hr (by rfl) T_count_all_moved.g T_count_all_moved.F.kp T_count_all_moved.b .nil pass0 (pa_cons (pv 3) pa_nil))) pa_nil)))
        (pss_one (ps_set (i := 2) scSpC.nd rfl (.inl rfl) (pe_op op_fdiv (pe_op op_mul (pv 2) (pe_op op_sub (pv 0) (pv 3))) (pe_op op_add (pv 3) pe_int))))))
      (pss_one (ps_ret (pv 1)))))), ?_⟩
    refine ⟨Nat.zero_le _, fun l nl => ?_⟩
    have s1 := same_new (o := .lst []) nl
    refine ⟨_, rfl, (n : Int), 1, rfl, rfl, _, rfl, by omega, by omega, ?_⟩
    rw [show ((n : Int) + 1).toNat = n + 1 by omega]
    refine for_range (lo := 0) (n := n + 1) (fun i σ H1 => ∃ (y3 : Option V), σ = [some (.int n), some (.ref l), some (.int (chN n i)), y3] ∧ H1 l = some (.lst (((List.range i).map fun r => chN n r * (mvN r).1).map V.int)) ∧ Same H H1) ⟨_, rfl, upd_same, s1⟩ (fun i σ H1 hi hW => ?_) (fun σ H1 hW => ?_)
    · obtain ⟨y3, rfl, hl, sm⟩ := hW
      have hc := ch_small n (by omega) i (by omega)
      refine ⟨_, rfl, .inl ⟨rfl, _, SqL.of hl⟩, _, rfl, _, rfl, i, by rw [Int.zero_add]; rfl, by omega, _, _, rfl, rfl, .inl ⟨by omega, by omega⟩, l, _, _, rfl, rfl, hl, line_lt (by rw [List.length_map, List.length_map, List.length_range]; omega), ?_⟩
      refine ⟨_, rfl, _, rfl, _, rfl, (n : Int), _, rfl, rfl, _, _, rfl, rfl, .inl ⟨by omega, by omega⟩, _, rfl, _, 1, rfl, rfl, _, _, rfl, rfl, ⟨by omega, by omega⟩, some (.int (0 + (i : Int))), ?_, ?_, fun u o e => ?_⟩
      · show [some (V.int (n : Int)), some (V.ref l), some (V.int (chN n i * ((n : Int) - (0 + (i : Int))) / (0 + (i : Int) + 1))), some (V.int (0 + (i : Int)))] = _
        rw [Int.zero_add]
        rfl
      · rw [upd_same, List.range_succ, List.map_append, List.map_append]
        rfl
      · rw [upd_ne (ne_of_none e nl)]
        exact sm _ _ e
    · obtain ⟨y3, rfl, hl, sm⟩ := hW
      exact ⟨_, rfl, q l H1 nl hl sm⟩
theorem scNearT : FnScope ["place", "n", "r"] ["place", "n", "r"] (defScope s_things_near) := ⟨rfl, rfl, rfl, by decide +kernel, rfl, by decide +kernel, by decide +kernel⟩
theorem ok_nearT {f : Addr} {fd : FuncData} {k : Nat} (T : Df K mg "things_near" s_things_near ["place", "n", "r"] f fd) (B : Bi mg) : FnOk P w K mg base CX0 (k + 1) f fd ["place", "n", "r"] spNearT := by
  refine T.F.ok scNearT (fun vs H Q E h => ?_) (fun cdv A outer s H vs Q E hr h => ?_)
  · obtain ⟨p, n, r, rfl, _⟩ := h
    rfl
  · obtain ⟨p, n, r, rfl, hp, hn, hr0, q⟩ := h
    refine ⟨_, 
      (pss_one (ps_ret (pe_listRg rfl (by rfl) B.list (prg_2 (by rfl) B.range (pe_callB (call_max2 rfl) (by rfl) B.max (by decide +kernel) (pa_cons pe_int (pa_cons (pe_op op_sub (pv 0) (pv 2)) pa_nil))) (pe_callB (call_min2 rfl) (by rfl) B.min (by decide +kernel) (pa_cons (pv 1) (pa_cons (pe_op op_add (pe_op op_add (pv 0) (pv 2)) pe_int) pa_nil))))))), ?_⟩
    refine ⟨_, rfl, _, rfl, _, _, rfl, rfl, _, _, rfl, _, rfl, _, rfl, _, rfl, _, _, rfl, rfl, _, _, rfl, rfl, _, _, rfl, ?_⟩
    rw [max_if, min_if]
    refine ⟨_, _, rfl, rfl, RgOk.of_le (by omega) (by omega) (by omega) (by omega), fun l nl => ?_⟩
    exact q l _ nl (by rw [upd_same, near_V hp hr0]) (same_new nl)
theorem scFurther : FnScope ["beginnings", "near", "longer", "used", "many", "thing", "bit"] ["beginnings", "near"] (defScope s_one_place_further) := ⟨rfl, rfl, rfl, by decide +kernel, rfl, by decide +kernel, by decide +kernel⟩
set_option maxHeartbeats 2000000 in
theorem ok_further {f : Addr} {fd : FuncData} {k : Nat} (T : Df K mg "one_place_further" s_one_place_further ["beginnings", "near"] f fd) (B : Bi mg) : FnOk P w K mg base CX0 (k + 1) f fd ["beginnings", "near"] spFurther := by
  refine T.F.ok scFurther (fun vs H Q E h => ?_) (fun cdv A outer s H vs Q E hr h => ?_)
  · obtain ⟨a, b, d, lo, c, rfl, _⟩ := h
    rfl
  · obtain ⟨a, b, d, lo, c, rfl, ha, hd, hb, hc, q⟩ := h
    refine ⟨_, 
      (pss_cons (ps_set (i := 2) scFurther.nd rfl (.inl rfl) pe_dnewK)
      (pss_cons (ps_lock (ps_for PassesOwn.never rfl (pi_items (pv 0)) (pg_tup (by rfl) (pgs_cons (pg_name (i := 3) scFurther.nd rfl (.inl rfl)) (pgs_cons (pg_name (i := 4) scFurther.nd rfl (.inl rfl)) pgs_nil)))
        (pss_one (ps_for PassesOwn.never rfl (pi_list (pv 1)) (pg_name (i := 5) scFurther.nd rfl (.inl rfl))
          (pss_cons (ps_set (i := 6) scFurther.nd rfl (.inl rfl) (pe_op op_shl pe_int (pv 5)))
          (pss_one (ps_if (pt_cmpR op_eq (pe_op op_and (pv 3) (pv 6)) pe_int (nomark _))
            (pss_one (ps_dput (hu_of hr) (pv 2) (pe_op op_or (pv 3) (pv 6)) (pe_op op_add (pe_dget2 (hu_of hr) (pv 2) (pe_op op_or (pv 3) (pv 6)) pe_int ⟨by rfl, by rfl, by rfl, by rfl⟩) (pv 4)) (by rfl)))
            pss_nil)))))))
      (pss_one (ps_ret (pv 2))))), ?_⟩
    refine fun l nl => ?_
    have s1 := same_new (o := .dK []) nl
    have nla : l ≠ a := (ne_of_none ha nl).symm
    have nlb : l ≠ b := (ne_of_none hb nl).symm
    have nba : b ≠ a := fun z => by rw [z, ha] at hb; cases hb
    refine ⟨a, _, s1 _ _ ha, trivial, fun od => ?_⟩
    refine ⟨_, rfl, a, od, _, rfl, upd_same, ?_⟩
    refine for_items (od := od) (kvs := dN d) (fun i σ H3 => ∃ (y3 y4 y5 y6 : Option V), σ = [some (.ref a), some (.ref b), some (.ref l), y3, y4, y5, y6] ∧ H3 l = some (.dK (dN (stOut d lo c i))) ∧ H3 a = some (.frz od (.dK (dN d))) ∧ (∀ u o, H u = some o → u ≠ a → H3 u = some o))
      ⟨_, _, _, _, rfl, by rw [upd_ne nla]; exact upd_same, upd_same, fun u o e nu => by rw [upd_ne nu]; exact s1 _ _ e⟩ (fun i σ H3 hW => by obtain ⟨_, _, _, _, _, _, h3, _⟩ := hW; exact h3) (fun i kk v t σ H3 hx hW nt => ?_) (fun σ H3 hW => ?_)
    · obtain ⟨y3, y4, y5, y6, rfl, hl3, ha3, kp⟩ := hW
      obtain ⟨hi, rfl, rfl⟩ := dN_at hx
      obtain ⟨g1, _, _⟩ := stOut_good hd hc i (by omega)
      have hmem : d.getD i (0, 0) ∈ d := by rw [getD_at hi]; exact List.getElem_mem _
      have hm := hd.pos _ hmem
      have hu := hd.lt _ (List.mem_map.mpr ⟨_, hmem, rfl⟩)
      generalize hux : (d.getD i (0, 0)).1 = ux at hu
      generalize hmx : (d.getD i (0, 0)).2 = mx at hm
      have st := same_new (o := .tup [kV (Sum.inl ((ux : Nat) : Int)), .int mx]) nt
      have hl4 := st _ _ hl3
      have ha4 := st _ _ ha3
      have kp4 : ∀ u o, H u = some o → u ≠ a → (upd H3 t (.tup [kV (Sum.inl ((ux : Nat) : Int)), .int mx])) u = some o := fun u o e nu => st _ _ (kp u o e nu)
      have ht4 : (upd H3 t (.tup [kV (Sum.inl ((ux : Nat) : Int)), .int mx])) t = some (.tup [kV (Sum.inl ((ux : Nat) : Int)), .int mx]) := upd_same
      generalize upd H3 t (.tup [kV (Sum.inl ((ux : Nat) : Int)), .int mx]) = H4 at ht4 hl4 ha4 kp4 ⊢
      refine ⟨t, _, rfl, .inl (.inl ht4), rfl, _, _, rfl, _, _, rfl, rfl, ?_⟩
      refine ⟨_, rfl, b, rfl, ⟨_, SqL.of (kp4 _ _ hb nba)⟩, ?_⟩
      refine for_list (xs := (nearT lo c).map V.int) (fun j σ H5 => ∃ (y5 y6 : Option V), σ = [some (.ref a), some (.ref b), some (.ref l), some (.int ((ux : Nat) : Int)), some (.int mx), y5, y6] ∧ H5 l = some (.dK (dN (stIn ux mx lo j (stOut d lo c i)))) ∧ H5 a = some (.frz od (.dK (dN d))) ∧ (∀ u o, H u = some o → u ≠ a → H5 u = some o))
        ⟨_, _, rfl, hl4, ha4, kp4⟩ (fun j σ H5 _ hW => by obtain ⟨_, _, _, _, _, kp5⟩ := hW; exact SqL.of (kp5 _ _ hb nba)) (fun j x σ H5 hx hW => ?_) (fun σ H5 hW => ?_)
      · obtain ⟨z5, z6, rfl, hl5, ha5, kp5⟩ := hW
        obtain ⟨y, ey, rfl⟩ := int_at_inv hx
        have hj := (List.getElem?_eq_some_iff.mp ey).1
        rw [near_len] at hj
        rw [near_at hj] at ey
        have ey2 := Option.some.inj ey
        subst ey2
        obtain ⟨k1, _, _, _⟩ := stIn_good (lo := lo) hu hm j _ g1 (by omega)
        have hln := k1.len
        refine ⟨_, rfl, 1, _, rfl, rfl, ⟨by omega, by omega, by decide⟩, ?_⟩
        refine ⟨_, rfl, _, rfl, _, _, rfl, rfl, rfl, _, rfl, ?_⟩
        rw [bit_read hu (show lo + j < 12 by omega)]
        cases htb : ux.testBit (lo + j) with
        | true =>
          refine iteF ⟨_, _, rfl, ?_, ha5, kp5⟩
          rw [stIn, htb, if_pos rfl]
          exact hl5
        | false =>
          refine iteT ?_
          have eb := bit_or htb hu (show lo + j < 12 by omega)
          have eg : DGet H5 l (V.int (Builtin.bitOr (ux : Int) (1 * 2 ^ (((lo + j : Nat)) : Int).toNat))) (valV (dN (stIn ux mx lo j (stOut d lo c i))) (Sum.inl ((ux + 2 ^ (lo + j) : Nat) : Int))) := by
            rw [eb]
            exact DGet.k (k := Sum.inl _) hl5
          have ep : DPut H5 l (V.int (Builtin.bitOr (ux : Int) (1 * 2 ^ (((lo + j : Nat)) : Int).toNat))) (V.int (lookN (stIn ux mx lo j (stOut d lo c i)) (ux + 2 ^ (lo + j)) + mx)) (upd H5 l (.dK (dN (stIn ux mx lo (j + 1) (stOut d lo c i))))) := by
            rw [eb, stIn, htb, if_neg (by decide), ← dN_put]
            exact DPut.k (k := Sum.inl _) hl5 (line_lt (by rw [dN_len]; omega))
          refine ⟨_, rfl, l, rfl, .inl ⟨_, .inl hl5⟩, _, rfl, _, rfl, _, _, rfl, rfl, _, eg, _, rfl, _, _, dN_get _ _, rfl, _, rfl, _, rfl, _, rfl, _, _, rfl, rfl, l, _, rfl, ep, _, _, rfl, upd_same, ?_, fun u o e nu => ?_⟩
          · rw [upd_ne nla.symm]
            exact ha5
          · rw [upd_ne (ne_of_none e nl)]
            exact kp5 u o e nu
      · obtain ⟨z5, z6, rfl, hl5, ha5, kp5⟩ := hW
        rw [List.length_map, near_len] at hl5
        refine ⟨_, _, _, _, rfl, ?_, ha5, kp5⟩
        rw [stOut, hux, hmx]
        exact hl5
    · obtain ⟨y3, y4, y5, y6, rfl, hl3, ha3, kp⟩ := hW
      rw [dN_len] at hl3
      refine ⟨ha3, _, rfl, q l _ nl (by rw [upd_ne nla]; exact hl3) fun u o e => ?_⟩
      by_cases c : u = a
      · subst c
        rw [upd_same]
        rw [ha] at e
        exact e
      · rw [upd_ne c]
        exact kp u o e c
theorem scShN : FnScope ["n", "r", "beginnings", "place", "near"] ["n", "r"] (defScope s_shift_within) := ⟨rfl, rfl, rfl, by decide +kernel, rfl, by decide +kernel, by decide +kernel⟩
set_option maxHeartbeats 1000000 in
theorem ok_shN {f f1 f2 : Addr} {fd d1 d2 : FuncData} {k : Nat} (T : Df K mg "shift_within" s_shift_within ["n", "r"] f fd) (T_things_near : Df K mg "things_near" s_things_near ["place", "n", "r"] f1 d1) (T_one_place_further : Df K mg "one_place_further" s_one_place_further ["beginnings", "near"] f2 d2) (B : Bi mg) : FnOk P w K mg base CX0 (k + 2) f fd ["n", "r"] spShN := by
  have G_things_near : FnOk P w K mg base CX0 (k + 1) f1 d1 ["place", "n", "r"] spNearT := ok_nearT T_things_near B
  have G_one_place_further : FnOk P w K mg base CX0 (k + 1) f2 d2 ["beginnings", "near"] spFurther := ok_further T_one_place_further B
  refine T.F.ok scShN (fun vs H Q E h => ?_) (fun cdv A outer s H vs Q E hr h => ?_)
  · obtain ⟨n, r, rfl, _⟩ := h
    rfl
  · obtain ⟨n, r, rfl, hn1, hn2, hr0, q⟩ := h
    refine ⟨_, 
      (pss_cons (ps_set (i := 2) scShN.nd rfl (.inl rfl) (pe_disp (pps_cons pe_int pe_int pps_nil) (by rfl) (by rfl) (fun z => by cases z) (by decide)))
      (pss_cons (ps_for PassesOwn.never rfl (pi_range1 (by rfl) B.range (pa_cons (pv 0) pa_nil)) (pg_name (i := 3) scShN.nd rfl (.inl rfl))
        (pss_cons (ps_set (i := 4) scShN.nd rfl (.inl rfl) (pe_call G_things_near hr (by rfl) T_things_near.g T_things_near.F.kp T_things_near.b .nil pass0 (pa_cons (pv 3) (pa_cons (pv 0) (pa_cons (pv 1) pa_nil)))))
        (pss_one (ps_set (i := 2) scShN.nd rfl (.inl rfl) (pe_call G_one_place_further hr (by rfl) T_one_place_further.g T_one_place_further.F.kp T_one_place_further.b .nil pass0 (pa_cons (pv 2) (pa_cons (pv 4) pa_nil)))))))
      (pss_one (ps_ret (pe_sumVals rfl (by rfl) B.sum (pv 2)))))), ?_⟩
    refine fun l nl => ⟨upd_same, [(Sum.inl 0, .int 1)], rfl, by decide, ?_⟩
    have s1 : Same H (upd (upd H l (.dK [])) l (.dK (mergeK [] [(Sum.inl 0, .int 1)]))) := fun u o e => by rw [upd_ne (ne_of_none e nl), upd_ne (ne_of_none e nl)]; exact e
    refine ⟨_, rfl, n, rfl, by omega, by omega, ?_⟩
    rw [Int.toNat_natCast]
    refine for_range (n := n) (fun i σ H1 => ∃ (l : Addr) (y3 y4 : Option V), σ = [some (.int n), some (.int r), some (.ref l), y3, y4] ∧ H1 l = some (.dK (dN (shD n r i))) ∧ Same H H1) ⟨l, _, _, rfl, by rw [upd_same]; rfl, s1⟩ (fun i σ H1 hi hW => ?_) (fun σ H1 hW => ?_)
    · obtain ⟨l, y3, y4, rfl, hl, sm⟩ := hW
      obtain ⟨g1, _, _⟩ := shD_good (r := r) hn2 hr0 i (by omega)
      obtain ⟨l1, _, _⟩ := lo_ct (r := r) hn2 hi hr0
      refine ⟨_, rfl, _, rfl, _, rfl, i, n, r, by rw [Int.zero_add]; rfl, hi, hn2, hr0, fun p H2 np hp s2 => ?_⟩
      refine ⟨_, rfl, _, rfl, l, p, _, _, _, rfl, s2 _ _ hl, g1, hp, l1, fun l2 H3 nl2 hl2 s3 => ?_⟩
      exact ⟨l2, _, _, rfl, hl2, (sm.trans s2).trans s3⟩
    · obtain ⟨l, y3, y4, rfl, hl, sm⟩ := hW
      exact ⟨_, rfl, l, _, _, rfl, hl, dN_sum _, q H1 sm⟩
theorem scKW : FnScope ["way", "n", "r"] ["way", "n", "r"] (defScope s_known_within) := ⟨rfl, rfl, rfl, by decide +kernel, rfl, by decide +kernel, by decide +kernel⟩
theorem ok_kw {f f1 f2 f3 f4 f5 f6 f7 : Addr} {fd d1 d2 d3 d4 d5 d6 d7 : FuncData} {k : Nat} (T : Df K mg "known_within" s_known_within ["way", "n", "r"] f fd) (T_swap_counts : Df K mg "swap_counts" s_swap_counts ["n"] f1 d1) (T_spot_counts : Df K mg "spot_counts" s_spot_counts ["n"] f2 d2) (T_shift_within : Df K mg "shift_within" s_shift_within ["n", "r"] f3 d3) (T4 : Df K mg "swap_counts_with_one_more" s_swap_counts_with_one_more ["counts", "behind"] f4 d4) (T5 : Df K mg "count_all_moved" s_count_all_moved ["n"] f5 d5) (T6 : Df K mg "things_near" s_things_near ["place", "n", "r"] f6 d6) (T7 : Df K mg "one_place_further" s_one_place_further ["beginnings", "near"] f7 d7) (B : Bi mg) : FnOk P w K mg base CX0 (k + 3) f fd ["way", "n", "r"] spKW := by
  have G_swap_counts : FnOk P w K mg base CX0 (k + 2) f1 d1 ["n"] spSwC := ok_swC T_swap_counts T4 B
  have G_spot_counts : FnOk P w K mg base CX0 (k + 2) f2 d2 ["n"] spSpC := ok_spC T_spot_counts T5 B
  have G_shift_within : FnOk P w K mg base CX0 (k + 2) f3 d3 ["n", "r"] spShN := ok_shN T_shift_within T6 T7 B
  refine T.F.ok scKW (fun vs H Q E h => ?_) (fun cdv A outer s H vs Q E hr h => ?_)
  · obtain ⟨wy, n, r, rfl, _⟩ := h
    rfl
  · obtain ⟨wy, n, r, rfl, hw, hn1, hn2, hr0, q⟩ := h
    refine ⟨_, 
      (pss_cons (ps_if (pt_cmpR op_eq (pv 0) pe_str (nomark _))
        (pss_one (ps_ret (pe_callB (cr_sum rfl) (by rfl) B.sum (by decide +kernel) (pa_cons (pe_slice sl_list (pe_call G_swap_counts hr (by rfl) T_swap_counts.g T_swap_counts.F.kp T_swap_counts.b .nil pass0 (pa_cons (pv 1) pa_nil)) po_none (po_some (pe_op op_add (pv 2) pe_int))) pa_nil))))
        pss_nil)
      (pss_cons (ps_if (pt_cmpR op_eq (pv 0) pe_str (nomark _))
        (pss_one (ps_ret (pe_callB (cr_sum rfl) (by rfl) B.sum (by decide +kernel) (pa_cons (pe_slice sl_list (pe_call G_spot_counts hr (by rfl) T_spot_counts.g T_spot_counts.F.kp T_spot_counts.b .nil pass0 (pa_cons (pv 1) pa_nil)) po_none (po_some (pe_op op_add (pv 2) pe_int))) pa_nil))))
        pss_nil)
      (pss_one (ps_ret (pe_call G_shift_within hr (by rfl) T_shift_within.g T_shift_within.F.kp T_shift_within.b .nil pass0 (pa_cons (pv 1) (pa_cons (pv 2) pa_nil))))))), ?_⟩
    have er : r + 1 = (((r + 1).toNat : Nat) : Int) := by omega
    rcases hw with rfl | rfl | rfl
    · refine ⟨_, rfl, rfl, _, rfl, ite2 (fun _ => ?_) (fun c => absurd (by decide +kernel) c)⟩
      refine ⟨_, rfl, n, rfl, hn1, hn2, fun l H1 nl hl s1 => ?_⟩
      refine ⟨_, rfl, r, 1, rfl, rfl, _, rfl, l, _, rfl, SqL.of hl, fun p np => ?_⟩
      refine ⟨p, (swC (n - 1)).take (r + 1).toNat, rfl, SqL.of (by rw [upd_same, cut_ints, er, cutI_head, Int.toNat_natCast]), ?_⟩
      rw [← inW_swap]
      exact q _ (s1.trans (same_new np))
    · refine ⟨_, rfl, rfl, _, rfl, ite2 (fun c => absurd c (by decide +kernel)) (fun _ => ?_)⟩
      refine ⟨_, rfl, rfl, _, rfl, ite2 (fun _ => ?_) (fun c => absurd (by decide +kernel) c)⟩
      refine ⟨_, rfl, n, rfl, hn1, hn2, fun l H1 nl hl s1 => ?_⟩
      refine ⟨_, rfl, r, 1, rfl, rfl, _, rfl, l, _, rfl, SqL.of hl, fun p np => ?_⟩
      refine ⟨p, (spC n).take (r + 1).toNat, rfl, SqL.of (by rw [upd_same, cut_ints, er, cutI_head, Int.toNat_natCast]), ?_⟩
      rw [← inW_spot]
      exact q _ (s1.trans (same_new np))
    · refine ⟨_, rfl, rfl, _, rfl, ite2 (fun c => absurd c (by decide +kernel)) (fun _ => ?_)⟩
      refine ⟨_, rfl, rfl, _, rfl, ite2 (fun c => absurd c (by decide +kernel)) (fun _ => ?_)⟩
      exact ⟨_, rfl, _, rfl, n, r, rfl, hn1, hn2, hr0, fun H1 s1 => by rw [← inW_shift]; exact q H1 s1⟩
end
end Fo
namespace Fo
open PySem PySem.Spec PyProof.Rows L2
def leastB (w : Str) (n : Nat) (d : Int) : Int := (facN n + inW w n (d - 1) - 1) / inW w n (d - 1)
def mostB (w : Str) (n : Nat) (d : Int) : Int := facN n / inW w n ((d - 1) / 2)
def spBounds : Sp := fun vs H Q _ => ∃ (w : Str) (n : Nat) (d : Int), vs = [.str w, .int n, .int d] ∧ IsWay w ∧ 1 ≤ n ∧ n ≤ 12 ∧ 1 ≤ d ∧ ∀ (t : Addr) (H' : Hp), H t = none → H' t = some (.tup [.int (leastB w n d), .int (mostB w n d)]) → Same H H' → Q (.ref t) H'
theorem wide_in {w : Str} {n : Nat} {r i : Int} (hw : IsWay w) (h1 : 1 ≤ n) (h2 : n ≤ 12) (hr : 0 ≤ r) : CDivW i (inW w n r) := by
  obtain ⟨a, b⟩ := inW_good hw h1 h2 hr
  have e : (2 : Nat) ^ 44 = 17592186044416 := by decide
  exact wide_div (b := 44) (by omega) (by omega) (by decide) (by decide)
section
variable {P : Program} {w : World} {K : PySem.W.Frag} {mg : Str → Option Value} {base : Heap}
theorem scBounds : FnScope ["way", "n", "d", "orders", "most", "wide", "least"] ["way", "n", "d"] (defScope s_bounds_by_rounds) := ⟨rfl, rfl, rfl, by decide +kernel, rfl, by decide +kernel, by decide +kernel⟩
theorem ok_bounds {f f1 f2 f3 : Addr} {fd d1 d2 d3 : FuncData} {k : Nat} {tk : Tok} (T : Df K mg "bounds_by_rounds" s_bounds_by_rounds ["way", "n", "d"] f fd) (T_check_apart : Df K mg "check_apart" s_check_apart ["way", "n", "most", "d"] f1 d1) (T_count_orders : Df K mg "count_orders" s_count_orders ["n"] f2 d2) (T_known_within : Df K mg "known_within" s_known_within ["way", "n", "r"] f3 d3)
    (G_check_apart : FnOk P w K mg base CX0 k f1 d1 ["way", "n", "most", "d"] spApart) (G_count_orders : FnOk P w K mg base CX0 k f2 d2 ["n"] spFac) (G_known_within : FnOk P w K mg base CX0 k f3 d3 ["way", "n", "r"] spKW) (B : Bi mg) (mM : mg "MOST_THINGS" = some (.int 12 tk)) : FnOk P w K mg base CX0 (k + 1) f fd ["way", "n", "d"] spBounds := by
  refine T.F.ok scBounds (fun vs H Q E h => ?_) (fun cdv A outer s H vs Q E hr h => ?_)
  · obtain ⟨wy, n, d, rfl, _⟩ := h
    rfl
  · obtain ⟨wy, n, d, rfl, hw, hn1, hn2, hd, q⟩ := h
    refine ⟨_, 
      (pss_cons (ps_expr (pe_call G_check_apart hr (by rfl) T_check_apart.g T_check_apart.F.kp T_check_apart.b .nil pass0 (pa_cons (pv 0) (pa_cons (pv 1) (pa_cons (pe_glob (v := .int 12) (by rfl) mM ⟨_, rfl⟩) (pa_cons (pv 2) pa_nil))))))
      (pss_cons (ps_set (i := 3) scBounds.nd rfl (.inl rfl) (pe_call G_count_orders hr (by rfl) T_count_orders.g T_count_orders.F.kp T_count_orders.b .nil pass0 (pa_cons (pv 1) pa_nil)))
      (pss_cons (ps_set (i := 4) scBounds.nd rfl (.inl rfl) (pe_op op_fdivW (pv 3) (pe_call G_known_within hr (by rfl) T_known_within.g T_known_within.F.kp T_known_within.b .nil pass0 (pa_cons (pv 0) (pa_cons (pv 1) (pa_cons (pe_op op_fdiv (pe_op op_sub (pv 2) pe_int) pe_int) pa_nil))))))
      (pss_cons (ps_set (i := 5) scBounds.nd rfl (.inl rfl) (pe_call G_known_within hr (by rfl) T_known_within.g T_known_within.F.kp T_known_within.b .nil pass0 (pa_cons (pv 0) (pa_cons (pv 1) (pa_cons (pe_op op_sub (pv 2) pe_int) pa_nil)))))
      (pss_cons (ps_set (i := 6) scBounds.nd rfl (.inl rfl) (pe_op op_fdivW (pe_op op_sub (pe_op op_add (pv 3) (pv 5)) pe_int) (pv 5)))
      (pss_one (ps_ret (pe_tup (pa_cons (pv 6) (pa_cons (pv 4) pa_nil)))))))))), ?_⟩
    refine ⟨_, rfl, _, rfl, _, rfl, wy, n, 12, d, rfl, hw, by omega, by omega, hd, ?_⟩
    refine ⟨_, rfl, n, rfl, hn2, ?_⟩
    have hd2 : 0 ≤ (d - 1) / 2 := by omega
    refine ⟨_, rfl, _, rfl, _, rfl, _, rfl, d, 1, rfl, rfl, _, 2, rfl, rfl, ⟨by decide, by decide⟩, wy, n, (d - 1) / 2, rfl, hw, hn1, hn2, hd2, fun H1 s1 => ?_⟩
    refine ⟨_, _, rfl, rfl, wide_in hw hn1 hn2 hd2, ?_⟩
    refine ⟨_, rfl, _, rfl, _, rfl, d, 1, rfl, rfl, wy, n, d - 1, rfl, hw, hn1, hn2, by omega, fun H2 s2 => ?_⟩
    refine ⟨_, rfl, _, rfl, _, _, rfl, rfl, _, 1, rfl, rfl, _, rfl, _, _, rfl, rfl, wide_in hw hn1 hn2 (by omega), ?_⟩
    refine ⟨_, rfl, _, rfl, line_small (by show 2 ≤ 16777216; decide), fun t nt => ?_⟩
    exact q t _ ((s1.trans s2).free nt) upd_same ((s1.trans s2).trans (same_new nt))
end
end Fo
namespace Fo
open PySem PySem.Spec PyProof.Rows L2
/-! ### a pool: three numbers, of which others are drawn -/
def PoolAt (H : Hp) (d : Addr) (c : Nat) : Prop := ∃ a b s : Int, H d = some (.lst [.int a, .int b, .int s]) ∧ 0 ≤ s ∧ s ≤ c
def KeepD (d : Addr) (H H' : Hp) : Prop := ∀ b o, H b = some o → b ≠ d → H' b = some o
theorem KeepD.refl (d : Addr) (H : Hp) : KeepD d H H := fun _ _ e _ => e
theorem KeepD.trans {d : Addr} {H H1 H2 : Hp} (a : KeepD d H H1) (b : KeepD d H1 H2) : KeepD d H H2 := fun c o e f => b c o (a c o e f) f
theorem KeepD.of_same {d : Addr} {H H' : Hp} (h : Same H H') : KeepD d H H' := fun b o e _ => h b o e
theorem KeepD.none {d : Addr} {H H1 : Hp} (k : KeepD d H H1) {p : Addr} (np : H1 p = none) (nf : p ≠ d) : H p = none := by
  cases e : H p with
  | none => rfl
  | some o =>
    have z := k p o e nf
    rw [np] at z
    cases z
theorem PoolAt.same {H H' : Hp} {d : Addr} {c : Nat} (h : PoolAt H d c) (s : Same H H') : PoolAt H' d c := by
  obtain ⟨a, b, t, e, r⟩ := h
  exact ⟨a, b, t, s _ _ e, r⟩
theorem PoolAt.mono {H : Hp} {d : Addr} {c c' : Nat} (h : PoolAt H d c) (hc : c ≤ c') : PoolAt H d c' := by
  obtain ⟨a, b, t, e, h0, h1⟩ := h
  exact ⟨a, b, t, e, h0, by omega⟩
theorem PoolAt.ne {H : Hp} {d : Addr} {c : Nat} (h : PoolAt H d c) {p : Addr} (e : H p = none) : p ≠ d := by
  obtain ⟨a, b, t, e1, _⟩ := h
  exact (ne_of_none e1 e).symm
theorem PoolAt.upd {H : Hp} {d : Addr} {c : Nat} (h : PoolAt H d c) {p : Addr} {o : HO} (n1 : p ≠ d) : PoolAt (upd H p o) d c := by
  obtain ⟨a, b, t, e, r⟩ := h
  exact ⟨a, b, t, by rw [upd_ne n1.symm]; exact e, r⟩
def spPool (K : PySem.W.Frag) : Sp := fun vs H Q _ => ∃ (a : Addr) (ns : List Int) (k : Nat), vs = [.ref a, .int k] ∧ SqL K H a (ns.map V.int) ∧ ns.length ≤ 63 ∧ k < 63 ∧ ∀ (d : Addr) (H' : Hp), H d = none → PoolAt H' d 5000 → Same H H' → Q (.ref d) H'
def spTake : Sp := fun vs H Q _ => ∃ (d : Addr) (many : Int) (c : Nat), vs = [.ref d, .int many] ∧ PoolAt H d c ∧ c < 1048576 ∧ 0 < many ∧ many < 1073741824 ∧ ∀ (v : Int) (H' : Hp), 0 ≤ v → v < many → PoolAt H' d (c + 1) → KeepD d H H' → Q (.int v) H'
def spFarN : Sp := fun vs H Q _ => ∃ (d : Addr) (c : Nat), vs = [.ref d] ∧ PoolAt H d c ∧ c + 5 < 1048576 ∧ ∀ (v : Int) (H' : Hp), 0 ≤ v → PoolAt H' d (c + 5) → KeepD d H H' → Q (.int v) H'
theorem mod_b (x : Int) {m : Int} (h : 0 < m) : 0 ≤ x % m ∧ x % m < m := ⟨Int.emod_nonneg x (by omega), Int.emod_lt_of_pos x h⟩
theorem mul_b {x y a b : Int} (hx : 0 ≤ x) (hxa : x ≤ a) (hy : 0 ≤ y) (hyb : y ≤ b) : 0 ≤ x * y ∧ x * y ≤ a * b := ⟨Int.mul_nonneg hx hy, Int.mul_le_mul hxa hyb hy (by omega)⟩
theorem at3_0 {x y z : V} : atI [x, y, z] 0 = some x := rfl
theorem at3_1 {x y z : V} : atI [x, y, z] 1 = some y := rfl
theorem at3_2 {x y z : V} : atI [x, y, z] 2 = some z := rfl
section
variable {P : Program} {w : World} {K : PySem.W.Frag} {mg : Str → Option Value} {base : Heap}
theorem scTake : FnScope ["pool", "many", "found", "step", "mark"] ["pool", "many"] (defScope s_law_take) := ⟨rfl, rfl, rfl, by decide +kernel, rfl, by decide +kernel, by decide +kernel⟩
set_option maxHeartbeats 1000000 in
theorem ok_take {f : Addr} {fd : FuncData} {k : Nat} (T : Df K mg "_law_take" s_law_take ["pool", "many"] f fd) (B : Bi mg) : FnOk P w K mg base CX0 (k + 1) f fd ["pool", "many"] spTake := by
  refine T.F.ok scTake (fun vs H Q E h => ?_) (fun cdv A outer s H vs Q E hr h => ?_)
  · obtain ⟨d, m, c, rfl, _⟩ := h
    rfl
  · obtain ⟨d, m, c, rfl, ⟨a, b, st, hd, s0, s1⟩, hc, hm, hm2, q⟩ := h
    refine ⟨_, 
      (pss_cons (ps_if (pt_cmpR op_eq (pe_ix ix_list (pv 0) pe_int (fun _ _ => rfl)) pe_int (nomark _))
        (pss_cons (ps_set (i := 2) scTake.nd rfl (.inl rfl) (pe_op op_mod (pe_ix ix_list (pv 0) pe_int (fun _ _ => rfl)) (pv 1)))
        (pss_cons (ps_asg (pe_op op_fdiv (pe_ix ix_list (pv 0) pe_int (fun _ _ => rfl)) (pv 1)) (pg_sub (pv 0) pe_int set_list))
        (pss_one (ps_ret (pv 2)))))
        pss_nil)
      (pss_cons (ps_asg (pe_op op_add (pe_ix ix_list (pv 0) pe_int (fun _ _ => rfl)) pe_int) (pg_sub (pv 0) pe_int set_list))
      (pss_cons (ps_set (i := 3) scTake.nd rfl (.inl rfl) (pe_ix ix_list (pv 0) pe_int (fun _ _ => rfl)))
      (Evl.pss_cut (ps_set (i := 4) scTake.nd rfl (.inl rfl) (pe_op op_mul (pe_op op_add (pe_op op_mod (pe_ix ix_list (pv 0) pe_int (fun _ _ => rfl)) pe_int) pe_int) (pe_op op_add (pe_op op_mul pe_int (pv 3)) pe_int)))
      (Evl.pss_cut (ps_set (i := 4) scTake.nd rfl (.inl rfl) (pe_op op_add (pv 4) (pe_op op_mul (pe_op op_mul pe_int (pv 3)) (pv 3))))
      (Evl.pss_cut (ps_set (i := 4) scTake.nd rfl (.inl rfl) (pe_op op_mod (pe_op op_mul (pv 4) (pv 4)) pe_int))
      (pss_one (ps_ret (pe_op op_mod (pe_op op_fdiv (pe_op op_mod (pe_op op_mul (pv 4) (pe_op op_add (pv 4) pe_int)) pe_int) pe_int) (pv 1)))))))))), ?_⟩
    refine ⟨_, rfl, d, _, 1, _, rfl, rfl, SqL.of hd, at3_1, rfl, _, rfl, ite2 (fun _ => ?_) (fun _ => ?_)⟩
    · refine ⟨_, rfl, d, _, 0, _, rfl, rfl, SqL.of hd, at3_0, _, rfl, a, m, rfl, rfl, hm, ?_⟩
      refine ⟨_, rfl, d, _, 0, _, rfl, rfl, SqL.of hd, at3_0, _, rfl, a, m, rfl, rfl, ⟨hm, hm2⟩, _, rfl, d, _, 0, 0, rfl, rfl, hd, rfl, ?_⟩
      obtain ⟨c1, c2⟩ := mod_b a hm
      exact ⟨_, rfl, q _ _ c1 c2 ⟨a / m, b, st, upd_same, s0, by omega⟩ fun b o e nb => by rw [upd_ne nb]; exact e⟩
    · refine ⟨_, rfl, d, _, 2, _, rfl, rfl, SqL.of hd, at3_2, st, 1, rfl, rfl, _, rfl, d, _, 2, 2, rfl, rfl, hd, rfl, ?_⟩
      have hd1 : (upd H d (.lst [.int a, .int b, .int (st + 1)])) d = some (.lst [.int a, .int b, .int (st + 1)]) := upd_same
      have kp : KeepD d H (upd H d (.lst [.int a, .int b, .int (st + 1)])) := fun b o e nb => by rw [upd_ne nb]; exact e
      show _
      refine ⟨_, rfl, d, _, 2, _, rfl, rfl, SqL.of hd1, at3_2, ?_⟩
      have kp2 : (upd H d (.lst (([.int a, .int b, .int st] : List V).set 2 (.int (st + 1))))) = upd H d (.lst [.int a, .int b, .int (st + 1)]) := rfl
      rw [kp2]
      generalize upd H d (.lst [.int a, .int b, .int (st + 1)]) = H1 at hd1 kp ⊢
      obtain ⟨m1, m2⟩ := mod_b a (m := 9999999463) (by decide)
      refine ⟨fun τ G => ∃ x : Int, 0 ≤ x ∧ x ≤ 640000000000000000 ∧ τ = [some (.ref d), some (.int m), none, some (.int (st + 1)), some (.int x)] ∧ G = H1, ?_, fun τ G hM => ?_⟩
      · obtain ⟨z1, z2⟩ := mul_b (x := a % 9999999463 + 1039) (y := 61 * (st + 1) + 97) (a := 10000000502) (b := 63963294) (by omega) (by omega) (by omega) (by omega)
        exact ⟨_, rfl, d, _, 0, _, rfl, rfl, SqL.of hd1, at3_0, _, 9999999463, rfl, rfl, (show (0 : Int) < 9999999463 by decide), _, 1039, rfl, rfl, _, rfl, 61, _, rfl, rfl, .inl ⟨by decide, by decide⟩, _, 97, rfl, rfl, _, _, rfl, rfl, .inl ⟨by omega, by omega⟩, _, z1, Int.le_trans z2 (by decide), rfl, rfl⟩
      obtain ⟨x, x0, x1, rfl, e1⟩ := hM
      subst e1
      refine ⟨fun τ G' => ∃ y : Int, 0 ≤ y ∧ y ≤ 645000000000000000 ∧ τ = [some (.ref d), some (.int m), none, some (.int (st + 1)), some (.int y)] ∧ G' = G, ?_, fun τ G' hM => ?_⟩
      · obtain ⟨z1, z2⟩ := mul_b (x := 3617 * (st + 1)) (y := st + 1) (a := 3792699392) (b := 1048576) (by omega) (by omega) (by omega) (by omega)
        exact ⟨_, rfl, _, rfl, 3617, _, rfl, rfl, .inl ⟨by decide, by decide⟩, _, rfl, _, _, rfl, rfl, .inr ⟨by omega, by omega⟩, x, _, rfl, rfl, _, by omega, by omega, rfl, rfl⟩
      obtain ⟨y, y0, y1, rfl, e1⟩ := hM
      subst e1
      refine ⟨fun τ G'' => ∃ z : Int, 0 ≤ z ∧ z < 99999999547 ∧ τ = [some (.ref d), some (.int m), none, some (.int (st + 1)), some (.int z)] ∧ G'' = G', ?_, fun τ G'' hM => ?_⟩
      · exact ⟨_, rfl, _, rfl, y, y, rfl, rfl, .inl ⟨by omega, by omega⟩, _, 99999999547, rfl, rfl, (show (0 : Int) < 99999999547 by decide), _, (mod_b _ (by decide)).1, (mod_b _ (by decide)).2, rfl, rfl⟩
      obtain ⟨z, z0, z1, rfl, e1⟩ := hM
      subst e1
      obtain ⟨c1, c2⟩ := mod_b (z * (z + 73) % 99999999829 / 131) hm
      exact ⟨_, rfl, _, rfl, z, 73, rfl, rfl, z, _, rfl, rfl, .inl ⟨by omega, by omega⟩, _, 99999999829, rfl, rfl, (show (0 : Int) < 99999999829 by decide), _, 131, rfl, rfl, ⟨by decide, by decide⟩, _, rfl, _, m, rfl, rfl, hm, q _ _ c1 c2 ⟨a, b, st + 1, hd1, by omega, by omega⟩ kp⟩
theorem scPool : FnScope ["script", "k", "cell"] ["script", "k"] (defScope s_law_pool) := ⟨rfl, rfl, rfl, by decide +kernel, rfl, by decide +kernel, by decide +kernel⟩
theorem ok_pool {f : Addr} {fd : FuncData} {k : Nat} (T : Df K mg "_law_pool" s_law_pool ["script", "k"] f fd) (B : Bi mg) : FnOk P w K mg base CX0 (k + 1) f fd ["script", "k"] (spPool K) := by
  refine T.F.ok scPool (fun vs H Q E h => ?_) (fun cdv A outer s H vs Q E hr h => ?_)
  · obtain ⟨a, ns, k, rfl, _⟩ := h
    rfl
  · obtain ⟨a, ns, k, rfl, hS, hlen, hk, q⟩ := h
    refine ⟨_, 
      (pss_cons (ps_set (i := 2) scPool.nd rfl (.inl rfl) pe_int)
      (Evl.pss_cut (ps_if (pt_cmpR op_lt (pv 1) (pe_callB call_len_seq (by rfl) B.len PySem.boot_len (pa_cons (pv 0) pa_nil)) (nomark _))
        (pss_one (ps_set (i := 2) scPool.nd rfl (.inl rfl) (pe_ix ix_list (pv 0) (pv 1) (fun _ _ => rfl))))
        pss_nil)
      (pss_cons (ps_if (pt_cmpR op_ge (pv 2) (pe_op op_pow pe_int pe_int) (nomark _))
        (pss_one (ps_ret (pe_lst (pa_cons (pe_op op_sub (pv 2) (pe_op op_pow pe_int pe_int)) (pa_cons pe_int (pa_cons pe_int pa_nil))))))
        pss_nil)
      (pss_one (ps_ret (pe_lst (pa_cons (pv 2) (pa_cons pe_int (pa_cons (pe_op op_mul pe_int (pv 1)) pa_nil))))))))), ?_⟩
    refine ⟨fun τ G => ∃ x : Int, τ = [some (.ref a), some (.int k), some (.int x)] ∧ G = H, ?_, fun τ G hM => ?_⟩
    · refine ⟨_, rfl, _, rfl, a, _, rfl, .inl hS, (k : Int), _, rfl, rfl, _, rfl, ite2 (fun c => ?_) (fun _ => ⟨0, rfl, rfl⟩)⟩
      have hl : (k : Int) < (((ns.map V.int).length : Nat) : Int) := of_decide_eq_true c
      rw [List.length_map] at hl
      exact ⟨_, rfl, _, rfl, a, _, _, _, rfl, rfl, hS, at_of (j := k) rfl (int_at (List.getElem?_eq_getElem (show k < ns.length by omega))), _, rfl, rfl⟩
    obtain ⟨x, rfl, rfl⟩ := hM
    refine ⟨_, rfl, 10, 18, rfl, rfl, ⟨by decide, by decide, by decide⟩, x, _, rfl, rfl, _, rfl, ite2 (fun _ => ?_) (fun _ => ?_)⟩
    · refine ⟨_, rfl, 10, 18, rfl, rfl, ⟨by decide, by decide, by decide⟩, x, _, rfl, rfl, line_small (by show 3 ≤ 16777216; decide), fun d nd => ?_⟩
      exact q d _ nd ⟨_, 1, 0, upd_same, by omega, by omega⟩ (same_new nd)
    · refine ⟨_, rfl, _, rfl, 71, (k : Int), rfl, rfl, .inl ⟨by decide, by decide⟩, line_small (by show 3 ≤ 16777216; decide), fun d nd => ?_⟩
      exact q d _ nd ⟨_, 0, _, upd_same, by omega, by omega⟩ (same_new nd)
end
end Fo
namespace Fo
open PySem PySem.Spec PyProof.Rows L2
section
variable {P : Program} {w : World} {K : PySem.W.Frag} {mg : Str → Option Value} {base : Heap}
theorem scFarN : FnScope ["pool", "found", "turn"] ["pool"] (defScope s_law_far) := ⟨rfl, rfl, rfl, by decide +kernel, rfl, by decide +kernel, by decide +kernel⟩
theorem ok_farN {f fT : Addr} {fd fdT : FuncData} {k : Nat} (T : Df K mg "_law_far" s_law_far ["pool"] f fd) (T__law_take : Df K mg "_law_take" s_law_take ["pool", "many"] fT fdT) (G__law_take : FnOk P w K mg base CX0 k fT fdT ["pool", "many"] spTake) (B : Bi mg) : FnOk P w K mg base CX0 (k + 1) f fd ["pool"] spFarN := by
  refine T.F.ok scFarN (fun vs H Q E h => ?_) (fun cdv A outer s H vs Q E hr h => ?_)
  · obtain ⟨d, c, rfl, _⟩ := h
    rfl
  · obtain ⟨d, c, rfl, hP, hc, q⟩ := h
    refine ⟨_, 
      (pss_cons (ps_set (i := 1) scFarN.nd rfl (.inl rfl) pe_int)
      (pss_cons (ps_for PassesOwn.never rfl (pi_range1 (by rfl) B.range (pa_cons pe_int pa_nil)) (pg_name (i := 2) scFarN.nd rfl (.inl rfl))
        (pss_one (ps_set (i := 1) scFarN.nd rfl (.inl rfl) (pe_op op_add (pe_op op_mul (pv 1) (pe_op op_pow pe_int pe_int)) (pe_call G__law_take hr (by rfl) T__law_take.g T__law_take.F.kp T__law_take.b .nil pass0 (pa_cons (pv 0) (pa_cons (pe_op op_pow pe_int pe_int) pa_nil)))))))
      (pss_one (ps_ret (pe_op op_add (pe_op op_mul (pv 1) pe_int) (pe_call G__law_take hr (by rfl) T__law_take.g T__law_take.F.kp T__law_take.b .nil pass0 (pa_cons (pv 0) (pa_cons pe_int pa_nil)))))))), ?_⟩
    refine ⟨4, rfl, by decide, by decide, ?_⟩
    refine for_range (n := 4) (fun i σ H1 => ∃ (v : Int) (y2 : Option V), σ = [some (.ref d), some (.int v), y2] ∧ 0 ≤ v ∧ PoolAt H1 d (c + i) ∧ KeepD d H H1) ⟨0, _, rfl, by decide, hP, KeepD.refl _ _⟩ (fun i σ H1 hi hW => ?_) (fun σ H1 hW => ?_)
    · obtain ⟨v, y2, rfl, v0, hP1, k1⟩ := hW
      refine ⟨_, rfl, 10, 6, rfl, rfl, ⟨by decide, by decide, by decide⟩, v, _, rfl, rfl, .inr ⟨by decide, by decide⟩, _, rfl, 10, 6, rfl, rfl, ⟨by decide, by decide, by decide⟩, d, _, c + i, rfl, hP1, by omega, by decide, by decide, fun u H2 u0 _ hP2 k2 => ?_⟩
      refine ⟨_, u, rfl, rfl, _, _, rfl, ?_, hP2, k1.trans k2⟩
      have : (0 : Int) ≤ v * 10 ^ (6 : Int).toNat := Int.mul_nonneg v0 (by decide)
      omega
    · obtain ⟨v, y2, rfl, v0, hP1, k1⟩ := hW
      refine ⟨_, rfl, v, 100, rfl, rfl, .inr ⟨by decide, by decide⟩, _, rfl, d, 100, c + 4, rfl, hP1, by omega, by decide, by decide, fun u H2 u0 _ hP2 k2 => ?_⟩
      exact ⟨_, u, rfl, rfl, q _ H2 (by omega) hP2 (k1.trans k2)⟩
end
end Fo
namespace Fo
open PySem PySem.Spec PyProof.Rows L2
theorem valW (x y z : V) {w : Str} (h : IsWay w) : valV (mergeK [] [((.inr "swap" : Key), x), (.inr "spot", y), (.inr "shift", z)]) (.inr w) = some (if w = "swap" then x else if w = "spot" then y else z) := by
  have h12 : ¬ (Sum.inr ("swap" : Str) : Key) = .inr "spot" := by decide +kernel
  have h13 : ¬ (Sum.inr ("swap" : Str) : Key) = .inr "shift" := by decide +kernel
  have h23 : ¬ (Sum.inr ("spot" : Str) : Key) = .inr "shift" := by decide +kernel
  have e : mergeK [] [((.inr "swap" : Key), x), (.inr "spot", y), (.inr "shift", z)] = [((.inr "swap" : Key), x), (.inr "spot", y), (.inr "shift", z)] := by
    simp [mergeK, putK, h12, h13, h23]
  rw [e]
  rcases h with rfl | rfl | rfl
  · rw [valV_pos rfl, if_pos rfl]
  · rw [valV_neg h12, valV_pos rfl, if_neg n1, if_pos rfl]
  · rw [valV_neg h13, valV_neg h23, valV_pos rfl, if_neg n2, if_neg n3]
def spWays : Sp := fun vs H Q _ => vs = [] ∧ ∀ p, H p = none → Q (.ref p) (upd H p (.lst [.str "swap", .str "spot", .str "shift"]))
def spDist : Sp := fun vs H Q _ => ∃ (d : Addr) (c : Nat) (w : Str) (n : Nat), vs = [.ref d, .str w, .int n] ∧ IsWay w ∧ 1 ≤ n ∧ n ≤ 12 ∧ PoolAt H d c ∧ c + 20 < 1048576 ∧ ∀ (v : Int) (H' : Hp), 1 ≤ v → PoolAt H' d (c + 9) → KeepD d H H' → Q (.int v) H'
theorem fac_pos {n : Nat} (h : n < 13) : 0 < facN n := (fac_small n h).1
theorem bit_shr {u t : Nat} : decide (V.int (Builtin.bitAnd ((u : Int) / 2 ^ ((t : Nat) : Int).toNat) 1) = V.int 0) = !u.testBit t := by
  rw [Int.toNat_natCast, show ((2 : Int) ^ t) = ((2 ^ t : Nat) : Int) by rw [Int.natCast_pow]; rfl, ← Int.natCast_ediv, bitAnd_pp (Int.natCast_nonneg _) (by decide), Int.toNat_natCast]
  have e : (u / 2 ^ t) &&& (1 : Int).toNat = (u.testBit t).toNat := by
    show (u / 2 ^ t) &&& 1 = _
    rw [Nat.and_one_is_mod, Nat.testBit_eq_decide_div_mod_eq]
    have := Nat.mod_two_eq_zero_or_one (u / 2 ^ t)
    rcases this with h | h
    · rw [h]; rfl
    · rw [h]; rfl
  rw [e]
  cases u.testBit t <;> rfl
section
variable {P : Program} {w : World} {K : PySem.W.Frag} {mg : Str → Option Value} {base : Heap}
theorem scMany : FnScope ["n", "found", "k"] ["n"] (defScope s_law_many) := ⟨rfl, rfl, rfl, by decide +kernel, rfl, by decide +kernel, by decide +kernel⟩
theorem ok_many {f : Addr} {fd : FuncData} {k : Nat} (T : Df K mg "_law_many" s_law_many ["n"] f fd) (B : Bi mg) : FnOk P w K mg base CX0 (k + 1) f fd ["n"] spFac := by
  refine T.F.ok scMany (fun vs H Q E h => ?_) (fun cdv A outer s H vs Q E hr h => ?_)
  · obtain ⟨n, rfl, _⟩ := h
    rfl
  · obtain ⟨n, rfl, hn, q⟩ := h
    refine ⟨_, 
      (pss_cons (ps_set (i := 1) scMany.nd rfl (.inl rfl) pe_int)
      (pss_cons (ps_for PassesOwn.never rfl (pi_range2 (by rfl) B.range (pa_cons pe_int (pa_cons (pe_op op_add (pv 0) pe_int) pa_nil))) (pg_name (i := 2) scMany.nd rfl (.inl rfl))
        (pss_one (ps_set (i := 1) scMany.nd rfl (.inl rfl) (pe_op op_mul (pv 1) (pv 2)))))
      (pss_one (ps_ret (pv 1))))), ?_⟩
    refine ⟨_, rfl, (n : Int), 1, rfl, rfl, 1, _, rfl, ⟨by omega, by omega, by omega, by omega⟩, ?_⟩
    rw [show ((n : Int) + 1 - 1).toNat = n by omega]
    refine for_range (lo := 1) (n := n) (fun i σ H1 => ∃ y2 : Option V, σ = [some (.int n), some (.int (facN i)), y2] ∧ H1 = H) ⟨_, rfl, rfl⟩ (fun i σ H1 hi hW => ?_) (fun σ H1 hW => ?_)
    · obtain ⟨y2, rfl, rfl⟩ := hW
      have hf := fac_small i (by omega)
      refine ⟨_, rfl, _, rfl, _, _, rfl, rfl, .inl ⟨by omega, by omega⟩, some (.int (1 + (i : Int))), ?_, rfl⟩
      show [some (V.int (n : Int)), some (V.int (facN i * (1 + (i : Int)))), some (V.int (1 + (i : Int)))] = _
      rw [Int.add_comm 1 (i : Int)]
      rfl
    · obtain ⟨y2, rfl, rfl⟩ := hW
      exact ⟨_, rfl, q⟩
theorem scWays : FnScope [] [] (defScope s_law_ways) := ⟨rfl, rfl, rfl, by decide +kernel, rfl, by decide +kernel, by decide +kernel⟩
theorem ok_ways {f : Addr} {fd : FuncData} {k : Nat} (T : Df K mg "_law_ways" s_law_ways [] f fd) : FnOk P w K mg base CX0 (k + 1) f fd [] spWays := by
  refine T.F.ok scWays (fun vs H Q E h => ?_) (fun cdv A outer s H vs Q E hr h => ?_)
  · obtain ⟨rfl, _⟩ := h
    rfl
  · obtain ⟨rfl, q⟩ := h
    refine ⟨_, 
      (pss_one (ps_ret (pe_lst (pa_cons pe_str (pa_cons pe_str (pa_cons pe_str pa_nil)))))), ?_⟩
    exact ⟨line_small (by show 3 ≤ 16777216; decide), fun p np => q p np⟩
theorem scBySw : FnScope ["n", "found", "k", "longer", "at", "many", "more"] ["n"] (defScope s_law_by_swap) := ⟨rfl, rfl, rfl, by decide +kernel, rfl, by decide +kernel, by decide +kernel⟩
set_option maxHeartbeats 1000000 in
theorem ok_bySw {f : Addr} {fd : FuncData} {k : Nat} (T : Df K mg "_law_by_swap" s_law_by_swap ["n"] f fd) (B : Bi mg) : FnOk P w K mg base CX0 (k + 1) f fd ["n"] spSwC := by
  refine T.F.ok scBySw (fun vs H Q E h => ?_) (fun cdv A outer s H vs Q E hr h => ?_)
  · obtain ⟨n, rfl, _⟩ := h
    rfl
  · obtain ⟨n, rfl, hn1, hn2, q⟩ := h
    refine ⟨_, 
      (pss_cons (ps_set (i := 1) scBySw.nd rfl (.inl rfl) (pe_lst (pa_cons pe_int pa_nil)))
      (pss_cons (ps_for PassesOwn.never rfl (pi_range2 (by rfl) B.range (pa_cons pe_int (pa_cons (pe_op op_add (pv 0) pe_int) pa_nil))) (pg_name (i := 2) scBySw.nd rfl (.inl rfl))
        (pss_cons (ps_set (i := 3) scBySw.nd rfl (.inl rfl) (pe_op op_rep (pe_lst (pa_cons pe_int pa_nil)) (pe_op op_sub (pe_op op_add (pe_callB call_len_seq (by rfl) B.len PySem.boot_len (pa_cons (pv 1) pa_nil)) (pv 2)) pe_int)))
        (pss_cons (ps_for PassesOwn.never rfl (pi_enum (by rfl) B.enumerate (pa_cons (pv 1) pa_nil)) (pg_tup (by rfl) (pgs_cons (pg_name (i := 4) scBySw.nd rfl (.inl rfl)) (pgs_cons (pg_name (i := 5) scBySw.nd rfl (.inl rfl)) pgs_nil)))
          (pss_one (ps_for PassesOwn.never rfl (pi_range1 (by rfl) B.range (pa_cons (pv 2) pa_nil)) (pg_name (i := 6) scBySw.nd rfl (.inl rfl))
            (pss_one (ps_asg (pe_op op_add (pe_ix ix_list (pv 3) (pe_op op_add (pv 4) (pv 6)) (fun _ _ => rfl)) (pv 5)) (pg_sub (pv 3) (pe_op op_add (pv 4) (pv 6)) set_list))))))
        (pss_one (ps_set (i := 1) scBySw.nd rfl (.inl rfl) (pv 3))))))
      (pss_one (ps_ret (pv 1))))), ?_⟩
    refine ⟨line_small (by show 1 ≤ 16777216; decide), fun l nl => ?_⟩
    have s1 := same_new (o := .lst [.int 1]) nl
    refine ⟨_, rfl, (n : Int), 1, rfl, rfl, 2, _, rfl, ⟨by omega, by omega, by omega, by omega⟩, ?_⟩
    rw [show ((n : Int) + 1 - 2).toNat = n - 1 by omega]
    refine for_range (lo := 2) (n := n - 1) (fun i σ H1 => ∃ (l : Addr) (y2 y3 y4 y5 y6 : Option V), σ = [some (.int n), some (.ref l), y2, y3, y4, y5, y6] ∧ H l = none ∧ H1 l = some (.lst ((swC i).map V.int)) ∧ Same H H1) ⟨l, _, _, _, _, _, rfl, nl, upd_same, s1⟩ (fun m σ H1 hm hW => ?_) (fun σ H1 hW => ?_)
    · obtain ⟨a, y2, y3, y4, y5, y6, rfl, na, ha, sm⟩ := hW
      generalize hcc : swC m = c at ha
      have hcl : c.length ≤ 67 := by rw [← hcc, swC_len]; have := (tri_le m (by omega)).1; omega
      have hlm : (c.map V.int).length = c.length := List.length_map _
      refine ⟨line_small (by show 1 ≤ 16777216; decide), fun z nz => ?_⟩
      have t1 := same_new (o := .lst [.int 0]) nz
      refine ⟨_, rfl, a, _, rfl, .inl (SqL.of (t1 _ _ ha)), _, rfl, _, _, rfl, rfl, _, 1, rfl, rfl, z, _, _, rfl, rfl, upd_same, by omega, by omega, line_small (by rw [hlm]; show 1 * _ ≤ _; omega), fun l nl => ?_⟩
      have en : ((((c.map V.int).length : Nat) : Int) + (2 + (m : Int)) - 1).toNat = c.length + (m + 1) := by rw [hlm]; omega
      have t2 := t1.trans (same_new (o := .lst (List.replicate ((((c.map V.int).length : Nat) : Int) + (2 + (m : Int)) - 1).toNat [V.int 0]).flatten) nl)
      have hl0 : (upd (upd H1 z (.lst [.int 0])) l (.lst (List.replicate ((((c.map V.int).length : Nat) : Int) + (2 + (m : Int)) - 1).toNat [V.int 0]).flatten)) l = some (.lst ((swOut c (m + 1) 0).map V.int)) := by rw [upd_same, en, zeros_flat]; rfl
      have nl1 : H1 l = none := t1.free nl
      have nHl : H l = none := sm.free nl1
      have s2 := sm.trans t2
      have ha2 := t2 _ _ ha
      generalize upd (upd H1 z (.lst [.int 0])) l (.lst (List.replicate ((((c.map V.int).length : Nat) : Int) + (2 + (m : Int)) - 1).toNat [V.int 0]).flatten) = H2 at s2 hl0 ha2 ⊢
      refine ⟨_, rfl, a, _, rfl, SqL.of ha2, ?_⟩
      refine for_enumL (xs := c.map V.int) (fun i σ H3 => ∃ (y4 y5 y6 : Option V), σ = [some (.int n), some (.ref a), some (.int (2 + (m : Int))), some (.ref l), y4, y5, y6] ∧ H3 l = some (.lst ((swOut c (m + 1) i).map V.int)) ∧ H3 a = some (.lst (c.map V.int)) ∧ Same H H3)
        ⟨_, _, _, rfl, hl0, ha2, s2⟩ (fun i σ H3 hW => by obtain ⟨_, _, _, _, _, ha3, _⟩ := hW; exact SqL.of ha3) (fun i x t σ H3 hx hW nt => ?_) (fun σ H3 hW => ?_)
      · obtain ⟨y4, y5, y6, rfl, hl3, ha3, sm3⟩ := hW
        obtain ⟨y, ey, rfl⟩ := int_at_inv hx
        have hi := (List.getElem?_eq_some_iff.mp ey).1
        have eg : c.getD i 0 = y := by rw [List.getD_eq_getElem?_getD, ey]; rfl
        have nal : a ≠ l := ne_of_none ha nl1
        have st := same_new (o := .tup [.int (i : Nat), .int y]) nt
        have hl4 := st _ _ hl3
        have ha4 := st _ _ ha3
        have sm4 := sm3.trans st
        have ht4 : (upd H3 t (.tup [.int (i : Nat), .int y])) t = some (.tup [.int (i : Nat), .int y]) := upd_same
        generalize upd H3 t (.tup [.int (i : Nat), .int y]) = H4 at ht4 hl4 ha4 sm4 ⊢
        refine ⟨t, _, rfl, .inl (.inl ht4), rfl, _, _, rfl, _, _, rfl, rfl, ?_⟩
        refine ⟨_, rfl, _, rfl, by omega, by omega, ?_⟩
        rw [show (2 + (m : Int)).toNat = m + 1 + 1 by omega]
        refine for_range (lo := 0) (n := m + 1 + 1) (fun j σ H5 => ∃ (y6 : Option V), σ = [some (.int n), some (.ref a), some (.int (2 + (m : Int))), some (.ref l), some (.int (i : Nat)), some (.int y), y6] ∧ H5 l = some (.lst ((swIn y i j (swOut c (m + 1) i)).map V.int)) ∧ H5 a = some (.lst (c.map V.int)) ∧ Same H H5) ⟨_, rfl, hl4, ha4, sm4⟩ (fun j σ H5 hj hW => ?_) (fun σ H5 hW => ?_)
        · obtain ⟨z5, rfl, hl5, ha5, sm5⟩ := hW
          have hlen : (swIn y i j (swOut c (m + 1) i)).length = c.length + (m + 1) := by rw [swIn_len, swOut_len]
          have hij : i + j < (swIn y i j (swOut c (m + 1) i)).length := by omega
          refine ⟨_, rfl, _, rfl, _, rfl, _, _, rfl, rfl, l, _, _, _, rfl, rfl, SqL.of hl5, at_of (j := i + j) (by omega) (int_at (getD_some hij)), _, rfl, _, _, rfl, rfl, _, rfl, _, rfl, _, rfl, _, _, rfl, rfl, l, _, _, i + j, rfl, rfl, hl5, ix_n (by omega) (by rw [List.length_map]; exact hij), _, rfl, ?_, ?_, fun u o e => ?_⟩
          · rw [upd_same, addAt_V]
            rfl
          · rw [upd_ne nal]
            exact ha5
          · rw [upd_ne (ne_of_none e nHl)]
            exact sm5 _ _ e
        · obtain ⟨z5, rfl, hl5, ha5, sm5⟩ := hW
          refine ⟨_, _, _, rfl, ?_, ha5, sm5⟩
          rw [swOut, eg]
          exact hl5
      · obtain ⟨y4, y5, y6, rfl, hl3, ha3, sm3⟩ := hW
        rw [hlm] at hl3
        refine ⟨_, rfl, l, _, _, _, _, _, rfl, nHl, ?_, sm3⟩
        rw [swC, hcc]
        exact hl3
    · obtain ⟨a, y2, y3, y4, y5, y6, rfl, na, ha, sm⟩ := hW
      exact ⟨_, rfl, q a H1 na ha sm⟩
theorem scBySp : FnScope ["n", "none", "k", "r"] ["n"] (defScope s_law_by_spot) := ⟨rfl, rfl, rfl, by decide +kernel, rfl, by decide +kernel, by decide +kernel⟩
set_option maxHeartbeats 1000000 in
theorem ok_bySp {f f1 : Addr} {fd d1 : FuncData} {k : Nat} (T : Df K mg "_law_by_spot" s_law_by_spot ["n"] f fd) (T__law_many : Df K mg "_law_many" s_law_many ["n"] f1 d1) (B : Bi mg) : FnOk P w K mg base CX0 (k + 2) f fd ["n"] spSpC := by
  have G__law_many : FnOk P w K mg base CX0 (k + 1) f1 d1 ["n"] spFac := ok_many T__law_many B
  refine T.F.ok scBySp (fun vs H Q E h => ?_) (fun cdv A outer s H vs Q E hr h => ?_)
  · obtain ⟨n, rfl, _⟩ := h
    rfl
  · obtain ⟨n, rfl, hn1, hn2, q⟩ := h
    refine ⟨_, 
      (pss_cons (ps_set (i := 1) scBySp.nd rfl (.inr rfl) (pe_lst (pa_cons pe_int (pa_cons pe_int pa_nil))))
      (pss_cons (ps_for PassesOwn.never rfl (pi_range2 (by rfl) B.range (pa_cons pe_int (pa_cons (pe_op op_add (pv 0) pe_int) pa_nil))) (pg_name (i := 2) scBySp.nd rfl (.inl rfl))
        (pss_one (ps_expr (pe_bm PySem.F.plainAttrs_list PySem.F.slot_list_append PySem.F.type_list_append mt_append (pv 1) (pa_cons (pe_op op_mul (pe_op op_sub (pv 2) pe_int) (pe_op op_add (pe_ix ix_list (pv 1) (pe_op op_sub (pv 2) pe_int) (fun _ _ => rfl)) (pe_ix ix_list (pv 1) (pe_op op_sub (pv 2) pe_int) (fun _ _ => rfl)))) pa_nil)))))
      (pss_one (ps_ret (pe_lc (own := [("r", 3)]) (g := (gName 3)) (tt := tYes) (te := (tOp (rI CMul fun i j => .int (i * j)) (tOp (rI CDiv fun i j => .int (i / j)) (tOp (rI CDiv fun i j => .int (i / j)) (tCall spFac [] E0 (tCons (tVar 0) tNil)) (tCall spFac [] E0 (tCons (tVar 3) tNil))) (tCall spFac [] E0 (tCons (tOp (rI0 fun i j => .int (i - j)) (tVar 0) (tVar 3)) tNil))) (tOp (rIxL K) (tVar 1) (tVar 3)))) rfl scBySp.nd (pi_range1 (by rfl) B.range (pa_cons (pe_op op_add (pv 0) pe_int) pa_nil)) (blkOk_by (N := ["n", "none", "k", "r"]) (sc := defScope s_law_by_spot) (by decide +kernel)) (fun _ _ _ _ _ => (pg_name (i := 3) scBySp.nd rfl (.inl rfl))) (fun _ _ _ _ _ => pts_nil) (fun _ _ _ _ _ => (pe_op op_mul (pe_op op_fdiv (pe_op op_fdiv (pe_call G__law_many hr (by rfl) T__law_many.g T__law_many.F.kp T__law_many.b .nil pass0 (pa_cons (pv 0) pa_nil)) (pe_call G__law_many hr (by rfl) T__law_many.g T__law_many.F.kp T__law_many.b .nil pass0 (pa_cons (pv 3) pa_nil))) (pe_call G__law_many hr (by rfl) T__law_many.g T__law_many.F.kp T__law_many.b .nil pass0 (pa_cons (pe_op op_sub (pv 0) (pv 3)) pa_nil))) (pe_ix ix_list (pv 1) (pv 3) (fun _ _ => rfl))))))))), ?_⟩
    refine ⟨line_small (by show 2 ≤ 16777216; decide), fun l nl => ?_⟩
    have s1 := same_new (o := .lst [.int 1, .int 0]) nl
    refine ⟨_, rfl, (n : Int), 1, rfl, rfl, 2, _, rfl, ⟨by omega, by omega, by omega, by omega⟩, ?_⟩
    rw [show ((n : Int) + 1 - 2).toNat = n - 1 by omega]
    refine for_range (lo := 2) (n := n - 1) (fun i σ H1 => ∃ (y2 y3 : Option V), σ = [some (.int n), some (.ref l), y2, y3] ∧ H1 l = some (.lst ((noneN i).map V.int)) ∧ Same H H1) ⟨_, _, rfl, upd_same, s1⟩ (fun i σ H1 hi hW => ?_) (fun σ H1 hW => ?_)
    · obtain ⟨y2, y3, rfl, hl, sm⟩ := hW
      have hlen := noneN_len i
      refine ⟨_, rfl, .inl ⟨rfl, _, SqL.of hl⟩, _, rfl, _, 1, rfl, rfl, _, rfl, _, rfl, _, 1, rfl, rfl, l, _, _, _, rfl, rfl, SqL.of hl, at_of (j := i + 1) (by omega) (int_at (getD_some (by omega))), _, rfl, _, rfl, _, 2, rfl, rfl, l, _, _, _, rfl, rfl, SqL.of hl, at_of (j := i) (by omega) (int_at (getD_some (by omega))), _, _, rfl, rfl, _, _, rfl, rfl, .inl ⟨by omega, by omega⟩, l, _, _, rfl, rfl, hl, line_lt (by rw [List.length_map, hlen]; omega), ?_⟩
      refine ⟨_, _, rfl, ?_, fun u o e => ?_⟩
      · rw [upd_same, noneN, List.map_append, Int.add_comm 2 (i : Int)]
        rfl
      · rw [upd_ne (ne_of_none e nl)]
        exact sm _ _ e
    · obtain ⟨y2, y3, rfl, hl, sm⟩ := hW
      refine ⟨_, rfl, (n : Int), 1, rfl, rfl, _, rfl, by omega, by omega, fun D nD => ?_⟩
      rw [show ((n : Int) + 1).toNat = n + 1 by omega]
      have nlD : l ≠ D := ne_of_none hl nD
      have hlen := noneN_len (n - 1)
      refine lc_range (lo := 0) (n := n + 1) (fun m H3 => H3 D = some (.lst (((List.range m).map fun r => facN n / facN r / facN (n - r) * (noneN (n - 1)).getD r 0).map V.int)) ∧ H3 l = some (.lst ((noneN (n - 1)).map V.int)) ∧ Same H H3) ⟨upd_same, by rw [upd_ne nlD]; exact hl, sm.trans (same_new nD)⟩ (fun m H3 hm hP => ?_) (fun H3 hP => ?_)
      · obtain ⟨hD3, hl3, sm3⟩ := hP
        have f1 := fac_small n (by omega)
        have f2 := fac_small m (by omega)
        have f3 := fac_small (n - m) (by omega)
        have hq1 : 0 ≤ facN n / facN m := Int.ediv_nonneg (by omega) (by omega)
        have hq2 : facN n / facN m ≤ facN n := Int.ediv_le_self _ (by omega)
        have hq3 : 0 ≤ facN n / facN m / facN (n - m) := Int.ediv_nonneg hq1 (by omega)
        have hq4 : facN n / facN m / facN (n - m) ≤ facN n / facN m := Int.ediv_le_self _ hq1
        refine ⟨rfl, _, rfl, n, rfl, hn2, _, rfl, m, by rw [Int.zero_add]; rfl, by omega, _, _, rfl, rfl, ⟨by omega, by omega⟩, _, rfl, _, rfl, _, _, rfl, rfl, n - m, by show [V.int ((n : Int) - (0 + (m : Int)))] = _; rw [show (n : Int) - (0 + (m : Int)) = ((n - m : Nat) : Int) by omega], by omega, _, _, rfl, rfl, ⟨by omega, by omega⟩, _, rfl, _, rfl, l, _, _, _, rfl, rfl, SqL.of hl3, at_of (j := m) (by omega) (int_at (getD_some (by omega))), _, _, rfl, rfl, .inl ⟨by omega, by omega⟩, _, hD3, line_lt (by rw [List.length_map, List.length_map, List.length_range]; omega), ?_, ?_, fun u o e => ?_⟩
        · rw [upd_same, List.range_succ, List.map_append, List.map_append]
          rfl
        · rw [upd_ne nlD]
          exact hl3
        · rw [upd_ne (ne_of_none (sm _ _ e) nD)]
          exact sm3 _ _ e
      · obtain ⟨hD3, hl3, sm3⟩ := hP
        rw [← spC_law n (by omega)] at hD3
        exact q D H3 (sm.free nD) hD3 sm3
end
end Fo
namespace Fo
open PySem PySem.Spec PyProof.Rows L2
theorem take_all {l : List Int} {a b : Nat} (ha : l.length ≤ a) (hb : l.length ≤ b) : l.take a = l.take b := by rw [List.take_of_length_le ha, List.take_of_length_le hb]
section
variable {P : Program} {w : World} {K : PySem.W.Frag} {mg : Str → Option Value} {base : Heap}
theorem scBySh : FnScope ["n", "r", "found", "place", "further", "some", "thing", "more"] ["n", "r"] (defScope s_law_by_shift) := ⟨rfl, rfl, rfl, by decide +kernel, rfl, by decide +kernel, by decide +kernel⟩
set_option maxHeartbeats 2000000 in
theorem ok_bySh {f : Addr} {fd : FuncData} {k : Nat} (T : Df K mg "_law_by_shift" s_law_by_shift ["n", "r"] f fd) (B : Bi mg) : FnOk P w K mg base CX0 (k + 1) f fd ["n", "r"] spShN := by
  refine T.F.ok scBySh (fun vs H Q E h => ?_) (fun cdv A outer s H vs Q E hr h => ?_)
  · obtain ⟨n, r, rfl, _⟩ := h
    rfl
  · obtain ⟨n, r, rfl, hn1, hn2, hr0, q⟩ := h
    refine ⟨_, 
      (pss_cons (ps_set (i := 2) scBySh.nd rfl (.inl rfl) (pe_disp (pps_cons pe_int pe_int pps_nil) (by rfl) (by rfl) (fun z => by cases z) (by decide)))
      (pss_cons (ps_for PassesOwn.never rfl (pi_range1 (by rfl) B.range (pa_cons (pv 0) pa_nil)) (pg_name (i := 3) scBySh.nd rfl (.inl rfl))
        (pss_cons (ps_set (i := 4) scBySh.nd rfl (.inl rfl) pe_dnewK)
        (pss_cons (ps_lock (ps_for PassesOwn.never rfl (pi_keys (pv 2)) (pg_name (i := 5) scBySh.nd rfl (.inl rfl))
          (pss_one (ps_for PassesOwn.never rfl (pi_range2 (by rfl) B.range (pa_cons (pe_callB (call_max2 rfl) (by rfl) B.max (by decide +kernel) (pa_cons pe_int (pa_cons (pe_op op_sub (pv 3) (pv 1)) pa_nil))) (pa_cons (pe_callB (call_min2 rfl) (by rfl) B.min (by decide +kernel) (pa_cons (pv 0) (pa_cons (pe_op op_add (pe_op op_add (pv 3) (pv 1)) pe_int) pa_nil))) pa_nil))) (pg_name (i := 6) scBySh.nd rfl (.inl rfl))
            (pss_one (ps_if (pt_cmpR op_eq (pe_op op_and (pe_op op_shr (pv 5) (pv 6)) pe_int) pe_int (nomark _))
              (pss_cons (ps_set (i := 7) scBySh.nd rfl (.inl rfl) (pe_op op_add (pv 5) (pe_op op_shl pe_int (pv 6))))
              (pss_one (ps_dput (hu_of hr) (pv 4) (pv 7) (pe_op op_add (pe_dget2 (hu_of hr) (pv 4) (pv 7) pe_int ⟨by rfl, by rfl, by rfl, by rfl⟩) (pe_dget (hu_of hr) (pv 2) (pv 5) (fun _ _ => rfl))) (by rfl))))
              pss_nil))))))
        (pss_one (ps_set (i := 2) scBySh.nd rfl (.inl rfl) (pv 4))))))
      (pss_one (ps_ret (pe_sumVals rfl (by rfl) B.sum (pv 2)))))), ?_⟩
    refine fun l nl => ⟨upd_same, [(Sum.inl 0, .int 1)], rfl, by decide, ?_⟩
    have s1 : Same H (upd (upd H l (.dK [])) l (.dK (mergeK [] [(Sum.inl 0, .int 1)]))) := fun u o e => by rw [upd_ne (ne_of_none e nl), upd_ne (ne_of_none e nl)]; exact e
    refine ⟨_, rfl, n, rfl, by omega, by omega, ?_⟩
    rw [Int.toNat_natCast]
    refine for_range (n := n) (fun i σ H1 => ∃ (a : Addr) (y3 y4 y5 y6 y7 : Option V), σ = [some (.int n), some (.int r), some (.ref a), y3, y4, y5, y6, y7] ∧ H1 a = some (.dK (dN (shD n r i))) ∧ Same H H1 ∧ H a = none) ⟨l, _, _, _, _, _, rfl, by rw [upd_same]; rfl, s1, nl⟩ (fun p σ H1 hp hW => ?_) (fun σ H1 hW => ?_)
    · obtain ⟨a, y3, y4, y5, y6, y7, rfl, ha, sm, nHa⟩ := hW
      obtain ⟨hd, _, _⟩ := shD_good (r := r) hn2 hr0 p (by omega)
      obtain ⟨hc, _, _⟩ := lo_ct (r := r) hn2 hp hr0
      have hlo : max 0 (0 + (p : Int) - r) = ((loP p r : Nat) : Int) := by unfold loP; omega
      have hct : (min (n : Int) (0 + (p : Int) + r + 1) - max 0 (0 + (p : Int) - r)).toNat = ctP n p r := by unfold ctP loP; omega
      have hmn : -(2 ^ 62) ≤ min (n : Int) (0 + (p : Int) + r + 1) ∧ min (n : Int) (0 + (p : Int) + r + 1) < 2 ^ 62 := by omega
      have hmx : -(2 ^ 62) ≤ max 0 (0 + (p : Int) - r) ∧ max 0 (0 + (p : Int) - r) < 2 ^ 62 := by omega
      generalize hdd : shD n r p = d at ha hd
      refine fun l nl => ?_
      have nla : l ≠ a := (ne_of_none ha nl).symm
      have t1 := same_new (o := .dK []) nl
      have nHl : H l = none := sm.free nl
      refine ⟨a, _, t1 _ _ ha, trivial, fun od => ?_⟩
      refine ⟨_, rfl, a, od, rfl, .inl ⟨_, upd_same, ?_⟩⟩
      refine for_keys (od := od) (kvs := dN d) (fun i σ H3 => ∃ (y5 y6 y7 : Option V), σ = [some (.int n), some (.int r), some (.ref a), some (.int (0 + (p : Int))), some (.ref l), y5, y6, y7] ∧ H3 l = some (.dK (dN (stOut d (loP p r) (ctP n p r) i))) ∧ H3 a = some (.frz od (.dK (dN d))) ∧ Same H H3)
        ⟨_, _, _, rfl, by rw [upd_ne nla]; exact upd_same, upd_same, fun u o e => by rw [upd_ne (ne_of_none e nHa)]; exact t1 _ _ (sm _ _ e)⟩ (fun i σ H3 hW => by obtain ⟨_, _, _, _, _, h3, _⟩ := hW; exact h3) (fun i kk v σ H3 hx hW => ?_) (fun σ H3 hW => ?_)
      · obtain ⟨y5, y6, y7, rfl, hl3, ha3, kp⟩ := hW
        have hx0 := hx
        obtain ⟨hi, rfl, rfl⟩ := dN_at hx
        obtain ⟨g1, _, _⟩ := stOut_good hd hc i (by omega)
        have hmem : d.getD i (0, 0) ∈ d := by rw [getD_at hi]; exact List.getElem_mem _
        have hm := hd.pos _ hmem
        have hu := hd.lt _ (List.mem_map.mpr ⟨_, hmem, rfl⟩)
        have hval : valV (dN d) (Sum.inl (((d.getD i (0, 0)).1 : Nat) : Int)) = some (V.int (d.getD i (0, 0)).2) := dN_val hd.nd hi
        generalize hux : (d.getD i (0, 0)).1 = ux at hu hval
        generalize hmx2 : (d.getD i (0, 0)).2 = mx at hm hval
        refine ⟨_, rfl, _, rfl, _, _, rfl, rfl, _, _, rfl, _, rfl, _, rfl, _, rfl, _, _, rfl, rfl, _, _, rfl, rfl, _, _, rfl, ?_⟩
        rw [max_if, min_if]
        refine ⟨_, _, rfl, ⟨hmx.1, hmx.2, hmn.1, hmn.2⟩, ?_⟩
        rw [hct, hlo]
        refine for_range (lo := ((loP p r : Nat) : Int)) (n := ctP n p r) (fun j σ H5 => ∃ (y6 y7 : Option V), σ = [some (.int n), some (.int r), some (.ref a), some (.int (0 + (p : Int))), some (.ref l), some (.int ((ux : Nat) : Int)), y6, y7] ∧ H5 l = some (.dK (dN (stIn ux mx (loP p r) j (stOut d (loP p r) (ctP n p r) i)))) ∧ H5 a = some (.frz od (.dK (dN d))) ∧ Same H H5)
          ⟨_, _, rfl, hl3, ha3, kp⟩ (fun j σ H5 hj hW => ?_) (fun σ H5 hW => ?_)
        · obtain ⟨z6, z7, rfl, hl5, ha5, kp5⟩ := hW
          obtain ⟨k1, _, _, _⟩ := stIn_good (lo := loP p r) hu hm j _ g1 (by omega)
          have hln := k1.len
          have ej : ((loP p r : Nat) : Int) + (j : Int) = ((loP p r + j : Nat) : Int) := by omega
          rw [ej]
          generalize htt : loP p r + j = tt
          have htl : tt < 12 := by omega
          refine ⟨_, rfl, _, rfl, _, _, rfl, rfl, by omega, _, _, rfl, rfl, rfl, _, rfl, ?_⟩
          rw [bit_shr]
          cases htb : ux.testBit tt with
          | true =>
            refine iteF ⟨_, _, rfl, ?_, ha5, kp5⟩
            rw [stIn, htt, htb, if_pos rfl]
            exact hl5
          | false =>
            refine iteT ?_
            have eb : (ux : Int) + 1 * 2 ^ ((tt : Nat) : Int).toNat = ((ux + 2 ^ tt : Nat) : Int) := by
              rw [Int.one_mul, Int.toNat_natCast, Int.natCast_add, Int.natCast_pow]
              rfl
            have eg : DGet H5 l (V.int ((ux : Int) + 1 * 2 ^ ((tt : Nat) : Int).toNat)) (valV (dN (stIn ux mx (loP p r) j (stOut d (loP p r) (ctP n p r) i))) (Sum.inl ((ux + 2 ^ tt : Nat) : Int))) := by
              rw [eb]
              exact DGet.k (k := Sum.inl _) hl5
            have ep : DPut H5 l (V.int ((ux : Int) + 1 * 2 ^ ((tt : Nat) : Int).toNat)) (V.int (lookN (stIn ux mx (loP p r) j (stOut d (loP p r) (ctP n p r) i)) (ux + 2 ^ tt) + mx)) (upd H5 l (.dK (dN (stIn ux mx (loP p r) (j + 1) (stOut d (loP p r) (ctP n p r) i))))) := by
              rw [eb, stIn, htt, htb, if_neg (by decide), ← dN_put]
              exact DPut.k (k := Sum.inl _) hl5 (line_lt (by rw [dN_len]; omega))
            have ef : DGet H5 a (V.int (ux : Int)) (some (V.int mx)) := .inl ⟨dN d, Sum.inl (ux : Int), .inr ⟨od, ha5⟩, rfl, hval.symm⟩
            refine ⟨_, rfl, _, rfl, 1, _, rfl, rfl, ⟨by omega, by omega, by decide⟩, _, _, rfl, rfl, ?_⟩
            refine ⟨_, rfl, l, rfl, .inl ⟨_, .inl hl5⟩, _, rfl, _, eg, _, rfl, _, rfl, a, _, rfl, ef, _, _, dN_get _ _, rfl, _, rfl, _, rfl, l, _, rfl, ep, _, _, rfl, upd_same, ?_, fun u o e => ?_⟩
            · rw [upd_ne nla.symm]
              exact ha5
            · rw [upd_ne (ne_of_none e nHl)]
              exact kp5 u o e
        · obtain ⟨z6, z7, rfl, hl5, ha5, kp5⟩ := hW
          refine ⟨_, _, _, rfl, ?_, ha5, kp5⟩
          rw [stOut, hux, hmx2]
          exact hl5
      · obtain ⟨y5, y6, y7, rfl, hl3, ha3, kp⟩ := hW
        rw [dN_len] at hl3
        refine ⟨ha3, _, rfl, l, _, _, _, _, _, rfl, ?_, fun u o e => ?_, nHl⟩
        · rw [upd_ne nla, shD, hdd]
          exact hl3
        · rw [upd_ne (ne_of_none e nHa)]
          exact kp u o e
    · obtain ⟨a, y3, y4, y5, y6, y7, rfl, ha, sm, _⟩ := hW
      exact ⟨_, rfl, a, _, _, rfl, ha, dN_sum _, q H1 sm⟩
theorem scLW : FnScope ["way", "n", "r"] ["way", "n", "r"] (defScope s_law_within) := ⟨rfl, rfl, rfl, by decide +kernel, rfl, by decide +kernel, by decide +kernel⟩
theorem ok_lw {f f1 f2 f3 : Addr} {fd d1 d2 d3 : FuncData} {k : Nat} (T : Df K mg "_law_within" s_law_within ["way", "n", "r"] f fd) (T__law_by_swap : Df K mg "_law_by_swap" s_law_by_swap ["n"] f1 d1) (T__law_by_spot : Df K mg "_law_by_spot" s_law_by_spot ["n"] f2 d2) (T__law_by_shift : Df K mg "_law_by_shift" s_law_by_shift ["n", "r"] f3 d3)
    (G__law_by_swap : FnOk P w K mg base CX0 k f1 d1 ["n"] spSwC) (G__law_by_spot : FnOk P w K mg base CX0 k f2 d2 ["n"] spSpC) (G__law_by_shift : FnOk P w K mg base CX0 k f3 d3 ["n", "r"] spShN) (B : Bi mg) : FnOk P w K mg base CX0 (k + 1) f fd ["way", "n", "r"] spKW := by
  refine T.F.ok scLW (fun vs H Q E h => ?_) (fun cdv A outer s H vs Q E hr h => ?_)
  · obtain ⟨wy, n, r, rfl, _⟩ := h
    rfl
  · obtain ⟨wy, n, r, rfl, hw, hn1, hn2, hr0, q⟩ := h
    refine ⟨_, 
      (pss_cons (ps_if (pt_cmpR op_eq (pv 0) pe_str (nomark _))
        (pss_one (ps_ret (pe_call G__law_by_shift hr (by rfl) T__law_by_shift.g T__law_by_shift.F.kp T__law_by_shift.b .nil pass0 (pa_cons (pv 1) (pa_cons (pe_callB (call_min2 rfl) (by rfl) B.min (by decide +kernel) (pa_cons (pv 1) (pa_cons (pv 2) pa_nil))) pa_nil)))))
        pss_nil)
      (pss_cons (ps_if (pt_cmpR op_eq (pv 0) pe_str (nomark _))
        (pss_one (ps_ret (pe_callB (cr_sum rfl) (by rfl) B.sum (by decide +kernel) (pa_cons (pe_slice sl_list (pe_call G__law_by_swap hr (by rfl) T__law_by_swap.g T__law_by_swap.F.kp T__law_by_swap.b .nil pass0 (pa_cons (pv 1) pa_nil)) po_none (po_some (pe_op op_add (pe_callB (call_min2 rfl) (by rfl) B.min (by decide +kernel) (pa_cons (pv 2) (pa_cons (pe_op op_mul (pv 1) (pv 1)) pa_nil))) pe_int))) pa_nil))))
        pss_nil)
      (pss_one (ps_ret (pe_callB (cr_sum rfl) (by rfl) B.sum (by decide +kernel) (pa_cons (pe_slice sl_list (pe_call G__law_by_spot hr (by rfl) T__law_by_spot.g T__law_by_spot.F.kp T__law_by_spot.b .nil pass0 (pa_cons (pv 1) pa_nil)) po_none (po_some (pe_op op_add (pe_callB (call_min2 rfl) (by rfl) B.min (by decide +kernel) (pa_cons (pv 2) (pa_cons (pv 1) pa_nil))) pe_int))) pa_nil)))))), ?_⟩
    rcases hw with rfl | rfl | rfl
    · refine ⟨_, rfl, rfl, _, rfl, ite2 (fun c => absurd c (by decide +kernel)) (fun _ => ?_)⟩
      refine ⟨_, rfl, rfl, _, rfl, ite2 (fun _ => ?_) (fun c => absurd (by decide +kernel) c)⟩
      refine ⟨_, rfl, n, rfl, hn1, hn2, fun l H1 nl hl s1 => ?_⟩
      refine ⟨_, rfl, _, rfl, _, rfl, (n : Int), _, rfl, rfl, .inl ⟨by omega, by omega⟩, r, _, rfl, _, 1, rfl, rfl, _, rfl, l, _, rfl, SqL.of hl, fun p np => ?_⟩
      refine ⟨p, (swC (n - 1)).take (r + 1).toNat, rfl, SqL.of ?_, ?_⟩
      · rw [upd_same, cut_ints, min_if]
        congr 2
        obtain ⟨m, em⟩ : ∃ m : Nat, min r ((n : Int) * (n : Int)) + 1 = (m : Int) := ⟨(min r ((n : Int) * (n : Int)) + 1).toNat, by have : (0 : Int) ≤ (n : Int) * (n : Int) := Int.mul_nonneg (by omega) (by omega); omega⟩
        rw [em, cutI_head]
        by_cases c : r ≤ (n : Int) * (n : Int)
        · rw [Int.min_eq_left c] at em
          rw [em, Int.toNat_natCast]
        · rw [Int.min_eq_right (by omega)] at em
          have hl := swC_len (n - 1)
          have ht := (tri_le (n - 1) (by omega)).2
          have e1 : n - 1 + 1 = n := by omega
          rw [e1] at ht
          have e2 : ((n * n : Nat) : Int) = (n : Int) * (n : Int) := Int.natCast_mul _ _
          exact congrArg _ (take_all (l := swC (n - 1)) (by omega) (by omega))
      · rw [← inW_swap]
        exact q _ (s1.trans (same_new np))
    · refine ⟨_, rfl, rfl, _, rfl, ite2 (fun c => absurd c (by decide +kernel)) (fun _ => ?_)⟩
      refine ⟨_, rfl, rfl, _, rfl, ite2 (fun c => absurd c (by decide +kernel)) (fun _ => ?_)⟩
      refine ⟨_, rfl, n, rfl, hn1, hn2, fun l H1 nl hl s1 => ?_⟩
      refine ⟨_, rfl, _, rfl, r, _, rfl, _, 1, rfl, rfl, _, rfl, l, _, rfl, SqL.of hl, fun p np => ?_⟩
      refine ⟨p, (spC n).take (r + 1).toNat, rfl, SqL.of ?_, ?_⟩
      · rw [upd_same, cut_ints, min_if]
        congr 2
        obtain ⟨m, em⟩ : ∃ m : Nat, min r (n : Int) + 1 = (m : Int) := ⟨(min r (n : Int) + 1).toNat, by omega⟩
        rw [em, cutI_head]
        by_cases c : r ≤ (n : Int)
        · rw [Int.min_eq_left c] at em
          rw [em, Int.toNat_natCast]
        · rw [Int.min_eq_right (by omega)] at em
          have hl : (spC n).length = n + 1 := by unfold spC; rw [List.length_map, List.length_range]
          exact congrArg _ (take_all (by omega) (by omega))
      · rw [← inW_spot]
        exact q _ (s1.trans (same_new np))
    · refine ⟨_, rfl, rfl, _, rfl, ite2 (fun _ => ?_) (fun c => absurd (by decide +kernel) c)⟩
      refine ⟨_, rfl, _, rfl, _, rfl, (n : Int), r, rfl, n, min (n : Int) r, by rw [min_if]; rfl, hn1, hn2, by omega, fun H1 s1 => ?_⟩
      rw [shN_far, ← inW_shift]
      exact q H1 s1
theorem scDist : FnScope ["pool", "way", "n", "most", "some"] ["pool", "way", "n"] (defScope s_law_distance) := ⟨rfl, rfl, rfl, by decide +kernel, rfl, by decide +kernel, by decide +kernel⟩
set_option maxHeartbeats 1000000 in
theorem ok_dist {f f1 f2 : Addr} {fd d1 d2 : FuncData} {k : Nat} (T : Df K mg "_law_distance" s_law_distance ["pool", "way", "n"] f fd) (T__law_take : Df K mg "_law_take" s_law_take ["pool", "many"] f1 d1) (T__law_far : Df K mg "_law_far" s_law_far ["pool"] f2 d2) (G__law_take : FnOk P w K mg base CX0 k f1 d1 ["pool", "many"] spTake) (G__law_far : FnOk P w K mg base CX0 k f2 d2 ["pool"] spFarN) (B : Bi mg) : FnOk P w K mg base CX0 (k + 1) f fd ["pool", "way", "n"] spDist := by
  refine T.F.ok scDist (fun vs H Q E h => ?_) (fun cdv A outer s H vs Q E hr h => ?_)
  · obtain ⟨d, c, wy, n, rfl, _⟩ := h
    rfl
  · obtain ⟨d, c, wy, n, rfl, hw, hn1, hn2, hP, hc, q⟩ := h
    refine ⟨_, 
      (pss_cons (ps_set (i := 3) scDist.nd rfl (.inl rfl) (pe_dget (hu_of hr) (pe_disp (pps_cons pe_str (pe_op op_fdiv (pe_op op_mul (pv 2) (pe_op op_sub (pv 2) pe_int)) pe_int) (pps_cons pe_str (pv 2) (pps_cons pe_str (pe_op op_sub (pv 2) pe_int) pps_nil))) (by rfl) (by rfl) (fun z => by cases z) (by decide)) (pv 1) (fun _ _ => rfl)))
      (pss_cons (ps_set (i := 4) scDist.nd rfl (.inl rfl) (pe_lst (pa_cons pe_int (pa_cons (pe_op op_add pe_int (pe_call G__law_take hr (by rfl) T__law_take.g T__law_take.F.kp T__law_take.b .nil pass0 (pa_cons (pv 0) (pa_cons (pe_op op_add (pv 3) pe_int) pa_nil)))) (pa_cons (pe_op op_add pe_int (pe_call G__law_take hr (by rfl) T__law_take.g T__law_take.F.kp T__law_take.b .nil pass0 (pa_cons (pv 0) (pa_cons (pe_op op_add (pv 3) pe_int) pa_nil)))) (pa_cons (pe_op op_add pe_int (pe_call G__law_take hr (by rfl) T__law_take.g T__law_take.F.kp T__law_take.b .nil pass0 (pa_cons (pv 0) (pa_cons pe_int pa_nil)))) (pa_cons (pv 3) (pa_cons (pe_op op_add (pv 3) pe_int) pa_nil))))))))
      (pss_cons (ps_set (i := 4) scDist.nd rfl (.inl rfl) (pe_op op_cat (pv 4) (pe_lst (pa_cons (pe_op op_add (pe_op op_mul pe_int (pv 3)) pe_int) (pa_cons (pe_op op_add (pe_op op_mul pe_int (pv 3)) pe_int) (pa_cons (pe_call G__law_far hr (by rfl) T__law_far.g T__law_far.F.kp T__law_far.b .nil pass0 (pa_cons (pv 0) pa_nil)) pa_nil))))))
      (pss_one (ps_ret (pe_callB (call_max2 rfl) (by rfl) B.max (by decide +kernel) (pa_cons pe_int (pa_cons (pe_ix ix_list (pv 4) (pe_call G__law_take hr (by rfl) T__law_take.g T__law_take.F.kp T__law_take.b .nil pass0 (pa_cons (pv 0) (pa_cons pe_int pa_nil))) (fun _ _ => rfl)) pa_nil)))))))), ?_⟩
    refine fun p np => ⟨_, rfl, _, rfl, (n : Int), 1, rfl, rfl, (n : Int), _, rfl, rfl, .inl ⟨by omega, by omega⟩, _, 2, rfl, rfl, ⟨by decide, by decide⟩, _, rfl, _, rfl, (n : Int), 1, rfl, rfl, upd_same, [(.inr "swap", _), (.inr "spot", _), (.inr "shift", _)], rfl, (by show 3 ≤ 15; decide), ?_⟩
    have np2 : p ≠ d := hP.ne np
    have hnn : 0 ≤ (n : Int) * ((n : Int) - 1) ∧ (n : Int) * ((n : Int) - 1) ≤ 12 * 11 := mul_b (by omega) (by omega) (by omega) (by omega)
    obtain ⟨most, em, m0, m1⟩ : ∃ most : Int, (if wy = "swap" then V.int ((n : Int) * ((n : Int) - 1) / 2) else if wy = "spot" then V.int (n : Int) else V.int ((n : Int) - 1)) = V.int most ∧ 0 ≤ most ∧ most ≤ 1000 := by
      rcases hw with rfl | rfl | rfl
      · exact ⟨_, if_pos rfl, by omega, by omega⟩
      · exact ⟨n, by rw [if_neg n1, if_pos rfl], by omega, by omega⟩
      · exact ⟨(n : Int) - 1, by rw [if_neg n2, if_neg n3], by omega, by omega⟩
    refine ⟨_, rfl, p, V.int most, rfl, .inl ⟨_, .inr wy, .inl upd_same, rfl, ?_⟩, ?_⟩
    · rw [valW _ _ _ hw]
      exact congrArg some em.symm
    have k1 : KeepD d H (upd (upd H p (.dK [])) p (.dK (mergeK [] [(.inr "swap", V.int ((n : Int) * ((n : Int) - 1) / 2)), (.inr "spot", V.int (n : Int)), (.inr "shift", V.int ((n : Int) - 1))]))) := fun u o e _ => by rw [upd_ne (ne_of_none e np), upd_ne (ne_of_none e np)]; exact e
    have P1 : PoolAt (upd (upd H p (.dK [])) p (.dK (mergeK [] [(.inr "swap", V.int ((n : Int) * ((n : Int) - 1) / 2)), (.inr "spot", V.int (n : Int)), (.inr "shift", V.int ((n : Int) - 1))]))) d c := (hP.upd np2).upd np2
    refine ⟨_, rfl, _, rfl, most, 1, rfl, rfl, d, _, c, rfl, P1, by omega, by omega, by omega, fun v1 H1 v10 _ P2 k2 => ?_⟩
    refine ⟨_, _, rfl, rfl, _, rfl, _, rfl, most, 1, rfl, rfl, d, _, c + 1, rfl, P2, by omega, by omega, by omega, fun v2 H2 v20 _ P3 k3 => ?_⟩
    refine ⟨_, _, rfl, rfl, _, rfl, d, _, c + 2, rfl, P3, by omega, by decide, by decide, fun v3 H3 v30 _ P4 k4 => ?_⟩
    refine ⟨_, _, rfl, rfl, _, rfl, _, rfl, most, 1, rfl, rfl, line_small (by show 6 ≤ 16777216; decide), fun s1 ns1 => ?_⟩
    have u1 := same_new (o := .lst [.int 1, .int (1 + v1), .int (1 + v2), .int (2 + v3), .int most, .int (most + 1)]) ns1
    have n1' : s1 ≠ d := P4.ne ns1
    have hs1 : (upd H3 s1 (.lst [.int 1, .int (1 + v1), .int (1 + v2), .int (2 + v3), .int most, .int (most + 1)])) s1 = some (.lst [.int 1, .int (1 + v1), .int (1 + v2), .int (2 + v3), .int most, .int (most + 1)]) := upd_same
    refine ⟨_, rfl, _, rfl, 2, most, rfl, rfl, .inl ⟨by decide, by decide⟩, _, 1, rfl, rfl, _, rfl, 2, most, rfl, rfl, .inl ⟨by decide, by decide⟩, _, 2, rfl, rfl, _, rfl, d, c + 3, rfl, P4.same u1, by omega, fun v4 H4 v40 P5 k5 => ?_⟩
    refine ⟨line_small (by show 3 ≤ 16777216; decide), fun s2 ns2 => ?_⟩
    have n2' : s2 ≠ d := P5.ne ns2
    have hs1' := k5 _ _ hs1 n1'
    have u2 := same_new (o := .lst [.int (2 * most + 1), .int (2 * most + 2), .int v4]) ns2
    refine ⟨s1, s2, _, _, rfl, rfl, u2 _ _ hs1', upd_same, line_small (by show 9 ≤ 16777216; decide), fun s3 ns3 => ?_⟩
    have u3 := same_new (o := .lst ([.int 1, .int (1 + v1), .int (1 + v2), .int (2 + v3), .int most, .int (most + 1)] ++ [.int (2 * most + 1), .int (2 * most + 2), .int v4])) ns3
    have P6 := (P5.same u2).same u3
    have n3' : s3 ≠ d := (P5.same u2).ne ns3
    have hs3 : (upd (upd H4 s2 (.lst [.int (2 * most + 1), .int (2 * most + 2), .int v4])) s3 (.lst ([.int 1, .int (1 + v1), .int (1 + v2), .int (2 + v3), .int most, .int (most + 1)] ++ [.int (2 * most + 1), .int (2 * most + 2), .int v4]))) s3 = some (.lst ([1, 1 + v1, 1 + v2, 2 + v3, most, most + 1, 2 * most + 1, 2 * most + 2, v4].map V.int)) := upd_same
    refine ⟨_, rfl, _, rfl, d, 9, c + 8, rfl, P6, by omega, by decide, by decide, fun v H7 v0 v1' P7 k7 => ?_⟩
    generalize hL : [1, 1 + v1, 1 + v2, 2 + v3, most, most + 1, 2 * most + 1, 2 * most + 2, v4] = L at hs3
    have hLl : L.length = 9 := by rw [← hL]; rfl
    obtain ⟨x, ex⟩ : ∃ x, L[v.toNat]? = some x := ⟨L[v.toNat]'(by omega), List.getElem?_eq_getElem _⟩
    refine ⟨s3, _, _, _, rfl, rfl, SqL.of (k7 _ _ hs3 n3'), at_of (j := v.toNat) (by omega) (int_at ex), _, _, rfl, ?_⟩
    rw [max_if]
    refine q _ H7 (by omega) P7 ?_
    exact ((((((k1.trans k2).trans k3).trans k4).trans (KeepD.of_same u1)).trans k5).trans (KeepD.of_same (u2.trans u3))).trans k7
end
end Fo
namespace Fo
open PySem PySem.Spec PyProof.Rows L2
def spRt : Sp := fun vs H Q _ => ∃ (w : Str) (n : Nat) (d : Int), vs = [.str w, .int n, .int d] ∧ IsWay w ∧ 1 ≤ n ∧ n ≤ 12 ∧ 1 ≤ d ∧ ∀ H', Same H H' → Q (.bl true) H'
def spLaw (K : PySem.W.Frag) : Sp := fun vs H Q _ => ∃ (a : Addr) (ns : List Int), vs = [.ref a] ∧ SqL K H a (ns.map V.int) ∧ ns.length ≤ 63 ∧ ∀ H', Q (.bl true) H'
theorem dp_two {K : PySem.W.Frag} {H : Hp} {t : Addr} {x y : Int} (h : H t = some (.tup [.int x, .int y])) : Dp K H (.ref t) (.tuple [.int x, .int y]) := .tup (SqT.of h) (.cons (.int x) (.cons (.int y) .nil))
theorem shaped_two (x y : Int) : SeqAt.shaped (.tuple [.int x, .int y]) = true := rfl
theorem eqv_two (x y : Int) : PyData.eqv (.tuple [.int x, .int y]) (.tuple [.int x, .int y]) = true := SeqAt.eqv_refl _ rfl
theorem least_law {F W : Int} (h : 0 < W) : (F - 1) / W + 1 = (F + W - 1) / W := by
  rw [show F + W - 1 = (F - 1) + W * 1 by omega, Int.add_mul_ediv_left _ _ (by omega)]
def pickN (b : Bool) (n : Nat) : Nat := if b then min n 8 else n
theorem pick_at (b : Bool) (n : Nat) : atI ([(n : Int), min (n : Int) 8].map V.int) (if b = true then 1 else 0) = some (V.int ((pickN b n : Nat) : Int)) := by
  cases b
  · exact at2_0
  · rw [if_pos rfl, show ((pickN true n : Nat) : Int) = min (n : Int) 8 by unfold pickN; rw [if_pos rfl]; omega]
    exact at2_1
theorem pick_b (b : Bool) {n : Nat} (h1 : 1 ≤ n) (h2 : n ≤ 12) : 1 ≤ pickN b n ∧ pickN b n ≤ 12 := by
  unfold pickN
  split <;> omega
section
variable {P : Program} {w : World} {K : PySem.W.Frag} {mg : Str → Option Value} {base : Heap}
theorem scRt : FnScope ["way", "n", "d", "every", "outer", "due", "again", "found", "number"] ["way", "n", "d"] (defScope s_law_right) := ⟨rfl, rfl, rfl, by decide +kernel, rfl, by decide +kernel, by decide +kernel⟩
set_option maxHeartbeats 1000000 in
theorem ok_right {f f1 f2 f3 : Addr} {fd d1 d2 d3 : FuncData} {k : Nat} (T : Df K mg "_law_right" s_law_right ["way", "n", "d"] f fd) (T__law_many : Df K mg "_law_many" s_law_many ["n"] f1 d1) (T__law_within : Df K mg "_law_within" s_law_within ["way", "n", "r"] f2 d2) (T_bounds_by_rounds : Df K mg "bounds_by_rounds" s_bounds_by_rounds ["way", "n", "d"] f3 d3) (G__law_many : FnOk P w K mg base CX0 k f1 d1 ["n"] spFac) (G__law_within : FnOk P w K mg base CX0 k f2 d2 ["way", "n", "r"] spKW) (G_bounds_by_rounds : FnOk P w K mg base CX0 k f3 d3 ["way", "n", "d"] spBounds) (B : Bi mg) :
    FnOk P w K mg base CX0 (k + 1) f fd ["way", "n", "d"] spRt := by
  refine T.F.ok scRt (fun vs H Q E h => ?_) (fun cdv A outer s H vs Q E hr h => ?_)
  · obtain ⟨wy, n, d, rfl, _⟩ := h
    rfl
  · obtain ⟨wy, n, d, rfl, hw, hn1, hn2, hd, q⟩ := h
    refine ⟨_, 
      (pss_cons (ps_set (i := 3) scRt.nd rfl (.inl rfl) (pe_call G__law_many hr (by rfl) T__law_many.g T__law_many.F.kp T__law_many.b .nil pass0 (pa_cons (pv 1) pa_nil)))
      (pss_cons (ps_set (i := 4) scRt.nd rfl (.inl rfl) (pe_call G__law_within hr (by rfl) T__law_within.g T__law_within.F.kp T__law_within.b .nil pass0 (pa_cons (pv 0) (pa_cons (pv 1) (pa_cons (pe_op op_sub (pv 2) pe_int) pa_nil)))))
      (pss_cons (ps_set (i := 5) scRt.nd rfl (.inl rfl) (pe_tup (pa_cons (pe_op op_add (pe_op op_fdivW (pe_op op_sub (pv 3) pe_int) (pv 4)) pe_int) (pa_cons (pe_op op_fdivW (pv 3) (pe_call G__law_within hr (by rfl) T__law_within.g T__law_within.F.kp T__law_within.b .nil pass0 (pa_cons (pv 0) (pa_cons (pv 1) (pa_cons (pe_op op_fdiv (pe_op op_sub (pv 2) pe_int) pe_int) pa_nil))))) pa_nil))))
      (pss_cons (ps_for PassesOwn.never rfl (pi_range1 (by rfl) B.range (pa_cons pe_int pa_nil)) (pg_name (i := 6) scRt.nd rfl (.inl rfl))
        (pss_cons (ps_set (i := 7) scRt.nd rfl (.inl rfl) (pe_call G_bounds_by_rounds hr (by rfl) T_bounds_by_rounds.g T_bounds_by_rounds.F.kp T_bounds_by_rounds.b .nil pass0 (pa_cons (pv 0) (pa_cons (pv 1) (pa_cons (pv 2) pa_nil)))))
        (pss_cons (ps_if (PW.pt (pw_or (pt_not (pt_val (pe_callB call_isi (by rfl) B.isinstance (by decide +kernel) (pa_cons (pv 7) (pa_cons (pe_bltn (v := .ty "tuple") (by rfl) B.tuple (by decide +kernel) rfl) pa_nil))))) (pw_or1 (pt_cmpR (op_neD hr.units) (pv 7) (pv 5) (nomark _)))))
          (pss_one (ps_ret pe_bl))
          pss_nil)
        (pss_one (ps_if (pt_cmpR (op_neD hr.units) (pe_lc (own := [("number", 8)]) (g := (gName 8)) (tt := (tOr (tNot (tB (tCB (rIsi K) (tCons (tVar 8) (tCons (tC (.ty "int")) tNil))))) (tB (tCB (rIsi K) (tCons (tVar 8) (tCons (tC (.ty "bool")) tNil)))))) (te := (tVar 8)) rfl scRt.nd (pi_tup (pv 7)) (blkOk_by (N := ["way", "n", "d", "every", "outer", "due", "again", "found", "number"]) (sc := defScope s_law_right) (by decide +kernel)) (fun _ _ _ _ _ => (pg_name (i := 8) scRt.nd rfl (.inl rfl))) (fun _ _ _ _ _ => (pts_one (PW.pt (pw_or (pt_not (pt_val (pe_callB call_isi (by rfl) B.isinstance (by decide +kernel) (pa_cons (pv 8) (pa_cons (pe_bltn (v := .ty "int") (by rfl) B.int (by decide +kernel) rfl) pa_nil))))) (pw_or1 (pt_val (pe_callB call_isi (by rfl) B.isinstance (by decide +kernel) (pa_cons (pv 8) (pa_cons (pe_bltn (v := .ty "bool") (by rfl) B.bool (by decide +kernel) rfl) pa_nil))))))))) (fun _ _ _ _ _ => (pv 8))) (pe_lst pa_nil) (nomark _))
          (pss_one (ps_ret pe_bl))
          pss_nil)))))
      (pss_one (ps_ret pe_bl)))))), ?_⟩
    have hd2 : 0 ≤ (d - 1) / 2 := by omega
    refine ⟨_, rfl, n, rfl, hn2, ?_⟩
    refine ⟨_, rfl, _, rfl, _, rfl, d, 1, rfl, rfl, wy, n, d - 1, rfl, hw, hn1, hn2, by omega, fun H1 s1 => ?_⟩
    refine ⟨_, rfl, _, 1, rfl, rfl, _, rfl, _, _, rfl, rfl, wide_in hw hn1 hn2 (by omega), _, 1, rfl, rfl, ?_⟩
    refine ⟨_, rfl, _, rfl, _, rfl, _, rfl, d, 1, rfl, rfl, _, 2, rfl, rfl, ⟨by decide, by decide⟩, wy, n, (d - 1) / 2, rfl, hw, hn1, hn2, hd2, fun H2 s2 => ?_⟩
    refine ⟨_, _, rfl, rfl, wide_in hw hn1 hn2 hd2, line_small (by show 2 ≤ 16777216; decide), fun t nt => ?_⟩
    have s3 := (s1.trans s2).trans (same_new (o := .tup [.int ((facN n - 1) / inW wy n (d - 1) + 1), .int (facN n / inW wy n ((d - 1) / 2))]) nt)
    have ht : (upd H2 t (.tup [.int ((facN n - 1) / inW wy n (d - 1) + 1), .int (facN n / inW wy n ((d - 1) / 2))])) t = some (.tup [.int (leastB wy n d), .int (mostB wy n d)]) := by
      rw [upd_same, least_law (by have := (inW_good hw hn1 hn2 (show 0 ≤ d - 1 by omega)).1; omega)]
      rfl
    generalize upd H2 t (.tup [.int ((facN n - 1) / inW wy n (d - 1) + 1), .int (facN n / inW wy n ((d - 1) / 2))]) = H3 at s3 ht ⊢
    refine ⟨2, rfl, by decide, by decide, ?_⟩
    refine for_range (n := 2) (fun i σ H4 => ∃ (y3 y4 y6 y7 y8 : Option V), σ = [some (.str wy), some (.int n), some (.int d), y3, y4, some (.ref t), y6, y7, y8] ∧ Same H H4 ∧ Same H3 H4) ⟨_, _, _, _, _, rfl, s3, Same.refl _⟩ (fun i σ H4 hi hW => ?_) (fun σ H4 hW => ?_)
    · obtain ⟨y3, y4, y6, y7, y8, rfl, s4, t4⟩ := hW
      refine ⟨_, rfl, _, rfl, _, rfl, wy, n, d, rfl, hw, hn1, hn2, hd, fun u H5 nu hu s5 => ?_⟩
      refine ⟨_, rfl, _, _, _, _, true, rfl, .ty _, .base (.tup hu), kit_ty (by decide +kernel), true, rfl, iteF ?_⟩
      refine ⟨_, rfl, _, rfl, _, _, dp_two hu, dp_two (s5 _ _ (t4 _ _ ht)), shaped_two _ _, shaped_two _ _, _, rfl, ?_⟩
      rw [eqv_two]
      refine iteF ?_
      refine ⟨_, rfl, u, rfl, ⟨_, SqT.of hu⟩, fun D nD => ?_⟩
      refine lc_tup (K := K) (a := u) (xs := [.int (leastB wy n d), .int (mostB wy n d)]) (fun m H6 => H6 D = some (.lst ([].map V.int)) ∧ Same H5 H6) ⟨upd_same, same_new nD⟩ (fun m H6 _ hP => SqT.of (hP.2 _ _ hu)) (fun m x H6 hx hP => ?_) (fun H6 hP => ?_)
      · obtain ⟨hD6, s6⟩ := hP
        obtain ⟨z, rfl⟩ : ∃ z, x = V.int z := by
          match m, hx with
          | 0, hx => exact ⟨_, (Option.some.inj hx).symm⟩
          | 1, hx => exact ⟨_, (Option.some.inj hx).symm⟩
          | m + 2, hx => cases hx
        refine ⟨rfl, _, rfl, _, _, _, _, true, rfl, .ty _, .base (.int _), kit_ty (by decide +kernel), true, rfl, iteF ?_⟩
        exact ⟨_, rfl, _, _, _, _, false, rfl, .ty _, .base (.int _), kit_ty (by decide +kernel), false, rfl, iteF ⟨hD6, s6⟩⟩
      · obtain ⟨hD6, s6⟩ := hP
        refine ⟨Nat.zero_le _, fun e ne => ?_⟩
        have s7 := same_new (o := .lst []) ne
        refine ⟨dL [], dL [], dp_list (s7 _ _ hD6), dp_list (ns := []) upd_same, shaped_list _, shaped_list _, _, rfl, ?_⟩
        rw [eqv_list]
        refine iteF ⟨_, _, _, _, _, rfl, ?_, ?_⟩
        · exact ((s4.trans s5).trans s6).trans s7
        · exact ((t4.trans s5).trans s6).trans s7
    · obtain ⟨y3, y4, y6, y7, y8, rfl, s4, t4⟩ := hW
      exact q _ s4
theorem scLaw : FnScope ["script", "k", "pool", "n", "way", "many"] ["script"] (defScope s_law) := ⟨rfl, rfl, rfl, by decide +kernel, rfl, by decide +kernel, by decide +kernel⟩
set_option maxHeartbeats 1000000 in
theorem ok_law {f f1 f2 f3 f4 f5 f6 : Addr} {fd d1 d2 d3 d4 d5 d6 : FuncData} (T : Fun K "law" "law" s_law f fd) (T__law_pool : Df K mg "_law_pool" s_law_pool ["script", "k"] f1 d1) (T__law_take : Df K mg "_law_take" s_law_take ["pool", "many"] f2 d2) (T__law_ways : Df K mg "_law_ways" s_law_ways [] f3 d3) (T__law_right : Df K mg "_law_right" s_law_right ["way", "n", "d"] f4 d4) (T__law_distance : Df K mg "_law_distance" s_law_distance ["pool", "way", "n"] f5 d5) (T_bounds_by_rounds : Df K mg "bounds_by_rounds" s_bounds_by_rounds ["way", "n", "d"] f6 d6)
    (G__law_pool : FnOk P w K mg base CX0 9 f1 d1 ["script", "k"] (spPool K)) (G__law_take : FnOk P w K mg base CX0 9 f2 d2 ["pool", "many"] spTake) (G__law_ways : FnOk P w K mg base CX0 9 f3 d3 [] spWays) (G__law_right : FnOk P w K mg base CX0 9 f4 d4 ["way", "n", "d"] spRt) (G__law_distance : FnOk P w K mg base CX0 9 f5 d5 ["pool", "way", "n"] spDist) (G_bounds_by_rounds : FnOk P w K mg base CX0 9 f6 d6 ["way", "n", "d"] spBounds)
    (B : Bi mg) : FnOk P w K mg base CX0 10 f fd ["script"] (spLaw K) := by
  refine T.ok scLaw (fun vs H Q E h => ?_) (fun cdv A outer s H vs Q E hr h => ?_)
  · obtain ⟨a, ns, rfl, _⟩ := h
    rfl
  · obtain ⟨a, ns, rfl, hS, hlen, q⟩ := h
    have hlm : (ns.map V.int).length = ns.length := List.length_map _
    refine ⟨_, 
      (pss_cons (ps_for PassesOwn.never rfl (pi_range1 (by rfl) B.range (pa_cons (pe_callB (call_max2 rfl) (by rfl) B.max (by decide +kernel) (pa_cons pe_int (pa_cons (pe_callB (call_min2 rfl) (by rfl) B.min (by decide +kernel) (pa_cons pe_int (pa_cons (pe_callB call_len_seq (by rfl) B.len PySem.boot_len (pa_cons (pv 0) pa_nil)) pa_nil))) pa_nil))) pa_nil)) (pg_name (i := 1) scLaw.nd rfl (.inl rfl))
        (pss_cons (ps_set (i := 2) scLaw.nd rfl (.inl rfl) (pe_call G__law_pool hr (by rfl) T__law_pool.g T__law_pool.F.kp T__law_pool.b .nil pass0 (pa_cons (pv 0) (pa_cons (pv 1) pa_nil))))
        (pss_cons (ps_set (i := 3) scLaw.nd rfl (.inl rfl) (pe_ix ix_list (pe_lst (pa_cons (pe_op op_add pe_int (pe_call G__law_take hr (by rfl) T__law_take.g T__law_take.F.kp T__law_take.b .nil pass0 (pa_cons (pv 2) (pa_cons pe_int pa_nil)))) (pa_cons pe_int pa_nil))) (pe_callTy call_int1 (by rfl) B.int (by decide +kernel) (pa_cons (pe_cmpR op_eq (pe_call G__law_take hr (by rfl) T__law_take.g T__law_take.F.kp T__law_take.b .nil pass0 (pa_cons (pv 2) (pa_cons pe_int pa_nil))) pe_int (nomark _)) pa_nil)) (fun _ _ => rfl)))
        (pss_one (ps_for PassesOwn.never rfl (pi_list (pe_call0 G__law_ways hr (by rfl) T__law_ways.g T__law_ways.F.kp T__law_ways.b .nil pass0)) (pg_name (i := 4) scLaw.nd rfl (.inl rfl))
          (pss_cons (ps_set (i := 5) scLaw.nd rfl (.inl rfl) (pe_ix ix_list (pe_lst (pa_cons (pv 3) (pa_cons (pe_callB (call_min2 rfl) (by rfl) B.min (by decide +kernel) (pa_cons (pv 3) (pa_cons pe_int pa_nil))) pa_nil))) (pe_callTy call_int1 (by rfl) B.int (by decide +kernel) (pa_cons (pe_and (pe_cmpR op_eq (pv 4) pe_str (nomark _)) (pe_one (pe_cmpR op_gt (pv 1) pe_int (nomark _)))) pa_nil)) (fun _ _ => rfl)))
          (pss_one (ps_if (pt_not (pt_val (pe_call G__law_right hr (by rfl) T__law_right.g T__law_right.F.kp T__law_right.b .nil pass0 (pa_cons (pv 4) (pa_cons (pv 5) (pa_cons (pe_call G__law_distance hr (by rfl) T__law_distance.g T__law_distance.F.kp T__law_distance.b .nil pass0 (pa_cons (pv 2) (pa_cons (pv 4) (pa_cons (pv 5) pa_nil)))) pa_nil))))))
            (pss_one (ps_ret pe_bl))
            pss_nil))))))))
      (pss_one (ps_ret (pe_and (pe_cmpR (op_eqD hr.units) (pe_call G_bounds_by_rounds hr (by rfl) T_bounds_by_rounds.g T_bounds_by_rounds.F.kp T_bounds_by_rounds.b .nil pass0 (pa_cons pe_str (pa_cons pe_int (pa_cons pe_int pa_nil)))) (pe_tup (pa_cons pe_int (pa_cons pe_int pa_nil))) (nomark _)) (pe_one (pe_cmpR (op_eqD hr.units) (pe_call G_bounds_by_rounds hr (by rfl) T_bounds_by_rounds.g T_bounds_by_rounds.F.kp T_bounds_by_rounds.b .nil pass0 (pa_cons pe_str (pa_cons pe_int (pa_cons pe_int pa_nil)))) (pe_tup (pa_cons pe_int (pa_cons pe_int pa_nil))) (nomark _))))))), ?_⟩
    refine ⟨_, rfl, a, _, rfl, .inl hS, _, _, rfl, _, _, rfl, ?_⟩
    rw [max_if, min_if, hlm]
    refine ⟨_, rfl, by omega, by omega, ?_⟩
    generalize hN : (max 1 (min 6 ((ns.length : Nat) : Int))).toNat = N
    have hN2 : N ≤ 6 := by omega
    refine for_range (n := N) (fun i σ H1 => ∃ y1 y2 y3 y4 y5, σ = [some (.ref a), y1, y2, y3, y4, y5] ∧ Same H H1) ⟨_, _, _, _, _, rfl, Same.refl _⟩ (fun i σ H1 hi hW => ?_) (fun σ H1 hW => ?_)
    · obtain ⟨y1, y2, y3, y4, y5, rfl, sm⟩ := hW
      refine ⟨_, rfl, _, rfl, a, ns, i, by rw [Int.zero_add]; rfl, sm.seq hS, hlen, by omega, fun d H2 nd P2 s2 => ?_⟩
      have nHd : H d = none := sm.free nd
      have sm2 := sm.trans s2
      refine ⟨_, rfl, d, 12, 5000, rfl, P2, by decide, by decide, by decide, fun v1 H3 v10 v11 P3 k3 => ?_⟩
      refine ⟨_, _, rfl, rfl, line_small (by show 2 ≤ 16777216; decide), fun t nt => ?_⟩
      have u3 := same_new (o := .lst ([1 + v1, 12].map V.int)) nt
      have ntd := P3.ne nt
      refine ⟨_, rfl, d, 4, 5001, rfl, P3.same u3, by decide, by decide, by decide, fun v2 H4 v20 v21 P4 k4 => ?_⟩
      have ht4 : H4 t = some (.lst ([1 + v1, 12].map V.int)) := k4 _ _ upd_same ntd
      obtain ⟨n, hn1, hn2, hpick⟩ : ∃ n : Nat, 1 ≤ n ∧ n ≤ 12 ∧ atI ([1 + v1, 12].map V.int) (if decide (V.int v2 = V.int 0) = true then 1 else 0) = some (V.int (n : Int)) := by
        by_cases c : decide (V.int v2 = V.int 0) = true
        · rw [if_pos c]
          exact ⟨12, by omega, by omega, at2_1⟩
        · rw [if_neg c]
          exact ⟨(1 + v1).toNat, by omega, by omega, by rw [show (((1 + v1).toNat : Nat) : Int) = 1 + v1 by omega]; exact at2_0⟩
      refine ⟨rfl, .inr ⟨_, rfl, t, _, _, _, rfl, rfl, SqL.of ht4, hpick, ?_⟩⟩
      have kk : KeepD d H H4 := (((KeepD.of_same sm2).trans k3).trans (KeepD.of_same u3)).trans k4
      refine ⟨rfl, fun wl nwl => ?_⟩
      have nwd := P4.ne nwl
      have u5 := same_new (o := .lst [.str "swap", .str "spot", .str "shift"]) nwl
      refine ⟨wl, rfl, ⟨_, SqL.of upd_same⟩, ?_⟩
      refine for_list (xs := [.str "swap", .str "spot", .str "shift"]) (fun m σ H5 => ∃ y4 y5, σ = [some (.ref a), some (.int (0 + (i : Int))), some (.ref d), some (.int n), y4, y5] ∧ PoolAt H5 d (5002 + 9 * m) ∧ KeepD d H H5 ∧ H5 wl = some (.lst [.str "swap", .str "spot", .str "shift"]))
        ⟨_, _, rfl, P4.same u5, kk.trans (KeepD.of_same u5), upd_same⟩ (fun m σ H5 _ hW => by obtain ⟨_, _, _, _, _, hw5⟩ := hW; exact SqL.of hw5) (fun m x σ H5 hx hW => ?_) (fun σ H5 hW => ?_)
      · obtain ⟨y4, y5, rfl, P5, k5, hw5⟩ := hW
        have hm := (List.getElem?_eq_some_iff.mp hx).1
        have hm3 : m < 3 := hm
        obtain ⟨wy, rfl, hwy⟩ : ∃ wy : Str, x = .str wy ∧ IsWay wy := by
          match m, hx with
          | 0, hx => exact ⟨_, (Option.some.inj hx).symm, .inl rfl⟩
          | 1, hx => exact ⟨_, (Option.some.inj hx).symm, .inr (.inl rfl)⟩
          | 2, hx => exact ⟨_, (Option.some.inj hx).symm, .inr (.inr rfl)⟩
          | m + 3, hx => cases hx
        refine ⟨_, rfl, _, rfl, (n : Int), 8, rfl, ?_⟩
        rw [min_if]
        refine ⟨line_small (by show 2 ≤ 16777216; decide), fun t2 nt2 => ?_⟩
        have u6 := same_new (o := .lst ([(n : Int), min (n : Int) 8].map V.int)) nt2
        have ht2 : (upd H5 t2 (.lst [.int (n : Int), .int (min (n : Int) 8)])) t2 = some (.lst ([(n : Int), min (n : Int) 8].map V.int)) := upd_same
        have P6 : PoolAt (upd H5 t2 (.lst [.int (n : Int), .int (min (n : Int) 8)])) d (5002 + 9 * m) := P5.same u6
        have k6 : KeepD d H (upd H5 t2 (.lst [.int (n : Int), .int (min (n : Int) 8)])) := k5.trans (KeepD.of_same u6)
        have hw6 : (upd H5 t2 (.lst [.int (n : Int), .int (min (n : Int) 8)])) wl = some (.lst [.str "swap", .str "spot", .str "shift"]) := u6 _ _ hw5
        generalize upd H5 t2 (.lst [.int (n : Int), .int (min (n : Int) 8)]) = H6 at ht2 P6 k6 hw6 ⊢
        refine ⟨_, rfl, rfl, _, rfl, ite2 (fun _ => ⟨_, rfl, _, 0, rfl, rfl, .inr ⟨_, rfl, ?_⟩⟩) (fun _ => .inr ⟨_, rfl, ?_⟩)⟩
        all_goals
          refine ⟨t2, _, _, _, rfl, rfl, SqL.of ht2, pick_at _ _, ?_⟩
          refine ⟨_, rfl, _, rfl, _, rfl, _, rfl, _, rfl, d, _, wy, pickN _ n, rfl, hwy, (pick_b _ hn1 hn2).1, (pick_b _ hn1 hn2).2, P6, by omega, fun v H7 hv P7 k7 => ?_⟩
          refine ⟨wy, pickN _ n, v, rfl, hwy, (pick_b _ hn1 hn2).1, (pick_b _ hn1 hn2).2, hv, fun H8 s8 => ?_⟩
          exact ⟨_, rfl, iteF ⟨_, _, rfl, (P7.same s8).mono (by omega), (k6.trans k7).trans (KeepD.of_same s8), s8 _ _ (k7 _ _ hw6 nwd)⟩⟩
      · obtain ⟨y4, y5, rfl, P5, k5, hw5⟩ := hW
        exact ⟨_, _, _, _, _, rfl, fun u o e => k5 u o e (fun z => by rw [z, nHd] at e; cases e)⟩
    · obtain ⟨y1, y2, y3, y4, y5, rfl, sm⟩ := hW
      refine ⟨"swap", 4, 3, rfl, .inl rfl, by decide, by decide, by decide, fun t H2 nt ht s2 => ?_⟩
      refine ⟨line_small (by show 2 ≤ 16777216; decide), fun t2 nt2 => ?_⟩
      have u2 := same_new (o := .tup [.int 3, .int 6]) nt2
      refine ⟨_, _, dp_two (u2 _ _ ht), dp_two upd_same, shaped_two _ _, shaped_two _ _, ?_⟩
      have e1 : leastB "swap" 4 3 = 3 := by decide +kernel
      have e2 : mostB "swap" 4 3 = 6 := by decide +kernel
      rw [e1, e2, eqv_two]
      refine ⟨true, rfl, iteT ?_⟩
      refine ⟨"shift", 1, 7, rfl, .inr (.inr rfl), by decide, by decide, by decide, fun t3 H3 nt3 ht3 s3 => ?_⟩
      refine ⟨line_small (by show 2 ≤ 16777216; decide), fun t4 nt4 => ?_⟩
      have u4 := same_new (o := .tup [.int 1, .int 1]) nt4
      refine ⟨_, _, dp_two (u4 _ _ ht3), dp_two upd_same, shaped_two _ _, shaped_two _ _, ?_⟩
      have e3 : leastB "shift" 1 7 = 1 := by decide +kernel
      have e4 : mostB "shift" 1 7 = 1 := by decide +kernel
      rw [e3, e4, eqv_two]
      exact q _
end
end Fo
--LAWCALL ok_law F_law T__law_pool T__law_take T__law_ways T__law_right T__law_distance T_bounds_by_rounds (ok_pool (k := 8) T__law_pool B) (ok_take (k := 8) T__law_take B) (ok_ways (k := 8) T__law_ways) (ok_right (k := 8) T__law_right T__law_many T__law_within T_bounds_by_rounds (ok_many (k := 7) T__law_many B) (ok_lw (k := 7) T__law_within T__law_by_swap T__law_by_spot T__law_by_shift (ok_bySw (k := 6) T__law_by_swap B) (ok_bySp (k := 5) T__law_by_spot T__law_many B) (ok_bySh (k := 6) T__law_by_shift B) B) (ok_bounds (k := 7) T_bounds_by_rounds T_check_apart T_count_orders T_known_within (ok_apart (k := 4) T_check_apart T_check_way T_check_size T_check_from T_is_whole m_WAYS B) (ok_fac (k := 6) T_count_orders B) (ok_kw (k := 4) T_known_within T_swap_counts T_spot_counts T_shift_within T_swap_counts_with_one_more T_count_all_moved T_things_near T_one_place_further B) B m_MOST_THINGS) B) (ok_dist (k := 8) T__law_distance T__law_take T__law_far (ok_take (k := 7) T__law_take B) (ok_farN (k := 7) T__law_far T__law_take (ok_take (k := 6) T__law_take B) B) B) (ok_bounds (k := 8) T_bounds_by_rounds T_check_apart T_count_orders T_known_within (ok_apart (k := 5) T_check_apart T_check_way T_check_size T_check_from T_is_whole m_WAYS B) (ok_fac (k := 7) T_count_orders B) (ok_kw (k := 5) T_known_within T_swap_counts T_spot_counts T_shift_within T_swap_counts_with_one_more T_count_all_moved T_things_near T_one_place_further B) B m_MOST_THINGS) B
namespace Fo
open PySem PySem.Spec PyProof.Rows L2
theorem all_mk {l : PySem.W.OpenLaw} {w : World} {K : PySem.W.Frag} {h : Heap} {mg : Str → Option Value} {fa : Addr} (X : K.In h) (G : h.Ns mainGlobals mg) (hfa : mg "law" = some (.ref fa))
    {f0 f1 f2 f3 f4 f5 f6 f7 f8 f9 f10 f11 f12 f13 f14 f15 f16 f17 f18 f19 f20 f21 f22 f23 f24 f25 f26 : Addr} {od0 an0 od1 an1 od2 an2 od3 an3 od4 an4 od5 an5 od6 an6 od7 an7 od8 an8 od9 an9 od10 an10 od11 an11 od12 an12 od13 an13 od14 an14 od15 an15 od16 an16 od17 an17 od18 an18 od19 an19 od20 an20 od21 an21 od22 an22 od23 an23 od24 an24 od25 an25 od26 an26 : Option Addr} {sl0 sl1 sl2 sl3 sl4 sl5 sl6 sl7 sl8 sl9 sl10 sl11 sl12 sl13 sl14 sl15 sl16 sl17 sl18 sl19 sl20 sl21 sl22 sl23 sl24 sl25 sl26 : Array (Option Value)} {oc0 kV0 dc0 pm0 cd0 ct0 oc1 kV1 dc1 pm1 cd1 ct1 oc2 kV2 dc2 pm2 cd2 ct2 oc3 kV3 dc3 pm3 cd3 ct3 oc4 kV4 dc4 pm4 cd4 ct4 oc5 kV5 dc5 pm5 cd5 ct5 oc6 kV6 dc6 pm6 cd6 ct6 oc7 kV7 dc7 pm7 cd7 ct7 oc8 kV8 dc8 pm8 cd8 ct8 oc9 kV9 dc9 pm9 cd9 ct9 oc10 kV10 dc10 pm10 cd10 ct10 oc11 kV11 dc11 pm11 cd11 ct11 oc12 kV12 dc12 pm12 cd12 ct12 oc13 kV13 dc13 pm13 cd13 ct13 oc14 kV14 dc14 pm14 cd14 ct14 oc15 kV15 dc15 pm15 cd15 ct15 oc16 kV16 dc16 pm16 cd16 ct16 oc17 kV17 dc17 pm17 cd17 ct17 oc18 kV18 dc18 pm18 cd18 ct18 oc19 kV19 dc19 pm19 cd19 ct19 oc20 kV20 dc20 pm20 cd20 ct20 oc21 kV21 dc21 pm21 cd21 ct21 oc22 kV22 dc22 pm22 cd22 ct22 oc23 kV23 dc23 pm23 cd23 ct23 oc24 kV24 dc24 pm24 cd24 ct24 oc25 kV25 dc25 pm25 cd25 ct25 oc26 kV26 dc26 pm26 cd26 ct26 : Value} {tk_MOST_THINGS : Tok} {aW : Addr} {ddW : Option Addr} {nW : Nat} {tW1 tW2 tW3 : Tok} {slW : Array (Option Value)}
    (a0 : PySem.W.nsIn K mainGlobals "is_whole" = some (some (.ref f0))) (l0 : K.lookup f0 = some ⟨oc0, od0, .func (PySem.W.fnOf "is_whole" "is_whole" (defArgs s_is_whole) (defBody s_is_whole) (defScope s_is_whole) .none kV0 dc0 pm0 an0 cd0 ct0), sl0⟩) (c0 : PySem.W.codeIn K cd0 "is_whole" = true) (k0 : PySem.W.keepIn K (.ref f0) = true)
    (a1 : PySem.W.nsIn K mainGlobals "check_way" = some (some (.ref f1))) (l1 : K.lookup f1 = some ⟨oc1, od1, .func (PySem.W.fnOf "check_way" "check_way" (defArgs s_check_way) (defBody s_check_way) (defScope s_check_way) .none kV1 dc1 pm1 an1 cd1 ct1), sl1⟩) (c1 : PySem.W.codeIn K cd1 "check_way" = true) (k1 : PySem.W.keepIn K (.ref f1) = true)
    (a2 : PySem.W.nsIn K mainGlobals "check_from" = some (some (.ref f2))) (l2 : K.lookup f2 = some ⟨oc2, od2, .func (PySem.W.fnOf "check_from" "check_from" (defArgs s_check_from) (defBody s_check_from) (defScope s_check_from) .none kV2 dc2 pm2 an2 cd2 ct2), sl2⟩) (c2 : PySem.W.codeIn K cd2 "check_from" = true) (k2 : PySem.W.keepIn K (.ref f2) = true)
    (a3 : PySem.W.nsIn K mainGlobals "check_size" = some (some (.ref f3))) (l3 : K.lookup f3 = some ⟨oc3, od3, .func (PySem.W.fnOf "check_size" "check_size" (defArgs s_check_size) (defBody s_check_size) (defScope s_check_size) .none kV3 dc3 pm3 an3 cd3 ct3), sl3⟩) (c3 : PySem.W.codeIn K cd3 "check_size" = true) (k3 : PySem.W.keepIn K (.ref f3) = true)
    (a4 : PySem.W.nsIn K mainGlobals "check_apart" = some (some (.ref f4))) (l4 : K.lookup f4 = some ⟨oc4, od4, .func (PySem.W.fnOf "check_apart" "check_apart" (defArgs s_check_apart) (defBody s_check_apart) (defScope s_check_apart) .none kV4 dc4 pm4 an4 cd4 ct4), sl4⟩) (c4 : PySem.W.codeIn K cd4 "check_apart" = true) (k4 : PySem.W.keepIn K (.ref f4) = true)
    (a5 : PySem.W.nsIn K mainGlobals "count_orders" = some (some (.ref f5))) (l5 : K.lookup f5 = some ⟨oc5, od5, .func (PySem.W.fnOf "count_orders" "count_orders" (defArgs s_count_orders) (defBody s_count_orders) (defScope s_count_orders) .none kV5 dc5 pm5 an5 cd5 ct5), sl5⟩) (c5 : PySem.W.codeIn K cd5 "count_orders" = true) (k5 : PySem.W.keepIn K (.ref f5) = true)
    (a6 : PySem.W.nsIn K mainGlobals "known_within" = some (some (.ref f6))) (l6 : K.lookup f6 = some ⟨oc6, od6, .func (PySem.W.fnOf "known_within" "known_within" (defArgs s_known_within) (defBody s_known_within) (defScope s_known_within) .none kV6 dc6 pm6 an6 cd6 ct6), sl6⟩) (c6 : PySem.W.codeIn K cd6 "known_within" = true) (k6 : PySem.W.keepIn K (.ref f6) = true)
    (a7 : PySem.W.nsIn K mainGlobals "swap_counts" = some (some (.ref f7))) (l7 : K.lookup f7 = some ⟨oc7, od7, .func (PySem.W.fnOf "swap_counts" "swap_counts" (defArgs s_swap_counts) (defBody s_swap_counts) (defScope s_swap_counts) .none kV7 dc7 pm7 an7 cd7 ct7), sl7⟩) (c7 : PySem.W.codeIn K cd7 "swap_counts" = true) (k7 : PySem.W.keepIn K (.ref f7) = true)
    (a8 : PySem.W.nsIn K mainGlobals "swap_counts_with_one_more" = some (some (.ref f8))) (l8 : K.lookup f8 = some ⟨oc8, od8, .func (PySem.W.fnOf "swap_counts_with_one_more" "swap_counts_with_one_more" (defArgs s_swap_counts_with_one_more) (defBody s_swap_counts_with_one_more) (defScope s_swap_counts_with_one_more) .none kV8 dc8 pm8 an8 cd8 ct8), sl8⟩) (c8 : PySem.W.codeIn K cd8 "swap_counts_with_one_more" = true) (k8 : PySem.W.keepIn K (.ref f8) = true)
    (a9 : PySem.W.nsIn K mainGlobals "spot_counts" = some (some (.ref f9))) (l9 : K.lookup f9 = some ⟨oc9, od9, .func (PySem.W.fnOf "spot_counts" "spot_counts" (defArgs s_spot_counts) (defBody s_spot_counts) (defScope s_spot_counts) .none kV9 dc9 pm9 an9 cd9 ct9), sl9⟩) (c9 : PySem.W.codeIn K cd9 "spot_counts" = true) (k9 : PySem.W.keepIn K (.ref f9) = true)
    (a10 : PySem.W.nsIn K mainGlobals "count_all_moved" = some (some (.ref f10))) (l10 : K.lookup f10 = some ⟨oc10, od10, .func (PySem.W.fnOf "count_all_moved" "count_all_moved" (defArgs s_count_all_moved) (defBody s_count_all_moved) (defScope s_count_all_moved) .none kV10 dc10 pm10 an10 cd10 ct10), sl10⟩) (c10 : PySem.W.codeIn K cd10 "count_all_moved" = true) (k10 : PySem.W.keepIn K (.ref f10) = true)
    (a11 : PySem.W.nsIn K mainGlobals "shift_within" = some (some (.ref f11))) (l11 : K.lookup f11 = some ⟨oc11, od11, .func (PySem.W.fnOf "shift_within" "shift_within" (defArgs s_shift_within) (defBody s_shift_within) (defScope s_shift_within) .none kV11 dc11 pm11 an11 cd11 ct11), sl11⟩) (c11 : PySem.W.codeIn K cd11 "shift_within" = true) (k11 : PySem.W.keepIn K (.ref f11) = true)
    (a12 : PySem.W.nsIn K mainGlobals "things_near" = some (some (.ref f12))) (l12 : K.lookup f12 = some ⟨oc12, od12, .func (PySem.W.fnOf "things_near" "things_near" (defArgs s_things_near) (defBody s_things_near) (defScope s_things_near) .none kV12 dc12 pm12 an12 cd12 ct12), sl12⟩) (c12 : PySem.W.codeIn K cd12 "things_near" = true) (k12 : PySem.W.keepIn K (.ref f12) = true)
    (a13 : PySem.W.nsIn K mainGlobals "one_place_further" = some (some (.ref f13))) (l13 : K.lookup f13 = some ⟨oc13, od13, .func (PySem.W.fnOf "one_place_further" "one_place_further" (defArgs s_one_place_further) (defBody s_one_place_further) (defScope s_one_place_further) .none kV13 dc13 pm13 an13 cd13 ct13), sl13⟩) (c13 : PySem.W.codeIn K cd13 "one_place_further" = true) (k13 : PySem.W.keepIn K (.ref f13) = true)
    (a14 : PySem.W.nsIn K mainGlobals "bounds_by_rounds" = some (some (.ref f14))) (l14 : K.lookup f14 = some ⟨oc14, od14, .func (PySem.W.fnOf "bounds_by_rounds" "bounds_by_rounds" (defArgs s_bounds_by_rounds) (defBody s_bounds_by_rounds) (defScope s_bounds_by_rounds) .none kV14 dc14 pm14 an14 cd14 ct14), sl14⟩) (c14 : PySem.W.codeIn K cd14 "bounds_by_rounds" = true) (k14 : PySem.W.keepIn K (.ref f14) = true)
    (a15 : PySem.W.nsIn K mainGlobals "_law_pool" = some (some (.ref f15))) (l15 : K.lookup f15 = some ⟨oc15, od15, .func (PySem.W.fnOf "_law_pool" "_law_pool" (defArgs s_law_pool) (defBody s_law_pool) (defScope s_law_pool) .none kV15 dc15 pm15 an15 cd15 ct15), sl15⟩) (c15 : PySem.W.codeIn K cd15 "_law_pool" = true) (k15 : PySem.W.keepIn K (.ref f15) = true)
    (a16 : PySem.W.nsIn K mainGlobals "_law_take" = some (some (.ref f16))) (l16 : K.lookup f16 = some ⟨oc16, od16, .func (PySem.W.fnOf "_law_take" "_law_take" (defArgs s_law_take) (defBody s_law_take) (defScope s_law_take) .none kV16 dc16 pm16 an16 cd16 ct16), sl16⟩) (c16 : PySem.W.codeIn K cd16 "_law_take" = true) (k16 : PySem.W.keepIn K (.ref f16) = true)
    (a17 : PySem.W.nsIn K mainGlobals "_law_far" = some (some (.ref f17))) (l17 : K.lookup f17 = some ⟨oc17, od17, .func (PySem.W.fnOf "_law_far" "_law_far" (defArgs s_law_far) (defBody s_law_far) (defScope s_law_far) .none kV17 dc17 pm17 an17 cd17 ct17), sl17⟩) (c17 : PySem.W.codeIn K cd17 "_law_far" = true) (k17 : PySem.W.keepIn K (.ref f17) = true)
    (a18 : PySem.W.nsIn K mainGlobals "_law_many" = some (some (.ref f18))) (l18 : K.lookup f18 = some ⟨oc18, od18, .func (PySem.W.fnOf "_law_many" "_law_many" (defArgs s_law_many) (defBody s_law_many) (defScope s_law_many) .none kV18 dc18 pm18 an18 cd18 ct18), sl18⟩) (c18 : PySem.W.codeIn K cd18 "_law_many" = true) (k18 : PySem.W.keepIn K (.ref f18) = true)
    (a19 : PySem.W.nsIn K mainGlobals "_law_ways" = some (some (.ref f19))) (l19 : K.lookup f19 = some ⟨oc19, od19, .func (PySem.W.fnOf "_law_ways" "_law_ways" (defArgs s_law_ways) (defBody s_law_ways) (defScope s_law_ways) .none kV19 dc19 pm19 an19 cd19 ct19), sl19⟩) (c19 : PySem.W.codeIn K cd19 "_law_ways" = true) (k19 : PySem.W.keepIn K (.ref f19) = true)
    (a20 : PySem.W.nsIn K mainGlobals "_law_by_swap" = some (some (.ref f20))) (l20 : K.lookup f20 = some ⟨oc20, od20, .func (PySem.W.fnOf "_law_by_swap" "_law_by_swap" (defArgs s_law_by_swap) (defBody s_law_by_swap) (defScope s_law_by_swap) .none kV20 dc20 pm20 an20 cd20 ct20), sl20⟩) (c20 : PySem.W.codeIn K cd20 "_law_by_swap" = true) (k20 : PySem.W.keepIn K (.ref f20) = true)
    (a21 : PySem.W.nsIn K mainGlobals "_law_by_spot" = some (some (.ref f21))) (l21 : K.lookup f21 = some ⟨oc21, od21, .func (PySem.W.fnOf "_law_by_spot" "_law_by_spot" (defArgs s_law_by_spot) (defBody s_law_by_spot) (defScope s_law_by_spot) .none kV21 dc21 pm21 an21 cd21 ct21), sl21⟩) (c21 : PySem.W.codeIn K cd21 "_law_by_spot" = true) (k21 : PySem.W.keepIn K (.ref f21) = true)
    (a22 : PySem.W.nsIn K mainGlobals "_law_by_shift" = some (some (.ref f22))) (l22 : K.lookup f22 = some ⟨oc22, od22, .func (PySem.W.fnOf "_law_by_shift" "_law_by_shift" (defArgs s_law_by_shift) (defBody s_law_by_shift) (defScope s_law_by_shift) .none kV22 dc22 pm22 an22 cd22 ct22), sl22⟩) (c22 : PySem.W.codeIn K cd22 "_law_by_shift" = true) (k22 : PySem.W.keepIn K (.ref f22) = true)
    (a23 : PySem.W.nsIn K mainGlobals "_law_within" = some (some (.ref f23))) (l23 : K.lookup f23 = some ⟨oc23, od23, .func (PySem.W.fnOf "_law_within" "_law_within" (defArgs s_law_within) (defBody s_law_within) (defScope s_law_within) .none kV23 dc23 pm23 an23 cd23 ct23), sl23⟩) (c23 : PySem.W.codeIn K cd23 "_law_within" = true) (k23 : PySem.W.keepIn K (.ref f23) = true)
    (a24 : PySem.W.nsIn K mainGlobals "_law_distance" = some (some (.ref f24))) (l24 : K.lookup f24 = some ⟨oc24, od24, .func (PySem.W.fnOf "_law_distance" "_law_distance" (defArgs s_law_distance) (defBody s_law_distance) (defScope s_law_distance) .none kV24 dc24 pm24 an24 cd24 ct24), sl24⟩) (c24 : PySem.W.codeIn K cd24 "_law_distance" = true) (k24 : PySem.W.keepIn K (.ref f24) = true)
    (a25 : PySem.W.nsIn K mainGlobals "_law_right" = some (some (.ref f25))) (l25 : K.lookup f25 = some ⟨oc25, od25, .func (PySem.W.fnOf "_law_right" "_law_right" (defArgs s_law_right) (defBody s_law_right) (defScope s_law_right) .none kV25 dc25 pm25 an25 cd25 ct25), sl25⟩) (c25 : PySem.W.codeIn K cd25 "_law_right" = true) (k25 : PySem.W.keepIn K (.ref f25) = true)
    (a26 : PySem.W.nsIn K mainGlobals "law" = some (some (.ref f26))) (l26 : K.lookup f26 = some ⟨oc26, od26, .func (PySem.W.fnOf "law" "law" (defArgs s_law) (defBody s_law) (defScope s_law) .none kV26 dc26 pm26 an26 cd26 ct26), sl26⟩) (c26 : PySem.W.codeIn K cd26 "law" = true) (k26 : PySem.W.keepIn K (.ref f26) = true)
    (g_MOST_THINGS : PySem.W.nsIn K mainGlobals "MOST_THINGS" = some (some (.int 12 tk_MOST_THINGS)))
    (g_WAYS : PySem.W.nsIn K mainGlobals "WAYS" = some (some (.ref aW))) (l_WAYS : K.lookup aW = some ⟨.type "tuple", ddW, .seq #[.str "swap" tW1, .str "spot" tW2, .str "shift" tW3] nW, slW⟩)
    (z_bool : PySem.W.nsIn K mainGlobals "bool" = some none)
    (z_enumerate : PySem.W.nsIn K mainGlobals "enumerate" = some none)
    (z_int : PySem.W.nsIn K mainGlobals "int" = some none)
    (z_isinstance : PySem.W.nsIn K mainGlobals "isinstance" = some none)
    (z_len : PySem.W.nsIn K mainGlobals "len" = some none)
    (z_list : PySem.W.nsIn K mainGlobals "list" = some none)
    (z_max : PySem.W.nsIn K mainGlobals "max" = some none)
    (z_min : PySem.W.nsIn K mainGlobals "min" = some none)
    (z_range : PySem.W.nsIn K mainGlobals "range" = some none)
    (z_str : PySem.W.nsIn K mainGlobals "str" = some none)
    (z_sum : PySem.W.nsIn K mainGlobals "sum" = some none)
    (z_tuple : PySem.W.nsIn K mainGlobals "tuple" = some none)
    : ∃ fd : FuncData, (∀ (s : Shared) (v : Value), BindsTo s fd ⟨[v], []⟩ [("script", v)]) ∧ ∀ base : Heap, K.In base → base.Ns mainGlobals mg → FnOk l.prog w K mg base CX0 10 fa fd ["script"] (spLaw K) := by
  have e := hfa.symm.trans (PySem.W.mg_of X G a26)
  cases e
  have F0 := fun_mk (st := s_is_whole) l0 c0 k0
  have F1 := fun_mk (st := s_check_way) l1 c1 k1
  have F2 := fun_mk (st := s_check_from) l2 c2 k2
  have F3 := fun_mk (st := s_check_size) l3 c3 k3
  have F4 := fun_mk (st := s_check_apart) l4 c4 k4
  have F5 := fun_mk (st := s_count_orders) l5 c5 k5
  have F6 := fun_mk (st := s_known_within) l6 c6 k6
  have F7 := fun_mk (st := s_swap_counts) l7 c7 k7
  have F8 := fun_mk (st := s_swap_counts_with_one_more) l8 c8 k8
  have F9 := fun_mk (st := s_spot_counts) l9 c9 k9
  have F10 := fun_mk (st := s_count_all_moved) l10 c10 k10
  have F11 := fun_mk (st := s_shift_within) l11 c11 k11
  have F12 := fun_mk (st := s_things_near) l12 c12 k12
  have F13 := fun_mk (st := s_one_place_further) l13 c13 k13
  have F14 := fun_mk (st := s_bounds_by_rounds) l14 c14 k14
  have F15 := fun_mk (st := s_law_pool) l15 c15 k15
  have F16 := fun_mk (st := s_law_take) l16 c16 k16
  have F17 := fun_mk (st := s_law_far) l17 c17 k17
  have F18 := fun_mk (st := s_law_many) l18 c18 k18
  have F19 := fun_mk (st := s_law_ways) l19 c19 k19
  have F20 := fun_mk (st := s_law_by_swap) l20 c20 k20
  have F21 := fun_mk (st := s_law_by_spot) l21 c21 k21
  have F22 := fun_mk (st := s_law_by_shift) l22 c22 k22
  have F23 := fun_mk (st := s_law_within) l23 c23 k23
  have F24 := fun_mk (st := s_law_distance) l24 c24 k24
  have F25 := fun_mk (st := s_law_right) l25 c25 k25
  have F26 := fun_mk (st := s_law) l26 c26 k26
  have T_is_whole : Df K mg "is_whole" s_is_whole ["thing"] f0 _ := ⟨F0, F0.binds (ps := ["thing"]) (fun _ _ _ _ _ _ us hl => match us, hl with | [_], _ => rfl), PySem.W.mg_of X G a0⟩
  have T_check_way : Df K mg "check_way" s_check_way ["thing"] f1 _ := ⟨F1, F1.binds (ps := ["thing"]) (fun _ _ _ _ _ _ us hl => match us, hl with | [_], _ => rfl), PySem.W.mg_of X G a1⟩
  have T_check_from : Df K mg "check_from" s_check_from ["thing", "least"] f2 _ := ⟨F2, F2.binds (ps := ["thing", "least"]) (fun _ _ _ _ _ _ us hl => match us, hl with | [_, _], _ => rfl), PySem.W.mg_of X G a2⟩
  have T_check_size : Df K mg "check_size" s_check_size ["thing", "most"] f3 _ := ⟨F3, F3.binds (ps := ["thing", "most"]) (fun _ _ _ _ _ _ us hl => match us, hl with | [_, _], _ => rfl), PySem.W.mg_of X G a3⟩
  have T_check_apart : Df K mg "check_apart" s_check_apart ["way", "n", "most", "d"] f4 _ := ⟨F4, F4.binds (ps := ["way", "n", "most", "d"]) (fun _ _ _ _ _ _ us hl => match us, hl with | [_, _, _, _], _ => rfl), PySem.W.mg_of X G a4⟩
  have T_count_orders : Df K mg "count_orders" s_count_orders ["n"] f5 _ := ⟨F5, F5.binds (ps := ["n"]) (fun _ _ _ _ _ _ us hl => match us, hl with | [_], _ => rfl), PySem.W.mg_of X G a5⟩
  have T_known_within : Df K mg "known_within" s_known_within ["way", "n", "r"] f6 _ := ⟨F6, F6.binds (ps := ["way", "n", "r"]) (fun _ _ _ _ _ _ us hl => match us, hl with | [_, _, _], _ => rfl), PySem.W.mg_of X G a6⟩
  have T_swap_counts : Df K mg "swap_counts" s_swap_counts ["n"] f7 _ := ⟨F7, F7.binds (ps := ["n"]) (fun _ _ _ _ _ _ us hl => match us, hl with | [_], _ => rfl), PySem.W.mg_of X G a7⟩
  have T_swap_counts_with_one_more : Df K mg "swap_counts_with_one_more" s_swap_counts_with_one_more ["counts", "behind"] f8 _ := ⟨F8, F8.binds (ps := ["counts", "behind"]) (fun _ _ _ _ _ _ us hl => match us, hl with | [_, _], _ => rfl), PySem.W.mg_of X G a8⟩
  have T_spot_counts : Df K mg "spot_counts" s_spot_counts ["n"] f9 _ := ⟨F9, F9.binds (ps := ["n"]) (fun _ _ _ _ _ _ us hl => match us, hl with | [_], _ => rfl), PySem.W.mg_of X G a9⟩
  have T_count_all_moved : Df K mg "count_all_moved" s_count_all_moved ["n"] f10 _ := ⟨F10, F10.binds (ps := ["n"]) (fun _ _ _ _ _ _ us hl => match us, hl with | [_], _ => rfl), PySem.W.mg_of X G a10⟩
  have T_shift_within : Df K mg "shift_within" s_shift_within ["n", "r"] f11 _ := ⟨F11, F11.binds (ps := ["n", "r"]) (fun _ _ _ _ _ _ us hl => match us, hl with | [_, _], _ => rfl), PySem.W.mg_of X G a11⟩
  have T_things_near : Df K mg "things_near" s_things_near ["place", "n", "r"] f12 _ := ⟨F12, F12.binds (ps := ["place", "n", "r"]) (fun _ _ _ _ _ _ us hl => match us, hl with | [_, _, _], _ => rfl), PySem.W.mg_of X G a12⟩
  have T_one_place_further : Df K mg "one_place_further" s_one_place_further ["beginnings", "near"] f13 _ := ⟨F13, F13.binds (ps := ["beginnings", "near"]) (fun _ _ _ _ _ _ us hl => match us, hl with | [_, _], _ => rfl), PySem.W.mg_of X G a13⟩
  have T_bounds_by_rounds : Df K mg "bounds_by_rounds" s_bounds_by_rounds ["way", "n", "d"] f14 _ := ⟨F14, F14.binds (ps := ["way", "n", "d"]) (fun _ _ _ _ _ _ us hl => match us, hl with | [_, _, _], _ => rfl), PySem.W.mg_of X G a14⟩
  have T__law_pool : Df K mg "_law_pool" s_law_pool ["script", "k"] f15 _ := ⟨F15, F15.binds (ps := ["script", "k"]) (fun _ _ _ _ _ _ us hl => match us, hl with | [_, _], _ => rfl), PySem.W.mg_of X G a15⟩
  have T__law_take : Df K mg "_law_take" s_law_take ["pool", "many"] f16 _ := ⟨F16, F16.binds (ps := ["pool", "many"]) (fun _ _ _ _ _ _ us hl => match us, hl with | [_, _], _ => rfl), PySem.W.mg_of X G a16⟩
  have T__law_far : Df K mg "_law_far" s_law_far ["pool"] f17 _ := ⟨F17, F17.binds (ps := ["pool"]) (fun _ _ _ _ _ _ us hl => match us, hl with | [_], _ => rfl), PySem.W.mg_of X G a17⟩
  have T__law_many : Df K mg "_law_many" s_law_many ["n"] f18 _ := ⟨F18, F18.binds (ps := ["n"]) (fun _ _ _ _ _ _ us hl => match us, hl with | [_], _ => rfl), PySem.W.mg_of X G a18⟩
  have T__law_ways : Df K mg "_law_ways" s_law_ways [] f19 _ := ⟨F19, F19.binds (ps := []) (fun _ _ _ _ _ _ us hl => match us, hl with | [], _ => rfl), PySem.W.mg_of X G a19⟩
  have T__law_by_swap : Df K mg "_law_by_swap" s_law_by_swap ["n"] f20 _ := ⟨F20, F20.binds (ps := ["n"]) (fun _ _ _ _ _ _ us hl => match us, hl with | [_], _ => rfl), PySem.W.mg_of X G a20⟩
  have T__law_by_spot : Df K mg "_law_by_spot" s_law_by_spot ["n"] f21 _ := ⟨F21, F21.binds (ps := ["n"]) (fun _ _ _ _ _ _ us hl => match us, hl with | [_], _ => rfl), PySem.W.mg_of X G a21⟩
  have T__law_by_shift : Df K mg "_law_by_shift" s_law_by_shift ["n", "r"] f22 _ := ⟨F22, F22.binds (ps := ["n", "r"]) (fun _ _ _ _ _ _ us hl => match us, hl with | [_, _], _ => rfl), PySem.W.mg_of X G a22⟩
  have T__law_within : Df K mg "_law_within" s_law_within ["way", "n", "r"] f23 _ := ⟨F23, F23.binds (ps := ["way", "n", "r"]) (fun _ _ _ _ _ _ us hl => match us, hl with | [_, _, _], _ => rfl), PySem.W.mg_of X G a23⟩
  have T__law_distance : Df K mg "_law_distance" s_law_distance ["pool", "way", "n"] f24 _ := ⟨F24, F24.binds (ps := ["pool", "way", "n"]) (fun _ _ _ _ _ _ us hl => match us, hl with | [_, _, _], _ => rfl), PySem.W.mg_of X G a24⟩
  have T__law_right : Df K mg "_law_right" s_law_right ["way", "n", "d"] f25 _ := ⟨F25, F25.binds (ps := ["way", "n", "d"]) (fun _ _ _ _ _ _ us hl => match us, hl with | [_, _, _], _ => rfl), PySem.W.mg_of X G a25⟩
  have B : Bi mg := ⟨PySem.W.mg_none_of X G z_bool, PySem.W.mg_none_of X G z_enumerate, PySem.W.mg_none_of X G z_int, PySem.W.mg_none_of X G z_isinstance, PySem.W.mg_none_of X G z_len, PySem.W.mg_none_of X G z_list, PySem.W.mg_none_of X G z_max, PySem.W.mg_none_of X G z_min, PySem.W.mg_none_of X G z_range, PySem.W.mg_none_of X G z_str, PySem.W.mg_none_of X G z_sum, PySem.W.mg_none_of X G z_tuple⟩
  have m_WAYS := wy_mk (PySem.W.mg_of X G g_WAYS) l_WAYS
  have m_MOST_THINGS := PySem.W.mg_of X G g_MOST_THINGS
  exact ⟨PySem.W.fnOf "law" "law" (defArgs s_law) (defBody s_law) (defScope s_law) .none kV26 dc26 pm26 an26 cd26 ct26, fun s v => .of_eq rfl, fun base _ _ => ok_law F26 T__law_pool T__law_take T__law_ways T__law_right T__law_distance T_bounds_by_rounds (ok_pool (k := 8) T__law_pool B) (ok_take (k := 8) T__law_take B) (ok_ways (k := 8) T__law_ways) (ok_right (k := 8) T__law_right T__law_many T__law_within T_bounds_by_rounds (ok_many (k := 7) T__law_many B) (ok_lw (k := 7) T__law_within T__law_by_swap T__law_by_spot T__law_by_shift (ok_bySw (k := 6) T__law_by_swap B) (ok_bySp (k := 5) T__law_by_spot T__law_many B) (ok_bySh (k := 6) T__law_by_shift B) B) (ok_bounds (k := 7) T_bounds_by_rounds T_check_apart T_count_orders T_known_within (ok_apart (k := 4) T_check_apart T_check_way T_check_size T_check_from T_is_whole m_WAYS B) (ok_fac (k := 6) T_count_orders B) (ok_kw (k := 4) T_known_within T_swap_counts T_spot_counts T_shift_within T_swap_counts_with_one_more T_count_all_moved T_things_near T_one_place_further B) B m_MOST_THINGS) B) (ok_dist (k := 8) T__law_distance T__law_take T__law_far (ok_take (k := 7) T__law_take B) (ok_farN (k := 7) T__law_far T__law_take (ok_take (k := 6) T__law_take B) B) B) (ok_bounds (k := 8) T_bounds_by_rounds T_check_apart T_count_orders T_known_within (ok_apart (k := 5) T_check_apart T_check_way T_check_size T_check_from T_is_whole m_WAYS B) (ok_fac (k := 7) T_count_orders B) (ok_kw (k := 5) T_known_within T_swap_counts T_spot_counts T_shift_within T_swap_counts_with_one_more T_count_all_moved T_things_near T_one_place_further B) B m_MOST_THINGS) B⟩
end Fo
open PySem PySem.W PyProof.Rows
set_option maxRecDepth 100000 in
set_option maxHeartbeats 0 in
theorem PySem.Challenge.cw_farorders_k58_bounds_by_rounds_holds : PySem.Challenge.rw_farorders_k58_bounds_by_rounds.Holds := by
  w_on; o_law; k_head; (case hw => w_witness2)
  k_fill
  refine L2.walk_of (l := PySem.Challenge.rw_farorders_k58_bounds_by_rounds) (n := 63) (k := 10) (x := "script") (CX := fun _ => L2.CX0) (sp := fun w => Fo.spLaw _) rfl (by decide) rfl ⟨rfl, by decide, by decide⟩ (fun w h Y => PySem.W.kIn_of Y) ?F (fun _ _ a ns hl _ hS => ⟨a, ns, rfl, hS, hl, fun _ => rfl⟩) (fun _ _ _ _ _ h => h)
  case F =>
    intro w mg fa h KX G hmg
    refine' Fo.all_mk KX G hmg ?a0 ?l0 ?c0 ?k0 ?a1 ?l1 ?c1 ?k1 ?a2 ?l2 ?c2 ?k2 ?a3 ?l3 ?c3 ?k3 ?a4 ?l4 ?c4 ?k4 ?a5 ?l5 ?c5 ?k5 ?a6 ?l6 ?c6 ?k6 ?a7 ?l7 ?c7 ?k7 ?a8 ?l8 ?c8 ?k8 ?a9 ?l9 ?c9 ?k9 ?a10 ?l10 ?c10 ?k10 ?a11 ?l11 ?c11 ?k11 ?a12 ?l12 ?c12 ?k12 ?a13 ?l13 ?c13 ?k13 ?a14 ?l14 ?c14 ?k14 ?a15 ?l15 ?c15 ?k15 ?a16 ?l16 ?c16 ?k16 ?a17 ?l17 ?c17 ?k17 ?a18 ?l18 ?c18 ?k18 ?a19 ?l19 ?c19 ?k19 ?a20 ?l20 ?c20 ?k20 ?a21 ?l21 ?c21 ?k21 ?a22 ?l22 ?c22 ?k22 ?a23 ?l23 ?c23 ?k23 ?a24 ?l24 ?c24 ?k24 ?a25 ?l25 ?c25 ?k25 ?a26 ?l26 ?c26 ?k26 ?g_MOST_THINGS ?g_WAYS ?l_WAYS ?z_bool ?z_enumerate ?z_int ?z_isinstance ?z_len ?z_list ?z_max ?z_min ?z_range ?z_str ?z_sum ?z_tuple
    (case a0 => k_is); (case l0 => k_is); (case c0 => k_is); (case k0 => k_is); (case a1 => k_is); (case l1 => k_is); (case c1 => k_is); (case k1 => k_is); (case a2 => k_is); (case l2 => k_is); (case c2 => k_is); (case k2 => k_is); (case a3 => k_is); (case l3 => k_is); (case c3 => k_is); (case k3 => k_is); (case a4 => k_is); (case l4 => k_is); (case c4 => k_is); (case k4 => k_is); (case a5 => k_is); (case l5 => k_is); (case c5 => k_is); (case k5 => k_is); (case a6 => k_is); (case l6 => k_is); (case c6 => k_is); (case k6 => k_is); (case a7 => k_is); (case l7 => k_is); (case c7 => k_is); (case k7 => k_is); (case a8 => k_is); (case l8 => k_is); (case c8 => k_is); (case k8 => k_is); (case a9 => k_is); (case l9 => k_is); (case c9 => k_is); (case k9 => k_is); (case a10 => k_is); (case l10 => k_is); (case c10 => k_is); (case k10 => k_is); (case a11 => k_is); (case l11 => k_is); (case c11 => k_is); (case k11 => k_is); (case a12 => k_is); (case l12 => k_is); (case c12 => k_is); (case k12 => k_is); (case a13 => k_is); (case l13 => k_is); (case c13 => k_is); (case k13 => k_is); (case a14 => k_is); (case l14 => k_is); (case c14 => k_is); (case k14 => k_is); (case a15 => k_is); (case l15 => k_is); (case c15 => k_is); (case k15 => k_is); (case a16 => k_is); (case l16 => k_is); (case c16 => k_is); (case k16 => k_is); (case a17 => k_is); (case l17 => k_is); (case c17 => k_is); (case k17 => k_is); (case a18 => k_is); (case l18 => k_is); (case c18 => k_is); (case k18 => k_is); (case a19 => k_is); (case l19 => k_is); (case c19 => k_is); (case k19 => k_is); (case a20 => k_is); (case l20 => k_is); (case c20 => k_is); (case k20 => k_is); (case a21 => k_is); (case l21 => k_is); (case c21 => k_is); (case k21 => k_is); (case a22 => k_is); (case l22 => k_is); (case c22 => k_is); (case k22 => k_is); (case a23 => k_is); (case l23 => k_is); (case c23 => k_is); (case k23 => k_is); (case a24 => k_is); (case l24 => k_is); (case c24 => k_is); (case k24 => k_is); (case a25 => k_is); (case l25 => k_is); (case c25 => k_is); (case k25 => k_is); (case a26 => k_is); (case l26 => k_is); (case c26 => k_is); (case k26 => k_is); (case g_MOST_THINGS => k_is); (case g_WAYS => k_is); (case l_WAYS => k_is); (case z_bool => k_is); (case z_enumerate => k_is); (case z_int => k_is); (case z_isinstance => k_is); (case z_len => k_is); (case z_list => k_is); (case z_max => k_is); (case z_min => k_is); (case z_range => k_is); (case z_str => k_is); (case z_sum => k_is); (case z_tuple => k_is)

