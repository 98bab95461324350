import PyProof.Rows.All
import Wide.All
import OpenK.AllK
import Wide.FinOn
import HandS.ForMost
import HandS.IsInst
import HandS.Conv
import HandS.Style
import HandS.More
import HandS.Evl
import HandS.Zip
import HandS.SetFor
import HandS.Sort
import HandS.Wide
import HandS.Deep
import KE.SortData
import HandS.DictComp
import HandS.DictTup
import HandS.TupLen
import KE.KDictKeyed
import KE.KDictWalk
import HandS.Walk
import PySem.Challenge.RW_farorders_k66_pairs_ahead
set_option Elab.async false
set_option linter.all false
set_option maxRecDepth 100000
namespace Fo
open PySem PySem.Spec PyProof.Rows L2
/-! ### lists and orders -/
def rg (n : Nat) : List Int := (List.range n).map fun k => ((k : Nat) : Int)
def IsOrd (n : Nat) (ns : List Int) : Prop := ns.Perm (rg n)
theorem rg_len (n : Nat) : (rg n).length = n := by
  unfold rg
  rw [List.length_map, List.length_range]
theorem rg_mem {n : Nat} {x : Int} : x ∈ rg n ↔ 0 ≤ x ∧ x < n := by
  unfold rg
  rw [List.mem_map]
  constructor
  · rintro ⟨k, hk, rfl⟩
    have := List.mem_range.mp hk
    omega
  · rintro ⟨h0, h1⟩
    exact ⟨x.toNat, List.mem_range.mpr (by omega), by omega⟩
theorem rg_nodup (n : Nat) : (rg n).Nodup := by
  unfold rg
  exact List.Pairwise.map _ (fun a b h e => h (by omega)) List.nodup_range
theorem rg_sorted (n : Nat) : (rg n).Pairwise (· ≤ ·) := by
  unfold rg
  exact List.Pairwise.map _ (fun a b h => by omega) List.pairwise_lt_range
theorem rg_V (n : Nat) : rgV 0 (n : Int) = (rg n).map V.int := by
  unfold rgV rg
  rw [List.map_map, show ((n : Int) - 0).toNat = n by omega]
  apply List.map_congr_left
  intro a _
  show V.int (0 + (a : Int)) = V.int (a : Int)
  rw [Int.zero_add]
theorem IsOrd.len {n : Nat} {ns : List Int} (h : IsOrd n ns) : ns.length = n := (List.Perm.length_eq h).trans (rg_len n)
theorem IsOrd.mem {n : Nat} {ns : List Int} (h : IsOrd n ns) {x : Int} (m : x ∈ ns) : 0 ≤ x ∧ x < n := rg_mem.mp ((List.Perm.mem_iff h).mp m)
theorem IsOrd.nodup {n : Nat} {ns : List Int} (h : IsOrd n ns) : ns.Nodup := (List.Perm.nodup_iff h).mpr (rg_nodup n)
/-- two sorted lists of the same things are one -/
theorem sorted_eq : ∀ {a b : List Int}, a.Perm b → a.Pairwise (· ≤ ·) → b.Pairwise (· ≤ ·) → a = b := by
  intro a b hp ha hb
  exact List.Perm.eq_of_pairwise (fun x y _ _ h1 h2 => by omega) ha hb hp
/-- the things at p and p + 1 change places -/
def sw (xs : List Int) (p : Nat) : List Int := (xs.set p (xs.getD (p + 1) 0)).set (p + 1) (xs.getD p 0)
theorem split2 : ∀ {xs : List Int} {p : Nat}, p + 1 < xs.length → ∃ A a b B, xs = A ++ a :: b :: B ∧ A.length = p
  | [], p, h => by simp at h
  | [_], p, h => by simp at h
  | a :: b :: r, 0, _ => ⟨[], a, b, r, rfl, rfl⟩
  | a :: b :: r, p + 1, h => by
    obtain ⟨A, x, y, B, e, l⟩ := split2 (xs := b :: r) (p := p) (by simpa using h)
    exact ⟨a :: A, x, y, B, by rw [e]; rfl, by rw [List.length_cons, l]⟩
theorem sw_at : ∀ (A : List Int) (a b : Int) (B : List Int), sw (A ++ a :: b :: B) A.length = A ++ b :: a :: B
  | [], a, b, B => rfl
  | x :: A, a, b, B => by
    have ih := sw_at A a b B
    unfold sw at ih ⊢
    show x :: _ = x :: _
    exact congrArg (x :: ·) ih
theorem sw_perm {xs : List Int} {p : Nat} (h : p + 1 < xs.length) : (sw xs p).Perm xs := by
  obtain ⟨A, a, b, B, rfl, rfl⟩ := split2 h
  rw [sw_at]
  exact List.Perm.append_left A (List.Perm.swap a b B)
theorem sw_len (xs : List Int) (p : Nat) : (sw xs p).length = xs.length := by
  unfold sw
  rw [List.length_set, List.length_set]
theorem sw_ord {n : Nat} {xs : List Int} {p : Nat} (o : IsOrd n xs) (h : p + 1 < n) : IsOrd n (sw xs p) :=
  (sw_perm (by rw [o.len]; exact h)).trans o
theorem sw_V {xs : List Int} {p : Nat} {a b : Int} (ha : xs[p]? = some a) (hb : xs[p + 1]? = some b) : ((xs.map V.int).set p (V.int b)).set (p + 1) (V.int a) = (sw xs p).map V.int := by
  unfold sw
  rw [List.getD_eq_getElem?_getD, List.getD_eq_getElem?_getD, ha, hb, List.map_set, List.map_set]
  rfl
theorem pop_ins {xs : List Int} {p : Nat} {a : Int} (h : p + 1 < xs.length) (ha : xs[p]? = some a) : (xs.eraseIdx p).take (p + 1) ++ [a] ++ (xs.eraseIdx p).drop (p + 1) = sw xs p := by
  obtain ⟨A, x, y, B, rfl, rfl⟩ := split2 h
  have ex : x = a := by
    rw [List.getElem?_append_right (Nat.le_refl _), Nat.sub_self] at ha
    exact Option.some.inj ha
  subst ex
  rw [sw_at, List.eraseIdx_append_of_length_le (Nat.le_refl _), Nat.sub_self]
  show (A ++ y :: B).take (A.length + 1) ++ [x] ++ (A ++ y :: B).drop (A.length + 1) = _
  rw [List.take_append, List.drop_append]
  have t : A.length + 1 - A.length = 1 := by omega
  rw [t, List.take_of_length_le (by omega), List.drop_of_length_le (by omega)]
  simp
/-- the order at a walk's end -/
def wEnd (xs : List Int) (ws : List Int) : List Int := ws.foldl (fun x p => sw x p.toNat) xs
theorem wEnd_more {xs ws : List Int} {i : Nat} {p : Int} (h : ws[i]? = some p) : wEnd xs (ws.take (i + 1)) = sw (wEnd xs (ws.take i)) p.toNat := by
  unfold wEnd
  rw [List.take_add_one, h, List.foldl_append]
  rfl
theorem wEnd_ord {n : Nat} {xs : List Int} (o : IsOrd n xs) : ∀ {ws : List Int}, (∀ p ∈ ws, 0 ≤ p ∧ p + 1 < n) → IsOrd n (wEnd xs ws) := by
  intro ws
  induction ws generalizing xs with
  | nil => intro _; exact o
  | cons p ws ih =>
    intro h
    have hp := h p List.mem_cons_self
    exact ih (sw_ord o (by omega)) fun q hq => h q (List.mem_cons_of_mem _ hq)
theorem nodup_len : ∀ {l m : List Int}, l.Nodup → (∀ x ∈ l, x ∈ m) → l.length ≤ m.length
  | [], m, _, _ => Nat.zero_le _
  | a :: l, m, hn, hs => by
    obtain ⟨h1, h2⟩ := List.nodup_cons.mp hn
    have ha := hs a List.mem_cons_self
    have ih := nodup_len (l := l) (m := m.erase a) h2 fun x hx => by
      have ne : x ≠ a := fun e => h1 (by rw [← e]; exact hx)
      exact (List.mem_erase_of_ne ne).mpr (hs x (List.mem_cons_of_mem _ hx))
    rw [List.length_erase_of_mem ha] at ih
    have : 0 < m.length := List.length_pos_of_mem ha
    rw [List.length_cons]
    omega
theorem int_at {ns : List Int} {i : Nat} {x : Int} (h : ns[i]? = some x) : (ns.map V.int)[i]? = some (V.int x) := by
  rw [List.getElem?_map, h]
  rfl
theorem int_at_inv {ns : List Int} {i : Nat} {v : V} (h : (ns.map V.int)[i]? = some v) : ∃ x, ns[i]? = some x ∧ v = V.int x := by
  rw [List.getElem?_map] at h
  cases e : ns[i]? with
  | none => rw [e] at h; cases h
  | some x => rw [e] at h; exact ⟨x, rfl, (Option.some.inj h).symm⟩
theorem line_small {n : Nat} (h : n ≤ 16777216) : n ≤ sizeLine := by rw [sizeLine_eq]; exact h
theorem line_lt {n : Nat} (h : n < 16777216) : n < sizeLine := by rw [sizeLine_eq]; exact h
/-! ### data of ints -/
theorem dp_ints {K : PySem.W.Frag} {H : Hp} : ∀ ns : List Int, DpAll K H (ns.map V.int) (ns.map PyData.int)
  | [] => .nil
  | n :: r => .cons (.int n) (dp_ints r)
theorem dp_list {K : PySem.W.Frag} {H : Hp} {a : Addr} {ns : List Int} (h : H a = some (.lst (ns.map V.int))) : Dp K H (.ref a) (.list (ns.map PyData.int)) := .lst (SqL.of h) (dp_ints ns)
theorem eqv_int (i j : Int) : PyData.eqv (.int i) (.int j) = (i == j) := rfl
end Fo
namespace Fo
open PySem PySem.Spec PyProof.Rows L2
abbrev dI (ns : List Int) : List PyData := ns.map PyData.int
abbrev dL (ns : List Int) : PyData := .list (dI ns)
abbrev dLL (l : List (List Int)) : PyData := .list (l.map dL)
theorem lay_ints : ∀ ns : List Int, PyData.canLayAll0 (dI ns) = true
  | [] => rfl
  | n :: r => by
    show (PyData.canLay0 (.int n) && PyData.canLayAll0 (dI r)) = true
    rw [lay_ints r]
    rfl
theorem depth_ints : ∀ ns : List Int, PyData.depthAll (dI ns) = 0
  | [] => by simp [PyData.depthAll]
  | n :: r => by
    show PyData.depthAll (.int n :: dI r) = 0
    rw [PyData.depthAll, depth_ints r]
    simp [PyData.depth]
theorem lay_list (ns : List Int) : PyData.canLay0 (dL ns) = true := by
  rw [PyData.canLay0]
  exact lay_ints ns
theorem depth_list (ns : List Int) : PyData.depth (dL ns) = 1 := by
  rw [PyData.depth, depth_ints]
theorem shaped_list (ns : List Int) : SeqAt.shaped (dL ns) = true := by
  unfold SeqAt.shaped
  rw [lay_list, depth_list]
  rfl
theorem lay_lists : ∀ l : List (List Int), PyData.canLayAll0 (l.map dL) = true
  | [] => rfl
  | n :: r => by
    show (PyData.canLay0 (dL n) && PyData.canLayAll0 (r.map dL)) = true
    rw [lay_lists r, lay_list]
    rfl
theorem depth_lists : ∀ l : List (List Int), PyData.depthAll (l.map dL) ≤ 1
  | [] => by simp [PyData.depthAll]
  | n :: r => by
    show PyData.depthAll (dL n :: r.map dL) ≤ 1
    rw [PyData.depthAll, depth_list]
    have := depth_lists r
    omega
theorem shaped_lists (l : List (List Int)) : SeqAt.shaped (dLL l) = true := by
  unfold SeqAt.shaped
  rw [Bool.and_eq_true_iff]
  constructor
  · rw [PyData.canLay0]
    exact lay_lists l
  · apply decide_eq_true
    rw [PyData.depth]
    have := depth_lists l
    omega
theorem eqv_list (ns : List Int) : PyData.eqv (dL ns) (dL ns) = true := SeqAt.eqv_refl _ (lay_list ns)
theorem eqv_lists (l : List (List Int)) : PyData.eqv (dLL l) (dLL l) = true := SeqAt.eqv_refl _ (SeqAt.canLay_of_shaped (shaped_lists l))
theorem eqvAll_ints : ∀ a b : List Int, PyData.eqvAll (dI a) (dI b) = decide (a = b)
  | [], [] => by simp [PyData.eqvAll]
  | [], _ :: _ => by simp [PyData.eqvAll]
  | _ :: _, [] => by simp [PyData.eqvAll]
  | x :: a, y :: b => by
    show PyData.eqvAll (.int x :: dI a) (.int y :: dI b) = _
    rw [PyData.eqvAll, eqvAll_ints a b]
    show ((x == y) && decide (a = b)) = decide (x :: a = y :: b)
    by_cases h : x = y
    · subst h
      simp
    · simp [h]
theorem eqv_ints (a b : List Int) : PyData.eqv (dL a) (dL b) = decide (a = b) := by
  rw [PyData.eqv]
  exact eqvAll_ints a b
end Fo
namespace Fo
open PySem PySem.Spec PyProof.Rows L2
/-! ### slices of ints -/
def cutI (ws : List Int) (lo hi : Option Int) : List Int := (ws.drop (HT.sIx ws.length 0 lo)).take (HT.sIx ws.length ws.length hi - HT.sIx ws.length 0 lo)
theorem cut_ints (ws : List Int) (lo hi : Option Int) : cutV (ws.map V.int) lo hi = (cutI ws lo hi).map V.int := by
  unfold cutV cutI
  rw [List.length_map, List.map_take, List.map_drop]
theorem cutI_mem {ws : List Int} {lo hi : Option Int} {x : Int} (h : x ∈ cutI ws lo hi) : x ∈ ws := List.mem_of_mem_drop (List.mem_of_mem_take h)
theorem cutI_len (ws : List Int) (lo hi : Option Int) : (cutI ws lo hi).length ≤ ws.length := by
  unfold cutI
  rw [List.length_take, List.length_drop]
  omega
theorem cutI_head (ws : List Int) (k : Nat) : cutI ws none (some (k : Int)) = ws.take k := by
  unfold cutI
  rw [HT.sIx_none, HT.sIx_nat, List.drop_zero, Nat.sub_zero]
  by_cases h : k ≤ ws.length
  · rw [Nat.min_eq_left h]
  · rw [Nat.min_eq_right (by omega), List.take_length, List.take_of_length_le (by omega)]
theorem cutI_tail (ws : List Int) (k : Nat) : cutI ws (some (k : Int)) none = ws.drop k := by
  unfold cutI
  rw [HT.sIx_none, HT.sIx_nat]
  by_cases h : k ≤ ws.length
  · rw [Nat.min_eq_left h, List.take_of_length_le (by rw [List.length_drop]; exact Nat.le_refl _)]
  · rw [Nat.min_eq_right (by omega), List.drop_of_length_le (Nat.le_refl _), List.drop_of_length_le (by omega), List.take_nil]
end Fo
namespace Fo
open PySem PySem.Spec PyProof.Rows L2
/-! ### the text -/
def topS (i : Nat) : Stmt := PySem.Challenge.pw_farorders_k66_pairs_ahead.main.body.getD i (.Pass ⟨0, 0, 0, 0⟩)
abbrev s_OrderError : Stmt := topS 1
abbrev s_NoOrder : Stmt := topS 2
abbrev s_is_whole : Stmt := topS 4
abbrev s_is_order : Stmt := topS 7
abbrev s_is_order_list : Stmt := topS 8
abbrev s_places_in : Stmt := topS 9
abbrev s_check_poll : Stmt := topS 12
abbrev s_counts_ahead : Stmt := topS 13
abbrev s_pairs_ahead : Stmt := topS 14
abbrev s_pair_sum : Stmt := topS 15
abbrev s_law_cell_at : Stmt := topS 17
abbrev s_law_stir : Stmt := topS 18
abbrev s_law_deck : Stmt := topS 19
abbrev s_law_next : Stmt := topS 20
abbrev s_law_order : Stmt := topS 21
abbrev s_law_near : Stmt := topS 22
abbrev s_law_poll : Stmt := topS 23
abbrev s_law_places : Stmt := topS 24
abbrev s_law_whole : Stmt := topS 25
abbrev s_law_copied : Stmt := topS 26
abbrev s_law_ahead : Stmt := topS 27
abbrev s_law : Stmt := topS 28
/-- a def of the text, where it stands -/
structure Df (K : PySem.W.Frag) (mg : Str → Option Value) (x : Str) (st : Stmt) (ps : List Str) (f : Addr) (fd : FuncData) : Prop where
  F : Fun K x x st f fd
  b : Binds K fd ps []
  g : mg x = some (.ref f)
/-- the built-in names as they were -/
structure Bi (mg : Str → Option Value) : Prop where
  ValueError : mg "ValueError" = none
  all : mg "all" = none
  bool : mg "bool" = none
  dict : mg "dict" = none
  enumerate : mg "enumerate" = none
  int : mg "int" = none
  isinstance : mg "isinstance" = none
  len : mg "len" = none
  list : mg "list" = none
  max : mg "max" = none
  min : mg "min" = none
  range : mg "range" = none
  sorted : mg "sorted" = none
  sum : mg "sum" = none
  tuple : mg "tuple" = none
end Fo
namespace Fo
open PySem PySem.Spec PyProof.Rows L2
theorem same_new {H : Hp} {p : Addr} {o : HO} (h : H p = none) : Same H (upd H p o) := fun b x e => by
  rw [upd_ne (ne_of_none e h)]
  exact e
theorem at2_0 {x y : V} : atI [x, y] 0 = some x := rfl
theorem at2_1 {x y : V} : atI [x, y] 1 = some y := rfl
end Fo
namespace Fo
open PySem PySem.Spec PyProof.Rows L2
theorem pop_perm : ∀ {xs : List Int} {k : Nat} {y : Int}, xs[k]? = some y → (y :: xs.eraseIdx k).Perm xs
  | [], k, y, h => by simp at h
  | a :: r, 0, y, h => by
    have e : a = y := Option.some.inj h
    subst e
    exact List.Perm.refl _
  | a :: r, k + 1, y, h => by
    have ih := pop_perm (xs := r) (k := k) (y := y) h
    show (y :: a :: r.eraseIdx k).Perm (a :: r)
    exact (List.Perm.swap a y _).trans (List.Perm.cons a ih)
theorem map_erase : ∀ (xs : List Int) (k : Nat), (xs.map V.int).eraseIdx k = (xs.eraseIdx k).map V.int
  | [], k => rfl
  | a :: r, 0 => rfl
  | a :: r, k + 1 => congrArg (V.int a :: ·) (map_erase r k)
/-- what len asks of a list or a tuple -/
abbrev rLenS (K : PySem.W.Frag) : List V → Hp → VK → Prop := fun xs H Q => ∃ p ys, xs = [.ref p] ∧ (SqL K H p ys ∨ SqT K H p ys) ∧ Q (.int ys.length) H
theorem seq_ix {i : Int} {k n : Nat} (e : i = (k : Int)) (h : k < n) : seqIndex? i n = some k := by
  subst e
  unfold seqIndex?
  have h1 : ¬ ((k : Int) < 0) := by omega
  simp only [h1, if_false]
  have h2 : (decide ((0 : Int) ≤ (k : Int)) && decide ((k : Int) < (n : Int))) = true := by
    simp
    omega
  rw [if_pos h2, Int.toNat_natCast]
theorem ix_n {i : Int} {k n : Nat} (e : i = (k : Int)) (h : k < n) : ixN n i = some k := by
  subst e
  unfold ixN
  rw [if_pos (by omega), if_pos (by omega), Int.toNat_natCast]
end Fo
namespace Fo
open PySem PySem.Spec PyProof.Rows L2
abbrev rMax2 : List V → Hp → VK → Prop := fun xs H Q => ∃ i j, xs = [.int i, .int j] ∧ Q (.int (if j > i then j else i)) H
abbrev rMin2 : List V → Hp → VK → Prop := fun xs H Q => ∃ i j, xs = [.int i, .int j] ∧ Q (.int (if j < i then j else i)) H
abbrev rInt1 : List V → Hp → VK → Prop := fun xs H Q => (∃ i, xs = [.int i] ∧ Q (.int i) H) ∨ ∃ k, xs = [.bl k] ∧ Q (.int (if k then 1 else 0)) H
theorem filter_more {l : List Int} {m : Nat} {x : Int} (p : Int → Bool) (h : l[m]? = some x) : (l.take (m + 1)).filter p = (l.take m).filter p ++ (if p x then [x] else []) := by
  rw [List.take_add_one, h, List.filter_append]
  show _ ++ List.filter p [x] = _
  rw [List.filter_cons]
  rfl
end Fo
namespace Fo
open PySem PySem.Spec PyProof.Rows L2
/-- a loop over enumerate of a list that stands still -/
theorem for_enumL {K : PySem.W.Frag} {a : Addr} {xs : List V} {g : TG} {tb : TS} {D : Ends} {σ : L2.St} {H : Hp} (Pv : Nat → L2.St → Hp → Prop) (h0 : Pv 0 σ H) (hq : ∀ i σ H, Pv i σ H → SqL K H a xs)
    (hs : ∀ (i : Nat) (x : V) (T : Addr) (σ : L2.St) (H : Hp), xs[i]? = some x → Pv i σ H → H T = none → g (.ref T) σ (upd H T (.tup [.int (i : Nat), x])) fun σ2 H2 => tb { D with nx := Pv (i + 1), ct := Pv (i + 1), bk := D.nx } σ2 H2) (hd : ∀ σ H, Pv xs.length σ H → D.nx σ H) :
    ∃ W : Nat → Nat → L2.St → Hp → Prop, (∃ m, W 0 m σ H) ∧ ∀ i m σ H, W i m σ H →
      ((Ite K a).stop i H ∧ D.nx σ H) ∨ ((Ite K a).go i H ∧ ∃ N : L2.St → Hp → Prop, (∀ σ' H', N σ' H' → ∃ m', m' < m ∧ W (i + 1) m' σ' H') ∧ ∀ v H', (Ite K a).yld i H v H' → g v σ H' fun σ2 H2 => tb { D with nx := N, ct := N, bk := D.nx } σ2 H2) := by
  refine ⟨fun i m σ H => m = xs.length - i ∧ i ≤ xs.length ∧ Pv i σ H, ⟨xs.length, rfl, Nat.zero_le _, h0⟩, ?_⟩
  rintro i m σ H ⟨rfl, hi, p⟩
  have qx := hq i σ H p
  by_cases hlt : i < xs.length
  · have hx : xs[i]? = some xs[i] := List.getElem?_eq_getElem hlt
    refine .inr ⟨⟨xs, _, qx, hx⟩, Pv (i + 1), fun σ' H' p' => ⟨xs.length - (i + 1), by omega, rfl, hlt, p'⟩, fun v H' y => ?_⟩
    obtain ⟨T, x', rfl, hT, rfl, f1⟩ := y
    exact hs i x' T σ H (f1 xs qx) p hT
  · have e : i = xs.length := by omega
    subst e
    exact .inl ⟨⟨xs, qx, Nat.le_refl _⟩, hd σ H p⟩
/-- a comprehension over enumerate of a list that stands still -/
theorem lc_enumL {K : PySem.W.Frag} {a : Addr} {xs : List V} {g : TG} {tt : TT} {te : TE} {vs : List Nat} {σ : L2.St} {H1 : Hp} {D : Addr} {Qd : Hp → Prop} (Pv : Nat → Hp → Prop) (h0 : Pv 0 (upd H1 D (.lst []))) (hl : ∀ i H, i ≤ xs.length → Pv i H → SqL K H a xs)
    (hs : ∀ (i : Nat) (x : V) (T : Addr) (H : Hp), xs[i]? = some x → Pv i H → H T = none → g (.ref T) (wipe σ vs) (upd H T (.tup [.int (i : Nat), x])) fun σ2 H2 => wipe σ2 vs = wipe σ vs ∧ tt σ2 H2 fun b H3 =>
      if b = true then te σ2 H3 fun y H4 => ∃ acc, H4 D = some (.lst acc) ∧ acc.length < sizeLine ∧ Pv (i + 1) (upd H4 D (.lst (acc ++ [y]))) else Pv (i + 1) H3) (hd : ∀ H, Pv xs.length H → Qd H) :
    ∃ W : Nat → Nat → Hp → Prop, (∃ m, W 0 m (upd H1 D (.lst []))) ∧ ∀ i m H, W i m H →
      ((Ite K a).stop i H ∧ Qd H) ∨ ((Ite K a).go i H ∧ ∃ Nx : Hp → Prop, (∀ H', Nx H' → ∃ m', m' < m ∧ W (i + 1) m' H') ∧ ∀ x H', (Ite K a).yld i H x H' → g x (wipe σ vs) H' fun σ2 H2 => wipe σ2 vs = wipe σ vs ∧ tt σ2 H2 fun b H3 =>
        if b = true then te σ2 H3 fun y H4 => ∃ acc, H4 D = some (.lst acc) ∧ acc.length < sizeLine ∧ Nx (upd H4 D (.lst (acc ++ [y]))) else Nx H3) := by
  refine ⟨fun i m H => m = xs.length - i ∧ i ≤ xs.length ∧ Pv i H, ⟨xs.length, by simp, Nat.zero_le _, h0⟩, ?_⟩
  rintro i m H ⟨rfl, hi, p⟩
  have q := hl i H hi p
  by_cases hlt : i < xs.length
  · refine .inr ⟨⟨xs, xs[i], q, by simp [hlt]⟩, Pv (i + 1), fun H' p' => ⟨xs.length - (i + 1), by omega, rfl, hlt, p'⟩, fun x H' y => ?_⟩
    obtain ⟨T, x', rfl, hT, rfl, f1⟩ := y
    exact hs i x' T H (f1 xs q) p hT
  · have e : i = xs.length := by omega
    subst e
    exact .inl ⟨⟨xs, q, Nat.le_refl _⟩, hd H p⟩
/-! ### the back of an order -/
def IsBack (ns ps : List Int) : Prop := ps.length = ns.length ∧ ∀ (j : Nat) (x : Int), ns[j]? = some x → ps[x.toNat]? = some (j : Int)
theorem ord_at {n : Nat} {ns : List Int} (o : IsOrd n ns) {t : Nat} (h : t < n) : ∃ j : Nat, j < n ∧ ns[j]? = some (t : Int) := by
  have m : (t : Int) ∈ ns := (List.Perm.mem_iff o).mpr (rg_mem.mpr ⟨by omega, by omega⟩)
  obtain ⟨j, hj⟩ := List.mem_iff_getElem?.mp m
  exact ⟨j, by have := (List.getElem?_eq_some_iff.mp hj).1; rw [o.len] at this; exact this, hj⟩
theorem ord_ix {n : Nat} {ns : List Int} (o : IsOrd n ns) {j : Nat} (h : j < n) : ∃ x : Int, ns[j]? = some x ∧ 0 ≤ x ∧ x < n := by
  have hj : j < ns.length := by rw [o.len]; exact h
  exact ⟨ns[j], List.getElem?_eq_getElem hj, o.mem (List.getElem_mem hj)⟩
theorem back_eq {n : Nat} {ns a b : List Int} (o : IsOrd n ns) (ha : IsBack ns a) (hb : IsBack ns b) : a = b := by
  apply List.ext_getElem?
  intro t
  by_cases h : t < n
  · obtain ⟨j, _, hj⟩ := ord_at o h
    have h1 := ha.2 j _ hj
    have h2 := hb.2 j _ hj
    rw [Int.toNat_natCast] at h1 h2
    rw [h1, h2]
  · rw [List.getElem?_eq_none (by rw [ha.1, o.len]; omega), List.getElem?_eq_none (by rw [hb.1, o.len]; omega)]
def behindL (ns ms : List Int) : List Int := ms.map fun p => ns.getD p.toNat 0
theorem behind_at {ns ms : List Int} {i : Nat} {p x : Int} (hp : ms[i]? = some p) (hx : ns[p.toNat]? = some x) : (behindL ns ms)[i]? = some x := by
  unfold behindL
  rw [List.getElem?_map, hp]
  show some (ns.getD p.toNat 0) = some x
  rw [List.getD_eq_getElem?_getD, hx]
  rfl
theorem behind_len (ns ms : List Int) : (behindL ns ms).length = ms.length := by
  unfold behindL
  rw [List.length_map]
theorem take_more {l : List Int} {i : Nat} {x : Int} (h : l[i]? = some x) : l.take (i + 1) = l.take i ++ [x] := by
  rw [List.take_add_one, h]
  rfl
theorem flat_ints : ∀ ns : List Int, (ns.map V.int).all flatV = true
  | [] => rfl
  | n :: r => by
    show (flatV (V.int n) && (r.map V.int).all flatV) = true
    rw [flat_ints r]
    rfl
theorem eqV_int (i j : Int) : eqV (.int i) (.int j) = (i == j) := rfl
end Fo
namespace Fo
open PySem PySem.Spec PyProof.Rows L2
/-! ### lists of lists -/
def LL (H : Hp) : List Addr → List (List Int) → Prop
  | [], [] => True
  | a :: as, r :: rs => H a = some (.lst (r.map V.int)) ∧ LL H as rs
  | _, _ => False
theorem LL.len {H : Hp} : ∀ {as : List Addr} {rs : List (List Int)}, LL H as rs → as.length = rs.length
  | [], [], _ => rfl
  | [], _ :: _, h => h.elim
  | _ :: _, [], h => h.elim
  | a :: as, r :: rs, h => by rw [List.length_cons, List.length_cons, LL.len h.2]
theorem LL.keep {H H' : Hp} : ∀ {as : List Addr} {rs : List (List Int)}, LL H as rs → (∀ a ∈ as, ∀ o, H a = some o → H' a = some o) → LL H' as rs
  | [], [], _, _ => trivial
  | [], _ :: _, h, _ => h.elim
  | _ :: _, [], h, _ => h.elim
  | a :: as, r :: rs, h, k => ⟨k a List.mem_cons_self _ h.1, LL.keep h.2 fun b hb => k b (List.mem_cons_of_mem _ hb)⟩
theorem LL.same {H H' : Hp} {as : List Addr} {rs : List (List Int)} (h : LL H as rs) (s : Same H H') : LL H' as rs := h.keep fun a _ o e => s a o e
theorem LL.get {H : Hp} : ∀ {as : List Addr} {rs : List (List Int)} {i : Nat} {a : Addr}, LL H as rs → as[i]? = some a → ∃ r, rs[i]? = some r ∧ H a = some (.lst (r.map V.int))
  | [], [], _, _, _, e => by simp at e
  | [], _ :: _, _, _, h, _ => h.elim
  | _ :: _, [], _, _, h, _ => h.elim
  | a :: as, r :: rs, 0, b, h, e => by
    have e2 : a = b := Option.some.inj e
    subst e2
    exact ⟨r, rfl, h.1⟩
  | a :: as, r :: rs, i + 1, b, h, e => LL.get (i := i) h.2 e
theorem LL.tracked {H : Hp} {as : List Addr} {rs : List (List Int)} (h : LL H as rs) {a : Addr} (ha : a ∈ as) : ∃ o, H a = some o := by
  obtain ⟨i, hi⟩ := List.mem_iff_getElem?.mp ha
  obtain ⟨r, _, e⟩ := h.get hi
  exact ⟨_, e⟩
theorem LL.snoc {H : Hp} : ∀ {as : List Addr} {rs : List (List Int)} {a : Addr} {r : List Int}, LL H as rs → H a = some (.lst (r.map V.int)) → LL H (as ++ [a]) (rs ++ [r])
  | [], [], _, _, _, e => ⟨e, trivial⟩
  | [], _ :: _, _, _, h, _ => h.elim
  | _ :: _, [], _, _, h, _ => h.elim
  | b :: as, s :: rs, _, _, h, e => ⟨h.1, LL.snoc h.2 e⟩
theorem LL.drop {H : Hp} : ∀ {as : List Addr} {rs : List (List Int)} (k : Nat), LL H as rs → LL H (as.drop k) (rs.drop k)
  | as, rs, 0, h => h
  | [], [], k + 1, _ => trivial
  | [], _ :: _, _ + 1, h => h.elim
  | _ :: _, [], _ + 1, h => h.elim
  | _ :: as, _ :: rs, k + 1, h => LL.drop k h.2
theorem dp_LL {K : PySem.W.Frag} {H : Hp} : ∀ {as : List Addr} {rs : List (List Int)}, LL H as rs → DpAll K H (as.map V.ref) (rs.map dL)
  | [], [], _ => .nil
  | [], _ :: _, h => h.elim
  | _ :: _, [], h => h.elim
  | _ :: _, _ :: _, h => .cons (dp_list h.1) (dp_LL h.2)
theorem dp_lists {K : PySem.W.Frag} {H : Hp} {l : Addr} {as : List Addr} {rs : List (List Int)} (hl : H l = some (.lst (as.map V.ref))) (h : LL H as rs) : Dp K H (.ref l) (dLL rs) := .lst (SqL.of hl) (dp_LL h)
theorem ref_at {as : List Addr} {i : Nat} {a : Addr} (h : as[i]? = some a) : (as.map V.ref)[i]? = some (V.ref a) := by
  rw [List.getElem?_map, h]
  rfl
theorem ref_at_inv {as : List Addr} {i : Nat} {v : V} (h : (as.map V.ref)[i]? = some v) : ∃ a, as[i]? = some a ∧ v = V.ref a := by
  rw [List.getElem?_map] at h
  cases e : as[i]? with
  | none => rw [e] at h; cases h
  | some x => rw [e] at h; exact ⟨x, rfl, (Option.some.inj h).symm⟩
theorem cutV_tail (xs : List V) (k : Nat) : cutV xs (some (k : Int)) none = xs.drop k := by
  unfold cutV
  rw [HT.sIx_none, HT.sIx_nat]
  by_cases h : k ≤ xs.length
  · rw [Nat.min_eq_left h, List.take_of_length_le (by rw [List.length_drop]; exact Nat.le_refl _)]
  · rw [Nat.min_eq_right (by omega), List.drop_of_length_le (Nat.le_refl _), List.drop_of_length_le (by omega), List.take_nil]
end Fo
namespace Fo
open PySem PySem.Spec PyProof.Rows L2
/-! {(i, j): v for .. for ..}: two clauses, each key a tuple on the heap -/
section
variable {kx vx ta ia tb ib : Expr} {fa fb : List Expr} {sc : Scope} {at0 : Pos}
abbrev dc2E (kx vx ta ia : Expr) (fa : List Expr) (tb ib : Expr) (fb : List Expr) (sc : Scope) (at0 : Pos) : Expr :=
  .DictComp kx vx [⟨ta, ia, fa, 0⟩, ⟨tb, ib, fb, 0⟩] sc at0
theorem dc2_turn0 (it acc : Value) (env : Env) :
    compTurn (dc2E kx vx ta ia fa tb ib fb sc at0) 0 it acc env = (do
      standAt ia.pos
      match ← pyNext it with
      | none =>
        pure (.done .next)
      | some u =>
        letOwnedTupleGo ta it u
        assign ta env u
        let mut good := true
        for c in fa do
          if good then good ← isTrue c env (eval c env)
        if good then
          let y ← eval ib env
          standAt ib.pos
          let y ← foldedSetIterable ib env y
          let _ ← runOwn (.compStart (dc2E kx vx ta ia fa tb ib fb sc at0) 1 (← holding [y] (pyIter y)) acc env) env
        again (.compLoop (dc2E kx vx ta ia fa tb ib fb sc at0) 0 it acc env)) := by rfl
theorem dc2_turn1 (it : Value) (D : Addr) (env : Env) :
    compTurn (dc2E kx vx ta ia fa tb ib fb sc at0) 1 it (.ref D) env = (do
      standAt ib.pos
      match ← pyNext it with
      | none =>
        pure (.done .next)
      | some u =>
        letOwnedTupleGo tb it u
        assign tb env u
        let mut good := true
        for c in fb do
          if good then good ← isTrue c env (eval c env)
        if good then
          (do
            let k0 ← eval kx env
            let v0 ← holding [k0] (eval vx env)
            standAt { kx.pos with endLine := vx.pos.endLine, endCol := vx.pos.endCol }
            holding [k0, v0] (dictSet D k0 v0))
        again (.compLoop (dc2E kx vx ta ia fa tb ib fb sc at0) 1 it (.ref D) env)) := by rfl
variable {prog : Program} {w : World} {A : Around} {R : Result → Shared → Prop} {s : Shared} {it acc : Value} {env : Env}
theorem dc2_out (hs : ∀ x, foldedSetIterable ib env x = pure x) (J : Nat → Shared → Prop)
    (go : ∀ n s, J n s → wpAny (model prog w) A (pyNext it) (fun r s₁ => match r with
      | none => R (.ok .next) s₁
      | some u => wpAny (model prog w) A (letOwnedTupleGo ta it u) (fun _ s₂ =>
          wpAny (model prog w) A (assign ta env u) (fun _ s₃ =>
            wpAny (model prog w) A (forIn fa true fun c r => if r = true then do let ok ← isTrue c env (eval c env); pure (ForInStep.yield ok) else pure (ForInStep.yield r)) (fun ok s₄ =>
              if ok = true then
                wpAny (model prog w) A (eval ib env) (fun x s₅ => wpAny (model prog w) A (pyIter x) (fun i1 s₆ =>
                  codeAny (model prog w) A (.compStart (dc2E kx vx ta ia fa tb ib fb sc at0) 1 i1 acc env) (fun r s' => match r with
                    | .ok _ => ∃ m, m < n ∧ J m s'
                    | .error _ => False) s₆)
                  (notedBy (model prog w) A env fun e s' => R (.error e) s') s₅)
                  (notedBy (model prog w) A env fun e s' => R (.error e) s') s₄
              else ∃ m, m < n ∧ J m s₄)
              (notedBy (model prog w) A env fun e s' => R (.error e) s') s₃)
            (notedBy (model prog w) A env fun e s' => R (.error e) s') s₂)
          (notedBy (model prog w) A env fun e s' => R (.error e) s') s₁)
      (notedBy (model prog w) A env fun e s' => R (.error e) s') s)
    (n : Nat) (h : J n s) : codeAny (model prog w) A (.compLoop (dc2E kx vx ta ia fa tb ib fb sc at0) 0 it acc env) R s := by
  refine codeAny_loop rfl J (fun n s hJ => ?_) n h
  show wpAny _ A ((compTurn (dc2E kx vx ta ia fa tb ib fb sc at0) 0 it acc env).onRaise (fun x => do noteFrame x env; theTreesLotGoes x)) _ _ s
  refine wpAny_noted ?_
  rw [dc2_turn0]
  have lift : ∀ {α : Type} {m : Sem α} {P Q : α → Shared → Prop} {E : Value → Shared → Prop} {s : Shared}, wpAny (model prog w) A m P E s → (∀ a s, P a s → Q a s) → wpAny (model prog w) A m Q E s :=
    fun h k => wpAny_mono h k fun _ _ z => z
  refine wpAny_bind (wpAny_standAt (wpAny_bind (lift (go n s hJ) fun r s₁ h₁ => ?_)))
  match r, h₁ with
  | none, h₁ => exact wpAny_pure h₁
  | some u, h₁ =>
    refine wpAny_bind (lift h₁ fun _ s₂ h₂ => wpAny_bind (lift h₂ fun _ s₃ h₃ => wpAny_bind (lift h₃ fun ok s₄ h₄ => ?_)))
    match ok, h₄ with
    | false, h₄ => exact wpAny_pure ⟨rfl, h₄⟩
    | true, h₄ =>
      refine wpAny_bind (lift h₄ fun x s₅ h₅ => wpAny_bind (wpAny_standAt (wpAny_bind (wpAny_of_eq (hs x) (wpAny_bind (wpAny_holding (lift h₅ fun i1 s₆ h₆ => ?_)))))))
      refine wpAny_bind (wpAny_runOwn ?_)
      rw [Around.mark_none]
      refine codeAny_mono h₆ fun r s' hr => ?_
      match r, hr with
      | .ok f, hr =>
        first
          | exact wpAny_pure ⟨rfl, hr⟩
          | exact wpAny_bind (wpAny_pure (wpAny_pure ⟨rfl, hr⟩))
      | .error e, hr => exact False.elim hr
theorem dc2_in {D : Addr} (J : Nat → Shared → Prop)
    (go : ∀ n s, J n s → wpAny (model prog w) A (pyNext it) (fun r s₁ => match r with
      | none => R (.ok .next) s₁
      | some u => wpAny (model prog w) A (letOwnedTupleGo tb it u) (fun _ s₂ =>
          wpAny (model prog w) A (assign tb env u) (fun _ s₃ =>
            wpAny (model prog w) A (forIn fb true fun c r => if r = true then do let ok ← isTrue c env (eval c env); pure (ForInStep.yield ok) else pure (ForInStep.yield r)) (fun ok s₄ =>
              if ok = true then
                wpAny (model prog w) A (eval kx env) (fun k0 s₅ => wpAny (model prog w) A (eval vx env) (fun v0 s₆ =>
                  wpAny (model prog w) A (dictSet D k0 v0) (fun _ s₇ => ∃ m, m < n ∧ J m s₇)
                    (notedBy (model prog w) A env fun e s' => R (.error e) s') s₆)
                  (notedBy (model prog w) A env fun e s' => R (.error e) s') s₅)
                  (notedBy (model prog w) A env fun e s' => R (.error e) s') s₄
              else ∃ m, m < n ∧ J m s₄)
              (notedBy (model prog w) A env fun e s' => R (.error e) s') s₃)
            (notedBy (model prog w) A env fun e s' => R (.error e) s') s₂)
          (notedBy (model prog w) A env fun e s' => R (.error e) s') s₁)
      (notedBy (model prog w) A env fun e s' => R (.error e) s') s)
    (n : Nat) (h : J n s) : codeAny (model prog w) A (.compLoop (dc2E kx vx ta ia fa tb ib fb sc at0) 1 it (.ref D) env) R s := by
  refine codeAny_loop rfl J (fun n s hJ => ?_) n h
  show wpAny _ A ((compTurn (dc2E kx vx ta ia fa tb ib fb sc at0) 1 it (.ref D) env).onRaise (fun x => do noteFrame x env; theTreesLotGoes x)) _ _ s
  refine wpAny_noted ?_
  rw [dc2_turn1]
  have lift : ∀ {α : Type} {m : Sem α} {P Q : α → Shared → Prop} {E : Value → Shared → Prop} {s : Shared}, wpAny (model prog w) A m P E s → (∀ a s, P a s → Q a s) → wpAny (model prog w) A m Q E s :=
    fun h k => wpAny_mono h k fun _ _ z => z
  refine wpAny_bind (wpAny_standAt (wpAny_bind (lift (go n s hJ) fun r s₁ h₁ => ?_)))
  match r, h₁ with
  | none, h₁ => exact wpAny_pure h₁
  | some u, h₁ =>
    refine wpAny_bind (lift h₁ fun _ s₂ h₂ => wpAny_bind (lift h₂ fun _ s₃ h₃ => wpAny_bind (lift h₃ fun ok s₄ h₄ => ?_)))
    match ok, h₄ with
    | false, h₄ => exact wpAny_pure ⟨rfl, h₄⟩
    | true, h₄ =>
      exact wpAny_bind (wpAny_bind (lift h₄ fun k0 s₅ h₅ => wpAny_bind (wpAny_holding (lift h₅ fun v0 s₆ h₆ =>
        wpAny_bind (wpAny_standAt (wpAny_holding (lift h₆ fun _ s₇ h₇ => wpAny_pure ⟨rfl, h₇⟩)))))))
theorem dc2_start (h0 : codeAny (model prog w) A (.compLoop (dc2E kx vx ta ia fa tb ib fb sc at0) 1 it acc env) R s)
    (h : wpAny (model prog w) A (pyIter it) (fun i' s' => codeAny (model prog w) A (.compLoop (dc2E kx vx ta ia fa tb ib fb sc at0) 1 i' acc env) R s')
      (notedBy (model prog w) A env fun x s' => R (.error x) s') s) :
    codeAny (model prog w) A (.compStart (dc2E kx vx ta ia fa tb ib fb sc at0) 1 it acc env) R s := by
  refine codeAny_of_tree ?_
  show wpAny _ _ ((compStart (dc2E kx vx ta ia fa tb ib fb sc at0) 1 it acc env).onRaise (fun x => do noteFrame x env; standAt theWindowsPlace)) _ _ s
  refine wpAny_notedAt ?_
  unfold compStart
  show wpAny _ _ (ask >>= _) _ _ s
  refine wpAny_bind (wpAny_askSetting (wpAny_ite ?_))
  have later : ∀ {v : Value} {s' : Shared}, codeAny (model prog w) A (.compLoop (dc2E kx vx ta ia fa tb ib fb sc at0) 1 v acc env) R s' → wpAny (model prog w) A (again (.compLoop (dc2E kx vx ta ia fa tb ib fb sc at0) 1 v acc env)) (fun fin s' => match fin with | .done f => R (.ok f) s' | .again c' => c'.quiet = true ∧ codeAny (model prog w) A c' R s') (notedBy (model prog w) A env fun x s' => R (.error x) s') s' :=
    fun k => wpAny_pure ⟨rfl, k⟩
  split
  · first
      | exact wpAny_bind (wpAny_pure (later h0))
      | exact later h0
  · first
      | exact wpAny_bind (wpAny_rule (wpAny_bind (wpAny_standAt (wpAny_bind (wpAny_mono h (fun _ _ k => later k) fun _ _ z => z)))))
      | (refine wpAny_bind (wpAny_rule ?_)
         show wpAny _ _ (standAt ib.pos >>= _) _ _ s
         exact wpAny_bind (wpAny_standAt (wpAny_bind (wpAny_mono h (fun _ _ k => later k) fun _ _ z => z))))
end
/-- d[k] = v by a comprehension, k a tuple -/
theorem dt_store {X : Cx} {pins : List (Addr × Obj)} {σ : L2.St} {H : Hp} {s : Shared} {E : Value → Shared → Prop} {D b : Addr} {kvs : List (List Key × V)} {k : List Key} {v : V} {u r : Value} {Q : Unit → Shared → Prop}
    (hu : X.A.units < cLine) (I : Inv X pins σ H s) (hD : H D = some (.dT kvs)) (hb : H b = some (.tup (k.map kV))) (hz : kvs.length < sizeLine)
    (ry : RelV (.ref b) u) (rv : RelV v r) (h : ∀ s', Inv X pins σ (upd H D (.dT (putK kvs k v))) s' → Q () s') : wpAny (model X.prog X.w) X.A (dictSet D u r) Q E s := by
  cases (show u = Value.ref b from ry)
  obtain ⟨z, hd, xs, rel, dd⟩ := dt_of I.hok hD
  have hl : (putK kvs k v).length ≤ sizeLine := by
    have := length_putK kvs k v
    omega
  refine wpAny_dictSet_heap (hsz := by rw [← Paired.length rel]; exact z) hu (key_of I.hok hb) dd fun h' dd' hs => h _ ?_
  obtain ⟨q, es, ep, hq, h2, h3, h4, _, h5⟩ := dd'
  refine d_write I (by rw [hD]; exact True.intro) hs ⟨q, hq⟩ ⟨hl, hd, _, (rel.put k hb rv).keeps fun c ys ec => ?_, q, es, ep, hq, h2, h3, h4, h5⟩
  rw [upd_ne (ne_of ec hD (fun z => nomatch z))]
  exact ec
/-- {k: v for .. if .. for .. if ..}, D the new dict; each key a tuple of ints and texts -/
def tDc2 (wi : TI) (g : TG) (tt : TT) (wj : TI) (gj : TG) (tj : TT) (tk tv : TE) (vs vj : List Nat) : TE := fun σ H Q => wi σ H fun J H1 => ∀ D, H1 D = none →
  ∃ W : Nat → Nat → Hp → Prop, (∃ m, W 0 m (upd H1 D (.dT []))) ∧ ∀ i m G, W i m G →
    (J.stop i G ∧ Q (.ref D) G) ∨
    (J.go i G ∧ ∃ Nx : Hp → Prop, (∀ G', Nx G' → ∃ m', m' < m ∧ W (i + 1) m' G') ∧ ∀ x G', J.yld i G x G' →
      g x (wipe σ vs) G' fun σ2 H2 => wipe σ2 vs = wipe σ vs ∧ tt σ2 H2 fun b H3 =>
        if b = true then wj σ2 H3 fun Jj H4 =>
          ∃ Wj : Nat → Nat → Hp → Prop, (∃ m, Wj 0 m H4) ∧ ∀ j k G, Wj j k G →
            (Jj.stop j G ∧ Nx G) ∨
            (Jj.go j G ∧ ∃ Ny : Hp → Prop, (∀ G', Ny G' → ∃ k', k' < k ∧ Wj (j + 1) k' G') ∧ ∀ x G', Jj.yld j G x G' →
              gj x (wipe σ2 vj) G' fun σ3 H5 => wipe σ3 vj = wipe σ2 vj ∧ tj σ3 H5 fun b H6 =>
                if b = true then tk σ3 H6 fun y H7 => tv σ3 H7 fun z H8 =>
                  ∃ kvs k p, y = .ref p ∧ H8 p = some (.tup (k.map kV)) ∧ H8 D = some (.dT kvs) ∧ kvs.length < sizeLine ∧ Ny (upd H8 D (.dT (putK kvs k z)))
                else Ny H6)
        else Nx H3)
theorem pe_dc2 {X : Cx} {kx vx ta ia tb ib : Expr} {fa fb : List Expr} {sc : Scope} {own : List (Str × Nat)} {vj : List Nat} {at0 : Pos} {wi wj : TI} {g gj : TG} {tt tj : TT} {tk tv : TE}
    (hu : X.A.units < cLine) (calm : X.calm = true) (nd : X.N.Nodup) (pi : PI X ta ia wi) (blk : BlkOk X.N X.env.scope sc own) (hv : ∀ i ∈ vj, i ∈ own.map (·.2))
    (pg : ∀ (s : Shared) (H : Hp) (C : Addr) (cl : List (Str × Addr)) (fp : List Addr),
      PG (X.blk s H sc (compEnvC sc cl C X.env) fp) ta g)
    (pt : ∀ (s : Shared) (H : Hp) (C : Addr) (cl : List (Str × Addr)) (fp : List Addr),
      PTs (X.blk s H sc (compEnvC sc cl C X.env) fp) fa tt)
    (pj : ∀ (s : Shared) (H : Hp) (C : Addr) (cl : List (Str × Addr)) (fp : List Addr),
      PI (X.blk s H sc (compEnvC sc cl C X.env) fp) tb ib wj)
    (pgj : ∀ (s : Shared) (H : Hp) (C : Addr) (cl : List (Str × Addr)) (fp : List Addr),
      PG (X.blk s H sc (compEnvC sc cl C X.env) fp) tb gj)
    (ptj : ∀ (s : Shared) (H : Hp) (C : Addr) (cl : List (Str × Addr)) (fp : List Addr),
      PTs (X.blk s H sc (compEnvC sc cl C X.env) fp) fb tj)
    (pk : ∀ (s : Shared) (H : Hp) (C : Addr) (cl : List (Str × Addr)) (fp : List Addr),
      PE (X.blk s H sc (compEnvC sc cl C X.env) fp) kx tk)
    (pv' : ∀ (s : Shared) (H : Hp) (C : Addr) (cl : List (Str × Addr)) (fp : List Addr),
      PE (X.blk s H sc (compEnvC sc cl C X.env) fp) vx tv)
    (fold : ∀ x, foldedSetIterable ia X.env x = pure x := by intro _; rfl) (foldj : ∀ env x, foldedSetIterable ib env x = pure x := by intro _ _; rfl) :
    PE X (dc2E kx vx ta ia fa tb ib fb sc at0) (tDc2 wi g tt wj gj tj tk tv (own.map (·.2)) vj) := by
  refine ⟨fun pins s σ H Q I h => ?_⟩
  rw [arm_eval_DictComp]
  have free : ∀ y ∈ sc.names, y.2 = .free → ∃ c, X.env.cells.lookup y.1 = some c := fun y hy e =>
    I.ok.has _ (blk.free y hy e)
  refine wpAny_comprehension_free (use := none) rfl fold (closure_ok free) blk.kind (fun y hy e => by rw [blk.uniq y hy, e])
    (thn (pi.run pins s σ H _ I h) fun xv s1 hx => thn hx fun itv s2 h2 => ?_)
  obtain ⟨it, fp, tn, J, H2, e, I2, T, st2, f2, q⟩ := h2
  subst e
  refine wpAny_newObj_type (newEnv_comp ?_)
  generalize hD : s2.heap.objs.size = D
  obtain ⟨W, ⟨m0, w0⟩, turn⟩ := q D (I2.hok.fresh (Nat.le_of_eq hD))
  let s3 : Shared := { s2 with heap := s2.heap.push { cls := .type "dict", data := .dict #[] } }
  let H3 : Hp := upd H2 D (.dT [])
  have h3 : s3.heap = s2.heap.push { cls := .type "dict", data := .dict #[] } := rfl
  have I3 : Inv X pins σ H3 s3 := by
    refine I2.laid (t' := s2.toks) (fun b o e => Heap.get?_push_of_some _ e) (Nat.le_of_eq hD) ?_
    rw [← hD]
    exact dt_empty s2.heap I2.big
  have low : ∀ b ∈ fp, b < s2.heap.objs.size := fun b hb => by
    obtain ⟨o, e, _⟩ := T.obj _ _ st2 b hb
    exact Heap.lt_size e
  have f3 : ∀ b ∈ fp, FpOk X pins H3 b ∧ b < s3.heap.objs.size := fun b hb => by
    have lt := low b hb
    refine ⟨⟨?_, (f2 b hb).2⟩, by rw [h3, Heap.size_push]; exact Nat.lt_succ_of_lt lt⟩
    show upd H2 D (.dT []) b = none
    rw [upd_ne (by rw [← hD]; exact Nat.ne_of_lt lt)]
    exact (f2 b hb).1
  have st3 : tn 0 s3.heap := T.keep _ _ _ st2 fun b _ o e => by rw [h3]; exact Heap.get?_push_of_some _ e
  have I4 := block_start I3 blk nd f3
  have pg := pg s3 H3 s3.heap.objs.size (cellsFrom (s3.heap.objs.size + 1) sc.names (cloFrom X.env.cells sc.names [])) fp
  have pt := pt s3 H3 s3.heap.objs.size (cellsFrom (s3.heap.objs.size + 1) sc.names (cloFrom X.env.cells sc.names [])) fp
  have pj := pj s3 H3 s3.heap.objs.size (cellsFrom (s3.heap.objs.size + 1) sc.names (cloFrom X.env.cells sc.names [])) fp
  have pgj := pgj s3 H3 s3.heap.objs.size (cellsFrom (s3.heap.objs.size + 1) sc.names (cloFrom X.env.cells sc.names [])) fp
  have ptj := ptj s3 H3 s3.heap.objs.size (cellsFrom (s3.heap.objs.size + 1) sc.names (cloFrom X.env.cells sc.names [])) fp
  have pk := pk s3 H3 s3.heap.objs.size (cellsFrom (s3.heap.objs.size + 1) sc.names (cloFrom X.env.cells sc.names [])) fp
  have pe := pv' s3 H3 s3.heap.objs.size (cellsFrom (s3.heap.objs.size + 1) sc.names (cloFrom X.env.cells sc.names [])) fp
  have nfp : ∀ b ∈ fp, H3 b = none := fun b hb => (f3 b hb).1.1
  show codeAny _ _ (.compStart (dc2E kx vx ta ia fa tb ib fb sc at0) 0 (.ref it) (.ref D) (compEnvC sc (cellsFrom (s3.heap.objs.size + 1) sc.names (cloFrom X.env.cells sc.names [])) s3.heap.objs.size X.env)) (compPost (model X.prog X.w) X.A X.xe none _ (.ref D) s3.heap.objs.size) { s3 with heap := pushCells (s3.heap.push { cls := .type "dict", data := .dict #[] }) sc.names }
  generalize hce : compEnvC sc (cellsFrom (s3.heap.objs.size + 1) sc.names (cloFrom X.env.cells sc.names [])) s3.heap.objs.size X.env = ce at I4 pg pt pj pgj ptj pk pe ⊢
  have cL : ce.locals = s3.heap.objs.size := by rw [← hce]; rfl
  have hw0 : W 0 m0 H3 := w0
  clear_value H3
  generalize hs4 : ({ s3 with heap := pushCells (s3.heap.push { cls := .type "dict", data := .dict #[] }) sc.names } : Shared) = s4 at I4 ⊢
  have st4 : tn 0 s4.heap := T.keep _ _ _ st3 fun b _ o e => by rw [← hs4]; exact pushCells_keeps _ _ _ _ (Heap.get?_push_of_some _ e)
  clear_value s3
  have B0 : ∀ {H' : Hp}, (∀ b ∈ fp, H' b = none) → ∀ {σ' : L2.St} {s' : Shared}, Inv (X.blk s3 H3 sc ce fp) [] σ' H' s' → ∀ b ∈ fp, FpOk (X.blk s3 H3 sc ce fp) [] H' b := fun hn _ _ I' b hb =>
    ⟨hn b hb, (I'.ok.exf b hb).1, I'.ok.exfs b hb, .inl hb, fun x c e => (I'.ok.exf b hb).2 x c e, fun p hp => absurd (show p ∈ ([] : List (Addr × Obj)) ++ [] from hp) (by simp)⟩
  have loop : codeAny (model X.prog X.w) X.A (.compLoop (dc2E kx vx ta ia fa tb ib fb sc at0) 0 (.ref it) (.ref D) ce) (compPost (model X.prog X.w) X.A X.xe none (EP X pins σ Q) (.ref D) s3.heap.objs.size) s4 := by
    refine dc2_out (foldj ce) (fun n s' => ∃ i H', Inv (X.blk s3 H3 sc ce fp) [] (wipe σ (own.map (·.2))) H' s' ∧ tn i s'.heap ∧ (∀ b ∈ fp, H' b = none) ∧ W i n H') ?_ m0 ⟨0, H3, I4, st4, nfp, hw0⟩
    rintro n s5 ⟨i, H5, I5, st5, n5, w5⟩
    rcases turn i n H5 w5 with ⟨stop, qq⟩ | ⟨go, Nx, hNx, step⟩
    · refine thnF (T.done (X.blk s3 H3 sc ce fp) rfl rfl rfl calm i [] s5 _ H5 (fun _ _ => False) I5 (B0 n5 I5) st5 stop) fun r s6 ⟨hr, I6⟩ => ?_
      subst hr
      have I7 : Inv X pins σ H5 s6 := I3.call' (ch := fp) I6.os I6.base I6.hok I6.bare fun b hb =>
        let z := (f3 b hb).1.2
        ⟨z.2.2.1, z.1, z.2.2.2.1, z.2.2.2.2⟩
      have nC : H5 s3.heap.objs.size = none := by rw [← cL]; exact I6.free
      obtain ⟨m, hn, _⟩ := I6.loc
      have hn : s6.heap.Ns s3.heap.objs.size m := by rw [← cL]; exact hn
      obtain ⟨f0, f1, _, f3', f4, f5⟩ := I3.fpOk (Nat.le_refl _) nC
      exact ⟨m, hn, fun h'' sb => ⟨.ref D, H5, I7.turned (t' := s6.toks) (fun b o hb e => (sb.2 b hb).trans e) f0 f1 f3' f4 f5, rfl, qq⟩⟩
    · refine thnF (T.item (X.blk s3 H3 sc ce fp) rfl rfl rfl calm i [] s5 _ H5 (fun _ _ => False) I5 (B0 n5 I5) st5 go) fun r s6 ⟨u, hr, h6⟩ => ?_
      subst hr
      refine thnF h6 fun _ s7 ⟨x, H7, I7, r7, y7, st7, n7⟩ => ?_
      have I7' := I7.pinned (B0 n7 I7) (T.obj _ _ st7)
      refine thnF (pg.run _ s7 _ H7 x u _ I7' r7 (step x H7 y7)) fun _ s8 ⟨σ8, H8, I8, hw8, q8⟩ => ?_
      refine thnF (pt.run _ s8 σ8 H8 _ I8 q8) fun b s9 ⟨H9, I9, q9⟩ => ?_
      have len8 : (wipe σ (own.map (·.2))).length = σ8.length := by rw [← hw8, wipe_length]
      have back : ∀ {σ9 : L2.St} {s' : Shared} {H' : Hp}, Inv (X.blk s3 H3 sc ce fp) ([] ++ pinsAt fp s7.heap) σ9 H' s' → (wipe σ (own.map (·.2))).length = σ9.length → (∀ (j : Nat) v, (wipe σ (own.map (·.2)))[j]? = some (some v) → σ9[j]? = some (some v)) → Nx H' →
          ∃ m, m < n ∧ ∃ i H', Inv (X.blk s3 H3 sc ce fp) [] (wipe σ (own.map (·.2))) H' s' ∧ tn i s'.heap ∧ (∀ b ∈ fp, H' b = none) ∧ W i m H' := fun {σ9 s' H'} I' hl hk nx => by
        obtain ⟨m', hm, w'⟩ := hNx H' nx
        have stay : ∀ b ∈ fp, ∀ o, s7.heap.get? b = some o → s'.heap.get? b = some o ∧ H' b = none := fun b hb o e => by
          have z := I'.pin (b, o) (List.mem_append_right _ (List.mem_append_right _ (mem_pinsAt hb e)))
          exact ⟨z.1, z.2.1⟩
        refine ⟨m', hm, i + 1, H', (I'.unpinned (pins := [])).weak hl hk, T.keep _ _ _ st7 fun b hb o e => (stay b hb o e).1, fun b hb => ?_, w'⟩
        obtain ⟨o, e, _⟩ := T.obj _ _ st7 b hb
        exact (stay b hb o e).2
      have k8 : ∀ (j : Nat) v, (wipe σ (own.map (·.2)))[j]? = some (some v) → σ8[j]? = some (some v) := fun j v e => by
        rw [← hw8] at e
        exact (wipe_some e).1
      have k9 : ∀ (j : Nat) v, (wipe σ (own.map (·.2)))[j]? = some (some v) → (wipe σ8 vj)[j]? = some (some v) := fun j v e => by
        rw [← hw8] at e
        obtain ⟨e1, e2⟩ := wipe_some e
        rw [wipe_out fun z => e2 (hv j z)]
        exact e1
      match b, q9 with
      | false, q9 =>
        exact back I9 len8 k8 (by simpa using q9)
      | true, q9 =>
        rw [if_pos rfl] at q9 ⊢
        refine thnF (pj.run _ s9 σ8 H9 _ I9 q9) fun xv s10 hx => thnF hx fun itv s11 h11 => ?_
        obtain ⟨i1, fp1, tn1, J1, H11, e1, I11, T1, st11, f11, W1, ⟨m1, w1⟩, turn1⟩ := h11
        subst e1
        have B1 : ∀ {H' : Hp}, (∀ b ∈ fp1, H' b = none) → ∀ b ∈ fp1, FpOk (X.blk s3 H3 sc ce fp) ([] ++ pinsAt fp s7.heap) H' b := fun hn b hb => ⟨hn b hb, (f11 b hb).2⟩
        have loop1 : codeAny (model X.prog X.w) X.A (.compLoop (dc2E kx vx ta ia fa tb ib fb sc at0) 1 (.ref i1) (.ref D) ce)
            (fun r s' => match r with
              | .ok _ => ∃ m, m < n ∧ ∃ i H', Inv (X.blk s3 H3 sc ce fp) [] (wipe σ (own.map (·.2))) H' s' ∧ tn i s'.heap ∧ (∀ b ∈ fp, H' b = none) ∧ W i m H'
              | .error _ => False) s11 := by
          refine dc2_in (fun k s' => ∃ j H', Inv (X.blk s3 H3 sc ce fp) ([] ++ pinsAt fp s7.heap) (wipe σ8 vj) H' s' ∧ tn1 j s'.heap ∧ (∀ b ∈ fp1, H' b = none) ∧ W1 j k H') ?_ m1 ⟨0, H11, I11.weak (wipe_length _ _) (fun j v e => (wipe_some e).1), st11, fun b hb => (f11 b hb).1, w1⟩
          rintro k s12 ⟨j, H12, I12, st12, n12, w12⟩
          rcases turn1 j k H12 w12 with ⟨stop1, nx1⟩ | ⟨go1, Ny, hNy, step1⟩
          · refine thnF (T1.done (X.blk s3 H3 sc ce fp) rfl rfl rfl calm j _ s12 (wipe σ8 vj) H12 (fun _ _ => False) I12 (B1 n12) st12 stop1) fun r s13 ⟨hr, I13⟩ => ?_
            subst hr
            exact back I13 (len8.trans (wipe_length σ8 vj).symm) k9 nx1
          · refine thnF (T1.item (X.blk s3 H3 sc ce fp) rfl rfl rfl calm j _ s12 (wipe σ8 vj) H12 (fun _ _ => False) I12 (B1 n12) st12 go1) fun r s13 ⟨u1, hr, h13⟩ => ?_
            subst hr
            refine thnF h13 fun _ s14 ⟨x1, H14, I14, r14, y14, st14, n14⟩ => ?_
            have I14' := I14.pinned (B1 n14) (T1.obj _ _ st14)
            refine thnF (pgj.run _ s14 (wipe σ8 vj) H14 x1 u1 _ I14' r14 (step1 x1 H14 y14)) fun _ s15 ⟨σ15, H15, I15, hw15, q15⟩ => ?_
            refine thnF (ptj.run _ s15 σ15 H15 _ I15 q15) fun b1 s16 ⟨H16, I16, q16⟩ => ?_
            have back1 : ∀ {s' : Shared} {H' : Hp}, Inv (X.blk s3 H3 sc ce fp) (([] ++ pinsAt fp s7.heap) ++ pinsAt fp1 s14.heap) σ15 H' s' → Ny H' → ∃ m, m < k ∧ ∃ j H', Inv (X.blk s3 H3 sc ce fp) ([] ++ pinsAt fp s7.heap) (wipe σ8 vj) H' s' ∧ tn1 j s'.heap ∧ (∀ b ∈ fp1, H' b = none) ∧ W1 j m H' := fun {s' H'} I' nx => by
              obtain ⟨m', hm, w'⟩ := hNy H' nx
              have stay : ∀ b ∈ fp1, ∀ o, s14.heap.get? b = some o → s'.heap.get? b = some o ∧ H' b = none := fun b hb o e => by
                have z := I'.pin (b, o) (List.mem_append_right _ (List.mem_append_right _ (mem_pinsAt hb e)))
                exact ⟨z.1, z.2.1⟩
              refine ⟨m', hm, j + 1, H', I'.unpinned.weak (by rw [← hw15, wipe_length]) (fun j v e => by rw [← hw15] at e; exact (wipe_some e).1), T1.keep _ _ _ st14 fun b hb o e => (stay b hb o e).1, fun b hb => ?_, w'⟩
              obtain ⟨o, e, _⟩ := T1.obj _ _ st14 b hb
              exact (stay b hb o e).2
            match b1, q16 with
            | false, q16 => exact back1 I16 (by simpa using q16)
            | true, q16 =>
              rw [if_pos rfl] at q16 ⊢
              refine thnF (pk.run _ s16 σ15 H16 _ I16 q16) fun z s17 ⟨yk, H17, I17, r17, q17⟩ => ?_
              refine thnF (pe.run _ s17 σ15 H17 _ I17 q17) fun z2 s18 ⟨yv, H18, I18, r18, kvs, kk, p, ek, hp18, hD18, hz18, nx⟩ => ?_
              subst ek
              exact dt_store (X := X.blk s3 H3 sc ce fp) hu I18 hD18 hp18 hz18 r17 r18 fun s19 I19 => back1 I19 nx
        exact dc2_start loop1 (T1.self X.A 0 _ _ _ st11 loop1)
  exact codeAny_compStart_dict loop (T.self X.A 0 _ _ _ st4 loop)
/-- the first clause over a range -/
theorem dc2_outer {lo : Int} {n : Nat} {g gj : TG} {tt tj : TT} {wj : TI} {tk tv : TE} {vs vj : List Nat} {σ : L2.St} {H1 : Hp} {D : Addr} {Qd : Hp → Prop}
    (Pv : Nat → Hp → Prop) (h0 : Pv 0 (upd H1 D (.dT [])))
    (hs : ∀ i G, i < n → Pv i G → g (.int (lo + i)) (wipe σ vs) G fun σ2 H2 => wipe σ2 vs = wipe σ vs ∧ tt σ2 H2 fun b H3 =>
      if b = true then wj σ2 H3 fun Jj H4 =>
        ∃ Wj : Nat → Nat → Hp → Prop, (∃ m, Wj 0 m H4) ∧ ∀ j k G, Wj j k G →
          (Jj.stop j G ∧ Pv (i + 1) G) ∨
          (Jj.go j G ∧ ∃ Ny : Hp → Prop, (∀ G', Ny G' → ∃ k', k' < k ∧ Wj (j + 1) k' G') ∧ ∀ x G', Jj.yld j G x G' →
            gj x (wipe σ2 vj) G' fun σ3 H5 => wipe σ3 vj = wipe σ2 vj ∧ tj σ3 H5 fun b H6 =>
              if b = true then tk σ3 H6 fun y H7 => tv σ3 H7 fun z H8 =>
                ∃ kvs k p, y = .ref p ∧ H8 p = some (.tup (k.map kV)) ∧ H8 D = some (.dT kvs) ∧ kvs.length < sizeLine ∧ Ny (upd H8 D (.dT (putK kvs k z)))
              else Ny H6)
      else Pv (i + 1) H3) (hd : ∀ G, Pv n G → Qd G) :
    ∃ W : Nat → Nat → Hp → Prop, (∃ m, W 0 m (upd H1 D (.dT []))) ∧ ∀ i m G, W i m G →
      ((Itr lo n).stop i G ∧ Qd G) ∨
      ((Itr lo n).go i G ∧ ∃ Nx : Hp → Prop, (∀ G', Nx G' → ∃ m', m' < m ∧ W (i + 1) m' G') ∧ ∀ x G', (Itr lo n).yld i G x G' →
        g x (wipe σ vs) G' fun σ2 H2 => wipe σ2 vs = wipe σ vs ∧ tt σ2 H2 fun b H3 =>
          if b = true then wj σ2 H3 fun Jj H4 =>
            ∃ Wj : Nat → Nat → Hp → Prop, (∃ m, Wj 0 m H4) ∧ ∀ j k G, Wj j k G →
              (Jj.stop j G ∧ Nx G) ∨
              (Jj.go j G ∧ ∃ Ny : Hp → Prop, (∀ G', Ny G' → ∃ k', k' < k ∧ Wj (j + 1) k' G') ∧ ∀ x G', Jj.yld j G x G' →
                gj x (wipe σ2 vj) G' fun σ3 H5 => wipe σ3 vj = wipe σ2 vj ∧ tj σ3 H5 fun b H6 =>
                  if b = true then tk σ3 H6 fun y H7 => tv σ3 H7 fun z H8 =>
                    ∃ kvs k p, y = .ref p ∧ H8 p = some (.tup (k.map kV)) ∧ H8 D = some (.dT kvs) ∧ kvs.length < sizeLine ∧ Ny (upd H8 D (.dT (putK kvs k z)))
                  else Ny H6)
          else Nx H3) := by
  refine ⟨fun i m G => m = n - i ∧ (i ≤ n ∧ Pv i G), ⟨n, (Nat.sub_zero n).symm, Nat.zero_le n, h0⟩, ?_⟩
  rintro i m G ⟨rfl, hi, p⟩
  by_cases c : i < n
  · refine .inr ⟨c, Pv (i + 1), fun G' p' => ⟨n - (i + 1), by omega, rfl, c, p'⟩, fun x G' y => ?_⟩
    obtain ⟨rfl, rfl⟩ := y
    exact hs i _ c p
  · have e : i = n := by omega
    subst e
    exact .inl ⟨Nat.le_refl _, hd G p⟩
/-- the second one over a range -/
theorem dc2_inner {lo : Int} {n : Nat} {gj : TG} {tj : TT} {tk tv : TE} {vj : List Nat} {σ2 : L2.St} {H4 : Hp} {D : Addr} {Nx : Hp → Prop}
    (Pw : Nat → Hp → Prop) (h0 : Pw 0 H4)
    (hs : ∀ j G, j < n → Pw j G → gj (.int (lo + j)) (wipe σ2 vj) G fun σ3 H5 => wipe σ3 vj = wipe σ2 vj ∧ tj σ3 H5 fun b H6 =>
      if b = true then tk σ3 H6 fun y H7 => tv σ3 H7 fun z H8 =>
        ∃ kvs k p, y = .ref p ∧ H8 p = some (.tup (k.map kV)) ∧ H8 D = some (.dT kvs) ∧ kvs.length < sizeLine ∧ Pw (j + 1) (upd H8 D (.dT (putK kvs k z)))
      else Pw (j + 1) H6) (hd : ∀ G, Pw n G → Nx G) :
    ∃ Wj : Nat → Nat → Hp → Prop, (∃ m, Wj 0 m H4) ∧ ∀ j k G, Wj j k G →
      ((Itr lo n).stop j G ∧ Nx G) ∨
      ((Itr lo n).go j G ∧ ∃ Ny : Hp → Prop, (∀ G', Ny G' → ∃ k', k' < k ∧ Wj (j + 1) k' G') ∧ ∀ x G', (Itr lo n).yld j G x G' →
        gj x (wipe σ2 vj) G' fun σ3 H5 => wipe σ3 vj = wipe σ2 vj ∧ tj σ3 H5 fun b H6 =>
          if b = true then tk σ3 H6 fun y H7 => tv σ3 H7 fun z H8 =>
            ∃ kvs k p, y = .ref p ∧ H8 p = some (.tup (k.map kV)) ∧ H8 D = some (.dT kvs) ∧ kvs.length < sizeLine ∧ Ny (upd H8 D (.dT (putK kvs k z)))
          else Ny H6) := by
  refine ⟨fun j m G => m = n - j ∧ (j ≤ n ∧ Pw j G), ⟨n, (Nat.sub_zero n).symm, Nat.zero_le n, h0⟩, ?_⟩
  rintro j m G ⟨rfl, hi, p⟩
  by_cases c : j < n
  · refine .inr ⟨c, Pw (j + 1), fun G' p' => ⟨n - (j + 1), by omega, rfl, c, p'⟩, fun x G' y => ?_⟩
    obtain ⟨rfl, rfl⟩ := y
    exact hs j _ c p
  · have e : j = n := by omega
    subst e
    exact .inl ⟨Nat.le_refl _, hd G p⟩
end Fo
namespace Fo
open PySem PySem.Spec PyProof.Rows L2
/-! dicts keyed by tuples: ==, dict(pairs), values(), clear() -/
section
variable {prog : Program} {w : World} {K : Type} [DecidableEq K] {knd : HeapKind prog w K} {A : Around} {E : Value → Shared → Prop} {s : Shared}
theorem same_pairsH {nm : String} {a b : Addr} {xa xb : List (K × Addr × Value)} {Q : Bool → Shared → Prop} (hu : knd.room A) (ha : (a == sysModules) = false) (hb : (b == sysModules) = false)
    (da : s.heap.DictOfH knd a xa) (db : s.heap.DictOfH knd b xb) (hl : xa.length = xb.length)
    (hits : ∀ k p v, (k, p, v) ∈ xa → ∃ q y, atKey xb k = some (q, y) ∧ SeqAt.EqAt A s v y true) (h : Q true s) :
    wpAny (model prog w) A (Builtin.Dict.samePairs nm a b) Q E s := by
  obtain ⟨oa, es, ep, hoa, _, hda, hea, hisa, _⟩ := da
  obtain ⟨ob, es', ep', hob, _, hdb, heb, hisb, hnb⟩ := db
  have za := size_of_entries hea
  have zb := size_of_entries heb
  unfold Builtin.Dict.samePairs Builtin.Dict.showsAll
  have neg : ∀ {c : Addr}, (c == sysModules) = false → ¬ (c == sysModules) = true := fun e z => by rw [e] at z; cases z
  rw [if_neg (neg ha), if_neg (neg hb)]
  refine wpAny_bind (wpAny_pure (wpAny_bind (wpAny_pure (wpAny_bind (wpAny_dictEntries hoa hda ?_)))))
  dsimp only
  refine wpAny_bind (wpAny_dictEntries hob hdb ?_)
  rw [if_neg (by rw [za, zb, hl]; simp)]
  refine wpAny_bind (wpAny_dictEpoch hoa hda (wpAny_bind ?_))
  rw [Std.Legacy.Range.forIn_eq_forIn_range']
  simp only [Std.Legacy.Range.size, Nat.sub_zero, Nat.add_sub_cancel, Nat.div_one]
  refine wpAny_forIn_list _ (fun rest q s' => s' = s ∧ q = (none, ()) ∧ ∃ i, rest = List.range' i (es.size - i) ∧ i ≤ es.size) _ ?_ ?_ _ _ ⟨rfl, rfl, 0, by simp, Nat.zero_le _⟩
  · rintro x rest q s' ⟨rfl, rfl, i, hr, hi⟩
    obtain ⟨hlt, rfl, hrest⟩ : i < es.size ∧ x = i ∧ rest = List.range' (i + 1) (es.size - (i + 1)) := by
      rcases Nat.lt_or_ge i es.size with g | g
      · refine ⟨g, ?_⟩
        rw [show es.size - i = (es.size - (i + 1)) + 1 by omega, List.range'_succ] at hr
        injection hr with h1 h2
        exact ⟨h1, h2⟩
      · rw [Nat.sub_eq_zero_of_le g] at hr
        cases hr
    refine wpAny_bind (wpAny_dictEntries hoa hda ?_)
    obtain ⟨⟨k, p, v⟩, hkv⟩ : ∃ z, xa[x]? = some z := ⟨_, List.getElem?_eq_getElem (by omega)⟩
    have hex : es[x]? = some ⟨knd.hash k, .ref p, v⟩ := by rw [entry_at hea x, hkv]; rfl
    rw [hex]
    obtain ⟨q', y, hq, he⟩ := hits k p v (List.mem_of_getElem? hkv)
    show wpAny _ _ (holding [Value.ref p, v] _ >>= _) _ _ _
    refine wpAny_bind (wpAny_holding (wpAny_bind (wpAny_dictFind_heap hu (hisa _ (List.mem_of_getElem? hkv)) hob hdb heb hisb hnb (fun hno => ?_) (fun j pp hj => ?_))))
    · rw [atKey_none_of_get hno] at hq
      cases hq
    · rw [atKey_of_get hnb hj] at hq
      cases hq
      refine wpAny_bind (wpAny_dictEntries hob hdb ?_)
      rw [entry_at heb j, hj]
      refine wpAny_holding (he prog w _ _ ?_)
      show wpAny _ _ (if (!true) = true then _ else _) _ _ _
      rw [if_neg (by decide)]
      refine wpAny_bind (wpAny_dictEpoch hoa hda ?_)
      rw [if_neg (by simp)]
      exact wpAny_pure ⟨rfl, rfl, x + 1, hrest, hlt⟩
  · rintro q s' ⟨rfl, rfl, i, hr, hi⟩
    exact wpAny_pure h
theorem ne_dictsH {a b : Addr} {xa xb : List (K × Addr × Value)} {Q : Value → Shared → Prop} (hr : knd.room A.in1) (hu : A.units < cLine) (ha : (a == sysModules) = false) (hb : (b == sysModules) = false)
    (da : s.heap.DictOfH knd a xa) (db : s.heap.DictOfH knd b xb) (hl : xa.length = xb.length)
    (hits : ∀ k p v, (k, p, v) ∈ xa → ∃ q y, atKey xb k = some (q, y) ∧ SeqAt.EqAt A.in1 s v y true) (h : Q (.bool false) s) :
    wpAny (model prog w) A (compareOp .NotEq (.ref a) (.ref b)) Q E s := by
  refine wpAny_richCompare_same_room (op := .NotEq) da.typeIs db.typeIs PySem.F.slot_dict_ne (wpAny_call_entry PySem.F.slot_dict_ne da.typeIs PySem.F.entry_dict_ne ?_ (PySem.F.args_dict_ne_2 _ _)) hu
  show wpAny _ _ (Builtin.Dict.dictSlotArgs "__ne__" ⟨[.ref a, .ref b], []⟩ >>= _) _ _ s
  refine wpAny_bind ?_
  unfold Builtin.Dict.dictSlotArgs
  refine wpAny_bind (wpAny_notOrdered_dict da.typeIs ?_)
  show wpAny _ _ (pure (Value.ref a, Value.ref b)) _ _ s
  refine wpAny_pure (wpAny_bind (wpAny_isInstance (T := "dict") db.typeIs PySem.F.sub_dict_dict ?_))
  simp only [Bool.not_true, Bool.false_eq_true, if_false]
  refine wpAny_bind (wpAny_pure (wpAny_bind (wpAny_pure (wpAny_bind (same_pairsH hr ha hb da db hl hits (wpAny_pure ⟨_, rfl, ?_, ?_⟩))))))
  · exact fun x => nomatch x
  · simpa using h
end
section
variable {X : Cx}
theorem pairs_mem {α β : Type} {G : α → β → Prop} {l : List α} {m : List β} (h : Paired G l m) : ∀ y ∈ m, ∃ x ∈ l, G x y := by
  induction h with
  | nil => intro y hy; cases hy
  | @cons a b l m r t ih =>
    intro y hy
    rcases List.mem_cons.mp hy with rfl | hy
    · exact ⟨a, List.mem_cons_self, r⟩
    · obtain ⟨x, hx, g⟩ := ih y hy
      exact ⟨x, List.mem_cons_of_mem _ hx, g⟩
/-- != of two dicts that are the same, whatever the order of their keys -/
def rNeDT : R2 := fun x y H Q => ∃ a b ks ls, x = .ref a ∧ y = .ref b ∧ H a = some (.dT ks) ∧ H b = some (.dT ls) ∧ ks.length = ls.length ∧ (∀ p ∈ ks, valV ls p.1 = some p.2 ∧ flatB p.2 = true) ∧ Q (.bl false) H
theorem op_neDT (hu : X.A.units + 1 < cLine) : OpR X (compareOp .NotEq) rNeDT := by
  intro pins s σ H x y v u Q I rx ry h
  obtain ⟨a, b, ks, ls, rfl, rfl, ea, eb, hlen, hp, q⟩ := h
  obtain rfl : v = Value.ref a := rx
  obtain rfl : u = Value.ref b := ry
  obtain ⟨_, ya, xa, ra, da⟩ := dt_of I.hok ea
  obtain ⟨_, yb, xb, rb, db⟩ := dt_of I.hok eb
  refine ne_dictsH (tupleKind_room_in1 hu) (by omega) ya yb da db (by rw [← Paired.length ra, ← Paired.length rb]; exact hlen) (fun k p v m => ?_) ⟨.bl false, H, I, rfl, q⟩
  obtain ⟨⟨k', x⟩, hx, e1, e2, e3⟩ := pairs_mem ra _ m
  obtain rfl : k' = k := e1
  obtain ⟨g1, g2⟩ := hp _ hx
  have rr : RelO (some x) ((atKey xb k').map (·.2)) := by rw [← g1]; exact rb.val k'
  obtain ⟨y, hy, ry⟩ := rr.some_of
  obtain ⟨⟨q', y'⟩, hq, rfl⟩ := Option.map_eq_some_iff.mp hy
  exact ⟨q', y', hq, eqAt_same e3 ry g2⟩
theorem kt_new {P : Program} {w : World} {H : Hp} {h : Heap} {a : Addr} {kvs : List (List Key × V)} {xs : List (List Key × Addr × Value)} (z : kvs.length ≤ sizeLine) (hd : (a == sysModules) = false) (rel : KT H kvs xs) (dd : h.DictOfH (tupleKind (mixKind P w)) a xs) : ObjOk P w H h a (.dT kvs) := by
  obtain ⟨o, es, ep, h1, h2, h3, h4, _, h5⟩ := dd
  exact ⟨z, hd, xs, rel, o, es, ep, h1, h2, h3, h4, h5⟩
/-- d.clear() -/
def rClearT : V → List V → Hp → VK → Prop := fun x xs H Q => ∃ (a : Addr) (kvs : List (List L2.Key × V)), x = .ref a ∧ xs = [] ∧ H a = some (.dT kvs) ∧ Q .non (upd H a (.dT []))
theorem mt_clearT : MtR X "dict.clear" rClearT := by
  intro pins s σ H x xs v us Q I rx rxs h
  obtain ⟨a, kvs, rfl, rfl, ha, q⟩ := h
  cases rx
  cases rxs
  obtain ⟨z, hd, ys, rel, dd⟩ := dt_of I.hok ha
  refine clear_keyed (kvs := pairsH ys) (knd := tupleKind (mixKind X.prog X.w)) ⟨ys, dd, rfl⟩ (fun h' dd' hs => ?_) (by rw [pairsH_length, ← Paired.length rel]; exact z)
  obtain ⟨zs, dz, ez⟩ := dd'
  have hz : zs = [] := by
    cases zs with
    | nil => rfl
    | cons a l => cases ez
  subst hz
  have he : ∃ q, h'.get? a = some q := let ⟨q, _, _, hq, _⟩ := dz; ⟨q, hq⟩
  exact ⟨.non, _, d_write (t' := s.toks) I (by rw [ha]; exact True.intro) hs he (kt_new (Nat.zero_le _) hd .nil dz), rfl, q⟩
/-- the values of the locked dict at d -/
def ItdT (d : Addr) (o : Obj) (kvs : List (List Key × V)) : It :=
  ⟨fun i H => H d = some (.frz o (.dT kvs)) ∧ i < kvs.length, fun i H x H' => H' = H ∧ ∃ k, kvs[i]? = some (k, x), fun i H => H d = some (.frz o (.dT kvs)) ∧ kvs.length ≤ i⟩
theorem frz_vals {pins : List (Addr × Obj)} {σ : L2.St} {H : Hp} {s : Shared} {d : Addr} {o : Obj} {kvs : List (List Key × V)} (I : Inv X pins σ H s) (h : H d = some (.frz o (.dT kvs))) :
    (d == sysModules) = false ∧ s.heap.get? d = some o ∧ o.ExactDict ∧ ∃ (es : Array DictEntry) (ep : Nat), o.data = .dict es ep ∧ es.size = kvs.length ∧
      ∀ (i : Nat) (hi : i < es.size) (k : List Key) (v : V), kvs[i]? = some (k, v) → RelV v es[i].val := by
  obtain ⟨hd, z, hs, xs, pr, o', es, ep, ho, hx, hdt, he, _⟩ := I.hok d _ h
  rw [hd] at ho
  cases ho
  refine ⟨hs, hd, hx, es, ep, hdt, ?_, fun i hi k v e => ?_⟩
  · rw [size_of_entries he, Paired.length pr]
  · obtain ⟨b, hb, _, _, e3⟩ := paired_get pr e
    have q := entry_at he i
    rw [hb, Array.getElem?_eq_getElem hi] at q
    have q' := Option.some.inj q
    rw [q']
    exact e3
section
variable {P : Program} {w : World} {K : PySem.W.Frag} {tg : Expr} {d : Addr} {o : Obj} {es : Array DictEntry} {ep : Nat}
theorem turn_valsT {kvs : List (List Key × V)} (it : Addr) (hod : o.data = .dict es ep) : Turn P w K tg (ItdT d o kvs) [it] it (fun i h => h.IsValIter it d i kvs.length ep) where
  mem := by simp
  obj := fun i h st b hb => by
    obtain rfl : b = it := by simpa using hb
    obtain ⟨oi, e, c, dd⟩ := st
    exact ⟨oi, e, fun v z => by rw [dd] at z; cases z⟩
  keep := fun i h h' st k => st.at fun oi e => k it (by simp) oi e
  item := by
    intro X hP hw hK hc i pins s σ H E I hf st hg
    subst hP hw hK
    obtain ⟨hd, hi⟩ := hg
    obtain ⟨f0, f1, f2, f3, f4, f5⟩ := hf it (by simp)
    obtain ⟨hs, hgd, hx, es', ep', hdt, hsz, ent⟩ := frz_vals I hd
    obtain ⟨rfl, rfl⟩ := dict_ep hod hdt
    obtain ⟨⟨k, v⟩, hkv⟩ : ∃ p, kvs[i]? = some p := ⟨kvs[i], List.getElem?_eq_getElem hi⟩
    rw [← hsz] at st
    have hi' : i < es'.size := by omega
    refine wpAny_pyNext_values_item_raw st ⟨o, hgd, hx, hdt⟩ hi' fun h' st' sb => ?_
    have J : Inv X pins σ H { s with heap := h' } := I.turned (t' := s.toks) (fun b ob hb e => (sb.2 b hb).trans e) f0 f1 f3 f4 f5
    obtain ⟨oi, e, c, dd⟩ := id st'
    refine ⟨es'[i].val, rfl, go_of (s := { s with heap := h' }) e c dd (by decide) ⟨v, H, J, ent i hi' k v hkv, ⟨rfl, k, hkv⟩, ?_, fun b hb => (hf b hb).1⟩⟩
    show h'.IsValIter it d (i + 1) kvs.length _
    rw [← hsz]
    exact st'
  done := by
    intro X hP hw hK hc i pins s σ H E I hf st hg
    subst hP hw hK
    obtain ⟨hd, hi⟩ := hg
    obtain ⟨f0, f1, f2, f3, f4, f5⟩ := hf it (by simp)
    obtain ⟨hs, hgd, hx, es', ep', hdt, hsz, ent⟩ := frz_vals I hd
    obtain ⟨rfl, rfl⟩ := dict_ep hod hdt
    rw [← hsz] at st
    exact wpAny_pyNext_values_end_raw (I.ok.hd hc) st ⟨o, hgd, hx, hdt⟩ (by omega) fun h' eb => ⟨rfl, I.turned (t' := s.toks) (fun b ob hb e => eb b ob hb e) f0 f1 f3 f4 f5⟩
  self := fun A i s Q E st h => wpAny_pyIter_valiter st h
end
def iValsT (td : TE) : TI := fun σ H R => td σ H fun x H1 => ∃ d o kvs, x = .ref d ∧ H1 d = some (.frz o (.dT kvs)) ∧ R (ItdT d o kvs) H1
theorem pi_valuesT {tg e : Expr} {td : TE} {apos cpos : Pos} (he : PE X e td) (hbase : attributeBase e "values" X.env (eval e X.env) = eval e X.env := by rfl) (hline : (apos.endLine == cpos.line) = true := by rfl) :
    PI X tg (.Call (.Attribute e "values" apos) [] [] cpos) (iValsT td) := by
  refine ⟨fun pins s σ H R I h => ?_⟩
  refine wpAny_Call_method (T := "dict") (id := "dict.values") hbase rfl hline F.plainAttrs_dict F.slot_dict_values F.type_dict_values (thn (he.run pins s σ H _ I h) fun u s1 ⟨x, H1, I1, rx, d, o, kvs, ex, hd, q⟩ => ?_)
  subst ex
  obtain rfl : u = Value.ref d := rx
  obtain ⟨hs, hgd, hx, es, ep, hdt, hsz, ent⟩ := frz_vals I1 hd
  have raw : s1.heap.DictRaw d es ep := ⟨o, hgd, hx, hdt⟩
  refine ⟨raw.typeIs, fun a e => by cases e; exact ⟨o, hgd, hx.2.1⟩, ?_⟩
  have I2 : Inv X pins σ H1 { s1 with heap := s1.heap.push { cls := .type "dict_values", data := .fields #[.ref d] } } := I1.kept (t' := s1.toks) fun b ob q => Heap.get?_push_of_some _ q
  have fin : wpAny (model X.prog X.w) X.A (pyIter (.ref s1.heap.objs.size)) (PIE X pins σ tg R) X.xe { s1 with heap := s1.heap.push { cls := .type "dict_values", data := .fields #[.ref d] } } := by
    refine wpAny_pyIter_values_raw (d := d) (es := es) (ep := ep) ⟨_, Heap.get?_push_size _ rfl, rfl, rfl⟩ (raw.at fun o e => Heap.get?_push_of_some _ e) (pi_one (tk := s1.toks) I2 _ (turn_valsT _ hdt) ⟨_, Heap.get?_push_size _ rfl, rfl, ?_⟩ q)
    rw [← hsz] <;> rfl
  show wpAny _ _ (callWith cpos (.builtin "dict.values") [.ref d] [] []) _ X.xe s1
  exact method_meetsIn F.slot_dict_values F.entry_dict_values rfl (PySem.evalArgs_none ⟨rfl, raw.typeIs, F.args_dict_values_1 _, _, meets_dict_values_raw d hs, ⟨es, ep, raw⟩, fin⟩)
end
def mergeT (kvs more : List (List Key × V)) : List (List Key × V) := more.foldl (fun acc kv => putK acc kv.1 kv.2) kvs
theorem KT.merge {H : Hp} : ∀ {more : List (List Key × V)} {rs : List (List Key × Addr × Value)} {kvs : List (List Key × V)} {vs : List (List Key × Addr × Value)}, KT H more rs → KT H kvs vs → KT H (mergeT kvs more) (storedAllH vs rs)
  | _, _, _, _, .nil, h => h
  | _, _, _, _, .cons (a := kv) (b := x) ⟨h1, h2, h3⟩ t, h => by
    show KT H (mergeT (putK _ kv.1 kv.2) _) (storedAllH (storedH _ x.1 x.2.1 x.2.2) _)
    refine KT.merge t ?_
    rw [← h1]
    exact h.put kv.1 h2 h3
theorem length_mergeT : ∀ (more kvs : List (List Key × V)), (mergeT kvs more).length ≤ kvs.length + more.length
  | [], kvs => Nat.le_refl _
  | kv :: more, kvs => by
    have h1 := length_mergeT more (putK kvs kv.1 kv.2)
    have h2 := length_putK kvs kv.1 kv.2
    show (mergeT (putK kvs kv.1 kv.2) more).length ≤ _
    rw [List.length_cons]
    omega
section
variable {X : Cx}
/-- the pairs at ps: each a key's tuple and a value -/
theorem pairs_ofT {pins : List (Addr × Obj)} {σ : L2.St} {H : Hp} {s : Shared} (I : Inv X pins σ H s) : ∀ {ps : List Addr} {kvs : List (List Key × V)}, Paired (fun p kv => ∃ b, SqT X.K H p [.ref b, kv.2] ∧ H b = some (.tup (kv.1.map kV))) ps kvs →
    ∃ xs : List (List Key × Addr × Value), KT H kvs xs ∧ xs.length = ps.length ∧ ∀ (j : Nat) (x : List Key × Addr × Value), xs[j]? = some x → ∃ p, ps[j]? = some p ∧ IsTup s.heap p #[.ref x.2.1, x.2.2]
  | _, _, .nil => ⟨[], .nil, rfl, fun j q e => by simp at e⟩
  | _, _, .cons (a := p) (b := kv) ⟨b, h, hb⟩ t => by
    obtain ⟨xs, r, hl, hp⟩ := pairs_ofT I t
    obtain ⟨its, rv, ht, _⟩ := I.tuple h
    obtain ⟨u, y, ei, ru, ry⟩ := vals2 rv
    subst ei
    cases ru
    refine ⟨(kv.1, b, y) :: xs, .cons ⟨rfl, hb, ry⟩ r, by rw [List.length_cons, List.length_cons, hl], fun j q e => ?_⟩
    cases j with
    | zero =>
      have e' : (kv.1, b, y) = q := Option.some.inj e
      subst e'
      exact ⟨p, rfl, ht⟩
    | succ j =>
      obtain ⟨b, e1, e2⟩ := hp j q (by simpa using e)
      exact ⟨b, by simpa using e1, e2⟩
theorem u2_of {k : Nat} {A : Around} (r : Room k A) : A.units + 2 < cLine := by have := r.un; omega
/-- dict(xs) of a list of pairs whose keys are tuples -/
def rDictT (K : PySem.W.Frag) : List V → Hp → VK → Prop := fun xs H Q => ∃ (a : Addr) (ps : List Addr) (kvs : List (List Key × V)), xs = [.ref a] ∧ H a = some (.lst (ps.map V.ref)) ∧
  Paired (fun (p : Addr) (kv : List Key × V) => ∃ b, SqT K H p [V.ref b, kv.2] ∧ H b = some (.tup (kv.1.map kV))) ps kvs ∧ ∀ p, H p = none → Q (.ref p) (upd H p (.dT (mergeT [] kvs)))
theorem call_dictT (calm : X.calm = true) (hu : X.A.units + 2 < cLine) : CallR X (.type "dict") (rDictT X.K) := by
  intro pins s σ H xs us Q I r q
  obtain ⟨a, ps, kvs, ex, hq, hp, q⟩ := q
  subst ex
  obtain ⟨u, eu, rx⟩ := vals1 r
  subst eu
  cases rx
  obtain ⟨hz, its, n, rv, hg⟩ := I.hok a _ hq
  have ei := refs_at rv
  subst ei
  rw [List.length_map] at hz
  obtain ⟨ys, rel, hl, hpr⟩ := pairs_ofT I hp
  have hlk : kvs.length = ys.length := Paired.length rel
  let prs : List (Value × Value) := ys.map fun x => (Value.ref x.2.1, x.2.2)
  have hat : ∀ {j : Nat} {k v : Value}, prs[j]? = some (k, v) → ∃ x, ys[j]? = some x ∧ k = .ref x.2.1 ∧ v = x.2.2 := fun {j k v} e => by
    rw [List.getElem?_map] at e
    obtain ⟨x, hx, e⟩ := Option.map_eq_some_iff.mp e
    cases e
    exact ⟨x, hx, rfl, rfl⟩
  have stay : ∀ h', (∀ b o, s.heap.get? b = some o → h'.get? b = some o) → ∀ x ∈ ys, (tupleKind (mixKind X.prog X.w)).is h' x.1 x.2.1 := fun h' k x hx => by
    obtain ⟨kv, hkv, e1, e2, e3⟩ := pairs_mem rel x hx
    obtain ⟨o, its, n, h1, h2, h3, h4⟩ := key_of I.hok (by rw [← e1]; exact e2 : H x.2.1 = some (.tup (x.1.map kV)))
    exact ⟨o, its, n, k _ _ h1, h2, h3, h4⟩
  refine call_dict_pairsH (knd := tupleKind (mixKind X.prog X.w)) (ps := ys) (wr := []) (PairArg.list a (ps.map Value.ref).toArray (fun j => (ps[j]?).getD 0) prs) (I.ok.hd calm) hu
    ⟨⟨_, n, hg, rfl, rfl, rfl⟩, by simp [prs, hl], fun j k v e => ?_⟩ ⟨by simp [prs], fun i k v e => ?_⟩ (fun h' k x hx => ?_) (by simp only [prs, List.length_map]; omega) fun h' tk dd k => ?_
  · obtain ⟨x, hx, rfl, rfl⟩ := hat e
    obtain ⟨p, e1, e2⟩ := hpr j x hx
    refine ⟨by simp [e1], ?_⟩
    show PairAt s.heap ((ps[j]?).getD 0) _ _
    rw [e1]
    exact .inl e2
  · obtain ⟨x, hx, rfl, rfl⟩ := hat e
    exact ⟨x.1, x.2.1, hx, rfl⟩
  · exact stay h' (fun b o e => k b o (Nat.ne_of_lt (Heap.lt_size e)) (fun z => nomatch z) e) x hx
  · have hm : (s.heap.objs.size == sysModules) = false := beq_eq_false_iff_ne.mpr (Nat.ne_of_gt I.big)
    have hlen : (mergeT [] kvs).length ≤ sizeLine := by
      have := length_mergeT kvs []
      rw [List.length_nil, Nat.zero_add] at this
      omega
    have hf := I.hok.fresh (Nat.le_refl s.heap.objs.size)
    refine ⟨.ref s.heap.objs.size, upd H s.heap.objs.size (.dT (mergeT [] kvs)), I.laid (t' := tk) (fun b o e => k b o (fun z => nomatch z) e) (Nat.le_refl _) (kt_new hlen hm ((KT.merge rel .nil).keeps fun b ys e => ?_) dd), rfl, q _ hf⟩
    rw [upd_ne (ne_of_none e hf)]
    exact e
end
end Fo
namespace Fo
open PySem PySem.Spec PyProof.Rows L2
/-! ### a deck: a list of drawn numbers that never gets empty -/
def DqAt (H : Hp) (d : Addr) : Prop := ∃ ms : List Int, H d = some (.lst (ms.map V.int)) ∧ 1 ≤ ms.length ∧ ms.length ≤ 1200 ∧ ∀ m ∈ ms, 0 ≤ m ∧ m < 2147483648
def KeepD (d : Addr) (H H' : Hp) : Prop := ∀ b o, H b = some o → b ≠ d → H' b = some o
theorem KeepD.refl (d : Addr) (H : Hp) : KeepD d H H := fun _ _ e _ => e
theorem KeepD.trans {d : Addr} {H H1 H2 : Hp} (a : KeepD d H H1) (b : KeepD d H1 H2) : KeepD d H H2 := fun c o e f => b c o (a c o e f) f
theorem KeepD.of_same {d : Addr} {H H' : Hp} (h : Same H H') : KeepD d H H' := fun b o e _ => h b o e
theorem KeepD.new {d : Addr} {H : Hp} {p : Addr} {o : HO} (e : H p = none) : KeepD d H (upd H p o) := KeepD.of_same (same_new e)
theorem KeepD.none {d : Addr} {H H1 : Hp} (k : KeepD d H H1) {p : Addr} (np : H1 p = none) (nf : p ≠ d) : H p = none := by
  cases e : H p with
  | none => rfl
  | some o =>
    have z := k p o e nf
    rw [np] at z
    cases z
theorem DqAt.same {H H' : Hp} {d : Addr} (h : DqAt H d) (s : Same H H') : DqAt H' d := by
  obtain ⟨ms, e, r⟩ := h
  exact ⟨ms, s _ _ e, r⟩
theorem DqAt.ne {H : Hp} {d : Addr} (h : DqAt H d) {p : Addr} (e : H p = none) : p ≠ d := by
  obtain ⟨ms, e1, _⟩ := h
  exact (ne_of_none e1 e).symm
theorem DqAt.upd {H : Hp} {d : Addr} (h : DqAt H d) {p : Addr} {o : HO} (n1 : p ≠ d) : DqAt (upd H p o) d := by
  obtain ⟨ms, e, r⟩ := h
  exact ⟨ms, by rw [upd_ne n1.symm]; exact e, r⟩
theorem DqAt.new {H : Hp} {d : Addr} (h : DqAt H d) {p : Addr} {o : HO} (e : H p = none) : DqAt (L2.upd H p o) d := h.upd (h.ne e)
def spCell (K : PySem.W.Frag) : Sp := fun vs H Q _ => ∃ (a : Addr) (ns : List Int) (k : Nat), vs = [.ref a, .int k] ∧ SqL K H a (ns.map V.int) ∧ ∀ (v : Int), Q (.int v) H
def spStir : Sp := fun vs H Q _ => ∃ (c k : Int), vs = [.int c, .int k] ∧ 0 ≤ k ∧ k ≤ 1200 ∧ ∀ (v : Int), 0 ≤ v → v < 2147483648 → Q (.int v) H
def spDeckN : Sp := fun vs H Q _ => ∃ (c : Int) (many : Nat), vs = [.int c, .int many] ∧ 1 ≤ many ∧ many ≤ 1200 ∧ ∀ (d : Addr) (H' : Hp), H d = none → DqAt H' d → Same H H' → Q (.ref d) H'
def spNext : Sp := fun vs H Q _ => ∃ (d : Addr), vs = [.ref d] ∧ DqAt H d ∧ ∀ (v : Int) (H' : Hp), 0 ≤ v → v < 2147483648 → DqAt H' d → KeepD d H H' → Q (.int v) H'
def spOrderN : Sp := fun vs H Q _ => ∃ (d : Addr) (n : Nat), vs = [.ref d, .int n] ∧ DqAt H d ∧ n ≤ 12 ∧
  ∀ (ns : List Int) (l : Addr) (H' : Hp), IsOrd n ns → H l = none → H' l = some (.lst (ns.map V.int)) → l ≠ d → DqAt H' d → KeepD d H H' → Q (.ref l) H'
def spNearN : Sp := fun vs H Q _ => ∃ (d o : Addr) (n : Nat) (ns : List Int), vs = [.ref d, .ref o] ∧ DqAt H d ∧ H o = some (.lst (ns.map V.int)) ∧ IsOrd n ns ∧ 1 ≤ n ∧ n ≤ 12 ∧
  ∀ (ms : List Int) (l : Addr) (H' : Hp), IsOrd n ms → H l = none → H' l = some (.lst (ms.map V.int)) → l ≠ d → DqAt H' d → KeepD d H H' → Q (.ref l) H'
theorem mod_b (x : Int) {m : Int} (h : 0 < m) : 0 ≤ x % m ∧ x % m < m := ⟨Int.emod_nonneg x (by omega), Int.emod_lt_of_pos x h⟩
theorem mul_b {x y a b : Int} (hx : 0 ≤ x) (hxa : x ≤ a) (hy : 0 ≤ y) (hyb : y ≤ b) : 0 ≤ x * y ∧ x * y ≤ a * b := ⟨Int.mul_nonneg hx hy, Int.mul_le_mul hxa hyb hy (by omega)⟩
section
variable {P : Program} {w : World} {K : PySem.W.Frag} {mg : Str → Option Value} {base : Heap}
theorem scCell : FnScope ["script", "k"] ["script", "k"] (defScope s_law_cell_at) := ⟨rfl, rfl, rfl, by decide +kernel, rfl, by decide +kernel, by decide +kernel⟩
theorem ok_cell {f : Addr} {fd : FuncData} {k : Nat} (T : Df K mg "_law_cell_at" s_law_cell_at ["script", "k"] f fd) (B : Bi mg) : FnOk P w K mg base CX0 (k + 1) f fd ["script", "k"] (spCell K) := by
  refine T.F.ok scCell (fun vs H Q E h => ?_) (fun cdv A outer s H vs Q E hr h => ?_)
  · obtain ⟨a, ns, k, rfl, _⟩ := h
    rfl
  · obtain ⟨a, ns, k, rfl, hS, q⟩ := h
    refine ⟨_, 
      (pss_cons (ps_if (pt_cmpR op_lt (pv 1) (pe_callB call_len_seq (by rfl) B.len PySem.boot_len (pa_cons (pv 0) pa_nil)) (nomark _))
        (pss_one (ps_ret (pe_ix ix_list (pv 0) (pv 1) (fun _ _ => rfl))))
        pss_nil)
      (pss_one (ps_ret pe_int))), ?_⟩
    refine ⟨_, rfl, _, rfl, a, _, rfl, .inl hS, (k : Int), _, rfl, rfl, _, rfl, ite2 (fun c => ?_) (fun _ => q 0)⟩
    have hl : (k : Int) < (((ns.map V.int).length : Nat) : Int) := of_decide_eq_true c
    rw [List.length_map] at hl
    exact ⟨_, rfl, _, rfl, a, _, _, _, rfl, rfl, hS, at_of (j := k) rfl (int_at (List.getElem?_eq_getElem (show k < ns.length by omega))), q _⟩
theorem scStir : FnScope ["cell", "k", "one"] ["cell", "k"] (defScope s_law_stir) := ⟨rfl, rfl, rfl, by decide +kernel, rfl, by decide +kernel, by decide +kernel⟩
theorem ok_stir {f : Addr} {fd : FuncData} {k : Nat} (T : Df K mg "_law_stir" s_law_stir ["cell", "k"] f fd) (B : Bi mg) : FnOk P w K mg base CX0 (k + 1) f fd ["cell", "k"] spStir := by
  refine T.F.ok scStir (fun vs H Q E h => ?_) (fun cdv A outer s H vs Q E hr h => ?_)
  · obtain ⟨c, k, rfl, _⟩ := h
    rfl
  · obtain ⟨c, k, rfl, k0, k1, q⟩ := h
    refine ⟨_, 
      (Evl.pss_cut (ps_set (i := 2) scStir.nd rfl (.inl rfl) (pe_op op_mod (pe_op op_mul (pe_op op_add (pe_op op_add (pe_op op_mod (pv 0) pe_int) (pe_op op_mul pe_int (pv 1))) pe_int) pe_int) pe_int))
      (Evl.pss_cut (ps_set (i := 2) scStir.nd rfl (.inl rfl) (pe_op op_mod (pe_op op_mul (pv 2) (pv 2)) pe_int))
      (pss_one (ps_ret (pe_op op_fdiv (pe_op op_mod (pe_op op_mul (pe_op op_add (pv 2) (pe_op op_mul pe_int (pv 1))) pe_int) pe_int) pe_int))))), ?_⟩
    refine ⟨fun τ G => ∃ x : Int, 0 ≤ x ∧ x < 2147483647 ∧ τ = [some (.int c), some (.int k), some (.int x)] ∧ G = H, ?_, fun τ G hM => ?_⟩
    · exact ⟨_, rfl, c, 2147483629, rfl, rfl, (show (0 : Int) < 2147483629 by decide), _, rfl, 9973, k, rfl, rfl, .inl ⟨by decide, by decide⟩, _, _, rfl, rfl, _, 5, rfl, rfl, _, 48271, rfl, rfl, .inr ⟨by decide, by decide⟩, _, 2147483647, rfl, rfl, (show (0 : Int) < 2147483647 by decide), _, (mod_b _ (by decide)).1, (mod_b _ (by decide)).2, rfl, rfl⟩
    obtain ⟨x, x0, x1, rfl, e1⟩ := hM
    subst e1
    refine ⟨fun τ G' => ∃ y : Int, 0 ≤ y ∧ y < 2147483587 ∧ τ = [some (.int c), some (.int k), some (.int y)] ∧ G' = G, ?_, fun τ G' hM => ?_⟩
    · exact ⟨_, rfl, _, rfl, x, x, rfl, rfl, .inl ⟨by omega, by omega⟩, _, 2147483587, rfl, rfl, (show (0 : Int) < 2147483587 by decide), _, (mod_b _ (by decide)).1, (mod_b _ (by decide)).2, rfl, rfl⟩
    obtain ⟨y, y0, y1, rfl, e1⟩ := hM
    subst e1
    have h1 := mod_b ((y + 7919 * k) * 16807) (m := 2147483563) (by decide)
    exact ⟨_, rfl, _, rfl, 7919, k, rfl, rfl, .inl ⟨by decide, by decide⟩, _, _, rfl, rfl, _, 16807, rfl, rfl, .inr ⟨by decide, by decide⟩, _, 2147483563, rfl, rfl, (show (0 : Int) < 2147483563 by decide), _, 8, rfl, rfl, ⟨by decide, by decide⟩, q _ (by omega) (by omega)⟩
theorem scDeckN : FnScope ["cell", "many", "found", "digits", "k", "number"] ["cell", "many"] (defScope s_law_deck) := ⟨rfl, rfl, rfl, by decide +kernel, rfl, by decide +kernel, by decide +kernel⟩
set_option maxHeartbeats 2000000 in
theorem ok_deckN {f fS : Addr} {fd fdS : FuncData} {k : Nat} (T : Df K mg "_law_deck" s_law_deck ["cell", "many"] f fd) (T__law_stir : Df K mg "_law_stir" s_law_stir ["cell", "k"] fS fdS) (B : Bi mg) : FnOk P w K mg base CX0 (k + 2) f fd ["cell", "many"] spDeckN := by
  have G__law_stir : FnOk P w K mg base CX0 (k + 1) fS fdS ["cell", "k"] spStir := ok_stir T__law_stir B
  refine T.F.ok scDeckN (fun vs H Q E h => ?_) (fun cdv A outer s H vs Q E hr h => ?_)
  · obtain ⟨c, m, rfl, _⟩ := h
    rfl
  · obtain ⟨c, m, rfl, m1, m2, q⟩ := h
    refine ⟨_, 
      (pss_cons (ps_set (i := 2) scDeckN.nd rfl (.inl rfl) (pe_lst pa_nil))
      (pss_cons (ps_set (i := 3) scDeckN.nd rfl (.inl rfl) (pv 0))
      (pss_cons (ps_for PassesOwn.never rfl (pi_range1 (by rfl) B.range (pa_cons (pv 1) pa_nil)) (pg_name (i := 4) scDeckN.nd rfl (.inl rfl))
        (pss_cons (ps_set (i := 5) scDeckN.nd rfl (.inl rfl) (pe_call G__law_stir hr (by rfl) T__law_stir.g T__law_stir.F.kp T__law_stir.b .nil pass0 (pa_cons (pv 0) (pa_cons (pv 4) pa_nil))))
        (Evl.pss_cut (ps_if (pt_cmpR op_ge (pv 0) (pe_op op_pow pe_int pe_int) (nomark _))
          (pss_one (ps_set (i := 5) scDeckN.nd rfl (.inl rfl) (pe_op op_mod (pv 3) pe_int)))
          pss_nil)
        (pss_cons (ps_set (i := 3) scDeckN.nd rfl (.inl rfl) (pe_op op_fdiv (pv 3) pe_int))
        (pss_one (ps_expr (pe_bm PySem.F.plainAttrs_list PySem.F.slot_list_append PySem.F.type_list_append mt_append (pv 2) (pa_cons (pv 5) pa_nil))))))))
      (pss_one (ps_ret (pe_revL (pv 2))))))), ?_⟩
    refine ⟨line_small (by show 0 ≤ 16777216; decide), fun l nl => ⟨_, rfl, ?_⟩⟩
    refine ⟨_, rfl, m, rfl, by omega, by omega, ?_⟩
    rw [Int.toNat_natCast]
    refine for_range (n := m) (fun i σ H3 => ∃ (x : Int) (y4 y5 : Option V) (ms : List Int), σ = [some (.int c), some (.int m), some (.ref l), some (.int x), y4, y5] ∧ H3 l = some (.lst (ms.map V.int)) ∧ ms.length = i ∧ (∀ z ∈ ms, 0 ≤ z ∧ z < 2147483648) ∧ Same H H3)
      ⟨c, none, none, [], rfl, upd_same, rfl, (fun _ h => absurd h List.not_mem_nil), same_new nl⟩ (fun i σ H3 hi hP => ?_) (fun σ H3 hP => ?_)
    · obtain ⟨x, y4, y5, ms, rfl, hl3, el, hb, s3⟩ := hP
      refine ⟨_, rfl, _, rfl, c, _, rfl, by omega, by omega, fun v v0 v1 => ?_⟩
      refine ⟨fun τ G => ∃ z : Int, 0 ≤ z ∧ z < 2147483648 ∧ τ = [some (.int c), some (.int m), some (.ref l), some (.int x), some (.int (0 + (i : Int))), some (.int z)] ∧ G = H3, ?_, fun τ G hM => ?_⟩
      · refine ⟨_, rfl, 10, 18, rfl, rfl, ⟨by decide, by decide, by decide⟩, c, _, rfl, rfl, _, rfl, ite2 (fun _ => ?_) (fun _ => ⟨v, v0, v1, rfl, rfl⟩)⟩
        have h1 := mod_b x (m := 720720) (by decide)
        exact ⟨_, rfl, x, 720720, rfl, rfl, (show (0 : Int) < 720720 by decide), _, h1.1, by omega, rfl, rfl⟩
      obtain ⟨z, z0, z1, rfl, e1⟩ := hM
      subst e1
      refine ⟨_, rfl, x, 720720, rfl, rfl, ⟨by decide, by decide⟩, ?_⟩
      refine ⟨_, rfl, .inl ⟨rfl, _, SqL.of hl3⟩, _, rfl, l, _, _, rfl, rfl, hl3, line_lt (by rw [List.length_map]; omega), ?_⟩
      refine ⟨_, _, _, ms ++ [z], rfl, by rw [upd_same, List.map_append]; rfl, by rw [List.length_append, el]; rfl, fun u hu => ?_, fun b o e => ?_⟩
      · rcases List.mem_append.mp hu with h | h
        · exact hb u h
        · rw [List.mem_singleton.mp h]
          exact ⟨z0, z1⟩
      · rw [upd_ne (ne_of_none e nl)]
        exact s3 _ _ e
    · obtain ⟨x, y4, y5, ms, rfl, hl3, el, hb, s3⟩ := hP
      refine ⟨_, rfl, l, _, rfl, SqL.of hl3, fun p np => ?_⟩
      have hHp : H p = none := by
        cases e : H p with
        | none => rfl
        | some o =>
          have z := s3 p o e
          rw [np] at z
          cases z
      refine q p _ hHp ⟨ms.reverse, by rw [upd_same, List.map_reverse], by rw [List.length_reverse]; omega, by rw [List.length_reverse]; omega, fun z hz => hb z (List.mem_reverse.mp hz)⟩ (s3.trans (same_new np))
theorem scNext : FnScope ["deck"] ["deck"] (defScope s_law_next) := ⟨rfl, rfl, rfl, by decide +kernel, rfl, by decide +kernel, by decide +kernel⟩
set_option maxHeartbeats 2000000 in
theorem ok_next {f fS : Addr} {fd fdS : FuncData} {k : Nat} (T : Df K mg "_law_next" s_law_next ["deck"] f fd) (T__law_stir : Df K mg "_law_stir" s_law_stir ["cell", "k"] fS fdS) (B : Bi mg) : FnOk P w K mg base CX0 (k + 2) f fd ["deck"] spNext := by
  have G__law_stir : FnOk P w K mg base CX0 (k + 1) fS fdS ["cell", "k"] spStir := ok_stir T__law_stir B
  refine T.F.ok scNext (fun vs H Q E h => ?_) (fun cdv A outer s H vs Q E hr h => ?_)
  · obtain ⟨d, rfl, _⟩ := h
    rfl
  · obtain ⟨d, rfl, ⟨ms, hd, l1, l2, hb⟩, q⟩ := h
    refine ⟨_, 
      (Evl.pss_cut (ps_if (pt_cmpR op_eq (pe_callB call_len_seq (by rfl) B.len PySem.boot_len (pa_cons (pv 0) pa_nil)) pe_int (nomark _))
        (pss_one (ps_expr (pe_bm PySem.F.plainAttrs_list PySem.F.slot_list_insert PySem.F.type_list_insert mt_insert (pv 0) (pa_cons pe_int (pa_cons (pe_op op_mul (pe_call G__law_stir hr (by rfl) T__law_stir.g T__law_stir.F.kp T__law_stir.b .nil pass0 (pa_cons (pe_ix ix_list (pv 0) pe_int (fun _ _ => rfl)) (pa_cons pe_int pa_nil))) (pe_callTy call_int1 (by rfl) B.int (by decide +kernel) (pa_cons (pe_cmpR op_gt (pe_ix ix_list (pv 0) pe_int (fun _ _ => rfl)) pe_int (nomark _)) pa_nil))) pa_nil)))))
        pss_nil)
      (pss_one (ps_ret (pe_bm0 PySem.F.plainAttrs_list PySem.F.slot_list_pop PySem.F.type_list_pop mt_pop (pv 0))))), ?_⟩
    refine ⟨fun τ G => ∃ ks : List Int, τ = [some (.ref d)] ∧ G d = some (.lst (ks.map V.int)) ∧ 2 ≤ ks.length ∧ ks.length ≤ 1200 ∧ (∀ z ∈ ks, 0 ≤ z ∧ z < 2147483648) ∧ KeepD d H G, ?_, fun τ G hM => ?_⟩
    · refine ⟨_, rfl, d, _, rfl, .inl (SqL.of hd), rfl, _, rfl, ite2 (fun c => ?_) (fun c => ?_)⟩
      · have hl : ms.length = 1 := by
          have z : V.int (((ms.map V.int).length : Nat) : Int) = V.int 1 := of_decide_eq_true c
          have z2 : (((ms.map V.int).length : Nat) : Int) = 1 := V.int.inj z
          rw [List.length_map] at z2
          omega
        obtain ⟨x, rfl⟩ := List.length_eq_one_iff.mp hl
        have hx := hb x List.mem_cons_self
        refine ⟨_, rfl, .inl ⟨rfl, _, SqL.of hd⟩, _, rfl, d, _, 0, _, rfl, rfl, SqL.of hd, rfl, x, 7, rfl, by decide, by decide, fun v v0 v1 => ⟨_, rfl, d, _, 0, _, rfl, rfl, SqL.of hd, rfl, x, 0, rfl, rfl, .inr ⟨_, rfl, v, _, rfl, rfl, .inl ⟨by omega, by omega⟩, ?_⟩⟩⟩
        refine ⟨d, _, 0, _, rfl, rfl, hd, line_lt (by show 1 < 16777216; decide), by decide, by decide, ?_⟩
        obtain ⟨u, eu, u0, u1⟩ : ∃ u : Int, v * (if decide ((0 : Int) < x) = true then 1 else 0) = u ∧ 0 ≤ u ∧ u < 2147483648 := by
          by_cases c : (0 : Int) < x
          · rw [decide_eq_true c, if_pos rfl, Int.mul_one]
            exact ⟨v, rfl, v0, v1⟩
          · rw [decide_eq_false c, if_neg (by decide), Int.mul_zero]
            exact ⟨0, rfl, by decide, by decide⟩
        refine ⟨[u, x], rfl, ?_, by show 2 ≤ 2; decide, by show 2 ≤ 1200; decide, fun z hz => ?_, fun b o e nb => by rw [upd_ne nb]; exact e⟩
        · rw [upd_same]
          dsimp only
          rw [eu]
          rfl
        · rcases List.mem_cons.mp hz with rfl | hz
          · exact ⟨u0, u1⟩
          · rw [List.mem_singleton.mp hz]
            exact hx
      · refine ⟨ms, rfl, hd, ?_, l2, hb, KeepD.refl _ _⟩
        by_cases e : ms.length = 1
        · exfalso
          apply c
          apply decide_eq_true
          rw [List.length_map, e]
          rfl
        · omega
    obtain ⟨ks, rfl, hk, l3, l4, hb3, kp⟩ := hM
    obtain ⟨y, ey⟩ : ∃ y, ks[ks.length - 1]? = some y := ⟨ks[ks.length - 1]'(by omega), List.getElem?_eq_getElem (by omega)⟩
    have hy := hb3 y (List.mem_of_getElem? ey)
    refine ⟨_, rfl, .inl ⟨rfl, _, SqL.of hk⟩, d, _, _, rfl, rfl, hk, by rw [List.length_map]; exact int_at ey, ?_⟩
    refine q y _ hy.1 hy.2 ⟨ks.dropLast, by rw [upd_same, List.map_dropLast], by rw [List.length_dropLast]; omega, by rw [List.length_dropLast]; omega, fun z hz => hb3 z ((List.dropLast_prefix ks).subset hz)⟩ (kp.trans fun b o e nb => by rw [upd_ne nb]; exact e)
end
end Fo
namespace Fo
open PySem PySem.Spec PyProof.Rows L2
theorem ins_perm (xs : List Int) (k : Nat) (y : Int) : (xs.take k ++ [y] ++ xs.drop k).Perm (y :: xs) := by
  rw [List.append_assoc]
  have h1 : (xs.take k ++ ([y] ++ xs.drop k)).Perm ([y] ++ (xs.take k ++ xs.drop k)) := by
    rw [← List.append_assoc, ← List.append_assoc]
    exact List.Perm.append_right _ List.perm_append_comm
  rw [List.take_append_drop] at h1
  exact h1
theorem set2_perm {xs : List Int} {p q : Nat} {a b : Int} (ha : xs[p]? = some a) (hb : xs[q]? = some b) : ((xs.set p b).set q a).Perm xs := by
  obtain ⟨h1, e1⟩ := List.getElem?_eq_some_iff.mp ha
  obtain ⟨h2, e2⟩ := List.getElem?_eq_some_iff.mp hb
  rw [← e1, ← e2]
  exact List.set_set_perm h1 h2
theorem set2_V (xs : List Int) (p q : Nat) (a b : Int) : ((xs.map V.int).set p (V.int b)).set q (V.int a) = ((xs.set p b).set q a).map V.int := by
  rw [List.map_set, List.map_set]
section
variable {P : Program} {w : World} {K : PySem.W.Frag} {mg : Str → Option Value} {base : Heap}
theorem scOrderN : FnScope ["deck", "n", "left", "thing"] ["deck", "n"] (defScope s_law_order) := ⟨rfl, rfl, rfl, by decide +kernel, rfl, by decide +kernel, by decide +kernel⟩
set_option maxHeartbeats 4000000 in
theorem ok_orderN {f fD : Addr} {fd fdD : FuncData} {k : Nat} (T : Df K mg "_law_order" s_law_order ["deck", "n"] f fd) (T__law_next : Df K mg "_law_next" s_law_next ["deck"] fD fdD) (G__law_next : FnOk P w K mg base CX0 k fD fdD ["deck"] spNext) (B : Bi mg) : FnOk P w K mg base CX0 (k + 1) f fd ["deck", "n"] spOrderN := by
  refine T.F.ok scOrderN (fun vs H Q E h => ?_) (fun cdv A outer s H vs Q E hr h => ?_)
  · obtain ⟨D, n, rfl, _⟩ := h
    rfl
  · obtain ⟨d, n, rfl, hD, hn2, q⟩ := h
    refine ⟨_, 
      (pss_cons (ps_set (i := 2) scOrderN.nd rfl (.inr rfl) (pe_listRg rfl (by rfl) B.list (prg_1 (by rfl) B.range (pv 1))))
      (pss_one (ps_ret (pe_lc (own := [("thing", 3)]) (g := (gName 3)) (tt := tYes) (te := (tBM K "list" rPopAt (tVar 2) (tCons (tOp (rI (fun _ j => 0 < j) fun i j => .int (i % j)) (tCall spNext [] E0 (tCons (tVar 0) tNil)) (tCB (rLenS K) (tCons (tVar 2) tNil))) tNil))) rfl scOrderN.nd (pi_range1 (by rfl) B.range (pa_cons (pv 1) pa_nil)) (blkOk_by (N := ["deck", "n", "left", "thing"]) (sc := defScope s_law_order) (by decide +kernel)) (fun _ _ _ _ _ => (pg_name (i := 3) scOrderN.nd rfl (.inl rfl))) (fun _ _ _ _ _ => pts_nil) (fun _ _ _ _ _ => (pe_bm PySem.F.plainAttrs_list PySem.F.slot_list_pop PySem.F.type_list_pop mt_popAt (pv 2) (pa_cons (pe_op op_mod (pe_call G__law_next hr (by rfl) T__law_next.g T__law_next.F.kp T__law_next.b .nil pass0 (pa_cons (pv 0) pa_nil)) (pe_callB call_len_seq (by rfl) B.len PySem.boot_len (pa_cons (pv 2) pa_nil))) pa_nil))))))), ?_⟩
    refine ⟨_, rfl, n, rfl, RgOk.of_le (by omega) (by omega) (by omega) (by omega), fun l nl => ?_⟩
    have hl0 : (upd H l (.lst (rgV 0 (n : Int)))) l = some (.lst ((rg n).map V.int)) := by rw [upd_same, rg_V]
    have D0 := hD.new (o := .lst (rgV 0 (n : Int))) nl
    have nf := hD.ne nl
    have k0 : KeepD d H (upd H l (.lst (rgV 0 (n : Int)))) := KeepD.new nl
    refine ⟨_, rfl, n, rfl, by omega, by omega, ?_⟩
    rw [Int.toNat_natCast]
    intro p np
    have npf := D0.ne np
    have lp : l ≠ p := ne_of_none hl0 np
    refine lc_range (lo := 0) (n := n) (fun i H3 => ∃ (rest acc : List Int), (acc ++ rest).Perm (rg n) ∧ acc.length = i ∧ H3 l = some (.lst (rest.map V.int)) ∧ H3 p = some (.lst (acc.map V.int)) ∧ DqAt H3 d ∧ ∀ b o, H b = some o → b ≠ d → H3 b = some o)
      ⟨rg n, [], List.Perm.refl _, rfl, by rw [upd_ne lp]; exact hl0, upd_same, D0.new np, fun b o e f => by rw [upd_ne (ne_of_none (k0 b o e f) np)]; exact k0 b o e f⟩ (fun i H3 hi hP => ?_) (fun H3 hP => ?_)
    · obtain ⟨rest, acc, hperm, el, hl3, hp3, D3, kp3⟩ := hP
      have hlen : rest.length = n - i := by
        have := List.Perm.length_eq hperm
        rw [List.length_append, rg_len] at this
        omega
      have hlm : (rest.map V.int).length = rest.length := List.length_map _
      refine ⟨rfl, ?_⟩
      refine ⟨_, rfl, .inl ⟨rfl, _, SqL.of hl3⟩, _, rfl, d, rfl, D3, fun v H4 v0 v1 D4 k4 => ?_⟩
      have hl4 := k4 l _ hl3 nf
      have hp4 := k4 p _ hp3 npf
      obtain ⟨j, ej, hj⟩ : ∃ j : Nat, v % (((rest.map V.int).length : Nat) : Int) = (j : Int) ∧ j < rest.length := by
        rw [hlm]
        have h1 := mod_b v (m := ((rest.length : Nat) : Int)) (by omega)
        exact ⟨(v % ((rest.length : Nat) : Int)).toNat, by omega, by omega⟩
      refine ⟨_, rfl, l, _, rfl, .inl (SqL.of hl4), v, _, rfl, rfl, by rw [hlm]; omega, ?_⟩
      obtain ⟨y, ey⟩ : ∃ y, rest[j]? = some y := ⟨rest[j]'(by omega), List.getElem?_eq_getElem (by omega)⟩
      refine ⟨l, _, _, j, _, rfl, rfl, hl4, by rw [ej]; omega, by rw [ej]; omega, seq_ix ej (by rw [hlm]; omega), int_at ey, ?_⟩
      refine ⟨acc.map V.int, by rw [upd_ne lp.symm]; exact hp4, line_lt (by rw [List.length_map]; omega), rest.eraseIdx j, acc ++ [y], ?_, by rw [List.length_append, el]; rfl, ?_, by rw [upd_same, List.map_append]; rfl, ?_, fun b o e f => ?_⟩
      · rw [List.append_assoc]
        exact (List.Perm.append_left acc (pop_perm ey)).trans hperm
      · rw [upd_ne lp, upd_same, map_erase]
      · exact (D4.upd nf).upd npf
      · have e4 := k4 b o (kp3 b o e f) f
        have nbl : b ≠ l := ne_of_none e nl
        have nbp : b ≠ p := ne_of_none (k0 b o e f) np
        rw [upd_ne nbp, upd_ne nbl]
        exact e4
    · obtain ⟨rest, acc, hperm, el, hl3, hp3, D3, kp3⟩ := hP
      have hr0 : rest = [] := by
        have := List.Perm.length_eq hperm
        rw [List.length_append, rg_len] at this
        exact List.eq_nil_of_length_eq_zero (by omega)
      subst hr0
      rw [List.append_nil] at hperm
      exact q acc p H3 hperm (k0.none np npf) hp3 npf D3 kp3
theorem scNearN : FnScope ["deck", "order", "found", "way", "turn", "p", "q"] ["deck", "order"] (defScope s_law_near) := ⟨rfl, rfl, rfl, by decide +kernel, rfl, by decide +kernel, by decide +kernel⟩
set_option maxHeartbeats 4000000 in
theorem ok_nearN {f fD : Addr} {fd fdD : FuncData} {k : Nat} (T : Df K mg "_law_near" s_law_near ["deck", "order"] f fd) (T__law_next : Df K mg "_law_next" s_law_next ["deck"] fD fdD) (G__law_next : FnOk P w K mg base CX0 k fD fdD ["deck"] spNext) (B : Bi mg) : FnOk P w K mg base CX0 (k + 1) f fd ["deck", "order"] spNearN := by
  refine T.F.ok scNearN (fun vs H Q E h => ?_) (fun cdv A outer s H vs Q E hr h => ?_)
  · obtain ⟨D, o, n, ns, rfl, _⟩ := h
    rfl
  · obtain ⟨d, o, n, ns, rfl, hD, h0, ho, hn1, hn2, q⟩ := h
    have hlm : (ns.map V.int).length = n := by rw [List.length_map, ho.len]
    refine ⟨_, 
      (pss_cons (ps_set (i := 2) scNearN.nd rfl (.inl rfl) (pe_callTy call_list_of (by rfl) B.list (by decide +kernel) (pa_cons (pv 1) pa_nil)))
      (pss_cons (ps_set (i := 3) scNearN.nd rfl (.inl rfl) (pe_op op_mod (pe_call G__law_next hr (by rfl) T__law_next.g T__law_next.F.kp T__law_next.b .nil pass0 (pa_cons (pv 0) pa_nil)) pe_int))
      (pss_cons (ps_for PassesOwn.never rfl (pi_range1 (by rfl) B.range (pa_cons (pe_op op_mul (pe_ix ix_list (pe_lst (pa_cons pe_int (pa_cons pe_int (pa_cons pe_int (pa_cons pe_int pa_nil))))) (pe_op op_mod (pe_call G__law_next hr (by rfl) T__law_next.g T__law_next.F.kp T__law_next.b .nil pass0 (pa_cons (pv 0) pa_nil)) pe_int) (fun _ _ => rfl)) (pe_callTy call_int1 (by rfl) B.int (by decide +kernel) (pa_cons (pe_cmpR op_gt (pe_callB call_len_seq (by rfl) B.len PySem.boot_len (pa_cons (pv 2) pa_nil)) pe_int (nomark _)) pa_nil))) pa_nil)) (pg_name (i := 4) scNearN.nd rfl (.inl rfl))
        (pss_cons (ps_set (i := 5) scNearN.nd rfl (.inl rfl) (pe_op op_mod (pe_call G__law_next hr (by rfl) T__law_next.g T__law_next.F.kp T__law_next.b .nil pass0 (pa_cons (pv 0) pa_nil)) (pe_op op_sub (pe_callB call_len_seq (by rfl) B.len PySem.boot_len (pa_cons (pv 2) pa_nil)) pe_int)))
        (pss_cons (ps_set (i := 6) scNearN.nd rfl (.inl rfl) (pe_ix ix_list (pe_lst (pa_cons (pe_op op_add (pv 5) pe_int) (pa_cons (pe_op op_mod (pe_call G__law_next hr (by rfl) T__law_next.g T__law_next.F.kp T__law_next.b .nil pass0 (pa_cons (pv 0) pa_nil)) (pe_callB call_len_seq (by rfl) B.len PySem.boot_len (pa_cons (pv 2) pa_nil))) (pa_cons (pe_op op_add (pv 5) pe_int) pa_nil)))) (pv 3) (fun _ _ => rfl)))
        (pss_one (ps_if (pt_cmpR op_lt (pv 3) pe_int (nomark _))
          (pss_one (ps_asg (pe_tup (pa_cons (pe_ix ix_list (pv 2) (pv 6) (fun _ _ => rfl)) (pa_cons (pe_ix ix_list (pv 2) (pv 5) (fun _ _ => rfl)) pa_nil))) (pg_tup (by rfl) (pgs_cons (pg_sub (pv 2) (pv 5) set_list) (pgs_cons (pg_sub (pv 2) (pv 6) set_list) pgs_nil)))))
          (pss_one (ps_expr (pe_bm PySem.F.plainAttrs_list PySem.F.slot_list_insert PySem.F.type_list_insert mt_insert (pv 2) (pa_cons (pe_op op_mod (pe_call G__law_next hr (by rfl) T__law_next.g T__law_next.F.kp T__law_next.b .nil pass0 (pa_cons (pv 0) pa_nil)) (pe_callB call_len_seq (by rfl) B.len PySem.boot_len (pa_cons (pv 2) pa_nil))) (pa_cons (pe_bm PySem.F.plainAttrs_list PySem.F.slot_list_pop PySem.F.type_list_pop mt_popAt (pv 2) (pa_cons (pv 5) pa_nil)) pa_nil))))))))))
      (pss_one (ps_ret (pv 2)))))), ?_⟩
    refine ⟨_, rfl, o, _, rfl, .inl (SqL.of h0), fun l nl => ?_⟩
    have s0 := same_new (o := .lst (ns.map V.int)) nl
    have D0 := hD.new (o := .lst (ns.map V.int)) nl
    have nf := hD.ne nl
    refine ⟨_, rfl, d, rfl, D0, fun w1 H1 _ _ D1 k1 => ⟨w1, 3, rfl, rfl, (show (0 : Int) < 3 by decide), ?_⟩⟩
    have hl1 := k1 l _ upd_same nf
    have kk1 : KeepD d H H1 := (KeepD.of_same s0).trans k1
    have hw := mod_b w1 (m := 3) (by decide)
    refine ⟨line_small (by show 4 ≤ 16777216; decide), fun t nt => ?_⟩
    have D1t := D1.new (o := .lst [.int 1, .int 1, .int 2, .int 4]) nt
    have ntd := D1.ne nt
    refine ⟨_, rfl, d, rfl, D1t, fun w2 H2 _ _ D2 k2 => ⟨w2, 4, rfl, rfl, (show (0 : Int) < 4 by decide), ?_⟩⟩
    have ht2 := k2 t _ upd_same ntd
    have kk2 : KeepD d H H2 := (kk1.trans (KeepD.new nt)).trans k2
    have hl2 := k2 l _ (same_new nt _ _ hl1) nf
    have hw2 := mod_b w2 (m := 4) (by decide)
    obtain ⟨u, eu, u0, u1⟩ : ∃ u : Int, atI [V.int 1, V.int 1, V.int 2, V.int 4] (w2 % 4) = some (.int u) ∧ 0 ≤ u ∧ u ≤ 4 := by
      have : w2 % 4 = 0 ∨ w2 % 4 = 1 ∨ w2 % 4 = 2 ∨ w2 % 4 = 3 := by omega
      rcases this with h | h | h | h <;> rw [h]
      · exact ⟨1, rfl, by decide, by decide⟩
      · exact ⟨1, rfl, by decide, by decide⟩
      · exact ⟨2, rfl, by decide, by decide⟩
      · exact ⟨4, rfl, by decide, by decide⟩
    refine ⟨t, _, _, _, rfl, rfl, SqL.of ht2, eu, _, rfl, l, _, rfl, .inl (SqL.of hl2), _, 1, rfl, rfl, .inr ⟨_, rfl, u, _, rfl, rfl, .inl ⟨by omega, by omega⟩, _, rfl, ?_⟩⟩
    obtain ⟨m, em, hm⟩ : ∃ m : Nat, u * (if decide ((1 : Int) < (((ns.map V.int).length : Nat) : Int)) = true then 1 else 0) = (m : Int) ∧ (m ≤ 4 ∧ (n = 1 → m = 0)) := by
      rw [hlm]
      by_cases c : (1 : Int) < (n : Int)
      · rw [decide_eq_true c, if_pos rfl, Int.mul_one]
        exact ⟨u.toNat, by omega, by omega, by omega⟩
      · rw [decide_eq_false c, if_neg (by decide), Int.mul_zero]
        exact ⟨0, by omega, by omega, fun _ => rfl⟩
    refine ⟨by rw [em]; omega, by rw [em]; omega, ?_⟩
    rw [em, Int.toNat_natCast]
    refine for_range (n := m) (fun i σ H3 => ∃ (y4 y5 y6 : Option V) (xs : List Int), σ = [some (.ref d), some (.ref o), some (.ref l), some (.int (w1 % 3)), y4, y5, y6] ∧ IsOrd n xs ∧ H3 l = some (.lst (xs.map V.int)) ∧ DqAt H3 d ∧ KeepD d H H3)
      ⟨none, none, none, ns, rfl, ho, hl2, D2, kk2⟩ (fun i σ H3 hi hP => ?_) (fun σ H3 hP => ?_)
    · obtain ⟨y4, y5, y6, xs, rfl, o3, hl3, D3, k3⟩ := hP
      have hxl := o3.len
      have hn : 2 ≤ n := by
        by_cases c : n = 1
        · have := hm.2 c
          omega
        · omega
      have hxm : (xs.map V.int).length = n := by rw [List.length_map]; exact hxl
      refine ⟨_, rfl, d, rfl, D3, fun v1 H4 _ _ D4 k4 => ?_⟩
      have hl4 := k4 l _ hl3 nf
      refine ⟨_, rfl, l, _, rfl, .inl (SqL.of hl4), _, 1, rfl, rfl, v1, _, rfl, rfl, by rw [hxm]; omega, ?_⟩
      obtain ⟨p, ep, hp⟩ : ∃ p : Nat, v1 % ((((xs.map V.int).length : Nat) : Int) - 1) = (p : Int) ∧ p + 1 < n := by
        rw [hxm]
        have h1 := mod_b v1 (m := (n : Int) - 1) (by omega)
        exact ⟨(v1 % ((n : Int) - 1)).toNat, by omega, by omega⟩
      show gName 5 (V.int (v1 % ((((xs.map V.int).length : Nat) : Int) - 1))) _ _ _
      rw [ep]
      refine ⟨_, rfl, (p : Int), 1, rfl, rfl, _, rfl, d, rfl, D4, fun v2 H5 _ _ D5 k5 => ?_⟩
      have hl5 := k5 l _ hl4 nf
      refine ⟨_, rfl, l, _, rfl, .inl (SqL.of hl5), v2, _, rfl, rfl, by rw [hxm]; omega, ?_⟩
      obtain ⟨u, eu, hu⟩ : ∃ u : Nat, v2 % (((xs.map V.int).length : Nat) : Int) = (u : Int) ∧ u < n := by
        rw [hxm]
        have h1 := mod_b v2 (m := (n : Int)) (by omega)
        exact ⟨(v2 % (n : Int)).toNat, by omega, by omega⟩
      refine ⟨_, rfl, (p : Int), 1, rfl, rfl, line_small (by show 3 ≤ 16777216; decide), fun t2 nt2 => ?_⟩
      have s6 := same_new (o := .lst [.int ((p : Int) + 1), .int (v2 % (((xs.map V.int).length : Nat) : Int)), .int ((p : Int) + 1)]) nt2
      have hl6 := s6 _ _ hl5
      obtain ⟨z, ez, hz⟩ : ∃ z : Nat, atI [V.int ((p : Int) + 1), V.int (v2 % (((xs.map V.int).length : Nat) : Int)), V.int ((p : Int) + 1)] (w1 % 3) = some (.int z) ∧ z < n := by
        have : w1 % 3 = 0 ∨ w1 % 3 = 1 ∨ w1 % 3 = 2 := by omega
        rcases this with h | h | h <;> rw [h, eu]
        · exact ⟨p + 1, rfl, hp⟩
        · exact ⟨u, rfl, hu⟩
        · exact ⟨p + 1, rfl, hp⟩
      refine ⟨_, rfl, t2, _, _, _, rfl, rfl, SqL.of upd_same, ez, ?_⟩
      obtain ⟨a, ea⟩ : ∃ a, xs[p]? = some a := ⟨xs[p]'(by omega), List.getElem?_eq_getElem (by omega)⟩
      obtain ⟨b, eb⟩ : ∃ b, xs[z]? = some b := ⟨xs[z]'(by omega), List.getElem?_eq_getElem (by omega)⟩
      have D6 := D5.new (o := .lst [.int ((p : Int) + 1), .int (v2 % (((xs.map V.int).length : Nat) : Int)), .int ((p : Int) + 1)]) nt2
      have k6 : KeepD d H (upd H5 t2 (.lst [.int ((p : Int) + 1), .int (v2 % (((xs.map V.int).length : Nat) : Int)), .int ((p : Int) + 1)])) := ((k3.trans k4).trans k5).trans (KeepD.of_same s6)
      generalize upd H5 t2 (.lst [.int ((p : Int) + 1), .int (v2 % (((xs.map V.int).length : Nat) : Int)), .int ((p : Int) + 1)]) = H6 at hl6 D6 k6 ⊢
      refine ⟨_, rfl, _, 2, rfl, rfl, _, rfl, ite2 (fun _ => ?_) (fun _ => ?_)⟩
      · refine ⟨_, rfl, _, rfl, l, _, _, _, rfl, rfl, SqL.of hl6, at_of (j := z) rfl (int_at eb), _, rfl, _, rfl, l, _, _, _, rfl, rfl, SqL.of hl6, at_of (j := p) rfl (int_at ea), line_small (by show 2 ≤ 16777216; decide), fun t3 nt3 => ?_⟩
        have hl7 := same_new (o := .tup [.int b, .int a]) nt3 _ _ hl6
        refine ⟨t3, _, rfl, .inl (.inl upd_same), rfl, _, _, rfl, _, rfl, _, rfl, l, _, _, p, rfl, rfl, hl7, ix_n rfl (by rw [List.length_map]; omega), ?_⟩
        refine ⟨_, _, rfl, _, rfl, _, rfl, l, _, _, z, rfl, rfl, upd_same, ix_n rfl (by rw [List.length_set, List.length_map]; omega), ?_⟩
        refine ⟨rfl, _, _, _, (xs.set p b).set z a, rfl, (set2_perm ea eb).trans o3, by rw [upd_same, set2_V], ((D6.new nt3).upd nf).upd nf, fun c x e f => ?_⟩
        have nc : c ≠ l := ne_of_none e nl
        rw [upd_ne nc, upd_ne nc]
        exact same_new nt3 _ _ (k6 c x e f)
      · refine ⟨_, rfl, .inl ⟨rfl, _, SqL.of hl6⟩, _, rfl, d, rfl, D6, fun v3 H7 _ _ D7 k7 => ?_⟩
        have hl7 := k7 l _ hl6 nf
        refine ⟨_, rfl, l, _, rfl, .inl (SqL.of hl7), v3, _, rfl, rfl, by rw [hxm]; omega, ?_⟩
        obtain ⟨y, ey, hy⟩ : ∃ y : Nat, v3 % (((xs.map V.int).length : Nat) : Int) = (y : Int) ∧ y < n := by
          rw [hxm]
          have h1 := mod_b v3 (m := (n : Int)) (by omega)
          exact ⟨(v3 % (n : Int)).toNat, by omega, by omega⟩
        refine ⟨_, rfl, .inl ⟨rfl, _, SqL.of hl7⟩, _, rfl, l, _, _, p, _, rfl, rfl, hl7, by omega, by omega, seq_ix rfl (by rw [hxm]; omega), int_at ea, ?_⟩
        refine ⟨l, _, _, _, rfl, rfl, upd_same, line_lt (by rw [map_erase, List.length_map, List.length_eraseIdx, hxl]; split <;> omega), by rw [ey]; omega, by rw [ey]; omega, ?_⟩
        refine ⟨_, _, _, (xs.eraseIdx p).take y ++ [a] ++ (xs.eraseIdx p).drop y, rfl, ((ins_perm _ _ _).trans (pop_perm ea)).trans o3, ?_, (D7.upd nf).upd nf, fun c x e f => ?_⟩
        · rw [upd_same, map_erase, List.map_append, List.map_append, List.map_take, List.map_drop, ey, Int.toNat_natCast]
          rfl
        · have nc : c ≠ l := ne_of_none e nl
          rw [upd_ne nc, upd_ne nc]
          exact k7 c x (k6 c x e f) f
    · obtain ⟨y4, y5, y6, xs, rfl, o3, hl3, D3, k3⟩ := hP
      exact ⟨_, rfl, q xs l H3 o3 nl hl3 nf D3 k3⟩
end
end Fo
namespace Fo
open PySem PySem.Spec PyProof.Rows L2
/-- a list of orders of n things -/
structure OL (H : Hp) (l : Addr) (as : List Addr) (rs : List (List Int)) (n : Nat) : Prop where
  top : H l = some (.lst (as.map V.ref))
  ll : LL H as rs
  ord : ∀ r ∈ rs, IsOrd n r
  n1 : 1 ≤ n
  n2 : n ≤ 12
theorem OL.same {H H' : Hp} {l : Addr} {as : List Addr} {rs : List (List Int)} {n : Nat} (h : OL H l as rs n) (s : Same H H') : OL H' l as rs n := ⟨s _ _ h.top, h.ll.same s, h.ord, h.n1, h.n2⟩
theorem OL.keepD {H H' : Hp} {l d : Addr} {as : List Addr} {rs : List (List Int)} {n : Nat} (h : OL H l as rs n) (s : KeepD d H H') (nl : l ≠ d) (na : d ∉ as) : OL H' l as rs n :=
  ⟨s _ _ h.top nl, h.ll.keep fun a ha o e => s a o e (fun q => na (by rw [← q]; exact ha)), h.ord, h.n1, h.n2⟩
def spPoll : Sp := fun vs H Q _ => ∃ (d : Addr) (n most : Nat), vs = [.ref d, .int n, .int most] ∧ DqAt H d ∧ 1 ≤ n ∧ n ≤ 12 ∧ 1 ≤ most ∧ most ≤ 20 ∧
  ∀ (l : Addr) (as : List Addr) (rs : List (List Int)) (H' : Hp), OL H' l as rs n → 1 ≤ rs.length → rs.length ≤ most → H l = none → (∀ a ∈ as, H a = none) → l ≠ d → d ∉ as → DqAt H' d → KeepD d H H' → Q (.ref l) H'
section
variable {P : Program} {w : World} {K : PySem.W.Frag} {mg : Str → Option Value} {base : Heap}
theorem scPoll : FnScope ["deck", "n", "most", "first", "found", "kind", "turn", "at", "some"] ["deck", "n", "most"] (defScope s_law_poll) := ⟨rfl, rfl, rfl, by decide +kernel, rfl, by decide +kernel, by decide +kernel⟩
set_option maxHeartbeats 4000000 in
theorem ok_poll {f fD fO fN : Addr} {fd fdD fdO fdN : FuncData} {k : Nat} (T : Df K mg "_law_poll" s_law_poll ["deck", "n", "most"] f fd) (T__law_next : Df K mg "_law_next" s_law_next ["deck"] fD fdD) (G__law_next : FnOk P w K mg base CX0 k fD fdD ["deck"] spNext) (T__law_order : Df K mg "_law_order" s_law_order ["deck", "n"] fO fdO) (G__law_order : FnOk P w K mg base CX0 k fO fdO ["deck", "n"] spOrderN) (T__law_near : Df K mg "_law_near" s_law_near ["deck", "order"] fN fdN) (G__law_near : FnOk P w K mg base CX0 k fN fdN ["deck", "order"] spNearN) (B : Bi mg) : FnOk P w K mg base CX0 (k + 1) f fd ["deck", "n", "most"] spPoll := by
  refine T.F.ok scPoll (fun vs H Q E h => ?_) (fun cdv A outer s H vs Q E hr h => ?_)
  · obtain ⟨D, n, m, rfl, _⟩ := h
    rfl
  · obtain ⟨d, n, most, rfl, hD, hn1, hn2, hm1, hm2, q⟩ := h
    refine ⟨_, 
      (pss_cons (ps_set (i := 3) scPoll.nd rfl (.inl rfl) (pe_call G__law_order hr (by rfl) T__law_order.g T__law_order.F.kp T__law_order.b .nil pass0 (pa_cons (pv 0) (pa_cons (pv 1) pa_nil))))
      (pss_cons (ps_set (i := 4) scPoll.nd rfl (.inl rfl) (pe_lst (pa_cons (pv 3) pa_nil)))
      (pss_cons (ps_set (i := 5) scPoll.nd rfl (.inl rfl) (pe_op op_mod (pe_call G__law_next hr (by rfl) T__law_next.g T__law_next.F.kp T__law_next.b .nil pass0 (pa_cons (pv 0) pa_nil)) pe_int))
      (pss_cons (ps_for PassesOwn.never rfl (pi_range1 (by rfl) B.range (pa_cons (pe_ix ix_list (pe_lst (pa_cons (pe_op op_mod (pe_call G__law_next hr (by rfl) T__law_next.g T__law_next.F.kp T__law_next.b .nil pass0 (pa_cons (pv 0) pa_nil)) (pv 2)) (pa_cons (pe_op op_sub (pv 2) pe_int) (pa_cons (pe_op op_mod (pe_call G__law_next hr (by rfl) T__law_next.g T__law_next.F.kp T__law_next.b .nil pass0 (pa_cons (pv 0) pa_nil)) (pe_callB (call_min2 rfl) (by rfl) B.min (by decide +kernel) (pa_cons (pv 2) (pa_cons pe_int pa_nil)))) pa_nil)))) (pe_op op_mod (pe_call G__law_next hr (by rfl) T__law_next.g T__law_next.F.kp T__law_next.b .nil pass0 (pa_cons (pv 0) pa_nil)) pe_int) (fun _ _ => rfl)) pa_nil)) (pg_name (i := 6) scPoll.nd rfl (.inl rfl))
        (pss_cons (ps_set (i := 7) scPoll.nd rfl (.inl rfl) (pe_op op_mod (pe_call G__law_next hr (by rfl) T__law_next.g T__law_next.F.kp T__law_next.b .nil pass0 (pa_cons (pv 0) pa_nil)) (pv 1)))
        (pss_cons (ps_set (i := 8) scPoll.nd rfl (.inl rfl) (pe_lst (pa_cons (pe_call G__law_near hr (by rfl) T__law_near.g T__law_near.F.kp T__law_near.b .nil pass0 (pa_cons (pv 0) (pa_cons (pv 3) pa_nil))) (pa_cons (pe_call G__law_order hr (by rfl) T__law_order.g T__law_order.F.kp T__law_order.b .nil pass0 (pa_cons (pv 0) (pa_cons (pv 1) pa_nil))) (pa_cons (pe_op op_cat (pe_slice sl_list (pv 3) (po_some (pv 7)) po_none) (pe_slice sl_list (pv 3) po_none (po_some (pv 7)))) (pa_cons (pe_revL (pv 3)) pa_nil))))))
        (pss_cons (ps_expr (pe_bm PySem.F.plainAttrs_list PySem.F.slot_list_append PySem.F.type_list_append mt_append (pv 8) (pa_cons (pe_callTy call_list_of (by rfl) B.list (by decide +kernel) (pa_cons (pe_ix ix_list (pv 4) (pe_op op_mod (pe_call G__law_next hr (by rfl) T__law_next.g T__law_next.F.kp T__law_next.b .nil pass0 (pa_cons (pv 0) pa_nil)) (pe_callB call_len_seq (by rfl) B.len PySem.boot_len (pa_cons (pv 4) pa_nil))) (fun _ _ => rfl)) pa_nil)) pa_nil)))
        (pss_one (ps_expr (pe_bm PySem.F.plainAttrs_list PySem.F.slot_list_append PySem.F.type_list_append mt_append (pv 4) (pa_cons (pe_ix ix_list (pv 8) (pe_ix ix_list (pe_lst (pa_cons pe_int (pa_cons pe_int (pa_cons pe_int (pa_cons (pe_op op_mod (pe_call G__law_next hr (by rfl) T__law_next.g T__law_next.F.kp T__law_next.b .nil pass0 (pa_cons (pv 0) pa_nil)) pe_int) pa_nil))))) (pv 5) (fun _ _ => rfl)) (fun _ _ => rfl)) pa_nil))))))))
      (pss_one (ps_ret (pv 4))))))), ?_⟩
    refine ⟨_, rfl, _, rfl, d, n, rfl, hD, hn2, fun fs f0 H1 ofs nf0 hf1 nfd D1 k1 => ?_⟩
    refine ⟨_, rfl, line_small (by show 1 ≤ 16777216; decide), fun l nl => ?_⟩
    have hf2 := same_new (o := .lst [.ref f0]) nl _ _ hf1
    have D2 := D1.new (o := .lst [.ref f0]) nl
    have nld := D1.ne nl
    have nlf : l ≠ f0 := (ne_of_none hf1 nl).symm
    have k2 : KeepD d H (upd H1 l (.lst [.ref f0])) := k1.trans (KeepD.new nl)
    have nHl : H l = none := k1.none nl nld
    have hl2 : (upd H1 l (.lst [.ref f0])) l = some (.lst [.ref f0]) := upd_same
    generalize upd H1 l (.lst [.ref f0]) = H2 at hf2 D2 k2 hl2 ⊢
    refine ⟨_, rfl, d, rfl, D2, fun w1 H3 _ _ D3 k3 => ⟨w1, 4, rfl, rfl, (show (0 : Int) < 4 by decide), ?_⟩⟩
    have hw := mod_b w1 (m := 4) (by decide)
    refine ⟨_, rfl, d, rfl, D3, fun w2 H4 _ _ D4 k4 => ⟨_, rfl, w2, most, rfl, rfl, (show (0 : Int) < (most : Int) by omega), _, rfl, (most : Int), 1, rfl, rfl, _, rfl, d, rfl, D4, fun w3 H5 _ _ D5 k5 => ?_⟩⟩
    refine ⟨_, rfl, (most : Int), 4, rfl, w3, _, rfl, rfl, (by show (0 : Int) < if 4 < (most : Int) then 4 else (most : Int); split <;> omega), ?_⟩
    refine ⟨line_small (by show 3 ≤ 16777216; decide), fun t nt => ?_⟩
    have h1 := mod_b w2 (m := (most : Int)) (by omega)
    have h2 := mod_b w3 (m := (if 4 < (most : Int) then 4 else (most : Int))) (by split <;> omega)
    have h3 : (if 4 < (most : Int) then 4 else (most : Int)) ≤ most := by split <;> omega
    have D6 := D5.new (o := .lst [.int (w2 % most), .int ((most : Int) - 1), .int (w3 % (if 4 < (most : Int) then 4 else (most : Int)))]) nt
    have ntd := D5.ne nt
    refine ⟨_, rfl, d, rfl, D6, fun w4 H7 _ _ D7 k7 => ⟨w4, 3, rfl, rfl, (show (0 : Int) < 3 by decide), ?_⟩⟩
    have ht7 := k7 t _ upd_same ntd
    have k37 : KeepD d H2 H7 := ((k3.trans k4).trans k5).trans ((KeepD.new nt).trans k7)
    have h4 := mod_b w4 (m := 3) (by decide)
    obtain ⟨m, em, hm⟩ : ∃ m : Nat, atI [V.int (w2 % most), V.int ((most : Int) - 1), V.int (w3 % (if 4 < (most : Int) then 4 else (most : Int)))] (w4 % 3) = some (.int m) ∧ m + 1 ≤ most := by
      have : w4 % 3 = 0 ∨ w4 % 3 = 1 ∨ w4 % 3 = 2 := by omega
      rcases this with h | h | h <;> rw [h]
      · refine ⟨(w2 % most).toNat, ?_, by omega⟩
        rw [Int.toNat_of_nonneg h1.1]
        rfl
      · refine ⟨most - 1, ?_, by omega⟩
        rw [show ((most - 1 : Nat) : Int) = (most : Int) - 1 by omega]
        rfl
      · refine ⟨(w3 % (if 4 < (most : Int) then 4 else (most : Int))).toNat, ?_, by omega⟩
        rw [Int.toNat_of_nonneg h2.1]
        rfl
    refine ⟨t, _, _, _, rfl, rfl, SqL.of ht7, em, m, rfl, by omega, by omega, ?_⟩
    rw [Int.toNat_natCast]
    have hf7 := k37 f0 _ hf2 nfd
    have hl7 := k37 l _ hl2 nld
    refine for_range (n := m) (fun i σ G => ∃ (y6 y7 y8 : Option V) (as : List Addr) (rs : List (List Int)), σ = [some (.ref d), some (.int n), some (.int most), some (.ref f0), some (.ref l), some (.int (w1 % 4)), y6, y7, y8] ∧ G l = some (.lst (as.map V.ref)) ∧ LL G as rs ∧ (∀ r ∈ rs, IsOrd n r) ∧ rs.length = i + 1 ∧ G f0 = some (.lst (fs.map V.int)) ∧ (∀ a ∈ as, H a = none) ∧ d ∉ as ∧ l ∉ as ∧ DqAt G d ∧ KeepD d H G)
      ⟨none, none, none, [f0], [fs], rfl, hl7, ⟨hf7, trivial⟩, fun r hr => by rw [List.mem_singleton.mp hr]; exact ofs, rfl, hf7, fun a ha => by rw [List.mem_singleton.mp ha]; exact nf0, fun hd => nfd (List.mem_singleton.mp hd).symm, fun hd => nlf (List.mem_singleton.mp hd), D7, k2.trans k37⟩ (fun i σ G hi hP => ?_) (fun σ G hP => ?_)
    · obtain ⟨y6, y7, y8, as, rs, rfl, hl, hLL, ho, hlen, hf, hna, nda, nla, DG, kG⟩ := hP
      have halen := hLL.len
      -- at = next % n
      refine ⟨_, rfl, d, rfl, DG, fun v1 G1 _ _ DG1 kk1 => ⟨_, rfl, v1, n, rfl, rfl, (show (0 : Int) < (n : Int) by omega), ?_⟩⟩
      obtain ⟨c, ec, hc⟩ : ∃ c : Nat, v1 % (n : Int) = (c : Int) ∧ c < n := by
        have h1 := mod_b v1 (m := (n : Int)) (by omega)
        exact ⟨(v1 % (n : Int)).toNat, by omega, by omega⟩
      show gName 7 (V.int (v1 % (n : Int))) _ _ _
      rw [ec]
      have hf1 := kk1 f0 _ hf nfd
      -- near
      refine ⟨_, rfl, _, rfl, d, f0, n, fs, rfl, DG1, hf1, ofs, hn1, hn2, fun r1 a1 G2 o1 na1 ha1 nd1 DG2 kk2 => ?_⟩
      have hf2 := kk2 f0 _ hf1 nfd
      have c2 : KeepD d G G2 := kk1.trans kk2
      -- order
      refine ⟨_, rfl, _, rfl, d, n, rfl, DG2, hn2, fun r2 a2 G3 o2 na2 ha2 nd2 DG3 kk3 => ?_⟩
      have hf3 := kk3 f0 _ hf2 nfd
      have c3 : KeepD d G G3 := c2.trans kk3
      -- first[at:] + first[:at]
      refine ⟨_, rfl, _, rfl, _, rfl, f0, _, rfl, SqL.of hf3, fun p1 np1 => ?_⟩
      have s1 := same_new (o := .lst (cutV (fs.map V.int) (some (c : Int)) none)) np1
      refine ⟨_, rfl, _, rfl, _, rfl, f0, _, rfl, SqL.of (s1 _ _ hf3), fun p2 np2 => ?_⟩
      have s2 := s1.trans (same_new (o := .lst (cutV (fs.map V.int) none (some (c : Int)))) np2)
      have hp1 := same_new (o := .lst (cutV (fs.map V.int) none (some (c : Int)))) np2 p1 (.lst (cutV (fs.map V.int) (some (c : Int)) none)) upd_same
      have hp2 : (upd (upd G3 p1 (.lst (cutV (fs.map V.int) (some (c : Int)) none))) p2 (.lst (cutV (fs.map V.int) none (some (c : Int))))) p2 = _ := upd_same
      generalize upd (upd G3 p1 (.lst (cutV (fs.map V.int) (some (c : Int)) none))) p2 (.lst (cutV (fs.map V.int) none (some (c : Int)))) = G4 at s2 hp1 hp2 ⊢
      rw [cut_ints, cutI_tail] at hp1
      rw [cut_ints, cutI_head] at hp2
      have lf : fs.length = n := ofs.len
      refine ⟨_, _, _, _, rfl, rfl, hp1, hp2, line_small (by rw [List.length_map, List.length_drop, List.length_map, List.length_take]; omega), fun a3 na3 => ?_⟩
      have DG4 := DG3.same s2
      have c4 : KeepD d G G4 := c3.trans (KeepD.of_same s2)
      have nd3 := DG4.ne na3
      have s3 := same_new (o := .lst ((fs.drop c).map V.int ++ (fs.take c).map V.int)) na3
      -- first[::-1]
      refine ⟨_, rfl, f0, _, rfl, SqL.of (s3 _ _ (s2 _ _ hf3)), fun a4 na4 => ?_⟩
      have s4 := s3.trans (same_new (o := .lst (fs.map V.int).reverse) na4)
      have ha3 := same_new (o := .lst (fs.map V.int).reverse) na4 a3 (.lst ((fs.drop c).map V.int ++ (fs.take c).map V.int)) upd_same
      have ha4 : (upd (upd G4 a3 (.lst ((fs.drop c).map V.int ++ (fs.take c).map V.int))) a4 (.lst (fs.map V.int).reverse)) a4 = _ := upd_same
      have nd4 := (DG4.new na3).ne na4
      have na4' : G4 a4 = none := s3.free na4
      generalize upd (upd G4 a3 (.lst ((fs.drop c).map V.int ++ (fs.take c).map V.int))) a4 (.lst (fs.map V.int).reverse) = G5 at s4 ha3 ha4 ⊢
      have DG5 := DG4.same s4
      refine ⟨line_small (by show 4 ≤ 16777216; decide), fun sm nsm => ?_⟩
      have nsd := DG5.ne nsm
      have s5 := same_new (o := .lst [.ref a1, .ref a2, .ref a3, .ref a4]) nsm
      have hsm : (upd G5 sm (.lst [.ref a1, .ref a2, .ref a3, .ref a4])) sm = _ := upd_same
      have DG6 := DG5.same s5
      have c6 : KeepD d G (upd G5 sm (.lst [.ref a1, .ref a2, .ref a3, .ref a4])) := c4.trans (KeepD.of_same (s4.trans s5))
      have ga1 := (s4.trans s5) _ _ (s2 _ _ (kk3 _ _ ha1 nd1))
      have ga2 := (s4.trans s5) _ _ (s2 _ _ ha2)
      have ga3 := s5 _ _ ha3
      have ga4 := s5 _ _ ha4
      generalize upd G5 sm (.lst [.ref a1, .ref a2, .ref a3, .ref a4]) = G6 at s5 hsm DG6 c6 ga1 ga2 ga3 ga4 ⊢
      -- some.append(list(found[next % len(found)]))
      refine ⟨_, rfl, .inl ⟨rfl, _, SqL.of hsm⟩, _, rfl, _, rfl, d, rfl, DG6, fun v2 G7 _ _ DG7 kk7 => ?_⟩
      have c7 : KeepD d G G7 := c6.trans kk7
      have hl7 := c7 l _ hl nld
      refine ⟨_, rfl, l, _, rfl, .inl (SqL.of hl7), v2, _, rfl, rfl, (by show (0 : Int) < (((as.map V.ref).length : Nat) : Int); rw [List.length_map]; omega), ?_⟩
      obtain ⟨j, ej, hj⟩ : ∃ j : Nat, v2 % (((as.map V.ref).length : Nat) : Int) = (j : Int) ∧ j < as.length := by
        rw [List.length_map]
        have h1 := mod_b v2 (m := ((as.length : Nat) : Int)) (by omega)
        exact ⟨(v2 % ((as.length : Nat) : Int)).toNat, by omega, by omega⟩
      have LL7 : LL G7 as rs := hLL.keep fun a ha o e => c7 a o e (fun q => nda (by rw [← q]; exact ha))
      obtain ⟨b, eb⟩ : ∃ b, as[j]? = some b := ⟨as[j], List.getElem?_eq_getElem hj⟩
      obtain ⟨rb, erb, hb7⟩ := LL7.get eb
      have orb := ho rb (List.mem_of_getElem? erb)
      refine ⟨l, _, _, _, rfl, rfl, SqL.of hl7, at_of ej (ref_at eb), b, _, rfl, .inl (SqL.of hb7), fun a5 na5 => ?_⟩
      have nd5 := DG7.ne na5
      have s8 := same_new (o := .lst (rb.map V.int)) na5
      have hsm8 := s8 _ _ (kk7 _ _ hsm nsd)
      have ga5 : (upd G7 a5 (.lst (rb.map V.int))) a5 = _ := upd_same
      have gb1 := s8 _ _ (kk7 _ _ ga1 nd1)
      have gb2 := s8 _ _ (kk7 _ _ ga2 nd2)
      have gb3 := s8 _ _ (kk7 _ _ ga3 nd3)
      have gb4 := s8 _ _ (kk7 _ _ ga4 nd4)
      have DG8 := DG7.same s8
      have c8 : KeepD d G (upd G7 a5 (.lst (rb.map V.int))) := c7.trans (KeepD.of_same s8)
      generalize upd G7 a5 (.lst (rb.map V.int)) = G8 at s8 hsm8 ga5 gb1 gb2 gb3 gb4 DG8 c8 ⊢
      refine ⟨sm, _, _, rfl, rfl, hsm8, line_lt (by show 4 < 16777216; decide), ?_⟩
      have nGs : G sm = none := (c4.trans (KeepD.of_same s4)).none nsm nsd
      have n1 : G a1 = none := kk1.none na1 nd1
      have n2 : G a2 = none := c2.none na2 nd2
      have n3 : G a3 = none := c4.none na3 nd3
      have n4 : G a4 = none := c4.none na4' nd4
      have n5 : G a5 = none := c7.none na5 nd5
      have ne_ : ∀ {x : Addr} {y : List Int}, G8 x = some (.lst (y.map V.int)) → x ≠ sm := fun {x y} e => ne_of e hsm8 (by
        intro z
        cases y with
        | nil => cases z
        | cons u v => cases z)
      -- found.append(some[[0, 1, 2, next % 5][kind]])
      have DG9 := DG8.upd (o := .lst [.ref a1, .ref a2, .ref a3, .ref a4, .ref a5]) nsd
      have c9 : KeepD d G (upd G8 sm (.lst [.ref a1, .ref a2, .ref a3, .ref a4, .ref a5])) := fun b o e nb => by rw [upd_ne (ne_of_none e nGs)]; exact c8 b o e nb
      have hsm9 : (upd G8 sm (.lst [.ref a1, .ref a2, .ref a3, .ref a4, .ref a5])) sm = _ := upd_same
      have e1 := (upd_ne (H := G8) (o := .lst [.ref a1, .ref a2, .ref a3, .ref a4, .ref a5]) (ne_ gb1)).trans gb1
      have e2 := (upd_ne (H := G8) (o := .lst [.ref a1, .ref a2, .ref a3, .ref a4, .ref a5]) (ne_ gb2)).trans gb2
      have e3 := (upd_ne (H := G8) (o := .lst [.ref a1, .ref a2, .ref a3, .ref a4, .ref a5]) (ne_ (by rw [← List.map_append] at gb3; exact gb3))).trans gb3
      have e4 := (upd_ne (H := G8) (o := .lst [.ref a1, .ref a2, .ref a3, .ref a4, .ref a5]) (ne_ (by rw [← List.map_reverse] at gb4; exact gb4))).trans gb4
      have e5 := (upd_ne (H := G8) (o := .lst [.ref a1, .ref a2, .ref a3, .ref a4, .ref a5]) (ne_ ga5)).trans ga5
      have eG : upd G8 sm (.lst ([.ref a1, .ref a2, .ref a3, .ref a4] ++ [.ref a5])) = upd G8 sm (.lst [.ref a1, .ref a2, .ref a3, .ref a4, .ref a5]) := rfl
      rw [eG]
      generalize upd G8 sm (.lst [.ref a1, .ref a2, .ref a3, .ref a4, .ref a5]) = G9 at DG9 c9 hsm9 e1 e2 e3 e4 e5 ⊢
      have hl9 := c9 l _ hl nld
      refine ⟨_, rfl, .inl ⟨rfl, _, SqL.of hl9⟩, _, rfl, _, rfl, d, rfl, DG9, fun v3 GA _ _ DGA kkA => ⟨v3, 5, rfl, rfl, (show (0 : Int) < 5 by decide), ?_⟩⟩
      refine ⟨line_small (by show 4 ≤ 16777216; decide), fun t2 nt2 => ?_⟩
      have sA := same_new (o := .lst [.int 0, .int 1, .int 2, .int (v3 % 5)]) nt2
      have cB : KeepD d G9 (upd GA t2 (.lst [.int 0, .int 1, .int 2, .int (v3 % 5)])) := kkA.trans (KeepD.of_same sA)
      have DGB := DGA.same sA
      have htB : (upd GA t2 (.lst [.int 0, .int 1, .int 2, .int (v3 % 5)])) t2 = _ := upd_same
      generalize upd GA t2 (.lst [.int 0, .int 1, .int 2, .int (v3 % 5)]) = GB at cB DGB htB ⊢
      have h5 := mod_b v3 (m := 5) (by decide)
      obtain ⟨z, ez, hz⟩ : ∃ z : Nat, atI [V.int 0, V.int 1, V.int 2, V.int (v3 % 5)] (w1 % 4) = some (.int z) ∧ z < 5 := by
        have : w1 % 4 = 0 ∨ w1 % 4 = 1 ∨ w1 % 4 = 2 ∨ w1 % 4 = 3 := by omega
        rcases this with h | h | h | h <;> rw [h]
        · exact ⟨0, rfl, by decide⟩
        · exact ⟨1, rfl, by decide⟩
        · exact ⟨2, rfl, by decide⟩
        · refine ⟨(v3 % 5).toNat, ?_, by omega⟩
          rw [Int.toNat_of_nonneg h5.1]
          rfl
      refine ⟨_, rfl, t2, _, _, _, rfl, rfl, SqL.of htB, ez, ?_⟩
      obtain ⟨a, r, ea, na, nda', hea, hor⟩ : ∃ (a : Addr) (r : List Int), [V.ref a1, V.ref a2, V.ref a3, V.ref a4, V.ref a5][z]? = some (.ref a) ∧ G a = none ∧ a ≠ d ∧ G9 a = some (.lst (r.map V.int)) ∧ IsOrd n r := by
        have : z = 0 ∨ z = 1 ∨ z = 2 ∨ z = 3 ∨ z = 4 := by omega
        rcases this with rfl | rfl | rfl | rfl | rfl
        · exact ⟨a1, r1, rfl, n1, nd1, e1, o1⟩
        · exact ⟨a2, r2, rfl, n2, nd2, e2, o2⟩
        · refine ⟨a3, fs.drop c ++ fs.take c, rfl, n3, nd3, by rw [List.map_append]; exact e3, ?_⟩
          have : (fs.drop c ++ fs.take c).Perm (fs.take c ++ fs.drop c) := List.perm_append_comm
          rw [List.take_append_drop] at this
          exact this.trans ofs
        · exact ⟨a4, fs.reverse, rfl, n4, nd4, by rw [List.map_reverse]; exact e4, (List.reverse_perm fs).trans ofs⟩
        · exact ⟨a5, rb, rfl, n5, nd5, e5, orb⟩
      have hlB := cB l _ hl9 nld
      have hsB := cB sm _ hsm9 nsd
      refine ⟨sm, _, _, _, rfl, rfl, SqL.of hsB, at_of (j := z) rfl ea, ?_⟩
      refine ⟨l, _, _, rfl, rfl, hlB, line_lt (by rw [List.length_map]; omega), ?_⟩
      have cF : KeepD d G GB := c9.trans cB
      have nla2 : a ≠ l := fun e => by rw [e, hl] at na; cases na
      have LLB : LL GB as rs := hLL.keep fun a ha o e => cF a o e (fun q => nda (by rw [← q]; exact ha))
      refine ⟨_, _, _, as ++ [a], rs ++ [r], rfl, by rw [upd_same, List.map_append]; rfl, ?_, fun u hu => ?_, by rw [List.length_append, hlen]; rfl, ?_, fun u hu => ?_, fun hd => ?_, fun hd => ?_, DGB.upd nld, fun u o e nu => ?_⟩
      · refine LL.snoc (LLB.keep fun u hu o e => ?_) ?_
        · rw [upd_ne (fun q => nla (by rw [← q]; exact hu))]
          exact e
        · rw [upd_ne nla2]
          exact cB a _ hea nda'
      · rcases List.mem_append.mp hu with h | h
        · exact ho u h
        · rw [List.mem_singleton.mp h]
          exact hor
      · rw [upd_ne nlf.symm]
        exact cF f0 _ hf nfd
      · rcases List.mem_append.mp hu with h | h
        · exact hna u h
        · rw [List.mem_singleton.mp h]
          exact kG.none na nda'
      · rcases List.mem_append.mp hd with h | h
        · exact nda h
        · exact nda' (List.mem_singleton.mp h).symm
      · rcases List.mem_append.mp hd with h | h
        · exact nla h
        · exact nla2 (List.mem_singleton.mp h).symm
      · rw [upd_ne (fun q => by rw [q, nHl] at e; cases e)]
        exact cF u o (kG u o e nu) nu
    · obtain ⟨y6, y7, y8, as, rs, rfl, hl, hLL, ho, hlen, hf, hna, nda, nla, DG, kG⟩ := hP
      exact ⟨_, rfl, q l as rs G ⟨hl, hLL, ho, hn1, hn2⟩ (by omega) (by omega) nHl hna nld nda DG kG⟩
end
end Fo
namespace Fo
open PySem PySem.Spec PyProof.Rows L2
/-! ### sums -/
def ind (b : Bool) : Nat := if b then 1 else 0
def sumN (l : List Int) (f : Int → Nat) : Nat := (l.map f).sum
theorem sumN_nil (f : Int → Nat) : sumN [] f = 0 := rfl
theorem sumN_cons (a : Int) (l : List Int) (f : Int → Nat) : sumN (a :: l) f = f a + sumN l f := by
  unfold sumN
  rw [List.map_cons, List.sum_cons]
theorem sumN_append (l m : List Int) (f : Int → Nat) : sumN (l ++ m) f = sumN l f + sumN m f := by
  unfold sumN
  rw [List.map_append, List.sum_append]
theorem sumN_perm {l m : List Int} (h : l.Perm m) (f : Int → Nat) : sumN l f = sumN m f := by
  induction h with
  | nil => rfl
  | cons x _ ih => rw [sumN_cons, sumN_cons, ih]
  | swap x y l => rw [sumN_cons, sumN_cons, sumN_cons, sumN_cons]; omega
  | trans _ _ h1 h2 => exact h1.trans h2
theorem sumN_congr {l : List Int} {f g : Int → Nat} (h : ∀ x ∈ l, f x = g x) : sumN l f = sumN l g := by
  unfold sumN
  rw [List.map_congr_left h]
theorem sumN_map (l : List Int) (g : Int → Int) (f : Int → Nat) : sumN (l.map g) f = sumN l (fun x => f (g x)) := by
  unfold sumN
  rw [List.map_map]
  rfl
theorem sumN_zero {l : List Int} {f : Int → Nat} (h : ∀ x ∈ l, f x = 0) : sumN l f = 0 := by
  rw [sumN_congr h]
  induction l with
  | nil => rfl
  | cons a l ih => rw [sumN_cons, ih fun x hx => h x (List.mem_cons_of_mem _ hx)]
theorem sumN_add (l : List Int) (f g : Int → Nat) : sumN l (fun x => f x + g x) = sumN l f + sumN l g := by
  induction l with
  | nil => rfl
  | cons a l ih => rw [sumN_cons, sumN_cons, sumN_cons, ih]; omega
theorem sumN_swap (l m : List Int) (f : Int → Int → Nat) : sumN l (fun i => sumN m (fun j => f i j)) = sumN m (fun j => sumN l (fun i => f i j)) := by
  induction l with
  | nil => exact (sumN_zero fun x _ => rfl).symm
  | cons a l ih =>
    rw [sumN_cons, ih, ← sumN_add]
    exact sumN_congr fun x _ => by rw [sumN_cons]
theorem filter_len (l : List Int) (p : Int → Bool) : (l.filter p).length = sumN l (fun x => ind (p x)) := by
  induction l with
  | nil => rfl
  | cons a l ih =>
    rw [sumN_cons, List.filter_cons]
    unfold ind at ih ⊢
    cases p a
    · simp only [Bool.false_eq_true, if_false]; omega
    · simp only [if_true, List.length_cons]; omega
/-! ### a list by its places -/
def g0 (s : List Int) (i : Int) : Int := s.getD i.toNat 0
theorem g0_at {s : List Int} {i : Nat} {x : Int} (h : s[i]? = some x) : g0 s (i : Int) = x := by
  unfold g0
  rw [Int.toNat_natCast, List.getD_eq_getElem?_getD, h]
  rfl
theorem by_places (s : List Int) : s = (rg s.length).map (g0 s) := by
  apply List.ext_getElem?
  intro i
  unfold rg
  rw [List.getElem?_map, List.getElem?_map]
  by_cases h : i < s.length
  · rw [List.getElem?_range h, List.getElem?_eq_getElem h]
    show some s[i] = some (g0 s (i : Int))
    rw [g0_at (List.getElem?_eq_getElem h)]
  · rw [List.getElem?_eq_none (by omega), List.getElem?_eq_none (by rw [List.length_range]; omega)]
    rfl
theorem rg_succ (n : Nat) : rg (n + 1) = rg n ++ [(n : Int)] := by
  unfold rg
  rw [List.range_succ, List.map_append]
  rfl
/-- how many of the later ones are less -/
def cntL (s : List Int) (i : Nat) : Nat := ((s.drop (i + 1)).filter (fun x => decide (x < g0 s i))).length
def invF (n : Nat) (a : Int → Int) : Nat := sumN (rg n) fun i => sumN (rg n) fun j => ind (decide (i < j) && decide (a j < a i))
def invN (s : List Int) : Nat := sumN (rg s.length) fun i => cntL s i.toNat
theorem drop_sum (n i : Nat) (f : Int → Nat) : sumN ((rg n).drop (i + 1)) f = sumN (rg n) fun j => if (i : Int) < j then f j else 0 := by
  induction n with
  | zero => rfl
  | succ n ih =>
    rw [rg_succ, sumN_append, ← ih, List.drop_append, sumN_append, rg_len]
    congr 1
    by_cases h : i + 1 ≤ n
    · rw [show i + 1 - n = 0 by omega, List.drop_zero, sumN_cons, sumN_cons, sumN_nil, sumN_nil, if_pos (by omega)]
    · rw [show i + 1 - n = (i - n) + 1 by omega, List.drop_succ_cons, List.drop_nil, sumN_cons, sumN_nil, sumN_nil, if_neg (by omega)]
theorem cnt_sum (s : List Int) (i : Nat) : cntL s i = sumN (rg s.length) fun j => ind (decide ((i : Int) < j) && decide (g0 s j < g0 s i)) := by
  unfold cntL
  rw [filter_len]
  have e : s.drop (i + 1) = ((rg s.length).drop (i + 1)).map (g0 s) := by
    rw [List.map_drop, ← by_places]
  rw [e, sumN_map, drop_sum]
  apply sumN_congr
  intro j _
  unfold ind
  by_cases h : (i : Int) < j
  · simp [h]
  · simp [h]
theorem inv_eq (s : List Int) : invN s = invF s.length (g0 s) := by
  unfold invN invF
  apply sumN_congr
  intro i hi
  have := rg_mem.mp hi
  rw [cnt_sum, Int.toNat_of_nonneg this.1]
/-! ### places of things -/
def pos (ys : List Int) (x : Int) : Int := ((ys.idxOf x : Nat) : Int)
def seatsL (xs ys : List Int) : List Int := xs.map (pos ys)
theorem pos_of {n : Nat} {ys : List Int} (o : IsOrd n ys) {j : Nat} {x : Int} (h : ys[j]? = some x) : pos ys x = (j : Int) := by
  obtain ⟨hj, e⟩ := List.getElem?_eq_some_iff.mp h
  have m : x ∈ ys := List.mem_of_getElem? h
  have hi : ys.idxOf x < ys.length := List.idxOf_lt_length_iff.mpr m
  have h2 : ys[ys.idxOf x]? = some x := by
    rw [List.getElem?_eq_getElem hi]
    exact congrArg some (List.getElem_idxOf hi)
  unfold pos
  rw [nd_ix o.nodup h2 h]
theorem pos_at {n : Nat} {ys : List Int} (o : IsOrd n ys) {x : Int} (h0 : 0 ≤ x) (h1 : x < n) : ∃ j : Nat, j < n ∧ ys[j]? = some x ∧ pos ys x = (j : Int) := by
  obtain ⟨j, hj, e⟩ := ord_at o (t := x.toNat) (by omega)
  rw [Int.toNat_of_nonneg h0] at e
  exact ⟨j, hj, e, pos_of o e⟩
theorem back_pos {n : Nat} {ys ps : List Int} (o : IsOrd n ys) (h : IsBack ys ps) {x : Int} (h0 : 0 ≤ x) (h1 : x < n) : ps[x.toNat]? = some (pos ys x) := by
  obtain ⟨j, hj, e, ep⟩ := pos_at o h0 h1
  rw [ep]
  exact h.2 j x e
theorem seats_len (xs ys : List Int) : (seatsL xs ys).length = xs.length := by
  unfold seatsL
  rw [List.length_map]
theorem seats_at {xs ys : List Int} {i : Nat} {x : Int} (h : xs[i]? = some x) : (seatsL xs ys)[i]? = some (pos ys x) := by
  unfold seatsL
  rw [List.getElem?_map, h]
  rfl
theorem seats_self {n : Nat} {ys : List Int} (o : IsOrd n ys) : seatsL ys ys = rg n := by
  apply List.ext_getElem?
  intro i
  by_cases h : i < n
  · obtain ⟨x, hx, _⟩ := ord_ix o h
    rw [seats_at hx, pos_of o hx]
    unfold rg
    rw [List.getElem?_map, List.getElem?_range h]
    rfl
  · rw [List.getElem?_eq_none (by rw [seats_len, o.len]; omega), List.getElem?_eq_none (by rw [rg_len]; omega)]
theorem seats_ord {n : Nat} {xs ys : List Int} (ox : IsOrd n xs) (oy : IsOrd n ys) : IsOrd n (seatsL xs ys) := by
  have h : (seatsL xs ys).Perm (seatsL ys ys) := List.Perm.map _ (ox.trans oy.symm)
  rw [seats_self oy] at h
  exact h
theorem g0_ord {n : Nat} {s : List Int} (o : IsOrd n s) : s = (rg n).map (g0 s) := by
  have e := by_places s
  rw [o.len] at e
  exact e
/-- inversions from the other side -/
theorem inv_turn {n : Nat} {s t : List Int} (os : IsOrd n s) (ot : IsOrd n t) (h : ∀ u ∈ rg n, g0 s (g0 t u) = u) : invN s = invN t := by
  rw [inv_eq, inv_eq, os.len, ot.len]
  unfold invF
  have p1 : ∀ f : Int → Nat, sumN (rg n) f = sumN (rg n) fun u => f (g0 t u) := fun f => by
    have e : sumN ((rg n).map (g0 t)) f = sumN (rg n) fun u => f (g0 t u) := sumN_map _ _ _
    rw [← e, ← g0_ord ot]
    exact (sumN_perm ot f).symm
  rw [p1]
  rw [sumN_congr (g := fun u => sumN (rg n) fun v => ind (decide (g0 t u < g0 t v) && decide (v < u))) (fun u hu => by
    rw [p1]
    exact sumN_congr fun v hv => by rw [h u hu, h v hv])]
  rw [sumN_swap]
  apply sumN_congr
  intro v _
  apply sumN_congr
  intro u _
  rw [Bool.and_comm]
theorem seats_turn {n : Nat} {xs ys : List Int} (ox : IsOrd n xs) (oy : IsOrd n ys) : ∀ u ∈ rg n, g0 (seatsL xs ys) (g0 (seatsL ys xs) u) = u := by
  intro u hu
  have hb := rg_mem.mp hu
  obtain ⟨y, hy, y0, y1⟩ := ord_ix oy (j := u.toNat) (by omega)
  have e1 : g0 (seatsL ys xs) u = pos xs y := by
    have := g0_at (seats_at (ys := xs) hy)
    rw [Int.toNat_of_nonneg hb.1] at this
    exact this
  obtain ⟨j, hj, ej, pj⟩ := pos_at ox y0 y1
  rw [e1, pj, g0_at (seats_at (ys := ys) ej), pos_of oy hy]
  omega
/-! ### how far two orders are -/
def farSwap (xs ys : List Int) : Int := ((invN (seatsL xs ys) : Nat) : Int)
def spotL (xs ys : List Int) : List Int := (rg xs.length).filter fun p => !decide (g0 xs p = g0 ys p)
def farSpot (xs ys : List Int) : Int := (((spotL xs ys).length : Nat) : Int)
def absI (i : Int) : Int := if i < 0 then -i else i
def gapsL (xs ys : List Int) : List Int := (rg xs.length).map fun p => absI (p - g0 (seatsL xs ys) p)
def maxL (l : List Int) : Int := l.foldr max 0
def farShift (xs ys : List Int) : Int := maxL (gapsL xs ys)
theorem maxL_of : ∀ {l : List Int} {m : Int}, (∀ x ∈ l, 0 ≤ x) → m ∈ l → (∀ x ∈ l, x ≤ m) → maxL l = m := by
  intro l m h0 hm hle
  have key : ∀ l : List Int, (∀ x ∈ l, x ≤ m) → maxL l ≤ m := by
    intro l hl
    induction l with
    | nil => exact h0 m hm
    | cons a l ih =>
      show max a (maxL l) ≤ m
      have h1 := hl a List.mem_cons_self
      have h2 := ih fun x hx => hl x (List.mem_cons_of_mem _ hx)
      omega
  have key2 : ∀ l : List Int, ∀ x ∈ l, x ≤ maxL l := by
    intro l
    induction l with
    | nil => intro x hx; exact absurd hx List.not_mem_nil
    | cons a l ih =>
      intro x hx
      show x ≤ max a (maxL l)
      rcases List.mem_cons.mp hx with rfl | hx
      · omega
      · have := ih x hx
        omega
  have := key l hle
  have := key2 l m hm
  omega
theorem gaps_nonneg (xs ys : List Int) : ∀ x ∈ gapsL xs ys, 0 ≤ x := by
  intro x hx
  obtain ⟨p, _, rfl⟩ := List.mem_map.mp hx
  unfold absI
  split <;> omega
theorem maxL_mem {l : List Int} (h0 : ∀ x ∈ l, 0 ≤ x) (hl : 0 < l.length) : maxL l ∈ l ∧ ∀ x ∈ l, x ≤ maxL l := by
  induction l with
  | nil => exact absurd hl (Nat.lt_irrefl _)
  | cons a l ih =>
    show max a (maxL l) ∈ a :: l ∧ ∀ x ∈ a :: l, x ≤ max a (maxL l)
    by_cases c : 0 < l.length
    · obtain ⟨h1, h2⟩ := ih (fun x hx => h0 x (List.mem_cons_of_mem _ hx)) c
      constructor
      · by_cases d : maxL l ≤ a
        · rw [Int.max_eq_left d]
          exact List.mem_cons_self
        · rw [Int.max_eq_right (by omega)]
          exact List.mem_cons_of_mem _ h1
      · intro x hx
        rcases List.mem_cons.mp hx with rfl | hx
        · omega
        · have := h2 x hx
          omega
    · have e : l = [] := List.eq_nil_of_length_eq_zero (by omega)
      subst e
      have := h0 a List.mem_cons_self
      have e2 : max a (maxL []) = a := by show max a 0 = a; omega
      rw [e2]
      exact ⟨List.mem_cons_self, fun x hx => by rw [List.mem_singleton.mp hx]; exact Int.le_refl _⟩
theorem farSwap_turn {n : Nat} {xs ys : List Int} (ox : IsOrd n xs) (oy : IsOrd n ys) : farSwap ys xs = farSwap xs ys := by
  unfold farSwap
  rw [inv_turn (seats_ord ox oy) (seats_ord oy ox) (seats_turn ox oy)]
theorem inv_rg (n : Nat) : invN (rg n) = 0 := by
  rw [inv_eq]
  unfold invF
  apply sumN_zero
  intro i hi
  apply sumN_zero
  intro j hj
  rw [rg_len] at hi hj
  have hi2 := rg_mem.mp hi
  have hj2 := rg_mem.mp hj
  have e : ∀ k : Int, k ∈ rg n → g0 (rg n) k = k := fun k hk => by
    have := rg_mem.mp hk
    have z : (rg n)[k.toNat]? = some k := by
      unfold rg
      rw [List.getElem?_map, List.getElem?_range (by omega)]
      show some ((k.toNat : Nat) : Int) = some k
      rw [Int.toNat_of_nonneg this.1]
    have z2 := g0_at z
    rw [Int.toNat_of_nonneg this.1] at z2
    exact z2
  rw [e i hi, e j hj]
  unfold ind
  by_cases c : i < j
  · have d : ¬ j < i := by omega
    simp [c, d]
  · simp [c]
theorem farSwap_self {n : Nat} {xs : List Int} (ox : IsOrd n xs) : farSwap xs xs = 0 := by
  unfold farSwap
  rw [seats_self ox, inv_rg]
  rfl
theorem farSpot_turn {xs ys : List Int} (h : xs.length = ys.length) : farSpot ys xs = farSpot xs ys := by
  unfold farSpot spotL
  rw [h]
  congr 3
  funext p
  congr 1
  by_cases c : g0 ys p = g0 xs p
  · rw [decide_eq_true c, decide_eq_true c.symm]
  · rw [decide_eq_false c, decide_eq_false fun e => c e.symm]
theorem farSpot_self (xs : List Int) : farSpot xs xs = 0 := by
  unfold farSpot spotL
  have e : ((rg xs.length).filter fun p => !decide (g0 xs p = g0 xs p)) = [] := by
    rw [List.filter_eq_nil_iff]
    intro a _
    simp
  rw [e]
  rfl
theorem gaps_len (xs ys : List Int) : (gapsL xs ys).length = xs.length := by
  unfold gapsL
  rw [List.length_map, rg_len]
theorem gaps_sub {n : Nat} {xs ys : List Int} (ox : IsOrd n xs) (oy : IsOrd n ys) : ∀ g ∈ gapsL ys xs, g ∈ gapsL xs ys := by
  intro g hg
  obtain ⟨u, hu, rfl⟩ := List.mem_map.mp hg
  rw [oy.len] at hu
  have hb := (seats_ord oy ox).mem (x := g0 (seatsL ys xs) u) (by
    have e := g0_ord (seats_ord oy ox)
    rw [e]
    exact List.mem_map.mpr ⟨u, hu, by rw [← e]⟩)
  refine List.mem_map.mpr ⟨g0 (seatsL ys xs) u, by rw [ox.len]; exact rg_mem.mpr hb, ?_⟩
  rw [seats_turn ox oy u hu]
  unfold absI
  split <;> split <;> omega
theorem farShift_turn {n : Nat} {xs ys : List Int} (ox : IsOrd n xs) (oy : IsOrd n ys) (hn : 1 ≤ n) : farShift ys xs = farShift xs ys := by
  unfold farShift
  obtain ⟨h1, h2⟩ := maxL_mem (gaps_nonneg xs ys) (by rw [gaps_len, ox.len]; exact hn)
  exact maxL_of (gaps_nonneg ys xs) (gaps_sub oy ox _ h1) fun x hx => h2 x (gaps_sub ox oy x hx)
theorem farShift_self {n : Nat} {xs : List Int} (ox : IsOrd n xs) (hn : 1 ≤ n) : farShift xs xs = 0 := by
  unfold farShift
  have z : ∀ g ∈ gapsL xs xs, g = 0 := by
    intro g hg
    obtain ⟨u, hu, rfl⟩ := List.mem_map.mp hg
    rw [ox.len] at hu
    have hb := rg_mem.mp hu
    rw [seats_self ox]
    have e : (rg n)[u.toNat]? = some u := by
      unfold rg
      rw [List.getElem?_map, List.getElem?_range (by omega)]
      show some ((u.toNat : Nat) : Int) = some u
      rw [Int.toNat_of_nonneg hb.1]
    have z2 := g0_at e
    rw [Int.toNat_of_nonneg hb.1] at z2
    rw [z2]
    unfold absI
    split <;> omega
  obtain ⟨h1, _⟩ := maxL_mem (gaps_nonneg xs xs) (by rw [gaps_len, ox.len]; exact hn)
  exact z _ h1
end Fo
namespace Fo
open PySem PySem.Spec PyProof.Rows L2
theorem pos_ord {n : Nat} {xs : List Int} (o : IsOrd n xs) : IsOrd n ((rg n).map (pos xs)) := by
  have h : ((rg n).map (pos xs)).Perm (seatsL xs xs) := List.Perm.map _ o.symm
  rw [seats_self o] at h
  exact h
theorem pos_in {n : Nat} {xs : List Int} (o : IsOrd n xs) {t : Int} (h : t ∈ rg n) : pos xs t ∈ rg n := by
  have := (pos_ord o).mem (List.mem_map.mpr ⟨t, h, rfl⟩)
  exact rg_mem.mpr this
theorem pos_inj {n : Nat} {xs : List Int} (o : IsOrd n xs) {t u : Int} (ht : t ∈ rg n) (hu : u ∈ rg n) (e : pos xs t = pos xs u) : t = u := by
  have h1 := rg_mem.mp ht
  have h2 := rg_mem.mp hu
  obtain ⟨i, _, ei, pi⟩ := pos_at o h1.1 h1.2
  obtain ⟨j, _, ej, pj⟩ := pos_at o h2.1 h2.2
  have : i = j := by omega
  subst this
  exact Option.some.inj (ei.symm.trans ej)
/-- a sum over the places is a sum over the things -/
theorem sum_pos {n : Nat} {xs : List Int} (o : IsOrd n xs) (f : Int → Nat) : sumN (rg n) f = sumN (rg n) fun t => f (pos xs t) := by
  have e : sumN ((rg n).map (pos xs)) f = sumN (rg n) fun t => f (pos xs t) := sumN_map _ _ _
  rw [← e]
  exact (sumN_perm (pos_ord o) f).symm
theorem sum_g0 {n : Nat} {xs : List Int} (o : IsOrd n xs) (f : Int → Nat) : sumN (rg n) f = sumN (rg n) fun p => f (g0 xs p) := by
  have e : sumN ((rg n).map (g0 xs)) f = sumN (rg n) fun t => f (g0 xs t) := sumN_map _ _ _
  rw [← e, ← g0_ord o]
  exact (sumN_perm o f).symm
theorem g0_pos {n : Nat} {xs : List Int} (o : IsOrd n xs) {t : Int} (h : t ∈ rg n) : g0 xs (pos xs t) = t := by
  have h1 := rg_mem.mp h
  obtain ⟨j, _, ej, pj⟩ := pos_at o h1.1 h1.2
  rw [pj]
  exact g0_at ej
theorem pos_g0 {n : Nat} {xs : List Int} (o : IsOrd n xs) {p : Int} (h : p ∈ rg n) : pos xs (g0 xs p) = p := by
  have h1 := rg_mem.mp h
  obtain ⟨x, hx, _⟩ := ord_ix o (j := p.toNat) (by omega)
  have e := g0_at hx
  rw [Int.toNat_of_nonneg h1.1] at e
  rw [e, pos_of o hx]
  omega
theorem g0_in {n : Nat} {xs : List Int} (o : IsOrd n xs) {p : Int} (h : p ∈ rg n) : g0 xs p ∈ rg n := by
  have h1 := rg_mem.mp h
  obtain ⟨x, hx, x0, x1⟩ := ord_ix o (j := p.toNat) (by omega)
  have e := g0_at hx
  rw [Int.toNat_of_nonneg h1.1] at e
  rw [e]
  exact rg_mem.mpr ⟨x0, x1⟩
end Fo
namespace Fo
open PySem PySem.Spec PyProof.Rows L2
/-! ### all orders of few things -/
def extO (n : Nat) (o : List Int) : List (List Int) := ((rg n).filter fun t => !decide (t ∈ o)).map fun t => o ++ [t]
def allK (n : Nat) : Nat → List (List Int)
  | 0 => [[]]
  | k + 1 => (allK n k).flatMap (extO n)
theorem allK_row {n : Nat} : ∀ (k : Nat) (r : List Int), r ∈ allK n k → r.length = k ∧ r.Nodup ∧ ∀ x ∈ r, x ∈ rg n
  | 0, r, h => by
    rw [List.mem_singleton.mp h]
    exact ⟨rfl, List.nodup_nil, fun x hx => absurd hx List.not_mem_nil⟩
  | k + 1, r, h => by
    obtain ⟨o, ho, hr⟩ := List.mem_flatMap.mp h
    obtain ⟨h1, h2, h3⟩ := allK_row k o ho
    obtain ⟨t, ht, rfl⟩ := List.mem_map.mp hr
    obtain ⟨ht1, ht2⟩ := List.mem_filter.mp ht
    have hto : t ∉ o := by simpa using ht2
    refine ⟨by rw [List.length_append, h1]; rfl, ?_, fun x hx => ?_⟩
    · rw [List.nodup_append]
      refine ⟨h2, List.nodup_cons.mpr ⟨List.not_mem_nil, List.nodup_nil⟩, fun x hx y hy e => ?_⟩
      rw [List.mem_singleton.mp hy] at e
      exact hto (by rw [← e]; exact hx)
    · rcases List.mem_append.mp hx with hx | hx
      · exact h3 x hx
      · rw [List.mem_singleton.mp hx]
        exact ht1
theorem extO_len (n : Nat) (o : List Int) : (extO n o).length ≤ n := by
  unfold extO
  rw [List.length_map]
  have := List.length_filter_le (fun t => !decide (t ∈ o)) (rg n)
  rw [rg_len] at this
  exact this
theorem flat_len (n : Nat) : ∀ l : List (List Int), (l.flatMap (extO n)).length ≤ l.length * n
  | [] => Nat.zero_le _
  | o :: l => by
    rw [List.flatMap_cons, List.length_append, List.length_cons, Nat.add_mul, Nat.one_mul]
    have := flat_len n l
    have := extO_len n o
    omega
theorem allK_len {n : Nat} (hn : n ≤ 6) : ∀ k, k ≤ n → (allK n k).length ≤ 6 ^ k
  | 0, _ => Nat.le_refl _
  | k + 1, hk => by
    have ih := allK_len hn k (by omega)
    have h1 : (allK n (k + 1)).length ≤ (allK n k).length * n := flat_len n (allK n k)
    have h2 : (allK n k).length * n ≤ 6 ^ k * 6 := Nat.mul_le_mul ih hn
    rw [Nat.pow_succ]
    omega
theorem pow6 {k : Nat} (h : k ≤ 6) : 6 ^ k ≤ 46656 := by
  have : 6 ^ k ≤ 6 ^ 6 := Nat.pow_le_pow_right (by decide) h
  exact this
theorem nodup_count : ∀ {l : List Int}, l.Nodup → ∀ a, l.count a = if a ∈ l then 1 else 0
  | [], _, a => by simp
  | b :: l, h, a => by
    obtain ⟨h1, h2⟩ := List.nodup_cons.mp h
    have ih := nodup_count h2 a
    rw [List.count_cons, ih]
    by_cases c : b = a
    · subst c
      simp [h1]
    · have c2 : ¬ a = b := fun e => c e.symm
      simp [c, c2]
theorem nodup_ord {n : Nat} {s : List Int} (hl : s.length = n) (hn : s.Nodup) (hb : ∀ x ∈ s, x ∈ rg n) : IsOrd n s := by
  unfold IsOrd
  rw [List.perm_iff_count]
  intro a
  rw [nodup_count hn, nodup_count (rg_nodup n)]
  by_cases c : a ∈ s
  · rw [if_pos c, if_pos (hb a c)]
  · rw [if_neg c]
    by_cases d : a ∈ rg n
    · exfalso
      have := nodup_len (l := a :: s) (m := rg n) (List.nodup_cons.mpr ⟨c, hn⟩) fun x hx => by
        rcases List.mem_cons.mp hx with rfl | hx
        · exact d
        · exact hb x hx
      rw [List.length_cons, rg_len] at this
      omega
    · rw [if_neg d]
theorem all_ord {n : Nat} {r : List Int} (h : r ∈ allK n n) : IsOrd n r := by
  obtain ⟨h1, h2, h3⟩ := allK_row n r h
  exact nodup_ord h1 h2 h3
theorem inV_int (t : Int) : ∀ row : List Int, inV (.int t) (row.map V.int) = decide (t ∈ row)
  | [] => rfl
  | a :: r => by
    have ih := inV_int t r
    unfold inV at ih ⊢
    rw [List.map_cons, List.any_cons, ih, eqV_int]
    by_cases c : a = t
    · subst c
      simp
    · have c2 : ¬ t = a := fun e => c e.symm
      simp [c, c2]
theorem ext_more {n : Nat} {o : List Int} (j : Nat) : ((rg (j + 1)).filter fun t => !decide (t ∈ o)).map (fun t => o ++ [t]) = (((rg j).filter fun t => !decide (t ∈ o)).map fun t => o ++ [t]) ++ (if (j : Int) ∈ o then [] else [o ++ [(j : Int)]]) := by
  rw [rg_succ, List.filter_append, List.map_append, List.filter_cons]
  congr 1
  by_cases c : (j : Int) ∈ o
  · rw [decide_eq_true c, if_pos c]
    rfl
  · rw [decide_eq_false c, if_neg c]
    rfl
/-! ### comprehensions with two fors: a list, then a range -/
theorem lc2_list {K : PySem.W.Frag} {a : Addr} {xs : List V} {g : TG} {tt : TT} {wi1 : TI} {g1 : TG} {tt1 : TT} {te : TE} {vs vs1 : List Nat} {σ : L2.St} {H1 : Hp} {D : Addr} {Qd : Hp → Prop} (Pv : Nat → Hp → Prop) (h0 : Pv 0 (upd H1 D (.lst []))) (hl : ∀ i H, i ≤ xs.length → Pv i H → SqL K H a xs)
    (hs : ∀ i x H, xs[i]? = some x → Pv i H → g x (wipe σ vs) H fun σ2 H2 => wipe σ2 vs = wipe σ vs ∧ tt σ2 H2 fun b H3 =>
      if b = true then wi1 σ2 H3 fun J1 H4 => ∃ W1 : Nat → Nat → Hp → Prop, (∃ m, W1 0 m H4) ∧ ∀ j k H, W1 j k H →
        (J1.stop j H ∧ Pv (i + 1) H) ∨ (J1.go j H ∧ ∃ Nx1 : Hp → Prop, (∀ H', Nx1 H' → ∃ k', k' < k ∧ W1 (j + 1) k' H') ∧ ∀ x H', J1.yld j H x H' → g1 x (wipe σ2 vs1) H' fun σ3 H5 => wipe σ3 vs1 = wipe σ2 vs1 ∧ tt1 σ3 H5 fun b H6 =>
          if b = true then te σ3 H6 fun y H7 => ∃ acc, H7 D = some (.lst acc) ∧ acc.length < sizeLine ∧ Nx1 (upd H7 D (.lst (acc ++ [y]))) else Nx1 H6)
      else Pv (i + 1) H3) (hd : ∀ H, Pv xs.length H → Qd H) :
    ∃ W : Nat → Nat → Hp → Prop, (∃ m, W 0 m (upd H1 D (.lst []))) ∧ ∀ i m H, W i m H →
      ((Itl K a).stop i H ∧ Qd H) ∨ ((Itl K a).go i H ∧ ∃ Nx : Hp → Prop, (∀ H', Nx H' → ∃ m', m' < m ∧ W (i + 1) m' H') ∧ ∀ x H', (Itl K a).yld i H x H' → g x (wipe σ vs) H' fun σ2 H2 => wipe σ2 vs = wipe σ vs ∧ tt σ2 H2 fun b H3 =>
        if b = true then wi1 σ2 H3 fun J1 H4 => ∃ W1 : Nat → Nat → Hp → Prop, (∃ m, W1 0 m H4) ∧ ∀ j k H, W1 j k H →
          (J1.stop j H ∧ Nx H) ∨ (J1.go j H ∧ ∃ Nx1 : Hp → Prop, (∀ H', Nx1 H' → ∃ k', k' < k ∧ W1 (j + 1) k' H') ∧ ∀ x H', J1.yld j H x H' → g1 x (wipe σ2 vs1) H' fun σ3 H5 => wipe σ3 vs1 = wipe σ2 vs1 ∧ tt1 σ3 H5 fun b H6 =>
            if b = true then te σ3 H6 fun y H7 => ∃ acc, H7 D = some (.lst acc) ∧ acc.length < sizeLine ∧ Nx1 (upd H7 D (.lst (acc ++ [y]))) else Nx1 H6)
        else Nx H3) := by
  refine ⟨fun i m H => m = xs.length - i ∧ i ≤ xs.length ∧ Pv i H, ⟨xs.length, by simp, Nat.zero_le _, h0⟩, ?_⟩
  rintro i m H ⟨rfl, hi, p⟩
  have q := hl i H hi p
  by_cases hlt : i < xs.length
  · refine .inr ⟨⟨xs, xs[i], q, by simp [hlt]⟩, Pv (i + 1), fun H' p' => ⟨xs.length - (i + 1), by omega, rfl, hlt, p'⟩, fun x H' y => ?_⟩
    obtain ⟨e, y⟩ := y
    subst e
    exact hs i x _ (y _ q) p
  · have e : i = xs.length := by omega
    subst e
    exact .inl ⟨⟨xs, q, Nat.le_refl _⟩, hd H p⟩
theorem in_range {lo : Int} {n : Nat} {g1 : TG} {tt1 : TT} {te : TE} {vs1 : List Nat} {σ2 : L2.St} {H4 : Hp} {D : Addr} {Nx : Hp → Prop} (Pw : Nat → Hp → Prop) (h0 : Pw 0 H4)
    (hs : ∀ j H, j < n → Pw j H → g1 (.int (lo + j)) (wipe σ2 vs1) H fun σ3 H5 => wipe σ3 vs1 = wipe σ2 vs1 ∧ tt1 σ3 H5 fun b H6 =>
      if b = true then te σ3 H6 fun y H7 => ∃ acc, H7 D = some (.lst acc) ∧ acc.length < sizeLine ∧ Pw (j + 1) (upd H7 D (.lst (acc ++ [y]))) else Pw (j + 1) H6) (hd : ∀ H, Pw n H → Nx H) :
    ∃ W1 : Nat → Nat → Hp → Prop, (∃ m, W1 0 m H4) ∧ ∀ j k H, W1 j k H →
      ((Itr lo n).stop j H ∧ Nx H) ∨ ((Itr lo n).go j H ∧ ∃ Nx1 : Hp → Prop, (∀ H', Nx1 H' → ∃ k', k' < k ∧ W1 (j + 1) k' H') ∧ ∀ x H', (Itr lo n).yld j H x H' → g1 x (wipe σ2 vs1) H' fun σ3 H5 => wipe σ3 vs1 = wipe σ2 vs1 ∧ tt1 σ3 H5 fun b H6 =>
        if b = true then te σ3 H6 fun y H7 => ∃ acc, H7 D = some (.lst acc) ∧ acc.length < sizeLine ∧ Nx1 (upd H7 D (.lst (acc ++ [y]))) else Nx1 H6) := by
  refine ⟨fun j m H => m = n - j ∧ j ≤ n ∧ Pw j H, ⟨n, by simp, Nat.zero_le _, h0⟩, ?_⟩
  rintro j m H ⟨rfl, hi, p⟩
  by_cases hlt : j < n
  · refine .inr ⟨hlt, Pw (j + 1), fun H' p' => ⟨n - (j + 1), by omega, rfl, hlt, p'⟩, fun x H' y => ?_⟩
    obtain ⟨e, y⟩ := y
    subst e y
    exact hs j _ hlt p
  · have e : j = n := by omega
    subst e
    exact .inl ⟨Nat.le_refl _, hd H p⟩
end Fo
namespace Fo
open PySem PySem.Spec PyProof.Rows L2
def spWhole : Sp := fun vs H Q _ => ∃ i : Int, vs = [.int i] ∧ Q (.bl true) H
section
variable {P : Program} {w : World} {K : PySem.W.Frag} {mg : Str → Option Value} {base : Heap}
theorem scWhole : FnScope ["thing"] ["thing"] (defScope s_is_whole) := ⟨rfl, rfl, rfl, by decide +kernel, rfl, by decide +kernel, by decide +kernel⟩
theorem ok_whole {f : Addr} {fd : FuncData} {k : Nat} (T : Df K mg "is_whole" s_is_whole ["thing"] f fd) (B : Bi mg) : FnOk P w K mg base CX0 (k + 1) f fd ["thing"] spWhole := by
  refine T.F.ok scWhole (fun vs H Q E h => ?_) (fun cdv A outer s H vs Q E hr h => ?_)
  · obtain ⟨i, rfl, _⟩ := h
    rfl
  · obtain ⟨i, rfl, q⟩ := h
    refine ⟨_, pss_one (ps_ret (pe_and (pe_callB call_isi (by rfl) B.isinstance (by decide +kernel) (pa_cons (pv 0) (pa_cons (pe_bltn (v := .ty "int") (by rfl) B.int (by decide +kernel) rfl) pa_nil)))
      (pe_one (pe_not (pe_callB call_isi (by rfl) B.isinstance (by decide +kernel) (pa_cons (pv 0) (pa_cons (pe_bltn (v := .ty "bool") (by rfl) B.bool (by decide +kernel) rfl) pa_nil))))))), ?_⟩
    refine ⟨_, rfl, _, _, _, _, true, rfl, .ty _, .base (.int _), kit_ty (by decide +kernel), true, rfl, iteT ?_⟩
    exact ⟨_, rfl, _, _, _, _, false, rfl, .ty _, .base (.int _), kit_ty (by decide +kernel), false, rfl, q⟩
end
end Fo
namespace Fo
open PySem PySem.Spec PyProof.Rows L2
/-! ### whole numbers, orders -/
def spIsOrd : Sp := fun vs H Q _ => ∃ (a : Addr) (n : Nat) (ns : List Int), vs = [.ref a] ∧ H a = some (.lst (ns.map V.int)) ∧ IsOrd n ns ∧ 1 ≤ n ∧ n ≤ 12 ∧ ∀ H', Same H H' → Q (.bl true) H'
def spCheck : Sp := fun vs H Q _ => ∃ (a : Addr) (n : Nat) (ns : List Int), vs = [.ref a] ∧ H a = some (.lst (ns.map V.int)) ∧ IsOrd n ns ∧ 1 ≤ n ∧ n ≤ 12 ∧ ∀ H', Same H H' → Q .non H'
section
variable {P : Program} {w : World} {K : PySem.W.Frag} {mg : Str → Option Value} {base : Heap}
theorem scIsOrd : FnScope ["thing", "number"] ["thing"] (defScope s_is_order) := ⟨rfl, rfl, rfl, by decide +kernel, rfl, by decide +kernel, by decide +kernel⟩
theorem all_true (n : Nat) : (List.replicate n true).all id = true := by simp
set_option maxHeartbeats 2000000 in
theorem ok_is_order {f fW : Addr} {fd fdW : FuncData} {k : Nat} {t : Tok} (T : Df K mg "is_order" s_is_order ["thing"] f fd) (TW : Df K mg "is_whole" s_is_whole ["thing"] fW fdW) (B : Bi mg) (mM : mg "MOST_THINGS" = some (.int 12 t)) : FnOk P w K mg base CX0 (k + 2) f fd ["thing"] spIsOrd := by
  have GW : FnOk P w K mg base CX0 (k + 1) fW fdW ["thing"] spWhole := ok_whole TW B
  refine T.F.ok scIsOrd (fun vs H Q E h => ?_) (fun cdv A outer s H vs Q E hr h => ?_)
  · obtain ⟨a, n, ns, rfl, _⟩ := h
    rfl
  · obtain ⟨a, n, ns, rfl, hl, ho, hn1, hn2, q⟩ := h
    have hlm : (ns.map V.int).length = n := by rw [List.length_map, ho.len]
    refine ⟨_, pss_cons (ps_if (PW.pt (pw_or (pt_not (pt_val (pe_callB call_isi (by rfl) B.isinstance (by decide +kernel) (pa_cons (pv 0) (pa_cons (pe_bltn (v := .ty "list") (by rfl) B.list (by decide +kernel) rfl) pa_nil)))))
        (pw_or (pt_cmpR op_lt (pe_callB call_len_seq (by rfl) B.len PySem.boot_len (pa_cons (pv 0) pa_nil)) pe_int (nomark _)) (pw_or1 (pt_cmpR op_gt (pe_callB call_len_seq (by rfl) B.len PySem.boot_len (pa_cons (pv 0) pa_nil)) (pe_glob (v := .int 12) (by rfl) mM ⟨_, rfl⟩) (nomark _))))))
        (pss_one (ps_ret pe_bl)) pss_nil)
      (pss_cons (ps_if (pt_not (pt_val (pe_callB (cr_all rfl) (by rfl) B.all (by decide +kernel) (pa_cons (pe_lc (own := [("number", 1)]) (g := gName 1) (tt := tYes) (te := tCall spWhole [] E0 (tCons (tVar 1) tNil)) rfl scIsOrd.nd (pi_list (pv 0)) (blkOk_by (N := ["thing", "number"]) (sc := defScope s_is_order) (by decide +kernel)) (fun _ _ _ _ _ => pg_name (i := 1) scIsOrd.nd rfl (.inl rfl)) (fun _ _ _ _ _ => pts_nil)
          (fun _ _ _ _ _ => pe_call GW hr (by rfl) TW.g TW.F.kp TW.b .nil pass0 (pa_cons (pv 1) pa_nil))) pa_nil)))) (pss_one (ps_ret pe_bl)) pss_nil)
      (pss_one (ps_ret (pe_cmpR (op_eqD hr.units) (pe_callB cr_sorted (by rfl) B.sorted (by decide +kernel) (pa_cons (pv 0) pa_nil)) (pe_listRg rfl (by rfl) B.list (prg_1 (by rfl) B.range (pe_callB call_len_seq (by rfl) B.len PySem.boot_len (pa_cons (pv 0) pa_nil)))) (nomark _))))), ?_⟩
    refine ⟨_, rfl, _, _, _, _, true, rfl, .ty _, .base (.lst hl), kit_ty (by decide +kernel), true, rfl, iteF ?_⟩
    refine ⟨_, rfl, a, _, rfl, .inl (SqL.of hl), _, 1, rfl, rfl, _, rfl, ite2 (fun c => absurd (of_decide_eq_true c) (by rw [hlm]; omega)) (fun _ => ?_)⟩
    refine ⟨_, rfl, a, _, rfl, .inl (SqL.of hl), _, 12, rfl, rfl, _, rfl, ite2 (fun c => absurd (of_decide_eq_true c) (by rw [hlm]; omega)) (fun _ => ?_)⟩
    refine ⟨_, rfl, a, rfl, ⟨_, SqL.of hl⟩, fun p np => ?_⟩
    refine lc_list (K := K) (a := a) (xs := ns.map V.int) (fun i H3 => H3 p = some (.lst ((List.replicate i true).map V.bl)) ∧ Same H H3) ⟨upd_same, same_new np⟩ (fun i H3 _ hP => SqL.of (hP.2 _ _ hl)) (fun i x H3 hx hP => ?_) (fun H3 hP => ?_)
    · obtain ⟨y, ey, rfl⟩ := int_at_inv hx
      obtain ⟨hp3, sm⟩ := hP
      refine ⟨rfl, _, rfl, y, rfl, _, hp3, line_lt (by
        rw [List.length_map, List.length_replicate]
        have := (List.getElem?_eq_some_iff.mp hx).1
        omega), ?_, fun b o e => ?_⟩
      · rw [upd_same, List.replicate_succ', List.map_append]
        rfl
      · rw [upd_ne (ne_of_none e np)]
        exact sm _ _ e
    · obtain ⟨hp3, sm⟩ := hP
      have hl3 := sm _ _ hl
      refine ⟨p, _, rfl, SqL.of hp3, _, rfl, ?_⟩
      rw [all_true]
      refine iteF ?_
      refine ⟨_, rfl, a, ns, rfl, SqL.of hl3, by rw [ho.len]; omega, fun ns' s1 hperm hsrt ns1 => ?_⟩
      have hl4 := same_new (o := .lst (ns'.map V.int)) ns1 _ _ hl3
      refine ⟨_, rfl, a, _, rfl, .inl (SqL.of hl4), _, rfl, RgOk.of_le (by omega) (by rw [hlm]; omega) (by omega) (by omega), fun s2 ns2 => ?_⟩
      have e1 : ns' = rg n := sorted_eq (hperm.trans ho) hsrt (rg_sorted n)
      subst e1
      rw [hlm]
      have h1 : (upd (upd H3 s1 (.lst ((rg n).map V.int))) s2 (.lst (rgV 0 (n : Int)))) s1 = some (.lst ((rg n).map V.int)) := same_new ns2 _ _ upd_same
      have h2 : (upd (upd H3 s1 (.lst ((rg n).map V.int))) s2 (.lst (rgV 0 (n : Int)))) s2 = some (.lst ((rg n).map V.int)) := by rw [upd_same, rg_V]
      refine ⟨_, _, dp_list h1, dp_list h2, shaped_list _, shaped_list _, ?_⟩
      rw [eqv_list]
      exact q _ ((sm.trans (same_new ns1)).trans (same_new ns2))
end
end Fo
namespace Fo
open PySem PySem.Spec PyProof.Rows L2
def spPlaces : Sp := fun vs H Q _ => ∃ (a : Addr) (n : Nat) (ns : List Int), vs = [.ref a] ∧ H a = some (.lst (ns.map V.int)) ∧ IsOrd n ns ∧ 1 ≤ n ∧ n ≤ 12 ∧
  ∀ (ps : List Int) (l : Addr) (H' : Hp), IsBack ns ps → H l = none → H' l = some (.lst (ps.map V.int)) → Same H H' → Q (.ref l) H'
section
variable {P : Program} {w : World} {K : PySem.W.Frag} {mg : Str → Option Value} {base : Heap}
theorem scPlaces : FnScope ["order", "places", "place", "thing"] ["order"] (defScope s_places_in) := ⟨rfl, rfl, rfl, by decide +kernel, rfl, by decide +kernel, by decide +kernel⟩
set_option maxHeartbeats 2000000 in
theorem ok_places {f : Addr} {fd : FuncData} {k : Nat} (T : Df K mg "places_in" s_places_in ["order"] f fd) (B : Bi mg) : FnOk P w K mg base CX0 (k + 1) f fd ["order"] spPlaces := by
  refine T.F.ok scPlaces (fun vs H Q E h => ?_) (fun cdv A outer s H vs Q E hr h => ?_)
  · obtain ⟨a, n, ns, rfl, _⟩ := h
    rfl
  · obtain ⟨a, n, ns, rfl, ha, ho, hn1, hn2, q⟩ := h
    have hlm : (ns.map V.int).length = n := by rw [List.length_map, ho.len]
    have hz : ∀ m : Nat, (List.replicate m [V.int 0]).flatten = (List.replicate m (0 : Int)).map V.int := by
      intro m
      induction m with
      | zero => rfl
      | succ m ih => rw [List.replicate_succ, List.replicate_succ, List.flatten_cons, ih]; rfl
    refine ⟨_, 
      (pss_cons (ps_set (i := 1) scPlaces.nd rfl (.inl rfl) (pe_op op_rep (pe_lst (pa_cons pe_int pa_nil)) (pe_callB call_len_seq (by rfl) B.len PySem.boot_len (pa_cons (pv 0) pa_nil))))
      (pss_cons (ps_for PassesOwn.never rfl (pi_enum (by rfl) B.enumerate (pa_cons (pv 0) pa_nil)) (pg_tup (by rfl) (pgs_cons (pg_name (i := 2) scPlaces.nd rfl (.inl rfl)) (pgs_cons (pg_name (i := 3) scPlaces.nd rfl (.inl rfl)) pgs_nil)))
        (pss_one (ps_asg (pv 2) (pg_sub (pv 1) (pv 3) set_list))))
      (pss_one (ps_ret (pv 1))))), ?_⟩
    refine ⟨line_small (by show 1 ≤ 16777216; decide), fun z nz => ?_⟩
    have s1 := same_new (o := .lst [.int 0]) nz
    refine ⟨_, rfl, a, _, rfl, .inl (SqL.of (s1 _ _ ha)), z, _, _, rfl, rfl, upd_same, by omega, by rw [hlm]; omega, line_small (by rw [hlm, Int.toNat_natCast]; show 1 * n ≤ _; omega), fun l nl => ?_⟩
    have s2 := s1.trans (same_new (o := .lst (List.replicate (((ns.map V.int).length : Nat) : Int).toNat [V.int 0]).flatten) nl)
    have nHl : H l = none := s1.free nl
    refine ⟨_, rfl, a, _, rfl, SqL.of (s2 _ _ ha), ?_⟩
    refine for_enumL (xs := ns.map V.int) (fun i σ H3 => ∃ (y2 y3 : Option V) (ps : List Int), σ = [some (.ref a), some (.ref l), y2, y3] ∧ H3 l = some (.lst (ps.map V.int)) ∧ ps.length = n ∧ (∀ (j : Nat) (x : Int), j < i → ns[j]? = some x → ps[x.toNat]? = some (j : Int)) ∧ Same H H3)
      ⟨none, none, List.replicate n 0, rfl, by rw [upd_same, hz, hlm, Int.toNat_natCast], by rw [List.length_replicate], fun j x hj => absurd hj (Nat.not_lt_zero _), s2⟩ (fun i σ H3 hP => by obtain ⟨_, _, _, _, _, _, _, sm⟩ := hP; exact SqL.of (sm _ _ ha)) (fun i x t σ H3 hx hP nt => ?_) (fun σ H3 hP => ?_)
    · obtain ⟨y2, y3, ps, rfl, hl3, el, hat, sm⟩ := hP
      obtain ⟨y, ey, rfl⟩ := int_at_inv hx
      have hy := ho.mem (List.mem_of_getElem? ey)
      have s3 := same_new (o := .tup [.int (i : Nat), .int y]) nt
      have hl4 := s3 _ _ hl3
      refine ⟨t, _, rfl, .inl (.inl upd_same), rfl, _, _, rfl, _, _, rfl, rfl, ?_⟩
      refine ⟨_, rfl, _, rfl, _, rfl, l, _, _, y.toNat, rfl, rfl, hl4, ix_n (by omega) (by rw [List.length_map]; omega), ?_⟩
      refine ⟨_, _, ps.set y.toNat (i : Int), rfl, by rw [upd_same, List.map_set], by rw [List.length_set]; exact el, fun j x hj hx2 => ?_, fun c o e => ?_⟩
      · by_cases c : j = i
        · subst c
          have e1 : x = y := Option.some.inj (hx2.symm.trans ey)
          subst e1
          rw [List.getElem?_set_self (by omega)]
        · have hx3 := ho.mem (List.mem_of_getElem? hx2)
          have ne : y.toNat ≠ x.toNat := fun e => c (nd_ix ho.nodup hx2 (by rw [ey]; congr 1; omega))
          rw [List.getElem?_set_ne ne]
          exact hat j x (by omega) hx2
      · rw [upd_ne (ne_of_none e nHl)]
        exact s3 _ _ (sm _ _ e)
    · obtain ⟨y2, y3, ps, rfl, hl3, el, hat, sm⟩ := hP
      rw [hlm] at hat
      refine ⟨_, rfl, q ps l H3 ⟨by rw [el, ho.len], fun j x hx => hat j x ?_ hx⟩ nHl hl3 sm⟩
      have := (List.getElem?_eq_some_iff.mp hx).1
      rw [ho.len] at this
      exact this
end
end Fo
namespace Fo
open PySem PySem.Spec PyProof.Rows L2
def spOLst : Sp := fun vs H Q _ => ∃ (l : Addr) (as : List Addr) (rs : List (List Int)) (n : Nat), vs = [.ref l] ∧ OL H l as rs n ∧ rs.length ≤ 1000 ∧ ∀ H', Same H H' → Q (.bl true) H'
theorem take_more' {α : Type} {l : List α} {i : Nat} {x : α} (h : l[i]? = some x) : l.take (i + 1) = l.take i ++ [x] := by
  rw [List.take_add_one, h]
  rfl
section
variable {P : Program} {w : World} {K : PySem.W.Frag} {mg : Str → Option Value} {base : Heap}
theorem scOLst : FnScope ["thing", "each", "order"] ["thing"] (defScope s_is_order_list) := ⟨rfl, rfl, rfl, by decide +kernel, rfl, by decide +kernel, by decide +kernel⟩
set_option maxHeartbeats 2000000 in
theorem ok_olst {f f1 : Addr} {fd d1 : FuncData} {k : Nat} (T : Df K mg "is_order_list" s_is_order_list ["thing"] f fd) (T_is_order : Df K mg "is_order" s_is_order ["thing"] f1 d1) (G_is_order : FnOk P w K mg base CX0 k f1 d1 ["thing"] spIsOrd) (B : Bi mg) : FnOk P w K mg base CX0 (k + 1) f fd ["thing"] spOLst := by
  refine T.F.ok scOLst (fun vs H Q E h => ?_) (fun cdv A outer s H vs Q E hr h => ?_)
  · obtain ⟨l, as, rs, n, rfl, _⟩ := h
    rfl
  · obtain ⟨l, as, rs, n, rfl, hO, hlen, q⟩ := h
    have hal := hO.ll.len
    refine ⟨_, 
      (pss_cons (ps_if (PW.pt (pw_or (pt_not (pt_val (pe_callB call_isi (by rfl) B.isinstance (by decide +kernel) (pa_cons (pv 0) (pa_cons (pe_bltn (v := .ty "list") (by rfl) B.list (by decide +kernel) rfl) pa_nil))))) (pw_or1 (pt_not (pt_val (pe_callB (cr_all rfl) (by rfl) B.all (by decide +kernel) (pa_cons (pe_lc (own := [("each", 1)]) (g := (gName 1)) (tt := tYes) (te := (tCall spIsOrd [] E0 (tCons (tVar 1) tNil))) rfl scOLst.nd (pi_list (pv 0)) (blkOk_by (N := ["thing", "each", "order"]) (sc := defScope s_is_order_list) (by decide +kernel)) (fun _ _ _ _ _ => (pg_name (i := 1) scOLst.nd rfl (.inl rfl))) (fun _ _ _ _ _ => pts_nil) (fun _ _ _ _ _ => (pe_call G_is_order hr (by rfl) T_is_order.g T_is_order.F.kp T_is_order.b .nil pass0 (pa_cons (pv 1) pa_nil)))) pa_nil)))))))
        (pss_one (ps_ret pe_bl))
        pss_nil)
      (pss_one (ps_ret (pe_callB (cr_all rfl) (by rfl) B.all (by decide +kernel) (pa_cons (pe_lc (own := [("order", 2)]) (g := (gName 2)) (tt := tYes) (te := (tOp rEq (tCB (rLenS K) (tCons (tVar 2) tNil)) (tCB (rLenS K) (tCons (tOp (rIxL K) (tVar 0) (tC (.int 0))) tNil)))) rfl scOLst.nd (pi_list (pv 0)) (blkOk_by (N := ["thing", "each", "order"]) (sc := defScope s_is_order_list) (by decide +kernel)) (fun _ _ _ _ _ => (pg_name (i := 2) scOLst.nd rfl (.inl rfl))) (fun _ _ _ _ _ => pts_nil) (fun _ _ _ _ _ => (pe_cmpR op_eq (pe_callB call_len_seq (by rfl) B.len PySem.boot_len (pa_cons (pv 2) pa_nil)) (pe_callB call_len_seq (by rfl) B.len PySem.boot_len (pa_cons (pe_ix ix_list (pv 0) pe_int (fun _ _ => rfl)) pa_nil)) (nomark _)))) pa_nil))))), ?_⟩
    refine ⟨_, rfl, _, _, _, _, true, rfl, .ty _, .base (.lst hO.top), kit_ty (by decide +kernel), true, rfl, iteF ?_⟩
    refine ⟨_, rfl, l, rfl, ⟨_, SqL.of hO.top⟩, fun p np => ?_⟩
    refine lc_list (K := K) (a := l) (xs := as.map V.ref) (fun i H3 => H3 p = some (.lst ((List.replicate i true).map V.bl)) ∧ Same H H3) ⟨upd_same, same_new np⟩ (fun i H3 _ hP => SqL.of (hP.2 _ _ hO.top)) (fun i x H3 hx hP => ?_) (fun H3 hP => ?_)
    · obtain ⟨a, ea, rfl⟩ := ref_at_inv hx
      obtain ⟨hp3, sm⟩ := hP
      obtain ⟨r, er, ha⟩ := (hO.ll.same sm).get ea
      refine ⟨rfl, _, rfl, a, n, r, rfl, ha, hO.ord r (List.mem_of_getElem? er), hO.n1, hO.n2, fun H4 s4 => ⟨_, s4 _ _ hp3, line_lt (by
        rw [List.length_map, List.length_replicate]
        have := (List.getElem?_eq_some_iff.mp ea).1
        omega), ?_, fun b o e => ?_⟩⟩
      · rw [upd_same, List.replicate_succ', List.map_append]
        rfl
      · rw [upd_ne (ne_of_none e np)]
        exact s4 _ _ (sm _ _ e)
    · obtain ⟨hp3, sm⟩ := hP
      have h3 := hO.same sm
      refine ⟨p, _, rfl, SqL.of hp3, _, rfl, ?_⟩
      rw [all_true]
      refine iteF ?_
      refine ⟨_, rfl, l, rfl, ⟨_, SqL.of h3.top⟩, fun p2 np2 => ?_⟩
      refine lc_list (K := K) (a := l) (xs := as.map V.ref) (fun i H5 => H5 p2 = some (.lst ((List.replicate i true).map V.bl)) ∧ Same H3 H5) ⟨upd_same, same_new np2⟩ (fun i H5 _ hP => SqL.of (hP.2 _ _ h3.top)) (fun i x H5 hx hP => ?_) (fun H5 hP => ?_)
      · obtain ⟨a, ea, rfl⟩ := ref_at_inv hx
        obtain ⟨hp5, sm5⟩ := hP
        have h5 := h3.same sm5
        obtain ⟨r, er, ha⟩ := h5.ll.get ea
        have hi := (List.getElem?_eq_some_iff.mp ea).1
        obtain ⟨a0, ea0⟩ : ∃ a0, as[0]? = some a0 := ⟨as[0]'(by omega), List.getElem?_eq_getElem (by omega)⟩
        obtain ⟨r0, er0, ha0⟩ := h5.ll.get ea0
        have l1 := (h5.ord r (List.mem_of_getElem? er)).len
        have l2 := (h5.ord r0 (List.mem_of_getElem? er0)).len
        refine ⟨rfl, _, rfl, a, _, rfl, .inl (SqL.of ha), _, rfl, l, _, 0, _, rfl, rfl, SqL.of h5.top, at_of (j := 0) rfl (ref_at ea0), a0, _, rfl, .inl (SqL.of ha0), rfl, ?_⟩
        refine ⟨_, hp5, line_lt (by rw [List.length_map, List.length_replicate]; omega), ?_, fun b o e => ?_⟩
        · rw [upd_same, List.replicate_succ', List.map_append, List.length_map, List.length_map, l1, l2, decide_eq_true rfl]
          rfl
        · rw [upd_ne (ne_of_none e np2)]
          exact sm5 _ _ e
      · obtain ⟨hp5, sm5⟩ := hP
        refine ⟨p2, _, rfl, SqL.of hp5, ?_⟩
        rw [all_true]
        exact q _ (sm.trans sm5)
end
end Fo
namespace Fo
open PySem PySem.Spec PyProof.Rows L2
def spCPoll : Sp := fun vs H Q _ => ∃ (l : Addr) (as : List Addr) (rs : List (List Int)) (n : Nat), vs = [.ref l] ∧ OL H l as rs n ∧ 1 ≤ rs.length ∧ rs.length ≤ 20 ∧ ∀ H', Same H H' → Q .non H'
section
variable {P : Program} {w : World} {K : PySem.W.Frag} {mg : Str → Option Value} {base : Heap}
theorem scCPoll : FnScope ["thing"] ["thing"] (defScope s_check_poll) := ⟨rfl, rfl, rfl, by decide +kernel, rfl, by decide +kernel, by decide +kernel⟩
theorem ok_cpoll {f f1 : Addr} {fd d1 : FuncData} {k : Nat} {t : Tok} (T : Df K mg "check_poll" s_check_poll ["thing"] f fd) (T_is_order_list : Df K mg "is_order_list" s_is_order_list ["thing"] f1 d1) (G_is_order_list : FnOk P w K mg base CX0 k f1 d1 ["thing"] spOLst) (B : Bi mg) (mP : mg "MOST_POLLED" = some (.int 20 t)) : FnOk P w K mg base CX0 (k + 1) f fd ["thing"] spCPoll := by
  refine T.F.ok scCPoll (fun vs H Q E h => ?_) (fun cdv A outer s H vs Q E hr h => ?_)
  · obtain ⟨l, as, rs, n, rfl, _⟩ := h
    rfl
  · obtain ⟨l, as, rs, n, rfl, hO, h1, h2, q⟩ := h
    have hal := hO.ll.len
    have hml : (as.map V.ref).length = as.length := List.length_map _
    refine ⟨_, 
      (pss_one (ps_if (PW.pt (pw_or (pt_not (pt_val (pe_call G_is_order_list hr (by rfl) T_is_order_list.g T_is_order_list.F.kp T_is_order_list.b .nil pass0 (pa_cons (pv 0) pa_nil)))) (pw_or (pt_cmpR op_eq (pe_callB call_len_seq (by rfl) B.len PySem.boot_len (pa_cons (pv 0) pa_nil)) pe_int (nomark _)) (pw_or1 (pt_cmpR op_gt (pe_callB call_len_seq (by rfl) B.len PySem.boot_len (pa_cons (pv 0) pa_nil)) (pe_glob (v := .int 20) (by rfl) mP ⟨_, rfl⟩) (nomark _))))))
        (pss_one ps_never)
        pss_nil)), ?_⟩
    refine ⟨_, rfl, l, as, rs, n, rfl, hO, by omega, fun H1 s1 => ⟨_, rfl, iteF ?_⟩⟩
    have t1 := (hO.same s1).top
    refine ⟨_, rfl, l, _, rfl, .inl (SqL.of t1), rfl, _, rfl, ite2 (fun c => ?_) (fun _ => ?_)⟩
    · exfalso
      have z : V.int (((as.map V.ref).length : Nat) : Int) = V.int 0 := of_decide_eq_true c
      have z2 : (((as.map V.ref).length : Nat) : Int) = 0 := V.int.inj z
      omega
    refine ⟨_, rfl, l, _, rfl, .inl (SqL.of t1), _, 20, rfl, rfl, _, rfl, ite2 (fun c => absurd (of_decide_eq_true c) (by rw [hml]; omega)) (fun _ => q _ s1)⟩
end
end Fo
namespace Fo
open PySem PySem.Spec PyProof.Rows L2
def spFew : Sp := fun vs H Q _ => ∃ (n m : Int), vs = [.int n, .int m] ∧ n ≤ m ∧ Q .non H
section
variable {P : Program} {w : World} {K : PySem.W.Frag} {mg : Str → Option Value} {base : Heap}
end
end Fo
namespace Fo
open PySem PySem.Spec PyProof.Rows L2
def aN (rs : List (List Int)) (i j : Int) : Int := (((rs.filter fun r => decide (pos r i < pos r j)).length : Nat) : Int)
def aM (n : Nat) (rs : List (List Int)) : List (List Int) := (rg n).map fun i => (rg n).map fun j => aN rs i j
theorem aN_self (rs : List (List Int)) (t : Int) : aN rs t t = 0 := by
  unfold aN
  rw [List.filter_eq_nil_iff.mpr]
  · rfl
  · intro r _
    simp
def spAhead : Sp := fun vs H Q _ => ∃ (l : Addr) (as : List Addr) (rs : List (List Int)) (n : Nat), vs = [.ref l] ∧ OL H l as rs n ∧ 1 ≤ rs.length ∧ rs.length ≤ 1000 ∧
  ∀ (l' : Addr) (as' : List Addr) (H' : Hp), H l' = none → H' l' = some (.lst (as'.map V.ref)) → LL H' as' (aM n rs) → Same H H' → Q (.ref l') H'
/-- lists of places, each of an order -/
def Bks : List (List Int) → List (List Int) → Prop
  | [], [] => True
  | p :: ps, r :: rs => IsBack r p ∧ Bks ps rs
  | _, _ => False
theorem Bks.len : ∀ {ps rs : List (List Int)}, Bks ps rs → ps.length = rs.length
  | [], [], _ => rfl
  | [], _ :: _, h => h.elim
  | _ :: _, [], h => h.elim
  | _ :: _, _ :: _, h => by rw [List.length_cons, List.length_cons, Bks.len h.2]
theorem Bks.snoc : ∀ {ps rs : List (List Int)} {p r : List Int}, Bks ps rs → IsBack r p → Bks (ps ++ [p]) (rs ++ [r])
  | [], [], _, _, _, e => ⟨e, trivial⟩
  | [], _ :: _, _, _, h, _ => h.elim
  | _ :: _, [], _, _, h, _ => h.elim
  | _ :: _, _ :: _, _, _, h, e => ⟨h.1, Bks.snoc h.2 e⟩
theorem Bks.get : ∀ {ps rs : List (List Int)} {i : Nat} {r : List Int}, Bks ps rs → rs[i]? = some r → ∃ p, ps[i]? = some p ∧ IsBack r p
  | [], [], _, _, _, e => by simp at e
  | [], _ :: _, _, _, h, _ => h.elim
  | _ :: _, [], _, _, h, _ => h.elim
  | p :: ps, r :: rs, 0, r', h, e => by
    have e2 : r = r' := Option.some.inj e
    subst e2
    exact ⟨p, rfl, h.1⟩
  | p :: ps, r :: rs, i + 1, r', h, e => Bks.get (i := i) h.2 e
theorem rg_at {n i : Nat} (h : i < n) : (rg n)[i]? = some (i : Int) := by
  unfold rg
  rw [List.getElem?_map, List.getElem?_range h]
  rfl
theorem rg_take {n i : Nat} (h : i ≤ n) : (rg n).take i = rg i := by
  unfold rg
  rw [← List.map_take, List.take_range, Nat.min_eq_left h]
theorem filter_more' {l : List (List Int)} {m : Nat} {x : List Int} (p : List Int → Bool) (h : l[m]? = some x) : (l.take (m + 1)).filter p = (l.take m).filter p ++ (if p x then [x] else []) := by
  rw [List.take_add_one, h, List.filter_append]
  show _ ++ List.filter p [x] = _
  rw [List.filter_cons]
  rfl
section
variable {P : Program} {w : World} {K : PySem.W.Frag} {mg : Str → Option Value} {base : Heap}
theorem scAhead : FnScope ["poll", "things", "places", "order", "i", "j", "seats"] ["poll"] (defScope s_counts_ahead) := ⟨rfl, rfl, rfl, by decide +kernel, rfl, by decide +kernel, by decide +kernel⟩
set_option maxHeartbeats 4000000 in
theorem ok_ahead {f f1 : Addr} {fd d1 : FuncData} {k : Nat} (T : Df K mg "counts_ahead" s_counts_ahead ["poll"] f fd) (T_places_in : Df K mg "places_in" s_places_in ["order"] f1 d1) (G_places_in : FnOk P w K mg base CX0 k f1 d1 ["order"] spPlaces) (B : Bi mg) : FnOk P w K mg base CX0 (k + 1) f fd ["poll"] spAhead := by
  refine T.F.ok scAhead (fun vs H Q E h => ?_) (fun cdv A outer s H vs Q E hr h => ?_)
  · obtain ⟨l, as, rs, n, rfl, _⟩ := h
    rfl
  · obtain ⟨l, as, rs, n, rfl, hO, h1, h2, q⟩ := h
    have hal := hO.ll.len
    refine ⟨_, 
      (pss_cons (ps_set (i := 1) scAhead.nd rfl (.inr rfl) (pe_listRg rfl (by rfl) B.list (prg_1 (by rfl) B.range (pe_callB call_len_seq (by rfl) B.len PySem.boot_len (pa_cons (pe_ix ix_list (pv 0) pe_int (fun _ _ => rfl)) pa_nil)))))
      (pss_cons (ps_set (i := 2) scAhead.nd rfl (.inr rfl) (pe_lc (own := [("order", 3)]) (g := (gName 3)) (tt := tYes) (te := (tCall spPlaces [] E0 (tCons (tVar 3) tNil))) rfl scAhead.nd (pi_list (pv 0)) (blkOk_by (N := ["poll", "things", "places", "order", "i", "j", "seats"]) (sc := defScope s_counts_ahead) (by decide +kernel)) (fun _ _ _ _ _ => (pg_name (i := 3) scAhead.nd rfl (.inl rfl))) (fun _ _ _ _ _ => pts_nil) (fun _ _ _ _ _ => (pe_call G_places_in hr (by rfl) T_places_in.g T_places_in.F.kp T_places_in.b .nil pass0 (pa_cons (pv 3) pa_nil)))))
      (pss_one (ps_ret (pe_lc (own := [("i", 4)]) (g := (gName 4)) (tt := tYes) (te := (tLc (iList K (tVar 1)) (gName 5) tYes (tCB (rLenS K) (tCons (tLc (iList K (tVar 2)) (gName 6) (tTest (tOp (rI0 fun i j => .bl (decide (i < j))) (tOp (rIxL K) (tVar 6) (tVar 4)) (tOp (rIxL K) (tVar 6) (tVar 5)))) (tVar 6) [6]) tNil)) [5])) rfl scAhead.nd (pi_list (pv 1)) (blkOk_by (N := ["poll", "things", "places", "order", "i", "j", "seats"]) (sc := defScope s_counts_ahead) (by decide +kernel)) (fun _ _ _ _ _ => (pg_name (i := 4) scAhead.nd rfl (.inr rfl))) (fun _ _ _ _ _ => pts_nil) (fun _ _ _ _ _ => (pe_lc (own := [("j", 5)]) (g := (gName 5)) (tt := tYes) (te := (tCB (rLenS K) (tCons (tLc (iList K (tVar 2)) (gName 6) (tTest (tOp (rI0 fun i j => .bl (decide (i < j))) (tOp (rIxL K) (tVar 6) (tVar 4)) (tOp (rIxL K) (tVar 6) (tVar 5)))) (tVar 6) [6]) tNil))) rfl scAhead.nd (pi_list (pv 1)) (blkOk_by (N := ["poll", "things", "places", "order", "i", "j", "seats"]) (by rfl)) (fun _ _ _ _ _ => (pg_name (i := 5) scAhead.nd rfl (.inr rfl))) (fun _ _ _ _ _ => pts_nil) (fun _ _ _ _ _ => (pe_callB call_len_seq (by rfl) B.len PySem.boot_len (pa_cons (pe_lc (own := [("seats", 6)]) (g := (gName 6)) (tt := (tTest (tOp (rI0 fun i j => .bl (decide (i < j))) (tOp (rIxL K) (tVar 6) (tVar 4)) (tOp (rIxL K) (tVar 6) (tVar 5))))) (te := (tVar 6)) rfl scAhead.nd (pi_list (pv 2)) (blkOk_by (N := ["poll", "things", "places", "order", "i", "j", "seats"]) (by rfl)) (fun _ _ _ _ _ => (pg_name (i := 6) scAhead.nd rfl (.inl rfl))) (fun _ _ _ _ _ => (pts_one (pt_cmpR op_lt (pe_ix ix_list (pv 6) (pv 4) (fun _ _ => rfl)) (pe_ix ix_list (pv 6) (pv 5) (fun _ _ => rfl)) (nomark _)))) (fun _ _ _ _ _ => (pv 6))) pa_nil)))))))))), ?_⟩
    obtain ⟨a0, ea0⟩ : ∃ a0, as[0]? = some a0 := ⟨as[0]'(by omega), List.getElem?_eq_getElem (by omega)⟩
    obtain ⟨r0, er0, ha0⟩ := hO.ll.get ea0
    have lr0 : (r0.map V.int).length = n := by rw [List.length_map]; exact (hO.ord r0 (List.mem_of_getElem? er0)).len
    have hn2 := hO.n2
    refine ⟨_, rfl, l, _, 0, _, rfl, rfl, SqL.of hO.top, at_of (j := 0) rfl (ref_at ea0), a0, _, rfl, .inl (SqL.of ha0), _, rfl, RgOk.of_le (by omega) (by rw [lr0]; omega) (by omega) (by omega), fun th nth => ?_⟩
    rw [lr0]
    have s1 := same_new (o := .lst (rgV 0 (n : Int))) nth
    have hth : (upd H th (.lst (rgV 0 (n : Int)))) th = some (.lst ((rg n).map V.int)) := by rw [upd_same, rg_V]
    have hO1 := hO.same s1
    generalize upd H th (.lst (rgV 0 (n : Int))) = H1 at s1 hth hO1 ⊢
    -- places
    refine ⟨_, rfl, l, rfl, ⟨_, SqL.of hO1.top⟩, fun D nD => ?_⟩
    refine lc_list (K := K) (a := l) (xs := as.map V.ref) (fun i H3 => ∃ (bs : List Addr) (ps : List (List Int)), H3 D = some (.lst (bs.map V.ref)) ∧ LL H3 bs ps ∧ Bks ps (rs.take i) ∧ D ∉ bs ∧ Same H1 H3) ⟨[], [], upd_same, trivial, trivial, List.not_mem_nil, same_new nD⟩ (fun i H3 _ hP => by obtain ⟨_, _, _, _, _, _, sm⟩ := hP; exact SqL.of (sm _ _ hO1.top)) (fun i x H3 hx hP => ?_) (fun H2 hP => ?_)
    · obtain ⟨a, ea, rfl⟩ := ref_at_inv hx
      obtain ⟨bs, ps, hD3, hL3, hB3, nDb, sm⟩ := hP
      obtain ⟨r, er, ha⟩ := (hO1.ll.same sm).get ea
      have hbl := hL3.len
      have hpl := hB3.len
      rw [List.length_take] at hpl
      refine ⟨rfl, _, rfl, a, n, r, rfl, ha, hO.ord r (List.mem_of_getElem? er), hO.n1, hO.n2, fun p c H4 hb nc hc s4 => ?_⟩
      have ncD : c ≠ D := fun e => by rw [e, hD3] at nc; cases nc
      refine ⟨_, s4 _ _ hD3, line_lt (by rw [List.length_map]; omega), bs ++ [c], ps ++ [p], by rw [upd_same, List.map_append]; rfl, ?_, by rw [take_more' er]; exact hB3.snoc hb, fun hu => ?_, fun b o e => ?_⟩
      · refine LL.snoc ((hL3.same s4).keep fun u hu o e => ?_) ?_
        · rw [upd_ne (fun q => nDb (by rw [← q]; exact hu))]
          exact e
        · rw [upd_ne ncD]
          exact hc
      · rcases List.mem_append.mp hu with h | h
        · exact nDb h
        · exact ncD (List.mem_singleton.mp h).symm
      · rw [upd_ne (ne_of_none e nD)]
        exact s4 _ _ (sm _ _ e)
    obtain ⟨cs, ps, hD2, hL2, hB2, nDc, s2⟩ := hP
    rw [List.take_of_length_le (by rw [List.length_map]; omega)] at hB2
    have hth2 := s2 _ _ hth
    have hcl := hL2.len
    have hpl := hB2.len
    have s02 := s1.trans s2
    clear hO1 hth ha0 s1 s2 nDc nD
    -- the table
    refine ⟨_, rfl, th, rfl, ⟨_, SqL.of hth2⟩, fun D2 nD2 => ?_⟩
    refine lc_list (K := K) (a := th) (xs := (rg n).map V.int) (fun i H3 => ∃ bs : List Addr, H3 D2 = some (.lst (bs.map V.ref)) ∧ LL H3 bs ((aM n rs).take i) ∧ D2 ∉ bs ∧ Same H2 H3) ⟨[], upd_same, trivial, List.not_mem_nil, same_new nD2⟩ (fun i H3 _ hP => by obtain ⟨_, _, _, _, sm⟩ := hP; exact SqL.of (sm _ _ hth2)) (fun i x H3 hx hP => ?_) (fun H3 hP => ?_)
    · obtain ⟨y, ey, rfl⟩ := int_at_inv hx
      have hi := (List.getElem?_eq_some_iff.mp ey).1
      rw [rg_len] at hi
      rw [rg_at hi] at ey
      have := Option.some.inj ey
      subst this
      obtain ⟨bs, hD3, hL3, nDb, sm⟩ := hP
      have hbl := hL3.len
      have hml : (aM n rs).length = n := by unfold aM; rw [List.length_map, rg_len]
      rw [List.length_take] at hbl
      have emi : (aM n rs)[i]? = some ((rg n).map fun j => aN rs (i : Int) j) := by
        unfold aM
        rw [List.getElem?_map, rg_at hi]
        rfl
      refine ⟨rfl, _, rfl, th, rfl, ⟨_, SqL.of (sm _ _ hth2)⟩, fun D3 nD3 => ?_⟩
      refine lc_list (K := K) (a := th) (xs := (rg n).map V.int) (fun j H4 => H4 D3 = some (.lst (((rg j).map fun u => aN rs (i : Int) u).map V.int)) ∧ Same H3 H4) ⟨upd_same, same_new nD3⟩ (fun j H4 _ hP => SqL.of (hP.2 _ _ (sm _ _ hth2))) (fun j x H4 hx hP => ?_) (fun H4 hP => ?_)
      · obtain ⟨y, ey, rfl⟩ := int_at_inv hx
        have hj := (List.getElem?_eq_some_iff.mp ey).1
        rw [rg_len] at hj
        rw [rg_at hj] at ey
        have := Option.some.inj ey
        subst this
        obtain ⟨hD4, sm4⟩ := hP
        have hDp := sm4 _ _ (sm _ _ hD2)
        have hLp := (hL2.same sm).same sm4
        refine ⟨rfl, _, rfl, D, rfl, ⟨_, SqL.of hDp⟩, fun D5 nD5 => ?_⟩
        refine lc_list (K := K) (a := D) (xs := cs.map V.ref) (fun m H5 => ∃ ds : List V, H5 D5 = some (.lst ds) ∧ ds.length = ((rs.take m).filter fun r => decide (pos r (i : Int) < pos r (j : Int))).length ∧ Same H4 H5) ⟨[], upd_same, rfl, same_new nD5⟩ (fun m H5 _ hP => by obtain ⟨_, _, _, sm⟩ := hP; exact SqL.of (sm _ _ hDp)) (fun m x H5 hx hP => ?_) (fun H5 hP => ?_)
        · obtain ⟨c, ec, rfl⟩ := ref_at_inv hx
          obtain ⟨ds, hD5, hdl, sm5⟩ := hP
          have hm := (List.getElem?_eq_some_iff.mp ec).1
          obtain ⟨r, er⟩ : ∃ r, rs[m]? = some r := ⟨rs[m]'(by omega), List.getElem?_eq_getElem (by omega)⟩
          obtain ⟨p, ep, hbk⟩ := hB2.get er
          obtain ⟨p', ep', hc⟩ := (hLp.same sm5).get ec
          rw [ep] at ep'
          have := Option.some.inj ep'
          subst this
          have orr := hO.ord r (List.mem_of_getElem? er)
          have bi := back_pos orr hbk (x := (i : Int)) (by omega) (by omega)
          have bj := back_pos orr hbk (x := (j : Int)) (by omega) (by omega)
          rw [Int.toNat_natCast] at bi bj
          refine ⟨rfl, _, rfl, _, rfl, c, _, _, _, rfl, rfl, SqL.of hc, at_of (j := i) rfl (int_at bi), _, rfl, _, rfl, c, _, _, _, rfl, rfl, SqL.of hc, at_of (j := j) rfl (int_at bj), _, _, rfl, rfl, _, rfl, ite2 (fun cc => ?_) (fun cc => ?_)⟩
          · have hlt : pos r (i : Int) < pos r (j : Int) := of_decide_eq_true cc
            have hfl : ((rs.take m).filter fun r => decide (pos r (i : Int) < pos r (j : Int))).length ≤ m := Nat.le_trans (List.length_filter_le _ _) (by rw [List.length_take]; omega)
            refine ⟨_, rfl, _, hD5, line_lt (by omega), ds ++ [.ref c], upd_same, ?_, fun b o e => ?_⟩
            · rw [filter_more' _ er, decide_eq_true hlt, if_pos rfl, List.length_append, List.length_append, hdl]
              rfl
            · rw [upd_ne (ne_of_none e nD5)]
              exact sm5 _ _ e
          · refine ⟨ds, hD5, ?_, sm5⟩
            rw [filter_more' _ er, decide_eq_false (fun hz => cc (decide_eq_true hz)), if_neg (by decide), List.append_nil]
            exact hdl
        · obtain ⟨ds, hD5, hdl, sm5⟩ := hP
          rw [List.length_map, hcl, hpl, List.take_length] at hdl
          refine ⟨D5, _, rfl, .inl (SqL.of hD5), _, sm5 _ _ hD4, line_lt (by rw [List.length_map, List.length_map, rg_len]; omega), ?_, fun b o e => ?_⟩
          · rw [upd_same, rg_succ, List.map_append, List.map_append, hdl]
            rfl
          · rw [upd_ne (ne_of_none e nD3)]
            exact sm5 _ _ (sm4 _ _ e)
      · obtain ⟨hD4, sm4⟩ := hP
        rw [List.length_map, rg_len] at hD4
        have nD32 : D3 ≠ D2 := fun e => by rw [e, hD3] at nD3; cases nD3
        refine ⟨_, sm4 _ _ hD3, line_lt (by rw [List.length_map]; omega), bs ++ [D3], by rw [upd_same, List.map_append]; rfl, ?_, fun hu => ?_, fun b o e => ?_⟩
        · rw [take_more' emi]
          refine LL.snoc ((hL3.same sm4).keep fun u hu o e => ?_) ?_
          · rw [upd_ne (fun q => nDb (by rw [← q]; exact hu))]
            exact e
          · rw [upd_ne nD32]
            exact hD4
        · rcases List.mem_append.mp hu with h | h
          · exact nDb h
          · exact nD32 (List.mem_singleton.mp h).symm
        · rw [upd_ne (ne_of_none e nD2)]
          exact sm4 _ _ (sm _ _ e)
    · obtain ⟨bs, hD3, hL3, nDb, sm⟩ := hP
      rw [List.take_of_length_le (by unfold aM; rw [List.length_map, List.length_map]; exact Nat.le_refl _)] at hL3
      exact q D2 bs H3 (s02.free nD2) hD3 hL3 (s02.trans sm)
end
end Fo
namespace Fo
open PySem PySem.Spec PyProof.Rows L2
/-- a dict that has for each thing of an order its place -/
def PlD (kvs : List (Key × V)) (xs : List Int) : Prop := ∀ x ∈ xs, valV kvs (Sum.inl x) = some (.int (pos xs x))
def spPlD : Sp := fun vs H Q _ => ∃ (a : Addr) (n : Nat) (xs : List Int), vs = [.ref a] ∧ H a = some (.lst (xs.map V.int)) ∧ IsOrd n xs ∧ n ≤ 12 ∧ ∀ (d : Addr) (kvs : List (Key × V)) (H' : Hp), H d = none → H' d = some (.dK kvs) → PlD kvs xs → Same H H' → Q (.ref d) H'
section
variable {P : Program} {w : World} {K : PySem.W.Frag} {mg : Str → Option Value} {base : Heap}
theorem scPlD : FnScope ["order", "found", "place", "thing"] ["order"] (defScope s_law_places) := ⟨rfl, rfl, rfl, by decide +kernel, rfl, by decide +kernel, by decide +kernel⟩
set_option maxHeartbeats 2000000 in
theorem ok_pld {f : Addr} {fd : FuncData} {k : Nat} (T : Df K mg "_law_places" s_law_places ["order"] f fd) (B : Bi mg) : FnOk P w K mg base CX0 (k + 1) f fd ["order"] spPlD := by
  refine T.F.ok scPlD (fun vs H Q E h => ?_) (fun cdv A outer s H vs Q E hr h => ?_)
  · obtain ⟨a, n, xs, rfl, _⟩ := h
    rfl
  · obtain ⟨a, n, xs, rfl, ha, ox, hn, q⟩ := h
    refine ⟨_, 
      (pss_cons (ps_set (i := 1) scPlD.nd rfl (.inl rfl) pe_dnewK)
      (pss_cons (ps_for PassesOwn.never rfl (pi_enum (by rfl) B.enumerate (pa_cons (pv 0) pa_nil)) (pg_tup (by rfl) (pgs_cons (pg_name (i := 2) scPlD.nd rfl (.inl rfl)) (pgs_cons (pg_name (i := 3) scPlD.nd rfl (.inl rfl)) pgs_nil)))
        (pss_one (ps_dput (hu_of hr) (pv 1) (pv 3) (pv 2) (by rfl))))
      (pss_one (ps_ret (pv 1))))), ?_⟩
    intro d nd
    have s0 := same_new (o := .dK []) nd
    refine ⟨_, rfl, a, _, rfl, SqL.of (s0 _ _ ha), ?_⟩
    refine for_enumL (xs := xs.map V.int) (fun i σ H3 => ∃ (y2 y3 : Option V) (kvs : List (Key × V)), σ = [some (.ref a), some (.ref d), y2, y3] ∧ H3 d = some (.dK kvs) ∧ kvs.length ≤ i ∧ (∀ x ∈ xs.take i, valV kvs (Sum.inl x) = some (.int (pos xs x))) ∧ Same H H3)
      ⟨none, none, [], rfl, upd_same, Nat.le_refl _, (fun x hx => absurd hx (by rw [List.take_zero]; exact List.not_mem_nil)), s0⟩ (fun i σ H3 hP => by obtain ⟨_, _, _, _, _, _, _, sm⟩ := hP; exact SqL.of (sm _ _ ha)) (fun i x t σ H3 hx hP nt => ?_) (fun σ H3 hP => ?_)
    · obtain ⟨y2, y3, kvs, rfl, hd, hl, hv, sm⟩ := hP
      obtain ⟨y, ey, rfl⟩ := int_at_inv hx
      have hi := (List.getElem?_eq_some_iff.mp ey).1
      rw [ox.len] at hi
      have s3 := same_new (o := .tup [.int (i : Nat), .int y]) nt
      have hd3 := s3 _ _ hd
      refine ⟨t, _, rfl, .inl (.inl upd_same), rfl, _, _, rfl, _, _, rfl, rfl, ?_⟩
      refine ⟨_, rfl, _, rfl, _, rfl, d, _, rfl, DPut.k (k := Sum.inl y) hd3 (line_lt (by omega)), ?_⟩
      refine ⟨_, _, putK kvs (Sum.inl y) (.int (i : Nat)), rfl, upd_same, Nat.le_trans (length_putK _ _ _) (by omega), fun x hx => ?_, fun b o e => ?_⟩
      · rw [valV_put]
        by_cases c : (Sum.inl x : Key) = Sum.inl y
        · rw [if_pos c]
          have e : x = y := Sum.inl.inj c
          subst e
          rw [pos_of ox ey]
        · rw [if_neg c]
          rw [take_more ey] at hx
          rcases List.mem_append.mp hx with h | h
          · exact hv x h
          · exact absurd (by rw [List.mem_singleton.mp h]) c
      · rw [upd_ne (ne_of_none e nd)]
        exact s3 _ _ (sm _ _ e)
    · obtain ⟨y2, y3, kvs, rfl, hd, hl, hv, sm⟩ := hP
      rw [List.length_map, List.take_length] at hv
      exact ⟨_, rfl, q d kvs H3 nd hd hv sm⟩
end
end Fo
namespace Fo
open PySem PySem.Spec PyProof.Rows L2
def spLaw (K : PySem.W.Frag) : Sp := fun vs H Q _ => ∃ (a : Addr) (ns : List Int), vs = [.ref a] ∧ SqL K H a (ns.map V.int) ∧ ns.length ≤ 63 ∧ ∀ H', Q (.bl true) H'
abbrev rListOf (K : PySem.W.Frag) : List V → Hp → VK → Prop := fun xs H Q => ∃ p ys, xs = [.ref p] ∧ (SqL K H p ys ∨ SqT K H p ys) ∧ ∀ l, H l = none → Q (.ref l) (upd H l (.lst ys))
def spCopied : Sp := fun vs H Q _ => ∃ (l : Addr) (as : List Addr) (rs : List (List Int)), vs = [.ref l] ∧ H l = some (.lst (as.map V.ref)) ∧ LL H as rs ∧ rs.length ≤ 1000 ∧ ∀ (l' : Addr) (as' : List Addr) (H' : Hp), H l' = none → (∀ a ∈ as', H a = none) → l' ∉ as' → H' l' = some (.lst (as'.map V.ref)) → LL H' as' rs → Same H H' → Q (.ref l') H'
theorem dp_of {K : PySem.W.Frag} {H : Hp} {l : Addr} {as : List Addr} {rs : List (List Int)} {n : Nat} (h : OL H l as rs n) : Dp K H (.ref l) (dLL rs) := dp_lists h.top h.ll
section
variable {P : Program} {w : World} {K : PySem.W.Frag} {mg : Str → Option Value} {base : Heap}
theorem scLWhole : FnScope ["thing"] ["thing"] (defScope s_law_whole) := ⟨rfl, rfl, rfl, by decide +kernel, rfl, by decide +kernel, by decide +kernel⟩
theorem ok_lwhole {f : Addr} {fd : FuncData} {k : Nat} (T : Df K mg "_law_whole" s_law_whole ["thing"] f fd) (B : Bi mg) : FnOk P w K mg base CX0 (k + 1) f fd ["thing"] spWhole := by
  refine T.F.ok scLWhole (fun vs H Q E h => ?_) (fun cdv A outer s H vs Q E hr h => ?_)
  · obtain ⟨i, rfl, _⟩ := h
    rfl
  · obtain ⟨i, rfl, q⟩ := h
    refine ⟨_, 
      (pss_one (ps_ret (pe_and (pe_callB call_isi (by rfl) B.isinstance (by decide +kernel) (pa_cons (pv 0) (pa_cons (pe_bltn (v := .ty "int") (by rfl) B.int (by decide +kernel) rfl) pa_nil))) (pe_one (pe_not (pe_callB call_isi (by rfl) B.isinstance (by decide +kernel) (pa_cons (pv 0) (pa_cons (pe_bltn (v := .ty "bool") (by rfl) B.bool (by decide +kernel) rfl) pa_nil)))))))), ?_⟩
    refine ⟨_, rfl, _, _, _, _, true, rfl, .ty _, .base (.int _), kit_ty (by decide +kernel), true, rfl, iteT ?_⟩
    exact ⟨_, rfl, _, _, _, _, false, rfl, .ty _, .base (.int _), kit_ty (by decide +kernel), false, rfl, q⟩
theorem scCopied : FnScope ["orders", "order"] ["orders"] (defScope s_law_copied) := ⟨rfl, rfl, rfl, by decide +kernel, rfl, by decide +kernel, by decide +kernel⟩
set_option maxHeartbeats 2000000 in
theorem ok_copied {f : Addr} {fd : FuncData} {k : Nat} (T : Df K mg "_law_copied" s_law_copied ["orders"] f fd) (B : Bi mg) : FnOk P w K mg base CX0 (k + 1) f fd ["orders"] spCopied := by
  refine T.F.ok scCopied (fun vs H Q E h => ?_) (fun cdv A outer s H vs Q E hr h => ?_)
  · obtain ⟨l, as, rs, rfl, _⟩ := h
    rfl
  · obtain ⟨l, as, rs, rfl, ht, hLL, hlen, q⟩ := h
    have hal := hLL.len
    refine ⟨_, 
      (pss_one (ps_ret (pe_lc (own := [("order", 1)]) (g := (gName 1)) (tt := tYes) (te := (tCB (rListOf K) (tCons (tVar 1) tNil))) rfl scCopied.nd (pi_list (pv 0)) (blkOk_by (N := ["orders", "order"]) (sc := defScope s_law_copied) (by decide +kernel)) (fun _ _ _ _ _ => (pg_name (i := 1) scCopied.nd rfl (.inl rfl))) (fun _ _ _ _ _ => pts_nil) (fun _ _ _ _ _ => (pe_callTy call_list_of (by rfl) B.list (by decide +kernel) (pa_cons (pv 1) pa_nil)))))), ?_⟩
    refine ⟨_, rfl, l, rfl, ⟨_, SqL.of ht⟩, fun p np => ?_⟩
    refine lc_list (K := K) (a := l) (xs := as.map V.ref) (fun i H3 => ∃ bs : List Addr, H3 p = some (.lst (bs.map V.ref)) ∧ LL H3 bs (rs.take i) ∧ (∀ a ∈ bs, H a = none) ∧ p ∉ bs ∧ Same H H3) ⟨[], upd_same, trivial, fun a ha => absurd ha List.not_mem_nil, List.not_mem_nil, same_new np⟩ (fun i H3 _ hP => by obtain ⟨_, _, _, _, _, sm⟩ := hP; exact SqL.of (sm _ _ ht)) (fun i x H3 hx hP => ?_) (fun H3 hP => ?_)
    · obtain ⟨a, ea, rfl⟩ := ref_at_inv hx
      obtain ⟨bs, hp3, hL3, hn3, np3, sm⟩ := hP
      obtain ⟨r, er, ha⟩ := (hLL.same sm).get ea
      have hbl := hL3.len
      rw [List.length_take] at hbl
      refine ⟨rfl, _, rfl, a, _, rfl, .inl (SqL.of ha), fun c nc => ?_⟩
      have s4 := same_new (o := .lst (r.map V.int)) nc
      have npc : p ≠ c := ne_of_none hp3 nc
      refine ⟨_, s4 _ _ hp3, line_lt (by rw [List.length_map]; omega), bs ++ [c], by rw [upd_same, List.map_append]; rfl, ?_, fun u hu => ?_, fun hu => ?_, fun b o e => ?_⟩
      · rw [take_more' er]
        refine LL.snoc ((hL3.same s4).keep fun u hu o e => ?_) ?_
        · rw [upd_ne (fun q => np3 (by rw [← q]; exact hu))]
          exact e
        · rw [upd_ne npc.symm, upd_same]
      · rcases List.mem_append.mp hu with h | h
        · exact hn3 u h
        · rw [List.mem_singleton.mp h]
          exact sm.free nc
      · rcases List.mem_append.mp hu with h | h
        · exact np3 h
        · exact npc (List.mem_singleton.mp h)
      · rw [upd_ne (ne_of_none e np)]
        exact s4 _ _ (sm _ _ e)
    · obtain ⟨bs, hp3, hL3, hn3, np3, sm⟩ := hP
      rw [List.take_of_length_le (by rw [List.length_map]; omega)] at hL3
      exact q p bs H3 np hn3 np3 hp3 hL3 sm
end
end Fo
namespace Fo
open PySem PySem.Spec PyProof.Rows L2
/-! pairs of things, told by a dict keyed by them -/
abbrev kk (i j : Int) : List Key := [Sum.inl i, Sum.inl j]
def tk (rs : List (List Int)) (ps : List (Int × Int)) : List (List Key × V) := ps.map fun p => (kk p.1 p.2, V.int (aN rs p.1 p.2))
def pre (f : Nat → List (Int × Int)) (i : Nat) : List (Int × Int) := (List.range i).flatMap f
theorem pre_succ (f : Nat → List (Int × Int)) (i : Nat) : pre f (i + 1) = pre f i ++ f i := by
  unfold pre
  rw [List.range_succ, List.flatMap_append, List.flatMap_cons, List.flatMap_nil, List.append_nil]
theorem pre_len {f : Nat → List (Int × Int)} {m : Nat} (h : ∀ u, (f u).length ≤ m) : ∀ i : Nat, (pre f i).length ≤ i * m
  | 0 => Nat.zero_le _
  | i + 1 => by
    have := pre_len h i
    have := h i
    rw [pre_succ, List.length_append, Nat.add_mul]
    omega
def upR (n i : Nat) : List (Int × Int) := (List.range (n - (i + 1))).map fun u => ((i : Int), ((i + 1 + u : Nat) : Int))
def alR (n i : Nat) : List (Int × Int) := (List.range n).map fun (j : Nat) => ((i : Int), (j : Int))
def prR (j : Nat) : List (Int × Int) := (List.range j).map fun (i : Nat) => ((i : Int), (j : Int))
def upP (n : Nat) : List (Int × Int) := pre (upR n) n
def alP (n : Nat) : List (Int × Int) := pre (alR n) n
def prP (n : Nat) : List (Int × Int) := pre prR n
theorem up_facts : ∀ n, n < 13 → (upP n).Nodup ∧ (alP n).filter (fun p => decide (p.1 < p.2)) = upP n ∧ (prP n).Perm (upP n) ∧ (upP n).length ≤ 144 ∧ (alP n).length ≤ 144 := by decide +kernel
theorem up_mem {n : Nat} {p : Int × Int} (h : p ∈ upP n) : 0 ≤ p.1 ∧ p.1 < p.2 ∧ p.2 < n := by
  unfold upP pre at h
  obtain ⟨i, hi, h⟩ := List.mem_flatMap.mp h
  obtain ⟨u, hu, rfl⟩ := List.mem_map.mp h
  have := List.mem_range.mp hi
  have := List.mem_range.mp hu
  show 0 ≤ (i : Int) ∧ (i : Int) < ((i + 1 + u : Nat) : Int) ∧ ((i + 1 + u : Nat) : Int) < n
  omega
theorem kk_inj {a b c d : Int} (h : kk a b = kk c d) : a = c ∧ b = d := ⟨Sum.inl.inj (List.head_eq_of_cons_eq h), Sum.inl.inj (List.head_eq_of_cons_eq (List.tail_eq_of_cons_eq h))⟩
theorem tk_none {rs : List (List Int)} {ps : List (Int × Int)} {p : Int × Int} (h : p ∉ ps) : valV (tk rs ps) (kk p.1 p.2) = none := by
  induction ps with
  | nil => rfl
  | cons q ps ih =>
    show valV ((kk q.1 q.2, V.int (aN rs q.1 q.2)) :: tk rs ps) _ = none
    rw [valV_neg (fun e => h (by obtain ⟨e1, e2⟩ := kk_inj e; rw [show p = q from Prod.ext e1.symm e2.symm]; exact List.mem_cons_self))]
    exact ih fun m => h (List.mem_cons_of_mem _ m)
theorem tk_get {rs : List (List Int)} {ps : List (Int × Int)} {p : Int × Int} (h : p ∈ ps) : valV (tk rs ps) (kk p.1 p.2) = some (.int (aN rs p.1 p.2)) := by
  induction ps with
  | nil => cases h
  | cons q ps ih =>
    show valV ((kk q.1 q.2, V.int (aN rs q.1 q.2)) :: tk rs ps) _ = _
    by_cases e : q = p
    · subst e
      rw [valV_pos rfl]
    · rw [valV_neg (fun z => e (by obtain ⟨e1, e2⟩ := kk_inj z; exact Prod.ext e1 e2))]
      rcases List.mem_cons.mp h with z | z
      · exact absurd z.symm e
      · exact ih z
theorem tk_put {rs : List (List Int)} {ps : List (Int × Int)} {p : Int × Int} (h : p ∉ ps) : putK (tk rs ps) (kk p.1 p.2) (.int (aN rs p.1 p.2)) = tk rs (ps ++ [p]) := by
  rw [putK_new _ (tk_none h)]
  unfold tk
  rw [List.map_append]
  rfl
theorem tk_merge {rs : List (List Int)} : ∀ (ps qs : List (Int × Int)), (qs ++ ps).Nodup → mergeT (tk rs qs) (tk rs ps) = tk rs (qs ++ ps)
  | [], qs, _ => by rw [List.append_nil]; rfl
  | p :: ps, qs, h => by
    have hp : p ∉ qs := fun m => (List.nodup_append.mp h).2.2 p m p List.mem_cons_self rfl
    show mergeT (putK (tk rs qs) (kk p.1 p.2) (.int (aN rs p.1 p.2))) (tk rs ps) = _
    have e : qs ++ p :: ps = (qs ++ [p]) ++ ps := by rw [List.append_assoc]; rfl
    rw [tk_put hp, e]
    exact tk_merge ps _ (by rw [← e]; exact h)
theorem tk_at {rs : List (List Int)} {ps : List (Int × Int)} {i : Nat} {k : List Key} {v : V} (h : (tk rs ps)[i]? = some (k, v)) : ∃ p, ps[i]? = some p ∧ k = kk p.1 p.2 ∧ v = .int (aN rs p.1 p.2) := by
  unfold tk at h
  rw [List.getElem?_map] at h
  obtain ⟨p, hp, e⟩ := Option.map_eq_some_iff.mp h
  cases e
  exact ⟨p, hp, rfl, rfl⟩
theorem tk_len {rs : List (List Int)} {ps : List (Int × Int)} : (tk rs ps).length = ps.length := List.length_map _
theorem pre_fresh {n i j : Nat} (lo : Nat) (f : Nat → List (Int × Int)) (hf : ∀ u, ∀ p ∈ f u, p.1 = (u : Int)) (g : Nat → Int) (hg : ∀ u, g u = ((lo + u : Nat) : Int)) :
    ((i : Int), g j) ∉ pre f i ++ (List.range j).map fun u => ((i : Int), g u) := by
  intro m
  rcases List.mem_append.mp m with m | m
  · obtain ⟨u, hu, m⟩ := List.mem_flatMap.mp m
    have := hf u _ m
    have := List.mem_range.mp hu
    have : (i : Int) = (u : Int) := by assumption
    omega
  · obtain ⟨u, hu, e⟩ := List.mem_map.mp m
    have := List.mem_range.mp hu
    have e2 : g u = g j := (Prod.mk.inj e).2
    rw [hg, hg] at e2
    omega
theorem aN_flip {n : Nat} {rs : List (List Int)} (ho : ∀ r ∈ rs, IsOrd n r) {i j : Int} (hi : 0 ≤ i) (hi2 : i < n) (hj : 0 ≤ j) (hj2 : j < n) (ne : i ≠ j) : aN rs j i = (rs.length : Int) - aN rs i j := by
  unfold aN
  induction rs with
  | nil => rfl
  | cons r rs ih =>
    have ih := ih fun r m => ho r (List.mem_cons_of_mem _ m)
    have orr := ho r List.mem_cons_self
    have hne : pos r i ≠ pos r j := fun e => ne (pos_inj orr (rg_mem.mpr ⟨hi, hi2⟩) (rg_mem.mpr ⟨hj, hj2⟩) e)
    rw [List.filter_cons, List.filter_cons, List.length_cons]
    by_cases c : pos r i < pos r j
    · rw [decide_eq_true c, decide_eq_false (show ¬ pos r j < pos r i by omega)]
      simp only [if_true, List.length_cons, Bool.false_eq_true, if_false]
      omega
    · rw [decide_eq_false c, decide_eq_true (show pos r j < pos r i by omega)]
      simp only [if_true, List.length_cons, Bool.false_eq_true, if_false]
      omega
theorem aN_bd (rs : List (List Int)) (i j : Int) : 0 ≤ aN rs i j ∧ aN rs i j ≤ rs.length := by
  unfold aN
  have := List.length_filter_le (fun r => decide (pos r i < pos r j)) rs
  omega
def mn (a b : Int) : Int := if b < a then b else a
/-- the sum over all pairs of the rarer way round -/
def psum (n : Nat) (rs : List (List Int)) : Int := ((prP n).map fun p => mn (aN rs p.1 p.2) (aN rs p.2 p.1)).sum
theorem sum_perm {l m : List Int} (h : l.Perm m) : l.sum = m.sum := by
  induction h with
  | nil => rfl
  | cons x _ ih => rw [List.sum_cons, List.sum_cons, ih]
  | swap x y l => rw [List.sum_cons, List.sum_cons, List.sum_cons, List.sum_cons]; omega
  | trans _ _ h1 h2 => rw [h1, h2]
theorem psum_up {n : Nat} {rs : List (List Int)} (hn : n ≤ 12) (ho : ∀ r ∈ rs, IsOrd n r) : ((upP n).map fun p => mn (aN rs p.1 p.2) ((rs.length : Int) - aN rs p.1 p.2)).sum = psum n rs := by
  unfold psum
  have hp := (up_facts n (by omega)).2.2.1
  rw [← sum_perm ((hp.symm).map fun p => mn (aN rs p.1 p.2) (aN rs p.2 p.1))]
  congr 1
  refine List.map_congr_left fun p m => ?_
  obtain ⟨h1, h2, h3⟩ := up_mem m
  rw [aN_flip ho h1 (by omega) (by omega) h3 (by omega)]
theorem aM_row {n : Nat} {rs : List (List Int)} {i : Nat} (h : i < n) : (aM n rs)[i]? = some ((rg n).map fun j => aN rs (i : Int) j) := by
  unfold aM
  rw [List.getElem?_map, rg_at h]
  rfl
theorem aM_cell {n : Nat} {rs : List (List Int)} {i j : Nat} (h : j < n) : (((rg n).map fun j => aN rs (i : Int) j).map V.int)[j]? = some (.int (aN rs (i : Int) (j : Int))) := by
  rw [List.getElem?_map, List.getElem?_map, rg_at h]
  rfl
/-- ahead[i][j] on the heap -/
theorem cell_at {H : Hp} {la : Addr} {as : List Addr} {n : Nat} {rs : List (List Int)} (h : H la = some (.lst (as.map V.ref))) (hL : LL H as (aM n rs)) {i j : Nat} (hi : i < n) (hj : j < n) :
    ∃ a, (as.map V.ref)[i]? = some (.ref a) ∧ H a = some (.lst (((rg n).map fun j => aN rs (i : Int) j).map V.int)) := by
  have hl := hL.len
  have ml : (aM n rs).length = n := by unfold aM; rw [List.length_map, rg_len]
  obtain ⟨a, ea⟩ : ∃ a, as[i]? = some a := ⟨_, List.getElem?_eq_getElem (by omega)⟩
  obtain ⟨r, er, ha⟩ := hL.get ea
  rw [aM_row hi] at er
  cases er
  exact ⟨a, ref_at ea, ha⟩
/-- a comprehension's first clause over a range -/
theorem lc2_rng {lo : Int} {n : Nat} {g : TG} {tt : TT} {wi1 : TI} {g1 : TG} {tt1 : TT} {te : TE} {vs vs1 : List Nat} {σ : L2.St} {H1 : Hp} {D : Addr} {Qd : Hp → Prop} (Pv : Nat → Hp → Prop) (h0 : Pv 0 (upd H1 D (.lst [])))
    (hs : ∀ i H, i < n → Pv i H → g (.int (lo + i)) (wipe σ vs) H fun σ2 H2 => wipe σ2 vs = wipe σ vs ∧ tt σ2 H2 fun b H3 =>
      if b = true then wi1 σ2 H3 fun J1 H4 => ∃ W1 : Nat → Nat → Hp → Prop, (∃ m, W1 0 m H4) ∧ ∀ j k H, W1 j k H →
        (J1.stop j H ∧ Pv (i + 1) H) ∨ (J1.go j H ∧ ∃ Nx1 : Hp → Prop, (∀ H', Nx1 H' → ∃ k', k' < k ∧ W1 (j + 1) k' H') ∧ ∀ x H', J1.yld j H x H' → g1 x (wipe σ2 vs1) H' fun σ3 H5 => wipe σ3 vs1 = wipe σ2 vs1 ∧ tt1 σ3 H5 fun b H6 =>
          if b = true then te σ3 H6 fun y H7 => ∃ acc, H7 D = some (.lst acc) ∧ acc.length < sizeLine ∧ Nx1 (upd H7 D (.lst (acc ++ [y]))) else Nx1 H6)
      else Pv (i + 1) H3) (hd : ∀ H, Pv n H → Qd H) :
    ∃ W : Nat → Nat → Hp → Prop, (∃ m, W 0 m (upd H1 D (.lst []))) ∧ ∀ i m H, W i m H →
      ((Itr lo n).stop i H ∧ Qd H) ∨ ((Itr lo n).go i H ∧ ∃ Nx : Hp → Prop, (∀ H', Nx H' → ∃ m', m' < m ∧ W (i + 1) m' H') ∧ ∀ x H', (Itr lo n).yld i H x H' → g x (wipe σ vs) H' fun σ2 H2 => wipe σ2 vs = wipe σ vs ∧ tt σ2 H2 fun b H3 =>
        if b = true then wi1 σ2 H3 fun J1 H4 => ∃ W1 : Nat → Nat → Hp → Prop, (∃ m, W1 0 m H4) ∧ ∀ j k H, W1 j k H →
          (J1.stop j H ∧ Nx H) ∨ (J1.go j H ∧ ∃ Nx1 : Hp → Prop, (∀ H', Nx1 H' → ∃ k', k' < k ∧ W1 (j + 1) k' H') ∧ ∀ x H', J1.yld j H x H' → g1 x (wipe σ2 vs1) H' fun σ3 H5 => wipe σ3 vs1 = wipe σ2 vs1 ∧ tt1 σ3 H5 fun b H6 =>
            if b = true then te σ3 H6 fun y H7 => ∃ acc, H7 D = some (.lst acc) ∧ acc.length < sizeLine ∧ Nx1 (upd H7 D (.lst (acc ++ [y]))) else Nx1 H6)
        else Nx H3) := by
  refine ⟨fun i m H => m = n - i ∧ i ≤ n ∧ Pv i H, ⟨n, by simp, Nat.zero_le _, h0⟩, ?_⟩
  rintro i m H ⟨rfl, hi, p⟩
  by_cases hlt : i < n
  · refine .inr ⟨hlt, Pv (i + 1), fun H' p' => ⟨n - (i + 1), by omega, rfl, hlt, p'⟩, fun x H' y => ?_⟩
    obtain ⟨rfl, rfl⟩ := y
    exact hs i _ hlt p
  · have e : i = n := by omega
    subst e
    exact .inl ⟨Nat.le_refl _, hd H p⟩
def spPairs : Sp := fun vs H Q _ => ∃ (l : Addr) (as : List Addr) (rs : List (List Int)) (n : Nat), vs = [.ref l] ∧ OL H l as rs n ∧ 1 ≤ rs.length ∧ rs.length ≤ 20 ∧ ∀ (d : Addr) (H' : Hp), H d = none → H' d = some (.dT (tk rs (upP n))) → Same H H' → Q (.ref d) H'
def spPSum : Sp := fun vs H Q _ => ∃ (l : Addr) (as : List Addr) (rs : List (List Int)) (n : Nat), vs = [.ref l] ∧ OL H l as rs n ∧ 1 ≤ rs.length ∧ rs.length ≤ 20 ∧ ∀ (H' : Hp), Same H H' → Q (.int (psum n rs)) H'
section
variable {P : Program} {w : World} {K : PySem.W.Frag} {mg : Str → Option Value} {base : Heap}
theorem scPah : FnScope ["poll", "ahead", "i", "j"] ["poll"] (defScope s_pairs_ahead) := ⟨rfl, rfl, rfl, by decide +kernel, rfl, by decide +kernel, by decide +kernel⟩
set_option maxHeartbeats 4000000 in
theorem ok_pairs {f f1 f2 : Addr} {fd d1 d2 : FuncData} {k : Nat} (T : Df K mg "pairs_ahead" s_pairs_ahead ["poll"] f fd) (T_check_poll : Df K mg "check_poll" s_check_poll ["thing"] f1 d1) (T_counts_ahead : Df K mg "counts_ahead" s_counts_ahead ["poll"] f2 d2) (G_check_poll : FnOk P w K mg base CX0 k f1 d1 ["thing"] spCPoll) (G_counts_ahead : FnOk P w K mg base CX0 k f2 d2 ["poll"] spAhead) (B : Bi mg) : FnOk P w K mg base CX0 (k + 1) f fd ["poll"] spPairs := by
  refine T.F.ok scPah (fun vs H Q E h => ?_) (fun cdv A outer s H vs Q E hr h => ?_)
  · obtain ⟨l, as, rs, n, rfl, _⟩ := h
    rfl
  · obtain ⟨l, as, rs, n, rfl, hO, h1, h2, q⟩ := h
    have hn2 := hO.n2
    refine ⟨_, 
      (pss_cons (ps_expr (pe_call G_check_poll hr (by rfl) T_check_poll.g T_check_poll.F.kp T_check_poll.b .nil pass0 (pa_cons (pv 0) pa_nil)))
      (pss_cons (ps_set (i := 1) scPah.nd rfl (.inr rfl) (pe_call G_counts_ahead hr (by rfl) T_counts_ahead.g T_counts_ahead.F.kp T_counts_ahead.b .nil pass0 (pa_cons (pv 0) pa_nil)))
      (pss_one (ps_ret (pe_dc2 hr.units0 rfl scPah.nd (own := [("i", 2), ("j", 3)]) (vj := [3]) (wj := (iRng2 (tCons (tOp (rI0 fun i j => .int (i + j)) (tVar 2) (tC (.int 1))) (tCons (tCB (rLenS K) (tCons (tVar 1) tNil)) tNil)))) (g := (gName 2)) (tt := tYes) (gj := (gName 3)) (tj := tYes) (tk := (tTup (tCons (tVar 2) (tCons (tVar 3) tNil)))) (tv := (tOp (rIxL K) (tOp (rIxL K) (tVar 1) (tVar 2)) (tVar 3))) (pi_range1 (by rfl) B.range (pa_cons (pe_callB call_len_seq (by rfl) B.len PySem.boot_len (pa_cons (pv 1) pa_nil)) pa_nil)) (blkOk_by (N := ["poll", "ahead", "i", "j"]) (sc := defScope s_pairs_ahead) (by decide +kernel)) (by decide) (fun _ _ _ _ _ => (pg_name (i := 2) scPah.nd rfl (.inl rfl))) (fun _ _ _ _ _ => pts_nil) (fun _ _ _ _ _ => (pi_range2 (by rfl) B.range (pa_cons (pe_op op_add (pv 2) pe_int) (pa_cons (pe_callB call_len_seq (by rfl) B.len PySem.boot_len (pa_cons (pv 1) pa_nil)) pa_nil)))) (fun _ _ _ _ _ => (pg_name (i := 3) scPah.nd rfl (.inl rfl))) (fun _ _ _ _ _ => pts_nil) (fun _ _ _ _ _ => (pe_tup (pa_cons (pv 2) (pa_cons (pv 3) pa_nil)))) (fun _ _ _ _ _ => (pe_ix ix_list (pe_ix ix_list (pv 1) (pv 2) (fun _ _ => rfl)) (pv 3) (fun _ _ => rfl)))))))), ?_⟩
    refine ⟨_, rfl, l, as, rs, n, rfl, hO, h1, h2, fun H1 s1 => ?_⟩
    refine ⟨_, rfl, l, as, rs, n, rfl, hO.same s1, h1, by omega, fun la bs H2 nla hla hL s2 => ?_⟩
    have s12 := s1.trans s2
    have hbl : bs.length = n := by rw [hL.len]; unfold aM; rw [List.length_map, rg_len]
    have hbm : (bs.map V.ref).length = n := by rw [List.length_map, hbl]
    refine ⟨_, rfl, la, _, rfl, .inl (SqL.of hla), n, by rw [hbm], by omega, by omega, fun D nD => ?_⟩
    have nlaD : la ≠ D := ne_of_none hla nD
    refine dc2_outer (lo := 0) (fun i G => G D = some (.dT (tk rs (pre (upR n) i))) ∧ Same H2 G) ⟨upd_same, same_new nD⟩ (fun i G hi hP => ?_) (fun G hP => q D G (s12.free nD) hP.1 (s12.trans hP.2))
    obtain ⟨hD, sG⟩ := hP
    rw [show (0 : Int) + (i : Int) = (i : Int) by omega]
    have ei : ((n : Int) - ((i : Int) + 1)).toNat = n - (i + 1) := by omega
    refine ⟨rfl, _, rfl, _, _, rfl, rfl, _, rfl, la, _, rfl, .inl (SqL.of (sG _ _ hla)), (i : Int) + 1, n, by rw [hbm], ⟨by omega, by omega, by omega, by omega⟩, ?_⟩
    rw [ei]
    refine dc2_inner (lo := (i : Int) + 1) (fun j G => G D = some (.dT (tk rs (pre (upR n) i ++ (List.range j).map fun (u : Nat) => ((i : Int), ((i + 1 + u : Nat) : Int))))) ∧ Same H2 G) ⟨by rw [List.range_zero, List.map_nil, List.append_nil]; exact hD, sG⟩ (fun j G hj hP => ?_) (fun G hP => by rw [pre_succ]; exact hP)
    obtain ⟨hD, sG⟩ := hP
    obtain ⟨a, ea, ha⟩ := cell_at (sG _ _ hla) (hL.same sG) (i := i) (j := i + 1 + j) hi (by omega)
    have ex : (i : Int) + 1 + (j : Int) = ((i + 1 + j : Nat) : Int) := by omega
    rw [ex]
    refine ⟨rfl, _, rfl, _, rfl, line_small (by show 2 ≤ 16777216; decide), fun t nt => ?_⟩
    have st := same_new (o := .tup [.int (i : Int), .int ((i + 1 + j : Nat) : Int)]) nt
    refine ⟨_, rfl, _, rfl, la, _, _, _, rfl, rfl, SqL.of (st _ _ (sG _ _ hla)), at_of (j := i) rfl ea, _, rfl, a, _, _, _, rfl, rfl, SqL.of (st _ _ ha), at_of (j := i + 1 + j) rfl (aM_cell (by omega)), ?_⟩
    have nDt : D ≠ t := ne_of_none hD nt
    have fr := pre_fresh (n := n) (i := i) (j := j) (i + 1) (upR n) (fun u p m => by obtain ⟨v, _, rfl⟩ := List.mem_map.mp m; rfl) (fun u => ((i + 1 + u : Nat) : Int)) (fun u => rfl)
    refine ⟨_, kk (i : Int) ((i + 1 + j : Nat) : Int), t, rfl, upd_same, st _ _ hD, line_lt ?_, ?_, fun b o e => ?_⟩
    · rw [tk_len, List.length_append, List.length_map, List.length_range]
      have := (up_facts n (by omega)).2.2.2.1
      have e2 : (upP n).length = (pre (upR n) n).length := rfl
      have hp := pre_len (f := upR n) (m := n) (fun u => by unfold upR; rw [List.length_map, List.length_range]; omega) i
      have : i * n ≤ 12 * 12 := Nat.mul_le_mul (by omega) hn2
      omega
    · rw [upd_same, tk_put fr, List.range_succ, List.map_append, List.append_assoc]
      rfl
    · rw [upd_ne (ne_of_none e nD)]
      exact st _ _ (sG _ _ e)
theorem scPsm : FnScope ["poll", "ahead", "j", "i"] ["poll"] (defScope s_pair_sum) := ⟨rfl, rfl, rfl, by decide +kernel, rfl, by decide +kernel, by decide +kernel⟩
set_option maxHeartbeats 4000000 in
theorem ok_psum {f f1 f2 : Addr} {fd d1 d2 : FuncData} {k : Nat} (T : Df K mg "pair_sum" s_pair_sum ["poll"] f fd) (T_check_poll : Df K mg "check_poll" s_check_poll ["thing"] f1 d1) (T_counts_ahead : Df K mg "counts_ahead" s_counts_ahead ["poll"] f2 d2) (G_check_poll : FnOk P w K mg base CX0 k f1 d1 ["thing"] spCPoll) (G_counts_ahead : FnOk P w K mg base CX0 k f2 d2 ["poll"] spAhead) (B : Bi mg) : FnOk P w K mg base CX0 (k + 1) f fd ["poll"] spPSum := by
  refine T.F.ok scPsm (fun vs H Q E h => ?_) (fun cdv A outer s H vs Q E hr h => ?_)
  · obtain ⟨l, as, rs, n, rfl, _⟩ := h
    rfl
  · obtain ⟨l, as, rs, n, rfl, hO, h1, h2, q⟩ := h
    have hn2 := hO.n2
    refine ⟨_, 
      (pss_cons (ps_expr (pe_call G_check_poll hr (by rfl) T_check_poll.g T_check_poll.F.kp T_check_poll.b .nil pass0 (pa_cons (pv 0) pa_nil)))
      (pss_cons (ps_set (i := 1) scPsm.nd rfl (.inr rfl) (pe_call G_counts_ahead hr (by rfl) T_counts_ahead.g T_counts_ahead.F.kp T_counts_ahead.b .nil pass0 (pa_cons (pv 0) pa_nil)))
      (pss_one (ps_ret (pe_callB (cr_sum rfl) (by rfl) B.sum (by decide +kernel) (pa_cons (pe_lc2 (own := [("j", 2), ("i", 3)]) (vs1 := [3]) (g := (gName 2)) (tt := tYes) (g1 := (gName 3)) (tt1 := tYes) (te := (tCB rMin2 (tCons (tOp (rIxL K) (tOp (rIxL K) (tVar 1) (tVar 3)) (tVar 2)) (tCons (tOp (rIxL K) (tOp (rIxL K) (tVar 1) (tVar 2)) (tVar 3)) tNil)))) rfl scPsm.nd (pi_range1 (by rfl) B.range (pa_cons (pe_callB call_len_seq (by rfl) B.len PySem.boot_len (pa_cons (pv 1) pa_nil)) pa_nil)) (blkOk_by (N := ["poll", "ahead", "j", "i"]) (sc := defScope s_pair_sum) (by decide +kernel)) (by decide) (fun _ _ _ _ _ => (pg_name (i := 2) scPsm.nd rfl (.inl rfl))) (fun _ _ _ _ _ => pts_nil) (fun _ _ _ _ _ => (pi_range1 (by rfl) B.range (pa_cons (pv 2) pa_nil))) (fun _ _ _ _ _ => (pg_name (i := 3) scPsm.nd rfl (.inl rfl))) (fun _ _ _ _ _ => pts_nil) (fun _ _ _ _ _ => (pe_callB (call_min2 rfl) (by rfl) B.min (by decide +kernel) (pa_cons (pe_ix ix_list (pe_ix ix_list (pv 1) (pv 3) (fun _ _ => rfl)) (pv 2) (fun _ _ => rfl)) (pa_cons (pe_ix ix_list (pe_ix ix_list (pv 1) (pv 2) (fun _ _ => rfl)) (pv 3) (fun _ _ => rfl)) pa_nil))))) pa_nil)))))), ?_⟩
    refine ⟨_, rfl, l, as, rs, n, rfl, hO, h1, h2, fun H1 s1 => ?_⟩
    refine ⟨_, rfl, l, as, rs, n, rfl, hO.same s1, h1, by omega, fun la bs H2 nla hla hL s2 => ?_⟩
    have s12 := s1.trans s2
    have hbl : bs.length = n := by rw [hL.len]; unfold aM; rw [List.length_map, rg_len]
    have hbm : (bs.map V.ref).length = n := by rw [List.length_map, hbl]
    let F : Int × Int → Int := fun p => mn (aN rs p.1 p.2) (aN rs p.2 p.1)
    refine ⟨_, rfl, la, _, rfl, .inl (SqL.of hla), n, by rw [hbm], by omega, by omega, fun D nD => ?_⟩
    refine lc2_rng (lo := 0) (fun i G => G D = some (.lst (((pre prR i).map F).map V.int)) ∧ Same H2 G) ⟨upd_same, same_new nD⟩ (fun j G hj hP => ?_) (fun G hP => ⟨D, _, rfl, SqL.of hP.1, q _ (s12.trans hP.2)⟩)
    obtain ⟨hD, sG⟩ := hP
    rw [show (0 : Int) + (j : Int) = (j : Int) by omega]
    refine ⟨rfl, _, rfl, j, rfl, by omega, by omega, ?_⟩
    rw [Int.toNat_natCast]
    refine in_range (fun i G => G D = some (.lst (((pre prR j ++ (List.range i).map fun (u : Nat) => ((u : Int), (j : Int))).map F).map V.int)) ∧ Same H2 G) ⟨by rw [List.range_zero, List.map_nil, List.append_nil]; exact hD, sG⟩ (fun i G hi hP => ?_) (fun G hP => by rw [pre_succ]; exact hP)
    obtain ⟨hD, sG⟩ := hP
    rw [show (0 : Int) + (i : Int) = (i : Int) by omega]
    obtain ⟨a, ea, ha⟩ := cell_at (sG _ _ hla) (hL.same sG) (i := i) (j := j) (by omega) (by omega)
    obtain ⟨b, eb, hb⟩ := cell_at (sG _ _ hla) (hL.same sG) (i := j) (j := i) (by omega) (by omega)
    refine ⟨rfl, _, rfl, _, rfl, la, _, _, _, rfl, rfl, SqL.of (sG _ _ hla), at_of (j := i) rfl ea, _, rfl, a, _, _, _, rfl, rfl, SqL.of ha, at_of (j := j) rfl (aM_cell (by omega)), ?_⟩
    refine ⟨_, rfl, _, rfl, la, _, _, _, rfl, rfl, SqL.of (sG _ _ hla), at_of (j := j) rfl eb, _, rfl, b, _, _, _, rfl, rfl, SqL.of hb, at_of (j := i) rfl (aM_cell (by omega)), ?_⟩
    refine ⟨_, _, rfl, _, hD, line_lt ?_, ?_, fun b o e => ?_⟩
    · rw [List.length_map, List.length_map, List.length_append, List.length_map, List.length_range]
      have := pre_len (f := prR) (m := n)
      have hp : ∀ j : Nat, j ≤ n → (pre prR j).length ≤ j * n := fun j hj => by
        induction j with
        | zero => exact Nat.zero_le _
        | succ j ih =>
          rw [pre_succ, List.length_append, Nat.add_mul]
          have := ih (by omega)
          have : (prR j).length = j := by unfold prR; rw [List.length_map, List.length_range]
          omega
      have := hp j (by omega)
      have : j * n ≤ 12 * 12 := Nat.mul_le_mul (by omega) hn2
      omega
    · rw [upd_same, List.range_succ]
      simp only [List.map_append, List.append_assoc]
      rfl
    · rw [upd_ne (ne_of_none e nD)]
      exact sG _ _ e
end
end Fo
namespace Fo
open PySem PySem.Spec PyProof.Rows L2
def DL (H : Hp) : List Addr → List (List Int) → Prop
  | [], [] => True
  | d :: ds, r :: rs => (∃ kvs, H d = some (.dK kvs) ∧ PlD kvs r) ∧ DL H ds rs
  | _, _ => False
theorem DL.keep {H H' : Hp} : ∀ {as : List Addr} {rs : List (List Int)}, DL H as rs → (∀ a ∈ as, ∀ o, H a = some o → H' a = some o) → DL H' as rs
  | [], [], _, _ => trivial
  | [], _ :: _, h, _ => h.elim
  | _ :: _, [], h, _ => h.elim
  | a :: as, r :: rs, h, k => by
    obtain ⟨⟨kvs, e, hp⟩, h2⟩ := h
    exact ⟨⟨kvs, k a List.mem_cons_self _ e, hp⟩, DL.keep h2 fun b hb => k b (List.mem_cons_of_mem _ hb)⟩
theorem DL.same {H H' : Hp} {as : List Addr} {rs : List (List Int)} (h : DL H as rs) (s : Same H H') : DL H' as rs := h.keep fun a _ o e => s a o e
theorem DL.len {H : Hp} : ∀ {as : List Addr} {rs : List (List Int)}, DL H as rs → as.length = rs.length
  | [], [], _ => rfl
  | [], _ :: _, h => h.elim
  | _ :: _, [], h => h.elim
  | a :: as, r :: rs, h => by rw [List.length_cons, List.length_cons, DL.len h.2]
theorem DL.get {H : Hp} : ∀ {as : List Addr} {rs : List (List Int)} {i : Nat} {a : Addr}, DL H as rs → as[i]? = some a → ∃ r kvs, rs[i]? = some r ∧ H a = some (.dK kvs) ∧ PlD kvs r
  | [], [], _, _, _, e => by simp at e
  | [], _ :: _, _, _, h, _ => h.elim
  | _ :: _, [], _, _, h, _ => h.elim
  | a :: as, r :: rs, 0, b, h, e => by
    have e2 : a = b := Option.some.inj e
    subst e2
    obtain ⟨kvs, e, hp⟩ := h.1
    exact ⟨r, kvs, rfl, e, hp⟩
  | a :: as, r :: rs, i + 1, b, h, e => DL.get (i := i) h.2 e
theorem DL.snoc {H : Hp} : ∀ {as : List Addr} {rs : List (List Int)} {a : Addr} {r : List Int} {kvs : List (Key × V)}, DL H as rs → H a = some (.dK kvs) → PlD kvs r → DL H (as ++ [a]) (rs ++ [r])
  | [], [], _, _, kvs, _, e, hp => ⟨⟨kvs, e, hp⟩, trivial⟩
  | [], _ :: _, _, _, _, h, _, _ => h.elim
  | _ :: _, [], _, _, _, h, _, _ => h.elim
  | _ :: _, _ :: _, _, _, _, h, e, hp => ⟨h.1, DL.snoc h.2 e hp⟩
def spAheadT : Sp := fun vs H Q _ => ∃ (l : Addr) (as : List Addr) (rs : List (List Int)) (n : Nat), vs = [.ref l] ∧ OL H l as rs n ∧ 1 ≤ rs.length ∧ rs.length ≤ 20 ∧ ∀ (cd : Addr) (H' : Hp), H cd = none → H' cd = some (.dT (tk rs (alP n))) → Same H H' → Q (.ref cd) H'
section
variable {P : Program} {w : World} {K : PySem.W.Frag} {mg : Str → Option Value} {base : Heap}
theorem scAheadT : FnScope ["poll", "some", "found", "one", "other", "order", "places"] ["poll"] (defScope s_law_ahead) := ⟨rfl, rfl, rfl, by decide +kernel, rfl, by decide +kernel, by decide +kernel⟩
set_option maxHeartbeats 4000000 in
theorem ok_aheadT {f f1 : Addr} {fd d1 : FuncData} {k : Nat} (T : Df K mg "_law_ahead" s_law_ahead ["poll"] f fd) (T__law_places : Df K mg "_law_places" s_law_places ["order"] f1 d1) (G__law_places : FnOk P w K mg base CX0 k f1 d1 ["order"] spPlD) (B : Bi mg) : FnOk P w K mg base CX0 (k + 1) f fd ["poll"] spAheadT := by
  refine T.F.ok scAheadT (fun vs H Q E h => ?_) (fun cdv A outer s H vs Q E hr h => ?_)
  · obtain ⟨l, as, rs, n, rfl, _⟩ := h
    rfl
  · obtain ⟨l, as, rs, n, rfl, hO, h1, h2, q⟩ := h
    have hal := hO.ll.len
    have hn2 := hO.n2
    refine ⟨_, 
      (pss_cons (ps_setLc (i := 1) (own := [("order", 5)]) (g := (gName 5)) (tt := tYes) (te := (tCall spPlD [] E0 (tCons (tVar 5) tNil))) (by rfl) scAheadT.nd rfl rfl (sw_true rfl rfl rfl (by decide +kernel)) (pi_list (pv 0)) (blkOk_by (N := ["poll", "some", "found", "one", "other", "order", "places"]) (sc := defScope s_law_ahead) (by decide +kernel)) (fun _ _ _ _ _ => (pg_name (i := 5) scAheadT.nd rfl (.inl rfl))) (fun _ _ _ _ _ => pts_nil) (fun _ _ _ _ _ => (pe_call G__law_places hr (by rfl) T__law_places.g T__law_places.F.kp T__law_places.b .nil pass0 (pa_cons (pv 5) pa_nil))))
      (pss_cons (ps_set (i := 2) scAheadT.nd rfl (.inl rfl) pe_dnewT)
      (pss_cons (ps_for PassesOwn.never rfl (pi_range1 (by rfl) B.range (pa_cons (pe_callB call_len_seq (by rfl) B.len PySem.boot_len (pa_cons (pe_ix ix_list (pv 0) pe_int (fun _ _ => rfl)) pa_nil)) pa_nil)) (pg_name (i := 3) scAheadT.nd rfl (.inr rfl))
        (pss_one (ps_for PassesOwn.never rfl (pi_range1 (by rfl) B.range (pa_cons (pe_callB call_len_seq (by rfl) B.len PySem.boot_len (pa_cons (pe_ix ix_list (pv 0) pe_int (fun _ _ => rfl)) pa_nil)) pa_nil)) (pg_name (i := 4) scAheadT.nd rfl (.inr rfl))
          (pss_one (ps_dput (hu_of hr) (pv 2) (pe_tup (pa_cons (pv 3) (pa_cons (pv 4) pa_nil))) (pe_callB call_len_seq (by rfl) B.len PySem.boot_len (pa_cons (pe_lc (own := [("places", 6)]) (g := (gName 6)) (tt := (tTest (tOp (rI0 fun i j => .bl (decide (i < j))) (tDGet (tVar 6) (tVar 3)) (tDGet (tVar 6) (tVar 4))))) (te := (tC (.int 1))) rfl scAheadT.nd (pi_list (pv 1)) (blkOk_by (N := ["poll", "some", "found", "one", "other", "order", "places"]) (sc := defScope s_law_ahead) (by decide +kernel)) (fun _ _ _ _ _ => (pg_name (i := 6) scAheadT.nd rfl (.inl rfl))) (fun _ _ _ _ _ => (pts_one (pt_cmpR op_lt (pe_dget (hu_of hr) (pv 6) (pv 3) (fun _ _ => rfl)) (pe_dget (hu_of hr) (pv 6) (pv 4) (fun _ _ => rfl)) (nomark _)))) (fun _ _ _ _ _ => pe_int)) pa_nil)) (by rfl))))))
      (pss_one (ps_ret (pv 2)))))), ?_⟩
    obtain ⟨a0, ea0⟩ : ∃ a0, as[0]? = some a0 := ⟨as[0]'(by omega), List.getElem?_eq_getElem (by omega)⟩
    obtain ⟨r0, er0, ha0⟩ := hO.ll.get ea0
    have lr0 : (r0.map V.int).length = n := by rw [List.length_map]; exact (hO.ord r0 (List.mem_of_getElem? er0)).len
    have na0 : ∀ {b : Addr}, H b = none → a0 ≠ b := fun h => ne_of_none ha0 h
    -- some
    refine ⟨_, rfl, l, rfl, ⟨_, SqL.of hO.top⟩, fun D nD => ?_⟩
    refine lc_list (K := K) (a := l) (xs := as.map V.ref) (fun i H3 => ∃ (bs : List Addr), H3 D = some (.lst (bs.map V.ref)) ∧ DL H3 bs (rs.take i) ∧ D ∉ bs ∧ Same H H3) ⟨[], upd_same, trivial, List.not_mem_nil, same_new nD⟩ (fun i H3 _ hP => by obtain ⟨_, _, _, _, sm⟩ := hP; exact SqL.of (sm _ _ hO.top)) (fun i x H3 hx hP => ?_) (fun H1 hP => ?_)
    · obtain ⟨a, ea, rfl⟩ := ref_at_inv hx
      obtain ⟨bs, hD3, hL3, nDb, sm⟩ := hP
      obtain ⟨r, er, ha⟩ := (hO.ll.same sm).get ea
      have hbl := hL3.len
      rw [List.length_take] at hbl
      refine ⟨rfl, _, rfl, a, n, r, rfl, ha, hO.ord r (List.mem_of_getElem? er), hn2, fun c kvs H4 nc hc hpl s4 => ?_⟩
      have ncD : c ≠ D := fun e => by rw [e, hD3] at nc; cases nc
      refine ⟨_, s4 _ _ hD3, line_lt (by rw [List.length_map]; omega), bs ++ [c], by rw [upd_same, List.map_append]; rfl, ?_, fun hu => ?_, fun b o e => ?_⟩
      · rw [take_more' er]
        refine DL.snoc ((hL3.same s4).keep fun u hu o e => ?_) ?_ hpl
        · rw [upd_ne (fun q => nDb (by rw [← q]; exact hu))]
          exact e
        · rw [upd_ne ncD]
          exact hc
      · rcases List.mem_append.mp hu with h | h
        · exact nDb h
        · exact ncD (List.mem_singleton.mp h).symm
      · rw [upd_ne (ne_of_none e nD)]
        exact s4 _ _ (sm _ _ e)
    obtain ⟨bs, hD1, hL1, nDb, s1⟩ := hP
    rw [List.take_of_length_le (by rw [List.length_map]; omega)] at hL1
    have hO1 := hO.same s1
    have hbl := hL1.len
    have ha1 := s1 _ _ ha0
    -- found = {}
    intro cd ncd
    have s2 := same_new (o := .dT []) ncd
    have nHcd : H cd = none := s1.free ncd
    have nlcd : l ≠ cd := ne_of_none hO.top nHcd
    have nacd : a0 ≠ cd := na0 nHcd
    have nDcd : D ≠ cd := fun e => by rw [e, ncd] at hD1; cases hD1
    refine ⟨_, rfl, l, _, 0, _, rfl, rfl, SqL.of (s2 _ _ hO1.top), at_of (j := 0) rfl (ref_at ea0), a0, _, rfl, .inl (SqL.of (s2 _ _ ha1)), _, rfl, by omega, by rw [lr0]; omega, ?_⟩
    rw [lr0, Int.toNat_natCast]
    refine for_range (n := n) (fun i σ G => ∃ (y3 y4 : Option V), σ = [some (.ref l), some (.ref D), some (.ref cd), y3, y4, none, none] ∧ G cd = some (.dT (tk rs (pre (alR n) i))) ∧ KeepD cd H1 G)
      ⟨_, _, rfl, upd_same, KeepD.of_same s2⟩ (fun i σ G hi hP => ?_) (fun σ G hP => ?_)
    · obtain ⟨y3, y4, rfl, hcd, kG⟩ := hP
      rw [show (0 : Int) + (i : Int) = (i : Int) by omega]
      refine ⟨_, rfl, l, _, 0, _, rfl, rfl, SqL.of (kG _ _ hO1.top nlcd), at_of (j := 0) rfl (ref_at ea0), a0, _, rfl, .inl (SqL.of (kG _ _ ha1 nacd)), _, rfl, by omega, by rw [lr0]; omega, ?_⟩
      rw [lr0, Int.toNat_natCast]
      refine for_range (n := n) (fun j σ G2 => ∃ (y4 : Option V), σ = [some (.ref l), some (.ref D), some (.ref cd), some (.int (i : Int)), y4, none, none] ∧ G2 cd = some (.dT (tk rs (pre (alR n) i ++ (List.range j).map fun (u : Nat) => ((i : Int), ((0 + u : Nat) : Int))))) ∧ KeepD cd H1 G2)
        ⟨_, rfl, by rw [List.range_zero, List.map_nil, List.append_nil]; exact hcd, kG⟩ (fun j σ G2 hj hP => ?_) (fun σ G2 hP => ?_)
      · obtain ⟨y4, rfl, hcd2, kG2⟩ := hP
        rw [show (0 : Int) + (j : Int) = (j : Int) by omega]
        have hD2 := kG2 D _ hD1 nDcd
        have hDL2 : DL G2 bs rs := hL1.keep fun a ha o e => kG2 a o e (fun q => by rw [q, ncd] at e; cases e)
        have hin : i * n + j < 16777216 := by
          have : i * n ≤ 12 * 12 := Nat.mul_le_mul (by omega) hn2
          omega
        refine ⟨_, rfl, D, rfl, ⟨_, SqL.of hD2⟩, fun D3 nD3 => ?_⟩
        refine lc_list (K := K) (a := D) (xs := bs.map V.ref) (fun m G3 => ∃ ds : List V, G3 D3 = some (.lst ds) ∧ ds.length = ((rs.take m).filter fun r => decide (pos r (i : Int) < pos r (j : Int))).length ∧ Same G2 G3) ⟨[], upd_same, rfl, same_new nD3⟩ (fun m G3 _ hP => by obtain ⟨_, _, _, sm⟩ := hP; exact SqL.of (sm _ _ hD2)) (fun m x G3 hx hP => ?_) (fun G3 hP => ?_)
        · obtain ⟨a, ea, rfl⟩ := ref_at_inv hx
          obtain ⟨ds, hD3, hdl, sm3⟩ := hP
          obtain ⟨r, kv, er, ha, hpl⟩ := (hDL2.same sm3).get ea
          have hm := (List.getElem?_eq_some_iff.mp ea).1
          have orr := hO.ord r (List.mem_of_getElem? er)
          have gj := DGet.k (k := Sum.inl (j : Int)) ha
          rw [hpl (j : Int) ((List.Perm.mem_iff orr).mpr (rg_mem.mpr ⟨by omega, by omega⟩))] at gj
          have gi := DGet.k (k := Sum.inl (i : Int)) ha
          rw [hpl (i : Int) ((List.Perm.mem_iff orr).mpr (rg_mem.mpr ⟨by omega, by omega⟩))] at gi
          have hfl : ((rs.take m).filter fun r => decide (pos r (i : Int) < pos r (j : Int))).length ≤ m := Nat.le_trans (List.length_filter_le _ _) (by rw [List.length_take]; omega)
          refine ⟨rfl, _, rfl, _, rfl, a, _, rfl, gi, _, rfl, _, rfl, a, _, rfl, gj, _, _, rfl, rfl, _, rfl, ite2 (fun cc => ?_) (fun cc => ?_)⟩
          · have hlt : pos r (i : Int) < pos r (j : Int) := of_decide_eq_true cc
            refine ⟨_, hD3, line_lt (by omega), ds ++ [.int 1], upd_same, ?_, fun b o e => ?_⟩
            · rw [filter_more' _ er, decide_eq_true hlt, if_pos rfl, List.length_append, List.length_append, hdl]
              rfl
            · rw [upd_ne (ne_of_none e nD3)]
              exact sm3 _ _ e
          · refine ⟨ds, hD3, ?_, sm3⟩
            rw [filter_more' _ er, decide_eq_false (fun hz => cc (decide_eq_true hz)), if_neg (by decide), List.append_nil]
            exact hdl
        · obtain ⟨ds, hD3, hdl, sm3⟩ := hP
          rw [List.length_map, hbl, List.take_length] at hdl
          refine ⟨D3, _, rfl, .inl (SqL.of hD3), _, rfl, _, rfl, _, rfl, line_small (by show 2 ≤ 16777216; decide), fun tk0 ntk => ?_⟩
          have ex : ((ds.length : Nat) : Int) = aN rs (i : Int) (j : Int) := by rw [hdl]; rfl
          refine ⟨cd, _, rfl, DPut.t (k := kk (i : Int) (j : Int)) (same_new ntk _ _ (sm3 _ _ hcd2)) upd_same (line_lt ?_), ?_⟩
          · rw [tk_len, List.length_append, List.length_map, List.length_range]
            have := pre_len (f := alR n) (m := n) (fun u => by unfold alR; rw [List.length_map, List.length_range]; omega) i
            omega
          rw [ex]
          have fr := pre_fresh (n := n) (i := i) (j := j) 0 (alR n) (fun u p m => by obtain ⟨v, _, rfl⟩ := List.mem_map.mp m; rfl) (fun u => ((0 + u : Nat) : Int)) (fun u => rfl)
          refine ⟨_, rfl, ?_, fun b o e nb => ?_⟩
          · rw [upd_same, List.range_succ, List.map_append]
            have e0 : (0 + j : Nat) = j := Nat.zero_add j
            show _ = some (HO.dT (tk rs (pre (alR n) i ++ (List.map (fun (u : Nat) => ((i : Int), ((0 + u : Nat) : Int))) (List.range j) ++ [((i : Int), ((0 + j : Nat) : Int))]))))
            rw [← List.append_assoc, ← tk_put (p := ((i : Int), ((0 + j : Nat) : Int))) fr]
            simp only [e0]
          · rw [upd_ne nb]
            exact same_new ntk _ _ (sm3 _ _ (kG2 b o e nb))
      · obtain ⟨y4, rfl, hcd2, kG2⟩ := hP
        refine ⟨_, y4, rfl, ?_, kG2⟩
        rw [pre_succ]
        simp only [Nat.zero_add] at hcd2
        exact hcd2
    · obtain ⟨y3, y4, rfl, hcd, kG⟩ := hP
      exact ⟨_, rfl, q cd G nHcd hcd fun b o e => kG b o (s1 _ _ e) (ne_of_none e nHcd)⟩
end
end Fo
namespace Fo
open PySem PySem.Spec PyProof.Rows L2
theorem walk_valsT {d : Addr} {o : Obj} {kvs : List (List Key × V)} : Walk (ItdT d o kvs) kvs.length (fun H => H d = some (.frz o (.dT kvs))) (fun i H x H' => H' = H ∧ ∃ k, kvs[i]? = some (k, x)) :=
  ⟨fun _ _ hi q => ⟨q, hi⟩, fun _ q => ⟨q, Nat.le_refl _⟩, fun _ _ _ _ _ _ y => y⟩
theorem unlock_same {H G : Hp} {d : Addr} {o : Obj} {u : HO} (h : H d = some u) (s : Same (upd H d (.frz o u)) G) : Same H (upd G d u) := fun b x e => by
  by_cases c : b = d
  · subst c
    rw [h] at e
    rw [upd_same, e]
  · rw [upd_ne c]
    exact s b x (by rw [upd_ne c]; exact e)
theorem lock_keep {H : Hp} {d : Addr} {o : Obj} {u x : HO} {b : Addr} (h : H d = some u) (e : H b = some x) (ne : u ≠ x) : upd H d (.frz o u) b = some x := by
  rw [upd_ne (fun z => ne (by rw [z, h] at e; exact Option.some.inj e))]
  exact e
theorem turns5 (n : Nat) : ∃ m : Nat, (if (if 5 < (n : Int) then 5 else (n : Int)) > 1 then (if 5 < (n : Int) then 5 else (n : Int)) else 1) = (m : Int) ∧ m ≤ 5 := by
  by_cases c : 5 < (n : Int)
  · exact ⟨5, by rw [if_pos c]; rfl, by decide⟩
  · rw [if_neg c]
    by_cases c2 : (n : Int) > 1
    · exact ⟨n, by rw [if_pos c2], by omega⟩
    · exact ⟨1, by rw [if_neg c2]; rfl, by decide⟩
/-- the pairs of dict(..): each a tuple of a key's tuple and a value -/
abbrev PrT (H : Hp) (ps : List Addr) (kvs : List (List Key × V)) : Prop := Paired (fun (p : Addr) (kv : List Key × V) => ∃ b, H p = some (.tup [V.ref b, kv.2]) ∧ H b = some (.tup (kv.1.map kV))) ps kvs
theorem PrT.move {H H' : Hp} {ps : List Addr} {kvs : List (List Key × V)} (h : PrT H ps kvs) (s : ∀ b vs, H b = some (.tup vs) → H' b = some (.tup vs)) : PrT H' ps kvs :=
  Paired.mapP h fun _ _ ⟨b, e1, e2⟩ => ⟨b, s _ _ e1, s _ _ e2⟩
theorem al_step {n i : Nat} {p : Int × Int} (h : (alP n)[i]? = some p) : ((alP n).take (i + 1)).filter (fun p => decide (p.1 < p.2)) = ((alP n).take i).filter (fun p => decide (p.1 < p.2)) ++ (if p.1 < p.2 then [p] else []) := by
  rw [List.take_add_one, h, List.filter_append]
  show _ ++ List.filter _ [p] = _
  rw [List.filter_cons]
  simp only [decide_eq_true_eq]
  rfl
theorem al_mem {n : Nat} {p : Int × Int} (h : p ∈ alP n) : 0 ≤ p.1 ∧ p.1 < n ∧ 0 ≤ p.2 ∧ p.2 < n := by
  unfold alP pre at h
  obtain ⟨i, hi, h⟩ := List.mem_flatMap.mp h
  obtain ⟨u, hu, rfl⟩ := List.mem_map.mp h
  have := List.mem_range.mp hi
  have := List.mem_range.mp hu
  show 0 ≤ (i : Int) ∧ (i : Int) < n ∧ 0 ≤ (u : Int) ∧ (u : Int) < n
  omega
section
variable {P : Program} {w : World} {K : PySem.W.Frag} {mg : Str → Option Value} {base : Heap}
theorem scLaw : FnScope ["script", "k", "deck", "n", "poll", "ahead", "due", "total", "handed", "again", "found", "one", "other", "number", "pair", "many"] ["script"] (defScope s_law) := ⟨rfl, rfl, rfl, by decide +kernel, rfl, by decide +kernel, by decide +kernel⟩
set_option maxHeartbeats 8000000 in
theorem ok_law {f f1 f2 f3 f4 f5 f6 f7 f8 f9 : Addr} {fd d1 d2 d3 d4 d5 d6 d7 d8 d9 : FuncData} (T : Fun K "law" "law" s_law f fd) (T__law_deck : Df K mg "_law_deck" s_law_deck ["cell", "many"] f1 d1) (T__law_cell_at : Df K mg "_law_cell_at" s_law_cell_at ["script", "k"] f2 d2) (T__law_next : Df K mg "_law_next" s_law_next ["deck"] f3 d3) (T__law_poll : Df K mg "_law_poll" s_law_poll ["deck", "n", "most"] f4 d4) (T__law_copied : Df K mg "_law_copied" s_law_copied ["orders"] f5 d5) (T__law_ahead : Df K mg "_law_ahead" s_law_ahead ["poll"] f6 d6) (T_pairs_ahead : Df K mg "pairs_ahead" s_pairs_ahead ["poll"] f7 d7) (T_pair_sum : Df K mg "pair_sum" s_pair_sum ["poll"] f8 d8) (T__law_whole : Df K mg "_law_whole" s_law_whole ["thing"] f9 d9)
    (G__law_deck : FnOk P w K mg base CX0 11 f1 d1 ["cell", "many"] spDeckN) (G__law_cell_at : FnOk P w K mg base CX0 11 f2 d2 ["script", "k"] (spCell K)) (G__law_next : FnOk P w K mg base CX0 11 f3 d3 ["deck"] spNext) (G__law_poll : FnOk P w K mg base CX0 11 f4 d4 ["deck", "n", "most"] spPoll) (G__law_copied : FnOk P w K mg base CX0 11 f5 d5 ["orders"] spCopied) (G__law_ahead : FnOk P w K mg base CX0 11 f6 d6 ["poll"] spAheadT) (G_pairs_ahead : FnOk P w K mg base CX0 11 f7 d7 ["poll"] spPairs) (G_pair_sum : FnOk P w K mg base CX0 11 f8 d8 ["poll"] spPSum) (G__law_whole : FnOk P w K mg base CX0 11 f9 d9 ["thing"] spWhole) (B : Bi mg) : FnOk P w K mg base CX0 12 f fd ["script"] (spLaw K) := by
  refine T.ok scLaw (fun vs H Q E h => ?_) (fun cdv A outer s H vs Q E hr h => ?_)
  · obtain ⟨a, ns, rfl, _⟩ := h
    rfl
  · obtain ⟨a, ns, rfl, hS, hlen, q⟩ := h
    refine ⟨_, 
      (pss_cons (ps_for PassesOwn.never rfl (pi_range1 (by rfl) B.range (pa_cons (pe_callB (call_max2 rfl) (by rfl) B.max (by decide +kernel) (pa_cons pe_int (pa_cons (pe_callB (call_min2 rfl) (by rfl) B.min (by decide +kernel) (pa_cons (pe_callB call_len_seq (by rfl) B.len PySem.boot_len (pa_cons (pv 0) pa_nil)) (pa_cons pe_int pa_nil))) pa_nil))) pa_nil)) (pg_name (i := 1) scLaw.nd rfl (.inl rfl))
        (pss_cons (ps_set (i := 2) scLaw.nd rfl (.inl rfl) (pe_call G__law_deck hr (by rfl) T__law_deck.g T__law_deck.F.kp T__law_deck.b .nil pass0 (pa_cons (pe_call G__law_cell_at hr (by rfl) T__law_cell_at.g T__law_cell_at.F.kp T__law_cell_at.b .nil pass0 (pa_cons (pv 0) (pa_cons (pv 1) pa_nil))) (pa_cons pe_int pa_nil))))
        (pss_cons (ps_set (i := 3) scLaw.nd rfl (.inl rfl) (pe_ix ix_list (pe_lst (pa_cons (pe_op op_add pe_int (pe_op op_mod (pe_call G__law_next hr (by rfl) T__law_next.g T__law_next.F.kp T__law_next.b .nil pass0 (pa_cons (pv 2) pa_nil)) pe_int)) (pa_cons (pe_op op_add pe_int (pe_op op_mod (pe_call G__law_next hr (by rfl) T__law_next.g T__law_next.F.kp T__law_next.b .nil pass0 (pa_cons (pv 2) pa_nil)) pe_int)) (pa_cons pe_int pa_nil)))) (pe_op op_mod (pe_call G__law_next hr (by rfl) T__law_next.g T__law_next.F.kp T__law_next.b .nil pass0 (pa_cons (pv 2) pa_nil)) pe_int) (fun _ _ => rfl)))
        (pss_cons (ps_set (i := 4) scLaw.nd rfl (.inr rfl) (pe_call G__law_poll hr (by rfl) T__law_poll.g T__law_poll.F.kp T__law_poll.b .nil pass0 (pa_cons (pv 2) (pa_cons (pv 3) (pa_cons pe_int pa_nil)))))
        (pss_cons (ps_set (i := 5) scLaw.nd rfl (.inr rfl) (pe_call G__law_ahead hr (by rfl) T__law_ahead.g T__law_ahead.F.kp T__law_ahead.b .nil pass0 (pa_cons (pv 4) pa_nil)))
        (pss_cons (ps_set (i := 6) scLaw.nd rfl (.inl rfl) (pe_callTy (call_dictT rfl (u2_of hr)) (by rfl) B.dict (by decide +kernel) (pa_cons (pe_lock (pe_lc (own := [("pair", 14)]) (g := (gName 14)) (tt := (tTest (tOp (rI0 fun i j => .bl (decide (i < j))) (tOp (rIxT K) (tVar 14) (tC (.int 0))) (tOp (rIxT K) (tVar 14) (tC (.int 1)))))) (te := (tTup (tCons (tVar 14) (tCons (tDGet (tVar 5) (tVar 14)) tNil)))) rfl scLaw.nd (pi_keys (pv 5)) (blkOk_by (N := ["script", "k", "deck", "n", "poll", "ahead", "due", "total", "handed", "again", "found", "one", "other", "number", "pair", "many"]) (sc := defScope s_law) (by decide +kernel)) (fun _ _ _ _ _ => (pg_name (i := 14) scLaw.nd rfl (.inl rfl))) (fun _ _ _ _ _ => (pts_one (pt_cmpR op_lt (pe_ix ix_tup (pv 14) pe_int (fun _ _ => rfl)) (pe_ix ix_tup (pv 14) pe_int (fun _ _ => rfl)) (nomark _)))) (fun _ _ _ _ _ => (pe_tup (pa_cons (pv 14) (pa_cons (pe_dget (hu_of hr) (pv 5) (pv 14) (fun _ _ => rfl)) pa_nil)))))) pa_nil)))
        (pss_cons (ps_set (i := 7) scLaw.nd rfl (.inl rfl) (pe_callB (cr_sum rfl) (by rfl) B.sum (by decide +kernel) (pa_cons (pe_lock (pe_lc (own := [("many", 15)]) (g := (gName 15)) (tt := tYes) (te := (tCB rMin2 (tCons (tVar 15) (tCons (tOp (rI0 fun i j => .int (i - j)) (tCB (rLenS K) (tCons (tVar 4) tNil)) (tVar 15)) tNil)))) rfl scLaw.nd (pi_valuesT (pv 6)) (blkOk_by (N := ["script", "k", "deck", "n", "poll", "ahead", "due", "total", "handed", "again", "found", "one", "other", "number", "pair", "many"]) (sc := defScope s_law) (by decide +kernel)) (fun _ _ _ _ _ => (pg_name (i := 15) scLaw.nd rfl (.inl rfl))) (fun _ _ _ _ _ => pts_nil) (fun _ _ _ _ _ => (pe_callB (call_min2 rfl) (by rfl) B.min (by decide +kernel) (pa_cons (pv 15) (pa_cons (pe_op op_sub (pe_callB call_len_seq (by rfl) B.len PySem.boot_len (pa_cons (pv 4) pa_nil)) (pv 15)) pa_nil)))))) pa_nil)))
        (pss_cons (ps_set (i := 8) scLaw.nd rfl (.inl rfl) (pe_call G__law_copied hr (by rfl) T__law_copied.g T__law_copied.F.kp T__law_copied.b .nil pass0 (pa_cons (pv 4) pa_nil)))
        (pss_one (ps_for PassesOwn.never rfl (pi_range1 (by rfl) B.range (pa_cons pe_int pa_nil)) (pg_name (i := 9) scLaw.nd rfl (.inl rfl))
          (pss_cons (ps_set (i := 10) scLaw.nd rfl (.inl rfl) (pe_call G_pairs_ahead hr (by rfl) T_pairs_ahead.g T_pairs_ahead.F.kp T_pairs_ahead.b .nil pass0 (pa_cons (pv 8) pa_nil)))
          (pss_cons (ps_if (PW.pt (pw_or (pt_not (pt_val (pe_callB call_isi (by rfl) B.isinstance (by decide +kernel) (pa_cons (pv 10) (pa_cons (pe_bltn (v := .ty "dict") (by rfl) B.dict (by decide +kernel) rfl) pa_nil))))) (pw_or (pt_cmpR (op_neDT (hu_of hr)) (pv 10) (pv 6) (nomark _)) (pw_or1 (pt_cmpR (op_neD hr.units) (pv 8) (pv 4) (nomark _))))))
            (pss_one (ps_ret pe_bl))
            pss_nil)
          (pss_cons (ps_if (pt_cmpR (op_neD hr.units) (pe_lock (pe_lc (own := [("many", 15)]) (g := (gName 15)) (tt := (tNot (tB (tCall spWhole [] E0 (tCons (tVar 15) tNil))))) (te := (tVar 15)) rfl scLaw.nd (pi_valuesT (pv 10)) (blkOk_by (N := ["script", "k", "deck", "n", "poll", "ahead", "due", "total", "handed", "again", "found", "one", "other", "number", "pair", "many"]) (sc := defScope s_law) (by decide +kernel)) (fun _ _ _ _ _ => (pg_name (i := 15) scLaw.nd rfl (.inl rfl))) (fun _ _ _ _ _ => (pts_one (pt_not (pt_val (pe_call G__law_whole hr (by rfl) T__law_whole.g T__law_whole.F.kp T__law_whole.b .nil pass0 (pa_cons (pv 15) pa_nil)))))) (fun _ _ _ _ _ => (pv 15)))) (pe_lst pa_nil) (nomark _))
            (pss_one (ps_ret pe_bl))
            pss_nil)
          (pss_cons (ps_lock (ps_for PassesOwn.never rfl (pi_keys (pv 10)) (pg_tup (by rfl) (pgs_cons (pg_name (i := 11) scLaw.nd rfl (.inl rfl)) (pgs_cons (pg_name (i := 12) scLaw.nd rfl (.inl rfl)) pgs_nil)))
            (pss_one (ps_if (PW.pt (pw_or (pt_not (pt_val (pe_call G__law_whole hr (by rfl) T__law_whole.g T__law_whole.F.kp T__law_whole.b .nil pass0 (pa_cons (pv 11) pa_nil)))) (pw_or1 (pt_not (pt_val (pe_call G__law_whole hr (by rfl) T__law_whole.g T__law_whole.F.kp T__law_whole.b .nil pass0 (pa_cons (pv 12) pa_nil)))))))
              (pss_one (ps_ret pe_bl))
              pss_nil))))
          (pss_cons (ps_if (pt_cmpR (op_neD hr.units) (pe_lock (pe_lc (own := [("pair", 14)]) (g := (gName 14)) (tt := (tNot (tB (tCB (rIsi K) (tCons (tVar 14) (tCons (tC (.ty "tuple")) tNil)))))) (te := (tVar 14)) rfl scLaw.nd (pi_keys (pv 10)) (blkOk_by (N := ["script", "k", "deck", "n", "poll", "ahead", "due", "total", "handed", "again", "found", "one", "other", "number", "pair", "many"]) (sc := defScope s_law) (by decide +kernel)) (fun _ _ _ _ _ => (pg_name (i := 14) scLaw.nd rfl (.inl rfl))) (fun _ _ _ _ _ => (pts_one (pt_not (pt_val (pe_callB call_isi (by rfl) B.isinstance (by decide +kernel) (pa_cons (pv 14) (pa_cons (pe_bltn (v := .ty "tuple") (by rfl) B.tuple (by decide +kernel) rfl) pa_nil))))))) (fun _ _ _ _ _ => (pv 14)))) (pe_lst pa_nil) (nomark _))
            (pss_one (ps_ret pe_bl))
            pss_nil)
          (pss_cons (ps_expr (pe_bm0 PySem.F.plainAttrs_dict PySem.F.slot_dict_clear PySem.F.type_dict_clear mt_clearT (pv 10)))
          (pss_cons (ps_set (i := 13) scLaw.nd rfl (.inl rfl) (pe_call G_pair_sum hr (by rfl) T_pair_sum.g T_pair_sum.F.kp T_pair_sum.b .nil pass0 (pa_cons (pv 8) pa_nil)))
          (pss_one (ps_if (PW.pt (pw_or (pt_not (pt_val (pe_call G__law_whole hr (by rfl) T__law_whole.g T__law_whole.F.kp T__law_whole.b .nil pass0 (pa_cons (pv 13) pa_nil)))) (pw_or (pt_cmpR op_ne (pv 13) (pv 7) (nomark _)) (pw_or1 (pt_cmpR (op_neD hr.units) (pv 8) (pv 4) (nomark _))))))
            (pss_one (ps_ret pe_bl))
            pss_nil)))))))))))))))))))
      (pss_one (ps_ret pe_bl))), ?_⟩
    refine ⟨_, rfl, a, _, rfl, .inl hS, _, 5, rfl, 1, _, rfl, _, rfl, ?_⟩
    obtain ⟨m, em, hm⟩ := turns5 (ns.map V.int).length
    refine ⟨by rw [em]; omega, by rw [em]; omega, ?_⟩
    rw [em, Int.toNat_natCast]
    refine for_range (n := m) (fun k0 σ H3 => ∃ (y1 y2 y3 y4 y5 y6 y7 y8 y9 y10 y11 y12 y13 : Option V), σ = [some (.ref a), y1, y2, y3, y4, y5, y6, y7, y8, y9, y10, y11, y12, y13, none, none] ∧ Same H H3)
      ⟨_, _, _, _, _, _, _, _, _, _, _, _, _, rfl, Same.refl _⟩ (fun k0 σ H3 hi hP => ?_) (fun σ H3 hP => q _)
    obtain ⟨y1, y2, y3, y4, y5, y6, y7, y8, y9, y10, y11, y12, y13, rfl, s3⟩ := hP
    refine ⟨_, rfl, _, rfl, a, ns, k0, by rw [show (0 + (k0 : Int)) = (k0 : Int) by omega]; rfl, s3.seq hS, fun c => ⟨c, 760, rfl, by decide, by decide, fun d H4 nd D4 s4 => ?_⟩⟩
    have s04 := s3.trans s4
    have nHd : H d = none := s3.free nd
    -- n
    refine ⟨_, rfl, d, rfl, D4, fun v1 H5 _ _ D5 k5 => ⟨v1, 12, rfl, rfl, (show (0 : Int) < 12 by decide), 1, _, rfl, rfl, ?_⟩⟩
    refine ⟨_, rfl, d, rfl, D5, fun v2 H6 _ _ D6 k6 => ⟨v2, 4, rfl, rfl, (show (0 : Int) < 4 by decide), 1, _, rfl, rfl, ?_⟩⟩
    refine ⟨line_small (by show 3 ≤ 16777216; decide), fun t nt => ?_⟩
    have D7 := D6.new (o := .lst [.int (1 + v1 % 12), .int (1 + v2 % 4), .int 12]) nt
    have ntd := D6.ne nt
    refine ⟨_, rfl, d, rfl, D7, fun v3 H8 _ _ D8 k8 => ⟨v3, 3, rfl, rfl, (show (0 : Int) < 3 by decide), ?_⟩⟩
    have b1 := mod_b v1 (m := 12) (by decide)
    have b2 := mod_b v2 (m := 4) (by decide)
    have b3 := mod_b v3 (m := 3) (by decide)
    obtain ⟨n, en, hn1, hn2⟩ : ∃ n : Nat, atI [V.int (1 + v1 % 12), V.int (1 + v2 % 4), V.int 12] (v3 % 3) = some (.int n) ∧ 1 ≤ n ∧ n ≤ 12 := by
      have : v3 % 3 = 0 ∨ v3 % 3 = 1 ∨ v3 % 3 = 2 := by omega
      rcases this with h | h | h <;> rw [h]
      · refine ⟨(1 + v1 % 12).toNat, ?_, by omega, by omega⟩
        rw [Int.toNat_of_nonneg (by omega)]
        rfl
      · refine ⟨(1 + v2 % 4).toNat, ?_, by omega, by omega⟩
        rw [Int.toNat_of_nonneg (by omega)]
        rfl
      · exact ⟨12, rfl, by decide, by decide⟩
    refine ⟨t, _, _, _, rfl, rfl, SqL.of (k8 t _ upd_same ntd), en, ?_⟩
    have kk8 : KeepD d H4 H8 := ((k5.trans k6).trans (KeepD.new nt)).trans k8
    -- poll
    refine ⟨_, rfl, _, rfl, d, n, 20, rfl, D8, hn1, by omega, by decide, by decide, fun l as rs H9 hO hl1 hl2 nl nas nld nda D9 k9 => ?_⟩
    have kk9 : KeepD d H4 H9 := kk8.trans k9
    have kF : Same H H9 := fun b o e => kk9 b o (s04 b o e) (ne_of_none e nHd)
    clear kk9 kk8 k5 k6 k8 k9 D4 D5 D6 D7 D8 s3 s04 s4
    have hord := hO.ord
    obtain ⟨fn, fe, _, fu, fa⟩ := up_facts n (by omega)
    -- ahead
    refine ⟨_, rfl, l, as, rs, n, rfl, hO, hl1, hl2, fun ga HA nga hga sA => ?_⟩
    have hOA := hO.same sA
    -- due
    refine ⟨ga, _, hga, trivial, fun og => ⟨_, rfl, ga, og, rfl, .inr ⟨_, upd_same, fun D nD => ?_⟩⟩⟩
    have nDA : HA D = none := by
      rw [← nD, upd_ne]
      exact fun z => by rw [z, upd_same] at nD; cases nD
    have nDg : D ≠ ga := fun z => by rw [z, hga] at nDA; cases nDA
    refine lc_it walk_keysT (fun i G => ∃ ps : List Addr, G D = some (.lst (ps.map V.ref)) ∧ PrT G ps (tk rs (((alP n).take i).filter fun p => decide (p.1 < p.2))) ∧ Same (upd HA ga (.frz og (.dT (tk rs (alP n))))) G)
      ⟨[], upd_same, .nil, same_new nD⟩ (fun i G _ hP => by obtain ⟨_, _, _, s⟩ := hP; exact s _ _ upd_same) (fun i x G G' hi hP hy => ?_) (fun G hP => ?_)
    · obtain ⟨ps, hD, hps, sG⟩ := hP
      obtain ⟨rfl, k, v, c, ek, rfl, hc⟩ := hy
      obtain ⟨p, ep, rfl, rfl⟩ := tk_at ek
      have hpm := List.mem_of_getElem? ep
      have hil := (List.getElem?_eq_some_iff.mp ep).1
      refine ⟨rfl, _, rfl, c, _, _, _, rfl, rfl, SqT.of hc, rfl, _, rfl, c, _, _, _, rfl, rfl, SqT.of hc, rfl, _, _, rfl, rfl, _, rfl, ?_⟩
      have hll : ps.length ≤ i := by
        have e1 := Paired.length hps
        rw [tk_len] at e1
        rw [e1]
        exact Nat.le_trans (List.length_filter_le _ _) (by rw [List.length_take]; omega)
      refine ite2 (fun cc => ?_) (fun cc => ?_)
      · have hlt : p.1 < p.2 := of_decide_eq_true cc
        have gt := sG _ _ (upd_same (H := HA) (a := ga) (o := .frz og (.dT (tk rs (alP n)))))
        refine ⟨_, rfl, _, rfl, _, rfl, ga, _, rfl, .inr ⟨_, kk p.1 p.2, c, .inr ⟨og, gt⟩, rfl, hc, (tk_get hpm).symm⟩, line_small (by show 2 ≤ 16777216; decide), fun t nt => ?_⟩
        have st := same_new (o := .tup [.ref c, .int (aN rs p.1 p.2)]) nt
        have nDt : t ≠ D := fun z => by rw [z, hD] at nt; cases nt
        refine ⟨_, st _ _ hD, line_lt (by rw [List.length_map]; omega), ps ++ [t], by rw [upd_same, List.map_append]; rfl, ?_, fun b o e => ?_⟩
        · rw [al_step ep, if_pos hlt]
          unfold tk
          rw [List.map_append]
          refine Paired.snoc (hps.move fun b vs e => ?_) ⟨c, by rw [upd_ne nDt]; exact upd_same, ?_⟩
          · rw [upd_ne (ne_of e hD (fun z => nomatch z))]
            exact st _ _ e
          · rw [upd_ne (ne_of hc hD (fun z => nomatch z))]
            exact st _ _ hc
        · rw [upd_ne (ne_of_none e nD)]
          exact st _ _ (sG _ _ e)
      · refine ⟨ps, hD, ?_, sG⟩
        rw [al_step ep, if_neg (fun z => cc (decide_eq_true z)), List.append_nil]
        exact hps
    · obtain ⟨ps, hD, hps, sG⟩ := hP
      rw [tk_len, List.take_length, fe] at hps
      have gt := sG _ _ (upd_same (H := HA) (a := ga) (o := .frz og (.dT (tk rs (alP n)))))
      refine ⟨gt, D, ps, tk rs (upP n), rfl, by rw [upd_ne nDg]; exact hD, Paired.mapP (PrT.move hps fun b vs e => by rw [upd_ne (ne_of e gt (fun z => nomatch z))]; exact e) fun _ _ ⟨b, e1, e2⟩ => ⟨b, SqT.of e1, e2⟩, fun du ndu => ?_⟩
      rw [show mergeT [] (tk rs (upP n)) = tk rs (upP n) from tk_merge (upP n) [] fn]
      have sU := (unlock_same hga sG).trans (same_new (o := .dT (tk rs (upP n))) ndu)
      have hdu : (upd (upd G ga (.dT (tk rs (alP n)))) du (.dT (tk rs (upP n)))) du = some (.dT (tk rs (upP n))) := upd_same
      generalize upd (upd G ga (.dT (tk rs (alP n)))) du (.dT (tk rs (upP n))) = HB at sU hdu ⊢
      have hOB := hOA.same sU
      have sAB := sA.trans sU
      clear hps hD gt sG nD nDA nDg ndu hga nga
      -- total
      let F2 : Int × Int → Int := fun p => mn (aN rs p.1 p.2) ((rs.length : Int) - aN rs p.1 p.2)
      have hll : (as.map V.ref).length = rs.length := by rw [List.length_map, hO.ll.len]
      refine ⟨du, _, hdu, trivial, fun ou => ⟨_, rfl, du, ou, _, rfl, upd_same, fun D nD => ?_⟩⟩
      have nDB : HB D = none := by
        rw [← nD, upd_ne]
        exact fun z => by rw [z, upd_same] at nD; cases nD
      have nDd : D ≠ du := fun z => by rw [z, hdu] at nDB; cases nDB
      refine lc_it walk_valsT (fun i G => G D = some (.lst ((((upP n).take i).map F2).map V.int)) ∧ Same (upd HB du (.frz ou (.dT (tk rs (upP n))))) G)
        ⟨upd_same, same_new nD⟩ (fun i G _ hP => hP.2 _ _ upd_same) (fun i x G G' hi hP hy => ?_) (fun G hP => ?_)
      · obtain ⟨hD, sG⟩ := hP
        obtain ⟨rfl, k, ek⟩ := hy
        obtain ⟨p, ep, rfl, rfl⟩ := tk_at ek
        have hil := (List.getElem?_eq_some_iff.mp ep).1
        refine ⟨rfl, _, rfl, _, rfl, l, _, rfl, .inl (SqL.of (sG _ _ (lock_keep hdu hOB.top (fun z => nomatch z)))), _, rfl, _, _, rfl, rfl, _, _, rfl, ?_⟩
        rw [hll]
        refine ⟨_, hD, line_lt (by rw [List.length_map, List.length_map, List.length_take]; omega), ?_, fun b o e => ?_⟩
        · rw [upd_same, List.take_add_one, ep]
          simp only [List.map_append]
          rfl
        · rw [upd_ne (ne_of_none e nD)]
          exact sG _ _ e
      · obtain ⟨hD, sG⟩ := hP
        rw [tk_len, List.take_length] at hD
        have gt := sG _ _ (upd_same (H := HB) (a := du) (o := .frz ou (.dT (tk rs (upP n)))))
        refine ⟨gt, D, _, rfl, SqL.of (by rw [upd_ne nDd]; exact hD), ?_⟩
        rw [show ((upP n).map F2).sum = psum n rs from psum_up hn2 hord]
        have sC := unlock_same hdu sG
        have hdC : (upd G du (.dT (tk rs (upP n)))) du = some (.dT (tk rs (upP n))) := upd_same
        generalize upd G du (.dT (tk rs (upP n))) = HC at sC hdC ⊢
        have hOC := hOB.same sC
        have sAC := sAB.trans sC
        clear hD gt sG nD nDB nDd sC sU sAB hOB hOA hdu
        -- a copy
        refine ⟨_, rfl, l, as, rs, rfl, hOC.top, hOC.ll, by omega, fun l2 as2 G2 nl2 nas2 nin2 ht2 hLL2 s2 => ?_⟩
        have hO2 := hOC.same s2
        have hP2 : OL G2 l2 as2 rs n := ⟨ht2, hLL2, hord, hn1, hn2⟩
        have hd2 := s2 _ _ hdC
        have sF2 := (kF.trans sAC).trans s2
        clear hOC hdC s2 sAC kF hO nl2 nas2 nin2
        refine ⟨2, rfl, by decide, by decide, ?_⟩
        refine for_range (n := 2) (fun j σ G3 => ∃ (z9 z10 z11 z12 z13 : Option V), σ = [some (.ref a), some (.int (0 + (k0 : Int))), some (.ref d), some (.int n), some (.ref l), some (.ref ga), some (.ref du), some (.int (psum n rs)), some (.ref l2), z9, z10, z11, z12, z13, none, none] ∧ Same G2 G3) ⟨_, _, _, _, _, rfl, Same.refl _⟩ (fun j σ G3 hj hP => ?_) (fun σ G3 hP => ?_)
        · obtain ⟨z9, z10, z11, z12, z13, rfl, s3⟩ := hP
          refine ⟨_, rfl, l2, as2, rs, n, rfl, hP2.same s3, hl1, hl2, fun fo G4 nfo hfo s4 => ?_⟩
          have s34 := s3.trans s4
          refine ⟨_, rfl, _, _, _, _, true, rfl, .ty _, .base (.dT hfo), kit_ty (by decide +kernel), true, rfl, iteF ?_⟩
          refine ⟨_, rfl, _, rfl, fo, du, tk rs (upP n), tk rs (upP n), rfl, rfl, hfo, s34 _ _ hd2, rfl, fun p hp => ?_, _, rfl, iteF ?_⟩
          · obtain ⟨p', hp', rfl⟩ := List.mem_map.mp hp
            exact ⟨tk_get hp', rfl⟩
          refine ⟨_, rfl, _, rfl, _, _, dp_of (hP2.same s34), dp_of (hO2.same s34), shaped_lists _, shaped_lists _, _, rfl, ?_⟩
          rw [eqv_lists]
          refine iteF ?_
          -- the values
          refine ⟨fo, _, hfo, trivial, fun of1 => ⟨_, rfl, fo, of1, _, rfl, upd_same, fun D nD => ?_⟩⟩
          have nD4 : G4 D = none := by
            rw [← nD, upd_ne]
            exact fun z => by rw [z, upd_same] at nD; cases nD
          have nDf : D ≠ fo := fun z => by rw [z, hfo] at nD4; cases nD4
          refine lc_it walk_valsT (fun i G => G D = some (.lst (([] : List Int).map V.int)) ∧ Same (upd G4 fo (.frz of1 (.dT (tk rs (upP n))))) G)
            ⟨upd_same, same_new nD⟩ (fun i G _ hP => hP.2 _ _ upd_same) (fun i x G G' hi hP hy => ?_) (fun G hP => ?_)
          · obtain ⟨rfl, k, ek⟩ := hy
            obtain ⟨p, ep, rfl, rfl⟩ := tk_at ek
            exact ⟨rfl, _, rfl, _, rfl, _, rfl, iteF hP⟩
          obtain ⟨hD, sG⟩ := hP
          have gt := sG _ _ (upd_same (H := G4) (a := fo) (o := .frz of1 (.dT (tk rs (upP n)))))
          refine ⟨gt, ?_⟩
          have sD := unlock_same hfo sG
          have hfD : (upd G fo (.dT (tk rs (upP n)))) fo = some (.dT (tk rs (upP n))) := upd_same
          have hDD : (upd G fo (.dT (tk rs (upP n)))) D = some (.lst (([] : List Int).map V.int)) := by rw [upd_ne nDf]; exact hD
          generalize upd G fo (.dT (tk rs (upP n))) = G5 at sD hfD hDD ⊢
          refine ⟨line_small (by show 0 ≤ 16777216; decide), fun e0 ne0 => ?_⟩
          have s6 := same_new (o := .lst []) ne0
          refine ⟨_, _, dp_list (s6 _ _ hDD), dp_list (ns := []) upd_same, shaped_list _, shaped_list _, _, rfl, ?_⟩
          rw [eqv_list]
          refine iteF ?_
          have hf6 := s6 _ _ hfD
          have s46 := sD.trans s6
          have s06 := s34.trans s46
          generalize upd G5 e0 (.lst []) = G6 at s6 hf6 s46 s06 ⊢
          clear hfD hDD sD s6 gt hD sG nD nD4 nDf ne0
          -- the keys, each a pair
          refine ⟨fo, _, hf6, trivial, fun of2 => ⟨_, rfl, fo, of2, rfl, .inr ⟨_, upd_same, ?_⟩⟩⟩
          refine for_it walk_keysT (fun i σ G => ∃ (z11 z12 : Option V), σ = [some (.ref a), some (.int (0 + (k0 : Int))), some (.ref d), some (.int n), some (.ref l), some (.ref ga), some (.ref du), some (.int (psum n rs)), some (.ref l2), some (.int (0 + (j : Int))), some (.ref fo), z11, z12, z13, none, none] ∧ Same (upd G6 fo (.frz of2 (.dT (tk rs (upP n))))) G)
            ⟨_, _, rfl, Same.refl _⟩ (fun i σ G _ hP => by obtain ⟨_, _, _, s⟩ := hP; exact s _ _ upd_same) (fun i x σ G G' hi hP hy => ?_) (fun σ G hP => ?_)
          · obtain ⟨z11, z12, rfl, sG⟩ := hP
            obtain ⟨rfl, k, v, c, ek, rfl, hc⟩ := hy
            obtain ⟨p, ep, rfl, rfl⟩ := tk_at ek
            refine ⟨c, _, rfl, .inl (.inl hc), rfl, _, _, rfl, _, _, rfl, rfl, ?_⟩
            exact ⟨_, rfl, _, rfl, _, rfl, iteF ⟨_, rfl, _, rfl, _, rfl, iteF ⟨_, _, rfl, sG⟩⟩⟩
          obtain ⟨z11, z12, rfl, sG⟩ := hP
          have gt := sG _ _ (upd_same (H := G6) (a := fo) (o := .frz of2 (.dT (tk rs (upP n)))))
          refine ⟨gt, ?_⟩
          have sD := unlock_same hf6 sG
          have hf7 : (upd G fo (.dT (tk rs (upP n)))) fo = some (.dT (tk rs (upP n))) := upd_same
          generalize upd G fo (.dT (tk rs (upP n))) = G7 at sD hf7 ⊢
          have s47 := s46.trans sD
          clear gt sG hf6 s46 s06 sD
          refine ⟨fo, _, hf7, trivial, fun of3 => ⟨_, rfl, fo, of3, rfl, .inr ⟨_, upd_same, fun D nD => ?_⟩⟩⟩
          have nD7 : G7 D = none := by
            rw [← nD, upd_ne]
            exact fun z => by rw [z, upd_same] at nD; cases nD
          have nDf : D ≠ fo := fun z => by rw [z, hf7] at nD7; cases nD7
          refine lc_it walk_keysT (fun i G => G D = some (.lst (([] : List Int).map V.int)) ∧ Same (upd G7 fo (.frz of3 (.dT (tk rs (upP n))))) G)
            ⟨upd_same, same_new nD⟩ (fun i G _ hP => hP.2 _ _ upd_same) (fun i x G G' hi hP hy => ?_) (fun G hP => ?_)
          · obtain ⟨rfl, k, v, c, ek, rfl, hc⟩ := hy
            exact ⟨rfl, _, rfl, _, _, _, _, true, rfl, .ty _, .base (.tup hc), kit_ty (by decide +kernel), true, rfl, iteF hP⟩
          obtain ⟨hD, sG⟩ := hP
          have gt := sG _ _ (upd_same (H := G7) (a := fo) (o := .frz of3 (.dT (tk rs (upP n)))))
          refine ⟨gt, ?_⟩
          have sD := unlock_same hf7 sG
          have hfD : (upd G fo (.dT (tk rs (upP n)))) fo = some (.dT (tk rs (upP n))) := upd_same
          have hDD : (upd G fo (.dT (tk rs (upP n)))) D = some (.lst (([] : List Int).map V.int)) := by rw [upd_ne nDf]; exact hD
          generalize upd G fo (.dT (tk rs (upP n))) = G8 at sD hfD hDD ⊢
          refine ⟨line_small (by show 0 ≤ 16777216; decide), fun e0 ne0 => ?_⟩
          have s6 := same_new (o := .lst []) ne0
          refine ⟨_, _, dp_list (s6 _ _ hDD), dp_list (ns := []) upd_same, shaped_list _, shaped_list _, _, rfl, ?_⟩
          rw [eqv_list]
          refine iteF ?_
          have hf9 := s6 _ _ hfD
          have s49 := (s47.trans sD).trans s6
          generalize upd G8 e0 (.lst []) = G9 at hf9 s49 ⊢
          -- cleared
          refine ⟨_, rfl, .inr (.inr (.inl ⟨rfl, .inr ⟨_, hf9⟩⟩)), fo, _, rfl, rfl, hf9, ?_⟩
          have s3A : Same G3 (upd G9 fo (.dT [])) := fun b o e => by
            rw [upd_ne (ne_of_none e nfo)]
            exact s49 b o (s4 b o e)
          generalize upd G9 fo (.dT []) = GA at s3A ⊢
          have sA := s3.trans s3A
          refine ⟨_, rfl, l2, as2, rs, n, rfl, hP2.same sA, hl1, hl2, fun GB sB => ?_⟩
          have sAB := sA.trans sB
          refine ⟨_, rfl, _, rfl, _, rfl, iteF ⟨_, rfl, _, rfl, rfl, _, rfl, ite2 (fun c => ?_) (fun _ => ?_)⟩⟩
          · rw [decide_eq_true rfl] at c
            cases c
          refine ⟨_, rfl, _, rfl, _, _, dp_of (hP2.same sAB), dp_of (hO2.same sAB), shaped_lists _, shaped_lists _, _, rfl, ?_⟩
          rw [eqv_lists]
          exact iteF ⟨_, _, _, _, _, rfl, sAB⟩
        · obtain ⟨z9, z10, z11, z12, z13, rfl, s3⟩ := hP
          exact ⟨_, _, _, _, _, _, _, _, _, _, _, _, _, rfl, sF2.trans s3⟩
end
end Fo
--LAWCALL ok_law F_law T__law_deck T__law_cell_at T__law_next T__law_poll T__law_copied T__law_ahead T_pairs_ahead T_pair_sum T__law_whole (ok_deckN (k := 9) T__law_deck T__law_stir B) (ok_cell (k := 10) T__law_cell_at B) (ok_next (k := 9) T__law_next T__law_stir B) (ok_poll (k := 10) T__law_poll T__law_next (ok_next (k := 8) T__law_next T__law_stir B) T__law_order (ok_orderN (k := 9) T__law_order T__law_next (ok_next (k := 7) T__law_next T__law_stir B) B) T__law_near (ok_nearN (k := 9) T__law_near T__law_next (ok_next (k := 7) T__law_next T__law_stir B) B) B) (ok_copied (k := 10) T__law_copied B) (ok_aheadT (k := 10) T__law_ahead T__law_places (ok_pld (k := 9) T__law_places B) B) (ok_pairs (k := 10) T_pairs_ahead T_check_poll T_counts_ahead (ok_cpoll (k := 9) T_check_poll T_is_order_list (ok_olst (k := 8) T_is_order_list T_is_order (ok_is_order (k := 6) T_is_order T_is_whole B m_MOST_THINGS) B) B m_MOST_POLLED) (ok_ahead (k := 9) T_counts_ahead T_places_in (ok_places (k := 8) T_places_in B) B) B) (ok_psum (k := 10) T_pair_sum T_check_poll T_counts_ahead (ok_cpoll (k := 9) T_check_poll T_is_order_list (ok_olst (k := 8) T_is_order_list T_is_order (ok_is_order (k := 6) T_is_order T_is_whole B m_MOST_THINGS) B) B m_MOST_POLLED) (ok_ahead (k := 9) T_counts_ahead T_places_in (ok_places (k := 8) T_places_in B) B) B) (ok_lwhole (k := 10) T__law_whole B) B
namespace Fo
open PySem PySem.Spec PyProof.Rows L2
set_option maxHeartbeats 8000000 in
theorem all_mk {l : PySem.W.OpenLaw} {w : World} {K : PySem.W.Frag} {h : Heap} {mg : Str → Option Value} {fa : Addr} (X : K.In h) (G : h.Ns mainGlobals mg) (hfa : mg "law" = some (.ref fa))
    {f0 f1 f2 f3 f4 f5 f6 f7 f8 f9 f10 f11 f12 f13 f14 f15 f16 f17 f18 f19 : Addr} {od0 an0 od1 an1 od2 an2 od3 an3 od4 an4 od5 an5 od6 an6 od7 an7 od8 an8 od9 an9 od10 an10 od11 an11 od12 an12 od13 an13 od14 an14 od15 an15 od16 an16 od17 an17 od18 an18 od19 an19 : Option Addr} {sl0 sl1 sl2 sl3 sl4 sl5 sl6 sl7 sl8 sl9 sl10 sl11 sl12 sl13 sl14 sl15 sl16 sl17 sl18 sl19 : Array (Option Value)} {oc0 kV0 dc0 pm0 cd0 ct0 oc1 kV1 dc1 pm1 cd1 ct1 oc2 kV2 dc2 pm2 cd2 ct2 oc3 kV3 dc3 pm3 cd3 ct3 oc4 kV4 dc4 pm4 cd4 ct4 oc5 kV5 dc5 pm5 cd5 ct5 oc6 kV6 dc6 pm6 cd6 ct6 oc7 kV7 dc7 pm7 cd7 ct7 oc8 kV8 dc8 pm8 cd8 ct8 oc9 kV9 dc9 pm9 cd9 ct9 oc10 kV10 dc10 pm10 cd10 ct10 oc11 kV11 dc11 pm11 cd11 ct11 oc12 kV12 dc12 pm12 cd12 ct12 oc13 kV13 dc13 pm13 cd13 ct13 oc14 kV14 dc14 pm14 cd14 ct14 oc15 kV15 dc15 pm15 cd15 ct15 oc16 kV16 dc16 pm16 cd16 ct16 oc17 kV17 dc17 pm17 cd17 ct17 oc18 kV18 dc18 pm18 cd18 ct18 oc19 kV19 dc19 pm19 cd19 ct19 : Value} {tk_MOST_THINGS tk_MOST_POLLED : Tok}
    (a0 : PySem.W.nsIn K mainGlobals "is_whole" = some (some (.ref f0))) (l0 : K.lookup f0 = some ⟨oc0, od0, .func (PySem.W.fnOf "is_whole" "is_whole" (defArgs s_is_whole) (defBody s_is_whole) (defScope s_is_whole) .none kV0 dc0 pm0 an0 cd0 ct0), sl0⟩) (c0 : PySem.W.codeIn K cd0 "is_whole" = true) (k0 : PySem.W.keepIn K (.ref f0) = true)
    (a1 : PySem.W.nsIn K mainGlobals "is_order" = some (some (.ref f1))) (l1 : K.lookup f1 = some ⟨oc1, od1, .func (PySem.W.fnOf "is_order" "is_order" (defArgs s_is_order) (defBody s_is_order) (defScope s_is_order) .none kV1 dc1 pm1 an1 cd1 ct1), sl1⟩) (c1 : PySem.W.codeIn K cd1 "is_order" = true) (k1 : PySem.W.keepIn K (.ref f1) = true)
    (a2 : PySem.W.nsIn K mainGlobals "is_order_list" = some (some (.ref f2))) (l2 : K.lookup f2 = some ⟨oc2, od2, .func (PySem.W.fnOf "is_order_list" "is_order_list" (defArgs s_is_order_list) (defBody s_is_order_list) (defScope s_is_order_list) .none kV2 dc2 pm2 an2 cd2 ct2), sl2⟩) (c2 : PySem.W.codeIn K cd2 "is_order_list" = true) (k2 : PySem.W.keepIn K (.ref f2) = true)
    (a3 : PySem.W.nsIn K mainGlobals "places_in" = some (some (.ref f3))) (l3 : K.lookup f3 = some ⟨oc3, od3, .func (PySem.W.fnOf "places_in" "places_in" (defArgs s_places_in) (defBody s_places_in) (defScope s_places_in) .none kV3 dc3 pm3 an3 cd3 ct3), sl3⟩) (c3 : PySem.W.codeIn K cd3 "places_in" = true) (k3 : PySem.W.keepIn K (.ref f3) = true)
    (a4 : PySem.W.nsIn K mainGlobals "check_poll" = some (some (.ref f4))) (l4 : K.lookup f4 = some ⟨oc4, od4, .func (PySem.W.fnOf "check_poll" "check_poll" (defArgs s_check_poll) (defBody s_check_poll) (defScope s_check_poll) .none kV4 dc4 pm4 an4 cd4 ct4), sl4⟩) (c4 : PySem.W.codeIn K cd4 "check_poll" = true) (k4 : PySem.W.keepIn K (.ref f4) = true)
    (a5 : PySem.W.nsIn K mainGlobals "counts_ahead" = some (some (.ref f5))) (l5 : K.lookup f5 = some ⟨oc5, od5, .func (PySem.W.fnOf "counts_ahead" "counts_ahead" (defArgs s_counts_ahead) (defBody s_counts_ahead) (defScope s_counts_ahead) .none kV5 dc5 pm5 an5 cd5 ct5), sl5⟩) (c5 : PySem.W.codeIn K cd5 "counts_ahead" = true) (k5 : PySem.W.keepIn K (.ref f5) = true)
    (a6 : PySem.W.nsIn K mainGlobals "pairs_ahead" = some (some (.ref f6))) (l6 : K.lookup f6 = some ⟨oc6, od6, .func (PySem.W.fnOf "pairs_ahead" "pairs_ahead" (defArgs s_pairs_ahead) (defBody s_pairs_ahead) (defScope s_pairs_ahead) .none kV6 dc6 pm6 an6 cd6 ct6), sl6⟩) (c6 : PySem.W.codeIn K cd6 "pairs_ahead" = true) (k6 : PySem.W.keepIn K (.ref f6) = true)
    (a7 : PySem.W.nsIn K mainGlobals "pair_sum" = some (some (.ref f7))) (l7 : K.lookup f7 = some ⟨oc7, od7, .func (PySem.W.fnOf "pair_sum" "pair_sum" (defArgs s_pair_sum) (defBody s_pair_sum) (defScope s_pair_sum) .none kV7 dc7 pm7 an7 cd7 ct7), sl7⟩) (c7 : PySem.W.codeIn K cd7 "pair_sum" = true) (k7 : PySem.W.keepIn K (.ref f7) = true)
    (a8 : PySem.W.nsIn K mainGlobals "_law_cell_at" = some (some (.ref f8))) (l8 : K.lookup f8 = some ⟨oc8, od8, .func (PySem.W.fnOf "_law_cell_at" "_law_cell_at" (defArgs s_law_cell_at) (defBody s_law_cell_at) (defScope s_law_cell_at) .none kV8 dc8 pm8 an8 cd8 ct8), sl8⟩) (c8 : PySem.W.codeIn K cd8 "_law_cell_at" = true) (k8 : PySem.W.keepIn K (.ref f8) = true)
    (a9 : PySem.W.nsIn K mainGlobals "_law_stir" = some (some (.ref f9))) (l9 : K.lookup f9 = some ⟨oc9, od9, .func (PySem.W.fnOf "_law_stir" "_law_stir" (defArgs s_law_stir) (defBody s_law_stir) (defScope s_law_stir) .none kV9 dc9 pm9 an9 cd9 ct9), sl9⟩) (c9 : PySem.W.codeIn K cd9 "_law_stir" = true) (k9 : PySem.W.keepIn K (.ref f9) = true)
    (a10 : PySem.W.nsIn K mainGlobals "_law_deck" = some (some (.ref f10))) (l10 : K.lookup f10 = some ⟨oc10, od10, .func (PySem.W.fnOf "_law_deck" "_law_deck" (defArgs s_law_deck) (defBody s_law_deck) (defScope s_law_deck) .none kV10 dc10 pm10 an10 cd10 ct10), sl10⟩) (c10 : PySem.W.codeIn K cd10 "_law_deck" = true) (k10 : PySem.W.keepIn K (.ref f10) = true)
    (a11 : PySem.W.nsIn K mainGlobals "_law_next" = some (some (.ref f11))) (l11 : K.lookup f11 = some ⟨oc11, od11, .func (PySem.W.fnOf "_law_next" "_law_next" (defArgs s_law_next) (defBody s_law_next) (defScope s_law_next) .none kV11 dc11 pm11 an11 cd11 ct11), sl11⟩) (c11 : PySem.W.codeIn K cd11 "_law_next" = true) (k11 : PySem.W.keepIn K (.ref f11) = true)
    (a12 : PySem.W.nsIn K mainGlobals "_law_order" = some (some (.ref f12))) (l12 : K.lookup f12 = some ⟨oc12, od12, .func (PySem.W.fnOf "_law_order" "_law_order" (defArgs s_law_order) (defBody s_law_order) (defScope s_law_order) .none kV12 dc12 pm12 an12 cd12 ct12), sl12⟩) (c12 : PySem.W.codeIn K cd12 "_law_order" = true) (k12 : PySem.W.keepIn K (.ref f12) = true)
    (a13 : PySem.W.nsIn K mainGlobals "_law_near" = some (some (.ref f13))) (l13 : K.lookup f13 = some ⟨oc13, od13, .func (PySem.W.fnOf "_law_near" "_law_near" (defArgs s_law_near) (defBody s_law_near) (defScope s_law_near) .none kV13 dc13 pm13 an13 cd13 ct13), sl13⟩) (c13 : PySem.W.codeIn K cd13 "_law_near" = true) (k13 : PySem.W.keepIn K (.ref f13) = true)
    (a14 : PySem.W.nsIn K mainGlobals "_law_poll" = some (some (.ref f14))) (l14 : K.lookup f14 = some ⟨oc14, od14, .func (PySem.W.fnOf "_law_poll" "_law_poll" (defArgs s_law_poll) (defBody s_law_poll) (defScope s_law_poll) .none kV14 dc14 pm14 an14 cd14 ct14), sl14⟩) (c14 : PySem.W.codeIn K cd14 "_law_poll" = true) (k14 : PySem.W.keepIn K (.ref f14) = true)
    (a15 : PySem.W.nsIn K mainGlobals "_law_places" = some (some (.ref f15))) (l15 : K.lookup f15 = some ⟨oc15, od15, .func (PySem.W.fnOf "_law_places" "_law_places" (defArgs s_law_places) (defBody s_law_places) (defScope s_law_places) .none kV15 dc15 pm15 an15 cd15 ct15), sl15⟩) (c15 : PySem.W.codeIn K cd15 "_law_places" = true) (k15 : PySem.W.keepIn K (.ref f15) = true)
    (a16 : PySem.W.nsIn K mainGlobals "_law_whole" = some (some (.ref f16))) (l16 : K.lookup f16 = some ⟨oc16, od16, .func (PySem.W.fnOf "_law_whole" "_law_whole" (defArgs s_law_whole) (defBody s_law_whole) (defScope s_law_whole) .none kV16 dc16 pm16 an16 cd16 ct16), sl16⟩) (c16 : PySem.W.codeIn K cd16 "_law_whole" = true) (k16 : PySem.W.keepIn K (.ref f16) = true)
    (a17 : PySem.W.nsIn K mainGlobals "_law_copied" = some (some (.ref f17))) (l17 : K.lookup f17 = some ⟨oc17, od17, .func (PySem.W.fnOf "_law_copied" "_law_copied" (defArgs s_law_copied) (defBody s_law_copied) (defScope s_law_copied) .none kV17 dc17 pm17 an17 cd17 ct17), sl17⟩) (c17 : PySem.W.codeIn K cd17 "_law_copied" = true) (k17 : PySem.W.keepIn K (.ref f17) = true)
    (a18 : PySem.W.nsIn K mainGlobals "_law_ahead" = some (some (.ref f18))) (l18 : K.lookup f18 = some ⟨oc18, od18, .func (PySem.W.fnOf "_law_ahead" "_law_ahead" (defArgs s_law_ahead) (defBody s_law_ahead) (defScope s_law_ahead) .none kV18 dc18 pm18 an18 cd18 ct18), sl18⟩) (c18 : PySem.W.codeIn K cd18 "_law_ahead" = true) (k18 : PySem.W.keepIn K (.ref f18) = true)
    (a19 : PySem.W.nsIn K mainGlobals "law" = some (some (.ref f19))) (l19 : K.lookup f19 = some ⟨oc19, od19, .func (PySem.W.fnOf "law" "law" (defArgs s_law) (defBody s_law) (defScope s_law) .none kV19 dc19 pm19 an19 cd19 ct19), sl19⟩) (c19 : PySem.W.codeIn K cd19 "law" = true) (k19 : PySem.W.keepIn K (.ref f19) = true)
    (g_MOST_THINGS : PySem.W.nsIn K mainGlobals "MOST_THINGS" = some (some (.int 12 tk_MOST_THINGS)))
    (g_MOST_POLLED : PySem.W.nsIn K mainGlobals "MOST_POLLED" = some (some (.int 20 tk_MOST_POLLED)))
    (z_ValueError : PySem.W.nsIn K mainGlobals "ValueError" = some none)
    (z_all : PySem.W.nsIn K mainGlobals "all" = some none)
    (z_bool : PySem.W.nsIn K mainGlobals "bool" = some none)
    (z_dict : PySem.W.nsIn K mainGlobals "dict" = some none)
    (z_enumerate : PySem.W.nsIn K mainGlobals "enumerate" = some none)
    (z_int : PySem.W.nsIn K mainGlobals "int" = some none)
    (z_isinstance : PySem.W.nsIn K mainGlobals "isinstance" = some none)
    (z_len : PySem.W.nsIn K mainGlobals "len" = some none)
    (z_list : PySem.W.nsIn K mainGlobals "list" = some none)
    (z_max : PySem.W.nsIn K mainGlobals "max" = some none)
    (z_min : PySem.W.nsIn K mainGlobals "min" = some none)
    (z_range : PySem.W.nsIn K mainGlobals "range" = some none)
    (z_sorted : PySem.W.nsIn K mainGlobals "sorted" = some none)
    (z_sum : PySem.W.nsIn K mainGlobals "sum" = some none)
    (z_tuple : PySem.W.nsIn K mainGlobals "tuple" = some none)
    : ∃ fd : FuncData, (∀ (s : Shared) (v : Value), BindsTo s fd ⟨[v], []⟩ [("script", v)]) ∧ ∀ base : Heap, K.In base → base.Ns mainGlobals mg → FnOk l.prog w K mg base CX0 12 fa fd ["script"] (spLaw K) := by
  have e := hfa.symm.trans (PySem.W.mg_of X G a19)
  cases e
  have F0 := fun_mk (st := s_is_whole) l0 c0 k0
  have F1 := fun_mk (st := s_is_order) l1 c1 k1
  have F2 := fun_mk (st := s_is_order_list) l2 c2 k2
  have F3 := fun_mk (st := s_places_in) l3 c3 k3
  have F4 := fun_mk (st := s_check_poll) l4 c4 k4
  have F5 := fun_mk (st := s_counts_ahead) l5 c5 k5
  have F6 := fun_mk (st := s_pairs_ahead) l6 c6 k6
  have F7 := fun_mk (st := s_pair_sum) l7 c7 k7
  have F8 := fun_mk (st := s_law_cell_at) l8 c8 k8
  have F9 := fun_mk (st := s_law_stir) l9 c9 k9
  have F10 := fun_mk (st := s_law_deck) l10 c10 k10
  have F11 := fun_mk (st := s_law_next) l11 c11 k11
  have F12 := fun_mk (st := s_law_order) l12 c12 k12
  have F13 := fun_mk (st := s_law_near) l13 c13 k13
  have F14 := fun_mk (st := s_law_poll) l14 c14 k14
  have F15 := fun_mk (st := s_law_places) l15 c15 k15
  have F16 := fun_mk (st := s_law_whole) l16 c16 k16
  have F17 := fun_mk (st := s_law_copied) l17 c17 k17
  have F18 := fun_mk (st := s_law_ahead) l18 c18 k18
  have F19 := fun_mk (st := s_law) l19 c19 k19
  have T_is_whole : Df K mg "is_whole" s_is_whole ["thing"] f0 _ := ⟨F0, F0.binds (ps := ["thing"]) (fun _ _ _ _ _ _ us hl => match us, hl with | [_], _ => rfl), PySem.W.mg_of X G a0⟩
  have T_is_order : Df K mg "is_order" s_is_order ["thing"] f1 _ := ⟨F1, F1.binds (ps := ["thing"]) (fun _ _ _ _ _ _ us hl => match us, hl with | [_], _ => rfl), PySem.W.mg_of X G a1⟩
  have T_is_order_list : Df K mg "is_order_list" s_is_order_list ["thing"] f2 _ := ⟨F2, F2.binds (ps := ["thing"]) (fun _ _ _ _ _ _ us hl => match us, hl with | [_], _ => rfl), PySem.W.mg_of X G a2⟩
  have T_places_in : Df K mg "places_in" s_places_in ["order"] f3 _ := ⟨F3, F3.binds (ps := ["order"]) (fun _ _ _ _ _ _ us hl => match us, hl with | [_], _ => rfl), PySem.W.mg_of X G a3⟩
  have T_check_poll : Df K mg "check_poll" s_check_poll ["thing"] f4 _ := ⟨F4, F4.binds (ps := ["thing"]) (fun _ _ _ _ _ _ us hl => match us, hl with | [_], _ => rfl), PySem.W.mg_of X G a4⟩
  have T_counts_ahead : Df K mg "counts_ahead" s_counts_ahead ["poll"] f5 _ := ⟨F5, F5.binds (ps := ["poll"]) (fun _ _ _ _ _ _ us hl => match us, hl with | [_], _ => rfl), PySem.W.mg_of X G a5⟩
  have T_pairs_ahead : Df K mg "pairs_ahead" s_pairs_ahead ["poll"] f6 _ := ⟨F6, F6.binds (ps := ["poll"]) (fun _ _ _ _ _ _ us hl => match us, hl with | [_], _ => rfl), PySem.W.mg_of X G a6⟩
  have T_pair_sum : Df K mg "pair_sum" s_pair_sum ["poll"] f7 _ := ⟨F7, F7.binds (ps := ["poll"]) (fun _ _ _ _ _ _ us hl => match us, hl with | [_], _ => rfl), PySem.W.mg_of X G a7⟩
  have T__law_cell_at : Df K mg "_law_cell_at" s_law_cell_at ["script", "k"] f8 _ := ⟨F8, F8.binds (ps := ["script", "k"]) (fun _ _ _ _ _ _ us hl => match us, hl with | [_, _], _ => rfl), PySem.W.mg_of X G a8⟩
  have T__law_stir : Df K mg "_law_stir" s_law_stir ["cell", "k"] f9 _ := ⟨F9, F9.binds (ps := ["cell", "k"]) (fun _ _ _ _ _ _ us hl => match us, hl with | [_, _], _ => rfl), PySem.W.mg_of X G a9⟩
  have T__law_deck : Df K mg "_law_deck" s_law_deck ["cell", "many"] f10 _ := ⟨F10, F10.binds (ps := ["cell", "many"]) (fun _ _ _ _ _ _ us hl => match us, hl with | [_, _], _ => rfl), PySem.W.mg_of X G a10⟩
  have T__law_next : Df K mg "_law_next" s_law_next ["deck"] f11 _ := ⟨F11, F11.binds (ps := ["deck"]) (fun _ _ _ _ _ _ us hl => match us, hl with | [_], _ => rfl), PySem.W.mg_of X G a11⟩
  have T__law_order : Df K mg "_law_order" s_law_order ["deck", "n"] f12 _ := ⟨F12, F12.binds (ps := ["deck", "n"]) (fun _ _ _ _ _ _ us hl => match us, hl with | [_, _], _ => rfl), PySem.W.mg_of X G a12⟩
  have T__law_near : Df K mg "_law_near" s_law_near ["deck", "order"] f13 _ := ⟨F13, F13.binds (ps := ["deck", "order"]) (fun _ _ _ _ _ _ us hl => match us, hl with | [_, _], _ => rfl), PySem.W.mg_of X G a13⟩
  have T__law_poll : Df K mg "_law_poll" s_law_poll ["deck", "n", "most"] f14 _ := ⟨F14, F14.binds (ps := ["deck", "n", "most"]) (fun _ _ _ _ _ _ us hl => match us, hl with | [_, _, _], _ => rfl), PySem.W.mg_of X G a14⟩
  have T__law_places : Df K mg "_law_places" s_law_places ["order"] f15 _ := ⟨F15, F15.binds (ps := ["order"]) (fun _ _ _ _ _ _ us hl => match us, hl with | [_], _ => rfl), PySem.W.mg_of X G a15⟩
  have T__law_whole : Df K mg "_law_whole" s_law_whole ["thing"] f16 _ := ⟨F16, F16.binds (ps := ["thing"]) (fun _ _ _ _ _ _ us hl => match us, hl with | [_], _ => rfl), PySem.W.mg_of X G a16⟩
  have T__law_copied : Df K mg "_law_copied" s_law_copied ["orders"] f17 _ := ⟨F17, F17.binds (ps := ["orders"]) (fun _ _ _ _ _ _ us hl => match us, hl with | [_], _ => rfl), PySem.W.mg_of X G a17⟩
  have T__law_ahead : Df K mg "_law_ahead" s_law_ahead ["poll"] f18 _ := ⟨F18, F18.binds (ps := ["poll"]) (fun _ _ _ _ _ _ us hl => match us, hl with | [_], _ => rfl), PySem.W.mg_of X G a18⟩
  have B : Bi mg := ⟨PySem.W.mg_none_of X G z_ValueError, PySem.W.mg_none_of X G z_all, PySem.W.mg_none_of X G z_bool, PySem.W.mg_none_of X G z_dict, PySem.W.mg_none_of X G z_enumerate, PySem.W.mg_none_of X G z_int, PySem.W.mg_none_of X G z_isinstance, PySem.W.mg_none_of X G z_len, PySem.W.mg_none_of X G z_list, PySem.W.mg_none_of X G z_max, PySem.W.mg_none_of X G z_min, PySem.W.mg_none_of X G z_range, PySem.W.mg_none_of X G z_sorted, PySem.W.mg_none_of X G z_sum, PySem.W.mg_none_of X G z_tuple⟩
  have m_MOST_THINGS := PySem.W.mg_of X G g_MOST_THINGS
  have m_MOST_POLLED := PySem.W.mg_of X G g_MOST_POLLED
  exact ⟨PySem.W.fnOf "law" "law" (defArgs s_law) (defBody s_law) (defScope s_law) .none kV19 dc19 pm19 an19 cd19 ct19, fun s v => .of_eq rfl, fun base _ _ => ok_law F19 T__law_deck T__law_cell_at T__law_next T__law_poll T__law_copied T__law_ahead T_pairs_ahead T_pair_sum T__law_whole (ok_deckN (k := 9) T__law_deck T__law_stir B) (ok_cell (k := 10) T__law_cell_at B) (ok_next (k := 9) T__law_next T__law_stir B) (ok_poll (k := 10) T__law_poll T__law_next (ok_next (k := 8) T__law_next T__law_stir B) T__law_order (ok_orderN (k := 9) T__law_order T__law_next (ok_next (k := 7) T__law_next T__law_stir B) B) T__law_near (ok_nearN (k := 9) T__law_near T__law_next (ok_next (k := 7) T__law_next T__law_stir B) B) B) (ok_copied (k := 10) T__law_copied B) (ok_aheadT (k := 10) T__law_ahead T__law_places (ok_pld (k := 9) T__law_places B) B) (ok_pairs (k := 10) T_pairs_ahead T_check_poll T_counts_ahead (ok_cpoll (k := 9) T_check_poll T_is_order_list (ok_olst (k := 8) T_is_order_list T_is_order (ok_is_order (k := 6) T_is_order T_is_whole B m_MOST_THINGS) B) B m_MOST_POLLED) (ok_ahead (k := 9) T_counts_ahead T_places_in (ok_places (k := 8) T_places_in B) B) B) (ok_psum (k := 10) T_pair_sum T_check_poll T_counts_ahead (ok_cpoll (k := 9) T_check_poll T_is_order_list (ok_olst (k := 8) T_is_order_list T_is_order (ok_is_order (k := 6) T_is_order T_is_whole B m_MOST_THINGS) B) B m_MOST_POLLED) (ok_ahead (k := 9) T_counts_ahead T_places_in (ok_places (k := 8) T_places_in B) B) B) (ok_lwhole (k := 10) T__law_whole B) B⟩
end Fo
open PySem PySem.W PyProof.Rows
set_option maxRecDepth 100000 in
set_option maxHeartbeats 0 in
theorem PySem.Challenge.cw_farorders_k66_pairs_ahead_holds : PySem.Challenge.rw_farorders_k66_pairs_ahead.Holds := by
  w_on; o_law; k_head; (case hw => w_witness2)
  k_fill
  refine L2.walk_of (l := PySem.Challenge.rw_farorders_k66_pairs_ahead) (n := 63) (k := 12) (x := "script") (CX := fun _ => L2.CX0) (sp := fun w => Fo.spLaw _) rfl (by decide) rfl ⟨rfl, by decide, by decide⟩ (fun w h Y => PySem.W.kIn_of Y) ?F (fun _ _ a ns hl _ hS => ⟨a, ns, rfl, hS, hl, fun _ => rfl⟩) (fun _ _ _ _ _ h => h)
  case F =>
    intro w mg fa h KX G hmg
    refine' Fo.all_mk KX G hmg ?a0 ?l0 ?c0 ?k0 ?a1 ?l1 ?c1 ?k1 ?a2 ?l2 ?c2 ?k2 ?a3 ?l3 ?c3 ?k3 ?a4 ?l4 ?c4 ?k4 ?a5 ?l5 ?c5 ?k5 ?a6 ?l6 ?c6 ?k6 ?a7 ?l7 ?c7 ?k7 ?a8 ?l8 ?c8 ?k8 ?a9 ?l9 ?c9 ?k9 ?a10 ?l10 ?c10 ?k10 ?a11 ?l11 ?c11 ?k11 ?a12 ?l12 ?c12 ?k12 ?a13 ?l13 ?c13 ?k13 ?a14 ?l14 ?c14 ?k14 ?a15 ?l15 ?c15 ?k15 ?a16 ?l16 ?c16 ?k16 ?a17 ?l17 ?c17 ?k17 ?a18 ?l18 ?c18 ?k18 ?a19 ?l19 ?c19 ?k19 ?g_MOST_THINGS ?g_MOST_POLLED ?z_ValueError ?z_all ?z_bool ?z_dict ?z_enumerate ?z_int ?z_isinstance ?z_len ?z_list ?z_max ?z_min ?z_range ?z_sorted ?z_sum ?z_tuple
    (case a0 => k_is); (case l0 => k_is); (case c0 => k_is); (case k0 => k_is); (case a1 => k_is); (case l1 => k_is); (case c1 => k_is); (case k1 => k_is); (case a2 => k_is); (case l2 => k_is); (case c2 => k_is); (case k2 => k_is); (case a3 => k_is); (case l3 => k_is); (case c3 => k_is); (case k3 => k_is); (case a4 => k_is); (case l4 => k_is); (case c4 => k_is); (case k4 => k_is); (case a5 => k_is); (case l5 => k_is); (case c5 => k_is); (case k5 => k_is); (case a6 => k_is); (case l6 => k_is); (case c6 => k_is); (case k6 => k_is); (case a7 => k_is); (case l7 => k_is); (case c7 => k_is); (case k7 => k_is); (case a8 => k_is); (case l8 => k_is); (case c8 => k_is); (case k8 => k_is); (case a9 => k_is); (case l9 => k_is); (case c9 => k_is); (case k9 => k_is); (case a10 => k_is); (case l10 => k_is); (case c10 => k_is); (case k10 => k_is); (case a11 => k_is); (case l11 => k_is); (case c11 => k_is); (case k11 => k_is); (case a12 => k_is); (case l12 => k_is); (case c12 => k_is); (case k12 => k_is); (case a13 => k_is); (case l13 => k_is); (case c13 => k_is); (case k13 => k_is); (case a14 => k_is); (case l14 => k_is); (case c14 => k_is); (case k14 => k_is); (case a15 => k_is); (case l15 => k_is); (case c15 => k_is); (case k15 => k_is); (case a16 => k_is); (case l16 => k_is); (case c16 => k_is); (case k16 => k_is); (case a17 => k_is); (case l17 => k_is); (case c17 => k_is); (case k17 => k_is); (case a18 => k_is); (case l18 => k_is); (case c18 => k_is); (case k18 => k_is); (case a19 => k_is); (case l19 => k_is); (case c19 => k_is); (case k19 => k_is); (case g_MOST_THINGS => k_is); (case g_MOST_POLLED => k_is); (case z_ValueError => k_is); (case z_all => k_is); (case z_bool => k_is); (case z_dict => k_is); (case z_enumerate => k_is); (case z_int => k_is); (case z_isinstance => k_is); (case z_len => k_is); (case z_list => k_is); (case z_max => k_is); (case z_min => k_is); (case z_range => k_is); (case z_sorted => k_is); (case z_sum => k_is); (case z_tuple => k_is)

