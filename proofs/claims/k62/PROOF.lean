import PyProof.Rows.All
import Wide.All
import OpenK.AllK
import Wide.FinOn
import HandS.ForMost
import HandS.IsInst
import HandS.Conv
import HandS.Style
import HandS.More
import HandS.Evl
import HandS.Zip
import HandS.SetFor
import HandS.Sort
import HandS.Wide
import HandS.Deep
import KE.SortData
import HandS.GenList
import HandS.AnyAll
import HandS.EndTab
import KE.KUnpackStar
import HandS.Walk
import PySem.Challenge.RW_farorders_k62_whole_bounds_and_lists
set_option Elab.async false
set_option linter.all false
set_option maxRecDepth 100000
namespace Fo
open PySem PySem.Spec PyProof.Rows L2
/-! ### lists and orders -/
def rg (n : Nat) : List Int := (List.range n).map fun k => ((k : Nat) : Int)
def IsOrd (n : Nat) (ns : List Int) : Prop := ns.Perm (rg n)
theorem rg_len (n : Nat) : (rg n).length = n := by
  unfold rg
  rw [List.length_map, List.length_range]
theorem rg_mem {n : Nat} {x : Int} : x ∈ rg n ↔ 0 ≤ x ∧ x < n := by
  unfold rg
  rw [List.mem_map]
  constructor
  · rintro ⟨k, hk, rfl⟩
    have := List.mem_range.mp hk
    omega
  · rintro ⟨h0, h1⟩
    exact ⟨x.toNat, List.mem_range.mpr (by omega), by omega⟩
theorem rg_nodup (n : Nat) : (rg n).Nodup := by
  unfold rg
  exact List.Pairwise.map _ (fun a b h e => h (by omega)) List.nodup_range
theorem rg_sorted (n : Nat) : (rg n).Pairwise (· ≤ ·) := by
  unfold rg
  exact List.Pairwise.map _ (fun a b h => by omega) List.pairwise_lt_range
theorem rg_V (n : Nat) : rgV 0 (n : Int) = (rg n).map V.int := by
  unfold rgV rg
  rw [List.map_map, show ((n : Int) - 0).toNat = n by omega]
  apply List.map_congr_left
  intro a _
  show V.int (0 + (a : Int)) = V.int (a : Int)
  rw [Int.zero_add]
theorem IsOrd.len {n : Nat} {ns : List Int} (h : IsOrd n ns) : ns.length = n := (List.Perm.length_eq h).trans (rg_len n)
theorem IsOrd.mem {n : Nat} {ns : List Int} (h : IsOrd n ns) {x : Int} (m : x ∈ ns) : 0 ≤ x ∧ x < n := rg_mem.mp ((List.Perm.mem_iff h).mp m)
theorem IsOrd.nodup {n : Nat} {ns : List Int} (h : IsOrd n ns) : ns.Nodup := (List.Perm.nodup_iff h).mpr (rg_nodup n)
/-- two sorted lists of the same things are one -/
theorem sorted_eq : ∀ {a b : List Int}, a.Perm b → a.Pairwise (· ≤ ·) → b.Pairwise (· ≤ ·) → a = b := by
  intro a b hp ha hb
  exact List.Perm.eq_of_pairwise (fun x y _ _ h1 h2 => by omega) ha hb hp
/-- the things at p and p + 1 change places -/
def sw (xs : List Int) (p : Nat) : List Int := (xs.set p (xs.getD (p + 1) 0)).set (p + 1) (xs.getD p 0)
theorem split2 : ∀ {xs : List Int} {p : Nat}, p + 1 < xs.length → ∃ A a b B, xs = A ++ a :: b :: B ∧ A.length = p
  | [], p, h => by simp at h
  | [_], p, h => by simp at h
  | a :: b :: r, 0, _ => ⟨[], a, b, r, rfl, rfl⟩
  | a :: b :: r, p + 1, h => by
    obtain ⟨A, x, y, B, e, l⟩ := split2 (xs := b :: r) (p := p) (by simpa using h)
    exact ⟨a :: A, x, y, B, by rw [e]; rfl, by rw [List.length_cons, l]⟩
theorem sw_at : ∀ (A : List Int) (a b : Int) (B : List Int), sw (A ++ a :: b :: B) A.length = A ++ b :: a :: B
  | [], a, b, B => rfl
  | x :: A, a, b, B => by
    have ih := sw_at A a b B
    unfold sw at ih ⊢
    show x :: _ = x :: _
    exact congrArg (x :: ·) ih
theorem sw_perm {xs : List Int} {p : Nat} (h : p + 1 < xs.length) : (sw xs p).Perm xs := by
  obtain ⟨A, a, b, B, rfl, rfl⟩ := split2 h
  rw [sw_at]
  exact List.Perm.append_left A (List.Perm.swap a b B)
theorem sw_len (xs : List Int) (p : Nat) : (sw xs p).length = xs.length := by
  unfold sw
  rw [List.length_set, List.length_set]
theorem sw_ord {n : Nat} {xs : List Int} {p : Nat} (o : IsOrd n xs) (h : p + 1 < n) : IsOrd n (sw xs p) :=
  (sw_perm (by rw [o.len]; exact h)).trans o
theorem sw_V {xs : List Int} {p : Nat} {a b : Int} (ha : xs[p]? = some a) (hb : xs[p + 1]? = some b) : ((xs.map V.int).set p (V.int b)).set (p + 1) (V.int a) = (sw xs p).map V.int := by
  unfold sw
  rw [List.getD_eq_getElem?_getD, List.getD_eq_getElem?_getD, ha, hb, List.map_set, List.map_set]
  rfl
theorem pop_ins {xs : List Int} {p : Nat} {a : Int} (h : p + 1 < xs.length) (ha : xs[p]? = some a) : (xs.eraseIdx p).take (p + 1) ++ [a] ++ (xs.eraseIdx p).drop (p + 1) = sw xs p := by
  obtain ⟨A, x, y, B, rfl, rfl⟩ := split2 h
  have ex : x = a := by
    rw [List.getElem?_append_right (Nat.le_refl _), Nat.sub_self] at ha
    exact Option.some.inj ha
  subst ex
  rw [sw_at, List.eraseIdx_append_of_length_le (Nat.le_refl _), Nat.sub_self]
  show (A ++ y :: B).take (A.length + 1) ++ [x] ++ (A ++ y :: B).drop (A.length + 1) = _
  rw [List.take_append, List.drop_append]
  have t : A.length + 1 - A.length = 1 := by omega
  rw [t, List.take_of_length_le (by omega), List.drop_of_length_le (by omega)]
  simp
/-- the order at a walk's end -/
def wEnd (xs : List Int) (ws : List Int) : List Int := ws.foldl (fun x p => sw x p.toNat) xs
theorem wEnd_more {xs ws : List Int} {i : Nat} {p : Int} (h : ws[i]? = some p) : wEnd xs (ws.take (i + 1)) = sw (wEnd xs (ws.take i)) p.toNat := by
  unfold wEnd
  rw [List.take_add_one, h, List.foldl_append]
  rfl
theorem wEnd_ord {n : Nat} {xs : List Int} (o : IsOrd n xs) : ∀ {ws : List Int}, (∀ p ∈ ws, 0 ≤ p ∧ p + 1 < n) → IsOrd n (wEnd xs ws) := by
  intro ws
  induction ws generalizing xs with
  | nil => intro _; exact o
  | cons p ws ih =>
    intro h
    have hp := h p List.mem_cons_self
    exact ih (sw_ord o (by omega)) fun q hq => h q (List.mem_cons_of_mem _ hq)
theorem nodup_len : ∀ {l m : List Int}, l.Nodup → (∀ x ∈ l, x ∈ m) → l.length ≤ m.length
  | [], m, _, _ => Nat.zero_le _
  | a :: l, m, hn, hs => by
    obtain ⟨h1, h2⟩ := List.nodup_cons.mp hn
    have ha := hs a List.mem_cons_self
    have ih := nodup_len (l := l) (m := m.erase a) h2 fun x hx => by
      have ne : x ≠ a := fun e => h1 (by rw [← e]; exact hx)
      exact (List.mem_erase_of_ne ne).mpr (hs x (List.mem_cons_of_mem _ hx))
    rw [List.length_erase_of_mem ha] at ih
    have : 0 < m.length := List.length_pos_of_mem ha
    rw [List.length_cons]
    omega
theorem int_at {ns : List Int} {i : Nat} {x : Int} (h : ns[i]? = some x) : (ns.map V.int)[i]? = some (V.int x) := by
  rw [List.getElem?_map, h]
  rfl
theorem int_at_inv {ns : List Int} {i : Nat} {v : V} (h : (ns.map V.int)[i]? = some v) : ∃ x, ns[i]? = some x ∧ v = V.int x := by
  rw [List.getElem?_map] at h
  cases e : ns[i]? with
  | none => rw [e] at h; cases h
  | some x => rw [e] at h; exact ⟨x, rfl, (Option.some.inj h).symm⟩
theorem line_small {n : Nat} (h : n ≤ 16777216) : n ≤ sizeLine := by rw [sizeLine_eq]; exact h
theorem line_lt {n : Nat} (h : n < 16777216) : n < sizeLine := by rw [sizeLine_eq]; exact h
/-! ### data of ints -/
theorem dp_ints {K : PySem.W.Frag} {H : Hp} : ∀ ns : List Int, DpAll K H (ns.map V.int) (ns.map PyData.int)
  | [] => .nil
  | n :: r => .cons (.int n) (dp_ints r)
theorem dp_list {K : PySem.W.Frag} {H : Hp} {a : Addr} {ns : List Int} (h : H a = some (.lst (ns.map V.int))) : Dp K H (.ref a) (.list (ns.map PyData.int)) := .lst (SqL.of h) (dp_ints ns)
theorem eqv_int (i j : Int) : PyData.eqv (.int i) (.int j) = (i == j) := rfl
end Fo
namespace Fo
open PySem PySem.Spec PyProof.Rows L2
abbrev dI (ns : List Int) : List PyData := ns.map PyData.int
abbrev dL (ns : List Int) : PyData := .list (dI ns)
abbrev dLL (l : List (List Int)) : PyData := .list (l.map dL)
theorem lay_ints : ∀ ns : List Int, PyData.canLayAll0 (dI ns) = true
  | [] => rfl
  | n :: r => by
    show (PyData.canLay0 (.int n) && PyData.canLayAll0 (dI r)) = true
    rw [lay_ints r]
    rfl
theorem depth_ints : ∀ ns : List Int, PyData.depthAll (dI ns) = 0
  | [] => by simp [PyData.depthAll]
  | n :: r => by
    show PyData.depthAll (.int n :: dI r) = 0
    rw [PyData.depthAll, depth_ints r]
    simp [PyData.depth]
theorem lay_list (ns : List Int) : PyData.canLay0 (dL ns) = true := by
  rw [PyData.canLay0]
  exact lay_ints ns
theorem depth_list (ns : List Int) : PyData.depth (dL ns) = 1 := by
  rw [PyData.depth, depth_ints]
theorem shaped_list (ns : List Int) : SeqAt.shaped (dL ns) = true := by
  unfold SeqAt.shaped
  rw [lay_list, depth_list]
  rfl
theorem lay_lists : ∀ l : List (List Int), PyData.canLayAll0 (l.map dL) = true
  | [] => rfl
  | n :: r => by
    show (PyData.canLay0 (dL n) && PyData.canLayAll0 (r.map dL)) = true
    rw [lay_lists r, lay_list]
    rfl
theorem depth_lists : ∀ l : List (List Int), PyData.depthAll (l.map dL) ≤ 1
  | [] => by simp [PyData.depthAll]
  | n :: r => by
    show PyData.depthAll (dL n :: r.map dL) ≤ 1
    rw [PyData.depthAll, depth_list]
    have := depth_lists r
    omega
theorem shaped_lists (l : List (List Int)) : SeqAt.shaped (dLL l) = true := by
  unfold SeqAt.shaped
  rw [Bool.and_eq_true_iff]
  constructor
  · rw [PyData.canLay0]
    exact lay_lists l
  · apply decide_eq_true
    rw [PyData.depth]
    have := depth_lists l
    omega
theorem eqv_list (ns : List Int) : PyData.eqv (dL ns) (dL ns) = true := SeqAt.eqv_refl _ (lay_list ns)
theorem eqv_lists (l : List (List Int)) : PyData.eqv (dLL l) (dLL l) = true := SeqAt.eqv_refl _ (SeqAt.canLay_of_shaped (shaped_lists l))
theorem eqvAll_ints : ∀ a b : List Int, PyData.eqvAll (dI a) (dI b) = decide (a = b)
  | [], [] => by simp [PyData.eqvAll]
  | [], _ :: _ => by simp [PyData.eqvAll]
  | _ :: _, [] => by simp [PyData.eqvAll]
  | x :: a, y :: b => by
    show PyData.eqvAll (.int x :: dI a) (.int y :: dI b) = _
    rw [PyData.eqvAll, eqvAll_ints a b]
    show ((x == y) && decide (a = b)) = decide (x :: a = y :: b)
    by_cases h : x = y
    · subst h
      simp
    · simp [h]
theorem eqv_ints (a b : List Int) : PyData.eqv (dL a) (dL b) = decide (a = b) := by
  rw [PyData.eqv]
  exact eqvAll_ints a b
end Fo
namespace Fo
open PySem PySem.Spec PyProof.Rows L2
/-! ### slices of ints -/
def cutI (ws : List Int) (lo hi : Option Int) : List Int := (ws.drop (HT.sIx ws.length 0 lo)).take (HT.sIx ws.length ws.length hi - HT.sIx ws.length 0 lo)
theorem cut_ints (ws : List Int) (lo hi : Option Int) : cutV (ws.map V.int) lo hi = (cutI ws lo hi).map V.int := by
  unfold cutV cutI
  rw [List.length_map, List.map_take, List.map_drop]
theorem cutI_mem {ws : List Int} {lo hi : Option Int} {x : Int} (h : x ∈ cutI ws lo hi) : x ∈ ws := List.mem_of_mem_drop (List.mem_of_mem_take h)
theorem cutI_len (ws : List Int) (lo hi : Option Int) : (cutI ws lo hi).length ≤ ws.length := by
  unfold cutI
  rw [List.length_take, List.length_drop]
  omega
theorem cutI_head (ws : List Int) (k : Nat) : cutI ws none (some (k : Int)) = ws.take k := by
  unfold cutI
  rw [HT.sIx_none, HT.sIx_nat, List.drop_zero, Nat.sub_zero]
  by_cases h : k ≤ ws.length
  · rw [Nat.min_eq_left h]
  · rw [Nat.min_eq_right (by omega), List.take_length, List.take_of_length_le (by omega)]
theorem cutI_tail (ws : List Int) (k : Nat) : cutI ws (some (k : Int)) none = ws.drop k := by
  unfold cutI
  rw [HT.sIx_none, HT.sIx_nat]
  by_cases h : k ≤ ws.length
  · rw [Nat.min_eq_left h, List.take_of_length_le (by rw [List.length_drop]; exact Nat.le_refl _)]
  · rw [Nat.min_eq_right (by omega), List.drop_of_length_le (Nat.le_refl _), List.drop_of_length_le (by omega), List.take_nil]
end Fo
namespace Fo
open PySem PySem.Spec PyProof.Rows L2
/-- a loop over enumerate of a list that stands still -/
theorem for_enumL {K : PySem.W.Frag} {a : Addr} {xs : List V} {g : TG} {tb : TS} {D : Ends} {σ : L2.St} {H : Hp} (Pv : Nat → L2.St → Hp → Prop) (h0 : Pv 0 σ H) (hq : ∀ i σ H, Pv i σ H → SqL K H a xs)
    (hs : ∀ (i : Nat) (x : V) (T : Addr) (σ : L2.St) (H : Hp), xs[i]? = some x → Pv i σ H → H T = none → g (.ref T) σ (upd H T (.tup [.int (i : Nat), x])) fun σ2 H2 => tb { D with nx := Pv (i + 1), ct := Pv (i + 1), bk := D.nx } σ2 H2) (hd : ∀ σ H, Pv xs.length σ H → D.nx σ H) :
    ∃ W : Nat → Nat → L2.St → Hp → Prop, (∃ m, W 0 m σ H) ∧ ∀ i m σ H, W i m σ H →
      ((Ite K a).stop i H ∧ D.nx σ H) ∨ ((Ite K a).go i H ∧ ∃ N : L2.St → Hp → Prop, (∀ σ' H', N σ' H' → ∃ m', m' < m ∧ W (i + 1) m' σ' H') ∧ ∀ v H', (Ite K a).yld i H v H' → g v σ H' fun σ2 H2 => tb { D with nx := N, ct := N, bk := D.nx } σ2 H2) := by
  refine ⟨fun i m σ H => m = xs.length - i ∧ i ≤ xs.length ∧ Pv i σ H, ⟨xs.length, rfl, Nat.zero_le _, h0⟩, ?_⟩
  rintro i m σ H ⟨rfl, hi, p⟩
  have qx := hq i σ H p
  by_cases hlt : i < xs.length
  · have hx : xs[i]? = some xs[i] := List.getElem?_eq_getElem hlt
    refine .inr ⟨⟨xs, _, qx, hx⟩, Pv (i + 1), fun σ' H' p' => ⟨xs.length - (i + 1), by omega, rfl, hlt, p'⟩, fun v H' y => ?_⟩
    obtain ⟨T, x', rfl, hT, rfl, f1⟩ := y
    exact hs i x' T σ H (f1 xs qx) p hT
  · have e : i = xs.length := by omega
    subst e
    exact .inl ⟨⟨xs, qx, Nat.le_refl _⟩, hd σ H p⟩
/-- a comprehension over enumerate of a list that stands still -/
theorem lc_enumL {K : PySem.W.Frag} {a : Addr} {xs : List V} {g : TG} {tt : TT} {te : TE} {vs : List Nat} {σ : L2.St} {H1 : Hp} {D : Addr} {Qd : Hp → Prop} (Pv : Nat → Hp → Prop) (h0 : Pv 0 (upd H1 D (.lst []))) (hl : ∀ i H, i ≤ xs.length → Pv i H → SqL K H a xs)
    (hs : ∀ (i : Nat) (x : V) (T : Addr) (H : Hp), xs[i]? = some x → Pv i H → H T = none → g (.ref T) (wipe σ vs) (upd H T (.tup [.int (i : Nat), x])) fun σ2 H2 => wipe σ2 vs = wipe σ vs ∧ tt σ2 H2 fun b H3 =>
      if b = true then te σ2 H3 fun y H4 => ∃ acc, H4 D = some (.lst acc) ∧ acc.length < sizeLine ∧ Pv (i + 1) (upd H4 D (.lst (acc ++ [y]))) else Pv (i + 1) H3) (hd : ∀ H, Pv xs.length H → Qd H) :
    ∃ W : Nat → Nat → Hp → Prop, (∃ m, W 0 m (upd H1 D (.lst []))) ∧ ∀ i m H, W i m H →
      ((Ite K a).stop i H ∧ Qd H) ∨ ((Ite K a).go i H ∧ ∃ Nx : Hp → Prop, (∀ H', Nx H' → ∃ m', m' < m ∧ W (i + 1) m' H') ∧ ∀ x H', (Ite K a).yld i H x H' → g x (wipe σ vs) H' fun σ2 H2 => wipe σ2 vs = wipe σ vs ∧ tt σ2 H2 fun b H3 =>
        if b = true then te σ2 H3 fun y H4 => ∃ acc, H4 D = some (.lst acc) ∧ acc.length < sizeLine ∧ Nx (upd H4 D (.lst (acc ++ [y]))) else Nx H3) := by
  refine ⟨fun i m H => m = xs.length - i ∧ i ≤ xs.length ∧ Pv i H, ⟨xs.length, by simp, Nat.zero_le _, h0⟩, ?_⟩
  rintro i m H ⟨rfl, hi, p⟩
  have q := hl i H hi p
  by_cases hlt : i < xs.length
  · refine .inr ⟨⟨xs, xs[i], q, by simp [hlt]⟩, Pv (i + 1), fun H' p' => ⟨xs.length - (i + 1), by omega, rfl, hlt, p'⟩, fun x H' y => ?_⟩
    obtain ⟨T, x', rfl, hT, rfl, f1⟩ := y
    exact hs i x' T H (f1 xs q) p hT
  · have e : i = xs.length := by omega
    subst e
    exact .inl ⟨⟨xs, q, Nat.le_refl _⟩, hd H p⟩
/-! ### the back of an order -/
def IsBack (ns ps : List Int) : Prop := ps.length = ns.length ∧ ∀ (j : Nat) (x : Int), ns[j]? = some x → ps[x.toNat]? = some (j : Int)
theorem ord_at {n : Nat} {ns : List Int} (o : IsOrd n ns) {t : Nat} (h : t < n) : ∃ j : Nat, j < n ∧ ns[j]? = some (t : Int) := by
  have m : (t : Int) ∈ ns := (List.Perm.mem_iff o).mpr (rg_mem.mpr ⟨by omega, by omega⟩)
  obtain ⟨j, hj⟩ := List.mem_iff_getElem?.mp m
  exact ⟨j, by have := (List.getElem?_eq_some_iff.mp hj).1; rw [o.len] at this; exact this, hj⟩
theorem ord_ix {n : Nat} {ns : List Int} (o : IsOrd n ns) {j : Nat} (h : j < n) : ∃ x : Int, ns[j]? = some x ∧ 0 ≤ x ∧ x < n := by
  have hj : j < ns.length := by rw [o.len]; exact h
  exact ⟨ns[j], List.getElem?_eq_getElem hj, o.mem (List.getElem_mem hj)⟩
theorem back_eq {n : Nat} {ns a b : List Int} (o : IsOrd n ns) (ha : IsBack ns a) (hb : IsBack ns b) : a = b := by
  apply List.ext_getElem?
  intro t
  by_cases h : t < n
  · obtain ⟨j, _, hj⟩ := ord_at o h
    have h1 := ha.2 j _ hj
    have h2 := hb.2 j _ hj
    rw [Int.toNat_natCast] at h1 h2
    rw [h1, h2]
  · rw [List.getElem?_eq_none (by rw [ha.1, o.len]; omega), List.getElem?_eq_none (by rw [hb.1, o.len]; omega)]
def behindL (ns ms : List Int) : List Int := ms.map fun p => ns.getD p.toNat 0
theorem behind_at {ns ms : List Int} {i : Nat} {p x : Int} (hp : ms[i]? = some p) (hx : ns[p.toNat]? = some x) : (behindL ns ms)[i]? = some x := by
  unfold behindL
  rw [List.getElem?_map, hp]
  show some (ns.getD p.toNat 0) = some x
  rw [List.getD_eq_getElem?_getD, hx]
  rfl
theorem behind_len (ns ms : List Int) : (behindL ns ms).length = ms.length := by
  unfold behindL
  rw [List.length_map]
theorem take_more {l : List Int} {i : Nat} {x : Int} (h : l[i]? = some x) : l.take (i + 1) = l.take i ++ [x] := by
  rw [List.take_add_one, h]
  rfl
theorem flat_ints : ∀ ns : List Int, (ns.map V.int).all flatV = true
  | [] => rfl
  | n :: r => by
    show (flatV (V.int n) && (r.map V.int).all flatV) = true
    rw [flat_ints r]
    rfl
theorem eqV_int (i j : Int) : eqV (.int i) (.int j) = (i == j) := rfl
end Fo
namespace Fo
open PySem PySem.Spec PyProof.Rows L2
/-! ### a slice with a step that is reckoned, 1 or -1 -/
theorem pick_one (items : Array Value) : slicePick items none none (some 1) = items := by
  have e : slicePick items none none (some 1) = slicePick items none none none := rfl
  rw [e, PySem.W.kmk_pick_nat (a := 0) (b := items.size) items rfl, List.drop_zero, Nat.sub_zero, ← Array.length_toList, List.take_length]
def tStepL (K : PySem.W.Frag) (te ts : TE) : TE := fun σ H Q => te σ H fun x H1 => ∃ a, x = .ref a ∧ tPart ts σ H1 fun o H2 => ∃ xs, SqL K H2 a xs ∧
  ((o = some 1 ∧ ∀ p, H2 p = none → Q (.ref p) (upd H2 p (.lst xs))) ∨ (o = some (-1) ∧ ∀ p, H2 p = none → Q (.ref p) (upd H2 p (.lst xs.reverse))))
theorem pe_stepL {X : Cx} {e st : Expr} {te ts : TE} {p3 pos : Pos} (he : PE X e te) (hst : PE X st ts)
    (hsub : ∀ u : Value, ∀ r : Addr, subscripted (.Slice none none (some st) p3) false u (.ref r) = operate [u, .ref r] (getItem u (.ref r)) := by intro _ _; with_unfolding_all rfl) : PE X (.Subscript e (.Slice none none (some st) p3) pos) (tStepL X.K te ts) := by
  refine ⟨fun pins s σ H Q I h => ?_⟩
  refine Subscript_ (thn (he.run pins s σ H _ I h) fun v s1 z1 => ?_)
  obtain ⟨x, H1, I1, r1, a, ex, q1⟩ := z1
  subst ex
  cases r1
  refine wpAny_Slice (thn (po_none.run pins s1 σ H1 (fun o H2 => o = none ∧ H2 = H1) I1 ⟨rfl, rfl⟩) fun vl s2 z2 => ?_)
  obtain ⟨l, H2, I2, pl, el, e2⟩ := z2
  subst el e2
  refine thn (po_none.run pins s2 σ H2 (fun o H3 => o = none ∧ H3 = H2) I2 ⟨rfl, rfl⟩) fun vu s3 z3 => ?_
  obtain ⟨u, H3, I3, pu, eu, e3⟩ := z3
  subst eu e3
  refine thn ((po_some hst).run pins s3 σ H3 _ I3 q1) fun vs s4 z4 => ?_
  obtain ⟨o, H4, I4, ps, xs, hx, q⟩ := z4
  have I5 : Inv X pins σ H4 { s4 with heap := s4.heap.push { cls := .type "slice", data := .fields #[vl, vu, vs] } } := I4.kept (t' := s4.toks) fun b ob w => Heap.get?_push_of_some _ w
  obtain ⟨its, r, ht, hz⟩ := I5.list hx
  have hlen := r.length
  show wpAny (model X.prog X.w) X.A (subscriptTail e (.Slice none none (some st) p3) (.ref a) (.ref s4.heap.objs.size)) (EP X pins σ Q) X.xe _
  refine tail_any (ops := [.ref a, .ref s4.heap.objs.size]) ht.isList.typeIs (PySem.slot_list_getitem.lookup) ?_ (hsub _ _)
  rcases q with ⟨eo, q⟩ | ⟨eo, q⟩
  · subst eo
    refine wpAny_getItem_list_slice ht.isList (Heap.IsSliceOf.new _ vl vu vs) pl pu ps (by decide) ?_ (by rw [List.size_toArray]; omega)
    rw [pick_one]
    refine ⟨.ref _, _, I5.laid (t' := s4.toks) (o := .lst xs) (fun b ob w => Heap.get?_push_of_some _ w) (Nat.le_refl _) ?_, rfl, q _ (I5.hok.fresh (Nat.le_refl _))⟩
    exact ⟨hz, _, 0, r, Heap.get?_push_size _ rfl⟩
  · subst eo
    refine wpAny_getItem_list_slice ht.isList (Heap.IsSliceOf.new _ vl vu vs) pl pu ps (by decide) ?_ (by rw [List.size_toArray]; omega)
    rw [PySem.W.krv_pick]
    refine ⟨.ref _, _, I5.laid (t' := s4.toks) (o := .lst xs.reverse) (fun b ob w => Heap.get?_push_of_some _ w) (Nat.le_refl _) ?_, rfl, q _ (I5.hok.fresh (Nat.le_refl _))⟩
    exact ⟨by rw [List.length_reverse]; exact hz, _, 0, r.reverse, Heap.get?_push_size _ rfl⟩
end Fo
namespace Fo
open PySem PySem.Spec PyProof.Rows L2
/-! ### the text -/
def topS (i : Nat) : Stmt := PySem.Challenge.pw_farorders_k62_whole_bounds_and_lists.main.body.getD i (.Pass ⟨0, 0, 0, 0⟩)
abbrev s_OrderError : Stmt := topS 1
abbrev s_NoWay : Stmt := topS 2
abbrev s_NoNumber : Stmt := topS 3
abbrev s_TooMany : Stmt := topS 4
abbrev s_is_whole : Stmt := topS 7
abbrev s_check_way : Stmt := topS 8
abbrev s_check_from : Stmt := topS 9
abbrev s_check_size : Stmt := topS 10
abbrev s_check_apart : Stmt := topS 11
abbrev s_places_in : Stmt := topS 16
abbrev s_seats_in : Stmt := topS 17
abbrev s_known_far : Stmt := topS 18
abbrev s_far_by_swap : Stmt := topS 19
abbrev s_far_by_spot : Stmt := topS 20
abbrev s_far_by_shift : Stmt := topS 21
abbrev s_all_orders : Stmt := topS 22
abbrev s_orders_with : Stmt := topS 23
abbrev s_count_orders : Stmt := topS 24
abbrev s_is_far : Stmt := topS 28
abbrev s_longest_apart : Stmt := topS 29
abbrev s_longest_from : Stmt := topS 30
abbrev s_far_ones : Stmt := topS 31
abbrev s_first_apart : Stmt := topS 32
abbrev s_is_near : Stmt := topS 33
abbrev s_first_parting : Stmt := topS 34
abbrev s_first_near : Stmt := topS 35
abbrev s_count_within : Stmt := topS 37
abbrev s_check_count : Stmt := topS 38
abbrev s_known_within : Stmt := topS 39
abbrev s_swap_counts : Stmt := topS 40
abbrev s_swap_counts_with_one_more : Stmt := topS 41
abbrev s_spot_counts : Stmt := topS 42
abbrev s_count_all_moved : Stmt := topS 43
abbrev s_shift_within : Stmt := topS 44
abbrev s_things_near : Stmt := topS 45
abbrev s_one_place_further : Stmt := topS 46
abbrev s_bounds_by_rounds : Stmt := topS 48
abbrev s_most_by_places : Stmt := topS 49
abbrev s_best_bound : Stmt := topS 50
abbrev s_check_many : Stmt := topS 52
abbrev s_even_orders : Stmt := topS 53
abbrev s_ring_orders : Stmt := topS 54
abbrev s_law_pool : Stmt := topS 56
abbrev s_law_take : Stmt := topS 57
abbrev s_law_far : Stmt := topS 58
abbrev s_law_many : Stmt := topS 59
abbrev s_law_ways : Stmt := topS 60
abbrev s_law_lists_right : Stmt := topS 61
abbrev s_law_farther_right : Stmt := topS 62
abbrev s_law_made_right : Stmt := topS 63
abbrev s_law : Stmt := topS 64
/-- a def of the text, where it stands -/
structure Df (K : PySem.W.Frag) (mg : Str → Option Value) (x : Str) (st : Stmt) (ps : List Str) (f : Addr) (fd : FuncData) : Prop where
  F : Fun K x x st f fd
  b : Binds K fd ps []
  g : mg x = some (.ref f)
/-- the built-in names as they were -/
structure Bi (mg : Str → Option Value) : Prop where
  ValueError : mg "ValueError" = none
  abs : mg "abs" = none
  all : mg "all" = none
  bool : mg "bool" = none
  enumerate : mg "enumerate" = none
  int : mg "int" = none
  isinstance : mg "isinstance" = none
  len : mg "len" = none
  list : mg "list" = none
  max : mg "max" = none
  min : mg "min" = none
  range : mg "range" = none
  sorted : mg "sorted" = none
  str : mg "str" = none
  sum : mg "sum" = none
end Fo
namespace Fo
open PySem PySem.Spec PyProof.Rows L2
theorem same_new {H : Hp} {p : Addr} {o : HO} (h : H p = none) : Same H (upd H p o) := fun b x e => by
  rw [upd_ne (ne_of_none e h)]
  exact e
theorem at2_0 {x y : V} : atI [x, y] 0 = some x := rfl
theorem at2_1 {x y : V} : atI [x, y] 1 = some y := rfl
end Fo
namespace Fo
open PySem PySem.Spec PyProof.Rows L2
theorem pop_perm : ∀ {xs : List Int} {k : Nat} {y : Int}, xs[k]? = some y → (y :: xs.eraseIdx k).Perm xs
  | [], k, y, h => by simp at h
  | a :: r, 0, y, h => by
    have e : a = y := Option.some.inj h
    subst e
    exact List.Perm.refl _
  | a :: r, k + 1, y, h => by
    have ih := pop_perm (xs := r) (k := k) (y := y) h
    show (y :: a :: r.eraseIdx k).Perm (a :: r)
    exact (List.Perm.swap a y _).trans (List.Perm.cons a ih)
theorem map_erase : ∀ (xs : List Int) (k : Nat), (xs.map V.int).eraseIdx k = (xs.eraseIdx k).map V.int
  | [], k => rfl
  | a :: r, 0 => rfl
  | a :: r, k + 1 => congrArg (V.int a :: ·) (map_erase r k)
/-- what len asks of a list or a tuple -/
abbrev rLenS (K : PySem.W.Frag) : List V → Hp → VK → Prop := fun xs H Q => ∃ p ys, xs = [.ref p] ∧ (SqL K H p ys ∨ SqT K H p ys) ∧ Q (.int ys.length) H
theorem seq_ix {i : Int} {k n : Nat} (e : i = (k : Int)) (h : k < n) : seqIndex? i n = some k := by
  subst e
  unfold seqIndex?
  have h1 : ¬ ((k : Int) < 0) := by omega
  simp only [h1, if_false]
  have h2 : (decide ((0 : Int) ≤ (k : Int)) && decide ((k : Int) < (n : Int))) = true := by
    simp
    omega
  rw [if_pos h2, Int.toNat_natCast]
theorem ix_n {i : Int} {k n : Nat} (e : i = (k : Int)) (h : k < n) : ixN n i = some k := by
  subst e
  unfold ixN
  rw [if_pos (by omega), if_pos (by omega), Int.toNat_natCast]
end Fo
namespace Fo
open PySem PySem.Spec PyProof.Rows L2
abbrev rMax2 : List V → Hp → VK → Prop := fun xs H Q => ∃ i j, xs = [.int i, .int j] ∧ Q (.int (if j > i then j else i)) H
abbrev rMin2 : List V → Hp → VK → Prop := fun xs H Q => ∃ i j, xs = [.int i, .int j] ∧ Q (.int (if j < i then j else i)) H
abbrev rInt1 : List V → Hp → VK → Prop := fun xs H Q => (∃ i, xs = [.int i] ∧ Q (.int i) H) ∨ ∃ k, xs = [.bl k] ∧ Q (.int (if k then 1 else 0)) H
theorem filter_more {l : List Int} {m : Nat} {x : Int} (p : Int → Bool) (h : l[m]? = some x) : (l.take (m + 1)).filter p = (l.take m).filter p ++ (if p x then [x] else []) := by
  rw [List.take_add_one, h, List.filter_append]
  show _ ++ List.filter p [x] = _
  rw [List.filter_cons]
  rfl
end Fo
namespace Fo
open PySem PySem.Spec PyProof.Rows L2
/-! ### lists of lists -/
def LL (H : Hp) : List Addr → List (List Int) → Prop
  | [], [] => True
  | a :: as, r :: rs => H a = some (.lst (r.map V.int)) ∧ LL H as rs
  | _, _ => False
theorem LL.len {H : Hp} : ∀ {as : List Addr} {rs : List (List Int)}, LL H as rs → as.length = rs.length
  | [], [], _ => rfl
  | [], _ :: _, h => h.elim
  | _ :: _, [], h => h.elim
  | a :: as, r :: rs, h => by rw [List.length_cons, List.length_cons, LL.len h.2]
theorem LL.keep {H H' : Hp} : ∀ {as : List Addr} {rs : List (List Int)}, LL H as rs → (∀ a ∈ as, ∀ o, H a = some o → H' a = some o) → LL H' as rs
  | [], [], _, _ => trivial
  | [], _ :: _, h, _ => h.elim
  | _ :: _, [], h, _ => h.elim
  | a :: as, r :: rs, h, k => ⟨k a List.mem_cons_self _ h.1, LL.keep h.2 fun b hb => k b (List.mem_cons_of_mem _ hb)⟩
theorem LL.same {H H' : Hp} {as : List Addr} {rs : List (List Int)} (h : LL H as rs) (s : Same H H') : LL H' as rs := h.keep fun a _ o e => s a o e
theorem LL.get {H : Hp} : ∀ {as : List Addr} {rs : List (List Int)} {i : Nat} {a : Addr}, LL H as rs → as[i]? = some a → ∃ r, rs[i]? = some r ∧ H a = some (.lst (r.map V.int))
  | [], [], _, _, _, e => by simp at e
  | [], _ :: _, _, _, h, _ => h.elim
  | _ :: _, [], _, _, h, _ => h.elim
  | a :: as, r :: rs, 0, b, h, e => by
    have e2 : a = b := Option.some.inj e
    subst e2
    exact ⟨r, rfl, h.1⟩
  | a :: as, r :: rs, i + 1, b, h, e => LL.get (i := i) h.2 e
theorem LL.tracked {H : Hp} {as : List Addr} {rs : List (List Int)} (h : LL H as rs) {a : Addr} (ha : a ∈ as) : ∃ o, H a = some o := by
  obtain ⟨i, hi⟩ := List.mem_iff_getElem?.mp ha
  obtain ⟨r, _, e⟩ := h.get hi
  exact ⟨_, e⟩
theorem LL.snoc {H : Hp} : ∀ {as : List Addr} {rs : List (List Int)} {a : Addr} {r : List Int}, LL H as rs → H a = some (.lst (r.map V.int)) → LL H (as ++ [a]) (rs ++ [r])
  | [], [], _, _, _, e => ⟨e, trivial⟩
  | [], _ :: _, _, _, h, _ => h.elim
  | _ :: _, [], _, _, h, _ => h.elim
  | b :: as, s :: rs, _, _, h, e => ⟨h.1, LL.snoc h.2 e⟩
theorem LL.drop {H : Hp} : ∀ {as : List Addr} {rs : List (List Int)} (k : Nat), LL H as rs → LL H (as.drop k) (rs.drop k)
  | as, rs, 0, h => h
  | [], [], k + 1, _ => trivial
  | [], _ :: _, _ + 1, h => h.elim
  | _ :: _, [], _ + 1, h => h.elim
  | _ :: as, _ :: rs, k + 1, h => LL.drop k h.2
theorem dp_LL {K : PySem.W.Frag} {H : Hp} : ∀ {as : List Addr} {rs : List (List Int)}, LL H as rs → DpAll K H (as.map V.ref) (rs.map dL)
  | [], [], _ => .nil
  | [], _ :: _, h => h.elim
  | _ :: _, [], h => h.elim
  | _ :: _, _ :: _, h => .cons (dp_list h.1) (dp_LL h.2)
theorem dp_lists {K : PySem.W.Frag} {H : Hp} {l : Addr} {as : List Addr} {rs : List (List Int)} (hl : H l = some (.lst (as.map V.ref))) (h : LL H as rs) : Dp K H (.ref l) (dLL rs) := .lst (SqL.of hl) (dp_LL h)
theorem ref_at {as : List Addr} {i : Nat} {a : Addr} (h : as[i]? = some a) : (as.map V.ref)[i]? = some (V.ref a) := by
  rw [List.getElem?_map, h]
  rfl
theorem ref_at_inv {as : List Addr} {i : Nat} {v : V} (h : (as.map V.ref)[i]? = some v) : ∃ a, as[i]? = some a ∧ v = V.ref a := by
  rw [List.getElem?_map] at h
  cases e : as[i]? with
  | none => rw [e] at h; cases h
  | some x => rw [e] at h; exact ⟨x, rfl, (Option.some.inj h).symm⟩
theorem cutV_tail (xs : List V) (k : Nat) : cutV xs (some (k : Int)) none = xs.drop k := by
  unfold cutV
  rw [HT.sIx_none, HT.sIx_nat]
  by_cases h : k ≤ xs.length
  · rw [Nat.min_eq_left h, List.take_of_length_le (by rw [List.length_drop]; exact Nat.le_refl _)]
  · rw [Nat.min_eq_right (by omega), List.drop_of_length_le (Nat.le_refl _), List.drop_of_length_le (by omega), List.take_nil]
end Fo
namespace Fo
open PySem PySem.Spec PyProof.Rows L2
/-! ### sums -/
def ind (b : Bool) : Nat := if b then 1 else 0
def sumN (l : List Int) (f : Int → Nat) : Nat := (l.map f).sum
theorem sumN_nil (f : Int → Nat) : sumN [] f = 0 := rfl
theorem sumN_cons (a : Int) (l : List Int) (f : Int → Nat) : sumN (a :: l) f = f a + sumN l f := by
  unfold sumN
  rw [List.map_cons, List.sum_cons]
theorem sumN_append (l m : List Int) (f : Int → Nat) : sumN (l ++ m) f = sumN l f + sumN m f := by
  unfold sumN
  rw [List.map_append, List.sum_append]
theorem sumN_perm {l m : List Int} (h : l.Perm m) (f : Int → Nat) : sumN l f = sumN m f := by
  induction h with
  | nil => rfl
  | cons x _ ih => rw [sumN_cons, sumN_cons, ih]
  | swap x y l => rw [sumN_cons, sumN_cons, sumN_cons, sumN_cons]; omega
  | trans _ _ h1 h2 => exact h1.trans h2
theorem sumN_congr {l : List Int} {f g : Int → Nat} (h : ∀ x ∈ l, f x = g x) : sumN l f = sumN l g := by
  unfold sumN
  rw [List.map_congr_left h]
theorem sumN_map (l : List Int) (g : Int → Int) (f : Int → Nat) : sumN (l.map g) f = sumN l (fun x => f (g x)) := by
  unfold sumN
  rw [List.map_map]
  rfl
theorem sumN_zero {l : List Int} {f : Int → Nat} (h : ∀ x ∈ l, f x = 0) : sumN l f = 0 := by
  rw [sumN_congr h]
  induction l with
  | nil => rfl
  | cons a l ih => rw [sumN_cons, ih fun x hx => h x (List.mem_cons_of_mem _ hx)]
theorem sumN_add (l : List Int) (f g : Int → Nat) : sumN l (fun x => f x + g x) = sumN l f + sumN l g := by
  induction l with
  | nil => rfl
  | cons a l ih => rw [sumN_cons, sumN_cons, sumN_cons, ih]; omega
theorem sumN_swap (l m : List Int) (f : Int → Int → Nat) : sumN l (fun i => sumN m (fun j => f i j)) = sumN m (fun j => sumN l (fun i => f i j)) := by
  induction l with
  | nil => exact (sumN_zero fun x _ => rfl).symm
  | cons a l ih =>
    rw [sumN_cons, ih, ← sumN_add]
    exact sumN_congr fun x _ => by rw [sumN_cons]
theorem filter_len (l : List Int) (p : Int → Bool) : (l.filter p).length = sumN l (fun x => ind (p x)) := by
  induction l with
  | nil => rfl
  | cons a l ih =>
    rw [sumN_cons, List.filter_cons]
    unfold ind at ih ⊢
    cases p a
    · simp only [Bool.false_eq_true, if_false]; omega
    · simp only [if_true, List.length_cons]; omega
/-! ### a list by its places -/
def g0 (s : List Int) (i : Int) : Int := s.getD i.toNat 0
theorem g0_at {s : List Int} {i : Nat} {x : Int} (h : s[i]? = some x) : g0 s (i : Int) = x := by
  unfold g0
  rw [Int.toNat_natCast, List.getD_eq_getElem?_getD, h]
  rfl
theorem by_places (s : List Int) : s = (rg s.length).map (g0 s) := by
  apply List.ext_getElem?
  intro i
  unfold rg
  rw [List.getElem?_map, List.getElem?_map]
  by_cases h : i < s.length
  · rw [List.getElem?_range h, List.getElem?_eq_getElem h]
    show some s[i] = some (g0 s (i : Int))
    rw [g0_at (List.getElem?_eq_getElem h)]
  · rw [List.getElem?_eq_none (by omega), List.getElem?_eq_none (by rw [List.length_range]; omega)]
    rfl
theorem rg_succ (n : Nat) : rg (n + 1) = rg n ++ [(n : Int)] := by
  unfold rg
  rw [List.range_succ, List.map_append]
  rfl
/-- how many of the later ones are less -/
def cntL (s : List Int) (i : Nat) : Nat := ((s.drop (i + 1)).filter (fun x => decide (x < g0 s i))).length
def invF (n : Nat) (a : Int → Int) : Nat := sumN (rg n) fun i => sumN (rg n) fun j => ind (decide (i < j) && decide (a j < a i))
def invN (s : List Int) : Nat := sumN (rg s.length) fun i => cntL s i.toNat
theorem drop_sum (n i : Nat) (f : Int → Nat) : sumN ((rg n).drop (i + 1)) f = sumN (rg n) fun j => if (i : Int) < j then f j else 0 := by
  induction n with
  | zero => rfl
  | succ n ih =>
    rw [rg_succ, sumN_append, ← ih, List.drop_append, sumN_append, rg_len]
    congr 1
    by_cases h : i + 1 ≤ n
    · rw [show i + 1 - n = 0 by omega, List.drop_zero, sumN_cons, sumN_cons, sumN_nil, sumN_nil, if_pos (by omega)]
    · rw [show i + 1 - n = (i - n) + 1 by omega, List.drop_succ_cons, List.drop_nil, sumN_cons, sumN_nil, sumN_nil, if_neg (by omega)]
theorem cnt_sum (s : List Int) (i : Nat) : cntL s i = sumN (rg s.length) fun j => ind (decide ((i : Int) < j) && decide (g0 s j < g0 s i)) := by
  unfold cntL
  rw [filter_len]
  have e : s.drop (i + 1) = ((rg s.length).drop (i + 1)).map (g0 s) := by
    rw [List.map_drop, ← by_places]
  rw [e, sumN_map, drop_sum]
  apply sumN_congr
  intro j _
  unfold ind
  by_cases h : (i : Int) < j
  · simp [h]
  · simp [h]
theorem inv_eq (s : List Int) : invN s = invF s.length (g0 s) := by
  unfold invN invF
  apply sumN_congr
  intro i hi
  have := rg_mem.mp hi
  rw [cnt_sum, Int.toNat_of_nonneg this.1]
/-! ### places of things -/
def pos (ys : List Int) (x : Int) : Int := ((ys.idxOf x : Nat) : Int)
def seatsL (xs ys : List Int) : List Int := xs.map (pos ys)
theorem pos_of {n : Nat} {ys : List Int} (o : IsOrd n ys) {j : Nat} {x : Int} (h : ys[j]? = some x) : pos ys x = (j : Int) := by
  obtain ⟨hj, e⟩ := List.getElem?_eq_some_iff.mp h
  have m : x ∈ ys := List.mem_of_getElem? h
  have hi : ys.idxOf x < ys.length := List.idxOf_lt_length_iff.mpr m
  have h2 : ys[ys.idxOf x]? = some x := by
    rw [List.getElem?_eq_getElem hi]
    exact congrArg some (List.getElem_idxOf hi)
  unfold pos
  rw [nd_ix o.nodup h2 h]
theorem pos_at {n : Nat} {ys : List Int} (o : IsOrd n ys) {x : Int} (h0 : 0 ≤ x) (h1 : x < n) : ∃ j : Nat, j < n ∧ ys[j]? = some x ∧ pos ys x = (j : Int) := by
  obtain ⟨j, hj, e⟩ := ord_at o (t := x.toNat) (by omega)
  rw [Int.toNat_of_nonneg h0] at e
  exact ⟨j, hj, e, pos_of o e⟩
theorem back_pos {n : Nat} {ys ps : List Int} (o : IsOrd n ys) (h : IsBack ys ps) {x : Int} (h0 : 0 ≤ x) (h1 : x < n) : ps[x.toNat]? = some (pos ys x) := by
  obtain ⟨j, hj, e, ep⟩ := pos_at o h0 h1
  rw [ep]
  exact h.2 j x e
theorem seats_len (xs ys : List Int) : (seatsL xs ys).length = xs.length := by
  unfold seatsL
  rw [List.length_map]
theorem seats_at {xs ys : List Int} {i : Nat} {x : Int} (h : xs[i]? = some x) : (seatsL xs ys)[i]? = some (pos ys x) := by
  unfold seatsL
  rw [List.getElem?_map, h]
  rfl
theorem seats_self {n : Nat} {ys : List Int} (o : IsOrd n ys) : seatsL ys ys = rg n := by
  apply List.ext_getElem?
  intro i
  by_cases h : i < n
  · obtain ⟨x, hx, _⟩ := ord_ix o h
    rw [seats_at hx, pos_of o hx]
    unfold rg
    rw [List.getElem?_map, List.getElem?_range h]
    rfl
  · rw [List.getElem?_eq_none (by rw [seats_len, o.len]; omega), List.getElem?_eq_none (by rw [rg_len]; omega)]
theorem seats_ord {n : Nat} {xs ys : List Int} (ox : IsOrd n xs) (oy : IsOrd n ys) : IsOrd n (seatsL xs ys) := by
  have h : (seatsL xs ys).Perm (seatsL ys ys) := List.Perm.map _ (ox.trans oy.symm)
  rw [seats_self oy] at h
  exact h
theorem g0_ord {n : Nat} {s : List Int} (o : IsOrd n s) : s = (rg n).map (g0 s) := by
  have e := by_places s
  rw [o.len] at e
  exact e
/-- inversions from the other side -/
theorem inv_turn {n : Nat} {s t : List Int} (os : IsOrd n s) (ot : IsOrd n t) (h : ∀ u ∈ rg n, g0 s (g0 t u) = u) : invN s = invN t := by
  rw [inv_eq, inv_eq, os.len, ot.len]
  unfold invF
  have p1 : ∀ f : Int → Nat, sumN (rg n) f = sumN (rg n) fun u => f (g0 t u) := fun f => by
    have e : sumN ((rg n).map (g0 t)) f = sumN (rg n) fun u => f (g0 t u) := sumN_map _ _ _
    rw [← e, ← g0_ord ot]
    exact (sumN_perm ot f).symm
  rw [p1]
  rw [sumN_congr (g := fun u => sumN (rg n) fun v => ind (decide (g0 t u < g0 t v) && decide (v < u))) (fun u hu => by
    rw [p1]
    exact sumN_congr fun v hv => by rw [h u hu, h v hv])]
  rw [sumN_swap]
  apply sumN_congr
  intro v _
  apply sumN_congr
  intro u _
  rw [Bool.and_comm]
theorem seats_turn {n : Nat} {xs ys : List Int} (ox : IsOrd n xs) (oy : IsOrd n ys) : ∀ u ∈ rg n, g0 (seatsL xs ys) (g0 (seatsL ys xs) u) = u := by
  intro u hu
  have hb := rg_mem.mp hu
  obtain ⟨y, hy, y0, y1⟩ := ord_ix oy (j := u.toNat) (by omega)
  have e1 : g0 (seatsL ys xs) u = pos xs y := by
    have := g0_at (seats_at (ys := xs) hy)
    rw [Int.toNat_of_nonneg hb.1] at this
    exact this
  obtain ⟨j, hj, ej, pj⟩ := pos_at ox y0 y1
  rw [e1, pj, g0_at (seats_at (ys := ys) ej), pos_of oy hy]
  omega
/-! ### how far two orders are -/
def farSwap (xs ys : List Int) : Int := ((invN (seatsL xs ys) : Nat) : Int)
def spotL (xs ys : List Int) : List Int := (rg xs.length).filter fun p => !decide (g0 xs p = g0 ys p)
def farSpot (xs ys : List Int) : Int := (((spotL xs ys).length : Nat) : Int)
def absI (i : Int) : Int := if i < 0 then -i else i
def gapsL (xs ys : List Int) : List Int := (rg xs.length).map fun p => absI (p - g0 (seatsL xs ys) p)
def maxL (l : List Int) : Int := l.foldr max 0
def farShift (xs ys : List Int) : Int := maxL (gapsL xs ys)
theorem maxL_of : ∀ {l : List Int} {m : Int}, (∀ x ∈ l, 0 ≤ x) → m ∈ l → (∀ x ∈ l, x ≤ m) → maxL l = m := by
  intro l m h0 hm hle
  have key : ∀ l : List Int, (∀ x ∈ l, x ≤ m) → maxL l ≤ m := by
    intro l hl
    induction l with
    | nil => exact h0 m hm
    | cons a l ih =>
      show max a (maxL l) ≤ m
      have h1 := hl a List.mem_cons_self
      have h2 := ih fun x hx => hl x (List.mem_cons_of_mem _ hx)
      omega
  have key2 : ∀ l : List Int, ∀ x ∈ l, x ≤ maxL l := by
    intro l
    induction l with
    | nil => intro x hx; exact absurd hx List.not_mem_nil
    | cons a l ih =>
      intro x hx
      show x ≤ max a (maxL l)
      rcases List.mem_cons.mp hx with rfl | hx
      · omega
      · have := ih x hx
        omega
  have := key l hle
  have := key2 l m hm
  omega
theorem gaps_nonneg (xs ys : List Int) : ∀ x ∈ gapsL xs ys, 0 ≤ x := by
  intro x hx
  obtain ⟨p, _, rfl⟩ := List.mem_map.mp hx
  unfold absI
  split <;> omega
theorem maxL_mem {l : List Int} (h0 : ∀ x ∈ l, 0 ≤ x) (hl : 0 < l.length) : maxL l ∈ l ∧ ∀ x ∈ l, x ≤ maxL l := by
  induction l with
  | nil => exact absurd hl (Nat.lt_irrefl _)
  | cons a l ih =>
    show max a (maxL l) ∈ a :: l ∧ ∀ x ∈ a :: l, x ≤ max a (maxL l)
    by_cases c : 0 < l.length
    · obtain ⟨h1, h2⟩ := ih (fun x hx => h0 x (List.mem_cons_of_mem _ hx)) c
      constructor
      · by_cases d : maxL l ≤ a
        · rw [Int.max_eq_left d]
          exact List.mem_cons_self
        · rw [Int.max_eq_right (by omega)]
          exact List.mem_cons_of_mem _ h1
      · intro x hx
        rcases List.mem_cons.mp hx with rfl | hx
        · omega
        · have := h2 x hx
          omega
    · have e : l = [] := List.eq_nil_of_length_eq_zero (by omega)
      subst e
      have := h0 a List.mem_cons_self
      have e2 : max a (maxL []) = a := by show max a 0 = a; omega
      rw [e2]
      exact ⟨List.mem_cons_self, fun x hx => by rw [List.mem_singleton.mp hx]; exact Int.le_refl _⟩
theorem farSwap_turn {n : Nat} {xs ys : List Int} (ox : IsOrd n xs) (oy : IsOrd n ys) : farSwap ys xs = farSwap xs ys := by
  unfold farSwap
  rw [inv_turn (seats_ord ox oy) (seats_ord oy ox) (seats_turn ox oy)]
theorem inv_rg (n : Nat) : invN (rg n) = 0 := by
  rw [inv_eq]
  unfold invF
  apply sumN_zero
  intro i hi
  apply sumN_zero
  intro j hj
  rw [rg_len] at hi hj
  have hi2 := rg_mem.mp hi
  have hj2 := rg_mem.mp hj
  have e : ∀ k : Int, k ∈ rg n → g0 (rg n) k = k := fun k hk => by
    have := rg_mem.mp hk
    have z : (rg n)[k.toNat]? = some k := by
      unfold rg
      rw [List.getElem?_map, List.getElem?_range (by omega)]
      show some ((k.toNat : Nat) : Int) = some k
      rw [Int.toNat_of_nonneg this.1]
    have z2 := g0_at z
    rw [Int.toNat_of_nonneg this.1] at z2
    exact z2
  rw [e i hi, e j hj]
  unfold ind
  by_cases c : i < j
  · have d : ¬ j < i := by omega
    simp [c, d]
  · simp [c]
theorem farSwap_self {n : Nat} {xs : List Int} (ox : IsOrd n xs) : farSwap xs xs = 0 := by
  unfold farSwap
  rw [seats_self ox, inv_rg]
  rfl
theorem farSpot_turn {xs ys : List Int} (h : xs.length = ys.length) : farSpot ys xs = farSpot xs ys := by
  unfold farSpot spotL
  rw [h]
  congr 3
  funext p
  congr 1
  by_cases c : g0 ys p = g0 xs p
  · rw [decide_eq_true c, decide_eq_true c.symm]
  · rw [decide_eq_false c, decide_eq_false fun e => c e.symm]
theorem farSpot_self (xs : List Int) : farSpot xs xs = 0 := by
  unfold farSpot spotL
  have e : ((rg xs.length).filter fun p => !decide (g0 xs p = g0 xs p)) = [] := by
    rw [List.filter_eq_nil_iff]
    intro a _
    simp
  rw [e]
  rfl
theorem gaps_len (xs ys : List Int) : (gapsL xs ys).length = xs.length := by
  unfold gapsL
  rw [List.length_map, rg_len]
theorem gaps_sub {n : Nat} {xs ys : List Int} (ox : IsOrd n xs) (oy : IsOrd n ys) : ∀ g ∈ gapsL ys xs, g ∈ gapsL xs ys := by
  intro g hg
  obtain ⟨u, hu, rfl⟩ := List.mem_map.mp hg
  rw [oy.len] at hu
  have hb := (seats_ord oy ox).mem (x := g0 (seatsL ys xs) u) (by
    have e := g0_ord (seats_ord oy ox)
    rw [e]
    exact List.mem_map.mpr ⟨u, hu, by rw [← e]⟩)
  refine List.mem_map.mpr ⟨g0 (seatsL ys xs) u, by rw [ox.len]; exact rg_mem.mpr hb, ?_⟩
  rw [seats_turn ox oy u hu]
  unfold absI
  split <;> split <;> omega
theorem farShift_turn {n : Nat} {xs ys : List Int} (ox : IsOrd n xs) (oy : IsOrd n ys) (hn : 1 ≤ n) : farShift ys xs = farShift xs ys := by
  unfold farShift
  obtain ⟨h1, h2⟩ := maxL_mem (gaps_nonneg xs ys) (by rw [gaps_len, ox.len]; exact hn)
  exact maxL_of (gaps_nonneg ys xs) (gaps_sub oy ox _ h1) fun x hx => h2 x (gaps_sub ox oy x hx)
theorem farShift_self {n : Nat} {xs : List Int} (ox : IsOrd n xs) (hn : 1 ≤ n) : farShift xs xs = 0 := by
  unfold farShift
  have z : ∀ g ∈ gapsL xs xs, g = 0 := by
    intro g hg
    obtain ⟨u, hu, rfl⟩ := List.mem_map.mp hg
    rw [ox.len] at hu
    have hb := rg_mem.mp hu
    rw [seats_self ox]
    have e : (rg n)[u.toNat]? = some u := by
      unfold rg
      rw [List.getElem?_map, List.getElem?_range (by omega)]
      show some ((u.toNat : Nat) : Int) = some u
      rw [Int.toNat_of_nonneg hb.1]
    have z2 := g0_at e
    rw [Int.toNat_of_nonneg hb.1] at z2
    rw [z2]
    unfold absI
    split <;> omega
  obtain ⟨h1, _⟩ := maxL_mem (gaps_nonneg xs xs) (by rw [gaps_len, ox.len]; exact hn)
  exact z _ h1
end Fo
namespace Fo
open PySem PySem.Spec PyProof.Rows L2
/-! ### turned pairs, one after the other -/
def invR : List Int → Nat
  | [] => 0
  | x :: r => (r.filter (fun z => decide (z < x))).length + invR r
theorem rg_cons (n : Nat) : rg (n + 1) = 0 :: (rg n).map (· + 1) := by
  unfold rg
  rw [List.range_succ_eq_map, List.map_cons, List.map_map, List.map_map]
  rfl
theorem inv_NR : ∀ s : List Int, invN s = invR s
  | [] => rfl
  | x :: r => by
    have ih := inv_NR r
    unfold invN at ih ⊢
    rw [List.length_cons, rg_cons, sumN_cons, sumN_map]
    show cntL (x :: r) (0 : Int).toNat + _ = (r.filter (fun z => decide (z < x))).length + invR r
    rw [← ih]
    have e1 : cntL (x :: r) (0 : Int).toNat = (r.filter (fun z => decide (z < x))).length := rfl
    rw [e1]
    congr 1
    apply sumN_congr
    intro i hi
    have hb := rg_mem.mp hi
    obtain ⟨j, rfl⟩ : ∃ j : Nat, i = (j : Int) := ⟨i.toNat, by omega⟩
    rw [show ((j : Int) + 1).toNat = j + 1 by omega, Int.toNat_natCast]
    unfold cntL
    have e2 : g0 (x :: r) ((j + 1 : Nat) : Int) = g0 r (j : Int) := by
      unfold g0
      rw [Int.toNat_natCast, Int.toNat_natCast]
      rfl
    rw [e2]
    rfl
theorem filt_perm {a b : List Int} (h : a.Perm b) (p : Int → Bool) : (a.filter p).length = (b.filter p).length := (h.filter p).length_eq
theorem invR_at : ∀ (A : List Int) (a b : Int) (B : List Int), b < a → invR (A ++ a :: b :: B) = invR (A ++ b :: a :: B) + 1
  | [], a, b, B, h => by
    show ((b :: B).filter (fun z => decide (z < a))).length + ((B.filter (fun z => decide (z < b))).length + invR B) = ((a :: B).filter (fun z => decide (z < b))).length + ((B.filter (fun z => decide (z < a))).length + invR B) + 1
    rw [List.filter_cons, List.filter_cons, decide_eq_true h, decide_eq_false (show ¬ a < b by omega), if_pos rfl, if_neg (by decide), List.length_cons]
    omega
  | x :: A, a, b, B, h => by
    have ih := invR_at A a b B h
    show ((A ++ a :: b :: B).filter (fun z => decide (z < x))).length + invR (A ++ a :: b :: B) = ((A ++ b :: a :: B).filter (fun z => decide (z < x))).length + invR (A ++ b :: a :: B) + 1
    rw [ih, filt_perm (List.Perm.append_left A (List.Perm.swap b a B))]
    omega
theorem invR_sw {s : List Int} {p : Nat} {a b : Int} (ha : s[p]? = some a) (hb : s[p + 1]? = some b) (h : b < a) : invR s = invR (sw s p) + 1 := by
  have hl := (List.getElem?_eq_some_iff.mp hb).1
  obtain ⟨A, x, y, B, rfl, rfl⟩ := split2 hl
  have ex : x = a := by
    rw [List.getElem?_append_right (Nat.le_refl _), Nat.sub_self] at ha
    exact Option.some.inj ha
  have ey : y = b := by
    rw [List.getElem?_append_right (by omega), show A.length + 1 - A.length = 1 by omega] at hb
    exact Option.some.inj hb
  subst ex ey
  rw [sw_at, invR_at A x y B h]
def firstDesc : List Int → Option Nat
  | [] => none
  | [_] => none
  | x :: y :: r => if y < x then some 0 else (firstDesc (y :: r)).map (· + 1)
theorem fd_cons (x y : Int) (r : List Int) : firstDesc (x :: y :: r) = if y < x then some 0 else (firstDesc (y :: r)).map (· + 1) := by rw [firstDesc]
theorem fd_some : ∀ {s : List Int} {p : Nat} {a b : Int}, (∀ (j : Nat) (u v : Int), j < p → s[j]? = some u → s[j + 1]? = some v → u ≤ v) → s[p]? = some a → s[p + 1]? = some b → b < a → firstDesc s = some p
  | [], p, a, b, _, ha, _, _ => by simp at ha
  | [_], p, a, b, _, _, hb, _ => by simp at hb
  | x :: y :: r, 0, a, b, _, ha, hb, h => by
    have e1 : x = a := Option.some.inj ha
    have e2 : y = b := Option.some.inj hb
    rw [fd_cons, if_pos (by omega)]
  | x :: y :: r, p + 1, a, b, hl, ha, hb, h => by
    have h0 : x ≤ y := hl 0 x y (by omega) rfl rfl
    have ih := fd_some (s := y :: r) (p := p) (a := a) (b := b) (fun j u v hj hu hv => hl (j + 1) u v (by omega) hu hv) ha hb h
    rw [fd_cons, if_neg (by omega), ih]
    rfl
theorem fd_none : ∀ {s : List Int}, (∀ (j : Nat) (u v : Int), s[j]? = some u → s[j + 1]? = some v → u ≤ v) → firstDesc s = none
  | [], _ => rfl
  | [_], _ => rfl
  | x :: y :: r, hl => by
    have h0 : x ≤ y := hl 0 x y rfl rfl
    have ih := fd_none (s := y :: r) (fun j u v hu hv => hl (j + 1) u v hu hv)
    rw [fd_cons, if_neg (by omega), ih]
    rfl
theorem fd_at : ∀ {s : List Int} {p : Nat}, firstDesc s = some p → ∃ a b, s[p]? = some a ∧ s[p + 1]? = some b ∧ b < a ∧ ∀ (j : Nat) (u v : Int), j < p → s[j]? = some u → s[j + 1]? = some v → u ≤ v
  | [], p, h => by cases h
  | [_], p, h => by cases h
  | x :: y :: r, p, h => by
    rw [fd_cons] at h
    by_cases c : y < x
    · rw [if_pos c] at h
      cases h
      exact ⟨x, y, rfl, rfl, c, fun j u v hj => absurd hj (Nat.not_lt_zero _)⟩
    · rw [if_neg c] at h
      cases e : firstDesc (y :: r) with
      | none => rw [e] at h; cases h
      | some q =>
        rw [e] at h
        have ep : q + 1 = p := Option.some.inj h
        subst ep
        obtain ⟨a, b, ha, hb, hlt, hl⟩ := fd_at e
        refine ⟨a, b, ha, hb, hlt, fun j u v hj hu hv => ?_⟩
        cases j with
        | zero =>
          have e1 : x = u := Option.some.inj hu
          have e2 : y = v := Option.some.inj hv
          omega
        | succ j => exact hl j u v (by omega) hu hv
theorem fd_sorted : ∀ {s : List Int}, firstDesc s = none → s.Pairwise (· ≤ ·)
  | [], _ => List.Pairwise.nil
  | [_], _ => List.pairwise_singleton _ _
  | x :: y :: r, h => by
    rw [fd_cons] at h
    by_cases c : y < x
    · rw [if_pos c] at h; cases h
    · rw [if_neg c] at h
      have e : firstDesc (y :: r) = none := by
        cases e : firstDesc (y :: r) with
        | none => rfl
        | some q => rw [e] at h; cases h
      have ih := fd_sorted e
      refine List.Pairwise.cons (fun z hz => ?_) ih
      rcases List.mem_cons.mp hz with rfl | hz
      · omega
      · have := (List.pairwise_cons.mp ih).1 z hz
        omega
theorem invR_sorted : ∀ {s : List Int}, s.Pairwise (· ≤ ·) → invR s = 0
  | [], _ => rfl
  | x :: r, h => by
    obtain ⟨h1, h2⟩ := List.pairwise_cons.mp h
    show (r.filter (fun z => decide (z < x))).length + invR r = 0
    rw [invR_sorted h2, List.filter_eq_nil_iff.mpr (fun z hz => by
      have := h1 z hz
      simp
      omega)]
    rfl
theorem fd_pos {s : List Int} (h : 0 < invR s) : ∃ p, firstDesc s = some p := by
  cases e : firstDesc s with
  | none => rw [invR_sorted (fd_sorted e)] at h; omega
  | some p => exact ⟨p, rfl⟩
/-- the first of the shortest walks, of at most m places -/
def gw : Nat → List Int → List Int
  | 0, _ => []
  | m + 1, s => match firstDesc s with
    | none => []
    | some p => (p : Int) :: gw m (sw s p)
abbrev walkL (s : List Int) : List Int := gw (invR s) s
theorem walk_none {s : List Int} (h : firstDesc s = none) : walkL s = [] := by
  unfold walkL
  rw [invR_sorted (fd_sorted h)]
  rfl
theorem walk_some {s : List Int} {p : Nat} (h : firstDesc s = some p) : walkL s = (p : Int) :: walkL (sw s p) := by
  obtain ⟨a, b, ha, hb, hlt, _⟩ := fd_at h
  unfold walkL
  rw [invR_sw ha hb hlt, gw, h]
theorem walk_len : ∀ (m : Nat) (s : List Int), invR s = m → (walkL s).length = m
  | 0, s, h => by
    unfold walkL
    rw [h]
    rfl
  | m + 1, s, h => by
    obtain ⟨p, hp⟩ := fd_pos (s := s) (by omega)
    obtain ⟨a, b, ha, hb, hlt, _⟩ := fd_at hp
    rw [walk_some hp, List.length_cons, walk_len m (sw s p) (by have := invR_sw ha hb hlt; omega)]
theorem invR_len (s : List Int) : invR s ≤ s.length * s.length := by
  induction s with
  | nil => exact Nat.le_refl _
  | cons x r ih =>
    show (r.filter _).length + invR r ≤ (r.length + 1) * (r.length + 1)
    have h1 : (r.filter (fun z => decide (z < x))).length ≤ r.length := List.length_filter_le _ _
    have h2 : (r.length + 1) * (r.length + 1) = r.length * r.length + r.length + r.length + 1 := by
      rw [Nat.add_mul, Nat.mul_add]
      omega
    omega
theorem seats_sw {xs ys : List Int} {p : Nat} (h : p + 1 < xs.length) : seatsL (sw xs p) ys = sw (seatsL xs ys) p := by
  obtain ⟨A, a, b, B, rfl, rfl⟩ := split2 h
  rw [sw_at]
  unfold seatsL
  rw [List.map_append, List.map_cons, List.map_cons, List.map_append, List.map_cons, List.map_cons]
  have e := sw_at (A.map (pos ys)) (pos ys a) (pos ys b) (B.map (pos ys))
  rw [List.length_map] at e
  exact e.symm
theorem cut_sw {xs : List Int} {p : Nat} {a b : Int} (ha : xs[p]? = some a) (hb : xs[p + 1]? = some b) : xs.take p ++ [b, a] ++ xs.drop (p + 2) = sw xs p := by
  have hl := (List.getElem?_eq_some_iff.mp hb).1
  obtain ⟨A, x, y, B, rfl, rfl⟩ := split2 hl
  have ex : x = a := by
    rw [List.getElem?_append_right (Nat.le_refl _), Nat.sub_self] at ha
    exact Option.some.inj ha
  have ey : y = b := by
    rw [List.getElem?_append_right (by omega), show A.length + 1 - A.length = 1 by omega] at hb
    exact Option.some.inj hb
  subst ex ey
  rw [sw_at, List.take_left, List.drop_append, List.drop_of_length_le (by omega), show A.length + 2 - A.length = 2 by omega]
  simp
theorem filt_map (l : List Int) (f : Int → Int) (p : Int → Bool) : ((l.map f).filter p).length = (l.filter (fun x => p (f x))).length := by
  rw [List.filter_map, List.length_map]
  rfl
end Fo
namespace Fo
open PySem PySem.Spec PyProof.Rows L2
theorem pos_ord {n : Nat} {xs : List Int} (o : IsOrd n xs) : IsOrd n ((rg n).map (pos xs)) := by
  have h : ((rg n).map (pos xs)).Perm (seatsL xs xs) := List.Perm.map _ o.symm
  rw [seats_self o] at h
  exact h
theorem pos_in {n : Nat} {xs : List Int} (o : IsOrd n xs) {t : Int} (h : t ∈ rg n) : pos xs t ∈ rg n := by
  have := (pos_ord o).mem (List.mem_map.mpr ⟨t, h, rfl⟩)
  exact rg_mem.mpr this
theorem pos_inj {n : Nat} {xs : List Int} (o : IsOrd n xs) {t u : Int} (ht : t ∈ rg n) (hu : u ∈ rg n) (e : pos xs t = pos xs u) : t = u := by
  have h1 := rg_mem.mp ht
  have h2 := rg_mem.mp hu
  obtain ⟨i, _, ei, pi⟩ := pos_at o h1.1 h1.2
  obtain ⟨j, _, ej, pj⟩ := pos_at o h2.1 h2.2
  have : i = j := by omega
  subst this
  exact Option.some.inj (ei.symm.trans ej)
/-- a sum over the places is a sum over the things -/
theorem sum_pos {n : Nat} {xs : List Int} (o : IsOrd n xs) (f : Int → Nat) : sumN (rg n) f = sumN (rg n) fun t => f (pos xs t) := by
  have e : sumN ((rg n).map (pos xs)) f = sumN (rg n) fun t => f (pos xs t) := sumN_map _ _ _
  rw [← e]
  exact (sumN_perm (pos_ord o) f).symm
theorem sum_g0 {n : Nat} {xs : List Int} (o : IsOrd n xs) (f : Int → Nat) : sumN (rg n) f = sumN (rg n) fun p => f (g0 xs p) := by
  have e : sumN ((rg n).map (g0 xs)) f = sumN (rg n) fun t => f (g0 xs t) := sumN_map _ _ _
  rw [← e, ← g0_ord o]
  exact (sumN_perm o f).symm
theorem g0_pos {n : Nat} {xs : List Int} (o : IsOrd n xs) {t : Int} (h : t ∈ rg n) : g0 xs (pos xs t) = t := by
  have h1 := rg_mem.mp h
  obtain ⟨j, _, ej, pj⟩ := pos_at o h1.1 h1.2
  rw [pj]
  exact g0_at ej
theorem pos_g0 {n : Nat} {xs : List Int} (o : IsOrd n xs) {p : Int} (h : p ∈ rg n) : pos xs (g0 xs p) = p := by
  have h1 := rg_mem.mp h
  obtain ⟨x, hx, _⟩ := ord_ix o (j := p.toNat) (by omega)
  have e := g0_at hx
  rw [Int.toNat_of_nonneg h1.1] at e
  rw [e, pos_of o hx]
  omega
theorem g0_in {n : Nat} {xs : List Int} (o : IsOrd n xs) {p : Int} (h : p ∈ rg n) : g0 xs p ∈ rg n := by
  have h1 := rg_mem.mp h
  obtain ⟨x, hx, x0, x1⟩ := ord_ix o (j := p.toNat) (by omega)
  have e := g0_at hx
  rw [Int.toNat_of_nonneg h1.1] at e
  rw [e]
  exact rg_mem.mpr ⟨x0, x1⟩
end Fo
namespace Fo
open PySem PySem.Spec PyProof.Rows L2
/-! ### all orders of few things -/
def extO (n : Nat) (o : List Int) : List (List Int) := ((rg n).filter fun t => !decide (t ∈ o)).map fun t => o ++ [t]
def allK (n : Nat) : Nat → List (List Int)
  | 0 => [[]]
  | k + 1 => (allK n k).flatMap (extO n)
theorem allK_row {n : Nat} : ∀ (k : Nat) (r : List Int), r ∈ allK n k → r.length = k ∧ r.Nodup ∧ ∀ x ∈ r, x ∈ rg n
  | 0, r, h => by
    rw [List.mem_singleton.mp h]
    exact ⟨rfl, List.nodup_nil, fun x hx => absurd hx List.not_mem_nil⟩
  | k + 1, r, h => by
    obtain ⟨o, ho, hr⟩ := List.mem_flatMap.mp h
    obtain ⟨h1, h2, h3⟩ := allK_row k o ho
    obtain ⟨t, ht, rfl⟩ := List.mem_map.mp hr
    obtain ⟨ht1, ht2⟩ := List.mem_filter.mp ht
    have hto : t ∉ o := by simpa using ht2
    refine ⟨by rw [List.length_append, h1]; rfl, ?_, fun x hx => ?_⟩
    · rw [List.nodup_append]
      refine ⟨h2, List.nodup_cons.mpr ⟨List.not_mem_nil, List.nodup_nil⟩, fun x hx y hy e => ?_⟩
      rw [List.mem_singleton.mp hy] at e
      exact hto (by rw [← e]; exact hx)
    · rcases List.mem_append.mp hx with hx | hx
      · exact h3 x hx
      · rw [List.mem_singleton.mp hx]
        exact ht1
theorem extO_len (n : Nat) (o : List Int) : (extO n o).length ≤ n := by
  unfold extO
  rw [List.length_map]
  have := List.length_filter_le (fun t => !decide (t ∈ o)) (rg n)
  rw [rg_len] at this
  exact this
theorem flat_len (n : Nat) : ∀ l : List (List Int), (l.flatMap (extO n)).length ≤ l.length * n
  | [] => Nat.zero_le _
  | o :: l => by
    rw [List.flatMap_cons, List.length_append, List.length_cons, Nat.add_mul, Nat.one_mul]
    have := flat_len n l
    have := extO_len n o
    omega
theorem allK_len {n : Nat} (hn : n ≤ 6) : ∀ k, k ≤ n → (allK n k).length ≤ 6 ^ k
  | 0, _ => Nat.le_refl _
  | k + 1, hk => by
    have ih := allK_len hn k (by omega)
    have h1 : (allK n (k + 1)).length ≤ (allK n k).length * n := flat_len n (allK n k)
    have h2 : (allK n k).length * n ≤ 6 ^ k * 6 := Nat.mul_le_mul ih hn
    rw [Nat.pow_succ]
    omega
theorem pow6 {k : Nat} (h : k ≤ 6) : 6 ^ k ≤ 46656 := by
  have : 6 ^ k ≤ 6 ^ 6 := Nat.pow_le_pow_right (by decide) h
  exact this
theorem nodup_count : ∀ {l : List Int}, l.Nodup → ∀ a, l.count a = if a ∈ l then 1 else 0
  | [], _, a => by simp
  | b :: l, h, a => by
    obtain ⟨h1, h2⟩ := List.nodup_cons.mp h
    have ih := nodup_count h2 a
    rw [List.count_cons, ih]
    by_cases c : b = a
    · subst c
      simp [h1]
    · have c2 : ¬ a = b := fun e => c e.symm
      simp [c, c2]
theorem nodup_ord {n : Nat} {s : List Int} (hl : s.length = n) (hn : s.Nodup) (hb : ∀ x ∈ s, x ∈ rg n) : IsOrd n s := by
  unfold IsOrd
  rw [List.perm_iff_count]
  intro a
  rw [nodup_count hn, nodup_count (rg_nodup n)]
  by_cases c : a ∈ s
  · rw [if_pos c, if_pos (hb a c)]
  · rw [if_neg c]
    by_cases d : a ∈ rg n
    · exfalso
      have := nodup_len (l := a :: s) (m := rg n) (List.nodup_cons.mpr ⟨c, hn⟩) fun x hx => by
        rcases List.mem_cons.mp hx with rfl | hx
        · exact d
        · exact hb x hx
      rw [List.length_cons, rg_len] at this
      omega
    · rw [if_neg d]
theorem all_ord {n : Nat} {r : List Int} (h : r ∈ allK n n) : IsOrd n r := by
  obtain ⟨h1, h2, h3⟩ := allK_row n r h
  exact nodup_ord h1 h2 h3
theorem inV_int (t : Int) : ∀ row : List Int, inV (.int t) (row.map V.int) = decide (t ∈ row)
  | [] => rfl
  | a :: r => by
    have ih := inV_int t r
    unfold inV at ih ⊢
    rw [List.map_cons, List.any_cons, ih, eqV_int]
    by_cases c : a = t
    · subst c
      simp
    · have c2 : ¬ t = a := fun e => c e.symm
      simp [c, c2]
theorem ext_more {n : Nat} {o : List Int} (j : Nat) : ((rg (j + 1)).filter fun t => !decide (t ∈ o)).map (fun t => o ++ [t]) = (((rg j).filter fun t => !decide (t ∈ o)).map fun t => o ++ [t]) ++ (if (j : Int) ∈ o then [] else [o ++ [(j : Int)]]) := by
  rw [rg_succ, List.filter_append, List.map_append, List.filter_cons]
  congr 1
  by_cases c : (j : Int) ∈ o
  · rw [decide_eq_true c, if_pos c]
    rfl
  · rw [decide_eq_false c, if_neg c]
    rfl
/-! ### comprehensions with two fors: a list, then a range -/
theorem lc2_list {K : PySem.W.Frag} {a : Addr} {xs : List V} {g : TG} {tt : TT} {wi1 : TI} {g1 : TG} {tt1 : TT} {te : TE} {vs vs1 : List Nat} {σ : L2.St} {H1 : Hp} {D : Addr} {Qd : Hp → Prop} (Pv : Nat → Hp → Prop) (h0 : Pv 0 (upd H1 D (.lst []))) (hl : ∀ i H, i ≤ xs.length → Pv i H → SqL K H a xs)
    (hs : ∀ i x H, xs[i]? = some x → Pv i H → g x (wipe σ vs) H fun σ2 H2 => wipe σ2 vs = wipe σ vs ∧ tt σ2 H2 fun b H3 =>
      if b = true then wi1 σ2 H3 fun J1 H4 => ∃ W1 : Nat → Nat → Hp → Prop, (∃ m, W1 0 m H4) ∧ ∀ j k H, W1 j k H →
        (J1.stop j H ∧ Pv (i + 1) H) ∨ (J1.go j H ∧ ∃ Nx1 : Hp → Prop, (∀ H', Nx1 H' → ∃ k', k' < k ∧ W1 (j + 1) k' H') ∧ ∀ x H', J1.yld j H x H' → g1 x (wipe σ2 vs1) H' fun σ3 H5 => wipe σ3 vs1 = wipe σ2 vs1 ∧ tt1 σ3 H5 fun b H6 =>
          if b = true then te σ3 H6 fun y H7 => ∃ acc, H7 D = some (.lst acc) ∧ acc.length < sizeLine ∧ Nx1 (upd H7 D (.lst (acc ++ [y]))) else Nx1 H6)
      else Pv (i + 1) H3) (hd : ∀ H, Pv xs.length H → Qd H) :
    ∃ W : Nat → Nat → Hp → Prop, (∃ m, W 0 m (upd H1 D (.lst []))) ∧ ∀ i m H, W i m H →
      ((Itl K a).stop i H ∧ Qd H) ∨ ((Itl K a).go i H ∧ ∃ Nx : Hp → Prop, (∀ H', Nx H' → ∃ m', m' < m ∧ W (i + 1) m' H') ∧ ∀ x H', (Itl K a).yld i H x H' → g x (wipe σ vs) H' fun σ2 H2 => wipe σ2 vs = wipe σ vs ∧ tt σ2 H2 fun b H3 =>
        if b = true then wi1 σ2 H3 fun J1 H4 => ∃ W1 : Nat → Nat → Hp → Prop, (∃ m, W1 0 m H4) ∧ ∀ j k H, W1 j k H →
          (J1.stop j H ∧ Nx H) ∨ (J1.go j H ∧ ∃ Nx1 : Hp → Prop, (∀ H', Nx1 H' → ∃ k', k' < k ∧ W1 (j + 1) k' H') ∧ ∀ x H', J1.yld j H x H' → g1 x (wipe σ2 vs1) H' fun σ3 H5 => wipe σ3 vs1 = wipe σ2 vs1 ∧ tt1 σ3 H5 fun b H6 =>
            if b = true then te σ3 H6 fun y H7 => ∃ acc, H7 D = some (.lst acc) ∧ acc.length < sizeLine ∧ Nx1 (upd H7 D (.lst (acc ++ [y]))) else Nx1 H6)
        else Nx H3) := by
  refine ⟨fun i m H => m = xs.length - i ∧ i ≤ xs.length ∧ Pv i H, ⟨xs.length, by simp, Nat.zero_le _, h0⟩, ?_⟩
  rintro i m H ⟨rfl, hi, p⟩
  have q := hl i H hi p
  by_cases hlt : i < xs.length
  · refine .inr ⟨⟨xs, xs[i], q, by simp [hlt]⟩, Pv (i + 1), fun H' p' => ⟨xs.length - (i + 1), by omega, rfl, hlt, p'⟩, fun x H' y => ?_⟩
    obtain ⟨e, y⟩ := y
    subst e
    exact hs i x _ (y _ q) p
  · have e : i = xs.length := by omega
    subst e
    exact .inl ⟨⟨xs, q, Nat.le_refl _⟩, hd H p⟩
theorem in_range {lo : Int} {n : Nat} {g1 : TG} {tt1 : TT} {te : TE} {vs1 : List Nat} {σ2 : L2.St} {H4 : Hp} {D : Addr} {Nx : Hp → Prop} (Pw : Nat → Hp → Prop) (h0 : Pw 0 H4)
    (hs : ∀ j H, j < n → Pw j H → g1 (.int (lo + j)) (wipe σ2 vs1) H fun σ3 H5 => wipe σ3 vs1 = wipe σ2 vs1 ∧ tt1 σ3 H5 fun b H6 =>
      if b = true then te σ3 H6 fun y H7 => ∃ acc, H7 D = some (.lst acc) ∧ acc.length < sizeLine ∧ Pw (j + 1) (upd H7 D (.lst (acc ++ [y]))) else Pw (j + 1) H6) (hd : ∀ H, Pw n H → Nx H) :
    ∃ W1 : Nat → Nat → Hp → Prop, (∃ m, W1 0 m H4) ∧ ∀ j k H, W1 j k H →
      ((Itr lo n).stop j H ∧ Nx H) ∨ ((Itr lo n).go j H ∧ ∃ Nx1 : Hp → Prop, (∀ H', Nx1 H' → ∃ k', k' < k ∧ W1 (j + 1) k' H') ∧ ∀ x H', (Itr lo n).yld j H x H' → g1 x (wipe σ2 vs1) H' fun σ3 H5 => wipe σ3 vs1 = wipe σ2 vs1 ∧ tt1 σ3 H5 fun b H6 =>
        if b = true then te σ3 H6 fun y H7 => ∃ acc, H7 D = some (.lst acc) ∧ acc.length < sizeLine ∧ Nx1 (upd H7 D (.lst (acc ++ [y]))) else Nx1 H6) := by
  refine ⟨fun j m H => m = n - j ∧ j ≤ n ∧ Pw j H, ⟨n, by simp, Nat.zero_le _, h0⟩, ?_⟩
  rintro j m H ⟨rfl, hi, p⟩
  by_cases hlt : j < n
  · refine .inr ⟨hlt, Pw (j + 1), fun H' p' => ⟨n - (j + 1), by omega, rfl, hlt, p'⟩, fun x H' y => ?_⟩
    obtain ⟨e, y⟩ := y
    subst e y
    exact hs j _ hlt p
  · have e : j = n := by omega
    subst e
    exact .inl ⟨Nat.le_refl _, hd H p⟩
end Fo
namespace Fo
open PySem PySem.Spec PyProof.Rows L2
def spWhole : Sp := fun vs H Q _ => ∃ i : Int, vs = [.int i] ∧ Q (.bl true) H
section
variable {P : Program} {w : World} {K : PySem.W.Frag} {mg : Str → Option Value} {base : Heap}
theorem scWhole : FnScope ["thing"] ["thing"] (defScope s_is_whole) := ⟨rfl, rfl, rfl, by decide +kernel, rfl, by decide +kernel, by decide +kernel⟩
theorem ok_whole {f : Addr} {fd : FuncData} {k : Nat} (T : Df K mg "is_whole" s_is_whole ["thing"] f fd) (B : Bi mg) : FnOk P w K mg base CX0 (k + 1) f fd ["thing"] spWhole := by
  refine T.F.ok scWhole (fun vs H Q E h => ?_) (fun cdv A outer s H vs Q E hr h => ?_)
  · obtain ⟨i, rfl, _⟩ := h
    rfl
  · obtain ⟨i, rfl, q⟩ := h
    refine ⟨_, pss_one (ps_ret (pe_and (pe_callB call_isi (by rfl) B.isinstance (by decide +kernel) (pa_cons (pv 0) (pa_cons (pe_bltn (v := .ty "int") (by rfl) B.int (by decide +kernel) rfl) pa_nil)))
      (pe_one (pe_not (pe_callB call_isi (by rfl) B.isinstance (by decide +kernel) (pa_cons (pv 0) (pa_cons (pe_bltn (v := .ty "bool") (by rfl) B.bool (by decide +kernel) rfl) pa_nil))))))), ?_⟩
    refine ⟨_, rfl, _, _, _, _, true, rfl, .ty _, .base (.int _), kit_ty (by decide +kernel), true, rfl, iteT ?_⟩
    exact ⟨_, rfl, _, _, _, _, false, rfl, .ty _, .base (.int _), kit_ty (by decide +kernel), false, rfl, q⟩
end
end Fo
namespace Fo
open PySem PySem.Spec PyProof.Rows L2
def IsWay (w : Str) : Prop := w = "swap" ∨ w = "spot" ∨ w = "shift"
theorem n1 : ¬ (("spot" : Str) = "swap") := by decide +kernel
theorem n2 : ¬ (("shift" : Str) = "swap") := by decide +kernel
theorem n3 : ¬ (("shift" : Str) = "spot") := by decide +kernel
/-- the ways as the top has written them -/
structure Wy (K : PySem.W.Frag) (mg : Str → Option Value) (aW : Addr) : Prop where
  g : mg "WAYS" = some (.ref aW)
  t : ∀ H : Hp, SqT K H aW [.str "swap", .str "spot", .str "shift"]
theorem wy_mk {K : PySem.W.Frag} {mg : Str → Option Value} {aW : Addr} {dd : Option Addr} {n : Nat} {t1 t2 t3 : Tok} {sl : Array (Option Value)} (g : mg "WAYS" = some (.ref aW)) (l : K.lookup aW = some ⟨.type "tuple", dd, .seq #[.str "swap" t1, .str "spot" t2, .str "shift" t3] n, sl⟩) : Wy K mg aW :=
  ⟨g, fun H => .inr ⟨_, _, _, l, rfl, rfl, line_small (by show 3 ≤ 16777216; decide), .cons ⟨_, rfl⟩ (.cons ⟨_, rfl⟩ (.cons ⟨_, rfl⟩ .nil))⟩⟩
def spWay : Sp := fun vs H Q _ => ∃ (w : Str), vs = [.str w] ∧ IsWay w ∧ Q .non H
section
variable {P : Program} {w : World} {K : PySem.W.Frag} {mg : Str → Option Value} {base : Heap}
theorem scWay : FnScope ["thing"] ["thing"] (defScope s_check_way) := ⟨rfl, rfl, rfl, by decide +kernel, rfl, by decide +kernel, by decide +kernel⟩
theorem ok_way {f aW : Addr} {fd : FuncData} {k : Nat} (T : Df K mg "check_way" s_check_way ["thing"] f fd) (W : Wy K mg aW) (B : Bi mg) : FnOk P w K mg base CX0 (k + 1) f fd ["thing"] spWay := by
  refine T.F.ok scWay (fun vs H Q E h => ?_) (fun cdv A outer s H vs Q E hr h => ?_)
  · obtain ⟨z, rfl, _⟩ := h
    rfl
  · obtain ⟨z, rfl, hz, q⟩ := h
    refine ⟨_, 
      (pss_one (ps_if (PW.pt (pw_or (pt_not (pt_val (pe_callB call_isi (by rfl) B.isinstance (by decide +kernel) (pa_cons (pv 0) (pa_cons (pe_bltn (v := .ty "str") (by rfl) B.str (by decide +kernel) rfl) pa_nil))))) (pw_or1 (pt_cmpR op_notIn_seq (pv 0) (pe_glob (v := .ref aW) (by rfl) W.g rfl) (by rfl)))))
        (pss_one ps_never)
        pss_nil)), ?_⟩
    refine ⟨_, rfl, _, _, _, _, true, rfl, .ty _, .base (.str _), kit_ty (by decide +kernel), true, rfl, iteF ?_⟩
    rcases hz with rfl | rfl | rfl
    · exact ⟨_, rfl, aW, _, rfl, .inr (W.t H), rfl, rfl, _, rfl, ite2 (fun c => absurd c (by decide +kernel)) (fun _ => q)⟩
    · exact ⟨_, rfl, aW, _, rfl, .inr (W.t H), rfl, rfl, _, rfl, ite2 (fun c => absurd c (by decide +kernel)) (fun _ => q)⟩
    · exact ⟨_, rfl, aW, _, rfl, .inr (W.t H), rfl, rfl, _, rfl, ite2 (fun c => absurd c (by decide +kernel)) (fun _ => q)⟩
end
end Fo
namespace Fo
open PySem PySem.Spec PyProof.Rows L2
def spFrom : Sp := fun vs H Q _ => ∃ (r least : Int), vs = [.int r, .int least] ∧ least ≤ r ∧ Q .non H
section
variable {P : Program} {w : World} {K : PySem.W.Frag} {mg : Str → Option Value} {base : Heap}
theorem scFrom : FnScope ["thing", "least"] ["thing", "least"] (defScope s_check_from) := ⟨rfl, rfl, rfl, by decide +kernel, rfl, by decide +kernel, by decide +kernel⟩
theorem ok_from {f fW : Addr} {fd fdW : FuncData} {k : Nat} (T : Df K mg "check_from" s_check_from ["thing", "least"] f fd) (T_is_whole : Df K mg "is_whole" s_is_whole ["thing"] fW fdW) (B : Bi mg) : FnOk P w K mg base CX0 (k + 2) f fd ["thing", "least"] spFrom := by
  have G_is_whole : FnOk P w K mg base CX0 (k + 1) fW fdW ["thing"] spWhole := ok_whole T_is_whole B
  refine T.F.ok scFrom (fun vs H Q E h => ?_) (fun cdv A outer s H vs Q E hr h => ?_)
  · obtain ⟨r, least, rfl, _⟩ := h
    rfl
  · obtain ⟨r, least, rfl, hle, q⟩ := h
    refine ⟨_, 
      (pss_one (ps_if (PW.pt (pw_or (pt_not (pt_val (pe_call G_is_whole hr (by rfl) T_is_whole.g T_is_whole.F.kp T_is_whole.b .nil pass0 (pa_cons (pv 0) pa_nil)))) (pw_or1 (pt_cmpR op_lt (pv 0) (pv 1) (nomark _)))))
        (pss_one ps_never)
        pss_nil)), ?_⟩
    refine ⟨_, rfl, r, rfl, _, rfl, iteF ?_⟩
    exact ⟨_, rfl, _, rfl, r, least, rfl, rfl, _, rfl, ite2 (fun z => absurd (of_decide_eq_true z) (by omega)) (fun _ => q)⟩
end
end Fo
namespace Fo
open PySem PySem.Spec PyProof.Rows L2
def spSize : Sp := fun vs H Q _ => ∃ (n most : Int), vs = [.int n, .int most] ∧ 1 ≤ n ∧ n ≤ most ∧ Q .non H
section
variable {P : Program} {w : World} {K : PySem.W.Frag} {mg : Str → Option Value} {base : Heap}
theorem scSize : FnScope ["thing", "most"] ["thing", "most"] (defScope s_check_size) := ⟨rfl, rfl, rfl, by decide +kernel, rfl, by decide +kernel, by decide +kernel⟩
theorem ok_size {f fW : Addr} {fd fdW : FuncData} {k : Nat} (T : Df K mg "check_size" s_check_size ["thing", "most"] f fd) (T_is_whole : Df K mg "is_whole" s_is_whole ["thing"] fW fdW) (B : Bi mg) : FnOk P w K mg base CX0 (k + 2) f fd ["thing", "most"] spSize := by
  have G_is_whole : FnOk P w K mg base CX0 (k + 1) fW fdW ["thing"] spWhole := ok_whole T_is_whole B
  refine T.F.ok scSize (fun vs H Q E h => ?_) (fun cdv A outer s H vs Q E hr h => ?_)
  · obtain ⟨n, most, rfl, _⟩ := h
    rfl
  · obtain ⟨n, most, rfl, h1, h2, q⟩ := h
    refine ⟨_, 
      (pss_one (ps_if (PW.pt (pw_or (pt_not (pt_val (pe_call G_is_whole hr (by rfl) T_is_whole.g T_is_whole.F.kp T_is_whole.b .nil pass0 (pa_cons (pv 0) pa_nil)))) (pw_or (pt_cmpR op_lt (pv 0) pe_int (nomark _)) (pw_or1 (pt_cmpR op_gt (pv 0) (pv 1) (nomark _))))))
        (pss_one ps_never)
        pss_nil)), ?_⟩
    refine ⟨_, rfl, n, rfl, _, rfl, iteF ?_⟩
    refine ⟨_, rfl, n, 1, rfl, rfl, _, rfl, ite2 (fun z => absurd (of_decide_eq_true z) (by omega)) (fun _ => ?_)⟩
    exact ⟨_, rfl, _, rfl, n, most, rfl, rfl, _, rfl, ite2 (fun z => absurd (of_decide_eq_true z) (by omega)) (fun _ => q)⟩
end
end Fo
namespace Fo
open PySem PySem.Spec PyProof.Rows L2
def farW (w : Str) (xs ys : List Int) : Int := if w = "swap" then farSwap xs ys else if w = "spot" then farSpot xs ys else farShift xs ys
theorem farW_swap (xs ys : List Int) : farW "swap" xs ys = farSwap xs ys := if_pos rfl
theorem farW_spot (xs ys : List Int) : farW "spot" xs ys = farSpot xs ys := by
  unfold farW
  rw [if_neg n1, if_pos rfl]
theorem farW_shift (xs ys : List Int) : farW "shift" xs ys = farShift xs ys := by
  unfold farW
  rw [if_neg n2, if_neg n3]
theorem farW_turn {w : Str} {n : Nat} {xs ys : List Int} (ox : IsOrd n xs) (oy : IsOrd n ys) (hn : 1 ≤ n) : farW w ys xs = farW w xs ys := by
  unfold farW
  rw [farSwap_turn ox oy, farSpot_turn (by rw [ox.len, oy.len]), farShift_turn ox oy hn]
theorem farW_self {w : Str} {n : Nat} {xs : List Int} (ox : IsOrd n xs) (hn : 1 ≤ n) : farW w xs xs = 0 := by
  unfold farW
  rw [farSwap_self ox, farSpot_self, farShift_self ox hn]
  split
  · rfl
  · split <;> rfl
abbrev rAbs : List V → Hp → VK → Prop := fun xs H Q => ∃ i, xs = [.int i] ∧ Q (.int (if i < 0 then -i else i)) H
def spFar : Sp := fun vs H Q _ => ∃ (w : Str) (a b : Addr) (n : Nat) (xs ys : List Int), vs = [.str w, .ref a, .ref b] ∧ IsWay w ∧ H a = some (.lst (xs.map V.int)) ∧ H b = some (.lst (ys.map V.int)) ∧ IsOrd n xs ∧ IsOrd n ys ∧ 1 ≤ n ∧ n ≤ 12 ∧ ∀ (H' : Hp), Same H H' → Q (.int (farW w xs ys)) H'
end Fo
namespace Fo
open PySem PySem.Spec PyProof.Rows L2
def two (vs : List V) (H : Hp) (a b : Addr) (n : Nat) (xs ys : List Int) : Prop := vs = [.ref a, .ref b] ∧ H a = some (.lst (xs.map V.int)) ∧ H b = some (.lst (ys.map V.int)) ∧ IsOrd n xs ∧ IsOrd n ys ∧ 1 ≤ n ∧ n ≤ 12
end Fo
namespace Fo
open PySem PySem.Spec PyProof.Rows L2
def spPlaces : Sp := fun vs H Q _ => ∃ (a : Addr) (n : Nat) (ns : List Int), vs = [.ref a] ∧ H a = some (.lst (ns.map V.int)) ∧ IsOrd n ns ∧ 1 ≤ n ∧ n ≤ 12 ∧
  ∀ (ps : List Int) (l : Addr) (H' : Hp), IsBack ns ps → H l = none → H' l = some (.lst (ps.map V.int)) → Same H H' → Q (.ref l) H'
section
variable {P : Program} {w : World} {K : PySem.W.Frag} {mg : Str → Option Value} {base : Heap}
theorem scPlaces : FnScope ["order", "places", "place", "thing"] ["order"] (defScope s_places_in) := ⟨rfl, rfl, rfl, by decide +kernel, rfl, by decide +kernel, by decide +kernel⟩
set_option maxHeartbeats 2000000 in
theorem ok_places {f : Addr} {fd : FuncData} {k : Nat} (T : Df K mg "places_in" s_places_in ["order"] f fd) (B : Bi mg) : FnOk P w K mg base CX0 (k + 1) f fd ["order"] spPlaces := by
  refine T.F.ok scPlaces (fun vs H Q E h => ?_) (fun cdv A outer s H vs Q E hr h => ?_)
  · obtain ⟨a, n, ns, rfl, _⟩ := h
    rfl
  · obtain ⟨a, n, ns, rfl, ha, ho, hn1, hn2, q⟩ := h
    have hlm : (ns.map V.int).length = n := by rw [List.length_map, ho.len]
    have hz : ∀ m : Nat, (List.replicate m [V.int 0]).flatten = (List.replicate m (0 : Int)).map V.int := by
      intro m
      induction m with
      | zero => rfl
      | succ m ih => rw [List.replicate_succ, List.replicate_succ, List.flatten_cons, ih]; rfl
    refine ⟨_, 
      (pss_cons (ps_set (i := 1) scPlaces.nd rfl (.inl rfl) (pe_op op_rep (pe_lst (pa_cons pe_int pa_nil)) (pe_callB call_len_seq (by rfl) B.len PySem.boot_len (pa_cons (pv 0) pa_nil))))
      (pss_cons (ps_for PassesOwn.never rfl (pi_enum (by rfl) B.enumerate (pa_cons (pv 0) pa_nil)) (pg_tup (by rfl) (pgs_cons (pg_name (i := 2) scPlaces.nd rfl (.inl rfl)) (pgs_cons (pg_name (i := 3) scPlaces.nd rfl (.inl rfl)) pgs_nil)))
        (pss_one (ps_asg (pv 2) (pg_sub (pv 1) (pv 3) set_list))))
      (pss_one (ps_ret (pv 1))))), ?_⟩
    refine ⟨line_small (by show 1 ≤ 16777216; decide), fun z nz => ?_⟩
    have s1 := same_new (o := .lst [.int 0]) nz
    refine ⟨_, rfl, a, _, rfl, .inl (SqL.of (s1 _ _ ha)), z, _, _, rfl, rfl, upd_same, by omega, by rw [hlm]; omega, line_small (by rw [hlm, Int.toNat_natCast]; show 1 * n ≤ _; omega), fun l nl => ?_⟩
    have s2 := s1.trans (same_new (o := .lst (List.replicate (((ns.map V.int).length : Nat) : Int).toNat [V.int 0]).flatten) nl)
    have nHl : H l = none := s1.free nl
    refine ⟨_, rfl, a, _, rfl, SqL.of (s2 _ _ ha), ?_⟩
    refine for_enumL (xs := ns.map V.int) (fun i σ H3 => ∃ (y2 y3 : Option V) (ps : List Int), σ = [some (.ref a), some (.ref l), y2, y3] ∧ H3 l = some (.lst (ps.map V.int)) ∧ ps.length = n ∧ (∀ (j : Nat) (x : Int), j < i → ns[j]? = some x → ps[x.toNat]? = some (j : Int)) ∧ Same H H3)
      ⟨none, none, List.replicate n 0, rfl, by rw [upd_same, hz, hlm, Int.toNat_natCast], by rw [List.length_replicate], fun j x hj => absurd hj (Nat.not_lt_zero _), s2⟩ (fun i σ H3 hP => by obtain ⟨_, _, _, _, _, _, _, sm⟩ := hP; exact SqL.of (sm _ _ ha)) (fun i x t σ H3 hx hP nt => ?_) (fun σ H3 hP => ?_)
    · obtain ⟨y2, y3, ps, rfl, hl3, el, hat, sm⟩ := hP
      obtain ⟨y, ey, rfl⟩ := int_at_inv hx
      have hy := ho.mem (List.mem_of_getElem? ey)
      have s3 := same_new (o := .tup [.int (i : Nat), .int y]) nt
      have hl4 := s3 _ _ hl3
      refine ⟨t, _, rfl, .inl (.inl upd_same), rfl, _, _, rfl, _, _, rfl, rfl, ?_⟩
      refine ⟨_, rfl, _, rfl, _, rfl, l, _, _, y.toNat, rfl, rfl, hl4, ix_n (by omega) (by rw [List.length_map]; omega), ?_⟩
      refine ⟨_, _, ps.set y.toNat (i : Int), rfl, by rw [upd_same, List.map_set], by rw [List.length_set]; exact el, fun j x hj hx2 => ?_, fun c o e => ?_⟩
      · by_cases c : j = i
        · subst c
          have e1 : x = y := Option.some.inj (hx2.symm.trans ey)
          subst e1
          rw [List.getElem?_set_self (by omega)]
        · have hx3 := ho.mem (List.mem_of_getElem? hx2)
          have ne : y.toNat ≠ x.toNat := fun e => c (nd_ix ho.nodup hx2 (by rw [ey]; congr 1; omega))
          rw [List.getElem?_set_ne ne]
          exact hat j x (by omega) hx2
      · rw [upd_ne (ne_of_none e nHl)]
        exact s3 _ _ (sm _ _ e)
    · obtain ⟨y2, y3, ps, rfl, hl3, el, hat, sm⟩ := hP
      rw [hlm] at hat
      refine ⟨_, rfl, q ps l H3 ⟨by rw [el, ho.len], fun j x hx => hat j x ?_ hx⟩ nHl hl3 sm⟩
      have := (List.getElem?_eq_some_iff.mp hx).1
      rw [ho.len] at this
      exact this
end
end Fo
namespace Fo
open PySem PySem.Spec PyProof.Rows L2
theorem g0_getD {s : List Int} {i : Nat} {x : Int} (h : s[i]? = some x) : g0 s i = x := g0_at h
def spSeats : Sp := fun vs H Q _ => ∃ (a b : Addr) (n : Nat) (xs ys : List Int), two vs H a b n xs ys ∧ ∀ (l : Addr) (H' : Hp), H l = none → H' l = some (.lst ((seatsL xs ys).map V.int)) → Same H H' → Q (.ref l) H'
section
variable {P : Program} {w : World} {K : PySem.W.Frag} {mg : Str → Option Value} {base : Heap}
theorem scSeats : FnScope ["one", "other", "places", "thing"] ["one", "other"] (defScope s_seats_in) := ⟨rfl, rfl, rfl, by decide +kernel, rfl, by decide +kernel, by decide +kernel⟩
set_option maxHeartbeats 2000000 in
theorem ok_seats {f fP : Addr} {fd fdP : FuncData} {k : Nat} (T : Df K mg "seats_in" s_seats_in ["one", "other"] f fd) (T_places_in : Df K mg "places_in" s_places_in ["order"] fP fdP) (B : Bi mg) : FnOk P w K mg base CX0 (k + 2) f fd ["one", "other"] spSeats := by
  have G_places_in : FnOk P w K mg base CX0 (k + 1) fP fdP ["order"] spPlaces := ok_places T_places_in B
  refine T.F.ok scSeats (fun vs H Q E h => ?_) (fun cdv A outer s H vs Q E hr h => ?_)
  · obtain ⟨a, b, n, xs, ys, ⟨rfl, _⟩, _⟩ := h
    rfl
  · obtain ⟨a, b, n, xs, ys, ⟨rfl, ha, hb, ox, oy, hn1, hn2⟩, q⟩ := h
    refine ⟨_, 
      (pss_cons (ps_set (i := 2) scSeats.nd rfl (.inr rfl) (pe_call G_places_in hr (by rfl) T_places_in.g T_places_in.F.kp T_places_in.b .nil pass0 (pa_cons (pv 1) pa_nil)))
      (pss_one (ps_ret (pe_lc (own := [("thing", 3)]) (g := (gName 3)) (tt := tYes) (te := (tOp (rIxL K) (tVar 2) (tVar 3))) rfl scSeats.nd (pi_list (pv 0)) (blkOk_by (N := ["one", "other", "places", "thing"]) (sc := defScope s_seats_in) (by decide +kernel)) (fun _ _ _ _ _ => (pg_name (i := 3) scSeats.nd rfl (.inl rfl))) (fun _ _ _ _ _ => pts_nil) (fun _ _ _ _ _ => (pe_ix ix_list (pv 2) (pv 3) (fun _ _ => rfl))))))), ?_⟩
    refine ⟨_, rfl, b, n, ys, rfl, hb, oy, hn1, hn2, fun ps l H1 hps nl hl s1 => ?_⟩
    refine ⟨_, rfl, a, rfl, ⟨_, SqL.of (s1 _ _ ha)⟩, fun D nD => ?_⟩
    have nHD : H D = none := s1.free nD
    refine lc_list (K := K) (a := a) (xs := xs.map V.int) (fun i H3 => H3 D = some (.lst (((seatsL xs ys).take i).map V.int)) ∧ H3 l = some (.lst (ps.map V.int)) ∧ Same H H3) ⟨upd_same, same_new nD _ _ hl, s1.trans (same_new nD)⟩ (fun i H3 _ hP => SqL.of (hP.2.2 _ _ ha)) (fun i x H3 hx hP => ?_) (fun H3 hP => ?_)
    · obtain ⟨y, ey, rfl⟩ := int_at_inv hx
      obtain ⟨hD3, hl3, sm⟩ := hP
      have hy := ox.mem (List.mem_of_getElem? ey)
      have hi := (List.getElem?_eq_some_iff.mp ey).1
      rw [ox.len] at hi
      refine ⟨rfl, _, rfl, _, rfl, l, _, _, _, rfl, rfl, SqL.of hl3, at_of (j := y.toNat) (by omega) (int_at (back_pos oy hps hy.1 hy.2)), _, hD3, line_lt (by rw [List.length_map, List.length_take]; omega), ?_, ?_, fun c o e => ?_⟩
      · rw [upd_same, take_more (seats_at ey), List.map_append]
        rfl
      · rw [upd_ne (ne_of_none hl nD)]
        exact hl3
      · rw [upd_ne (ne_of_none e nHD)]
        exact sm _ _ e
    · obtain ⟨hD3, hl3, sm⟩ := hP
      rw [List.take_of_length_le (by rw [seats_len, List.length_map]; exact Nat.le_refl _)] at hD3
      exact q D H3 nHD hD3 sm
end
end Fo
namespace Fo
open PySem PySem.Spec PyProof.Rows L2
def spSwap : Sp := fun vs H Q _ => ∃ (a b : Addr) (n : Nat) (xs ys : List Int), two vs H a b n xs ys ∧ ∀ (H' : Hp), Same H H' → Q (.int (farSwap xs ys)) H'
def spSpot : Sp := fun vs H Q _ => ∃ (a b : Addr) (n : Nat) (xs ys : List Int), two vs H a b n xs ys ∧ ∀ (H' : Hp), Same H H' → Q (.int (farSpot xs ys)) H'
def spShift : Sp := fun vs H Q _ => ∃ (a b : Addr) (n : Nat) (xs ys : List Int), two vs H a b n xs ys ∧ ∀ (H' : Hp), Same H H' → Q (.int (farShift xs ys)) H'
section
variable {P : Program} {w : World} {K : PySem.W.Frag} {mg : Str → Option Value} {base : Heap}
theorem scSwap : FnScope ["one", "other", "seats", "turned", "place", "seat", "later"] ["one", "other"] (defScope s_far_by_swap) := ⟨rfl, rfl, rfl, by decide +kernel, rfl, by decide +kernel, by decide +kernel⟩
set_option maxHeartbeats 2000000 in
theorem ok_swap {f fP : Addr} {fd fdP : FuncData} {k : Nat} (T : Df K mg "far_by_swap" s_far_by_swap ["one", "other"] f fd) (T_seats_in : Df K mg "seats_in" s_seats_in ["one", "other"] fP fdP) (G_seats_in : FnOk P w K mg base CX0 k fP fdP ["one", "other"] spSeats) (B : Bi mg) : FnOk P w K mg base CX0 (k + 1) f fd ["one", "other"] spSwap := by
  refine T.F.ok scSwap (fun vs H Q E h => ?_) (fun cdv A outer s H vs Q E hr h => ?_)
  · obtain ⟨a, b, n, xs, ys, ⟨rfl, _⟩, _⟩ := h
    rfl
  · obtain ⟨a, b, n, xs, ys, ⟨rfl, ha, hb, ox, oy, hn1, hn2⟩, q⟩ := h
    refine ⟨_, 
      (pss_cons (ps_set (i := 2) scSwap.nd rfl (.inl rfl) (pe_call G_seats_in hr (by rfl) T_seats_in.g T_seats_in.F.kp T_seats_in.b .nil pass0 (pa_cons (pv 0) (pa_cons (pv 1) pa_nil))))
      (pss_cons (ps_set (i := 3) scSwap.nd rfl (.inl rfl) pe_int)
      (pss_cons (ps_for PassesOwn.never rfl (pi_enum (by rfl) B.enumerate (pa_cons (pv 2) pa_nil)) (pg_tup (by rfl) (pgs_cons (pg_name (i := 4) scSwap.nd rfl (.inl rfl)) (pgs_cons (pg_name (i := 5) scSwap.nd rfl (.inr rfl)) pgs_nil)))
        (pss_one (ps_aug (i := 3) scSwap.nd rfl (.inl rfl) (pe_callB call_len_seq (by rfl) B.len PySem.boot_len (pa_cons (pe_lc (own := [("later", 6)]) (g := (gName 6)) (tt := (tTest (tOp (rI0 fun i j => .bl (decide (i < j))) (tVar 6) (tVar 5)))) (te := (tVar 6)) rfl scSwap.nd (pi_list (pe_slice sl_list (pv 2) (po_some (pe_op op_add (pv 4) pe_int)) po_none)) (blkOk_by (N := ["one", "other", "seats", "turned", "place", "seat", "later"]) (sc := defScope s_far_by_swap) (by decide +kernel)) (fun _ _ _ _ _ => (pg_name (i := 6) scSwap.nd rfl (.inl rfl))) (fun _ _ _ _ _ => (pts_one (pt_cmpR op_lt (pv 6) (pv 5) (nomark _)))) (fun _ _ _ _ _ => (pv 6))) pa_nil)) ip_add)))
      (pss_one (ps_ret (pv 3)))))), ?_⟩
    refine ⟨_, rfl, _, rfl, a, b, n, xs, ys, ⟨rfl, ha, hb, ox, oy, hn1, hn2⟩, fun l H1 nl hl s1 => ?_⟩
    have os := seats_ord ox oy
    refine ⟨_, rfl, l, _, rfl, SqL.of hl, ?_⟩
    refine for_enumL (xs := (seatsL xs ys).map V.int) (fun i σ H3 => ∃ (y4 y5 y6 : Option V), σ = [some (.ref a), some (.ref b), some (.ref l), some (.int ((sumN (rg i) (fun p => cntL (seatsL xs ys) p.toNat) : Nat) : Int)), y4, y5, y6] ∧ H3 l = some (.lst ((seatsL xs ys).map V.int)) ∧ Same H H3)
      ⟨none, none, none, rfl, hl, s1⟩ (fun i σ H3 hP => by obtain ⟨_, _, _, _, hl3, _⟩ := hP; exact SqL.of hl3) (fun i x t σ H3 hx hP nt => ?_) (fun σ H3 hP => ?_)
    · obtain ⟨y4, y5, y6, rfl, hl3, sm⟩ := hP
      obtain ⟨y, ey, rfl⟩ := int_at_inv hx
      have hi := (List.getElem?_eq_some_iff.mp ey).1
      rw [os.len] at hi
      have s3 := same_new (o := .tup [.int (i : Nat), .int y]) nt
      refine ⟨t, _, rfl, .inl (.inl upd_same), rfl, _, _, rfl, _, _, rfl, rfl, ?_⟩
      refine ⟨_, rfl, _, rfl, _, rfl, (i : Int), 1, rfl, rfl, _, rfl, l, _, rfl, SqL.of (s3 _ _ hl3), fun c nc => ?_⟩
      have s4 := s3.trans (same_new (o := .lst (cutV ((seatsL xs ys).map V.int) (some ((i : Int) + 1)) none)) nc)
      have ecut : cutV ((seatsL xs ys).map V.int) (some ((i : Int) + 1)) none = (((seatsL xs ys).drop (i + 1)).map V.int) := by
        rw [cut_ints, show (i : Int) + 1 = ((i + 1 : Nat) : Int) by omega, cutI_tail]
      have hc4 : (upd (upd H3 t (.tup [.int (i : Nat), .int y])) c (.lst (cutV ((seatsL xs ys).map V.int) (some ((i : Int) + 1)) none))) c = some (.lst (((seatsL xs ys).drop (i + 1)).map V.int)) := by rw [upd_same, ecut]
      refine ⟨c, rfl, ⟨_, SqL.of hc4⟩, fun D nD => ?_⟩
      have ncD : c ≠ D := ne_of_none hc4 nD
      refine lc_list (K := K) (a := c) (xs := ((seatsL xs ys).drop (i + 1)).map V.int) (fun m H5 => H5 D = some (.lst (((((seatsL xs ys).drop (i + 1)).take m).filter (fun z => decide (z < g0 (seatsL xs ys) i))).map V.int)) ∧ H5 c = some (.lst (((seatsL xs ys).drop (i + 1)).map V.int)) ∧ Same H3 H5)
        ⟨upd_same, by rw [upd_ne ncD]; exact hc4, s4.trans (same_new nD)⟩ (fun m H5 _ hP => SqL.of hP.2.1) (fun m x H5 hx hP => ?_) (fun H5 hP => ?_)
      · obtain ⟨hD5, hc5, s5⟩ := hP
        obtain ⟨z, ez, rfl⟩ := int_at_inv hx
        have eg : g0 (seatsL xs ys) i = y := g0_at ey
        refine ⟨rfl, _, rfl, _, rfl, z, y, rfl, rfl, _, rfl, ite2 (fun c => ?_) (fun c => ?_)⟩
        · have hz : z < y := of_decide_eq_true c
          refine ⟨_, rfl, _, hD5, line_lt ?_, ?_, by rw [upd_ne ncD]; exact hc5, fun u o e => ?_⟩
          · rw [List.length_map]
            refine Nat.lt_of_le_of_lt (List.length_filter_le _ _) ?_
            rw [List.length_take, List.length_drop, os.len]
            omega
          · rw [upd_same, filter_more _ ez, eg, decide_eq_true hz, if_pos rfl, List.map_append]
            rfl
          · rw [upd_ne (ne_of_none (s4 _ _ e) nD)]
            exact s5 _ _ e
        · refine ⟨?_, hc5, s5⟩
          rw [filter_more _ ez, eg, decide_eq_false (fun hz => c (decide_eq_true hz)), if_neg (by decide), List.append_nil]
          rw [eg] at hD5
          exact hD5
      · obtain ⟨hD5, hc5, s5⟩ := hP
        rw [List.length_map, List.take_length] at hD5
        refine ⟨D, _, rfl, .inl (SqL.of hD5), _, _, rfl, rfl, ?_⟩
        refine ⟨some (.int (i : Int)), some (.int y), y6, ?_, s5 _ _ hl3, sm.trans s5⟩
        rw [rg_succ, sumN_append, sumN_cons, sumN_nil, List.length_map]
        show [some (.ref a), some (.ref b), some (.ref l), some (V.int (((sumN (rg i) (fun p => cntL (seatsL xs ys) p.toNat) : Nat) : Int) + ((cntL (seatsL xs ys) i : Nat) : Int))), some (.int (i : Int)), some (.int y), y6] = _
        rw [Int.toNat_natCast, Int.natCast_add, Nat.add_zero]
    · obtain ⟨y4, y5, y6, rfl, hl3, sm⟩ := hP
      refine ⟨_, rfl, ?_⟩
      have z := q H3 sm
      unfold farSwap invN at z
      rw [List.length_map]
      exact z
theorem scSpot : FnScope ["one", "other", "place"] ["one", "other"] (defScope s_far_by_spot) := ⟨rfl, rfl, rfl, by decide +kernel, rfl, by decide +kernel, by decide +kernel⟩
set_option maxHeartbeats 2000000 in
theorem ok_spot {f : Addr} {fd : FuncData} {k : Nat} (T : Df K mg "far_by_spot" s_far_by_spot ["one", "other"] f fd) (B : Bi mg) : FnOk P w K mg base CX0 (k + 1) f fd ["one", "other"] spSpot := by
  refine T.F.ok scSpot (fun vs H Q E h => ?_) (fun cdv A outer s H vs Q E hr h => ?_)
  · obtain ⟨a, b, n, xs, ys, ⟨rfl, _⟩, _⟩ := h
    rfl
  · obtain ⟨a, b, n, xs, ys, ⟨rfl, ha, hb, ox, oy, hn1, hn2⟩, q⟩ := h
    have hxl : (xs.map V.int).length = n := by rw [List.length_map, ox.len]
    refine ⟨_, 
      (pss_one (ps_ret (pe_callB call_len_seq (by rfl) B.len PySem.boot_len (pa_cons (pe_lc (own := [("place", 2)]) (g := (gName 2)) (tt := (tTest (tOp rNe (tOp (rIxL K) (tVar 0) (tVar 2)) (tOp (rIxL K) (tVar 1) (tVar 2))))) (te := (tVar 2)) rfl scSpot.nd (pi_range1 (by rfl) B.range (pa_cons (pe_callB call_len_seq (by rfl) B.len PySem.boot_len (pa_cons (pv 0) pa_nil)) pa_nil)) (blkOk_by (N := ["one", "other", "place"]) (sc := defScope s_far_by_spot) (by decide +kernel)) (fun _ _ _ _ _ => (pg_name (i := 2) scSpot.nd rfl (.inl rfl))) (fun _ _ _ _ _ => (pts_one (pt_cmpR op_ne (pe_ix ix_list (pv 0) (pv 2) (fun _ _ => rfl)) (pe_ix ix_list (pv 1) (pv 2) (fun _ _ => rfl)) (nomark _)))) (fun _ _ _ _ _ => (pv 2))) pa_nil)))), ?_⟩
    refine ⟨_, rfl, a, _, rfl, .inl (SqL.of ha), _, rfl, by omega, by rw [hxl]; omega, fun D nD => ?_⟩
    rw [hxl, Int.toNat_natCast]
    refine lc_range (lo := 0) (n := n) (fun m H3 => H3 D = some (.lst (((rg m).filter (fun p => !decide (g0 xs p = g0 ys p))).map V.int)) ∧ Same H H3) ⟨upd_same, same_new nD⟩ (fun m H3 hm hP => ?_) (fun H3 hP => ?_)
    · obtain ⟨hD3, sm⟩ := hP
      obtain ⟨x, ex, _⟩ := ord_ix ox hm
      obtain ⟨y, ey, _⟩ := ord_ix oy hm
      have gx : g0 xs (m : Int) = x := g0_at ex
      have gy : g0 ys (m : Int) = y := g0_at ey
      have fm : ((rg (m + 1)).filter fun p => !decide (g0 xs p = g0 ys p)) = ((rg m).filter fun p => !decide (g0 xs p = g0 ys p)) ++ (if x = y then [] else [(m : Int)]) := by
        rw [rg_succ, List.filter_append, List.filter_cons, gx, gy]
        congr 1
        by_cases c : x = y
        · simp [c]
        · simp [c]
      refine ⟨rfl, _, rfl, _, rfl, a, _, _, _, rfl, rfl, SqL.of (sm _ _ ha), at_of (j := m) (by omega) (int_at ex), _, rfl, _, rfl, b, _, _, _, rfl, rfl, SqL.of (sm _ _ hb), at_of (j := m) (by omega) (int_at ey), rfl, _, rfl, ?_⟩
      by_cases c : x = y
      · subst c
        refine iteNS rfl ⟨?_, sm⟩
        rw [fm, if_pos rfl, List.append_nil]
        exact hD3
      · rw [decide_eq_false (fun e => c (V.int.inj e))]
        refine iteT ⟨_, rfl, _, hD3, line_lt ?_, ?_, fun u o e => ?_⟩
        · rw [List.length_map]
          refine Nat.lt_of_le_of_lt (List.length_filter_le _ _) ?_
          rw [rg_len]
          omega
        · rw [upd_same, fm, if_neg c, List.map_append, Int.zero_add]
          rfl
        · rw [upd_ne (ne_of_none e nD)]
          exact sm _ _ e
    · obtain ⟨hD3, sm⟩ := hP
      refine ⟨D, _, rfl, .inl (SqL.of hD3), ?_⟩
      have z := q H3 sm
      unfold farSpot spotL at z
      rw [ox.len] at z
      rw [List.length_map]
      exact z
theorem scShift : FnScope ["one", "other", "place", "seat"] ["one", "other"] (defScope s_far_by_shift) := ⟨rfl, rfl, rfl, by decide +kernel, rfl, by decide +kernel, by decide +kernel⟩
set_option maxHeartbeats 2000000 in
theorem ok_shift {f fP : Addr} {fd fdP : FuncData} {k : Nat} (T : Df K mg "far_by_shift" s_far_by_shift ["one", "other"] f fd) (T_seats_in : Df K mg "seats_in" s_seats_in ["one", "other"] fP fdP) (G_seats_in : FnOk P w K mg base CX0 k fP fdP ["one", "other"] spSeats) (B : Bi mg) : FnOk P w K mg base CX0 (k + 1) f fd ["one", "other"] spShift := by
  refine T.F.ok scShift (fun vs H Q E h => ?_) (fun cdv A outer s H vs Q E hr h => ?_)
  · obtain ⟨a, b, n, xs, ys, ⟨rfl, _⟩, _⟩ := h
    rfl
  · obtain ⟨a, b, n, xs, ys, ⟨rfl, ha, hb, ox, oy, hn1, hn2⟩, q⟩ := h
    refine ⟨_, 
      (pss_one (ps_ret (pe_callB (cr_max rfl) (by rfl) B.max (by decide +kernel) (pa_cons (pe_lc (own := [("place", 2), ("seat", 3)]) (g := (gTup K 2 (gCons (gName 2) (gCons (gName 3) gNil)))) (tt := tYes) (te := (tCB rAbs (tCons (tOp (rI0 fun i j => .int (i - j)) (tVar 2) (tVar 3)) tNil))) rfl scShift.nd (pi_enum (by rfl) B.enumerate (pa_cons (pe_call G_seats_in hr (by rfl) T_seats_in.g T_seats_in.F.kp T_seats_in.b .nil pass0 (pa_cons (pv 0) (pa_cons (pv 1) pa_nil))) pa_nil)) (blkOk_by (N := ["one", "other", "place", "seat"]) (sc := defScope s_far_by_shift) (by decide +kernel)) (fun _ _ _ _ _ => (pg_tup (by rfl) (pgs_cons (pg_name (i := 2) scShift.nd rfl (.inl rfl)) (pgs_cons (pg_name (i := 3) scShift.nd rfl (.inl rfl)) pgs_nil)))) (fun _ _ _ _ _ => pts_nil) (fun _ _ _ _ _ => (pe_callB call_abs (by rfl) B.abs (by decide +kernel) (pa_cons (pe_op op_sub (pv 2) (pv 3)) pa_nil)))) pa_nil)))), ?_⟩
    have os := seats_ord ox oy
    refine ⟨_, rfl, _, rfl, a, b, n, xs, ys, ⟨rfl, ha, hb, ox, oy, hn1, hn2⟩, fun l H1 nl hl s1 => ?_⟩
    refine ⟨l, _, rfl, SqL.of hl, fun D nD => ?_⟩
    have nlD : l ≠ D := ne_of_none hl nD
    have nHD : H D = none := s1.free nD
    refine lc_enumL (K := K) (a := l) (xs := (seatsL xs ys).map V.int) (fun m H3 => H3 D = some (.lst (((gapsL xs ys).take m).map V.int)) ∧ H3 l = some (.lst ((seatsL xs ys).map V.int)) ∧ Same H H3) ⟨upd_same, by rw [upd_ne nlD]; exact hl, s1.trans (same_new nD)⟩ (fun m H3 _ hP => SqL.of hP.2.1) (fun m x t H3 hx hP nt => ?_) (fun H3 hP => ?_)
    · obtain ⟨hD3, hl3, sm⟩ := hP
      obtain ⟨y, ey, rfl⟩ := int_at_inv hx
      have hi := (List.getElem?_eq_some_iff.mp ey).1
      rw [os.len] at hi
      have s3 := same_new (o := .tup [.int (m : Nat), .int y]) nt
      have eg : (gapsL xs ys)[m]? = some (absI ((m : Int) - y)) := by
        unfold gapsL rg
        rw [List.map_map, List.getElem?_map, List.getElem?_range (by rw [ox.len]; exact hi)]
        show some (absI ((m : Int) - g0 (seatsL xs ys) (m : Int))) = _
        rw [g0_at ey]
      refine ⟨t, _, rfl, .inl (.inl upd_same), rfl, _, _, rfl, _, _, rfl, rfl, rfl, ?_⟩
      refine ⟨_, rfl, _, rfl, (m : Int), y, rfl, rfl, _, rfl, _, s3 _ _ hD3, line_lt (by rw [List.length_map, List.length_take, gaps_len, ox.len]; omega), ?_, ?_, fun u o e => ?_⟩
      · rw [upd_same, take_more eg, List.map_append]
        rfl
      · rw [upd_ne nlD]
        exact s3 _ _ hl3
      · rw [upd_ne (ne_of_none e nHD)]
        exact s3 _ _ (sm _ _ e)
    · obtain ⟨hD3, hl3, sm⟩ := hP
      rw [List.take_of_length_le (by rw [gaps_len, List.length_map, seats_len]; exact Nat.le_refl _)] at hD3
      refine ⟨D, gapsL xs ys, rfl, SqL.of hD3, by rw [gaps_len, ox.len]; exact hn1, fun m hm hle => ?_⟩
      have e : farShift xs ys = m := maxL_of (gaps_nonneg xs ys) hm hle
      rw [← e]
      exact q H3 sm
theorem scKnown : FnScope ["way", "one", "other"] ["way", "one", "other"] (defScope s_known_far) := ⟨rfl, rfl, rfl, by decide +kernel, rfl, by decide +kernel, by decide +kernel⟩
theorem ok_known {f f4 f5 f6 : Addr} {fd d4 d5 d6 : FuncData} {k : Nat} (T : Df K mg "known_far" s_known_far ["way", "one", "other"] f fd) (T_far_by_swap : Df K mg "far_by_swap" s_far_by_swap ["one", "other"] f4 d4) (T_far_by_spot : Df K mg "far_by_spot" s_far_by_spot ["one", "other"] f5 d5) (T_far_by_shift : Df K mg "far_by_shift" s_far_by_shift ["one", "other"] f6 d6)
    (G_far_by_swap : FnOk P w K mg base CX0 k f4 d4 ["one", "other"] spSwap) (G_far_by_spot : FnOk P w K mg base CX0 k f5 d5 ["one", "other"] spSpot) (G_far_by_shift : FnOk P w K mg base CX0 k f6 d6 ["one", "other"] spShift) :
    FnOk P w K mg base CX0 (k + 1) f fd ["way", "one", "other"] spFar := by
  refine T.F.ok scKnown (fun vs H Q E h => ?_) (fun cdv A outer s H vs Q E hr h => ?_)
  · obtain ⟨z, a, b, n, xs, ys, rfl, _⟩ := h
    rfl
  · obtain ⟨z, a, b, n, xs, ys, rfl, hz, ha, hb, ox, oy, hn1, hn2, q⟩ := h
    refine ⟨_, 
      (pss_cons (ps_if (pt_cmpR op_eq (pv 0) pe_str (nomark _))
        (pss_one (ps_ret (pe_call G_far_by_swap hr (by rfl) T_far_by_swap.g T_far_by_swap.F.kp T_far_by_swap.b .nil pass0 (pa_cons (pv 1) (pa_cons (pv 2) pa_nil)))))
        pss_nil)
      (pss_cons (ps_if (pt_cmpR op_eq (pv 0) pe_str (nomark _))
        (pss_one (ps_ret (pe_call G_far_by_spot hr (by rfl) T_far_by_spot.g T_far_by_spot.F.kp T_far_by_spot.b .nil pass0 (pa_cons (pv 1) (pa_cons (pv 2) pa_nil)))))
        pss_nil)
      (pss_one (ps_ret (pe_call G_far_by_shift hr (by rfl) T_far_by_shift.g T_far_by_shift.F.kp T_far_by_shift.b .nil pass0 (pa_cons (pv 1) (pa_cons (pv 2) pa_nil))))))), ?_⟩
    rcases hz with rfl | rfl | rfl
    · refine ⟨_, rfl, rfl, _, rfl, ite2 (fun _ => ?_) (fun c => absurd (by decide +kernel) c)⟩
      exact ⟨_, rfl, _, rfl, a, b, n, xs, ys, ⟨rfl, ha, hb, ox, oy, hn1, hn2⟩, fun H2 s2 => by rw [← farW_swap]; exact q H2 s2⟩
    · refine ⟨_, rfl, rfl, _, rfl, ite2 (fun c => absurd c (by decide +kernel)) (fun _ => ?_)⟩
      refine ⟨_, rfl, rfl, _, rfl, ite2 (fun _ => ?_) (fun c => absurd (by decide +kernel) c)⟩
      exact ⟨_, rfl, _, rfl, a, b, n, xs, ys, ⟨rfl, ha, hb, ox, oy, hn1, hn2⟩, fun H2 s2 => by rw [← farW_spot]; exact q H2 s2⟩
    · refine ⟨_, rfl, rfl, _, rfl, ite2 (fun c => absurd c (by decide +kernel)) (fun _ => ?_)⟩
      refine ⟨_, rfl, rfl, _, rfl, ite2 (fun c => absurd c (by decide +kernel)) (fun _ => ?_)⟩
      exact ⟨_, rfl, _, rfl, a, b, n, xs, ys, ⟨rfl, ha, hb, ox, oy, hn1, hn2⟩, fun H2 s2 => by rw [← farW_shift]; exact q H2 s2⟩
end
end Fo
namespace Fo
open PySem PySem.Spec PyProof.Rows L2
theorem units65 {k : Nat} {A : Around} (r : Room k A) : A.units + 65 < cLine := by have := r.un; omega
theorem any_row (rs : List (List Int)) (o : List Int) : ((rs.map dL).any fun z => PyData.eqv z (dL o)) = decide (o ∈ rs) := by
  induction rs with
  | nil => rfl
  | cons a rs ih =>
    rw [List.map_cons, List.any_cons, ih, eqv_ints]
    by_cases c : a = o
    · subst c; simp
    · have c2 : ¬ o = a := fun e => c e.symm
      simp [c, c2]
end Fo
namespace Fo
open PySem PySem.Spec PyProof.Rows L2
/-! ### how far, by things -/
theorem sumN_le {l : List Int} {f g : Int → Nat} (h : ∀ x ∈ l, f x ≤ g x) : sumN l f ≤ sumN l g := by
  induction l with
  | nil => exact Nat.le_refl _
  | cons a l ih =>
    rw [sumN_cons, sumN_cons]
    have h1 := h a List.mem_cons_self
    have h2 := ih fun x hx => h x (List.mem_cons_of_mem _ hx)
    omega
theorem sumN_one {l : List Int} {f : Int → Nat} {x : Int} (h : x ∈ l) : f x ≤ sumN l f := by
  induction l with
  | nil => exact absurd h List.not_mem_nil
  | cons a l ih =>
    rw [sumN_cons]
    rcases List.mem_cons.mp h with rfl | h
    · omega
    · have := ih h
      omega
theorem ind_le {a : Bool} {n : Nat} (h : a = true → 1 ≤ n) : ind a ≤ n := by
  unfold ind
  cases a
  · exact Nat.zero_le _
  · exact h rfl
theorem ind_true {a : Bool} (h : a = true) : ind a = 1 := by rw [h]; rfl
theorem g0_seats {n : Nat} {xs ys : List Int} (o : IsOrd n xs) {p : Int} (h : p ∈ rg n) : g0 (seatsL xs ys) p = pos ys (g0 xs p) := by
  have h1 := rg_mem.mp h
  obtain ⟨x, hx, _⟩ := ord_ix o (j := p.toNat) (by omega)
  have e := g0_at hx
  have e2 := g0_at (seats_at (ys := ys) hx)
  rw [Int.toNat_of_nonneg h1.1] at e e2
  rw [e, e2]
def dT (xs ys : List Int) (t u : Int) : Nat := ind (decide (pos xs t < pos xs u) && decide (pos ys u < pos ys t))
def swT (n : Nat) (xs ys : List Int) : Nat := sumN (rg n) fun t => sumN (rg n) fun u => dT xs ys t u
def spT (n : Nat) (xs ys : List Int) : Nat := sumN (rg n) fun t => ind (!decide (pos xs t = pos ys t))
def shL (n : Nat) (xs ys : List Int) : List Int := (rg n).map fun t => absI (pos xs t - pos ys t)
theorem swap_T {n : Nat} {xs ys : List Int} (ox : IsOrd n xs) (oy : IsOrd n ys) : farSwap xs ys = ((swT n xs ys : Nat) : Int) := by
  unfold farSwap
  rw [inv_eq, seats_len, ox.len]
  unfold invF swT
  congr 1
  rw [sum_pos ox]
  apply sumN_congr
  intro t ht
  rw [sum_pos ox]
  apply sumN_congr
  intro u hu
  unfold dT
  rw [g0_seats ox (pos_in ox ht), g0_seats ox (pos_in ox hu), g0_pos ox ht, g0_pos ox hu]
theorem spot_T {n : Nat} {xs ys : List Int} (ox : IsOrd n xs) (oy : IsOrd n ys) : farSpot xs ys = ((spT n xs ys : Nat) : Int) := by
  unfold farSpot spotL spT
  rw [filter_len, ox.len]
  congr 1
  rw [sum_g0 ox (fun t => ind (!decide (pos xs t = pos ys t)))]
  apply sumN_congr
  intro p hp
  rw [pos_g0 ox hp]
  by_cases c : g0 xs p = g0 ys p
  · rw [decide_eq_true c, c, pos_g0 oy hp, decide_eq_true rfl]
  · have d : ¬ (p = pos ys (g0 xs p)) := fun e => c (by
      have := g0_pos oy (g0_in ox hp)
      rw [← e] at this
      exact this.symm)
    rw [decide_eq_false c, decide_eq_false d]
theorem shift_mem {n : Nat} {xs ys : List Int} (ox : IsOrd n xs) : ∀ g, g ∈ gapsL xs ys ↔ g ∈ shL n xs ys := by
  intro g
  unfold gapsL shL
  rw [ox.len, List.mem_map, List.mem_map]
  constructor
  · rintro ⟨p, hp, rfl⟩
    exact ⟨g0 xs p, g0_in ox hp, by rw [pos_g0 ox hp, g0_seats ox hp]⟩
  · rintro ⟨t, ht, rfl⟩
    exact ⟨pos xs t, pos_in ox ht, by rw [g0_seats ox (pos_in ox ht), g0_pos ox ht]⟩
theorem shift_T {n : Nat} {xs ys : List Int} (ox : IsOrd n xs) (hn : 1 ≤ n) : (∃ t ∈ rg n, farShift xs ys = absI (pos xs t - pos ys t)) ∧ ∀ t ∈ rg n, absI (pos xs t - pos ys t) ≤ farShift xs ys := by
  obtain ⟨h1, h2⟩ := maxL_mem (gaps_nonneg xs ys) (by rw [gaps_len, ox.len]; exact hn)
  constructor
  · obtain ⟨t, ht, e⟩ := List.mem_map.mp ((shift_mem ox _).mp h1)
    exact ⟨t, ht, e.symm⟩
  · intro t ht
    exact h2 _ ((shift_mem ox _).mpr (List.mem_map.mpr ⟨t, ht, rfl⟩))
theorem shift_of {n : Nat} {xs ys : List Int} {m : Int} (ox : IsOrd n xs) (h : ∃ t ∈ rg n, m = absI (pos xs t - pos ys t)) (hle : ∀ t ∈ rg n, absI (pos xs t - pos ys t) ≤ m) : farShift xs ys = m := by
  obtain ⟨t, ht, e⟩ := h
  refine maxL_of (gaps_nonneg xs ys) ((shift_mem ox _).mpr (List.mem_map.mpr ⟨t, ht, e.symm⟩)) fun x hx => ?_
  obtain ⟨u, hu, rfl⟩ := List.mem_map.mp ((shift_mem ox _).mp hx)
  exact hle u hu
/-! ### alike just where 0 -/
theorem invR_zero : ∀ {s : List Int}, invR s = 0 → s.Pairwise (· ≤ ·)
  | [], _ => List.Pairwise.nil
  | x :: r, h => by
    have h' : (r.filter (fun z => decide (z < x))).length + invR r = 0 := h
    refine List.Pairwise.cons (fun z hz => ?_) (invR_zero (by omega))
    have e : r.filter (fun z => decide (z < x)) = [] := List.eq_nil_of_length_eq_zero (by omega)
    have := List.filter_eq_nil_iff.mp e z hz
    simp at this
    exact this
theorem same_of_pos {n : Nat} {xs ys : List Int} (ox : IsOrd n xs) (oy : IsOrd n ys) (h : ∀ p ∈ rg n, pos ys (g0 xs p) = p) : xs = ys := by
  rw [g0_ord ox, g0_ord oy]
  apply List.map_congr_left
  intro p hp
  have e := g0_pos oy (g0_in ox hp)
  rw [h p hp] at e
  exact e.symm
theorem farW_zero {w : Str} {n : Nat} {xs ys : List Int} (hw : IsWay w) (ox : IsOrd n xs) (oy : IsOrd n ys) (hn : 1 ≤ n) (h : farW w xs ys = 0) : xs = ys := by
  rcases hw with rfl | rfl | rfl
  · rw [farW_swap] at h
    unfold farSwap at h
    rw [inv_NR] at h
    have hs := invR_zero (s := seatsL xs ys) (by omega)
    have e := sorted_eq (seats_ord ox oy) hs (rg_sorted n)
    refine same_of_pos ox oy fun p hp => ?_
    rw [← g0_seats ox hp, e]
    have h1 := rg_mem.mp hp
    have z : (rg n)[p.toNat]? = some p := by
      unfold rg
      rw [List.getElem?_map, List.getElem?_range (by omega)]
      show some ((p.toNat : Nat) : Int) = some p
      rw [Int.toNat_of_nonneg h1.1]
    have z2 := g0_at z
    rw [Int.toNat_of_nonneg h1.1] at z2
    exact z2
  · rw [farW_spot] at h
    unfold farSpot spotL at h
    have e : ((rg xs.length).filter fun p => !decide (g0 xs p = g0 ys p)) = [] := List.eq_nil_of_length_eq_zero (by omega)
    rw [g0_ord ox, g0_ord oy]
    apply List.map_congr_left
    intro p hp
    have := List.filter_eq_nil_iff.mp e p (by rw [ox.len]; exact hp)
    simpa using this
  · rw [farW_shift] at h
    have h2 := (shift_T (ys := ys) ox hn).2
    rw [h] at h2
    refine same_of_pos ox oy fun p hp => ?_
    have := h2 _ (g0_in ox hp)
    rw [pos_g0 ox hp] at this
    unfold absI at this
    split at this <;> omega
/-! ### by a third one never shorter -/
theorem farW_third {w : Str} {n : Nat} {xs ys zs : List Int} (hw : IsWay w) (ox : IsOrd n xs) (oy : IsOrd n ys) (oz : IsOrd n zs) (hn : 1 ≤ n) : farW w xs ys ≤ farW w xs zs + farW w zs ys := by
  rcases hw with rfl | rfl | rfl
  · rw [farW_swap, farW_swap, farW_swap, swap_T ox oy, swap_T ox oz, swap_T oz oy]
    have : swT n xs ys ≤ swT n xs zs + swT n zs ys := by
      unfold swT
      rw [← sumN_add]
      apply sumN_le
      intro t ht
      rw [← sumN_add]
      apply sumN_le
      intro u hu
      unfold dT
      apply ind_le
      intro h
      rw [Bool.and_eq_true] at h
      have h1 := of_decide_eq_true h.1
      have h2 := of_decide_eq_true h.2
      by_cases c : pos zs u < pos zs t
      · rw [ind_true (by rw [decide_eq_true h1, decide_eq_true c]; rfl)]
        omega
      · have ne : pos zs t ≠ pos zs u := fun e => by
          have := pos_inj oz ht hu e
          subst this
          omega
        rw [ind_true (a := decide (pos zs t < pos zs u) && decide (pos ys u < pos ys t)) (by rw [decide_eq_true (show pos zs t < pos zs u by omega), decide_eq_true h2]; rfl)]
        omega
    omega
  · rw [farW_spot, farW_spot, farW_spot, spot_T ox oy, spot_T ox oz, spot_T oz oy]
    have : spT n xs ys ≤ spT n xs zs + spT n zs ys := by
      unfold spT
      rw [← sumN_add]
      apply sumN_le
      intro t _
      apply ind_le
      intro h
      by_cases c : pos xs t = pos zs t
      · have d : ¬ (pos zs t = pos ys t) := fun e => by
          rw [c, e] at h
          simp at h
        rw [ind_true (a := !decide (pos zs t = pos ys t)) (by rw [decide_eq_false d]; rfl)]
        omega
      · rw [ind_true (a := !decide (pos xs t = pos zs t)) (by rw [decide_eq_false c]; rfl)]
        omega
    omega
  · rw [farW_shift, farW_shift, farW_shift]
    obtain ⟨t, ht, e⟩ := (shift_T (ys := ys) ox hn).1
    have h1 := (shift_T (ys := zs) ox hn).2 t ht
    have h2 := (shift_T (ys := ys) oz hn).2 t ht
    rw [e]
    unfold absI at h1 h2 ⊢
    split at h1 <;> split at h2 <;> split <;> omega
/-! ### called otherwise, and from behind -/
/-- two pairs of orders whose things stand alike -/
theorem farW_called {w : Str} {n : Nat} {xs ys xs' ys' : List Int} {r : Int → Int} (hw : IsWay w) (ox : IsOrd n xs) (oy : IsOrd n ys) (ox' : IsOrd n xs') (oy' : IsOrd n ys') (hn : 1 ≤ n) (hr : IsOrd n ((rg n).map r)) (h1 : ∀ t ∈ rg n, pos xs' (r t) = pos xs t) (h2 : ∀ t ∈ rg n, pos ys' (r t) = pos ys t) : farW w xs' ys' = farW w xs ys := by
  have sr : ∀ f : Int → Nat, sumN (rg n) f = sumN (rg n) fun t => f (r t) := fun f => by
    have e : sumN ((rg n).map r) f = sumN (rg n) fun t => f (r t) := sumN_map _ _ _
    rw [← e]
    exact (sumN_perm hr f).symm
  have rin : ∀ t ∈ rg n, r t ∈ rg n := fun t ht => rg_mem.mpr (hr.mem (List.mem_map.mpr ⟨t, ht, rfl⟩))
  have ron : ∀ t' ∈ rg n, ∃ t ∈ rg n, r t = t' := fun t' ht' => List.mem_map.mp ((List.Perm.mem_iff hr).mpr ht')
  rcases hw with rfl | rfl | rfl
  · rw [farW_swap, farW_swap, swap_T ox' oy', swap_T ox oy]
    congr 1
    unfold swT
    rw [sr]
    apply sumN_congr
    intro t ht
    rw [sr]
    apply sumN_congr
    intro u hu
    unfold dT
    rw [h1 t ht, h1 u hu, h2 t ht, h2 u hu]
  · rw [farW_spot, farW_spot, spot_T ox' oy', spot_T ox oy]
    congr 1
    unfold spT
    rw [sr]
    apply sumN_congr
    intro t ht
    rw [h1 t ht, h2 t ht]
  · rw [farW_shift, farW_shift]
    obtain ⟨⟨t, ht, e⟩, hle⟩ := shift_T (ys := ys) ox hn
    refine shift_of ox' ⟨r t, rin t ht, by rw [h1 t ht, h2 t ht]; exact e⟩ fun t' ht' => ?_
    obtain ⟨u, hu, rfl⟩ := ron t' ht'
    rw [h1 u hu, h2 u hu]
    exact hle u hu
theorem behind_ord {n : Nat} {ns ms : List Int} (o1 : IsOrd n ns) (o2 : IsOrd n ms) : IsOrd n (behindL ns ms) := by
  have h : (behindL ns ms).Perm ((rg n).map (g0 ns)) := List.Perm.map _ o2
  rw [← g0_ord o1] at h
  exact h.trans o1
theorem behind_pos {n : Nat} {zs xs : List Int} (oz : IsOrd n zs) (ox : IsOrd n xs) : ∀ t ∈ rg n, pos (behindL zs xs) (g0 zs t) = pos xs t := by
  intro t ht
  have h1 := rg_mem.mp ht
  obtain ⟨j, _, ej, pj⟩ := pos_at ox h1.1 h1.2
  obtain ⟨z, hz, _⟩ := ord_ix oz (j := t.toNat) (by omega)
  have e := g0_at hz
  rw [Int.toNat_of_nonneg h1.1] at e
  rw [e, pj]
  exact pos_of (behind_ord oz ox) (behind_at ej hz)
theorem rev_pos {n : Nat} {xs : List Int} (ox : IsOrd n xs) : ∀ t ∈ rg n, pos xs.reverse t = (n : Int) - 1 - pos xs t := by
  intro t ht
  have h1 := rg_mem.mp ht
  obtain ⟨j, hj, ej, pj⟩ := pos_at ox h1.1 h1.2
  have hl := ox.len
  have er : xs.reverse[n - 1 - j]? = some t := by
    rw [List.getElem?_reverse (by omega), hl, show n - 1 - (n - 1 - j) = j by omega]
    exact ej
  rw [pj, pos_of (n := n) ((List.reverse_perm xs).trans ox) er]
  omega
theorem farW_rev {w : Str} {n : Nat} {xs ys : List Int} (hw : IsWay w) (ox : IsOrd n xs) (oy : IsOrd n ys) (hn : 1 ≤ n) : farW w xs.reverse ys.reverse = farW w xs ys := by
  have ox' : IsOrd n xs.reverse := (List.reverse_perm xs).trans ox
  have oy' : IsOrd n ys.reverse := (List.reverse_perm ys).trans oy
  rcases hw with rfl | rfl | rfl
  · rw [farW_swap, farW_swap, swap_T ox' oy', swap_T ox oy]
    congr 1
    unfold swT
    rw [sumN_swap]
    apply sumN_congr
    intro t ht
    apply sumN_congr
    intro u hu
    unfold dT
    rw [rev_pos ox u hu, rev_pos ox t ht, rev_pos oy u hu, rev_pos oy t ht]
    congr 1
    congr 1
    · by_cases c : pos xs t < pos xs u
      · rw [decide_eq_true c, decide_eq_true (by omega)]
      · rw [decide_eq_false c, decide_eq_false (by omega)]
    · by_cases c : pos ys u < pos ys t
      · rw [decide_eq_true c, decide_eq_true (by omega)]
      · rw [decide_eq_false c, decide_eq_false (by omega)]
  · rw [farW_spot, farW_spot, spot_T ox' oy', spot_T ox oy]
    congr 1
    unfold spT
    apply sumN_congr
    intro t ht
    rw [rev_pos ox t ht, rev_pos oy t ht]
    by_cases c : pos xs t = pos ys t
    · rw [decide_eq_true c, decide_eq_true (by omega)]
    · rw [decide_eq_false c, decide_eq_false (by omega)]
  · rw [farW_shift, farW_shift]
    have ea : ∀ t ∈ rg n, absI (pos xs.reverse t - pos ys.reverse t) = absI (pos xs t - pos ys t) := fun t ht => by
      rw [rev_pos ox t ht, rev_pos oy t ht]
      unfold absI
      split <;> split <;> omega
    obtain ⟨⟨t, ht, e⟩, hle⟩ := shift_T (ys := ys) ox hn
    exact shift_of ox' ⟨t, ht, by rw [ea t ht]; exact e⟩ fun u hu => by rw [ea u hu]; exact hle u hu
/-! ### how far at most -/
theorem invR_two (s : List Int) : 2 * invR s + s.length ≤ s.length * s.length := by
  induction s with
  | nil => exact Nat.le_refl _
  | cons x r ih =>
    show 2 * ((r.filter _).length + invR r) + (r.length + 1) ≤ (r.length + 1) * (r.length + 1)
    have h1 : (r.filter (fun z => decide (z < x))).length ≤ r.length := List.length_filter_le _ _
    have h2 : (r.length + 1) * (r.length + 1) = r.length * r.length + r.length + r.length + 1 := by
      rw [Nat.add_mul, Nat.mul_add]
      omega
    omega
theorem swap_most {n : Nat} {xs ys : List Int} (ox : IsOrd n xs) : 2 * farSwap xs ys ≤ (n : Int) * ((n : Int) - 1) := by
  unfold farSwap
  rw [inv_NR]
  have h := invR_two (seatsL xs ys)
  rw [seats_len, ox.len] at h
  have e : (n : Int) * ((n : Int) - 1) = ((n * n : Nat) : Int) - (n : Int) := by
    rw [Int.mul_sub, Int.mul_one, Int.natCast_mul]
  rw [e]
  omega
theorem spot_most {n : Nat} {xs ys : List Int} (ox : IsOrd n xs) : farSpot xs ys ≤ n := by
  unfold farSpot spotL
  rw [ox.len]
  have h := List.length_filter_le (fun p => !decide (g0 xs p = g0 ys p)) (rg n)
  rw [rg_len] at h
  omega
theorem spot_one {n : Nat} {xs ys : List Int} (ox : IsOrd n xs) (oy : IsOrd n ys) : farSpot xs ys ≠ 1 := by
  intro h
  unfold farSpot at h
  obtain ⟨p, hp⟩ := List.length_eq_one_iff.mp (show (spotL xs ys).length = 1 by omega)
  have mem : ∀ q, q ∈ spotL xs ys ↔ q ∈ rg n ∧ g0 xs q ≠ g0 ys q := fun q => by
    unfold spotL
    rw [List.mem_filter, ox.len]
    simp
  have hpm := (mem p).mp (by rw [hp]; exact List.mem_cons_self)
  have hq := pos_in oy (g0_in ox hpm.1)
  have e := g0_pos oy (g0_in ox hpm.1)
  have nq : pos ys (g0 xs p) ≠ p := fun z => hpm.2 (by rw [z] at e; exact e.symm)
  have same : g0 xs (pos ys (g0 xs p)) = g0 ys (pos ys (g0 xs p)) := by
    by_cases c : g0 xs (pos ys (g0 xs p)) = g0 ys (pos ys (g0 xs p))
    · exact c
    · have := (mem _).mpr ⟨hq, c⟩
      rw [hp] at this
      exact absurd (List.mem_singleton.mp this) nq
  rw [e] at same
  have e2 := pos_g0 ox hq
  rw [same, pos_g0 ox hpm.1] at e2
  exact nq e2.symm
theorem shift_most {n : Nat} {xs ys : List Int} (ox : IsOrd n xs) (oy : IsOrd n ys) (hn : 1 ≤ n) : farShift xs ys ≤ (n : Int) - 1 := by
  obtain ⟨t, ht, e⟩ := (shift_T (ys := ys) ox hn).1
  have h1 := rg_mem.mp (pos_in ox ht)
  have h2 := rg_mem.mp (pos_in oy ht)
  rw [e]
  unfold absI
  split <;> omega
theorem below_sum (n : Nat) : ∀ b : Nat, b ≤ n → sumN (rg n) (fun j => ind (decide (j < (b : Int)))) = b := by
  induction n with
  | zero => intro b hb; have : b = 0 := by omega
            subst this; rfl
  | succ n ih =>
    intro b hb
    rw [rg_succ, sumN_append, sumN_cons, sumN_nil]
    by_cases c : b = n + 1
    · subst c
      rw [sumN_congr (g := fun j => ind (decide (j < (n : Int)))) (fun j hj => by
        have := rg_mem.mp hj
        rw [decide_eq_true this.2, decide_eq_true (show j < ((n + 1 : Nat) : Int) by omega)]), ih n (Nat.le_refl _), ind_true (decide_eq_true (by omega))]
    · rw [ih b (by omega), decide_eq_false (show ¬ ((n : Int) < (b : Int)) by omega)]
      rfl
/-- so many others stand the other way round as a thing is shifted -/
theorem turned_most {n : Nat} {xs ys : List Int} (ox : IsOrd n xs) (oy : IsOrd n ys) {t : Int} (ht : t ∈ rg n) : pos ys t - pos xs t ≤ ((sumN (rg n) (fun u => dT xs ys t u) : Nat) : Int) := by
  have h1 := rg_mem.mp (pos_in ox ht)
  have h2 := rg_mem.mp (pos_in oy ht)
  have ea := below_sum n (pos xs t).toNat (by omega)
  have eb := below_sum n (pos ys t).toNat (by omega)
  rw [sum_pos ox] at ea
  rw [sum_pos oy] at eb
  rw [Int.toNat_of_nonneg h1.1] at ea
  rw [Int.toNat_of_nonneg h2.1] at eb
  have : sumN (rg n) (fun u => ind (decide (pos ys u < pos ys t))) ≤ sumN (rg n) (fun u => ind (decide (pos xs u < pos xs t))) + sumN (rg n) (fun u => dT xs ys t u) := by
    rw [← sumN_add]
    apply sumN_le
    intro u hu
    apply ind_le
    intro h
    have hlt := of_decide_eq_true h
    by_cases c : pos xs u < pos xs t
    · rw [ind_true (decide_eq_true c)]
      omega
    · have ne : pos xs t ≠ pos xs u := fun e => by
        have := pos_inj ox ht hu e
        subst this
        omega
      unfold dT
      rw [ind_true (a := decide (pos xs t < pos xs u) && decide (pos ys u < pos ys t)) (by rw [decide_eq_true (show pos xs t < pos xs u by omega), decide_eq_true hlt]; rfl)]
      omega
  omega
theorem dT_turn (xs ys : List Int) (t u : Int) : dT ys xs t u = dT xs ys u t := by
  unfold dT
  rw [Bool.and_comm]
theorem turned_abs {n : Nat} {xs ys : List Int} (ox : IsOrd n xs) (oy : IsOrd n ys) {t : Int} (ht : t ∈ rg n) : absI (pos xs t - pos ys t) ≤ ((sumN (rg n) (fun u => dT xs ys t u) : Nat) : Int) + ((sumN (rg n) (fun u => dT xs ys u t) : Nat) : Int) := by
  have h1 := turned_most ox oy ht
  have h2 := turned_most oy ox ht
  rw [sumN_congr (g := fun u => dT xs ys u t) (fun u _ => dT_turn xs ys t u)] at h2
  unfold absI
  split <;> omega
theorem shift_swap {n : Nat} {xs ys : List Int} (ox : IsOrd n xs) (oy : IsOrd n ys) (hn : 1 ≤ n) : farShift xs ys ≤ farSwap xs ys := by
  obtain ⟨t, ht, e⟩ := (shift_T (ys := ys) ox hn).1
  have h1 := turned_most ox oy ht
  have h2 := turned_most oy ox ht
  have b1 : sumN (rg n) (fun u => dT xs ys t u) ≤ swT n xs ys := sumN_one (f := fun t => sumN (rg n) fun u => dT xs ys t u) ht
  have b2 : sumN (rg n) (fun u => dT ys xs t u) ≤ swT n ys xs := sumN_one (f := fun t => sumN (rg n) fun u => dT ys xs t u) ht
  have e1 := swap_T ox oy
  have e2 := swap_T oy ox
  have e3 := farSwap_turn ox oy
  rw [e]
  unfold absI
  split <;> omega
theorem spot_swap {n : Nat} {xs ys : List Int} (ox : IsOrd n xs) (oy : IsOrd n ys) : farSpot xs ys ≤ 2 * farSwap xs ys := by
  rw [spot_T ox oy, swap_T ox oy]
  have : spT n xs ys ≤ swT n xs ys + swT n xs ys := by
    have e : swT n xs ys = sumN (rg n) fun t => sumN (rg n) fun u => dT xs ys u t := by
      unfold swT
      rw [sumN_swap]
    have e2 : swT n xs ys + swT n xs ys = sumN (rg n) fun t => sumN (rg n) (fun u => dT xs ys t u) + sumN (rg n) (fun u => dT xs ys u t) := by
      rw [sumN_add, ← e]
      rfl
    rw [e2]
    unfold spT
    apply sumN_le
    intro t ht
    apply ind_le
    intro h
    have ha := turned_abs ox oy ht
    have ne : ¬ (pos xs t = pos ys t) := fun z => by
      rw [z] at h
      simp at h
    unfold absI at ha
    split at ha <;> omega
  omega
/-! ### backs -/
theorem back_list {n : Nat} {ns ps : List Int} (o : IsOrd n ns) (h : IsBack ns ps) : ps = (rg n).map (pos ns) := by
  apply List.ext_getElem?
  intro t
  by_cases c : t < n
  · have e := back_pos o h (x := (t : Int)) (by omega) (by omega)
    rw [Int.toNat_natCast] at e
    rw [e]
    unfold rg
    rw [List.map_map, List.getElem?_map, List.getElem?_range c]
    rfl
  · rw [List.getElem?_eq_none (by rw [h.1, o.len]; omega), List.getElem?_eq_none (by rw [List.length_map, rg_len]; omega)]
theorem back_ord {n : Nat} {ns ps : List Int} (o : IsOrd n ns) (h : IsBack ns ps) : IsOrd n ps := by
  rw [back_list o h]
  exact pos_ord o
theorem back_g0 {n : Nat} {ns ps : List Int} (o : IsOrd n ns) (h : IsBack ns ps) : ∀ t ∈ rg n, g0 ps t = pos ns t := by
  intro t ht
  have h1 := rg_mem.mp ht
  have e := g0_at (back_pos o h h1.1 h1.2)
  rw [Int.toNat_of_nonneg h1.1] at e
  exact e
theorem back_back {n : Nat} {ns ps : List Int} (o : IsOrd n ns) (h : IsBack ns ps) : IsBack ps ns := by
  refine ⟨h.1.symm, fun j x hx => ?_⟩
  have hj := (List.getElem?_eq_some_iff.mp hx).1
  rw [h.1, o.len] at hj
  obtain ⟨i, hi, ei, pi⟩ := pos_at o (x := (j : Int)) (by omega) (by omega)
  have e := back_pos o h (x := (j : Int)) (by omega) (by omega)
  rw [Int.toNat_natCast, hx] at e
  have ex : x = (i : Int) := (Option.some.inj e).trans pi
  rw [ex, Int.toNat_natCast]
  exact ei
theorem spot_back {n : Nat} {xs ys ps qs : List Int} (ox : IsOrd n xs) (oy : IsOrd n ys) (hp : IsBack xs ps) (hq : IsBack ys qs) : farSpot ps qs = farSpot xs ys := by
  rw [spot_T ox oy]
  unfold farSpot spotL spT
  rw [filter_len, hp.1, ox.len]
  congr 1
  apply sumN_congr
  intro t ht
  rw [back_g0 ox hp t ht, back_g0 oy hq t ht]
theorem behind_back {n : Nat} {xs ps : List Int} (ox : IsOrd n xs) (hp : IsBack xs ps) : behindL xs ps = rg n := by
  rw [back_list ox hp]
  unfold behindL
  rw [List.map_map]
  have e : (rg n).map ((fun p => xs.getD p.toNat 0) ∘ pos xs) = (rg n).map (fun t => t) := List.map_congr_left fun t ht => g0_pos ox ht
  rw [e, List.map_id']
theorem behind_assoc {n : Nat} {xs ys zs : List Int} (ox : IsOrd n xs) (oy : IsOrd n ys) (oz : IsOrd n zs) : behindL (behindL xs ys) zs = behindL xs (behindL ys zs) := by
  apply List.ext_getElem?
  intro i
  by_cases c : i < n
  · obtain ⟨z, hz, z0, z1⟩ := ord_ix oz c
    obtain ⟨y, hy, y0, y1⟩ := ord_ix oy (j := z.toNat) (by omega)
    obtain ⟨x, hx, _⟩ := ord_ix ox (j := y.toNat) (by omega)
    rw [behind_at hz (behind_at hy hx), behind_at (behind_at hz hy) hx]
  · rw [List.getElem?_eq_none (by rw [behind_len, oz.len]; omega), List.getElem?_eq_none (by rw [behind_len, behind_len, oz.len]; omega)]
end Fo
namespace Fo
open PySem PySem.Spec PyProof.Rows L2
def nearL (w : Str) (n : Nat) (xs : List Int) (r : Int) : List (List Int) := (allK n n).filter fun o => decide (farW w xs o ≤ r)
theorem filter_moreL {l : List (List Int)} {m : Nat} {x : List Int} (p : List Int → Bool) (h : l[m]? = some x) : (l.take (m + 1)).filter p = (l.take m).filter p ++ (if p x then [x] else []) := by
  rw [List.take_add_one, h, List.filter_append]
  show _ ++ List.filter p [x] = _
  rw [List.filter_cons]
  rfl
theorem extend_LL {H : Hp} : ∀ {as bs : List Addr} {rs ss : List (List Int)}, LL H as rs → LL H bs ss → LL H (as ++ bs) (rs ++ ss)
  | [], _, [], _, _, h => h
  | [], _, _ :: _, _, h, _ => h.elim
  | _ :: _, _, [], _, h, _ => h.elim
  | _ :: _, _, _ :: _, _, h, h2 => ⟨h.1, extend_LL h.2 h2⟩
end Fo
namespace Fo
open PySem PySem.Spec PyProof.Rows L2
/-! ### sorted(rows), rows a list of lists of whole numbers -/
def rowsR (ps : List (Addr × List Int)) : List (Addr × List Int) := ps.mergeSort fun p q => decide (p.2 ≤ q.2)
def rSortedR (K : PySem.W.Frag) : List V → Hp → VK → Prop := fun vs H Q => ∃ (a : Addr) (ps : List (Addr × List Int)), vs = [V.ref a] ∧ SqL K H a (ps.map fun p => V.ref p.1) ∧ (∀ p ∈ ps, Dp K H (.ref p.1) (dL p.2)) ∧
  ∀ q, H q = none → Q (.ref q) (upd H q (.lst ((rowsR ps).map fun p => V.ref p.1)))
theorem each_refs : ∀ {ps : List (Addr × List Int)} {us : List Value}, Vals (ps.map fun p => V.ref p.1) us → PySem.W.EachIs (fun v (p : Addr × List Int) => v = Value.ref p.1) us ps
  | [], _, .nil => .nil
  | p :: ps, _, .cons r t => .cons r (each_refs t)
theorem refs_each : ∀ {ps : List (Addr × List Int)} {us : List Value}, PySem.W.EachIs (fun v (p : Addr × List Int) => v = Value.ref p.1) us ps → Vals (ps.map fun p => V.ref p.1) us
  | _, _, .nil => .nil
  | _, _, .cons r t => .cons r (refs_each t)
theorem each_all {R S : Value → (Addr × List Int) → Prop} : ∀ {us : List Value} {ps : List (Addr × List Int)}, PySem.W.EachIs R us ps → (∀ v p, p ∈ ps → R v p → S v p) → PySem.W.EachIs S us ps
  | _, _, .nil, _ => .nil
  | _, _, .cons r t, h => .cons (h _ _ List.mem_cons_self r) (each_all t fun v p hp => h v p (List.mem_cons_of_mem _ hp))
theorem cr_sortedR {X : Cx} (hu : X.A.units + 64 < cLine) : CallR X (.builtin "sorted") (rSortedR X.K) := by
  intro pins s σ H vs us Q J rel hz
  obtain ⟨a, ps, ev, sq, hd, q⟩ := hz
  subst ev
  obtain ⟨its, rv, hl, hlen⟩ := J.list sq
  rw [Vals.ref1 rel]
  have e := each_refs rv
  have el := rv.length
  rw [List.length_map] at el hlen
  refine PySem.W.sorted_data (enc := fun p : Addr × List Int => .list (p.2.map .int)) hl.isList e (each_all e fun v p hp hv => ?_) (PySem.W.AllAlike.of fun b b' => ?_) (PySem.W.Sortable.others fun b => ⟨(fun z => by cases z), (fun xs z => by cases z)⟩) hlen (fun b _ => ?_) fun out ol eo => ?_
  · subst hv
    exact Dp.reads J _ _ _ (hd p hp) rfl
  · show PySem.W.alike (.list (b.2.map .int)) (.list (b'.2.map .int)) = true
    simp only [PySem.W.alike]
    exact PySem.W.alike_ints _ _
  · show X.A.units + 2 + (dL b.2).depth < cLine
    rw [depth_list]
    omega
  · rw [PySem.W.dataLe_rows (fun p : Addr × List Int => p.2)] at eo
    obtain ⟨ep, he⟩ := PyProof.Rows.sortedAll_at s.heap its out.toArray
    have hl2 : ((rowsR ps).map fun p => V.ref p.1).length ≤ sizeLine := by
      unfold rowsR
      rw [List.length_map, List.length_mergeSort]
      exact hlen
    exact ⟨.ref _, upd H (s.heap.objs.size + 1) (.lst ((rowsR ps).map fun p => V.ref p.1)), J.laid (t' := s.toks) (fun _ _ => PyProof.Rows.sortedAll_old) (Nat.le_succ _) ⟨hl2, out, ep, refs_each eo, he⟩, rfl, q _ (J.hok.fresh (Nat.le_succ _))⟩
theorem rows_le_total (a b : Addr × List Int) : (decide (a.2 ≤ b.2) || decide (b.2 ≤ a.2)) = true := by
  rcases List.le_total a.2 b.2 with h | h
  · rw [decide_eq_true h]; rfl
  · rw [decide_eq_true h, Bool.or_true]
theorem rowsR_perm (ps : List (Addr × List Int)) : (rowsR ps).Perm ps := List.mergeSort_perm _ _
theorem rowsR_sorted (ps : List (Addr × List Int)) : ((rowsR ps).map (·.2)).Pairwise (· ≤ ·) := by
  have h := List.pairwise_mergeSort (le := fun p q : Addr × List Int => decide (p.2 ≤ q.2)) (fun a b c h1 h2 => decide_eq_true (List.le_trans (of_decide_eq_true h1) (of_decide_eq_true h2))) rows_le_total ps
  exact List.pairwise_map.mpr (h.imp fun h => of_decide_eq_true h)
theorem rows_eq {a b : List (List Int)} (hp : a.Perm b) (ha : a.Pairwise (· ≤ ·)) (hb : b.Pairwise (· ≤ ·)) : a = b := List.Perm.eq_of_pairwise (fun x y _ _ h1 h2 => List.le_antisymm h1 h2) ha hb hp
/-- all orders stand in order -/
theorem extO_sorted (n : Nat) (o : List Int) : (extO n o).Pairwise (· < ·) := by
  unfold extO
  rw [List.pairwise_map]
  have h : (rg n).Pairwise (· < ·) := by
    unfold rg
    exact List.Pairwise.map _ (fun a b h => by omega) List.pairwise_lt_range
  exact (h.filter _).imp fun {a b} h => by
    induction o with
    | nil => exact List.cons_lt_cons_iff.mpr (.inl h)
    | cons x o ih => exact List.cons_lt_cons_iff.mpr (.inr ⟨rfl, ih⟩)
theorem lt_snoc {a b : List Int} (hl : a.length = b.length) (h : a < b) (x y : Int) : a ++ [x] < b ++ [y] := by
  induction a generalizing b with
  | nil =>
    match b, hl with
    | [], _ => exact absurd h (List.lt_irrefl _)
  | cons u a ih =>
    match b, hl with
    | v :: b, hl =>
      rcases List.cons_lt_cons_iff.mp h with h1 | ⟨h1, h2⟩
      · exact List.cons_lt_cons_iff.mpr (.inl h1)
      · exact List.cons_lt_cons_iff.mpr (.inr ⟨h1, ih (by simpa using hl) h2⟩)
theorem allK_sorted {n : Nat} : ∀ k, (allK n k).Pairwise (· < ·)
  | 0 => List.pairwise_singleton _ _
  | k + 1 => by
    show List.Pairwise _ ((allK n k).flatMap (extO n))
    rw [List.pairwise_flatMap]
    refine ⟨fun o _ => extO_sorted n o, (allK_sorted k).imp_of_mem fun {a b} ha hb h x hx y hy => ?_⟩
    obtain ⟨t, _, rfl⟩ := List.mem_map.mp hx
    obtain ⟨u, _, rfl⟩ := List.mem_map.mp hy
    exact lt_snoc (by rw [(allK_row k a ha).1, (allK_row k b hb).1]) h t u
theorem near_sorted {w : Str} {n : Nat} {xs : List Int} {r : Int} : (nearL w n xs r).Pairwise (· ≤ ·) := ((allK_sorted n).filter _).imp fun h => List.le_of_lt h
end Fo
namespace Fo
open PySem PySem.Spec PyProof.Rows L2
/-! ### all orders: each once -/
theorem allK_mem {n : Nat} : ∀ (k : Nat) (r : List Int), r.length = k → r.Nodup → (∀ x ∈ r, x ∈ rg n) → r ∈ allK n k
  | 0, r, hl, _, _ => by rw [List.length_eq_zero_iff.mp hl]; exact List.mem_cons_self
  | k + 1, r, hl, hn, hs => by
    have hne : r ≠ [] := fun e => by rw [e] at hl; cases hl
    have e := List.dropLast_concat_getLast hne
    rw [← e] at hn hs ⊢
    rw [List.nodup_append] at hn
    have ih := allK_mem k r.dropLast (by rw [List.length_dropLast, hl]; rfl) hn.1 fun x hx => hs x (List.mem_append.mpr (.inl hx))
    refine List.mem_flatMap.mpr ⟨_, ih, List.mem_map.mpr ⟨r.getLast hne, List.mem_filter.mpr ⟨hs _ (List.mem_append.mpr (.inr (List.mem_singleton.mpr rfl))), ?_⟩, rfl⟩⟩
    rw [decide_eq_false (fun z => hn.2.2 _ z _ (List.mem_singleton.mpr rfl) rfl)]
    rfl
theorem ord_mem {n : Nat} {r : List Int} (o : IsOrd n r) : r ∈ allK n n := allK_mem n r o.len o.nodup fun x hx => rg_mem.mpr (o.mem hx)
theorem allK_nodup {n : Nat} : ∀ k, (allK n k).Nodup
  | 0 => List.nodup_cons.mpr ⟨List.not_mem_nil, List.nodup_nil⟩
  | k + 1 => by
    have ih := allK_nodup (n := n) k
    show List.Pairwise _ ((allK n k).flatMap (extO n))
    rw [List.pairwise_flatMap]
    refine ⟨fun o _ => ?_, ih.imp fun {a b} hab x hx y hy e => ?_⟩
    · unfold extO
      refine List.Pairwise.map _ (fun a b h e => h ?_) ((rg_nodup n).filter _)
      have := List.append_cancel_left e
      exact (List.cons.inj this).1
    · obtain ⟨t, _, rfl⟩ := List.mem_map.mp hx
      obtain ⟨u, _, rfl⟩ := List.mem_map.mp hy
      exact hab (List.append_inj_left' e rfl)
theorem nodup_lenG : ∀ {l m : List (List Int)}, l.Nodup → (∀ x ∈ l, x ∈ m) → l.length ≤ m.length
  | [], m, _, _ => Nat.zero_le _
  | a :: l, m, hn, hs => by
    obtain ⟨h1, h2⟩ := List.nodup_cons.mp hn
    have ha := hs a List.mem_cons_self
    have ih := nodup_lenG (l := l) (m := m.erase a) h2 fun x hx => by
      have ne : x ≠ a := fun e => h1 (by rw [← e]; exact hx)
      exact (List.mem_erase_of_ne ne).mpr (hs x (List.mem_cons_of_mem _ hx))
    rw [List.length_erase_of_mem ha] at ih
    have : 0 < m.length := List.length_pos_of_mem ha
    rw [List.length_cons]
    omega
theorem nodup_perm {l m : List (List Int)} (hl : l.Nodup) (hm : m.Nodup) (h : ∀ x, x ∈ l ↔ x ∈ m) : l.Perm m := by
  rw [List.perm_iff_count]
  intro a
  have c : ∀ {l : List (List Int)}, l.Nodup → l.count a = if a ∈ l then 1 else 0 := by
    intro l hl
    by_cases ha : a ∈ l
    · rw [if_pos ha]
      have h1 := List.nodup_iff_count.mp hl a
      have h2 := List.count_pos_iff.mpr ha
      omega
    · rw [if_neg ha]
      exact List.count_eq_zero.mpr ha
  rw [c hl, c hm]
  by_cases ha : a ∈ l
  · rw [if_pos ha, if_pos ((h a).mp ha)]
  · rw [if_neg ha, if_neg (fun z => ha ((h a).mpr z))]
theorem seats_inj {n : Nat} {xs a b : List Int} (ox : IsOrd n xs) (oa : IsOrd n a) (ob : IsOrd n b) (e : seatsL a xs = seatsL b xs) : a = b := by
  apply List.ext_getElem?
  intro i
  by_cases h : i < n
  · obtain ⟨x, ex, x0, x1⟩ := ord_ix oa h
    obtain ⟨y, ey, y0, y1⟩ := ord_ix ob h
    have h1 := seats_at (ys := xs) ex
    have h2 := seats_at (ys := xs) ey
    rw [e, h2] at h1
    have h3 := Option.some.inj h1
    rw [ex, ey, pos_inj ox (rg_mem.mpr ⟨x0, x1⟩) (rg_mem.mpr ⟨y0, y1⟩) h3.symm]
  · rw [List.getElem?_eq_none (by rw [oa.len]; omega), List.getElem?_eq_none (by rw [ob.len]; omega)]
/-- all orders, called by their seats in one of them, are all orders -/
theorem seats_all {n : Nat} {xs : List Int} (ox : IsOrd n xs) : ((allK n n).map fun o => seatsL o xs).Perm (allK n n) := by
  have hnd : ((allK n n).map fun o => seatsL o xs).Nodup := by
    show List.Pairwise _ _
    rw [List.pairwise_map]
    exact (allK_nodup n).imp_of_mem fun ha hb h e => h (seats_inj ox (all_ord ha) (all_ord hb) e)
  have hsub : ∀ x ∈ (allK n n).map fun o => seatsL o xs, x ∈ allK n n := fun x h => by
    obtain ⟨o, ho, rfl⟩ := List.mem_map.mp h
    exact ord_mem (seats_ord (all_ord ho) ox)
  refine nodup_perm hnd (allK_nodup n) fun x => ⟨hsub x, fun h => Classical.byContradiction fun hx => ?_⟩
  have hl := nodup_lenG (l := x :: (allK n n).map fun o => seatsL o xs) (m := allK n n) (List.nodup_cons.mpr ⟨hx, hnd⟩) fun y hy => by
    rcases List.mem_cons.mp hy with rfl | hy
    · exact h
    · exact hsub y hy
  rw [List.length_cons, List.length_map] at hl
  omega
end Fo
namespace Fo
open PySem PySem.Spec PyProof.Rows L2
/-! ### orders within, with things called or places put otherwise -/
theorem map_all {n : Nat} {g : List Int → List Int} (hg : ∀ o, IsOrd n o → IsOrd n (g o)) (hi : ∀ a b, IsOrd n a → IsOrd n b → g a = g b → a = b) : ((allK n n).map g).Perm (allK n n) := by
  have hnd : ((allK n n).map g).Nodup := by
    show List.Pairwise _ _
    rw [List.pairwise_map]
    exact (allK_nodup n).imp_of_mem fun ha hb h e => h (hi _ _ (all_ord ha) (all_ord hb) e)
  have hsub : ∀ x ∈ (allK n n).map g, x ∈ allK n n := fun x h => by
    obtain ⟨o, ho, rfl⟩ := List.mem_map.mp h
    exact ord_mem (hg _ (all_ord ho))
  refine nodup_perm hnd (allK_nodup n) fun x => ⟨hsub x, fun h => Classical.byContradiction fun hx => ?_⟩
  have hl := nodup_lenG (l := x :: (allK n n).map g) (m := allK n n) (List.nodup_cons.mpr ⟨hx, hnd⟩) fun y hy => by
    rcases List.mem_cons.mp hy with rfl | hy
    · exact h
    · exact hsub y hy
  rw [List.length_cons, List.length_map] at hl
  omega
theorem near_map {w : Str} {n : Nat} {xs : List Int} {r : Int} {g : List Int → List Int} (hg : ∀ o, IsOrd n o → IsOrd n (g o)) (hi : ∀ a b, IsOrd n a → IsOrd n b → g a = g b → a = b) (hf : ∀ o, IsOrd n o → farW w (g xs) (g o) = farW w xs o) : ((nearL w n xs r).map g).Perm (nearL w n (g xs) r) := by
  have h := (map_all hg hi).filter fun o => decide (farW w (g xs) o ≤ r)
  rw [List.filter_map] at h
  have e : (allK n n).filter ((fun o => decide (farW w (g xs) o ≤ r)) ∘ g) = nearL w n xs r := by
    unfold nearL
    apply List.filter_congr
    intro o ho
    show decide (farW w (g xs) (g o) ≤ r) = _
    rw [hf o (all_ord ho)]
  rw [e] at h
  exact h
theorem back_is {n : Nat} {ns : List Int} (o : IsOrd n ns) : IsBack ns ((rg n).map (pos ns)) := by
  refine ⟨by rw [List.length_map, rg_len, o.len], fun j x hx => ?_⟩
  have hb := o.mem (List.mem_of_getElem? hx)
  unfold rg
  rw [List.map_map, List.getElem?_map, List.getElem?_range (by omega)]
  show some (pos ns ((x.toNat : Nat) : Int)) = _
  rw [show ((x.toNat : Nat) : Int) = x by omega, pos_of o hx]
theorem behind_first {n : Nat} {o : List Int} (oo : IsOrd n o) : behindL (rg n) o = o := by
  unfold behindL
  have e : o.map (fun p => (rg n).getD p.toNat 0) = o.map id := by
    apply List.map_congr_left
    intro p hp
    have hb := oo.mem hp
    unfold rg
    rw [List.getD_eq_getElem?_getD, List.getElem?_map, List.getElem?_range (by omega)]
    show ((p.toNat : Nat) : Int) = p
    omega
  rw [e, List.map_id]
theorem behind_last {n : Nat} {o : List Int} (oo : IsOrd n o) : behindL o (rg n) = o := by
  have h := by_places o
  rw [oo.len] at h
  exact h.symm
theorem rg_ord (n : Nat) : IsOrd n (rg n) := List.Perm.refl _
theorem behind_inj {n : Nat} {z a b : List Int} (oz : IsOrd n z) (oa : IsOrd n a) (ob : IsOrd n b) (e : behindL z a = behindL z b) : a = b := by
  have hb := back_is oz
  have op := back_ord oz hb
  have h := congrArg (behindL ((rg n).map (pos z))) e
  rw [← behind_assoc op oz oa, ← behind_assoc op oz ob, behind_back op (back_back oz hb), behind_first oa, behind_first ob] at h
  exact h
theorem behind_inj2 {n : Nat} {z a b : List Int} (oz : IsOrd n z) (oa : IsOrd n a) (ob : IsOrd n b) (e : behindL a z = behindL b z) : a = b := by
  have hb := back_is oz
  have op := back_ord oz hb
  have h := congrArg (fun l => behindL l ((rg n).map (pos z))) e
  rw [behind_assoc oa oz op, behind_assoc ob oz op, behind_back oz hb, behind_last oa, behind_last ob] at h
  exact h
theorem far_behind {w : Str} {n : Nat} {z xs o : List Int} (hw : IsWay w) (oz : IsOrd n z) (ox : IsOrd n xs) (oo : IsOrd n o) (hn : 1 ≤ n) : farW w (behindL z xs) (behindL z o) = farW w xs o :=
  farW_called (r := g0 z) hw ox oo (behind_ord oz ox) (behind_ord oz oo) hn (by rw [← g0_ord oz]; exact oz) (behind_pos oz ox) (behind_pos oz oo)
theorem g0_behind {n : Nat} {xs z : List Int} (oz : IsOrd n z) {p : Int} (hp : p ∈ rg n) : g0 (behindL xs z) p = g0 xs (g0 z p) := by
  obtain ⟨h0, h1⟩ := rg_mem.mp hp
  obtain ⟨x, ex, _⟩ := ord_ix oz (j := p.toNat) (by omega)
  have ep : p = ((p.toNat : Nat) : Int) := by omega
  have e1 : g0 z p = x := by rw [ep]; exact g0_at ex
  unfold behindL
  rw [e1, ep]
  have : (z.map fun p => xs.getD p.toNat 0)[p.toNat]? = some (xs.getD x.toNat 0) := by rw [List.getElem?_map, ex]; rfl
  rw [g0_at this]
  rfl
theorem spot_behind {n : Nat} {z xs o : List Int} (oz : IsOrd n z) (ox : IsOrd n xs) (oo : IsOrd n o) : farSpot (behindL xs z) (behindL o z) = farSpot xs o := by
  unfold farSpot spotL
  rw [behind_len, oz.len, ox.len, filter_len, filter_len, sum_g0 oz (fun p => ind (!decide (g0 xs p = g0 o p)))]
  congr 1
  apply sumN_congr
  intro p hp
  rw [g0_behind oz hp, g0_behind oz hp]
theorem rev_ord {n : Nat} {o : List Int} (oo : IsOrd n o) : IsOrd n o.reverse := (List.reverse_perm o).trans oo
theorem rev_inj {a b : List Int} (e : a.reverse = b.reverse) : a = b := by rw [← List.reverse_reverse a, e, List.reverse_reverse]
/-! lists of rows as pairs -/
theorem LL_zip {H : Hp} : ∀ {as : List Addr} {rs : List (List Int)}, LL H as rs → (as.zip rs).map (·.1) = as ∧ (as.zip rs).map (·.2) = rs ∧ ∀ p ∈ as.zip rs, H p.1 = some (.lst (p.2.map V.int))
  | [], [], _ => ⟨rfl, rfl, fun p hp => absurd hp List.not_mem_nil⟩
  | [], _ :: _, h => h.elim
  | _ :: _, [], h => h.elim
  | a :: as, r :: rs, h => by
    obtain ⟨h1, h2, h3⟩ := LL_zip h.2
    refine ⟨congrArg (a :: ·) h1, congrArg (r :: ·) h2, fun p hp => ?_⟩
    rcases List.mem_cons.mp hp with rfl | hp
    · exact h.1
    · exact h3 p hp
theorem LL_ps {H : Hp} : ∀ {qs : List (Addr × List Int)}, (∀ p ∈ qs, H p.1 = some (.lst (p.2.map V.int))) → LL H (qs.map (·.1)) (qs.map (·.2))
  | [], _ => trivial
  | q :: qs, h => ⟨h q List.mem_cons_self, LL_ps fun p hp => h p (List.mem_cons_of_mem _ hp)⟩
/-- what is sorted of rows -/
theorem sorted_rows {K : PySem.W.Frag} {H : Hp} {D : Addr} {bs : List Addr} {rs ss : List (List Int)} (hD : H D = some (.lst (bs.map V.ref))) (hL : LL H bs rs) (hp : rs.Perm ss) (hs : ss.Pairwise (· ≤ ·)) :
    ∃ ps : List (Addr × List Int), SqL K H D (ps.map fun p => V.ref p.1) ∧ (∀ p ∈ ps, Dp K H (.ref p.1) (dL p.2)) ∧ ∀ l, H l = none → ∃ cs : List Addr, ((rowsR ps).map fun p => V.ref p.1) = cs.map V.ref ∧ LL (upd H l (.lst (cs.map V.ref))) cs ss ∧ ∀ c ∈ cs, c ∈ bs := by
  obtain ⟨h1, h2, h3⟩ := LL_zip hL
  have e1 : bs.map V.ref = (bs.zip rs).map fun p => V.ref p.1 := by
    have h4 := congrArg (List.map V.ref) h1
    rw [List.map_map] at h4
    exact h4.symm
  refine ⟨bs.zip rs, SqL.of (by rw [hD, e1]), fun p hp2 => dp_list (h3 p hp2), fun l nl => ⟨(rowsR (bs.zip rs)).map (·.1), by rw [List.map_map]; rfl, ?_, fun c hc => ?_⟩⟩
  · have e3 : (rowsR (bs.zip rs)).map (·.2) = ss := by
      refine rows_eq (((rowsR_perm _).map _).trans ?_) (rowsR_sorted _) hs
      rw [h2]
      exact hp
    rw [← e3]
    refine LL_ps fun p hp2 => ?_
    have h4 := h3 p ((rowsR_perm _).mem_iff.mp hp2)
    rw [upd_ne (ne_of_none h4 nl)]
    exact h4
  · obtain ⟨p, hp2, rfl⟩ := List.mem_map.mp hc
    have := (rowsR_perm _).mem_iff.mp hp2
    rw [← h1]
    exact List.mem_map.mpr ⟨p, this, rfl⟩
end Fo
namespace Fo
open PySem PySem.Spec PyProof.Rows L2
def spAllO : Sp := fun vs H Q _ => ∃ n : Nat, vs = [.int n] ∧ 1 ≤ n ∧ n ≤ 6 ∧ ∀ (l : Addr) (as : List Addr) (H' : Hp), H l = none → H' l = some (.lst (as.map V.ref)) → LL H' as (allK n n) → (∀ a ∈ as, H a = none ∧ a ≠ l) → as.Nodup → Same H H' → Q (.ref l) H'
end Fo
namespace Fo
open PySem PySem.Spec PyProof.Rows L2
/-- an inner for over a list that stands still -/
theorem in_list {K : PySem.W.Frag} {a : Addr} {xs : List V} {g1 : TG} {tt1 : TT} {te : TE} {vs1 : List Nat} {σ2 : L2.St} {H4 : Hp} {D : Addr} {Nx : Hp → Prop} (Pw : Nat → Hp → Prop) (h0 : Pw 0 H4) (hl : ∀ i H, i ≤ xs.length → Pw i H → SqL K H a xs)
    (hs : ∀ j x H, xs[j]? = some x → Pw j H → g1 x (wipe σ2 vs1) H fun σ3 H5 => wipe σ3 vs1 = wipe σ2 vs1 ∧ tt1 σ3 H5 fun b H6 =>
      if b = true then te σ3 H6 fun y H7 => ∃ acc, H7 D = some (.lst acc) ∧ acc.length < sizeLine ∧ Pw (j + 1) (upd H7 D (.lst (acc ++ [y]))) else Pw (j + 1) H6) (hd : ∀ H, Pw xs.length H → Nx H) :
    ∃ W1 : Nat → Nat → Hp → Prop, (∃ m, W1 0 m H4) ∧ ∀ j k H, W1 j k H →
      ((Itl K a).stop j H ∧ Nx H) ∨ ((Itl K a).go j H ∧ ∃ Nx1 : Hp → Prop, (∀ H', Nx1 H' → ∃ k', k' < k ∧ W1 (j + 1) k' H') ∧ ∀ x H', (Itl K a).yld j H x H' → g1 x (wipe σ2 vs1) H' fun σ3 H5 => wipe σ3 vs1 = wipe σ2 vs1 ∧ tt1 σ3 H5 fun b H6 =>
        if b = true then te σ3 H6 fun y H7 => ∃ acc, H7 D = some (.lst acc) ∧ acc.length < sizeLine ∧ Nx1 (upd H7 D (.lst (acc ++ [y]))) else Nx1 H6) := by
  refine ⟨fun j m H => m = xs.length - j ∧ j ≤ xs.length ∧ Pw j H, ⟨xs.length, by simp, Nat.zero_le _, h0⟩, ?_⟩
  rintro j m H ⟨rfl, hi, p⟩
  have q := hl j H hi p
  by_cases hlt : j < xs.length
  · refine .inr ⟨⟨xs, xs[j], q, by simp [hlt]⟩, Pw (j + 1), fun H' p' => ⟨xs.length - (j + 1), by omega, rfl, hlt, p'⟩, fun x H' y => ?_⟩
    obtain ⟨e, y⟩ := y
    subst e
    exact hs j x _ (y _ q) p
  · have e : j = xs.length := by omega
    subst e
    exact .inl ⟨⟨xs, q, Nat.le_refl _⟩, hd H p⟩
/-! ### orders with choices -/
def extC (ch : List Int) (o : List Int) : List (List Int) := (ch.filter fun t => !decide (t ∈ o)).map fun t => o ++ [t]
def ordW (chs : List (List Int)) : List (List Int) := chs.foldl (fun b ch => b.flatMap (extC ch)) [[]]
theorem ordW_more {chs : List (List Int)} {i : Nat} {ch : List Int} (h : chs[i]? = some ch) : ordW (chs.take (i + 1)) = (ordW (chs.take i)).flatMap (extC ch) := by
  unfold ordW
  rw [List.take_add_one, h, List.foldl_append]
  rfl
theorem extC_more {ch : List Int} {o : List Int} {j : Nat} {t : Int} (h : ch[j]? = some t) : extC (ch.take (j + 1)) o = extC (ch.take j) o ++ (if t ∈ o then [] else [o ++ [t]]) := by
  unfold extC
  rw [List.take_add_one, h, List.filter_append, List.map_append]
  congr 1
  show List.map _ (List.filter _ [t]) = _
  rw [List.filter_cons]
  by_cases c : t ∈ o
  · rw [decide_eq_true c, if_pos c]
    rfl
  · rw [decide_eq_false c, if_neg c]
    rfl
theorem extC_len (ch o : List Int) : (extC ch o).length ≤ ch.length := by
  unfold extC
  rw [List.length_map]
  exact List.length_filter_le _ _
theorem flatC_len (ch : List Int) : ∀ l : List (List Int), (l.flatMap (extC ch)).length ≤ l.length * ch.length
  | [] => Nat.zero_le _
  | o :: l => by
    rw [List.flatMap_cons, List.length_append, List.length_cons, Nat.add_mul, Nat.one_mul]
    have := flatC_len ch l
    have := extC_len ch o
    omega
theorem ordW_all (n : Nat) : ∀ i, ordW (List.replicate i (rg n)) = allK n i
  | 0 => rfl
  | i + 1 => by
    have h := ordW_more (chs := List.replicate (i + 1) (rg n)) (i := i) (ch := rg n) (by rw [List.getElem?_replicate, if_pos (by omega)])
    rw [List.take_of_length_le (by rw [List.length_replicate]; omega), List.take_replicate, Nat.min_eq_left (by omega), ordW_all n i] at h
    exact h
theorem ordW_rows : ∀ (i : Nat) (chs : List (List Int)), ∀ r ∈ ordW (chs.take i), r.length ≤ i
  | 0, chs, r, h => by
    rw [List.take_zero] at h
    rw [List.mem_singleton.mp h]
    exact Nat.le_refl _
  | i + 1, chs, r, h => by
    cases e : chs[i]? with
    | none =>
      have : chs.take (i + 1) = chs.take i := by rw [List.take_add_one, e]; simp
      rw [this] at h
      exact Nat.le_succ_of_le (ordW_rows i chs r h)
    | some ch =>
      rw [ordW_more e] at h
      obtain ⟨o, ho, hr⟩ := List.mem_flatMap.mp h
      obtain ⟨t, _, rfl⟩ := List.mem_map.mp hr
      have := ordW_rows i chs o ho
      rw [List.length_append]
      show _ + 1 ≤ _
      omega
def spOrdW : Sp := fun vs H Q _ => ∃ (c : Addr) (cs : List Addr) (chs : List (List Int)), vs = [.ref c] ∧ H c = some (.lst (cs.map V.ref)) ∧ LL H cs chs ∧ chs.length ≤ 12 ∧ (∀ ch ∈ chs, ch.length ≤ 12) ∧ (∀ i, i ≤ chs.length → (ordW (chs.take i)).length ≤ 100000) ∧
  ∀ (l : Addr) (as : List Addr) (H' : Hp), H l = none → H' l = some (.lst (as.map V.ref)) → LL H' as (ordW chs) → (∀ a ∈ as, H a = none ∧ a ≠ l) → as.Nodup → Same H H' → Q (.ref l) H'
section
variable {P : Program} {w : World} {K : PySem.W.Frag} {mg : Str → Option Value} {base : Heap}
theorem scOrdW : FnScope ["choices", "begun", "things", "start", "thing"] ["choices"] (defScope s_orders_with) := ⟨rfl, rfl, rfl, by decide +kernel, rfl, by decide +kernel, by decide +kernel⟩
set_option maxHeartbeats 4000000 in
theorem ok_ordW {f : Addr} {fd : FuncData} {k : Nat} (T : Df K mg "orders_with" s_orders_with ["choices"] f fd) (B : Bi mg) : FnOk P w K mg base CX0 (k + 1) f fd ["choices"] spOrdW := by
  refine T.F.ok scOrdW (fun vs H Q E h => ?_) (fun cdv A outer s H vs Q E hr h => ?_)
  · obtain ⟨c, cs, chs, rfl, _⟩ := h
    rfl
  · obtain ⟨c0, ks, chs, rfl, hc, hLc, hcl, hch, hsz, q⟩ := h
    have hkl := hLc.len
    refine ⟨_, 
      (pss_cons (ps_set (i := 1) scOrdW.nd rfl (.inl rfl) (pe_lst (pa_cons (pe_lst pa_nil) pa_nil)))
      (pss_cons (ps_for PassesOwn.never rfl (pi_list (pv 0)) (pg_name (i := 2) scOrdW.nd rfl (.inr rfl))
        (pss_one (ps_setLc2 (i := 1) (own := [("start", 3), ("thing", 4)]) (vs1 := [4]) (wi1 := iList K (tVar 2)) (g := (gName 3)) (tt := tYes) (g1 := (gName 4)) (tt1 := (tTest (tOp (rIn K true) (tVar 4) (tVar 3)))) (te := (tOp rCat (tVar 3) (tLst (tCons (tVar 4) tNil)))) (by rfl) scOrdW.nd rfl rfl (sw_true rfl rfl rfl (by decide +kernel)) (pi_list (pv 1)) (blkOk_by (N := ["choices", "begun", "things", "start", "thing"]) (sc := defScope s_orders_with) (by decide +kernel)) (by decide) (fun _ _ _ _ _ => (pg_name (i := 3) scOrdW.nd rfl (.inl rfl))) (fun _ _ _ _ _ => pts_nil) (fun _ _ _ _ _ => (pi_list (pv 2))) (fun _ _ _ _ _ => (pg_name (i := 4) scOrdW.nd rfl (.inl rfl))) (fun _ _ _ _ _ => (pts_one (pt_cmpR op_notIn_seq (pv 4) (pv 3) (by rfl)))) (fun _ _ _ _ _ => (pe_op op_cat (pv 3) (pe_lst (pa_cons (pv 4) pa_nil)))))))
      (pss_one (ps_ret (pv 1))))), ?_⟩
    refine ⟨Nat.zero_le _, fun e0 ne0 => ⟨line_small (by show 1 ≤ 16777216; decide), fun bg nbg => ?_⟩⟩
    have s0 := same_new (o := .lst []) ne0
    have s1 := same_new (o := .lst [.ref e0]) nbg
    have nHbg : H bg = none := s0.free nbg
    have neb : e0 ≠ bg := ne_of_none upd_same nbg
    refine ⟨_, rfl, c0, rfl, ⟨_, SqL.of (s1 _ _ (s0 _ _ hc))⟩, ?_⟩
    refine for_list (xs := ks.map V.ref) (fun i σ H3 => ∃ (bg : Addr) (y2 y3 y4 : Option V) (as : List Addr), σ = [some (.ref c0), some (.ref bg), y2, y3, y4] ∧ H bg = none ∧ H3 bg = some (.lst (as.map V.ref)) ∧ LL H3 as (ordW (chs.take i)) ∧ (∀ c ∈ as, H c = none ∧ c ≠ bg) ∧ as.Nodup ∧ Same H H3)
      ⟨bg, _, _, _, [e0], rfl, nHbg, upd_same, ⟨s1 _ _ upd_same, trivial⟩, fun c hc => by rw [List.mem_singleton.mp hc]; exact ⟨ne0, neb⟩, List.nodup_cons.mpr ⟨List.not_mem_nil, List.nodup_nil⟩, s0.trans s1⟩ (fun i σ H3 _ hP => by obtain ⟨_, _, _, _, _, _, _, _, _, _, _, sm⟩ := hP; exact SqL.of (sm _ _ hc)) (fun i x σ H3 hx hP => ?_) (fun σ H3 hP => ?_)
    · obtain ⟨bg, y2, y3, y4, as, rfl, nbg, hb3, hLL, hfr, hnd, sm⟩ := hP
      obtain ⟨kc, ek, rfl⟩ := ref_at_inv hx
      obtain ⟨ch, ech, hkc⟩ := hLc.get ek
      have hi := (List.getElem?_eq_some_iff.mp ech).1
      have hchl := hch ch (List.mem_of_getElem? ech)
      have hlen := hLL.len
      have hal := hsz i (by omega)
      have hkc3 := sm _ _ hkc
      refine ⟨_, rfl, bg, rfl, ⟨_, SqL.of hb3⟩, fun D nD => ?_⟩
      have nHD : H D = none := sm.free nD
      refine lc2_list (K := K) (a := bg) (xs := as.map V.ref) (fun m H4 => ∃ cs : List Addr, H4 D = some (.lst (cs.map V.ref)) ∧ LL H4 cs (((ordW (chs.take i)).take m).flatMap (extC ch)) ∧ (∀ c ∈ cs, H3 c = none ∧ c ≠ D) ∧ cs.Nodup ∧ Same H3 H4)
        ⟨[], upd_same, trivial, fun c hc => absurd hc List.not_mem_nil, List.nodup_nil, same_new nD⟩ (fun m H4 _ hP => by obtain ⟨_, _, _, _, _, s4⟩ := hP; exact SqL.of (s4 _ _ hb3)) (fun m x H4 hx hP => ?_) (fun H4 hP => ?_)
      · obtain ⟨cs, hD4, hLc4, hfc, hndc, s4⟩ := hP
        obtain ⟨r, er, rfl⟩ := ref_at_inv hx
        obtain ⟨row, erow, hrow⟩ := hLL.get er
        have hrl := ordW_rows i chs row (List.mem_of_getElem? erow)
        refine ⟨rfl, ?_⟩
        refine ⟨_, rfl, kc, rfl, ⟨_, SqL.of (s4 _ _ hkc3)⟩, ?_⟩
        refine in_list (K := K) (a := kc) (xs := ch.map V.int) (fun j H5 => ∃ cs : List Addr, H5 D = some (.lst (cs.map V.ref)) ∧ LL H5 cs (((ordW (chs.take i)).take m).flatMap (extC ch) ++ extC (ch.take j) row) ∧ (∀ c ∈ cs, H3 c = none ∧ c ≠ D) ∧ cs.Nodup ∧ Same H3 H5)
          ⟨cs, hD4, by rw [show extC (ch.take 0) row = [] from rfl, List.append_nil]; exact hLc4, hfc, hndc, s4⟩ (fun j H5 _ hP => by obtain ⟨_, _, _, _, _, s5⟩ := hP; exact SqL.of (s5 _ _ hkc3)) (fun j x H5 hx hP => ?_) (fun H5 hP => ?_)
        · obtain ⟨cs5, hD5, hL5, hf5, hnd5, s5⟩ := hP
          obtain ⟨t, et, rfl⟩ := int_at_inv hx
          have hrow5 := s5 _ _ hrow
          refine ⟨rfl, _, rfl, _, rfl, r, _, rfl, .inl (SqL.of hrow5), rfl, flat_ints row, _, rfl, ?_⟩
          show if (!inV (.int t) (row.map V.int)) = true then _ else _
          rw [inV_int]
          have em := extC_more (o := row) et
          by_cases c : t ∈ row
          · rw [decide_eq_true c]
            refine iteF ⟨cs5, hD5, ?_, hf5, hnd5, s5⟩
            rw [em, if_pos c, List.append_nil]
            exact hL5
          · rw [decide_eq_false c]
            refine iteT ⟨_, rfl, _, rfl, line_small (by show 1 ≤ 16777216; decide), fun p np => ?_⟩
            have sp1 := same_new (o := .lst [.int t]) np
            refine ⟨r, p, _, _, rfl, rfl, sp1 _ _ hrow5, upd_same, line_small (by rw [List.length_map]; show _ + 1 ≤ _; omega), fun z nz => ?_⟩
            have sp2 := same_new (o := .lst (row.map V.int ++ [.int t])) nz
            have hD6 := sp2 _ _ (sp1 _ _ hD5)
            have nzD : z ≠ D := (ne_of_none (sp1 _ _ hD5) nz).symm
            have hl5 := hL5.len
            have hcount : cs5.length < 16777216 := by
              have h1 : (((ordW (chs.take i)).take m).flatMap (extC ch) ++ extC (ch.take j) row).length ≤ ((ordW (chs.take i)).take m).length * ch.length + ch.length := by
                rw [List.length_append]
                have a1 := flatC_len ch ((ordW (chs.take i)).take m)
                have a2 := extC_len (ch.take j) row
                rw [List.length_take] at a2
                omega
              have h2 : ((ordW (chs.take i)).take m).length * ch.length ≤ 100000 * 12 := Nat.mul_le_mul (by rw [List.length_take]; omega) hchl
              omega
            refine ⟨_, hD6, line_lt (by rw [List.length_map]; exact hcount), cs5 ++ [z], by rw [upd_same, List.map_append]; rfl, ?_, fun c hc => ?_, ?_, fun u ob e => ?_⟩
            · rw [em, if_neg c, ← List.append_assoc]
              refine LL.snoc (((hL5.same sp1).same sp2).keep fun u hu ob e => by rw [upd_ne (hf5 u hu).2]; exact e) ?_
              rw [upd_ne nzD, upd_same, List.map_append]
              rfl
            · rcases List.mem_append.mp hc with hc | hc
              · exact hf5 c hc
              · rw [List.mem_singleton.mp hc]
                exact ⟨(s5.trans sp1).free nz, nzD⟩
            · rw [List.nodup_append]
              refine ⟨hnd5, List.nodup_cons.mpr ⟨List.not_mem_nil, List.nodup_nil⟩, fun x hx y hy e => ?_⟩
              rw [List.mem_singleton.mp hy] at e
              obtain ⟨ob, eo⟩ := hL5.tracked hx
              rw [e] at eo
              have := sp1 _ _ eo
              rw [nz] at this
              cases this
            · rw [upd_ne (ne_of_none e nD)]
              exact sp2 _ _ (sp1 _ _ (s5 _ _ e))
        · obtain ⟨cs5, hD5, hL5, hf5, hnd5, s5⟩ := hP
          refine ⟨cs5, hD5, ?_, hf5, hnd5, s5⟩
          rw [List.length_map, List.take_length] at hL5
          rw [List.take_add_one, erow, List.flatMap_append]
          show LL H5 cs5 (_ ++ (extC ch row ++ []))
          rw [List.append_nil]
          exact hL5
      · obtain ⟨cs, hD4, hLc4, hfc, hndc, s4⟩ := hP
        rw [List.length_map, hlen, List.take_length] at hLc4
        refine ⟨D, _, _, _, cs, rfl, nHD, hD4, ?_, fun c hc => ⟨sm.free (hfc c hc).1, (hfc c hc).2⟩, hndc, sm.trans s4⟩
        rw [ordW_more ech]
        exact hLc4
    · obtain ⟨bg, y2, y3, y4, as, rfl, nbg, hb3, hLL, hfr, hnd, sm⟩ := hP
      rw [List.length_map, hkl, List.take_length] at hLL
      exact ⟨_, rfl, q bg as H3 nbg hb3 hLL hfr hnd sm⟩
theorem LL_rep {H : Hp} {a : Addr} {r : List Int} (h : H a = some (.lst (r.map V.int))) : ∀ m, LL H (List.replicate m a) (List.replicate m r)
  | 0 => trivial
  | m + 1 => ⟨h, LL_rep h m⟩
theorem rep_flat (v : V) : ∀ m : Nat, (List.replicate m [v]).flatten = List.replicate m v
  | 0 => rfl
  | m + 1 => by rw [List.replicate_succ, List.flatten_cons, rep_flat v m]; rfl
theorem scAllO : FnScope ["n"] ["n"] (defScope s_all_orders) := ⟨rfl, rfl, rfl, by decide +kernel, rfl, by decide +kernel, by decide +kernel⟩
theorem ok_all_orders {f f1 : Addr} {fd d1 : FuncData} {k : Nat} (T : Df K mg "all_orders" s_all_orders ["n"] f fd) (T_orders_with : Df K mg "orders_with" s_orders_with ["choices"] f1 d1) (B : Bi mg) : FnOk P w K mg base CX0 (k + 2) f fd ["n"] spAllO := by
  have G_orders_with : FnOk P w K mg base CX0 (k + 1) f1 d1 ["choices"] spOrdW := ok_ordW T_orders_with B
  refine T.F.ok scAllO (fun vs H Q E h => ?_) (fun cdv A outer s H vs Q E hr h => ?_)
  · obtain ⟨n, rfl, _⟩ := h
    rfl
  · obtain ⟨n, rfl, hn1, hn2, q⟩ := h
    refine ⟨_, 
      (pss_one (ps_ret (pe_call G_orders_with hr (by rfl) T_orders_with.g T_orders_with.F.kp T_orders_with.b .nil pass0 (pa_cons (pe_op op_rep (pe_lst (pa_cons (pe_listRg rfl (by rfl) B.list (prg_1 (by rfl) B.range (pv 0))) pa_nil)) (pv 0)) pa_nil)))), ?_⟩
    refine ⟨_, rfl, n, rfl, RgOk.of_le (by omega) (by omega) (by omega) (by omega), fun l nl => ?_⟩
    have t1 := same_new (o := .lst (rgV 0 (n : Int))) nl
    have hl : (upd H l (.lst (rgV 0 (n : Int)))) l = some (.lst ((rg n).map V.int)) := by rw [upd_same, rg_V]
    refine ⟨line_small (by show 1 ≤ 16777216; decide), fun l1 nl1 => ?_⟩
    have t2 := same_new (o := .lst [.ref l]) nl1
    refine ⟨_, rfl, l1, _, _, rfl, rfl, upd_same, by omega, by omega, line_small (by rw [Int.toNat_natCast]; show 1 * n ≤ _; omega), fun l2 nl2 => ?_⟩
    have t3 := same_new (o := .lst (List.replicate ((n : Nat) : Int).toNat [V.ref l]).flatten) nl2
    have tt := (t1.trans t2).trans t3
    refine ⟨l2, List.replicate n l, List.replicate n (rg n), rfl, by rw [upd_same, Int.toNat_natCast, rep_flat, List.map_replicate], LL_rep (t3 _ _ (t2 _ _ hl)) n, by rw [List.length_replicate]; omega, fun ch hc => ?_, fun i hi => ?_, fun r as H' nr hr hLL hfr hnd s' => ?_⟩
    · rw [(List.mem_replicate.mp hc).2, rg_len]
      omega
    · rw [List.length_replicate] at hi
      rw [List.take_replicate, Nat.min_eq_left hi, ordW_all]
      have h1 := allK_len hn2 i hi
      have h2 := pow6 (show i ≤ 6 by omega)
      omega
    · rw [ordW_all] at hLL
      exact q r as H' (tt.free nr) hr hLL (fun c hc => ⟨tt.free (hfr c hc).1, (hfr c hc).2⟩) hnd (tt.trans s')
end
end Fo
namespace Fo
open PySem PySem.Spec PyProof.Rows L2
/-! ### counts of orders, as the program reckons them -/
def addAt (l : List Int) (i : Nat) (v : Int) : List Int := l.set i (l.getD i 0 + v)
def swIn (m : Int) (far : Nat) : Nat → List Int → List Int
  | 0, l => l
  | p + 1, l => addAt (swIn m far p l) (far + p) m
def swOut (c : List Int) (b : Nat) : Nat → List Int
  | 0 => List.replicate (c.length + b) 0
  | i + 1 => swIn (c.getD i 0) i (b + 1) (swOut c b i)
def swNext (c : List Int) (b : Nat) : List Int := swOut c b c.length
def swC : Nat → List Int
  | 0 => [1]
  | k + 1 => swNext (swC k) (k + 1)
theorem addAt_len (l : List Int) (i : Nat) (v : Int) : (addAt l i v).length = l.length := List.length_set
theorem swIn_len (m : Int) (far : Nat) : ∀ (p : Nat) (l : List Int), (swIn m far p l).length = l.length
  | 0, _ => rfl
  | p + 1, l => by rw [swIn, addAt_len, swIn_len m far p l]
theorem swOut_len (c : List Int) (b : Nat) : ∀ i : Nat, (swOut c b i).length = c.length + b
  | 0 => List.length_replicate
  | i + 1 => by rw [swOut, swIn_len, swOut_len c b i]
def triN : Nat → Nat
  | 0 => 0
  | k + 1 => triN k + (k + 1)
theorem swC_len : ∀ k : Nat, (swC k).length = 1 + triN k
  | 0 => rfl
  | k + 1 => by
    show (swOut (swC k) (k + 1) (swC k).length).length = 1 + (triN k + (k + 1))
    rw [swOut_len, swC_len k]
    omega
theorem tri_le : ∀ k : Nat, k < 12 → triN k ≤ 66 ∧ triN k < (k + 1) * (k + 1) := by decide
theorem swC_good : ∀ k : Nat, k < 12 → (swC k).all (fun x => decide (0 ≤ x)) = true ∧ (swC k).head? = some 1 ∧ (swC k).sum ≤ 479001600 := by decide +kernel
/-! by places -/
def chN (n : Nat) : Nat → Int
  | 0 => 1
  | r + 1 => chN n r * ((n : Int) - r) / (r + 1)
def mvN : Nat → Int × Int
  | 0 => (1, 1)
  | k + 1 => ((mvN k).1 * (k + 1) + -(mvN k).2, -(mvN k).2)
def spC (n : Nat) : List Int := (List.range (n + 1)).map fun r => chN n r * (mvN r).1
theorem ch_small : ∀ n : Nat, n < 13 → ∀ r : Nat, r < 14 → 0 ≤ chN n r ∧ chN n r ≤ 1000 := by decide +kernel
theorem mv_small : ∀ n : Nat, n < 13 → 0 ≤ (mvN n).1 ∧ (mvN n).1 ≤ 479001600 ∧ -1 ≤ (mvN n).2 ∧ (mvN n).2 ≤ 1 := by decide +kernel
theorem spC_good : ∀ n : Nat, n < 13 → (spC n).all (fun x => decide (0 ≤ x)) = true ∧ (spC n).head? = some 1 ∧ (spC n).sum ≤ 479001600 := by decide +kernel
def facN : Nat → Int
  | 0 => 1
  | k + 1 => facN k * (k + 1)
theorem fac_small : ∀ n : Nat, n < 13 → 0 < facN n ∧ facN n ≤ 479001600 := by decide +kernel
def noneN : Nat → List Int
  | 0 => [1, 0]
  | k + 1 => noneN k ++ [((k : Int) + 2 - 1) * ((noneN k).getD (k + 1) 0 + (noneN k).getD k 0)]
theorem spC_law : ∀ n : Nat, n < 13 → spC n = (List.range (n + 1)).map fun r => facN n / facN r / facN (n - r) * (noneN (n - 1)).getD r 0 := by decide +kernel
theorem noneN_len : ∀ k : Nat, (noneN k).length = k + 2
  | 0 => rfl
  | k + 1 => by
    rw [noneN, List.length_append, noneN_len k]
    rfl
theorem noneN_small : ∀ k : Nat, k < 12 → (noneN k).all (fun x => decide (0 ≤ x) && decide (x ≤ 479001600)) = true := by decide +kernel
/-- the sum of a beginning of good counts -/
theorem sum_nonneg : ∀ l : List Int, l.all (fun x => decide (0 ≤ x)) = true → 0 ≤ l.sum
  | [], _ => Int.le_refl _
  | a :: l, h => by
    rw [List.all_cons, Bool.and_eq_true] at h
    have := of_decide_eq_true h.1
    have := sum_nonneg l h.2
    rw [List.sum_cons]
    omega
theorem sum_take {l : List Int} {k : Nat} (h : l.all (fun x => decide (0 ≤ x)) = true) (h1 : l.head? = some 1) (hk : 0 < k) : 1 ≤ (l.take k).sum ∧ (l.take k).sum ≤ l.sum := by
  match l, h1, k, hk with
  | a :: r, h1, k + 1, _ =>
    have e : a = 1 := Option.some.inj h1
    subst e
    rw [List.all_cons, Bool.and_eq_true] at h
    rw [List.take_succ_cons, List.sum_cons, List.sum_cons]
    have hs : (r.take k).sum + (r.drop k).sum = r.sum := by rw [← List.sum_append, List.take_append_drop]
    have h2 := h.2
    rw [← List.take_append_drop k r, List.all_append, Bool.and_eq_true] at h2
    have := sum_nonneg _ h2.1
    have := sum_nonneg _ h2.2
    omega
end Fo
namespace Fo
open PySem PySem.Spec PyProof.Rows L2
/-! ### counts by shift: beginnings by the set of their things -/
def lookN (l : List (Nat × Int)) (k : Nat) : Int := ((l.find? fun p => decide (p.1 = k)).map (·.2)).getD 0
def putN (l : List (Nat × Int)) (k : Nat) (v : Int) : List (Nat × Int) := if l.any (fun p => decide (p.1 = k)) then l.map (fun p => if p.1 = k then (p.1, v) else p) else l ++ [(k, v)]
def keysN (l : List (Nat × Int)) : List Nat := l.map (·.1)
def totN (l : List (Nat × Int)) : Int := (l.map (·.2)).sum
def stIn (u : Nat) (m : Int) (lo : Nat) : Nat → List (Nat × Int) → List (Nat × Int)
  | 0, l => l
  | j + 1, l => if u.testBit (lo + j) then stIn u m lo j l else putN (stIn u m lo j l) (u + 2 ^ (lo + j)) (lookN (stIn u m lo j l) (u + 2 ^ (lo + j)) + m)
def stOut (d : List (Nat × Int)) (lo c : Nat) : Nat → List (Nat × Int)
  | 0 => []
  | i + 1 => stIn (d.getD i (0, 0)).1 (d.getD i (0, 0)).2 lo c (stOut d lo c i)
def loP (p : Nat) (r : Int) : Nat := (max 0 ((p : Int) - r)).toNat
def ctP (n p : Nat) (r : Int) : Nat := (min (n : Int) ((p : Int) + r + 1)).toNat - loP p r
def shD (n : Nat) (r : Int) : Nat → List (Nat × Int)
  | 0 => [(0, 1)]
  | p + 1 => stOut (shD n r p) (loP p r) (ctP n p r) (shD n r p).length
def shN (n : Nat) (r : Int) : Int := totN (shD n r n)
theorem any_keys (l : List (Nat × Int)) (k : Nat) : l.any (fun p => decide (p.1 = k)) = decide (k ∈ keysN l) := by
  induction l with
  | nil => rfl
  | cons p l ih =>
    rw [List.any_cons, ih]
    unfold keysN
    rw [List.map_cons]
    by_cases c : p.1 = k
    · subst c; simp
    · have c2 : ¬ k = p.1 := fun e => c e.symm
      simp [c, c2]
theorem put_keys (l : List (Nat × Int)) (k : Nat) (v : Int) : keysN (putN l k v) = if k ∈ keysN l then keysN l else keysN l ++ [k] := by
  unfold putN
  rw [any_keys]
  by_cases c : k ∈ keysN l
  · rw [decide_eq_true c, if_pos rfl, if_pos c]
    unfold keysN
    rw [List.map_map]
    apply List.map_congr_left
    intro p _
    show (if p.1 = k then (p.1, v) else p).1 = p.1
    split <;> rfl
  · rw [decide_eq_false c, if_neg (by decide), if_neg c]
    unfold keysN
    rw [List.map_append]
    rfl
theorem put_nodup {l : List (Nat × Int)} {k : Nat} {v : Int} (h : (keysN l).Nodup) : (keysN (putN l k v)).Nodup := by
  rw [put_keys]
  split
  · exact h
  · rename_i c
    rw [List.nodup_append]
    refine ⟨h, List.nodup_cons.mpr ⟨List.not_mem_nil, List.nodup_nil⟩, fun x hx y hy e => ?_⟩
    rw [List.mem_singleton.mp hy] at e
    exact c (by rw [← e]; exact hx)
theorem put_mem {l : List (Nat × Int)} {k x : Nat} {v : Int} : x ∈ keysN (putN l k v) ↔ x ∈ keysN l ∨ x = k := by
  rw [put_keys]
  split
  · rename_i c
    exact ⟨.inl, fun h => h.elim id fun e => by rw [e]; exact c⟩
  · rw [List.mem_append, List.mem_singleton]
theorem look_cons (p : Nat × Int) (l : List (Nat × Int)) (k : Nat) : lookN (p :: l) k = if p.1 = k then p.2 else lookN l k := by
  unfold lookN
  rw [List.find?_cons]
  by_cases c : p.1 = k
  · rw [decide_eq_true c, if_pos c]; rfl
  · rw [decide_eq_false c, if_neg c]
theorem put_cons (p : Nat × Int) (l : List (Nat × Int)) (k : Nat) (v : Int) (hn : (keysN (p :: l)).Nodup) : putN (p :: l) k v = if p.1 = k then (p.1, v) :: l else p :: putN l k v := by
  by_cases c : p.1 = k
  · rw [if_pos c]
    unfold putN
    rw [List.any_cons, decide_eq_true c, Bool.true_or, if_pos rfl, List.map_cons, if_pos c]
    congr 1
    have e : l.map (fun p => if p.1 = k then (p.1, v) else p) = l.map id := by
      apply List.map_congr_left
      intro q hq
      have : q.1 ≠ k := fun e => (List.nodup_cons.mp hn).1 (by
        show p.1 ∈ keysN l
        rw [c, ← e]
        exact List.mem_map.mpr ⟨q, hq, rfl⟩)
      rw [if_neg this]
      rfl
    rw [e, List.map_id]
  · rw [if_neg c]
    unfold putN
    rw [List.any_cons, decide_eq_false c, Bool.false_or]
    by_cases d : (l.any fun p => decide (p.1 = k)) = true
    · rw [if_pos d, if_pos d, List.map_cons, if_neg c]
    · rw [if_neg d, if_neg d]
      rfl
theorem put_tot : ∀ (l : List (Nat × Int)) (k : Nat) (m : Int), (keysN l).Nodup → totN (putN l k (lookN l k + m)) = totN l + m
  | [], k, m, _ => by
    show 0 + m + 0 = 0 + m
    omega
  | p :: l, k, m, hn => by
    have ih := put_tot l k m (List.nodup_cons.mp hn).2
    rw [put_cons p l k _ hn, look_cons]
    unfold totN at ih ⊢
    by_cases c : p.1 = k
    · rw [if_pos c, if_pos c, List.map_cons, List.map_cons, List.sum_cons, List.sum_cons]
      omega
    · rw [if_neg c, if_neg c, List.map_cons, List.map_cons, List.sum_cons, List.sum_cons, ih]
      omega
def PosN (l : List (Nat × Int)) : Prop := ∀ p ∈ l, 0 < p.2
theorem look_nonneg {l : List (Nat × Int)} (h : PosN l) (k : Nat) : 0 ≤ lookN l k := by
  induction l with
  | nil => exact Int.le_refl _
  | cons p l ih =>
    rw [look_cons]
    split
    · have := h p List.mem_cons_self; omega
    · exact ih fun q hq => h q (List.mem_cons_of_mem _ hq)
theorem put_pos {l : List (Nat × Int)} (h : PosN l) {k : Nat} {v : Int} (hv : 0 < v) : PosN (putN l k v) := by
  intro p hp
  unfold putN at hp
  split at hp
  · obtain ⟨q, hq, e⟩ := List.mem_map.mp hp
    rw [← e]
    split
    · exact hv
    · exact h q hq
  · rcases List.mem_append.mp hp with hp | hp
    · exact h p hp
    · rw [List.mem_singleton.mp hp]
      exact hv
theorem nodupN_len : ∀ {l m : List Nat}, l.Nodup → (∀ x ∈ l, x ∈ m) → l.length ≤ m.length
  | [], m, _, _ => Nat.zero_le _
  | a :: l, m, hn, hs => by
    obtain ⟨h1, h2⟩ := List.nodup_cons.mp hn
    have ha := hs a List.mem_cons_self
    have ih := nodupN_len (l := l) (m := m.erase a) h2 fun x hx => by
      have ne : x ≠ a := fun e => h1 (by rw [← e]; exact hx)
      exact (List.mem_erase_of_ne ne).mpr (hs x (List.mem_cons_of_mem _ hx))
    rw [List.length_erase_of_mem ha] at ih
    have : 0 < m.length := List.length_pos_of_mem ha
    rw [List.length_cons]
    omega
/-- what holds of the beginnings: no key twice, keys below 2 ^ 12, each counted -/
structure GoodD (l : List (Nat × Int)) : Prop where
  nd : (keysN l).Nodup
  lt : ∀ k ∈ keysN l, k < 4096
  pos : PosN l
theorem GoodD.len {l : List (Nat × Int)} (h : GoodD l) : l.length ≤ 4096 := by
  have h1 : (keysN l).length ≤ (List.range 4096).length := by
    have hsub : ∀ x ∈ keysN l, x ∈ List.range 4096 := fun x hx => List.mem_range.mpr (h.lt x hx)
    exact nodupN_len h.nd hsub
  rw [List.length_range] at h1
  unfold keysN at h1
  rw [List.length_map] at h1
  exact h1
theorem bit_and {u t : Nat} (h : u.testBit t = false) : u &&& 2 ^ t = 0 := by
  apply Nat.eq_of_testBit_eq
  intro i
  rw [Nat.testBit_and, Nat.testBit_two_pow, Nat.zero_testBit]
  by_cases c : t = i
  · subst c; simp [h]
  · simp [c]
theorem bit_add {u t : Nat} (h : u.testBit t = false) (hu : u < 4096) (ht : t < 12) : u + 2 ^ t = u ||| 2 ^ t := by
  have e := bit_and h
  have h2 : 2 ^ t < 4096 := Nat.pow_lt_pow_right (n := 12) (by decide) ht
  have b := BitVec.add_eq_or_of_and_eq_zero (w := 13) (BitVec.ofNat 13 u) (BitVec.ofNat 13 (2 ^ t)) (by
    apply BitVec.eq_of_toNat_eq
    rw [BitVec.toNat_and, BitVec.toNat_ofNat, BitVec.toNat_ofNat, Nat.mod_eq_of_lt (by omega), Nat.mod_eq_of_lt (by omega), e]
    rfl)
  have c := congrArg BitVec.toNat b
  rw [BitVec.toNat_or, BitVec.toNat_add, BitVec.toNat_ofNat, BitVec.toNat_ofNat, Nat.mod_eq_of_lt (show u < 2 ^ 13 by omega), Nat.mod_eq_of_lt (show 2 ^ t < 2 ^ 13 by omega), Nat.mod_eq_of_lt (show u + 2 ^ t < 2 ^ 13 by omega)] at c
  exact c
theorem bit_lt {u t : Nat} (h : u.testBit t = false) (hu : u < 4096) (ht : t < 12) : u + 2 ^ t < 4096 := by
  rw [bit_add h hu ht]
  exact Nat.or_lt_two_pow (n := 12) hu (Nat.pow_lt_pow_right (by decide) ht)
theorem put_good {l : List (Nat × Int)} (h : GoodD l) {u t : Nat} {m : Int} (hb : u.testBit t = false) (hu : u < 4096) (ht : t < 12) (hm : 0 < m) : GoodD (putN l (u + 2 ^ t) (lookN l (u + 2 ^ t) + m)) :=
  ⟨put_nodup h.nd, fun k hk => (put_mem.mp hk).elim (h.lt k) fun e => by rw [e]; exact bit_lt hb hu ht, put_pos h.pos (by have := look_nonneg h.pos (u + 2 ^ t); omega)⟩
theorem stIn_good {u : Nat} {m : Int} {lo : Nat} (hu : u < 4096) (hm : 0 < m) : ∀ (j : Nat) (l : List (Nat × Int)), GoodD l → lo + j ≤ 12 → GoodD (stIn u m lo j l) ∧ totN (stIn u m lo j l) ≤ totN l + j * m ∧ (∀ k ∈ keysN l, k ∈ keysN (stIn u m lo j l)) ∧ ∀ i, i < j → u.testBit (lo + i) = false → u + 2 ^ (lo + i) ∈ keysN (stIn u m lo j l)
  | 0, l, h, _ => ⟨h, by show totN l ≤ totN l + 0 * m; omega, fun k hk => hk, fun i hi => absurd hi (Nat.not_lt_zero _)⟩
  | j + 1, l, h, hj => by
    obtain ⟨h1, h2, h3, h4⟩ := stIn_good (lo := lo) hu hm j l h (by omega)
    have em : ((j + 1 : Nat) : Int) * m = (j : Int) * m + m := by rw [Int.natCast_add, Int.add_mul]; omega
    rw [stIn]
    split
    · rename_i c
      refine ⟨h1, by omega, h3, fun i hi hb => ?_⟩
      by_cases e : i = j
      · subst e; rw [hb] at c; cases c
      · exact h4 i (by omega) hb
    · rename_i c
      have hb : u.testBit (lo + j) = false := by simpa using c
      refine ⟨put_good h1 hb hu (by omega) hm, by rw [put_tot _ _ _ h1.nd]; omega, fun k hk => put_mem.mpr (.inl (h3 k hk)), fun i hi hb2 => ?_⟩
      by_cases e : i = j
      · subst e; exact put_mem.mpr (.inr rfl)
      · exact put_mem.mpr (.inl (h4 i (by omega) hb2))
theorem getD_at {d : List (Nat × Int)} {i : Nat} (h : i < d.length) : d.getD i (0, 0) = d[i] := by
  rw [List.getD_eq_getElem?_getD, List.getElem?_eq_getElem h]
  rfl
theorem take_tot {d : List (Nat × Int)} {i : Nat} (h : i < d.length) : totN (d.take (i + 1)) = totN (d.take i) + (d.getD i (0, 0)).2 := by
  unfold totN
  rw [List.take_add_one, List.getElem?_eq_getElem h, List.map_append, List.sum_append, getD_at h]
  show _ + (d[i].2 + 0) = _
  omega
theorem stOut_good {d : List (Nat × Int)} {lo c : Nat} (hd : GoodD d) (hc : lo + c ≤ 12) : ∀ i, i ≤ d.length → GoodD (stOut d lo c i) ∧ totN (stOut d lo c i) ≤ 12 * totN (d.take i) ∧ ∀ j, j < i → ∀ t, t < c → (d.getD j (0, 0)).1.testBit (lo + t) = false → (d.getD j (0, 0)).1 + 2 ^ (lo + t) ∈ keysN (stOut d lo c i)
  | 0, _ => ⟨⟨List.nodup_nil, fun k hk => absurd hk List.not_mem_nil, fun p hp => absurd hp List.not_mem_nil⟩, by rw [List.take_zero]; show (0 : Int) ≤ 12 * 0; decide, fun j hj => absurd hj (Nat.not_lt_zero _)⟩
  | i + 1, hi => by
    obtain ⟨h1, h2, h3⟩ := stOut_good hd hc i (by omega)
    have hmem : d.getD i (0, 0) ∈ d := by rw [getD_at (by omega)]; exact List.getElem_mem _
    have hm := hd.pos _ hmem
    have hu := hd.lt _ (List.mem_map.mpr ⟨_, hmem, rfl⟩)
    obtain ⟨g1, g2, g3, g4⟩ := stIn_good (lo := lo) hu hm c (stOut d lo c i) h1 hc
    refine ⟨g1, ?_, fun j hj t ht hb => ?_⟩
    · rw [take_tot (by omega)]
      have h12 : (c : Int) * (d.getD i (0, 0)).2 ≤ 12 * (d.getD i (0, 0)).2 := Int.mul_le_mul_of_nonneg_right (by omega) (by omega)
      show totN (stIn _ _ _ _ _) ≤ _
      omega
    · by_cases e : j = i
      · subst e; exact g4 t ht hb
      · exact g3 _ (h3 j (by omega) t ht hb)
theorem lo_ct {n p : Nat} {r : Int} (hn : n ≤ 12) (hp : p < n) (hr : 0 ≤ r) : loP p r + ctP n p r ≤ 12 ∧ loP p r ≤ p ∧ p < loP p r + ctP n p r := by
  unfold ctP loP
  omega
theorem one_bits (p : Nat) : (2 ^ p - 1).testBit p = false ∧ 2 ^ p - 1 + 2 ^ p = 2 ^ (p + 1) - 1 := by
  refine ⟨by simp, ?_⟩
  rw [Nat.pow_succ]
  have := Nat.two_pow_pos p
  omega
theorem shD_good {n : Nat} {r : Int} (hn : n ≤ 12) (hr : 0 ≤ r) : ∀ p, p ≤ n → GoodD (shD n r p) ∧ totN (shD n r p) ≤ 12 ^ p ∧ 2 ^ p - 1 ∈ keysN (shD n r p)
  | 0, _ => ⟨⟨by show [0].Nodup; decide, by show ∀ k ∈ [0], k < 4096; decide, by intro p hp; rw [List.mem_singleton.mp hp]; decide⟩, by show (1 : Int) + 0 ≤ 12 ^ 0; decide, by show 0 ∈ [0]; decide⟩
  | p + 1, hp => by
    obtain ⟨h1, h2, h3⟩ := shD_good hn hr p (by omega)
    obtain ⟨l1, l2, l3⟩ := lo_ct (r := r) hn (show p < n by omega) hr
    obtain ⟨g1, g2, g3⟩ := stOut_good h1 l1 (shD n r p).length (Nat.le_refl _)
    rw [List.take_length] at g2
    refine ⟨g1, ?_, ?_⟩
    · show totN (stOut _ _ _ _) ≤ 12 ^ (p + 1)
      rw [Int.pow_succ]
      omega
    · obtain ⟨b1, b2⟩ := one_bits p
      obtain ⟨q, hq, eq⟩ := List.mem_map.mp h3
      obtain ⟨j, hj, ej⟩ := List.getElem_of_mem hq
      have e : (shD n r p).getD j (0, 0) = q := by rw [getD_at hj, ej]
      have := g3 j hj (p - loP p r) (by omega) (by rw [e, eq, show loP p r + (p - loP p r) = p by omega]; exact b1)
      rw [e, eq, show loP p r + (p - loP p r) = p by omega, b2] at this
      exact this
theorem tot_pos {l : List (Nat × Int)} (h : PosN l) (hl : l ≠ []) : 0 < totN l := by
  have nn : ∀ m : List (Nat × Int), PosN m → 0 ≤ totN m := by
    intro m
    induction m with
    | nil => intro _; exact Int.le_refl _
    | cons p m ih =>
      intro h
      have a := h p List.mem_cons_self
      have b := ih fun q hq => h q (List.mem_cons_of_mem _ hq)
      unfold totN at b ⊢
      rw [List.map_cons, List.sum_cons]
      omega
  match l, h, hl with
  | p :: l, h, _ =>
    have a := h p List.mem_cons_self
    have b := nn l fun q hq => h q (List.mem_cons_of_mem _ hq)
    unfold totN at b ⊢
    rw [List.map_cons, List.sum_cons]
    omega
theorem shN_good {n : Nat} {r : Int} (hn : n ≤ 12) (hr : 0 ≤ r) : 1 ≤ shN n r ∧ shN n r ≤ 8916100448256 := by
  obtain ⟨h1, h2, h3⟩ := shD_good hn hr n (Nat.le_refl _)
  have hne : shD n r n ≠ [] := fun e => by rw [e] at h3; cases h3
  have h4 := tot_pos h1.pos hne
  refine ⟨h4, Int.le_trans h2 ?_⟩
  have h5 : (12 : Nat) ^ n ≤ 12 ^ 12 := Nat.pow_le_pow_right (by decide) hn
  have h6 : (((12 : Nat) ^ n : Nat) : Int) ≤ ((12 ^ 12 : Nat) : Int) := Int.ofNat_le.mpr h5
  rw [Int.natCast_pow] at h6
  exact h6
/-- a reach beyond all is as n's own -/
theorem shD_far {n : Nat} {r : Int} (hr : (n : Int) ≤ r) : ∀ p, p ≤ n → shD n r p = shD n n p
  | 0, _ => rfl
  | p + 1, hp => by
    rw [shD, shD, shD_far hr p (by omega)]
    have e1 : loP p r = loP p n := by unfold loP; omega
    have e2 : ctP n p r = ctP n p n := by unfold ctP; rw [e1]; omega
    rw [e1, e2]
theorem shN_far {n : Nat} {r : Int} : shN n (min (n : Int) r) = shN n r := by
  unfold shN
  by_cases c : (n : Int) ≤ r
  · rw [shD_far c n (Nat.le_refl _), Int.min_eq_left c]
  · rw [Int.min_eq_right (by omega)]
end Fo
namespace Fo
open PySem PySem.Spec PyProof.Rows L2
/-! ### rules of my own: xs[i] op= e, sum(d.values()) -/
section
variable {X : Cx}
def rGetL (K : PySem.W.Frag) : V → V → Hp → VK → Prop := fun o i H Q => ∃ p xs k v, o = .ref p ∧ i = .int k ∧ SqL K H p xs ∧ 0 ≤ k ∧ atI xs k = some v ∧ Q v H
theorem get_list : PGet X (rGetL X.K) := by
  intro pins s σ H o i ov iv Q J ro ri hz
  obtain ⟨p, xs, k, v, eo, ei, sq, k0, at', q⟩ := hz
  subst eo ei
  cases ro
  obtain ⟨tk, ek⟩ := ri
  subst ek
  obtain ⟨its, rl, pl, hlen⟩ := J.list sq
  obtain ⟨j, a1, a2, a3, a4, a5⟩ := atI_get at'
  obtain ⟨u, eu, ru⟩ := rl.get a2
  have l1 := rl.length
  have l2 := line63
  have ej : k.toNat = j := by
    rw [seqIndex_of k0 a5] at a1
    exact Option.some.inj a1
  exact wpAny_getItem_list pl.isList k0 (by omega) (by rw [ej]; simpa using eu) ⟨v, H, J, ru, q⟩
def tSumVals (td : TE) : TE := fun σ H Q => td σ H fun x H1 => ∃ (a : Addr) (kvs : List (Key × V)) (is : List Int), x = V.ref a ∧ H1 a = some (.dK kvs) ∧ kvs.map (·.2) = is.map V.int ∧ Q (.int is.sum) H1
theorem preSum_list (is : List Int) : ∀ n, n ≤ is.length → preSum (fun i => is.getD i 0) n = (is.take n).sum
  | 0, _ => rfl
  | n + 1, h => by
    have e : is[n]? = some is[n] := List.getElem?_eq_getElem (by omega)
    rw [List.take_add_one, e, List.sum_append, ← preSum_list is n (by omega)]
    show preSum _ n + is.getD n 0 = _
    rw [List.getD_eq_getElem?_getD, e]
    show _ + is[n] = _ + (is[n] + 0)
    omega
theorem pe_sumVals {o : Expr} {p pos apos mpos : Pos} {td : TE} (calm : X.calm = true) (gl : Gl X "sum") (mn : X.mg "sum" = none) (hd : PE X o td)
    (ab : attributeBase o "values" X.env (eval o X.env) = eval o X.env := by rfl) (ln : (apos.endLine == mpos.line) = true := by rfl)
    (st : starEach [Expr.Call (.Attribute o "values" apos) [] [] mpos] X.env = [(false, eval (Expr.Call (.Attribute o "values" apos) [] [] mpos) X.env)] := by rfl) :
    PE X (.Call (.Name "sum" p) [.Call (.Attribute o "values" apos) [] [] mpos] [] pos) (tSumVals td) := by
  refine ⟨fun pins s σ H Q J hw => ?_⟩
  refine wpAny_Call_Name_kw (ld_blt J gl mn (u := .builtin "sum") (by decide +kernel) ?_ (by decide +kernel) (by decide +kernel))
  rw [st]
  refine PySem.callWith_builtin1 (wpAny_Call_method0_late ab ln (thn (hd.run pins s σ H _ J hw) fun v s1 ⟨x, H1, J1, r1, a, kvs, is, ex, ha, hv, q⟩ => ?_))
  subst ex
  obtain rfl : v = Value.ref a := r1
  obtain ⟨_, nsys, vs, rel, dof⟩ := dk_of J1.hok ha
  obtain ⟨ep, dat⟩ := dof.dictAt
  obtain ⟨ob, es, ho, exd, hdat, hko, hpr, hnd⟩ := id dat
  refine ⟨"dict", "dict.values", F.plainAttrs_dict, F.slot_dict_values, F.type_dict_values, ⟨ob, ho, exd.1⟩, fun b e => ?_, Calls.callWith_builtin rfl (PySem.evalArgs_none ?_)⟩
  · cases e
    exact ⟨ob, ho, exd.2.1⟩
  refine call_meetsIn F.slot_dict_values ⟨ob, ho, exd.1⟩ F.entry_dict_values (F.args_dict_values_1 _) (meets_dict_values (mixKind X.prog X.w) a nsys) ⟨⟨vs, dof⟩, ?_⟩
  generalize hv1 : s1.heap.push { cls := .type "dict_values", data := .fields #[.ref a] } = hp1
  have kp1 : ∀ b u, s1.heap.get? b = some u → hp1.get? b = some u := fun b u e => by rw [← hv1]; exact Heap.get?_push_of_some _ e
  have dat1 : hp1.DictAt (mixKind X.prog X.w) a vs ep := dat.keep kp1
  have sz : hp1.objs.size = s1.heap.objs.size + 1 := by rw [← hv1]; exact Heap.size_push _ _
  have lt : a < s1.heap.objs.size := Heap.lt_size ho
  have len : vs.length = is.length := by
    have e1 := congrArg List.length hv
    rw [List.length_map, List.length_map] at e1
    exact (KV.length rel).symm.trans e1
  have vals : ∀ (i : Nat) (v : Value), (∃ k, vs[i]? = some (k, v)) → ∃ t, v = Value.int (is.getD i 0) t := fun i v ⟨k, hk⟩ => by
    obtain ⟨x, g1, g2⟩ : ∃ x, kvs[i]? = some (k, x) ∧ RelV x v := KV.at' rel hk
    have e1 : (kvs.map (·.2))[i]? = some x := by
      rw [List.getElem?_map, g1]
      rfl
    rw [hv, List.getElem?_map] at e1
    obtain ⟨j, hj, e2⟩ := Option.map_eq_some_iff.mp e1
    subst e2
    obtain ⟨t, e3⟩ := g2
    refine ⟨t, ?_⟩
    rw [e3, List.getD_eq_getElem?_getD, hj]
    rfl
  have hvw : hp1.get? s1.heap.objs.size = some { cls := .type "dict_values", data := .fields #[.ref a] } := by rw [← hv1]; exact Heap.get?_push_size _ rfl
  refine call_sum_walkG (wpAny_pyIter_values (v := s1.heap.objs.size) (d := a) ⟨_, hvw, rfl, rfl⟩ dat1 ?_)
  refine ⟨_, _, _, _, _, _, fun i => is.getD i 0, rfl, Walks.dictValues (knd := mixKind X.prog X.w) (A := X.A.in1) (J.ok.hd calm) hp1.objs.size a (by rw [sz]; exact Nat.ne_of_lt (Nat.lt_succ_of_lt lt)) vs ep,
    ⟨⟨_, Heap.get?_push_size _ rfl, rfl, rfl⟩, dat1.keep fun b u e => Heap.get?_push_of_some _ e⟩, fun b hb => ?_, vals, fun h' tk t' hk => ?_⟩
  · show b < (hp1.push _).objs.size
    rw [Heap.size_push]
    rcases List.mem_cons.mp hb with e | hb
    · rw [e]
      exact Nat.lt_succ_self _
    · rw [List.mem_singleton.mp hb, sz]
      exact Nat.lt_succ_of_lt (Nat.lt_succ_of_lt lt)
  · refine ⟨.int _, H1, J1.kept (t' := tk) fun b u e => hk b u (fun hm => ?_) (Heap.get?_push_of_some _ (kp1 b u e)), ⟨t', rfl⟩, ?_⟩
    · have e1 : b = hp1.objs.size := List.mem_singleton.mp hm
      have e2 := Heap.lt_size e
      rw [sz] at e1
      rw [e1] at e2
      exact absurd e2 (Nat.not_lt.mpr (Nat.le_succ _))
    · rw [len, preSum_list is _ (Nat.le_refl _), List.take_length]
      exact q
end
/-- a loop over the items of a dict that stands still -/
theorem for_items {d : Addr} {od : Obj} {kvs : List (Key × V)} {g : TG} {tb : TS} {D : Ends} {σ : L2.St} {H : Hp} (Pv : Nat → L2.St → Hp → Prop) (h0 : Pv 0 σ H) (hq : ∀ i σ H, Pv i σ H → H d = some (.frz od (.dK kvs)))
    (hs : ∀ (i : Nat) (k : Key) (v : V) (T : Addr) (σ : L2.St) (H : Hp), kvs[i]? = some (k, v) → Pv i σ H → H T = none → g (.ref T) σ (upd H T (.tup [kV k, v])) fun σ2 H2 => tb { D with nx := Pv (i + 1), ct := Pv (i + 1), bk := D.nx } σ2 H2) (hd : ∀ σ H, Pv kvs.length σ H → D.nx σ H) :
    ∃ W : Nat → Nat → L2.St → Hp → Prop, (∃ m, W 0 m σ H) ∧ ∀ i m σ H, W i m σ H →
      ((Iti d od kvs).stop i H ∧ D.nx σ H) ∨ ((Iti d od kvs).go i H ∧ ∃ N : L2.St → Hp → Prop, (∀ σ' H', N σ' H' → ∃ m', m' < m ∧ W (i + 1) m' σ' H') ∧ ∀ v H', (Iti d od kvs).yld i H v H' → g v σ H' fun σ2 H2 => tb { D with nx := N, ct := N, bk := D.nx } σ2 H2) := by
  refine ⟨fun i m σ H => m = kvs.length - i ∧ i ≤ kvs.length ∧ Pv i σ H, ⟨kvs.length, rfl, Nat.zero_le _, h0⟩, ?_⟩
  rintro i m σ H ⟨rfl, hi, p⟩
  have qx := hq i σ H p
  by_cases hlt : i < kvs.length
  · refine .inr ⟨⟨qx, hlt⟩, Pv (i + 1), fun σ' H' p' => ⟨kvs.length - (i + 1), by omega, rfl, hlt, p'⟩, fun v H' y => ?_⟩
    obtain ⟨T, k, x, hk, rfl, hT, rfl⟩ := y
    exact hs i k x T σ H hk p hT
  · have e : i = kvs.length := by omega
    subst e
    exact .inl ⟨⟨qx, Nat.le_refl _⟩, hd σ H p⟩
/-- .. over its keys -/
theorem for_keys {d : Addr} {od : Obj} {kvs : List (Key × V)} {g : TG} {tb : TS} {D : Ends} {σ : L2.St} {H : Hp} (Pv : Nat → L2.St → Hp → Prop) (h0 : Pv 0 σ H) (hq : ∀ i σ H, Pv i σ H → H d = some (.frz od (.dK kvs)))
    (hs : ∀ (i : Nat) (k : Key) (v : V) (σ : L2.St) (H : Hp), kvs[i]? = some (k, v) → Pv i σ H → g (kV k) σ H fun σ2 H2 => tb { D with nx := Pv (i + 1), ct := Pv (i + 1), bk := D.nx } σ2 H2) (hd : ∀ σ H, Pv kvs.length σ H → D.nx σ H) :
    ∃ W : Nat → Nat → L2.St → Hp → Prop, (∃ m, W 0 m σ H) ∧ ∀ i m σ H, W i m σ H →
      ((Itk d od kvs).stop i H ∧ D.nx σ H) ∨ ((Itk d od kvs).go i H ∧ ∃ N : L2.St → Hp → Prop, (∀ σ' H', N σ' H' → ∃ m', m' < m ∧ W (i + 1) m' σ' H') ∧ ∀ v H', (Itk d od kvs).yld i H v H' → g v σ H' fun σ2 H2 => tb { D with nx := N, ct := N, bk := D.nx } σ2 H2) := by
  refine ⟨fun i m σ H => m = kvs.length - i ∧ i ≤ kvs.length ∧ Pv i σ H, ⟨kvs.length, rfl, Nat.zero_le _, h0⟩, ?_⟩
  rintro i m σ H ⟨rfl, hi, p⟩
  have qx := hq i σ H p
  by_cases hlt : i < kvs.length
  · refine .inr ⟨⟨qx, hlt⟩, Pv (i + 1), fun σ' H' p' => ⟨kvs.length - (i + 1), by omega, rfl, hlt, p'⟩, fun v H' y => ?_⟩
    obtain ⟨rfl, k, x, hk, rfl⟩ := y
    exact hs i k x σ _ hk p
  · have e : i = kvs.length := by omega
    subst e
    exact .inl ⟨⟨qx, Nat.le_refl _⟩, hd σ H p⟩
end Fo
namespace Fo
open PySem PySem.Spec PyProof.Rows L2
/-! ### the program's counts -/
def spFac : Sp := fun vs H Q _ => ∃ n : Nat, vs = [.int n] ∧ n ≤ 12 ∧ Q (.int (facN n)) H
def spNewL (F : Nat → List Int) : Sp := fun vs H Q _ => ∃ n : Nat, vs = [.int n] ∧ 1 ≤ n ∧ n ≤ 12 ∧ ∀ (l : Addr) (H' : Hp), H l = none → H' l = some (.lst ((F n).map V.int)) → Same H H' → Q (.ref l) H'
def spSwC : Sp := spNewL fun n => swC (n - 1)
def spSpC : Sp := spNewL spC
def spSwM : Sp := fun vs H Q _ => ∃ (a : Addr) (c : List Int) (b : Nat), vs = [.ref a, .int b] ∧ H a = some (.lst (c.map V.int)) ∧ c.length ≤ 100 ∧ b ≤ 12 ∧ ∀ (l : Addr) (H' : Hp), H l = none → H' l = some (.lst ((swNext c b).map V.int)) → Same H H' → Q (.ref l) H'
def spMv : Sp := fun vs H Q _ => ∃ n : Nat, vs = [.int n] ∧ n ≤ 12 ∧ Q (.int (mvN n).1) H
def dN (l : List (Nat × Int)) : List (Key × V) := l.map fun p => (Sum.inl ((p.1 : Nat) : Int), V.int p.2)
def nearT (lo c : Nat) : List Int := (List.range c).map fun j => (((lo + j : Nat)) : Int)
def spNearT : Sp := fun vs H Q _ => ∃ (p n : Nat) (r : Int), vs = [.int p, .int n, .int r] ∧ p < n ∧ n ≤ 12 ∧ 0 ≤ r ∧ ∀ (l : Addr) (H' : Hp), H l = none → H' l = some (.lst ((nearT (loP p r) (ctP n p r)).map V.int)) → Same H H' → Q (.ref l) H'
def spFurther : Sp := fun vs H Q _ => ∃ (a b : Addr) (d : List (Nat × Int)) (lo c : Nat), vs = [.ref a, .ref b] ∧ H a = some (.dK (dN d)) ∧ GoodD d ∧ H b = some (.lst ((nearT lo c).map V.int)) ∧ lo + c ≤ 12 ∧ ∀ (l : Addr) (H' : Hp), H l = none → H' l = some (.dK (dN (stOut d lo c d.length))) → Same H H' → Q (.ref l) H'
def spShN : Sp := fun vs H Q _ => ∃ (n : Nat) (r : Int), vs = [.int n, .int r] ∧ 1 ≤ n ∧ n ≤ 12 ∧ 0 ≤ r ∧ ∀ H', Same H H' → Q (.int (shN n r)) H'
def inW (w : Str) (n : Nat) (r : Int) : Int := if w = "swap" then ((swC (n - 1)).take (r + 1).toNat).sum else if w = "spot" then ((spC n).take (r + 1).toNat).sum else shN n r
def IsWy (w : Str) : Prop := w = "swap" ∨ w = "spot" ∨ w = "shift"
def spKW : Sp := fun vs H Q _ => ∃ (w : Str) (n : Nat) (r : Int), vs = [.str w, .int n, .int r] ∧ IsWay w ∧ 1 ≤ n ∧ n ≤ 12 ∧ 0 ≤ r ∧ ∀ H', Same H H' → Q (.int (inW w n r)) H'
theorem inW_swap (n : Nat) (r : Int) : inW "swap" n r = ((swC (n - 1)).take (r + 1).toNat).sum := by unfold inW; rw [if_pos rfl]
theorem inW_spot (n : Nat) (r : Int) : inW "spot" n r = ((spC n).take (r + 1).toNat).sum := by unfold inW; rw [if_neg n1, if_pos rfl]
theorem inW_shift (n : Nat) (r : Int) : inW "shift" n r = shN n r := by unfold inW; rw [if_neg n2, if_neg n3]
theorem inW_good {w : Str} {n : Nat} {r : Int} (hw : IsWay w) (h1 : 1 ≤ n) (h2 : n ≤ 12) (hr : 0 ≤ r) : 1 ≤ inW w n r ∧ inW w n r ≤ 8916100448256 := by
  rcases hw with rfl | rfl | rfl
  · rw [inW_swap]
    obtain ⟨a, b, c⟩ := swC_good (n - 1) (by omega)
    have := sum_take (k := (r + 1).toNat) a b (by omega)
    omega
  · rw [inW_spot]
    obtain ⟨a, b, c⟩ := spC_good n (by omega)
    have := sum_take (k := (r + 1).toNat) a b (by omega)
    omega
  · rw [inW_shift]
    exact shN_good h2 hr
theorem zeros_flat : ∀ m : Nat, (List.replicate m [V.int 0]).flatten = (List.replicate m (0 : Int)).map V.int
  | 0 => rfl
  | m + 1 => by
    rw [List.replicate_succ, List.replicate_succ, List.flatten_cons, zeros_flat m]
    rfl
theorem addAt_V {l : List Int} {i : Nat} {v : Int} : (l.map V.int).set i (V.int (l.getD i 0 + v)) = (addAt l i v).map V.int := by
  unfold addAt
  rw [List.map_set]
theorem getD_some {l : List Int} {i : Nat} (h : i < l.length) : l[i]? = some (l.getD i 0) := by
  rw [List.getD_eq_getElem?_getD, List.getElem?_eq_getElem h]
  rfl
theorem dN_get (l : List (Nat × Int)) (k : Nat) : (valV (dN l) (Sum.inl (k : Int))).getD (V.int 0) = V.int (lookN l k) := by
  induction l with
  | nil => rfl
  | cons p l ih =>
    rw [look_cons]
    by_cases c : p.1 = k
    · rw [if_pos c]
      show (valV ((Sum.inl ((p.1 : Nat) : Int), V.int p.2) :: dN l) (Sum.inl (k : Int))).getD (V.int 0) = _
      rw [valV_pos (by rw [c])]
      rfl
    · rw [if_neg c]
      show (valV ((Sum.inl ((p.1 : Nat) : Int), V.int p.2) :: dN l) (Sum.inl (k : Int))).getD (V.int 0) = _
      rw [valV_neg (fun e => c (by have := Sum.inl.inj e; omega))]
      exact ih
theorem dN_any (l : List (Nat × Int)) (k : Nat) : ((dN l).any fun kv => decide (kv.1 = Sum.inl (k : Int))) = l.any fun p => decide (p.1 = k) := by
  unfold dN
  rw [List.any_map]
  congr 1
  funext p
  show decide (Sum.inl ((p.1 : Nat) : Int) = (Sum.inl (k : Int) : Key)) = decide (p.1 = k)
  by_cases c : p.1 = k
  · rw [c]; simp
  · rw [decide_eq_false c, decide_eq_false (fun e => c (by have := Sum.inl.inj e; omega))]
theorem dN_put (l : List (Nat × Int)) (k : Nat) (v : Int) : putK (dN l) (Sum.inl (k : Int)) (V.int v) = dN (putN l k v) := by
  unfold putK putN
  rw [dN_any]
  split
  · unfold dN
    rw [List.map_map, List.map_map]
    apply List.map_congr_left
    intro p _
    show (if Sum.inl ((p.1 : Nat) : Int) = (Sum.inl (k : Int) : Key) then _ else _) = _
    by_cases c : p.1 = k
    · subst c
      rw [if_pos rfl]
      show _ = (Sum.inl _, V.int (if p.1 = p.1 then (p.1, v) else p).2)
      rw [if_pos rfl]
      show _ = (Sum.inl (((if p.1 = p.1 then (p.1, v) else p).1 : Nat) : Int), V.int v)
      rw [if_pos rfl]
    · rw [if_neg (fun e => c (by have := Sum.inl.inj e; omega))]
      show _ = (Sum.inl (((if p.1 = k then (p.1, v) else p).1 : Nat) : Int), V.int (if p.1 = k then (p.1, v) else p).2)
      rw [if_neg c]
  · unfold dN
    rw [List.map_append]
    rfl
theorem dN_len (l : List (Nat × Int)) : (dN l).length = l.length := List.length_map _
theorem dN_at {l : List (Nat × Int)} {i : Nat} {k : Key} {v : V} (h : (dN l)[i]? = some (k, v)) : i < l.length ∧ k = Sum.inl (((l.getD i (0, 0)).1 : Nat) : Int) ∧ v = V.int (l.getD i (0, 0)).2 := by
  unfold dN at h
  rw [List.getElem?_map] at h
  cases e : l[i]? with
  | none => rw [e] at h; cases h
  | some p =>
    rw [e] at h
    have h2 := Option.some.inj h
    have hi := (List.getElem?_eq_some_iff.mp e).1
    rw [List.getD_eq_getElem?_getD, e]
    exact ⟨hi, (Prod.mk.inj h2).1.symm, (Prod.mk.inj h2).2.symm⟩
theorem near_at {lo c j : Nat} (h : j < c) : (nearT lo c)[j]? = some (((lo + j : Nat)) : Int) := by
  unfold nearT
  rw [List.getElem?_map, List.getElem?_range h]
  rfl
theorem near_len (lo c : Nat) : (nearT lo c).length = c := by unfold nearT; rw [List.length_map, List.length_range]
theorem near_V {p n : Nat} {r : Int} (hp : p < n) (hr : 0 ≤ r) : rgV (max 0 ((p : Int) - r)) (min (n : Int) ((p : Int) + r + 1)) = (nearT (loP p r) (ctP n p r)).map V.int := by
  unfold rgV nearT
  have e : (min (n : Int) ((p : Int) + r + 1) - max 0 ((p : Int) - r)).toNat = ctP n p r := by
    unfold ctP loP
    omega
  rw [e, List.map_map]
  apply List.map_congr_left
  intro a _
  show V.int (max 0 ((p : Int) - r) + (a : Int)) = V.int ((loP p r + a : Nat) : Int)
  congr 1
  unfold loP
  omega
theorem bit_read {u t : Nat} (hu : u < 4096) (ht : t < 12) : decide (V.int (Builtin.bitAnd (u : Int) (1 * 2 ^ ((t : Nat) : Int).toNat)) = V.int 0) = !u.testBit t := by
  rw [Int.one_mul, Int.toNat_natCast, show ((2 : Int) ^ t) = ((2 ^ t : Nat) : Int) by rw [Int.natCast_pow]; rfl, bitAnd_pp (Int.natCast_nonneg _) (Int.natCast_nonneg _), Int.toNat_natCast, Int.toNat_natCast]
  cases h : u.testBit t with
  | false =>
    rw [bit_and h]
    rfl
  | true =>
    rw [decide_eq_false]
    · rfl
    · intro e
      have e2 : u &&& 2 ^ t = 0 := by have := V.int.inj e; omega
      have e3 := congrArg (fun x => Nat.testBit x t) e2
      simp [h] at e3
theorem bit_or {u t : Nat} (h : u.testBit t = false) (hu : u < 4096) (ht : t < 12) : Builtin.bitOr (u : Int) (1 * 2 ^ ((t : Nat) : Int).toNat) = ((u + 2 ^ t : Nat) : Int) := by
  rw [Int.one_mul, Int.toNat_natCast, show ((2 : Int) ^ t) = ((2 ^ t : Nat) : Int) by rw [Int.natCast_pow]; rfl, bitOr_and, bitAnd_pp (Int.natCast_nonneg _) (Int.natCast_nonneg _), Int.toNat_natCast, Int.toNat_natCast, bit_and h]
  omega
section
variable {P : Program} {w : World} {K : PySem.W.Frag} {mg : Str → Option Value} {base : Heap}
theorem scSwM : FnScope ["counts", "behind", "more", "far", "many", "passed"] ["counts", "behind"] (defScope s_swap_counts_with_one_more) := ⟨rfl, rfl, rfl, by decide +kernel, rfl, by decide +kernel, by decide +kernel⟩
set_option maxHeartbeats 1000000 in
theorem ok_swM {f : Addr} {fd : FuncData} {k : Nat} (T : Df K mg "swap_counts_with_one_more" s_swap_counts_with_one_more ["counts", "behind"] f fd) (B : Bi mg) : FnOk P w K mg base CX0 (k + 1) f fd ["counts", "behind"] spSwM := by
  refine T.F.ok scSwM (fun vs H Q E h => ?_) (fun cdv A outer s H vs Q E hr h => ?_)
  · obtain ⟨a, c, b, rfl, _⟩ := h
    rfl
  · obtain ⟨a, c, b, rfl, ha, hc, hb, q⟩ := h
    have hlm : (c.map V.int).length = c.length := List.length_map _
    refine ⟨_, 
      (pss_cons (ps_set (i := 2) scSwM.nd rfl (.inl rfl) (pe_op op_rep (pe_lst (pa_cons pe_int pa_nil)) (pe_op op_add (pe_callB call_len_seq (by rfl) B.len PySem.boot_len (pa_cons (pv 0) pa_nil)) (pv 1))))
      (pss_cons (ps_for PassesOwn.never rfl (pi_enum (by rfl) B.enumerate (pa_cons (pv 0) pa_nil)) (pg_tup (by rfl) (pgs_cons (pg_name (i := 3) scSwM.nd rfl (.inl rfl)) (pgs_cons (pg_name (i := 4) scSwM.nd rfl (.inl rfl)) pgs_nil)))
        (pss_one (ps_for PassesOwn.never rfl (pi_range1 (by rfl) B.range (pa_cons (pe_op op_add (pv 1) pe_int) pa_nil)) (pg_name (i := 5) scSwM.nd rfl (.inl rfl))
          (pss_one (ps_augS (pv 2) (pe_op op_add (pv 3) (pv 5)) get_list (pv 4) ip_add set_list)))))
      (pss_one (ps_ret (pv 2))))), ?_⟩
    refine ⟨line_small (by show 1 ≤ 16777216; decide), fun z nz => ?_⟩
    have s1 := same_new (o := .lst [.int 0]) nz
    refine ⟨_, rfl, a, _, rfl, .inl (SqL.of (s1 _ _ ha)), _, rfl, _, _, rfl, rfl, z, _, _, rfl, rfl, upd_same, by omega, by omega, line_small (by rw [hlm]; show 1 * _ ≤ _; omega), fun l nl => ?_⟩
    have en : ((((c.map V.int).length : Nat) : Int) + (b : Int)).toNat = c.length + b := by rw [hlm]; omega
    have s2 := s1.trans (same_new (o := .lst (List.replicate ((((c.map V.int).length : Nat) : Int) + (b : Int)).toNat [V.int 0]).flatten) nl)
    have hl0 : (upd (upd H z (.lst [.int 0])) l (.lst (List.replicate ((((c.map V.int).length : Nat) : Int) + (b : Int)).toNat [V.int 0]).flatten)) l = some (.lst ((swOut c b 0).map V.int)) := by rw [upd_same, en, zeros_flat]; rfl
    have nHl : H l = none := s1.free nl
    generalize upd (upd H z (.lst [.int 0])) l (.lst (List.replicate ((((c.map V.int).length : Nat) : Int) + (b : Int)).toNat [V.int 0]).flatten) = H1 at s2 hl0 ⊢
    refine ⟨_, rfl, a, _, rfl, SqL.of (s2 _ _ ha), ?_⟩
    refine for_enumL (xs := c.map V.int) (fun i σ H3 => ∃ (y3 y4 y5 : Option V), σ = [some (.ref a), some (.int b), some (.ref l), y3, y4, y5] ∧ H3 l = some (.lst ((swOut c b i).map V.int)) ∧ Same H H3)
      ⟨_, _, _, rfl, hl0, s2⟩ (fun i σ H3 hW => by obtain ⟨_, _, _, _, _, sm⟩ := hW; exact SqL.of (sm _ _ ha)) (fun i x t σ H3 hx hW nt => ?_) (fun σ H3 hW => ?_)
    · obtain ⟨y3, y4, y5, rfl, hl3, sm⟩ := hW
      obtain ⟨y, ey, rfl⟩ := int_at_inv hx
      have hi := (List.getElem?_eq_some_iff.mp ey).1
      have eg : c.getD i 0 = y := by rw [List.getD_eq_getElem?_getD, ey]; rfl
      have st := same_new (o := .tup [.int (i : Nat), .int y]) nt
      have hl4 := st _ _ hl3
      have sm4 := sm.trans st
      have ht4 : (upd H3 t (.tup [.int (i : Nat), .int y])) t = some (.tup [.int (i : Nat), .int y]) := upd_same
      generalize upd H3 t (.tup [.int (i : Nat), .int y]) = H4 at ht4 hl4 sm4 ⊢
      refine ⟨t, _, rfl, .inl (.inl ht4), rfl, _, _, rfl, _, _, rfl, rfl, ?_⟩
      refine ⟨_, rfl, (b : Int), 1, rfl, rfl, _, rfl, by omega, by omega, ?_⟩
      rw [show ((b : Int) + 1).toNat = b + 1 by omega]
      refine for_range (lo := 0) (n := b + 1) (fun j σ H5 => ∃ (y5 : Option V), σ = [some (.ref a), some (.int b), some (.ref l), some (.int (i : Nat)), some (.int y), y5] ∧ H5 l = some (.lst ((swIn y i j (swOut c b i)).map V.int)) ∧ Same H H5) ⟨_, rfl, hl4, sm4⟩ (fun j σ H5 hj hW => ?_) (fun σ H5 hW => ?_)
      · obtain ⟨z5, rfl, hl5, sm5⟩ := hW
        have hlen : (swIn y i j (swOut c b i)).length = c.length + b := by rw [swIn_len, swOut_len]
        have hij : i + j < (swIn y i j (swOut c b i)).length := by omega
        refine ⟨_, rfl, _, rfl, _, rfl, _, _, rfl, rfl, l, _, _, _, rfl, rfl, SqL.of hl5, by omega, at_of (j := i + j) (by omega) (int_at (getD_some hij)), _, rfl, _, _, rfl, rfl, l, _, _, i + j, rfl, rfl, hl5, ix_n (by omega) (by rw [List.length_map]; exact hij), _, rfl, ?_, fun u o e => ?_⟩
        · rw [upd_same, addAt_V]
          rfl
        · rw [upd_ne (ne_of_none e nHl)]
          exact sm5 _ _ e
      · obtain ⟨z5, rfl, hl5, sm5⟩ := hW
        refine ⟨_, _, _, rfl, ?_, sm5⟩
        rw [swOut, eg]
        exact hl5
    · obtain ⟨y3, y4, y5, rfl, hl3, sm⟩ := hW
      rw [hlm] at hl3
      exact ⟨_, rfl, q l H3 nHl hl3 sm⟩
theorem scSwC : FnScope ["n", "counts", "behind"] ["n"] (defScope s_swap_counts) := ⟨rfl, rfl, rfl, by decide +kernel, rfl, by decide +kernel, by decide +kernel⟩
theorem ok_swC {f f1 : Addr} {fd d1 : FuncData} {k : Nat} (T : Df K mg "swap_counts" s_swap_counts ["n"] f fd) (T_swap_counts_with_one_more : Df K mg "swap_counts_with_one_more" s_swap_counts_with_one_more ["counts", "behind"] f1 d1) (B : Bi mg) : FnOk P w K mg base CX0 (k + 2) f fd ["n"] spSwC := by
  have G_swap_counts_with_one_more : FnOk P w K mg base CX0 (k + 1) f1 d1 ["counts", "behind"] spSwM := ok_swM T_swap_counts_with_one_more B
  refine T.F.ok scSwC (fun vs H Q E h => ?_) (fun cdv A outer s H vs Q E hr h => ?_)
  · obtain ⟨n, rfl, _⟩ := h
    rfl
  · obtain ⟨n, rfl, hn1, hn2, q⟩ := h
    refine ⟨_, 
      (pss_cons (ps_set (i := 1) scSwC.nd rfl (.inl rfl) (pe_lst (pa_cons pe_int pa_nil)))
      (pss_cons (ps_for PassesOwn.never rfl (pi_range2 (by rfl) B.range (pa_cons pe_int (pa_cons (pv 0) pa_nil))) (pg_name (i := 2) scSwC.nd rfl (.inl rfl))
        (pss_one (ps_set (i := 1) scSwC.nd rfl (.inl rfl) (pe_call G_swap_counts_with_one_more hr (by rfl) T_swap_counts_with_one_more.g T_swap_counts_with_one_more.F.kp T_swap_counts_with_one_more.b .nil pass0 (pa_cons (pv 1) (pa_cons (pv 2) pa_nil))))))
      (pss_one (ps_ret (pv 1))))), ?_⟩
    refine ⟨line_small (by show 1 ≤ 16777216; decide), fun l nl => ?_⟩
    have s1 := same_new (o := .lst [.int 1]) nl
    refine ⟨_, rfl, 1, (n : Int), rfl, ⟨by omega, by omega, by omega, by omega⟩, ?_⟩
    rw [show ((n : Int) - 1).toNat = n - 1 by omega]
    refine for_range (lo := 1) (n := n - 1) (fun i σ H1 => ∃ (l : Addr) (y2 : Option V), σ = [some (.int n), some (.ref l), y2] ∧ H l = none ∧ H1 l = some (.lst ((swC i).map V.int)) ∧ Same H H1) ⟨l, _, rfl, nl, upd_same, s1⟩ (fun i σ H1 hi hW => ?_) (fun σ H1 hW => ?_)
    · obtain ⟨l, y2, rfl, nl, hl, sm⟩ := hW
      refine ⟨_, rfl, _, rfl, l, swC i, i + 1, by show _ = [V.ref l, V.int ((i + 1 : Nat) : Int)]; rw [show ((i + 1 : Nat) : Int) = 1 + (i : Int) by omega]; rfl, hl, by rw [swC_len]; have := (tri_le i (by omega)).1; omega, by omega, fun l2 H2 nl2 hl2 s2 => ?_⟩
      exact ⟨l2, _, rfl, sm.free nl2, hl2, sm.trans s2⟩
    · obtain ⟨l, y2, rfl, nl, hl, sm⟩ := hW
      exact ⟨_, rfl, q l H1 nl hl sm⟩
end
end Fo
namespace Fo
open PySem PySem.Spec PyProof.Rows L2
theorem max_if (i j : Int) : (if j > i then j else i) = max i j := by split <;> omega
theorem min_if (i j : Int) : (if j < i then j else i) = min i j := by split <;> omega
theorem dN_val : ∀ {l : List (Nat × Int)} {i : Nat}, (keysN l).Nodup → i < l.length → valV (dN l) (Sum.inl (((l.getD i (0, 0)).1 : Nat) : Int)) = some (V.int (l.getD i (0, 0)).2)
  | [], i, _, h => absurd h (Nat.not_lt_zero _)
  | p :: l, 0, _, _ => valV_pos rfl
  | p :: l, i + 1, hn, h => by
    obtain ⟨h1, h2⟩ := List.nodup_cons.mp hn
    have ih := dN_val (l := l) (i := i) h2 (by simpa using h)
    have hi : i < l.length := by simpa using h
    show valV ((Sum.inl ((p.1 : Nat) : Int), V.int p.2) :: dN l) (Sum.inl (((l.getD i (0, 0)).1 : Nat) : Int)) = some (V.int (l.getD i (0, 0)).2)
    rw [valV_neg (fun e => h1 (by
      have e2 : p.1 = (l.getD i (0, 0)).1 := by have := Sum.inl.inj e; omega
      exact List.mem_map.mpr ⟨l.getD i (0, 0), by rw [getD_at hi]; exact List.getElem_mem _, e2.symm⟩))]
    exact ih
theorem dN_sum (l : List (Nat × Int)) : (dN l).map (·.2) = (l.map (·.2)).map V.int := by
  unfold dN
  rw [List.map_map, List.map_map]
  rfl
section
variable {P : Program} {w : World} {K : PySem.W.Frag} {mg : Str → Option Value} {base : Heap}
theorem scMv : FnScope ["n", "many", "sign", "things"] ["n"] (defScope s_count_all_moved) := ⟨rfl, rfl, rfl, by decide +kernel, rfl, by decide +kernel, by decide +kernel⟩
theorem ok_mv {f : Addr} {fd : FuncData} {k : Nat} (T : Df K mg "count_all_moved" s_count_all_moved ["n"] f fd) (B : Bi mg) : FnOk P w K mg base CX0 (k + 1) f fd ["n"] spMv := by
  refine T.F.ok scMv (fun vs H Q E h => ?_) (fun cdv A outer s H vs Q E hr h => ?_)
  · obtain ⟨n, rfl, _⟩ := h
    rfl
  · obtain ⟨n, rfl, hn, q⟩ := h
    refine ⟨_, 
      (pss_cons (ps_set (i := 1) scMv.nd rfl (.inl rfl) pe_int)
      (pss_cons (ps_set (i := 2) scMv.nd rfl (.inl rfl) pe_int)
      (pss_cons (ps_for PassesOwn.never rfl (pi_range2 (by rfl) B.range (pa_cons pe_int (pa_cons (pe_op op_add (pv 0) pe_int) pa_nil))) (pg_name (i := 3) scMv.nd rfl (.inl rfl))
        (pss_cons (ps_set (i := 2) scMv.nd rfl (.inl rfl) (pe_un un_neg (pv 2)))
        (pss_one (ps_set (i := 1) scMv.nd rfl (.inl rfl) (pe_op op_add (pe_op op_mul (pv 1) (pv 3)) (pv 2))))))
      (pss_one (ps_ret (pv 1)))))), ?_⟩
    refine ⟨_, rfl, (n : Int), 1, rfl, rfl, 1, _, rfl, ⟨by omega, by omega, by omega, by omega⟩, ?_⟩
    rw [show ((n : Int) + 1 - 1).toNat = n by omega]
    refine for_range (lo := 1) (n := n) (fun i σ H1 => ∃ y2 : Option V, σ = [some (.int n), some (.int (mvN i).1), some (.int (mvN i).2), y2] ∧ H1 = H) ⟨_, rfl, rfl⟩ (fun i σ H1 hi hW => ?_) (fun σ H1 hW => ?_)
    · obtain ⟨y2, rfl, rfl⟩ := hW
      have hf := mv_small i (by omega)
      refine ⟨_, rfl, _, rfl, _, rfl, _, rfl, _, _, rfl, rfl, .inl ⟨by omega, by omega⟩, _, rfl, _, _, rfl, rfl, some (.int (1 + (i : Int))), ?_, rfl⟩
      show [some (V.int (n : Int)), some (V.int ((mvN i).1 * (1 + (i : Int)) + -(mvN i).2)), some (V.int (-(mvN i).2)), some (V.int (1 + (i : Int)))] = _
      rw [Int.add_comm 1 (i : Int)]
      rfl
    · obtain ⟨y2, rfl, rfl⟩ := hW
      exact ⟨_, rfl, q⟩
theorem scSpC : FnScope ["n", "counts", "choices", "r"] ["n"] (defScope s_spot_counts) := ⟨rfl, rfl, rfl, by decide +kernel, rfl, by decide +kernel, by decide +kernel⟩
set_option maxHeartbeats 1000000 in
theorem ok_spC {f f1 : Addr} {fd d1 : FuncData} {k : Nat} (T : Df K mg "spot_counts" s_spot_counts ["n"] f fd) (T_count_all_moved : Df K mg "count_all_moved" s_count_all_moved ["n"] f1 d1) (B : Bi mg) : FnOk P w K mg base CX0 (k + 2) f fd ["n"] spSpC := by
  have G_count_all_moved : FnOk P w K mg base CX0 (k + 1) f1 d1 ["n"] spMv := ok_mv T_count_all_moved B
  refine T.F.ok scSpC (fun vs H Q E h => ?_) (fun cdv A outer s H vs Q E hr h => ?_)
  · obtain ⟨n, rfl, _⟩ := h
    rfl
  · obtain ⟨n, rfl, hn1, hn2, q⟩ := h
    refine ⟨_, 
      (pss_cons (ps_set (i := 1) scSpC.nd rfl (.inl rfl) (pe_lst pa_nil))
      (pss_cons (ps_set (i := 2) scSpC.nd rfl (.inl rfl) pe_int)
      (pss_cons (ps_for PassesOwn.never rfl (pi_range1 (by rfl) B.range (pa_cons (pe_op op_add (pv 0) pe_int) pa_nil)) (pg_name (i := 3) scSpC.nd rfl (.inl rfl))
        (pss_cons (ps_expr (pe_bm PySem.F.plainAttrs_list PySem.F.slot_list_append PySem.F.type_list_append mt_append (pv 1) (pa_cons (pe_op op_mul (pv 2) (pe_call G_count_all_moved hr (by rfl) T_count_all_moved.g T_count_all_moved.F.kp T_count_all_moved.b .nil pass0 (pa_cons (pv 3) pa_nil))) pa_nil)))
        (pss_one (ps_set (i := 2) scSpC.nd rfl (.inl rfl) (pe_op op_fdiv (pe_op op_mul (pv 2) (pe_op op_sub (pv 0) (pv 3))) (pe_op op_add (pv 3) pe_int))))))
      (pss_one (ps_ret (pv 1)))))), ?_⟩
    refine ⟨Nat.zero_le _, fun l nl => ?_⟩
    have s1 := same_new (o := .lst []) nl
    refine ⟨_, rfl, (n : Int), 1, rfl, rfl, _, rfl, by omega, by omega, ?_⟩
    rw [show ((n : Int) + 1).toNat = n + 1 by omega]
    refine for_range (lo := 0) (n := n + 1) (fun i σ H1 => ∃ (y3 : Option V), σ = [some (.int n), some (.ref l), some (.int (chN n i)), y3] ∧ H1 l = some (.lst (((List.range i).map fun r => chN n r * (mvN r).1).map V.int)) ∧ Same H H1) ⟨_, rfl, upd_same, s1⟩ (fun i σ H1 hi hW => ?_) (fun σ H1 hW => ?_)
    · obtain ⟨y3, rfl, hl, sm⟩ := hW
      have hc := ch_small n (by omega) i (by omega)
      refine ⟨_, rfl, .inl ⟨rfl, _, SqL.of hl⟩, _, rfl, _, rfl, i, by rw [Int.zero_add]; rfl, by omega, _, _, rfl, rfl, .inl ⟨by omega, by omega⟩, l, _, _, rfl, rfl, hl, line_lt (by rw [List.length_map, List.length_map, List.length_range]; omega), ?_⟩
      refine ⟨_, rfl, _, rfl, _, rfl, (n : Int), _, rfl, rfl, _, _, rfl, rfl, .inl ⟨by omega, by omega⟩, _, rfl, _, 1, rfl, rfl, _, _, rfl, rfl, ⟨by omega, by omega⟩, some (.int (0 + (i : Int))), ?_, ?_, fun u o e => ?_⟩
      · show [some (V.int (n : Int)), some (V.ref l), some (V.int (chN n i * ((n : Int) - (0 + (i : Int))) / (0 + (i : Int) + 1))), some (V.int (0 + (i : Int)))] = _
        rw [Int.zero_add]
        rfl
      · rw [upd_same, List.range_succ, List.map_append, List.map_append]
        rfl
      · rw [upd_ne (ne_of_none e nl)]
        exact sm _ _ e
    · obtain ⟨y3, rfl, hl, sm⟩ := hW
      exact ⟨_, rfl, q l H1 nl hl sm⟩
theorem scNearT : FnScope ["place", "n", "r"] ["place", "n", "r"] (defScope s_things_near) := ⟨rfl, rfl, rfl, by decide +kernel, rfl, by decide +kernel, by decide +kernel⟩
theorem ok_nearT {f : Addr} {fd : FuncData} {k : Nat} (T : Df K mg "things_near" s_things_near ["place", "n", "r"] f fd) (B : Bi mg) : FnOk P w K mg base CX0 (k + 1) f fd ["place", "n", "r"] spNearT := by
  refine T.F.ok scNearT (fun vs H Q E h => ?_) (fun cdv A outer s H vs Q E hr h => ?_)
  · obtain ⟨p, n, r, rfl, _⟩ := h
    rfl
  · obtain ⟨p, n, r, rfl, hp, hn, hr0, q⟩ := h
    refine ⟨_, 
      (pss_one (ps_ret (pe_listRg rfl (by rfl) B.list (prg_2 (by rfl) B.range (pe_callB (call_max2 rfl) (by rfl) B.max (by decide +kernel) (pa_cons pe_int (pa_cons (pe_op op_sub (pv 0) (pv 2)) pa_nil))) (pe_callB (call_min2 rfl) (by rfl) B.min (by decide +kernel) (pa_cons (pv 1) (pa_cons (pe_op op_add (pe_op op_add (pv 0) (pv 2)) pe_int) pa_nil))))))), ?_⟩
    refine ⟨_, rfl, _, rfl, _, _, rfl, rfl, _, _, rfl, _, rfl, _, rfl, _, rfl, _, _, rfl, rfl, _, _, rfl, rfl, _, _, rfl, ?_⟩
    rw [max_if, min_if]
    refine ⟨_, _, rfl, rfl, RgOk.of_le (by omega) (by omega) (by omega) (by omega), fun l nl => ?_⟩
    exact q l _ nl (by rw [upd_same, near_V hp hr0]) (same_new nl)
theorem scFurther : FnScope ["beginnings", "near", "longer", "used", "many", "thing", "bit"] ["beginnings", "near"] (defScope s_one_place_further) := ⟨rfl, rfl, rfl, by decide +kernel, rfl, by decide +kernel, by decide +kernel⟩
set_option maxHeartbeats 2000000 in
theorem ok_further {f : Addr} {fd : FuncData} {k : Nat} (T : Df K mg "one_place_further" s_one_place_further ["beginnings", "near"] f fd) (B : Bi mg) : FnOk P w K mg base CX0 (k + 1) f fd ["beginnings", "near"] spFurther := by
  refine T.F.ok scFurther (fun vs H Q E h => ?_) (fun cdv A outer s H vs Q E hr h => ?_)
  · obtain ⟨a, b, d, lo, c, rfl, _⟩ := h
    rfl
  · obtain ⟨a, b, d, lo, c, rfl, ha, hd, hb, hc, q⟩ := h
    refine ⟨_, 
      (pss_cons (ps_set (i := 2) scFurther.nd rfl (.inl rfl) pe_dnewK)
      (pss_cons (ps_lock (ps_for PassesOwn.never rfl (pi_items (pv 0)) (pg_tup (by rfl) (pgs_cons (pg_name (i := 3) scFurther.nd rfl (.inl rfl)) (pgs_cons (pg_name (i := 4) scFurther.nd rfl (.inl rfl)) pgs_nil)))
        (pss_one (ps_for PassesOwn.never rfl (pi_list (pv 1)) (pg_name (i := 5) scFurther.nd rfl (.inl rfl))
          (pss_cons (ps_set (i := 6) scFurther.nd rfl (.inl rfl) (pe_op op_shl pe_int (pv 5)))
          (pss_one (ps_if (pt_cmpR op_eq (pe_op op_and (pv 3) (pv 6)) pe_int (nomark _))
            (pss_one (ps_dput (hu_of hr) (pv 2) (pe_op op_or (pv 3) (pv 6)) (pe_op op_add (pe_dget2 (hu_of hr) (pv 2) (pe_op op_or (pv 3) (pv 6)) pe_int ⟨by rfl, by rfl, by rfl, by rfl⟩) (pv 4)) (by rfl)))
            pss_nil)))))))
      (pss_one (ps_ret (pv 2))))), ?_⟩
    refine fun l nl => ?_
    have s1 := same_new (o := .dK []) nl
    have nla : l ≠ a := (ne_of_none ha nl).symm
    have nlb : l ≠ b := (ne_of_none hb nl).symm
    have nba : b ≠ a := fun z => by rw [z, ha] at hb; cases hb
    refine ⟨a, _, s1 _ _ ha, trivial, fun od => ?_⟩
    refine ⟨_, rfl, a, od, _, rfl, upd_same, ?_⟩
    refine for_items (od := od) (kvs := dN d) (fun i σ H3 => ∃ (y3 y4 y5 y6 : Option V), σ = [some (.ref a), some (.ref b), some (.ref l), y3, y4, y5, y6] ∧ H3 l = some (.dK (dN (stOut d lo c i))) ∧ H3 a = some (.frz od (.dK (dN d))) ∧ (∀ u o, H u = some o → u ≠ a → H3 u = some o))
      ⟨_, _, _, _, rfl, by rw [upd_ne nla]; exact upd_same, upd_same, fun u o e nu => by rw [upd_ne nu]; exact s1 _ _ e⟩ (fun i σ H3 hW => by obtain ⟨_, _, _, _, _, _, h3, _⟩ := hW; exact h3) (fun i kk v t σ H3 hx hW nt => ?_) (fun σ H3 hW => ?_)
    · obtain ⟨y3, y4, y5, y6, rfl, hl3, ha3, kp⟩ := hW
      obtain ⟨hi, rfl, rfl⟩ := dN_at hx
      obtain ⟨g1, _, _⟩ := stOut_good hd hc i (by omega)
      have hmem : d.getD i (0, 0) ∈ d := by rw [getD_at hi]; exact List.getElem_mem _
      have hm := hd.pos _ hmem
      have hu := hd.lt _ (List.mem_map.mpr ⟨_, hmem, rfl⟩)
      generalize hux : (d.getD i (0, 0)).1 = ux at hu
      generalize hmx : (d.getD i (0, 0)).2 = mx at hm
      have st := same_new (o := .tup [kV (Sum.inl ((ux : Nat) : Int)), .int mx]) nt
      have hl4 := st _ _ hl3
      have ha4 := st _ _ ha3
      have kp4 : ∀ u o, H u = some o → u ≠ a → (upd H3 t (.tup [kV (Sum.inl ((ux : Nat) : Int)), .int mx])) u = some o := fun u o e nu => st _ _ (kp u o e nu)
      have ht4 : (upd H3 t (.tup [kV (Sum.inl ((ux : Nat) : Int)), .int mx])) t = some (.tup [kV (Sum.inl ((ux : Nat) : Int)), .int mx]) := upd_same
      generalize upd H3 t (.tup [kV (Sum.inl ((ux : Nat) : Int)), .int mx]) = H4 at ht4 hl4 ha4 kp4 ⊢
      refine ⟨t, _, rfl, .inl (.inl ht4), rfl, _, _, rfl, _, _, rfl, rfl, ?_⟩
      refine ⟨_, rfl, b, rfl, ⟨_, SqL.of (kp4 _ _ hb nba)⟩, ?_⟩
      refine for_list (xs := (nearT lo c).map V.int) (fun j σ H5 => ∃ (y5 y6 : Option V), σ = [some (.ref a), some (.ref b), some (.ref l), some (.int ((ux : Nat) : Int)), some (.int mx), y5, y6] ∧ H5 l = some (.dK (dN (stIn ux mx lo j (stOut d lo c i)))) ∧ H5 a = some (.frz od (.dK (dN d))) ∧ (∀ u o, H u = some o → u ≠ a → H5 u = some o))
        ⟨_, _, rfl, hl4, ha4, kp4⟩ (fun j σ H5 _ hW => by obtain ⟨_, _, _, _, _, kp5⟩ := hW; exact SqL.of (kp5 _ _ hb nba)) (fun j x σ H5 hx hW => ?_) (fun σ H5 hW => ?_)
      · obtain ⟨z5, z6, rfl, hl5, ha5, kp5⟩ := hW
        obtain ⟨y, ey, rfl⟩ := int_at_inv hx
        have hj := (List.getElem?_eq_some_iff.mp ey).1
        rw [near_len] at hj
        rw [near_at hj] at ey
        have ey2 := Option.some.inj ey
        subst ey2
        obtain ⟨k1, _, _, _⟩ := stIn_good (lo := lo) hu hm j _ g1 (by omega)
        have hln := k1.len
        refine ⟨_, rfl, 1, _, rfl, rfl, ⟨by omega, by omega, by decide⟩, ?_⟩
        refine ⟨_, rfl, _, rfl, _, _, rfl, rfl, rfl, _, rfl, ?_⟩
        rw [bit_read hu (show lo + j < 12 by omega)]
        cases htb : ux.testBit (lo + j) with
        | true =>
          refine iteF ⟨_, _, rfl, ?_, ha5, kp5⟩
          rw [stIn, htb, if_pos rfl]
          exact hl5
        | false =>
          refine iteT ?_
          have eb := bit_or htb hu (show lo + j < 12 by omega)
          have eg : DGet H5 l (V.int (Builtin.bitOr (ux : Int) (1 * 2 ^ (((lo + j : Nat)) : Int).toNat))) (valV (dN (stIn ux mx lo j (stOut d lo c i))) (Sum.inl ((ux + 2 ^ (lo + j) : Nat) : Int))) := by
            rw [eb]
            exact DGet.k (k := Sum.inl _) hl5
          have ep : DPut H5 l (V.int (Builtin.bitOr (ux : Int) (1 * 2 ^ (((lo + j : Nat)) : Int).toNat))) (V.int (lookN (stIn ux mx lo j (stOut d lo c i)) (ux + 2 ^ (lo + j)) + mx)) (upd H5 l (.dK (dN (stIn ux mx lo (j + 1) (stOut d lo c i))))) := by
            rw [eb, stIn, htb, if_neg (by decide), ← dN_put]
            exact DPut.k (k := Sum.inl _) hl5 (line_lt (by rw [dN_len]; omega))
          refine ⟨_, rfl, l, rfl, .inl ⟨_, .inl hl5⟩, _, rfl, _, rfl, _, _, rfl, rfl, _, eg, _, rfl, _, _, dN_get _ _, rfl, _, rfl, _, rfl, _, rfl, _, _, rfl, rfl, l, _, rfl, ep, _, _, rfl, upd_same, ?_, fun u o e nu => ?_⟩
          · rw [upd_ne nla.symm]
            exact ha5
          · rw [upd_ne (ne_of_none e nl)]
            exact kp5 u o e nu
      · obtain ⟨z5, z6, rfl, hl5, ha5, kp5⟩ := hW
        rw [List.length_map, near_len] at hl5
        refine ⟨_, _, _, _, rfl, ?_, ha5, kp5⟩
        rw [stOut, hux, hmx]
        exact hl5
    · obtain ⟨y3, y4, y5, y6, rfl, hl3, ha3, kp⟩ := hW
      rw [dN_len] at hl3
      refine ⟨ha3, _, rfl, q l _ nl (by rw [upd_ne nla]; exact hl3) fun u o e => ?_⟩
      by_cases c : u = a
      · subst c
        rw [upd_same]
        rw [ha] at e
        exact e
      · rw [upd_ne c]
        exact kp u o e c
theorem scShN : FnScope ["n", "r", "beginnings", "place", "near"] ["n", "r"] (defScope s_shift_within) := ⟨rfl, rfl, rfl, by decide +kernel, rfl, by decide +kernel, by decide +kernel⟩
set_option maxHeartbeats 1000000 in
theorem ok_shN {f f1 f2 : Addr} {fd d1 d2 : FuncData} {k : Nat} (T : Df K mg "shift_within" s_shift_within ["n", "r"] f fd) (T_things_near : Df K mg "things_near" s_things_near ["place", "n", "r"] f1 d1) (T_one_place_further : Df K mg "one_place_further" s_one_place_further ["beginnings", "near"] f2 d2) (B : Bi mg) : FnOk P w K mg base CX0 (k + 2) f fd ["n", "r"] spShN := by
  have G_things_near : FnOk P w K mg base CX0 (k + 1) f1 d1 ["place", "n", "r"] spNearT := ok_nearT T_things_near B
  have G_one_place_further : FnOk P w K mg base CX0 (k + 1) f2 d2 ["beginnings", "near"] spFurther := ok_further T_one_place_further B
  refine T.F.ok scShN (fun vs H Q E h => ?_) (fun cdv A outer s H vs Q E hr h => ?_)
  · obtain ⟨n, r, rfl, _⟩ := h
    rfl
  · obtain ⟨n, r, rfl, hn1, hn2, hr0, q⟩ := h
    refine ⟨_, 
      (pss_cons (ps_set (i := 2) scShN.nd rfl (.inl rfl) (pe_disp (pps_cons pe_int pe_int pps_nil) (by rfl) (by rfl) (fun z => by cases z) (by decide)))
      (pss_cons (ps_for PassesOwn.never rfl (pi_range1 (by rfl) B.range (pa_cons (pv 0) pa_nil)) (pg_name (i := 3) scShN.nd rfl (.inl rfl))
        (pss_cons (ps_set (i := 4) scShN.nd rfl (.inl rfl) (pe_call G_things_near hr (by rfl) T_things_near.g T_things_near.F.kp T_things_near.b .nil pass0 (pa_cons (pv 3) (pa_cons (pv 0) (pa_cons (pv 1) pa_nil)))))
        (pss_one (ps_set (i := 2) scShN.nd rfl (.inl rfl) (pe_call G_one_place_further hr (by rfl) T_one_place_further.g T_one_place_further.F.kp T_one_place_further.b .nil pass0 (pa_cons (pv 2) (pa_cons (pv 4) pa_nil)))))))
      (pss_one (ps_ret (pe_sumVals rfl (by rfl) B.sum (pv 2)))))), ?_⟩
    refine fun l nl => ⟨upd_same, [(Sum.inl 0, .int 1)], rfl, by decide, ?_⟩
    have s1 : Same H (upd (upd H l (.dK [])) l (.dK (mergeK [] [(Sum.inl 0, .int 1)]))) := fun u o e => by rw [upd_ne (ne_of_none e nl), upd_ne (ne_of_none e nl)]; exact e
    refine ⟨_, rfl, n, rfl, by omega, by omega, ?_⟩
    rw [Int.toNat_natCast]
    refine for_range (n := n) (fun i σ H1 => ∃ (l : Addr) (y3 y4 : Option V), σ = [some (.int n), some (.int r), some (.ref l), y3, y4] ∧ H1 l = some (.dK (dN (shD n r i))) ∧ Same H H1) ⟨l, _, _, rfl, by rw [upd_same]; rfl, s1⟩ (fun i σ H1 hi hW => ?_) (fun σ H1 hW => ?_)
    · obtain ⟨l, y3, y4, rfl, hl, sm⟩ := hW
      obtain ⟨g1, _, _⟩ := shD_good (r := r) hn2 hr0 i (by omega)
      obtain ⟨l1, _, _⟩ := lo_ct (r := r) hn2 hi hr0
      refine ⟨_, rfl, _, rfl, _, rfl, i, n, r, by rw [Int.zero_add]; rfl, hi, hn2, hr0, fun p H2 np hp s2 => ?_⟩
      refine ⟨_, rfl, _, rfl, l, p, _, _, _, rfl, s2 _ _ hl, g1, hp, l1, fun l2 H3 nl2 hl2 s3 => ?_⟩
      exact ⟨l2, _, _, rfl, hl2, (sm.trans s2).trans s3⟩
    · obtain ⟨l, y3, y4, rfl, hl, sm⟩ := hW
      exact ⟨_, rfl, l, _, _, rfl, hl, dN_sum _, q H1 sm⟩
theorem scKW : FnScope ["way", "n", "r"] ["way", "n", "r"] (defScope s_known_within) := ⟨rfl, rfl, rfl, by decide +kernel, rfl, by decide +kernel, by decide +kernel⟩
theorem ok_kw {f f1 f2 f3 f4 f5 f6 f7 : Addr} {fd d1 d2 d3 d4 d5 d6 d7 : FuncData} {k : Nat} (T : Df K mg "known_within" s_known_within ["way", "n", "r"] f fd) (T_swap_counts : Df K mg "swap_counts" s_swap_counts ["n"] f1 d1) (T_spot_counts : Df K mg "spot_counts" s_spot_counts ["n"] f2 d2) (T_shift_within : Df K mg "shift_within" s_shift_within ["n", "r"] f3 d3) (T4 : Df K mg "swap_counts_with_one_more" s_swap_counts_with_one_more ["counts", "behind"] f4 d4) (T5 : Df K mg "count_all_moved" s_count_all_moved ["n"] f5 d5) (T6 : Df K mg "things_near" s_things_near ["place", "n", "r"] f6 d6) (T7 : Df K mg "one_place_further" s_one_place_further ["beginnings", "near"] f7 d7) (B : Bi mg) : FnOk P w K mg base CX0 (k + 3) f fd ["way", "n", "r"] spKW := by
  have G_swap_counts : FnOk P w K mg base CX0 (k + 2) f1 d1 ["n"] spSwC := ok_swC T_swap_counts T4 B
  have G_spot_counts : FnOk P w K mg base CX0 (k + 2) f2 d2 ["n"] spSpC := ok_spC T_spot_counts T5 B
  have G_shift_within : FnOk P w K mg base CX0 (k + 2) f3 d3 ["n", "r"] spShN := ok_shN T_shift_within T6 T7 B
  refine T.F.ok scKW (fun vs H Q E h => ?_) (fun cdv A outer s H vs Q E hr h => ?_)
  · obtain ⟨wy, n, r, rfl, _⟩ := h
    rfl
  · obtain ⟨wy, n, r, rfl, hw, hn1, hn2, hr0, q⟩ := h
    refine ⟨_, 
      (pss_cons (ps_if (pt_cmpR op_eq (pv 0) pe_str (nomark _))
        (pss_one (ps_ret (pe_callB (cr_sum rfl) (by rfl) B.sum (by decide +kernel) (pa_cons (pe_slice sl_list (pe_call G_swap_counts hr (by rfl) T_swap_counts.g T_swap_counts.F.kp T_swap_counts.b .nil pass0 (pa_cons (pv 1) pa_nil)) po_none (po_some (pe_op op_add (pv 2) pe_int))) pa_nil))))
        pss_nil)
      (pss_cons (ps_if (pt_cmpR op_eq (pv 0) pe_str (nomark _))
        (pss_one (ps_ret (pe_callB (cr_sum rfl) (by rfl) B.sum (by decide +kernel) (pa_cons (pe_slice sl_list (pe_call G_spot_counts hr (by rfl) T_spot_counts.g T_spot_counts.F.kp T_spot_counts.b .nil pass0 (pa_cons (pv 1) pa_nil)) po_none (po_some (pe_op op_add (pv 2) pe_int))) pa_nil))))
        pss_nil)
      (pss_one (ps_ret (pe_call G_shift_within hr (by rfl) T_shift_within.g T_shift_within.F.kp T_shift_within.b .nil pass0 (pa_cons (pv 1) (pa_cons (pv 2) pa_nil))))))), ?_⟩
    have er : r + 1 = (((r + 1).toNat : Nat) : Int) := by omega
    rcases hw with rfl | rfl | rfl
    · refine ⟨_, rfl, rfl, _, rfl, ite2 (fun _ => ?_) (fun c => absurd (by decide +kernel) c)⟩
      refine ⟨_, rfl, n, rfl, hn1, hn2, fun l H1 nl hl s1 => ?_⟩
      refine ⟨_, rfl, r, 1, rfl, rfl, _, rfl, l, _, rfl, SqL.of hl, fun p np => ?_⟩
      refine ⟨p, (swC (n - 1)).take (r + 1).toNat, rfl, SqL.of (by rw [upd_same, cut_ints, er, cutI_head, Int.toNat_natCast]), ?_⟩
      rw [← inW_swap]
      exact q _ (s1.trans (same_new np))
    · refine ⟨_, rfl, rfl, _, rfl, ite2 (fun c => absurd c (by decide +kernel)) (fun _ => ?_)⟩
      refine ⟨_, rfl, rfl, _, rfl, ite2 (fun _ => ?_) (fun c => absurd (by decide +kernel) c)⟩
      refine ⟨_, rfl, n, rfl, hn1, hn2, fun l H1 nl hl s1 => ?_⟩
      refine ⟨_, rfl, r, 1, rfl, rfl, _, rfl, l, _, rfl, SqL.of hl, fun p np => ?_⟩
      refine ⟨p, (spC n).take (r + 1).toNat, rfl, SqL.of (by rw [upd_same, cut_ints, er, cutI_head, Int.toNat_natCast]), ?_⟩
      rw [← inW_spot]
      exact q _ (s1.trans (same_new np))
    · refine ⟨_, rfl, rfl, _, rfl, ite2 (fun c => absurd c (by decide +kernel)) (fun _ => ?_)⟩
      refine ⟨_, rfl, rfl, _, rfl, ite2 (fun c => absurd c (by decide +kernel)) (fun _ => ?_)⟩
      exact ⟨_, rfl, _, rfl, n, r, rfl, hn1, hn2, hr0, fun H1 s1 => by rw [← inW_shift]; exact q H1 s1⟩
end
end Fo
namespace Fo
open PySem PySem.Spec PyProof.Rows L2
def spCount : Sp := fun vs H Q _ => ∃ (w : Str) (n : Nat) (r : Int), vs = [.str w, .int n, .int r] ∧ IsWay w ∧ 1 ≤ n ∧ n ≤ 12 ∧ 0 ≤ r ∧ Q .non H
def atW (w : Str) (n : Nat) (r : Int) : Int := if r = 0 then inW w n 0 else inW w n r - inW w n (r - 1)
def spAt : Sp := fun vs H Q _ => ∃ (w : Str) (n : Nat) (r : Int), vs = [.str w, .int n, .int r] ∧ IsWay w ∧ 1 ≤ n ∧ n ≤ 12 ∧ 0 ≤ r ∧ ∀ H', Same H H' → Q (.int (atW w n r)) H'
section
variable {P : Program} {w : World} {K : PySem.W.Frag} {mg : Str → Option Value} {base : Heap}
theorem scCount : FnScope ["way", "n", "r"] ["way", "n", "r"] (defScope s_check_count) := ⟨rfl, rfl, rfl, by decide +kernel, rfl, by decide +kernel, by decide +kernel⟩
theorem ok_count {f f1 f2 f3 fW aW : Addr} {fd d1 d2 d3 dW : FuncData} {k : Nat} {tk : Tok} (T : Df K mg "check_count" s_check_count ["way", "n", "r"] f fd) (T_check_way : Df K mg "check_way" s_check_way ["thing"] f1 d1) (T_check_size : Df K mg "check_size" s_check_size ["thing", "most"] f2 d2) (T_check_from : Df K mg "check_from" s_check_from ["thing", "least"] f3 d3) (T_is_whole : Df K mg "is_whole" s_is_whole ["thing"] fW dW) (W : Wy K mg aW) (B : Bi mg) (mM : mg "MOST_THINGS" = some (.int 12 tk)) : FnOk P w K mg base CX0 (k + 3) f fd ["way", "n", "r"] spCount := by
  have G_check_way : FnOk P w K mg base CX0 (k + 2) f1 d1 ["thing"] spWay := ok_way (k := k + 1) T_check_way W B
  have G_check_size : FnOk P w K mg base CX0 (k + 2) f2 d2 ["thing", "most"] spSize := ok_size T_check_size T_is_whole B
  have G_check_from : FnOk P w K mg base CX0 (k + 2) f3 d3 ["thing", "least"] spFrom := ok_from T_check_from T_is_whole B
  refine T.F.ok scCount (fun vs H Q E h => ?_) (fun cdv A outer s H vs Q E hr h => ?_)
  · obtain ⟨w, n, r, rfl, _⟩ := h
    rfl
  · obtain ⟨w, n, r, rfl, hw, h1, h2, h3, q⟩ := h
    refine ⟨_, 
      (pss_cons (ps_expr (pe_call G_check_way hr (by rfl) T_check_way.g T_check_way.F.kp T_check_way.b .nil pass0 (pa_cons (pv 0) pa_nil)))
      (pss_cons (ps_expr (pe_call G_check_size hr (by rfl) T_check_size.g T_check_size.F.kp T_check_size.b .nil pass0 (pa_cons (pv 1) (pa_cons (pe_glob (v := .int 12) (by rfl) mM ⟨_, rfl⟩) pa_nil))))
      (pss_one (ps_expr (pe_call G_check_from hr (by rfl) T_check_from.g T_check_from.F.kp T_check_from.b .nil pass0 (pa_cons (pv 2) (pa_cons pe_int pa_nil))))))), ?_⟩
    exact ⟨_, rfl, w, rfl, hw, _, rfl, n, 12, rfl, by omega, by omega, _, rfl, r, 0, rfl, h3, q⟩
theorem scCW : FnScope ["way", "n", "r"] ["way", "n", "r"] (defScope s_count_within) := ⟨rfl, rfl, rfl, by decide +kernel, rfl, by decide +kernel, by decide +kernel⟩
theorem ok_cw {f f1 f2 : Addr} {fd d1 d2 : FuncData} {k : Nat} (T : Df K mg "count_within" s_count_within ["way", "n", "r"] f fd) (T_check_count : Df K mg "check_count" s_check_count ["way", "n", "r"] f1 d1) (T_known_within : Df K mg "known_within" s_known_within ["way", "n", "r"] f2 d2) (G_check_count : FnOk P w K mg base CX0 k f1 d1 ["way", "n", "r"] spCount) (G_known_within : FnOk P w K mg base CX0 k f2 d2 ["way", "n", "r"] spKW) : FnOk P w K mg base CX0 (k + 1) f fd ["way", "n", "r"] spKW := by
  refine T.F.ok scCW (fun vs H Q E h => ?_) (fun cdv A outer s H vs Q E hr h => ?_)
  · obtain ⟨w, n, r, rfl, _⟩ := h
    rfl
  · obtain ⟨w, n, r, rfl, hw, h1, h2, h3, q⟩ := h
    refine ⟨_, 
      (pss_cons (ps_expr (pe_call G_check_count hr (by rfl) T_check_count.g T_check_count.F.kp T_check_count.b .nil pass0 (pa_cons (pv 0) (pa_cons (pv 1) (pa_cons (pv 2) pa_nil)))))
      (pss_one (ps_ret (pe_call G_known_within hr (by rfl) T_known_within.g T_known_within.F.kp T_known_within.b .nil pass0 (pa_cons (pv 0) (pa_cons (pv 1) (pa_cons (pv 2) pa_nil))))))), ?_⟩
    exact ⟨_, rfl, _, rfl, _, rfl, w, n, r, rfl, hw, h1, h2, h3, _, rfl, _, rfl, _, rfl, w, n, r, rfl, hw, h1, h2, h3, q⟩
end
end Fo
namespace Fo
open PySem PySem.Spec PyProof.Rows L2 GenW
/-! all(test for x in ..) where the test calls defs of the program -/
/-- around a generator's block that all() walks -/
abbrev gArd (A : Around) (ce : Env) : Around := A.in1.in1.deeper ce
theorem room_gen {k : Nat} {A : Around} {ce : Env} (r : Room (k + 1) A) : Room k (gArd A ce) := by
  obtain ⟨h1, h2, h3⟩ := r
  refine ⟨h1, ?_, ?_⟩
  · show A.depth + 1 + 3 * k + 5 < _
    omega
  · show A.units + 1 + 1 + 3 + 16 * k + 200 < _
    omega
theorem over_gl {A : Around} {el : Expr} {gs : List Comprehension} {sc : Scope} {p : Pos} {it ac : Value} {ce : Env} : A.over (.compLoop (.GeneratorExp el gs sc p) 0 it ac ce) [] = A.deeper ce := by
  first
    | rfl
    | (obtain ⟨a1, a2, a3, a4, a5⟩ := A; simp [Around.over, Around.deeper, marksOver, frameCount, unitsOf, envsOf, guardsOf, pushEnvs, pushGuards, Code.envs, Code.env?, Code.isFrame, Code.guards, Code.isGuard, Code.weight, Code.frames, Code.isCreation, Code.isCaller, Code.cUnits])
abbrev gCx (X : Cx) (s : Shared) (H : Hp) (ce : Env) (fp : List Addr) (pn : List (Addr × Obj)) : Cx := { X with A := gArd X.A ce, s_0 := s, H_0 := H, env := ce, outer := X.stack, stack := ce :: X.stack, ex := fp, fn := fun _ => false, pn := pn, xe := fun _ _ => False }
/-- the scope of a generator expression without cells of its own -/
structure GSc (sc : Scope) : Prop where
  co : sc.isCoroutine = false
  cell : ∀ y ∈ sc.names, y.2 ≠ .cell
  dot : sc.names.lookup (".0" : Str) = some NameKind.local
def gscB (sc : Scope) : Bool := !sc.isCoroutine && sc.names.all (fun y => y.2 != .cell) && sc.names.lookup (".0" : Str) == some NameKind.local
theorem gsc_by {sc : Scope} (h : gscB sc = true) : GSc sc := by
  unfold gscB at h
  simp only [Bool.and_eq_true, List.all_eq_true, bne_iff_ne, ne_eq, beq_iff_eq, Bool.not_eq_true'] at h
  exact ⟨h.1.1, h.1.2, h.2⟩
/-- what happens while a generator sleeps -/
def Aft (s s' : Shared) : Prop := s'.os = s.os ∧ AllBare s'.gens ∧ ∀ b o, s.heap.get? b = some o → s'.heap.get? b = some o

section
variable {X : Cx} {pins : List (Addr × Obj)} {σ : L2.St} {H : Hp} {s : Shared}
theorem gen_start {sc : Scope} {own : List (Str × Nat)} {fp : List Addr} {code : Value} {h2 : Heap} {g2 : Array GenState} {t2 : Nat} {m : Str → Option Value} {a : Addr} {go : Obj} (I : Inv X pins σ H s) (ok : BlkOk X.N X.env.scope sc own) (gs : GSc sc) (hN : X.N.Nodup) (hc : X.calm = true)
    (hfp : ∀ b ∈ fp, FpOk X pins H b ∧ b < s.heap.objs.size) (hn : h2.Ns s.heap.objs.size m) (kp : ∀ b o, s.heap.get? b = some o → h2.get? b = some o) (ha : s.heap.objs.size < a) (hgo : h2.get? a = some go) (hgd : ∀ v, go.data ≠ .cell v) (hbr : AllBare g2) :
    Inv (gCx X s H (genEnv sc (cloFrom X.env.cells sc.names []) s.heap.objs.size code builtinsNs X.env) fp [(a, go)]) [] (wipe σ (own.map (·.2))) H { s with heap := h2, gens := g2, toks := t2 } := by
  have fr : ∀ y ∈ sc.names, y.2 = .free → ∃ c, X.env.cells.lookup y.1 = some c := fun y hy e => by
    rcases ok.free y hy e with k | k
    · exact I.ok.has _ (.inl k)
    · exact I.ok.has _ (.inr k)
  have cm : ∀ {y c}, (cloFrom X.env.cells sc.names []).lookup y = some c → X.env.cells.lookup y = some c ∧ c < s.heap.objs.size := fun {y c} e => by
    rcases cloFrom_mem (PySem.mem_of_lookup e) with hm | ⟨h1, rfl⟩
    · cases hm
    · obtain ⟨c, hc⟩ := fr _ h1 rfl
      rw [hc]
      obtain ⟨w, z⟩ := I.cell _ _ hc
      exact ⟨rfl, z.lt⟩
  have look : ∀ {y}, sc.names.lookup y = some .free → ∃ c, (cloFrom X.env.cells sc.names []).lookup y = some c ∧ X.env.cells.lookup y = some c := fun {y} hl => by
    obtain ⟨c', e'⟩ := mem_lookup (cloFrom_has (cells := X.env.cells) (acc := []) (PySem.mem_of_lookup hl))
    exact ⟨c', e', (cm e').1⟩
  have nst : ∀ b, s.heap.objs.size ≤ b → b ∉ frs X.stack := fun b hb z => by
    rcases List.mem_cons.mp (I.stkSub b z) with q | q
    · rw [q] at hb
      exact absurd (Nat.lt_of_lt_of_le I.lt hb) (Nat.lt_irrefl _)
    · exact I.nofs hb q
  have okB : (gCx X s H (genEnv sc (cloFrom X.env.cells sc.names []) s.heap.objs.size code builtinsNs X.env) fp [(a, go)]).Ok := by
    refine ⟨I.ok.mod, ok.kind, I.ok.glob, rfl, Nat.le_refl _, fun y z c e1 e2 => I.ok.inj y z c (cm e1).1 (cm e2).1, fun y hy => ?_, fun y c z e => (by cases z), fun _ => I.ok.hd hc, Around.frames_deeper (A := X.A.in1.in1) I.ok.frames, .inr ⟨rfl, rfl⟩,
      fun b hb => ⟨Nat.ne_of_lt (hfp b hb).2, fun y c e z => (hfp b hb).1.2.2.2.2.1 y c (cm e).1 z⟩, I.bs, Nat.le_trans I.ok.bsz I.sz, fun b o e hb => ?_, fun b hb z => ?_, I.stack, I.stkFree⟩
    · have hy : sc.names.lookup y = some .cell ∨ sc.names.lookup y = some .free := hy
      rcases hy with hy | hy
      · exact absurd rfl (gs.cell _ (PySem.mem_of_lookup hy))
      · obtain ⟨c, h1, _⟩ := look hy
        exact ⟨c, h1⟩
    · rcases (hfp b hb).1.2.2.2.1 with z | z
      · exact I.ok.noex b o e z
      · exact absurd (Nat.lt_of_lt_of_le (Heap.lt_size e) (Nat.le_trans I.ok.bsz z)) (Nat.lt_irrefl _)
    · rcases List.mem_cons.mp (I.stkSub b z) with q | q
      · exact (hfp b hb).1.2.1 q
      · exact (hfp b hb).1.2.2.1 q
  refine ⟨okB, rfl, hbr, Un.kept kp, ⟨m, hn, fun i y av e1 e2 e3 => ?_⟩, fun y c e => ?_, I.hok.fresh (Nat.le_refl _), fun y c e => I.freeC y c (cm e).1, fun p hp => ?_, I.hok.kept kp, by rw [wipe_length]; exact I.len⟩
  · obtain ⟨e2, hne⟩ := wipe_some e2
    have no : ∀ k, sc.names.lookup y = some k → ¬ (k = .local ∨ k = .cell) := fun k hk hh => by
      rcases ok.own _ (PySem.mem_of_lookup hk) hh with e' | e'
      · obtain ⟨p, hp, hpy⟩ := List.mem_map.mp e'
        have e3 := ok.ix p hp
        have : p.1 = y := hpy
        rw [this] at e3
        exact hne (List.mem_map.mpr ⟨p, hp, nodup_ix hN e3 e1⟩)
      · exact e' (List.mem_of_getElem? e1)
    have hfr : sc.names.lookup y = some .free := by
      have e3 : sc.names.lookup y = some .local ∨ sc.names.lookup y = some .cell ∨ sc.names.lookup y = some .free := e3
      rcases e3 with e3 | e3 | e3
      · exact absurd (.inl rfl) (no _ e3)
      · exact absurd (.inr rfl) (no _ e3)
      · exact e3
    obtain ⟨m', _, hl⟩ := I.loc
    have hvis : Vis X.env.scope y := (ok.free _ (PySem.mem_of_lookup hfr) rfl).elim (fun k => .inr (.inl k)) (fun k => .inr (.inr k))
    obtain ⟨w, r, q⟩ := hl i y av e1 e2 hvis
    refine ⟨w, r, .inr ⟨.inr hfr, ?_⟩⟩
    obtain ⟨c, h1, h3⟩ := look hfr
    rcases q with ⟨k, _⟩ | ⟨_, c', e', z⟩
    · have k : X.env.scope.names.lookup y = some .local := k
      rcases ok.free _ (PySem.mem_of_lookup hfr) rfl with k' | k' <;> rw [show X.env.scope.names.lookup y = _ from k'] at k <;> cases k
    · rw [h3] at e'
      cases e'
      exact ⟨c, h1, z.keeps kp⟩
  · obtain ⟨w, z⟩ := I.cell y c (cm e).1
    exact ⟨w, z.keeps kp⟩
  · have e : p = (a, go) := by simpa using hp
    subst e
    exact ⟨hgo, I.hok.fresh (Nat.le_of_lt ha), Nat.ne_of_gt ha, nst _ (Nat.le_of_lt ha), hgd⟩
end

/-- an item is out: a truth; behind False nothing is asked any more -/
def gY (Y : Cx) (w : L2.St) (Qf : Hp → Prop) (a : Addr) (g : Nat) : Protocol := fun _ _ v s kap => ∃ b, v = .bool b ∧ s.heap.IsGen a g ∧ s.heap.NoLimit ∧ AllBare s.gens ∧
  if b = true then ∀ s'', Aft s s'' → kap (.send .none) s'' else ∃ H, Inv Y [] w H s ∧ Qf H
def gR (Y : Cx) (w : L2.St) (Qt : Hp → Prop) : Nat → Shared → Shared → Prop := fun _ _ s => ∃ H, Inv Y [] w H s ∧ Qt H

theorem gen_loop {Y : Cx} {A : Around} {el tg iter : Expr} {sc : Scope} {pos : Pos} {it : Addr} {fp : List Addr} {tn : Nat → Heap → Prop} {J : It} {gt : TG} {te : TE} {vs : List Nat} {σ0 : L2.St} {a : Addr} {g : Nat} {go : Obj} {Qt Qf : Hp → Prop} {W : Nat → Nat → Hp → Prop}
    (hA : Y.A = A.deeper Y.env) (hc : Y.calm = true) (hx : Y.xe = fun _ _ => False) (hex : Y.ex = fp) (hpn : Y.pn = [(a, go)]) (hgo : ∀ h : Heap, h.get? a = some go → h.IsGen a g) (haf : a ∉ fp) (hco : Y.env.scope.isCoroutine = false)
    (T : Turn Y.prog Y.w Y.K tg J fp it tn) (pg : PG Y tg gt) (pe : PE Y el te)
    (turn : ∀ i m H, W i m H → (J.stop i H ∧ Qt H) ∨ (J.go i H ∧ ∀ x H', J.yld i H x H' → gt x (wipe σ0 vs) H' fun σ2 H3 => wipe σ2 vs = wipe σ0 vs ∧ te σ2 H3 fun y H4 => ∃ b, y = .bl b ∧ if b = true then ∃ m', m' < m ∧ W (i + 1) m' H4 else Qf H4)) :
    ∀ (n i m : Nat) (H : Hp) (s₀ s : Shared), m < n → W i m H → Inv Y [] (wipe σ0 vs) H s → tn i s.heap → (∀ b ∈ fp, H b = none) →
      Seg (model Y.prog Y.w) A (fun n s₀ r s₁ => r = .ok .next ∧ gR Y (wipe σ0 vs) Qt n s₀ s₁) (gY Y (wipe σ0 vs) Qf a g) n s₀ (.compLoop (.GeneratorExp el [⟨tg, iter, [], 0⟩] sc pos) 0 (.ref it) .none Y.env)
        ((model Y.prog Y.w).den (.compLoop (.GeneratorExp el [⟨tg, iter, [], 0⟩] sc pos) 0 (.ref it) .none Y.env)) [] s := by
  have ov : A.over (.compLoop (.GeneratorExp el [⟨tg, iter, [], 0⟩] sc pos) 0 (.ref it) .none Y.env) [] = Y.A := over_gl.trans hA.symm
  have fpo : ∀ {H' : Hp} {s' : Shared} {σ' : L2.St}, Inv Y [] σ' H' s' → (∀ b ∈ fp, H' b = none) → ∀ b ∈ fp, FpOk Y [] H' b := fun {H' s' σ'} I' hn b hb => by
    have hb' : b ∈ Y.ex := by rw [hex]; exact hb
    refine ⟨hn b hb, (I'.ok.exf b hb').1, I'.ok.exfs b hb', .inl hb', fun x c e => (I'.ok.exf b hb').2 x c e, fun p hp z => ?_⟩
    rw [hpn] at hp
    have e : p = (a, go) := by simpa using hp
    rw [e] at z
    have z : a = b := z
    exact haf (by rw [z]; exact hb)
  intro n
  induction n with
  | zero =>
    intro i m H s₀ s hm
    omega
  | succ n ih =>
    intro i m H s₀ s hm w I st nf
    show Seg _ A _ _ _ s₀ _ ((compTurn (.GeneratorExp el [⟨tg, iter, [], 0⟩] sc pos) 0 (.ref it) .none Y.env).onRaise (leaving Y.env)) [] s
    rw [compTurn_gen, Sem.onRaise_eq_wrap]
    refine seg_bind_wrap (wpAny_standAt ?_)
    refine seg_bind_wrap ?_
    rw [ov]
    rcases turn i m H w with ⟨stop, q⟩ | ⟨go', step⟩
    · refine thnF (T.done Y rfl rfl rfl hc i [] s _ H (fun _ _ => False) I (fpo I nf) st stop) fun r s6 ⟨hr, I6⟩ => ?_
      subst hr
      exact seg_end (.ok .next) ⟨rfl, H, I6, q⟩
    · refine thnF (T.item Y rfl rfl rfl hc i [] s _ H (fun _ _ => False) I (fpo I nf) st go') fun r s6 ⟨u, hr, h6⟩ => ?_
      subst hr
      refine seg_bind_wrap ?_
      rw [ov]
      refine thnF h6 fun _ s7 ⟨x, H7, I7, r7, y7, st7, n7⟩ => ?_
      have I7' := I7.pinned (fpo I7 n7) (T.obj _ _ st7)
      refine seg_bind_wrap ?_
      rw [ov]
      have hs := pg.run _ s7 _ H7 x u _ I7' r7 (step x H7 y7)
      rw [hx] at hs
      refine thnF hs fun _ s8 ⟨σ8, H8, I8, hw8, q8⟩ => ?_
      refine seg_bind_wrap (wpAny_pure ?_)
      simp only [if_true]
      have hy : ∀ v, yieldOut Y.env v = yieldValue v := fun v => by simp only [yieldOut, hco, Bool.false_eq_true, if_false]
      simp only [hy]
      rw [Sem.bind_eq_wrap', Sem.bind_eq_wrap', Sem.wrap_wrap, Sem.wrap_wrap]
      refine seg_wrap ?_
      rw [ov]
      have hp := pe.run _ s8 σ8 H8 _ I8 q8
      rw [hx] at hp
      refine thnF hp fun v s9 ⟨yv, H9, I9, r9, b, eb, q9⟩ => ?_
      subst eb
      obtain rfl : v = Value.bool b := r9
      have pin9 : ∀ c ∈ fp, ∀ o, s7.heap.get? c = some o → s9.heap.get? c = some o ∧ H9 c = none := fun c hc' o e =>
        let z := I9.pin (c, o) (List.mem_append_right _ (List.mem_append_right _ (mem_pinsAt hc' e)))
        ⟨z.1, z.2.1⟩
      have I10 : Inv Y [] (wipe σ0 vs) H9 s9 := (I9.unpinned (pins := [])).weak (by rw [← hw8, wipe_length]) fun j v e => by
        rw [← hw8] at e
        exact (wipe_some e).1
      have st9 : tn (i + 1) s9.heap := T.keep _ _ _ st7 fun c hc' o e => (pin9 c hc' o e).1
      have nf9 : ∀ c ∈ fp, H9 c = none := fun c hc' => by
        obtain ⟨o, e, _⟩ := T.obj _ _ st7 c hc'
        exact (pin9 c hc' o e).2
      have hga : s9.heap.get? a = some go := (I10.pin (a, go) (by rw [hpn]; simp)).1
      refine seg_at (seg_yield rfl rfl rfl ⟨b, rfl, hgo _ hga, I10.nolimit, I10.bare, ?_⟩)
      cases b with
      | false =>
        rw [if_neg Bool.false_ne_true] at q9 ⊢
        exact ⟨H9, I10, q9⟩
      | true =>
        rw [if_pos rfl] at q9 ⊢
        obtain ⟨m', hm', w'⟩ := q9
        intro s'' ⟨ho, hb, hk⟩
        exact seg_again rfl (ih (i + 1) m' H9 s'' s'' (by omega) w' (I10.call' (ch := []) ho (Un.kept hk) (I10.hok.kept hk) hb fun b z => by simp at z) (T.keep _ _ _ st9 fun b _ o e => hk b o e) nf9)

theorem gen_begin {P : Program} {w : World} {A : Around} {R : GenEnd} {Yp : Protocol} {n : Nat} {s₀ s : Shared} {el tg iter : Expr} {sc : Scope} {pos : Pos} {it : Addr} {ce : Env}
    (lp : Seg (model P w) A R Yp n s₀ (.compLoop (.GeneratorExp el [⟨tg, iter, [], 0⟩] sc pos) 0 (.ref it) .none ce) ((model P w).den (.compLoop (.GeneratorExp el [⟨tg, iter, [], 0⟩] sc pos) 0 (.ref it) .none ce)) [] s)
    (self : ∀ (B : Around) (Q : Value → Shared → Prop) (E : Value → Shared → Prop), Q (.ref it) s → wpAny (model P w) B (pyIter (.ref it)) Q E s) :
    Seg (model P w) A R Yp n s₀ (.compStart (.GeneratorExp el [⟨tg, iter, [], 0⟩] sc pos) 0 (.ref it) .none ce) ((model P w).den (.compStart (.GeneratorExp el [⟨tg, iter, [], 0⟩] sc pos) 0 (.ref it) .none ce)) [] s := by
  show Seg _ A _ _ _ s₀ _ ((compStart (.GeneratorExp el [⟨tg, iter, [], 0⟩] sc pos) 0 (.ref it) .none ce).onRaise (leaving ce)) [] s
  unfold compStart
  rw [Sem.onRaise_eq_wrap]
  show Seg _ A _ _ _ s₀ _ ((ask >>= _).wrap _ _ _ _) [] s
  refine seg_bind_wrap (wpAny_askSetting ?_)
  split
  · exact seg_again rfl lp
  · first
      | exact seg_bind_wrap (wpAny_rule (seg_bind_wrap (wpAny_standAt (seg_bind_wrap (self _ _ _ (seg_again rfl lp))))))
      | (refine seg_bind_wrap (wpAny_rule ?_); show Seg _ A _ _ _ s₀ _ ((standAt iter.pos >>= _).wrap _ _ _ _) [] s; exact seg_bind_wrap (wpAny_standAt (seg_bind_wrap (self _ _ _ (seg_again rfl lp)))))

theorem all_loop {Y : Cx} {A : Around} {a : Addr} {g : Nat} {w : L2.St} {Qt Qf : Hp → Prop} {R : Result → Shared → Prop} (hh : A.handled = none) (hd : A.depth < recursionLimit)
    (ht : ∀ s H s', Inv Y [] w H s → Qt H → Aft s s' → R (.ok (.ret (.bool true))) s') (hf : ∀ s H s', Inv Y [] w H s → Qf H → Aft s s' → R (.ok (.ret (.bool false))) s') :
    ∀ (n : Nat) (s : Shared), s.heap.IsGen a g → s.heap.NoLimit →
      (∃ gs, s.gens[g]? = some gs ∧ gs.Goes (model Y.prog Y.w) A.in1.in1 (fun n s₀ r s₁ => r = .ok .next ∧ gR Y w Qt n s₀ s₁) (gY Y w Qf a g) n (.send .none) (s.setGen g .running)) →
      codeAny (model Y.prog Y.w) A (.builtin "all.loop" ⟨[.ref a], []⟩) R s := by
  intro n
  induction n with
  | zero =>
    intro s hg hl ⟨gs, hgs, hgo⟩
    refine codeAny_builtin F.entry_all_loop ?_
    rw [Around.under_plainId F.plain_all_loop _]
    show wpAny _ A.in1 (pyNext (.ref a) >>= _) _ _ s
    refine wpAny_bind (wpAny_pyNext_genexpQ (A := A.in1) (P := gR Y w Qt) hh hl hd hg hgs hgo (fun v s₁ gs' hb hv => ?_) (fun s₁ hp h' hk => ?_))
    · obtain ⟨b, rfl, hg1, hl1, hb1, q⟩ := hv
      refine wpAny_bind (wpAny_holding (wpAny_truthy_bool ?_))
      refine wpAny_bind (wpAny_letGo ?_)
      cases b with
      | true =>
        rw [if_pos rfl] at q
        exact (q s₁ ⟨rfl, hb1, fun _ _ e => e⟩).elim
      | false =>
        rw [if_neg Bool.false_ne_true] at q
        obtain ⟨H, I, qf⟩ := q
        simp only [Bool.false_eq_true, if_false]
        exact wpAny_bind (wpAny_rule (wpAny_pure (hf s₁ H _ I qf ⟨rfl, allBare_setGen hb1 hb, fun _ _ e => e⟩)))
    · obtain ⟨H, I, qt⟩ := hp
      exact wpAny_bind (wpAny_rule (wpAny_pure (ht s₁ H _ I qt ⟨rfl, allBare_setGen I.bare rfl, hk⟩)))
  | succ n ih =>
    intro s hg hl ⟨gs, hgs, hgo⟩
    have hgl : g + 1 ≤ s.gens.size := (Array.getElem?_eq_some_iff.mp hgs).1
    refine codeAny_builtin F.entry_all_loop ?_
    rw [Around.under_plainId F.plain_all_loop _]
    show wpAny _ A.in1 (pyNext (.ref a) >>= _) _ _ s
    refine wpAny_bind (wpAny_gsz (n := g + 1) hgl (wpAny_pyNext_genexpQ (A := A.in1) (P := gR Y w Qt) hh hl hd hg hgs hgo (fun v s₁ gs' hb hv => ?_) (fun s₁ hp h' hk => ?_)))
    · intro hsz
      obtain ⟨b, rfl, hg1, hl1, hb1, q⟩ := hv
      refine wpAny_bind (wpAny_holding (wpAny_truthy_bool ?_))
      refine wpAny_bind (wpAny_letGo ?_)
      cases b with
      | true =>
        rw [if_pos rfl] at q
        simp only [if_true]
        have hsz1 : g < s₁.gens.size := by
          rw [setGen_size] at hsz
          exact hsz
        refine wpAny_pure ⟨plainId_quiet F.plain_all_loop _, ih _ hg1 hl1 ⟨gs', setGen_at hsz1, ?_⟩⟩
        exact q _ ⟨rfl, allBare_setGen (allBare_setGen hb1 hb) rfl, fun _ _ e => e⟩
      | false =>
        rw [if_neg Bool.false_ne_true] at q
        obtain ⟨H, I, qf⟩ := q
        simp only [Bool.false_eq_true, if_false]
        exact wpAny_bind (wpAny_rule (wpAny_pure (hf s₁ H _ I qf ⟨rfl, allBare_setGen hb1 hb, fun _ _ e => e⟩)))
    · intro _
      obtain ⟨H, I, qt⟩ := hp
      exact wpAny_bind (wpAny_rule (wpAny_pure (ht s₁ H _ I qt ⟨rfl, allBare_setGen I.bare rfl, hk⟩)))
end Fo
namespace Fo
open PySem PySem.Spec PyProof.Rows L2 GenW
/-- all(test for target in iter): W by the turn and a measure -/
def tAllG (P : Addr) (wi : TI) (gt : TG) (te : TE) (vs : List Nat) : TE := fun σ H Q => wi σ H fun J H1 => GxR.TabG H1 P ∧ ∀ H2, GxR.Tabbed P H1 H2 → ∃ W : Nat → Nat → Hp → Prop, (∃ m, W 0 m H2) ∧ ∀ i m H, W i m H →
  (J.stop i H ∧ Q (.bl true) H) ∨ (J.go i H ∧ ∀ x H', J.yld i H x H' → gt x (wipe σ vs) H' fun σ2 H3 => wipe σ2 vs = wipe σ vs ∧ te σ2 H3 fun y H4 => ∃ b, y = .bl b ∧ if b = true then ∃ m', m' < m ∧ W (i + 1) m' H4 else Q (.bl false) H4)
section
variable {X : Cx}
set_option maxHeartbeats 4000000 in
theorem pe_allG {c P : Addr} {el tg iter : Expr} {sc : Scope} {own : List (Str × Nat)} {p pos gpos : Pos} {wi : TI} {gt : TG} {te : TE} {k : Nat} (hc : X.calm = true) (hN : X.N.Nodup) (hr : Room k X.A) (hg : Gl X "all") (hm : X.mg "all" = none) (hb : bootBuiltins "all" = some (.builtin "all"))
    (TB : LamX.TabB X.base X.mg c P) (hcode : X.env.code = .ref c) (hi : PI X tg iter wi) (ok : BlkOk X.N X.env.scope sc own) (gs : GSc sc)
    (hgt : ∀ (s : Shared) (H : Hp) (C : Addr) (cl : List (Str × Addr)) (cd : Value) (fp : List Addr) (pn : List (Addr × Obj)), PG (gCx X s H (genEnv sc cl C cd builtinsNs X.env) fp pn) tg gt)
    (he : ∀ (s : Shared) (H : Hp) (C : Addr) (cl : List (Str × Addr)) (cd : Value) (fp : List Addr) (pn : List (Addr × Obj)), PE (gCx X s H (genEnv sc cl C cd builtinsNs X.env) fp pn) el te)
    (hs : ∀ v, genFold iter X.env v = pure v := by intro _; rfl)
    (hst : starEach [.GeneratorExp el [⟨tg, iter, [], 0⟩] sc gpos] X.env = (false, eval (.GeneratorExp el [⟨tg, iter, [], 0⟩] sc gpos) X.env) :: starEach [] X.env := by rfl) :
    PE X (.Call (.Name "all" p) [.GeneratorExp el [⟨tg, iter, [], 0⟩] sc gpos] [] pos) (tAllG P wi gt te (own.map (·.2))) := by
  refine ⟨fun pins s σ H Q I hq => ?_⟩
  have fr : ∀ y ∈ sc.names, y.2 = .free → ∃ c, X.env.cells.lookup y.1 = some c := fun y hy e => by
    rcases ok.free y hy e with k | k
    · exact I.ok.has _ (.inl k)
    · exact I.ok.has _ (.inr k)
  refine wpAny_Call_Name_kw (ld_blt I hg hm hb ?_)
  refine PyProof.Rows.callWith_builtin1 ?_ hst (by rfl)
  rw [hst]
  show wpAny _ _ (spliced ((false, eval (.GeneratorExp el [⟨tg, iter, [], 0⟩] sc gpos) X.env) :: backTo pos (starEach [] X.env))) _ _ s
  refine Calls.spliced_cons ?_
  refine wpAny_GeneratorExp_make gs.co (closure_ok fr) gs.cell gs.dot ok.kind (by have := hr.dp; omega) ?_ hs
  refine thn (hi.run pins s σ H _ I hq) fun xv s1 hx => thn hx fun itv s2 h2 => ?_
  obtain ⟨it, fp, tn, J, H1, rfl, I2, T, st2, f2, ⟨ps, hP, htp⟩, q⟩ := h2
  refine ⟨I2.nolimit, ?_⟩
  have hPs : s2.heap.get? P = some { cls := .none, data := .fields ps } := I2.hok P _ hP
  have cd : PySem.W.CodeHd s2.heap c P := TB.code.keeps fun b u e => I2.bk b u e
  have szf : ∀ b ∈ fp, b < s2.heap.objs.size := fun b hb => by
    obtain ⟨o, e, _⟩ := T.obj _ _ st2 b hb
    exact Heap.lt_size e
  have nP : ∀ b ∈ fp, b ≠ P := fun b hb z => by
    have z2 := (f2 b hb).1
    rw [z, hP] at z2
    cases z2
  have cont : ∀ (code : Value) (h3 : Heap) (tk : Nat) (more : Array Value), (∀ b o, b ≠ P → s2.heap.get? b = some o → h3.get? b = some o) → s2.heap.objs.size ≤ h3.objs.size → h3.get? P = some { cls := .none, data := .fields (ps ++ more) } → TriplesOk (ps ++ more).toList →
      wpAny (model X.prog X.w) X.A (builtinsFor X.env.globals X.env.builtins) (fun bi s₄ =>
        ∀ h', h'.Ns s₄.heap.objs.size (fun y => if y = ".0" then some (Value.ref it) else none) → Heap.SameBut s₄.heap.objs.size (s₄.heap.push { cls := .type "frame", data := .dict #[] }) h' →
          wpAny (model X.prog X.w) X.A (spliced (backTo pos (starEach [] X.env))) (fun us s5 => wpAny (model X.prog X.w) X.A (call (.builtin "all") (Value.ref h'.objs.size :: us)) (EP X pins σ Q) X.xe s5) X.xe { s₄ with
            gens := s₄.gens.push (.fresh (.compStart (.GeneratorExp el [⟨tg, iter, [], 0⟩] sc gpos) 0 (.ref it) .none (genEnv sc (cloFrom X.env.cells sc.names []) s₄.heap.objs.size code bi X.env))),
            toks := s₄.toks + 1 + 1 + 1,
            heap := h'.push { cls := .type "generator", data := .fields #[.int s₄.gens.size 0, .str "<genexpr>" (s₄.toks + 1), .str (X.env.qual ++ "<genexpr>") (s₄.toks + 1 + 1)] } }) X.xe { s2 with heap := h3, toks := tk } := by
    intro code h3 tk more kp3 sz3 hP3 ht3
    obtain ⟨bm, ob, e1, e2, e3, e4, e5, e6, e7, e8⟩ := TB.bm
    have I3 : Inv X pins σ (upd H1 P (.tbl (ps ++ more))) { s2 with heap := h3, toks := tk } := GxR.inv_tab (h' := h3) (g' := s2.gens) (d' := s2.drawn) (t' := tk) I2 hP kp3 hP3 I2.bare
    have nsg : h3.Ns X.env.globals X.mg := by
      rw [I2.ok.glob]
      obtain ⟨og, es, ep, eg, r⟩ := I2.mod.glob.keeps I2.bk
      exact ⟨og, es, ep, kp3 _ og TB.gP eg, r⟩
    refine wpAny_builtinsFor (m := X.mg) nsg e1 e2 (kp3 _ _ e4 (I2.bk _ _ e5)) e6 e7 e8 ?_
    intro h' hn' hs'
    refine Calls.spliced_nil ?_
    have sz' : h'.objs.size = h3.objs.size + 1 := by rw [hs'.1, Heap.size_push]
    have kp' : ∀ b o, h3.get? b = some o → h'.get? b = some o := fun b o e => hs'.extBut b o (Nat.ne_of_lt (Heap.lt_size e)) (Heap.get?_push_of_some _ e)
    generalize hgo : ({ cls := .type "generator", data := .fields #[.int s2.gens.size 0, .str "<genexpr>" (tk + 1), .str (X.env.qual ++ "<genexpr>") (tk + 1 + 1)] } : Obj) = go
    have hget : (h'.push go).get? h'.objs.size = some go := by
      rw [← hgo]
      exact Heap.get?_push_size _ rfl
    have hgen : ∀ h : Heap, h.get? h'.objs.size = some go → h.IsGen h'.objs.size s2.gens.size := fun h e => by
      rw [← hgo] at e
      exact ⟨_, _, _, e, rfl, rfl, rfl⟩
    have hgd : ∀ v, go.data ≠ .cell v := fun v z => by
      rw [← hgo] at z
      cases z
    have tb : GxR.Tabbed P H1 (upd H1 P (.tbl (ps ++ more))) := ⟨⟨ps ++ more, upd_same, ht3⟩, fun b hb => upd_ne hb⟩
    obtain ⟨W, ⟨m0, w0⟩, turn⟩ := q _ tb
    have f3 : ∀ b ∈ fp, FpOk X pins (upd H1 P (.tbl (ps ++ more))) b ∧ b < h3.objs.size := fun b hb => by
      refine ⟨⟨?_, (f2 b hb).2⟩, Nat.lt_of_lt_of_le (szf b hb) sz3⟩
      rw [upd_ne (nP b hb)]
      exact (f2 b hb).1
    have kp5 : ∀ b o, h3.get? b = some o → (h'.push go).get? b = some o := fun b o e => Heap.get?_push_of_some _ (kp' b o e)
    have st5 : tn 0 (h'.push go) := T.keep _ _ _ st2 fun b hb o e => kp5 b o (kp3 b o (nP b hb) e)
    generalize hce : genEnv sc (cloFrom X.env.cells sc.names []) h3.objs.size code builtinsNs X.env = ce
    have hgl : s2.gens.size < (s2.gens.push (.fresh (.compStart (.GeneratorExp el [⟨tg, iter, [], 0⟩] sc gpos) 0 (.ref it) .none ce))).size := by
      rw [Array.size_push]
      exact Nat.lt_succ_self _
    have bare5 : AllBare (s2.gens.push (.fresh (.compStart (.GeneratorExp el [⟨tg, iter, [], 0⟩] sc gpos) 0 (.ref it) .none ce))) := I2.bare.push rfl
    have I6 := gen_start (h2 := h'.push go) (g2 := (({ s2 with heap := h'.push go, gens := s2.gens.push (.fresh (.compStart (.GeneratorExp el [⟨tg, iter, [], 0⟩] sc gpos) 0 (.ref it) .none ce)) } : Shared).setGen s2.gens.size .running).gens) (t2 := tk + 1 + 1 + 1) (code := code) (go := go) I3 ok gs hN hc f3 (hn'.push go) kp5 (by show h3.objs.size < h'.objs.size; omega) hget hgd (allBare_setGen bare5 rfl)
    have pg := hgt { s2 with heap := h3, toks := tk } (upd H1 P (.tbl (ps ++ more))) h3.objs.size (cloFrom X.env.cells sc.names []) code fp [(h'.objs.size, go)]
    have pe := he { s2 with heap := h3, toks := tk } (upd H1 P (.tbl (ps ++ more))) h3.objs.size (cloFrom X.env.cells sc.names []) code fp [(h'.objs.size, go)]
    have hsc : ce.scope = sc := by rw [← hce]; rfl
    change Inv (gCx X { s2 with heap := h3, toks := tk } (upd H1 P (.tbl (ps ++ more))) (genEnv sc (cloFrom X.env.cells sc.names []) h3.objs.size code builtinsNs X.env) fp [(h'.objs.size, go)]) [] _ _ _ at I6
    rw [hce] at I6 pg pe
    refine call_function_tree F.kind_all F.plain_all F.entry_all (F.args_all1 _) ?_
    unfold Builtin.«all»
    refine wpAny_bind (m := oneArg "all" _) (wpAny_pure ?_)
    refine wpAny_bind (wpAny_pyIter_gen (hgen _ hget) ?_)
    have back : ∀ {s7 s8 : Shared} {H7 : Hp}, Inv (gCx X { s2 with heap := h3, toks := tk } (upd H1 P (.tbl (ps ++ more))) ce fp [(h'.objs.size, go)]) [] (wipe σ (own.map (·.2))) H7 s7 → Aft s7 s8 → Inv X pins σ H7 s8 := fun {s7 s8 H7} I7 af => by
      obtain ⟨o1, o2, o3⟩ := af
      exact I3.call' (ch := fp) (o1.trans I7.os) (I7.base.trans (Un.kept o3)) (I7.hok.kept o3) o2 fun b hb => ⟨(f3 b hb).1.2.2.2.1, (f3 b hb).1.2.1, (f3 b hb).1.2.2.2.2.1, (f3 b hb).1.2.2.2.2.2⟩
    refine wpAny_pure ⟨plainId_quiet F.plain_all_loop _, all_loop (Y := gCx X { s2 with heap := h3, toks := tk } (upd H1 P (.tbl (ps ++ more))) ce fp [(h'.objs.size, go)]) (A := X.A) (a := h'.objs.size) (g := s2.gens.size) (w := wipe σ (own.map (·.2))) (Qt := fun H => Q (.bl true) H) (Qf := fun H => Q (.bl false) H) hr.hd (by have := hr.dp; omega) (fun s7 H7 s8 I7 q7 af => ?_) (fun s7 H7 s8 I7 q7 af => ?_) (m0 + 1) _ (hgen _ hget) (I3.nolimit.keeps kp5) ⟨_, Array.getElem?_push_size .., rfl, ?_⟩⟩
    · exact ⟨.bl true, H7, back I7 af, rfl, q7⟩
    · exact ⟨.bl false, H7, back I7 af, rfl, q7⟩
    · refine gen_begin ?_ (fun B Q' E' h => T.self B 0 _ Q' E' st5 h)
      have lp := gen_loop (A := X.A.in1.in1) (Y := gCx X { s2 with heap := h3, toks := tk } (upd H1 P (.tbl (ps ++ more))) ce fp [(h'.objs.size, go)]) (iter := iter) (sc := sc) (pos := gpos) (σ0 := σ) (vs := own.map (·.2)) (Qt := fun H => Q (.bl true) H) (Qf := fun H => Q (.bl false) H) (g := s2.gens.size) rfl hc rfl rfl rfl hgen (fun z => by
        have h9 : (h'.objs.size : Nat) < h3.objs.size := (f3 _ z).2
        omega) (by show ce.scope.isCoroutine = false; rw [hsc]; exact gs.co) T pg pe turn (m0 + 1) 0 m0 (upd H1 P (.tbl (ps ++ more)))
      exact lp _ _ (Nat.lt_succ_self _) w0 I6 st5 fun b hb => (f3 b hb).1.1
  cases hf : codeAmong gpos ps.toList with
  | none =>
    refine wpAny_genexprCodeX hcode (cd.code hPs htp) (cd.tab hPs) hf fun c' h' tk hx hge hlt hco' _ htab' _ => ?_
    obtain ⟨o1, vs, f1, tf, fl, tg', inF, tx, tt, op, _, _, _, _, _, _, _, _, _, htr, _⟩ := hco'
    exact cont _ h' tk _ hx (Nat.le_trans hge (Nat.le_of_lt hlt)) htab'.2 htr
  | some cv =>
    refine wpAny_genexprCode_hit hcode (cd.code hPs htp) hf ?_
    have e : ps ++ #[] = ps := by simp
    exact cont cv s2.heap s2.toks #[] (fun b o _ e => e) (Nat.le_refl _) (by rw [e]; exact hPs) (by rw [e]; exact htp)
end
end Fo
namespace Fo
open PySem PySem.Spec PyProof.Rows L2
/-! what stays where tables of code objects may grow -/
def KeepT (H H' : Hp) : Prop := (∀ b o, H b = some o → (∀ q, o ≠ .tbl q) → H' b = some o) ∧ ∀ b q, H b = some (.tbl q) → ∃ q', H' b = some (.tbl q') ∧ (TriplesOk q.toList → TriplesOk q'.toList)
theorem KeepT.refl (H : Hp) : KeepT H H := ⟨fun _ _ e _ => e, fun _ q e => ⟨q, e, id⟩⟩
theorem KeepT.of_same {H H' : Hp} (h : Same H H') : KeepT H H' := ⟨fun b o e _ => h b o e, fun b q e => ⟨q, h b _ e, id⟩⟩
theorem KeepT.trans {H H1 H2 : Hp} (a : KeepT H H1) (b : KeepT H1 H2) : KeepT H H2 := by
  refine ⟨fun c o e f => b.1 c o (a.1 c o e f) f, fun c q e => ?_⟩
  obtain ⟨q1, e1, t1⟩ := a.2 c q e
  obtain ⟨q2, e2, t2⟩ := b.2 c q1 e1
  exact ⟨q2, e2, fun z => t2 (t1 z)⟩
theorem KeepT.free {H H' : Hp} (a : KeepT H H') {p : Addr} (np : H' p = none) : H p = none := by
  cases e : H p with
  | none => rfl
  | some o =>
    cases o with
    | tbl q =>
      obtain ⟨q', e', _⟩ := a.2 p q e
      rw [np] at e'
      cases e'
    | _ =>
      have z := a.1 p _ e (fun q z => by cases z)
      rw [np] at z
      cases z
theorem KeepT.lst {H H' : Hp} (a : KeepT H H') {p : Addr} {xs : List V} (e : H p = some (.lst xs)) : H' p = some (.lst xs) := a.1 p _ e (fun q z => by cases z)
theorem KeepT.seq {K : PySem.W.Frag} {H H' : Hp} (a : KeepT H H') {p : Addr} {xs : List V} (e : SqL K H p xs) : SqL K H' p xs := by
  rcases e with (e | ⟨o, e⟩) | e
  · exact .inl (.inl (a.1 p _ e (fun q z => by cases z)))
  · exact .inl (.inr ⟨o, a.1 p _ e (fun q z => by cases z)⟩)
  · exact .inr e
theorem KeepT.tab {H H' : Hp} (a : KeepT H H') {P : Addr} (t : GxR.TabG H P) : GxR.TabG H' P := by
  obtain ⟨q, e, z⟩ := t
  obtain ⟨q', e', t'⟩ := a.2 P q e
  exact ⟨q', e', t' z⟩
theorem KeepT.of_tabbed {P : Addr} {H H' : Hp} (t : GxR.TabG H P) (h : GxR.Tabbed P H H') : KeepT H H' := by
  obtain ⟨q0, e0, z0⟩ := t
  obtain ⟨⟨q1, e1, z1⟩, k⟩ := h
  refine ⟨fun b o e f => ?_, fun b q e => ?_⟩
  · rw [k b (fun z => by rw [z, e0] at e; exact f q0 (Option.some.inj e).symm)]
    exact e
  · by_cases hb : b = P
    · rw [hb] at e ⊢
      exact ⟨q1, e1, fun _ => z1⟩
    · exact ⟨q, by rw [k b hb]; exact e, id⟩
/-- the same but for the object at d -/
def KeepTD (d : Addr) (H H' : Hp) : Prop := (∀ b o, H b = some o → b ≠ d → (∀ q, o ≠ .tbl q) → H' b = some o) ∧ ∀ b q, H b = some (.tbl q) → b ≠ d → ∃ q', H' b = some (.tbl q') ∧ (TriplesOk q.toList → TriplesOk q'.toList)
theorem LL.keepT {H H' : Hp} {as : List Addr} {rs : List (List Int)} (h : LL H as rs) (s : KeepT H H') : LL H' as rs := by
  induction as generalizing rs with
  | nil => cases rs with
    | nil => trivial
    | cons _ _ => exact h.elim
  | cons a as ih => cases rs with
    | nil => exact h.elim
    | cons r rs => exact ⟨s.lst h.1, ih h.2⟩
/-- a def with the code object that it runs by -/
structure DfC (K : PySem.W.Frag) (mg : Str → Option Value) (x : Str) (st : Stmt) (ps : List Str) (f : Addr) (fd : FuncData) (c : Addr) : Prop where
  F : Fun K x x st f fd
  b : Binds K fd ps []
  g : mg x = some (.ref f)
  c : fd.code = .ref c
theorem fun_okC {P : Program} {w : World} {K : PySem.W.Frag} {mg : Str → Option Value} {base : Heap} {x qual : Str} {st : Stmt} {f c : Addr} {fd : FuncData} {N ps : List Str} {k : Nat} {sp : Sp} (F : Fun K x qual st f fd) (hc : fd.code = .ref c) (S : FnScope N ps (defScope st))
    (len : ∀ vs H Q E, sp vs H Q E → vs.length = ps.length)
    (body : ∀ (A : Around) (outer : List Env) (s : Shared) (H : Hp) (vs : List V) (Q : VK) (E : XK), Room k (A.deeper (envOfC qual (defScope st) s.heap.objs.size f (.ref c))) → sp vs H Q E →
      ∃ t, PSs (cxOf CX0 P w K mg base N qual (defScope st) f (.ref c) A outer s H E).nox (defBody st) t ∧ t { nx := fun _ H' => Q .non H', rt := Q } (start N vs) H) : FnOk P w K mg base CX0 (k + 1) f fd ps sp := by
  obtain ⟨oc, od, kV, doc, pm, an, cdv, ct, osl, rfl, lk, hcd⟩ := F.ex
  obtain rfl : cdv = .ref c := hc
  refine fn_of lk hcd S len fun A outer s H vs Q E hr hsp => ?_
  obtain ⟨t, h1, h2⟩ := body A outer s H vs Q E hr hsp
  exact ⟨t, h1.nox, h2⟩
/-- over a list that stands still -/
theorem all_list {K : PySem.W.Frag} {a : Addr} {xs : List V} {gt : TG} {te : TE} {vs : List Nat} {σ : L2.St} {H : Hp} {Q : VK} (Pv : Nat → Hp → Prop) (h0 : Pv 0 H) (hl : ∀ i H, i ≤ xs.length → Pv i H → SqL K H a xs)
    (hs : ∀ i x H, xs[i]? = some x → Pv i H → gt x (wipe σ vs) H fun σ2 H3 => wipe σ2 vs = wipe σ vs ∧ te σ2 H3 fun y H4 => ∃ b, y = .bl b ∧ if b = true then Pv (i + 1) H4 else Q (.bl false) H4) (hd : ∀ H, Pv xs.length H → Q (.bl true) H)
    (mono : ∀ (x : V) (H : Hp) (p q : V → Hp → Prop), (∀ y H, p y H → q y H) → (gt x (wipe σ vs) H fun σ2 H3 => wipe σ2 vs = wipe σ vs ∧ te σ2 H3 p) → (gt x (wipe σ vs) H fun σ2 H3 => wipe σ2 vs = wipe σ vs ∧ te σ2 H3 q)) :
    ∃ W : Nat → Nat → Hp → Prop, (∃ m, W 0 m H) ∧ ∀ i m H, W i m H →
      ((Itl K a).stop i H ∧ Q (.bl true) H) ∨ ((Itl K a).go i H ∧ ∀ x H', (Itl K a).yld i H x H' → gt x (wipe σ vs) H' fun σ2 H3 => wipe σ2 vs = wipe σ vs ∧ te σ2 H3 fun y H4 => ∃ b, y = .bl b ∧ if b = true then ∃ m', m' < m ∧ W (i + 1) m' H4 else Q (.bl false) H4) := by
  refine ⟨fun j m H => m = xs.length - j ∧ j ≤ xs.length ∧ Pv j H, ⟨xs.length, by simp, Nat.zero_le _, h0⟩, ?_⟩
  rintro j m H ⟨rfl, hi, p⟩
  have q := hl j H hi p
  by_cases hlt : j < xs.length
  · refine .inr ⟨⟨xs, xs[j], q, by simp [hlt]⟩, fun x H' y => ?_⟩
    obtain ⟨e, y⟩ := y
    subst e
    refine mono x _ _ _ (fun z H4 hz => ?_) (hs j x _ (y _ q) p)
    obtain ⟨b, eb, r⟩ := hz
    refine ⟨b, eb, ?_⟩
    cases b with
    | true => exact ⟨xs.length - (j + 1), by omega, rfl, hlt, r⟩
    | false => exact r
  · have e : j = xs.length := by omega
    subst e
    exact .inl ⟨⟨xs, q, Nat.le_refl _⟩, hd H p⟩
end Fo
namespace Fo
open PySem PySem.Spec PyProof.Rows L2
def spApart : Sp := fun vs H Q _ => ∃ (w : Str) (n most d : Int), vs = [.str w, .int n, .int most, .int d] ∧ IsWay w ∧ 1 ≤ n ∧ n ≤ most ∧ 1 ≤ d ∧ Q .non H
section
variable {P : Program} {w : World} {K : PySem.W.Frag} {mg : Str → Option Value} {base : Heap}
theorem scApart : FnScope ["way", "n", "most", "d"] ["way", "n", "most", "d"] (defScope s_check_apart) := ⟨rfl, rfl, rfl, by decide +kernel, rfl, by decide +kernel, by decide +kernel⟩
theorem ok_apart {f f1 f2 f3 fW aW : Addr} {fd d1 d2 d3 dW : FuncData} {k : Nat} (T : Df K mg "check_apart" s_check_apart ["way", "n", "most", "d"] f fd) (T_check_way : Df K mg "check_way" s_check_way ["thing"] f1 d1) (T_check_size : Df K mg "check_size" s_check_size ["thing", "most"] f2 d2) (T_check_from : Df K mg "check_from" s_check_from ["thing", "least"] f3 d3) (T_is_whole : Df K mg "is_whole" s_is_whole ["thing"] fW dW) (W : Wy K mg aW) (B : Bi mg) : FnOk P w K mg base CX0 (k + 3) f fd ["way", "n", "most", "d"] spApart := by
  have G_check_way : FnOk P w K mg base CX0 (k + 2) f1 d1 ["thing"] spWay := ok_way (k := k + 1) T_check_way W B
  have G_check_size : FnOk P w K mg base CX0 (k + 2) f2 d2 ["thing", "most"] spSize := ok_size T_check_size T_is_whole B
  have G_check_from : FnOk P w K mg base CX0 (k + 2) f3 d3 ["thing", "least"] spFrom := ok_from T_check_from T_is_whole B
  refine T.F.ok scApart (fun vs H Q E h => ?_) (fun cdv A outer s H vs Q E hr h => ?_)
  · obtain ⟨w, n, most, d, rfl, _⟩ := h
    rfl
  · obtain ⟨w, n, most, d, rfl, hw, h1, h2, h3, q⟩ := h
    refine ⟨_, 
      (pss_cons (ps_expr (pe_call G_check_way hr (by rfl) T_check_way.g T_check_way.F.kp T_check_way.b .nil pass0 (pa_cons (pv 0) pa_nil)))
      (pss_cons (ps_expr (pe_call G_check_size hr (by rfl) T_check_size.g T_check_size.F.kp T_check_size.b .nil pass0 (pa_cons (pv 1) (pa_cons (pv 2) pa_nil))))
      (pss_one (ps_expr (pe_call G_check_from hr (by rfl) T_check_from.g T_check_from.F.kp T_check_from.b .nil pass0 (pa_cons (pv 3) (pa_cons pe_int pa_nil))))))), ?_⟩
    exact ⟨_, rfl, w, rfl, hw, _, rfl, _, rfl, n, most, rfl, h1, h2, _, rfl, d, 1, rfl, h3, q⟩
end
end Fo
namespace Fo
open PySem PySem.Spec PyProof.Rows L2
theorem set2_perm {xs : List Int} {p q : Nat} {a b : Int} (ha : xs[p]? = some a) (hb : xs[q]? = some b) : ((xs.set p b).set q a).Perm xs := by
  obtain ⟨h1, e1⟩ := List.getElem?_eq_some_iff.mp ha
  obtain ⟨h2, e2⟩ := List.getElem?_eq_some_iff.mp hb
  rw [← e1, ← e2]
  exact List.set_set_perm h1 h2
theorem set2_V (xs : List Int) (p q : Nat) (a b : Int) : ((xs.map V.int).set p (V.int b)).set q (V.int a) = ((xs.set p b).set q a).map V.int := by
  rw [List.map_set, List.map_set]
end Fo
namespace Fo
open PySem PySem.Spec PyProof.Rows L2
/-! ### a pool: three numbers, of which others are drawn -/
def PoolAt (H : Hp) (d : Addr) (c : Nat) : Prop := ∃ a b s : Int, H d = some (.lst [.int a, .int b, .int s]) ∧ 0 ≤ s ∧ s ≤ c
def KeepD (d : Addr) (H H' : Hp) : Prop := ∀ b o, H b = some o → b ≠ d → H' b = some o
theorem KeepD.refl (d : Addr) (H : Hp) : KeepD d H H := fun _ _ e _ => e
theorem KeepD.trans {d : Addr} {H H1 H2 : Hp} (a : KeepD d H H1) (b : KeepD d H1 H2) : KeepD d H H2 := fun c o e f => b c o (a c o e f) f
theorem KeepD.of_same {d : Addr} {H H' : Hp} (h : Same H H') : KeepD d H H' := fun b o e _ => h b o e
theorem KeepD.none {d : Addr} {H H1 : Hp} (k : KeepD d H H1) {p : Addr} (np : H1 p = none) (nf : p ≠ d) : H p = none := by
  cases e : H p with
  | none => rfl
  | some o =>
    have z := k p o e nf
    rw [np] at z
    cases z
theorem PoolAt.same {H H' : Hp} {d : Addr} {c : Nat} (h : PoolAt H d c) (s : Same H H') : PoolAt H' d c := by
  obtain ⟨a, b, t, e, r⟩ := h
  exact ⟨a, b, t, s _ _ e, r⟩
theorem PoolAt.mono {H : Hp} {d : Addr} {c c' : Nat} (h : PoolAt H d c) (hc : c ≤ c') : PoolAt H d c' := by
  obtain ⟨a, b, t, e, h0, h1⟩ := h
  exact ⟨a, b, t, e, h0, by omega⟩
theorem PoolAt.ne {H : Hp} {d : Addr} {c : Nat} (h : PoolAt H d c) {p : Addr} (e : H p = none) : p ≠ d := by
  obtain ⟨a, b, t, e1, _⟩ := h
  exact (ne_of_none e1 e).symm
theorem PoolAt.upd {H : Hp} {d : Addr} {c : Nat} (h : PoolAt H d c) {p : Addr} {o : HO} (n1 : p ≠ d) : PoolAt (upd H p o) d c := by
  obtain ⟨a, b, t, e, r⟩ := h
  exact ⟨a, b, t, by rw [upd_ne n1.symm]; exact e, r⟩
def spPool (K : PySem.W.Frag) : Sp := fun vs H Q _ => ∃ (a : Addr) (ns : List Int) (k : Nat), vs = [.ref a, .int k] ∧ SqL K H a (ns.map V.int) ∧ ns.length ≤ 63 ∧ k < 63 ∧ ∀ (d : Addr) (H' : Hp), H d = none → PoolAt H' d 5000 → Same H H' → Q (.ref d) H'
def spTake : Sp := fun vs H Q _ => ∃ (d : Addr) (many : Int) (c : Nat), vs = [.ref d, .int many] ∧ PoolAt H d c ∧ c < 1048576 ∧ 0 < many ∧ many < 1073741824 ∧ ∀ (v : Int) (H' : Hp), 0 ≤ v → v < many → PoolAt H' d (c + 1) → KeepD d H H' → Q (.int v) H'
def spFarN : Sp := fun vs H Q _ => ∃ (d : Addr) (c : Nat), vs = [.ref d] ∧ PoolAt H d c ∧ c + 5 < 1048576 ∧ ∀ (v : Int) (H' : Hp), 0 ≤ v → PoolAt H' d (c + 5) → KeepD d H H' → Q (.int v) H'
theorem mod_b (x : Int) {m : Int} (h : 0 < m) : 0 ≤ x % m ∧ x % m < m := ⟨Int.emod_nonneg x (by omega), Int.emod_lt_of_pos x h⟩
theorem mul_b {x y a b : Int} (hx : 0 ≤ x) (hxa : x ≤ a) (hy : 0 ≤ y) (hyb : y ≤ b) : 0 ≤ x * y ∧ x * y ≤ a * b := ⟨Int.mul_nonneg hx hy, Int.mul_le_mul hxa hyb hy (by omega)⟩
theorem at3_0 {x y z : V} : atI [x, y, z] 0 = some x := rfl
theorem at3_1 {x y z : V} : atI [x, y, z] 1 = some y := rfl
theorem at3_2 {x y z : V} : atI [x, y, z] 2 = some z := rfl
section
variable {P : Program} {w : World} {K : PySem.W.Frag} {mg : Str → Option Value} {base : Heap}
theorem scTake : FnScope ["pool", "many", "found", "step", "mark"] ["pool", "many"] (defScope s_law_take) := ⟨rfl, rfl, rfl, by decide +kernel, rfl, by decide +kernel, by decide +kernel⟩
set_option maxHeartbeats 1000000 in
theorem ok_take {f : Addr} {fd : FuncData} {k : Nat} (T : Df K mg "_law_take" s_law_take ["pool", "many"] f fd) (B : Bi mg) : FnOk P w K mg base CX0 (k + 1) f fd ["pool", "many"] spTake := by
  refine T.F.ok scTake (fun vs H Q E h => ?_) (fun cdv A outer s H vs Q E hr h => ?_)
  · obtain ⟨d, m, c, rfl, _⟩ := h
    rfl
  · obtain ⟨d, m, c, rfl, ⟨a, b, st, hd, s0, s1⟩, hc, hm, hm2, q⟩ := h
    refine ⟨_, 
      (pss_cons (ps_if (pt_cmpR op_eq (pe_ix ix_list (pv 0) pe_int (fun _ _ => rfl)) pe_int (nomark _))
        (pss_cons (ps_set (i := 2) scTake.nd rfl (.inl rfl) (pe_op op_mod (pe_ix ix_list (pv 0) pe_int (fun _ _ => rfl)) (pv 1)))
        (pss_cons (ps_asg (pe_op op_fdiv (pe_ix ix_list (pv 0) pe_int (fun _ _ => rfl)) (pv 1)) (pg_sub (pv 0) pe_int set_list))
        (pss_one (ps_ret (pv 2)))))
        pss_nil)
      (pss_cons (ps_asg (pe_op op_add (pe_ix ix_list (pv 0) pe_int (fun _ _ => rfl)) pe_int) (pg_sub (pv 0) pe_int set_list))
      (pss_cons (ps_set (i := 3) scTake.nd rfl (.inl rfl) (pe_ix ix_list (pv 0) pe_int (fun _ _ => rfl)))
      (Evl.pss_cut (ps_set (i := 4) scTake.nd rfl (.inl rfl) (pe_op op_mul (pe_op op_add (pe_op op_mod (pe_ix ix_list (pv 0) pe_int (fun _ _ => rfl)) pe_int) pe_int) (pe_op op_add (pe_op op_mul pe_int (pv 3)) pe_int)))
      (Evl.pss_cut (ps_set (i := 4) scTake.nd rfl (.inl rfl) (pe_op op_add (pv 4) (pe_op op_mul (pe_op op_mul pe_int (pv 3)) (pv 3))))
      (Evl.pss_cut (ps_set (i := 4) scTake.nd rfl (.inl rfl) (pe_op op_mod (pe_op op_mul (pv 4) (pv 4)) pe_int))
      (pss_one (ps_ret (pe_op op_mod (pe_op op_fdiv (pe_op op_mod (pe_op op_mul (pv 4) (pe_op op_add (pv 4) pe_int)) pe_int) pe_int) (pv 1)))))))))), ?_⟩
    refine ⟨_, rfl, d, _, 1, _, rfl, rfl, SqL.of hd, at3_1, rfl, _, rfl, ite2 (fun _ => ?_) (fun _ => ?_)⟩
    · refine ⟨_, rfl, d, _, 0, _, rfl, rfl, SqL.of hd, at3_0, _, rfl, a, m, rfl, rfl, hm, ?_⟩
      refine ⟨_, rfl, d, _, 0, _, rfl, rfl, SqL.of hd, at3_0, _, rfl, a, m, rfl, rfl, ⟨hm, hm2⟩, _, rfl, d, _, 0, 0, rfl, rfl, hd, rfl, ?_⟩
      obtain ⟨c1, c2⟩ := mod_b a hm
      exact ⟨_, rfl, q _ _ c1 c2 ⟨a / m, b, st, upd_same, s0, by omega⟩ fun b o e nb => by rw [upd_ne nb]; exact e⟩
    · refine ⟨_, rfl, d, _, 2, _, rfl, rfl, SqL.of hd, at3_2, st, 1, rfl, rfl, _, rfl, d, _, 2, 2, rfl, rfl, hd, rfl, ?_⟩
      have hd1 : (upd H d (.lst [.int a, .int b, .int (st + 1)])) d = some (.lst [.int a, .int b, .int (st + 1)]) := upd_same
      have kp : KeepD d H (upd H d (.lst [.int a, .int b, .int (st + 1)])) := fun b o e nb => by rw [upd_ne nb]; exact e
      show _
      refine ⟨_, rfl, d, _, 2, _, rfl, rfl, SqL.of hd1, at3_2, ?_⟩
      have kp2 : (upd H d (.lst (([.int a, .int b, .int st] : List V).set 2 (.int (st + 1))))) = upd H d (.lst [.int a, .int b, .int (st + 1)]) := rfl
      rw [kp2]
      generalize upd H d (.lst [.int a, .int b, .int (st + 1)]) = H1 at hd1 kp ⊢
      obtain ⟨m1, m2⟩ := mod_b a (m := 9999999463) (by decide)
      refine ⟨fun τ G => ∃ x : Int, 0 ≤ x ∧ x ≤ 640000000000000000 ∧ τ = [some (.ref d), some (.int m), none, some (.int (st + 1)), some (.int x)] ∧ G = H1, ?_, fun τ G hM => ?_⟩
      · obtain ⟨z1, z2⟩ := mul_b (x := a % 9999999463 + 1039) (y := 61 * (st + 1) + 97) (a := 10000000502) (b := 63963294) (by omega) (by omega) (by omega) (by omega)
        exact ⟨_, rfl, d, _, 0, _, rfl, rfl, SqL.of hd1, at3_0, _, 9999999463, rfl, rfl, (show (0 : Int) < 9999999463 by decide), _, 1039, rfl, rfl, _, rfl, 61, _, rfl, rfl, .inl ⟨by decide, by decide⟩, _, 97, rfl, rfl, _, _, rfl, rfl, .inl ⟨by omega, by omega⟩, _, z1, Int.le_trans z2 (by decide), rfl, rfl⟩
      obtain ⟨x, x0, x1, rfl, e1⟩ := hM
      subst e1
      refine ⟨fun τ G' => ∃ y : Int, 0 ≤ y ∧ y ≤ 645000000000000000 ∧ τ = [some (.ref d), some (.int m), none, some (.int (st + 1)), some (.int y)] ∧ G' = G, ?_, fun τ G' hM => ?_⟩
      · obtain ⟨z1, z2⟩ := mul_b (x := 3617 * (st + 1)) (y := st + 1) (a := 3792699392) (b := 1048576) (by omega) (by omega) (by omega) (by omega)
        exact ⟨_, rfl, _, rfl, 3617, _, rfl, rfl, .inl ⟨by decide, by decide⟩, _, rfl, _, _, rfl, rfl, .inr ⟨by omega, by omega⟩, x, _, rfl, rfl, _, by omega, by omega, rfl, rfl⟩
      obtain ⟨y, y0, y1, rfl, e1⟩ := hM
      subst e1
      refine ⟨fun τ G'' => ∃ z : Int, 0 ≤ z ∧ z < 99999999547 ∧ τ = [some (.ref d), some (.int m), none, some (.int (st + 1)), some (.int z)] ∧ G'' = G', ?_, fun τ G'' hM => ?_⟩
      · exact ⟨_, rfl, _, rfl, y, y, rfl, rfl, .inl ⟨by omega, by omega⟩, _, 99999999547, rfl, rfl, (show (0 : Int) < 99999999547 by decide), _, (mod_b _ (by decide)).1, (mod_b _ (by decide)).2, rfl, rfl⟩
      obtain ⟨z, z0, z1, rfl, e1⟩ := hM
      subst e1
      obtain ⟨c1, c2⟩ := mod_b (z * (z + 73) % 99999999829 / 131) hm
      exact ⟨_, rfl, _, rfl, z, 73, rfl, rfl, z, _, rfl, rfl, .inl ⟨by omega, by omega⟩, _, 99999999829, rfl, rfl, (show (0 : Int) < 99999999829 by decide), _, 131, rfl, rfl, ⟨by decide, by decide⟩, _, rfl, _, m, rfl, rfl, hm, q _ _ c1 c2 ⟨a, b, st + 1, hd1, by omega, by omega⟩ kp⟩
theorem scPool : FnScope ["script", "k", "cell"] ["script", "k"] (defScope s_law_pool) := ⟨rfl, rfl, rfl, by decide +kernel, rfl, by decide +kernel, by decide +kernel⟩
theorem ok_pool {f : Addr} {fd : FuncData} {k : Nat} (T : Df K mg "_law_pool" s_law_pool ["script", "k"] f fd) (B : Bi mg) : FnOk P w K mg base CX0 (k + 1) f fd ["script", "k"] (spPool K) := by
  refine T.F.ok scPool (fun vs H Q E h => ?_) (fun cdv A outer s H vs Q E hr h => ?_)
  · obtain ⟨a, ns, k, rfl, _⟩ := h
    rfl
  · obtain ⟨a, ns, k, rfl, hS, hlen, hk, q⟩ := h
    refine ⟨_, 
      (pss_cons (ps_set (i := 2) scPool.nd rfl (.inl rfl) pe_int)
      (Evl.pss_cut (ps_if (pt_cmpR op_lt (pv 1) (pe_callB call_len_seq (by rfl) B.len PySem.boot_len (pa_cons (pv 0) pa_nil)) (nomark _))
        (pss_one (ps_set (i := 2) scPool.nd rfl (.inl rfl) (pe_ix ix_list (pv 0) (pv 1) (fun _ _ => rfl))))
        pss_nil)
      (pss_cons (ps_if (pt_cmpR op_ge (pv 2) (pe_op op_pow pe_int pe_int) (nomark _))
        (pss_one (ps_ret (pe_lst (pa_cons (pe_op op_sub (pv 2) (pe_op op_pow pe_int pe_int)) (pa_cons pe_int (pa_cons pe_int pa_nil))))))
        pss_nil)
      (pss_one (ps_ret (pe_lst (pa_cons (pv 2) (pa_cons pe_int (pa_cons (pe_op op_mul pe_int (pv 1)) pa_nil))))))))), ?_⟩
    refine ⟨fun τ G => ∃ x : Int, τ = [some (.ref a), some (.int k), some (.int x)] ∧ G = H, ?_, fun τ G hM => ?_⟩
    · refine ⟨_, rfl, _, rfl, a, _, rfl, .inl hS, (k : Int), _, rfl, rfl, _, rfl, ite2 (fun c => ?_) (fun _ => ⟨0, rfl, rfl⟩)⟩
      have hl : (k : Int) < (((ns.map V.int).length : Nat) : Int) := of_decide_eq_true c
      rw [List.length_map] at hl
      exact ⟨_, rfl, _, rfl, a, _, _, _, rfl, rfl, hS, at_of (j := k) rfl (int_at (List.getElem?_eq_getElem (show k < ns.length by omega))), _, rfl, rfl⟩
    obtain ⟨x, rfl, rfl⟩ := hM
    refine ⟨_, rfl, 10, 18, rfl, rfl, ⟨by decide, by decide, by decide⟩, x, _, rfl, rfl, _, rfl, ite2 (fun _ => ?_) (fun _ => ?_)⟩
    · refine ⟨_, rfl, 10, 18, rfl, rfl, ⟨by decide, by decide, by decide⟩, x, _, rfl, rfl, line_small (by show 3 ≤ 16777216; decide), fun d nd => ?_⟩
      exact q d _ nd ⟨_, 1, 0, upd_same, by omega, by omega⟩ (same_new nd)
    · refine ⟨_, rfl, _, rfl, 71, (k : Int), rfl, rfl, .inl ⟨by decide, by decide⟩, line_small (by show 3 ≤ 16777216; decide), fun d nd => ?_⟩
      exact q d _ nd ⟨_, 0, _, upd_same, by omega, by omega⟩ (same_new nd)
end
end Fo
namespace Fo
open PySem PySem.Spec PyProof.Rows L2
def spWays : Sp := fun vs H Q _ => vs = [] ∧ ∀ (l : Addr), H l = none → Q (.ref l) (upd H l (.lst [.str "swap", .str "spot", .str "shift"]))
section
variable {P : Program} {w : World} {K : PySem.W.Frag} {mg : Str → Option Value} {base : Heap}
theorem scWays : FnScope [] [] (defScope s_law_ways) := ⟨rfl, rfl, rfl, by decide +kernel, rfl, by decide +kernel, by decide +kernel⟩
theorem ok_ways {f : Addr} {fd : FuncData} {k : Nat} (T : Df K mg "_law_ways" s_law_ways [] f fd) (B : Bi mg) : FnOk P w K mg base CX0 (k + 1) f fd [] spWays := by
  refine T.F.ok scWays (fun vs H Q E h => ?_) (fun cdv A outer s H vs Q E hr h => ?_)
  · obtain ⟨rfl, _⟩ := h
    rfl
  · obtain ⟨rfl, q⟩ := h
    refine ⟨_, 
      (pss_one (ps_ret (pe_lst (pa_cons pe_str (pa_cons pe_str (pa_cons pe_str pa_nil)))))), ?_⟩
    exact ⟨line_small (by show 3 ≤ 16777216; decide), fun l nl => q l nl⟩
end
end Fo
namespace Fo
open PySem PySem.Spec PyProof.Rows L2
section
variable {P : Program} {w : World} {K : PySem.W.Frag} {mg : Str → Option Value} {base : Heap}
theorem scFarN : FnScope ["pool", "found", "turn"] ["pool"] (defScope s_law_far) := ⟨rfl, rfl, rfl, by decide +kernel, rfl, by decide +kernel, by decide +kernel⟩
theorem ok_farN {f fT : Addr} {fd fdT : FuncData} {k : Nat} (T : Df K mg "_law_far" s_law_far ["pool"] f fd) (T__law_take : Df K mg "_law_take" s_law_take ["pool", "many"] fT fdT) (G__law_take : FnOk P w K mg base CX0 k fT fdT ["pool", "many"] spTake) (B : Bi mg) : FnOk P w K mg base CX0 (k + 1) f fd ["pool"] spFarN := by
  refine T.F.ok scFarN (fun vs H Q E h => ?_) (fun cdv A outer s H vs Q E hr h => ?_)
  · obtain ⟨d, c, rfl, _⟩ := h
    rfl
  · obtain ⟨d, c, rfl, hP, hc, q⟩ := h
    refine ⟨_, 
      (pss_cons (ps_set (i := 1) scFarN.nd rfl (.inl rfl) pe_int)
      (pss_cons (ps_for PassesOwn.never rfl (pi_range1 (by rfl) B.range (pa_cons pe_int pa_nil)) (pg_name (i := 2) scFarN.nd rfl (.inl rfl))
        (pss_one (ps_set (i := 1) scFarN.nd rfl (.inl rfl) (pe_op op_add (pe_op op_mul (pv 1) (pe_op op_pow pe_int pe_int)) (pe_call G__law_take hr (by rfl) T__law_take.g T__law_take.F.kp T__law_take.b .nil pass0 (pa_cons (pv 0) (pa_cons (pe_op op_pow pe_int pe_int) pa_nil)))))))
      (pss_one (ps_ret (pe_op op_add (pe_op op_mul (pv 1) pe_int) (pe_call G__law_take hr (by rfl) T__law_take.g T__law_take.F.kp T__law_take.b .nil pass0 (pa_cons (pv 0) (pa_cons pe_int pa_nil)))))))), ?_⟩
    refine ⟨4, rfl, by decide, by decide, ?_⟩
    refine for_range (n := 4) (fun i σ H1 => ∃ (v : Int) (y2 : Option V), σ = [some (.ref d), some (.int v), y2] ∧ 0 ≤ v ∧ PoolAt H1 d (c + i) ∧ KeepD d H H1) ⟨0, _, rfl, by decide, hP, KeepD.refl _ _⟩ (fun i σ H1 hi hW => ?_) (fun σ H1 hW => ?_)
    · obtain ⟨v, y2, rfl, v0, hP1, k1⟩ := hW
      refine ⟨_, rfl, 10, 6, rfl, rfl, ⟨by decide, by decide, by decide⟩, v, _, rfl, rfl, .inr ⟨by decide, by decide⟩, _, rfl, 10, 6, rfl, rfl, ⟨by decide, by decide, by decide⟩, d, _, c + i, rfl, hP1, by omega, by decide, by decide, fun u H2 u0 _ hP2 k2 => ?_⟩
      refine ⟨_, u, rfl, rfl, _, _, rfl, ?_, hP2, k1.trans k2⟩
      have : (0 : Int) ≤ v * 10 ^ (6 : Int).toNat := Int.mul_nonneg v0 (by decide)
      omega
    · obtain ⟨v, y2, rfl, v0, hP1, k1⟩ := hW
      refine ⟨_, rfl, v, 100, rfl, rfl, .inr ⟨by decide, by decide⟩, _, rfl, d, 100, c + 4, rfl, hP1, by omega, by decide, by decide, fun u H2 u0 _ hP2 k2 => ?_⟩
      exact ⟨_, u, rfl, rfl, q _ H2 (by omega) hP2 (k1.trans k2)⟩
end
end Fo
namespace L2
open PySem PySem.Spec PyProof.Rows PySem.W
/-! first, *others = a list -/
section
variable {X : Cx} {pos : Pos}
theorem pgs_star {e : Expr} {es : List Expr} {p : Pos} {t : TG} {u : TGs} (h1 : PG X e t) (h2 : PGs X es u)
    (hs : (assignEach (.Starred e p :: es) X.env).map (·.2) = assign e X.env :: (assignEach es X.env).map (·.2) := by rfl) : PGs X (.Starred e p :: es) (gCons t u) := by
  refine ⟨fun pins s σ H vs us Q I r h => ?_⟩
  obtain ⟨v, vr, e1, h⟩ := h
  subst e1
  cases r with
  | cons r rr =>
    rw [hs]
    refine assignInOrder_cons (thn (h1.run pins s σ H _ _ _ I r h) fun _ s1 ⟨σ1, H1, I1, q1⟩ => ?_)
    exact h2.run pins s1 σ1 H1 _ _ Q I1 rr q1
def gStar1 (K : PySem.W.Frag) (t : TGs) : TG := fun v σ H Q => ∃ a x xs, v = .ref a ∧ SqL K H a (x :: xs) ∧ xs.length < 16384 ∧ ∀ D, H D = none → t [x, .ref D] σ (upd H D (.lst xs)) Q
theorem pg_star1 {e1 e2 : Expr} {p : Pos} {k : Nat} {t : TGs} (hc : X.calm = true) (h : PGs X [e1, .Starred e2 p] t)
    (hn : (assignEach [e1, .Starred e2 p] X.env).length = 2 := by rfl) (hst : (assignEach [e1, .Starred e2 p] X.env).findIdx? (·.1) = some 1 := by rfl) : PG X (.Tuple [e1, .Starred e2 p] k pos) (gStar1 X.K t) := by
  refine ⟨fun pins s σ H v u Q I r hw => ?_⟩
  obtain ⟨a, x, xs, e0, hq, hz, hw⟩ := hw
  subst e0
  cases r
  obtain ⟨its, rv, pl, _⟩ := I.list hq
  cases rv with
  | cons r0 rr =>
    rename_i ux uxs
    have hh : X.A.handled = none := I.ok.hd hc
    have hl : s.heap.IsList a (ux :: uxs).toArray := by
      obtain ⟨o, m, e, c, d, q⟩ := pl
      exact ⟨o, e, c, m, q⟩
    have hlen : uxs.length = xs.length := rr.length.symm
    rw [PyProof.Rows.assign_Tuple]
    refine wpAny_bind (wpAny_standAt ?_)
    unfold unpack
    rw [hn, hst]
    refine wpAny_bind (wpAny_holding ?_)
    have hlt : a ≠ s.heap.objs.size := by obtain ⟨o, ho, _⟩ := hl; exact Nat.ne_of_lt (Heap.lt_size ho)
    unfold unpackItems
    refine wpAny_bind ?_
    unfold notIterableAtAll
    refine wpAny_bind (wpAny_specialOf hl.typeIs slot_list_iter.lookup ?_)
    refine wpAny_pure ?_
    simp only [Bool.false_eq_true, if_false]
    refine wpAny_bind (wpAny_holding (wpAny_pyIter_list hl ?_))
    have hsz : (ux :: uxs).toArray.size = uxs.length + 1 := by simp
    refine wpAny_bind (wpAny_holding (kun_draw hlt 1 0 _ _ ⟨_, Heap.get?_push_size _ rfl, rfl, rfl⟩ (hl.push _) (by omega) fun h₁ hit₁ hs₁ => ?_))
    have hl₁ : h₁.IsList a (ux :: uxs).toArray := (hl.push _).extBut hs₁.extBut hlt
    rw [Nat.zero_add] at hit₁
    have hit₁' := hit₁
    obtain ⟨oi, hoi, _⟩ := hit₁'
    have hl₁' := hl₁
    obtain ⟨ol, hol, _⟩ := hl₁'
    rw [List.drop_zero]
    show wpAny _ _ (if ([ux] : List Value).length < 1 then _ else _) _ _ _
    rw [if_neg (by simp)]
    refine wpAny_bind (wpAny_holding (kun_collect (s := { s with heap := h₁ }) (T := "list_iterator") (.inr (.inr (.inl rfl))) (Walks.list (A := X.A.in1) hh s.heap.objs.size a hlt (ux :: uxs).toArray) (fun j u st => st.1.typeIs) (k := 1) (by omega) ⟨hit₁, hl₁⟩ (Heap.lt_size hoi) (Heap.lt_size hol) (fun h₂ tk hk => ?_) (by rw [sizeLine_eq]; omega)))
    show wpAny _ _ (if uxs.length < 2 - 1 - 1 then _ else _) _ _ _
    rw [if_neg (by omega)]
    show wpAny _ _ (newList (uxs.take (uxs.length - 0)) >>= fun d => pure ([ux] ++ [d] ++ uxs.drop (uxs.length - 0))) _ _ _
    rw [Nat.sub_zero, List.take_length, List.drop_length]
    have he : ∀ b o, s.heap.get? b = some o → h₂.get? b = some o := fun b o e => by
      have hb : b ≠ s.heap.objs.size := Nat.ne_of_lt (Heap.lt_size e)
      exact hk b o hb (hs₁.extBut b o hb (Heap.get?_push_of_some _ e))
    have I1 : Inv X pins σ H { s with heap := h₂, toks := tk } := I.kept he
    refine wpAny_bind (wpAny_newList ?_ (by rw [sizeLine_eq]; omega))
    refine wpAny_pure ?_
    have I2 : Inv X pins σ (upd H h₂.objs.size (.lst xs)) { s with heap := h₂.push (seqObj "list" uxs.toArray 0), toks := tk } :=
      I1.laid (t' := tk) (fun b u e => Heap.get?_push_of_some _ e) (Nat.le_refl _)
        (show ObjOk X.prog X.w _ _ _ (.lst xs) from ⟨by rw [sizeLine_eq]; omega, uxs, 0, rr, Heap.get?_push_size _ rfl⟩)
    exact h.run pins _ σ _ [x, .ref h₂.objs.size] [ux, .ref h₂.objs.size] Q I2 (.cons r0 (.cons rfl .nil)) (hw _ (I1.hok.fresh (Nat.le_refl _)))
end
end L2
namespace Fo
open PySem PySem.Spec PyProof.Rows L2
/-! ### how many orders are how far -/
/-- one less than n reaches all -/
theorem shD_last {n : Nat} (h : 1 ≤ n) : ∀ p, p ≤ n → shD n ((n : Nat) : Int) p = shD n (((n - 1 : Nat)) : Int) p
  | 0, _ => rfl
  | p + 1, hp => by
    rw [shD, shD, shD_last h p (by omega)]
    have e1 : loP p ((n : Nat) : Int) = loP p (((n - 1 : Nat)) : Int) := by unfold loP; omega
    have e2 : ctP n p ((n : Nat) : Int) = ctP n p (((n - 1 : Nat)) : Int) := by unfold ctP; rw [e1]; omega
    rw [e1, e2]
theorem shN_last {n : Nat} (h : 1 ≤ n) : shN n ((n : Nat) : Int) = shN n (((n - 1 : Nat)) : Int) := by
  unfold shN
  rw [shD_last h n (Nat.le_refl _)]
/-- how far an order is from 0, 1, .. -/
def fW (w : Str) (s : List Int) : Nat := if w = "swap" then invR s else if w = "spot" then ((rg s.length).filter fun p => !decide (p = g0 s p)).length else (maxL ((rg s.length).map fun p => absI (p - g0 s p))).toNat
theorem farW_seats {w : Str} {n : Nat} {xs o : List Int} (ox : IsOrd n xs) (oo : IsOrd n o) (hn : 1 ≤ n) : farW w xs o = ((fW w (seatsL o xs) : Nat) : Int) := by
  rw [← farW_turn ox oo hn]
  have os := seats_ord oo ox
  unfold farW fW
  split
  · unfold farSwap
    rw [inv_NR]
  · split
    · unfold farSpot spotL
      rw [oo.len, os.len]
      congr 2
      apply List.filter_congr
      intro p hp
      rw [g0_seats oo hp]
      congr 1
      by_cases c : g0 o p = g0 xs p
      · rw [decide_eq_true c, c, pos_g0 ox hp, decide_eq_true rfl]
      · rw [decide_eq_false c, decide_eq_false (fun e => c (by rw [e, g0_pos ox (g0_in oo hp), ← e]))]
    · have nn : 0 ≤ maxL (gapsL o xs) := by
        obtain ⟨h1, _⟩ := maxL_mem (gaps_nonneg o xs) (by rw [gaps_len, oo.len]; exact hn)
        exact gaps_nonneg o xs _ h1
      unfold farShift
      have e : gapsL o xs = (rg (seatsL o xs).length).map fun p => absI (p - g0 (seatsL o xs) p) := by
        unfold gapsL
        rw [seats_len]
      rw [← e]
      omega
theorem count_seats {w : Str} {n : Nat} {xs : List Int} (ox : IsOrd n xs) (hn : 1 ≤ n) (p : Int → Bool) : ((allK n n).filter fun o => p (farW w xs o)).length = (((allK n n).map (fW w)).filter fun v => p ((v : Nat) : Int)).length := by
  have h1 : ((allK n n).filter fun o => p (farW w xs o)) = (allK n n).filter fun o => p ((fW w (seatsL o xs) : Nat) : Int) := by
    apply List.filter_congr
    intro o ho
    rw [farW_seats ox (all_ord ho) hn]
  have h2 := ((seats_all ox).map (fW w)).filter (fun v => p ((v : Nat) : Int))
  have h3 := h2.length_eq
  rw [h1, ← h3, List.map_map, List.filter_map, List.length_map]
  rfl
/-! counts by a list of how many -/
def histN (L : List Nat) (m : Nat) : List Int := L.foldl (fun acc v => addAt acc v 1) (List.replicate m 0)
theorem sum_addAt : ∀ (l : List Int) (v k : Nat), v < l.length → ((addAt l v 1).take k).sum = (l.take k).sum + if v < k then 1 else 0
  | [], v, k, h => absurd h (Nat.not_lt_zero _)
  | a :: l, 0, 0, _ => rfl
  | a :: l, 0, k + 1, _ => by
    show a + 1 + (l.take k).sum = a + (l.take k).sum + if 0 < k + 1 then 1 else 0
    rw [if_pos (by omega)]
    omega
  | a :: l, v + 1, 0, _ => rfl
  | a :: l, v + 1, k + 1, h => by
    have ih := sum_addAt l v k (by simpa using h)
    show a + ((addAt l v 1).take k).sum = a + (l.take k).sum + if v + 1 < k + 1 then 1 else 0
    rw [ih]
    by_cases c : v < k
    · rw [if_pos c, if_pos (by omega)]; omega
    · rw [if_neg c, if_neg (by omega)]; omega
theorem hist_fold (k : Nat) : ∀ (L : List Nat) (acc : List Int), (∀ v ∈ L, v < acc.length) → ((L.foldl (fun acc v => addAt acc v 1) acc).take k).sum = (acc.take k).sum + (((L.filter fun v => decide (v < k)).length : Nat) : Int)
  | [], acc, _ => by show _ = _ + 0; rw [Int.add_zero]; rfl
  | v :: L, acc, h => by
    have ih := hist_fold k L (addAt acc v 1) fun u hu => by rw [addAt_len]; exact h u (List.mem_cons_of_mem _ hu)
    rw [List.foldl_cons, ih, sum_addAt acc v k (h v List.mem_cons_self), List.filter_cons]
    by_cases c : v < k
    · rw [decide_eq_true c, if_pos c, if_pos rfl, List.length_cons]
      omega
    · rw [decide_eq_false c, if_neg c, if_neg (by decide)]
      omega
theorem hist_sum {L : List Nat} {m : Nat} (h : ∀ v ∈ L, v < m) (k : Nat) : ((histN L m).take k).sum = (((L.filter fun v => decide (v < k)).length : Nat) : Int) := by
  unfold histN
  rw [hist_fold k L _ (by rw [List.length_replicate]; exact h)]
  have z : ∀ j : Nat, ((List.replicate j (0 : Int)).take k).sum = 0 := by
    intro j
    rw [List.take_replicate]
    generalize min k j = i
    induction i with
    | zero => rfl
    | succ i ih => rw [List.replicate_succ, List.sum_cons, ih]; rfl
  rw [z]
  omega
def Ls (n : Nat) : List Nat := (allK n n).map (fW "swap")
def Lp (n : Nat) : List Nat := (allK n n).map (fW "spot")
def Lf (n : Nat) : List Nat := (allK n n).map (fW "shift")
def chk (L : List Nat) (c : List Int) : Bool := L.all (fun v => decide (v < c.length)) && decide (histN L c.length = c)
theorem chk_s : ∀ n : Nat, n < 7 → 1 ≤ n → chk (Ls n) (swC (n - 1)) = true := by decide +kernel
theorem chk_p : ∀ n : Nat, n < 7 → 1 ≤ n → chk (Lp n) (spC n) = true := by decide +kernel
theorem chk_f : ∀ n : Nat, n < 7 → 1 ≤ n → ((Lf n).all (fun v => decide (v < n)) && decide ((List.range n).map (fun r => ((histN (Lf n) n).take (r + 1)).sum) = (List.range n).map fun r => shN n ((r : Nat) : Int))) = true := by decide +kernel
theorem le_lt {L : List Nat} {r : Int} (hr : 0 ≤ r) : (L.filter fun v => decide (((v : Nat) : Int) ≤ r)) = L.filter fun v => decide (v < (r + 1).toNat) := by
  apply List.filter_congr
  intro v _
  by_cases c : ((v : Nat) : Int) ≤ r
  · rw [decide_eq_true c, decide_eq_true (by omega)]
  · rw [decide_eq_false c, decide_eq_false (by omega)]
/-- as many orders of few things are within r as are counted -/
theorem count_in {w : Str} {n : Nat} {xs : List Int} {r : Int} (hw : IsWay w) (ox : IsOrd n xs) (h1 : 1 ≤ n) (h2 : n ≤ 6) (hr : 0 ≤ r) : ((((allK n n).filter fun o => decide (farW w xs o ≤ r)).length : Nat) : Int) = inW w n r := by
  rw [count_seats (p := fun v => decide (v ≤ r)) ox h1, le_lt hr]
  rcases hw with rfl | rfl | rfl
  · have c := chk_s n (by omega) h1
    unfold chk at c
    rw [Bool.and_eq_true] at c
    have c1 : ∀ v ∈ Ls n, v < (swC (n - 1)).length := fun v hv => of_decide_eq_true (List.all_eq_true.mp c.1 v hv)
    have c2 := of_decide_eq_true c.2
    have := hist_sum c1 (r + 1).toNat
    rw [c2] at this
    rw [inW_swap, this]
    rfl
  · have c := chk_p n (by omega) h1
    unfold chk at c
    rw [Bool.and_eq_true] at c
    have c1 : ∀ v ∈ Lp n, v < (spC n).length := fun v hv => of_decide_eq_true (List.all_eq_true.mp c.1 v hv)
    have c2 := of_decide_eq_true c.2
    have := hist_sum c1 (r + 1).toNat
    rw [c2] at this
    rw [inW_spot, this]
    rfl
  · have c := chk_f n (by omega) h1
    rw [Bool.and_eq_true] at c
    have c1 : ∀ v ∈ Lf n, v < n := fun v hv => of_decide_eq_true (List.all_eq_true.mp c.1 v hv)
    have c2 := of_decide_eq_true c.2
    have at' : ∀ j : Nat, j < n → ((histN (Lf n) n).take (j + 1)).sum = shN n ((j : Nat) : Int) := fun j hj => by
      have e := congrArg (fun l => l[j]?) c2
      simp only [List.getElem?_map, List.getElem?_range hj, Option.map_some] at e
      exact Option.some.inj e
    rw [inW_shift]
    show (((Lf n).filter fun v => decide (v < (r + 1).toNat)).length : Int) = _
    by_cases d : r < n
    · obtain ⟨j, rfl⟩ : ∃ j : Nat, r = (j : Int) := ⟨r.toNat, by omega⟩
      rw [← at' j (by omega), hist_sum c1, show ((j : Int) + 1).toNat = j + 1 by omega]
    · have hlen : (histN (Lf n) n).take (r + 1).toNat = (histN (Lf n) n).take (n - 1 + 1) := by
        have hl : (histN (Lf n) n).length = n := by
          unfold histN
          have : ∀ (L : List Nat) (acc : List Int), (L.foldl (fun acc v => addAt acc v 1) acc).length = acc.length := by
            intro L
            induction L with
            | nil => intro acc; rfl
            | cons v L ih => intro acc; rw [List.foldl_cons, ih, addAt_len]
          rw [this, List.length_replicate]
        rw [List.take_of_length_le (by omega), List.take_of_length_le (by omega)]
      rw [← hist_sum c1, hlen, at' (n - 1) (by omega), ← shN_far (r := r)]
      rw [show min (n : Int) r = (n : Int) by omega, shN_last (by omega)]
end Fo
namespace Fo
open PySem PySem.Spec PyProof.Rows L2
def farAll (w : Str) (d : Int) (xs : List Int) (rs : List (List Int)) : Bool := rs.all fun o => decide (d ≤ farW w xs o)
theorem farAll_nil {w : Str} {d : Int} {xs : List Int} : farAll w d xs [] = true := rfl
theorem farAll_more {w : Str} {d : Int} {xs : List Int} {rs : List (List Int)} {i : Nat} {r : List Int} (h : rs[i]? = some r) : farAll w d xs (rs.take (i + 1)) = (farAll w d xs (rs.take i) && decide (d ≤ farW w xs r)) := by
  unfold farAll
  rw [List.take_add_one, h, List.all_append]
  show (_ && (decide (d ≤ farW w xs r) && true)) = _
  rw [Bool.and_true]
theorem farAll_false {w : Str} {d : Int} {xs : List Int} {rs : List (List Int)} {i : Nat} {r : List Int} (h : rs[i]? = some r) (hf : decide (d ≤ farW w xs r) = false) : farAll w d xs rs = false := by
  unfold farAll
  rw [List.all_eq_false]
  exact ⟨r, List.mem_of_getElem? h, by rw [hf]; decide⟩
/-- a list of orders, told whether all of them are so far -/
def spIsFar (Pt : Addr) : Sp := fun vs H Q _ => ∃ (w : Str) (d : Int) (a l : Addr) (n : Nat) (xs : List Int) (bs : List Addr) (rs : List (List Int)), vs = [.str w, .int d, .ref a, .ref l] ∧ IsWay w ∧ H a = some (.lst (xs.map V.int)) ∧ IsOrd n xs ∧ 1 ≤ n ∧ n ≤ 12 ∧
  H l = some (.lst (bs.map V.ref)) ∧ LL H bs rs ∧ (∀ r ∈ rs, IsOrd n r) ∧ GxR.TabG H Pt ∧ ∀ H', KeepT H H' → Q (.bl (farAll w d xs rs)) H'
section
variable {P : Program} {w : World} {K : PySem.W.Frag} {mg : Str → Option Value} {base : Heap}
theorem scIsFar : FnScope ["way", "d", "order", "others", "other"] ["way", "d", "order", "others"] (defScope s_is_far) := ⟨rfl, rfl, rfl, by decide +kernel, rfl, by decide +kernel, by decide +kernel⟩
set_option maxHeartbeats 2000000 in
theorem ok_isFar {f f1 c Pt : Addr} {fd d1 : FuncData} {k : Nat} (T : DfC K mg "is_far" s_is_far ["way", "d", "order", "others"] f fd c) (TB : LamX.TabB base mg c Pt) (T_known_far : Df K mg "known_far" s_known_far ["way", "one", "other"] f1 d1) (G_known_far : FnOk P w K mg base CX0 k f1 d1 ["way", "one", "other"] spFar) (B : Bi mg) :
    FnOk P w K mg base CX0 (k + 2) f fd ["way", "d", "order", "others"] (spIsFar Pt) := by
  refine fun_okC T.F T.c scIsFar (fun vs H Q E h => ?_) (fun A outer s H vs Q E hr h => ?_)
  · obtain ⟨z, d, a, l, n, xs, bs, rs, rfl, _⟩ := h
    rfl
  · obtain ⟨z, d, a, l, n, xs, bs, rs, rfl, hz, ha, ox, hn1, hn2, hl, hL, ho, ht, q⟩ := h
    refine ⟨_, 
      (pss_one (ps_ret (pe_allG (own := [("other", 4)]) (gt := (gName 4)) (te := (tOp (rI0 fun i j => .bl (decide (j ≤ i))) (tCall spFar [] E0 (tCons (tVar 0) (tCons (tVar 2) (tCons (tVar 4) tNil)))) (tVar 1))) rfl scIsFar.nd hr (by rfl) B.all (by decide +kernel) TB rfl (pi_list (pv 3)) (blkOk_by (N := ["way", "d", "order", "others", "other"]) (sc := defScope s_is_far) (by decide +kernel)) (gsc_by (by decide +kernel)) (fun _ _ _ _ _ _ _ => (pg_name (i := 4) scIsFar.nd rfl (.inl rfl))) (fun _ _ _ _ _ _ _ => (pe_cmpR op_ge (pe_call G_known_far (room_gen hr) (by rfl) T_known_far.g T_known_far.F.kp T_known_far.b .nil pass0 (pa_cons (pv 0) (pa_cons (pv 2) (pa_cons (pv 4) pa_nil)))) (pv 1) (nomark _)))))), ?_⟩
    refine ⟨_, rfl, l, rfl, ⟨_, SqL.of hl⟩, ht, fun H2 tb => ?_⟩
    have k2 := KeepT.of_tabbed ht tb
    refine all_list (K := K) (a := l) (xs := bs.map V.ref) (fun i H3 => KeepT H H3 ∧ farAll z d xs (rs.take i) = true) ⟨k2, rfl⟩ (fun i H3 _ hP => SqL.of (hP.1.lst hl)) (fun i x H3 hx hP => ?_) (fun H3 hP => ?_) (fun x H3 p p' hpq h => ?_)
    · obtain ⟨k3, hall⟩ := hP
      obtain ⟨r, er, rfl⟩ := ref_at_inv hx
      obtain ⟨row, erow, hrow⟩ := hL.get er
      refine ⟨rfl, _, rfl, _, rfl, _, rfl, z, a, r, n, xs, row, rfl, hz, k3.lst ha, k3.lst hrow, ox, ho _ (List.mem_of_getElem? erow), hn1, hn2, fun H4 s4 => ?_⟩
      have k4 := k3.trans (KeepT.of_same s4)
      refine ⟨_, rfl, _, _, rfl, rfl, _, rfl, ?_⟩
      cases hb : decide (d ≤ farW z xs row) with
      | true => exact ⟨k4, by rw [farAll_more erow, hall, hb]; rfl⟩
      | false =>
        have z2 := q H4 k4
        rw [farAll_false erow hb] at z2
        exact z2
    · obtain ⟨k3, hall⟩ := hP
      rw [List.length_map, hL.len, List.take_length] at hall
      have z2 := q H3 k3
      rw [hall] at z2
      exact z2
    · obtain ⟨e1, i1, e2, i3, e3, i4, e4, zz, a', b', n', xs', ys', e5, r1, r2, r3, r4, r5, r6, r7, r8⟩ := h
      exact ⟨e1, i1, e2, i3, e3, i4, e4, zz, a', b', n', xs', ys', e5, r1, r2, r3, r4, r5, r6, r7, fun H4 s4 => by
        obtain ⟨j, ej, u1, u2, e6, e7, e8⟩ := r8 H4 s4
        exact ⟨j, ej, u1, u2, e6, e7, hpq _ _ e8⟩⟩
end
end Fo
namespace Fo
open PySem PySem.Spec PyProof.Rows L2
theorem farW_nonneg (w : Str) (xs ys : List Int) : 0 ≤ farW w xs ys := by
  unfold farW
  split
  · unfold farSwap; omega
  · split
    · unfold farSpot; omega
    · unfold farShift
      have : ∀ l : List Int, 0 ≤ maxL l := fun l => by
        induction l with
        | nil => exact Int.le_refl _
        | cons a l ih => show 0 ≤ max a (maxL l); omega
      exact this _
end Fo
namespace Fo
open PySem PySem.Spec PyProof.Rows L2
def stepF (w : Str) (d : Int) (acc : List (List Int)) (o : List Int) : List (List Int) := if farAll w d o acc = true then acc ++ [o] else acc
def firstL (w : Str) (d : Int) (os : List (List Int)) : List (List Int) := os.foldl (stepF w d) []
theorem firstL_more {w : Str} {d : Int} {os : List (List Int)} {i : Nat} {o : List Int} (h : os[i]? = some o) : firstL w d (os.take (i + 1)) = stepF w d (firstL w d (os.take i)) o := by
  unfold firstL
  rw [List.take_add_one, h, List.foldl_append]
  rfl
theorem firstL_snoc (w : Str) (d : Int) (os : List (List Int)) (o : List Int) : firstL w d (os ++ [o]) = stepF w d (firstL w d os) o := by
  unfold firstL
  rw [List.foldl_append]
  rfl
theorem firstL_sub (w : Str) (d : Int) (os : List (List Int)) : ∀ i, i ≤ os.length → (firstL w d (os.take i)).Sublist (os.take i)
  | 0, _ => by
    rw [List.take_zero]
    exact List.Sublist.refl _
  | i + 1, h => by
    have ih := firstL_sub w d os i (by omega)
    have e : os[i]? = some os[i] := List.getElem?_eq_getElem h
    rw [firstL_more e, List.take_add_one, e]
    unfold stepF
    split
    · exact ih.append (List.Sublist.refl _)
    · exact ih.trans (List.sublist_append_left _ _)
theorem firstL_subset (w : Str) (d : Int) (os : List (List Int)) {o : List Int} (h : o ∈ firstL w d os) : o ∈ os := by
  have z := firstL_sub w d os os.length (Nat.le_refl _)
  rw [List.take_length] at z
  exact z.subset h
theorem first_one {w : Str} {n : Nat} (hw : IsWay w) (hn : 1 ≤ n) (os : List (List Int)) (ho : ∀ o ∈ os, IsOrd n o) (hnd : os.Nodup) : firstL w 1 os = os := by
  have key : ∀ i, i ≤ os.length → firstL w 1 (os.take i) = os.take i := by
    intro i
    induction i with
    | zero =>
      intro _
      rw [List.take_zero]
      rfl
    | succ i ih =>
      intro h
      have e : os[i]? = some os[i] := List.getElem?_eq_getElem h
      rw [firstL_more e, ih (by omega), List.take_add_one, e]
      unfold stepF
      rw [if_pos]
      · rfl
      unfold farAll
      rw [List.all_eq_true]
      intro r hr
      apply decide_eq_true
      have h0 := farW_nonneg w os[i] r
      have hne : farW w os[i] r ≠ 0 := fun z => by
        have e2 := farW_zero hw (ho _ (List.getElem_mem h)) (ho _ (List.mem_of_mem_take hr)) hn z
        obtain ⟨j, hj⟩ := List.mem_iff_getElem?.mp hr
        rw [List.getElem?_take] at hj
        split at hj
        · rename_i hlt
          rw [← e2] at hj
          have := (List.getElem?_inj (l := os) (i := j) (j := i) (by omega) hnd).mp (hj.trans e.symm)
          omega
        · cases hj
      omega
  have z := key os.length (Nat.le_refl _)
  rw [List.take_length] at z
  exact z
theorem far_none {w : Str} {d : Int} {xs : List Int} {rs : List (List Int)} : (rs.filter (fun o => decide (farW w xs o < d)) = []) ↔ farAll w d xs rs = true := by
  unfold farAll
  rw [List.filter_eq_nil_iff, List.all_eq_true]
  constructor
  · intro h r hr
    have z := h r hr
    apply decide_eq_true
    have : ¬ farW w xs r < d := fun q => z (decide_eq_true q)
    omega
  · intro h r hr q
    have z := of_decide_eq_true (h r hr)
    have q' := of_decide_eq_true q
    omega
def spFirst (Pt : Addr) : Sp := fun vs H Q _ => ∃ (w : Str) (n : Nat) (d : Int), vs = [.str w, .int n, .int d] ∧ IsWay w ∧ 1 ≤ n ∧ n ≤ 6 ∧ 1 ≤ d ∧ GxR.TabG H Pt ∧
  ∀ (l : Addr) (as : List Addr) (H' : Hp), H l = none → H' l = some (.lst (as.map V.ref)) → LL H' as (firstL w d (allK n n)) → (∀ a ∈ as, H a = none ∧ a ≠ l) → as.Nodup → KeepT H H' → Q (.ref l) H'
def spLFirst : Sp := fun vs H Q _ => ∃ (w : Str) (n : Nat) (d : Int), vs = [.str w, .int n, .int d] ∧ IsWay w ∧ 1 ≤ n ∧ n ≤ 6 ∧ 1 ≤ d ∧
  ∀ (l : Addr) (as : List Addr) (H' : Hp), H l = none → H' l = some (.lst (as.map V.ref)) → LL H' as (firstL w d (allK n n)) → (∀ a ∈ as, H a = none ∧ a ≠ l) → as.Nodup → Same H H' → Q (.ref l) H'
section
variable {P : Program} {w : World} {K : PySem.W.Frag} {mg : Str → Option Value} {base : Heap}
theorem scFirst : FnScope ["way", "n", "d", "taken", "order"] ["way", "n", "d"] (defScope s_first_apart) := ⟨rfl, rfl, rfl, by decide +kernel, rfl, by decide +kernel, by decide +kernel⟩
set_option maxHeartbeats 2000000 in
theorem ok_first {f f1 f2 f3 Pt : Addr} {fd d1 d2 d3 : FuncData} {k c0 : Nat} {tk : Tok} (T : Df K mg "first_apart" s_first_apart ["way", "n", "d"] f fd) (T_check_apart : Df K mg "check_apart" s_check_apart ["way", "n", "most", "d"] f1 d1) (T_all_orders : Df K mg "all_orders" s_all_orders ["n"] f2 d2) (T_is_far : DfC K mg "is_far" s_is_far ["way", "d", "order", "others"] f3 d3 c0)
    (G_check_apart : FnOk P w K mg base CX0 k f1 d1 ["way", "n", "most", "d"] spApart) (G_all_orders : FnOk P w K mg base CX0 k f2 d2 ["n"] spAllO) (G_is_far : FnOk P w K mg base CX0 k f3 d3 ["way", "d", "order", "others"] (spIsFar Pt)) (B : Bi mg) (mI : mg "MOST_LISTED" = some (.int 6 tk)) :
    FnOk P w K mg base CX0 (k + 1) f fd ["way", "n", "d"] (spFirst Pt) := by
  refine T.F.ok scFirst (fun vs H Q E h => ?_) (fun cdv A outer s H vs Q E hr h => ?_)
  · obtain ⟨z, n, d, rfl, _⟩ := h
    rfl
  · obtain ⟨z, n, d, rfl, hz, hn1, hn2, hd, ht, q⟩ := h
    refine ⟨_, 
      (pss_cons (ps_expr (pe_call G_check_apart hr (by rfl) T_check_apart.g T_check_apart.F.kp T_check_apart.b .nil pass0 (pa_cons (pv 0) (pa_cons (pv 1) (pa_cons (pe_glob (v := .int 6) (by rfl) mI ⟨_, rfl⟩) (pa_cons (pv 2) pa_nil))))))
      (pss_cons (ps_set (i := 3) scFirst.nd rfl (.inl rfl) (pe_lst pa_nil))
      (pss_cons (ps_for PassesOwn.never rfl (pi_list (pe_call G_all_orders hr (by rfl) T_all_orders.g T_all_orders.F.kp T_all_orders.b .nil pass0 (pa_cons (pv 1) pa_nil))) (pg_name (i := 4) scFirst.nd rfl (.inl rfl))
        (pss_one (ps_if (pt_val (pe_call G_is_far hr (by rfl) T_is_far.g T_is_far.F.kp T_is_far.b .nil pass0 (pa_cons (pv 0) (pa_cons (pv 2) (pa_cons (pv 4) (pa_cons (pv 3) pa_nil))))))
          (pss_one (ps_expr (pe_bm PySem.F.plainAttrs_list PySem.F.slot_list_append PySem.F.type_list_append mt_append (pv 3) (pa_cons (pv 4) pa_nil))))
          pss_nil)))
      (pss_one (ps_ret (pv 3)))))), ?_⟩
    refine ⟨_, rfl, _, rfl, _, rfl, z, (n : Int), 6, d, rfl, hz, by omega, by omega, hd, ?_⟩
    refine ⟨Nat.zero_le _, fun l nl => ?_⟩
    have s0 := same_new (o := .lst []) nl
    refine ⟨_, rfl, n, rfl, hn1, hn2, fun r as H2 nr hr2 hLL hfr hnd s2 => ?_⟩
    have hl2 : H2 l = some (.lst []) := s2 _ _ upd_same
    have nrl : r ≠ l := fun z => by rw [z, upd_same] at nr; cases nr
    have hlen := hLL.len
    have hal := allK_len hn2 n (Nat.le_refl _)
    have hp6 := pow6 hn2
    refine ⟨r, rfl, ⟨_, SqL.of hr2⟩, ?_⟩
    refine for_list (xs := as.map V.ref) (fun m σ H3 => ∃ (y4 : Option V) (bs : List Addr), σ = [some (.str z), some (.int n), some (.int d), some (.ref l), y4] ∧ H3 l = some (.lst (bs.map V.ref)) ∧ LL H3 bs (firstL z d ((allK n n).take m)) ∧ bs.Sublist (as.take m) ∧ KeepT H H3 ∧ H3 r = some (.lst (as.map V.ref)) ∧ LL H3 as (allK n n))
      ⟨_, [], rfl, hl2, trivial, List.nil_sublist _, KeepT.of_same (s0.trans s2), hr2, hLL⟩ (fun m σ H3 _ hP => by obtain ⟨_, _, _, _, _, _, _, h7, _⟩ := hP; exact SqL.of h7) (fun m x σ H3 hx hP => ?_) (fun σ H3 hP => ?_)
    · obtain ⟨y4, bs, rfl, hl3, hLb, hsub, k3, hr3, hL3⟩ := hP
      obtain ⟨c, ec, rfl⟩ := ref_at_inv hx
      obtain ⟨row, erow, hrow⟩ := hL3.get ec
      have etk : as.take (m + 1) = as.take m ++ [c] := by rw [List.take_add_one, ec]; rfl
      have hca : c ∈ as := List.mem_of_getElem? ec
      have hcl : c ≠ l := fun z => by have := (hfr c hca).1; rw [z, upd_same] at this; cases this
      have hbl : ∀ u ∈ as, u ≠ l := fun u hu z => by have := (hfr u hu).1; rw [z, upd_same] at this; cases this
      refine ⟨_, rfl, _, rfl, _, rfl, _, rfl, z, d, c, l, n, row, bs, _, rfl, hz, hrow, all_ord (List.mem_of_getElem? erow), hn1, by omega, hl3, hLb, fun o ho => all_ord (List.mem_of_mem_take (firstL_subset _ _ _ ho)), k3.tab ht, fun H4 k4 => ?_⟩
      have k34 := k3.trans k4
      refine ⟨_, rfl, ?_⟩
      cases hb : farAll z d row (firstL z d ((allK n n).take m)) with
      | true =>
        refine iteT ⟨_, rfl, .inl ⟨rfl, _, SqL.of (k4.lst hl3)⟩, _, rfl, l, _, _, rfl, rfl, k4.lst hl3, line_lt ?_, ?_⟩
        · rw [List.length_map]
          have := hsub.length_le
          rw [List.length_take] at this
          omega
        refine ⟨_, bs ++ [c], rfl, by rw [upd_same, List.map_append]; rfl, ?_, ?_, ⟨fun b o e f => ?_, fun b qq e => ?_⟩, by rw [upd_ne nrl]; exact k4.lst hr3, (hL3.keepT k4).keep fun u hu o e => by rw [upd_ne (hbl u hu)]; exact e⟩
        · rw [firstL_more erow]
          unfold stepF
          rw [hb, if_pos rfl]
          refine LL.snoc ((hLb.keepT k4).keep fun u hu o e => by rw [upd_ne (hbl u (List.mem_of_mem_take (hsub.subset hu)))]; exact e) ?_
          rw [upd_ne hcl]
          exact k4.lst hrow
        · rw [etk]
          exact hsub.append (List.Sublist.refl _)
        · rw [upd_ne (ne_of_none e nl)]
          exact k34.1 b o e f
        · rw [upd_ne (ne_of_none e nl)]
          exact k34.2 b qq e
      | false =>
        refine iteF ⟨_, bs, rfl, k4.lst hl3, ?_, ?_, k34, k4.lst hr3, hL3.keepT k4⟩
        · rw [firstL_more erow]
          unfold stepF
          rw [hb, if_neg Bool.false_ne_true]
          exact hLb.keepT k4
        · rw [etk]
          exact hsub.trans (List.sublist_append_left _ _)
    · obtain ⟨y4, bs, rfl, hl3, hLb, hsub, k3, hr3, hL3⟩ := hP
      rw [List.length_map, hlen, List.take_length] at hLb
      refine ⟨_, rfl, q l bs H3 nl hl3 hLb (fun c hc => ?_) ?_ k3⟩
      · have hca : c ∈ as := List.mem_of_mem_take (hsub.subset hc)
        exact ⟨s0.free (hfr c hca).1, fun z => by have := (hfr c hca).1; rw [z, upd_same] at this; cases this⟩
      · exact (hnd.sublist (List.take_sublist _ as)).sublist hsub
end
end Fo
namespace Fo
open PySem PySem.Spec PyProof.Rows L2
/-! lists that lie apart -/
theorem cutV_takeN (xs : List V) (i : Nat) : cutV xs none (some (i : Int)) = xs.take i := by
  unfold cutV
  rw [HT.sIx_none, HT.sIx_nat, List.drop_zero, Nat.sub_zero]
  by_cases hh : i ≤ xs.length
  · rw [Nat.min_eq_left hh]
  · rw [Nat.min_eq_right (by omega), List.take_length, List.take_of_length_le (by omega)]
theorem LL.takeN {H : Hp} : ∀ {as : List Addr} {rs : List (List Int)} (k : Nat), LL H as rs → LL H (as.take k) (rs.take k)
  | _, _, 0, _ => trivial
  | [], [], _ + 1, _ => trivial
  | [], _ :: _, _ + 1, h => h.elim
  | _ :: _, [], _ + 1, h => h.elim
  | _ :: _, _ :: _, k + 1, h => ⟨h.1, LL.takeN k h.2⟩
theorem LL.dropN {H : Hp} : ∀ {as : List Addr} {rs : List (List Int)} (k : Nat), LL H as rs → LL H (as.drop k) (rs.drop k)
  | _, _, 0, h => h
  | [], [], _ + 1, _ => trivial
  | [], _ :: _, _ + 1, h => h.elim
  | _ :: _, [], _ + 1, h => h.elim
  | _ :: _, _ :: _, k + 1, h => LL.dropN k h.2
theorem LL.appN {H : Hp} : ∀ {as bs : List Addr} {rs ss : List (List Int)}, LL H as rs → LL H bs ss → LL H (as ++ bs) (rs ++ ss)
  | [], _, [], _, _, h => h
  | _ :: _, _, _ :: _, _, a, h => ⟨a.1, LL.appN a.2 h⟩
  | [], _, _ :: _, _, a, _ => a.elim
  | _ :: _, _, [], _, a, _ => a.elim
/-- any two, the later first, lie so far apart -/
def UpA (w : Str) (d : Int) (rs : List (List Int)) : Prop := rs.Pairwise fun a b => d ≤ farW w b a
theorem upA_of {w : Str} {d : Int} {rs : List (List Int)} (h : ∀ i o, rs[i]? = some o → farAll w d o (rs.take i) = true) : UpA w d rs := by
  unfold UpA
  rw [List.pairwise_iff_getElem]
  intro i j hi hj hij
  have z := h j rs[j] (List.getElem?_eq_getElem hj)
  unfold farAll at z
  rw [List.all_eq_true] at z
  refine of_decide_eq_true (z rs[i] ?_)
  have : (rs.take j)[i]? = some rs[i] := by rw [List.getElem?_take, if_pos hij]; exact List.getElem?_eq_getElem hi
  exact List.mem_of_getElem? this
theorem upA_fold {w : Str} {d : Int} : ∀ (os acc : List (List Int)), UpA w d acc → UpA w d (os.foldl (stepF w d) acc)
  | [], _, h => h
  | o :: os, acc, h => by
    refine upA_fold os _ ?_
    unfold stepF
    split
    · rename_i c
      unfold UpA
      rw [List.pairwise_append]
      refine ⟨h, List.pairwise_cons.mpr ⟨fun x m => absurd m List.not_mem_nil, List.Pairwise.nil⟩, fun x hx y hy => ?_⟩
      rw [List.mem_singleton.mp hy]
      unfold farAll at c
      rw [List.all_eq_true] at c
      exact of_decide_eq_true (c x hx)
    · exact h
theorem upA_first (w : Str) (d : Int) (os : List (List Int)) : UpA w d (firstL w d os) := upA_fold os [] List.Pairwise.nil
theorem firstL_one {w : Str} {d : Int} {o : List Int} {os : List (List Int)} : 1 ≤ (firstL w d (o :: os)).length := by
  have key : ∀ (os acc : List (List Int)), acc.length ≤ (os.foldl (stepF w d) acc).length := by
    intro os
    induction os with
    | nil => exact fun _ => Nat.le_refl _
    | cons b os ih =>
      intro acc
      refine Nat.le_trans ?_ (ih _)
      unfold stepF
      split
      · rw [List.length_append]; omega
      · exact Nat.le_refl _
  exact key os (stepF w d [] o)
/-- so far apart, that none lies near two -/
theorem near_two {w : Str} {n : Nat} {d e : Int} {o x y : List Int} (hw : IsWay w) (hn : 1 ≤ n) (oo : IsOrd n o) (ox : IsOrd n x) (oy : IsOrd n y) (hd : d ≤ farW w y x) (hx : farW w o x ≤ e) (hy : farW w o y ≤ e) (he : 2 * e < d) : False := by
  have t := farW_third (xs := y) (ys := x) (zs := o) hw oy ox oo hn
  have s := farW_turn (w := w) oo oy hn
  omega
theorem nodup_upA {w : Str} {n : Nat} {d : Int} {rs : List (List Int)} (hn : 1 ≤ n) (ho : ∀ r ∈ rs, IsOrd n r) (hd : 1 ≤ d) (hu : UpA w d rs) : rs.Nodup := by
  refine List.Pairwise.imp_of_mem (fun {a b} ma mb h e => ?_) hu
  have := farW_self (w := w) (ho b mb) hn
  rw [e] at h
  omega
end Fo
namespace Fo
open PySem PySem.Spec PyProof.Rows L2
/-! the longest list that lies apart -/
def ApL (w : Str) (d : Int) (rs : List (List Int)) : Prop := rs.Pairwise fun a b => d ≤ farW w a b
def farO (w : Str) (d : Int) (o : List Int) (rs : List (List Int)) : List (List Int) := rs.filter fun x => decide (d ≤ farW w o x)
theorem apL_cons {w : Str} {d : Int} {o : List Int} {s rs : List (List Int)} (hs : s.Sublist (farO w d o rs)) (h : ApL w d s) : ApL w d (o :: s) :=
  List.pairwise_cons.mpr ⟨fun x m => of_decide_eq_true (List.mem_filter.mp (hs.subset m)).2, h⟩
theorem apL_sub {w : Str} {d : Int} {o : List Int} {s rs : List (List Int)} (hs : s.Sublist rs) (h : ApL w d (o :: s)) : s.Sublist (farO w d o rs) := by
  have h1 := (List.pairwise_cons.mp h).1
  have e : s.filter (fun x => decide (d ≤ farW w o x)) = s := List.filter_eq_self.mpr fun x m => decide_eq_true (h1 x m)
  rw [← e]
  exact hs.filter _
/-- what a search comes to -/
structure LfR (w : Str) (d : Int) (taken rest best b : List (List Int)) : Prop where
  one : b = best ∨ ∃ s, s.Sublist rest ∧ ApL w d s ∧ b = taken ++ s
  le : best.length ≤ b.length
  most : ∀ s, s.Sublist rest → ApL w d s → taken.length + s.length ≤ b.length
/-- what it has come to ahead of place i -/
structure LfI (w : Str) (d : Int) (taken rest best : List (List Int)) (i : Nat) (b : List (List Int)) : Prop where
  one : b = best ∨ ∃ s, s.Sublist rest ∧ ApL w d s ∧ b = taken ++ s
  le : best.length ≤ b.length
  tl : taken.length ≤ b.length
  most : ∀ s, s.Sublist rest → ApL w d s → taken.length + s.length ≤ b.length ∨ s.Sublist (rest.drop i)
section
variable {w : Str} {d : Int} {taken rest best b : List (List Int)}
theorem lf_start : LfI w d taken rest best 0 (if taken.length > best.length then taken else best) := by
  split
  · rename_i h
    exact ⟨.inr ⟨[], List.nil_sublist _, List.Pairwise.nil, (List.append_nil _).symm⟩, by omega, Nat.le_refl _, fun s hs _ => .inr (by rw [List.drop_zero]; exact hs)⟩
  · exact ⟨.inl rfl, Nat.le_refl _, by omega, fun s hs _ => .inr (by rw [List.drop_zero]; exact hs)⟩
theorem lf_stop {i : Nat} (h : LfI w d taken rest best i b) (hl : taken.length + rest.length ≤ b.length + i) : LfR w d taken rest best b := by
  refine ⟨h.one, h.le, fun s hs ha => ?_⟩
  rcases h.most s hs ha with h1 | h1
  · exact h1
  · have h2 := h1.length_le
    rw [List.length_drop] at h2
    have := h.tl
    omega
theorem lf_end (h : LfI w d taken rest best rest.length b) : LfR w d taken rest best b := lf_stop h (by have := h.tl; omega)
theorem lf_step {i : Nat} {o : List Int} {b' : List (List Int)} (h : LfI w d taken rest best i b) (ho : rest[i]? = some o) (r : LfR w d (taken ++ [o]) (farO w d o (rest.drop (i + 1))) b b') : LfI w d taken rest best (i + 1) b' := by
  have hi := (List.getElem?_eq_some_iff.mp ho).1
  have hd : rest.drop i = o :: rest.drop (i + 1) := by
    rw [List.drop_eq_getElem_cons hi]
    congr 1
    exact (List.getElem?_eq_some_iff.mp ho).2
  refine ⟨?_, Nat.le_trans h.le r.le, Nat.le_trans h.tl r.le, fun s hs ha => ?_⟩
  · rcases r.one with e | ⟨s, hs, ha, e⟩
    · rw [e]
      exact h.one
    · refine .inr ⟨o :: s, ?_, apL_cons hs ha, by rw [e, List.append_assoc]; rfl⟩
      have h1 : s.Sublist (rest.drop (i + 1)) := hs.trans List.filter_sublist
      have h2 : (o :: s).Sublist (rest.drop i) := by rw [hd]; exact h1.cons_cons o
      exact h2.trans (List.drop_sublist _ _)
  · rcases h.most s hs ha with h1 | h1
    · exact .inl (Nat.le_trans h1 r.le)
    · rw [hd] at h1
      cases h1 with
      | cons _ h1 => exact .inr h1
      | cons_cons _ h1 =>
        rename_i s'
        refine .inl ?_
        have h2 := r.most s' (apL_sub h1 ha) (List.pairwise_cons.mp ha).2
        rw [List.length_append] at h2
        simp only [List.length_cons, List.length_nil] at h2 ⊢
        omega
end
theorem apL_two {w : Str} {n : Nat} {d : Int} (hn : 1 ≤ n) : ∀ {rs : List (List Int)}, (∀ r ∈ rs, IsOrd n r) → ApL w d rs → ∀ x ∈ rs, ∀ y ∈ rs, x ≠ y → d ≤ farW w x y
  | [], _, _, x, hx, _, _, _ => absurd hx List.not_mem_nil
  | a :: rs, ho, h, x, hx, y, hy, ne => by
    obtain ⟨h1, h2⟩ := List.pairwise_cons.mp h
    have oa := ho a List.mem_cons_self
    rcases List.mem_cons.mp hx with e | hx
    · rcases List.mem_cons.mp hy with e2 | hy
      · exact absurd (e.trans e2.symm) ne
      · rw [e]; exact h1 y hy
    · rcases List.mem_cons.mp hy with e | hy
      · rw [e, farW_turn oa (ho x (List.mem_cons_of_mem _ hx)) hn]
        exact h1 x hx
      · exact apL_two hn (fun r m => ho r (List.mem_cons_of_mem _ m)) h2 x hx y hy ne
theorem apL_nodup {w : Str} {n : Nat} {d : Int} {rs : List (List Int)} (hn : 1 ≤ n) (hd : 1 ≤ d) (ho : ∀ r ∈ rs, IsOrd n r) (h : ApL w d rs) : rs.Nodup := by
  refine List.Pairwise.imp_of_mem (fun {a b} ma mb h e => ?_) h
  have := farW_self (w := w) (ho b mb) hn
  rw [e] at h
  omega
theorem apL_of {w : Str} {d : Int} {rs : List (List Int)} (nd : rs.Nodup) (h : ∀ x ∈ rs, ∀ y ∈ rs, x ≠ y → d ≤ farW w x y) : ApL w d rs := List.Pairwise.imp_of_mem (fun {a b} ma mb ne => h a ma b mb ne) nd
/-- all of it called otherwise, the first one as 0, 1, .. -/
theorem called_far {w : Str} {n : Nat} {z x y : List Int} (hw : IsWay w) (hn : 1 ≤ n) (oz : IsOrd n z) (ox : IsOrd n x) (oy : IsOrd n y) : farW w (behindL z x) (behindL z y) = farW w x y := by
  have hb : IsOrd n ((rg n).map fun t => g0 z t) := by
    have e : (rg n).map (fun t => g0 z t) = z := by
      have h := by_places z
      rw [oz.len] at h
      exact h.symm
    rw [e]
    exact oz
  exact farW_called (r := fun t => g0 z t) hw ox oy (behind_ord oz ox) (behind_ord oz oy) hn hb (behind_pos oz ox) (behind_pos oz oy)
theorem longest_most {w : Str} {n : Nat} {d : Int} {tl b : List (List Int)} (hw : IsWay w) (hn : 1 ≤ n) (hd : 1 ≤ d) (hk : allK n n = rg n :: tl) (r : LfR w d [rg n] (farO w d (rg n) tl) [] b) :
    (∀ x ∈ b, IsOrd n x) ∧ ApL w d b ∧ 1 ≤ b.length ∧ ∀ ss, (∀ x ∈ ss, IsOrd n x) → ApL w d ss → ss.length ≤ b.length := by
  have h1 : 1 ≤ b.length := by
    have := r.most [] (List.nil_sublist _) List.Pairwise.nil
    simpa using this
  have or : ∀ x ∈ rg n :: tl, IsOrd n x := fun x m => all_ord (by rw [hk]; exact m)
  have hb : ∃ s, s.Sublist (farO w d (rg n) tl) ∧ ApL w d s ∧ b = [rg n] ++ s := by
    rcases r.one with e | e
    · rw [e] at h1
      exact absurd h1 (by decide)
    · exact e
  obtain ⟨s, hs, ha, rfl⟩ := hb
  refine ⟨fun x m => ?_, apL_cons hs ha, h1, fun ss os as => ?_⟩
  · rcases List.mem_cons.mp m with rfl | m
    · exact or _ List.mem_cons_self
    · exact or x (List.mem_cons_of_mem _ (List.mem_filter.mp (hs.subset m)).1)
  cases ss with
  | nil => exact Nat.zero_le _
  | cons a t =>
    have oa := os a List.mem_cons_self
    have ot : ∀ x ∈ t, IsOrd n x := fun x m => os x (List.mem_cons_of_mem _ m)
    have bk := back_is oa
    have oz := back_ord oa bk
    obtain ⟨z, hz⟩ : ∃ z, z = (rg n).map (pos a) := ⟨_, rfl⟩
    rw [← hz] at bk oz
    have ez : behindL z a = rg n := behind_back oz (back_back oa bk)
    have nd := apL_nodup hn hd os as
    obtain ⟨nda, ndt⟩ := List.nodup_cons.mp nd
    have og : ∀ x ∈ t, IsOrd n (behindL z x) := fun x m => behind_ord oz (ot x m)
    have far1 : ∀ x ∈ t, d ≤ farW w (rg n) (behindL z x) := fun x m => by
      rw [← ez, called_far hw hn oz oa (ot x m)]
      exact (List.pairwise_cons.mp as).1 x m
    have hall := allK_nodup (n := n) n
    rw [hk] at hall
    have ndF : (farO w d (rg n) tl).Nodup := (List.nodup_cons.mp hall).2.filter _
    have hm : ∀ x ∈ t, behindL z x ∈ farO w d (rg n) tl := fun x m => by
      refine List.mem_filter.mpr ⟨?_, decide_eq_true (far1 x m)⟩
      have h := ord_mem (og x m)
      rw [hk] at h
      rcases List.mem_cons.mp h with e | h
      · have h2 := far1 x m
        rw [e, farW_self (show IsOrd n (rg n) from List.Perm.refl _) hn] at h2
        omega
      · exact h
    have ndg : (t.map (behindL z)).Nodup := by
      show List.Pairwise _ _
      rw [List.pairwise_map]
      exact ndt.imp_of_mem fun ma mb h e => h (behind_inj oz (ot _ ma) (ot _ mb) e)
    let s' := (farO w d (rg n) tl).filter fun x => decide (x ∈ t.map (behindL z))
    have nds : s'.Nodup := ndF.filter _
    have ms : ∀ x, x ∈ s' ↔ x ∈ t.map (behindL z) := fun x => by
      constructor
      · exact fun h => of_decide_eq_true (List.mem_filter.mp h).2
      · intro h
        obtain ⟨y, my, rfl⟩ := List.mem_map.mp h
        exact List.mem_filter.mpr ⟨hm y my, decide_eq_true h⟩
    have pl : s'.length = t.length := by
      have := (nodup_perm nds ndg ms).length_eq
      rw [List.length_map] at this
      exact this
    have as' : ApL w d s' := apL_of nds fun x hx y hy ne => by
      obtain ⟨u, mu, rfl⟩ := List.mem_map.mp ((ms x).mp hx)
      obtain ⟨v, mv, rfl⟩ := List.mem_map.mp ((ms y).mp hy)
      rw [called_far hw hn oz (ot u mu) (ot v mv)]
      exact apL_two hn ot (List.pairwise_cons.mp as).2 u mu v mv fun e => ne (by rw [e])
    have := r.most s' List.filter_sublist as'
    rw [pl] at this
    simp only [List.length_cons, List.length_nil] at this ⊢
    omega
end Fo
namespace Fo
open PySem PySem.Spec PyProof.Rows L2
def spFarOnes : Sp := fun vs H Q _ => ∃ (w : Str) (d : Int) (a l : Addr) (n : Nat) (xs : List Int) (bs : List Addr) (rs : List (List Int)), vs = [.str w, .int d, .ref a, .ref l] ∧ IsWay w ∧ H a = some (.lst (xs.map V.int)) ∧ IsOrd n xs ∧ 1 ≤ n ∧ n ≤ 12 ∧ H l = some (.lst (bs.map V.ref)) ∧ LL H bs rs ∧ (∀ r ∈ rs, IsOrd n r) ∧ rs.length ≤ 1000 ∧
  ∀ (l' : Addr) (as' : List Addr) (H' : Hp), H l' = none → H' l' = some (.lst (as'.map V.ref)) → as'.Sublist bs → LL H' as' (farO w d xs rs) → Same H H' → Q (.ref l') H'
/-- a search of which fewer than N are left -/
def spLF (N : Nat) : Sp := fun vs H Q _ => ∃ (w : Str) (d : Int) (t r b : Addr) (n : Nat) (ta ra ba : List Addr) (ts rs bs : List (List Int)), vs = [.str w, .int d, .ref t, .ref r, .ref b] ∧ IsWay w ∧ 1 ≤ n ∧ n ≤ 12 ∧ H t = some (.lst (ta.map V.ref)) ∧ LL H ta ts ∧ H r = some (.lst (ra.map V.ref)) ∧ LL H ra rs ∧ H b = some (.lst (ba.map V.ref)) ∧ LL H ba bs ∧ (∀ x ∈ rs, IsOrd n x) ∧ rs.length < N ∧ ts.length + rs.length ≤ 1000 ∧
  ∀ (l : Addr) (as : List Addr) (ss : List (List Int)) (H' : Hp), (l = t ∨ l = b ∨ H l = none) → (∀ x ∈ as, x ∈ ta ∨ x ∈ ra ∨ x ∈ ba) → H' l = some (.lst (as.map V.ref)) → LL H' as ss → LfR w d ts rs bs ss → Same H H' → Q (.ref l) H'
def spLongest : Sp := fun vs H Q _ => ∃ (w : Str) (n : Nat) (d : Int), vs = [.str w, .int n, .int d] ∧ IsWay w ∧ 1 ≤ n ∧ n ≤ 4 ∧ 1 ≤ d ∧
  ∀ (l : Addr) (as : List Addr) (ss : List (List Int)) (H' : Hp), H l = none → (∀ x ∈ as, H x = none) → H' l = some (.lst (as.map V.ref)) → LL H' as ss → (∀ x ∈ ss, IsOrd n x) → ApL w d ss → 1 ≤ ss.length → (∀ us, (∀ x ∈ us, IsOrd n x) → ApL w d us → us.length ≤ ss.length) → Same H H' → Q (.ref l) H'
theorem allK_head : ∀ n, n ≤ 4 → 1 ≤ n → ∃ tl, allK n n = rg n :: tl ∧ tl.length < 24 := by
  have h : ∀ n, n ≤ 4 → 1 ≤ n → (allK n n).head? = some (rg n) ∧ (allK n n).length ≤ 24 := by decide +kernel
  intro n h4 h1
  obtain ⟨a, b⟩ := h n h4 h1
  match hk : allK n n, a, b with
  | x :: tl, a, b => exact ⟨tl, by rw [Option.some.inj a], by rw [List.length_cons] at b; omega⟩
theorem far_more {w : Str} {d : Int} {o x : List Int} {rs : List (List Int)} {i : Nat} (h : rs[i]? = some x) : farO w d o (rs.take (i + 1)) = farO w d o (rs.take i) ++ (if d ≤ farW w o x then [x] else []) := by
  unfold farO
  rw [List.take_add_one, h, List.filter_append]
  congr 1
  show List.filter _ [x] = _
  rw [List.filter_cons]
  by_cases c : d ≤ farW w o x
  · rw [if_pos (decide_eq_true c), if_pos c]; rfl
  · rw [if_neg (fun z => c (of_decide_eq_true z)), if_neg c]; rfl
section
variable {P : Program} {w : World} {K : PySem.W.Frag} {mg : Str → Option Value} {base : Heap}
theorem scFO : FnScope ["way", "d", "order", "others", "other"] ["way", "d", "order", "others"] (defScope s_far_ones) := ⟨rfl, rfl, rfl, by decide +kernel, rfl, by decide +kernel, by decide +kernel⟩
set_option maxHeartbeats 2000000 in
theorem ok_farOnes {f f1 : Addr} {fd d1 : FuncData} {k : Nat} (T : Df K mg "far_ones" s_far_ones ["way", "d", "order", "others"] f fd) (T_known_far : Df K mg "known_far" s_known_far ["way", "one", "other"] f1 d1) (G_known_far : FnOk P w K mg base CX0 k f1 d1 ["way", "one", "other"] spFar) (B : Bi mg) : FnOk P w K mg base CX0 (k + 1) f fd ["way", "d", "order", "others"] spFarOnes := by
  refine T.F.ok scFO (fun vs H Q E h => ?_) (fun cdv A outer s H vs Q E hr h => ?_)
  · obtain ⟨z, d, a, l, n, xs, bs, rs, rfl, _⟩ := h
    rfl
  · obtain ⟨z, d, a, l, n, xs, bs, rs, rfl, hz, ha, ox, hn1, hn2, hl, hL, ho, hlen, q⟩ := h
    have hbl := hL.len
    refine ⟨_, 
      (pss_one (ps_ret (pe_lc (own := [("other", 4)]) (g := (gName 4)) (tt := (tTest (tOp (rI0 fun i j => .bl (decide (j ≤ i))) (tCall spFar [] E0 (tCons (tVar 0) (tCons (tVar 2) (tCons (tVar 4) tNil)))) (tVar 1)))) (te := (tVar 4)) rfl scFO.nd (pi_list (pv 3)) (blkOk_by (N := ["way", "d", "order", "others", "other"]) (sc := defScope s_far_ones) (by decide +kernel)) (fun _ _ _ _ _ => (pg_name (i := 4) scFO.nd rfl (.inl rfl))) (fun _ _ _ _ _ => (pts_one (pt_cmpR op_ge (pe_call G_known_far hr (by rfl) T_known_far.g T_known_far.F.kp T_known_far.b .nil pass0 (pa_cons (pv 0) (pa_cons (pv 2) (pa_cons (pv 4) pa_nil)))) (pv 1) (nomark _)))) (fun _ _ _ _ _ => (pv 4))))), ?_⟩
    refine ⟨_, rfl, l, rfl, ⟨_, SqL.of hl⟩, fun p np => ?_⟩
    refine lc_list (K := K) (a := l) (xs := bs.map V.ref) (fun i G => ∃ cs : List Addr, G p = some (.lst (cs.map V.ref)) ∧ cs.Sublist (bs.take i) ∧ LL G cs (farO z d xs (rs.take i)) ∧ Same H G) ⟨[], upd_same, List.nil_sublist _, trivial, same_new np⟩ (fun i G _ hP => by obtain ⟨_, _, _, _, sm⟩ := hP; exact SqL.of (sm _ _ hl)) (fun i x G hx hP => ?_) (fun G hP => ?_)
    · obtain ⟨c0, ec, rfl⟩ := ref_at_inv hx
      obtain ⟨cs, hp, hsub, hLc, sm⟩ := hP
      obtain ⟨row, er, hc⟩ := (hL.same sm).get ec
      have hbl2 : cs.length ≤ 1000 := by
        have := hsub.length_le
        rw [List.length_take] at this
        omega
      refine ⟨rfl, _, rfl, _, rfl, _, rfl, z, a, c0, n, xs, row, rfl, hz, sm _ _ ha, hc, ox, ho row (List.mem_of_getElem? er), hn1, hn2, fun G4 s4 => ?_⟩
      have et : bs.take (i + 1) = bs.take i ++ [c0] := by rw [List.take_add_one, ec]; rfl
      refine ⟨_, rfl, _, _, rfl, rfl, _, rfl, ite2 (fun z2 => ?_) (fun z2 => ?_)⟩
      · replace z2 := of_decide_eq_true z2
        refine ⟨_, rfl, _, s4 _ _ hp, line_lt (by rw [List.length_map]; omega), cs ++ [c0], by rw [upd_same, List.map_append]; rfl, ?_, ?_, fun b o e => ?_⟩
        · rw [et]
          exact hsub.append (List.Sublist.refl _)
        · rw [far_more er, if_pos z2]
          refine LL.snoc ((hLc.same s4).keep fun u hu o e => ?_) ?_
          · obtain ⟨ob, eo⟩ := (hL.same (sm.trans s4)).tracked (List.mem_of_mem_take (hsub.subset hu))
            have nup : u ≠ p := fun y => by
              obtain ⟨ob2, eo2⟩ := hL.tracked (List.mem_of_mem_take (hsub.subset hu))
              rw [y, np] at eo2
              cases eo2
            rw [upd_ne nup]
            exact e
          · have ncp : c0 ≠ p := fun y => by
              obtain ⟨ob2, eo2⟩ := hL.tracked (List.mem_of_getElem? ec)
              rw [y, np] at eo2
              cases eo2
            rw [upd_ne ncp]
            exact s4 _ _ hc
        · rw [upd_ne (ne_of_none e np)]
          exact s4 _ _ (sm _ _ e)
      · refine ⟨cs, s4 _ _ hp, ?_, ?_, sm.trans s4⟩
        · rw [et]
          exact hsub.trans (List.sublist_append_left _ _)
        · rw [far_more er, if_neg (fun y => z2 (decide_eq_true y)), List.append_nil]
          exact hLc.same s4
    · obtain ⟨cs, hp, hsub, hLc, sm⟩ := hP
      rw [List.take_of_length_le (by rw [List.length_map]; omega)] at hLc
      exact q p cs G np hp (hsub.trans (List.take_sublist _ _)) hLc sm
theorem scLF : FnScope ["way", "d", "taken", "rest", "best", "place", "order", "far"] ["way", "d", "taken", "rest", "best"] (defScope s_longest_from) := ⟨rfl, rfl, rfl, by decide +kernel, rfl, by decide +kernel, by decide +kernel⟩
set_option maxHeartbeats 4000000 in
theorem ok_lf1 {f f1 : Addr} {fd d1 : FuncData} {k N : Nat} (T_longest_from : Df K mg "longest_from" s_longest_from ["way", "d", "taken", "rest", "best"] f fd) (T_far_ones : Df K mg "far_ones" s_far_ones ["way", "d", "order", "others"] f1 d1) (G_far_ones : FnOk P w K mg base CX0 k f1 d1 ["way", "d", "order", "others"] spFarOnes) (G_longest_from : FnOk P w K mg base CX0 k f fd ["way", "d", "taken", "rest", "best"] (spLF N)) (B : Bi mg) : FnOk P w K mg base CX0 (k + 1) f fd ["way", "d", "taken", "rest", "best"] (spLF (N + 1)) := by
  refine T_longest_from.F.ok scLF (fun vs H Q E h => ?_) (fun cdv A outer s H vs Q E hr h => ?_)
  · obtain ⟨z, d, t, r, b, n, ta, ra, ba, ts, rs, bs, rfl, _⟩ := h
    rfl
  · obtain ⟨z, d, t, r, b, n, ta, ra, ba, ts, rs, bs, rfl, hz, hn1, hn2, ht, hTL, hr0, hRL, hb, hBL, ho, hN, hlen, q⟩ := h
    have lt := hTL.len
    have lr := hRL.len
    have lb := hBL.len
    refine ⟨_, 
      (Evl.pss_cut (ps_if (pt_cmpR op_gt (pe_callB call_len_seq (by rfl) B.len PySem.boot_len (pa_cons (pv 2) pa_nil)) (pe_callB call_len_seq (by rfl) B.len PySem.boot_len (pa_cons (pv 4) pa_nil)) (nomark _))
        (pss_one (ps_set (i := 4) scLF.nd rfl (.inl rfl) (pv 2)))
        pss_nil)
      (pss_cons (ps_for PassesOwn.never rfl (pi_enum (by rfl) B.enumerate (pa_cons (pv 3) pa_nil)) (pg_tup (by rfl) (pgs_cons (pg_name (i := 5) scLF.nd rfl (.inl rfl)) (pgs_cons (pg_name (i := 6) scLF.nd rfl (.inl rfl)) pgs_nil)))
        (pss_cons (ps_if (pt_cmpR op_le (pe_op op_sub (pe_op op_add (pe_callB call_len_seq (by rfl) B.len PySem.boot_len (pa_cons (pv 2) pa_nil)) (pe_callB call_len_seq (by rfl) B.len PySem.boot_len (pa_cons (pv 3) pa_nil))) (pv 5)) (pe_callB call_len_seq (by rfl) B.len PySem.boot_len (pa_cons (pv 4) pa_nil)) (nomark _))
          (pss_one (ps_ret (pv 4)))
          pss_nil)
        (pss_cons (ps_set (i := 7) scLF.nd rfl (.inl rfl) (pe_call G_far_ones hr (by rfl) T_far_ones.g T_far_ones.F.kp T_far_ones.b .nil pass0 (pa_cons (pv 0) (pa_cons (pv 1) (pa_cons (pv 6) (pa_cons (pe_slice sl_list (pv 3) (po_some (pe_op op_add (pv 5) pe_int)) po_none) pa_nil))))))
        (pss_one (ps_set (i := 4) scLF.nd rfl (.inl rfl) (pe_call G_longest_from hr (by rfl) T_longest_from.g T_longest_from.F.kp T_longest_from.b .nil pass0 (pa_cons (pv 0) (pa_cons (pv 1) (pa_cons (pe_op op_cat (pv 2) (pe_lst (pa_cons (pv 6) pa_nil))) (pa_cons (pv 7) (pa_cons (pv 4) pa_nil)))))))))))
      (pss_one (ps_ret (pv 4))))), ?_⟩
    -- best
    refine ⟨fun τ G => ∃ (b0 : Addr) (b0a : List Addr) (b0s : List (List Int)), τ = [some (.str z), some (.int d), some (.ref t), some (.ref r), some (.ref b0), none, none, none] ∧ (b0 = t ∨ b0 = b) ∧ (∀ x ∈ b0a, x ∈ ta ∨ x ∈ ba) ∧ H b0 = some (.lst (b0a.map V.ref)) ∧ LL H b0a b0s ∧ LfI z d ts rs bs 0 b0s ∧ G = H, ?_, fun τ G hM => ?_⟩
    · refine ⟨_, rfl, t, _, rfl, .inl (SqL.of ht), _, rfl, b, _, rfl, .inl (SqL.of hb), _, _, rfl, rfl, _, rfl, ite2 (fun c => ?_) (fun c => ?_)⟩
      · replace c := of_decide_eq_true c
        rw [List.length_map, List.length_map] at c
        have hs := lf_start (w := z) (d := d) (taken := ts) (rest := rs) (best := bs)
        rw [if_pos (by omega)] at hs
        exact ⟨_, rfl, t, ta, ts, rfl, .inl rfl, fun x m => .inl m, ht, hTL, hs, rfl⟩
      · have c' : ¬ ts.length > bs.length := fun y => c (decide_eq_true (by rw [List.length_map, List.length_map]; omega))
        have hs := lf_start (w := z) (d := d) (taken := ts) (rest := rs) (best := bs)
        rw [if_neg c'] at hs
        exact ⟨b, ba, bs, rfl, .inr rfl, fun x m => .inr m, hb, hBL, hs, rfl⟩
    obtain ⟨b0, b0a, b0s, rfl, hb0, hb0a, hbb, hBB, hI, rfl⟩ := hM
    refine ⟨_, rfl, r, _, rfl, SqL.of hr0, ?_⟩
    refine for_enumL (K := K) (a := r) (xs := ra.map V.ref) (fun i σ H1 => ∃ (y5 y6 y7 : Option V) (c : Addr) (ca : List Addr) (cs : List (List Int)), σ = [some (.str z), some (.int d), some (.ref t), some (.ref r), some (.ref c), y5, y6, y7] ∧ (c = t ∨ c = b ∨ G c = none) ∧ (∀ x ∈ ca, x ∈ ta ∨ x ∈ ra ∨ x ∈ ba) ∧ H1 c = some (.lst (ca.map V.ref)) ∧ LL H1 ca cs ∧ LfI z d ts rs bs i cs ∧ Same G H1) ⟨_, _, _, b0, b0a, b0s, rfl, hb0.imp id .inl, fun x m => (hb0a x m).imp id .inr, hbb, hBB, hI, Same.refl G⟩ (fun i σ H1 hP => by obtain ⟨_, _, _, _, _, _, _, _, _, _, _, _, sm⟩ := hP; exact SqL.of (sm _ _ hr0)) (fun i x T2 σ H1 hx hP nT => ?_) (fun σ H1 hP => ?_)
    · obtain ⟨y5, y6, y7, c, ca, cs, rfl, hc0, hca, hc, hCL, hI, sm⟩ := hP
      obtain ⟨c0, ec, rfl⟩ := ref_at_inv hx
      have s1 := same_new (o := .tup [.int (i : Nat), .ref c0]) nT
      have sm1 := sm.trans s1
      obtain ⟨row, er, hrow⟩ := (hRL.same sm1).get ec
      have hi := (List.getElem?_eq_some_iff.mp er).1
      have lc := hCL.len
      refine ⟨T2, _, rfl, .inl (.inl upd_same), rfl, _, _, rfl, _, _, rfl, rfl, ?_⟩
      have hc1 := s1 _ _ hc
      refine ⟨_, rfl, t, _, rfl, .inl (SqL.of (sm1 _ _ ht)), _, rfl, r, _, rfl, .inl (SqL.of (sm1 _ _ hr0)), _, _, rfl, rfl, _, rfl, _, _, rfl, rfl, _, rfl, c, _, rfl, .inl (SqL.of hc1), _, _, rfl, rfl, _, rfl, ite2 (fun z2 => ?_) (fun _ => ?_)⟩
      · replace z2 := of_decide_eq_true z2
        simp only [List.length_map] at z2
        refine ⟨_, rfl, ?_⟩
        exact q c ca cs _ hc0 hca hc1 (hCL.same s1) (lf_stop hI (by omega)) sm1
      -- those behind it that are far
      refine ⟨_, rfl, _, rfl, _, rfl, _, rfl, _, rfl, (i : Int), 1, rfl, rfl, _, rfl, r, _, rfl, SqL.of (sm1 _ _ hr0), fun u nu => ?_⟩
      rw [show (i : Int) + 1 = ((i + 1 : Nat) : Int) by omega, cutV_tail, ← List.map_drop]
      have s2 := same_new (o := .lst ((ra.drop (i + 1)).map V.ref)) nu
      have sm2 := sm1.trans s2
      have hRd : LL _ (ra.drop (i + 1)) (rs.drop (i + 1)) := LL.dropN (i + 1) (hRL.same sm2)
      refine ⟨z, d, c0, u, n, row, _, _, rfl, hz, s2 _ _ hrow, ho row (List.mem_of_getElem? er), hn1, hn2, upd_same, hRd, fun x m => ho x (List.mem_of_mem_drop m), by rw [List.length_drop]; omega, fun fl fa H3 nfl hfl hfa hFL s3 => ?_⟩
      have sm3 := sm2.trans s3
      -- further
      refine ⟨_, rfl, _, rfl, _, rfl, _, rfl, line_small (by show 1 ≤ 16777216; decide), fun v nv => ?_⟩
      have s4 := same_new (o := .lst [.ref c0]) nv
      refine ⟨t, v, _, _, rfl, rfl, (sm3.trans s4) _ _ ht, upd_same, line_small (by rw [List.length_map]; show _ + 1 ≤ 16777216; omega), fun v2 nv2 => ?_⟩
      have s5 := same_new (o := .lst (ta.map V.ref ++ [.ref c0])) nv2
      have s45 := s4.trans s5
      have sm5 := sm3.trans s45
      have hv2 : (upd (upd H3 v (.lst [.ref c0])) v2 (.lst (ta.map V.ref ++ [.ref c0]))) v2 = some (.lst ((ta ++ [c0]).map V.ref)) := by rw [upd_same, List.map_append]; rfl
      have hrow5 := ((s2.trans s3).trans s45) _ _ hrow
      have hc5 := ((s2.trans s3).trans s45) _ _ hc1
      have hC5 := (hCL.same s1).same ((s2.trans s3).trans s45)
      refine ⟨_, rfl, _, rfl, ?_⟩
      have lf2 : (farO z d row (rs.drop (i + 1))).length ≤ rs.length - (i + 1) := by
        have := List.length_filter_le (fun x => decide (d ≤ farW z row x)) (rs.drop (i + 1))
        rw [List.length_drop] at this
        exact this
      have lts := hTL.len
      refine ⟨z, d, v2, fl, c, n, ta ++ [c0], fa, ca, ts ++ [row], farO z d row (rs.drop (i + 1)), cs, rfl, hz, hn1, hn2, hv2, LL.snoc (hTL.same sm5) hrow5, s45 _ _ hfl, hFL.same s45, hc5, hC5, fun x m => ho x (List.mem_of_mem_drop (List.mem_filter.mp m).1), by omega, by rw [List.length_append]; show ts.length + 1 + _ ≤ 1000; omega, fun l as ss H6 hl has hl6 hL6 hR s6 => ?_⟩
      refine ⟨_, _, _, l, as, ss, rfl, ?_, fun x m => ?_, hl6, hL6, lf_step hI er hR, sm5.trans s6⟩
      · rcases hl with rfl | rfl | h
        · exact .inr (.inr ((sm3.trans s4).free nv2))
        · exact hc0
        · exact .inr (.inr (sm5.free h))
      · rcases has x m with h | h | h
        · rcases List.mem_append.mp h with h | h
          · exact .inl h
          · rw [List.mem_singleton.mp h]
            exact .inr (.inl (List.mem_of_getElem? ec))
        · exact .inr (.inl (List.mem_of_mem_drop (hfa.subset h)))
        · exact hca x h
    · obtain ⟨y5, y6, y7, c, ca, cs, rfl, hc0, hca, hc, hCL, hI, sm⟩ := hP
      rw [List.length_map, lr] at hI
      exact ⟨_, rfl, q c ca cs _ hc0 hca hc hCL (lf_end hI) sm⟩
theorem fn_lf0 {f : Addr} {fd : FuncData} {k : Nat} : FnOk P w K mg base CX0 k f fd ["way", "d", "taken", "rest", "best"] (spLF 0) :=
  ⟨fun _ _ _ _ h => by obtain ⟨_, _, _, _, _, _, _, _, _, _, _, _, _, _, _, _, _, _, _, _, _, _, _, h, _⟩ := h; exact absurd h (Nat.not_lt_zero _), fun _ _ _ _ _ _ _ _ _ _ _ _ _ h => by obtain ⟨_, _, _, _, _, _, _, _, _, _, _, _, _, _, _, _, _, _, _, _, _, _, _, h, _⟩ := h; exact absurd h (Nat.not_lt_zero _)⟩
theorem ok_lf {f f1 : Addr} {fd d1 : FuncData} {k : Nat} (T_longest_from : Df K mg "longest_from" s_longest_from ["way", "d", "taken", "rest", "best"] f fd) (T_far_ones : Df K mg "far_ones" s_far_ones ["way", "d", "order", "others"] f1 d1) (GF : ∀ j, FnOk P w K mg base CX0 (j + k) f1 d1 ["way", "d", "order", "others"] spFarOnes) (B : Bi mg) : ∀ N, FnOk P w K mg base CX0 (N + k) f fd ["way", "d", "taken", "rest", "best"] (spLF N)
  | 0 => fn_lf0
  | N + 1 => by
    have h := ok_lf1 T_longest_from T_far_ones (GF N) (ok_lf T_longest_from T_far_ones GF B N) B
    rw [show N + 1 + k = N + k + 1 by omega]
    exact h
theorem scLg : FnScope ["way", "n", "d", "first", "others"] ["way", "n", "d"] (defScope s_longest_apart) := ⟨rfl, rfl, rfl, by decide +kernel, rfl, by decide +kernel, by decide +kernel⟩
set_option maxHeartbeats 2000000 in
theorem ok_longest {f f1 f2 f3 f4 : Addr} {fd d1 d2 d3 d4 : FuncData} {k : Nat} {tk : Tok} (T : Df K mg "longest_apart" s_longest_apart ["way", "n", "d"] f fd) (T_check_apart : Df K mg "check_apart" s_check_apart ["way", "n", "most", "d"] f1 d1) (T_all_orders : Df K mg "all_orders" s_all_orders ["n"] f2 d2) (T_longest_from : Df K mg "longest_from" s_longest_from ["way", "d", "taken", "rest", "best"] f3 d3) (T_far_ones : Df K mg "far_ones" s_far_ones ["way", "d", "order", "others"] f4 d4) (G_check_apart : FnOk P w K mg base CX0 k f1 d1 ["way", "n", "most", "d"] spApart) (G_all_orders : FnOk P w K mg base CX0 k f2 d2 ["n"] spAllO) (G_longest_from : FnOk P w K mg base CX0 k f3 d3 ["way", "d", "taken", "rest", "best"] (spLF 24)) (G_far_ones : FnOk P w K mg base CX0 k f4 d4 ["way", "d", "order", "others"] spFarOnes) (B : Bi mg) (mS : mg "MOST_SEARCHED" = some (.int 4 tk)) : FnOk P w K mg base CX0 (k + 1) f fd ["way", "n", "d"] spLongest := by
  refine T.F.ok scLg (fun vs H Q E h => ?_) (fun cdv A outer s H vs Q E hr h => ?_)
  · obtain ⟨z, n, d, rfl, _⟩ := h
    rfl
  · obtain ⟨z, n, d, rfl, hz, hn1, hn4, hd, q⟩ := h
    obtain ⟨tl, hk, htl⟩ := allK_head n hn4 hn1
    refine ⟨_, 
      (pss_cons (ps_expr (pe_call G_check_apart hr (by rfl) T_check_apart.g T_check_apart.F.kp T_check_apart.b .nil pass0 (pa_cons (pv 0) (pa_cons (pv 1) (pa_cons (pe_glob (v := .int 4) (by rfl) mS ⟨_, rfl⟩) (pa_cons (pv 2) pa_nil))))))
      (pss_cons (ps_asg (pe_call G_all_orders hr (by rfl) T_all_orders.g T_all_orders.F.kp T_all_orders.b .nil pass0 (pa_cons (pv 1) pa_nil)) (pg_star1 (by rfl) (pgs_cons (pg_name (i := 3) scLg.nd rfl (.inl rfl)) (pgs_star (pg_name (i := 4) scLg.nd rfl (.inl rfl)) pgs_nil))))
      (pss_one (ps_ret (pe_call G_longest_from hr (by rfl) T_longest_from.g T_longest_from.F.kp T_longest_from.b .nil pass0 (pa_cons (pv 0) (pa_cons (pv 2) (pa_cons (pe_lst (pa_cons (pv 3) pa_nil)) (pa_cons (pe_call G_far_ones hr (by rfl) T_far_ones.g T_far_ones.F.kp T_far_ones.b .nil pass0 (pa_cons (pv 0) (pa_cons (pv 2) (pa_cons (pv 3) (pa_cons (pv 4) pa_nil))))) (pa_cons (pe_lst pa_nil) pa_nil)))))))))), ?_⟩
    refine ⟨_, rfl, _, rfl, _, rfl, z, (n : Int), 4, d, rfl, hz, by omega, by omega, hd, ?_⟩
    refine ⟨_, rfl, n, rfl, hn1, by omega, fun al aas H2 nal hal hLL nas nda s2 => ?_⟩
    rw [hk] at hLL
    match aas, hLL with
    | [], h => exact h.elim
    | f0 :: oa, hLL =>
    obtain ⟨hf0, hOL⟩ := hLL
    have lo := hOL.len
    have or : ∀ x ∈ rg n :: tl, IsOrd n x := fun x m => all_ord (by rw [hk]; exact m)
    refine ⟨al, _, _, rfl, SqL.of hal, by rw [List.length_map]; omega, fun D nD => ?_⟩
    have s3 := same_new (o := .lst (oa.map V.ref)) nD
    refine ⟨_, _, rfl, _, _, rfl, rfl, ?_⟩
    refine ⟨_, rfl, _, rfl, _, rfl, line_small (by show 1 ≤ 16777216; decide), fun u nu => ?_⟩
    have s4 := same_new (o := .lst [.ref f0]) nu
    have s34 := s3.trans s4
    refine ⟨_, rfl, _, rfl, _, rfl, _, rfl, z, d, f0, D, n, rg n, oa, tl, rfl, hz, s34 _ _ hf0, or _ List.mem_cons_self, hn1, by omega, s4 _ _ upd_same, hOL.same s34, fun x m => or x (List.mem_cons_of_mem _ m), by omega, fun fl fa H5 nfl hfl hfa hFL s5 => ?_⟩
    refine ⟨by decide, fun e ne => ?_⟩
    have s6 := same_new (o := .lst []) ne
    have s36 := s34.trans (s5.trans s6)
    have lf2 : (farO z d (rg n) tl).length ≤ tl.length := List.length_filter_le _ _
    refine ⟨z, d, u, fl, e, n, [f0], fa, [], [rg n], farO z d (rg n) tl, [], rfl, hz, hn1, by omega, (s5.trans s6) _ _ upd_same, ⟨s36 _ _ hf0, trivial⟩, s6 _ _ hfl, hFL.same s6, upd_same, trivial, fun x m => or x (List.mem_cons_of_mem _ (List.mem_filter.mp m).1), by omega, by show 1 + _ ≤ 1000; omega, fun l as ss H7 hl has hl7 hL7 hR s7 => ?_⟩
    obtain ⟨g1, g2, g3, g4⟩ := longest_most hz hn1 hd hk hR
    have s27 := s2.trans (s36.trans s7)
    refine q l as ss H7 ?_ (fun x m => ?_) hl7 hL7 g1 g2 g3 g4 s27
    · rcases hl with rfl | rfl | h
      · exact (s2.trans s3).free nu
      · exact (s2.trans (s34.trans s5)).free ne
      · exact (s2.trans s36).free h
    · rcases has x m with h | h | h
      · rw [List.mem_singleton.mp h]
        exact (nas f0 List.mem_cons_self).1
      · exact (nas x (List.mem_cons_of_mem _ (hfa.subset h))).1
      · exact absurd h List.not_mem_nil
end
end Fo
namespace Fo
open PySem PySem.Spec PyProof.Rows L2
/-! lists that lie apart, and how many orders lie round them -/
theorem far_max {w : Str} {n : Nat} {x y : List Int} (hw : IsWay w) (h1 : 1 ≤ n) (h5 : n ≤ 5) (ox : IsOrd n x) (oy : IsOrd n y) : farW w x y ≤ (n : Int) * (n : Int) := by
  have a := swap_most (n := n) (xs := x) (ys := y) ox
  have b := spot_most (n := n) (xs := x) (ys := y) ox
  have c := shift_most (n := n) (xs := x) (ys := y) ox oy h1
  rcases hw with rfl | rfl | rfl
  · rw [farW_swap]
    rcases (show n = 1 ∨ n = 2 ∨ n = 3 ∨ n = 4 ∨ n = 5 by omega) with rfl | rfl | rfl | rfl | rfl <;> omega
  · rw [farW_spot]
    rcases (show n = 1 ∨ n = 2 ∨ n = 3 ∨ n = 4 ∨ n = 5 by omega) with rfl | rfl | rfl | rfl | rfl <;> omega
  · rw [farW_shift]
    rcases (show n = 1 ∨ n = 2 ∨ n = 3 ∨ n = 4 ∨ n = 5 by omega) with rfl | rfl | rfl | rfl | rfl <;> omega
theorem near_all {w : Str} {n : Nat} {x : List Int} (hw : IsWay w) (h1 : 1 ≤ n) (h5 : n ≤ 5) (ox : IsOrd n x) : nearL w n x ((n : Int) * (n : Int)) = allK n n := by
  unfold nearL
  exact List.filter_eq_self.mpr fun o m => decide_eq_true (far_max hw h1 h5 ox (all_ord m))
theorem near_min {w : Str} {n : Nat} {x : List Int} {r : Int} (hw : IsWay w) (h1 : 1 ≤ n) (h5 : n ≤ 5) (ox : IsOrd n x) : nearL w n x (min r ((n : Int) * (n : Int))) = nearL w n x r := by
  unfold nearL
  apply List.filter_congr
  intro o m
  have h := far_max hw h1 h5 ox (all_ord m)
  by_cases c : farW w x o ≤ r
  · rw [decide_eq_true c, decide_eq_true (by omega)]
  · rw [decide_eq_false c, decide_eq_false (by omega)]
theorem split_len {α : Type} (p : α → Bool) : ∀ l : List α, l.length = (l.filter p).length + (l.filter fun x => !p x).length
  | [] => rfl
  | a :: l => by
    have h := split_len p l
    rw [List.filter_cons, List.filter_cons]
    cases p a <;> simp <;> omega
theorem filter_filter_le {α : Type} (p q : α → Bool) (l : List α) : ((l.filter q).filter p).length ≤ (l.filter p).length := (List.filter_sublist.filter p).length_le
/-- that all are covered -/
theorem cover_len {α β : Type} (p : β → α → Bool) : ∀ (F : List β) (A : List α), (∀ o ∈ A, ∃ f ∈ F, p f o = true) → A.length ≤ (F.map fun f => (A.filter (p f)).length).sum
  | [], A, h => by
    cases A with
    | nil => exact Nat.le_refl _
    | cons a _ =>
      obtain ⟨_, m, _⟩ := h a List.mem_cons_self
      exact absurd m List.not_mem_nil
  | f :: F, A, h => by
    rw [List.map_cons, List.sum_cons, split_len (p f) A]
    have ih := cover_len p F (A.filter fun x => !p f x) fun o m => by
      obtain ⟨mo, ho⟩ := List.mem_filter.mp m
      obtain ⟨g, mg, hg⟩ := h o mo
      rcases List.mem_cons.mp mg with rfl | mg
      · rw [hg] at ho; cases ho
      · exact ⟨g, mg, hg⟩
    have le : (F.map fun g => ((A.filter fun x => !p f x).filter (p g)).length).sum ≤ (F.map fun g => (A.filter (p g)).length).sum := by
      clear ih h
      induction F with
      | nil => exact Nat.le_refl _
      | cons g F ih =>
        rw [List.map_cons, List.map_cons, List.sum_cons, List.sum_cons]
        have := filter_filter_le (p g) (fun x => !p f x) A
        omega
    omega
/-- that none is told twice -/
theorem pack_len {α β : Type} (p : β → α → Bool) : ∀ (F : List β) (A : List α), F.Pairwise (fun f g => ∀ o ∈ A, p f o = true → p g o = true → False) → (F.map fun f => (A.filter (p f)).length).sum ≤ A.length
  | [], _, _ => Nat.zero_le _
  | f :: F, A, h => by
    obtain ⟨h1, h2⟩ := List.pairwise_cons.mp h
    rw [List.map_cons, List.sum_cons, split_len (p f) A]
    have ih := pack_len p F (A.filter fun x => !p f x) (h2.imp fun hp o m => hp o (List.mem_filter.mp m).1)
    have e : ∀ g ∈ F, ((A.filter fun x => !p f x).filter (p g)) = A.filter (p g) := fun g mg => by
      rw [List.filter_filter]
      apply List.filter_congr
      intro o mo
      cases hg : p g o with
      | false => rfl
      | true =>
        cases hf : p f o with
        | false => rfl
        | true => exact (h1 g mg o mo hf hg).elim
    have e2 : (F.map fun g => ((A.filter fun x => !p f x).filter (p g)).length) = F.map fun g => (A.filter (p g)).length := List.map_congr_left fun g mg => by rw [e g mg]
    rw [e2] at ih
    omega
theorem sum_const {α : Type} {f : α → Nat} {c : Nat} : ∀ {l : List α}, (∀ x ∈ l, f x = c) → (l.map f).sum = l.length * c
  | [], _ => by simp
  | a :: l, h => by
    rw [List.map_cons, List.sum_cons, sum_const fun x m => h x (List.mem_cons_of_mem _ m), h a List.mem_cons_self, List.length_cons, Nat.add_mul]
    omega
/-- how many lie within r of any order -/
theorem near_len30 {w : Str} {n : Nat} {x : List Int} {r : Int} (hw : IsWay w) (ox : IsOrd n x) (h1 : 1 ≤ n) (h5 : n ≤ 6) (hr : 0 ≤ r) : (((nearL w n x r).length : Nat) : Int) = inW w n r := count_in hw ox h1 h5 hr
theorem pack_all {w : Str} {n : Nat} {d e : Int} {rs : List (List Int)} {c : Nat} (hw : IsWay w) (h1 : 1 ≤ n) (h6 : n ≤ 6) (ho : ∀ x ∈ rs, IsOrd n x) (he : 0 ≤ e) (hd : 2 * e < d) (hp : rs.Pairwise fun a b => d ≤ farW w a b) (hc : (c : Int) = inW w n e) : rs.length * c ≤ (allK n n).length := by
  have h := pack_len (fun f o => decide (farW w f o ≤ e)) rs (allK n n) (List.Pairwise.imp_of_mem (fun {a b} ma mb hab o mo ha hb => by
    have oo := all_ord mo
    have t := farW_third (xs := a) (ys := b) (zs := o) hw (ho a ma) (ho b mb) oo h1
    have s := farW_turn (w := w) (ho b mb) oo h1
    have ha' := of_decide_eq_true ha
    have hb' := of_decide_eq_true hb
    omega) hp)
  rw [sum_const (c := c) fun x mx => ?_] at h
  · exact h
  · have := near_len30 hw (ho x mx) h1 h6 he
    unfold nearL at this
    omega
theorem first_sub {w : Str} {d : Int} : ∀ (os acc : List (List Int)), ∀ f ∈ acc, f ∈ os.foldl (stepF w d) acc
  | [], _, _, m => m
  | o :: os, acc, f, m => by
    refine first_sub os _ f ?_
    unfold stepF
    split
    · exact List.mem_append_left _ m
    · exact m
/-- each order lies near one that is taken -/
theorem first_near {w : Str} {n : Nat} {d : Int} (hn : 1 ≤ n) (hd : 1 ≤ d) : ∀ (os acc : List (List Int)), (∀ o ∈ os, IsOrd n o) → ∀ o ∈ os, ∃ f ∈ os.foldl (stepF w d) acc, farW w o f ≤ d - 1
  | [], _, _, _, m => absurd m List.not_mem_nil
  | a :: os, acc, ho, o, m => by
    rcases List.mem_cons.mp m with rfl | m
    · cases hb : farAll w d o acc with
      | true =>
        refine ⟨o, first_sub os _ o (by unfold stepF; rw [if_pos hb]; exact List.mem_append_right _ List.mem_cons_self), ?_⟩
        rw [farW_self (ho o List.mem_cons_self) hn]
        omega
      | false =>
        unfold farAll at hb
        have hb' : ¬ (acc.all fun o' => decide (d ≤ farW w o o')) = true := by rw [hb]; decide
        rw [List.all_eq_true] at hb'
        have : ∃ f ∈ acc, ¬ d ≤ farW w o f := Classical.byContradiction fun z => hb' fun f mf => decide_eq_true (Classical.byContradiction fun y => z ⟨f, mf, y⟩)
        obtain ⟨f, mf, hf⟩ := this
        refine ⟨f, first_sub os _ f ?_, by omega⟩
        unfold stepF
        split
        · exact List.mem_append_left _ mf
        · exact mf
    · exact first_near hn hd os _ (fun x mx => ho x (List.mem_cons_of_mem _ mx)) o m
theorem cover_first {w : Str} {n : Nat} {d : Int} {c : Nat} (hw : IsWay w) (h1 : 1 ≤ n) (h6 : n ≤ 6) (hd : 1 ≤ d) (hc : (c : Int) = inW w n (d - 1)) : (allK n n).length ≤ (firstL w d (allK n n)).length * c := by
  have ho : ∀ x ∈ firstL w d (allK n n), IsOrd n x := fun x m => all_ord (firstL_subset _ _ _ m)
  have h := cover_len (fun f o => decide (farW w f o ≤ d - 1)) (firstL w d (allK n n)) (allK n n) fun o mo => by
    obtain ⟨f, mf, hf⟩ := first_near (w := w) (d := d) h1 hd (allK n n) [] (fun x m => all_ord m) o mo
    refine ⟨f, mf, decide_eq_true ?_⟩
    rw [farW_turn (all_ord mo) (ho f mf) h1]
    exact hf
  rw [sum_const (c := c) fun x mx => ?_] at h
  · exact h
  · have := near_len30 hw (ho x mx) h1 h6 (show 0 ≤ d - 1 by omega)
    unfold nearL at this
    omega
theorem filter_single {α : Type} {p : α → Bool} {x : α} : ∀ {l : List α}, l.Nodup → x ∈ l → p x = true → (∀ y ∈ l, p y = true → y = x) → l.filter p = [x]
  | [], _, m, _, _ => absurd m List.not_mem_nil
  | a :: l, nd, m, hx, h => by
    obtain ⟨na, nl⟩ := List.nodup_cons.mp nd
    rw [List.filter_cons]
    rcases List.mem_cons.mp m with rfl | m
    · rw [if_pos hx]
      congr 1
      exact List.filter_eq_nil_iff.mpr fun y my hy => na (by rw [← h y (List.mem_cons_of_mem _ my) hy]; exact my)
    · rw [if_neg (fun c => na (by rw [h a List.mem_cons_self c]; exact m))]
      exact filter_single nl m hx fun y my => h y (List.mem_cons_of_mem _ my)
theorem near_mem {w : Str} {n : Nat} {x f : List Int} {r : Int} (of : IsOrd n f) : f ∈ nearL w n x r ↔ farW w x f ≤ r := by
  unfold nearL
  rw [List.mem_filter]
  exact ⟨fun h => of_decide_eq_true h.2, fun h => ⟨ord_mem of, decide_eq_true h⟩⟩
end Fo
namespace Fo
open PySem PySem.Spec PyProof.Rows L2
/-! all stays but d, tables may grow -/
theorem KeepTD.r0 (d : Addr) (H : Hp) : KeepTD d H H := ⟨fun _ _ e _ _ => e, fun _ q e _ => ⟨q, e, id⟩⟩
theorem KeepTD.drw {d : Addr} {H0 H H' : Hp} (k : KeepTD d H0 H) (s : KeepD d H H') : KeepTD d H0 H' := by
  refine ⟨fun b o e n f => s _ _ (k.1 b o e n f) n, fun b q e n => ?_⟩
  obtain ⟨q', e', t⟩ := k.2 b q e n
  exact ⟨q', s _ _ e' n, t⟩
theorem KeepTD.sm {d : Addr} {H0 H H' : Hp} (k : KeepTD d H0 H) (s : Same H H') : KeepTD d H0 H' := k.drw (KeepD.of_same s)
theorem KeepTD.kt {d : Addr} {H0 H H' : Hp} (k : KeepTD d H0 H) (s : KeepT H H') : KeepTD d H0 H' := by
  refine ⟨fun b o e n f => s.1 b o (k.1 b o e n f) f, fun b q e n => ?_⟩
  obtain ⟨q', e', t⟩ := k.2 b q e n
  obtain ⟨q2, e2, t2⟩ := s.2 b q' e'
  exact ⟨q2, e2, fun h => t2 (t h)⟩
theorem KeepTD.tr {d : Addr} {H0 H H' : Hp} (k : KeepTD d H0 H) (s : KeepTD d H H') : KeepTD d H0 H' := by
  refine ⟨fun b o e n f => s.1 b o (k.1 b o e n f) n f, fun b q e n => ?_⟩
  obtain ⟨q', e', t⟩ := k.2 b q e n
  obtain ⟨q2, e2, t2⟩ := s.2 b q' e' n
  exact ⟨q2, e2, fun h => t2 (t h)⟩
theorem KeepTD.ov {d : Addr} {H0 H H' : Hp} (t : KeepT H0 H) (k : KeepTD d H H') (nD : H0 d = none) : KeepT H0 H' := by
  refine ⟨fun b o e f => k.1 b o (t.1 b o e f) (fun z => by rw [z, nD] at e; cases e) f, fun b q e => ?_⟩
  obtain ⟨q', e', u⟩ := t.2 b q e
  obtain ⟨q2, e2, u2⟩ := k.2 b q' e' (fun z => by rw [z, nD] at e; cases e)
  exact ⟨q2, e2, fun h => u2 (u h)⟩
theorem KeepTD.tbL {d : Addr} {xs : List V} {H H' : Hp} (k : KeepTD d H H') (ed : H d = some (.lst xs)) {P : Addr} (t : GxR.TabG H P) : GxR.TabG H' P := by
  obtain ⟨q, e, r⟩ := t
  obtain ⟨q', e', t'⟩ := k.2 P q e (fun z => by rw [z, ed] at e; cases e)
  exact ⟨q', e', t' r⟩
theorem KeepTD.lst {d : Addr} {H H' : Hp} (k : KeepTD d H H') {p : Addr} {xs : List V} (e : H p = some (.lst xs)) (n : p ≠ d) : H' p = some (.lst xs) := k.1 p _ e n (fun q z => by cases z)
theorem LL.keep' {H H' : Hp} : ∀ {as : List Addr} {rs : List (List Int)}, LL H as rs → (∀ a ∈ as, ∀ xs, H a = some (.lst xs) → H' a = some (.lst xs)) → LL H' as rs
  | [], [], _, _ => trivial
  | _ :: _, _ :: _, h, k => ⟨k _ List.mem_cons_self _ h.1, LL.keep' h.2 fun b m => k b (List.mem_cons_of_mem _ m)⟩
  | [], _ :: _, h, _ => h.elim
  | _ :: _, [], h, _ => h.elim
theorem LL.keepTD {d : Addr} {H H' : Hp} {as : List Addr} {rs : List (List Int)} (h : LL H as rs) (s : KeepTD d H H') (na : d ∉ as) : LL H' as rs := h.keep' fun a ha xs e => s.lst e (fun q => na (by rw [← q]; exact ha))
end Fo
namespace Fo
open PySem PySem.Spec PyProof.Rows L2
/-! lists of lists of orders -/
def LLL (H : Hp) : List Addr → List (List Addr) → List (List (List Int)) → Prop
  | [], [], [] => True
  | p :: ps, bs :: bss, rs :: rss => H p = some (.lst (bs.map V.ref)) ∧ LL H bs rs ∧ LLL H ps bss rss
  | _, _, _ => False
theorem LLL.len {H : Hp} : ∀ {ps : List Addr} {bss : List (List Addr)} {rss : List (List (List Int))}, LLL H ps bss rss → ps.length = rss.length ∧ bss.length = rss.length
  | [], [], [], _ => ⟨rfl, rfl⟩
  | _ :: _, _ :: _, _ :: _, h => by
    have := LLL.len h.2.2
    exact ⟨by rw [List.length_cons, List.length_cons, this.1], by rw [List.length_cons, List.length_cons, this.2]⟩
  | [], [], _ :: _, h => h.elim
  | [], _ :: _, _, h => h.elim
  | _ :: _, [], _, h => h.elim
  | _ :: _, _ :: _, [], h => h.elim
theorem LLL.keep {H H' : Hp} : ∀ {ps : List Addr} {bss : List (List Addr)} {rss : List (List (List Int))}, LLL H ps bss rss → (∀ a ∈ ps, ∀ o, H a = some o → H' a = some o) → (∀ bs ∈ bss, ∀ a ∈ bs, ∀ o, H a = some o → H' a = some o) → LLL H' ps bss rss
  | [], [], [], _, _, _ => trivial
  | p :: ps, bs :: bss, rs :: rss, h, k1, k2 => ⟨k1 p List.mem_cons_self _ h.1, h.2.1.keep (k2 bs List.mem_cons_self), LLL.keep h.2.2 (fun a ha => k1 a (List.mem_cons_of_mem _ ha)) fun b hb => k2 b (List.mem_cons_of_mem _ hb)⟩
  | [], [], _ :: _, h, _, _ => h.elim
  | [], _ :: _, _, h, _, _ => h.elim
  | _ :: _, [], _, h, _, _ => h.elim
  | _ :: _, _ :: _, [], h, _, _ => h.elim
theorem LLL.keepT {H H' : Hp} (s : KeepT H H') : ∀ {ps : List Addr} {bss : List (List Addr)} {rss : List (List (List Int))}, LLL H ps bss rss → LLL H' ps bss rss
  | [], [], [], _ => trivial
  | p :: ps, bs :: bss, rs :: rss, h => ⟨s.lst h.1, h.2.1.keepT s, LLL.keepT s h.2.2⟩
  | [], [], _ :: _, h => h.elim
  | [], _ :: _, _, h => h.elim
  | _ :: _, [], _, h => h.elim
  | _ :: _, _ :: _, [], h => h.elim
theorem LLL.same {H H' : Hp} {ps : List Addr} {bss : List (List Addr)} {rss : List (List (List Int))} (h : LLL H ps bss rss) (s : Same H H') : LLL H' ps bss rss := h.keepT (KeepT.of_same s)
theorem LLL.get {H : Hp} : ∀ {ps : List Addr} {bss : List (List Addr)} {rss : List (List (List Int))} {i : Nat} {p : Addr}, LLL H ps bss rss → ps[i]? = some p → ∃ bs rs, bss[i]? = some bs ∧ rss[i]? = some rs ∧ H p = some (.lst (bs.map V.ref)) ∧ LL H bs rs
  | [], _, _, _, _, _, e => by simp at e
  | p :: ps, bs :: bss, rs :: rss, 0, q, h, e => by
    have e2 : p = q := Option.some.inj e
    subst e2
    exact ⟨bs, rs, rfl, rfl, h.1, h.2.1⟩
  | p :: ps, bs :: bss, rs :: rss, i + 1, q, h, e => LLL.get (i := i) h.2.2 e
  | _ :: _, [], _, _, _, h, _ => h.elim
  | _ :: _, _ :: _, [], _, _, h, _ => h.elim
theorem LLL.snoc {H : Hp} : ∀ {ps : List Addr} {bss : List (List Addr)} {rss : List (List (List Int))} {p : Addr} {bs : List Addr} {rs : List (List Int)}, LLL H ps bss rss → H p = some (.lst (bs.map V.ref)) → LL H bs rs → LLL H (ps ++ [p]) (bss ++ [bs]) (rss ++ [rs])
  | [], [], [], _, _, _, _, e, f => ⟨e, f, trivial⟩
  | p :: ps, bs :: bss, rs :: rss, _, _, _, h, e, f => ⟨h.1, h.2.1, LLL.snoc h.2.2 e f⟩
  | [], [], _ :: _, _, _, _, h, _, _ => h.elim
  | [], _ :: _, _, _, _, _, h, _, _ => h.elim
  | _ :: _, [], _, _, _, _, h, _, _ => h.elim
  | _ :: _, _ :: _, [], _, _, _, h, _, _ => h.elim
/-- the i-th list is another one from now on -/
theorem LLL.put {H : Hp} : ∀ {ps : List Addr} {bss : List (List Addr)} {rss : List (List (List Int))} {i : Nat} {p : Addr} {bs : List Addr} {rs : List (List Int)}, LLL H ps bss rss → ps.Nodup → (∀ b ∈ bss, p ∉ b) → ps[i]? = some p → LL (upd H p (.lst (bs.map V.ref))) bs rs → LLL (upd H p (.lst (bs.map V.ref))) ps (bss.set i bs) (rss.set i rs)
  | [], _, _, _, _, _, _, _, _, _, e, _ => by simp at e
  | p :: ps, b0 :: bss, r0 :: rss, 0, q, bs, rs, h, nd, hb, e, f => by
    have e2 : p = q := Option.some.inj e
    subst e2
    refine ⟨upd_same, f, h.2.2.keep (fun a ha o eo => ?_) fun b hbm a ha o eo => ?_⟩
    · rw [upd_ne (fun z => (List.nodup_cons.mp nd).1 (by rw [← z]; exact ha))]
      exact eo
    · rw [upd_ne (fun z => hb b (List.mem_cons_of_mem _ hbm) (by rw [← z]; exact ha))]
      exact eo
  | p :: ps, b0 :: bss, r0 :: rss, i + 1, q, bs, rs, h, nd, hb, e, f => by
    have hm : q ∈ ps := List.mem_of_getElem? (show ps[i]? = some q from e)
    refine ⟨?_, h.2.1.keep fun a ha o eo => ?_, LLL.put (i := i) h.2.2 (List.nodup_cons.mp nd).2 (fun b hbm => hb b (List.mem_cons_of_mem _ hbm)) e f⟩
    · rw [upd_ne (fun z => (List.nodup_cons.mp nd).1 (by rw [z]; exact hm))]
      exact h.1
    · rw [upd_ne (fun z => hb b0 List.mem_cons_self (by rw [← z]; exact ha))]
      exact eo
  | _ :: _, [], _, _, _, _, _, h, _, _, _, _ => h.elim
  | _ :: _, _ :: _, [], _, _, _, _, h, _, _, _, _ => h.elim
/-! the parting -/
def nearAll (w : Str) (d : Int) (xs : List Int) (rs : List (List Int)) : Bool := rs.all fun o => decide (farW w xs o < d)
theorem nearAll_more {w : Str} {d : Int} {xs : List Int} {rs : List (List Int)} {i : Nat} {r : List Int} (h : rs[i]? = some r) : nearAll w d xs (rs.take (i + 1)) = (nearAll w d xs (rs.take i) && decide (farW w xs r < d)) := by
  unfold nearAll
  rw [List.take_add_one, h, List.all_append]
  show (_ && (decide (farW w xs r < d) && true)) = _
  rw [Bool.and_true]
theorem nearAll_false {w : Str} {d : Int} {xs : List Int} {rs : List (List Int)} {i : Nat} {r : List Int} (h : rs[i]? = some r) (hf : decide (farW w xs r < d) = false) : nearAll w d xs rs = false := by
  unfold nearAll
  rw [List.all_eq_false]
  exact ⟨r, List.mem_of_getElem? h, by rw [hf]; decide⟩
def homeP (w : Str) (d : Int) (o : List Int) (pp : List (List (List Int))) : Option Nat := pp.findIdx? (nearAll w d o)
def stepP (w : Str) (d : Int) (pp : List (List (List Int))) (o : List Int) : List (List (List Int)) := match homeP w d o pp with
  | none => pp ++ [[o]]
  | some i => pp.set i (pp.getD i [] ++ [o])
def partL (w : Str) (d : Int) (os : List (List Int)) : List (List (List Int)) := os.foldl (stepP w d) []
theorem partL_more {w : Str} {d : Int} {os : List (List Int)} {i : Nat} {o : List Int} (h : os[i]? = some o) : partL w d (os.take (i + 1)) = stepP w d (partL w d (os.take i)) o := by
  unfold partL
  rw [List.take_add_one, h, List.foldl_append]
  rfl
theorem stepP_mem {w : Str} {d : Int} {pp : List (List (List Int))} {o x : List Int} {rs : List (List Int)} (h : rs ∈ stepP w d pp o) (hx : x ∈ rs) : x = o ∨ ∃ rs' ∈ pp, x ∈ rs' := by
  unfold stepP at h
  split at h
  · rcases List.mem_append.mp h with h | h
    · exact .inr ⟨rs, h, hx⟩
    · rw [List.mem_singleton.mp h] at hx
      exact .inl (List.mem_singleton.mp hx)
  · rename_i i e
    rcases List.mem_or_eq_of_mem_set h with h | h
    · exact .inr ⟨rs, h, hx⟩
    · rw [h] at hx
      rcases List.mem_append.mp hx with hx | hx
      · right
        rw [List.getD_eq_getElem?_getD] at hx
        cases e2 : pp[i]? with
        | none => rw [e2] at hx; cases hx
        | some r => rw [e2] at hx; exact ⟨r, List.mem_of_getElem? e2, hx⟩
      · exact .inl (List.mem_singleton.mp hx)
theorem partL_mem {w : Str} {d : Int} {os : List (List Int)} : ∀ {i : Nat} {x : List Int} {rs : List (List Int)}, i ≤ os.length → rs ∈ partL w d (os.take i) → x ∈ rs → x ∈ os
  | 0, x, rs, _, h, hx => by
    rw [List.take_zero] at h
    cases h
  | i + 1, x, rs, hi, h, hx => by
    have e : os[i]? = some os[i] := List.getElem?_eq_getElem hi
    rw [partL_more e] at h
    rcases stepP_mem h hx with z | ⟨rs', h1, h2⟩
    · rw [z]
      exact List.getElem_mem hi
    · exact partL_mem (i := i) (by omega) h1 h2
def spIsNear (Pt : Addr) : Sp := fun vs H Q _ => ∃ (w : Str) (d : Int) (a l : Addr) (n : Nat) (xs : List Int) (bs : List Addr) (rs : List (List Int)), vs = [.str w, .int d, .ref a, .ref l] ∧ IsWay w ∧ H a = some (.lst (xs.map V.int)) ∧ IsOrd n xs ∧ 1 ≤ n ∧ n ≤ 12 ∧
  H l = some (.lst (bs.map V.ref)) ∧ LL H bs rs ∧ (∀ r ∈ rs, IsOrd n r) ∧ GxR.TabG H Pt ∧ ∀ H', KeepT H H' → Q (.bl (nearAll w d xs rs)) H'
def optV : Option Nat → V
  | none => .non
  | some i => .int (i : Int)
def spFNear (Pt : Addr) : Sp := fun vs H Q _ => ∃ (w : Str) (d : Int) (a l : Addr) (n : Nat) (xs : List Int) (ps : List Addr) (bss : List (List Addr)) (rss : List (List (List Int))), vs = [.str w, .int d, .ref a, .ref l] ∧ IsWay w ∧ H a = some (.lst (xs.map V.int)) ∧ IsOrd n xs ∧ 1 ≤ n ∧ n ≤ 12 ∧
  H l = some (.lst (ps.map V.ref)) ∧ LLL H ps bss rss ∧ (∀ rs ∈ rss, ∀ r ∈ rs, IsOrd n r) ∧ GxR.TabG H Pt ∧ ∀ H', KeepT H H' → Q (optV (homeP w d xs rss)) H'
def spParting (Pt : Addr) : Sp := fun vs H Q _ => ∃ (w : Str) (n : Nat) (d : Int), vs = [.str w, .int n, .int d] ∧ IsWay w ∧ 1 ≤ n ∧ n ≤ 5 ∧ 1 ≤ d ∧ GxR.TabG H Pt ∧
  ∀ (l : Addr) (ps : List Addr) (bss : List (List Addr)) (H' : Hp), H l = none → H' l = some (.lst (ps.map V.ref)) → LLL H' ps bss (partL w d (allK n n)) → (∀ p ∈ ps, H p = none ∧ p ≠ l ∧ ∀ bs ∈ bss, p ∉ bs) → ps.Nodup → (∀ bs ∈ bss, ∀ b ∈ bs, H b = none ∧ b ≠ l) → bss.flatten.Nodup → KeepT H H' → Q (.ref l) H'
theorem flat_set : ∀ {bss : List (List Addr)} {i : Nat} {bs : List Addr} {c : Addr}, bss[i]? = some bs → (bss.set i (bs ++ [c])).flatten.Perm (bss.flatten ++ [c])
  | [], _, _, _, e => by simp at e
  | b :: bss, 0, bs, c, e => by
    have e2 : b = bs := Option.some.inj e
    subst e2
    show ((b ++ [c]) ++ bss.flatten).Perm ((b ++ bss.flatten) ++ [c])
    rw [List.append_assoc, List.append_assoc]
    exact List.Perm.append_left b List.perm_append_comm
  | b :: bss, i + 1, bs, c, e => by
    show (b ++ (bss.set i (bs ++ [c])).flatten).Perm ((b ++ bss.flatten) ++ [c])
    rw [List.append_assoc]
    exact List.Perm.append_left b (flat_set (i := i) e)
section
variable {P : Program} {w : World} {K : PySem.W.Frag} {mg : Str → Option Value} {base : Heap}
theorem scIsNear : FnScope ["way", "d", "order", "others", "other"] ["way", "d", "order", "others"] (defScope s_is_near) := ⟨rfl, rfl, rfl, by decide +kernel, rfl, by decide +kernel, by decide +kernel⟩
set_option maxHeartbeats 2000000 in
theorem ok_isNear {f f1 c Pt : Addr} {fd d1 : FuncData} {k : Nat} (T : DfC K mg "is_near" s_is_near ["way", "d", "order", "others"] f fd c) (TB : LamX.TabB base mg c Pt) (T_known_far : Df K mg "known_far" s_known_far ["way", "one", "other"] f1 d1) (G_known_far : FnOk P w K mg base CX0 k f1 d1 ["way", "one", "other"] spFar) (B : Bi mg) :
    FnOk P w K mg base CX0 (k + 2) f fd ["way", "d", "order", "others"] (spIsNear Pt) := by
  refine fun_okC T.F T.c scIsNear (fun vs H Q E h => ?_) (fun A outer s H vs Q E hr h => ?_)
  · obtain ⟨z, d, a, l, n, xs, bs, rs, rfl, _⟩ := h
    rfl
  · obtain ⟨z, d, a, l, n, xs, bs, rs, rfl, hz, ha, ox, hn1, hn2, hl, hL, ho, ht, q⟩ := h
    refine ⟨_, 
      (pss_one (ps_ret (pe_allG (own := [("other", 4)]) (gt := (gName 4)) (te := (tOp (rI0 fun i j => .bl (decide (i < j))) (tCall spFar [] E0 (tCons (tVar 0) (tCons (tVar 2) (tCons (tVar 4) tNil)))) (tVar 1))) rfl scIsNear.nd hr (by rfl) B.all (by decide +kernel) TB rfl (pi_list (pv 3)) (blkOk_by (N := ["way", "d", "order", "others", "other"]) (sc := defScope s_is_near) (by decide +kernel)) (gsc_by (by decide +kernel)) (fun _ _ _ _ _ _ _ => (pg_name (i := 4) scIsNear.nd rfl (.inl rfl))) (fun _ _ _ _ _ _ _ => (pe_cmpR op_lt (pe_call G_known_far (room_gen hr) (by rfl) T_known_far.g T_known_far.F.kp T_known_far.b .nil pass0 (pa_cons (pv 0) (pa_cons (pv 2) (pa_cons (pv 4) pa_nil)))) (pv 1) (nomark _)))))), ?_⟩
    refine ⟨_, rfl, l, rfl, ⟨_, SqL.of hl⟩, ht, fun H2 tb => ?_⟩
    have k2 := KeepT.of_tabbed ht tb
    refine all_list (K := K) (a := l) (xs := bs.map V.ref) (fun i H3 => KeepT H H3 ∧ nearAll z d xs (rs.take i) = true) ⟨k2, rfl⟩ (fun i H3 _ hP => SqL.of (hP.1.lst hl)) (fun i x H3 hx hP => ?_) (fun H3 hP => ?_) (fun x H3 p p' hpq h => ?_)
    · obtain ⟨k3, hall⟩ := hP
      obtain ⟨r, er, rfl⟩ := ref_at_inv hx
      obtain ⟨row, erow, hrow⟩ := hL.get er
      refine ⟨rfl, _, rfl, _, rfl, _, rfl, z, a, r, n, xs, row, rfl, hz, k3.lst ha, k3.lst hrow, ox, ho _ (List.mem_of_getElem? erow), hn1, hn2, fun H4 s4 => ?_⟩
      have k4 := k3.trans (KeepT.of_same s4)
      refine ⟨_, rfl, _, _, rfl, rfl, _, rfl, ?_⟩
      cases hb : decide (farW z xs row < d) with
      | true => exact ⟨k4, by rw [nearAll_more erow, hall, hb]; rfl⟩
      | false =>
        have z2 := q H4 k4
        rw [nearAll_false erow hb] at z2
        exact z2
    · obtain ⟨k3, hall⟩ := hP
      rw [List.length_map, hL.len, List.take_length] at hall
      have z2 := q H3 k3
      rw [hall] at z2
      exact z2
    · obtain ⟨e1, i1, e2, i3, e3, i4, e4, zz, a', b', n', xs', ys', e5, r1, r2, r3, r4, r5, r6, r7, r8⟩ := h
      exact ⟨e1, i1, e2, i3, e3, i4, e4, zz, a', b', n', xs', ys', e5, r1, r2, r3, r4, r5, r6, r7, fun H4 s4 => by
        obtain ⟨j, ej, u1, u2, e6, e7, e8⟩ := r8 H4 s4
        exact ⟨j, ej, u1, u2, e6, e7, hpq _ _ e8⟩⟩
theorem scFNear : FnScope ["way", "d", "order", "parts", "place", "part"] ["way", "d", "order", "parts"] (defScope s_first_near) := ⟨rfl, rfl, rfl, by decide +kernel, rfl, by decide +kernel, by decide +kernel⟩
set_option maxHeartbeats 2000000 in
theorem ok_fnear {f f1 c0 Pt : Addr} {fd d1 : FuncData} {k : Nat} (T : Df K mg "first_near" s_first_near ["way", "d", "order", "parts"] f fd) (T_is_near : DfC K mg "is_near" s_is_near ["way", "d", "order", "others"] f1 d1 c0) (G_is_near : FnOk P w K mg base CX0 k f1 d1 ["way", "d", "order", "others"] (spIsNear Pt)) (B : Bi mg) :
    FnOk P w K mg base CX0 (k + 1) f fd ["way", "d", "order", "parts"] (spFNear Pt) := by
  refine T.F.ok scFNear (fun vs H Q E h => ?_) (fun cdv A outer s H vs Q E hr h => ?_)
  · obtain ⟨z, d, a, l, n, xs, ps, bss, rss, rfl, _⟩ := h
    rfl
  · obtain ⟨z, d, a, l, n, xs, ps, bss, rss, rfl, hz, ha, ox, hn1, hn2, hl, hL, ho, ht, q⟩ := h
    refine ⟨_, 
      (pss_cons (ps_for PassesOwn.never rfl (pi_enum (by rfl) B.enumerate (pa_cons (pv 3) pa_nil)) (pg_tup (by rfl) (pgs_cons (pg_name (i := 4) scFNear.nd rfl (.inl rfl)) (pgs_cons (pg_name (i := 5) scFNear.nd rfl (.inl rfl)) pgs_nil)))
        (pss_one (ps_if (pt_val (pe_call G_is_near hr (by rfl) T_is_near.g T_is_near.F.kp T_is_near.b .nil pass0 (pa_cons (pv 0) (pa_cons (pv 1) (pa_cons (pv 2) (pa_cons (pv 5) pa_nil))))))
          (pss_one (ps_ret (pv 4)))
          pss_nil)))
      (pss_one (ps_ret pe_non))), ?_⟩
    refine ⟨_, rfl, l, _, rfl, SqL.of hl, ?_⟩
    refine for_enumL (xs := ps.map V.ref) (fun i σ H3 => ∃ (y4 y5 : Option V), σ = [some (.str z), some (.int d), some (.ref a), some (.ref l), y4, y5] ∧ KeepT H H3 ∧ ∀ j (hj : j < rss.length), j < i → nearAll z d xs rss[j] = false)
      ⟨none, none, rfl, KeepT.refl _, fun j hj h => by omega⟩ (fun i σ H3 hP => by obtain ⟨_, _, _, k3, _⟩ := hP; exact SqL.of (k3.lst hl)) (fun i x t σ H3 hx hP nt => ?_) (fun σ H3 hP => ?_)
    · obtain ⟨y4, y5, rfl, k3, hno⟩ := hP
      obtain ⟨p, ep, rfl⟩ := ref_at_inv hx
      obtain ⟨bs, rs, ebs, ers, hp, hLp⟩ := hL.get ep
      have s3 := same_new (o := .tup [.int (i : Nat), .ref p]) nt
      have k4 := k3.trans (KeepT.of_same s3)
      refine ⟨t, _, rfl, .inl (.inl upd_same), rfl, _, _, rfl, _, _, rfl, rfl, ?_⟩
      refine ⟨_, rfl, _, rfl, _, rfl, _, rfl, z, d, a, p, n, xs, bs, rs, rfl, hz, k4.lst ha, ox, hn1, hn2, k4.lst hp, hLp.keepT k4, ho rs (List.mem_of_getElem? ers), k4.tab ht, fun H5 k5 => ?_⟩
      have k45 := k4.trans k5
      have hi := (List.getElem?_eq_some_iff.mp ers).1
      have ei := (List.getElem?_eq_some_iff.mp ers).2
      refine ⟨_, rfl, ?_⟩
      cases hb : nearAll z d xs rs with
      | true =>
        refine iteT ⟨_, rfl, ?_⟩
        have z2 := q H5 k45
        have e9 : homeP z d xs rss = some i := by
          unfold homeP
          rw [List.findIdx?_eq_some_iff_getElem]
          exact ⟨hi, by rw [ei]; exact hb, fun j hji => by rw [hno j (by omega) hji]; decide⟩
        rw [e9] at z2
        exact z2
      | false =>
        refine iteF ⟨_, _, rfl, k45, fun j hj hji => ?_⟩
        by_cases e : j = i
        · subst e
          rw [ei]
          exact hb
        · exact hno j hj (by omega)
    · obtain ⟨y4, y5, rfl, k3, hno⟩ := hP
      have z2 := q H3 k3
      have e9 : homeP z d xs rss = none := by
        unfold homeP
        rw [List.findIdx?_eq_none_iff]
        intro r hr
        obtain ⟨j, hj, ej⟩ := List.getElem_of_mem hr
        rw [← ej]
        exact hno j hj (by rw [List.length_map, hL.len.1]; exact hj)
      rw [e9] at z2
      exact z2
end
end Fo
namespace Fo
open PySem PySem.Spec PyProof.Rows L2
theorem set_some {α : Type} {l : List α} {i : Nat} {x : α} (h : l[i]? = some x) (d : α) : l.getD i d = x := by
  rw [List.getD_eq_getElem?_getD, h]
  rfl
section
variable {P : Program} {w : World} {K : PySem.W.Frag} {mg : Str → Option Value} {base : Heap}
theorem scPart : FnScope ["way", "n", "d", "parts", "order", "place"] ["way", "n", "d"] (defScope s_first_parting) := ⟨rfl, rfl, rfl, by decide +kernel, rfl, by decide +kernel, by decide +kernel⟩
set_option maxHeartbeats 4000000 in
theorem ok_parting {f f1 f2 f3 Pt : Addr} {fd d1 d2 d3 : FuncData} {k : Nat} {tk : Tok} (T : Df K mg "first_parting" s_first_parting ["way", "n", "d"] f fd) (T_check_apart : Df K mg "check_apart" s_check_apart ["way", "n", "most", "d"] f1 d1) (T_all_orders : Df K mg "all_orders" s_all_orders ["n"] f2 d2) (T_first_near : Df K mg "first_near" s_first_near ["way", "d", "order", "parts"] f3 d3)
    (G_check_apart : FnOk P w K mg base CX0 k f1 d1 ["way", "n", "most", "d"] spApart) (G_all_orders : FnOk P w K mg base CX0 k f2 d2 ["n"] spAllO) (G_first_near : FnOk P w K mg base CX0 k f3 d3 ["way", "d", "order", "parts"] (spFNear Pt)) (B : Bi mg) (mL : mg "MOST_PARTED" = some (.int 5 tk)) :
    FnOk P w K mg base CX0 (k + 1) f fd ["way", "n", "d"] (spParting Pt) := by
  refine T.F.ok scPart (fun vs H Q E h => ?_) (fun cdv A outer s H vs Q E hr h => ?_)
  · obtain ⟨z, n, d, rfl, _⟩ := h
    rfl
  · obtain ⟨z, n, d, rfl, hz, hn1, hn2, hd, ht, q⟩ := h
    refine ⟨_, 
      (pss_cons (ps_expr (pe_call G_check_apart hr (by rfl) T_check_apart.g T_check_apart.F.kp T_check_apart.b .nil pass0 (pa_cons (pv 0) (pa_cons (pv 1) (pa_cons (pe_glob (v := .int 5) (by rfl) mL ⟨_, rfl⟩) (pa_cons (pv 2) pa_nil))))))
      (pss_cons (ps_set (i := 3) scPart.nd rfl (.inl rfl) (pe_lst pa_nil))
      (pss_cons (ps_for PassesOwn.never rfl (pi_list (pe_call G_all_orders hr (by rfl) T_all_orders.g T_all_orders.F.kp T_all_orders.b .nil pass0 (pa_cons (pv 1) pa_nil))) (pg_name (i := 4) scPart.nd rfl (.inl rfl))
        (pss_cons (ps_set (i := 5) scPart.nd rfl (.inl rfl) (pe_call G_first_near hr (by rfl) T_first_near.g T_first_near.F.kp T_first_near.b .nil pass0 (pa_cons (pv 0) (pa_cons (pv 2) (pa_cons (pv 4) (pa_cons (pv 3) pa_nil))))))
        (pss_one (ps_if (pt_cmpR op_isN (pv 5) pe_non (nomark _))
          (pss_one (ps_expr (pe_bm PySem.F.plainAttrs_list PySem.F.slot_list_append PySem.F.type_list_append mt_append (pv 3) (pa_cons (pe_lst (pa_cons (pv 4) pa_nil)) pa_nil))))
          (pss_one (ps_expr (pe_bm PySem.F.plainAttrs_list PySem.F.slot_list_append PySem.F.type_list_append mt_append (pe_ix ix_list (pv 3) (pv 5) (fun _ _ => rfl)) (pa_cons (pv 4) pa_nil))))))))
      (pss_one (ps_ret (pv 3)))))), ?_⟩
    refine ⟨_, rfl, _, rfl, _, rfl, z, (n : Int), 5, d, rfl, hz, by omega, by omega, hd, ?_⟩
    refine ⟨Nat.zero_le _, fun l nl => ?_⟩
    have s0 := same_new (o := .lst []) nl
    refine ⟨_, rfl, n, rfl, hn1, by omega, fun r as H2 nr hr2 hLL hfr hnd s2 => ?_⟩
    have hl2 : H2 l = some (.lst []) := s2 _ _ upd_same
    have nrl : r ≠ l := fun z => by rw [z, upd_same] at nr; cases nr
    have hlen := hLL.len
    have hal := allK_len (show n ≤ 6 by omega) n (Nat.le_refl _)
    have hp6 := pow6 (show n ≤ 6 by omega)
    have hbl : ∀ u ∈ as, u ≠ l := fun u hu z => by have := (hfr u hu).1; rw [z, upd_same] at this; cases this
    have hbr : ∀ u ∈ as, u ≠ r := fun u hu => (hfr u hu).2
    refine ⟨r, rfl, ⟨_, SqL.of hr2⟩, ?_⟩
    refine for_list (xs := as.map V.ref) (fun m σ H3 => ∃ (y4 y5 : Option V) (ps : List Addr) (bss : List (List Addr)), σ = [some (.str z), some (.int n), some (.int d), some (.ref l), y4, y5] ∧ H3 l = some (.lst (ps.map V.ref)) ∧ LLL H3 ps bss (partL z d ((allK n n).take m)) ∧ bss.flatten.Perm (as.take m) ∧ ps.length ≤ m ∧ ps.Nodup ∧ (∀ p ∈ ps, H p = none ∧ p ≠ l ∧ p ≠ r ∧ p ∉ as) ∧ KeepT H H3 ∧ H3 r = some (.lst (as.map V.ref)) ∧ LL H3 as (allK n n))
      ⟨_, _, [], [], rfl, hl2, trivial, List.Perm.refl _, Nat.le_refl _, List.nodup_nil, fun _ h => absurd h List.not_mem_nil, KeepT.of_same (s0.trans s2), hr2, hLL⟩ (fun m σ H3 _ hP => by obtain ⟨_, _, _, _, _, _, _, _, _, _, _, _, h7, _⟩ := hP; exact SqL.of h7) (fun m x σ H3 hx hP => ?_) (fun σ H3 hP => ?_)
    · obtain ⟨y4, y5, ps, bss, rfl, hl3, hL3, hfl, hpl, hpn, hpf, k3, hr3, hA3⟩ := hP
      obtain ⟨c, ec, rfl⟩ := ref_at_inv hx
      obtain ⟨row, erow, hrow⟩ := hA3.get ec
      have etk : as.take (m + 1) = as.take m ++ [c] := by rw [List.take_add_one, ec]; rfl
      have hm := (List.getElem?_eq_some_iff.mp ec).1
      have hca : c ∈ as := List.mem_of_getElem? ec
      have inAs : ∀ bs ∈ bss, ∀ b ∈ bs, b ∈ as := fun bs hb b hbb => List.mem_of_mem_take (hfl.subset (List.mem_flatten.mpr ⟨bs, hb, hbb⟩))
      refine ⟨_, rfl, _, rfl, _, rfl, _, rfl, z, d, c, l, n, row, ps, bss, _, rfl, hz, hrow, all_ord (List.mem_of_getElem? erow), hn1, by omega, hl3, hL3, fun rs hrs o ho => all_ord (partL_mem (by rw [← hlen]; omega) hrs ho), k3.tab ht, fun H4 k4 => ?_⟩
      have k34 := k3.trans k4
      have hl4 := k4.lst hl3
      have hL4 := hL3.keepT k4
      have hrow4 := k4.lst hrow
      have hr4 := k4.lst hr3
      have hA4 := hA3.keepT k4
      cases hh : homeP z d row (partL z d ((allK n n).take m)) with
      | none =>
        refine ⟨_, rfl, rfl, _, rfl, iteT ?_⟩
        refine ⟨_, rfl, .inl ⟨rfl, _, SqL.of hl4⟩, _, rfl, line_small (by show 1 ≤ 16777216; decide), fun p np => ?_⟩
        have sp := same_new (o := .lst [.ref c]) np
        have npl : p ≠ l := (ne_of_none hl4 np).symm
        have npr : p ≠ r := (ne_of_none hr4 np).symm
        have npa : p ∉ as := fun hp => by
          obtain ⟨o, eo⟩ := hA4.tracked hp
          rw [np] at eo
          cases eo
        have npp : p ∉ ps := fun hp => by
          obtain ⟨i, hi⟩ := List.mem_iff_getElem?.mp hp
          obtain ⟨_, _, _, _, e, _⟩ := hL4.get hi
          rw [np] at e
          cases e
        refine ⟨l, _, _, rfl, rfl, sp _ _ hl4, line_lt (by rw [List.length_map]; omega), ?_⟩
        have kup : ∀ {u : Addr} {o : HO}, u ≠ l → H4 u = some o → (upd (upd H4 p (.lst [.ref c])) l (.lst (ps.map V.ref ++ [.ref p]))) u = some o := fun {u o} hu e => by rw [upd_ne hu]; exact sp _ _ e
        refine ⟨_, _, ps ++ [p], bss ++ [[c]], rfl, by rw [upd_same, List.map_append]; rfl, ?_, ?_, by rw [List.length_append, List.length_singleton]; omega, ?_, fun u hu => ?_, ⟨fun b o e f => ?_, fun b qq e => ?_⟩, kup nrl hr4, hA4.keep fun u hu o e => kup (hbl u hu) e⟩
        · rw [partL_more erow]
          unfold stepP
          rw [hh]
          refine LLL.snoc (hL4.keep (fun u hu o e => kup (hpf u hu).2.1 e) fun bs hb u hu o e => kup (hbl u (inAs bs hb u hu)) e) ?_ ⟨kup (hbl c hca) hrow4, trivial⟩
          rw [upd_ne npl, upd_same]
          rfl
        · rw [etk, List.flatten_append]
          exact hfl.append_right _
        · rw [List.nodup_append]
          exact ⟨hpn, List.nodup_cons.mpr ⟨List.not_mem_nil, List.nodup_nil⟩, fun x hx y hy e => npp (by rw [← List.mem_singleton.mp hy, ← e]; exact hx)⟩
        · rcases List.mem_append.mp hu with hu | hu
          · exact hpf u hu
          · rw [List.mem_singleton.mp hu]
            exact ⟨k34.free np, npl, npr, npa⟩
        · rw [upd_ne (ne_of_none e nl), upd_ne (ne_of_none e (k34.free np))]
          exact k34.1 b o e f
        · rw [upd_ne (ne_of_none e nl), upd_ne (ne_of_none e (k34.free np))]
          exact k34.2 b qq e
      | some i =>
        have hi : i < (partL z d ((allK n n).take m)).length := by
          unfold homeP at hh
          exact (List.findIdx?_eq_some_iff_getElem.mp hh).1
        have hips : i < ps.length := by rw [hL4.len.1]; exact hi
        have ep : ps[i]? = some ps[i] := List.getElem?_eq_getElem hips
        obtain ⟨bs, rs, ebs, ers, hp, hLp⟩ := hL4.get ep
        generalize hpd : ps[i] = p at ep hp
        have hpp : p ∈ ps := List.mem_of_getElem? ep
        have hpb : ∀ b ∈ bss, p ∉ b := fun b hb z => (hpf p hpp).2.2.2 (inAs b hb p z)
        have hbsl : bs.length ≤ m := by
          have h1 : bs.length ≤ bss.flatten.length := (List.sublist_flatten_of_mem (List.mem_of_getElem? ebs)).length_le
          have h2 := hfl.length_eq
          rw [List.length_take] at h2
          omega
        refine ⟨_, rfl, rfl, _, rfl, iteF ?_⟩
        refine ⟨_, rfl, _, rfl, l, _, _, _, rfl, rfl, SqL.of hl4, at_of (j := i) rfl (ref_at ep), .inl ⟨rfl, _, SqL.of hp⟩, _, rfl, p, _, _, rfl, rfl, hp, line_lt (by rw [List.length_map]; omega), ?_⟩
        have kup : ∀ {u : Addr} {o : HO}, u ≠ p → H4 u = some o → (upd H4 p (.lst (bs.map V.ref ++ [.ref c]))) u = some o := fun {u o} hu e => by rw [upd_ne hu]; exact e
        have eup : upd H4 p (.lst (bs.map V.ref ++ [.ref c])) = upd H4 p (.lst ((bs ++ [c]).map V.ref)) := by rw [List.map_append]; rfl
        refine ⟨_, _, ps, bss.set i (bs ++ [c]), rfl, kup (fun z => (hpf p hpp).2.1 z.symm) hl4, ?_, ?_, by omega, hpn, hpf, ⟨fun b o e f => ?_, fun b qq e => ?_⟩, kup (fun z => (hpf p hpp).2.2.1 z.symm) hr4, hA4.keep fun u hu o e => kup (fun z => (hpf p hpp).2.2.2 (by rw [← z]; exact hu)) e⟩
        · rw [partL_more erow]
          unfold stepP
          rw [hh]
          show LLL _ ps _ ((partL z d ((allK n n).take m)).set i ((partL z d ((allK n n).take m)).getD i [] ++ [row]))
          rw [set_some ers, eup]
          refine LLL.put hL4 hpn hpb ep ?_
          rw [← eup]
          refine LL.snoc (hLp.keep fun u hu o e => kup (fun z => hpb bs (List.mem_of_getElem? ebs) (by rw [← z]; exact hu)) e) ?_
          exact kup (fun z => (hpf p hpp).2.2.2 (by rw [← z]; exact hca)) hrow4
        · rw [etk]
          exact (flat_set ebs).trans (hfl.append_right _)
        · rw [upd_ne (ne_of_none e (hpf p hpp).1)]
          exact k34.1 b o e f
        · rw [upd_ne (ne_of_none e (hpf p hpp).1)]
          exact k34.2 b qq e
    · obtain ⟨y4, y5, ps, bss, rfl, hl3, hL3, hfl, hpl, hpn, hpf, k3, hr3, hA3⟩ := hP
      rw [List.length_map, hlen, List.take_length] at hL3
      rw [List.length_map, List.take_length] at hfl
      have inAs : ∀ bs ∈ bss, ∀ b ∈ bs, b ∈ as := fun bs hb b hbb => hfl.subset (List.mem_flatten.mpr ⟨bs, hb, hbb⟩)
      refine ⟨_, rfl, q l ps bss H3 nl hl3 hL3 (fun p hp => ⟨(hpf p hp).1, (hpf p hp).2.1, fun bs hb z => (hpf p hp).2.2.2 (inAs bs hb p z)⟩) hpn (fun bs hb b hbb => ?_) (hfl.nodup_iff.mpr hnd) k3⟩
      exact ⟨s0.free (hfr b (inAs bs hb b hbb)).1, hbl b (inAs bs hb b hbb)⟩
end
end Fo
namespace Fo
open PySem PySem.Spec PyProof.Rows L2
/-! partings: what is put where -/
/-- each is nearer than d to those ahead of it -/
def DnA (w : Str) (d : Int) (rs : List (List Int)) : Prop := rs.Pairwise fun a b => farW w b a < d
structure PtOk (w : Str) (d : Int) (os : List (List Int)) (pp : List (List (List Int))) : Prop where
  flat : pp.flatten.Perm os
  ne : ∀ rs ∈ pp, rs ≠ []
  nr : ∀ rs ∈ pp, DnA w d rs
theorem flat_put : ∀ {pp : List (List (List Int))} {i : Nat} {rs : List (List Int)} {o : List Int}, pp[i]? = some rs → (pp.set i (rs ++ [o])).flatten.Perm (pp.flatten ++ [o])
  | [], _, _, _, e => by simp at e
  | b :: pp, 0, rs, o, e => by
    have e2 : b = rs := Option.some.inj e
    subst e2
    show ((b ++ [o]) ++ pp.flatten).Perm ((b ++ pp.flatten) ++ [o])
    rw [List.append_assoc, List.append_assoc]
    exact List.Perm.append_left b List.perm_append_comm
  | b :: pp, i + 1, rs, o, e => by
    show (b ++ (pp.set i (rs ++ [o])).flatten).Perm ((b ++ pp.flatten) ++ [o])
    rw [List.append_assoc]
    exact List.Perm.append_left b (flat_put (i := i) e)
theorem dnA_snoc {w : Str} {d : Int} {rs : List (List Int)} {o : List Int} (h : DnA w d rs) (hn : nearAll w d o rs = true) : DnA w d (rs ++ [o]) := by
  unfold DnA
  rw [List.pairwise_append]
  refine ⟨h, List.pairwise_cons.mpr ⟨fun x m => absurd m List.not_mem_nil, List.Pairwise.nil⟩, fun x hx y hy => ?_⟩
  rw [List.mem_singleton.mp hy]
  unfold nearAll at hn
  rw [List.all_eq_true] at hn
  exact of_decide_eq_true (hn x hx)
theorem ptOk_step {w : Str} {d : Int} {os : List (List Int)} {pp : List (List (List Int))} {o : List Int} (h : PtOk w d os pp) : PtOk w d (os ++ [o]) (stepP w d pp o) := by
  unfold stepP
  split
  · refine ⟨?_, fun rs m => ?_, fun rs m => ?_⟩
    · rw [List.flatten_append]
      exact List.Perm.append_right _ h.flat
    · rcases List.mem_append.mp m with m | m
      · exact h.ne rs m
      · rw [List.mem_singleton.mp m]
        simp
    · rcases List.mem_append.mp m with m | m
      · exact h.nr rs m
      · rw [List.mem_singleton.mp m]
        exact List.pairwise_cons.mpr ⟨fun x m => absurd m List.not_mem_nil, List.Pairwise.nil⟩
  · rename_i i e
    unfold homeP at e
    rw [List.findIdx?_eq_some_iff_getElem] at e
    obtain ⟨hi, hb, _⟩ := e
    have ei : pp[i]? = some pp[i] := List.getElem?_eq_getElem hi
    have eg : pp.getD i [] = pp[i] := by rw [List.getD_eq_getElem?_getD, ei]; rfl
    rw [eg]
    refine ⟨(flat_put ei).trans (List.Perm.append_right _ h.flat), fun rs m => ?_, fun rs m => ?_⟩
    · rcases List.mem_or_eq_of_mem_set m with m | m
      · exact h.ne rs m
      · rw [m]
        simp
    · rcases List.mem_or_eq_of_mem_set m with m | m
      · exact h.nr rs m
      · rw [m]
        exact dnA_snoc (h.nr _ (List.getElem_mem hi)) hb
theorem partL_ok {w : Str} {d : Int} (os : List (List Int)) : PtOk w d os (partL w d os) := by
  have key : ∀ i, i ≤ os.length → PtOk w d (os.take i) (partL w d (os.take i)) := by
    intro i
    induction i with
    | zero =>
      intro _
      rw [List.take_zero]
      exact ⟨List.Perm.refl _, fun _ m => absurd m List.not_mem_nil, fun _ m => absurd m List.not_mem_nil⟩
    | succ i ih =>
      intro hi
      have e : os[i]? = some os[i] := List.getElem?_eq_getElem hi
      rw [partL_more e, List.take_add_one, e]
      exact ptOk_step (ih (by omega))
  have z := key os.length (Nat.le_refl _)
  rw [List.take_length] at z
  exact z
theorem dnA_two {w : Str} {n : Nat} {d : Int} (hn : 1 ≤ n) : ∀ {rs : List (List Int)}, (∀ r ∈ rs, IsOrd n r) → DnA w d rs → ∀ x ∈ rs, ∀ y ∈ rs, x ≠ y → farW w x y < d
  | [], _, _, x, hx, _, _, _ => absurd hx List.not_mem_nil
  | a :: rs, ho, h, x, hx, y, hy, ne => by
    obtain ⟨h1, h2⟩ := List.pairwise_cons.mp h
    have oa := ho a List.mem_cons_self
    rcases List.mem_cons.mp hx with e | hx
    · rcases List.mem_cons.mp hy with e2 | hy
      · exact absurd (e.trans e2.symm) ne
      · rw [e, farW_turn (ho y (List.mem_cons_of_mem _ hy)) oa hn]; exact h1 y hy
    · rcases List.mem_cons.mp hy with e | hy
      · rw [e]
        exact h1 x hx
      · exact dnA_two hn (fun r m => ho r (List.mem_cons_of_mem _ m)) h2 x hx y hy ne
theorem dnA_of {w : Str} {d : Int} {rs : List (List Int)} (nd : rs.Nodup) (h : ∀ x ∈ rs, ∀ y ∈ rs, x ≠ y → farW w x y < d) : DnA w d rs := List.Pairwise.imp_of_mem (fun {a b} ma mb ne => h b mb a ma (fun e => ne e.symm)) nd
/-- no list of which any two lie apart is longer than a parting -/
theorem part_most {w : Str} {n : Nat} {d : Int} (hn : 1 ≤ n) : ∀ (pp : List (List (List Int))) (ss : List (List Int)), (∀ rs ∈ pp, ∀ r ∈ rs, IsOrd n r) → (∀ rs ∈ pp, DnA w d rs) → (∀ s ∈ ss, ∃ rs ∈ pp, s ∈ rs) → ss.Nodup → (∀ x ∈ ss, ∀ y ∈ ss, x ≠ y → d ≤ farW w x y) → ss.length ≤ pp.length
  | [], ss, _, _, hc, _, _ => by
    cases ss with
    | nil => exact Nat.le_refl _
    | cons a _ =>
      obtain ⟨_, m, _⟩ := hc a List.mem_cons_self
      exact absurd m List.not_mem_nil
  | rs :: pp, ss, ho, hd, hc, nd, hs => by
    have ih := part_most hn pp (ss.filter fun x => !decide (x ∈ rs)) (fun r m => ho r (List.mem_cons_of_mem _ m)) (fun r m => hd r (List.mem_cons_of_mem _ m)) (fun s m => by
      obtain ⟨ms, hn'⟩ := List.mem_filter.mp m
      obtain ⟨r, mr, hr⟩ := hc s ms
      rcases List.mem_cons.mp mr with rfl | mr
      · rw [decide_eq_true hr] at hn'; cases hn'
      · exact ⟨r, mr, hr⟩) (nd.filter _) (fun x mx y my => hs x (List.mem_filter.mp mx).1 y (List.mem_filter.mp my).1)
    have h1 : (ss.filter fun x => decide (x ∈ rs)).length ≤ 1 := by
      match hr : (ss.filter fun x => decide (x ∈ rs)), nd.filter (fun x => decide (x ∈ rs)) with
      | [], _ => exact Nat.zero_le _
      | [_], _ => exact Nat.le_refl _
      | a :: b :: t, nd' =>
        exfalso
        have ma : a ∈ ss.filter fun x => decide (x ∈ rs) := by rw [hr]; exact List.mem_cons_self
        have mb : b ∈ ss.filter fun x => decide (x ∈ rs) := by rw [hr]; exact List.mem_cons_of_mem _ List.mem_cons_self
        have ne : a ≠ b := fun e => (List.nodup_cons.mp nd').1 (by rw [e]; exact List.mem_cons_self)
        obtain ⟨a1, a2⟩ := List.mem_filter.mp ma
        obtain ⟨b1, b2⟩ := List.mem_filter.mp mb
        have u := hs a a1 b b1 ne
        have v := dnA_two hn (ho rs List.mem_cons_self) (hd rs List.mem_cons_self) a (of_decide_eq_true a2) b (of_decide_eq_true b2) ne
        omega
    have h2 := split_len (fun x => decide (x ∈ rs)) ss
    rw [List.length_cons]
    omega
theorem flat_len_ge : ∀ {pp : List (List (List Int))}, (∀ rs ∈ pp, rs ≠ []) → pp.length ≤ pp.flatten.length
  | [], _ => Nat.le_refl _
  | rs :: pp, h => by
    have ih := flat_len_ge (pp := pp) fun r m => h r (List.mem_cons_of_mem _ m)
    have h1 : 1 ≤ rs.length := by
      cases rs with
      | nil => exact absurd rfl (h [] List.mem_cons_self)
      | cons _ _ => exact Nat.succ_le_succ (Nat.zero_le _)
    rw [List.flatten_cons, List.length_append, List.length_cons]
    omega
theorem flat_len_le : ∀ {pp : List (List (List Int))}, (∀ rs ∈ pp, rs.length ≤ 1) → pp.flatten.length ≤ pp.length
  | [], _ => Nat.le_refl _
  | rs :: pp, h => by
    have ih := flat_len_le (pp := pp) fun r m => h r (List.mem_cons_of_mem _ m)
    have h1 := h rs List.mem_cons_self
    rw [List.flatten_cons, List.length_append, List.length_cons]
    omega
theorem flat_len_mem : ∀ {pp : List (List (List Int))} {rs : List (List Int)}, rs ∈ pp → rs.length ≤ pp.flatten.length
  | [], _, m => absurd m List.not_mem_nil
  | a :: pp, rs, m => by
    rw [List.flatten_cons, List.length_append]
    rcases List.mem_cons.mp m with rfl | m
    · omega
    · have := flat_len_mem m
      omega
theorem flat_take_len : ∀ {pp : List (List (List Int))} (i : Nat), (pp.take i).flatten.length ≤ pp.flatten.length
  | [], _ => by simp
  | a :: pp, 0 => by simp
  | a :: pp, i + 1 => by
    have := flat_take_len (pp := pp) i
    rw [List.take_succ_cons, List.flatten_cons, List.flatten_cons, List.length_append, List.length_append]
    omega
theorem flat_nodup : ∀ {pp : List (List (List Int))}, pp.flatten.Nodup → ∀ rs ∈ pp, rs.Nodup
  | [], _, rs, m => absurd m List.not_mem_nil
  | a :: pp, h, rs, m => by
    rw [List.flatten_cons, List.nodup_append] at h
    rcases List.mem_cons.mp m with rfl | m
    · exact h.1
    · exact flat_nodup h.2.1 rs m
/-- one apart: as many lists as orders -/
theorem part_one {w : Str} {n : Nat} (hw : IsWay w) (hn : 1 ≤ n) : (partL w 1 (allK n n)).length = (allK n n).length := by
  have k := partL_ok (w := w) (d := 1) (allK n n)
  have hm : ∀ rs ∈ partL w 1 (allK n n), ∀ r ∈ rs, IsOrd n r := fun rs m r mr => all_ord (k.flat.subset (List.mem_flatten.mpr ⟨rs, m, mr⟩))
  have nd : (partL w 1 (allK n n)).flatten.Nodup := (List.Perm.nodup_iff k.flat).mpr (allK_nodup (n := n) n)
  have h1 : ∀ rs ∈ partL w 1 (allK n n), rs.length ≤ 1 := fun rs m => by
    have ndr := flat_nodup nd rs m
    match rs, m, ndr with
    | [], _, _ => exact Nat.zero_le _
    | [_], _, _ => exact Nat.le_refl _
    | a :: b :: t, m, ndr =>
      exfalso
      have ne : a ≠ b := fun e => (List.nodup_cons.mp ndr).1 (by rw [e]; exact List.mem_cons_self)
      have oa := hm _ m a List.mem_cons_self
      have ob := hm _ m b (List.mem_cons_of_mem _ List.mem_cons_self)
      have h := dnA_two hn (hm _ m) (k.nr _ m) a List.mem_cons_self b (List.mem_cons_of_mem _ List.mem_cons_self) ne
      have h0 := farW_nonneg w a b
      exact ne (farW_zero hw oa ob hn (by omega))
  have a := flat_len_ge k.ne
  have b := flat_len_le h1
  have c := k.flat.length_eq
  omega
/-- farther apart than any two are: one list -/
theorem part_far {w : Str} {n : Nat} {d : Int} (hfar : ∀ x y, IsOrd n x → IsOrd n y → farW w x y < d) : ∀ (os : List (List Int)) (p : List (List Int)), (∀ o ∈ os, IsOrd n o) → (∀ o ∈ p, IsOrd n o) → (os.foldl (stepP w d) [p]).length = 1
  | [], _, _, _ => rfl
  | o :: os, p, ho, hp => by
    have hb : nearAll w d o p = true := by
      unfold nearAll
      rw [List.all_eq_true]
      exact fun x m => decide_eq_true (hfar o x (ho o List.mem_cons_self) (hp x m))
    have e : stepP w d [p] o = [p ++ [o]] := by
      unfold stepP
      have eh : homeP w d o [p] = some 0 := by
        unfold homeP
        rw [List.findIdx?_cons, if_pos hb]
      rw [eh]
      rfl
    rw [List.foldl_cons, e]
    exact part_far hfar os _ (fun x m => ho x (List.mem_cons_of_mem _ m)) fun x m => by
      rcases List.mem_append.mp m with m | m
      · exact hp x m
      · rw [List.mem_singleton.mp m]
        exact ho o List.mem_cons_self
theorem part_all {w : Str} {n : Nat} {d : Int} (hfar : ∀ x y, IsOrd n x → IsOrd n y → farW w x y < d) : (partL w d (allK n n)).length = 1 := by
  have h0 : rg n ∈ allK n n := ord_mem (List.Perm.refl _)
  have ho : ∀ o ∈ allK n n, IsOrd n o := fun o m => all_ord m
  unfold partL
  cases hk : allK n n with
  | nil => rw [hk] at h0; exact absurd h0 List.not_mem_nil
  | cons o os =>
    rw [hk] at ho
    rw [List.foldl_cons]
    have e : stepP w d [] o = [[o]] := rfl
    rw [e]
    exact part_far hfar os _ (fun x m => ho x (List.mem_cons_of_mem _ m)) fun x m => by rw [List.mem_singleton.mp m]; exact ho o List.mem_cons_self
theorem first_all {w : Str} {n : Nat} {d : Int} (hn : 1 ≤ n) (hfar : ∀ x y, IsOrd n x → IsOrd n y → farW w x y < d) : (firstL w d (allK n n)).length = 1 := by
  have ho : ∀ x ∈ firstL w d (allK n n), IsOrd n x := fun x m => all_ord (firstL_subset _ _ _ m)
  have u := upA_first w d (allK n n)
  have h1 : 1 ≤ (firstL w d (allK n n)).length := by
    cases hk : allK n n with
    | nil => exact absurd (ord_mem (show IsOrd n (rg n) from List.Perm.refl _)) (by rw [hk]; exact List.not_mem_nil)
    | cons o os => exact firstL_one
  match hf : firstL w d (allK n n), ho, u, h1 with
  | [], _, _, h1 => exact absurd h1 (by decide)
  | [_], _, _, _ => rfl
  | a :: b :: t, ho, u, _ =>
    exfalso
    have h := (List.pairwise_cons.mp u).1 b List.mem_cons_self
    have := hfar b a (ho b (List.mem_cons_of_mem _ List.mem_cons_self)) (ho a List.mem_cons_self)
    omega
theorem upA_two {w : Str} {n : Nat} {d : Int} (hn : 1 ≤ n) {rs : List (List Int)} (ho : ∀ r ∈ rs, IsOrd n r) (h : UpA w d rs) : ApL w d rs := List.Pairwise.imp_of_mem (fun {a b} ma mb h => by rw [farW_turn (ho b mb) (ho a ma) hn]; exact h) h
theorem two_upA {w : Str} {n : Nat} {d : Int} (hn : 1 ≤ n) {rs : List (List Int)} (ho : ∀ r ∈ rs, IsOrd n r) (h : ApL w d rs) : UpA w d rs := List.Pairwise.imp_of_mem (fun {a b} ma mb h => by rw [farW_turn (ho a ma) (ho b mb) hn]; exact h) h
/-- no list that lies apart is longer than the first parting -/
theorem part_bound {w : Str} {n : Nat} {d : Int} {ss : List (List Int)} (hn : 1 ≤ n) (hd : 1 ≤ d) (os : ∀ s ∈ ss, IsOrd n s) (h : ApL w d ss) : ss.length ≤ (partL w d (allK n n)).length := by
  have k := partL_ok (w := w) (d := d) (allK n n)
  refine part_most hn _ ss (fun rs m r mr => all_ord (k.flat.subset (List.mem_flatten.mpr ⟨rs, m, mr⟩))) k.nr (fun s m => ?_) (apL_nodup hn hd os h) (apL_two hn os h)
  exact List.mem_flatten.mp ((List.Perm.mem_iff k.flat).mpr (ord_mem (os s m)))
theorem upA_first_more {w : Str} {n : Nat} {d : Int} {o : List Int} (hn : 1 ≤ n) (hd : 1 ≤ d) (oo : IsOrd n o) : ¬ UpA w d (firstL w d (allK n n) ++ [o]) := fun u => by
  obtain ⟨f, mf, hf⟩ := first_near (w := w) (d := d) hn hd (allK n n) [] (fun x m => all_ord m) o (ord_mem oo)
  unfold UpA at u
  rw [List.pairwise_append] at u
  have := u.2.2 f mf o List.mem_cons_self
  omega
end Fo
namespace Fo
open PySem PySem.Spec PyProof.Rows L2
section
variable {P : Program} {w : World} {K : PySem.W.Frag} {mg : Str → Option Value} {base : Heap}
theorem scFac : FnScope ["n", "many", "things"] ["n"] (defScope s_count_orders) := ⟨rfl, rfl, rfl, by decide +kernel, rfl, by decide +kernel, by decide +kernel⟩
theorem ok_fac {f : Addr} {fd : FuncData} {k : Nat} (T : Df K mg "count_orders" s_count_orders ["n"] f fd) (B : Bi mg) : FnOk P w K mg base CX0 (k + 1) f fd ["n"] spFac := by
  refine T.F.ok scFac (fun vs H Q E h => ?_) (fun cdv A outer s H vs Q E hr h => ?_)
  · obtain ⟨n, rfl, _⟩ := h
    rfl
  · obtain ⟨n, rfl, hn, q⟩ := h
    refine ⟨_, 
      (pss_cons (ps_set (i := 1) scFac.nd rfl (.inl rfl) pe_int)
      (pss_cons (ps_for PassesOwn.never rfl (pi_range2 (by rfl) B.range (pa_cons pe_int (pa_cons (pe_op op_add (pv 0) pe_int) pa_nil))) (pg_name (i := 2) scFac.nd rfl (.inl rfl))
        (pss_one (ps_aug (i := 1) scFac.nd rfl (.inl rfl) (pv 2) iop_mul)))
      (pss_one (ps_ret (pv 1))))), ?_⟩
    refine ⟨_, rfl, (n : Int), 1, rfl, rfl, 1, _, rfl, ⟨by omega, by omega, by omega, by omega⟩, ?_⟩
    rw [show ((n : Int) + 1 - 1).toNat = n by omega]
    refine for_range (lo := 1) (n := n) (fun i σ H1 => ∃ y2 : Option V, σ = [some (.int n), some (.int (facN i)), y2] ∧ H1 = H) ⟨_, rfl, rfl⟩ (fun i σ H1 hi hW => ?_) (fun σ H1 hW => ?_)
    · obtain ⟨y2, rfl, rfl⟩ := hW
      have hf := fac_small i (by omega)
      refine ⟨_, rfl, _, rfl, _, _, rfl, rfl, .inl ⟨by omega, by omega⟩, some (.int (1 + (i : Int))), ?_, rfl⟩
      show [some (V.int (n : Int)), some (V.int (facN i * (1 + (i : Int)))), some (V.int (1 + (i : Int)))] = _
      rw [Int.add_comm 1 (i : Int)]
      rfl
    · obtain ⟨y2, rfl, rfl⟩ := hW
      exact ⟨_, rfl, q⟩
end
end Fo
namespace Fo
open PySem PySem.Spec PyProof.Rows L2
def leastB (w : Str) (n : Nat) (d : Int) : Int := (facN n + inW w n (d - 1) - 1) / inW w n (d - 1)
def mostB (w : Str) (n : Nat) (d : Int) : Int := facN n / inW w n ((d - 1) / 2)
def spBounds : Sp := fun vs H Q _ => ∃ (w : Str) (n : Nat) (d : Int), vs = [.str w, .int n, .int d] ∧ IsWay w ∧ 1 ≤ n ∧ n ≤ 12 ∧ 1 ≤ d ∧ ∀ (t : Addr) (H' : Hp), H t = none → H' t = some (.tup [.int (leastB w n d), .int (mostB w n d)]) → Same H H' → Q (.ref t) H'
theorem wide_in {w : Str} {n : Nat} {r i : Int} (hw : IsWay w) (h1 : 1 ≤ n) (h2 : n ≤ 12) (hr : 0 ≤ r) : CDivW i (inW w n r) := by
  obtain ⟨a, b⟩ := inW_good hw h1 h2 hr
  have e : (2 : Nat) ^ 44 = 17592186044416 := by decide
  exact wide_div (b := 44) (by omega) (by omega) (by decide) (by decide)
section
variable {P : Program} {w : World} {K : PySem.W.Frag} {mg : Str → Option Value} {base : Heap}
theorem scBounds : FnScope ["way", "n", "d", "orders", "most", "wide", "least"] ["way", "n", "d"] (defScope s_bounds_by_rounds) := ⟨rfl, rfl, rfl, by decide +kernel, rfl, by decide +kernel, by decide +kernel⟩
theorem ok_bounds {f f1 f2 f3 : Addr} {fd d1 d2 d3 : FuncData} {k : Nat} {tk : Tok} (T : Df K mg "bounds_by_rounds" s_bounds_by_rounds ["way", "n", "d"] f fd) (T_check_apart : Df K mg "check_apart" s_check_apart ["way", "n", "most", "d"] f1 d1) (T_count_orders : Df K mg "count_orders" s_count_orders ["n"] f2 d2) (T_known_within : Df K mg "known_within" s_known_within ["way", "n", "r"] f3 d3)
    (G_check_apart : FnOk P w K mg base CX0 k f1 d1 ["way", "n", "most", "d"] spApart) (G_count_orders : FnOk P w K mg base CX0 k f2 d2 ["n"] spFac) (G_known_within : FnOk P w K mg base CX0 k f3 d3 ["way", "n", "r"] spKW) (B : Bi mg) (mM : mg "MOST_THINGS" = some (.int 12 tk)) : FnOk P w K mg base CX0 (k + 1) f fd ["way", "n", "d"] spBounds := by
  refine T.F.ok scBounds (fun vs H Q E h => ?_) (fun cdv A outer s H vs Q E hr h => ?_)
  · obtain ⟨wy, n, d, rfl, _⟩ := h
    rfl
  · obtain ⟨wy, n, d, rfl, hw, hn1, hn2, hd, q⟩ := h
    refine ⟨_, 
      (pss_cons (ps_expr (pe_call G_check_apart hr (by rfl) T_check_apart.g T_check_apart.F.kp T_check_apart.b .nil pass0 (pa_cons (pv 0) (pa_cons (pv 1) (pa_cons (pe_glob (v := .int 12) (by rfl) mM ⟨_, rfl⟩) (pa_cons (pv 2) pa_nil))))))
      (pss_cons (ps_set (i := 3) scBounds.nd rfl (.inl rfl) (pe_call G_count_orders hr (by rfl) T_count_orders.g T_count_orders.F.kp T_count_orders.b .nil pass0 (pa_cons (pv 1) pa_nil)))
      (pss_cons (ps_set (i := 4) scBounds.nd rfl (.inl rfl) (pe_op op_fdivW (pv 3) (pe_call G_known_within hr (by rfl) T_known_within.g T_known_within.F.kp T_known_within.b .nil pass0 (pa_cons (pv 0) (pa_cons (pv 1) (pa_cons (pe_op op_fdiv (pe_op op_sub (pv 2) pe_int) pe_int) pa_nil))))))
      (pss_cons (ps_set (i := 5) scBounds.nd rfl (.inl rfl) (pe_call G_known_within hr (by rfl) T_known_within.g T_known_within.F.kp T_known_within.b .nil pass0 (pa_cons (pv 0) (pa_cons (pv 1) (pa_cons (pe_op op_sub (pv 2) pe_int) pa_nil)))))
      (pss_cons (ps_set (i := 6) scBounds.nd rfl (.inl rfl) (pe_op op_fdivW (pe_op op_sub (pe_op op_add (pv 3) (pv 5)) pe_int) (pv 5)))
      (pss_one (ps_ret (pe_tup (pa_cons (pv 6) (pa_cons (pv 4) pa_nil)))))))))), ?_⟩
    refine ⟨_, rfl, _, rfl, _, rfl, wy, n, 12, d, rfl, hw, by omega, by omega, hd, ?_⟩
    refine ⟨_, rfl, n, rfl, hn2, ?_⟩
    have hd2 : 0 ≤ (d - 1) / 2 := by omega
    refine ⟨_, rfl, _, rfl, _, rfl, _, rfl, d, 1, rfl, rfl, _, 2, rfl, rfl, ⟨by decide, by decide⟩, wy, n, (d - 1) / 2, rfl, hw, hn1, hn2, hd2, fun H1 s1 => ?_⟩
    refine ⟨_, _, rfl, rfl, wide_in hw hn1 hn2 hd2, ?_⟩
    refine ⟨_, rfl, _, rfl, _, rfl, d, 1, rfl, rfl, wy, n, d - 1, rfl, hw, hn1, hn2, by omega, fun H2 s2 => ?_⟩
    refine ⟨_, rfl, _, rfl, _, _, rfl, rfl, _, 1, rfl, rfl, _, rfl, _, _, rfl, rfl, wide_in hw hn1 hn2 (by omega), ?_⟩
    refine ⟨_, rfl, _, rfl, line_small (by show 2 ≤ 16777216; decide), fun t nt => ?_⟩
    exact q t _ ((s1.trans s2).free nt) upd_same ((s1.trans s2).trans (same_new nt))
end
end Fo
namespace Fo
open PySem PySem.Spec PyProof.Rows L2
def spMost : Sp := fun vs H Q _ => ∃ n d : Nat, vs = [.int n, .int d] ∧ 1 ≤ d ∧ d ≤ n ∧ n ≤ 12 ∧ Q (.int (facN n / facN (d - 1))) H
def bnd1 (w : Str) (n : Nat) (d : Int) : List (Str × Int) := [("rounds", mostB w n d)]
def bnd2 (w : Str) (n : Nat) (d : Int) : List (Str × Int) := if w = "spot" ∧ d ≤ (n : Int) then [("places", facN n / facN (d.toNat - 1))] else []
def bnd3 (w : Str) (n : Nat) (d : Int) : List (Str × Int) := if n ≤ 5 then [("parting", ((partL w d (allK n n)).length : Int))] else []
def bndL (w : Str) (n : Nat) (d : Int) : List (Str × Int) := bnd1 w n d ++ (bnd2 w n d ++ bnd3 w n d)
def IsLst (bs : List (Str × Int)) (m : Int) : Prop := m ∈ bs.map (·.2) ∧ ∀ j ∈ bs.map (·.2), m ≤ j
theorem IsLst.eq {bs : List (Str × Int)} {m m' : Int} (h : IsLst bs m) (h' : IsLst bs m') : m = m' := by
  have a := h.2 _ h'.1
  have b := h'.2 _ h.1
  omega
def wordsL (bs : List (Str × Int)) (m : Int) : List Str := (bs.filter (fun p => decide (p.2 = m))).map (·.1)
def kvB (bs : List (Str × Int)) : List (Key × V) := bs.map fun p => (.inr p.1, .int p.2)
def spBest (Pt : Addr) : Sp := fun vs H Q _ => ∃ (w : Str) (n : Nat) (d : Int), vs = [.str w, .int n, .int d] ∧ IsWay w ∧ 1 ≤ n ∧ n ≤ 6 ∧ 1 ≤ d ∧ GxR.TabG H Pt ∧
  ∀ (m : Int) (t l : Addr) (H' : Hp), IsLst (bndL w n d) m → H t = none → H l = none → t ≠ l → H' t = some (.tup [.int m, .ref l]) → H' l = some (.lst ((wordsL (bndL w n d) m).map V.str)) → KeepT H H' → Q (.ref t) H'
theorem KeepT.dk {H H' : Hp} (a : KeepT H H') {p : Addr} {kvs : List (Key × V)} (e : H p = some (.dK kvs)) : H' p = some (.dK kvs) := a.1 p _ e (fun q z => by cases z)
theorem KeepT.old {H H' H2 : Hp} (a : KeepT H H') {D : Addr} (nD : H D = none) (e : ∀ b, b ≠ D → H2 b = H' b) : KeepT H H2 := by
  refine ⟨fun b o eb f => ?_, fun b q eb => ?_⟩
  · rw [e b (ne_of_none eb nD)]
    exact a.1 b o eb f
  · rw [e b (ne_of_none eb nD)]
    exact a.2 b q eb
theorem words_more {bs : List (Str × Int)} {m : Int} {i : Nat} {p : Str × Int} (h : bs[i]? = some p) : wordsL (bs.take (i + 1)) m = wordsL (bs.take i) m ++ (if decide (p.2 = m) = true then [p.1] else []) := by
  unfold wordsL
  rw [List.take_add_one, h, List.filter_append, List.map_append]
  congr 1
  show List.map _ (List.filter _ [p]) = _
  rw [List.filter_cons]
  split <;> rfl
section
variable {P : Program} {w : World} {K : PySem.W.Frag} {mg : Str → Option Value} {base : Heap}
theorem scMost : FnScope ["n", "d"] ["n", "d"] (defScope s_most_by_places) := ⟨rfl, rfl, rfl, by decide +kernel, rfl, by decide +kernel, by decide +kernel⟩
theorem ok_most {f f1 f2 : Addr} {fd d1 d2 : FuncData} {k : Nat} {tk : Tok} (T : Df K mg "most_by_places" s_most_by_places ["n", "d"] f fd) (T_check_size : Df K mg "check_size" s_check_size ["thing", "most"] f1 d1) (T_count_orders : Df K mg "count_orders" s_count_orders ["n"] f2 d2) (G_check_size : FnOk P w K mg base CX0 k f1 d1 ["thing", "most"] spSize) (G_count_orders : FnOk P w K mg base CX0 k f2 d2 ["n"] spFac) (B : Bi mg) (mM : mg "MOST_THINGS" = some (.int 12 tk)) : FnOk P w K mg base CX0 (k + 1) f fd ["n", "d"] spMost := by
  refine T.F.ok scMost (fun vs H Q E h => ?_) (fun cdv A outer s H vs Q E hr h => ?_)
  · obtain ⟨n, d, rfl, _⟩ := h
    rfl
  · obtain ⟨n, d, rfl, h1, h2, h3, q⟩ := h
    refine ⟨_, 
      (pss_cons (ps_expr (pe_call G_check_size hr (by rfl) T_check_size.g T_check_size.F.kp T_check_size.b .nil pass0 (pa_cons (pv 0) (pa_cons (pe_glob (v := .int 12) (by rfl) mM ⟨_, rfl⟩) pa_nil))))
      (pss_cons (ps_expr (pe_call G_check_size hr (by rfl) T_check_size.g T_check_size.F.kp T_check_size.b .nil pass0 (pa_cons (pv 1) (pa_cons (pv 0) pa_nil))))
      (pss_one (ps_ret (pe_op op_fdiv (pe_call G_count_orders hr (by rfl) T_count_orders.g T_count_orders.F.kp T_count_orders.b .nil pass0 (pa_cons (pv 0) pa_nil)) (pe_call G_count_orders hr (by rfl) T_count_orders.g T_count_orders.F.kp T_count_orders.b .nil pass0 (pa_cons (pe_op op_sub (pv 1) pe_int) pa_nil))))))), ?_⟩
    refine ⟨_, rfl, n, 12, rfl, by omega, by omega, ?_⟩
    refine ⟨_, rfl, _, rfl, d, n, rfl, by omega, by omega, ?_⟩
    have hf := fac_small (d - 1) (by omega)
    exact ⟨_, rfl, n, rfl, h3, _, rfl, (d : Int), 1, rfl, rfl, d - 1, by show [V.int ((d : Int) - 1)] = _; rw [show (d : Int) - 1 = ((d - 1 : Nat) : Int) by omega], by omega, _, _, rfl, rfl, ⟨by omega, by omega⟩, q⟩
theorem scBest : FnScope ["way", "n", "d", "bounds", "most", "word", "bound"] ["way", "n", "d"] (defScope s_best_bound) := ⟨rfl, rfl, rfl, by decide +kernel, rfl, by decide +kernel, by decide +kernel⟩
set_option maxHeartbeats 2000000 in
theorem ok_best {f f1 f2 f3 f4 Pt : Addr} {fd d1 d2 d3 d4 : FuncData} {k : Nat} {tk1 tk2 : Tok} (T : Df K mg "best_bound" s_best_bound ["way", "n", "d"] f fd) (T_check_apart : Df K mg "check_apart" s_check_apart ["way", "n", "most", "d"] f1 d1) (T_bounds_by_rounds : Df K mg "bounds_by_rounds" s_bounds_by_rounds ["way", "n", "d"] f2 d2) (T_most_by_places : Df K mg "most_by_places" s_most_by_places ["n", "d"] f3 d3) (T_first_parting : Df K mg "first_parting" s_first_parting ["way", "n", "d"] f4 d4)
    (G_check_apart : FnOk P w K mg base CX0 k f1 d1 ["way", "n", "most", "d"] spApart) (G_bounds_by_rounds : FnOk P w K mg base CX0 k f2 d2 ["way", "n", "d"] spBounds) (G_most_by_places : FnOk P w K mg base CX0 k f3 d3 ["n", "d"] spMost) (G_first_parting : FnOk P w K mg base CX0 k f4 d4 ["way", "n", "d"] (spParting Pt)) (B : Bi mg) (mI : mg "MOST_LISTED" = some (.int 6 tk1)) (mL : mg "MOST_PARTED" = some (.int 5 tk2)) :
    FnOk P w K mg base CX0 (k + 1) f fd ["way", "n", "d"] (spBest Pt) := by
  refine T.F.ok scBest (fun vs H Q E h => ?_) (fun cdv A outer s H vs Q E hr h => ?_)
  · obtain ⟨wy, n, d, rfl, _⟩ := h
    rfl
  · obtain ⟨wy, n, d, rfl, hw, hn1, hn2, hd, ht, q⟩ := h
    refine ⟨_, 
      (pss_cons (ps_expr (pe_call G_check_apart hr (by rfl) T_check_apart.g T_check_apart.F.kp T_check_apart.b .nil pass0 (pa_cons (pv 0) (pa_cons (pv 1) (pa_cons (pe_glob (v := .int 6) (by rfl) mI ⟨_, rfl⟩) (pa_cons (pv 2) pa_nil))))))
      (pss_cons (ps_set (i := 3) scBest.nd rfl (.inl rfl) (pe_disp (pps_cons pe_str (pe_ix ix_tup (pe_call G_bounds_by_rounds hr (by rfl) T_bounds_by_rounds.g T_bounds_by_rounds.F.kp T_bounds_by_rounds.b .nil pass0 (pa_cons (pv 0) (pa_cons (pv 1) (pa_cons (pv 2) pa_nil)))) pe_int (fun _ _ => rfl)) pps_nil) (by rfl) (by rfl) (fun z => by cases z) (by decide)))
      (Evl.pss_cut (ps_if (PW.pt (pw_and (pt_cmpR op_eq (pv 0) pe_str (nomark _)) (pw_and1 (pt_cmpR op_le (pv 2) (pv 1) (nomark _)))))
        (pss_one (ps_dput (hu_of hr) (pv 3) pe_str (pe_call G_most_by_places hr (by rfl) T_most_by_places.g T_most_by_places.F.kp T_most_by_places.b .nil pass0 (pa_cons (pv 1) (pa_cons (pv 2) pa_nil))) (by rfl)))
        pss_nil)
      (Evl.pss_cut (ps_if (pt_cmpR op_le (pv 1) (pe_glob (v := .int 5) (by rfl) mL ⟨_, rfl⟩) (nomark _))
        (pss_one (ps_dput (hu_of hr) (pv 3) pe_str (pe_callB call_len_seq (by rfl) B.len PySem.boot_len (pa_cons (pe_call G_first_parting hr (by rfl) T_first_parting.g T_first_parting.F.kp T_first_parting.b .nil pass0 (pa_cons (pv 0) (pa_cons (pv 1) (pa_cons (pv 2) pa_nil)))) pa_nil)) (by rfl)))
        pss_nil)
      (pss_cons (ps_set (i := 4) scBest.nd rfl (.inr rfl) (pe_minVals rfl (by rfl) B.min (pv 3)))
      (pss_one (ps_ret (pe_tup (pa_cons (pv 4) (pa_cons (pe_lock (pe_lc (own := [("word", 5), ("bound", 6)]) (g := (gTup K 2 (gCons (gName 5) (gCons (gName 6) gNil)))) (tt := (tTest (tOp rEq (tVar 6) (tVar 4)))) (te := (tVar 5)) rfl scBest.nd (pi_items (pv 3)) (blkOk_by (N := ["way", "n", "d", "bounds", "most", "word", "bound"]) (sc := defScope s_best_bound) (by decide +kernel)) (fun _ _ _ _ _ => (pg_tup (by rfl) (pgs_cons (pg_name (i := 5) scBest.nd rfl (.inl rfl)) (pgs_cons (pg_name (i := 6) scBest.nd rfl (.inl rfl)) pgs_nil)))) (fun _ _ _ _ _ => (pts_one (pt_cmpR op_eq (pv 6) (pv 4) (nomark _)))) (fun _ _ _ _ _ => (pv 5)))) pa_nil)))))))))), ?_⟩
    refine ⟨_, rfl, _, rfl, _, rfl, wy, n, 6, d, rfl, hw, by omega, by omega, hd, ?_⟩
    refine fun p np => ?_
    refine ⟨_, rfl, _, rfl, _, rfl, wy, n, d, rfl, hw, hn1, by omega, hd, fun t H1 nt ht1 s1 => ?_⟩
    have s0 := same_new (o := .dK []) np
    refine ⟨t, _, _, _, rfl, rfl, SqT.of ht1, at2_1, s1 _ _ upd_same, [(.inr "rounds", .int (mostB wy n d))], rfl, (by show 1 ≤ 15; decide), ?_⟩
    have kk : KeepT H (upd H1 p (.dK (mergeK [] [(.inr "rounds", .int (mostB wy n d))]))) := (KeepT.of_same (s0.trans s1)).old np fun b hb => upd_ne hb
    have hp : (upd H1 p (.dK (mergeK [] [(.inr "rounds", .int (mostB wy n d))]))) p = some (.dK (kvB (bnd1 wy n d))) := upd_same
    generalize upd H1 p (.dK (mergeK [] [(.inr "rounds", .int (mostB wy n d))])) = H2 at kk hp ⊢
    refine ⟨fun σ' H' => σ' = [some (.str wy), some (.int n), some (.int d), some (.ref p), none, none, none] ∧ KeepT H H' ∧ H' p = some (.dK (kvB (bnd1 wy n d ++ bnd2 wy n d))), ?_, fun σ' H' hM => ?_⟩
    · refine ⟨_, rfl, rfl, _, rfl, ite2 (fun c => ?_) (fun c => ?_)⟩
      · have ew : wy = "spot" := by
          have := of_decide_eq_true c
          injection this
        refine ⟨_, rfl, _, rfl, _, _, rfl, rfl, _, rfl, ite2 (fun c2 => ?_) (fun c2 => ?_)⟩
        · have c3 : d ≤ (n : Int) := of_decide_eq_true c2
          refine ⟨_, rfl, _, rfl, n, d.toNat, by rw [Int.toNat_of_nonneg (by omega)]; rfl, by omega, by omega, by omega, ?_⟩
          refine ⟨_, rfl, p, _, rfl, DPut.k (k := .inr "places") hp (line_lt (by show 1 < 16777216; decide)), rfl, kk.old np fun b hb => upd_ne hb, ?_⟩
          rw [upd_same, putK_new _ (by rfl)]
          unfold bnd2
          rw [if_pos ⟨ew, c3⟩]
          rfl
        · refine ⟨rfl, kk, ?_⟩
          unfold bnd2
          rw [if_neg (fun z => c2 (decide_eq_true z.2)), List.append_nil]
          exact hp
      · refine iteF ⟨rfl, kk, ?_⟩
        unfold bnd2
        rw [if_neg (fun z => c (decide_eq_true (congrArg V.str z.1))), List.append_nil]
        exact hp
    · obtain ⟨rfl, k2, hp2⟩ := hM
      have hl2 : (kvB (bnd1 wy n d ++ bnd2 wy n d)).length ≤ 2 := by
        unfold kvB bnd1 bnd2
        rw [List.length_map]
        split
        · exact Nat.le_refl _
        · exact Nat.le_succ _
      have hv2 : valV (kvB (bnd1 wy n d ++ bnd2 wy n d)) (.inr "parting") = none := by
        unfold bnd1 bnd2
        split <;> rfl
      refine ⟨fun σ' H' => σ' = [some (.str wy), some (.int n), some (.int d), some (.ref p), none, none, none] ∧ KeepT H H' ∧ H' p = some (.dK (kvB (bndL wy n d))), ?_, fun σ' H' hM => ?_⟩
      · refine ⟨_, rfl, _, _, rfl, rfl, _, rfl, ite2 (fun c => ?_) (fun c => ?_)⟩
        · have c3 : (n : Int) ≤ 5 := of_decide_eq_true c
          refine ⟨_, rfl, _, rfl, _, rfl, wy, n, d, rfl, hw, hn1, by omega, hd, k2.tab ht, fun l ps bss H3 nl hl hL _ _ _ _ k3 => ?_⟩
          refine ⟨l, _, rfl, .inl (SqL.of hl), ?_⟩
          refine ⟨_, rfl, p, _, rfl, DPut.k (k := .inr "parting") (k3.dk hp2) (line_lt (by omega)), rfl, (k2.trans k3).old np fun b hb => upd_ne hb, ?_⟩
          rw [upd_same, putK_new _ hv2]
          unfold bndL bnd3
          rw [if_pos (by omega), List.length_map, hL.len.1, ← List.append_assoc]
          unfold kvB
          rw [List.map_append (l₁ := bnd1 wy n d ++ bnd2 wy n d)]
          rfl
        · refine ⟨rfl, k2, ?_⟩
          unfold bndL bnd3
          rw [if_neg (fun z => c (decide_eq_true (show (n : Int) ≤ 5 by omega))), List.append_nil]
          exact hp2
      · obtain ⟨rfl, k3, hp3⟩ := hM
        refine ⟨_, rfl, p, kvB (bndL wy n d), (bndL wy n d).map (·.2), rfl, hp3, ?_, ?_, fun m hm1 hm2 => ?_⟩
        · unfold kvB
          rw [List.map_map, List.map_map]
          rfl
        · unfold bndL bnd1
          exact fun z => by cases z
        have hm : IsLst (bndL wy n d) m := ⟨hm1, hm2⟩
        have hbl : (bndL wy n d).length ≤ 3 := by
          unfold bndL bnd1 bnd2 bnd3
          split <;> split <;> simp
        generalize hbs : bndL wy n d = bs at hp3 hm hbl q
        refine ⟨_, rfl, p, .dK (kvB bs), hp3, trivial, fun od => ?_⟩
        have kF : KeepT H (upd H' p (.frz od (.dK (kvB bs)))) := k3.old np fun b hb => upd_ne hb
        have hpF : (upd H' p (.frz od (.dK (kvB bs)))) p = some (.frz od (.dK (kvB bs))) := upd_same
        generalize upd H' p (.frz od (.dK (kvB bs))) = HF at kF hpF ⊢
        refine ⟨_, rfl, p, od, kvB bs, rfl, hpF, fun D nD => ?_⟩
        refine lc_it walk_items (fun i H5 => H5 D = some (.lst ((wordsL (bs.take i) m).map V.str)) ∧ Same HF H5)
          ⟨upd_same, same_new nD⟩ (fun i H5 _ hP => hP.2 _ _ hpF) (fun i x H5 H6 hi hP hy => ?_) (fun H5 hP => ?_)
        · obtain ⟨hD5, s5⟩ := hP
          obtain ⟨t, y1, y2, rfl, nt, rfl, e1, e2⟩ := hy
          obtain ⟨pr, epr⟩ : ∃ pr, bs[i]? = some pr := ⟨_, List.getElem?_eq_getElem (by unfold kvB at hi; rw [List.length_map] at hi; exact hi)⟩
          have ek : (kvB bs)[i]? = some (.inr pr.1, .int pr.2) := by
            unfold kvB
            rw [List.getElem?_map, epr]
            rfl
          dsimp only at e1 e2
          rw [ek] at e1 e2
          cases (Option.some.inj e1)
          cases (Option.some.inj e2)
          have s6 := same_new (o := .tup [kV (.inr pr.1), .int pr.2]) nt
          have wl : (wordsL (bs.take i) m).length ≤ 3 := by
            unfold wordsL
            rw [List.length_map]
            exact Nat.le_trans (List.length_filter_le _ _) (by rw [List.length_take]; omega)
          refine ⟨t, _, rfl, .inl (.inl upd_same), rfl, _, _, rfl, _, _, rfl, rfl, rfl, ?_⟩
          refine ⟨_, rfl, _, rfl, rfl, _, rfl, ite2 (fun c => ?_) (fun c => ?_)⟩
          · have c3 : pr.2 = m := by
              have := of_decide_eq_true c
              injection this
            refine ⟨_, rfl, _, s6 _ _ hD5, line_lt (by rw [List.length_map]; omega), ?_, fun u o e => ?_⟩
            · rw [upd_same, words_more epr, if_pos (decide_eq_true c3), List.map_append]
              rfl
            · rw [upd_ne (ne_of_none e nD)]
              exact s6 _ _ (s5 _ _ e)
          · refine ⟨?_, s5.trans s6⟩
            rw [words_more epr, if_neg (fun z => c (decide_eq_true (congrArg V.int (of_decide_eq_true z)))), List.append_nil]
            exact s6 _ _ hD5
        · obtain ⟨hD5, s5⟩ := hP
          have hp5 := s5 _ _ hpF
          have npD : D ≠ p := fun z => by rw [z, hpF] at nD; cases nD
          refine ⟨hp5, line_small (by show 2 ≤ 16777216; decide), fun t nt => ?_⟩
          have s7 := same_new (o := .tup [.int m, .ref D]) nt
          have k7 : KeepT H (upd H5 p (.dK (kvB bs))) := (kF.trans (KeepT.of_same s5)).old np fun b hb => upd_ne hb
          rw [show (kvB bs).length = bs.length from List.length_map _, List.take_length] at hD5
          have hD7 : (upd H5 p (.dK (kvB bs))) D = some (.lst ((wordsL bs m).map V.str)) := by
            rw [upd_ne npD]
            exact hD5
          exact q m t D _ hm (k7.free nt) (kF.free nD) (ne_of_none hD7 nt).symm upd_same (s7 _ _ hD7) (k7.trans (KeepT.of_same s7))
end
end Fo
namespace Fo
open PySem PySem.Spec PyProof.Rows L2
/-! bounds and lists: the reckoning -/
theorem fac_all : ∀ n, n ≤ 6 → (((allK n n).length : Nat) : Int) = facN n := by decide +kernel
theorem in_len {w : Str} {n : Nat} {r : Int} (hw : IsWay w) (h1 : 1 ≤ n) (h6 : n ≤ 6) (hr : 0 ≤ r) : (((nearL w n (rg n) r).length : Nat) : Int) = inW w n r := near_len30 hw (List.Perm.refl _) h1 h6 hr
theorem in_pos {w : Str} {n : Nat} {r : Int} (hw : IsWay w) (h1 : 1 ≤ n) (h6 : n ≤ 6) (hr : 0 ≤ r) : 1 ≤ inW w n r := by
  have o0 : IsOrd n (rg n) := List.Perm.refl _
  have m : rg n ∈ nearL w n (rg n) r := by
    unfold nearL
    exact List.mem_filter.mpr ⟨ord_mem o0, decide_eq_true (by rw [farW_self o0 h1]; exact hr)⟩
  have := List.length_pos_of_mem m
  have e := in_len hw h1 h6 hr
  omega
theorem in_le {w : Str} {n : Nat} {r : Int} (hw : IsWay w) (h1 : 1 ≤ n) (h6 : n ≤ 6) (hr : 0 ≤ r) : inW w n r ≤ facN n := by
  rw [← in_len hw h1 h6 hr, ← fac_all n h6]
  have := List.length_filter_le (fun o => decide (farW w (rg n) o ≤ r)) (allK n n)
  unfold nearL
  omega
theorem in_mono {w : Str} {n : Nat} {r r' : Int} (hw : IsWay w) (h1 : 1 ≤ n) (h6 : n ≤ 6) (hr : 0 ≤ r) (h : r ≤ r') : inW w n r ≤ inW w n r' := by
  rw [← in_len hw h1 h6 hr, ← in_len hw h1 h6 (by omega)]
  unfold nearL
  have : ((allK n n).filter fun o => decide (farW w (rg n) o ≤ r)).length ≤ ((allK n n).filter fun o => decide (farW w (rg n) o ≤ r')).length := by
    have key : ∀ l : List (List Int), (l.filter fun o => decide (farW w (rg n) o ≤ r)).length ≤ (l.filter fun o => decide (farW w (rg n) o ≤ r')).length := by
      intro l
      induction l with
      | nil => exact Nat.le_refl _
      | cons a l ih =>
        rw [List.filter_cons, List.filter_cons]
        by_cases c : farW w (rg n) a ≤ r
        · rw [if_pos (decide_eq_true c), if_pos (decide_eq_true (by omega))]
          simp only [List.length_cons]; omega
        · rw [if_neg (fun z => c (of_decide_eq_true z))]
          split
          · simp only [List.length_cons]; omega
          · exact ih
    exact key _
  omega
theorem in_zero {w : Str} {n : Nat} (hw : IsWay w) (h1 : 1 ≤ n) (h6 : n ≤ 6) : inW w n 0 = 1 := by
  have o0 : IsOrd n (rg n) := List.Perm.refl _
  have e : nearL w n (rg n) 0 = [rg n] := by
    unfold nearL
    refine filter_single (allK_nodup (n := n) n) (ord_mem o0) (decide_eq_true (by rw [farW_self o0 h1]; exact Int.le_refl _)) fun y my hy => ?_
    have h := of_decide_eq_true hy
    have h0 := farW_nonneg w (rg n) y
    exact (farW_zero hw o0 (all_ord my) h1 (by omega)).symm
  have := in_len hw h1 h6 (Int.le_refl 0)
  rw [e] at this
  simpa using this.symm
theorem div_b (E x : Int) (hx : 0 < x) : E / x * x ≤ E ∧ E < (E / x + 1) * x := ⟨Int.ediv_mul_le E (by omega), Int.lt_ediv_add_one_mul_self E hx⟩
theorem ceil_b (E x : Int) (hx : 0 < x) : ((E + x - 1) / x - 1) * x < E ∧ E ≤ (E + x - 1) / x * x := by
  obtain ⟨a, b⟩ := div_b (E + x - 1) x hx
  rw [Int.add_mul, Int.one_mul] at b
  rw [Int.sub_mul, Int.one_mul]
  omega
theorem div_le_of {E x k : Int} (hx : 0 < x) (h : k * x ≤ E) : k ≤ E / x := (Int.le_ediv_iff_mul_le hx).mpr h
theorem ceil_le_of {E x k : Int} (hx : 0 < x) (h : E ≤ k * x) : (E + x - 1) / x ≤ k := by
  have e : (E + x - 1) / x < k + 1 := Int.ediv_lt_of_lt_mul hx (by rw [Int.add_mul, Int.one_mul]; omega)
  omega
theorem least_le {w : Str} {n : Nat} {d : Int} (hw : IsWay w) (h1 : 1 ≤ n) (h6 : n ≤ 6) (hd : 1 ≤ d) : leastB w n d ≤ (((firstL w d (allK n n)).length : Nat) : Int) := by
  unfold leastB
  have e := in_len hw h1 h6 (show 0 ≤ d - 1 by omega)
  have p := in_pos hw h1 h6 (show 0 ≤ d - 1 by omega)
  have c := cover_first hw h1 h6 hd e
  rw [← fac_all n h6]
  refine ceil_le_of (by omega) ?_
  rw [← e]
  exact_mod_cast c
theorem most_ge {w : Str} {n : Nat} {d : Int} {ss : List (List Int)} (hw : IsWay w) (h1 : 1 ≤ n) (h6 : n ≤ 6) (hd : 1 ≤ d) (os : ∀ x ∈ ss, IsOrd n x) (as : ApL w d ss) : ((ss.length : Nat) : Int) ≤ mostB w n d := by
  unfold mostB
  have e := in_len hw h1 h6 (show 0 ≤ (d - 1) / 2 by omega)
  have p := in_pos hw h1 h6 (show 0 ≤ (d - 1) / 2 by omega)
  have c := pack_all hw h1 h6 os (show 0 ≤ (d - 1) / 2 by omega) (by omega) as e
  rw [← fac_all n h6]
  refine div_le_of (by omega) ?_
  rw [← e]
  exact_mod_cast c
theorem least_mono {w : Str} {n : Nat} {d : Int} (hw : IsWay w) (h1 : 1 ≤ n) (h6 : n ≤ 6) (hd : 1 ≤ d) : leastB w n (d + 1) ≤ leastB w n d := by
  unfold leastB
  have p := in_pos hw h1 h6 (show 0 ≤ d - 1 by omega)
  have p' := in_pos hw h1 h6 (show 0 ≤ d + 1 - 1 by omega)
  have m := in_mono hw h1 h6 (show 0 ≤ d - 1 by omega) (show d - 1 ≤ d + 1 - 1 by omega)
  have c := (ceil_b (facN n) (inW w n (d - 1)) (by omega)).2
  have k0 : 0 ≤ (facN n + inW w n (d - 1) - 1) / inW w n (d - 1) := Int.ediv_nonneg (by have := fac_all n h6; omega) (by omega)
  refine ceil_le_of (by omega) (Int.le_trans c ?_)
  exact Int.mul_le_mul_of_nonneg_left m k0
theorem most_mono {w : Str} {n : Nat} {d : Int} (hw : IsWay w) (h1 : 1 ≤ n) (h6 : n ≤ 6) (hd : 1 ≤ d) : mostB w n (d + 1) ≤ mostB w n d := by
  unfold mostB
  have p := in_pos hw h1 h6 (show 0 ≤ (d - 1) / 2 by omega)
  have p' := in_pos hw h1 h6 (show 0 ≤ (d + 1 - 1) / 2 by omega)
  have m := in_mono hw h1 h6 (show 0 ≤ (d - 1) / 2 by omega) (show (d - 1) / 2 ≤ (d + 1 - 1) / 2 by omega)
  have c := (div_b (facN n) (inW w n ((d + 1 - 1) / 2)) (by omega)).1
  have k0 : 0 ≤ facN n / inW w n ((d + 1 - 1) / 2) := Int.ediv_nonneg (by have := fac_all n h6; omega) (by omega)
  refine div_le_of (by omega) (Int.le_trans ?_ c)
  exact Int.mul_le_mul_of_nonneg_left m k0
theorem most_one {w : Str} {n : Nat} {d : Int} (hw : IsWay w) (h1 : 1 ≤ n) (h6 : n ≤ 6) (hd : 1 ≤ d) : 1 ≤ mostB w n d := by
  unfold mostB
  have p := in_pos hw h1 h6 (show 0 ≤ (d - 1) / 2 by omega)
  have l := in_le hw h1 h6 (show 0 ≤ (d - 1) / 2 by omega)
  exact div_le_of (by omega) (by omega)
theorem one_apart {w : Str} {n : Nat} (hw : IsWay w) (h1 : 1 ≤ n) (h6 : n ≤ 6) : leastB w n 1 = facN n ∧ mostB w n 1 = facN n := by
  unfold leastB mostB
  have z := in_zero hw h1 h6
  rw [show (1 : Int) - 1 = 0 by rfl, show (0 : Int) / 2 = 0 by rfl, z]
  constructor
  · rw [Int.ediv_one]; omega
  · rw [Int.ediv_one]
/-- two orders alike at all of the first n - d + 1 places differ at fewer than d -/
theorem above_len : ∀ n : Nat, n ≤ 6 → ∀ m : Nat, m ≤ 6 → ((rg n).filter fun q => decide ((m : Int) ≤ q)).length ≤ n - m := by decide +kernel
theorem heads_len : ∀ n : Nat, n ≤ 6 → ∀ d : Nat, d ≤ 6 → 1 ≤ d → d ≤ n → (((allK n (n - d + 1)).length : Nat) : Int) = facN n / facN (d - 1) := by decide +kernel
theorem filter_len_mono {p q : Int → Bool} : ∀ {l : List Int}, (∀ x ∈ l, p x = true → q x = true) → (l.filter p).length ≤ (l.filter q).length
  | [], _ => Nat.le_refl _
  | a :: l, h => by
    have ih := filter_len_mono (p := p) (q := q) (l := l) fun x m => h x (List.mem_cons_of_mem _ m)
    rw [List.filter_cons, List.filter_cons]
    by_cases c : p a = true
    · rw [if_pos c, if_pos (h a List.mem_cons_self c)]
      simp only [List.length_cons]; omega
    · rw [if_neg c]
      split
      · simp only [List.length_cons]; omega
      · exact ih
theorem spot_head {n : Nat} {d : Nat} {x y : List Int} (ox : IsOrd n x) (oy : IsOrd n y) (hn : n ≤ 6) (hd : 1 ≤ d) (hdn : d ≤ n) (h : x.take (n - d + 1) = y.take (n - d + 1)) : farW "spot" x y < d := by
  rw [farW_spot]
  unfold farSpot spotL
  rw [ox.len]
  have hm := above_len n hn (n - d + 1) (by omega)
  have hle : ((rg n).filter fun p => !decide (g0 x p = g0 y p)).length ≤ ((rg n).filter fun q => decide (((n - d + 1 : Nat) : Int) ≤ q)).length := by
    refine filter_len_mono fun p mp hp => ?_
    refine decide_eq_true (Classical.byContradiction fun c => ?_)
    have hb := rg_mem.mp mp
    have e : g0 x p = g0 y p := by
      have h2 : (x.take (n - d + 1))[p.toNat]? = (y.take (n - d + 1))[p.toNat]? := by rw [h]
      rw [List.getElem?_take_of_lt (by omega), List.getElem?_take_of_lt (by omega)] at h2
      unfold g0
      rw [List.getD_eq_getElem?_getD, List.getD_eq_getElem?_getD, h2]
    rw [decide_eq_true e] at hp
    cases hp
  omega
theorem places_ge {n d : Nat} {ss : List (List Int)} (h1 : 1 ≤ n) (h6 : n ≤ 6) (hd : 1 ≤ d) (hdn : d ≤ n) (os : ∀ x ∈ ss, IsOrd n x) (as : ApL "spot" (d : Int) ss) : ((ss.length : Nat) : Int) ≤ facN n / facN (d - 1) := by
  rw [← heads_len n h6 d (by omega) hd hdn]
  have nd : (ss.map fun x => x.take (n - d + 1)).Nodup := by
    show List.Pairwise _ _
    rw [List.pairwise_map]
    refine List.Pairwise.imp_of_mem (fun {a b} ma mb hab e => ?_) as
    have := spot_head (os a ma) (os b mb) h6 hd hdn e
    omega
  have hl := nodup_lenG nd (m := allK n (n - d + 1)) fun y my => by
    obtain ⟨x, mx, rfl⟩ := List.mem_map.mp my
    have ox := os x mx
    refine allK_mem _ _ (by rw [List.length_take, ox.len]; omega) (ox.nodup.sublist (List.take_sublist _ _)) fun t mt => rg_mem.mpr (ox.mem (List.mem_of_mem_take mt))
  rw [List.length_map] at hl
  exact_mod_cast hl
/-- what the least of the bounds is, and the words -/
theorem bnd_rounds {w : Str} {n : Nat} {d : Int} : (("rounds" : Str), mostB w n d) ∈ bndL w n d := List.mem_append_left _ List.mem_cons_self
theorem bnd_ge {w : Str} {n : Nat} {d m : Int} {ss : List (List Int)} (hw : IsWay w) (h1 : 1 ≤ n) (h6 : n ≤ 6) (hd : 1 ≤ d) (hm : IsLst (bndL w n d) m) (os : ∀ x ∈ ss, IsOrd n x) (as : ApL w d ss) : ((ss.length : Nat) : Int) ≤ m := by
  obtain ⟨p, mp, e⟩ := List.mem_map.mp hm.1
  rw [← e]
  unfold bndL bnd1 bnd2 bnd3 at mp
  rcases List.mem_append.mp mp with mp | mp
  · rw [List.mem_singleton.mp mp]
    exact most_ge hw h1 h6 hd os as
  rcases List.mem_append.mp mp with mp | mp
  · split at mp
    · rename_i c
      rw [List.mem_singleton.mp mp]
      obtain ⟨rfl, c2⟩ := c
      have e2 : ((d.toNat : Nat) : Int) = d := by omega
      exact places_ge h1 h6 (by omega) (by omega) os (by rw [e2]; exact as)
    · exact absurd mp List.not_mem_nil
  · split at mp
    · rw [List.mem_singleton.mp mp]
      have := part_bound h1 hd os as
      show ((ss.length : Nat) : Int) ≤ (((partL w d (allK n n)).length : Nat) : Int)
      omega
    · exact absurd mp List.not_mem_nil
theorem words_mem {bs : List (Str × Int)} {m : Int} {k : Str} {v : Int} (hk : (k, v) ∈ bs) (hu : ∀ p ∈ bs, p.1 = k → p.2 = v) : k ∈ wordsL bs m ↔ v = m := by
  unfold wordsL
  rw [List.mem_map]
  constructor
  · rintro ⟨p, mp, e⟩
    obtain ⟨a, b⟩ := List.mem_filter.mp mp
    rw [← hu p a e]
    exact of_decide_eq_true b
  · intro e
    exact ⟨(k, v), List.mem_filter.mpr ⟨hk, decide_eq_true e⟩, rfl⟩
theorem words_ne {bs : List (Str × Int)} {m : Int} (h : IsLst bs m) : wordsL bs m ≠ [] := fun e => by
  obtain ⟨p, mp, ep⟩ := List.mem_map.mp h.1
  unfold wordsL at e
  have := List.filter_eq_nil_iff.mp (List.map_eq_nil_iff.mp e) p mp
  exact this (decide_eq_true ep)
theorem bnd_key {w : Str} {n : Nat} {d : Int} {p : Str × Int} (h : p ∈ bndL w n d) : (p.1 = "rounds" ∧ p.2 = mostB w n d) ∨ (p.1 = "places" ∧ w = "spot" ∧ d ≤ n ∧ p.2 = facN n / facN (d.toNat - 1)) ∨ (p.1 = "parting" ∧ n ≤ 5 ∧ p.2 = (((partL w d (allK n n)).length : Nat) : Int)) := by
  unfold bndL bnd1 bnd2 bnd3 at h
  rcases List.mem_append.mp h with h | h
  · rw [List.mem_singleton.mp h]; exact .inl ⟨rfl, rfl⟩
  rcases List.mem_append.mp h with h | h
  · split at h
    · rename_i c
      rw [List.mem_singleton.mp h]; exact .inr (.inl ⟨rfl, c.1, c.2, rfl⟩)
    · exact absurd h List.not_mem_nil
  · split at h
    · rename_i c
      rw [List.mem_singleton.mp h]; exact .inr (.inr ⟨rfl, c, rfl⟩)
    · exact absurd h List.not_mem_nil
theorem key_ne : ("rounds" : Str) ≠ "places" ∧ ("rounds" : Str) ≠ "parting" ∧ ("places" : Str) ≠ "parting" := by decide +kernel
theorem w_rounds {w : Str} {n : Nat} {d m : Int} : ("rounds" : Str) ∈ wordsL (bndL w n d) m ↔ mostB w n d = m := words_mem bnd_rounds fun p mp e => by
  rcases bnd_key mp with ⟨_, h⟩ | ⟨h, _⟩ | ⟨h, _⟩
  · exact h
  · exact absurd (e.symm.trans h) key_ne.1
  · exact absurd (e.symm.trans h) key_ne.2.1
theorem w_places {w : Str} {n : Nat} {d m : Int} (hw : w = "spot") (hd : d ≤ n) : ("places" : Str) ∈ wordsL (bndL w n d) m ↔ facN n / facN (d.toNat - 1) = m := words_mem (by
    unfold bndL bnd2
    rw [if_pos ⟨hw, hd⟩]
    exact List.mem_append_right _ (List.mem_append_left _ List.mem_cons_self)) fun p mp e => by
  rcases bnd_key mp with ⟨h, _⟩ | ⟨_, _, _, h⟩ | ⟨h, _⟩
  · exact absurd (h.symm.trans e) key_ne.1
  · exact h
  · exact absurd (e.symm.trans h) key_ne.2.2
theorem w_parting {w : Str} {n : Nat} {d m : Int} (hn : n ≤ 5) : ("parting" : Str) ∈ wordsL (bndL w n d) m ↔ (((partL w d (allK n n)).length : Nat) : Int) = m := words_mem (by
    unfold bndL bnd3
    rw [if_pos hn]
    exact List.mem_append_right _ (List.mem_append_right _ List.mem_cons_self)) fun p mp e => by
  rcases bnd_key mp with ⟨h, _⟩ | ⟨h, _⟩ | ⟨_, _, h⟩
  · exact absurd (h.symm.trans e) key_ne.2.1
  · exact absurd (h.symm.trans e) key_ne.2.2
  · exact h
theorem lst_le {w : Str} {n : Nat} {d m : Int} (h : IsLst (bndL w n d) m) {k : Str} {v : Int} (hk : (k, v) ∈ bndL w n d) : m ≤ v := h.2 v (List.mem_map.mpr ⟨(k, v), hk, rfl⟩)
theorem fac_div : ∀ n : Nat, n ≤ 6 → ∀ d : Nat, d ≤ 6 → d ≤ n → 1 ≤ facN n / facN (d - 1) := by decide +kernel
theorem part_pos {w : Str} {n : Nat} {d : Int} : 1 ≤ (partL w d (allK n n)).length := by
  have k := partL_ok (w := w) (d := d) (allK n n)
  have h := k.flat.length_eq
  have h0 : 1 ≤ (allK n n).length := List.length_pos_of_mem (ord_mem (show IsOrd n (rg n) from List.Perm.refl _))
  cases hp : partL w d (allK n n) with
  | nil => rw [hp] at h; simp at h; omega
  | cons _ _ => exact Nat.succ_le_succ (Nat.zero_le _)
theorem lst_one {w : Str} {n : Nat} {d m : Int} (hw : IsWay w) (h1 : 1 ≤ n) (h6 : n ≤ 6) (hd : 1 ≤ d) (h : IsLst (bndL w n d) m) : 1 ≤ m := by
  obtain ⟨p, mp, e⟩ := List.mem_map.mp h.1
  rw [← e]
  rcases bnd_key mp with ⟨_, h⟩ | ⟨_, _, c, h⟩ | ⟨_, _, h⟩ <;> rw [h]
  · exact most_one hw h1 h6 hd
  · exact fac_div n h6 d.toNat (by omega) (by omega)
  · have := part_pos (w := w) (n := n) (d := d)
    omega
theorem lst_first {w : Str} {n : Nat} {m : Int} (hw : IsWay w) (h1 : 1 ≤ n) (h6 : n ≤ 6) (h : IsLst (bndL w n 1) m) : m = facN n := by
  obtain ⟨p, mp, e⟩ := List.mem_map.mp h.1
  rw [← e]
  rcases bnd_key mp with ⟨_, h⟩ | ⟨_, _, c, h⟩ | ⟨_, _, h⟩ <;> rw [h]
  · exact (one_apart hw h1 h6).2
  · show facN n / facN 0 = facN n
    rw [show facN 0 = 1 from rfl, Int.ediv_one]
  · rw [part_one hw h1, fac_all n h6]
end Fo
namespace Fo
open PySem PySem.Spec PyProof.Rows L2
def spChkMany : Sp := fun vs H Q _ => ∃ m : Int, vs = [.int m] ∧ m ≤ 120 ∧ Q .non H
def evenN (n : Nat) : Nat := ((allK n n).filter fun o => decide (V.int (farSwap (rg n) o % 2) = V.int 0)).length
theorem even_len : ∀ n : Nat, n ≤ 5 → 3 ≤ n → ((evenN n : Nat) : Int) = facN n / facN 2 := by decide +kernel
theorem ring_len : ∀ n : Nat, n ≤ 12 → 1 ≤ n → facN n / facN (n - 1) = (n : Int) := by decide +kernel
def spEven : Sp := fun vs H Q _ => ∃ n : Nat, vs = [.int n] ∧ 3 ≤ n ∧ n ≤ 5 ∧ ∀ (l : Addr) (as : List Addr) (H' : Hp), H' l = some (.lst (as.map V.ref)) → as.length = evenN n → Same H H' → Q (.ref l) H'
def spRing : Sp := fun vs H Q _ => ∃ n : Nat, vs = [.int n] ∧ 1 ≤ n ∧ n ≤ 12 ∧ ∀ (l : Addr) (xs : List V) (H' : Hp), H' l = some (.lst xs) → xs.length = n → Same H H' → Q (.ref l) H'
def spM62 : Sp := fun vs H Q _ => ∃ n : Nat, vs = [.int n] ∧ 1 ≤ n ∧ n ≤ 12 ∧ ∀ H', Same H H' → Q (.bl true) H'
theorem head5 : ∀ n : Nat, n ≤ 5 → 1 ≤ n → (allK n n).head? = some (rg n) := by decide +kernel
section
variable {P : Program} {w : World} {K : PySem.W.Frag} {mg : Str → Option Value} {base : Heap}
theorem scCM : FnScope ["many"] ["many"] (defScope s_check_many) := ⟨rfl, rfl, rfl, by decide +kernel, rfl, by decide +kernel, by decide +kernel⟩
theorem ok_chkMany {f : Addr} {fd : FuncData} {k : Nat} {tk : Tok} (T : Df K mg "check_many" s_check_many ["many"] f fd) (B : Bi mg) (mO : mg "MOST_ORDERS" = some (.int 120 tk)) : FnOk P w K mg base CX0 (k + 1) f fd ["many"] spChkMany := by
  refine T.F.ok scCM (fun vs H Q E h => ?_) (fun cdv A outer s H vs Q E hr h => ?_)
  · obtain ⟨m, rfl, _⟩ := h
    rfl
  · obtain ⟨m, rfl, hm, q⟩ := h
    refine ⟨_, 
      (pss_one (ps_if (pt_cmpR op_gt (pv 0) (pe_glob (v := .int 120) (by rfl) mO ⟨_, rfl⟩) (nomark _))
        (pss_one ps_never)
        pss_nil)), ?_⟩
    exact ⟨_, rfl, _, 120, rfl, rfl, _, rfl, ite2 (fun z => absurd (of_decide_eq_true z) (by omega)) (fun _ => q)⟩
theorem scEv : FnScope ["n", "orders", "order"] ["n"] (defScope s_even_orders) := ⟨rfl, rfl, rfl, by decide +kernel, rfl, by decide +kernel, by decide +kernel⟩
set_option maxHeartbeats 2000000 in
theorem ok_even {f f1 f2 f3 f4 f5 : Addr} {fd d1 d2 d3 d4 d5 : FuncData} {k : Nat} {tk : Tok} (T : Df K mg "even_orders" s_even_orders ["n"] f fd) (T_check_size : Df K mg "check_size" s_check_size ["thing", "most"] f1 d1) (T_check_many : Df K mg "check_many" s_check_many ["many"] f2 d2) (T_count_orders : Df K mg "count_orders" s_count_orders ["n"] f3 d3) (T_all_orders : Df K mg "all_orders" s_all_orders ["n"] f4 d4) (T_far_by_swap : Df K mg "far_by_swap" s_far_by_swap ["one", "other"] f5 d5) (G_check_size : FnOk P w K mg base CX0 k f1 d1 ["thing", "most"] spSize) (G_check_many : FnOk P w K mg base CX0 k f2 d2 ["many"] spChkMany) (G_count_orders : FnOk P w K mg base CX0 k f3 d3 ["n"] spFac) (G_all_orders : FnOk P w K mg base CX0 k f4 d4 ["n"] spAllO) (G_far_by_swap : FnOk P w K mg base CX0 k f5 d5 ["one", "other"] spSwap) (B : Bi mg) (mM : mg "MOST_THINGS" = some (.int 12 tk)) : FnOk P w K mg base CX0 (k + 1) f fd ["n"] spEven := by
  refine T.F.ok scEv (fun vs H Q E h => ?_) (fun cdv A outer s H vs Q E hr h => ?_)
  · obtain ⟨n, rfl, _⟩ := h
    rfl
  · obtain ⟨n, rfl, h3, h5, q⟩ := h
    refine ⟨_, 
      (pss_cons (ps_expr (pe_call G_check_size hr (by rfl) T_check_size.g T_check_size.F.kp T_check_size.b .nil pass0 (pa_cons (pv 0) (pa_cons (pe_glob (v := .int 12) (by rfl) mM ⟨_, rfl⟩) pa_nil))))
      (pss_cons (ps_expr (pe_call G_check_many hr (by rfl) T_check_many.g T_check_many.F.kp T_check_many.b .nil pass0 (pa_cons (pe_op op_fdiv (pe_call G_count_orders hr (by rfl) T_count_orders.g T_count_orders.F.kp T_count_orders.b .nil pass0 (pa_cons (pv 0) pa_nil)) pe_int) pa_nil)))
      (pss_cons (ps_set (i := 1) scEv.nd rfl (.inr rfl) (pe_call G_all_orders hr (by rfl) T_all_orders.g T_all_orders.F.kp T_all_orders.b .nil pass0 (pa_cons (pv 0) pa_nil)))
      (pss_one (ps_ret (pe_lc (own := [("order", 2)]) (g := (gName 2)) (tt := (tTest (tOp rEq (tOp (rI (fun _ j => 0 < j) fun i j => .int (i % j)) (tCall spSwap [] E0 (tCons (tOp (rIxL K) (tVar 1) (tC (.int 0))) (tCons (tVar 2) tNil))) (tC (.int 2))) (tC (.int 0))))) (te := (tVar 2)) rfl scEv.nd (pi_list (pv 1)) (blkOk_by (N := ["n", "orders", "order"]) (sc := defScope s_even_orders) (by decide +kernel)) (fun _ _ _ _ _ => (pg_name (i := 2) scEv.nd rfl (.inl rfl))) (fun _ _ _ _ _ => (pts_one (pt_cmpR op_eq (pe_op op_mod (pe_call G_far_by_swap hr (by rfl) T_far_by_swap.g T_far_by_swap.F.kp T_far_by_swap.b .nil pass0 (pa_cons (pe_ix ix_list (pv 1) pe_int (fun _ _ => rfl)) (pa_cons (pv 2) pa_nil))) pe_int) pe_int (nomark _)))) (fun _ _ _ _ _ => (pv 2)))))))), ?_⟩
    refine ⟨_, rfl, n, 12, rfl, by omega, by omega, ?_⟩
    have hf : facN n / 2 ≤ 120 := (show ∀ m : Nat, m ≤ 5 → facN m / 2 ≤ 120 by decide +kernel) n h5
    refine ⟨_, rfl, n, rfl, by omega, _, 2, rfl, rfl, ⟨by decide, by decide⟩, _, rfl, hf, ?_⟩
    refine ⟨_, rfl, n, rfl, by omega, by omega, fun al aas H2 nal hal hLL _ _ s2 => ?_⟩
    have lal := hLL.len
    have A5 : (allK n n).length ≤ 120 := (show ∀ m, m ≤ 5 → (allK m m).length ≤ 120 by decide +kernel) n h5
    have hh := head5 n h5 (by omega)
    obtain ⟨tl, hk⟩ : ∃ tl, allK n n = rg n :: tl := by
      cases hk : allK n n with
      | nil => rw [hk] at hh; cases hh
      | cons a tl => rw [hk] at hh; cases hh; exact ⟨tl, rfl⟩
    obtain ⟨b0, eb0⟩ : ∃ b0, aas[0]? = some b0 := ⟨aas[0]'(by rw [lal, hk]; exact Nat.succ_pos _), List.getElem?_eq_getElem _⟩
    obtain ⟨r0, er0, hb0⟩ := hLL.get eb0
    obtain rfl : r0 = rg n := by rw [hk] at er0; exact (Option.some.inj er0).symm
    refine ⟨_, rfl, al, rfl, ⟨_, SqL.of hal⟩, fun p np => ?_⟩
    refine lc_list (K := K) (a := al) (xs := aas.map V.ref) (fun i G => ∃ cs : List Addr, G p = some (.lst (cs.map V.ref)) ∧ cs.length = (((allK n n).take i).filter fun o => decide (V.int (farSwap (rg n) o % 2) = V.int 0)).length ∧ Same H2 G) ⟨[], upd_same, rfl, same_new np⟩ (fun i G _ hP => by obtain ⟨_, _, _, sm⟩ := hP; exact SqL.of (sm _ _ hal)) (fun i x G hx hP => ?_) (fun G hP => ?_)
    · obtain ⟨cs, hp, hcl, sm⟩ := hP
      obtain ⟨c0, ec, rfl⟩ := ref_at_inv hx
      obtain ⟨row, er, hc⟩ := (hLL.same sm).get ec
      have lc : cs.length ≤ 120 := by
        rw [hcl]
        refine Nat.le_trans (List.length_filter_le _ _) ?_
        rw [List.length_take]
        omega
      have et : ((allK n n).take (i + 1)).filter (fun o => decide (V.int (farSwap (rg n) o % 2) = V.int 0)) = ((allK n n).take i).filter (fun o => decide (V.int (farSwap (rg n) o % 2) = V.int 0)) ++ (if decide (V.int (farSwap (rg n) row % 2) = V.int 0) = true then [row] else []) := filter_moreL _ er
      refine ⟨rfl, _, rfl, al, _, 0, _, rfl, rfl, SqL.of (sm _ _ hal), at_of (j := 0) rfl (ref_at eb0), _, rfl, b0, c0, n, rg n, row, ⟨rfl, sm _ _ hb0, hc, List.Perm.refl _, all_ord (List.mem_of_getElem? er), by omega, by omega⟩, fun G2 s3 => ?_⟩
      refine ⟨_, 2, rfl, rfl, (show (0 : Int) < 2 by decide), rfl, _, rfl, ite2 (fun c => ?_) (fun c => ?_)⟩
      · rw [if_pos c] at et
        refine ⟨_, rfl, _, s3 _ _ hp, line_lt (by rw [List.length_map]; omega), cs ++ [c0], by rw [upd_same, List.map_append]; rfl, by rw [et, List.length_append, List.length_append, hcl]; rfl, fun b o e => ?_⟩
        rw [upd_ne (ne_of_none e np)]
        exact s3 _ _ (sm _ _ e)
      · rw [if_neg c, List.append_nil] at et
        exact ⟨cs, s3 _ _ hp, by rw [et]; exact hcl, sm.trans s3⟩
    · obtain ⟨cs, hp, hcl, sm⟩ := hP
      rw [List.take_of_length_le (by rw [List.length_map]; omega)] at hcl
      exact q p cs G hp hcl (s2.trans sm)
theorem scRi : FnScope ["n", "more", "thing"] ["n"] (defScope s_ring_orders) := ⟨rfl, rfl, rfl, by decide +kernel, rfl, by decide +kernel, by decide +kernel⟩
set_option maxHeartbeats 2000000 in
theorem ok_ring {f f1 : Addr} {fd d1 : FuncData} {k : Nat} {tk : Tok} (T : Df K mg "ring_orders" s_ring_orders ["n"] f fd) (T_check_size : Df K mg "check_size" s_check_size ["thing", "most"] f1 d1) (G_check_size : FnOk P w K mg base CX0 k f1 d1 ["thing", "most"] spSize) (B : Bi mg) (mM : mg "MOST_THINGS" = some (.int 12 tk)) : FnOk P w K mg base CX0 (k + 1) f fd ["n"] spRing := by
  refine T.F.ok scRi (fun vs H Q E h => ?_) (fun cdv A outer s H vs Q E hr h => ?_)
  · obtain ⟨n, rfl, _⟩ := h
    rfl
  · obtain ⟨n, rfl, h1, h2, q⟩ := h
    refine ⟨_, 
      (pss_cons (ps_expr (pe_call G_check_size hr (by rfl) T_check_size.g T_check_size.F.kp T_check_size.b .nil pass0 (pa_cons (pv 0) (pa_cons (pe_glob (v := .int 12) (by rfl) mM ⟨_, rfl⟩) pa_nil))))
      (pss_one (ps_ret (pe_lc (own := [("more", 1)]) (g := (gName 1)) (tt := tYes) (te := (tLc (iRng1 (tCons (tVar 0) tNil)) (gName 2) tYes (tOp (rI (fun _ j => 0 < j) fun i j => .int (i % j)) (tOp (rI0 fun i j => .int (i + j)) (tVar 2) (tVar 1)) (tVar 0)) [2])) rfl scRi.nd (pi_range1 (by rfl) B.range (pa_cons (pv 0) pa_nil)) (blkOk_by (N := ["n", "more", "thing"]) (sc := defScope s_ring_orders) (by decide +kernel)) (fun _ _ _ _ _ => (pg_name (i := 1) scRi.nd rfl (.inr rfl))) (fun _ _ _ _ _ => pts_nil) (fun _ _ _ _ _ => (pe_lc (own := [("thing", 2)]) (g := (gName 2)) (tt := tYes) (te := (tOp (rI (fun _ j => 0 < j) fun i j => .int (i % j)) (tOp (rI0 fun i j => .int (i + j)) (tVar 2) (tVar 1)) (tVar 0))) rfl scRi.nd (pi_range1 (by rfl) B.range (pa_cons (pv 0) pa_nil)) (blkOk_by (N := ["n", "more", "thing"]) (by rfl)) (fun _ _ _ _ _ => (pg_name (i := 2) scRi.nd rfl (.inl rfl))) (fun _ _ _ _ _ => pts_nil) (fun _ _ _ _ _ => (pe_op op_mod (pe_op op_add (pv 2) (pv 1)) (pv 0))))))))), ?_⟩
    refine ⟨_, rfl, n, 12, rfl, by omega, by omega, ?_⟩
    refine ⟨_, rfl, n, rfl, by omega, by omega, ?_⟩
    rw [Int.toNat_natCast]
    intro p np
    refine lc_range (lo := 0) (n := n) (fun i G => ∃ xs : List V, G p = some (.lst xs) ∧ xs.length = i ∧ Same H G) ⟨[], upd_same, rfl, same_new np⟩ (fun i G hi hP => ?_) (fun G hP => ?_)
    · obtain ⟨xs, hp, hxl, sm⟩ := hP
      refine ⟨rfl, _, rfl, n, rfl, by omega, by omega, ?_⟩
      rw [Int.toNat_natCast]
      intro u nu
      refine lc_range (lo := 0) (n := n) (fun j C => ∃ ys : List V, C u = some (.lst ys) ∧ ys.length = j ∧ Same G C) ⟨[], upd_same, rfl, same_new nu⟩ (fun j C hj hP => ?_) (fun C hP => ?_)
      · obtain ⟨ys, hu, hyl, s2⟩ := hP
        refine ⟨rfl, _, rfl, _, rfl, _, _, rfl, rfl, _, rfl, _, _, rfl, rfl, (show (0 : Int) < (n : Int) by omega), _, hu, line_lt (by omega), _, upd_same, by rw [List.length_append, hyl]; rfl, fun b o e => ?_⟩
        rw [upd_ne (ne_of_none e nu)]
        exact s2 _ _ e
      · obtain ⟨ys, hu, hyl, s2⟩ := hP
        refine ⟨_, s2 _ _ hp, line_lt (by omega), _, upd_same, by rw [List.length_append, hxl]; rfl, fun b o e => ?_⟩
        rw [upd_ne (ne_of_none e np)]
        exact s2 _ _ (sm _ _ e)
    · obtain ⟨xs, hp, hxl, sm⟩ := hP
      exact q p xs G hp hxl sm
theorem scM62 : FnScope ["n"] ["n"] (defScope s_law_made_right) := ⟨rfl, rfl, rfl, by decide +kernel, rfl, by decide +kernel, by decide +kernel⟩
set_option maxHeartbeats 2000000 in
theorem ok_M62 {f f1 f2 f3 : Addr} {fd d1 d2 d3 : FuncData} {k : Nat} (T : Df K mg "_law_made_right" s_law_made_right ["n"] f fd) (T_most_by_places : Df K mg "most_by_places" s_most_by_places ["n", "d"] f1 d1) (T_ring_orders : Df K mg "ring_orders" s_ring_orders ["n"] f2 d2) (T_even_orders : Df K mg "even_orders" s_even_orders ["n"] f3 d3) (G_most_by_places : FnOk P w K mg base CX0 k f1 d1 ["n", "d"] spMost) (G_ring_orders : FnOk P w K mg base CX0 k f2 d2 ["n"] spRing) (G_even_orders : FnOk P w K mg base CX0 k f3 d3 ["n"] spEven) (B : Bi mg) : FnOk P w K mg base CX0 (k + 1) f fd ["n"] spM62 := by
  refine T.F.ok scM62 (fun vs H Q E h => ?_) (fun cdv A outer s H vs Q E hr h => ?_)
  · obtain ⟨n, rfl, _⟩ := h
    rfl
  · obtain ⟨n, rfl, h1, h2, q⟩ := h
    refine ⟨_, 
      (pss_cons (ps_if (pt_cmpR op_ne (pe_call G_most_by_places hr (by rfl) T_most_by_places.g T_most_by_places.F.kp T_most_by_places.b .nil pass0 (pa_cons (pv 0) (pa_cons (pv 0) pa_nil))) (pe_callB call_len_seq (by rfl) B.len PySem.boot_len (pa_cons (pe_call G_ring_orders hr (by rfl) T_ring_orders.g T_ring_orders.F.kp T_ring_orders.b .nil pass0 (pa_cons (pv 0) pa_nil)) pa_nil)) (nomark _))
        (pss_one (ps_ret pe_bl))
        pss_nil)
      (pss_one (ps_ret (pe_or (pe_not (pe_chain op_le op_le pe_int (pv 0) pe_int)) (pe_one (pe_cmpR op_eq (pe_call G_most_by_places hr (by rfl) T_most_by_places.g T_most_by_places.F.kp T_most_by_places.b .nil pass0 (pa_cons (pv 0) (pa_cons pe_int pa_nil))) (pe_callB call_len_seq (by rfl) B.len PySem.boot_len (pa_cons (pe_call G_even_orders hr (by rfl) T_even_orders.g T_even_orders.F.kp T_even_orders.b .nil pass0 (pa_cons (pv 0) pa_nil)) pa_nil)) (nomark _))))))), ?_⟩
    refine ⟨_, rfl, _, rfl, n, n, rfl, h1, Nat.le_refl _, h2, ?_⟩
    refine ⟨_, rfl, n, rfl, h1, h2, fun l xs H1 hl hxl s1 => ⟨l, _, rfl, .inl (SqL.of hl), rfl, _, rfl, iteNS (congrArg V.int (by rw [hxl]; exact ring_len n h2 h1)) ?_⟩⟩
    by_cases c3 : (3 : Int) ≤ (n : Int)
    rotate_left
    · refine ⟨_, rfl, _, _, rfl, rfl, false, congrArg V.bl (decide_eq_false c3), false, rfl, true, rfl, q H1 s1⟩
    refine ⟨_, rfl, _, _, rfl, rfl, true, congrArg V.bl (decide_eq_true c3), ?_⟩
    by_cases c5 : (n : Int) ≤ 5
    rotate_left
    · refine iteT ⟨_, _, rfl, rfl, false, congrArg V.bl (decide_eq_false c5), true, rfl, q H1 s1⟩
    refine iteT ⟨_, _, rfl, rfl, true, congrArg V.bl (decide_eq_true c5), false, rfl, ?_⟩
    refine ⟨_, rfl, n, 3, rfl, by omega, by omega, by omega, ?_⟩
    refine ⟨_, rfl, n, rfl, by omega, by omega, fun l2 as2 H2 hl2 hal2 s2 => ⟨l2, _, rfl, .inl (SqL.of hl2), rfl, ?_⟩⟩
    have e := even_len n (by omega) (by omega)
    show Q (.bl (decide (V.int (facN n / facN (3 - 1)) = V.int (((as2.map V.ref).length : Nat) : Int)))) H2
    rw [List.length_map, hal2, e]
    rw [decide_eq_true rfl]
    exact q H2 (s1.trans s2)
end
end Fo
namespace Fo
open PySem PySem.Spec PyProof.Rows L2
abbrev dS (ys : List Str) : PyData := .list (ys.map PyData.str)
theorem dp_strs {K : PySem.W.Frag} {H : Hp} : ∀ ys : List Str, DpAll K H (ys.map V.str) (ys.map PyData.str)
  | [] => .nil
  | n :: r => .cons (.str n) (dp_strs r)
theorem dp_strL {K : PySem.W.Frag} {H : Hp} {a : Addr} {ys : List Str} (h : H a = some (.lst (ys.map V.str))) : Dp K H (.ref a) (dS ys) := .lst (SqL.of h) (dp_strs ys)
theorem lay_strs : ∀ ys : List Str, (∀ y ∈ ys, PyData.canLay0 (.str y) = true) → PyData.canLayAll0 (ys.map PyData.str) = true
  | [], _ => rfl
  | n :: r, h => by
    show (PyData.canLay0 (.str n) && PyData.canLayAll0 (r.map PyData.str)) = true
    rw [lay_strs r fun y hy => h y (List.mem_cons_of_mem _ hy), h n List.mem_cons_self]
    rfl
theorem depth_strs : ∀ ys : List Str, PyData.depthAll (ys.map PyData.str) = 0
  | [] => by simp [PyData.depthAll]
  | n :: r => by
    show PyData.depthAll (.str n :: r.map PyData.str) = 0
    rw [PyData.depthAll, depth_strs r]
    simp [PyData.depth]
theorem shaped_strs (ys : List Str) (h : ∀ y ∈ ys, PyData.canLay0 (.str y) = true) : SeqAt.shaped (dS ys) = true := by
  unfold SeqAt.shaped
  rw [Bool.and_eq_true_iff]
  constructor
  · rw [PyData.canLay0]
    exact lay_strs ys h
  · apply decide_eq_true
    rw [PyData.depth, depth_strs]
    decide
theorem eqv_dS {ys : List Str} (h : ys ≠ []) : PyData.eqv (dS ys) (dL []) = false := by
  cases ys with
  | nil => exact absurd rfl h
  | cons a l => simp [PyData.eqv, PyData.eqvAll]
theorem inV_strs (t : Str) : ∀ ws : List Str, inV (.str t) (ws.map V.str) = decide (t ∈ ws)
  | [] => by simp [inV]
  | a :: ws => by
    have ih := inV_strs t ws
    unfold inV at ih ⊢
    rw [List.map_cons, List.any_cons, ih]
    have e : eqV (V.str a) (V.str t) = decide (a = t) := by
      by_cases c : a = t
      · rw [decide_eq_true c, c]
        unfold eqV
        exact decide_eq_true rfl
      · rw [decide_eq_false c]
        unfold eqV
        exact decide_eq_false c
    rw [e]
    by_cases c : t = a
    · subst c; simp
    · have c2 : ¬ a = t := fun z => c z.symm
      simp [c, c2]
theorem flatS (ws : List Str) : (ws.map V.str).all flatV = true := by
  rw [List.all_eq_true]
  intro x m
  obtain ⟨y, _, rfl⟩ := List.mem_map.mp m
  rfl
end Fo
namespace Fo
open PySem PySem.Spec PyProof.Rows L2
def spL62 (Pt Pn : Addr) : Sp := fun vs H Q _ => ∃ (z : Str) (n : Nat) (d : Int), vs = [.str z, .int n, .int d] ∧ IsWay z ∧ 1 ≤ n ∧ n ≤ 6 ∧ 1 ≤ d ∧ GxR.TabG H Pt ∧ GxR.TabG H Pn ∧ ∀ H', KeepT H H' → Q (.bl true) H'
theorem words_lay {w : Str} {n : Nat} {d m : Int} : ∀ y ∈ wordsL (bndL w n d) m, PyData.canLay0 (.str y) = true := fun y my => by
  unfold wordsL at my
  obtain ⟨p, mp, rfl⟩ := List.mem_map.mp my
  rcases bnd_key (List.mem_filter.mp mp).1 with ⟨h, _⟩ | ⟨h, _⟩ | ⟨h, _⟩ <;> rw [h] <;> decide +kernel
section
variable {P : Program} {w : World} {K : PySem.W.Frag} {mg : Str → Option Value} {base : Heap}
theorem scL62 : FnScope ["way", "n", "d", "least", "most", "best", "words", "some", "lists", "places"] ["way", "n", "d"] (defScope s_law_lists_right) := ⟨rfl, rfl, rfl, by decide +kernel, rfl, by decide +kernel, by decide +kernel⟩
set_option maxHeartbeats 8000000 in
theorem ok_L62 {f f1 f2 f3 f4 f5 f6 Pt Pn : Addr} {fd d1 d2 d3 d4 d5 d6 : FuncData} {k : Nat} (T : Df K mg "_law_lists_right" s_law_lists_right ["way", "n", "d"] f fd) (T_bounds_by_rounds : Df K mg "bounds_by_rounds" s_bounds_by_rounds ["way", "n", "d"] f1 d1) (T_best_bound : Df K mg "best_bound" s_best_bound ["way", "n", "d"] f2 d2) (T_first_apart : Df K mg "first_apart" s_first_apart ["way", "n", "d"] f3 d3) (T_longest_apart : Df K mg "longest_apart" s_longest_apart ["way", "n", "d"] f4 d4) (T_first_parting : Df K mg "first_parting" s_first_parting ["way", "n", "d"] f5 d5) (T_most_by_places : Df K mg "most_by_places" s_most_by_places ["n", "d"] f6 d6) (G_bounds_by_rounds : FnOk P w K mg base CX0 k f1 d1 ["way", "n", "d"] spBounds) (G_best_bound : FnOk P w K mg base CX0 k f2 d2 ["way", "n", "d"] (spBest Pn)) (G_first_apart : FnOk P w K mg base CX0 k f3 d3 ["way", "n", "d"] (spFirst Pt)) (G_longest_apart : FnOk P w K mg base CX0 k f4 d4 ["way", "n", "d"] spLongest) (G_first_parting : FnOk P w K mg base CX0 k f5 d5 ["way", "n", "d"] (spParting Pn)) (G_most_by_places : FnOk P w K mg base CX0 k f6 d6 ["n", "d"] spMost) (B : Bi mg) : FnOk P w K mg base CX0 (k + 1) f fd ["way", "n", "d"] (spL62 Pt Pn) := by
  refine T.F.ok scL62 (fun vs H Q E h => ?_) (fun cdv A outer s H vs Q E hr h => ?_)
  · obtain ⟨z, n, d, rfl, _⟩ := h
    rfl
  · obtain ⟨z, n, d, rfl, hz, h1, h6, hd, ht, htn, q⟩ := h
    refine ⟨_, 
      (pss_cons (ps_asg (pe_call G_bounds_by_rounds hr (by rfl) T_bounds_by_rounds.g T_bounds_by_rounds.F.kp T_bounds_by_rounds.b .nil pass0 (pa_cons (pv 0) (pa_cons (pv 1) (pa_cons (pv 2) pa_nil)))) (pg_tup (by rfl) (pgs_cons (pg_name (i := 3) scL62.nd rfl (.inl rfl)) (pgs_cons (pg_name (i := 4) scL62.nd rfl (.inl rfl)) pgs_nil))))
      (pss_cons (ps_asg (pe_call G_best_bound hr (by rfl) T_best_bound.g T_best_bound.F.kp T_best_bound.b .nil pass0 (pa_cons (pv 0) (pa_cons (pv 1) (pa_cons (pv 2) pa_nil)))) (pg_tup (by rfl) (pgs_cons (pg_name (i := 5) scL62.nd rfl (.inl rfl)) (pgs_cons (pg_name (i := 6) scL62.nd rfl (.inl rfl)) pgs_nil))))
      (pss_cons (ps_set (i := 7) scL62.nd rfl (.inl rfl) (pe_lst (pa_cons (pe_callB call_len_seq (by rfl) B.len PySem.boot_len (pa_cons (pe_call G_first_apart hr (by rfl) T_first_apart.g T_first_apart.F.kp T_first_apart.b .nil pass0 (pa_cons (pv 0) (pa_cons (pv 1) (pa_cons (pv 2) pa_nil)))) pa_nil)) pa_nil)))
      (Evl.pss_cut (ps_if (pt_cmpR op_lt (pv 1) pe_int (nomark _))
        (pss_one (ps_expr (pe_bm PySem.F.plainAttrs_list PySem.F.slot_list_append PySem.F.type_list_append mt_append (pv 7) (pa_cons (pe_callB call_len_seq (by rfl) B.len PySem.boot_len (pa_cons (pe_call G_longest_apart hr (by rfl) T_longest_apart.g T_longest_apart.F.kp T_longest_apart.b .nil pass0 (pa_cons (pv 0) (pa_cons (pv 1) (pa_cons (pv 2) pa_nil)))) pa_nil)) pa_nil))))
        pss_nil)
      (pss_cons (ps_if (PW.pt (pw_or (pt_cmpR op_lt (pe_ix ix_list (pv 7) pe_int (fun _ _ => rfl)) (pv 3) (nomark _)) (pw_or (pt_cmpR op_gt (pe_callB (cr_max rfl) (by rfl) B.max (by decide +kernel) (pa_cons (pv 7) pa_nil)) (pv 5) (nomark _)) (pw_or (pt_cmpR op_gt (pv 5) (pv 4) (nomark _)) (pw_or1 (pt_cmpR (op_neD hr.units) (pv 7) (pe_callB cr_sorted (by rfl) B.sorted (by decide +kernel) (pa_cons (pv 7) pa_nil)) (nomark _)))))))
        (pss_one (ps_ret pe_bl))
        pss_nil)
      (Evl.pss_cut (ps_if (pt_cmpR op_lt (pv 1) pe_int (nomark _))
        (pss_cons (ps_set (i := 8) scL62.nd rfl (.inl rfl) (pe_callB call_len_seq (by rfl) B.len PySem.boot_len (pa_cons (pe_call G_first_parting hr (by rfl) T_first_parting.g T_first_parting.F.kp T_first_parting.b .nil pass0 (pa_cons (pv 0) (pa_cons (pv 1) (pa_cons (pv 2) pa_nil)))) pa_nil)))
        (pss_one (ps_if (PW.pt (pw_or (pt_cmpR op_gt (pv 5) (pv 8) (nomark _)) (pw_or1 (pt_cmpR op_ne (pe_cmpR op_in_seq pe_str (pv 6) (by rfl)) (pe_cmpR op_eq (pv 5) (pv 8) (nomark _)) (nomark _)))))
          (pss_one (ps_ret pe_bl))
          pss_nil)))
        pss_nil)
      (Evl.pss_cut (ps_if (PW.pt (pw_and (pt_cmpR op_eq (pv 0) pe_str (nomark _)) (pw_and1 (pt_cmpR op_le (pv 2) (pv 1) (nomark _)))))
        (pss_cons (ps_set (i := 9) scL62.nd rfl (.inl rfl) (pe_call G_most_by_places hr (by rfl) T_most_by_places.g T_most_by_places.F.kp T_most_by_places.b .nil pass0 (pa_cons (pv 1) (pa_cons (pv 2) pa_nil))))
        (pss_one (ps_if (PW.pt (pw_or (pt_cmpR op_gt (pv 5) (pv 9) (nomark _)) (pw_or1 (pt_cmpR op_ne (pe_cmpR op_in_seq pe_str (pv 6) (by rfl)) (pe_cmpR op_eq (pv 5) (pv 9) (nomark _)) (nomark _)))))
          (pss_one (ps_ret pe_bl))
          pss_nil)))
        pss_nil)
      (pss_one (ps_ret (pe_and (pe_cmpR op_eq (pe_cmpR op_in_seq pe_str (pv 6) (by rfl)) (pe_cmpR op_eq (pv 5) (pv 4) (nomark _)) (nomark _)) (pe_one (pe_cmpR (op_neD hr.units) (pv 6) (pe_lst pa_nil) (nomark _))))))))))))), ?_⟩
    refine ⟨_, rfl, _, rfl, _, rfl, z, n, d, rfl, hz, h1, by omega, hd, fun t H1 nt ht1 s1 => ?_⟩
    refine ⟨t, _, rfl, .inl (.inl ht1), rfl, _, _, rfl, _, _, rfl, rfl, ?_⟩
    have k1 := KeepT.of_same s1
    refine ⟨_, rfl, _, rfl, _, rfl, z, n, d, rfl, hz, h1, h6, hd, k1.tab htn, fun m t2 l2 H2 hm nt2 nl2 ne2 ht2 hl2 k2 => ?_⟩
    refine ⟨t2, _, rfl, .inl (.inl ht2), rfl, _, _, rfl, _, _, rfl, rfl, ?_⟩
    have k12 := k1.trans k2
    refine ⟨_, rfl, _, rfl, _, rfl, z, n, d, rfl, hz, h1, h6, hd, k12.tab ht, fun fl fa H3 nfl hfl hFL _ _ k3 => ⟨fl, _, rfl, .inl (SqL.of hfl), ?_⟩⟩
    have k13 := k12.trans k3
    have oF : ∀ x ∈ firstL z d (allK n n), IsOrd n x := fun x m => all_ord (firstL_subset _ _ _ m)
    have apF := upA_two h1 oF (upA_first z d (allK n n))
    have lF := hFL.len
    have lfm : (fa.map V.ref).length = fa.length := List.length_map _
    have hle := least_le hz h1 h6 hd
    have hFm := bnd_ge hz h1 h6 hd hm oF apF
    refine ⟨line_small (by show 1 ≤ 16777216; decide), fun sm nsm => ?_⟩
    rw [lfm, lF]
    have s4 := same_new (o := .lst [.int (((firstL z d (allK n n)).length : Nat) : Int)]) nsm
    have k14 := k13.trans (KeepT.of_same s4)
    have hl4 := s4 _ _ (k3.lst hl2)
    have nHs : H sm = none := k13.free nsm
    -- the lengths
    refine ⟨fun τ G => ∃ ns : List Int, τ = [some (.str z), some (.int n), some (.int d), some (.int (leastB z n d)), some (.int (mostB z n d)), some (.int m), some (.ref l2), some (.ref sm), none, none] ∧ G sm = some (.lst (ns.map V.int)) ∧ ns[0]? = some (((firstL z d (allK n n)).length : Nat) : Int) ∧ (∀ y ∈ ns, y ≤ m) ∧ ns.Pairwise (· ≤ ·) ∧ ns.length ≤ 2 ∧ KeepT H G ∧ G l2 = some (.lst ((wordsL (bndL z n d) m).map V.str)), ?_, fun τ G hM => ?_⟩
    · refine ⟨_, rfl, _, 5, rfl, rfl, _, rfl, ite2 (fun c => ?_) (fun _ => ⟨[(((firstL z d (allK n n)).length : Nat) : Int)], rfl, upd_same, rfl, fun y my => by rw [List.mem_singleton.mp my]; exact hFm, List.pairwise_cons.mpr ⟨fun x mx => absurd mx List.not_mem_nil, List.Pairwise.nil⟩, by show 1 ≤ 2; decide, k14, hl4⟩)⟩
      replace c := of_decide_eq_true c
      refine ⟨_, rfl, .inl ⟨rfl, _, SqL.of upd_same⟩, _, rfl, _, rfl, _, rfl, z, n, d, rfl, hz, h1, by omega, hd, fun ll la ss H5 nll nla hll hLL os as l1 hmax s5 => ?_⟩
      have lL := hLL.len
      have llm : (la.map V.ref).length = la.length := List.length_map _
      have hmx := hmax _ oF apF
      have hSm := bnd_ge hz h1 h6 hd hm os as
      have hs5 := s5 _ _ (upd_same (H := H3) (a := sm) (o := .lst [.int (((firstL z d (allK n n)).length : Nat) : Int)]))
      refine ⟨ll, _, rfl, .inl (SqL.of hll), sm, _, _, rfl, rfl, hs5, line_lt (by show 1 < 16777216; decide), ?_⟩
      rw [llm, lL]
      refine ⟨[(((firstL z d (allK n n)).length : Nat) : Int), ((ss.length : Nat) : Int)], rfl, upd_same, rfl, fun y my => ?_, ?_, by show 2 ≤ 2; decide, ?_, ?_⟩
      · rcases List.mem_cons.mp my with rfl | my
        · exact hFm
        · rw [List.mem_singleton.mp my]; exact hSm
      · exact List.pairwise_cons.mpr ⟨fun x mx => by rw [List.mem_singleton.mp mx]; omega, List.pairwise_cons.mpr ⟨fun x mx => absurd mx List.not_mem_nil, List.Pairwise.nil⟩⟩
      · refine ⟨fun b o e f => ?_, fun b qq e => ?_⟩
        · rw [upd_ne (ne_of_none e nHs)]
          exact s5 _ _ (k14.1 b o e f)
        · obtain ⟨q', e', t'⟩ := k14.2 b qq e
          exact ⟨q', by rw [upd_ne (ne_of_none e nHs)]; exact s5 _ _ e', t'⟩
      · have l2s : l2 ≠ sm := fun y => by
          have := k3.lst hl2
          rw [y, nsm] at this
          cases this
        rw [upd_ne l2s]
        exact s5 _ _ hl4
    obtain ⟨ns, rfl, hsm, hn0, hnm, hnp, hnl, kG, hlG⟩ := hM
    have hmost := lst_le hm bnd_rounds
    refine ⟨_, rfl, sm, _, 0, _, rfl, rfl, SqL.of hsm, at_of (j := 0) rfl (int_at hn0), _, rfl, _, _, rfl, rfl, _, rfl, ite2 (fun c => absurd (of_decide_eq_true c) (by omega)) (fun _ => ?_)⟩
    have hpos : 0 < ns.length := (List.getElem?_eq_some_iff.mp hn0).1
    refine ⟨_, rfl, sm, _, rfl, SqL.of hsm, hpos, fun mx hmx _ => ?_⟩
    have hmx2 := hnm mx hmx
    refine ⟨_, rfl, _, _, rfl, rfl, _, rfl, ite2 (fun c => absurd (of_decide_eq_true c) (by omega)) (fun _ => ?_)⟩
    refine ⟨_, rfl, _, rfl, _, _, rfl, rfl, _, rfl, ite2 (fun c => absurd (of_decide_eq_true c) (by omega)) (fun _ => ?_)⟩
    refine ⟨_, rfl, _, rfl, sm, ns, rfl, SqL.of hsm, by omega, fun ns' p hp hs np => ?_⟩
    obtain rfl : ns' = ns := sorted_eq hp hs hnp
    have s6 := same_new (o := .lst (ns'.map V.int)) np
    refine ⟨dL ns', dL ns', dp_list (s6 _ _ hsm), dp_list upd_same, shaped_list _, shaped_list _, _, rfl, ?_⟩
    rw [eqv_list]
    refine iteF ?_
    have kG6 := kG.trans (KeepT.of_same s6)
    have hl6 := s6 _ _ hlG
    -- the parting
    refine ⟨fun τ G' => ∃ y8, τ = [some (.str z), some (.int n), some (.int d), some (.int (leastB z n d)), some (.int (mostB z n d)), some (.int m), some (.ref l2), some (.ref sm), y8, none] ∧ KeepT H G' ∧ G' l2 = some (.lst ((wordsL (bndL z n d) m).map V.str)), ?_, fun τ G' hM => ?_⟩
    · refine ⟨_, rfl, _, 6, rfl, rfl, _, rfl, ite2 (fun c => ?_) (fun _ => ⟨_, rfl, kG6, hl6⟩)⟩
      replace c := of_decide_eq_true c
      refine ⟨_, rfl, _, rfl, _, rfl, z, n, d, rfl, hz, h1, by omega, hd, kG6.tab htn, fun pl ps bss H7 npl hpl hPL _ _ _ _ k7 => ⟨pl, _, rfl, .inl (SqL.of hpl), ?_⟩⟩
      have lP := hPL.len.1
      have lpm : (ps.map V.ref).length = ps.length := List.length_map _
      rw [lpm, lP]
      have hw := w_parting (w := z) (d := d) (m := m) (show n ≤ 5 by omega)
      have hle2 : m ≤ (((partL z d (allK n n)).length : Nat) : Int) := lst_le hm (k := "parting") (by
        unfold bndL bnd3
        rw [if_pos (show n ≤ 5 by omega)]
        exact List.mem_append_right _ (List.mem_append_right _ List.mem_cons_self))
      refine ⟨_, rfl, _, rfl, _, _, rfl, rfl, _, rfl, ite2 (fun c => absurd (of_decide_eq_true c) (by omega)) (fun _ => ?_)⟩
      have k67 := kG6.trans k7
      have hl7 := k7.lst hl6
      refine ⟨_, rfl, l2, _, rfl, .inl (SqL.of hl7), rfl, flatS _, _, rfl, _, rfl, rfl, rfl, _, rfl, iteNS (congrArg V.bl ?_) ⟨_, rfl, k67, hl7⟩⟩
      show inV (V.str "parting") ((wordsL (bndL z n d) m).map V.str) = decide (V.int m = V.int (((partL z d (allK n n)).length : Nat) : Int))
      rw [inV_strs]
      exact decide_eq_decide.mpr (hw.trans ⟨fun e => by rw [e], fun e => (V.int.inj e).symm⟩)
    obtain ⟨y8, rfl, kG7, hl7⟩ := hM
    -- the places
    refine ⟨fun τ G2 => ∃ y9, τ = [some (.str z), some (.int n), some (.int d), some (.int (leastB z n d)), some (.int (mostB z n d)), some (.int m), some (.ref l2), some (.ref sm), y8, y9] ∧ G2 = G', ?_, fun τ G2 hM => ?_⟩
    · refine ⟨_, rfl, rfl, _, rfl, ite2 (fun c => ?_) (fun _ => ⟨_, rfl, rfl⟩)⟩
      have ez : z = "spot" := V.str.inj (of_decide_eq_true c)
      refine ⟨_, rfl, _, rfl, _, _, rfl, rfl, _, rfl, ite2 (fun c2 => ?_) (fun _ => ⟨_, rfl, rfl⟩)⟩
      have hdn : d ≤ n := of_decide_eq_true c2
      obtain ⟨dn, rfl⟩ : ∃ dn : Nat, d = (dn : Int) := ⟨d.toNat, by omega⟩
      refine ⟨_, rfl, _, rfl, n, dn, rfl, by omega, by omega, by omega, ?_⟩
      have hw := w_places (w := z) (n := n) (d := (dn : Int)) (m := m) ez hdn
      rw [Int.toNat_natCast] at hw
      have hle2 : m ≤ facN n / facN (dn - 1) := lst_le hm (k := "places") (by
        unfold bndL bnd2
        rw [if_pos ⟨ez, hdn⟩, Int.toNat_natCast]
        exact List.mem_append_right _ (List.mem_append_left _ List.mem_cons_self))
      refine ⟨_, rfl, _, rfl, _, _, rfl, rfl, _, rfl, ite2 (fun c => absurd (of_decide_eq_true c) (by omega)) (fun _ => ?_)⟩
      refine ⟨_, rfl, l2, _, rfl, .inl (SqL.of hl7), rfl, flatS _, _, rfl, _, rfl, rfl, rfl, _, rfl, iteNS (congrArg V.bl ?_) ⟨_, rfl, rfl⟩⟩
      show inV (V.str "places") ((wordsL (bndL z n (dn : Int)) m).map V.str) = decide (V.int m = V.int (facN n / facN (dn - 1)))
      rw [inV_strs]
      exact decide_eq_decide.mpr (hw.trans ⟨fun e => by rw [e], fun e => (V.int.inj e).symm⟩)
    obtain ⟨y9, rfl, rfl⟩ := hM
    have hw := w_rounds (w := z) (n := n) (d := d) (m := m)
    have hwn := words_ne hm
    refine ⟨_, rfl, l2, _, rfl, .inl (SqL.of hl7), rfl, flatS _, _, rfl, _, rfl, rfl, rfl, true, congrArg V.bl ?_, iteT ?_⟩
    · refine decide_eq_true (congrArg V.bl ?_)
      show inV (V.str "rounds") ((wordsL (bndL z n d) m).map V.str) = decide (V.int m = V.int (mostB z n d))
      rw [inV_strs]
      exact decide_eq_decide.mpr (hw.trans ⟨fun e => by rw [e], fun e => (V.int.inj e).symm⟩)
    refine ⟨_, rfl, by decide, fun e ne => ?_⟩
    have s9 := same_new (o := .lst []) ne
    refine ⟨dS (wordsL (bndL z n d) m), dL [], dp_strL (s9 _ _ hl7), dp_list (ns := []) upd_same, shaped_strs _ words_lay, shaped_list _, ?_⟩
    rw [eqv_dS hwn]
    exact q _ (kG7.trans (KeepT.of_same s9))
end
end Fo
namespace Fo
open PySem PySem.Spec PyProof.Rows L2
def spF62 (Pn : Addr) : Sp := fun vs H Q _ => ∃ (z : Str) (n : Nat) (d : Int), vs = [.str z, .int n, .int d] ∧ IsWay z ∧ 1 ≤ n ∧ n ≤ 6 ∧ 1 ≤ d ∧ GxR.TabG H Pn ∧ ∀ H', KeepT H H' → Q (.bl true) H'
theorem fac6 : ∀ n : Nat, n ≤ 6 → 1 ≤ facN n ∧ facN n ≤ 720 := by decide +kernel
theorem small62 {w : Str} {n : Nat} {d : Int} (hw : IsWay w) (h1 : 1 ≤ n) (h6 : n ≤ 6) (hd : 1 ≤ d) : 0 ≤ leastB w n d ∧ leastB w n d ≤ 720 ∧ 1 ≤ mostB w n d ∧ mostB w n d ≤ 720 := by
  have f := fac6 n h6
  have p := in_pos hw h1 h6 (show 0 ≤ d - 1 by omega)
  have p2 := in_pos hw h1 h6 (show 0 ≤ (d - 1) / 2 by omega)
  refine ⟨Int.ediv_nonneg (by omega) (by omega), ?_, most_one hw h1 h6 hd, ?_⟩
  · exact ceil_le_of (by omega) (by have := Int.mul_le_mul_of_nonneg_left p (show (0 : Int) ≤ 720 by decide); omega)
  · exact Int.le_trans (Int.ediv_le_self _ (by omega)) (by omega)
section
variable {P : Program} {w : World} {K : PySem.W.Frag} {mg : Str → Option Value} {base : Heap}
theorem scF62 : FnScope ["way", "n", "d", "every", "least", "most", "inner", "outer", "further"] ["way", "n", "d"] (defScope s_law_farther_right) := ⟨rfl, rfl, rfl, by decide +kernel, rfl, by decide +kernel, by decide +kernel⟩
set_option maxHeartbeats 4000000 in
theorem ok_F62 {f f1 f2 f3 f4 Pn : Addr} {fd d1 d2 d3 d4 : FuncData} {k : Nat} (T : Df K mg "_law_farther_right" s_law_farther_right ["way", "n", "d"] f fd) (T__law_many : Df K mg "_law_many" s_law_many ["n"] f1 d1) (T_bounds_by_rounds : Df K mg "bounds_by_rounds" s_bounds_by_rounds ["way", "n", "d"] f2 d2) (T_count_within : Df K mg "count_within" s_count_within ["way", "n", "r"] f3 d3) (T_best_bound : Df K mg "best_bound" s_best_bound ["way", "n", "d"] f4 d4) (G__law_many : FnOk P w K mg base CX0 k f1 d1 ["n"] spFac) (G_bounds_by_rounds : FnOk P w K mg base CX0 k f2 d2 ["way", "n", "d"] spBounds) (G_count_within : FnOk P w K mg base CX0 k f3 d3 ["way", "n", "r"] spKW) (G_best_bound : FnOk P w K mg base CX0 k f4 d4 ["way", "n", "d"] (spBest Pn)) (B : Bi mg) : FnOk P w K mg base CX0 (k + 1) f fd ["way", "n", "d"] (spF62 Pn) := by
  refine T.F.ok scF62 (fun vs H Q E h => ?_) (fun cdv A outer s H vs Q E hr h => ?_)
  · obtain ⟨z, n, d, rfl, _⟩ := h
    rfl
  · obtain ⟨z, n, d, rfl, hz, h1, h6, hd, htn, q⟩ := h
    refine ⟨_, 
      (pss_cons (ps_set (i := 3) scF62.nd rfl (.inl rfl) (pe_call G__law_many hr (by rfl) T__law_many.g T__law_many.F.kp T__law_many.b .nil pass0 (pa_cons (pv 1) pa_nil)))
      (pss_cons (ps_asg (pe_call G_bounds_by_rounds hr (by rfl) T_bounds_by_rounds.g T_bounds_by_rounds.F.kp T_bounds_by_rounds.b .nil pass0 (pa_cons (pv 0) (pa_cons (pv 1) (pa_cons (pv 2) pa_nil)))) (pg_tup (by rfl) (pgs_cons (pg_name (i := 4) scF62.nd rfl (.inl rfl)) (pgs_cons (pg_name (i := 5) scF62.nd rfl (.inl rfl)) pgs_nil))))
      (pss_cons (ps_set (i := 6) scF62.nd rfl (.inl rfl) (pe_call G_count_within hr (by rfl) T_count_within.g T_count_within.F.kp T_count_within.b .nil pass0 (pa_cons (pv 0) (pa_cons (pv 1) (pa_cons (pe_op op_fdiv (pe_op op_sub (pv 2) pe_int) pe_int) pa_nil)))))
      (pss_cons (ps_set (i := 7) scF62.nd rfl (.inl rfl) (pe_call G_count_within hr (by rfl) T_count_within.g T_count_within.F.kp T_count_within.b .nil pass0 (pa_cons (pv 0) (pa_cons (pv 1) (pa_cons (pe_op op_sub (pv 2) pe_int) pa_nil)))))
      (pss_cons (ps_if (PW.pt (pw_or (pt_not (pt_chain op_le op_lt (pe_op op_mul (pv 5) (pv 6)) (pv 3) (pe_op op_mul (pe_op op_add (pv 5) pe_int) (pv 6)))) (pw_or1 (pt_not (pt_chain op_lt op_le (pe_op op_mul (pe_op op_sub (pv 4) pe_int) (pv 7)) (pv 3) (pe_op op_mul (pv 4) (pv 7)))))))
        (pss_one (ps_ret pe_bl))
        pss_nil)
      (pss_cons (ps_set (i := 8) scF62.nd rfl (.inl rfl) (pe_call G_bounds_by_rounds hr (by rfl) T_bounds_by_rounds.g T_bounds_by_rounds.F.kp T_bounds_by_rounds.b .nil pass0 (pa_cons (pv 0) (pa_cons (pv 1) (pa_cons (pe_op op_add (pv 2) pe_int) pa_nil)))))
      (pss_cons (ps_if (PW.pt (pw_or (pt_cmpR op_gt (pe_ix ix_tup (pv 8) pe_int (fun _ _ => rfl)) (pv 4) (nomark _)) (pw_or (pt_cmpR op_gt (pe_ix ix_tup (pv 8) pe_int (fun _ _ => rfl)) (pv 5) (nomark _)) (pw_or1 (pt_cmpR op_lt (pe_ix ix_tup (pe_call G_best_bound hr (by rfl) T_best_bound.g T_best_bound.F.kp T_best_bound.b .nil pass0 (pa_cons (pv 0) (pa_cons (pv 1) (pa_cons (pe_op op_add (pv 2) pe_int) pa_nil)))) pe_int (fun _ _ => rfl)) pe_int (nomark _))))))
        (pss_one (ps_ret pe_bl))
        pss_nil)
      (pss_one (ps_ret (pe_and (pe_cmpR (op_eqD hr.units) (pe_call G_bounds_by_rounds hr (by rfl) T_bounds_by_rounds.g T_bounds_by_rounds.F.kp T_bounds_by_rounds.b .nil pass0 (pa_cons (pv 0) (pa_cons (pv 1) (pa_cons pe_int pa_nil)))) (pe_tup (pa_cons (pv 3) (pa_cons (pv 3) pa_nil))) (nomark _)) (pe_one (pe_cmpR op_eq (pe_ix ix_tup (pe_call G_best_bound hr (by rfl) T_best_bound.g T_best_bound.F.kp T_best_bound.b .nil pass0 (pa_cons (pv 0) (pa_cons (pv 1) (pa_cons pe_int pa_nil)))) pe_int (fun _ _ => rfl)) (pv 3) (nomark _))))))))))))), ?_⟩
    have f6 := fac6 n h6
    obtain ⟨b1, b2, b3, b4⟩ := small62 hz h1 h6 hd
    refine ⟨_, rfl, n, rfl, by omega, ?_⟩
    refine ⟨_, rfl, _, rfl, _, rfl, z, n, d, rfl, hz, h1, by omega, hd, fun t H1 nt ht1 s1 => ?_⟩
    refine ⟨t, _, rfl, .inl (.inl ht1), rfl, _, _, rfl, _, _, rfl, rfl, ?_⟩
    refine ⟨_, rfl, _, rfl, _, rfl, d, 1, rfl, rfl, _, 2, rfl, rfl, ⟨by decide, by decide⟩, z, n, (d - 1) / 2, rfl, hz, h1, by omega, by omega, fun H2 s2 => ?_⟩
    refine ⟨_, rfl, _, rfl, _, rfl, d, 1, rfl, rfl, z, n, d - 1, rfl, hz, h1, by omega, by omega, fun H3 s3 => ?_⟩
    have p1 := in_pos hz h1 h6 (show 0 ≤ d - 1 by omega)
    have p2 := in_pos hz h1 h6 (show 0 ≤ (d - 1) / 2 by omega)
    have q1 := in_le hz h1 h6 (show 0 ≤ d - 1 by omega)
    have q2 := in_le hz h1 h6 (show 0 ≤ (d - 1) / 2 by omega)
    have dv := div_b (facN n) (inW z n ((d - 1) / 2)) (by omega)
    have cv := ceil_b (facN n) (inW z n (d - 1)) (by omega)
    have dv' : mostB z n d * inW z n ((d - 1) / 2) ≤ facN n ∧ facN n < (mostB z n d + 1) * inW z n ((d - 1) / 2) := dv
    have cv' : (leastB z n d - 1) * inW z n (d - 1) < facN n ∧ facN n ≤ leastB z n d * inW z n (d - 1) := cv
    have m1 := least_mono hz h1 h6 hd
    have m2 := most_mono hz h1 h6 hd
    generalize inW z n ((d - 1) / 2) = inn at *
    generalize inW z n (d - 1) = out at *
    clear dv cv
    refine ⟨_, rfl, _, rfl, _, _, rfl, rfl, .inl ⟨by omega, by omega⟩, _, rfl, _, _, rfl, rfl, true, congrArg V.bl (decide_eq_true dv'.1), iteT ?_⟩
    refine ⟨_, rfl, _, 1, rfl, rfl, _, rfl, _, _, rfl, rfl, .inl ⟨by omega, by omega⟩, _, _, rfl, rfl, true, congrArg V.bl (decide_eq_true dv'.2), iteF ?_⟩
    refine ⟨_, rfl, _, 1, rfl, rfl, _, rfl, _, _, rfl, rfl, .inl ⟨by omega, by omega⟩, _, rfl, _, _, rfl, rfl, true, congrArg V.bl (decide_eq_true cv'.1), iteT ?_⟩
    refine ⟨_, rfl, _, rfl, _, _, rfl, rfl, .inl ⟨by omega, by omega⟩, _, _, rfl, rfl, true, congrArg V.bl (decide_eq_true cv'.2), iteF ?_⟩
    -- one farther
    have s13 := s1.trans (s2.trans s3)
    refine ⟨_, rfl, _, rfl, _, rfl, d, 1, rfl, rfl, z, n, d + 1, rfl, hz, h1, by omega, by omega, fun t4 H4 nt4 ht4 s4 => ?_⟩
    refine ⟨_, rfl, t4, _, 0, _, rfl, rfl, SqT.of ht4, rfl, _, rfl, _, _, rfl, rfl, _, rfl, ite2 (fun c => absurd (of_decide_eq_true c) (by omega)) (fun _ => ?_)⟩
    refine ⟨_, rfl, t4, _, 1, _, rfl, rfl, SqT.of ht4, rfl, _, rfl, _, _, rfl, rfl, _, rfl, ite2 (fun c => absurd (of_decide_eq_true c) (by omega)) (fun _ => ?_)⟩
    have s14 := s13.trans s4
    have k4 := KeepT.of_same s14
    refine ⟨_, rfl, _, rfl, _, rfl, d, 2, rfl, rfl, z, n, d + 2, rfl, hz, h1, h6, by omega, k4.tab htn, fun m t5 l5 H5 hm nt5 _ _ ht5 _ k5 => ?_⟩
    have hm1 := lst_one hz h1 h6 (by omega) hm
    refine ⟨t5, _, 0, _, rfl, rfl, SqT.of ht5, rfl, _, _, rfl, rfl, _, rfl, ite2 (fun c => absurd (of_decide_eq_true c) (by omega)) (fun _ => ?_)⟩
    have k45 := k4.trans k5
    -- one apart
    obtain ⟨o1, o2⟩ := one_apart hz h1 h6
    refine ⟨_, rfl, _, rfl, z, n, 1, rfl, hz, h1, by omega, by decide, fun t6 H6 nt6 ht6 s6 => ?_⟩
    rw [o1, o2] at ht6
    refine ⟨_, rfl, _, rfl, by show 2 ≤ sizeLine; decide, fun t7 nt7 => ?_⟩
    have s7 := same_new (o := .tup [.int (facN n), .int (facN n)]) nt7
    have sh : SeqAt.shaped (.tuple [.int (facN n), .int (facN n)]) = true := by
      unfold SeqAt.shaped
      rw [Bool.and_eq_true_iff]
      exact ⟨by simp [PyData.canLay0, PyData.canLayAll0], decide_eq_true (by simp [PyData.depth, PyData.depthAll])⟩
    refine ⟨.tuple [.int (facN n), .int (facN n)], .tuple [.int (facN n), .int (facN n)], .tup (SqT.of (s7 _ _ ht6)) (.cons (.int _) (.cons (.int _) .nil)), .tup (SqT.of upd_same) (.cons (.int _) (.cons (.int _) .nil)), sh, sh, ?_⟩
    rw [SeqAt.eqv_refl _ (SeqAt.canLay_of_shaped sh)]
    refine ⟨true, rfl, iteT ?_⟩
    have k67 := k45.trans (KeepT.of_same (s6.trans s7))
    refine ⟨_, rfl, _, rfl, z, n, 1, rfl, hz, h1, h6, by decide, k67.tab htn, fun m8 t8 l8 H8 hm8 _ _ _ ht8 _ k8 => ?_⟩
    have e8 := lst_first hz h1 h6 hm8
    refine ⟨t8, _, 0, _, rfl, rfl, SqT.of ht8, rfl, _, rfl, rfl, ?_⟩
    rw [e8]
    show Q (.bl (decide (V.int (facN n) = V.int (facN n)))) H8
    rw [decide_eq_true rfl]
    exact q _ (k67.trans k8)
end
end Fo
namespace Fo
open PySem PySem.Spec PyProof.Rows L2
section
variable {P : Program} {w : World} {K : PySem.W.Frag} {mg : Str → Option Value} {base : Heap}
theorem scMany : FnScope ["n", "found", "k"] ["n"] (defScope s_law_many) := ⟨rfl, rfl, rfl, by decide +kernel, rfl, by decide +kernel, by decide +kernel⟩
theorem ok_manyF {f : Addr} {fd : FuncData} {k : Nat} (T : Df K mg "_law_many" s_law_many ["n"] f fd) (B : Bi mg) : FnOk P w K mg base CX0 (k + 1) f fd ["n"] spFac := by
  refine T.F.ok scMany (fun vs H Q E h => ?_) (fun cdv A outer s H vs Q E hr h => ?_)
  · obtain ⟨n, rfl, _⟩ := h
    rfl
  · obtain ⟨n, rfl, hn, q⟩ := h
    refine ⟨_, 
      (pss_cons (ps_set (i := 1) scMany.nd rfl (.inl rfl) pe_int)
      (pss_cons (ps_for PassesOwn.never rfl (pi_range2 (by rfl) B.range (pa_cons pe_int (pa_cons (pe_op op_add (pv 0) pe_int) pa_nil))) (pg_name (i := 2) scMany.nd rfl (.inl rfl))
        (pss_one (ps_set (i := 1) scMany.nd rfl (.inl rfl) (pe_op op_mul (pv 1) (pv 2)))))
      (pss_one (ps_ret (pv 1))))), ?_⟩
    refine ⟨_, rfl, (n : Int), 1, rfl, rfl, 1, _, rfl, ⟨by omega, by omega, by omega, by omega⟩, ?_⟩
    rw [show ((n : Int) + 1 - 1).toNat = n by omega]
    refine for_range (lo := 1) (n := n) (fun i σ H1 => ∃ y2 : Option V, σ = [some (.int n), some (.int (facN i)), y2] ∧ H1 = H) ⟨_, rfl, rfl⟩ (fun i σ H1 hi hW => ?_) (fun σ H1 hW => ?_)
    · obtain ⟨y2, rfl, rfl⟩ := hW
      have hf := fac_small i (by omega)
      refine ⟨_, rfl, _, rfl, _, _, rfl, rfl, .inl ⟨by omega, by omega⟩, some (.int (1 + (i : Int))), ?_, rfl⟩
      show [some (V.int (n : Int)), some (V.int (facN i * (1 + (i : Int)))), some (V.int (1 + (i : Int)))] = _
      rw [Int.add_comm 1 (i : Int)]
      rfl
    · obtain ⟨y2, rfl, rfl⟩ := hW
      exact ⟨_, rfl, q⟩
end
end Fo
namespace Fo
open PySem PySem.Spec PyProof.Rows L2
def spLaw (K : PySem.W.Frag) (Pt Pn : Addr) : Sp := fun vs H Q _ => ∃ (a : Addr) (ns : List Int), vs = [.ref a] ∧ SqL K H a (ns.map V.int) ∧ ns.length ≤ 63 ∧ GxR.TabG H Pt ∧ GxR.TabG H Pn ∧ ∀ H', Q (.bl true) H'
theorem valW3 (x y u : V) {w : Str} (h : IsWay w) : ∃ v, valV (mergeK [] [((.inr "swap" : Key), x), (.inr "spot", y), (.inr "shift", u)]) (.inr w) = some v ∧ (v = x ∨ v = y ∨ v = u) := by
  have h12 : ¬ (Sum.inr ("swap" : Str) : Key) = .inr "spot" := by decide +kernel
  have h13 : ¬ (Sum.inr ("swap" : Str) : Key) = .inr "shift" := by decide +kernel
  have h23 : ¬ (Sum.inr ("spot" : Str) : Key) = .inr "shift" := by decide +kernel
  have e : mergeK [] [((.inr "swap" : Key), x), (.inr "spot", y), (.inr "shift", u)] = [((.inr "swap" : Key), x), (.inr "spot", y), (.inr "shift", u)] := by
    simp [mergeK, putK, h12, h13, h23]
  rw [e]
  rcases h with rfl | rfl | rfl
  · exact ⟨x, valV_pos rfl, .inl rfl⟩
  · exact ⟨y, by rw [valV_neg h12, valV_pos rfl], .inr (.inl rfl)⟩
  · exact ⟨u, by rw [valV_neg h13, valV_neg h23, valV_pos rfl], .inr (.inr rfl)⟩
section
variable {P : Program} {w : World} {K : PySem.W.Frag} {mg : Str → Option Value} {base : Heap}
theorem scLaw : FnScope ["script", "k", "pool", "n", "way", "most", "d"] ["script"] (defScope s_law) := ⟨rfl, rfl, rfl, by decide +kernel, rfl, by decide +kernel, by decide +kernel⟩
set_option maxHeartbeats 4000000 in
theorem ok_law {f f1 f2 f3 f4 f5 f6 Pt Pn : Addr} {fd d1 d2 d3 d4 d5 d6 : FuncData} (T : Fun K "law" "law" s_law f fd) (T__law_pool : Df K mg "_law_pool" s_law_pool ["script", "k"] f1 d1) (T__law_take : Df K mg "_law_take" s_law_take ["pool", "many"] f2 d2) (T__law_ways : Df K mg "_law_ways" s_law_ways [] f3 d3) (T__law_lists_right : Df K mg "_law_lists_right" s_law_lists_right ["way", "n", "d"] f4 d4) (T__law_farther_right : Df K mg "_law_farther_right" s_law_farther_right ["way", "n", "d"] f5 d5) (T__law_made_right : Df K mg "_law_made_right" s_law_made_right ["n"] f6 d6)
    (G__law_pool : FnOk P w K mg base CX0 39 f1 d1 ["script", "k"] (spPool K)) (G__law_take : FnOk P w K mg base CX0 39 f2 d2 ["pool", "many"] spTake) (G__law_ways : FnOk P w K mg base CX0 39 f3 d3 [] spWays) (G__law_lists_right : FnOk P w K mg base CX0 39 f4 d4 ["way", "n", "d"] (spL62 Pt Pn)) (G__law_farther_right : FnOk P w K mg base CX0 39 f5 d5 ["way", "n", "d"] (spF62 Pn)) (G__law_made_right : FnOk P w K mg base CX0 39 f6 d6 ["n"] spM62) (B : Bi mg) :
    FnOk P w K mg base CX0 40 f fd ["script"] (spLaw K Pt Pn) := by
  refine T.ok scLaw (fun vs H Q E h => ?_) (fun cdv A outer s H vs Q E hr h => ?_)
  · obtain ⟨a, ns, rfl, _⟩ := h
    rfl
  · obtain ⟨a, ns, rfl, hS, hlen, ht, htn, q⟩ := h
    have hlm : (ns.map V.int).length = ns.length := List.length_map _
    refine ⟨_, 
      (pss_cons (ps_for PassesOwn.never rfl (pi_range1 (by rfl) B.range (pa_cons (pe_callB (call_max2 rfl) (by rfl) B.max (by decide +kernel) (pa_cons pe_int (pa_cons (pe_callB (call_min2 rfl) (by rfl) B.min (by decide +kernel) (pa_cons pe_int (pa_cons (pe_callB call_len_seq (by rfl) B.len PySem.boot_len (pa_cons (pv 0) pa_nil)) pa_nil))) pa_nil))) pa_nil)) (pg_name (i := 1) scLaw.nd rfl (.inl rfl))
        (pss_cons (ps_set (i := 2) scLaw.nd rfl (.inl rfl) (pe_call G__law_pool hr (by rfl) T__law_pool.g T__law_pool.F.kp T__law_pool.b .nil pass0 (pa_cons (pv 0) (pa_cons (pv 1) pa_nil))))
        (Evl.pss_cut (ps_set (i := 3) scLaw.nd rfl (.inl rfl) (pe_op op_add pe_int (pe_ix ix_list (pe_lst (pa_cons (pe_call G__law_take hr (by rfl) T__law_take.g T__law_take.F.kp T__law_take.b .nil pass0 (pa_cons (pv 2) (pa_cons pe_int pa_nil))) (pa_cons (pe_call G__law_take hr (by rfl) T__law_take.g T__law_take.F.kp T__law_take.b .nil pass0 (pa_cons (pv 2) (pa_cons pe_int pa_nil))) pa_nil))) (pe_callTy call_int1 (by rfl) B.int (by decide +kernel) (pa_cons (pe_and (pe_cmpR op_eq (pe_call G__law_take hr (by rfl) T__law_take.g T__law_take.F.kp T__law_take.b .nil pass0 (pa_cons (pv 2) (pa_cons pe_int pa_nil))) pe_int (nomark _)) (pe_one (pe_cmpR op_eq (pv 1) pe_int (nomark _)))) pa_nil)) (fun _ _ => rfl))))
        (Evl.pss_cut (ps_if (PW.pt (pw_and (pt_cmpR op_eq (pv 1) pe_int (nomark _)) (pw_and1 (pt_cmpR op_eq (pe_call G__law_take hr (by rfl) T__law_take.g T__law_take.F.kp T__law_take.b .nil pass0 (pa_cons (pv 2) (pa_cons pe_int pa_nil))) pe_int (nomark _)))))
          (pss_one (ps_set (i := 3) scLaw.nd rfl (.inl rfl) pe_int))
          pss_nil)
        (pss_cons (ps_set (i := 4) scLaw.nd rfl (.inl rfl) (pe_ix ix_list (pe_call0 G__law_ways hr (by rfl) T__law_ways.g T__law_ways.F.kp T__law_ways.b .nil pass0) (pe_call G__law_take hr (by rfl) T__law_take.g T__law_take.F.kp T__law_take.b .nil pass0 (pa_cons (pv 2) (pa_cons pe_int pa_nil))) (fun _ _ => rfl)))
        (Evl.pss_cut (ps_set (i := 5) scLaw.nd rfl (.inl rfl) (pe_dget (hu_of hr) (pe_disp (pps_cons pe_str (pe_op op_fdiv (pe_op op_mul (pv 3) (pe_op op_sub (pv 3) pe_int)) pe_int) (pps_cons pe_str (pv 3) (pps_cons pe_str (pe_op op_sub (pv 3) pe_int) pps_nil))) (by rfl) (by rfl) (fun z => by cases z) (by decide)) (pv 4) (fun _ _ => rfl)))
        (pss_cons (ps_set (i := 6) scLaw.nd rfl (.inl rfl) (pe_op op_add pe_int (pe_call G__law_take hr (by rfl) T__law_take.g T__law_take.F.kp T__law_take.b .nil pass0 (pa_cons (pv 2) (pa_cons (pe_op op_add (pv 5) pe_int) pa_nil)))))
        (pss_cons (ps_if (PW.pt (pw_or (pt_not (pt_val (pe_call G__law_lists_right hr (by rfl) T__law_lists_right.g T__law_lists_right.F.kp T__law_lists_right.b .nil pass0 (pa_cons (pv 4) (pa_cons (pv 3) (pa_cons (pv 6) pa_nil)))))) (pw_or1 (pt_not (pt_val (pe_call G__law_farther_right hr (by rfl) T__law_farther_right.g T__law_farther_right.F.kp T__law_farther_right.b .nil pass0 (pa_cons (pv 4) (pa_cons (pv 3) (pa_cons (pv 6) pa_nil)))))))))
          (pss_one (ps_ret pe_bl))
          pss_nil)
        (pss_one (ps_if (pt_not (pt_val (pe_call G__law_made_right hr (by rfl) T__law_made_right.g T__law_made_right.F.kp T__law_made_right.b .nil pass0 (pa_cons (pe_op op_add pe_int (pe_call G__law_take hr (by rfl) T__law_take.g T__law_take.F.kp T__law_take.b .nil pass0 (pa_cons (pv 2) (pa_cons pe_int pa_nil)))) pa_nil))))
          (pss_one (ps_ret pe_bl))
          pss_nil))))))))))
      (pss_one (ps_ret pe_bl))), ?_⟩
    refine ⟨_, rfl, a, _, rfl, .inl hS, _, _, rfl, _, _, rfl, ?_⟩
    rw [max_if, min_if, hlm]
    refine ⟨_, rfl, by omega, by omega, ?_⟩
    generalize hN : (max 1 (min 5 ((ns.length : Nat) : Int))).toNat = N
    have hN2 : N ≤ 5 := by omega
    refine for_range (n := N) (fun i σ H1 => ∃ y1 y2 y3 y4 y5 y6, σ = [some (.ref a), y1, y2, y3, y4, y5, y6] ∧ KeepT H H1) ⟨_, _, _, _, _, _, rfl, KeepT.refl H⟩ (fun i σ H1 hi hW => ?_) (fun σ H1 hW => ?_)
    rotate_left
    · exact q _
    obtain ⟨y1, y2, y3, y4, y5, y6, rfl, kT⟩ := hW
    refine ⟨_, rfl, _, rfl, a, ns, i, by rw [Int.zero_add]; rfl, kT.seq hS, hlen, by omega, fun d H2 nd P2 s2 => ?_⟩
    have k2 := kT.trans (KeepT.of_same s2)
    have nHd : H d = none := kT.free nd
    -- n
    refine ⟨fun τ G => ∃ n : Nat, 1 ≤ n ∧ n ≤ 5 ∧ τ = [some (.ref a), some (.int (0 + (i : Int))), some (.ref d), some (.int n), y4, y5, y6] ∧ PoolAt G d 5010 ∧ KeepTD d H2 G, ?_, fun τ G hM => ?_⟩
    · refine ⟨_, rfl, d, 4, _, rfl, P2, by decide, by decide, by decide, fun v1 G1 v10 v11 P3 k3 => ?_⟩
      refine ⟨_, rfl, d, 5, _, rfl, P3, by decide, by decide, by decide, fun v2 G2 v20 v21 P4 k4 => ?_⟩
      refine ⟨line_small (by show 2 ≤ 16777216; decide), fun t nt => ?_⟩
      have u := same_new (o := .lst [.int v1, .int v2]) nt
      have htt : (upd G2 t (.lst [.int v1, .int v2])) t = some (.lst [.int v1, .int v2]) := upd_same
      have td := P4.ne nt
      refine ⟨_, rfl, d, 4, _, rfl, P4.same u, by decide, by decide, by decide, fun v3 G3 v30 v31 P5 k5 => ?_⟩
      have ht3 := k5 _ _ htt td
      have kk : KeepTD d H2 G3 := ((((KeepTD.r0 d H2).drw k3).drw k4).sm u).drw k5
      have fin : ∀ (b : Bool), ∃ n : Nat, atI [V.int v1, V.int v2] (if b = true then 1 else 0) = some (V.int ((n : Int) - 1)) ∧ 1 ≤ n ∧ n ≤ 5 := fun b => by
        cases b
        · exact ⟨(v1 + 1).toNat, by rw [show ((((v1 + 1).toNat : Nat) : Int) - 1) = v1 by omega]; rfl, by omega, by omega⟩
        · exact ⟨(v2 + 1).toNat, by rw [show ((((v2 + 1).toNat : Nat) : Int) - 1) = v2 by omega]; rfl, by omega, by omega⟩
      have endn : ∀ n : Nat, [some (V.ref a), some (V.int (0 + (i : Int))), some (V.ref d), some (V.int (1 + ((n : Int) - 1))), y4, y5, y6] = [some (V.ref a), some (V.int (0 + (i : Int))), some (V.ref d), some (V.int (n : Int)), y4, y5, y6] := fun n => by rw [show (1 : Int) + ((n : Int) - 1) = n by omega]
      refine ⟨rfl, _, rfl, ite2 (fun _ => ?_) (fun _ => ?_)⟩
      · obtain ⟨n, hv, n1, n5⟩ := fin (decide (V.int (0 + (i : Int)) = V.int 0))
        exact ⟨_, rfl, rfl, .inr ⟨_, rfl, t, _, _, _, rfl, rfl, SqL.of ht3, hv, 1, _, rfl, rfl, n, n1, n5, endn n, P5.mono (by decide), kk⟩⟩
      · obtain ⟨n, hv, n1, n5⟩ := fin false
        exact .inr ⟨false, rfl, t, _, _, _, rfl, rfl, SqL.of ht3, hv, 1, _, rfl, rfl, n, n1, n5, endn n, P5.mono (by decide), kk⟩
    obtain ⟨n0, hn1, hn5, rfl, P3, kk3⟩ := hM
    -- six
    refine ⟨fun τ G' => ∃ n : Nat, 1 ≤ n ∧ n ≤ 6 ∧ τ = [some (.ref a), some (.int (0 + (i : Int))), some (.ref d), some (.int n), y4, y5, y6] ∧ PoolAt G' d 5011 ∧ KeepTD d H2 G', ?_, fun τ G' hM => ?_⟩
    · refine ⟨_, rfl, rfl, _, rfl, ite2 (fun _ => ?_) (fun _ => ⟨n0, hn1, by omega, rfl, P3.mono (by decide), kk3⟩)⟩
      refine ⟨_, rfl, d, 8, _, rfl, P3, by decide, by decide, by decide, fun v G1 v0 v1 P4 k4 => ?_⟩
      exact ⟨rfl, _, rfl, ite2 (fun _ => ⟨6, by decide, by decide, rfl, P4, kk3.drw k4⟩) (fun _ => ⟨n0, hn1, by omega, rfl, P4, kk3.drw k4⟩)⟩
    obtain ⟨n, hn1, hn6, rfl, P4, kk4⟩ := hM
    -- way
    refine ⟨rfl, fun wl nwl => ?_⟩
    have u6 := same_new (o := .lst [.str "swap", .str "spot", .str "shift"]) nwl
    have hw0 : (upd G' wl (.lst [.str "swap", .str "spot", .str "shift"])) wl = some (.lst [.str "swap", .str "spot", .str "shift"]) := upd_same
    have wld := P4.ne nwl
    refine ⟨_, rfl, d, 3, _, rfl, P4.same u6, by decide, by decide, by decide, fun v5 G5 v50 v51 P5 k5 => ?_⟩
    obtain ⟨z, ez, hz⟩ : ∃ z : Str, atI [V.str "swap", V.str "spot", V.str "shift"] v5 = some (.str z) ∧ IsWay z := by
      rcases (show v5 = 0 ∨ v5 = 1 ∨ v5 = 2 by omega) with rfl | rfl | rfl
      · exact ⟨_, rfl, .inl rfl⟩
      · exact ⟨_, rfl, .inr (.inl rfl)⟩
      · exact ⟨_, rfl, .inr (.inr rfl)⟩
    refine ⟨wl, _, _, _, rfl, rfl, SqL.of (k5 _ _ hw0 wld), ez, ?_⟩
    have kk5 := (kk4.sm u6).drw k5
    -- most
    have hnn : 0 ≤ (n : Int) * ((n : Int) - 1) ∧ (n : Int) * ((n : Int) - 1) ≤ 6 * 5 := ⟨Int.mul_nonneg (by omega) (by omega), Int.mul_le_mul (by omega) (by omega) (by omega) (by decide)⟩
    refine ⟨fun τ G => ∃ mo : Int, 0 ≤ mo ∧ mo ≤ 30 ∧ τ = [some (.ref a), some (.int (0 + (i : Int))), some (.ref d), some (.int n), some (.str z), some (.int mo), y6] ∧ Same G5 G, ?_, fun τ G hM => ?_⟩
    · refine fun p np => ⟨_, rfl, _, rfl, (n : Int), 1, rfl, rfl, (n : Int), _, rfl, rfl, .inl ⟨by omega, by omega⟩, _, 2, rfl, rfl, ⟨by decide, by decide⟩, _, rfl, _, rfl, (n : Int), 1, rfl, rfl, upd_same, [(.inr "swap", _), (.inr "spot", _), (.inr "shift", _)], rfl, (by show 3 ≤ 15; decide), ?_⟩
      obtain ⟨v, hv, hor⟩ := valW3 (V.int ((n : Int) * ((n : Int) - 1) / 2)) (V.int (n : Int)) (V.int ((n : Int) - 1)) hz
      have sm : Same G5 (upd (upd G5 p (.dK [])) p (.dK (mergeK [] [((.inr "swap" : Key), V.int ((n : Int) * ((n : Int) - 1) / 2)), (.inr "spot", V.int (n : Int)), (.inr "shift", V.int ((n : Int) - 1))]))) := fun u o e => by rw [upd_ne (ne_of_none e np), upd_ne (ne_of_none e np)]; exact e
      have dg := DGet.k (H := upd (upd G5 p (.dK [])) p (.dK (mergeK [] [((.inr "swap" : Key), V.int ((n : Int) * ((n : Int) - 1) / 2)), (.inr "spot", V.int (n : Int)), (.inr "shift", V.int ((n : Int) - 1))]))) (a := p) (k := (.inr z : Key)) upd_same
      rw [hv] at dg
      refine ⟨_, rfl, p, v, rfl, dg, ?_⟩
      rcases hor with rfl | rfl | rfl
      · exact ⟨_, by omega, by omega, rfl, sm⟩
      · exact ⟨_, by omega, by omega, rfl, sm⟩
      · exact ⟨_, by omega, by omega, rfl, sm⟩
    obtain ⟨mo, mo0, mo1, rfl, s6⟩ := hM
    have P6 := P5.same s6
    have kk6 := kk5.sm s6
    refine ⟨_, rfl, _, rfl, mo, 1, rfl, rfl, d, mo + 1, _, rfl, P6, by decide, by omega, by omega, fun v7 G7 v70 v71 P7 k7 => ⟨1, _, rfl, rfl, ?_⟩⟩
    have kk7 := kk6.drw k7
    obtain ⟨xs0, hd2⟩ : ∃ xs0, H2 d = some (.lst xs0) := by
      obtain ⟨_, _, _, e, _⟩ := P2
      exact ⟨_, e⟩
    refine ⟨_, rfl, _, rfl, _, rfl, z, n, 1 + v7, rfl, hz, hn1, hn6, by omega, kk7.tbL hd2 (k2.tab ht), kk7.tbL hd2 (k2.tab htn), fun G8 k8 => ⟨true, rfl, iteF ?_⟩⟩
    have kk8 := kk7.kt k8
    have P8 : PoolAt G8 d 5020 := by
      obtain ⟨_, _, _, e, r⟩ := P7.mono (show _ ≤ 5020 by decide)
      exact ⟨_, _, _, k8.lst e, r⟩
    refine ⟨_, rfl, _, rfl, _, rfl, z, n, 1 + v7, rfl, hz, hn1, hn6, by omega, kk8.tbL hd2 (k2.tab htn), fun G9 k9 => ⟨true, rfl, iteF ?_⟩⟩
    have kk9 := kk8.kt k9
    have P9 : PoolAt G9 d 5020 := by
      obtain ⟨_, _, _, e, r⟩ := P8
      exact ⟨_, _, _, k9.lst e, r⟩
    refine ⟨_, rfl, d, 12, _, rfl, P9, by decide, by decide, by decide, fun v9 G10 v90 v91 _ k10 => ⟨1, _, rfl, rfl, ?_⟩⟩
    refine ⟨(1 + v9).toNat, by rw [show (((1 + v9).toNat : Nat) : Int) = 1 + v9 by omega]; rfl, by omega, by omega, fun G11 s11 => ⟨true, rfl, iteF ?_⟩⟩
    exact ⟨_, _, _, _, _, _, rfl, KeepTD.ov k2 ((kk9.drw k10).sm s11) nHd⟩
end
end Fo
namespace Fo
open PySem PySem.Spec PyProof.Rows L2
/-! the end of a law that reaches tables of code objects -/
theorem tab_code {K : PySem.W.Frag} {x : Str} {c P f : Addr} {oc : Value} {od : Option Addr} {fd : FuncData} {osl : Array (Option Value)} (t : PySem.W.tabIn K x = some (c, P)) (a : PySem.W.nsIn K mainGlobals x = some (some (.ref f))) (l : K.lookup f = some ⟨oc, od, .func fd, osl⟩) : fd.code = .ref c := by
  unfold PySem.W.tabIn at t
  rw [a] at t
  simp only [l] at t
  split at t
  · rename_i c' e
    rw [e]
    split at t
    · split at t
      · cases t
        rfl
      · cases t
    · cases t
  · cases t
theorem tab_mk {K : PySem.W.Frag} {x : Str} {c P f : Addr} {oc o2 cd : Value} {od d2 : Option Addr} {osl s2 : Array (Option Value)} {nm ql : Str} {ar : Arguments} {bd : List Stmt} {sc : Scope} {dV kV dc pm ct : Value} {an : Option Addr} {vs : Array Value}
    (a : PySem.W.nsIn K mainGlobals x = some (some (.ref f))) (l : K.lookup f = some ⟨oc, od, .func (PySem.W.fnOf nm ql ar bd sc dV kV dc pm an cd ct), osl⟩) (e : cd = .ref c) (u : K.lookup c = some ⟨o2, d2, .fields vs, s2⟩) (v : vs[11]? = some (.ref P)) : PySem.W.tabIn K x = some (c, P) := by
  subst e
  have hc : (PySem.W.fnOf nm ql ar bd sc dV kV dc pm an (.ref c) ct).code = .ref c := rfl
  unfold PySem.W.tabIn
  rw [a]
  simp only [l, hc, u, v]
def TabsOf (q : Program) (K : PySem.W.Frag) (h : Heap) : Prop := ∀ (y : Str) (c P : Addr), ((recsOf q).any fun e => e.name == y) = true → PySem.W.tabIn K y = some (c, P) → PySem.W.CodeHd h c P ∧ h.get? P = some { cls := .none, data := .fields #[] }
theorem walk_tab {l : PySem.W.OpenLaw} {n k : Nat} {q : Program} {loose : List Str} {XP : (Str → Option Value) → Heap → Prop} {YP : World → Heap → Prop} {d : DefRec} {K : Params → PySem.W.Frag} {CX : World → CXT} {x : Str}
    (hn : l.most = some n) (hn2 : n ≤ sizeLine) (hdf : d.params.defaults = []) (hr : Room k callerA) (hY : ∀ (w : World) (h : Heap), YP w h → (K w.params).In h)
    (F : ∀ (w : World) (mg : Str → Option Value) (fa : Addr) (h : Heap), (K w.params).In h → h.Ns mainGlobals mg → mg d.name = some (.ref fa) → TabsOf q (K w.params) h → LamX.LawAtS l w (K w.params) (CX w) k n x mg fa h)
    (hX : ∀ (w : World) (H : Hp) (s : Shared) (e : Value) (s' : Shared), CX w [] H s (fun _ _ _ => False) e s' → False) :
    PySem.W.WalkO q loose XP YP l.row.toRowW d [] (fun f vs => PySem.call f vs) := by
  refine Att.attach_callB hn hdf fun w sA sB mg mb fa o1 pm cd dc ad us ns G Y ho hd hcd hmg hob hin hle hbi hge => ?_
  have KX := hY w _ Y
  have tabs : TabsOf q (K w.params) sB.heap := fun y c P hy ht => by
    obtain ⟨e, he⟩ := Option.isSome_iff_exists.mp ((List.find?_isSome (p := fun e : DefRec => e.name == y) (xs := recsOf q)).mpr (by
      obtain ⟨z, z1, z2⟩ := List.any_eq_true.mp hy
      exact ⟨z, z1, z2⟩))
    exact PySem.W.tab_of G.T KX he ht
  obtain ⟨fd, cs, sp, hT, nT, C, hb, hsp, hF⟩ := F w mg fa _ KX G.T.g hmg tabs
  exact LamX.law_callTs KX G.T.g G.T.b G.T.builtins G.T.nolimit hge hT nT C G.T.bmain hob hin (Nat.le_trans hle hn2) hr hF hb (fun H hH hS => hsp H ad ns hle hbi hH hS) fun H e s' => hX w H sB e s'
end Fo
--LEVEL 40
--TABS is_far is_near
--LAWCALL ok_law F_law T__law_pool T__law_take T__law_ways T__law_lists_right T__law_farther_right T__law_made_right (ok_pool (k := 38) T__law_pool B) (ok_take (k := 38) T__law_take B) (ok_ways (k := 38) T__law_ways B) (ok_L62 (k := 38) T__law_lists_right T_bounds_by_rounds T_best_bound T_first_apart T_longest_apart T_first_parting T_most_by_places (ok_bounds (k := 37) T_bounds_by_rounds T_check_apart T_count_orders T_known_within (ok_apart (k := 34) T_check_apart T_check_way T_check_size T_check_from T_is_whole m_WAYS B) (ok_fac (k := 36) T_count_orders B) (ok_kw (k := 34) T_known_within T_swap_counts T_spot_counts T_shift_within T_swap_counts_with_one_more T_count_all_moved T_things_near T_one_place_further B) B m_MOST_THINGS) (ok_best (k := 37) T_best_bound T_check_apart T_bounds_by_rounds T_most_by_places T_first_parting (ok_apart (k := 34) T_check_apart T_check_way T_check_size T_check_from T_is_whole m_WAYS B) (ok_bounds (k := 36) T_bounds_by_rounds T_check_apart T_count_orders T_known_within (ok_apart (k := 33) T_check_apart T_check_way T_check_size T_check_from T_is_whole m_WAYS B) (ok_fac (k := 35) T_count_orders B) (ok_kw (k := 33) T_known_within T_swap_counts T_spot_counts T_shift_within T_swap_counts_with_one_more T_count_all_moved T_things_near T_one_place_further B) B m_MOST_THINGS) (ok_most (k := 36) T_most_by_places T_check_size T_count_orders (ok_size (k := 34) T_check_size T_is_whole B) (ok_fac (k := 35) T_count_orders B) B m_MOST_THINGS) (ok_parting (k := 36) T_first_parting T_check_apart T_all_orders T_first_near (ok_apart (k := 33) T_check_apart T_check_way T_check_size T_check_from T_is_whole m_WAYS B) (ok_all_orders (k := 34) T_all_orders T_orders_with B) (ok_fnear (k := 35) T_first_near T_is_near (ok_isNear (k := 33) T_is_near TB_is_near T_known_far (ok_known (k := 32) T_known_far T_far_by_swap T_far_by_spot T_far_by_shift (ok_swap (k := 31) T_far_by_swap T_seats_in (ok_seats (k := 29) T_seats_in T_places_in B) B) (ok_spot (k := 31) T_far_by_spot B) (ok_shift (k := 31) T_far_by_shift T_seats_in (ok_seats (k := 29) T_seats_in T_places_in B) B)) B) B) B m_MOST_PARTED) B m_MOST_LISTED m_MOST_PARTED) (ok_first (k := 37) T_first_apart T_check_apart T_all_orders T_is_far (ok_apart (k := 34) T_check_apart T_check_way T_check_size T_check_from T_is_whole m_WAYS B) (ok_all_orders (k := 35) T_all_orders T_orders_with B) (ok_isFar (k := 35) T_is_far TB_is_far T_known_far (ok_known (k := 34) T_known_far T_far_by_swap T_far_by_spot T_far_by_shift (ok_swap (k := 33) T_far_by_swap T_seats_in (ok_seats (k := 31) T_seats_in T_places_in B) B) (ok_spot (k := 33) T_far_by_spot B) (ok_shift (k := 33) T_far_by_shift T_seats_in (ok_seats (k := 31) T_seats_in T_places_in B) B)) B) B m_MOST_LISTED) (ok_longest (k := 37) T_longest_apart T_check_apart T_all_orders T_longest_from T_far_ones (ok_apart (k := 34) T_check_apart T_check_way T_check_size T_check_from T_is_whole m_WAYS B) (ok_all_orders (k := 35) T_all_orders T_orders_with B) (ok_lf (k := 13) T_longest_from T_far_ones (fun j => ok_farOnes (k := j + 12) T_far_ones T_known_far (ok_known (k := j + 11) T_known_far T_far_by_swap T_far_by_spot T_far_by_shift (ok_swap (k := j + 10) T_far_by_swap T_seats_in (ok_seats (k := j + 8) T_seats_in T_places_in B) B) (ok_spot (k := j + 10) T_far_by_spot B) (ok_shift (k := j + 10) T_far_by_shift T_seats_in (ok_seats (k := j + 8) T_seats_in T_places_in B) B)) B) B 24) (ok_farOnes (k := 36) T_far_ones T_known_far (ok_known (k := 35) T_known_far T_far_by_swap T_far_by_spot T_far_by_shift (ok_swap (k := 34) T_far_by_swap T_seats_in (ok_seats (k := 32) T_seats_in T_places_in B) B) (ok_spot (k := 34) T_far_by_spot B) (ok_shift (k := 34) T_far_by_shift T_seats_in (ok_seats (k := 32) T_seats_in T_places_in B) B)) B) B m_MOST_SEARCHED) (ok_parting (k := 37) T_first_parting T_check_apart T_all_orders T_first_near (ok_apart (k := 34) T_check_apart T_check_way T_check_size T_check_from T_is_whole m_WAYS B) (ok_all_orders (k := 35) T_all_orders T_orders_with B) (ok_fnear (k := 36) T_first_near T_is_near (ok_isNear (k := 34) T_is_near TB_is_near T_known_far (ok_known (k := 33) T_known_far T_far_by_swap T_far_by_spot T_far_by_shift (ok_swap (k := 32) T_far_by_swap T_seats_in (ok_seats (k := 30) T_seats_in T_places_in B) B) (ok_spot (k := 32) T_far_by_spot B) (ok_shift (k := 32) T_far_by_shift T_seats_in (ok_seats (k := 30) T_seats_in T_places_in B) B)) B) B) B m_MOST_PARTED) (ok_most (k := 37) T_most_by_places T_check_size T_count_orders (ok_size (k := 35) T_check_size T_is_whole B) (ok_fac (k := 36) T_count_orders B) B m_MOST_THINGS) B) (ok_F62 (k := 38) T__law_farther_right T__law_many T_bounds_by_rounds T_count_within T_best_bound (ok_manyF (k := 37) T__law_many B) (ok_bounds (k := 37) T_bounds_by_rounds T_check_apart T_count_orders T_known_within (ok_apart (k := 34) T_check_apart T_check_way T_check_size T_check_from T_is_whole m_WAYS B) (ok_fac (k := 36) T_count_orders B) (ok_kw (k := 34) T_known_within T_swap_counts T_spot_counts T_shift_within T_swap_counts_with_one_more T_count_all_moved T_things_near T_one_place_further B) B m_MOST_THINGS) (ok_cw (k := 37) T_count_within T_check_count T_known_within (ok_count (k := 34) T_check_count T_check_way T_check_size T_check_from T_is_whole m_WAYS B m_MOST_THINGS) (ok_kw (k := 34) T_known_within T_swap_counts T_spot_counts T_shift_within T_swap_counts_with_one_more T_count_all_moved T_things_near T_one_place_further B)) (ok_best (k := 37) T_best_bound T_check_apart T_bounds_by_rounds T_most_by_places T_first_parting (ok_apart (k := 34) T_check_apart T_check_way T_check_size T_check_from T_is_whole m_WAYS B) (ok_bounds (k := 36) T_bounds_by_rounds T_check_apart T_count_orders T_known_within (ok_apart (k := 33) T_check_apart T_check_way T_check_size T_check_from T_is_whole m_WAYS B) (ok_fac (k := 35) T_count_orders B) (ok_kw (k := 33) T_known_within T_swap_counts T_spot_counts T_shift_within T_swap_counts_with_one_more T_count_all_moved T_things_near T_one_place_further B) B m_MOST_THINGS) (ok_most (k := 36) T_most_by_places T_check_size T_count_orders (ok_size (k := 34) T_check_size T_is_whole B) (ok_fac (k := 35) T_count_orders B) B m_MOST_THINGS) (ok_parting (k := 36) T_first_parting T_check_apart T_all_orders T_first_near (ok_apart (k := 33) T_check_apart T_check_way T_check_size T_check_from T_is_whole m_WAYS B) (ok_all_orders (k := 34) T_all_orders T_orders_with B) (ok_fnear (k := 35) T_first_near T_is_near (ok_isNear (k := 33) T_is_near TB_is_near T_known_far (ok_known (k := 32) T_known_far T_far_by_swap T_far_by_spot T_far_by_shift (ok_swap (k := 31) T_far_by_swap T_seats_in (ok_seats (k := 29) T_seats_in T_places_in B) B) (ok_spot (k := 31) T_far_by_spot B) (ok_shift (k := 31) T_far_by_shift T_seats_in (ok_seats (k := 29) T_seats_in T_places_in B) B)) B) B) B m_MOST_PARTED) B m_MOST_LISTED m_MOST_PARTED) B) (ok_M62 (k := 38) T__law_made_right T_most_by_places T_ring_orders T_even_orders (ok_most (k := 37) T_most_by_places T_check_size T_count_orders (ok_size (k := 35) T_check_size T_is_whole B) (ok_fac (k := 36) T_count_orders B) B m_MOST_THINGS) (ok_ring (k := 37) T_ring_orders T_check_size (ok_size (k := 35) T_check_size T_is_whole B) B m_MOST_THINGS) (ok_even (k := 37) T_even_orders T_check_size T_check_many T_count_orders T_all_orders T_far_by_swap (ok_size (k := 35) T_check_size T_is_whole B) (ok_chkMany (k := 36) T_check_many B m_MOST_ORDERS) (ok_fac (k := 36) T_count_orders B) (ok_all_orders (k := 35) T_all_orders T_orders_with B) (ok_swap (k := 36) T_far_by_swap T_seats_in (ok_seats (k := 34) T_seats_in T_places_in B) B) B m_MOST_THINGS) B) B
namespace Fo
open PySem PySem.Spec PyProof.Rows L2
set_option maxHeartbeats 8000000 in
theorem all_mk {l : PySem.W.OpenLaw} {w : World} {K : PySem.W.Frag} {h : Heap} {mg : Str → Option Value} {fa : Addr} (X : K.In h) (G : h.Ns mainGlobals mg) (hfa : mg "law" = some (.ref fa))
    {f0 f1 f2 f3 f4 f5 f6 f7 f8 f9 f10 f11 f12 f13 f14 f15 f16 f17 f18 f19 f20 f21 f22 f23 f24 f25 f26 f27 f28 f29 f30 f31 f32 f33 f34 f35 f36 f37 f38 f39 f40 f41 f42 f43 f44 f45 : Addr} {od0 an0 od1 an1 od2 an2 od3 an3 od4 an4 od5 an5 od6 an6 od7 an7 od8 an8 od9 an9 od10 an10 od11 an11 od12 an12 od13 an13 od14 an14 od15 an15 od16 an16 od17 an17 od18 an18 od19 an19 od20 an20 od21 an21 od22 an22 od23 an23 od24 an24 od25 an25 od26 an26 od27 an27 od28 an28 od29 an29 od30 an30 od31 an31 od32 an32 od33 an33 od34 an34 od35 an35 od36 an36 od37 an37 od38 an38 od39 an39 od40 an40 od41 an41 od42 an42 od43 an43 od44 an44 od45 an45 : Option Addr} {sl0 sl1 sl2 sl3 sl4 sl5 sl6 sl7 sl8 sl9 sl10 sl11 sl12 sl13 sl14 sl15 sl16 sl17 sl18 sl19 sl20 sl21 sl22 sl23 sl24 sl25 sl26 sl27 sl28 sl29 sl30 sl31 sl32 sl33 sl34 sl35 sl36 sl37 sl38 sl39 sl40 sl41 sl42 sl43 sl44 sl45 : Array (Option Value)} {oc0 kV0 dc0 pm0 cd0 ct0 oc1 kV1 dc1 pm1 cd1 ct1 oc2 kV2 dc2 pm2 cd2 ct2 oc3 kV3 dc3 pm3 cd3 ct3 oc4 kV4 dc4 pm4 cd4 ct4 oc5 kV5 dc5 pm5 cd5 ct5 oc6 kV6 dc6 pm6 cd6 ct6 oc7 kV7 dc7 pm7 cd7 ct7 oc8 kV8 dc8 pm8 cd8 ct8 oc9 kV9 dc9 pm9 cd9 ct9 oc10 kV10 dc10 pm10 cd10 ct10 oc11 kV11 dc11 pm11 cd11 ct11 oc12 kV12 dc12 pm12 cd12 ct12 oc13 kV13 dc13 pm13 cd13 ct13 oc14 kV14 dc14 pm14 cd14 ct14 oc15 kV15 dc15 pm15 cd15 ct15 oc16 kV16 dc16 pm16 cd16 ct16 oc17 kV17 dc17 pm17 cd17 ct17 oc18 kV18 dc18 pm18 cd18 ct18 oc19 kV19 dc19 pm19 cd19 ct19 oc20 kV20 dc20 pm20 cd20 ct20 oc21 kV21 dc21 pm21 cd21 ct21 oc22 kV22 dc22 pm22 cd22 ct22 oc23 kV23 dc23 pm23 cd23 ct23 oc24 kV24 dc24 pm24 cd24 ct24 oc25 kV25 dc25 pm25 cd25 ct25 oc26 kV26 dc26 pm26 cd26 ct26 oc27 kV27 dc27 pm27 cd27 ct27 oc28 kV28 dc28 pm28 cd28 ct28 oc29 kV29 dc29 pm29 cd29 ct29 oc30 kV30 dc30 pm30 cd30 ct30 oc31 kV31 dc31 pm31 cd31 ct31 oc32 kV32 dc32 pm32 cd32 ct32 oc33 kV33 dc33 pm33 cd33 ct33 oc34 kV34 dc34 pm34 cd34 ct34 oc35 kV35 dc35 pm35 cd35 ct35 oc36 kV36 dc36 pm36 cd36 ct36 oc37 kV37 dc37 pm37 cd37 ct37 oc38 kV38 dc38 pm38 cd38 ct38 oc39 kV39 dc39 pm39 cd39 ct39 oc40 kV40 dc40 pm40 cd40 ct40 oc41 kV41 dc41 pm41 cd41 ct41 oc42 kV42 dc42 pm42 cd42 ct42 oc43 kV43 dc43 pm43 cd43 ct43 oc44 kV44 dc44 pm44 cd44 ct44 oc45 kV45 dc45 pm45 cd45 ct45 : Value} {tk_MOST_THINGS tk_MOST_LISTED tk_MOST_ORDERS tk_MOST_SEARCHED tk_MOST_PARTED : Tok} {aW : Addr} {ddW : Option Addr} {nW : Nat} {tW1 tW2 tW3 : Tok} {slW : Array (Option Value)}
    (a0 : PySem.W.nsIn K mainGlobals "is_whole" = some (some (.ref f0))) (l0 : K.lookup f0 = some ⟨oc0, od0, .func (PySem.W.fnOf "is_whole" "is_whole" (defArgs s_is_whole) (defBody s_is_whole) (defScope s_is_whole) .none kV0 dc0 pm0 an0 cd0 ct0), sl0⟩) (c0 : PySem.W.codeIn K cd0 "is_whole" = true) (k0 : PySem.W.keepIn K (.ref f0) = true)
    (a1 : PySem.W.nsIn K mainGlobals "check_way" = some (some (.ref f1))) (l1 : K.lookup f1 = some ⟨oc1, od1, .func (PySem.W.fnOf "check_way" "check_way" (defArgs s_check_way) (defBody s_check_way) (defScope s_check_way) .none kV1 dc1 pm1 an1 cd1 ct1), sl1⟩) (c1 : PySem.W.codeIn K cd1 "check_way" = true) (k1 : PySem.W.keepIn K (.ref f1) = true)
    (a2 : PySem.W.nsIn K mainGlobals "check_from" = some (some (.ref f2))) (l2 : K.lookup f2 = some ⟨oc2, od2, .func (PySem.W.fnOf "check_from" "check_from" (defArgs s_check_from) (defBody s_check_from) (defScope s_check_from) .none kV2 dc2 pm2 an2 cd2 ct2), sl2⟩) (c2 : PySem.W.codeIn K cd2 "check_from" = true) (k2 : PySem.W.keepIn K (.ref f2) = true)
    (a3 : PySem.W.nsIn K mainGlobals "check_size" = some (some (.ref f3))) (l3 : K.lookup f3 = some ⟨oc3, od3, .func (PySem.W.fnOf "check_size" "check_size" (defArgs s_check_size) (defBody s_check_size) (defScope s_check_size) .none kV3 dc3 pm3 an3 cd3 ct3), sl3⟩) (c3 : PySem.W.codeIn K cd3 "check_size" = true) (k3 : PySem.W.keepIn K (.ref f3) = true)
    (a4 : PySem.W.nsIn K mainGlobals "check_apart" = some (some (.ref f4))) (l4 : K.lookup f4 = some ⟨oc4, od4, .func (PySem.W.fnOf "check_apart" "check_apart" (defArgs s_check_apart) (defBody s_check_apart) (defScope s_check_apart) .none kV4 dc4 pm4 an4 cd4 ct4), sl4⟩) (c4 : PySem.W.codeIn K cd4 "check_apart" = true) (k4 : PySem.W.keepIn K (.ref f4) = true)
    (a5 : PySem.W.nsIn K mainGlobals "places_in" = some (some (.ref f5))) (l5 : K.lookup f5 = some ⟨oc5, od5, .func (PySem.W.fnOf "places_in" "places_in" (defArgs s_places_in) (defBody s_places_in) (defScope s_places_in) .none kV5 dc5 pm5 an5 cd5 ct5), sl5⟩) (c5 : PySem.W.codeIn K cd5 "places_in" = true) (k5 : PySem.W.keepIn K (.ref f5) = true)
    (a6 : PySem.W.nsIn K mainGlobals "seats_in" = some (some (.ref f6))) (l6 : K.lookup f6 = some ⟨oc6, od6, .func (PySem.W.fnOf "seats_in" "seats_in" (defArgs s_seats_in) (defBody s_seats_in) (defScope s_seats_in) .none kV6 dc6 pm6 an6 cd6 ct6), sl6⟩) (c6 : PySem.W.codeIn K cd6 "seats_in" = true) (k6 : PySem.W.keepIn K (.ref f6) = true)
    (a7 : PySem.W.nsIn K mainGlobals "known_far" = some (some (.ref f7))) (l7 : K.lookup f7 = some ⟨oc7, od7, .func (PySem.W.fnOf "known_far" "known_far" (defArgs s_known_far) (defBody s_known_far) (defScope s_known_far) .none kV7 dc7 pm7 an7 cd7 ct7), sl7⟩) (c7 : PySem.W.codeIn K cd7 "known_far" = true) (k7 : PySem.W.keepIn K (.ref f7) = true)
    (a8 : PySem.W.nsIn K mainGlobals "far_by_swap" = some (some (.ref f8))) (l8 : K.lookup f8 = some ⟨oc8, od8, .func (PySem.W.fnOf "far_by_swap" "far_by_swap" (defArgs s_far_by_swap) (defBody s_far_by_swap) (defScope s_far_by_swap) .none kV8 dc8 pm8 an8 cd8 ct8), sl8⟩) (c8 : PySem.W.codeIn K cd8 "far_by_swap" = true) (k8 : PySem.W.keepIn K (.ref f8) = true)
    (a9 : PySem.W.nsIn K mainGlobals "far_by_spot" = some (some (.ref f9))) (l9 : K.lookup f9 = some ⟨oc9, od9, .func (PySem.W.fnOf "far_by_spot" "far_by_spot" (defArgs s_far_by_spot) (defBody s_far_by_spot) (defScope s_far_by_spot) .none kV9 dc9 pm9 an9 cd9 ct9), sl9⟩) (c9 : PySem.W.codeIn K cd9 "far_by_spot" = true) (k9 : PySem.W.keepIn K (.ref f9) = true)
    (a10 : PySem.W.nsIn K mainGlobals "far_by_shift" = some (some (.ref f10))) (l10 : K.lookup f10 = some ⟨oc10, od10, .func (PySem.W.fnOf "far_by_shift" "far_by_shift" (defArgs s_far_by_shift) (defBody s_far_by_shift) (defScope s_far_by_shift) .none kV10 dc10 pm10 an10 cd10 ct10), sl10⟩) (c10 : PySem.W.codeIn K cd10 "far_by_shift" = true) (k10 : PySem.W.keepIn K (.ref f10) = true)
    (a11 : PySem.W.nsIn K mainGlobals "all_orders" = some (some (.ref f11))) (l11 : K.lookup f11 = some ⟨oc11, od11, .func (PySem.W.fnOf "all_orders" "all_orders" (defArgs s_all_orders) (defBody s_all_orders) (defScope s_all_orders) .none kV11 dc11 pm11 an11 cd11 ct11), sl11⟩) (c11 : PySem.W.codeIn K cd11 "all_orders" = true) (k11 : PySem.W.keepIn K (.ref f11) = true)
    (a12 : PySem.W.nsIn K mainGlobals "orders_with" = some (some (.ref f12))) (l12 : K.lookup f12 = some ⟨oc12, od12, .func (PySem.W.fnOf "orders_with" "orders_with" (defArgs s_orders_with) (defBody s_orders_with) (defScope s_orders_with) .none kV12 dc12 pm12 an12 cd12 ct12), sl12⟩) (c12 : PySem.W.codeIn K cd12 "orders_with" = true) (k12 : PySem.W.keepIn K (.ref f12) = true)
    (a13 : PySem.W.nsIn K mainGlobals "count_orders" = some (some (.ref f13))) (l13 : K.lookup f13 = some ⟨oc13, od13, .func (PySem.W.fnOf "count_orders" "count_orders" (defArgs s_count_orders) (defBody s_count_orders) (defScope s_count_orders) .none kV13 dc13 pm13 an13 cd13 ct13), sl13⟩) (c13 : PySem.W.codeIn K cd13 "count_orders" = true) (k13 : PySem.W.keepIn K (.ref f13) = true)
    (a14 : PySem.W.nsIn K mainGlobals "is_far" = some (some (.ref f14))) (l14 : K.lookup f14 = some ⟨oc14, od14, .func (PySem.W.fnOf "is_far" "is_far" (defArgs s_is_far) (defBody s_is_far) (defScope s_is_far) .none kV14 dc14 pm14 an14 cd14 ct14), sl14⟩) (c14 : PySem.W.codeIn K cd14 "is_far" = true) (k14 : PySem.W.keepIn K (.ref f14) = true)
    (a15 : PySem.W.nsIn K mainGlobals "longest_apart" = some (some (.ref f15))) (l15 : K.lookup f15 = some ⟨oc15, od15, .func (PySem.W.fnOf "longest_apart" "longest_apart" (defArgs s_longest_apart) (defBody s_longest_apart) (defScope s_longest_apart) .none kV15 dc15 pm15 an15 cd15 ct15), sl15⟩) (c15 : PySem.W.codeIn K cd15 "longest_apart" = true) (k15 : PySem.W.keepIn K (.ref f15) = true)
    (a16 : PySem.W.nsIn K mainGlobals "longest_from" = some (some (.ref f16))) (l16 : K.lookup f16 = some ⟨oc16, od16, .func (PySem.W.fnOf "longest_from" "longest_from" (defArgs s_longest_from) (defBody s_longest_from) (defScope s_longest_from) .none kV16 dc16 pm16 an16 cd16 ct16), sl16⟩) (c16 : PySem.W.codeIn K cd16 "longest_from" = true) (k16 : PySem.W.keepIn K (.ref f16) = true)
    (a17 : PySem.W.nsIn K mainGlobals "far_ones" = some (some (.ref f17))) (l17 : K.lookup f17 = some ⟨oc17, od17, .func (PySem.W.fnOf "far_ones" "far_ones" (defArgs s_far_ones) (defBody s_far_ones) (defScope s_far_ones) .none kV17 dc17 pm17 an17 cd17 ct17), sl17⟩) (c17 : PySem.W.codeIn K cd17 "far_ones" = true) (k17 : PySem.W.keepIn K (.ref f17) = true)
    (a18 : PySem.W.nsIn K mainGlobals "first_apart" = some (some (.ref f18))) (l18 : K.lookup f18 = some ⟨oc18, od18, .func (PySem.W.fnOf "first_apart" "first_apart" (defArgs s_first_apart) (defBody s_first_apart) (defScope s_first_apart) .none kV18 dc18 pm18 an18 cd18 ct18), sl18⟩) (c18 : PySem.W.codeIn K cd18 "first_apart" = true) (k18 : PySem.W.keepIn K (.ref f18) = true)
    (a19 : PySem.W.nsIn K mainGlobals "is_near" = some (some (.ref f19))) (l19 : K.lookup f19 = some ⟨oc19, od19, .func (PySem.W.fnOf "is_near" "is_near" (defArgs s_is_near) (defBody s_is_near) (defScope s_is_near) .none kV19 dc19 pm19 an19 cd19 ct19), sl19⟩) (c19 : PySem.W.codeIn K cd19 "is_near" = true) (k19 : PySem.W.keepIn K (.ref f19) = true)
    (a20 : PySem.W.nsIn K mainGlobals "first_parting" = some (some (.ref f20))) (l20 : K.lookup f20 = some ⟨oc20, od20, .func (PySem.W.fnOf "first_parting" "first_parting" (defArgs s_first_parting) (defBody s_first_parting) (defScope s_first_parting) .none kV20 dc20 pm20 an20 cd20 ct20), sl20⟩) (c20 : PySem.W.codeIn K cd20 "first_parting" = true) (k20 : PySem.W.keepIn K (.ref f20) = true)
    (a21 : PySem.W.nsIn K mainGlobals "first_near" = some (some (.ref f21))) (l21 : K.lookup f21 = some ⟨oc21, od21, .func (PySem.W.fnOf "first_near" "first_near" (defArgs s_first_near) (defBody s_first_near) (defScope s_first_near) .none kV21 dc21 pm21 an21 cd21 ct21), sl21⟩) (c21 : PySem.W.codeIn K cd21 "first_near" = true) (k21 : PySem.W.keepIn K (.ref f21) = true)
    (a22 : PySem.W.nsIn K mainGlobals "count_within" = some (some (.ref f22))) (l22 : K.lookup f22 = some ⟨oc22, od22, .func (PySem.W.fnOf "count_within" "count_within" (defArgs s_count_within) (defBody s_count_within) (defScope s_count_within) .none kV22 dc22 pm22 an22 cd22 ct22), sl22⟩) (c22 : PySem.W.codeIn K cd22 "count_within" = true) (k22 : PySem.W.keepIn K (.ref f22) = true)
    (a23 : PySem.W.nsIn K mainGlobals "check_count" = some (some (.ref f23))) (l23 : K.lookup f23 = some ⟨oc23, od23, .func (PySem.W.fnOf "check_count" "check_count" (defArgs s_check_count) (defBody s_check_count) (defScope s_check_count) .none kV23 dc23 pm23 an23 cd23 ct23), sl23⟩) (c23 : PySem.W.codeIn K cd23 "check_count" = true) (k23 : PySem.W.keepIn K (.ref f23) = true)
    (a24 : PySem.W.nsIn K mainGlobals "known_within" = some (some (.ref f24))) (l24 : K.lookup f24 = some ⟨oc24, od24, .func (PySem.W.fnOf "known_within" "known_within" (defArgs s_known_within) (defBody s_known_within) (defScope s_known_within) .none kV24 dc24 pm24 an24 cd24 ct24), sl24⟩) (c24 : PySem.W.codeIn K cd24 "known_within" = true) (k24 : PySem.W.keepIn K (.ref f24) = true)
    (a25 : PySem.W.nsIn K mainGlobals "swap_counts" = some (some (.ref f25))) (l25 : K.lookup f25 = some ⟨oc25, od25, .func (PySem.W.fnOf "swap_counts" "swap_counts" (defArgs s_swap_counts) (defBody s_swap_counts) (defScope s_swap_counts) .none kV25 dc25 pm25 an25 cd25 ct25), sl25⟩) (c25 : PySem.W.codeIn K cd25 "swap_counts" = true) (k25 : PySem.W.keepIn K (.ref f25) = true)
    (a26 : PySem.W.nsIn K mainGlobals "swap_counts_with_one_more" = some (some (.ref f26))) (l26 : K.lookup f26 = some ⟨oc26, od26, .func (PySem.W.fnOf "swap_counts_with_one_more" "swap_counts_with_one_more" (defArgs s_swap_counts_with_one_more) (defBody s_swap_counts_with_one_more) (defScope s_swap_counts_with_one_more) .none kV26 dc26 pm26 an26 cd26 ct26), sl26⟩) (c26 : PySem.W.codeIn K cd26 "swap_counts_with_one_more" = true) (k26 : PySem.W.keepIn K (.ref f26) = true)
    (a27 : PySem.W.nsIn K mainGlobals "spot_counts" = some (some (.ref f27))) (l27 : K.lookup f27 = some ⟨oc27, od27, .func (PySem.W.fnOf "spot_counts" "spot_counts" (defArgs s_spot_counts) (defBody s_spot_counts) (defScope s_spot_counts) .none kV27 dc27 pm27 an27 cd27 ct27), sl27⟩) (c27 : PySem.W.codeIn K cd27 "spot_counts" = true) (k27 : PySem.W.keepIn K (.ref f27) = true)
    (a28 : PySem.W.nsIn K mainGlobals "count_all_moved" = some (some (.ref f28))) (l28 : K.lookup f28 = some ⟨oc28, od28, .func (PySem.W.fnOf "count_all_moved" "count_all_moved" (defArgs s_count_all_moved) (defBody s_count_all_moved) (defScope s_count_all_moved) .none kV28 dc28 pm28 an28 cd28 ct28), sl28⟩) (c28 : PySem.W.codeIn K cd28 "count_all_moved" = true) (k28 : PySem.W.keepIn K (.ref f28) = true)
    (a29 : PySem.W.nsIn K mainGlobals "shift_within" = some (some (.ref f29))) (l29 : K.lookup f29 = some ⟨oc29, od29, .func (PySem.W.fnOf "shift_within" "shift_within" (defArgs s_shift_within) (defBody s_shift_within) (defScope s_shift_within) .none kV29 dc29 pm29 an29 cd29 ct29), sl29⟩) (c29 : PySem.W.codeIn K cd29 "shift_within" = true) (k29 : PySem.W.keepIn K (.ref f29) = true)
    (a30 : PySem.W.nsIn K mainGlobals "things_near" = some (some (.ref f30))) (l30 : K.lookup f30 = some ⟨oc30, od30, .func (PySem.W.fnOf "things_near" "things_near" (defArgs s_things_near) (defBody s_things_near) (defScope s_things_near) .none kV30 dc30 pm30 an30 cd30 ct30), sl30⟩) (c30 : PySem.W.codeIn K cd30 "things_near" = true) (k30 : PySem.W.keepIn K (.ref f30) = true)
    (a31 : PySem.W.nsIn K mainGlobals "one_place_further" = some (some (.ref f31))) (l31 : K.lookup f31 = some ⟨oc31, od31, .func (PySem.W.fnOf "one_place_further" "one_place_further" (defArgs s_one_place_further) (defBody s_one_place_further) (defScope s_one_place_further) .none kV31 dc31 pm31 an31 cd31 ct31), sl31⟩) (c31 : PySem.W.codeIn K cd31 "one_place_further" = true) (k31 : PySem.W.keepIn K (.ref f31) = true)
    (a32 : PySem.W.nsIn K mainGlobals "bounds_by_rounds" = some (some (.ref f32))) (l32 : K.lookup f32 = some ⟨oc32, od32, .func (PySem.W.fnOf "bounds_by_rounds" "bounds_by_rounds" (defArgs s_bounds_by_rounds) (defBody s_bounds_by_rounds) (defScope s_bounds_by_rounds) .none kV32 dc32 pm32 an32 cd32 ct32), sl32⟩) (c32 : PySem.W.codeIn K cd32 "bounds_by_rounds" = true) (k32 : PySem.W.keepIn K (.ref f32) = true)
    (a33 : PySem.W.nsIn K mainGlobals "most_by_places" = some (some (.ref f33))) (l33 : K.lookup f33 = some ⟨oc33, od33, .func (PySem.W.fnOf "most_by_places" "most_by_places" (defArgs s_most_by_places) (defBody s_most_by_places) (defScope s_most_by_places) .none kV33 dc33 pm33 an33 cd33 ct33), sl33⟩) (c33 : PySem.W.codeIn K cd33 "most_by_places" = true) (k33 : PySem.W.keepIn K (.ref f33) = true)
    (a34 : PySem.W.nsIn K mainGlobals "best_bound" = some (some (.ref f34))) (l34 : K.lookup f34 = some ⟨oc34, od34, .func (PySem.W.fnOf "best_bound" "best_bound" (defArgs s_best_bound) (defBody s_best_bound) (defScope s_best_bound) .none kV34 dc34 pm34 an34 cd34 ct34), sl34⟩) (c34 : PySem.W.codeIn K cd34 "best_bound" = true) (k34 : PySem.W.keepIn K (.ref f34) = true)
    (a35 : PySem.W.nsIn K mainGlobals "check_many" = some (some (.ref f35))) (l35 : K.lookup f35 = some ⟨oc35, od35, .func (PySem.W.fnOf "check_many" "check_many" (defArgs s_check_many) (defBody s_check_many) (defScope s_check_many) .none kV35 dc35 pm35 an35 cd35 ct35), sl35⟩) (c35 : PySem.W.codeIn K cd35 "check_many" = true) (k35 : PySem.W.keepIn K (.ref f35) = true)
    (a36 : PySem.W.nsIn K mainGlobals "even_orders" = some (some (.ref f36))) (l36 : K.lookup f36 = some ⟨oc36, od36, .func (PySem.W.fnOf "even_orders" "even_orders" (defArgs s_even_orders) (defBody s_even_orders) (defScope s_even_orders) .none kV36 dc36 pm36 an36 cd36 ct36), sl36⟩) (c36 : PySem.W.codeIn K cd36 "even_orders" = true) (k36 : PySem.W.keepIn K (.ref f36) = true)
    (a37 : PySem.W.nsIn K mainGlobals "ring_orders" = some (some (.ref f37))) (l37 : K.lookup f37 = some ⟨oc37, od37, .func (PySem.W.fnOf "ring_orders" "ring_orders" (defArgs s_ring_orders) (defBody s_ring_orders) (defScope s_ring_orders) .none kV37 dc37 pm37 an37 cd37 ct37), sl37⟩) (c37 : PySem.W.codeIn K cd37 "ring_orders" = true) (k37 : PySem.W.keepIn K (.ref f37) = true)
    (a38 : PySem.W.nsIn K mainGlobals "_law_pool" = some (some (.ref f38))) (l38 : K.lookup f38 = some ⟨oc38, od38, .func (PySem.W.fnOf "_law_pool" "_law_pool" (defArgs s_law_pool) (defBody s_law_pool) (defScope s_law_pool) .none kV38 dc38 pm38 an38 cd38 ct38), sl38⟩) (c38 : PySem.W.codeIn K cd38 "_law_pool" = true) (k38 : PySem.W.keepIn K (.ref f38) = true)
    (a39 : PySem.W.nsIn K mainGlobals "_law_take" = some (some (.ref f39))) (l39 : K.lookup f39 = some ⟨oc39, od39, .func (PySem.W.fnOf "_law_take" "_law_take" (defArgs s_law_take) (defBody s_law_take) (defScope s_law_take) .none kV39 dc39 pm39 an39 cd39 ct39), sl39⟩) (c39 : PySem.W.codeIn K cd39 "_law_take" = true) (k39 : PySem.W.keepIn K (.ref f39) = true)
    (a40 : PySem.W.nsIn K mainGlobals "_law_many" = some (some (.ref f40))) (l40 : K.lookup f40 = some ⟨oc40, od40, .func (PySem.W.fnOf "_law_many" "_law_many" (defArgs s_law_many) (defBody s_law_many) (defScope s_law_many) .none kV40 dc40 pm40 an40 cd40 ct40), sl40⟩) (c40 : PySem.W.codeIn K cd40 "_law_many" = true) (k40 : PySem.W.keepIn K (.ref f40) = true)
    (a41 : PySem.W.nsIn K mainGlobals "_law_ways" = some (some (.ref f41))) (l41 : K.lookup f41 = some ⟨oc41, od41, .func (PySem.W.fnOf "_law_ways" "_law_ways" (defArgs s_law_ways) (defBody s_law_ways) (defScope s_law_ways) .none kV41 dc41 pm41 an41 cd41 ct41), sl41⟩) (c41 : PySem.W.codeIn K cd41 "_law_ways" = true) (k41 : PySem.W.keepIn K (.ref f41) = true)
    (a42 : PySem.W.nsIn K mainGlobals "_law_lists_right" = some (some (.ref f42))) (l42 : K.lookup f42 = some ⟨oc42, od42, .func (PySem.W.fnOf "_law_lists_right" "_law_lists_right" (defArgs s_law_lists_right) (defBody s_law_lists_right) (defScope s_law_lists_right) .none kV42 dc42 pm42 an42 cd42 ct42), sl42⟩) (c42 : PySem.W.codeIn K cd42 "_law_lists_right" = true) (k42 : PySem.W.keepIn K (.ref f42) = true)
    (a43 : PySem.W.nsIn K mainGlobals "_law_farther_right" = some (some (.ref f43))) (l43 : K.lookup f43 = some ⟨oc43, od43, .func (PySem.W.fnOf "_law_farther_right" "_law_farther_right" (defArgs s_law_farther_right) (defBody s_law_farther_right) (defScope s_law_farther_right) .none kV43 dc43 pm43 an43 cd43 ct43), sl43⟩) (c43 : PySem.W.codeIn K cd43 "_law_farther_right" = true) (k43 : PySem.W.keepIn K (.ref f43) = true)
    (a44 : PySem.W.nsIn K mainGlobals "_law_made_right" = some (some (.ref f44))) (l44 : K.lookup f44 = some ⟨oc44, od44, .func (PySem.W.fnOf "_law_made_right" "_law_made_right" (defArgs s_law_made_right) (defBody s_law_made_right) (defScope s_law_made_right) .none kV44 dc44 pm44 an44 cd44 ct44), sl44⟩) (c44 : PySem.W.codeIn K cd44 "_law_made_right" = true) (k44 : PySem.W.keepIn K (.ref f44) = true)
    (a45 : PySem.W.nsIn K mainGlobals "law" = some (some (.ref f45))) (l45 : K.lookup f45 = some ⟨oc45, od45, .func (PySem.W.fnOf "law" "law" (defArgs s_law) (defBody s_law) (defScope s_law) .none kV45 dc45 pm45 an45 cd45 ct45), sl45⟩) (c45 : PySem.W.codeIn K cd45 "law" = true) (k45 : PySem.W.keepIn K (.ref f45) = true)
    (g_MOST_THINGS : PySem.W.nsIn K mainGlobals "MOST_THINGS" = some (some (.int 12 tk_MOST_THINGS)))
    (g_MOST_LISTED : PySem.W.nsIn K mainGlobals "MOST_LISTED" = some (some (.int 6 tk_MOST_LISTED)))
    (g_MOST_ORDERS : PySem.W.nsIn K mainGlobals "MOST_ORDERS" = some (some (.int 120 tk_MOST_ORDERS)))
    (g_MOST_SEARCHED : PySem.W.nsIn K mainGlobals "MOST_SEARCHED" = some (some (.int 4 tk_MOST_SEARCHED)))
    (g_MOST_PARTED : PySem.W.nsIn K mainGlobals "MOST_PARTED" = some (some (.int 5 tk_MOST_PARTED)))
    (g_WAYS : PySem.W.nsIn K mainGlobals "WAYS" = some (some (.ref aW))) (l_WAYS : K.lookup aW = some ⟨.type "tuple", ddW, .seq #[.str "swap" tW1, .str "spot" tW2, .str "shift" tW3] nW, slW⟩)
    (z_ValueError : PySem.W.nsIn K mainGlobals "ValueError" = some none)
    (z_abs : PySem.W.nsIn K mainGlobals "abs" = some none)
    (z_all : PySem.W.nsIn K mainGlobals "all" = some none)
    (z_bool : PySem.W.nsIn K mainGlobals "bool" = some none)
    (z_enumerate : PySem.W.nsIn K mainGlobals "enumerate" = some none)
    (z_int : PySem.W.nsIn K mainGlobals "int" = some none)
    (z_isinstance : PySem.W.nsIn K mainGlobals "isinstance" = some none)
    (z_len : PySem.W.nsIn K mainGlobals "len" = some none)
    (z_list : PySem.W.nsIn K mainGlobals "list" = some none)
    (z_max : PySem.W.nsIn K mainGlobals "max" = some none)
    (z_min : PySem.W.nsIn K mainGlobals "min" = some none)
    (z_range : PySem.W.nsIn K mainGlobals "range" = some none)
    (z_sorted : PySem.W.nsIn K mainGlobals "sorted" = some none)
    (z_str : PySem.W.nsIn K mainGlobals "str" = some none)
    (z_sum : PySem.W.nsIn K mainGlobals "sum" = some none)
    {tc_is_far tp_is_far tc_is_near tp_is_near : Addr} {to_is_far to_is_near : Value} {td_is_far td_is_near : Option Addr} {tv_is_far tv_is_near : Array Value} {ts_is_far ts_is_near : Array (Option Value)}
    (e_is_far : cd14 = .ref tc_is_far) (u_is_far : K.lookup tc_is_far = some ⟨to_is_far, td_is_far, .fields tv_is_far, ts_is_far⟩) (v_is_far : tv_is_far[11]? = some (.ref tp_is_far)) (n_is_far : K.lookup tp_is_far = none)
    (e_is_near : cd19 = .ref tc_is_near) (u_is_near : K.lookup tc_is_near = some ⟨to_is_near, td_is_near, .fields tv_is_near, ts_is_near⟩) (v_is_near : tv_is_near[11]? = some (.ref tp_is_near)) (n_is_near : K.lookup tp_is_near = none)
    (tabs : ∀ y ∈ ["is_far", "is_near"], ∀ c P, PySem.W.tabIn K y = some (c, P) → PySem.W.CodeHd h c P ∧ h.get? P = some { cls := .none, data := .fields #[] })
    : LamX.LawAtS l w K CX0 40 63 "script" mg fa h := by
  have e := hfa.symm.trans (PySem.W.mg_of X G a45)
  cases e
  have t_is_far := tab_mk a14 l14 e_is_far u_is_far v_is_far
  have t_is_near := tab_mk a19 l19 e_is_near u_is_near v_is_near
  have F0 := fun_mk (st := s_is_whole) l0 c0 k0
  have F1 := fun_mk (st := s_check_way) l1 c1 k1
  have F2 := fun_mk (st := s_check_from) l2 c2 k2
  have F3 := fun_mk (st := s_check_size) l3 c3 k3
  have F4 := fun_mk (st := s_check_apart) l4 c4 k4
  have F5 := fun_mk (st := s_places_in) l5 c5 k5
  have F6 := fun_mk (st := s_seats_in) l6 c6 k6
  have F7 := fun_mk (st := s_known_far) l7 c7 k7
  have F8 := fun_mk (st := s_far_by_swap) l8 c8 k8
  have F9 := fun_mk (st := s_far_by_spot) l9 c9 k9
  have F10 := fun_mk (st := s_far_by_shift) l10 c10 k10
  have F11 := fun_mk (st := s_all_orders) l11 c11 k11
  have F12 := fun_mk (st := s_orders_with) l12 c12 k12
  have F13 := fun_mk (st := s_count_orders) l13 c13 k13
  have F14 := fun_mk (st := s_is_far) l14 c14 k14
  have F15 := fun_mk (st := s_longest_apart) l15 c15 k15
  have F16 := fun_mk (st := s_longest_from) l16 c16 k16
  have F17 := fun_mk (st := s_far_ones) l17 c17 k17
  have F18 := fun_mk (st := s_first_apart) l18 c18 k18
  have F19 := fun_mk (st := s_is_near) l19 c19 k19
  have F20 := fun_mk (st := s_first_parting) l20 c20 k20
  have F21 := fun_mk (st := s_first_near) l21 c21 k21
  have F22 := fun_mk (st := s_count_within) l22 c22 k22
  have F23 := fun_mk (st := s_check_count) l23 c23 k23
  have F24 := fun_mk (st := s_known_within) l24 c24 k24
  have F25 := fun_mk (st := s_swap_counts) l25 c25 k25
  have F26 := fun_mk (st := s_swap_counts_with_one_more) l26 c26 k26
  have F27 := fun_mk (st := s_spot_counts) l27 c27 k27
  have F28 := fun_mk (st := s_count_all_moved) l28 c28 k28
  have F29 := fun_mk (st := s_shift_within) l29 c29 k29
  have F30 := fun_mk (st := s_things_near) l30 c30 k30
  have F31 := fun_mk (st := s_one_place_further) l31 c31 k31
  have F32 := fun_mk (st := s_bounds_by_rounds) l32 c32 k32
  have F33 := fun_mk (st := s_most_by_places) l33 c33 k33
  have F34 := fun_mk (st := s_best_bound) l34 c34 k34
  have F35 := fun_mk (st := s_check_many) l35 c35 k35
  have F36 := fun_mk (st := s_even_orders) l36 c36 k36
  have F37 := fun_mk (st := s_ring_orders) l37 c37 k37
  have F38 := fun_mk (st := s_law_pool) l38 c38 k38
  have F39 := fun_mk (st := s_law_take) l39 c39 k39
  have F40 := fun_mk (st := s_law_many) l40 c40 k40
  have F41 := fun_mk (st := s_law_ways) l41 c41 k41
  have F42 := fun_mk (st := s_law_lists_right) l42 c42 k42
  have F43 := fun_mk (st := s_law_farther_right) l43 c43 k43
  have F44 := fun_mk (st := s_law_made_right) l44 c44 k44
  have F45 := fun_mk (st := s_law) l45 c45 k45
  have T_is_whole : Df K mg "is_whole" s_is_whole ["thing"] f0 _ := ⟨F0, F0.binds (ps := ["thing"]) (fun _ _ _ _ _ _ us hl => match us, hl with | [_], _ => rfl), PySem.W.mg_of X G a0⟩
  have T_check_way : Df K mg "check_way" s_check_way ["thing"] f1 _ := ⟨F1, F1.binds (ps := ["thing"]) (fun _ _ _ _ _ _ us hl => match us, hl with | [_], _ => rfl), PySem.W.mg_of X G a1⟩
  have T_check_from : Df K mg "check_from" s_check_from ["thing", "least"] f2 _ := ⟨F2, F2.binds (ps := ["thing", "least"]) (fun _ _ _ _ _ _ us hl => match us, hl with | [_, _], _ => rfl), PySem.W.mg_of X G a2⟩
  have T_check_size : Df K mg "check_size" s_check_size ["thing", "most"] f3 _ := ⟨F3, F3.binds (ps := ["thing", "most"]) (fun _ _ _ _ _ _ us hl => match us, hl with | [_, _], _ => rfl), PySem.W.mg_of X G a3⟩
  have T_check_apart : Df K mg "check_apart" s_check_apart ["way", "n", "most", "d"] f4 _ := ⟨F4, F4.binds (ps := ["way", "n", "most", "d"]) (fun _ _ _ _ _ _ us hl => match us, hl with | [_, _, _, _], _ => rfl), PySem.W.mg_of X G a4⟩
  have T_places_in : Df K mg "places_in" s_places_in ["order"] f5 _ := ⟨F5, F5.binds (ps := ["order"]) (fun _ _ _ _ _ _ us hl => match us, hl with | [_], _ => rfl), PySem.W.mg_of X G a5⟩
  have T_seats_in : Df K mg "seats_in" s_seats_in ["one", "other"] f6 _ := ⟨F6, F6.binds (ps := ["one", "other"]) (fun _ _ _ _ _ _ us hl => match us, hl with | [_, _], _ => rfl), PySem.W.mg_of X G a6⟩
  have T_known_far : Df K mg "known_far" s_known_far ["way", "one", "other"] f7 _ := ⟨F7, F7.binds (ps := ["way", "one", "other"]) (fun _ _ _ _ _ _ us hl => match us, hl with | [_, _, _], _ => rfl), PySem.W.mg_of X G a7⟩
  have T_far_by_swap : Df K mg "far_by_swap" s_far_by_swap ["one", "other"] f8 _ := ⟨F8, F8.binds (ps := ["one", "other"]) (fun _ _ _ _ _ _ us hl => match us, hl with | [_, _], _ => rfl), PySem.W.mg_of X G a8⟩
  have T_far_by_spot : Df K mg "far_by_spot" s_far_by_spot ["one", "other"] f9 _ := ⟨F9, F9.binds (ps := ["one", "other"]) (fun _ _ _ _ _ _ us hl => match us, hl with | [_, _], _ => rfl), PySem.W.mg_of X G a9⟩
  have T_far_by_shift : Df K mg "far_by_shift" s_far_by_shift ["one", "other"] f10 _ := ⟨F10, F10.binds (ps := ["one", "other"]) (fun _ _ _ _ _ _ us hl => match us, hl with | [_, _], _ => rfl), PySem.W.mg_of X G a10⟩
  have T_all_orders : Df K mg "all_orders" s_all_orders ["n"] f11 _ := ⟨F11, F11.binds (ps := ["n"]) (fun _ _ _ _ _ _ us hl => match us, hl with | [_], _ => rfl), PySem.W.mg_of X G a11⟩
  have T_orders_with : Df K mg "orders_with" s_orders_with ["choices"] f12 _ := ⟨F12, F12.binds (ps := ["choices"]) (fun _ _ _ _ _ _ us hl => match us, hl with | [_], _ => rfl), PySem.W.mg_of X G a12⟩
  have T_count_orders : Df K mg "count_orders" s_count_orders ["n"] f13 _ := ⟨F13, F13.binds (ps := ["n"]) (fun _ _ _ _ _ _ us hl => match us, hl with | [_], _ => rfl), PySem.W.mg_of X G a13⟩
  have T_is_far : DfC K mg "is_far" s_is_far ["way", "d", "order", "others"] f14 _ tc_is_far := ⟨F14, F14.binds (ps := ["way", "d", "order", "others"]) (fun _ _ _ _ _ _ us hl => match us, hl with | [_, _, _, _], _ => rfl), PySem.W.mg_of X G a14, tab_code t_is_far a14 l14⟩
  have T_longest_apart : Df K mg "longest_apart" s_longest_apart ["way", "n", "d"] f15 _ := ⟨F15, F15.binds (ps := ["way", "n", "d"]) (fun _ _ _ _ _ _ us hl => match us, hl with | [_, _, _], _ => rfl), PySem.W.mg_of X G a15⟩
  have T_longest_from : Df K mg "longest_from" s_longest_from ["way", "d", "taken", "rest", "best"] f16 _ := ⟨F16, F16.binds (ps := ["way", "d", "taken", "rest", "best"]) (fun _ _ _ _ _ _ us hl => match us, hl with | [_, _, _, _, _], _ => rfl), PySem.W.mg_of X G a16⟩
  have T_far_ones : Df K mg "far_ones" s_far_ones ["way", "d", "order", "others"] f17 _ := ⟨F17, F17.binds (ps := ["way", "d", "order", "others"]) (fun _ _ _ _ _ _ us hl => match us, hl with | [_, _, _, _], _ => rfl), PySem.W.mg_of X G a17⟩
  have T_first_apart : Df K mg "first_apart" s_first_apart ["way", "n", "d"] f18 _ := ⟨F18, F18.binds (ps := ["way", "n", "d"]) (fun _ _ _ _ _ _ us hl => match us, hl with | [_, _, _], _ => rfl), PySem.W.mg_of X G a18⟩
  have T_is_near : DfC K mg "is_near" s_is_near ["way", "d", "order", "others"] f19 _ tc_is_near := ⟨F19, F19.binds (ps := ["way", "d", "order", "others"]) (fun _ _ _ _ _ _ us hl => match us, hl with | [_, _, _, _], _ => rfl), PySem.W.mg_of X G a19, tab_code t_is_near a19 l19⟩
  have T_first_parting : Df K mg "first_parting" s_first_parting ["way", "n", "d"] f20 _ := ⟨F20, F20.binds (ps := ["way", "n", "d"]) (fun _ _ _ _ _ _ us hl => match us, hl with | [_, _, _], _ => rfl), PySem.W.mg_of X G a20⟩
  have T_first_near : Df K mg "first_near" s_first_near ["way", "d", "order", "parts"] f21 _ := ⟨F21, F21.binds (ps := ["way", "d", "order", "parts"]) (fun _ _ _ _ _ _ us hl => match us, hl with | [_, _, _, _], _ => rfl), PySem.W.mg_of X G a21⟩
  have T_count_within : Df K mg "count_within" s_count_within ["way", "n", "r"] f22 _ := ⟨F22, F22.binds (ps := ["way", "n", "r"]) (fun _ _ _ _ _ _ us hl => match us, hl with | [_, _, _], _ => rfl), PySem.W.mg_of X G a22⟩
  have T_check_count : Df K mg "check_count" s_check_count ["way", "n", "r"] f23 _ := ⟨F23, F23.binds (ps := ["way", "n", "r"]) (fun _ _ _ _ _ _ us hl => match us, hl with | [_, _, _], _ => rfl), PySem.W.mg_of X G a23⟩
  have T_known_within : Df K mg "known_within" s_known_within ["way", "n", "r"] f24 _ := ⟨F24, F24.binds (ps := ["way", "n", "r"]) (fun _ _ _ _ _ _ us hl => match us, hl with | [_, _, _], _ => rfl), PySem.W.mg_of X G a24⟩
  have T_swap_counts : Df K mg "swap_counts" s_swap_counts ["n"] f25 _ := ⟨F25, F25.binds (ps := ["n"]) (fun _ _ _ _ _ _ us hl => match us, hl with | [_], _ => rfl), PySem.W.mg_of X G a25⟩
  have T_swap_counts_with_one_more : Df K mg "swap_counts_with_one_more" s_swap_counts_with_one_more ["counts", "behind"] f26 _ := ⟨F26, F26.binds (ps := ["counts", "behind"]) (fun _ _ _ _ _ _ us hl => match us, hl with | [_, _], _ => rfl), PySem.W.mg_of X G a26⟩
  have T_spot_counts : Df K mg "spot_counts" s_spot_counts ["n"] f27 _ := ⟨F27, F27.binds (ps := ["n"]) (fun _ _ _ _ _ _ us hl => match us, hl with | [_], _ => rfl), PySem.W.mg_of X G a27⟩
  have T_count_all_moved : Df K mg "count_all_moved" s_count_all_moved ["n"] f28 _ := ⟨F28, F28.binds (ps := ["n"]) (fun _ _ _ _ _ _ us hl => match us, hl with | [_], _ => rfl), PySem.W.mg_of X G a28⟩
  have T_shift_within : Df K mg "shift_within" s_shift_within ["n", "r"] f29 _ := ⟨F29, F29.binds (ps := ["n", "r"]) (fun _ _ _ _ _ _ us hl => match us, hl with | [_, _], _ => rfl), PySem.W.mg_of X G a29⟩
  have T_things_near : Df K mg "things_near" s_things_near ["place", "n", "r"] f30 _ := ⟨F30, F30.binds (ps := ["place", "n", "r"]) (fun _ _ _ _ _ _ us hl => match us, hl with | [_, _, _], _ => rfl), PySem.W.mg_of X G a30⟩
  have T_one_place_further : Df K mg "one_place_further" s_one_place_further ["beginnings", "near"] f31 _ := ⟨F31, F31.binds (ps := ["beginnings", "near"]) (fun _ _ _ _ _ _ us hl => match us, hl with | [_, _], _ => rfl), PySem.W.mg_of X G a31⟩
  have T_bounds_by_rounds : Df K mg "bounds_by_rounds" s_bounds_by_rounds ["way", "n", "d"] f32 _ := ⟨F32, F32.binds (ps := ["way", "n", "d"]) (fun _ _ _ _ _ _ us hl => match us, hl with | [_, _, _], _ => rfl), PySem.W.mg_of X G a32⟩
  have T_most_by_places : Df K mg "most_by_places" s_most_by_places ["n", "d"] f33 _ := ⟨F33, F33.binds (ps := ["n", "d"]) (fun _ _ _ _ _ _ us hl => match us, hl with | [_, _], _ => rfl), PySem.W.mg_of X G a33⟩
  have T_best_bound : Df K mg "best_bound" s_best_bound ["way", "n", "d"] f34 _ := ⟨F34, F34.binds (ps := ["way", "n", "d"]) (fun _ _ _ _ _ _ us hl => match us, hl with | [_, _, _], _ => rfl), PySem.W.mg_of X G a34⟩
  have T_check_many : Df K mg "check_many" s_check_many ["many"] f35 _ := ⟨F35, F35.binds (ps := ["many"]) (fun _ _ _ _ _ _ us hl => match us, hl with | [_], _ => rfl), PySem.W.mg_of X G a35⟩
  have T_even_orders : Df K mg "even_orders" s_even_orders ["n"] f36 _ := ⟨F36, F36.binds (ps := ["n"]) (fun _ _ _ _ _ _ us hl => match us, hl with | [_], _ => rfl), PySem.W.mg_of X G a36⟩
  have T_ring_orders : Df K mg "ring_orders" s_ring_orders ["n"] f37 _ := ⟨F37, F37.binds (ps := ["n"]) (fun _ _ _ _ _ _ us hl => match us, hl with | [_], _ => rfl), PySem.W.mg_of X G a37⟩
  have T__law_pool : Df K mg "_law_pool" s_law_pool ["script", "k"] f38 _ := ⟨F38, F38.binds (ps := ["script", "k"]) (fun _ _ _ _ _ _ us hl => match us, hl with | [_, _], _ => rfl), PySem.W.mg_of X G a38⟩
  have T__law_take : Df K mg "_law_take" s_law_take ["pool", "many"] f39 _ := ⟨F39, F39.binds (ps := ["pool", "many"]) (fun _ _ _ _ _ _ us hl => match us, hl with | [_, _], _ => rfl), PySem.W.mg_of X G a39⟩
  have T__law_many : Df K mg "_law_many" s_law_many ["n"] f40 _ := ⟨F40, F40.binds (ps := ["n"]) (fun _ _ _ _ _ _ us hl => match us, hl with | [_], _ => rfl), PySem.W.mg_of X G a40⟩
  have T__law_ways : Df K mg "_law_ways" s_law_ways [] f41 _ := ⟨F41, F41.binds (ps := []) (fun _ _ _ _ _ _ us hl => match us, hl with | [], _ => rfl), PySem.W.mg_of X G a41⟩
  have T__law_lists_right : Df K mg "_law_lists_right" s_law_lists_right ["way", "n", "d"] f42 _ := ⟨F42, F42.binds (ps := ["way", "n", "d"]) (fun _ _ _ _ _ _ us hl => match us, hl with | [_, _, _], _ => rfl), PySem.W.mg_of X G a42⟩
  have T__law_farther_right : Df K mg "_law_farther_right" s_law_farther_right ["way", "n", "d"] f43 _ := ⟨F43, F43.binds (ps := ["way", "n", "d"]) (fun _ _ _ _ _ _ us hl => match us, hl with | [_, _, _], _ => rfl), PySem.W.mg_of X G a43⟩
  have T__law_made_right : Df K mg "_law_made_right" s_law_made_right ["n"] f44 _ := ⟨F44, F44.binds (ps := ["n"]) (fun _ _ _ _ _ _ us hl => match us, hl with | [_], _ => rfl), PySem.W.mg_of X G a44⟩
  have B : Bi mg := ⟨PySem.W.mg_none_of X G z_ValueError, PySem.W.mg_none_of X G z_abs, PySem.W.mg_none_of X G z_all, PySem.W.mg_none_of X G z_bool, PySem.W.mg_none_of X G z_enumerate, PySem.W.mg_none_of X G z_int, PySem.W.mg_none_of X G z_isinstance, PySem.W.mg_none_of X G z_len, PySem.W.mg_none_of X G z_list, PySem.W.mg_none_of X G z_max, PySem.W.mg_none_of X G z_min, PySem.W.mg_none_of X G z_range, PySem.W.mg_none_of X G z_sorted, PySem.W.mg_none_of X G z_str, PySem.W.mg_none_of X G z_sum⟩
  have m_WAYS := wy_mk (PySem.W.mg_of X G g_WAYS) l_WAYS
  have m_MOST_THINGS := PySem.W.mg_of X G g_MOST_THINGS
  have m_MOST_LISTED := PySem.W.mg_of X G g_MOST_LISTED
  have m_MOST_ORDERS := PySem.W.mg_of X G g_MOST_ORDERS
  have m_MOST_SEARCHED := PySem.W.mg_of X G g_MOST_SEARCHED
  have m_MOST_PARTED := PySem.W.mg_of X G g_MOST_PARTED
  refine ⟨PySem.W.fnOf "law" "law" (defArgs s_law) (defBody s_law) (defScope s_law) .none kV45 dc45 pm45 an45 cd45 ct45, [(tc_is_far, tp_is_far), (tc_is_near, tp_is_near)], spLaw K tp_is_far tp_is_near, ?_, ?_, ?_, fun s v => .of_eq rfl, fun H a ns hl _ hT hS => ⟨a, ns, rfl, hS, hl, ⟨#[], hT (tc_is_far, tp_is_far) (by simp), trivial⟩, ⟨#[], hT (tc_is_near, tp_is_near) (by simp), trivial⟩, fun _ => rfl⟩, fun base _ _ TBs => ?_⟩
  · rintro p hp
    simp only [List.mem_cons, List.not_mem_nil, or_false] at hp
    rcases hp with rfl | rfl
    · exact (tabs "is_far" (by simp) _ _ t_is_far).2
    · exact (tabs "is_near" (by simp) _ _ t_is_near).2
  · rintro p hp
    simp only [List.mem_cons, List.not_mem_nil, or_false] at hp
    rcases hp with rfl | rfl
    · exact n_is_far
    · exact n_is_near
  · rintro p hp
    simp only [List.mem_cons, List.not_mem_nil, or_false] at hp
    rcases hp with rfl | rfl
    · exact (tabs "is_far" (by simp) _ _ t_is_far).1
    · exact (tabs "is_near" (by simp) _ _ t_is_near).1
  have TB_is_far := TBs (tc_is_far, tp_is_far) (by simp)
  have TB_is_near := TBs (tc_is_near, tp_is_near) (by simp)
  exact ok_law F45 T__law_pool T__law_take T__law_ways T__law_lists_right T__law_farther_right T__law_made_right (ok_pool (k := 38) T__law_pool B) (ok_take (k := 38) T__law_take B) (ok_ways (k := 38) T__law_ways B) (ok_L62 (k := 38) T__law_lists_right T_bounds_by_rounds T_best_bound T_first_apart T_longest_apart T_first_parting T_most_by_places (ok_bounds (k := 37) T_bounds_by_rounds T_check_apart T_count_orders T_known_within (ok_apart (k := 34) T_check_apart T_check_way T_check_size T_check_from T_is_whole m_WAYS B) (ok_fac (k := 36) T_count_orders B) (ok_kw (k := 34) T_known_within T_swap_counts T_spot_counts T_shift_within T_swap_counts_with_one_more T_count_all_moved T_things_near T_one_place_further B) B m_MOST_THINGS) (ok_best (k := 37) T_best_bound T_check_apart T_bounds_by_rounds T_most_by_places T_first_parting (ok_apart (k := 34) T_check_apart T_check_way T_check_size T_check_from T_is_whole m_WAYS B) (ok_bounds (k := 36) T_bounds_by_rounds T_check_apart T_count_orders T_known_within (ok_apart (k := 33) T_check_apart T_check_way T_check_size T_check_from T_is_whole m_WAYS B) (ok_fac (k := 35) T_count_orders B) (ok_kw (k := 33) T_known_within T_swap_counts T_spot_counts T_shift_within T_swap_counts_with_one_more T_count_all_moved T_things_near T_one_place_further B) B m_MOST_THINGS) (ok_most (k := 36) T_most_by_places T_check_size T_count_orders (ok_size (k := 34) T_check_size T_is_whole B) (ok_fac (k := 35) T_count_orders B) B m_MOST_THINGS) (ok_parting (k := 36) T_first_parting T_check_apart T_all_orders T_first_near (ok_apart (k := 33) T_check_apart T_check_way T_check_size T_check_from T_is_whole m_WAYS B) (ok_all_orders (k := 34) T_all_orders T_orders_with B) (ok_fnear (k := 35) T_first_near T_is_near (ok_isNear (k := 33) T_is_near TB_is_near T_known_far (ok_known (k := 32) T_known_far T_far_by_swap T_far_by_spot T_far_by_shift (ok_swap (k := 31) T_far_by_swap T_seats_in (ok_seats (k := 29) T_seats_in T_places_in B) B) (ok_spot (k := 31) T_far_by_spot B) (ok_shift (k := 31) T_far_by_shift T_seats_in (ok_seats (k := 29) T_seats_in T_places_in B) B)) B) B) B m_MOST_PARTED) B m_MOST_LISTED m_MOST_PARTED) (ok_first (k := 37) T_first_apart T_check_apart T_all_orders T_is_far (ok_apart (k := 34) T_check_apart T_check_way T_check_size T_check_from T_is_whole m_WAYS B) (ok_all_orders (k := 35) T_all_orders T_orders_with B) (ok_isFar (k := 35) T_is_far TB_is_far T_known_far (ok_known (k := 34) T_known_far T_far_by_swap T_far_by_spot T_far_by_shift (ok_swap (k := 33) T_far_by_swap T_seats_in (ok_seats (k := 31) T_seats_in T_places_in B) B) (ok_spot (k := 33) T_far_by_spot B) (ok_shift (k := 33) T_far_by_shift T_seats_in (ok_seats (k := 31) T_seats_in T_places_in B) B)) B) B m_MOST_LISTED) (ok_longest (k := 37) T_longest_apart T_check_apart T_all_orders T_longest_from T_far_ones (ok_apart (k := 34) T_check_apart T_check_way T_check_size T_check_from T_is_whole m_WAYS B) (ok_all_orders (k := 35) T_all_orders T_orders_with B) (ok_lf (k := 13) T_longest_from T_far_ones (fun j => ok_farOnes (k := j + 12) T_far_ones T_known_far (ok_known (k := j + 11) T_known_far T_far_by_swap T_far_by_spot T_far_by_shift (ok_swap (k := j + 10) T_far_by_swap T_seats_in (ok_seats (k := j + 8) T_seats_in T_places_in B) B) (ok_spot (k := j + 10) T_far_by_spot B) (ok_shift (k := j + 10) T_far_by_shift T_seats_in (ok_seats (k := j + 8) T_seats_in T_places_in B) B)) B) B 24) (ok_farOnes (k := 36) T_far_ones T_known_far (ok_known (k := 35) T_known_far T_far_by_swap T_far_by_spot T_far_by_shift (ok_swap (k := 34) T_far_by_swap T_seats_in (ok_seats (k := 32) T_seats_in T_places_in B) B) (ok_spot (k := 34) T_far_by_spot B) (ok_shift (k := 34) T_far_by_shift T_seats_in (ok_seats (k := 32) T_seats_in T_places_in B) B)) B) B m_MOST_SEARCHED) (ok_parting (k := 37) T_first_parting T_check_apart T_all_orders T_first_near (ok_apart (k := 34) T_check_apart T_check_way T_check_size T_check_from T_is_whole m_WAYS B) (ok_all_orders (k := 35) T_all_orders T_orders_with B) (ok_fnear (k := 36) T_first_near T_is_near (ok_isNear (k := 34) T_is_near TB_is_near T_known_far (ok_known (k := 33) T_known_far T_far_by_swap T_far_by_spot T_far_by_shift (ok_swap (k := 32) T_far_by_swap T_seats_in (ok_seats (k := 30) T_seats_in T_places_in B) B) (ok_spot (k := 32) T_far_by_spot B) (ok_shift (k := 32) T_far_by_shift T_seats_in (ok_seats (k := 30) T_seats_in T_places_in B) B)) B) B) B m_MOST_PARTED) (ok_most (k := 37) T_most_by_places T_check_size T_count_orders (ok_size (k := 35) T_check_size T_is_whole B) (ok_fac (k := 36) T_count_orders B) B m_MOST_THINGS) B) (ok_F62 (k := 38) T__law_farther_right T__law_many T_bounds_by_rounds T_count_within T_best_bound (ok_manyF (k := 37) T__law_many B) (ok_bounds (k := 37) T_bounds_by_rounds T_check_apart T_count_orders T_known_within (ok_apart (k := 34) T_check_apart T_check_way T_check_size T_check_from T_is_whole m_WAYS B) (ok_fac (k := 36) T_count_orders B) (ok_kw (k := 34) T_known_within T_swap_counts T_spot_counts T_shift_within T_swap_counts_with_one_more T_count_all_moved T_things_near T_one_place_further B) B m_MOST_THINGS) (ok_cw (k := 37) T_count_within T_check_count T_known_within (ok_count (k := 34) T_check_count T_check_way T_check_size T_check_from T_is_whole m_WAYS B m_MOST_THINGS) (ok_kw (k := 34) T_known_within T_swap_counts T_spot_counts T_shift_within T_swap_counts_with_one_more T_count_all_moved T_things_near T_one_place_further B)) (ok_best (k := 37) T_best_bound T_check_apart T_bounds_by_rounds T_most_by_places T_first_parting (ok_apart (k := 34) T_check_apart T_check_way T_check_size T_check_from T_is_whole m_WAYS B) (ok_bounds (k := 36) T_bounds_by_rounds T_check_apart T_count_orders T_known_within (ok_apart (k := 33) T_check_apart T_check_way T_check_size T_check_from T_is_whole m_WAYS B) (ok_fac (k := 35) T_count_orders B) (ok_kw (k := 33) T_known_within T_swap_counts T_spot_counts T_shift_within T_swap_counts_with_one_more T_count_all_moved T_things_near T_one_place_further B) B m_MOST_THINGS) (ok_most (k := 36) T_most_by_places T_check_size T_count_orders (ok_size (k := 34) T_check_size T_is_whole B) (ok_fac (k := 35) T_count_orders B) B m_MOST_THINGS) (ok_parting (k := 36) T_first_parting T_check_apart T_all_orders T_first_near (ok_apart (k := 33) T_check_apart T_check_way T_check_size T_check_from T_is_whole m_WAYS B) (ok_all_orders (k := 34) T_all_orders T_orders_with B) (ok_fnear (k := 35) T_first_near T_is_near (ok_isNear (k := 33) T_is_near TB_is_near T_known_far (ok_known (k := 32) T_known_far T_far_by_swap T_far_by_spot T_far_by_shift (ok_swap (k := 31) T_far_by_swap T_seats_in (ok_seats (k := 29) T_seats_in T_places_in B) B) (ok_spot (k := 31) T_far_by_spot B) (ok_shift (k := 31) T_far_by_shift T_seats_in (ok_seats (k := 29) T_seats_in T_places_in B) B)) B) B) B m_MOST_PARTED) B m_MOST_LISTED m_MOST_PARTED) B) (ok_M62 (k := 38) T__law_made_right T_most_by_places T_ring_orders T_even_orders (ok_most (k := 37) T_most_by_places T_check_size T_count_orders (ok_size (k := 35) T_check_size T_is_whole B) (ok_fac (k := 36) T_count_orders B) B m_MOST_THINGS) (ok_ring (k := 37) T_ring_orders T_check_size (ok_size (k := 35) T_check_size T_is_whole B) B m_MOST_THINGS) (ok_even (k := 37) T_even_orders T_check_size T_check_many T_count_orders T_all_orders T_far_by_swap (ok_size (k := 35) T_check_size T_is_whole B) (ok_chkMany (k := 36) T_check_many B m_MOST_ORDERS) (ok_fac (k := 36) T_count_orders B) (ok_all_orders (k := 35) T_all_orders T_orders_with B) (ok_swap (k := 36) T_far_by_swap T_seats_in (ok_seats (k := 34) T_seats_in T_places_in B) B) B m_MOST_THINGS) B) B
end Fo
open PySem PySem.W PyProof.Rows
set_option maxRecDepth 100000 in
set_option maxHeartbeats 0 in
theorem PySem.Challenge.cw_farorders_k62_whole_bounds_and_lists_holds : PySem.Challenge.rw_farorders_k62_whole_bounds_and_lists.Holds := by
  w_on; o_law; k_head; (case hw => w_witness2)
  k_fill
  refine Fo.walk_tab (l := PySem.Challenge.rw_farorders_k62_whole_bounds_and_lists) (n := 63) (k := 40) (x := "script") (CX := fun _ => L2.CX0) rfl (by decide) rfl ⟨rfl, by decide, by decide⟩ (fun w h Y => PySem.W.kIn_of Y) ?F (fun _ _ _ _ _ h => h)
  case F =>
    intro w mg fa h KX G hmg tabs
    replace hmg : mg "law" = some (Value.ref fa) := hmg
    refine' Fo.all_mk KX G hmg ?a0 ?l0 ?c0 ?k0 ?a1 ?l1 ?c1 ?k1 ?a2 ?l2 ?c2 ?k2 ?a3 ?l3 ?c3 ?k3 ?a4 ?l4 ?c4 ?k4 ?a5 ?l5 ?c5 ?k5 ?a6 ?l6 ?c6 ?k6 ?a7 ?l7 ?c7 ?k7 ?a8 ?l8 ?c8 ?k8 ?a9 ?l9 ?c9 ?k9 ?a10 ?l10 ?c10 ?k10 ?a11 ?l11 ?c11 ?k11 ?a12 ?l12 ?c12 ?k12 ?a13 ?l13 ?c13 ?k13 ?a14 ?l14 ?c14 ?k14 ?a15 ?l15 ?c15 ?k15 ?a16 ?l16 ?c16 ?k16 ?a17 ?l17 ?c17 ?k17 ?a18 ?l18 ?c18 ?k18 ?a19 ?l19 ?c19 ?k19 ?a20 ?l20 ?c20 ?k20 ?a21 ?l21 ?c21 ?k21 ?a22 ?l22 ?c22 ?k22 ?a23 ?l23 ?c23 ?k23 ?a24 ?l24 ?c24 ?k24 ?a25 ?l25 ?c25 ?k25 ?a26 ?l26 ?c26 ?k26 ?a27 ?l27 ?c27 ?k27 ?a28 ?l28 ?c28 ?k28 ?a29 ?l29 ?c29 ?k29 ?a30 ?l30 ?c30 ?k30 ?a31 ?l31 ?c31 ?k31 ?a32 ?l32 ?c32 ?k32 ?a33 ?l33 ?c33 ?k33 ?a34 ?l34 ?c34 ?k34 ?a35 ?l35 ?c35 ?k35 ?a36 ?l36 ?c36 ?k36 ?a37 ?l37 ?c37 ?k37 ?a38 ?l38 ?c38 ?k38 ?a39 ?l39 ?c39 ?k39 ?a40 ?l40 ?c40 ?k40 ?a41 ?l41 ?c41 ?k41 ?a42 ?l42 ?c42 ?k42 ?a43 ?l43 ?c43 ?k43 ?a44 ?l44 ?c44 ?k44 ?a45 ?l45 ?c45 ?k45 ?g_MOST_THINGS ?g_MOST_LISTED ?g_MOST_ORDERS ?g_MOST_SEARCHED ?g_MOST_PARTED ?g_WAYS ?l_WAYS ?z_ValueError ?z_abs ?z_all ?z_bool ?z_enumerate ?z_int ?z_isinstance ?z_len ?z_list ?z_max ?z_min ?z_range ?z_sorted ?z_str ?z_sum ?e_is_far ?u_is_far ?v_is_far ?n_is_far ?e_is_near ?u_is_near ?v_is_near ?n_is_near (fun y hy c P ht => tabs y c P ?tabn ht)
    (case a0 => k_is); (case l0 => k_is); (case c0 => k_is); (case k0 => k_is); (case a1 => k_is); (case l1 => k_is); (case c1 => k_is); (case k1 => k_is); (case a2 => k_is); (case l2 => k_is); (case c2 => k_is); (case k2 => k_is); (case a3 => k_is); (case l3 => k_is); (case c3 => k_is); (case k3 => k_is); (case a4 => k_is); (case l4 => k_is); (case c4 => k_is); (case k4 => k_is); (case a5 => k_is); (case l5 => k_is); (case c5 => k_is); (case k5 => k_is); (case a6 => k_is); (case l6 => k_is); (case c6 => k_is); (case k6 => k_is); (case a7 => k_is); (case l7 => k_is); (case c7 => k_is); (case k7 => k_is); (case a8 => k_is); (case l8 => k_is); (case c8 => k_is); (case k8 => k_is); (case a9 => k_is); (case l9 => k_is); (case c9 => k_is); (case k9 => k_is); (case a10 => k_is); (case l10 => k_is); (case c10 => k_is); (case k10 => k_is); (case a11 => k_is); (case l11 => k_is); (case c11 => k_is); (case k11 => k_is); (case a12 => k_is); (case l12 => k_is); (case c12 => k_is); (case k12 => k_is); (case a13 => k_is); (case l13 => k_is); (case c13 => k_is); (case k13 => k_is); (case a14 => k_is); (case l14 => k_is); (case c14 => k_is); (case k14 => k_is); (case a15 => k_is); (case l15 => k_is); (case c15 => k_is); (case k15 => k_is); (case a16 => k_is); (case l16 => k_is); (case c16 => k_is); (case k16 => k_is); (case a17 => k_is); (case l17 => k_is); (case c17 => k_is); (case k17 => k_is); (case a18 => k_is); (case l18 => k_is); (case c18 => k_is); (case k18 => k_is); (case a19 => k_is); (case l19 => k_is); (case c19 => k_is); (case k19 => k_is); (case a20 => k_is); (case l20 => k_is); (case c20 => k_is); (case k20 => k_is); (case a21 => k_is); (case l21 => k_is); (case c21 => k_is); (case k21 => k_is); (case a22 => k_is); (case l22 => k_is); (case c22 => k_is); (case k22 => k_is); (case a23 => k_is); (case l23 => k_is); (case c23 => k_is); (case k23 => k_is); (case a24 => k_is); (case l24 => k_is); (case c24 => k_is); (case k24 => k_is); (case a25 => k_is); (case l25 => k_is); (case c25 => k_is); (case k25 => k_is); (case a26 => k_is); (case l26 => k_is); (case c26 => k_is); (case k26 => k_is); (case a27 => k_is); (case l27 => k_is); (case c27 => k_is); (case k27 => k_is); (case a28 => k_is); (case l28 => k_is); (case c28 => k_is); (case k28 => k_is); (case a29 => k_is); (case l29 => k_is); (case c29 => k_is); (case k29 => k_is); (case a30 => k_is); (case l30 => k_is); (case c30 => k_is); (case k30 => k_is); (case a31 => k_is); (case l31 => k_is); (case c31 => k_is); (case k31 => k_is); (case a32 => k_is); (case l32 => k_is); (case c32 => k_is); (case k32 => k_is); (case a33 => k_is); (case l33 => k_is); (case c33 => k_is); (case k33 => k_is); (case a34 => k_is); (case l34 => k_is); (case c34 => k_is); (case k34 => k_is); (case a35 => k_is); (case l35 => k_is); (case c35 => k_is); (case k35 => k_is); (case a36 => k_is); (case l36 => k_is); (case c36 => k_is); (case k36 => k_is); (case a37 => k_is); (case l37 => k_is); (case c37 => k_is); (case k37 => k_is); (case a38 => k_is); (case l38 => k_is); (case c38 => k_is); (case k38 => k_is); (case a39 => k_is); (case l39 => k_is); (case c39 => k_is); (case k39 => k_is); (case a40 => k_is); (case l40 => k_is); (case c40 => k_is); (case k40 => k_is); (case a41 => k_is); (case l41 => k_is); (case c41 => k_is); (case k41 => k_is); (case a42 => k_is); (case l42 => k_is); (case c42 => k_is); (case k42 => k_is); (case a43 => k_is); (case l43 => k_is); (case c43 => k_is); (case k43 => k_is); (case a44 => k_is); (case l44 => k_is); (case c44 => k_is); (case k44 => k_is); (case a45 => k_is); (case l45 => k_is); (case c45 => k_is); (case k45 => k_is); (case g_MOST_THINGS => k_is); (case g_MOST_LISTED => k_is); (case g_MOST_ORDERS => k_is); (case g_MOST_SEARCHED => k_is); (case g_MOST_PARTED => k_is); (case g_WAYS => k_is); (case l_WAYS => k_is); (case z_ValueError => k_is); (case z_abs => k_is); (case z_all => k_is); (case z_bool => k_is); (case z_enumerate => k_is); (case z_int => k_is); (case z_isinstance => k_is); (case z_len => k_is); (case z_list => k_is); (case z_max => k_is); (case z_min => k_is); (case z_range => k_is); (case z_sorted => k_is); (case z_str => k_is); (case z_sum => k_is)
    (case e_is_far => exact rfl); (case u_is_far => k_is); (case v_is_far => exact rfl); (case n_is_far => kernel_rfl)
    (case e_is_near => exact rfl); (case u_is_near => k_is); (case v_is_near => exact rfl); (case n_is_near => kernel_rfl)
    case tabn =>
      simp only [List.mem_cons, List.not_mem_nil, or_false] at hy
      rcases hy with rfl | rfl <;> decide +kernel

