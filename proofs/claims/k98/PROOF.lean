import PyProof.Rows.All
import Wide.All
import OpenK.AllK
import Wide.FinOn
import HandS.ForMost
import HandS.IsInst
import HandS.Conv
import HandS.Style
import HandS.More
import HandS.Evl
import HandS.Zip
import HandS.SetFor
import HandS.Sort
import HandS.Wide
import HandS.Deep
import KE.SortData
import PySem.Challenge.RW_farorders_k98_whole_ways_and_counts
set_option Elab.async false
set_option linter.all false
set_option maxRecDepth 100000
namespace Fo
open PySem PySem.Spec PyProof.Rows L2
/-! ### lists and orders -/
def rg (n : Nat) : List Int := (List.range n).map fun k => ((k : Nat) : Int)
def IsOrd (n : Nat) (ns : List Int) : Prop := ns.Perm (rg n)
theorem rg_len (n : Nat) : (rg n).length = n := by
  unfold rg
  rw [List.length_map, List.length_range]
theorem rg_mem {n : Nat} {x : Int} : x ∈ rg n ↔ 0 ≤ x ∧ x < n := by
  unfold rg
  rw [List.mem_map]
  constructor
  · rintro ⟨k, hk, rfl⟩
    have := List.mem_range.mp hk
    omega
  · rintro ⟨h0, h1⟩
    exact ⟨x.toNat, List.mem_range.mpr (by omega), by omega⟩
theorem rg_nodup (n : Nat) : (rg n).Nodup := by
  unfold rg
  exact List.Pairwise.map _ (fun a b h e => h (by omega)) List.nodup_range
theorem rg_sorted (n : Nat) : (rg n).Pairwise (· ≤ ·) := by
  unfold rg
  exact List.Pairwise.map _ (fun a b h => by omega) List.pairwise_lt_range
theorem rg_V (n : Nat) : rgV 0 (n : Int) = (rg n).map V.int := by
  unfold rgV rg
  rw [List.map_map, show ((n : Int) - 0).toNat = n by omega]
  apply List.map_congr_left
  intro a _
  show V.int (0 + (a : Int)) = V.int (a : Int)
  rw [Int.zero_add]
theorem IsOrd.len {n : Nat} {ns : List Int} (h : IsOrd n ns) : ns.length = n := (List.Perm.length_eq h).trans (rg_len n)
theorem IsOrd.mem {n : Nat} {ns : List Int} (h : IsOrd n ns) {x : Int} (m : x ∈ ns) : 0 ≤ x ∧ x < n := rg_mem.mp ((List.Perm.mem_iff h).mp m)
theorem IsOrd.nodup {n : Nat} {ns : List Int} (h : IsOrd n ns) : ns.Nodup := (List.Perm.nodup_iff h).mpr (rg_nodup n)
/-- two sorted lists of the same things are one -/
theorem sorted_eq : ∀ {a b : List Int}, a.Perm b → a.Pairwise (· ≤ ·) → b.Pairwise (· ≤ ·) → a = b := by
  intro a b hp ha hb
  exact List.Perm.eq_of_pairwise (fun x y _ _ h1 h2 => by omega) ha hb hp
/-- the things at p and p + 1 change places -/
def sw (xs : List Int) (p : Nat) : List Int := (xs.set p (xs.getD (p + 1) 0)).set (p + 1) (xs.getD p 0)
theorem split2 : ∀ {xs : List Int} {p : Nat}, p + 1 < xs.length → ∃ A a b B, xs = A ++ a :: b :: B ∧ A.length = p
  | [], p, h => by simp at h
  | [_], p, h => by simp at h
  | a :: b :: r, 0, _ => ⟨[], a, b, r, rfl, rfl⟩
  | a :: b :: r, p + 1, h => by
    obtain ⟨A, x, y, B, e, l⟩ := split2 (xs := b :: r) (p := p) (by simpa using h)
    exact ⟨a :: A, x, y, B, by rw [e]; rfl, by rw [List.length_cons, l]⟩
theorem sw_at : ∀ (A : List Int) (a b : Int) (B : List Int), sw (A ++ a :: b :: B) A.length = A ++ b :: a :: B
  | [], a, b, B => rfl
  | x :: A, a, b, B => by
    have ih := sw_at A a b B
    unfold sw at ih ⊢
    show x :: _ = x :: _
    exact congrArg (x :: ·) ih
theorem sw_perm {xs : List Int} {p : Nat} (h : p + 1 < xs.length) : (sw xs p).Perm xs := by
  obtain ⟨A, a, b, B, rfl, rfl⟩ := split2 h
  rw [sw_at]
  exact List.Perm.append_left A (List.Perm.swap a b B)
theorem sw_len (xs : List Int) (p : Nat) : (sw xs p).length = xs.length := by
  unfold sw
  rw [List.length_set, List.length_set]
theorem sw_ord {n : Nat} {xs : List Int} {p : Nat} (o : IsOrd n xs) (h : p + 1 < n) : IsOrd n (sw xs p) :=
  (sw_perm (by rw [o.len]; exact h)).trans o
theorem sw_V {xs : List Int} {p : Nat} {a b : Int} (ha : xs[p]? = some a) (hb : xs[p + 1]? = some b) : ((xs.map V.int).set p (V.int b)).set (p + 1) (V.int a) = (sw xs p).map V.int := by
  unfold sw
  rw [List.getD_eq_getElem?_getD, List.getD_eq_getElem?_getD, ha, hb, List.map_set, List.map_set]
  rfl
theorem pop_ins {xs : List Int} {p : Nat} {a : Int} (h : p + 1 < xs.length) (ha : xs[p]? = some a) : (xs.eraseIdx p).take (p + 1) ++ [a] ++ (xs.eraseIdx p).drop (p + 1) = sw xs p := by
  obtain ⟨A, x, y, B, rfl, rfl⟩ := split2 h
  have ex : x = a := by
    rw [List.getElem?_append_right (Nat.le_refl _), Nat.sub_self] at ha
    exact Option.some.inj ha
  subst ex
  rw [sw_at, List.eraseIdx_append_of_length_le (Nat.le_refl _), Nat.sub_self]
  show (A ++ y :: B).take (A.length + 1) ++ [x] ++ (A ++ y :: B).drop (A.length + 1) = _
  rw [List.take_append, List.drop_append]
  have t : A.length + 1 - A.length = 1 := by omega
  rw [t, List.take_of_length_le (by omega), List.drop_of_length_le (by omega)]
  simp
/-- the order at a walk's end -/
def wEnd (xs : List Int) (ws : List Int) : List Int := ws.foldl (fun x p => sw x p.toNat) xs
theorem wEnd_more {xs ws : List Int} {i : Nat} {p : Int} (h : ws[i]? = some p) : wEnd xs (ws.take (i + 1)) = sw (wEnd xs (ws.take i)) p.toNat := by
  unfold wEnd
  rw [List.take_add_one, h, List.foldl_append]
  rfl
theorem wEnd_ord {n : Nat} {xs : List Int} (o : IsOrd n xs) : ∀ {ws : List Int}, (∀ p ∈ ws, 0 ≤ p ∧ p + 1 < n) → IsOrd n (wEnd xs ws) := by
  intro ws
  induction ws generalizing xs with
  | nil => intro _; exact o
  | cons p ws ih =>
    intro h
    have hp := h p List.mem_cons_self
    exact ih (sw_ord o (by omega)) fun q hq => h q (List.mem_cons_of_mem _ hq)
theorem nodup_len : ∀ {l m : List Int}, l.Nodup → (∀ x ∈ l, x ∈ m) → l.length ≤ m.length
  | [], m, _, _ => Nat.zero_le _
  | a :: l, m, hn, hs => by
    obtain ⟨h1, h2⟩ := List.nodup_cons.mp hn
    have ha := hs a List.mem_cons_self
    have ih := nodup_len (l := l) (m := m.erase a) h2 fun x hx => by
      have ne : x ≠ a := fun e => h1 (by rw [← e]; exact hx)
      exact (List.mem_erase_of_ne ne).mpr (hs x (List.mem_cons_of_mem _ hx))
    rw [List.length_erase_of_mem ha] at ih
    have : 0 < m.length := List.length_pos_of_mem ha
    rw [List.length_cons]
    omega
theorem int_at {ns : List Int} {i : Nat} {x : Int} (h : ns[i]? = some x) : (ns.map V.int)[i]? = some (V.int x) := by
  rw [List.getElem?_map, h]
  rfl
theorem int_at_inv {ns : List Int} {i : Nat} {v : V} (h : (ns.map V.int)[i]? = some v) : ∃ x, ns[i]? = some x ∧ v = V.int x := by
  rw [List.getElem?_map] at h
  cases e : ns[i]? with
  | none => rw [e] at h; cases h
  | some x => rw [e] at h; exact ⟨x, rfl, (Option.some.inj h).symm⟩
theorem line_small {n : Nat} (h : n ≤ 16777216) : n ≤ sizeLine := by rw [sizeLine_eq]; exact h
theorem line_lt {n : Nat} (h : n < 16777216) : n < sizeLine := by rw [sizeLine_eq]; exact h
/-! ### data of ints -/
theorem dp_ints {K : PySem.W.Frag} {H : Hp} : ∀ ns : List Int, DpAll K H (ns.map V.int) (ns.map PyData.int)
  | [] => .nil
  | n :: r => .cons (.int n) (dp_ints r)
theorem dp_list {K : PySem.W.Frag} {H : Hp} {a : Addr} {ns : List Int} (h : H a = some (.lst (ns.map V.int))) : Dp K H (.ref a) (.list (ns.map PyData.int)) := .lst (SqL.of h) (dp_ints ns)
theorem eqv_int (i j : Int) : PyData.eqv (.int i) (.int j) = (i == j) := rfl
end Fo
namespace Fo
open PySem PySem.Spec PyProof.Rows L2
abbrev dI (ns : List Int) : List PyData := ns.map PyData.int
abbrev dL (ns : List Int) : PyData := .list (dI ns)
abbrev dLL (l : List (List Int)) : PyData := .list (l.map dL)
theorem lay_ints : ∀ ns : List Int, PyData.canLayAll0 (dI ns) = true
  | [] => rfl
  | n :: r => by
    show (PyData.canLay0 (.int n) && PyData.canLayAll0 (dI r)) = true
    rw [lay_ints r]
    rfl
theorem depth_ints : ∀ ns : List Int, PyData.depthAll (dI ns) = 0
  | [] => by simp [PyData.depthAll]
  | n :: r => by
    show PyData.depthAll (.int n :: dI r) = 0
    rw [PyData.depthAll, depth_ints r]
    simp [PyData.depth]
theorem lay_list (ns : List Int) : PyData.canLay0 (dL ns) = true := by
  rw [PyData.canLay0]
  exact lay_ints ns
theorem depth_list (ns : List Int) : PyData.depth (dL ns) = 1 := by
  rw [PyData.depth, depth_ints]
theorem shaped_list (ns : List Int) : SeqAt.shaped (dL ns) = true := by
  unfold SeqAt.shaped
  rw [lay_list, depth_list]
  rfl
theorem lay_lists : ∀ l : List (List Int), PyData.canLayAll0 (l.map dL) = true
  | [] => rfl
  | n :: r => by
    show (PyData.canLay0 (dL n) && PyData.canLayAll0 (r.map dL)) = true
    rw [lay_lists r, lay_list]
    rfl
theorem depth_lists : ∀ l : List (List Int), PyData.depthAll (l.map dL) ≤ 1
  | [] => by simp [PyData.depthAll]
  | n :: r => by
    show PyData.depthAll (dL n :: r.map dL) ≤ 1
    rw [PyData.depthAll, depth_list]
    have := depth_lists r
    omega
theorem shaped_lists (l : List (List Int)) : SeqAt.shaped (dLL l) = true := by
  unfold SeqAt.shaped
  rw [Bool.and_eq_true_iff]
  constructor
  · rw [PyData.canLay0]
    exact lay_lists l
  · apply decide_eq_true
    rw [PyData.depth]
    have := depth_lists l
    omega
theorem eqv_list (ns : List Int) : PyData.eqv (dL ns) (dL ns) = true := SeqAt.eqv_refl _ (lay_list ns)
theorem eqv_lists (l : List (List Int)) : PyData.eqv (dLL l) (dLL l) = true := SeqAt.eqv_refl _ (SeqAt.canLay_of_shaped (shaped_lists l))
theorem eqvAll_ints : ∀ a b : List Int, PyData.eqvAll (dI a) (dI b) = decide (a = b)
  | [], [] => by simp [PyData.eqvAll]
  | [], _ :: _ => by simp [PyData.eqvAll]
  | _ :: _, [] => by simp [PyData.eqvAll]
  | x :: a, y :: b => by
    show PyData.eqvAll (.int x :: dI a) (.int y :: dI b) = _
    rw [PyData.eqvAll, eqvAll_ints a b]
    show ((x == y) && decide (a = b)) = decide (x :: a = y :: b)
    by_cases h : x = y
    · subst h
      simp
    · simp [h]
theorem eqv_ints (a b : List Int) : PyData.eqv (dL a) (dL b) = decide (a = b) := by
  rw [PyData.eqv]
  exact eqvAll_ints a b
end Fo
namespace Fo
open PySem PySem.Spec PyProof.Rows L2
/-! ### slices of ints -/
def cutI (ws : List Int) (lo hi : Option Int) : List Int := (ws.drop (HT.sIx ws.length 0 lo)).take (HT.sIx ws.length ws.length hi - HT.sIx ws.length 0 lo)
theorem cut_ints (ws : List Int) (lo hi : Option Int) : cutV (ws.map V.int) lo hi = (cutI ws lo hi).map V.int := by
  unfold cutV cutI
  rw [List.length_map, List.map_take, List.map_drop]
theorem cutI_mem {ws : List Int} {lo hi : Option Int} {x : Int} (h : x ∈ cutI ws lo hi) : x ∈ ws := List.mem_of_mem_drop (List.mem_of_mem_take h)
theorem cutI_len (ws : List Int) (lo hi : Option Int) : (cutI ws lo hi).length ≤ ws.length := by
  unfold cutI
  rw [List.length_take, List.length_drop]
  omega
theorem cutI_head (ws : List Int) (k : Nat) : cutI ws none (some (k : Int)) = ws.take k := by
  unfold cutI
  rw [HT.sIx_none, HT.sIx_nat, List.drop_zero, Nat.sub_zero]
  by_cases h : k ≤ ws.length
  · rw [Nat.min_eq_left h]
  · rw [Nat.min_eq_right (by omega), List.take_length, List.take_of_length_le (by omega)]
theorem cutI_tail (ws : List Int) (k : Nat) : cutI ws (some (k : Int)) none = ws.drop k := by
  unfold cutI
  rw [HT.sIx_none, HT.sIx_nat]
  by_cases h : k ≤ ws.length
  · rw [Nat.min_eq_left h, List.take_of_length_le (by rw [List.length_drop]; exact Nat.le_refl _)]
  · rw [Nat.min_eq_right (by omega), List.drop_of_length_le (Nat.le_refl _), List.drop_of_length_le (by omega), List.take_nil]
end Fo
namespace Fo
open PySem PySem.Spec PyProof.Rows L2
/-- a loop over enumerate of a list that stands still -/
theorem for_enumL {K : PySem.W.Frag} {a : Addr} {xs : List V} {g : TG} {tb : TS} {D : Ends} {σ : L2.St} {H : Hp} (Pv : Nat → L2.St → Hp → Prop) (h0 : Pv 0 σ H) (hq : ∀ i σ H, Pv i σ H → SqL K H a xs)
    (hs : ∀ (i : Nat) (x : V) (T : Addr) (σ : L2.St) (H : Hp), xs[i]? = some x → Pv i σ H → H T = none → g (.ref T) σ (upd H T (.tup [.int (i : Nat), x])) fun σ2 H2 => tb { D with nx := Pv (i + 1), ct := Pv (i + 1), bk := D.nx } σ2 H2) (hd : ∀ σ H, Pv xs.length σ H → D.nx σ H) :
    ∃ W : Nat → Nat → L2.St → Hp → Prop, (∃ m, W 0 m σ H) ∧ ∀ i m σ H, W i m σ H →
      ((Ite K a).stop i H ∧ D.nx σ H) ∨ ((Ite K a).go i H ∧ ∃ N : L2.St → Hp → Prop, (∀ σ' H', N σ' H' → ∃ m', m' < m ∧ W (i + 1) m' σ' H') ∧ ∀ v H', (Ite K a).yld i H v H' → g v σ H' fun σ2 H2 => tb { D with nx := N, ct := N, bk := D.nx } σ2 H2) := by
  refine ⟨fun i m σ H => m = xs.length - i ∧ i ≤ xs.length ∧ Pv i σ H, ⟨xs.length, rfl, Nat.zero_le _, h0⟩, ?_⟩
  rintro i m σ H ⟨rfl, hi, p⟩
  have qx := hq i σ H p
  by_cases hlt : i < xs.length
  · have hx : xs[i]? = some xs[i] := List.getElem?_eq_getElem hlt
    refine .inr ⟨⟨xs, _, qx, hx⟩, Pv (i + 1), fun σ' H' p' => ⟨xs.length - (i + 1), by omega, rfl, hlt, p'⟩, fun v H' y => ?_⟩
    obtain ⟨T, x', rfl, hT, rfl, f1⟩ := y
    exact hs i x' T σ H (f1 xs qx) p hT
  · have e : i = xs.length := by omega
    subst e
    exact .inl ⟨⟨xs, qx, Nat.le_refl _⟩, hd σ H p⟩
/-- a comprehension over enumerate of a list that stands still -/
theorem lc_enumL {K : PySem.W.Frag} {a : Addr} {xs : List V} {g : TG} {tt : TT} {te : TE} {vs : List Nat} {σ : L2.St} {H1 : Hp} {D : Addr} {Qd : Hp → Prop} (Pv : Nat → Hp → Prop) (h0 : Pv 0 (upd H1 D (.lst []))) (hl : ∀ i H, i ≤ xs.length → Pv i H → SqL K H a xs)
    (hs : ∀ (i : Nat) (x : V) (T : Addr) (H : Hp), xs[i]? = some x → Pv i H → H T = none → g (.ref T) (wipe σ vs) (upd H T (.tup [.int (i : Nat), x])) fun σ2 H2 => wipe σ2 vs = wipe σ vs ∧ tt σ2 H2 fun b H3 =>
      if b = true then te σ2 H3 fun y H4 => ∃ acc, H4 D = some (.lst acc) ∧ acc.length < sizeLine ∧ Pv (i + 1) (upd H4 D (.lst (acc ++ [y]))) else Pv (i + 1) H3) (hd : ∀ H, Pv xs.length H → Qd H) :
    ∃ W : Nat → Nat → Hp → Prop, (∃ m, W 0 m (upd H1 D (.lst []))) ∧ ∀ i m H, W i m H →
      ((Ite K a).stop i H ∧ Qd H) ∨ ((Ite K a).go i H ∧ ∃ Nx : Hp → Prop, (∀ H', Nx H' → ∃ m', m' < m ∧ W (i + 1) m' H') ∧ ∀ x H', (Ite K a).yld i H x H' → g x (wipe σ vs) H' fun σ2 H2 => wipe σ2 vs = wipe σ vs ∧ tt σ2 H2 fun b H3 =>
        if b = true then te σ2 H3 fun y H4 => ∃ acc, H4 D = some (.lst acc) ∧ acc.length < sizeLine ∧ Nx (upd H4 D (.lst (acc ++ [y]))) else Nx H3) := by
  refine ⟨fun i m H => m = xs.length - i ∧ i ≤ xs.length ∧ Pv i H, ⟨xs.length, by simp, Nat.zero_le _, h0⟩, ?_⟩
  rintro i m H ⟨rfl, hi, p⟩
  have q := hl i H hi p
  by_cases hlt : i < xs.length
  · refine .inr ⟨⟨xs, xs[i], q, by simp [hlt]⟩, Pv (i + 1), fun H' p' => ⟨xs.length - (i + 1), by omega, rfl, hlt, p'⟩, fun x H' y => ?_⟩
    obtain ⟨T, x', rfl, hT, rfl, f1⟩ := y
    exact hs i x' T H (f1 xs q) p hT
  · have e : i = xs.length := by omega
    subst e
    exact .inl ⟨⟨xs, q, Nat.le_refl _⟩, hd H p⟩
/-! ### the back of an order -/
def IsBack (ns ps : List Int) : Prop := ps.length = ns.length ∧ ∀ (j : Nat) (x : Int), ns[j]? = some x → ps[x.toNat]? = some (j : Int)
theorem ord_at {n : Nat} {ns : List Int} (o : IsOrd n ns) {t : Nat} (h : t < n) : ∃ j : Nat, j < n ∧ ns[j]? = some (t : Int) := by
  have m : (t : Int) ∈ ns := (List.Perm.mem_iff o).mpr (rg_mem.mpr ⟨by omega, by omega⟩)
  obtain ⟨j, hj⟩ := List.mem_iff_getElem?.mp m
  exact ⟨j, by have := (List.getElem?_eq_some_iff.mp hj).1; rw [o.len] at this; exact this, hj⟩
theorem ord_ix {n : Nat} {ns : List Int} (o : IsOrd n ns) {j : Nat} (h : j < n) : ∃ x : Int, ns[j]? = some x ∧ 0 ≤ x ∧ x < n := by
  have hj : j < ns.length := by rw [o.len]; exact h
  exact ⟨ns[j], List.getElem?_eq_getElem hj, o.mem (List.getElem_mem hj)⟩
theorem back_eq {n : Nat} {ns a b : List Int} (o : IsOrd n ns) (ha : IsBack ns a) (hb : IsBack ns b) : a = b := by
  apply List.ext_getElem?
  intro t
  by_cases h : t < n
  · obtain ⟨j, _, hj⟩ := ord_at o h
    have h1 := ha.2 j _ hj
    have h2 := hb.2 j _ hj
    rw [Int.toNat_natCast] at h1 h2
    rw [h1, h2]
  · rw [List.getElem?_eq_none (by rw [ha.1, o.len]; omega), List.getElem?_eq_none (by rw [hb.1, o.len]; omega)]
def behindL (ns ms : List Int) : List Int := ms.map fun p => ns.getD p.toNat 0
theorem behind_at {ns ms : List Int} {i : Nat} {p x : Int} (hp : ms[i]? = some p) (hx : ns[p.toNat]? = some x) : (behindL ns ms)[i]? = some x := by
  unfold behindL
  rw [List.getElem?_map, hp]
  show some (ns.getD p.toNat 0) = some x
  rw [List.getD_eq_getElem?_getD, hx]
  rfl
theorem behind_len (ns ms : List Int) : (behindL ns ms).length = ms.length := by
  unfold behindL
  rw [List.length_map]
theorem take_more {l : List Int} {i : Nat} {x : Int} (h : l[i]? = some x) : l.take (i + 1) = l.take i ++ [x] := by
  rw [List.take_add_one, h]
  rfl
theorem flat_ints : ∀ ns : List Int, (ns.map V.int).all flatV = true
  | [] => rfl
  | n :: r => by
    show (flatV (V.int n) && (r.map V.int).all flatV) = true
    rw [flat_ints r]
    rfl
theorem eqV_int (i j : Int) : eqV (.int i) (.int j) = (i == j) := rfl
end Fo
namespace Fo
open PySem PySem.Spec PyProof.Rows L2
/-! ### a slice with a step that is reckoned, 1 or -1 -/
theorem pick_one (items : Array Value) : slicePick items none none (some 1) = items := by
  have e : slicePick items none none (some 1) = slicePick items none none none := rfl
  rw [e, PySem.W.kmk_pick_nat (a := 0) (b := items.size) items rfl, List.drop_zero, Nat.sub_zero, ← Array.length_toList, List.take_length]
def tStepL (K : PySem.W.Frag) (te ts : TE) : TE := fun σ H Q => te σ H fun x H1 => ∃ a, x = .ref a ∧ tPart ts σ H1 fun o H2 => ∃ xs, SqL K H2 a xs ∧
  ((o = some 1 ∧ ∀ p, H2 p = none → Q (.ref p) (upd H2 p (.lst xs))) ∨ (o = some (-1) ∧ ∀ p, H2 p = none → Q (.ref p) (upd H2 p (.lst xs.reverse))))
theorem pe_stepL {X : Cx} {e st : Expr} {te ts : TE} {p3 pos : Pos} (he : PE X e te) (hst : PE X st ts)
    (hsub : ∀ u : Value, ∀ r : Addr, subscripted (.Slice none none (some st) p3) false u (.ref r) = operate [u, .ref r] (getItem u (.ref r)) := by intro _ _; with_unfolding_all rfl) : PE X (.Subscript e (.Slice none none (some st) p3) pos) (tStepL X.K te ts) := by
  refine ⟨fun pins s σ H Q I h => ?_⟩
  refine Subscript_ (thn (he.run pins s σ H _ I h) fun v s1 z1 => ?_)
  obtain ⟨x, H1, I1, r1, a, ex, q1⟩ := z1
  subst ex
  cases r1
  refine wpAny_Slice (thn (po_none.run pins s1 σ H1 (fun o H2 => o = none ∧ H2 = H1) I1 ⟨rfl, rfl⟩) fun vl s2 z2 => ?_)
  obtain ⟨l, H2, I2, pl, el, e2⟩ := z2
  subst el e2
  refine thn (po_none.run pins s2 σ H2 (fun o H3 => o = none ∧ H3 = H2) I2 ⟨rfl, rfl⟩) fun vu s3 z3 => ?_
  obtain ⟨u, H3, I3, pu, eu, e3⟩ := z3
  subst eu e3
  refine thn ((po_some hst).run pins s3 σ H3 _ I3 q1) fun vs s4 z4 => ?_
  obtain ⟨o, H4, I4, ps, xs, hx, q⟩ := z4
  have I5 : Inv X pins σ H4 { s4 with heap := s4.heap.push { cls := .type "slice", data := .fields #[vl, vu, vs] } } := I4.kept (t' := s4.toks) fun b ob w => Heap.get?_push_of_some _ w
  obtain ⟨its, r, ht, hz⟩ := I5.list hx
  have hlen := r.length
  show wpAny (model X.prog X.w) X.A (subscriptTail e (.Slice none none (some st) p3) (.ref a) (.ref s4.heap.objs.size)) (EP X pins σ Q) X.xe _
  refine tail_any (ops := [.ref a, .ref s4.heap.objs.size]) ht.isList.typeIs (PySem.slot_list_getitem.lookup) ?_ (hsub _ _)
  rcases q with ⟨eo, q⟩ | ⟨eo, q⟩
  · subst eo
    refine wpAny_getItem_list_slice ht.isList (Heap.IsSliceOf.new _ vl vu vs) pl pu ps (by decide) ?_ (by rw [List.size_toArray]; omega)
    rw [pick_one]
    refine ⟨.ref _, _, I5.laid (t' := s4.toks) (o := .lst xs) (fun b ob w => Heap.get?_push_of_some _ w) (Nat.le_refl _) ?_, rfl, q _ (I5.hok.fresh (Nat.le_refl _))⟩
    exact ⟨hz, _, 0, r, Heap.get?_push_size _ rfl⟩
  · subst eo
    refine wpAny_getItem_list_slice ht.isList (Heap.IsSliceOf.new _ vl vu vs) pl pu ps (by decide) ?_ (by rw [List.size_toArray]; omega)
    rw [PySem.W.krv_pick]
    refine ⟨.ref _, _, I5.laid (t' := s4.toks) (o := .lst xs.reverse) (fun b ob w => Heap.get?_push_of_some _ w) (Nat.le_refl _) ?_, rfl, q _ (I5.hok.fresh (Nat.le_refl _))⟩
    exact ⟨by rw [List.length_reverse]; exact hz, _, 0, r.reverse, Heap.get?_push_size _ rfl⟩
end Fo
namespace Fo
open PySem PySem.Spec PyProof.Rows L2
/-! ### the text -/
def topS (i : Nat) : Stmt := PySem.Challenge.pw_farorders_k98_whole_ways_and_counts.main.body.getD i (.Pass ⟨0, 0, 0, 0⟩)
abbrev s_OrderError : Stmt := topS 1
abbrev s_NoOrder : Stmt := topS 2
abbrev s_NoWay : Stmt := topS 3
abbrev s_NoFit : Stmt := topS 4
abbrev s_NoPlace : Stmt := topS 5
abbrev s_NoNumber : Stmt := topS 6
abbrev s_is_whole : Stmt := topS 9
abbrev s_check_way : Stmt := topS 10
abbrev s_check_from : Stmt := topS 11
abbrev s_check_size : Stmt := topS 12
abbrev s_is_order : Stmt := topS 16
abbrev s_check_order : Stmt := topS 17
abbrev s_check_orders : Stmt := topS 18
abbrev s_check_fit : Stmt := topS 19
abbrev s_check_listed : Stmt := topS 20
abbrev s_back_of : Stmt := topS 21
abbrev s_places_in : Stmt := topS 22
abbrev s_order_behind : Stmt := topS 23
abbrev s_seats_in : Stmt := topS 24
abbrev s_how_far : Stmt := topS 25
abbrev s_known_far : Stmt := topS 26
abbrev s_far_by_swap : Stmt := topS 27
abbrev s_far_by_spot : Stmt := topS 28
abbrev s_far_by_shift : Stmt := topS 29
abbrev s_all_orders : Stmt := topS 30
abbrev s_orders_with : Stmt := topS 31
abbrev s_side_by_side : Stmt := topS 33
abbrev s_check_together : Stmt := topS 34
abbrev s_put_beside : Stmt := topS 35
abbrev s_is_walk : Stmt := topS 37
abbrev s_walk_end : Stmt := topS 38
abbrev s_exchange : Stmt := topS 39
abbrev s_short_walk : Stmt := topS 40
abbrev s_first_turned : Stmt := topS 41
abbrev s_rounds_between : Stmt := topS 42
abbrev s_followers_between : Stmt := topS 43
abbrev s_round_from : Stmt := topS 44
abbrev s_steps_between : Stmt := topS 45
abbrev s_count_within : Stmt := topS 47
abbrev s_count_at : Stmt := topS 48
abbrev s_check_count : Stmt := topS 49
abbrev s_known_within : Stmt := topS 50
abbrev s_swap_counts : Stmt := topS 51
abbrev s_swap_counts_with_one_more : Stmt := topS 52
abbrev s_spot_counts : Stmt := topS 53
abbrev s_count_all_moved : Stmt := topS 54
abbrev s_shift_within : Stmt := topS 55
abbrev s_things_near : Stmt := topS 56
abbrev s_one_place_further : Stmt := topS 57
abbrev s_all_within : Stmt := topS 58
abbrev s_law_pool : Stmt := topS 60
abbrev s_law_draw : Stmt := topS 61
abbrev s_law_order : Stmt := topS 62
abbrev s_law_far : Stmt := topS 63
abbrev s_law_two_right : Stmt := topS 64
abbrev s_law_walks_right : Stmt := topS 65
abbrev s_law_counts_right : Stmt := topS 66
abbrev s_law_listed_right : Stmt := topS 67
abbrev s_law_beside_right : Stmt := topS 68
abbrev s_law : Stmt := topS 69
/-- a def of the text, where it stands -/
structure Df (K : PySem.W.Frag) (mg : Str → Option Value) (x : Str) (st : Stmt) (ps : List Str) (f : Addr) (fd : FuncData) : Prop where
  F : Fun K x x st f fd
  b : Binds K fd ps []
  g : mg x = some (.ref f)
/-- the built-in names as they were -/
structure Bi (mg : Str → Option Value) : Prop where
  abs : mg "abs" = none
  all : mg "all" = none
  bool : mg "bool" = none
  enumerate : mg "enumerate" = none
  int : mg "int" = none
  isinstance : mg "isinstance" = none
  len : mg "len" = none
  list : mg "list" = none
  max : mg "max" = none
  min : mg "min" = none
  range : mg "range" = none
  sorted : mg "sorted" = none
  str : mg "str" = none
  sum : mg "sum" = none
  zip : mg "zip" = none
end Fo
namespace Fo
open PySem PySem.Spec PyProof.Rows L2
theorem same_new {H : Hp} {p : Addr} {o : HO} (h : H p = none) : Same H (upd H p o) := fun b x e => by
  rw [upd_ne (ne_of_none e h)]
  exact e
theorem at2_0 {x y : V} : atI [x, y] 0 = some x := rfl
theorem at2_1 {x y : V} : atI [x, y] 1 = some y := rfl
end Fo
namespace Fo
open PySem PySem.Spec PyProof.Rows L2
theorem pop_perm : ∀ {xs : List Int} {k : Nat} {y : Int}, xs[k]? = some y → (y :: xs.eraseIdx k).Perm xs
  | [], k, y, h => by simp at h
  | a :: r, 0, y, h => by
    have e : a = y := Option.some.inj h
    subst e
    exact List.Perm.refl _
  | a :: r, k + 1, y, h => by
    have ih := pop_perm (xs := r) (k := k) (y := y) h
    show (y :: a :: r.eraseIdx k).Perm (a :: r)
    exact (List.Perm.swap a y _).trans (List.Perm.cons a ih)
theorem map_erase : ∀ (xs : List Int) (k : Nat), (xs.map V.int).eraseIdx k = (xs.eraseIdx k).map V.int
  | [], k => rfl
  | a :: r, 0 => rfl
  | a :: r, k + 1 => congrArg (V.int a :: ·) (map_erase r k)
/-- what len asks of a list or a tuple -/
abbrev rLenS (K : PySem.W.Frag) : List V → Hp → VK → Prop := fun xs H Q => ∃ p ys, xs = [.ref p] ∧ (SqL K H p ys ∨ SqT K H p ys) ∧ Q (.int ys.length) H
theorem seq_ix {i : Int} {k n : Nat} (e : i = (k : Int)) (h : k < n) : seqIndex? i n = some k := by
  subst e
  unfold seqIndex?
  have h1 : ¬ ((k : Int) < 0) := by omega
  simp only [h1, if_false]
  have h2 : (decide ((0 : Int) ≤ (k : Int)) && decide ((k : Int) < (n : Int))) = true := by
    simp
    omega
  rw [if_pos h2, Int.toNat_natCast]
theorem ix_n {i : Int} {k n : Nat} (e : i = (k : Int)) (h : k < n) : ixN n i = some k := by
  subst e
  unfold ixN
  rw [if_pos (by omega), if_pos (by omega), Int.toNat_natCast]
end Fo
namespace Fo
open PySem PySem.Spec PyProof.Rows L2
/-! ### lists of lists -/
def LL (H : Hp) : List Addr → List (List Int) → Prop
  | [], [] => True
  | a :: as, r :: rs => H a = some (.lst (r.map V.int)) ∧ LL H as rs
  | _, _ => False
theorem LL.len {H : Hp} : ∀ {as : List Addr} {rs : List (List Int)}, LL H as rs → as.length = rs.length
  | [], [], _ => rfl
  | [], _ :: _, h => h.elim
  | _ :: _, [], h => h.elim
  | a :: as, r :: rs, h => by rw [List.length_cons, List.length_cons, LL.len h.2]
theorem LL.keep {H H' : Hp} : ∀ {as : List Addr} {rs : List (List Int)}, LL H as rs → (∀ a ∈ as, ∀ o, H a = some o → H' a = some o) → LL H' as rs
  | [], [], _, _ => trivial
  | [], _ :: _, h, _ => h.elim
  | _ :: _, [], h, _ => h.elim
  | a :: as, r :: rs, h, k => ⟨k a List.mem_cons_self _ h.1, LL.keep h.2 fun b hb => k b (List.mem_cons_of_mem _ hb)⟩
theorem LL.same {H H' : Hp} {as : List Addr} {rs : List (List Int)} (h : LL H as rs) (s : Same H H') : LL H' as rs := h.keep fun a _ o e => s a o e
theorem LL.get {H : Hp} : ∀ {as : List Addr} {rs : List (List Int)} {i : Nat} {a : Addr}, LL H as rs → as[i]? = some a → ∃ r, rs[i]? = some r ∧ H a = some (.lst (r.map V.int))
  | [], [], _, _, _, e => by simp at e
  | [], _ :: _, _, _, h, _ => h.elim
  | _ :: _, [], _, _, h, _ => h.elim
  | a :: as, r :: rs, 0, b, h, e => by
    have e2 : a = b := Option.some.inj e
    subst e2
    exact ⟨r, rfl, h.1⟩
  | a :: as, r :: rs, i + 1, b, h, e => LL.get (i := i) h.2 e
theorem LL.tracked {H : Hp} {as : List Addr} {rs : List (List Int)} (h : LL H as rs) {a : Addr} (ha : a ∈ as) : ∃ o, H a = some o := by
  obtain ⟨i, hi⟩ := List.mem_iff_getElem?.mp ha
  obtain ⟨r, _, e⟩ := h.get hi
  exact ⟨_, e⟩
theorem LL.snoc {H : Hp} : ∀ {as : List Addr} {rs : List (List Int)} {a : Addr} {r : List Int}, LL H as rs → H a = some (.lst (r.map V.int)) → LL H (as ++ [a]) (rs ++ [r])
  | [], [], _, _, _, e => ⟨e, trivial⟩
  | [], _ :: _, _, _, h, _ => h.elim
  | _ :: _, [], _, _, h, _ => h.elim
  | b :: as, s :: rs, _, _, h, e => ⟨h.1, LL.snoc h.2 e⟩
theorem LL.drop {H : Hp} : ∀ {as : List Addr} {rs : List (List Int)} (k : Nat), LL H as rs → LL H (as.drop k) (rs.drop k)
  | as, rs, 0, h => h
  | [], [], k + 1, _ => trivial
  | [], _ :: _, _ + 1, h => h.elim
  | _ :: _, [], _ + 1, h => h.elim
  | _ :: as, _ :: rs, k + 1, h => LL.drop k h.2
theorem dp_LL {K : PySem.W.Frag} {H : Hp} : ∀ {as : List Addr} {rs : List (List Int)}, LL H as rs → DpAll K H (as.map V.ref) (rs.map dL)
  | [], [], _ => .nil
  | [], _ :: _, h => h.elim
  | _ :: _, [], h => h.elim
  | _ :: _, _ :: _, h => .cons (dp_list h.1) (dp_LL h.2)
theorem dp_lists {K : PySem.W.Frag} {H : Hp} {l : Addr} {as : List Addr} {rs : List (List Int)} (hl : H l = some (.lst (as.map V.ref))) (h : LL H as rs) : Dp K H (.ref l) (dLL rs) := .lst (SqL.of hl) (dp_LL h)
theorem ref_at {as : List Addr} {i : Nat} {a : Addr} (h : as[i]? = some a) : (as.map V.ref)[i]? = some (V.ref a) := by
  rw [List.getElem?_map, h]
  rfl
theorem ref_at_inv {as : List Addr} {i : Nat} {v : V} (h : (as.map V.ref)[i]? = some v) : ∃ a, as[i]? = some a ∧ v = V.ref a := by
  rw [List.getElem?_map] at h
  cases e : as[i]? with
  | none => rw [e] at h; cases h
  | some x => rw [e] at h; exact ⟨x, rfl, (Option.some.inj h).symm⟩
theorem cutV_tail (xs : List V) (k : Nat) : cutV xs (some (k : Int)) none = xs.drop k := by
  unfold cutV
  rw [HT.sIx_none, HT.sIx_nat]
  by_cases h : k ≤ xs.length
  · rw [Nat.min_eq_left h, List.take_of_length_le (by rw [List.length_drop]; exact Nat.le_refl _)]
  · rw [Nat.min_eq_right (by omega), List.drop_of_length_le (Nat.le_refl _), List.drop_of_length_le (by omega), List.take_nil]
end Fo
namespace Fo
open PySem PySem.Spec PyProof.Rows L2
abbrev rMax2 : List V → Hp → VK → Prop := fun xs H Q => ∃ i j, xs = [.int i, .int j] ∧ Q (.int (if j > i then j else i)) H
abbrev rMin2 : List V → Hp → VK → Prop := fun xs H Q => ∃ i j, xs = [.int i, .int j] ∧ Q (.int (if j < i then j else i)) H
abbrev rInt1 : List V → Hp → VK → Prop := fun xs H Q => (∃ i, xs = [.int i] ∧ Q (.int i) H) ∨ ∃ k, xs = [.bl k] ∧ Q (.int (if k then 1 else 0)) H
theorem filter_more {l : List Int} {m : Nat} {x : Int} (p : Int → Bool) (h : l[m]? = some x) : (l.take (m + 1)).filter p = (l.take m).filter p ++ (if p x then [x] else []) := by
  rw [List.take_add_one, h, List.filter_append]
  show _ ++ List.filter p [x] = _
  rw [List.filter_cons]
  rfl
end Fo
namespace Fo
open PySem PySem.Spec PyProof.Rows L2
theorem set2_perm {xs : List Int} {p q : Nat} {a b : Int} (ha : xs[p]? = some a) (hb : xs[q]? = some b) : ((xs.set p b).set q a).Perm xs := by
  obtain ⟨h1, e1⟩ := List.getElem?_eq_some_iff.mp ha
  obtain ⟨h2, e2⟩ := List.getElem?_eq_some_iff.mp hb
  rw [← e1, ← e2]
  exact List.set_set_perm h1 h2
theorem set2_V (xs : List Int) (p q : Nat) (a b : Int) : ((xs.map V.int).set p (V.int b)).set q (V.int a) = ((xs.set p b).set q a).map V.int := by
  rw [List.map_set, List.map_set]
end Fo
namespace Fo
open PySem PySem.Spec PyProof.Rows L2
/-! ### sums -/
def ind (b : Bool) : Nat := if b then 1 else 0
def sumN (l : List Int) (f : Int → Nat) : Nat := (l.map f).sum
theorem sumN_nil (f : Int → Nat) : sumN [] f = 0 := rfl
theorem sumN_cons (a : Int) (l : List Int) (f : Int → Nat) : sumN (a :: l) f = f a + sumN l f := by
  unfold sumN
  rw [List.map_cons, List.sum_cons]
theorem sumN_append (l m : List Int) (f : Int → Nat) : sumN (l ++ m) f = sumN l f + sumN m f := by
  unfold sumN
  rw [List.map_append, List.sum_append]
theorem sumN_perm {l m : List Int} (h : l.Perm m) (f : Int → Nat) : sumN l f = sumN m f := by
  induction h with
  | nil => rfl
  | cons x _ ih => rw [sumN_cons, sumN_cons, ih]
  | swap x y l => rw [sumN_cons, sumN_cons, sumN_cons, sumN_cons]; omega
  | trans _ _ h1 h2 => exact h1.trans h2
theorem sumN_congr {l : List Int} {f g : Int → Nat} (h : ∀ x ∈ l, f x = g x) : sumN l f = sumN l g := by
  unfold sumN
  rw [List.map_congr_left h]
theorem sumN_map (l : List Int) (g : Int → Int) (f : Int → Nat) : sumN (l.map g) f = sumN l (fun x => f (g x)) := by
  unfold sumN
  rw [List.map_map]
  rfl
theorem sumN_zero {l : List Int} {f : Int → Nat} (h : ∀ x ∈ l, f x = 0) : sumN l f = 0 := by
  rw [sumN_congr h]
  induction l with
  | nil => rfl
  | cons a l ih => rw [sumN_cons, ih fun x hx => h x (List.mem_cons_of_mem _ hx)]
theorem sumN_add (l : List Int) (f g : Int → Nat) : sumN l (fun x => f x + g x) = sumN l f + sumN l g := by
  induction l with
  | nil => rfl
  | cons a l ih => rw [sumN_cons, sumN_cons, sumN_cons, ih]; omega
theorem sumN_swap (l m : List Int) (f : Int → Int → Nat) : sumN l (fun i => sumN m (fun j => f i j)) = sumN m (fun j => sumN l (fun i => f i j)) := by
  induction l with
  | nil => exact (sumN_zero fun x _ => rfl).symm
  | cons a l ih =>
    rw [sumN_cons, ih, ← sumN_add]
    exact sumN_congr fun x _ => by rw [sumN_cons]
theorem filter_len (l : List Int) (p : Int → Bool) : (l.filter p).length = sumN l (fun x => ind (p x)) := by
  induction l with
  | nil => rfl
  | cons a l ih =>
    rw [sumN_cons, List.filter_cons]
    unfold ind at ih ⊢
    cases p a
    · simp only [Bool.false_eq_true, if_false]; omega
    · simp only [if_true, List.length_cons]; omega
/-! ### a list by its places -/
def g0 (s : List Int) (i : Int) : Int := s.getD i.toNat 0
theorem g0_at {s : List Int} {i : Nat} {x : Int} (h : s[i]? = some x) : g0 s (i : Int) = x := by
  unfold g0
  rw [Int.toNat_natCast, List.getD_eq_getElem?_getD, h]
  rfl
theorem by_places (s : List Int) : s = (rg s.length).map (g0 s) := by
  apply List.ext_getElem?
  intro i
  unfold rg
  rw [List.getElem?_map, List.getElem?_map]
  by_cases h : i < s.length
  · rw [List.getElem?_range h, List.getElem?_eq_getElem h]
    show some s[i] = some (g0 s (i : Int))
    rw [g0_at (List.getElem?_eq_getElem h)]
  · rw [List.getElem?_eq_none (by omega), List.getElem?_eq_none (by rw [List.length_range]; omega)]
    rfl
theorem rg_succ (n : Nat) : rg (n + 1) = rg n ++ [(n : Int)] := by
  unfold rg
  rw [List.range_succ, List.map_append]
  rfl
/-- how many of the later ones are less -/
def cntL (s : List Int) (i : Nat) : Nat := ((s.drop (i + 1)).filter (fun x => decide (x < g0 s i))).length
def invF (n : Nat) (a : Int → Int) : Nat := sumN (rg n) fun i => sumN (rg n) fun j => ind (decide (i < j) && decide (a j < a i))
def invN (s : List Int) : Nat := sumN (rg s.length) fun i => cntL s i.toNat
theorem drop_sum (n i : Nat) (f : Int → Nat) : sumN ((rg n).drop (i + 1)) f = sumN (rg n) fun j => if (i : Int) < j then f j else 0 := by
  induction n with
  | zero => rfl
  | succ n ih =>
    rw [rg_succ, sumN_append, ← ih, List.drop_append, sumN_append, rg_len]
    congr 1
    by_cases h : i + 1 ≤ n
    · rw [show i + 1 - n = 0 by omega, List.drop_zero, sumN_cons, sumN_cons, sumN_nil, sumN_nil, if_pos (by omega)]
    · rw [show i + 1 - n = (i - n) + 1 by omega, List.drop_succ_cons, List.drop_nil, sumN_cons, sumN_nil, sumN_nil, if_neg (by omega)]
theorem cnt_sum (s : List Int) (i : Nat) : cntL s i = sumN (rg s.length) fun j => ind (decide ((i : Int) < j) && decide (g0 s j < g0 s i)) := by
  unfold cntL
  rw [filter_len]
  have e : s.drop (i + 1) = ((rg s.length).drop (i + 1)).map (g0 s) := by
    rw [List.map_drop, ← by_places]
  rw [e, sumN_map, drop_sum]
  apply sumN_congr
  intro j _
  unfold ind
  by_cases h : (i : Int) < j
  · simp [h]
  · simp [h]
theorem inv_eq (s : List Int) : invN s = invF s.length (g0 s) := by
  unfold invN invF
  apply sumN_congr
  intro i hi
  have := rg_mem.mp hi
  rw [cnt_sum, Int.toNat_of_nonneg this.1]
/-! ### places of things -/
def pos (ys : List Int) (x : Int) : Int := ((ys.idxOf x : Nat) : Int)
def seatsL (xs ys : List Int) : List Int := xs.map (pos ys)
theorem pos_of {n : Nat} {ys : List Int} (o : IsOrd n ys) {j : Nat} {x : Int} (h : ys[j]? = some x) : pos ys x = (j : Int) := by
  obtain ⟨hj, e⟩ := List.getElem?_eq_some_iff.mp h
  have m : x ∈ ys := List.mem_of_getElem? h
  have hi : ys.idxOf x < ys.length := List.idxOf_lt_length_iff.mpr m
  have h2 : ys[ys.idxOf x]? = some x := by
    rw [List.getElem?_eq_getElem hi]
    exact congrArg some (List.getElem_idxOf hi)
  unfold pos
  rw [nd_ix o.nodup h2 h]
theorem pos_at {n : Nat} {ys : List Int} (o : IsOrd n ys) {x : Int} (h0 : 0 ≤ x) (h1 : x < n) : ∃ j : Nat, j < n ∧ ys[j]? = some x ∧ pos ys x = (j : Int) := by
  obtain ⟨j, hj, e⟩ := ord_at o (t := x.toNat) (by omega)
  rw [Int.toNat_of_nonneg h0] at e
  exact ⟨j, hj, e, pos_of o e⟩
theorem back_pos {n : Nat} {ys ps : List Int} (o : IsOrd n ys) (h : IsBack ys ps) {x : Int} (h0 : 0 ≤ x) (h1 : x < n) : ps[x.toNat]? = some (pos ys x) := by
  obtain ⟨j, hj, e, ep⟩ := pos_at o h0 h1
  rw [ep]
  exact h.2 j x e
theorem seats_len (xs ys : List Int) : (seatsL xs ys).length = xs.length := by
  unfold seatsL
  rw [List.length_map]
theorem seats_at {xs ys : List Int} {i : Nat} {x : Int} (h : xs[i]? = some x) : (seatsL xs ys)[i]? = some (pos ys x) := by
  unfold seatsL
  rw [List.getElem?_map, h]
  rfl
theorem seats_self {n : Nat} {ys : List Int} (o : IsOrd n ys) : seatsL ys ys = rg n := by
  apply List.ext_getElem?
  intro i
  by_cases h : i < n
  · obtain ⟨x, hx, _⟩ := ord_ix o h
    rw [seats_at hx, pos_of o hx]
    unfold rg
    rw [List.getElem?_map, List.getElem?_range h]
    rfl
  · rw [List.getElem?_eq_none (by rw [seats_len, o.len]; omega), List.getElem?_eq_none (by rw [rg_len]; omega)]
theorem seats_ord {n : Nat} {xs ys : List Int} (ox : IsOrd n xs) (oy : IsOrd n ys) : IsOrd n (seatsL xs ys) := by
  have h : (seatsL xs ys).Perm (seatsL ys ys) := List.Perm.map _ (ox.trans oy.symm)
  rw [seats_self oy] at h
  exact h
theorem g0_ord {n : Nat} {s : List Int} (o : IsOrd n s) : s = (rg n).map (g0 s) := by
  have e := by_places s
  rw [o.len] at e
  exact e
/-- inversions from the other side -/
theorem inv_turn {n : Nat} {s t : List Int} (os : IsOrd n s) (ot : IsOrd n t) (h : ∀ u ∈ rg n, g0 s (g0 t u) = u) : invN s = invN t := by
  rw [inv_eq, inv_eq, os.len, ot.len]
  unfold invF
  have p1 : ∀ f : Int → Nat, sumN (rg n) f = sumN (rg n) fun u => f (g0 t u) := fun f => by
    have e : sumN ((rg n).map (g0 t)) f = sumN (rg n) fun u => f (g0 t u) := sumN_map _ _ _
    rw [← e, ← g0_ord ot]
    exact (sumN_perm ot f).symm
  rw [p1]
  rw [sumN_congr (g := fun u => sumN (rg n) fun v => ind (decide (g0 t u < g0 t v) && decide (v < u))) (fun u hu => by
    rw [p1]
    exact sumN_congr fun v hv => by rw [h u hu, h v hv])]
  rw [sumN_swap]
  apply sumN_congr
  intro v _
  apply sumN_congr
  intro u _
  rw [Bool.and_comm]
theorem seats_turn {n : Nat} {xs ys : List Int} (ox : IsOrd n xs) (oy : IsOrd n ys) : ∀ u ∈ rg n, g0 (seatsL xs ys) (g0 (seatsL ys xs) u) = u := by
  intro u hu
  have hb := rg_mem.mp hu
  obtain ⟨y, hy, y0, y1⟩ := ord_ix oy (j := u.toNat) (by omega)
  have e1 : g0 (seatsL ys xs) u = pos xs y := by
    have := g0_at (seats_at (ys := xs) hy)
    rw [Int.toNat_of_nonneg hb.1] at this
    exact this
  obtain ⟨j, hj, ej, pj⟩ := pos_at ox y0 y1
  rw [e1, pj, g0_at (seats_at (ys := ys) ej), pos_of oy hy]
  omega
/-! ### how far two orders are -/
def farSwap (xs ys : List Int) : Int := ((invN (seatsL xs ys) : Nat) : Int)
def spotL (xs ys : List Int) : List Int := (rg xs.length).filter fun p => !decide (g0 xs p = g0 ys p)
def farSpot (xs ys : List Int) : Int := (((spotL xs ys).length : Nat) : Int)
def absI (i : Int) : Int := if i < 0 then -i else i
def gapsL (xs ys : List Int) : List Int := (rg xs.length).map fun p => absI (p - g0 (seatsL xs ys) p)
def maxL (l : List Int) : Int := l.foldr max 0
def farShift (xs ys : List Int) : Int := maxL (gapsL xs ys)
theorem maxL_of : ∀ {l : List Int} {m : Int}, (∀ x ∈ l, 0 ≤ x) → m ∈ l → (∀ x ∈ l, x ≤ m) → maxL l = m := by
  intro l m h0 hm hle
  have key : ∀ l : List Int, (∀ x ∈ l, x ≤ m) → maxL l ≤ m := by
    intro l hl
    induction l with
    | nil => exact h0 m hm
    | cons a l ih =>
      show max a (maxL l) ≤ m
      have h1 := hl a List.mem_cons_self
      have h2 := ih fun x hx => hl x (List.mem_cons_of_mem _ hx)
      omega
  have key2 : ∀ l : List Int, ∀ x ∈ l, x ≤ maxL l := by
    intro l
    induction l with
    | nil => intro x hx; exact absurd hx List.not_mem_nil
    | cons a l ih =>
      intro x hx
      show x ≤ max a (maxL l)
      rcases List.mem_cons.mp hx with rfl | hx
      · omega
      · have := ih x hx
        omega
  have := key l hle
  have := key2 l m hm
  omega
theorem gaps_nonneg (xs ys : List Int) : ∀ x ∈ gapsL xs ys, 0 ≤ x := by
  intro x hx
  obtain ⟨p, _, rfl⟩ := List.mem_map.mp hx
  unfold absI
  split <;> omega
theorem maxL_mem {l : List Int} (h0 : ∀ x ∈ l, 0 ≤ x) (hl : 0 < l.length) : maxL l ∈ l ∧ ∀ x ∈ l, x ≤ maxL l := by
  induction l with
  | nil => exact absurd hl (Nat.lt_irrefl _)
  | cons a l ih =>
    show max a (maxL l) ∈ a :: l ∧ ∀ x ∈ a :: l, x ≤ max a (maxL l)
    by_cases c : 0 < l.length
    · obtain ⟨h1, h2⟩ := ih (fun x hx => h0 x (List.mem_cons_of_mem _ hx)) c
      constructor
      · by_cases d : maxL l ≤ a
        · rw [Int.max_eq_left d]
          exact List.mem_cons_self
        · rw [Int.max_eq_right (by omega)]
          exact List.mem_cons_of_mem _ h1
      · intro x hx
        rcases List.mem_cons.mp hx with rfl | hx
        · omega
        · have := h2 x hx
          omega
    · have e : l = [] := List.eq_nil_of_length_eq_zero (by omega)
      subst e
      have := h0 a List.mem_cons_self
      have e2 : max a (maxL []) = a := by show max a 0 = a; omega
      rw [e2]
      exact ⟨List.mem_cons_self, fun x hx => by rw [List.mem_singleton.mp hx]; exact Int.le_refl _⟩
theorem farSwap_turn {n : Nat} {xs ys : List Int} (ox : IsOrd n xs) (oy : IsOrd n ys) : farSwap ys xs = farSwap xs ys := by
  unfold farSwap
  rw [inv_turn (seats_ord ox oy) (seats_ord oy ox) (seats_turn ox oy)]
theorem inv_rg (n : Nat) : invN (rg n) = 0 := by
  rw [inv_eq]
  unfold invF
  apply sumN_zero
  intro i hi
  apply sumN_zero
  intro j hj
  rw [rg_len] at hi hj
  have hi2 := rg_mem.mp hi
  have hj2 := rg_mem.mp hj
  have e : ∀ k : Int, k ∈ rg n → g0 (rg n) k = k := fun k hk => by
    have := rg_mem.mp hk
    have z : (rg n)[k.toNat]? = some k := by
      unfold rg
      rw [List.getElem?_map, List.getElem?_range (by omega)]
      show some ((k.toNat : Nat) : Int) = some k
      rw [Int.toNat_of_nonneg this.1]
    have z2 := g0_at z
    rw [Int.toNat_of_nonneg this.1] at z2
    exact z2
  rw [e i hi, e j hj]
  unfold ind
  by_cases c : i < j
  · have d : ¬ j < i := by omega
    simp [c, d]
  · simp [c]
theorem farSwap_self {n : Nat} {xs : List Int} (ox : IsOrd n xs) : farSwap xs xs = 0 := by
  unfold farSwap
  rw [seats_self ox, inv_rg]
  rfl
theorem farSpot_turn {xs ys : List Int} (h : xs.length = ys.length) : farSpot ys xs = farSpot xs ys := by
  unfold farSpot spotL
  rw [h]
  congr 3
  funext p
  congr 1
  by_cases c : g0 ys p = g0 xs p
  · rw [decide_eq_true c, decide_eq_true c.symm]
  · rw [decide_eq_false c, decide_eq_false fun e => c e.symm]
theorem farSpot_self (xs : List Int) : farSpot xs xs = 0 := by
  unfold farSpot spotL
  have e : ((rg xs.length).filter fun p => !decide (g0 xs p = g0 xs p)) = [] := by
    rw [List.filter_eq_nil_iff]
    intro a _
    simp
  rw [e]
  rfl
theorem gaps_len (xs ys : List Int) : (gapsL xs ys).length = xs.length := by
  unfold gapsL
  rw [List.length_map, rg_len]
theorem gaps_sub {n : Nat} {xs ys : List Int} (ox : IsOrd n xs) (oy : IsOrd n ys) : ∀ g ∈ gapsL ys xs, g ∈ gapsL xs ys := by
  intro g hg
  obtain ⟨u, hu, rfl⟩ := List.mem_map.mp hg
  rw [oy.len] at hu
  have hb := (seats_ord oy ox).mem (x := g0 (seatsL ys xs) u) (by
    have e := g0_ord (seats_ord oy ox)
    rw [e]
    exact List.mem_map.mpr ⟨u, hu, by rw [← e]⟩)
  refine List.mem_map.mpr ⟨g0 (seatsL ys xs) u, by rw [ox.len]; exact rg_mem.mpr hb, ?_⟩
  rw [seats_turn ox oy u hu]
  unfold absI
  split <;> split <;> omega
theorem farShift_turn {n : Nat} {xs ys : List Int} (ox : IsOrd n xs) (oy : IsOrd n ys) (hn : 1 ≤ n) : farShift ys xs = farShift xs ys := by
  unfold farShift
  obtain ⟨h1, h2⟩ := maxL_mem (gaps_nonneg xs ys) (by rw [gaps_len, ox.len]; exact hn)
  exact maxL_of (gaps_nonneg ys xs) (gaps_sub oy ox _ h1) fun x hx => h2 x (gaps_sub ox oy x hx)
theorem farShift_self {n : Nat} {xs : List Int} (ox : IsOrd n xs) (hn : 1 ≤ n) : farShift xs xs = 0 := by
  unfold farShift
  have z : ∀ g ∈ gapsL xs xs, g = 0 := by
    intro g hg
    obtain ⟨u, hu, rfl⟩ := List.mem_map.mp hg
    rw [ox.len] at hu
    have hb := rg_mem.mp hu
    rw [seats_self ox]
    have e : (rg n)[u.toNat]? = some u := by
      unfold rg
      rw [List.getElem?_map, List.getElem?_range (by omega)]
      show some ((u.toNat : Nat) : Int) = some u
      rw [Int.toNat_of_nonneg hb.1]
    have z2 := g0_at e
    rw [Int.toNat_of_nonneg hb.1] at z2
    rw [z2]
    unfold absI
    split <;> omega
  obtain ⟨h1, _⟩ := maxL_mem (gaps_nonneg xs xs) (by rw [gaps_len, ox.len]; exact hn)
  exact z _ h1
end Fo
namespace Fo
open PySem PySem.Spec PyProof.Rows L2
/-! ### turned pairs, one after the other -/
def invR : List Int → Nat
  | [] => 0
  | x :: r => (r.filter (fun z => decide (z < x))).length + invR r
theorem rg_cons (n : Nat) : rg (n + 1) = 0 :: (rg n).map (· + 1) := by
  unfold rg
  rw [List.range_succ_eq_map, List.map_cons, List.map_map, List.map_map]
  rfl
theorem inv_NR : ∀ s : List Int, invN s = invR s
  | [] => rfl
  | x :: r => by
    have ih := inv_NR r
    unfold invN at ih ⊢
    rw [List.length_cons, rg_cons, sumN_cons, sumN_map]
    show cntL (x :: r) (0 : Int).toNat + _ = (r.filter (fun z => decide (z < x))).length + invR r
    rw [← ih]
    have e1 : cntL (x :: r) (0 : Int).toNat = (r.filter (fun z => decide (z < x))).length := rfl
    rw [e1]
    congr 1
    apply sumN_congr
    intro i hi
    have hb := rg_mem.mp hi
    obtain ⟨j, rfl⟩ : ∃ j : Nat, i = (j : Int) := ⟨i.toNat, by omega⟩
    rw [show ((j : Int) + 1).toNat = j + 1 by omega, Int.toNat_natCast]
    unfold cntL
    have e2 : g0 (x :: r) ((j + 1 : Nat) : Int) = g0 r (j : Int) := by
      unfold g0
      rw [Int.toNat_natCast, Int.toNat_natCast]
      rfl
    rw [e2]
    rfl
theorem filt_perm {a b : List Int} (h : a.Perm b) (p : Int → Bool) : (a.filter p).length = (b.filter p).length := (h.filter p).length_eq
theorem invR_at : ∀ (A : List Int) (a b : Int) (B : List Int), b < a → invR (A ++ a :: b :: B) = invR (A ++ b :: a :: B) + 1
  | [], a, b, B, h => by
    show ((b :: B).filter (fun z => decide (z < a))).length + ((B.filter (fun z => decide (z < b))).length + invR B) = ((a :: B).filter (fun z => decide (z < b))).length + ((B.filter (fun z => decide (z < a))).length + invR B) + 1
    rw [List.filter_cons, List.filter_cons, decide_eq_true h, decide_eq_false (show ¬ a < b by omega), if_pos rfl, if_neg (by decide), List.length_cons]
    omega
  | x :: A, a, b, B, h => by
    have ih := invR_at A a b B h
    show ((A ++ a :: b :: B).filter (fun z => decide (z < x))).length + invR (A ++ a :: b :: B) = ((A ++ b :: a :: B).filter (fun z => decide (z < x))).length + invR (A ++ b :: a :: B) + 1
    rw [ih, filt_perm (List.Perm.append_left A (List.Perm.swap b a B))]
    omega
theorem invR_sw {s : List Int} {p : Nat} {a b : Int} (ha : s[p]? = some a) (hb : s[p + 1]? = some b) (h : b < a) : invR s = invR (sw s p) + 1 := by
  have hl := (List.getElem?_eq_some_iff.mp hb).1
  obtain ⟨A, x, y, B, rfl, rfl⟩ := split2 hl
  have ex : x = a := by
    rw [List.getElem?_append_right (Nat.le_refl _), Nat.sub_self] at ha
    exact Option.some.inj ha
  have ey : y = b := by
    rw [List.getElem?_append_right (by omega), show A.length + 1 - A.length = 1 by omega] at hb
    exact Option.some.inj hb
  subst ex ey
  rw [sw_at, invR_at A x y B h]
def firstDesc : List Int → Option Nat
  | [] => none
  | [_] => none
  | x :: y :: r => if y < x then some 0 else (firstDesc (y :: r)).map (· + 1)
theorem fd_cons (x y : Int) (r : List Int) : firstDesc (x :: y :: r) = if y < x then some 0 else (firstDesc (y :: r)).map (· + 1) := by rw [firstDesc]
theorem fd_some : ∀ {s : List Int} {p : Nat} {a b : Int}, (∀ (j : Nat) (u v : Int), j < p → s[j]? = some u → s[j + 1]? = some v → u ≤ v) → s[p]? = some a → s[p + 1]? = some b → b < a → firstDesc s = some p
  | [], p, a, b, _, ha, _, _ => by simp at ha
  | [_], p, a, b, _, _, hb, _ => by simp at hb
  | x :: y :: r, 0, a, b, _, ha, hb, h => by
    have e1 : x = a := Option.some.inj ha
    have e2 : y = b := Option.some.inj hb
    rw [fd_cons, if_pos (by omega)]
  | x :: y :: r, p + 1, a, b, hl, ha, hb, h => by
    have h0 : x ≤ y := hl 0 x y (by omega) rfl rfl
    have ih := fd_some (s := y :: r) (p := p) (a := a) (b := b) (fun j u v hj hu hv => hl (j + 1) u v (by omega) hu hv) ha hb h
    rw [fd_cons, if_neg (by omega), ih]
    rfl
theorem fd_none : ∀ {s : List Int}, (∀ (j : Nat) (u v : Int), s[j]? = some u → s[j + 1]? = some v → u ≤ v) → firstDesc s = none
  | [], _ => rfl
  | [_], _ => rfl
  | x :: y :: r, hl => by
    have h0 : x ≤ y := hl 0 x y rfl rfl
    have ih := fd_none (s := y :: r) (fun j u v hu hv => hl (j + 1) u v hu hv)
    rw [fd_cons, if_neg (by omega), ih]
    rfl
theorem fd_at : ∀ {s : List Int} {p : Nat}, firstDesc s = some p → ∃ a b, s[p]? = some a ∧ s[p + 1]? = some b ∧ b < a ∧ ∀ (j : Nat) (u v : Int), j < p → s[j]? = some u → s[j + 1]? = some v → u ≤ v
  | [], p, h => by cases h
  | [_], p, h => by cases h
  | x :: y :: r, p, h => by
    rw [fd_cons] at h
    by_cases c : y < x
    · rw [if_pos c] at h
      cases h
      exact ⟨x, y, rfl, rfl, c, fun j u v hj => absurd hj (Nat.not_lt_zero _)⟩
    · rw [if_neg c] at h
      cases e : firstDesc (y :: r) with
      | none => rw [e] at h; cases h
      | some q =>
        rw [e] at h
        have ep : q + 1 = p := Option.some.inj h
        subst ep
        obtain ⟨a, b, ha, hb, hlt, hl⟩ := fd_at e
        refine ⟨a, b, ha, hb, hlt, fun j u v hj hu hv => ?_⟩
        cases j with
        | zero =>
          have e1 : x = u := Option.some.inj hu
          have e2 : y = v := Option.some.inj hv
          omega
        | succ j => exact hl j u v (by omega) hu hv
theorem fd_sorted : ∀ {s : List Int}, firstDesc s = none → s.Pairwise (· ≤ ·)
  | [], _ => List.Pairwise.nil
  | [_], _ => List.pairwise_singleton _ _
  | x :: y :: r, h => by
    rw [fd_cons] at h
    by_cases c : y < x
    · rw [if_pos c] at h; cases h
    · rw [if_neg c] at h
      have e : firstDesc (y :: r) = none := by
        cases e : firstDesc (y :: r) with
        | none => rfl
        | some q => rw [e] at h; cases h
      have ih := fd_sorted e
      refine List.Pairwise.cons (fun z hz => ?_) ih
      rcases List.mem_cons.mp hz with rfl | hz
      · omega
      · have := (List.pairwise_cons.mp ih).1 z hz
        omega
theorem invR_sorted : ∀ {s : List Int}, s.Pairwise (· ≤ ·) → invR s = 0
  | [], _ => rfl
  | x :: r, h => by
    obtain ⟨h1, h2⟩ := List.pairwise_cons.mp h
    show (r.filter (fun z => decide (z < x))).length + invR r = 0
    rw [invR_sorted h2, List.filter_eq_nil_iff.mpr (fun z hz => by
      have := h1 z hz
      simp
      omega)]
    rfl
theorem fd_pos {s : List Int} (h : 0 < invR s) : ∃ p, firstDesc s = some p := by
  cases e : firstDesc s with
  | none => rw [invR_sorted (fd_sorted e)] at h; omega
  | some p => exact ⟨p, rfl⟩
/-- the first of the shortest walks, of at most m places -/
def gw : Nat → List Int → List Int
  | 0, _ => []
  | m + 1, s => match firstDesc s with
    | none => []
    | some p => (p : Int) :: gw m (sw s p)
abbrev walkL (s : List Int) : List Int := gw (invR s) s
theorem walk_none {s : List Int} (h : firstDesc s = none) : walkL s = [] := by
  unfold walkL
  rw [invR_sorted (fd_sorted h)]
  rfl
theorem walk_some {s : List Int} {p : Nat} (h : firstDesc s = some p) : walkL s = (p : Int) :: walkL (sw s p) := by
  obtain ⟨a, b, ha, hb, hlt, _⟩ := fd_at h
  unfold walkL
  rw [invR_sw ha hb hlt, gw, h]
theorem walk_len : ∀ (m : Nat) (s : List Int), invR s = m → (walkL s).length = m
  | 0, s, h => by
    unfold walkL
    rw [h]
    rfl
  | m + 1, s, h => by
    obtain ⟨p, hp⟩ := fd_pos (s := s) (by omega)
    obtain ⟨a, b, ha, hb, hlt, _⟩ := fd_at hp
    rw [walk_some hp, List.length_cons, walk_len m (sw s p) (by have := invR_sw ha hb hlt; omega)]
theorem invR_len (s : List Int) : invR s ≤ s.length * s.length := by
  induction s with
  | nil => exact Nat.le_refl _
  | cons x r ih =>
    show (r.filter _).length + invR r ≤ (r.length + 1) * (r.length + 1)
    have h1 : (r.filter (fun z => decide (z < x))).length ≤ r.length := List.length_filter_le _ _
    have h2 : (r.length + 1) * (r.length + 1) = r.length * r.length + r.length + r.length + 1 := by
      rw [Nat.add_mul, Nat.mul_add]
      omega
    omega
theorem seats_sw {xs ys : List Int} {p : Nat} (h : p + 1 < xs.length) : seatsL (sw xs p) ys = sw (seatsL xs ys) p := by
  obtain ⟨A, a, b, B, rfl, rfl⟩ := split2 h
  rw [sw_at]
  unfold seatsL
  rw [List.map_append, List.map_cons, List.map_cons, List.map_append, List.map_cons, List.map_cons]
  have e := sw_at (A.map (pos ys)) (pos ys a) (pos ys b) (B.map (pos ys))
  rw [List.length_map] at e
  exact e.symm
theorem cut_sw {xs : List Int} {p : Nat} {a b : Int} (ha : xs[p]? = some a) (hb : xs[p + 1]? = some b) : xs.take p ++ [b, a] ++ xs.drop (p + 2) = sw xs p := by
  have hl := (List.getElem?_eq_some_iff.mp hb).1
  obtain ⟨A, x, y, B, rfl, rfl⟩ := split2 hl
  have ex : x = a := by
    rw [List.getElem?_append_right (Nat.le_refl _), Nat.sub_self] at ha
    exact Option.some.inj ha
  have ey : y = b := by
    rw [List.getElem?_append_right (by omega), show A.length + 1 - A.length = 1 by omega] at hb
    exact Option.some.inj hb
  subst ex ey
  rw [sw_at, List.take_left, List.drop_append, List.drop_of_length_le (by omega), show A.length + 2 - A.length = 2 by omega]
  simp
theorem filt_map (l : List Int) (f : Int → Int) (p : Int → Bool) : ((l.map f).filter p).length = (l.filter (fun x => p (f x))).length := by
  rw [List.filter_map, List.length_map]
  rfl
end Fo
namespace Fo
open PySem PySem.Spec PyProof.Rows L2
theorem pos_ord {n : Nat} {xs : List Int} (o : IsOrd n xs) : IsOrd n ((rg n).map (pos xs)) := by
  have h : ((rg n).map (pos xs)).Perm (seatsL xs xs) := List.Perm.map _ o.symm
  rw [seats_self o] at h
  exact h
theorem pos_in {n : Nat} {xs : List Int} (o : IsOrd n xs) {t : Int} (h : t ∈ rg n) : pos xs t ∈ rg n := by
  have := (pos_ord o).mem (List.mem_map.mpr ⟨t, h, rfl⟩)
  exact rg_mem.mpr this
theorem pos_inj {n : Nat} {xs : List Int} (o : IsOrd n xs) {t u : Int} (ht : t ∈ rg n) (hu : u ∈ rg n) (e : pos xs t = pos xs u) : t = u := by
  have h1 := rg_mem.mp ht
  have h2 := rg_mem.mp hu
  obtain ⟨i, _, ei, pi⟩ := pos_at o h1.1 h1.2
  obtain ⟨j, _, ej, pj⟩ := pos_at o h2.1 h2.2
  have : i = j := by omega
  subst this
  exact Option.some.inj (ei.symm.trans ej)
/-- a sum over the places is a sum over the things -/
theorem sum_pos {n : Nat} {xs : List Int} (o : IsOrd n xs) (f : Int → Nat) : sumN (rg n) f = sumN (rg n) fun t => f (pos xs t) := by
  have e : sumN ((rg n).map (pos xs)) f = sumN (rg n) fun t => f (pos xs t) := sumN_map _ _ _
  rw [← e]
  exact (sumN_perm (pos_ord o) f).symm
theorem sum_g0 {n : Nat} {xs : List Int} (o : IsOrd n xs) (f : Int → Nat) : sumN (rg n) f = sumN (rg n) fun p => f (g0 xs p) := by
  have e : sumN ((rg n).map (g0 xs)) f = sumN (rg n) fun t => f (g0 xs t) := sumN_map _ _ _
  rw [← e, ← g0_ord o]
  exact (sumN_perm o f).symm
theorem g0_pos {n : Nat} {xs : List Int} (o : IsOrd n xs) {t : Int} (h : t ∈ rg n) : g0 xs (pos xs t) = t := by
  have h1 := rg_mem.mp h
  obtain ⟨j, _, ej, pj⟩ := pos_at o h1.1 h1.2
  rw [pj]
  exact g0_at ej
theorem pos_g0 {n : Nat} {xs : List Int} (o : IsOrd n xs) {p : Int} (h : p ∈ rg n) : pos xs (g0 xs p) = p := by
  have h1 := rg_mem.mp h
  obtain ⟨x, hx, _⟩ := ord_ix o (j := p.toNat) (by omega)
  have e := g0_at hx
  rw [Int.toNat_of_nonneg h1.1] at e
  rw [e, pos_of o hx]
  omega
theorem g0_in {n : Nat} {xs : List Int} (o : IsOrd n xs) {p : Int} (h : p ∈ rg n) : g0 xs p ∈ rg n := by
  have h1 := rg_mem.mp h
  obtain ⟨x, hx, x0, x1⟩ := ord_ix o (j := p.toNat) (by omega)
  have e := g0_at hx
  rw [Int.toNat_of_nonneg h1.1] at e
  rw [e]
  exact rg_mem.mpr ⟨x0, x1⟩
end Fo
namespace Fo
open PySem PySem.Spec PyProof.Rows L2
/-! ### rounds -/
def it (f : Int → Int) : Nat → Int → Int
  | 0, t => t
  | j + 1, t => f (it f j t)
theorem it_add (f : Int → Int) (i j : Nat) (t : Int) : it f (i + j) t = it f i (it f j t) := by
  induction i with
  | zero => rw [Nat.zero_add]; rfl
  | succ i ih => rw [Nat.succ_add]; show f (it f (i + j) t) = f (it f i (it f j t)); rw [ih]
/-- f leads things to things, no two to one -/
structure Bij (n : Nat) (f : Int → Int) : Prop where
  into : ∀ t ∈ rg n, f t ∈ rg n
  inj : ∀ t ∈ rg n, ∀ u ∈ rg n, f t = f u → t = u
section
variable {n : Nat} {f : Int → Int}
theorem Bij.it_in (b : Bij n f) {t : Int} (ht : t ∈ rg n) : ∀ j, it f j t ∈ rg n
  | 0 => ht
  | j + 1 => b.into _ (b.it_in ht j)
theorem Bij.it_inj (b : Bij n f) {t u : Int} (ht : t ∈ rg n) (hu : u ∈ rg n) : ∀ j, it f j t = it f j u → t = u
  | 0, e => e
  | j + 1, e => b.it_inj ht hu j (b.inj _ (b.it_in ht j) _ (b.it_in hu j) e)
theorem Bij.again (b : Bij n f) {t : Int} (ht : t ∈ rg n) : ∃ j, j < n ∧ it f (j + 1) t = t := by
  by_cases h : ∃ j, j < n ∧ it f (j + 1) t = t
  · exact h
  · exfalso
    have nd : ((List.range (n + 1)).map (fun j => it f j t)).Nodup := by
      have : (List.range (n + 1)).Pairwise (fun i j => it f i t ≠ it f j t) := by
        have hp : (List.range (n + 1)).Pairwise (fun i j => i < j ∧ j < n + 1) := by
          rw [List.pairwise_iff_getElem]
          intro i j hi hj hij
          rw [List.getElem_range, List.getElem_range]
          rw [List.length_range] at hj
          exact ⟨hij, hj⟩
        refine hp.imp fun {i j} hij e => ?_
        have ej : it f j t = it f i (it f (j - i) t) := by rw [← it_add, show i + (j - i) = j by omega]
        rw [ej] at e
        have z := b.it_inj ht (b.it_in ht (j - i)) i e
        exact h ⟨j - i - 1, by omega, by rw [show j - i - 1 + 1 = j - i by omega]; exact z.symm⟩
      exact List.Pairwise.map _ (fun i j h => h) this
    have hl := nodup_len (m := rg n) nd fun x hx => by
      obtain ⟨j, _, rfl⟩ := List.mem_map.mp hx
      exact b.it_in ht j
    rw [List.length_map, List.length_range, rg_len] at hl
    omega
end
def per (n : Nat) (f : Int → Int) (t : Int) : Nat := ((List.range n).find? (fun j => decide (it f (j + 1) t = t))).getD 0 + 1
def cyc (n : Nat) (f : Int → Int) (t : Int) : List Int := (List.range (per n f t)).map fun j => it f j t
section
variable {n : Nat} {f : Int → Int}
theorem Bij.per_spec (b : Bij n f) {t : Int} (ht : t ∈ rg n) : 1 ≤ per n f t ∧ per n f t ≤ n ∧ it f (per n f t) t = t ∧ ∀ j, 1 ≤ j → j < per n f t → it f j t ≠ t := by
  obtain ⟨j0, h0, e0⟩ := b.again ht
  cases e : (List.range n).find? (fun j => decide (it f (j + 1) t = t)) with
  | none =>
    have := List.find?_eq_none.mp e j0 (List.mem_range.mpr h0)
    simp [e0] at this
  | some i =>
    obtain ⟨h1, h2, h3⟩ := List.find?_range_eq_some.mp e
    have hp : per n f t = i + 1 := by
      unfold per
      rw [e]
      rfl
    rw [hp]
    have hi := List.mem_range.mp h2
    refine ⟨by omega, by omega, of_decide_eq_true h1, fun j hj1 hj2 ez => ?_⟩
    have := h3 (j - 1) (by omega)
    rw [show j - 1 + 1 = j by omega, decide_eq_true ez] at this
    cases this
theorem cyc_len (t : Int) : (cyc n f t).length = per n f t := by
  unfold cyc
  rw [List.length_map, List.length_range]
theorem cyc_at {t : Int} {j : Nat} (h : j < per n f t) : (cyc n f t)[j]? = some (it f j t) := by
  unfold cyc
  rw [List.getElem?_map, List.getElem?_range h]
  rfl
theorem Bij.cyc_in (b : Bij n f) {t u : Int} (ht : t ∈ rg n) (h : u ∈ cyc n f t) : u ∈ rg n := by
  obtain ⟨j, _, rfl⟩ := List.mem_map.mp h
  exact b.it_in ht j
theorem Bij.cyc_it (b : Bij n f) {t : Int} (ht : t ∈ rg n) : ∀ m, it f m t ∈ cyc n f t := by
  obtain ⟨p1, p2, p3, p4⟩ := b.per_spec ht
  intro m
  induction m with
  | zero => exact List.mem_map.mpr ⟨0, List.mem_range.mpr p1, rfl⟩
  | succ m ih =>
    obtain ⟨j, hj, e⟩ := List.mem_map.mp ih
    have hj2 := List.mem_range.mp hj
    show f (it f m t) ∈ _
    rw [← e]
    by_cases c : j + 1 < per n f t
    · exact List.mem_map.mpr ⟨j + 1, List.mem_range.mpr c, rfl⟩
    · have : j + 1 = per n f t := by omega
      have e2 : f (it f j t) = t := by
        have z := p3
        rw [← this] at z
        exact z
      rw [e2]
      exact List.mem_map.mpr ⟨0, List.mem_range.mpr p1, rfl⟩
theorem Bij.cyc_self (b : Bij n f) {t : Int} (ht : t ∈ rg n) : t ∈ cyc n f t := b.cyc_it ht 0
theorem Bij.cyc_symm (b : Bij n f) {t u : Int} (ht : t ∈ rg n) (h : u ∈ cyc n f t) : t ∈ cyc n f u := by
  obtain ⟨p1, p2, p3, p4⟩ := b.per_spec ht
  have hu := b.cyc_in ht h
  obtain ⟨j, hj, rfl⟩ := List.mem_map.mp h
  have hj2 := List.mem_range.mp hj
  have := b.cyc_it hu (per n f t - j)
  rw [← it_add, show per n f t - j + j = per n f t by omega, p3] at this
  exact this
theorem Bij.cyc_trans (b : Bij n f) {t u v : Int} (ht : t ∈ rg n) (h1 : u ∈ cyc n f t) (h2 : v ∈ cyc n f u) : v ∈ cyc n f t := by
  obtain ⟨i, _, rfl⟩ := List.mem_map.mp h1
  obtain ⟨j, _, rfl⟩ := List.mem_map.mp h2
  rw [← it_add]
  exact b.cyc_it ht _
end
def mnL : List Int → Int
  | [] => 0
  | [a] => a
  | a :: b :: r => min a (mnL (b :: r))
theorem mnL_spec : ∀ {l : List Int}, 0 < l.length → mnL l ∈ l ∧ ∀ x ∈ l, mnL l ≤ x
  | [], h => absurd h (Nat.lt_irrefl _)
  | [a], _ => ⟨List.mem_cons_self, fun x hx => by rw [List.mem_singleton.mp hx]; exact Int.le_refl _⟩
  | a :: b :: r, _ => by
    obtain ⟨h1, h2⟩ := mnL_spec (l := b :: r) (by simp)
    show min a (mnL (b :: r)) ∈ _ ∧ ∀ x ∈ _, min a (mnL (b :: r)) ≤ x
    constructor
    · by_cases c : a ≤ mnL (b :: r)
      · rw [Int.min_eq_left c]
        exact List.mem_cons_self
      · rw [Int.min_eq_right (by omega)]
        exact List.mem_cons_of_mem _ h1
    · intro x hx
      rcases List.mem_cons.mp hx with rfl | hx
      · omega
      · have := h2 x hx
        omega
theorem mnL_of {l : List Int} {m : Int} (hm : m ∈ l) (h : ∀ x ∈ l, m ≤ x) : mnL l = m := by
  obtain ⟨h1, h2⟩ := mnL_spec (l := l) (List.length_pos_of_mem hm)
  have := h2 m hm
  have := h _ h1
  omega
def mn (n : Nat) (f : Int → Int) (t : Int) : Int := mnL (cyc n f t)
section
variable {n : Nat} {f : Int → Int}
theorem Bij.mn_spec (b : Bij n f) {t : Int} (ht : t ∈ rg n) : mn n f t ∈ cyc n f t ∧ ∀ u ∈ cyc n f t, mn n f t ≤ u :=
  mnL_spec (by rw [cyc_len]; exact (b.per_spec ht).1)
theorem Bij.mn_same (b : Bij n f) {t u : Int} (ht : t ∈ rg n) (h : u ∈ cyc n f t) : mn n f u = mn n f t := by
  have hu := b.cyc_in ht h
  obtain ⟨h1, h2⟩ := b.mn_spec ht
  refine mnL_of (b.cyc_trans hu (b.cyc_symm ht h) h1) fun x hx => h2 x (b.cyc_trans ht h hx)
theorem Bij.mn_mn (b : Bij n f) {t : Int} (ht : t ∈ rg n) : mn n f (mn n f t) = mn n f t := b.mn_same ht (b.mn_spec ht).1
theorem Bij.mn_in (b : Bij n f) {t : Int} (ht : t ∈ rg n) : mn n f t ∈ rg n := b.cyc_in ht (b.mn_spec ht).1
theorem Bij.mn_le (b : Bij n f) {t : Int} (ht : t ∈ rg n) : mn n f t ≤ t := (b.mn_spec ht).2 t (b.cyc_self ht)
/-- whose least is t lies in t's round -/
theorem Bij.of_mn (b : Bij n f) {t x : Int} (ht : t ∈ rg n) (hx : x ∈ rg n) (e : mn n f x = t) : x ∈ cyc n f t := by
  have h := (b.mn_spec hx).1
  rw [e] at h
  exact b.cyc_symm hx h
/-- a round that is told -/
def told (n : Nat) (f : Int → Int) (t : Int) : Bool := decide (1 < per n f t) && decide (t = mn n f t)
def roundsL (n : Nat) (f : Int → Int) : List (List Int) := ((rg n).filter (told n f)).map (cyc n f)
def leftL (n : Nat) (f : Int → Int) (T : Int) : List Int := (rg n).filter fun x => decide (T ≤ mn n f x)
def doneL (n : Nat) (f : Int → Int) (T : Int) : List (List Int) := ((rg n).filter fun u => decide (u < T) && told n f u).map (cyc n f)
theorem Bij.left_all (b : Bij n f) : leftL n f 0 = rg n := by
  unfold leftL
  rw [List.filter_eq_self]
  intro x hx
  apply decide_eq_true
  exact (rg_mem.mp (b.mn_in hx)).1
theorem done_none : doneL n f 0 = [] := by
  unfold doneL
  rw [List.filter_eq_nil_iff.mpr]
  · rfl
  · intro x hx
    have := (rg_mem.mp hx).1
    simp
    omega
theorem Bij.done_all (b : Bij n f) {T : Int} (h : leftL n f T = []) : doneL n f T = roundsL n f := by
  unfold doneL roundsL
  congr 1
  apply List.filter_congr
  intro u hu
  have hm : ¬ T ≤ mn n f u := by
    have := List.filter_eq_nil_iff.mp h u hu
    simpa using this
  by_cases c : told n f u = true
  · have c2 := c
    unfold told at c2
    rw [Bool.and_eq_true] at c2
    have e := of_decide_eq_true c2.2
    rw [c, decide_eq_true (show u < T by omega)]
    rfl
  · have c3 : told n f u = false := by simpa using c
    rw [c3, Bool.and_false]
/-- t the least of what is left -/
theorem Bij.least (b : Bij n f) {T t : Int} (hm : t ∈ leftL n f T) (hle : ∀ x ∈ leftL n f T, t ≤ x) : t ∈ rg n ∧ T ≤ t ∧ mn n f t = t ∧ ∀ x ∈ rg n, T ≤ mn n f x → t ≤ mn n f x := by
  obtain ⟨h1, h2⟩ := List.mem_filter.mp hm
  have h2' : T ≤ mn n f t := of_decide_eq_true h2
  have key : ∀ x ∈ rg n, T ≤ mn n f x → t ≤ mn n f x := fun x hx hT => hle _ (List.mem_filter.mpr ⟨b.mn_in hx, decide_eq_true (by rw [b.mn_mn hx]; exact hT)⟩)
  have a1 := key t h1 h2'
  have a2 := b.mn_le h1
  exact ⟨h1, by omega, by omega, key⟩
theorem Bij.left_step (b : Bij n f) {T t : Int} (hm : t ∈ leftL n f T) (hle : ∀ x ∈ leftL n f T, t ≤ x) : (leftL n f T).filter (fun x => !decide (x ∈ cyc n f t)) = leftL n f (t + 1) := by
  obtain ⟨ht, hT, e, key⟩ := b.least hm hle
  unfold leftL
  rw [List.filter_filter]
  apply List.filter_congr
  intro x hx
  by_cases c : x ∈ cyc n f t
  · have := b.mn_same ht c
    rw [decide_eq_true c, decide_eq_false (show ¬ t + 1 ≤ mn n f x by omega)]
    rfl
  · have ne : mn n f x ≠ t := fun z => c (b.of_mn ht hx z)
    rw [decide_eq_false c]
    by_cases d : T ≤ mn n f x
    · have := key x hx d
      rw [decide_eq_true d, decide_eq_true (show t + 1 ≤ mn n f x by omega)]
      rfl
    · rw [decide_eq_false d, decide_eq_false (show ¬ t + 1 ≤ mn n f x by omega)]
      rfl
theorem rg_split {n : Nat} {t : Int} (ht : t ∈ rg n) : ∃ B : List Int, rg n = rg t.toNat ++ t :: B ∧ ∀ x ∈ B, t < x := by
  induction n with
  | zero => exact absurd ht List.not_mem_nil
  | succ n ih =>
    have hb := rg_mem.mp ht
    by_cases c : t = (n : Int)
    · subst c
      exact ⟨[], by rw [rg_succ, Int.toNat_natCast], fun x hx => absurd hx List.not_mem_nil⟩
    · obtain ⟨B, e, hB⟩ := ih (rg_mem.mpr ⟨hb.1, by omega⟩)
      refine ⟨B ++ [(n : Int)], by rw [rg_succ, e, List.append_assoc]; rfl, fun x hx => ?_⟩
      rcases List.mem_append.mp hx with hx | hx
      · exact hB x hx
      · rw [List.mem_singleton.mp hx]
        omega
theorem Bij.done_step (b : Bij n f) {T t : Int} (hm : t ∈ leftL n f T) (hle : ∀ x ∈ leftL n f T, t ≤ x) : doneL n f (t + 1) = doneL n f T ++ (if 1 < per n f t then [cyc n f t] else []) := by
  obtain ⟨ht, hT, e, key⟩ := b.least hm hle
  obtain ⟨B, eB, hB⟩ := rg_split ht
  unfold doneL
  rw [eB, List.filter_append, List.filter_append, List.filter_cons, List.filter_cons]
  have f1 : (rg t.toNat).filter (fun u => decide (u < t + 1) && told n f u) = (rg t.toNat).filter (fun u => decide (u < T) && told n f u) := by
    apply List.filter_congr
    intro u hu
    have hub := rg_mem.mp hu
    have htb := rg_mem.mp ht
    have hun : u ∈ rg n := rg_mem.mpr ⟨hub.1, by omega⟩
    rw [decide_eq_true (show u < t + 1 by omega)]
    by_cases c : told n f u = true
    · have c2 := c
      unfold told at c2
      rw [Bool.and_eq_true] at c2
      have e2 := of_decide_eq_true c2.2
      have : u < T := by
        by_cases d : T ≤ mn n f u
        · have := key u hun d
          omega
        · omega
      rw [decide_eq_true this]
    · have c3 : told n f u = false := by simpa using c
      rw [c3, Bool.and_false, Bool.and_false]
  have f2 : B.filter (fun u => decide (u < t + 1) && told n f u) = [] := by
    rw [List.filter_eq_nil_iff]
    intro x hx
    have := hB x hx
    rw [decide_eq_false (show ¬ x < t + 1 by omega)]
    simp
  have f3 : B.filter (fun u => decide (u < T) && told n f u) = [] := by
    rw [List.filter_eq_nil_iff]
    intro x hx
    have := hB x hx
    rw [decide_eq_false (show ¬ x < T by omega)]
    simp
  have et : told n f t = decide (1 < per n f t) := by
    unfold told
    rw [decide_eq_true e.symm, Bool.and_true]
  rw [f1, f2, f3, et, decide_eq_true (show t < t + 1 by omega), decide_eq_false (show ¬ t < T by omega)]
  by_cases c : 1 < per n f t
  · rw [decide_eq_true c, if_pos c]
    simp
  · rw [decide_eq_false c, if_neg c]
    simp
theorem per_id {t : Int} (hn : 1 ≤ n) : per n (fun x => x) t = 1 := by
  unfold per
  have : (List.range n).find? (fun j => decide (it (fun x => x) (j + 1) t = t)) = some 0 := by
    rw [List.find?_range_eq_some]
    exact ⟨decide_eq_true rfl, List.mem_range.mpr (by omega), fun j hj => absurd hj (Nat.not_lt_zero _)⟩
  rw [this]
  rfl
end
/-! ### the follower of a thing -/
def fol (xs ys : List Int) (t : Int) : Int := g0 xs (pos ys t)
theorem fol_bij {n : Nat} {xs ys : List Int} (ox : IsOrd n xs) (oy : IsOrd n ys) : Bij n (fol xs ys) := by
  refine ⟨fun t ht => g0_in ox (pos_in oy ht), fun t ht u hu e => ?_⟩
  have h1 := pos_g0 ox (pos_in oy ht)
  have h2 := pos_g0 ox (pos_in oy hu)
  unfold fol at e
  rw [e] at h1
  exact pos_inj oy ht hu (h1.symm.trans h2)
theorem fol_self {n : Nat} {xs : List Int} (ox : IsOrd n xs) : ∀ t ∈ rg n, fol xs xs t = t := fun t ht => g0_pos ox ht
end Fo
namespace Fo
open PySem PySem.Spec PyProof.Rows L2
/-! ### all orders of few things -/
def extO (n : Nat) (o : List Int) : List (List Int) := ((rg n).filter fun t => !decide (t ∈ o)).map fun t => o ++ [t]
def allK (n : Nat) : Nat → List (List Int)
  | 0 => [[]]
  | k + 1 => (allK n k).flatMap (extO n)
theorem allK_row {n : Nat} : ∀ (k : Nat) (r : List Int), r ∈ allK n k → r.length = k ∧ r.Nodup ∧ ∀ x ∈ r, x ∈ rg n
  | 0, r, h => by
    rw [List.mem_singleton.mp h]
    exact ⟨rfl, List.nodup_nil, fun x hx => absurd hx List.not_mem_nil⟩
  | k + 1, r, h => by
    obtain ⟨o, ho, hr⟩ := List.mem_flatMap.mp h
    obtain ⟨h1, h2, h3⟩ := allK_row k o ho
    obtain ⟨t, ht, rfl⟩ := List.mem_map.mp hr
    obtain ⟨ht1, ht2⟩ := List.mem_filter.mp ht
    have hto : t ∉ o := by simpa using ht2
    refine ⟨by rw [List.length_append, h1]; rfl, ?_, fun x hx => ?_⟩
    · rw [List.nodup_append]
      refine ⟨h2, List.nodup_cons.mpr ⟨List.not_mem_nil, List.nodup_nil⟩, fun x hx y hy e => ?_⟩
      rw [List.mem_singleton.mp hy] at e
      exact hto (by rw [← e]; exact hx)
    · rcases List.mem_append.mp hx with hx | hx
      · exact h3 x hx
      · rw [List.mem_singleton.mp hx]
        exact ht1
theorem extO_len (n : Nat) (o : List Int) : (extO n o).length ≤ n := by
  unfold extO
  rw [List.length_map]
  have := List.length_filter_le (fun t => !decide (t ∈ o)) (rg n)
  rw [rg_len] at this
  exact this
theorem flat_len (n : Nat) : ∀ l : List (List Int), (l.flatMap (extO n)).length ≤ l.length * n
  | [] => Nat.zero_le _
  | o :: l => by
    rw [List.flatMap_cons, List.length_append, List.length_cons, Nat.add_mul, Nat.one_mul]
    have := flat_len n l
    have := extO_len n o
    omega
theorem allK_len {n : Nat} (hn : n ≤ 6) : ∀ k, k ≤ n → (allK n k).length ≤ 6 ^ k
  | 0, _ => Nat.le_refl _
  | k + 1, hk => by
    have ih := allK_len hn k (by omega)
    have h1 : (allK n (k + 1)).length ≤ (allK n k).length * n := flat_len n (allK n k)
    have h2 : (allK n k).length * n ≤ 6 ^ k * 6 := Nat.mul_le_mul ih hn
    rw [Nat.pow_succ]
    omega
theorem pow6 {k : Nat} (h : k ≤ 6) : 6 ^ k ≤ 46656 := by
  have : 6 ^ k ≤ 6 ^ 6 := Nat.pow_le_pow_right (by decide) h
  exact this
theorem nodup_count : ∀ {l : List Int}, l.Nodup → ∀ a, l.count a = if a ∈ l then 1 else 0
  | [], _, a => by simp
  | b :: l, h, a => by
    obtain ⟨h1, h2⟩ := List.nodup_cons.mp h
    have ih := nodup_count h2 a
    rw [List.count_cons, ih]
    by_cases c : b = a
    · subst c
      simp [h1]
    · have c2 : ¬ a = b := fun e => c e.symm
      simp [c, c2]
theorem nodup_ord {n : Nat} {s : List Int} (hl : s.length = n) (hn : s.Nodup) (hb : ∀ x ∈ s, x ∈ rg n) : IsOrd n s := by
  unfold IsOrd
  rw [List.perm_iff_count]
  intro a
  rw [nodup_count hn, nodup_count (rg_nodup n)]
  by_cases c : a ∈ s
  · rw [if_pos c, if_pos (hb a c)]
  · rw [if_neg c]
    by_cases d : a ∈ rg n
    · exfalso
      have := nodup_len (l := a :: s) (m := rg n) (List.nodup_cons.mpr ⟨c, hn⟩) fun x hx => by
        rcases List.mem_cons.mp hx with rfl | hx
        · exact d
        · exact hb x hx
      rw [List.length_cons, rg_len] at this
      omega
    · rw [if_neg d]
theorem all_ord {n : Nat} {r : List Int} (h : r ∈ allK n n) : IsOrd n r := by
  obtain ⟨h1, h2, h3⟩ := allK_row n r h
  exact nodup_ord h1 h2 h3
theorem inV_int (t : Int) : ∀ row : List Int, inV (.int t) (row.map V.int) = decide (t ∈ row)
  | [] => rfl
  | a :: r => by
    have ih := inV_int t r
    unfold inV at ih ⊢
    rw [List.map_cons, List.any_cons, ih, eqV_int]
    by_cases c : a = t
    · subst c
      simp
    · have c2 : ¬ t = a := fun e => c e.symm
      simp [c, c2]
theorem ext_more {n : Nat} {o : List Int} (j : Nat) : ((rg (j + 1)).filter fun t => !decide (t ∈ o)).map (fun t => o ++ [t]) = (((rg j).filter fun t => !decide (t ∈ o)).map fun t => o ++ [t]) ++ (if (j : Int) ∈ o then [] else [o ++ [(j : Int)]]) := by
  rw [rg_succ, List.filter_append, List.map_append, List.filter_cons]
  congr 1
  by_cases c : (j : Int) ∈ o
  · rw [decide_eq_true c, if_pos c]
    rfl
  · rw [decide_eq_false c, if_neg c]
    rfl
/-! ### comprehensions with two fors: a list, then a range -/
theorem lc2_list {K : PySem.W.Frag} {a : Addr} {xs : List V} {g : TG} {tt : TT} {wi1 : TI} {g1 : TG} {tt1 : TT} {te : TE} {vs vs1 : List Nat} {σ : L2.St} {H1 : Hp} {D : Addr} {Qd : Hp → Prop} (Pv : Nat → Hp → Prop) (h0 : Pv 0 (upd H1 D (.lst []))) (hl : ∀ i H, i ≤ xs.length → Pv i H → SqL K H a xs)
    (hs : ∀ i x H, xs[i]? = some x → Pv i H → g x (wipe σ vs) H fun σ2 H2 => wipe σ2 vs = wipe σ vs ∧ tt σ2 H2 fun b H3 =>
      if b = true then wi1 σ2 H3 fun J1 H4 => ∃ W1 : Nat → Nat → Hp → Prop, (∃ m, W1 0 m H4) ∧ ∀ j k H, W1 j k H →
        (J1.stop j H ∧ Pv (i + 1) H) ∨ (J1.go j H ∧ ∃ Nx1 : Hp → Prop, (∀ H', Nx1 H' → ∃ k', k' < k ∧ W1 (j + 1) k' H') ∧ ∀ x H', J1.yld j H x H' → g1 x (wipe σ2 vs1) H' fun σ3 H5 => wipe σ3 vs1 = wipe σ2 vs1 ∧ tt1 σ3 H5 fun b H6 =>
          if b = true then te σ3 H6 fun y H7 => ∃ acc, H7 D = some (.lst acc) ∧ acc.length < sizeLine ∧ Nx1 (upd H7 D (.lst (acc ++ [y]))) else Nx1 H6)
      else Pv (i + 1) H3) (hd : ∀ H, Pv xs.length H → Qd H) :
    ∃ W : Nat → Nat → Hp → Prop, (∃ m, W 0 m (upd H1 D (.lst []))) ∧ ∀ i m H, W i m H →
      ((Itl K a).stop i H ∧ Qd H) ∨ ((Itl K a).go i H ∧ ∃ Nx : Hp → Prop, (∀ H', Nx H' → ∃ m', m' < m ∧ W (i + 1) m' H') ∧ ∀ x H', (Itl K a).yld i H x H' → g x (wipe σ vs) H' fun σ2 H2 => wipe σ2 vs = wipe σ vs ∧ tt σ2 H2 fun b H3 =>
        if b = true then wi1 σ2 H3 fun J1 H4 => ∃ W1 : Nat → Nat → Hp → Prop, (∃ m, W1 0 m H4) ∧ ∀ j k H, W1 j k H →
          (J1.stop j H ∧ Nx H) ∨ (J1.go j H ∧ ∃ Nx1 : Hp → Prop, (∀ H', Nx1 H' → ∃ k', k' < k ∧ W1 (j + 1) k' H') ∧ ∀ x H', J1.yld j H x H' → g1 x (wipe σ2 vs1) H' fun σ3 H5 => wipe σ3 vs1 = wipe σ2 vs1 ∧ tt1 σ3 H5 fun b H6 =>
            if b = true then te σ3 H6 fun y H7 => ∃ acc, H7 D = some (.lst acc) ∧ acc.length < sizeLine ∧ Nx1 (upd H7 D (.lst (acc ++ [y]))) else Nx1 H6)
        else Nx H3) := by
  refine ⟨fun i m H => m = xs.length - i ∧ i ≤ xs.length ∧ Pv i H, ⟨xs.length, by simp, Nat.zero_le _, h0⟩, ?_⟩
  rintro i m H ⟨rfl, hi, p⟩
  have q := hl i H hi p
  by_cases hlt : i < xs.length
  · refine .inr ⟨⟨xs, xs[i], q, by simp [hlt]⟩, Pv (i + 1), fun H' p' => ⟨xs.length - (i + 1), by omega, rfl, hlt, p'⟩, fun x H' y => ?_⟩
    obtain ⟨e, y⟩ := y
    subst e
    exact hs i x _ (y _ q) p
  · have e : i = xs.length := by omega
    subst e
    exact .inl ⟨⟨xs, q, Nat.le_refl _⟩, hd H p⟩
theorem in_range {lo : Int} {n : Nat} {g1 : TG} {tt1 : TT} {te : TE} {vs1 : List Nat} {σ2 : L2.St} {H4 : Hp} {D : Addr} {Nx : Hp → Prop} (Pw : Nat → Hp → Prop) (h0 : Pw 0 H4)
    (hs : ∀ j H, j < n → Pw j H → g1 (.int (lo + j)) (wipe σ2 vs1) H fun σ3 H5 => wipe σ3 vs1 = wipe σ2 vs1 ∧ tt1 σ3 H5 fun b H6 =>
      if b = true then te σ3 H6 fun y H7 => ∃ acc, H7 D = some (.lst acc) ∧ acc.length < sizeLine ∧ Pw (j + 1) (upd H7 D (.lst (acc ++ [y]))) else Pw (j + 1) H6) (hd : ∀ H, Pw n H → Nx H) :
    ∃ W1 : Nat → Nat → Hp → Prop, (∃ m, W1 0 m H4) ∧ ∀ j k H, W1 j k H →
      ((Itr lo n).stop j H ∧ Nx H) ∨ ((Itr lo n).go j H ∧ ∃ Nx1 : Hp → Prop, (∀ H', Nx1 H' → ∃ k', k' < k ∧ W1 (j + 1) k' H') ∧ ∀ x H', (Itr lo n).yld j H x H' → g1 x (wipe σ2 vs1) H' fun σ3 H5 => wipe σ3 vs1 = wipe σ2 vs1 ∧ tt1 σ3 H5 fun b H6 =>
        if b = true then te σ3 H6 fun y H7 => ∃ acc, H7 D = some (.lst acc) ∧ acc.length < sizeLine ∧ Nx1 (upd H7 D (.lst (acc ++ [y]))) else Nx1 H6) := by
  refine ⟨fun j m H => m = n - j ∧ j ≤ n ∧ Pw j H, ⟨n, by simp, Nat.zero_le _, h0⟩, ?_⟩
  rintro j m H ⟨rfl, hi, p⟩
  by_cases hlt : j < n
  · refine .inr ⟨hlt, Pw (j + 1), fun H' p' => ⟨n - (j + 1), by omega, rfl, hlt, p'⟩, fun x H' y => ?_⟩
    obtain ⟨e, y⟩ := y
    subst e y
    exact hs j _ hlt p
  · have e : j = n := by omega
    subst e
    exact .inl ⟨Nat.le_refl _, hd H p⟩
end Fo
namespace Fo
open PySem PySem.Spec PyProof.Rows L2
def spWhole : Sp := fun vs H Q _ => ∃ i : Int, vs = [.int i] ∧ Q (.bl true) H
section
variable {P : Program} {w : World} {K : PySem.W.Frag} {mg : Str → Option Value} {base : Heap}
theorem scWhole : FnScope ["thing"] ["thing"] (defScope s_is_whole) := ⟨rfl, rfl, rfl, by decide +kernel, rfl, by decide +kernel, by decide +kernel⟩
theorem ok_whole {f : Addr} {fd : FuncData} {k : Nat} (T : Df K mg "is_whole" s_is_whole ["thing"] f fd) (B : Bi mg) : FnOk P w K mg base CX0 (k + 1) f fd ["thing"] spWhole := by
  refine T.F.ok scWhole (fun vs H Q E h => ?_) (fun cdv A outer s H vs Q E hr h => ?_)
  · obtain ⟨i, rfl, _⟩ := h
    rfl
  · obtain ⟨i, rfl, q⟩ := h
    refine ⟨_, pss_one (ps_ret (pe_and (pe_callB call_isi (by rfl) B.isinstance (by decide +kernel) (pa_cons (pv 0) (pa_cons (pe_bltn (v := .ty "int") (by rfl) B.int (by decide +kernel) rfl) pa_nil)))
      (pe_one (pe_not (pe_callB call_isi (by rfl) B.isinstance (by decide +kernel) (pa_cons (pv 0) (pa_cons (pe_bltn (v := .ty "bool") (by rfl) B.bool (by decide +kernel) rfl) pa_nil))))))), ?_⟩
    refine ⟨_, rfl, _, _, _, _, true, rfl, .ty _, .base (.int _), kit_ty (by decide +kernel), true, rfl, iteT ?_⟩
    exact ⟨_, rfl, _, _, _, _, false, rfl, .ty _, .base (.int _), kit_ty (by decide +kernel), false, rfl, q⟩
end
end Fo
namespace Fo
open PySem PySem.Spec PyProof.Rows L2
/-! ### whole numbers, orders -/
def spIsOrd : Sp := fun vs H Q _ => ∃ (a : Addr) (n : Nat) (ns : List Int), vs = [.ref a] ∧ H a = some (.lst (ns.map V.int)) ∧ IsOrd n ns ∧ 1 ≤ n ∧ n ≤ 12 ∧ ∀ H', Same H H' → Q (.bl true) H'
def spCheck : Sp := fun vs H Q _ => ∃ (a : Addr) (n : Nat) (ns : List Int), vs = [.ref a] ∧ H a = some (.lst (ns.map V.int)) ∧ IsOrd n ns ∧ 1 ≤ n ∧ n ≤ 12 ∧ ∀ H', Same H H' → Q .non H'
section
variable {P : Program} {w : World} {K : PySem.W.Frag} {mg : Str → Option Value} {base : Heap}
theorem scIsOrd : FnScope ["thing", "number"] ["thing"] (defScope s_is_order) := ⟨rfl, rfl, rfl, by decide +kernel, rfl, by decide +kernel, by decide +kernel⟩
theorem all_true (n : Nat) : (List.replicate n true).all id = true := by simp
set_option maxHeartbeats 2000000 in
theorem ok_is_order {f fW : Addr} {fd fdW : FuncData} {k : Nat} {t : Tok} (T : Df K mg "is_order" s_is_order ["thing"] f fd) (TW : Df K mg "is_whole" s_is_whole ["thing"] fW fdW) (B : Bi mg) (mM : mg "MOST_THINGS" = some (.int 12 t)) : FnOk P w K mg base CX0 (k + 2) f fd ["thing"] spIsOrd := by
  have GW : FnOk P w K mg base CX0 (k + 1) fW fdW ["thing"] spWhole := ok_whole TW B
  refine T.F.ok scIsOrd (fun vs H Q E h => ?_) (fun cdv A outer s H vs Q E hr h => ?_)
  · obtain ⟨a, n, ns, rfl, _⟩ := h
    rfl
  · obtain ⟨a, n, ns, rfl, hl, ho, hn1, hn2, q⟩ := h
    have hlm : (ns.map V.int).length = n := by rw [List.length_map, ho.len]
    refine ⟨_, pss_cons (ps_if (PW.pt (pw_or (pt_not (pt_val (pe_callB call_isi (by rfl) B.isinstance (by decide +kernel) (pa_cons (pv 0) (pa_cons (pe_bltn (v := .ty "list") (by rfl) B.list (by decide +kernel) rfl) pa_nil)))))
        (pw_or (pt_cmpR op_lt (pe_callB call_len_seq (by rfl) B.len PySem.boot_len (pa_cons (pv 0) pa_nil)) pe_int (nomark _)) (pw_or1 (pt_cmpR op_gt (pe_callB call_len_seq (by rfl) B.len PySem.boot_len (pa_cons (pv 0) pa_nil)) (pe_glob (v := .int 12) (by rfl) mM ⟨_, rfl⟩) (nomark _))))))
        (pss_one (ps_ret pe_bl)) pss_nil)
      (pss_cons (ps_if (pt_not (pt_val (pe_callB (cr_all rfl) (by rfl) B.all (by decide +kernel) (pa_cons (pe_lc (own := [("number", 1)]) (g := gName 1) (tt := tYes) (te := tCall spWhole [] E0 (tCons (tVar 1) tNil)) rfl scIsOrd.nd (pi_list (pv 0)) (blkOk_by (N := ["thing", "number"]) (sc := defScope s_is_order) (by decide +kernel)) (fun _ _ _ _ _ => pg_name (i := 1) scIsOrd.nd rfl (.inl rfl)) (fun _ _ _ _ _ => pts_nil)
          (fun _ _ _ _ _ => pe_call GW hr (by rfl) TW.g TW.F.kp TW.b .nil pass0 (pa_cons (pv 1) pa_nil))) pa_nil)))) (pss_one (ps_ret pe_bl)) pss_nil)
      (pss_one (ps_ret (pe_cmpR (op_eqD hr.units) (pe_callB cr_sorted (by rfl) B.sorted (by decide +kernel) (pa_cons (pv 0) pa_nil)) (pe_listRg rfl (by rfl) B.list (prg_1 (by rfl) B.range (pe_callB call_len_seq (by rfl) B.len PySem.boot_len (pa_cons (pv 0) pa_nil)))) (nomark _))))), ?_⟩
    refine ⟨_, rfl, _, _, _, _, true, rfl, .ty _, .base (.lst hl), kit_ty (by decide +kernel), true, rfl, iteF ?_⟩
    refine ⟨_, rfl, a, _, rfl, .inl (SqL.of hl), _, 1, rfl, rfl, _, rfl, ite2 (fun c => absurd (of_decide_eq_true c) (by rw [hlm]; omega)) (fun _ => ?_)⟩
    refine ⟨_, rfl, a, _, rfl, .inl (SqL.of hl), _, 12, rfl, rfl, _, rfl, ite2 (fun c => absurd (of_decide_eq_true c) (by rw [hlm]; omega)) (fun _ => ?_)⟩
    refine ⟨_, rfl, a, rfl, ⟨_, SqL.of hl⟩, fun p np => ?_⟩
    refine lc_list (K := K) (a := a) (xs := ns.map V.int) (fun i H3 => H3 p = some (.lst ((List.replicate i true).map V.bl)) ∧ Same H H3) ⟨upd_same, same_new np⟩ (fun i H3 _ hP => SqL.of (hP.2 _ _ hl)) (fun i x H3 hx hP => ?_) (fun H3 hP => ?_)
    · obtain ⟨y, ey, rfl⟩ := int_at_inv hx
      obtain ⟨hp3, sm⟩ := hP
      refine ⟨rfl, _, rfl, y, rfl, _, hp3, line_lt (by
        rw [List.length_map, List.length_replicate]
        have := (List.getElem?_eq_some_iff.mp hx).1
        omega), ?_, fun b o e => ?_⟩
      · rw [upd_same, List.replicate_succ', List.map_append]
        rfl
      · rw [upd_ne (ne_of_none e np)]
        exact sm _ _ e
    · obtain ⟨hp3, sm⟩ := hP
      have hl3 := sm _ _ hl
      refine ⟨p, _, rfl, SqL.of hp3, _, rfl, ?_⟩
      rw [all_true]
      refine iteF ?_
      refine ⟨_, rfl, a, ns, rfl, SqL.of hl3, by rw [ho.len]; omega, fun ns' s1 hperm hsrt ns1 => ?_⟩
      have hl4 := same_new (o := .lst (ns'.map V.int)) ns1 _ _ hl3
      refine ⟨_, rfl, a, _, rfl, .inl (SqL.of hl4), _, rfl, RgOk.of_le (by omega) (by rw [hlm]; omega) (by omega) (by omega), fun s2 ns2 => ?_⟩
      have e1 : ns' = rg n := sorted_eq (hperm.trans ho) hsrt (rg_sorted n)
      subst e1
      rw [hlm]
      have h1 : (upd (upd H3 s1 (.lst ((rg n).map V.int))) s2 (.lst (rgV 0 (n : Int)))) s1 = some (.lst ((rg n).map V.int)) := same_new ns2 _ _ upd_same
      have h2 : (upd (upd H3 s1 (.lst ((rg n).map V.int))) s2 (.lst (rgV 0 (n : Int)))) s2 = some (.lst ((rg n).map V.int)) := by rw [upd_same, rg_V]
      refine ⟨_, _, dp_list h1, dp_list h2, shaped_list _, shaped_list _, ?_⟩
      rw [eqv_list]
      exact q _ ((sm.trans (same_new ns1)).trans (same_new ns2))
theorem scCheck : FnScope ["thing"] ["thing"] (defScope s_check_order) := ⟨rfl, rfl, rfl, by decide +kernel, rfl, by decide +kernel, by decide +kernel⟩
theorem ok_check {f fO fW : Addr} {fd fdO fdW : FuncData} {k : Nat} {t : Tok} (T : Df K mg "check_order" s_check_order ["thing"] f fd) (TO : Df K mg "is_order" s_is_order ["thing"] fO fdO) (TW : Df K mg "is_whole" s_is_whole ["thing"] fW fdW) (B : Bi mg) (mM : mg "MOST_THINGS" = some (.int 12 t)) : FnOk P w K mg base CX0 (k + 3) f fd ["thing"] spCheck := by
  have GO : FnOk P w K mg base CX0 (k + 2) fO fdO ["thing"] spIsOrd := ok_is_order TO TW B mM
  refine T.F.ok scCheck (fun vs H Q E h => ?_) (fun cdv A outer s H vs Q E hr h => ?_)
  · obtain ⟨a, n, ns, rfl, _⟩ := h
    rfl
  · obtain ⟨a, n, ns, rfl, hl, ho, hn1, hn2, q⟩ := h
    refine ⟨_, pss_one (ps_if (pt_not (pt_val (pe_call GO hr (by rfl) TO.g TO.F.kp TO.b .nil pass0 (pa_cons (pv 0) pa_nil)))) (pss_one ps_never) pss_nil), ?_⟩
    exact ⟨_, rfl, a, n, ns, rfl, hl, ho, hn1, hn2, fun H' sm => ⟨_, rfl, iteF (q H' sm)⟩⟩
end
end Fo
namespace Fo
open PySem PySem.Spec PyProof.Rows L2
def IsWay (w : Str) : Prop := w = "swap" ∨ w = "spot" ∨ w = "shift"
theorem n1 : ¬ (("spot" : Str) = "swap") := by decide +kernel
theorem n2 : ¬ (("shift" : Str) = "swap") := by decide +kernel
theorem n3 : ¬ (("shift" : Str) = "spot") := by decide +kernel
/-- the ways as the top has written them -/
structure Wy (K : PySem.W.Frag) (mg : Str → Option Value) (aW : Addr) : Prop where
  g : mg "WAYS" = some (.ref aW)
  t : ∀ H : Hp, SqT K H aW [.str "swap", .str "spot", .str "shift"]
theorem wy_mk {K : PySem.W.Frag} {mg : Str → Option Value} {aW : Addr} {dd : Option Addr} {n : Nat} {t1 t2 t3 : Tok} {sl : Array (Option Value)} (g : mg "WAYS" = some (.ref aW)) (l : K.lookup aW = some ⟨.type "tuple", dd, .seq #[.str "swap" t1, .str "spot" t2, .str "shift" t3] n, sl⟩) : Wy K mg aW :=
  ⟨g, fun H => .inr ⟨_, _, _, l, rfl, rfl, line_small (by show 3 ≤ 16777216; decide), .cons ⟨_, rfl⟩ (.cons ⟨_, rfl⟩ (.cons ⟨_, rfl⟩ .nil))⟩⟩
def spWay : Sp := fun vs H Q _ => ∃ (w : Str), vs = [.str w] ∧ IsWay w ∧ Q .non H
section
variable {P : Program} {w : World} {K : PySem.W.Frag} {mg : Str → Option Value} {base : Heap}
theorem scWay : FnScope ["thing"] ["thing"] (defScope s_check_way) := ⟨rfl, rfl, rfl, by decide +kernel, rfl, by decide +kernel, by decide +kernel⟩
theorem ok_way {f aW : Addr} {fd : FuncData} {k : Nat} (T : Df K mg "check_way" s_check_way ["thing"] f fd) (W : Wy K mg aW) (B : Bi mg) : FnOk P w K mg base CX0 (k + 1) f fd ["thing"] spWay := by
  refine T.F.ok scWay (fun vs H Q E h => ?_) (fun cdv A outer s H vs Q E hr h => ?_)
  · obtain ⟨z, rfl, _⟩ := h
    rfl
  · obtain ⟨z, rfl, hz, q⟩ := h
    refine ⟨_, 
      (pss_one (ps_if (PW.pt (pw_or (pt_not (pt_val (pe_callB call_isi (by rfl) B.isinstance (by decide +kernel) (pa_cons (pv 0) (pa_cons (pe_bltn (v := .ty "str") (by rfl) B.str (by decide +kernel) rfl) pa_nil))))) (pw_or1 (pt_cmpR op_notIn_seq (pv 0) (pe_glob (v := .ref aW) (by rfl) W.g rfl) (by rfl)))))
        (pss_one ps_never)
        pss_nil)), ?_⟩
    refine ⟨_, rfl, _, _, _, _, true, rfl, .ty _, .base (.str _), kit_ty (by decide +kernel), true, rfl, iteF ?_⟩
    rcases hz with rfl | rfl | rfl
    · exact ⟨_, rfl, aW, _, rfl, .inr (W.t H), rfl, rfl, _, rfl, ite2 (fun c => absurd c (by decide +kernel)) (fun _ => q)⟩
    · exact ⟨_, rfl, aW, _, rfl, .inr (W.t H), rfl, rfl, _, rfl, ite2 (fun c => absurd c (by decide +kernel)) (fun _ => q)⟩
    · exact ⟨_, rfl, aW, _, rfl, .inr (W.t H), rfl, rfl, _, rfl, ite2 (fun c => absurd c (by decide +kernel)) (fun _ => q)⟩
end
end Fo
namespace Fo
open PySem PySem.Spec PyProof.Rows L2
def spFrom : Sp := fun vs H Q _ => ∃ (r least : Int), vs = [.int r, .int least] ∧ least ≤ r ∧ Q .non H
section
variable {P : Program} {w : World} {K : PySem.W.Frag} {mg : Str → Option Value} {base : Heap}
theorem scFrom : FnScope ["thing", "least"] ["thing", "least"] (defScope s_check_from) := ⟨rfl, rfl, rfl, by decide +kernel, rfl, by decide +kernel, by decide +kernel⟩
theorem ok_from {f fW : Addr} {fd fdW : FuncData} {k : Nat} (T : Df K mg "check_from" s_check_from ["thing", "least"] f fd) (T_is_whole : Df K mg "is_whole" s_is_whole ["thing"] fW fdW) (B : Bi mg) : FnOk P w K mg base CX0 (k + 2) f fd ["thing", "least"] spFrom := by
  have G_is_whole : FnOk P w K mg base CX0 (k + 1) fW fdW ["thing"] spWhole := ok_whole T_is_whole B
  refine T.F.ok scFrom (fun vs H Q E h => ?_) (fun cdv A outer s H vs Q E hr h => ?_)
  · obtain ⟨r, least, rfl, _⟩ := h
    rfl
  · obtain ⟨r, least, rfl, hle, q⟩ := h
    refine ⟨_, 
      (pss_one (ps_if (PW.pt (pw_or (pt_not (pt_val (pe_call G_is_whole hr (by rfl) T_is_whole.g T_is_whole.F.kp T_is_whole.b .nil pass0 (pa_cons (pv 0) pa_nil)))) (pw_or1 (pt_cmpR op_lt (pv 0) (pv 1) (nomark _)))))
        (pss_one ps_never)
        pss_nil)), ?_⟩
    refine ⟨_, rfl, r, rfl, _, rfl, iteF ?_⟩
    exact ⟨_, rfl, _, rfl, r, least, rfl, rfl, _, rfl, ite2 (fun z => absurd (of_decide_eq_true z) (by omega)) (fun _ => q)⟩
end
end Fo
namespace Fo
open PySem PySem.Spec PyProof.Rows L2
def spSize : Sp := fun vs H Q _ => ∃ (n most : Int), vs = [.int n, .int most] ∧ 1 ≤ n ∧ n ≤ most ∧ Q .non H
section
variable {P : Program} {w : World} {K : PySem.W.Frag} {mg : Str → Option Value} {base : Heap}
theorem scSize : FnScope ["thing", "most"] ["thing", "most"] (defScope s_check_size) := ⟨rfl, rfl, rfl, by decide +kernel, rfl, by decide +kernel, by decide +kernel⟩
theorem ok_size {f fW : Addr} {fd fdW : FuncData} {k : Nat} (T : Df K mg "check_size" s_check_size ["thing", "most"] f fd) (T_is_whole : Df K mg "is_whole" s_is_whole ["thing"] fW fdW) (B : Bi mg) : FnOk P w K mg base CX0 (k + 2) f fd ["thing", "most"] spSize := by
  have G_is_whole : FnOk P w K mg base CX0 (k + 1) fW fdW ["thing"] spWhole := ok_whole T_is_whole B
  refine T.F.ok scSize (fun vs H Q E h => ?_) (fun cdv A outer s H vs Q E hr h => ?_)
  · obtain ⟨n, most, rfl, _⟩ := h
    rfl
  · obtain ⟨n, most, rfl, h1, h2, q⟩ := h
    refine ⟨_, 
      (pss_one (ps_if (PW.pt (pw_or (pt_not (pt_val (pe_call G_is_whole hr (by rfl) T_is_whole.g T_is_whole.F.kp T_is_whole.b .nil pass0 (pa_cons (pv 0) pa_nil)))) (pw_or (pt_cmpR op_lt (pv 0) pe_int (nomark _)) (pw_or1 (pt_cmpR op_gt (pv 0) (pv 1) (nomark _))))))
        (pss_one ps_never)
        pss_nil)), ?_⟩
    refine ⟨_, rfl, n, rfl, _, rfl, iteF ?_⟩
    refine ⟨_, rfl, n, 1, rfl, rfl, _, rfl, ite2 (fun z => absurd (of_decide_eq_true z) (by omega)) (fun _ => ?_)⟩
    exact ⟨_, rfl, _, rfl, n, most, rfl, rfl, _, rfl, ite2 (fun z => absurd (of_decide_eq_true z) (by omega)) (fun _ => q)⟩
end
end Fo
namespace Fo
open PySem PySem.Spec PyProof.Rows L2
theorem units65 {k : Nat} {A : Around} (r : Room k A) : A.units + 65 < cLine := by have := r.un; omega
theorem any_row (rs : List (List Int)) (o : List Int) : ((rs.map dL).any fun z => PyData.eqv z (dL o)) = decide (o ∈ rs) := by
  induction rs with
  | nil => rfl
  | cons a rs ih =>
    rw [List.map_cons, List.any_cons, ih, eqv_ints]
    by_cases c : a = o
    · subst c; simp
    · have c2 : ¬ o = a := fun e => c e.symm
      simp [c, c2]
end Fo
namespace Fo
open PySem PySem.Spec PyProof.Rows L2
def farW (w : Str) (xs ys : List Int) : Int := if w = "swap" then farSwap xs ys else if w = "spot" then farSpot xs ys else farShift xs ys
theorem farW_swap (xs ys : List Int) : farW "swap" xs ys = farSwap xs ys := if_pos rfl
theorem farW_spot (xs ys : List Int) : farW "spot" xs ys = farSpot xs ys := by
  unfold farW
  rw [if_neg n1, if_pos rfl]
theorem farW_shift (xs ys : List Int) : farW "shift" xs ys = farShift xs ys := by
  unfold farW
  rw [if_neg n2, if_neg n3]
theorem farW_turn {w : Str} {n : Nat} {xs ys : List Int} (ox : IsOrd n xs) (oy : IsOrd n ys) (hn : 1 ≤ n) : farW w ys xs = farW w xs ys := by
  unfold farW
  rw [farSwap_turn ox oy, farSpot_turn (by rw [ox.len, oy.len]), farShift_turn ox oy hn]
theorem farW_self {w : Str} {n : Nat} {xs : List Int} (ox : IsOrd n xs) (hn : 1 ≤ n) : farW w xs xs = 0 := by
  unfold farW
  rw [farSwap_self ox, farSpot_self, farShift_self ox hn]
  split
  · rfl
  · split <;> rfl
abbrev rAbs : List V → Hp → VK → Prop := fun xs H Q => ∃ i, xs = [.int i] ∧ Q (.int (if i < 0 then -i else i)) H
def spFar : Sp := fun vs H Q _ => ∃ (w : Str) (a b : Addr) (n : Nat) (xs ys : List Int), vs = [.str w, .ref a, .ref b] ∧ IsWay w ∧ H a = some (.lst (xs.map V.int)) ∧ H b = some (.lst (ys.map V.int)) ∧ IsOrd n xs ∧ IsOrd n ys ∧ 1 ≤ n ∧ n ≤ 12 ∧ ∀ (H' : Hp), Same H H' → Q (.int (farW w xs ys)) H'
end Fo
namespace Fo
open PySem PySem.Spec PyProof.Rows L2
def two (vs : List V) (H : Hp) (a b : Addr) (n : Nat) (xs ys : List Int) : Prop := vs = [.ref a, .ref b] ∧ H a = some (.lst (xs.map V.int)) ∧ H b = some (.lst (ys.map V.int)) ∧ IsOrd n xs ∧ IsOrd n ys ∧ 1 ≤ n ∧ n ≤ 12
end Fo
namespace Fo
open PySem PySem.Spec PyProof.Rows L2
/-- where a thing stands in an order -/
theorem idx_read {K : PySem.W.Frag} {H : Hp} {a : Addr} {n : Nat} {ys : List Int} {x : Int} {Q : VK} (o : IsOrd n ys) (h : H a = some (.lst (ys.map V.int))) (x0 : 0 ≤ x) (x1 : x < n) (q : Q (.int (pos ys x)) H) : rIndex K (.ref a) [.int x] H Q := by
  obtain ⟨j, hj, ej, pj⟩ := pos_at o x0 x1
  refine ⟨a, _, _, j, _, rfl, rfl, SqL.of h, rfl, flat_ints ys, int_at ej, ?_, fun u z' hu hz' => ?_, ?_⟩
  · show (x == x) = true
    exact beq_self_eq_true _
  · obtain ⟨y, ey, rfl⟩ := int_at_inv hz'
    show (y == x) = false
    rw [beq_eq_false_iff_ne]
    intro e
    subst e
    exact absurd (nd_ix o.nodup ey ej) (by omega)
  · rw [← pj]
    exact q
theorem idx_facts {n : Nat} {ys : List Int} {x : Int} (o : IsOrd n ys) (x0 : 0 ≤ x) (x1 : x < n) : ∃ j : Nat, (ys.map V.int)[j]? = some (V.int x) ∧ eqV (V.int x) (V.int x) = true ∧ (∀ (m : Nat) (z' : V), m < j → (ys.map V.int)[m]? = some z' → eqV z' (V.int x) = false) ∧ ((j : Nat) : Int) = pos ys x := by
  obtain ⟨j, hj, ej, pj⟩ := pos_at o x0 x1
  refine ⟨j, int_at ej, ?_, fun u z' hu hz' => ?_, pj.symm⟩
  · show (x == x) = true
    exact beq_self_eq_true _
  · obtain ⟨y, ey, rfl⟩ := int_at_inv hz'
    show (y == x) = false
    rw [beq_eq_false_iff_ne]
    intro e
    subst e
    exact absurd (nd_ix o.nodup ey ej) (by omega)
end Fo
namespace Fo
open PySem PySem.Spec PyProof.Rows L2
def spPlaces : Sp := fun vs H Q _ => ∃ (a : Addr) (n : Nat) (ns : List Int), vs = [.ref a] ∧ H a = some (.lst (ns.map V.int)) ∧ IsOrd n ns ∧ 1 ≤ n ∧ n ≤ 12 ∧
  ∀ (ps : List Int) (l : Addr) (H' : Hp), IsBack ns ps → H l = none → H' l = some (.lst (ps.map V.int)) → Same H H' → Q (.ref l) H'
section
variable {P : Program} {w : World} {K : PySem.W.Frag} {mg : Str → Option Value} {base : Heap}
theorem scPlaces : FnScope ["order", "places", "place", "thing"] ["order"] (defScope s_places_in) := ⟨rfl, rfl, rfl, by decide +kernel, rfl, by decide +kernel, by decide +kernel⟩
set_option maxHeartbeats 2000000 in
theorem ok_places {f : Addr} {fd : FuncData} {k : Nat} (T : Df K mg "places_in" s_places_in ["order"] f fd) (B : Bi mg) : FnOk P w K mg base CX0 (k + 1) f fd ["order"] spPlaces := by
  refine T.F.ok scPlaces (fun vs H Q E h => ?_) (fun cdv A outer s H vs Q E hr h => ?_)
  · obtain ⟨a, n, ns, rfl, _⟩ := h
    rfl
  · obtain ⟨a, n, ns, rfl, ha, ho, hn1, hn2, q⟩ := h
    have hlm : (ns.map V.int).length = n := by rw [List.length_map, ho.len]
    have hz : ∀ m : Nat, (List.replicate m [V.int 0]).flatten = (List.replicate m (0 : Int)).map V.int := by
      intro m
      induction m with
      | zero => rfl
      | succ m ih => rw [List.replicate_succ, List.replicate_succ, List.flatten_cons, ih]; rfl
    refine ⟨_, 
      (pss_cons (ps_set (i := 1) scPlaces.nd rfl (.inl rfl) (pe_op op_rep (pe_lst (pa_cons pe_int pa_nil)) (pe_callB call_len_seq (by rfl) B.len PySem.boot_len (pa_cons (pv 0) pa_nil))))
      (pss_cons (ps_for PassesOwn.never rfl (pi_enum (by rfl) B.enumerate (pa_cons (pv 0) pa_nil)) (pg_tup (by rfl) (pgs_cons (pg_name (i := 2) scPlaces.nd rfl (.inl rfl)) (pgs_cons (pg_name (i := 3) scPlaces.nd rfl (.inl rfl)) pgs_nil)))
        (pss_one (ps_asg (pv 2) (pg_sub (pv 1) (pv 3) set_list))))
      (pss_one (ps_ret (pv 1))))), ?_⟩
    refine ⟨line_small (by show 1 ≤ 16777216; decide), fun z nz => ?_⟩
    have s1 := same_new (o := .lst [.int 0]) nz
    refine ⟨_, rfl, a, _, rfl, .inl (SqL.of (s1 _ _ ha)), z, _, _, rfl, rfl, upd_same, by omega, by rw [hlm]; omega, line_small (by rw [hlm, Int.toNat_natCast]; show 1 * n ≤ _; omega), fun l nl => ?_⟩
    have s2 := s1.trans (same_new (o := .lst (List.replicate (((ns.map V.int).length : Nat) : Int).toNat [V.int 0]).flatten) nl)
    have nHl : H l = none := s1.free nl
    refine ⟨_, rfl, a, _, rfl, SqL.of (s2 _ _ ha), ?_⟩
    refine for_enumL (xs := ns.map V.int) (fun i σ H3 => ∃ (y2 y3 : Option V) (ps : List Int), σ = [some (.ref a), some (.ref l), y2, y3] ∧ H3 l = some (.lst (ps.map V.int)) ∧ ps.length = n ∧ (∀ (j : Nat) (x : Int), j < i → ns[j]? = some x → ps[x.toNat]? = some (j : Int)) ∧ Same H H3)
      ⟨none, none, List.replicate n 0, rfl, by rw [upd_same, hz, hlm, Int.toNat_natCast], by rw [List.length_replicate], fun j x hj => absurd hj (Nat.not_lt_zero _), s2⟩ (fun i σ H3 hP => by obtain ⟨_, _, _, _, _, _, _, sm⟩ := hP; exact SqL.of (sm _ _ ha)) (fun i x t σ H3 hx hP nt => ?_) (fun σ H3 hP => ?_)
    · obtain ⟨y2, y3, ps, rfl, hl3, el, hat, sm⟩ := hP
      obtain ⟨y, ey, rfl⟩ := int_at_inv hx
      have hy := ho.mem (List.mem_of_getElem? ey)
      have s3 := same_new (o := .tup [.int (i : Nat), .int y]) nt
      have hl4 := s3 _ _ hl3
      refine ⟨t, _, rfl, .inl (.inl upd_same), rfl, _, _, rfl, _, _, rfl, rfl, ?_⟩
      refine ⟨_, rfl, _, rfl, _, rfl, l, _, _, y.toNat, rfl, rfl, hl4, ix_n (by omega) (by rw [List.length_map]; omega), ?_⟩
      refine ⟨_, _, ps.set y.toNat (i : Int), rfl, by rw [upd_same, List.map_set], by rw [List.length_set]; exact el, fun j x hj hx2 => ?_, fun c o e => ?_⟩
      · by_cases c : j = i
        · subst c
          have e1 : x = y := Option.some.inj (hx2.symm.trans ey)
          subst e1
          rw [List.getElem?_set_self (by omega)]
        · have hx3 := ho.mem (List.mem_of_getElem? hx2)
          have ne : y.toNat ≠ x.toNat := fun e => c (nd_ix ho.nodup hx2 (by rw [ey]; congr 1; omega))
          rw [List.getElem?_set_ne ne]
          exact hat j x (by omega) hx2
      · rw [upd_ne (ne_of_none e nHl)]
        exact s3 _ _ (sm _ _ e)
    · obtain ⟨y2, y3, ps, rfl, hl3, el, hat, sm⟩ := hP
      rw [hlm] at hat
      refine ⟨_, rfl, q ps l H3 ⟨by rw [el, ho.len], fun j x hx => hat j x ?_ hx⟩ nHl hl3 sm⟩
      have := (List.getElem?_eq_some_iff.mp hx).1
      rw [ho.len] at this
      exact this
end
end Fo
namespace Fo
open PySem PySem.Spec PyProof.Rows L2
theorem g0_getD {s : List Int} {i : Nat} {x : Int} (h : s[i]? = some x) : g0 s i = x := g0_at h
def spSeats : Sp := fun vs H Q _ => ∃ (a b : Addr) (n : Nat) (xs ys : List Int), two vs H a b n xs ys ∧ ∀ (l : Addr) (H' : Hp), H l = none → H' l = some (.lst ((seatsL xs ys).map V.int)) → Same H H' → Q (.ref l) H'
section
variable {P : Program} {w : World} {K : PySem.W.Frag} {mg : Str → Option Value} {base : Heap}
theorem scSeats : FnScope ["one", "other", "places", "thing"] ["one", "other"] (defScope s_seats_in) := ⟨rfl, rfl, rfl, by decide +kernel, rfl, by decide +kernel, by decide +kernel⟩
set_option maxHeartbeats 2000000 in
theorem ok_seats {f fP : Addr} {fd fdP : FuncData} {k : Nat} (T : Df K mg "seats_in" s_seats_in ["one", "other"] f fd) (T_places_in : Df K mg "places_in" s_places_in ["order"] fP fdP) (B : Bi mg) : FnOk P w K mg base CX0 (k + 2) f fd ["one", "other"] spSeats := by
  have G_places_in : FnOk P w K mg base CX0 (k + 1) fP fdP ["order"] spPlaces := ok_places T_places_in B
  refine T.F.ok scSeats (fun vs H Q E h => ?_) (fun cdv A outer s H vs Q E hr h => ?_)
  · obtain ⟨a, b, n, xs, ys, ⟨rfl, _⟩, _⟩ := h
    rfl
  · obtain ⟨a, b, n, xs, ys, ⟨rfl, ha, hb, ox, oy, hn1, hn2⟩, q⟩ := h
    refine ⟨_, 
      (pss_cons (ps_set (i := 2) scSeats.nd rfl (.inr rfl) (pe_call G_places_in hr (by rfl) T_places_in.g T_places_in.F.kp T_places_in.b .nil pass0 (pa_cons (pv 1) pa_nil)))
      (pss_one (ps_ret (pe_lc (own := [("thing", 3)]) (g := (gName 3)) (tt := tYes) (te := (tOp (rIxL K) (tVar 2) (tVar 3))) rfl scSeats.nd (pi_list (pv 0)) (blkOk_by (N := ["one", "other", "places", "thing"]) (sc := defScope s_seats_in) (by decide +kernel)) (fun _ _ _ _ _ => (pg_name (i := 3) scSeats.nd rfl (.inl rfl))) (fun _ _ _ _ _ => pts_nil) (fun _ _ _ _ _ => (pe_ix ix_list (pv 2) (pv 3) (fun _ _ => rfl))))))), ?_⟩
    refine ⟨_, rfl, b, n, ys, rfl, hb, oy, hn1, hn2, fun ps l H1 hps nl hl s1 => ?_⟩
    refine ⟨_, rfl, a, rfl, ⟨_, SqL.of (s1 _ _ ha)⟩, fun D nD => ?_⟩
    have nHD : H D = none := s1.free nD
    refine lc_list (K := K) (a := a) (xs := xs.map V.int) (fun i H3 => H3 D = some (.lst (((seatsL xs ys).take i).map V.int)) ∧ H3 l = some (.lst (ps.map V.int)) ∧ Same H H3) ⟨upd_same, same_new nD _ _ hl, s1.trans (same_new nD)⟩ (fun i H3 _ hP => SqL.of (hP.2.2 _ _ ha)) (fun i x H3 hx hP => ?_) (fun H3 hP => ?_)
    · obtain ⟨y, ey, rfl⟩ := int_at_inv hx
      obtain ⟨hD3, hl3, sm⟩ := hP
      have hy := ox.mem (List.mem_of_getElem? ey)
      have hi := (List.getElem?_eq_some_iff.mp ey).1
      rw [ox.len] at hi
      refine ⟨rfl, _, rfl, _, rfl, l, _, _, _, rfl, rfl, SqL.of hl3, at_of (j := y.toNat) (by omega) (int_at (back_pos oy hps hy.1 hy.2)), _, hD3, line_lt (by rw [List.length_map, List.length_take]; omega), ?_, ?_, fun c o e => ?_⟩
      · rw [upd_same, take_more (seats_at ey), List.map_append]
        rfl
      · rw [upd_ne (ne_of_none hl nD)]
        exact hl3
      · rw [upd_ne (ne_of_none e nHD)]
        exact sm _ _ e
    · obtain ⟨hD3, hl3, sm⟩ := hP
      rw [List.take_of_length_le (by rw [seats_len, List.length_map]; exact Nat.le_refl _)] at hD3
      exact q D H3 nHD hD3 sm
end
end Fo
namespace Fo
open PySem PySem.Spec PyProof.Rows L2
def spExch : Sp := fun vs H Q _ => ∃ (a : Addr) (p : Int) (xs : List Int), vs = [.ref a, .int p] ∧ H a = some (.lst (xs.map V.int)) ∧ 0 ≤ p ∧ p + 1 < xs.length ∧
  ∀ H', H' a = some (.lst ((sw xs p.toNat).map V.int)) → (∀ b o, b ≠ a → H b = some o → H' b = some o) → Q .non H'
section
variable {P : Program} {w : World} {K : PySem.W.Frag} {mg : Str → Option Value} {base : Heap}
theorem scExch : FnScope ["row", "place"] ["row", "place"] (defScope s_exchange) := ⟨rfl, rfl, rfl, by decide +kernel, rfl, by decide +kernel, by decide +kernel⟩
theorem ok_exch {f : Addr} {fd : FuncData} {k : Nat} (T : Df K mg "exchange" s_exchange ["row", "place"] f fd) : FnOk P w K mg base CX0 (k + 1) f fd ["row", "place"] spExch := by
  refine T.F.ok scExch (fun vs H Q E h => ?_) (fun cdv A outer s H vs Q E hr h => ?_)
  · obtain ⟨a, p, xs, rfl, _⟩ := h
    rfl
  · obtain ⟨l2, p, xs, rfl, hl5, p0, p1, q⟩ := h
    refine ⟨_, pss_one (ps_asg (pe_tup (pa_cons (pe_ix ix_list (pv 0) (pe_op op_add (pv 1) pe_int) (fun _ _ => rfl)) (pa_cons (pe_ix ix_list (pv 0) (pv 1) (fun _ _ => rfl)) pa_nil))) (pg_tup (by rfl) (pgs_cons (pg_sub (pv 0) (pv 1) set_list) (pgs_cons (pg_sub (pv 0) (pe_op op_add (pv 1) pe_int) set_list) pgs_nil)))), ?_⟩
    obtain ⟨a, ea⟩ : ∃ a, xs[p.toNat]? = some a := ⟨xs[p.toNat]'(by omega), List.getElem?_eq_getElem (by omega)⟩
    obtain ⟨b, eb⟩ : ∃ b, xs[p.toNat + 1]? = some b := ⟨xs[p.toNat + 1]'(by omega), List.getElem?_eq_getElem (by omega)⟩
    refine ⟨_, rfl, _, rfl, p, 1, rfl, rfl, l2, _, _, _, rfl, rfl, SqL.of hl5, at_of (j := p.toNat + 1) (by omega) (int_at eb), _, rfl, _, rfl, l2, _, _, _, rfl, rfl, SqL.of hl5, at_of (j := p.toNat) (by omega) (int_at ea), line_small (by show 2 ≤ 16777216; decide), fun t nt => ?_⟩
    have hl6 : (upd H t (.tup [.int b, .int a])) l2 = some (.lst (xs.map V.int)) := same_new nt _ _ hl5
    refine ⟨t, _, rfl, .inl (.inl upd_same), rfl, _, _, rfl, _, rfl, _, rfl, l2, _, _, p.toNat, rfl, rfl, hl6, ix_n (by omega) (by rw [List.length_map]; omega), ?_⟩
    refine ⟨_, _, rfl, _, rfl, _, rfl, p, 1, rfl, rfl, l2, _, _, p.toNat + 1, rfl, rfl, upd_same, ix_n (by omega) (by rw [List.length_set, List.length_map]; omega), ?_⟩
    refine ⟨rfl, q _ (by rw [upd_same, sw_V ea eb]) fun c o nc e => ?_⟩
    rw [upd_ne nc, upd_ne nc]
    exact same_new nt _ _ e
end
end Fo
namespace Fo
open PySem PySem.Spec PyProof.Rows L2
def spSwap : Sp := fun vs H Q _ => ∃ (a b : Addr) (n : Nat) (xs ys : List Int), two vs H a b n xs ys ∧ ∀ (H' : Hp), Same H H' → Q (.int (farSwap xs ys)) H'
def spSpot : Sp := fun vs H Q _ => ∃ (a b : Addr) (n : Nat) (xs ys : List Int), two vs H a b n xs ys ∧ ∀ (H' : Hp), Same H H' → Q (.int (farSpot xs ys)) H'
def spShift : Sp := fun vs H Q _ => ∃ (a b : Addr) (n : Nat) (xs ys : List Int), two vs H a b n xs ys ∧ ∀ (H' : Hp), Same H H' → Q (.int (farShift xs ys)) H'
section
variable {P : Program} {w : World} {K : PySem.W.Frag} {mg : Str → Option Value} {base : Heap}
theorem scSwap : FnScope ["one", "other", "seats", "turned", "place", "seat", "later"] ["one", "other"] (defScope s_far_by_swap) := ⟨rfl, rfl, rfl, by decide +kernel, rfl, by decide +kernel, by decide +kernel⟩
set_option maxHeartbeats 2000000 in
theorem ok_swap {f fP : Addr} {fd fdP : FuncData} {k : Nat} (T : Df K mg "far_by_swap" s_far_by_swap ["one", "other"] f fd) (T_seats_in : Df K mg "seats_in" s_seats_in ["one", "other"] fP fdP) (G_seats_in : FnOk P w K mg base CX0 k fP fdP ["one", "other"] spSeats) (B : Bi mg) : FnOk P w K mg base CX0 (k + 1) f fd ["one", "other"] spSwap := by
  refine T.F.ok scSwap (fun vs H Q E h => ?_) (fun cdv A outer s H vs Q E hr h => ?_)
  · obtain ⟨a, b, n, xs, ys, ⟨rfl, _⟩, _⟩ := h
    rfl
  · obtain ⟨a, b, n, xs, ys, ⟨rfl, ha, hb, ox, oy, hn1, hn2⟩, q⟩ := h
    refine ⟨_, 
      (pss_cons (ps_set (i := 2) scSwap.nd rfl (.inl rfl) (pe_call G_seats_in hr (by rfl) T_seats_in.g T_seats_in.F.kp T_seats_in.b .nil pass0 (pa_cons (pv 0) (pa_cons (pv 1) pa_nil))))
      (pss_cons (ps_set (i := 3) scSwap.nd rfl (.inl rfl) pe_int)
      (pss_cons (ps_for PassesOwn.never rfl (pi_enum (by rfl) B.enumerate (pa_cons (pv 2) pa_nil)) (pg_tup (by rfl) (pgs_cons (pg_name (i := 4) scSwap.nd rfl (.inl rfl)) (pgs_cons (pg_name (i := 5) scSwap.nd rfl (.inr rfl)) pgs_nil)))
        (pss_one (ps_aug (i := 3) scSwap.nd rfl (.inl rfl) (pe_callB call_len_seq (by rfl) B.len PySem.boot_len (pa_cons (pe_lc (own := [("later", 6)]) (g := (gName 6)) (tt := (tTest (tOp (rI0 fun i j => .bl (decide (i < j))) (tVar 6) (tVar 5)))) (te := (tVar 6)) rfl scSwap.nd (pi_list (pe_slice sl_list (pv 2) (po_some (pe_op op_add (pv 4) pe_int)) po_none)) (blkOk_by (N := ["one", "other", "seats", "turned", "place", "seat", "later"]) (sc := defScope s_far_by_swap) (by decide +kernel)) (fun _ _ _ _ _ => (pg_name (i := 6) scSwap.nd rfl (.inl rfl))) (fun _ _ _ _ _ => (pts_one (pt_cmpR op_lt (pv 6) (pv 5) (nomark _)))) (fun _ _ _ _ _ => (pv 6))) pa_nil)) ip_add)))
      (pss_one (ps_ret (pv 3)))))), ?_⟩
    refine ⟨_, rfl, _, rfl, a, b, n, xs, ys, ⟨rfl, ha, hb, ox, oy, hn1, hn2⟩, fun l H1 nl hl s1 => ?_⟩
    have os := seats_ord ox oy
    refine ⟨_, rfl, l, _, rfl, SqL.of hl, ?_⟩
    refine for_enumL (xs := (seatsL xs ys).map V.int) (fun i σ H3 => ∃ (y4 y5 y6 : Option V), σ = [some (.ref a), some (.ref b), some (.ref l), some (.int ((sumN (rg i) (fun p => cntL (seatsL xs ys) p.toNat) : Nat) : Int)), y4, y5, y6] ∧ H3 l = some (.lst ((seatsL xs ys).map V.int)) ∧ Same H H3)
      ⟨none, none, none, rfl, hl, s1⟩ (fun i σ H3 hP => by obtain ⟨_, _, _, _, hl3, _⟩ := hP; exact SqL.of hl3) (fun i x t σ H3 hx hP nt => ?_) (fun σ H3 hP => ?_)
    · obtain ⟨y4, y5, y6, rfl, hl3, sm⟩ := hP
      obtain ⟨y, ey, rfl⟩ := int_at_inv hx
      have hi := (List.getElem?_eq_some_iff.mp ey).1
      rw [os.len] at hi
      have s3 := same_new (o := .tup [.int (i : Nat), .int y]) nt
      refine ⟨t, _, rfl, .inl (.inl upd_same), rfl, _, _, rfl, _, _, rfl, rfl, ?_⟩
      refine ⟨_, rfl, _, rfl, _, rfl, (i : Int), 1, rfl, rfl, _, rfl, l, _, rfl, SqL.of (s3 _ _ hl3), fun c nc => ?_⟩
      have s4 := s3.trans (same_new (o := .lst (cutV ((seatsL xs ys).map V.int) (some ((i : Int) + 1)) none)) nc)
      have ecut : cutV ((seatsL xs ys).map V.int) (some ((i : Int) + 1)) none = (((seatsL xs ys).drop (i + 1)).map V.int) := by
        rw [cut_ints, show (i : Int) + 1 = ((i + 1 : Nat) : Int) by omega, cutI_tail]
      have hc4 : (upd (upd H3 t (.tup [.int (i : Nat), .int y])) c (.lst (cutV ((seatsL xs ys).map V.int) (some ((i : Int) + 1)) none))) c = some (.lst (((seatsL xs ys).drop (i + 1)).map V.int)) := by rw [upd_same, ecut]
      refine ⟨c, rfl, ⟨_, SqL.of hc4⟩, fun D nD => ?_⟩
      have ncD : c ≠ D := ne_of_none hc4 nD
      refine lc_list (K := K) (a := c) (xs := ((seatsL xs ys).drop (i + 1)).map V.int) (fun m H5 => H5 D = some (.lst (((((seatsL xs ys).drop (i + 1)).take m).filter (fun z => decide (z < g0 (seatsL xs ys) i))).map V.int)) ∧ H5 c = some (.lst (((seatsL xs ys).drop (i + 1)).map V.int)) ∧ Same H3 H5)
        ⟨upd_same, by rw [upd_ne ncD]; exact hc4, s4.trans (same_new nD)⟩ (fun m H5 _ hP => SqL.of hP.2.1) (fun m x H5 hx hP => ?_) (fun H5 hP => ?_)
      · obtain ⟨hD5, hc5, s5⟩ := hP
        obtain ⟨z, ez, rfl⟩ := int_at_inv hx
        have eg : g0 (seatsL xs ys) i = y := g0_at ey
        refine ⟨rfl, _, rfl, _, rfl, z, y, rfl, rfl, _, rfl, ite2 (fun c => ?_) (fun c => ?_)⟩
        · have hz : z < y := of_decide_eq_true c
          refine ⟨_, rfl, _, hD5, line_lt ?_, ?_, by rw [upd_ne ncD]; exact hc5, fun u o e => ?_⟩
          · rw [List.length_map]
            refine Nat.lt_of_le_of_lt (List.length_filter_le _ _) ?_
            rw [List.length_take, List.length_drop, os.len]
            omega
          · rw [upd_same, filter_more _ ez, eg, decide_eq_true hz, if_pos rfl, List.map_append]
            rfl
          · rw [upd_ne (ne_of_none (s4 _ _ e) nD)]
            exact s5 _ _ e
        · refine ⟨?_, hc5, s5⟩
          rw [filter_more _ ez, eg, decide_eq_false (fun hz => c (decide_eq_true hz)), if_neg (by decide), List.append_nil]
          rw [eg] at hD5
          exact hD5
      · obtain ⟨hD5, hc5, s5⟩ := hP
        rw [List.length_map, List.take_length] at hD5
        refine ⟨D, _, rfl, .inl (SqL.of hD5), _, _, rfl, rfl, ?_⟩
        refine ⟨some (.int (i : Int)), some (.int y), y6, ?_, s5 _ _ hl3, sm.trans s5⟩
        rw [rg_succ, sumN_append, sumN_cons, sumN_nil, List.length_map]
        show [some (.ref a), some (.ref b), some (.ref l), some (V.int (((sumN (rg i) (fun p => cntL (seatsL xs ys) p.toNat) : Nat) : Int) + ((cntL (seatsL xs ys) i : Nat) : Int))), some (.int (i : Int)), some (.int y), y6] = _
        rw [Int.toNat_natCast, Int.natCast_add, Nat.add_zero]
    · obtain ⟨y4, y5, y6, rfl, hl3, sm⟩ := hP
      refine ⟨_, rfl, ?_⟩
      have z := q H3 sm
      unfold farSwap invN at z
      rw [List.length_map]
      exact z
theorem scSpot : FnScope ["one", "other", "place"] ["one", "other"] (defScope s_far_by_spot) := ⟨rfl, rfl, rfl, by decide +kernel, rfl, by decide +kernel, by decide +kernel⟩
set_option maxHeartbeats 2000000 in
theorem ok_spot {f : Addr} {fd : FuncData} {k : Nat} (T : Df K mg "far_by_spot" s_far_by_spot ["one", "other"] f fd) (B : Bi mg) : FnOk P w K mg base CX0 (k + 1) f fd ["one", "other"] spSpot := by
  refine T.F.ok scSpot (fun vs H Q E h => ?_) (fun cdv A outer s H vs Q E hr h => ?_)
  · obtain ⟨a, b, n, xs, ys, ⟨rfl, _⟩, _⟩ := h
    rfl
  · obtain ⟨a, b, n, xs, ys, ⟨rfl, ha, hb, ox, oy, hn1, hn2⟩, q⟩ := h
    have hxl : (xs.map V.int).length = n := by rw [List.length_map, ox.len]
    refine ⟨_, 
      (pss_one (ps_ret (pe_callB call_len_seq (by rfl) B.len PySem.boot_len (pa_cons (pe_lc (own := [("place", 2)]) (g := (gName 2)) (tt := (tTest (tOp rNe (tOp (rIxL K) (tVar 0) (tVar 2)) (tOp (rIxL K) (tVar 1) (tVar 2))))) (te := (tVar 2)) rfl scSpot.nd (pi_range1 (by rfl) B.range (pa_cons (pe_callB call_len_seq (by rfl) B.len PySem.boot_len (pa_cons (pv 0) pa_nil)) pa_nil)) (blkOk_by (N := ["one", "other", "place"]) (sc := defScope s_far_by_spot) (by decide +kernel)) (fun _ _ _ _ _ => (pg_name (i := 2) scSpot.nd rfl (.inl rfl))) (fun _ _ _ _ _ => (pts_one (pt_cmpR op_ne (pe_ix ix_list (pv 0) (pv 2) (fun _ _ => rfl)) (pe_ix ix_list (pv 1) (pv 2) (fun _ _ => rfl)) (nomark _)))) (fun _ _ _ _ _ => (pv 2))) pa_nil)))), ?_⟩
    refine ⟨_, rfl, a, _, rfl, .inl (SqL.of ha), _, rfl, by omega, by rw [hxl]; omega, fun D nD => ?_⟩
    rw [hxl, Int.toNat_natCast]
    refine lc_range (lo := 0) (n := n) (fun m H3 => H3 D = some (.lst (((rg m).filter (fun p => !decide (g0 xs p = g0 ys p))).map V.int)) ∧ Same H H3) ⟨upd_same, same_new nD⟩ (fun m H3 hm hP => ?_) (fun H3 hP => ?_)
    · obtain ⟨hD3, sm⟩ := hP
      obtain ⟨x, ex, _⟩ := ord_ix ox hm
      obtain ⟨y, ey, _⟩ := ord_ix oy hm
      have gx : g0 xs (m : Int) = x := g0_at ex
      have gy : g0 ys (m : Int) = y := g0_at ey
      have fm : ((rg (m + 1)).filter fun p => !decide (g0 xs p = g0 ys p)) = ((rg m).filter fun p => !decide (g0 xs p = g0 ys p)) ++ (if x = y then [] else [(m : Int)]) := by
        rw [rg_succ, List.filter_append, List.filter_cons, gx, gy]
        congr 1
        by_cases c : x = y
        · simp [c]
        · simp [c]
      refine ⟨rfl, _, rfl, _, rfl, a, _, _, _, rfl, rfl, SqL.of (sm _ _ ha), at_of (j := m) (by omega) (int_at ex), _, rfl, _, rfl, b, _, _, _, rfl, rfl, SqL.of (sm _ _ hb), at_of (j := m) (by omega) (int_at ey), rfl, _, rfl, ?_⟩
      by_cases c : x = y
      · subst c
        refine iteNS rfl ⟨?_, sm⟩
        rw [fm, if_pos rfl, List.append_nil]
        exact hD3
      · rw [decide_eq_false (fun e => c (V.int.inj e))]
        refine iteT ⟨_, rfl, _, hD3, line_lt ?_, ?_, fun u o e => ?_⟩
        · rw [List.length_map]
          refine Nat.lt_of_le_of_lt (List.length_filter_le _ _) ?_
          rw [rg_len]
          omega
        · rw [upd_same, fm, if_neg c, List.map_append, Int.zero_add]
          rfl
        · rw [upd_ne (ne_of_none e nD)]
          exact sm _ _ e
    · obtain ⟨hD3, sm⟩ := hP
      refine ⟨D, _, rfl, .inl (SqL.of hD3), ?_⟩
      have z := q H3 sm
      unfold farSpot spotL at z
      rw [ox.len] at z
      rw [List.length_map]
      exact z
theorem scShift : FnScope ["one", "other", "place", "seat"] ["one", "other"] (defScope s_far_by_shift) := ⟨rfl, rfl, rfl, by decide +kernel, rfl, by decide +kernel, by decide +kernel⟩
set_option maxHeartbeats 2000000 in
theorem ok_shift {f fP : Addr} {fd fdP : FuncData} {k : Nat} (T : Df K mg "far_by_shift" s_far_by_shift ["one", "other"] f fd) (T_seats_in : Df K mg "seats_in" s_seats_in ["one", "other"] fP fdP) (G_seats_in : FnOk P w K mg base CX0 k fP fdP ["one", "other"] spSeats) (B : Bi mg) : FnOk P w K mg base CX0 (k + 1) f fd ["one", "other"] spShift := by
  refine T.F.ok scShift (fun vs H Q E h => ?_) (fun cdv A outer s H vs Q E hr h => ?_)
  · obtain ⟨a, b, n, xs, ys, ⟨rfl, _⟩, _⟩ := h
    rfl
  · obtain ⟨a, b, n, xs, ys, ⟨rfl, ha, hb, ox, oy, hn1, hn2⟩, q⟩ := h
    refine ⟨_, 
      (pss_one (ps_ret (pe_callB (cr_max rfl) (by rfl) B.max (by decide +kernel) (pa_cons (pe_lc (own := [("place", 2), ("seat", 3)]) (g := (gTup K 2 (gCons (gName 2) (gCons (gName 3) gNil)))) (tt := tYes) (te := (tCB rAbs (tCons (tOp (rI0 fun i j => .int (i - j)) (tVar 2) (tVar 3)) tNil))) rfl scShift.nd (pi_enum (by rfl) B.enumerate (pa_cons (pe_call G_seats_in hr (by rfl) T_seats_in.g T_seats_in.F.kp T_seats_in.b .nil pass0 (pa_cons (pv 0) (pa_cons (pv 1) pa_nil))) pa_nil)) (blkOk_by (N := ["one", "other", "place", "seat"]) (sc := defScope s_far_by_shift) (by decide +kernel)) (fun _ _ _ _ _ => (pg_tup (by rfl) (pgs_cons (pg_name (i := 2) scShift.nd rfl (.inl rfl)) (pgs_cons (pg_name (i := 3) scShift.nd rfl (.inl rfl)) pgs_nil)))) (fun _ _ _ _ _ => pts_nil) (fun _ _ _ _ _ => (pe_callB call_abs (by rfl) B.abs (by decide +kernel) (pa_cons (pe_op op_sub (pv 2) (pv 3)) pa_nil)))) pa_nil)))), ?_⟩
    have os := seats_ord ox oy
    refine ⟨_, rfl, _, rfl, a, b, n, xs, ys, ⟨rfl, ha, hb, ox, oy, hn1, hn2⟩, fun l H1 nl hl s1 => ?_⟩
    refine ⟨l, _, rfl, SqL.of hl, fun D nD => ?_⟩
    have nlD : l ≠ D := ne_of_none hl nD
    have nHD : H D = none := s1.free nD
    refine lc_enumL (K := K) (a := l) (xs := (seatsL xs ys).map V.int) (fun m H3 => H3 D = some (.lst (((gapsL xs ys).take m).map V.int)) ∧ H3 l = some (.lst ((seatsL xs ys).map V.int)) ∧ Same H H3) ⟨upd_same, by rw [upd_ne nlD]; exact hl, s1.trans (same_new nD)⟩ (fun m H3 _ hP => SqL.of hP.2.1) (fun m x t H3 hx hP nt => ?_) (fun H3 hP => ?_)
    · obtain ⟨hD3, hl3, sm⟩ := hP
      obtain ⟨y, ey, rfl⟩ := int_at_inv hx
      have hi := (List.getElem?_eq_some_iff.mp ey).1
      rw [os.len] at hi
      have s3 := same_new (o := .tup [.int (m : Nat), .int y]) nt
      have eg : (gapsL xs ys)[m]? = some (absI ((m : Int) - y)) := by
        unfold gapsL rg
        rw [List.map_map, List.getElem?_map, List.getElem?_range (by rw [ox.len]; exact hi)]
        show some (absI ((m : Int) - g0 (seatsL xs ys) (m : Int))) = _
        rw [g0_at ey]
      refine ⟨t, _, rfl, .inl (.inl upd_same), rfl, _, _, rfl, _, _, rfl, rfl, rfl, ?_⟩
      refine ⟨_, rfl, _, rfl, (m : Int), y, rfl, rfl, _, rfl, _, s3 _ _ hD3, line_lt (by rw [List.length_map, List.length_take, gaps_len, ox.len]; omega), ?_, ?_, fun u o e => ?_⟩
      · rw [upd_same, take_more eg, List.map_append]
        rfl
      · rw [upd_ne nlD]
        exact s3 _ _ hl3
      · rw [upd_ne (ne_of_none e nHD)]
        exact s3 _ _ (sm _ _ e)
    · obtain ⟨hD3, hl3, sm⟩ := hP
      rw [List.take_of_length_le (by rw [gaps_len, List.length_map, seats_len]; exact Nat.le_refl _)] at hD3
      refine ⟨D, gapsL xs ys, rfl, SqL.of hD3, by rw [gaps_len, ox.len]; exact hn1, fun m hm hle => ?_⟩
      have e : farShift xs ys = m := maxL_of (gaps_nonneg xs ys) hm hle
      rw [← e]
      exact q H3 sm
theorem scKnown : FnScope ["way", "one", "other"] ["way", "one", "other"] (defScope s_known_far) := ⟨rfl, rfl, rfl, by decide +kernel, rfl, by decide +kernel, by decide +kernel⟩
theorem ok_known {f f4 f5 f6 : Addr} {fd d4 d5 d6 : FuncData} {k : Nat} (T : Df K mg "known_far" s_known_far ["way", "one", "other"] f fd) (T_far_by_swap : Df K mg "far_by_swap" s_far_by_swap ["one", "other"] f4 d4) (T_far_by_spot : Df K mg "far_by_spot" s_far_by_spot ["one", "other"] f5 d5) (T_far_by_shift : Df K mg "far_by_shift" s_far_by_shift ["one", "other"] f6 d6)
    (G_far_by_swap : FnOk P w K mg base CX0 k f4 d4 ["one", "other"] spSwap) (G_far_by_spot : FnOk P w K mg base CX0 k f5 d5 ["one", "other"] spSpot) (G_far_by_shift : FnOk P w K mg base CX0 k f6 d6 ["one", "other"] spShift) :
    FnOk P w K mg base CX0 (k + 1) f fd ["way", "one", "other"] spFar := by
  refine T.F.ok scKnown (fun vs H Q E h => ?_) (fun cdv A outer s H vs Q E hr h => ?_)
  · obtain ⟨z, a, b, n, xs, ys, rfl, _⟩ := h
    rfl
  · obtain ⟨z, a, b, n, xs, ys, rfl, hz, ha, hb, ox, oy, hn1, hn2, q⟩ := h
    refine ⟨_, 
      (pss_cons (ps_if (pt_cmpR op_eq (pv 0) pe_str (nomark _))
        (pss_one (ps_ret (pe_call G_far_by_swap hr (by rfl) T_far_by_swap.g T_far_by_swap.F.kp T_far_by_swap.b .nil pass0 (pa_cons (pv 1) (pa_cons (pv 2) pa_nil)))))
        pss_nil)
      (pss_cons (ps_if (pt_cmpR op_eq (pv 0) pe_str (nomark _))
        (pss_one (ps_ret (pe_call G_far_by_spot hr (by rfl) T_far_by_spot.g T_far_by_spot.F.kp T_far_by_spot.b .nil pass0 (pa_cons (pv 1) (pa_cons (pv 2) pa_nil)))))
        pss_nil)
      (pss_one (ps_ret (pe_call G_far_by_shift hr (by rfl) T_far_by_shift.g T_far_by_shift.F.kp T_far_by_shift.b .nil pass0 (pa_cons (pv 1) (pa_cons (pv 2) pa_nil))))))), ?_⟩
    rcases hz with rfl | rfl | rfl
    · refine ⟨_, rfl, rfl, _, rfl, ite2 (fun _ => ?_) (fun c => absurd (by decide +kernel) c)⟩
      exact ⟨_, rfl, _, rfl, a, b, n, xs, ys, ⟨rfl, ha, hb, ox, oy, hn1, hn2⟩, fun H2 s2 => by rw [← farW_swap]; exact q H2 s2⟩
    · refine ⟨_, rfl, rfl, _, rfl, ite2 (fun c => absurd c (by decide +kernel)) (fun _ => ?_)⟩
      refine ⟨_, rfl, rfl, _, rfl, ite2 (fun _ => ?_) (fun c => absurd (by decide +kernel) c)⟩
      exact ⟨_, rfl, _, rfl, a, b, n, xs, ys, ⟨rfl, ha, hb, ox, oy, hn1, hn2⟩, fun H2 s2 => by rw [← farW_spot]; exact q H2 s2⟩
    · refine ⟨_, rfl, rfl, _, rfl, ite2 (fun c => absurd c (by decide +kernel)) (fun _ => ?_)⟩
      refine ⟨_, rfl, rfl, _, rfl, ite2 (fun c => absurd c (by decide +kernel)) (fun _ => ?_)⟩
      exact ⟨_, rfl, _, rfl, a, b, n, xs, ys, ⟨rfl, ha, hb, ox, oy, hn1, hn2⟩, fun H2 s2 => by rw [← farW_shift]; exact q H2 s2⟩
end
end Fo
namespace Fo
open PySem PySem.Spec PyProof.Rows L2
/-! ### how far, by things -/
theorem sumN_le {l : List Int} {f g : Int → Nat} (h : ∀ x ∈ l, f x ≤ g x) : sumN l f ≤ sumN l g := by
  induction l with
  | nil => exact Nat.le_refl _
  | cons a l ih =>
    rw [sumN_cons, sumN_cons]
    have h1 := h a List.mem_cons_self
    have h2 := ih fun x hx => h x (List.mem_cons_of_mem _ hx)
    omega
theorem sumN_one {l : List Int} {f : Int → Nat} {x : Int} (h : x ∈ l) : f x ≤ sumN l f := by
  induction l with
  | nil => exact absurd h List.not_mem_nil
  | cons a l ih =>
    rw [sumN_cons]
    rcases List.mem_cons.mp h with rfl | h
    · omega
    · have := ih h
      omega
theorem ind_le {a : Bool} {n : Nat} (h : a = true → 1 ≤ n) : ind a ≤ n := by
  unfold ind
  cases a
  · exact Nat.zero_le _
  · exact h rfl
theorem ind_true {a : Bool} (h : a = true) : ind a = 1 := by rw [h]; rfl
theorem g0_seats {n : Nat} {xs ys : List Int} (o : IsOrd n xs) {p : Int} (h : p ∈ rg n) : g0 (seatsL xs ys) p = pos ys (g0 xs p) := by
  have h1 := rg_mem.mp h
  obtain ⟨x, hx, _⟩ := ord_ix o (j := p.toNat) (by omega)
  have e := g0_at hx
  have e2 := g0_at (seats_at (ys := ys) hx)
  rw [Int.toNat_of_nonneg h1.1] at e e2
  rw [e, e2]
def dT (xs ys : List Int) (t u : Int) : Nat := ind (decide (pos xs t < pos xs u) && decide (pos ys u < pos ys t))
def swT (n : Nat) (xs ys : List Int) : Nat := sumN (rg n) fun t => sumN (rg n) fun u => dT xs ys t u
def spT (n : Nat) (xs ys : List Int) : Nat := sumN (rg n) fun t => ind (!decide (pos xs t = pos ys t))
def shL (n : Nat) (xs ys : List Int) : List Int := (rg n).map fun t => absI (pos xs t - pos ys t)
theorem swap_T {n : Nat} {xs ys : List Int} (ox : IsOrd n xs) (oy : IsOrd n ys) : farSwap xs ys = ((swT n xs ys : Nat) : Int) := by
  unfold farSwap
  rw [inv_eq, seats_len, ox.len]
  unfold invF swT
  congr 1
  rw [sum_pos ox]
  apply sumN_congr
  intro t ht
  rw [sum_pos ox]
  apply sumN_congr
  intro u hu
  unfold dT
  rw [g0_seats ox (pos_in ox ht), g0_seats ox (pos_in ox hu), g0_pos ox ht, g0_pos ox hu]
theorem spot_T {n : Nat} {xs ys : List Int} (ox : IsOrd n xs) (oy : IsOrd n ys) : farSpot xs ys = ((spT n xs ys : Nat) : Int) := by
  unfold farSpot spotL spT
  rw [filter_len, ox.len]
  congr 1
  rw [sum_g0 ox (fun t => ind (!decide (pos xs t = pos ys t)))]
  apply sumN_congr
  intro p hp
  rw [pos_g0 ox hp]
  by_cases c : g0 xs p = g0 ys p
  · rw [decide_eq_true c, c, pos_g0 oy hp, decide_eq_true rfl]
  · have d : ¬ (p = pos ys (g0 xs p)) := fun e => c (by
      have := g0_pos oy (g0_in ox hp)
      rw [← e] at this
      exact this.symm)
    rw [decide_eq_false c, decide_eq_false d]
theorem shift_mem {n : Nat} {xs ys : List Int} (ox : IsOrd n xs) : ∀ g, g ∈ gapsL xs ys ↔ g ∈ shL n xs ys := by
  intro g
  unfold gapsL shL
  rw [ox.len, List.mem_map, List.mem_map]
  constructor
  · rintro ⟨p, hp, rfl⟩
    exact ⟨g0 xs p, g0_in ox hp, by rw [pos_g0 ox hp, g0_seats ox hp]⟩
  · rintro ⟨t, ht, rfl⟩
    exact ⟨pos xs t, pos_in ox ht, by rw [g0_seats ox (pos_in ox ht), g0_pos ox ht]⟩
theorem shift_T {n : Nat} {xs ys : List Int} (ox : IsOrd n xs) (hn : 1 ≤ n) : (∃ t ∈ rg n, farShift xs ys = absI (pos xs t - pos ys t)) ∧ ∀ t ∈ rg n, absI (pos xs t - pos ys t) ≤ farShift xs ys := by
  obtain ⟨h1, h2⟩ := maxL_mem (gaps_nonneg xs ys) (by rw [gaps_len, ox.len]; exact hn)
  constructor
  · obtain ⟨t, ht, e⟩ := List.mem_map.mp ((shift_mem ox _).mp h1)
    exact ⟨t, ht, e.symm⟩
  · intro t ht
    exact h2 _ ((shift_mem ox _).mpr (List.mem_map.mpr ⟨t, ht, rfl⟩))
theorem shift_of {n : Nat} {xs ys : List Int} {m : Int} (ox : IsOrd n xs) (h : ∃ t ∈ rg n, m = absI (pos xs t - pos ys t)) (hle : ∀ t ∈ rg n, absI (pos xs t - pos ys t) ≤ m) : farShift xs ys = m := by
  obtain ⟨t, ht, e⟩ := h
  refine maxL_of (gaps_nonneg xs ys) ((shift_mem ox _).mpr (List.mem_map.mpr ⟨t, ht, e.symm⟩)) fun x hx => ?_
  obtain ⟨u, hu, rfl⟩ := List.mem_map.mp ((shift_mem ox _).mp hx)
  exact hle u hu
/-! ### alike just where 0 -/
theorem invR_zero : ∀ {s : List Int}, invR s = 0 → s.Pairwise (· ≤ ·)
  | [], _ => List.Pairwise.nil
  | x :: r, h => by
    have h' : (r.filter (fun z => decide (z < x))).length + invR r = 0 := h
    refine List.Pairwise.cons (fun z hz => ?_) (invR_zero (by omega))
    have e : r.filter (fun z => decide (z < x)) = [] := List.eq_nil_of_length_eq_zero (by omega)
    have := List.filter_eq_nil_iff.mp e z hz
    simp at this
    exact this
theorem same_of_pos {n : Nat} {xs ys : List Int} (ox : IsOrd n xs) (oy : IsOrd n ys) (h : ∀ p ∈ rg n, pos ys (g0 xs p) = p) : xs = ys := by
  rw [g0_ord ox, g0_ord oy]
  apply List.map_congr_left
  intro p hp
  have e := g0_pos oy (g0_in ox hp)
  rw [h p hp] at e
  exact e.symm
theorem farW_zero {w : Str} {n : Nat} {xs ys : List Int} (hw : IsWay w) (ox : IsOrd n xs) (oy : IsOrd n ys) (hn : 1 ≤ n) (h : farW w xs ys = 0) : xs = ys := by
  rcases hw with rfl | rfl | rfl
  · rw [farW_swap] at h
    unfold farSwap at h
    rw [inv_NR] at h
    have hs := invR_zero (s := seatsL xs ys) (by omega)
    have e := sorted_eq (seats_ord ox oy) hs (rg_sorted n)
    refine same_of_pos ox oy fun p hp => ?_
    rw [← g0_seats ox hp, e]
    have h1 := rg_mem.mp hp
    have z : (rg n)[p.toNat]? = some p := by
      unfold rg
      rw [List.getElem?_map, List.getElem?_range (by omega)]
      show some ((p.toNat : Nat) : Int) = some p
      rw [Int.toNat_of_nonneg h1.1]
    have z2 := g0_at z
    rw [Int.toNat_of_nonneg h1.1] at z2
    exact z2
  · rw [farW_spot] at h
    unfold farSpot spotL at h
    have e : ((rg xs.length).filter fun p => !decide (g0 xs p = g0 ys p)) = [] := List.eq_nil_of_length_eq_zero (by omega)
    rw [g0_ord ox, g0_ord oy]
    apply List.map_congr_left
    intro p hp
    have := List.filter_eq_nil_iff.mp e p (by rw [ox.len]; exact hp)
    simpa using this
  · rw [farW_shift] at h
    have h2 := (shift_T (ys := ys) ox hn).2
    rw [h] at h2
    refine same_of_pos ox oy fun p hp => ?_
    have := h2 _ (g0_in ox hp)
    rw [pos_g0 ox hp] at this
    unfold absI at this
    split at this <;> omega
/-! ### by a third one never shorter -/
theorem farW_third {w : Str} {n : Nat} {xs ys zs : List Int} (hw : IsWay w) (ox : IsOrd n xs) (oy : IsOrd n ys) (oz : IsOrd n zs) (hn : 1 ≤ n) : farW w xs ys ≤ farW w xs zs + farW w zs ys := by
  rcases hw with rfl | rfl | rfl
  · rw [farW_swap, farW_swap, farW_swap, swap_T ox oy, swap_T ox oz, swap_T oz oy]
    have : swT n xs ys ≤ swT n xs zs + swT n zs ys := by
      unfold swT
      rw [← sumN_add]
      apply sumN_le
      intro t ht
      rw [← sumN_add]
      apply sumN_le
      intro u hu
      unfold dT
      apply ind_le
      intro h
      rw [Bool.and_eq_true] at h
      have h1 := of_decide_eq_true h.1
      have h2 := of_decide_eq_true h.2
      by_cases c : pos zs u < pos zs t
      · rw [ind_true (by rw [decide_eq_true h1, decide_eq_true c]; rfl)]
        omega
      · have ne : pos zs t ≠ pos zs u := fun e => by
          have := pos_inj oz ht hu e
          subst this
          omega
        rw [ind_true (a := decide (pos zs t < pos zs u) && decide (pos ys u < pos ys t)) (by rw [decide_eq_true (show pos zs t < pos zs u by omega), decide_eq_true h2]; rfl)]
        omega
    omega
  · rw [farW_spot, farW_spot, farW_spot, spot_T ox oy, spot_T ox oz, spot_T oz oy]
    have : spT n xs ys ≤ spT n xs zs + spT n zs ys := by
      unfold spT
      rw [← sumN_add]
      apply sumN_le
      intro t _
      apply ind_le
      intro h
      by_cases c : pos xs t = pos zs t
      · have d : ¬ (pos zs t = pos ys t) := fun e => by
          rw [c, e] at h
          simp at h
        rw [ind_true (a := !decide (pos zs t = pos ys t)) (by rw [decide_eq_false d]; rfl)]
        omega
      · rw [ind_true (a := !decide (pos xs t = pos zs t)) (by rw [decide_eq_false c]; rfl)]
        omega
    omega
  · rw [farW_shift, farW_shift, farW_shift]
    obtain ⟨t, ht, e⟩ := (shift_T (ys := ys) ox hn).1
    have h1 := (shift_T (ys := zs) ox hn).2 t ht
    have h2 := (shift_T (ys := ys) oz hn).2 t ht
    rw [e]
    unfold absI at h1 h2 ⊢
    split at h1 <;> split at h2 <;> split <;> omega
/-! ### called otherwise, and from behind -/
/-- two pairs of orders whose things stand alike -/
theorem farW_called {w : Str} {n : Nat} {xs ys xs' ys' : List Int} {r : Int → Int} (hw : IsWay w) (ox : IsOrd n xs) (oy : IsOrd n ys) (ox' : IsOrd n xs') (oy' : IsOrd n ys') (hn : 1 ≤ n) (hr : IsOrd n ((rg n).map r)) (h1 : ∀ t ∈ rg n, pos xs' (r t) = pos xs t) (h2 : ∀ t ∈ rg n, pos ys' (r t) = pos ys t) : farW w xs' ys' = farW w xs ys := by
  have sr : ∀ f : Int → Nat, sumN (rg n) f = sumN (rg n) fun t => f (r t) := fun f => by
    have e : sumN ((rg n).map r) f = sumN (rg n) fun t => f (r t) := sumN_map _ _ _
    rw [← e]
    exact (sumN_perm hr f).symm
  have rin : ∀ t ∈ rg n, r t ∈ rg n := fun t ht => rg_mem.mpr (hr.mem (List.mem_map.mpr ⟨t, ht, rfl⟩))
  have ron : ∀ t' ∈ rg n, ∃ t ∈ rg n, r t = t' := fun t' ht' => List.mem_map.mp ((List.Perm.mem_iff hr).mpr ht')
  rcases hw with rfl | rfl | rfl
  · rw [farW_swap, farW_swap, swap_T ox' oy', swap_T ox oy]
    congr 1
    unfold swT
    rw [sr]
    apply sumN_congr
    intro t ht
    rw [sr]
    apply sumN_congr
    intro u hu
    unfold dT
    rw [h1 t ht, h1 u hu, h2 t ht, h2 u hu]
  · rw [farW_spot, farW_spot, spot_T ox' oy', spot_T ox oy]
    congr 1
    unfold spT
    rw [sr]
    apply sumN_congr
    intro t ht
    rw [h1 t ht, h2 t ht]
  · rw [farW_shift, farW_shift]
    obtain ⟨⟨t, ht, e⟩, hle⟩ := shift_T (ys := ys) ox hn
    refine shift_of ox' ⟨r t, rin t ht, by rw [h1 t ht, h2 t ht]; exact e⟩ fun t' ht' => ?_
    obtain ⟨u, hu, rfl⟩ := ron t' ht'
    rw [h1 u hu, h2 u hu]
    exact hle u hu
theorem behind_ord {n : Nat} {ns ms : List Int} (o1 : IsOrd n ns) (o2 : IsOrd n ms) : IsOrd n (behindL ns ms) := by
  have h : (behindL ns ms).Perm ((rg n).map (g0 ns)) := List.Perm.map _ o2
  rw [← g0_ord o1] at h
  exact h.trans o1
theorem behind_pos {n : Nat} {zs xs : List Int} (oz : IsOrd n zs) (ox : IsOrd n xs) : ∀ t ∈ rg n, pos (behindL zs xs) (g0 zs t) = pos xs t := by
  intro t ht
  have h1 := rg_mem.mp ht
  obtain ⟨j, _, ej, pj⟩ := pos_at ox h1.1 h1.2
  obtain ⟨z, hz, _⟩ := ord_ix oz (j := t.toNat) (by omega)
  have e := g0_at hz
  rw [Int.toNat_of_nonneg h1.1] at e
  rw [e, pj]
  exact pos_of (behind_ord oz ox) (behind_at ej hz)
theorem rev_pos {n : Nat} {xs : List Int} (ox : IsOrd n xs) : ∀ t ∈ rg n, pos xs.reverse t = (n : Int) - 1 - pos xs t := by
  intro t ht
  have h1 := rg_mem.mp ht
  obtain ⟨j, hj, ej, pj⟩ := pos_at ox h1.1 h1.2
  have hl := ox.len
  have er : xs.reverse[n - 1 - j]? = some t := by
    rw [List.getElem?_reverse (by omega), hl, show n - 1 - (n - 1 - j) = j by omega]
    exact ej
  rw [pj, pos_of (n := n) ((List.reverse_perm xs).trans ox) er]
  omega
theorem farW_rev {w : Str} {n : Nat} {xs ys : List Int} (hw : IsWay w) (ox : IsOrd n xs) (oy : IsOrd n ys) (hn : 1 ≤ n) : farW w xs.reverse ys.reverse = farW w xs ys := by
  have ox' : IsOrd n xs.reverse := (List.reverse_perm xs).trans ox
  have oy' : IsOrd n ys.reverse := (List.reverse_perm ys).trans oy
  rcases hw with rfl | rfl | rfl
  · rw [farW_swap, farW_swap, swap_T ox' oy', swap_T ox oy]
    congr 1
    unfold swT
    rw [sumN_swap]
    apply sumN_congr
    intro t ht
    apply sumN_congr
    intro u hu
    unfold dT
    rw [rev_pos ox u hu, rev_pos ox t ht, rev_pos oy u hu, rev_pos oy t ht]
    congr 1
    congr 1
    · by_cases c : pos xs t < pos xs u
      · rw [decide_eq_true c, decide_eq_true (by omega)]
      · rw [decide_eq_false c, decide_eq_false (by omega)]
    · by_cases c : pos ys u < pos ys t
      · rw [decide_eq_true c, decide_eq_true (by omega)]
      · rw [decide_eq_false c, decide_eq_false (by omega)]
  · rw [farW_spot, farW_spot, spot_T ox' oy', spot_T ox oy]
    congr 1
    unfold spT
    apply sumN_congr
    intro t ht
    rw [rev_pos ox t ht, rev_pos oy t ht]
    by_cases c : pos xs t = pos ys t
    · rw [decide_eq_true c, decide_eq_true (by omega)]
    · rw [decide_eq_false c, decide_eq_false (by omega)]
  · rw [farW_shift, farW_shift]
    have ea : ∀ t ∈ rg n, absI (pos xs.reverse t - pos ys.reverse t) = absI (pos xs t - pos ys t) := fun t ht => by
      rw [rev_pos ox t ht, rev_pos oy t ht]
      unfold absI
      split <;> split <;> omega
    obtain ⟨⟨t, ht, e⟩, hle⟩ := shift_T (ys := ys) ox hn
    exact shift_of ox' ⟨t, ht, by rw [ea t ht]; exact e⟩ fun u hu => by rw [ea u hu]; exact hle u hu
/-! ### how far at most -/
theorem invR_two (s : List Int) : 2 * invR s + s.length ≤ s.length * s.length := by
  induction s with
  | nil => exact Nat.le_refl _
  | cons x r ih =>
    show 2 * ((r.filter _).length + invR r) + (r.length + 1) ≤ (r.length + 1) * (r.length + 1)
    have h1 : (r.filter (fun z => decide (z < x))).length ≤ r.length := List.length_filter_le _ _
    have h2 : (r.length + 1) * (r.length + 1) = r.length * r.length + r.length + r.length + 1 := by
      rw [Nat.add_mul, Nat.mul_add]
      omega
    omega
theorem swap_most {n : Nat} {xs ys : List Int} (ox : IsOrd n xs) : 2 * farSwap xs ys ≤ (n : Int) * ((n : Int) - 1) := by
  unfold farSwap
  rw [inv_NR]
  have h := invR_two (seatsL xs ys)
  rw [seats_len, ox.len] at h
  have e : (n : Int) * ((n : Int) - 1) = ((n * n : Nat) : Int) - (n : Int) := by
    rw [Int.mul_sub, Int.mul_one, Int.natCast_mul]
  rw [e]
  omega
theorem spot_most {n : Nat} {xs ys : List Int} (ox : IsOrd n xs) : farSpot xs ys ≤ n := by
  unfold farSpot spotL
  rw [ox.len]
  have h := List.length_filter_le (fun p => !decide (g0 xs p = g0 ys p)) (rg n)
  rw [rg_len] at h
  omega
theorem spot_one {n : Nat} {xs ys : List Int} (ox : IsOrd n xs) (oy : IsOrd n ys) : farSpot xs ys ≠ 1 := by
  intro h
  unfold farSpot at h
  obtain ⟨p, hp⟩ := List.length_eq_one_iff.mp (show (spotL xs ys).length = 1 by omega)
  have mem : ∀ q, q ∈ spotL xs ys ↔ q ∈ rg n ∧ g0 xs q ≠ g0 ys q := fun q => by
    unfold spotL
    rw [List.mem_filter, ox.len]
    simp
  have hpm := (mem p).mp (by rw [hp]; exact List.mem_cons_self)
  have hq := pos_in oy (g0_in ox hpm.1)
  have e := g0_pos oy (g0_in ox hpm.1)
  have nq : pos ys (g0 xs p) ≠ p := fun z => hpm.2 (by rw [z] at e; exact e.symm)
  have same : g0 xs (pos ys (g0 xs p)) = g0 ys (pos ys (g0 xs p)) := by
    by_cases c : g0 xs (pos ys (g0 xs p)) = g0 ys (pos ys (g0 xs p))
    · exact c
    · have := (mem _).mpr ⟨hq, c⟩
      rw [hp] at this
      exact absurd (List.mem_singleton.mp this) nq
  rw [e] at same
  have e2 := pos_g0 ox hq
  rw [same, pos_g0 ox hpm.1] at e2
  exact nq e2.symm
theorem shift_most {n : Nat} {xs ys : List Int} (ox : IsOrd n xs) (oy : IsOrd n ys) (hn : 1 ≤ n) : farShift xs ys ≤ (n : Int) - 1 := by
  obtain ⟨t, ht, e⟩ := (shift_T (ys := ys) ox hn).1
  have h1 := rg_mem.mp (pos_in ox ht)
  have h2 := rg_mem.mp (pos_in oy ht)
  rw [e]
  unfold absI
  split <;> omega
theorem below_sum (n : Nat) : ∀ b : Nat, b ≤ n → sumN (rg n) (fun j => ind (decide (j < (b : Int)))) = b := by
  induction n with
  | zero => intro b hb; have : b = 0 := by omega
            subst this; rfl
  | succ n ih =>
    intro b hb
    rw [rg_succ, sumN_append, sumN_cons, sumN_nil]
    by_cases c : b = n + 1
    · subst c
      rw [sumN_congr (g := fun j => ind (decide (j < (n : Int)))) (fun j hj => by
        have := rg_mem.mp hj
        rw [decide_eq_true this.2, decide_eq_true (show j < ((n + 1 : Nat) : Int) by omega)]), ih n (Nat.le_refl _), ind_true (decide_eq_true (by omega))]
    · rw [ih b (by omega), decide_eq_false (show ¬ ((n : Int) < (b : Int)) by omega)]
      rfl
/-- so many others stand the other way round as a thing is shifted -/
theorem turned_most {n : Nat} {xs ys : List Int} (ox : IsOrd n xs) (oy : IsOrd n ys) {t : Int} (ht : t ∈ rg n) : pos ys t - pos xs t ≤ ((sumN (rg n) (fun u => dT xs ys t u) : Nat) : Int) := by
  have h1 := rg_mem.mp (pos_in ox ht)
  have h2 := rg_mem.mp (pos_in oy ht)
  have ea := below_sum n (pos xs t).toNat (by omega)
  have eb := below_sum n (pos ys t).toNat (by omega)
  rw [sum_pos ox] at ea
  rw [sum_pos oy] at eb
  rw [Int.toNat_of_nonneg h1.1] at ea
  rw [Int.toNat_of_nonneg h2.1] at eb
  have : sumN (rg n) (fun u => ind (decide (pos ys u < pos ys t))) ≤ sumN (rg n) (fun u => ind (decide (pos xs u < pos xs t))) + sumN (rg n) (fun u => dT xs ys t u) := by
    rw [← sumN_add]
    apply sumN_le
    intro u hu
    apply ind_le
    intro h
    have hlt := of_decide_eq_true h
    by_cases c : pos xs u < pos xs t
    · rw [ind_true (decide_eq_true c)]
      omega
    · have ne : pos xs t ≠ pos xs u := fun e => by
        have := pos_inj ox ht hu e
        subst this
        omega
      unfold dT
      rw [ind_true (a := decide (pos xs t < pos xs u) && decide (pos ys u < pos ys t)) (by rw [decide_eq_true (show pos xs t < pos xs u by omega), decide_eq_true hlt]; rfl)]
      omega
  omega
theorem dT_turn (xs ys : List Int) (t u : Int) : dT ys xs t u = dT xs ys u t := by
  unfold dT
  rw [Bool.and_comm]
theorem turned_abs {n : Nat} {xs ys : List Int} (ox : IsOrd n xs) (oy : IsOrd n ys) {t : Int} (ht : t ∈ rg n) : absI (pos xs t - pos ys t) ≤ ((sumN (rg n) (fun u => dT xs ys t u) : Nat) : Int) + ((sumN (rg n) (fun u => dT xs ys u t) : Nat) : Int) := by
  have h1 := turned_most ox oy ht
  have h2 := turned_most oy ox ht
  rw [sumN_congr (g := fun u => dT xs ys u t) (fun u _ => dT_turn xs ys t u)] at h2
  unfold absI
  split <;> omega
theorem shift_swap {n : Nat} {xs ys : List Int} (ox : IsOrd n xs) (oy : IsOrd n ys) (hn : 1 ≤ n) : farShift xs ys ≤ farSwap xs ys := by
  obtain ⟨t, ht, e⟩ := (shift_T (ys := ys) ox hn).1
  have h1 := turned_most ox oy ht
  have h2 := turned_most oy ox ht
  have b1 : sumN (rg n) (fun u => dT xs ys t u) ≤ swT n xs ys := sumN_one (f := fun t => sumN (rg n) fun u => dT xs ys t u) ht
  have b2 : sumN (rg n) (fun u => dT ys xs t u) ≤ swT n ys xs := sumN_one (f := fun t => sumN (rg n) fun u => dT ys xs t u) ht
  have e1 := swap_T ox oy
  have e2 := swap_T oy ox
  have e3 := farSwap_turn ox oy
  rw [e]
  unfold absI
  split <;> omega
theorem spot_swap {n : Nat} {xs ys : List Int} (ox : IsOrd n xs) (oy : IsOrd n ys) : farSpot xs ys ≤ 2 * farSwap xs ys := by
  rw [spot_T ox oy, swap_T ox oy]
  have : spT n xs ys ≤ swT n xs ys + swT n xs ys := by
    have e : swT n xs ys = sumN (rg n) fun t => sumN (rg n) fun u => dT xs ys u t := by
      unfold swT
      rw [sumN_swap]
    have e2 : swT n xs ys + swT n xs ys = sumN (rg n) fun t => sumN (rg n) (fun u => dT xs ys t u) + sumN (rg n) (fun u => dT xs ys u t) := by
      rw [sumN_add, ← e]
      rfl
    rw [e2]
    unfold spT
    apply sumN_le
    intro t ht
    apply ind_le
    intro h
    have ha := turned_abs ox oy ht
    have ne : ¬ (pos xs t = pos ys t) := fun z => by
      rw [z] at h
      simp at h
    unfold absI at ha
    split at ha <;> omega
  omega
/-! ### backs -/
theorem back_list {n : Nat} {ns ps : List Int} (o : IsOrd n ns) (h : IsBack ns ps) : ps = (rg n).map (pos ns) := by
  apply List.ext_getElem?
  intro t
  by_cases c : t < n
  · have e := back_pos o h (x := (t : Int)) (by omega) (by omega)
    rw [Int.toNat_natCast] at e
    rw [e]
    unfold rg
    rw [List.map_map, List.getElem?_map, List.getElem?_range c]
    rfl
  · rw [List.getElem?_eq_none (by rw [h.1, o.len]; omega), List.getElem?_eq_none (by rw [List.length_map, rg_len]; omega)]
theorem back_ord {n : Nat} {ns ps : List Int} (o : IsOrd n ns) (h : IsBack ns ps) : IsOrd n ps := by
  rw [back_list o h]
  exact pos_ord o
theorem back_g0 {n : Nat} {ns ps : List Int} (o : IsOrd n ns) (h : IsBack ns ps) : ∀ t ∈ rg n, g0 ps t = pos ns t := by
  intro t ht
  have h1 := rg_mem.mp ht
  have e := g0_at (back_pos o h h1.1 h1.2)
  rw [Int.toNat_of_nonneg h1.1] at e
  exact e
theorem back_back {n : Nat} {ns ps : List Int} (o : IsOrd n ns) (h : IsBack ns ps) : IsBack ps ns := by
  refine ⟨h.1.symm, fun j x hx => ?_⟩
  have hj := (List.getElem?_eq_some_iff.mp hx).1
  rw [h.1, o.len] at hj
  obtain ⟨i, hi, ei, pi⟩ := pos_at o (x := (j : Int)) (by omega) (by omega)
  have e := back_pos o h (x := (j : Int)) (by omega) (by omega)
  rw [Int.toNat_natCast, hx] at e
  have ex : x = (i : Int) := (Option.some.inj e).trans pi
  rw [ex, Int.toNat_natCast]
  exact ei
theorem spot_back {n : Nat} {xs ys ps qs : List Int} (ox : IsOrd n xs) (oy : IsOrd n ys) (hp : IsBack xs ps) (hq : IsBack ys qs) : farSpot ps qs = farSpot xs ys := by
  rw [spot_T ox oy]
  unfold farSpot spotL spT
  rw [filter_len, hp.1, ox.len]
  congr 1
  apply sumN_congr
  intro t ht
  rw [back_g0 ox hp t ht, back_g0 oy hq t ht]
theorem behind_back {n : Nat} {xs ps : List Int} (ox : IsOrd n xs) (hp : IsBack xs ps) : behindL xs ps = rg n := by
  rw [back_list ox hp]
  unfold behindL
  rw [List.map_map]
  have e : (rg n).map ((fun p => xs.getD p.toNat 0) ∘ pos xs) = (rg n).map (fun t => t) := List.map_congr_left fun t ht => g0_pos ox ht
  rw [e, List.map_id']
theorem behind_assoc {n : Nat} {xs ys zs : List Int} (ox : IsOrd n xs) (oy : IsOrd n ys) (oz : IsOrd n zs) : behindL (behindL xs ys) zs = behindL xs (behindL ys zs) := by
  apply List.ext_getElem?
  intro i
  by_cases c : i < n
  · obtain ⟨z, hz, z0, z1⟩ := ord_ix oz c
    obtain ⟨y, hy, y0, y1⟩ := ord_ix oy (j := z.toNat) (by omega)
    obtain ⟨x, hx, _⟩ := ord_ix ox (j := y.toNat) (by omega)
    rw [behind_at hz (behind_at hy hx), behind_at (behind_at hz hy) hx]
  · rw [List.getElem?_eq_none (by rw [behind_len, oz.len]; omega), List.getElem?_eq_none (by rw [behind_len, behind_len, oz.len]; omega)]
end Fo
namespace Fo
open PySem PySem.Spec PyProof.Rows L2
def spChecks : Sp := fun vs H Q _ => ∃ (a b : Addr) (n m : Nat) (ns ms : List Int), vs = [.ref a, .ref b] ∧ H a = some (.lst (ns.map V.int)) ∧ H b = some (.lst (ms.map V.int)) ∧ IsOrd n ns ∧ 1 ≤ n ∧ n ≤ 12 ∧ IsOrd m ms ∧ 1 ≤ m ∧ m ≤ 12 ∧ ∀ H', Same H H' → Q .non H'
def spFit : Sp := fun vs H Q _ => ∃ (a b : Addr) (ns ms : List Int), vs = [.ref a, .ref b] ∧ H a = some (.lst (ns.map V.int)) ∧ H b = some (.lst (ms.map V.int)) ∧ ns.length = ms.length ∧ Q .non H
def spBehind : Sp := fun vs H Q _ => ∃ (a b : Addr) (n : Nat) (ns ms : List Int), vs = [.ref a, .ref b] ∧ H a = some (.lst (ns.map V.int)) ∧ H b = some (.lst (ms.map V.int)) ∧ IsOrd n ns ∧ IsOrd n ms ∧ 1 ≤ n ∧ n ≤ 12 ∧
  ∀ (l : Addr) (H' : Hp), H l = none → H' l = some (.lst ((behindL ns ms).map V.int)) → Same H H' → Q (.ref l) H'
section
variable {P : Program} {w : World} {K : PySem.W.Frag} {mg : Str → Option Value} {base : Heap}
theorem scChecks : FnScope ["one", "other"] ["one", "other"] (defScope s_check_orders) := ⟨rfl, rfl, rfl, by decide +kernel, rfl, by decide +kernel, by decide +kernel⟩
theorem ok_checks {f fC : Addr} {fd fdC : FuncData} {k : Nat} (T : Df K mg "check_orders" s_check_orders ["one", "other"] f fd) (T_check_order : Df K mg "check_order" s_check_order ["thing"] fC fdC) (G_check_order : FnOk P w K mg base CX0 k fC fdC ["thing"] spCheck) : FnOk P w K mg base CX0 (k + 1) f fd ["one", "other"] spChecks := by
  refine T.F.ok scChecks (fun vs H Q E h => ?_) (fun cdv A outer s H vs Q E hr h => ?_)
  · obtain ⟨a, b, n, m, ns, ms, rfl, _⟩ := h
    rfl
  · obtain ⟨a, b, n, m, ns, ms, rfl, ha, hb, o1, n1, n2, o2, m1, m2, q⟩ := h
    refine ⟨_, 
      (pss_cons (ps_expr (pe_call G_check_order hr (by rfl) T_check_order.g T_check_order.F.kp T_check_order.b .nil pass0 (pa_cons (pv 0) pa_nil)))
      (pss_one (ps_expr (pe_call G_check_order hr (by rfl) T_check_order.g T_check_order.F.kp T_check_order.b .nil pass0 (pa_cons (pv 1) pa_nil))))), ?_⟩
    refine ⟨_, rfl, a, n, ns, rfl, ha, o1, n1, n2, fun H1 s1 => ?_⟩
    exact ⟨_, rfl, b, m, ms, rfl, s1 _ _ hb, o2, m1, m2, fun H2 s2 => q H2 (s1.trans s2)⟩
theorem scFit : FnScope ["one", "other"] ["one", "other"] (defScope s_check_fit) := ⟨rfl, rfl, rfl, by decide +kernel, rfl, by decide +kernel, by decide +kernel⟩
theorem ok_fit {f : Addr} {fd : FuncData} {k : Nat} (T : Df K mg "check_fit" s_check_fit ["one", "other"] f fd) (B : Bi mg) : FnOk P w K mg base CX0 (k + 1) f fd ["one", "other"] spFit := by
  refine T.F.ok scFit (fun vs H Q E h => ?_) (fun cdv A outer s H vs Q E hr h => ?_)
  · obtain ⟨a, b, ns, ms, rfl, _⟩ := h
    rfl
  · obtain ⟨a, b, ns, ms, rfl, ha, hb, e, q⟩ := h
    refine ⟨_, 
      (pss_one (ps_if (pt_cmpR op_ne (pe_callB call_len_seq (by rfl) B.len PySem.boot_len (pa_cons (pv 0) pa_nil)) (pe_callB call_len_seq (by rfl) B.len PySem.boot_len (pa_cons (pv 1) pa_nil)) (nomark _))
        (pss_one ps_never)
        pss_nil)), ?_⟩
    refine ⟨_, rfl, a, _, rfl, .inl (SqL.of ha), _, rfl, b, _, rfl, .inl (SqL.of hb), rfl, _, rfl, ?_⟩
    rw [List.length_map, List.length_map, e]
    exact iteNS rfl q
end
end Fo
namespace Fo
open PySem PySem.Spec PyProof.Rows L2
section
variable {P : Program} {w : World} {K : PySem.W.Frag} {mg : Str → Option Value} {base : Heap}
theorem scBack : FnScope ["order"] ["order"] (defScope s_back_of) := ⟨rfl, rfl, rfl, by decide +kernel, rfl, by decide +kernel, by decide +kernel⟩
theorem ok_back {f fC fP : Addr} {fd fdC fdP : FuncData} {k : Nat} (T : Df K mg "back_of" s_back_of ["order"] f fd) (T_check_order : Df K mg "check_order" s_check_order ["thing"] fC fdC) (T_places_in : Df K mg "places_in" s_places_in ["order"] fP fdP) (G_check_order : FnOk P w K mg base CX0 (k + 1) fC fdC ["thing"] spCheck) (B : Bi mg) : FnOk P w K mg base CX0 (k + 2) f fd ["order"] spPlaces := by
  have G_places_in : FnOk P w K mg base CX0 (k + 1) fP fdP ["order"] spPlaces := ok_places T_places_in B
  refine T.F.ok scBack (fun vs H Q E h => ?_) (fun cdv A outer s H vs Q E hr h => ?_)
  · obtain ⟨a, n, ns, rfl, _⟩ := h
    rfl
  · obtain ⟨a, n, ns, rfl, ha, ho, hn1, hn2, q⟩ := h
    refine ⟨_, 
      (pss_cons (ps_expr (pe_call G_check_order hr (by rfl) T_check_order.g T_check_order.F.kp T_check_order.b .nil pass0 (pa_cons (pv 0) pa_nil)))
      (pss_one (ps_ret (pe_call G_places_in hr (by rfl) T_places_in.g T_places_in.F.kp T_places_in.b .nil pass0 (pa_cons (pv 0) pa_nil))))), ?_⟩
    refine ⟨_, rfl, a, n, ns, rfl, ha, ho, hn1, hn2, fun H1 s1 => ?_⟩
    exact ⟨_, rfl, a, n, ns, rfl, s1 _ _ ha, ho, hn1, hn2, fun ps l H2 hb nl hl s2 => q ps l H2 hb (s1.free nl) hl (s1.trans s2)⟩
end
end Fo
namespace Fo
open PySem PySem.Spec PyProof.Rows L2
section
variable {P : Program} {w : World} {K : PySem.W.Frag} {mg : Str → Option Value} {base : Heap}
theorem scBehind : FnScope ["first", "second", "place"] ["first", "second"] (defScope s_order_behind) := ⟨rfl, rfl, rfl, by decide +kernel, rfl, by decide +kernel, by decide +kernel⟩
set_option maxHeartbeats 2000000 in
theorem ok_behind {f fC fF : Addr} {fd fdC fdF : FuncData} {k : Nat} (T : Df K mg "order_behind" s_order_behind ["first", "second"] f fd) (T_check_orders : Df K mg "check_orders" s_check_orders ["one", "other"] fC fdC) (T_check_fit : Df K mg "check_fit" s_check_fit ["one", "other"] fF fdF) (G_check_orders : FnOk P w K mg base CX0 (k + 1) fC fdC ["one", "other"] spChecks) (B : Bi mg) : FnOk P w K mg base CX0 (k + 2) f fd ["first", "second"] spBehind := by
  have G_check_fit : FnOk P w K mg base CX0 (k + 1) fF fdF ["one", "other"] spFit := ok_fit T_check_fit B
  refine T.F.ok scBehind (fun vs H Q E h => ?_) (fun cdv A outer s H vs Q E hr h => ?_)
  · obtain ⟨a, b, n, ns, ms, rfl, _⟩ := h
    rfl
  · obtain ⟨a, b, n, ns, ms, rfl, ha, hb, o1, o2, hn1, hn2, q⟩ := h
    refine ⟨_, 
      (pss_cons (ps_expr (pe_call G_check_orders hr (by rfl) T_check_orders.g T_check_orders.F.kp T_check_orders.b .nil pass0 (pa_cons (pv 0) (pa_cons (pv 1) pa_nil))))
      (pss_cons (ps_expr (pe_call G_check_fit hr (by rfl) T_check_fit.g T_check_fit.F.kp T_check_fit.b .nil pass0 (pa_cons (pv 0) (pa_cons (pv 1) pa_nil))))
      (pss_one (ps_ret (pe_lc (own := [("place", 2)]) (g := (gName 2)) (tt := tYes) (te := (tOp (rIxL K) (tVar 0) (tVar 2))) rfl scBehind.nd (pi_list (pv 1)) (blkOk_by (N := ["first", "second", "place"]) (sc := defScope s_order_behind) (by decide +kernel)) (fun _ _ _ _ _ => (pg_name (i := 2) scBehind.nd rfl (.inl rfl))) (fun _ _ _ _ _ => pts_nil) (fun _ _ _ _ _ => (pe_ix ix_list (pv 0) (pv 2) (fun _ _ => rfl)))))))), ?_⟩
    refine ⟨_, rfl, _, rfl, a, b, n, n, ns, ms, rfl, ha, hb, o1, hn1, hn2, o2, hn1, hn2, fun H1 s1 => ?_⟩
    refine ⟨_, rfl, _, rfl, a, b, ns, ms, rfl, s1 _ _ ha, s1 _ _ hb, by rw [o1.len, o2.len], ?_⟩
    refine ⟨_, rfl, b, rfl, ⟨_, SqL.of (s1 _ _ hb)⟩, fun l nl => ?_⟩
    have nHl : H l = none := s1.free nl
    refine lc_list (K := K) (a := b) (xs := ms.map V.int) (fun i H3 => H3 l = some (.lst (((behindL ns ms).take i).map V.int)) ∧ Same H H3) ⟨upd_same, s1.trans (same_new nl)⟩ (fun i H3 _ hP => SqL.of (hP.2 _ _ hb)) (fun i x H3 hx hP => ?_) (fun H3 hP => ?_)
    · obtain ⟨p, ep, rfl⟩ := int_at_inv hx
      obtain ⟨hl3, sm⟩ := hP
      have hp := o2.mem (List.mem_of_getElem? ep)
      obtain ⟨y, ey, _⟩ := ord_ix o1 (j := p.toNat) (by omega)
      have hi := (List.getElem?_eq_some_iff.mp ep).1
      rw [o2.len] at hi
      refine ⟨rfl, _, rfl, _, rfl, a, _, _, _, rfl, rfl, SqL.of (sm _ _ ha), at_of (j := p.toNat) (by omega) (int_at ey), _, hl3, line_lt (by rw [List.length_map, List.length_take]; omega), ?_, fun c o e => ?_⟩
      · rw [upd_same, take_more (behind_at ep ey), List.map_append]
        rfl
      · rw [upd_ne (ne_of_none e nHl)]
        exact sm _ _ e
    · obtain ⟨hl3, sm⟩ := hP
      rw [List.take_of_length_le (by rw [behind_len, List.length_map]; exact Nat.le_refl _)] at hl3
      exact q l H3 nHl hl3 sm
end
end Fo
namespace Fo
open PySem PySem.Spec PyProof.Rows L2
section
variable {P : Program} {w : World} {K : PySem.W.Frag} {mg : Str → Option Value} {base : Heap}
theorem scFar : FnScope ["way", "one", "other"] ["way", "one", "other"] (defScope s_how_far) := ⟨rfl, rfl, rfl, by decide +kernel, rfl, by decide +kernel, by decide +kernel⟩
theorem ok_far {f f1 f2 f3 f4 : Addr} {fd d1 d2 d3 d4 : FuncData} {k : Nat} (T : Df K mg "how_far" s_how_far ["way", "one", "other"] f fd) (T_check_orders : Df K mg "check_orders" s_check_orders ["one", "other"] f1 d1) (T_check_way : Df K mg "check_way" s_check_way ["thing"] f2 d2) (T_check_fit : Df K mg "check_fit" s_check_fit ["one", "other"] f3 d3) (T_known_far : Df K mg "known_far" s_known_far ["way", "one", "other"] f4 d4)
    (G_check_orders : FnOk P w K mg base CX0 k f1 d1 ["one", "other"] spChecks) (G_check_way : FnOk P w K mg base CX0 k f2 d2 ["thing"] spWay) (G_check_fit : FnOk P w K mg base CX0 k f3 d3 ["one", "other"] spFit) (G_known_far : FnOk P w K mg base CX0 k f4 d4 ["way", "one", "other"] spFar) :
    FnOk P w K mg base CX0 (k + 1) f fd ["way", "one", "other"] spFar := by
  refine T.F.ok scFar (fun vs H Q E h => ?_) (fun cdv A outer s H vs Q E hr h => ?_)
  · obtain ⟨z, a, b, n, xs, ys, rfl, _⟩ := h
    rfl
  · obtain ⟨z, a, b, n, xs, ys, rfl, hz, ha, hb, ox, oy, hn1, hn2, q⟩ := h
    refine ⟨_, 
      (pss_cons (ps_expr (pe_call G_check_orders hr (by rfl) T_check_orders.g T_check_orders.F.kp T_check_orders.b .nil pass0 (pa_cons (pv 1) (pa_cons (pv 2) pa_nil))))
      (pss_cons (ps_expr (pe_call G_check_way hr (by rfl) T_check_way.g T_check_way.F.kp T_check_way.b .nil pass0 (pa_cons (pv 0) pa_nil)))
      (pss_cons (ps_expr (pe_call G_check_fit hr (by rfl) T_check_fit.g T_check_fit.F.kp T_check_fit.b .nil pass0 (pa_cons (pv 1) (pa_cons (pv 2) pa_nil))))
      (pss_one (ps_ret (pe_call G_known_far hr (by rfl) T_known_far.g T_known_far.F.kp T_known_far.b .nil pass0 (pa_cons (pv 0) (pa_cons (pv 1) (pa_cons (pv 2) pa_nil))))))))), ?_⟩
    refine ⟨_, rfl, _, rfl, a, b, n, n, xs, ys, rfl, ha, hb, ox, hn1, hn2, oy, hn1, hn2, fun H1 s1 => ?_⟩
    refine ⟨_, rfl, z, rfl, hz, ?_⟩
    refine ⟨_, rfl, _, rfl, a, b, xs, ys, rfl, s1 _ _ ha, s1 _ _ hb, by rw [ox.len, oy.len], ?_⟩
    exact ⟨_, rfl, _, rfl, _, rfl, z, a, b, n, xs, ys, rfl, hz, s1 _ _ ha, s1 _ _ hb, ox, oy, hn1, hn2, fun H2 s2 => q H2 (s1.trans s2)⟩
end
end Fo
namespace Fo
open PySem PySem.Spec PyProof.Rows L2
def turnedV : Option Nat → V
  | none => .non
  | some p => .int p
def spTurned : Sp := fun vs H Q _ => ∃ (a : Addr) (s : List Int), vs = [.ref a] ∧ H a = some (.lst (s.map V.int)) ∧ s.length ≤ 1000 ∧ 1 ≤ s.length ∧ Q (turnedV (firstDesc s)) H
def spShort : Sp := fun vs H Q _ => ∃ (a b : Addr) (n : Nat) (xs ys : List Int), two vs H a b n xs ys ∧ ∀ (l : Addr) (H' : Hp), H l = none → H' l = some (.lst ((walkL (seatsL xs ys)).map V.int)) → Same H H' → Q (.ref l) H'
section
variable {P : Program} {w : World} {K : PySem.W.Frag} {mg : Str → Option Value} {base : Heap}
theorem scTurned : FnScope ["seats", "place"] ["seats"] (defScope s_first_turned) := ⟨rfl, rfl, rfl, by decide +kernel, rfl, by decide +kernel, by decide +kernel⟩
set_option maxHeartbeats 2000000 in
theorem ok_turned {f : Addr} {fd : FuncData} {k : Nat} (T : Df K mg "first_turned" s_first_turned ["seats"] f fd) (B : Bi mg) : FnOk P w K mg base CX0 (k + 1) f fd ["seats"] spTurned := by
  refine T.F.ok scTurned (fun vs H Q E h => ?_) (fun cdv A outer s H vs Q E hr h => ?_)
  · obtain ⟨a, t, rfl, _⟩ := h
    rfl
  · obtain ⟨a, t, rfl, ha, hl, hl1, q⟩ := h
    have hlm : (t.map V.int).length = t.length := List.length_map _
    refine ⟨_, 
      (pss_cons (ps_for PassesOwn.never rfl (pi_range1 (by rfl) B.range (pa_cons (pe_op op_sub (pe_callB call_len_seq (by rfl) B.len PySem.boot_len (pa_cons (pv 0) pa_nil)) pe_int) pa_nil)) (pg_name (i := 1) scTurned.nd rfl (.inl rfl))
        (pss_one (ps_if (pt_cmpR op_gt (pe_ix ix_list (pv 0) (pv 1) (fun _ _ => rfl)) (pe_ix ix_list (pv 0) (pe_op op_add (pv 1) pe_int) (fun _ _ => rfl)) (nomark _))
          (pss_one (ps_ret (pv 1)))
          pss_nil)))
      (pss_one (ps_ret pe_non))), ?_⟩
    refine ⟨_, rfl, a, _, rfl, .inl (SqL.of ha), _, 1, rfl, rfl, _, rfl, by rw [hlm]; omega, by rw [hlm]; omega, ?_⟩
    refine for_range (n := (((t.map V.int).length : Nat) - (1 : Int)).toNat) (fun i σ H3 => ∃ y1 : Option V, σ = [some (.ref a), y1] ∧ H3 = H ∧ ∀ (j : Nat) (u v : Int), j < i → t[j]? = some u → t[j + 1]? = some v → u ≤ v)
      ⟨_, rfl, rfl, fun j u v hj => absurd hj (Nat.not_lt_zero _)⟩ (fun i σ H3 hi hP => ?_) (fun σ H3 hP => ?_)
    · obtain ⟨y1, rfl, rfl, hle⟩ := hP
      rw [hlm] at hi
      obtain ⟨x, ex⟩ : ∃ x, t[i]? = some x := ⟨t[i]'(by omega), List.getElem?_eq_getElem (by omega)⟩
      obtain ⟨y, ey⟩ : ∃ y, t[i + 1]? = some y := ⟨t[i + 1]'(by omega), List.getElem?_eq_getElem (by omega)⟩
      refine ⟨_, rfl, _, rfl, a, _, _, _, rfl, rfl, SqL.of ha, at_of (j := i) (by omega) (int_at ex), _, rfl, _, rfl, _, 1, rfl, rfl, a, _, _, _, rfl, rfl, SqL.of ha, at_of (j := i + 1) (by omega) (int_at ey), x, y, rfl, rfl, _, rfl, ite2 (fun c => ?_) (fun c => ?_)⟩
      · have hlt : y < x := of_decide_eq_true c
        rw [fd_some hle ex ey hlt] at q
        refine ⟨_, rfl, ?_⟩
        rw [Int.zero_add]
        exact q
      · refine ⟨_, rfl, rfl, fun j u v hj hu hv => ?_⟩
        by_cases d : j = i
        · subst d
          have e1 : x = u := Option.some.inj (ex.symm.trans hu)
          have e2 : y = v := Option.some.inj (ey.symm.trans hv)
          have hn : ¬ y < x := fun z => c (decide_eq_true z)
          omega
        · exact hle j u v (by omega) hu hv
    · obtain ⟨y1, rfl, rfl, hle⟩ := hP
      rw [fd_none (fun j u v hu hv => hle j u v (by
        have := (List.getElem?_eq_some_iff.mp hv).1
        rw [hlm]
        omega) hu hv)] at q
      exact q
theorem scShort : FnScope ["one", "other", "seats", "walk", "place"] ["one", "other"] (defScope s_short_walk) := ⟨rfl, rfl, rfl, by decide +kernel, rfl, by decide +kernel, by decide +kernel⟩
set_option maxHeartbeats 2000000 in
theorem ok_short {f f1 f2 f3 f4 f5 : Addr} {fd d1 d2 d3 d4 d5 : FuncData} {k : Nat} (T : Df K mg "short_walk" s_short_walk ["one", "other"] f fd) (T_check_orders : Df K mg "check_orders" s_check_orders ["one", "other"] f1 d1) (T_check_fit : Df K mg "check_fit" s_check_fit ["one", "other"] f2 d2) (T_seats_in : Df K mg "seats_in" s_seats_in ["one", "other"] f3 d3) (T_first_turned : Df K mg "first_turned" s_first_turned ["seats"] f4 d4) (T_exchange : Df K mg "exchange" s_exchange ["row", "place"] f5 d5)
    (G_check_orders : FnOk P w K mg base CX0 (k + 1) f1 d1 ["one", "other"] spChecks) (G_seats_in : FnOk P w K mg base CX0 (k + 1) f3 d3 ["one", "other"] spSeats) (B : Bi mg) : FnOk P w K mg base CX0 (k + 2) f fd ["one", "other"] spShort := by
  have G_check_fit : FnOk P w K mg base CX0 (k + 1) f2 d2 ["one", "other"] spFit := ok_fit T_check_fit B
  have G_first_turned : FnOk P w K mg base CX0 (k + 1) f4 d4 ["seats"] spTurned := ok_turned T_first_turned B
  have G_exchange : FnOk P w K mg base CX0 (k + 1) f5 d5 ["row", "place"] spExch := ok_exch T_exchange
  refine T.F.ok scShort (fun vs H Q E h => ?_) (fun cdv A outer s H vs Q E hr h => ?_)
  · obtain ⟨a, b, n, xs, ys, ⟨rfl, _⟩, _⟩ := h
    rfl
  · obtain ⟨a, b, n, xs, ys, ⟨rfl, ha, hb, ox, oy, hn1, hn2⟩, q⟩ := h
    refine ⟨_, 
      (pss_cons (ps_expr (pe_call G_check_orders hr (by rfl) T_check_orders.g T_check_orders.F.kp T_check_orders.b .nil pass0 (pa_cons (pv 0) (pa_cons (pv 1) pa_nil))))
      (pss_cons (ps_expr (pe_call G_check_fit hr (by rfl) T_check_fit.g T_check_fit.F.kp T_check_fit.b .nil pass0 (pa_cons (pv 0) (pa_cons (pv 1) pa_nil))))
      (pss_cons (ps_set (i := 2) scShort.nd rfl (.inl rfl) (pe_call G_seats_in hr (by rfl) T_seats_in.g T_seats_in.F.kp T_seats_in.b .nil pass0 (pa_cons (pv 0) (pa_cons (pv 1) pa_nil))))
      (pss_cons (ps_set (i := 3) scShort.nd rfl (.inl rfl) (pe_lst pa_nil))
      (pss_cons (ps_set (i := 4) scShort.nd rfl (.inl rfl) (pe_call G_first_turned hr (by rfl) T_first_turned.g T_first_turned.F.kp T_first_turned.b .nil pass0 (pa_cons (pv 2) pa_nil)))
      (pss_cons (ps_while PassesOwn.never (pt_cmpR op_notN (pv 4) pe_non (nomark _))
        (pss_cons (ps_expr (pe_call G_exchange hr (by rfl) T_exchange.g T_exchange.F.kp T_exchange.b .nil pass0 (pa_cons (pv 2) (pa_cons (pv 4) pa_nil))))
        (pss_cons (ps_expr (pe_bm PySem.F.plainAttrs_list PySem.F.slot_list_append PySem.F.type_list_append mt_append (pv 3) (pa_cons (pv 4) pa_nil)))
        (pss_one (ps_set (i := 4) scShort.nd rfl (.inl rfl) (pe_call G_first_turned hr (by rfl) T_first_turned.g T_first_turned.F.kp T_first_turned.b .nil pass0 (pa_cons (pv 2) pa_nil)))))))
      (pss_one (ps_ret (pv 3))))))))), ?_⟩
    refine ⟨_, rfl, _, rfl, a, b, n, n, xs, ys, rfl, ha, hb, ox, hn1, hn2, oy, hn1, hn2, fun H1 s1 => ?_⟩
    refine ⟨_, rfl, _, rfl, a, b, xs, ys, rfl, s1 _ _ ha, s1 _ _ hb, by rw [ox.len, oy.len], ?_⟩
    refine ⟨_, rfl, _, rfl, a, b, n, xs, ys, ⟨rfl, s1 _ _ ha, s1 _ _ hb, ox, oy, hn1, hn2⟩, fun sd H2 nsd hsd s2 => ?_⟩
    have s12 := s1.trans s2
    have nHsd : H sd = none := s1.free nsd
    refine ⟨Nat.zero_le _, fun wl nwl => ?_⟩
    have s3 := s12.trans (same_new (o := .lst []) nwl)
    have nHwl : H wl = none := s12.free nwl
    have nsw : sd ≠ wl := ne_of_none hsd nwl
    have hsd3 := same_new (o := .lst []) nwl _ _ hsd
    have hls : (seatsL xs ys).length = n := by rw [seats_len, ox.len]
    refine ⟨_, rfl, sd, seatsL xs ys, rfl, hsd3, by omega, by omega, ?_⟩
    refine ⟨fun m σ H4 => ∃ (t : List Int) (fs : List Int), σ = [some (.ref a), some (.ref b), some (.ref sd), some (.ref wl), some (turnedV (firstDesc t))] ∧ m = invR t ∧ t.length = n ∧ fs ++ walkL t = walkL (seatsL xs ys) ∧ fs.length + invR t = invR (seatsL xs ys) ∧ H4 sd = some (.lst (t.map V.int)) ∧ H4 wl = some (.lst (fs.map V.int)) ∧ Same H H4,
      ⟨_, seatsL xs ys, [], rfl, rfl, hls, rfl, by rw [List.length_nil]; omega, hsd3, upd_same, s3⟩, fun m σ H4 hW => ?_⟩
    obtain ⟨t, fs, rfl, rfl, el, ew, ei, hs4, hw4, sm⟩ := hW
    cases ef : firstDesc t with
    | none =>
      refine ⟨_, rfl, rfl, _, rfl, ?_⟩
      refine iteF ⟨_, rfl, q wl H4 nHwl ?_ sm⟩
      rw [walk_none ef, List.append_nil] at ew
      rw [← ew]
      exact hw4
    | some p =>
      obtain ⟨x, y, hx, hy, hlt, _⟩ := fd_at ef
      have hp := (List.getElem?_eq_some_iff.mp hy).1
      have hinv := invR_sw hx hy hlt
      refine ⟨_, rfl, rfl, _, rfl, ?_⟩
      refine iteT ⟨fun σ' H' => ∃ (t' fs' : List Int), σ' = [some (.ref a), some (.ref b), some (.ref sd), some (.ref wl), some (turnedV (firstDesc t'))] ∧ invR t' < invR t ∧ t'.length = n ∧ fs' ++ walkL t' = walkL (seatsL xs ys) ∧ fs'.length + invR t' = invR (seatsL xs ys) ∧ H' sd = some (.lst (t'.map V.int)) ∧ H' wl = some (.lst (fs'.map V.int)) ∧ Same H H', fun σ' H' hN => ?_, ?_⟩
      · obtain ⟨t', fs', e, lt, r⟩ := hN
        exact ⟨invR t', lt, t', fs', e, rfl, r⟩
      · refine ⟨_, rfl, _, rfl, sd, (p : Int), t, rfl, hs4, by omega, by omega, fun H5 h5 kp => ?_⟩
        rw [Int.toNat_natCast] at h5
        have hw5 := kp wl _ nsw.symm hw4
        have hbig : fs.length < 16777216 := by
          have := invR_len (seatsL xs ys)
          rw [hls] at this
          have h2 : n * n ≤ 12 * 12 := Nat.mul_le_mul hn2 hn2
          omega
        refine ⟨_, rfl, .inl ⟨rfl, _, SqL.of hw5⟩, _, rfl, wl, _, _, rfl, rfl, hw5, line_lt (by rw [List.length_map]; exact hbig), ?_⟩
        have hs6 : (upd H5 wl (.lst (fs.map V.int ++ [.int (p : Int)]))) sd = some (.lst ((sw t p).map V.int)) := by rw [upd_ne nsw]; exact h5
        refine ⟨_, rfl, sd, sw t p, rfl, hs6, by rw [sw_len]; omega, by rw [sw_len]; omega, ?_⟩
        refine ⟨sw t p, fs ++ [(p : Int)], rfl, by omega, by rw [sw_len]; exact el, ?_, ?_, hs6, by rw [upd_same, List.map_append]; rfl, fun c o e => ?_⟩
        · rw [List.append_assoc]
          show fs ++ ((p : Int) :: walkL (sw t p)) = _
          rw [← walk_some ef]
          exact ew
        · rw [List.length_append, List.length_singleton]
          omega
        · rw [upd_ne (ne_of_none e nHwl)]
          exact kp c o (ne_of_none e nHsd) (sm _ _ e)
end
end Fo
namespace Fo
open PySem PySem.Spec PyProof.Rows L2
/-! ### walks -/
def IsWalk (n : Nat) (ws : List Int) : Prop := ∀ p ∈ ws, 0 ≤ p ∧ p + 1 < n
def spIsWalk : Sp := fun vs H Q _ => ∃ (b : Addr) (n : Nat) (ws : List Int), vs = [.ref b, .int n] ∧ H b = some (.lst (ws.map V.int)) ∧ IsWalk n ws ∧ ws.length ≤ 1000 ∧ ∀ H', Same H H' → Q (.bl true) H'
def spWalkEnd : Sp := fun vs H Q _ => ∃ (a b : Addr) (n : Nat) (ns ws : List Int), vs = [.ref a, .ref b] ∧ H a = some (.lst (ns.map V.int)) ∧ H b = some (.lst (ws.map V.int)) ∧ IsOrd n ns ∧ 1 ≤ n ∧ n ≤ 12 ∧ IsWalk n ws ∧ ws.length ≤ 1000 ∧
  ∀ (H' : Hp) (l : Addr), Same H H' → H l = none → H' l = some (.lst ((wEnd ns ws).map V.int)) → Q (.ref l) H'
section
variable {P : Program} {w : World} {K : PySem.W.Frag} {mg : Str → Option Value} {base : Heap}
theorem scIsWalk : FnScope ["thing", "n", "place"] ["thing", "n"] (defScope s_is_walk) := ⟨rfl, rfl, rfl, by decide +kernel, rfl, by decide +kernel, by decide +kernel⟩
set_option maxHeartbeats 2000000 in
theorem ok_is_walk {f fW : Addr} {fd fdW : FuncData} {k : Nat} (T : Df K mg "is_walk" s_is_walk ["thing", "n"] f fd) (TW : Df K mg "is_whole" s_is_whole ["thing"] fW fdW) (B : Bi mg) : FnOk P w K mg base CX0 (k + 2) f fd ["thing", "n"] spIsWalk := by
  have GW : FnOk P w K mg base CX0 (k + 1) fW fdW ["thing"] spWhole := ok_whole TW B
  refine T.F.ok scIsWalk (fun vs H Q E h => ?_) (fun cdv A outer s H vs Q E hr h => ?_)
  · obtain ⟨b, n, ws, rfl, _⟩ := h
    rfl
  · obtain ⟨a, n, ws, rfl, hl, hw, hlen, q⟩ := h
    refine ⟨_, pss_cons (ps_if (pt_not (pt_val (pe_callB call_isi (by rfl) B.isinstance (by decide +kernel) (pa_cons (pv 0) (pa_cons (pe_bltn (v := .ty "list") (by rfl) B.list (by decide +kernel) rfl) pa_nil))))) (pss_one (ps_ret pe_bl)) pss_nil)
      (pss_one (ps_ret (pe_callB (cr_all rfl) (by rfl) B.all (by decide +kernel) (pa_cons (pe_lc (own := [("place", 2)]) (g := gName 2) (tt := tYes) (te := tAndV (tCall spWhole [] E0 (tCons (tVar 2) tNil)) (tChain (rI0 fun i j => .bl (decide (i ≤ j))) (rI0 fun i j => .bl (decide (i < j))) (tC (.int 0)) (tVar 2) (tOp (rI0 fun i j => .int (i - j)) (tVar 1) (tC (.int 1))))) rfl scIsWalk.nd (pi_list (pv 0)) (blkOk_by (N := ["thing", "n", "place"]) (sc := defScope s_is_walk) (by decide +kernel)) (fun _ _ _ _ _ => pg_name (i := 2) scIsWalk.nd rfl (.inl rfl)) (fun _ _ _ _ _ => pts_nil)
          (fun _ _ _ _ _ => pe_and (pe_call GW hr (by rfl) TW.g TW.F.kp TW.b .nil pass0 (pa_cons (pv 2) pa_nil)) (pe_one (pe_chain op_le op_lt pe_int (pv 2) (pe_op op_sub (pv 1) pe_int))))) pa_nil)))), ?_⟩
    refine ⟨_, rfl, _, _, _, _, true, rfl, .ty _, .base (.lst hl), kit_ty (by decide +kernel), true, rfl, iteF ?_⟩
    refine ⟨_, rfl, a, rfl, ⟨_, SqL.of hl⟩, fun p np => ?_⟩
    refine lc_list (K := K) (a := a) (xs := ws.map V.int) (fun i H3 => H3 p = some (.lst ((List.replicate i true).map V.bl)) ∧ Same H H3) ⟨upd_same, same_new np⟩ (fun i H3 _ hP => SqL.of (hP.2 _ _ hl)) (fun i x H3 hx hP => ?_) (fun H3 hP => ?_)
    · obtain ⟨y, ey, rfl⟩ := int_at_inv hx
      obtain ⟨hp3, sm⟩ := hP
      have hy := hw y (List.mem_of_getElem? ey)
      refine ⟨rfl, _, rfl, y, rfl, _, rfl, iteT ?_⟩
      refine ⟨_, rfl, 0, y, rfl, rfl, _, rfl, ?_⟩
      rw [decide_eq_true hy.1]
      refine iteT ⟨_, rfl, (n : Int), 1, rfl, rfl, y, _, rfl, rfl, ?_⟩
      dsimp only
      rw [decide_eq_true (show y < (n : Int) - 1 by omega)]
      refine ⟨_, hp3, line_lt (by
        rw [List.length_map, List.length_replicate]
        have := (List.getElem?_eq_some_iff.mp ey).1
        omega), ?_, fun b o e => ?_⟩
      · rw [upd_same, List.replicate_succ', List.map_append]
        rfl
      · rw [upd_ne (ne_of_none e np)]
        exact sm _ _ e
    · obtain ⟨hp3, sm⟩ := hP
      refine ⟨p, _, rfl, SqL.of hp3, ?_⟩
      rw [all_true]
      exact q H3 sm
theorem scWalkEnd : FnScope ["order", "walk", "end", "place"] ["order", "walk"] (defScope s_walk_end) := ⟨rfl, rfl, rfl, by decide +kernel, rfl, by decide +kernel, by decide +kernel⟩
set_option maxHeartbeats 2000000 in
theorem ok_walk_end {f fC fO fW fI fE : Addr} {fd fdC fdO fdW fdI fdE : FuncData} {k : Nat} {t : Tok} (T : Df K mg "walk_end" s_walk_end ["order", "walk"] f fd) (TC : Df K mg "check_order" s_check_order ["thing"] fC fdC) (TO : Df K mg "is_order" s_is_order ["thing"] fO fdO) (TW : Df K mg "is_whole" s_is_whole ["thing"] fW fdW)
    (TI : Df K mg "is_walk" s_is_walk ["thing", "n"] fI fdI) (TE : Df K mg "exchange" s_exchange ["row", "place"] fE fdE) (B : Bi mg) (mM : mg "MOST_THINGS" = some (.int 12 t)) : FnOk P w K mg base CX0 (k + 4) f fd ["order", "walk"] spWalkEnd := by
  have GC : FnOk P w K mg base CX0 (k + 3) fC fdC ["thing"] spCheck := ok_check TC TO TW B mM
  have GI : FnOk P w K mg base CX0 (k + 3) fI fdI ["thing", "n"] spIsWalk := ok_is_walk (k := k + 1) TI TW B
  have GE : FnOk P w K mg base CX0 (k + 3) fE fdE ["row", "place"] spExch := ok_exch (k := k + 2) TE
  refine T.F.ok scWalkEnd (fun vs H Q E h => ?_) (fun cdv A outer s H vs Q E hr h => ?_)
  · obtain ⟨a, b, n, ns, ws, rfl, _⟩ := h
    rfl
  · obtain ⟨a, b, n, ns, ws, rfl, ha, hb, ho, hn1, hn2, hw, hlen, q⟩ := h
    have hlm : (ns.map V.int).length = n := by rw [List.length_map, ho.len]
    refine ⟨_, pss_cons (ps_expr (pe_call GC hr (by rfl) TC.g TC.F.kp TC.b .nil pass0 (pa_cons (pv 0) pa_nil)))
      (pss_cons (ps_if (pt_not (pt_val (pe_call GI hr (by rfl) TI.g TI.F.kp TI.b .nil pass0 (pa_cons (pv 1) (pa_cons (pe_callB call_len_seq (by rfl) B.len PySem.boot_len (pa_cons (pv 0) pa_nil)) pa_nil))))) (pss_one ps_never) pss_nil)
      (pss_cons (ps_set (i := 2) scWalkEnd.nd rfl (.inl rfl) (pe_callTy call_list_of (by rfl) B.list (by decide +kernel) (pa_cons (pv 0) pa_nil)))
      (pss_cons (ps_for PassesOwn.never rfl (pi_list (pv 1)) (pg_name (i := 3) scWalkEnd.nd rfl (.inl rfl)) (pss_one (ps_expr (pe_call GE hr (by rfl) TE.g TE.F.kp TE.b .nil pass0 (pa_cons (pv 2) (pa_cons (pv 3) pa_nil))))))
      (pss_one (ps_ret (pv 2)))))), ?_⟩
    refine ⟨_, rfl, a, n, ns, rfl, ha, ho, hn1, hn2, fun H1 s1 => ?_⟩
    refine ⟨_, rfl, _, rfl, a, _, rfl, .inl (SqL.of (s1 _ _ ha)), b, n, ws, by rw [hlm]; rfl, s1 _ _ hb, hw, hlen, fun H2 s2 => ⟨_, rfl, iteF ?_⟩⟩
    have s12 := s1.trans s2
    refine ⟨_, rfl, a, _, rfl, .inl (SqL.of (s12 _ _ ha)), fun l nl => ?_⟩
    have s3 := s12.trans (same_new (o := .lst (ns.map V.int)) nl)
    have nHl : H l = none := s12.free nl
    have nbl : b ≠ l := ne_of_none hb nHl
    refine ⟨_, rfl, b, rfl, ⟨_, SqL.of (s3 _ _ hb)⟩, ?_⟩
    refine for_list (xs := ws.map V.int) (fun i σ H3 => ∃ y3, σ = [some (.ref a), some (.ref b), some (.ref l), y3] ∧ H3 l = some (.lst ((wEnd ns (ws.take i)).map V.int)) ∧ Same H H3)
      ⟨none, rfl, upd_same, s3⟩ (fun i σ H3 _ hP => by obtain ⟨y3, _, _, sm⟩ := hP; exact SqL.of (sm _ _ hb)) (fun i x σ H3 hx hP => ?_) (fun σ H3 hP => ?_)
    · obtain ⟨y3, rfl, hl3, sm⟩ := hP
      obtain ⟨p, ep, rfl⟩ := int_at_inv hx
      have hp := hw p (List.mem_of_getElem? ep)
      have ho3 : IsOrd n (wEnd ns (ws.take i)) := wEnd_ord ho fun z hz => hw z (List.mem_of_mem_take hz)
      refine ⟨_, rfl, _, rfl, l, p, _, rfl, hl3, hp.1, by rw [ho3.len]; exact hp.2, fun H4 h4 kp => ⟨_, rfl, by rw [wEnd_more ep]; exact h4, fun c o e => ?_⟩⟩
      exact kp c o (ne_of_none e nHl) (sm _ _ e)
    · obtain ⟨y3, rfl, hl3, sm⟩ := hP
      rw [List.length_map, List.take_length] at hl3
      exact ⟨_, rfl, q H3 l sm nHl hl3⟩
end
end Fo
namespace Fo
open PySem PySem.Spec PyProof.Rows L2
def spFol : Sp := fun vs H Q _ => ∃ (a b : Addr) (n : Nat) (xs ys : List Int), two vs H a b n xs ys ∧ ∀ (l : Addr) (H' : Hp), H l = none → H' l = some (.lst (((rg n).map (fol xs ys)).map V.int)) → Same H H' → Q (.ref l) H'
def spRound : Sp := fun vs H Q _ => ∃ (t : Int) (l : Addr) (n : Nat) (f : Int → Int), vs = [.int t, .ref l] ∧ H l = some (.lst (((rg n).map f).map V.int)) ∧ Bij n f ∧ t ∈ rg n ∧ n ≤ 12 ∧ ∀ (r : Addr) (H' : Hp), H r = none → H' r = some (.lst ((cyc n f t).map V.int)) → Same H H' → Q (.ref r) H'
def spRounds : Sp := fun vs H Q _ => ∃ (a b : Addr) (n : Nat) (xs ys : List Int), two vs H a b n xs ys ∧ ∀ (l : Addr) (as : List Addr) (H' : Hp), H l = none → H' l = some (.lst (as.map V.ref)) → LL H' as (roundsL n (fol xs ys)) → (∀ a ∈ as, H a = none ∧ a ≠ l) → as.Nodup → Same H H' → Q (.ref l) H'
def stepsI (n : Nat) (f : Int → Int) : Int := ((roundsL n f).map fun r => (r.length : Int) - 1).sum
def spSteps : Sp := fun vs H Q _ => ∃ (a b : Addr) (n : Nat) (xs ys : List Int), two vs H a b n xs ys ∧ ∀ (H' : Hp), Same H H' → Q (.int (stepsI n (fol xs ys))) H'
theorem rg_at {n : Nat} {f : Int → Int} {t : Int} (h : t ∈ rg n) : ((rg n).map f)[t.toNat]? = some (f t) := by
  have hb := rg_mem.mp h
  unfold rg
  rw [List.map_map, List.getElem?_map, List.getElem?_range (by omega)]
  show some (f ((t.toNat : Nat) : Int)) = some (f t)
  rw [Int.toNat_of_nonneg hb.1]
theorem rounds_len {n : Nat} {f : Int → Int} : (roundsL n f).length ≤ n := by
  unfold roundsL
  rw [List.length_map]
  have := List.length_filter_le (told n f) (rg n)
  rw [rg_len] at this
  exact this
section
variable {P : Program} {w : World} {K : PySem.W.Frag} {mg : Str → Option Value} {base : Heap}
theorem scFol : FnScope ["one", "other", "followers", "follower", "thing"] ["one", "other"] (defScope s_followers_between) := ⟨rfl, rfl, rfl, by decide +kernel, rfl, by decide +kernel, by decide +kernel⟩
set_option maxHeartbeats 2000000 in
theorem ok_fol {f : Addr} {fd : FuncData} {k : Nat} (T : Df K mg "followers_between" s_followers_between ["one", "other"] f fd) (B : Bi mg) : FnOk P w K mg base CX0 (k + 1) f fd ["one", "other"] spFol := by
  refine T.F.ok scFol (fun vs H Q E h => ?_) (fun cdv A outer s H vs Q E hr h => ?_)
  · obtain ⟨a, b, n, xs, ys, ⟨rfl, _⟩, _⟩ := h
    rfl
  · obtain ⟨a, b, n, xs, ys, ⟨rfl, ha, hb, ox, oy, hn1, hn2⟩, q⟩ := h
    have hxl : (xs.map V.int).length = n := by rw [List.length_map, ox.len]
    have hyl : (ys.map V.int).length = n := by rw [List.length_map, oy.len]
    have hz : ∀ m : Nat, (List.replicate m [V.int 0]).flatten = (List.replicate m (0 : Int)).map V.int := by
      intro m
      induction m with
      | zero => rfl
      | succ m ih => rw [List.replicate_succ, List.replicate_succ, List.flatten_cons, ih]; rfl
    refine ⟨_, 
      (pss_cons (ps_set (i := 2) scFol.nd rfl (.inl rfl) (pe_op op_rep (pe_lst (pa_cons pe_int pa_nil)) (pe_callB call_len_seq (by rfl) B.len PySem.boot_len (pa_cons (pv 0) pa_nil))))
      (pss_cons (ps_for PassesOwn.never rfl (pi_zip (by rfl) B.zip (pa_cons (pv 0) (pa_cons (pv 1) pa_nil))) (pg_tup (by rfl) (pgs_cons (pg_name (i := 3) scFol.nd rfl (.inl rfl)) (pgs_cons (pg_name (i := 4) scFol.nd rfl (.inl rfl)) pgs_nil)))
        (pss_one (ps_asg (pv 3) (pg_sub (pv 2) (pv 4) set_list))))
      (pss_one (ps_ret (pv 2))))), ?_⟩
    refine ⟨line_small (by show 1 ≤ 16777216; decide), fun z nz => ?_⟩
    have s1 := same_new (o := .lst [.int 0]) nz
    refine ⟨_, rfl, a, _, rfl, .inl (SqL.of (s1 _ _ ha)), z, _, _, rfl, rfl, upd_same, by omega, by rw [hxl]; omega, line_small (by rw [hxl, Int.toNat_natCast]; show 1 * n ≤ _; omega), fun l nl => ?_⟩
    have s2 := s1.trans (same_new (o := .lst (List.replicate (((xs.map V.int).length : Nat) : Int).toNat [V.int 0]).flatten) nl)
    have nHl : H l = none := s1.free nl
    refine ⟨_, rfl, _, rfl, a, b, _, _, rfl, SqL.of (s2 _ _ ha), SqL.of (s2 _ _ hb), ?_⟩
    refine RZ.for_zipL (xs := xs.map V.int) (ys := ys.map V.int) (by rw [hxl, hyl]) (fun i σ H3 => ∃ (y3 y4 : Option V) (ps : List Int), σ = [some (.ref a), some (.ref b), some (.ref l), y3, y4] ∧ H3 l = some (.lst (ps.map V.int)) ∧ ps.length = n ∧ (∀ (j : Nat) (x y : Int), j < i → xs[j]? = some x → ys[j]? = some y → ps[y.toNat]? = some x) ∧ Same H H3)
      ⟨none, none, List.replicate n 0, rfl, by rw [upd_same, hz, hxl, Int.toNat_natCast], by rw [List.length_replicate], fun j x y hj => absurd hj (Nat.not_lt_zero _), s2⟩ (fun i σ H3 hP => by obtain ⟨_, _, _, _, _, _, _, sm⟩ := hP; exact ⟨SqL.of (sm _ _ ha), SqL.of (sm _ _ hb)⟩) (fun i x y t σ H3 hx hy hP nt => ?_) (fun σ H3 hP => ?_)
    · obtain ⟨y3, y4, ps, rfl, hl3, el, hat, sm⟩ := hP
      obtain ⟨u, eu, rfl⟩ := int_at_inv hx
      obtain ⟨v, ev, rfl⟩ := int_at_inv hy
      have hv := oy.mem (List.mem_of_getElem? ev)
      have s3 := same_new (o := .tup [.int u, .int v]) nt
      have hl4 := s3 _ _ hl3
      refine ⟨t, _, rfl, .inl (.inl upd_same), rfl, _, _, rfl, _, _, rfl, rfl, ?_⟩
      refine ⟨_, rfl, _, rfl, _, rfl, l, _, _, v.toNat, rfl, rfl, hl4, ix_n (by omega) (by rw [List.length_map]; omega), ?_⟩
      refine ⟨_, _, ps.set v.toNat u, rfl, by rw [upd_same, List.map_set], by rw [List.length_set]; exact el, fun j x y hj hx2 hy2 => ?_, fun c o e => ?_⟩
      · by_cases c : j = i
        · subst c
          have e1 : x = u := Option.some.inj (hx2.symm.trans eu)
          have e2 : y = v := Option.some.inj (hy2.symm.trans ev)
          subst e1 e2
          rw [List.getElem?_set_self (by omega)]
        · have hy3 := oy.mem (List.mem_of_getElem? hy2)
          have ne : v.toNat ≠ y.toNat := fun e => c (nd_ix oy.nodup hy2 (by rw [ev]; congr 1; omega))
          rw [List.getElem?_set_ne ne]
          exact hat j x y (by omega) hx2 hy2
      · rw [upd_ne (ne_of_none e nHl)]
        exact s3 _ _ (sm _ _ e)
    · obtain ⟨y3, y4, ps, rfl, hl3, el, hat, sm⟩ := hP
      rw [hxl] at hat
      have eps : ps = (rg n).map (fol xs ys) := by
        apply List.ext_getElem?
        intro t
        by_cases c : t < n
        · obtain ⟨j, hj, ej⟩ := ord_at oy c
          obtain ⟨x, hx, _⟩ := ord_ix ox hj
          have e1 := hat j x _ hj hx ej
          rw [Int.toNat_natCast] at e1
          have e2 := rg_at (n := n) (f := fol xs ys) (t := (t : Int)) (rg_mem.mpr ⟨by omega, by omega⟩)
          rw [Int.toNat_natCast] at e2
          rw [e1, e2]
          unfold fol
          rw [pos_of oy ej, g0_at hx]
        · rw [List.getElem?_eq_none (by omega), List.getElem?_eq_none (by rw [List.length_map, rg_len]; omega)]
      subst eps
      exact ⟨_, rfl, q l H3 nHl hl3 sm⟩
theorem scRound : FnScope ["thing", "followers", "things", "follower"] ["thing", "followers"] (defScope s_round_from) := ⟨rfl, rfl, rfl, by decide +kernel, rfl, by decide +kernel, by decide +kernel⟩
set_option maxHeartbeats 2000000 in
theorem ok_round {f : Addr} {fd : FuncData} {k : Nat} (T : Df K mg "round_from" s_round_from ["thing", "followers"] f fd) : FnOk P w K mg base CX0 (k + 1) f fd ["thing", "followers"] spRound := by
  refine T.F.ok scRound (fun vs H Q E h => ?_) (fun cdv A outer s H vs Q E hr h => ?_)
  · obtain ⟨t, l, n, g, rfl, _⟩ := h
    rfl
  · obtain ⟨t, l, n, g, rfl, hl, hb, ht, hn, q⟩ := h
    have htb := rg_mem.mp ht
    obtain ⟨p1, p2, p3, p4⟩ := hb.per_spec ht
    refine ⟨_, 
      (pss_cons (ps_set (i := 2) scRound.nd rfl (.inl rfl) (pe_lst (pa_cons (pv 0) pa_nil)))
      (pss_cons (ps_set (i := 3) scRound.nd rfl (.inl rfl) (pe_ix ix_list (pv 1) (pv 0) (fun _ _ => rfl)))
      (pss_cons (ps_while PassesOwn.never (pt_cmpR op_ne (pv 3) (pv 0) (nomark _))
        (pss_cons (ps_expr (pe_bm PySem.F.plainAttrs_list PySem.F.slot_list_append PySem.F.type_list_append mt_append (pv 2) (pa_cons (pv 3) pa_nil)))
        (pss_one (ps_set (i := 3) scRound.nd rfl (.inl rfl) (pe_ix ix_list (pv 1) (pv 3) (fun _ _ => rfl))))))
      (pss_one (ps_ret (pv 2)))))), ?_⟩
    refine ⟨_, rfl, line_small (by show 1 ≤ 16777216; decide), fun r nr => ?_⟩
    have s1 := same_new (o := .lst [.int t]) nr
    refine ⟨_, rfl, _, rfl, l, _, _, _, rfl, rfl, SqL.of (s1 _ _ hl), at_of (j := t.toNat) (by omega) (int_at (rg_at ht)), ?_⟩
    refine ⟨fun m σ H3 => ∃ j : Nat, 1 ≤ j ∧ j ≤ per n g t ∧ m = per n g t - j ∧ σ = [some (.int t), some (.ref l), some (.ref r), some (.int (it g j t))] ∧ H3 r = some (.lst (((cyc n g t).take j).map V.int)) ∧ Same H H3,
      ⟨_, 1, by omega, p1, rfl, rfl, ?_, s1⟩, fun m σ H3 hW => ?_⟩
    · rw [upd_same, take_more (l := cyc n g t) (i := 0) (cyc_at p1)]
      rfl
    obtain ⟨j, j1, j2, rfl, rfl, hr3, sm⟩ := hW
    refine ⟨_, rfl, _, rfl, rfl, _, rfl, ?_⟩
    by_cases c : it g j t = t
    · have ej : j = per n g t := by
        by_cases d : j < per n g t
        · exact absurd c (p4 j j1 d)
        · omega
      refine iteNS (congrArg V.int c) ⟨_, rfl, q r H3 nr ?_ sm⟩
      rw [ej, List.take_of_length_le (by rw [cyc_len]; exact Nat.le_refl _)] at hr3
      exact hr3
    · have hj : j < per n g t := by
        by_cases d : j = per n g t
        · rw [d] at c
          exact absurd p3 c
        · omega
      rw [decide_eq_false (fun e => c (V.int.inj e))]
      have hin := hb.it_in ht j
      have hib := rg_mem.mp hin
      refine iteT ⟨fun σ' H' => σ' = [some (.int t), some (.ref l), some (.ref r), some (.int (it g (j + 1) t))] ∧ H' r = some (.lst (((cyc n g t).take (j + 1)).map V.int)) ∧ Same H H', fun σ' H' hN => ?_, ?_⟩
      · obtain ⟨e1, e2, e3⟩ := hN
        exact ⟨per n g t - (j + 1), by omega, j + 1, by omega, by omega, rfl, e1, e2, e3⟩
      · refine ⟨_, rfl, .inl ⟨rfl, _, SqL.of hr3⟩, _, rfl, r, _, _, rfl, rfl, hr3, line_lt (by rw [List.length_map, List.length_take]; omega), ?_⟩
        have nlr : l ≠ r := ne_of_none hl nr
        refine ⟨_, rfl, _, rfl, l, _, _, _, rfl, rfl, SqL.of (by rw [upd_ne nlr]; exact sm _ _ hl), at_of (j := (it g j t).toNat) (by omega) (int_at (rg_at hin)), rfl, ?_, fun u o e => ?_⟩
        · rw [upd_same, take_more (cyc_at hj), List.map_append]
          rfl
        · rw [upd_ne (ne_of_none e nr)]
          exact sm _ _ e
theorem scRounds : FnScope ["one", "other", "followers", "starts", "thing", "things"] ["one", "other"] (defScope s_rounds_between) := ⟨rfl, rfl, rfl, by decide +kernel, rfl, by decide +kernel, by decide +kernel⟩
set_option maxHeartbeats 4000000 in
theorem ok_rounds {f f1 f2 f3 f4 : Addr} {fd d1 d2 d3 d4 : FuncData} {k : Nat} (T : Df K mg "rounds_between" s_rounds_between ["one", "other"] f fd) (T_check_orders : Df K mg "check_orders" s_check_orders ["one", "other"] f1 d1) (T_check_fit : Df K mg "check_fit" s_check_fit ["one", "other"] f2 d2) (T_followers_between : Df K mg "followers_between" s_followers_between ["one", "other"] f3 d3) (T_round_from : Df K mg "round_from" s_round_from ["thing", "followers"] f4 d4)
    (G_check_orders : FnOk P w K mg base CX0 (k + 1) f1 d1 ["one", "other"] spChecks) (B : Bi mg) : FnOk P w K mg base CX0 (k + 2) f fd ["one", "other"] spRounds := by
  have G_check_fit : FnOk P w K mg base CX0 (k + 1) f2 d2 ["one", "other"] spFit := ok_fit T_check_fit B
  have G_followers_between : FnOk P w K mg base CX0 (k + 1) f3 d3 ["one", "other"] spFol := ok_fol T_followers_between B
  have G_round_from : FnOk P w K mg base CX0 (k + 1) f4 d4 ["thing", "followers"] spRound := ok_round T_round_from
  refine T.F.ok scRounds (fun vs H Q E h => ?_) (fun cdv A outer s H vs Q E hr h => ?_)
  · obtain ⟨a, b, n, xs, ys, ⟨rfl, _⟩, _⟩ := h
    rfl
  · obtain ⟨a, b, n, xs, ys, ⟨rfl, ha, hb, ox, oy, hn1, hn2⟩, q⟩ := h
    have hxl : (xs.map V.int).length = n := by rw [List.length_map, ox.len]
    have bj := fol_bij ox oy
    refine ⟨_, 
      (pss_cons (ps_expr (pe_call G_check_orders hr (by rfl) T_check_orders.g T_check_orders.F.kp T_check_orders.b .nil pass0 (pa_cons (pv 0) (pa_cons (pv 1) pa_nil))))
      (pss_cons (ps_expr (pe_call G_check_fit hr (by rfl) T_check_fit.g T_check_fit.F.kp T_check_fit.b .nil pass0 (pa_cons (pv 0) (pa_cons (pv 1) pa_nil))))
      (pss_cons (ps_set (i := 2) scRounds.nd rfl (.inr rfl) (pe_call G_followers_between hr (by rfl) T_followers_between.g T_followers_between.F.kp T_followers_between.b .nil pass0 (pa_cons (pv 0) (pa_cons (pv 1) pa_nil))))
      (pss_cons (ps_setLc (i := 3) (own := [("thing", 4)]) (g := (gName 4)) (tt := tYes) (te := (tCall spRound [] E0 (tCons (tVar 4) (tCons (tVar 2) tNil)))) (by rfl) scRounds.nd rfl rfl (sw_true rfl rfl rfl (by decide +kernel)) (pi_range1 (by rfl) B.range (pa_cons (pe_callB call_len_seq (by rfl) B.len PySem.boot_len (pa_cons (pv 0) pa_nil)) pa_nil)) (blkOk_by (N := ["one", "other", "followers", "starts", "thing", "things"]) (sc := defScope s_rounds_between) (by decide +kernel)) (fun _ _ _ _ _ => (pg_name (i := 4) scRounds.nd rfl (.inl rfl))) (fun _ _ _ _ _ => pts_nil) (fun _ _ _ _ _ => (pe_call G_round_from hr (by rfl) T_round_from.g T_round_from.F.kp T_round_from.b .nil pass0 (pa_cons (pv 4) (pa_cons (pv 2) pa_nil)))))
      (pss_one (ps_ret (pe_lc (own := [("things", 5)]) (g := (gName 5)) (tt := (tAnd (tTest (tOp (rI0 fun i j => .bl (decide (j < i))) (tCB (rLenS K) (tCons (tVar 5) tNil)) (tC (.int 1)))) (tTest (tOp rEq (tOp (rIxL K) (tVar 5) (tC (.int 0))) (tCB (rMin K) (tCons (tVar 5) tNil)))))) (te := (tVar 5)) rfl scRounds.nd (pi_list (pv 3)) (blkOk_by (N := ["one", "other", "followers", "starts", "thing", "things"]) (sc := defScope s_rounds_between) (by decide +kernel)) (fun _ _ _ _ _ => (pg_name (i := 5) scRounds.nd rfl (.inl rfl))) (fun _ _ _ _ _ => (pts_one (PW.pt (pw_and (pt_cmpR op_gt (pe_callB call_len_seq (by rfl) B.len PySem.boot_len (pa_cons (pv 5) pa_nil)) pe_int (nomark _)) (pw_and1 (pt_cmpR op_eq (pe_ix ix_list (pv 5) pe_int (fun _ _ => rfl)) (pe_callB (cr_min rfl) (by rfl) B.min (by decide +kernel) (pa_cons (pv 5) pa_nil)) (nomark _))))))) (fun _ _ _ _ _ => (pv 5))))))))), ?_⟩
    refine ⟨_, rfl, _, rfl, a, b, n, n, xs, ys, rfl, ha, hb, ox, hn1, hn2, oy, hn1, hn2, fun H1 s1 => ?_⟩
    refine ⟨_, rfl, _, rfl, a, b, xs, ys, rfl, s1 _ _ ha, s1 _ _ hb, by rw [ox.len, oy.len], ?_⟩
    refine ⟨_, rfl, _, rfl, a, b, n, xs, ys, ⟨rfl, s1 _ _ ha, s1 _ _ hb, ox, oy, hn1, hn2⟩, fun fl H2 nfl hfl s2 => ?_⟩
    have s12 := s1.trans s2
    -- starts
    refine ⟨_, rfl, a, _, rfl, .inl (SqL.of (s12 _ _ ha)), _, rfl, by omega, by rw [hxl]; omega, fun D nD => ?_⟩
    rw [hxl, Int.toNat_natCast]
    have nHD : H D = none := s12.free nD
    have nflD : fl ≠ D := ne_of_none hfl nD
    refine lc_range (lo := 0) (n := n) (fun m H3 => ∃ as : List Addr, H3 D = some (.lst (as.map V.ref)) ∧ LL H3 as ((rg m).map (cyc n (fol xs ys))) ∧ (∀ c ∈ as, H c = none ∧ c ≠ D) ∧ as.Nodup ∧ H3 fl = some (.lst (((rg n).map (fol xs ys)).map V.int)) ∧ Same H H3)
      ⟨[], upd_same, trivial, fun c hc => absurd hc List.not_mem_nil, List.nodup_nil, by rw [upd_ne nflD]; exact hfl, s12.trans (same_new nD)⟩ (fun m H3 hm hP => ?_) (fun H3 hP => ?_)
    · obtain ⟨as, hD3, hLL, hfr, hnd, hf3, sm⟩ := hP
      have hmr : (0 + (m : Int)) ∈ rg n := rg_mem.mpr ⟨by omega, by omega⟩
      refine ⟨rfl, _, rfl, _, rfl, 0 + (m : Int), fl, n, fol xs ys, rfl, hf3, bj, hmr, hn2, fun r H4 nr hr4 s4 => ?_⟩
      have hlen := hLL.len
      rw [List.length_map, rg_len] at hlen
      have nrD : r ≠ D := (ne_of_none hD3 nr).symm
      refine ⟨_, s4 _ _ hD3, line_lt (by rw [List.length_map]; omega), as ++ [r], by rw [upd_same, List.map_append]; rfl, ?_, fun c hc => ?_, ?_, by rw [upd_ne nflD]; exact s4 _ _ hf3, fun u o e => ?_⟩
      · rw [rg_succ, List.map_append]
        have h1 : LL (upd H4 D (.lst (as.map V.ref ++ [.ref r]))) as ((rg m).map (cyc n (fol xs ys))) := hLL.keep fun c hc o e => by rw [upd_ne (hfr c hc).2]; exact s4 _ _ e
        refine h1.snoc ?_
        rw [upd_ne nrD, ← Int.zero_add (m : Int)]
        exact hr4
      · rcases List.mem_append.mp hc with hc | hc
        · exact hfr c hc
        · rw [List.mem_singleton.mp hc]
          exact ⟨sm.free nr, nrD⟩
      · rw [List.nodup_append]
        refine ⟨hnd, List.nodup_cons.mpr ⟨List.not_mem_nil, List.nodup_nil⟩, fun x hx y hy e => ?_⟩
        rw [List.mem_singleton.mp hy] at e
        obtain ⟨o, eo⟩ := hLL.tracked hx
        rw [e, nr] at eo
        cases eo
      · rw [upd_ne (ne_of_none e nHD)]
        exact s4 _ _ (sm _ _ e)
    · obtain ⟨as, hD3, hLL, hfr, hnd, hf3, sm⟩ := hP
      have hlen := hLL.len
      rw [List.length_map, rg_len] at hlen
      refine ⟨_, rfl, D, rfl, ⟨_, SqL.of hD3⟩, fun G nG => ?_⟩
      have nHG : H G = none := sm.free nG
      refine lc_list (K := K) (a := D) (xs := as.map V.ref) (fun m H4 => ∃ bs : List Addr, H4 G = some (.lst (bs.map V.ref)) ∧ LL H4 bs (((rg m).filter (told n (fol xs ys))).map (cyc n (fol xs ys))) ∧ bs.Sublist (as.take m) ∧ Same H3 H4)
        ⟨[], upd_same, trivial, List.nil_sublist _, same_new nG⟩ (fun m H4 _ hP => by obtain ⟨_, _, _, _, s4⟩ := hP; exact SqL.of (s4 _ _ hD3)) (fun m x H4 hx hP => ?_) (fun H4 hP => ?_)
      · obtain ⟨bs, hG4, hLb, hsub, s4⟩ := hP
        obtain ⟨r, er, rfl⟩ := ref_at_inv hx
        have hm : m < n := by
          have := (List.getElem?_eq_some_iff.mp er).1
          omega
        obtain ⟨row, erow, hrow⟩ := hLL.get er
        have erow2 : row = cyc n (fol xs ys) (m : Int) := by
          unfold rg at erow
          rw [List.map_map, List.getElem?_map, List.getElem?_range hm] at erow
          exact (Option.some.inj erow).symm
        subst erow2
        have hrow4 := s4 _ _ hrow
        have hmr : (m : Int) ∈ rg n := rg_mem.mpr ⟨by omega, by omega⟩
        have hper := bj.per_spec hmr
        have ner : r ≠ G := ne_of_none hrow nG
        have hclen : ((cyc n (fol xs ys) (m : Int)).map V.int).length = per n (fol xs ys) (m : Int) := by rw [List.length_map, cyc_len]
        have etk : as.take (m + 1) = as.take m ++ [r] := by rw [List.take_add_one, er]; rfl
        have efm : (rg (m + 1)).filter (told n (fol xs ys)) = (rg m).filter (told n (fol xs ys)) ++ (if told n (fol xs ys) (m : Int) then [(m : Int)] else []) := by
          rw [rg_succ, List.filter_append, List.filter_cons]
          rfl
        have no : told n (fol xs ys) (m : Int) = false → ∃ bs : List Addr, H4 G = some (.lst (bs.map V.ref)) ∧ LL H4 bs (((rg (m + 1)).filter (told n (fol xs ys))).map (cyc n (fol xs ys))) ∧ bs.Sublist (as.take (m + 1)) ∧ Same H3 H4 := fun et => by
          refine ⟨bs, hG4, ?_, ?_, s4⟩
          · rw [efm, et]
            simpa using hLb
          · rw [etk]
            exact hsub.trans (List.sublist_append_left _ _)
        refine ⟨rfl, _, rfl, r, _, rfl, .inl (SqL.of hrow4), _, 1, rfl, rfl, _, rfl, ite2 (fun c => ?_) (fun c => ?_)⟩
        · have hp : 1 < per n (fol xs ys) (m : Int) := by
            have : (1 : Int) < ((((cyc n (fol xs ys) (m : Int)).map V.int).length : Nat) : Int) := of_decide_eq_true c
            rw [hclen] at this
            omega
          refine ⟨_, rfl, r, _, 0, _, rfl, rfl, SqL.of hrow4, atI_nat (j := 0) (int_at (cyc_at (j := 0) (by omega))), _, rfl, r, cyc n (fol xs ys) (m : Int), rfl, SqL.of hrow4, by rw [cyc_len]; omega, fun z hz hzle => ?_⟩
          have ez : mn n (fol xs ys) (m : Int) = z := mnL_of hz hzle
          have eit : it (fol xs ys) 0 (m : Int) = (m : Int) := rfl
          rw [eit]
          refine ⟨rfl, _, rfl, ?_⟩
          by_cases d : (m : Int) = z
          · have et : told n (fol xs ys) (m : Int) = true := by
              unfold told
              rw [decide_eq_true hp, decide_eq_true (show (m : Int) = mn n (fol xs ys) (m : Int) by rw [ez]; exact d)]
              rfl
            rw [decide_eq_true (congrArg V.int d)]
            refine iteT ⟨_, rfl, _, hG4, line_lt ?_, bs ++ [r], by rw [upd_same, List.map_append]; rfl, ?_, ?_, fun u o e => ?_⟩
            · rw [List.length_map]
              have := hsub.length_le
              rw [List.length_take] at this
              omega
            · rw [efm, et, if_pos rfl, List.map_append]
              have h1 : LL (upd H4 G (.lst (bs.map V.ref ++ [.ref r]))) bs (((rg m).filter (told n (fol xs ys))).map (cyc n (fol xs ys))) := hLb.keep fun c hc o e => by
                have hca : c ∈ as := List.mem_of_mem_take (hsub.subset hc)
                obtain ⟨o2, e2⟩ := hLL.tracked hca
                rw [upd_ne (ne_of_none e2 nG)]
                exact e
              refine h1.snoc ?_
              rw [upd_ne ner]
              exact hrow4
            · rw [etk]
              exact hsub.append (List.Sublist.refl _)
            · rw [upd_ne (ne_of_none e nG)]
              exact s4 _ _ e
          · have et : told n (fol xs ys) (m : Int) = false := by
              unfold told
              rw [decide_eq_false (show ¬ ((m : Int) = mn n (fol xs ys) (m : Int)) by rw [ez]; exact d), Bool.and_false]
            rw [decide_eq_false (fun e => d (V.int.inj e))]
            exact iteF (no et)
        · have et : told n (fol xs ys) (m : Int) = false := by
            unfold told
            rw [decide_eq_false (fun hp => c (decide_eq_true (by rw [hclen]; omega))), Bool.false_and]
          exact iteF (no et)
      · obtain ⟨bs, hG4, hLb, hsub, s4⟩ := hP
        rw [List.length_map, hlen] at hLb hsub
        refine q G bs H4 nHG hG4 hLb (fun c hc => ?_) ?_ (sm.trans s4)
        · have hca : c ∈ as := List.mem_of_mem_take (hsub.subset hc)
          obtain ⟨o2, e2⟩ := hLL.tracked hca
          exact ⟨(hfr c hca).1, ne_of_none e2 nG⟩
        · exact (hnd.sublist (List.take_sublist n as)).sublist hsub
theorem scSteps : FnScope ["one", "other", "things"] ["one", "other"] (defScope s_steps_between) := ⟨rfl, rfl, rfl, by decide +kernel, rfl, by decide +kernel, by decide +kernel⟩
set_option maxHeartbeats 2000000 in
theorem ok_steps {f f1 : Addr} {fd d1 : FuncData} {k : Nat} (T : Df K mg "steps_between" s_steps_between ["one", "other"] f fd) (T_rounds_between : Df K mg "rounds_between" s_rounds_between ["one", "other"] f1 d1) (G_rounds_between : FnOk P w K mg base CX0 k f1 d1 ["one", "other"] spRounds) (B : Bi mg) : FnOk P w K mg base CX0 (k + 1) f fd ["one", "other"] spSteps := by
  refine T.F.ok scSteps (fun vs H Q E h => ?_) (fun cdv A outer s H vs Q E hr h => ?_)
  · obtain ⟨a, b, n, xs, ys, ⟨rfl, _⟩, _⟩ := h
    rfl
  · obtain ⟨a, b, n, xs, ys, ⟨rfl, ha, hb, ox, oy, hn1, hn2⟩, q⟩ := h
    refine ⟨_, 
      (pss_one (ps_ret (pe_callB (cr_sum rfl) (by rfl) B.sum (by decide +kernel) (pa_cons (pe_lc (own := [("things", 2)]) (g := (gName 2)) (tt := tYes) (te := (tOp (rI0 fun i j => .int (i - j)) (tCB (rLenS K) (tCons (tVar 2) tNil)) (tC (.int 1)))) rfl scSteps.nd (pi_list (pe_call G_rounds_between hr (by rfl) T_rounds_between.g T_rounds_between.F.kp T_rounds_between.b .nil pass0 (pa_cons (pv 0) (pa_cons (pv 1) pa_nil)))) (blkOk_by (N := ["one", "other", "things"]) (sc := defScope s_steps_between) (by decide +kernel)) (fun _ _ _ _ _ => (pg_name (i := 2) scSteps.nd rfl (.inl rfl))) (fun _ _ _ _ _ => pts_nil) (fun _ _ _ _ _ => (pe_op op_sub (pe_callB call_len_seq (by rfl) B.len PySem.boot_len (pa_cons (pv 2) pa_nil)) pe_int))) pa_nil)))), ?_⟩
    refine ⟨_, rfl, _, rfl, a, b, n, xs, ys, ⟨rfl, ha, hb, ox, oy, hn1, hn2⟩, fun l as H1 nl hl hLL hfr hnd s1 => ?_⟩
    refine ⟨l, rfl, ⟨_, SqL.of hl⟩, fun D nD => ?_⟩
    have hlen := hLL.len
    have hrl := rounds_len (n := n) (f := fol xs ys)
    refine lc_list (K := K) (a := l) (xs := as.map V.ref) (fun m H3 => H3 D = some (.lst ((((roundsL n (fol xs ys)).map fun r => (r.length : Int) - 1).take m).map V.int)) ∧ Same H1 H3) ⟨upd_same, same_new nD⟩ (fun m H3 _ hP => SqL.of (hP.2 _ _ hl)) (fun m x H3 hx hP => ?_) (fun H3 hP => ?_)
    · obtain ⟨r, er, rfl⟩ := ref_at_inv hx
      obtain ⟨hD3, sm⟩ := hP
      obtain ⟨row, erow, hrow⟩ := hLL.get er
      have em : ((roundsL n (fol xs ys)).map fun r => (r.length : Int) - 1)[m]? = some ((row.length : Int) - 1) := by rw [List.getElem?_map, erow]; rfl
      refine ⟨rfl, _, rfl, r, _, rfl, .inl (SqL.of (sm _ _ hrow)), _, 1, rfl, rfl, _, hD3, line_lt (by rw [List.length_map, List.length_take, List.length_map]; omega), ?_, fun u o e => ?_⟩
      · rw [upd_same, take_more em, List.map_append, List.length_map]
        rfl
      · rw [upd_ne (ne_of_none e nD)]
        exact sm _ _ e
    · obtain ⟨hD3, sm⟩ := hP
      rw [List.take_of_length_le (by rw [List.length_map, List.length_map, hlen]; exact Nat.le_refl _)] at hD3
      exact ⟨D, _, rfl, SqL.of hD3, q H3 (s1.trans sm)⟩
end
end Fo
namespace Fo
open PySem PySem.Spec PyProof.Rows L2
section
variable {n : Nat} {f : Int → Int}
theorem Bij.cyc_nodup (b : Bij n f) {t : Int} (ht : t ∈ rg n) : (cyc n f t).Nodup := by
  obtain ⟨p1, p2, p3, p4⟩ := b.per_spec ht
  unfold cyc
  have hp : (List.range (per n f t)).Pairwise (fun i j => i < j ∧ j < per n f t) := by
    rw [List.pairwise_iff_getElem]
    intro i j hi hj hij
    rw [List.getElem_range, List.getElem_range]
    rw [List.length_range] at hj
    exact ⟨hij, hj⟩
  refine List.Pairwise.map _ (fun i j h => h) (hp.imp fun {i j} hij e => ?_)
  have ej : it f j t = it f i (it f (j - i) t) := by rw [← it_add, show i + (j - i) = j by omega]
  rw [ej] at e
  have z := b.it_inj ht (b.it_in ht (j - i)) i e
  exact p4 (j - i) (by omega) (by omega) z.symm
theorem Bij.cyc_new (b : Bij n f) {t : Int} (ht : t ∈ rg n) {j : Nat} (hj : j < per n f t) : it f j t ∉ (cyc n f t).take j := by
  intro h
  obtain ⟨i, hi⟩ := List.mem_iff_getElem?.mp h
  have hil : i < j := by
    have := (List.getElem?_eq_some_iff.mp hi).1
    rw [List.length_take] at this
    omega
  rw [List.getElem?_take_of_lt hil] at hi
  have := nd_ix (b.cyc_nodup ht) hi (cyc_at hj)
  omega
theorem left_nodup (T : Int) : (leftL n f T).Nodup := List.Pairwise.filter _ (rg_nodup n)
theorem rows_len (b : Bij n f) : ∀ r ∈ roundsL n f, r.length ≤ n := by
  intro r hr
  obtain ⟨t, ht, rfl⟩ := List.mem_map.mp hr
  rw [cyc_len]
  exact (b.per_spec (List.mem_filter.mp ht).1).2.1
end
theorem steps_sum (rs : List (List Int)) : (rs.map fun r => (r.length : Int) - 1).sum = (rs.map fun r => (r.length : Int)).sum - (rs.length : Int) := by
  induction rs with
  | nil => rfl
  | cons r rs ih =>
    rw [List.map_cons, List.sum_cons, ih, List.map_cons, List.sum_cons, List.length_cons]
    omega
theorem rounds_self {n : Nat} {xs : List Int} (ox : IsOrd n xs) (hn : 1 ≤ n) : roundsL n (fol xs xs) = [] := by
  unfold roundsL
  rw [List.filter_eq_nil_iff.mpr]
  · rfl
  · intro t ht
    have hp : per n (fol xs xs) t = 1 := by
      unfold per
      have : (List.range n).find? (fun j => decide (it (fol xs xs) (j + 1) t = t)) = some 0 := by
        rw [List.find?_range_eq_some]
        exact ⟨decide_eq_true (fol_self ox t ht), List.mem_range.mpr (by omega), fun j hj => absurd hj (Nat.not_lt_zero _)⟩
      rw [this]
      rfl
    unfold told
    rw [hp]
    simp
end Fo
namespace Fo
open PySem PySem.Spec PyProof.Rows L2
/-! ### where a shortest walk leads -/
theorem seats_same {n : Nat} {xs ys : List Int} (ox : IsOrd n xs) (oy : IsOrd n ys) (hn : 1 ≤ n) (h : invR (seatsL xs ys) = 0) : xs = ys :=
  farW_zero (w := "swap") (.inl rfl) ox oy hn (by rw [farW_swap]; unfold farSwap; rw [inv_NR, h]; rfl)
theorem wEnd_cons (xs : List Int) (p : Int) (w : List Int) : wEnd xs (p :: w) = wEnd (sw xs p.toNat) w := rfl
theorem wEnd_append (xs u v : List Int) : wEnd xs (u ++ v) = wEnd (wEnd xs u) v := by
  unfold wEnd
  rw [List.foldl_append]
/-- one step of a shortest walk -/
theorem walk_step {n : Nat} {xs ys : List Int} (ox : IsOrd n xs) {m : Nat} (h : invR (seatsL xs ys) = m + 1) : ∃ p : Nat, p + 1 < n ∧ firstDesc (seatsL xs ys) = some p ∧ walkL (seatsL xs ys) = (p : Int) :: walkL (seatsL (sw xs p) ys) ∧ invR (seatsL (sw xs p) ys) = m ∧ IsOrd n (sw xs p) := by
  obtain ⟨p, hp⟩ := fd_pos (s := seatsL xs ys) (by omega)
  obtain ⟨a, b, ha, hb, hlt, _⟩ := fd_at hp
  have hl := (List.getElem?_eq_some_iff.mp hb).1
  rw [seats_len, ox.len] at hl
  have e := seats_sw (ys := ys) (show p + 1 < xs.length by rw [ox.len]; exact hl)
  have hinv := invR_sw ha hb hlt
  exact ⟨p, hl, hp, by rw [e]; exact walk_some hp, by rw [e]; omega, sw_ord ox hl⟩
theorem walk_nil {s : List Int} (h : invR s = 0) : walkL s = [] := by
  unfold walkL
  rw [h]
  rfl
theorem walk_to {n : Nat} {ys : List Int} (oy : IsOrd n ys) (hn : 1 ≤ n) : ∀ (m : Nat) (xs : List Int), IsOrd n xs → invR (seatsL xs ys) = m → wEnd xs (walkL (seatsL xs ys)) = ys
  | 0, xs, ox, h => by
    rw [walk_nil h]
    exact seats_same ox oy hn h
  | m + 1, xs, ox, h => by
    obtain ⟨p, hp, _, e, hi, o⟩ := walk_step ox h
    rw [e, wEnd_cons, Int.toNat_natCast]
    exact walk_to oy hn m _ o hi
theorem walk_is {n : Nat} {ys : List Int} : ∀ (m : Nat) (xs : List Int), IsOrd n xs → invR (seatsL xs ys) = m → IsWalk n (walkL (seatsL xs ys))
  | 0, xs, ox, h => by
    rw [walk_nil h]
    exact fun p hp => absurd hp List.not_mem_nil
  | m + 1, xs, ox, h => by
    obtain ⟨p, hp, _, e, hi, o⟩ := walk_step ox h
    rw [e]
    intro q hq
    rcases List.mem_cons.mp hq with rfl | hq
    · omega
    · exact walk_is m _ o hi q hq
theorem sw_sw {xs : List Int} {p : Nat} (h : p + 1 < xs.length) : sw (sw xs p) p = xs := by
  obtain ⟨A, a, b, B, rfl, rfl⟩ := split2 h
  rw [sw_at, sw_at]
theorem walk_back {n : Nat} : ∀ (w : List Int) (xs : List Int), IsOrd n xs → IsWalk n w → wEnd (wEnd xs w) w.reverse = xs
  | [], xs, _, _ => rfl
  | p :: w, xs, ox, hw => by
    have hp := hw p List.mem_cons_self
    have ih := walk_back w (sw xs p.toNat) (sw_ord ox (by omega)) fun q hq => hw q (List.mem_cons_of_mem _ hq)
    rw [wEnd_cons, List.reverse_cons, wEnd_append, ih]
    exact sw_sw (by rw [ox.len]; omega)
theorem walk_rest {n : Nat} {ys : List Int} : ∀ (m k : Nat) (xs : List Int), IsOrd n xs → invR (seatsL xs ys) = m → k ≤ m → walkL (seatsL (wEnd xs ((walkL (seatsL xs ys)).take k)) ys) = (walkL (seatsL xs ys)).drop k ∧ invR (seatsL (wEnd xs ((walkL (seatsL xs ys)).take k)) ys) = m - k
  | m, 0, xs, ox, h, _ => ⟨rfl, h⟩
  | 0, k + 1, xs, ox, h, hk => by omega
  | m + 1, k + 1, xs, ox, h, hk => by
    obtain ⟨p, hp, _, e, hi, o⟩ := walk_step ox h
    rw [e, List.take_succ_cons, List.drop_succ_cons, wEnd_cons, Int.toNat_natCast]
    have ih := walk_rest m k _ o hi (by omega)
    exact ⟨ih.1, by rw [ih.2]; omega⟩
theorem pos_sw {n : Nat} {xs : List Int} (ox : IsOrd n xs) {p : Nat} (hp : p + 1 < n) {t : Int} (ht : t ∈ rg n) : pos (sw xs p) t = if pos xs t = p then (p : Int) + 1 else if pos xs t = (p : Int) + 1 then (p : Int) else pos xs t := by
  have hb := rg_mem.mp ht
  obtain ⟨j, hj, ej, pj⟩ := pos_at ox hb.1 hb.2
  obtain ⟨x, hx, _⟩ := ord_ix ox (j := p) (by omega)
  obtain ⟨y, hy, _⟩ := ord_ix ox (j := p + 1) (by omega)
  have o := sw_ord ox hp
  have hl := ox.len
  have es : sw xs p = (xs.set p y).set (p + 1) x := by
    unfold sw
    rw [List.getD_eq_getElem?_getD, List.getD_eq_getElem?_getD, hx, hy]
    rfl
  rw [pj]
  by_cases c1 : j = p
  · subst c1
    have e1 : x = t := Option.some.inj (hx.symm.trans ej)
    rw [if_pos rfl, pos_of o (j := j + 1) (by rw [es, List.getElem?_set_self (by rw [List.length_set]; omega), e1])]
    rfl
  · rw [if_neg (by omega)]
    by_cases c2 : j = p + 1
    · subst c2
      have e1 : y = t := Option.some.inj (hy.symm.trans ej)
      rw [if_pos (by omega), pos_of o (j := p) (by rw [es, List.getElem?_set_ne (by omega), List.getElem?_set_self (by omega), e1])]
    · rw [if_neg (by omega), pos_of o (j := j) (by rw [es, List.getElem?_set_ne (by omega), List.getElem?_set_ne (by omega)]; exact ej)]
/-- two things that stand the same way round as at the end stay so on the way -/
theorem walk_stay {n : Nat} {ys : List Int} (oy : IsOrd n ys) {t u : Int} (ht : t ∈ rg n) (hu : u ∈ rg n) (hy : pos ys t < pos ys u) : ∀ (m k : Nat) (xs : List Int), IsOrd n xs → invR (seatsL xs ys) = m → pos xs t < pos xs u → pos (wEnd xs ((walkL (seatsL xs ys)).take k)) t < pos (wEnd xs ((walkL (seatsL xs ys)).take k)) u
  | m, 0, xs, ox, h, hx => hx
  | 0, k + 1, xs, ox, h, hx => by
    rw [walk_nil h]
    exact hx
  | m + 1, k + 1, xs, ox, h, hx => by
    obtain ⟨p, hp, hfd, e, hi, o⟩ := walk_step ox h
    rw [e, List.take_succ_cons, wEnd_cons, Int.toNat_natCast]
    refine walk_stay oy ht hu hy m k _ o hi ?_
    rw [pos_sw ox hp ht, pos_sw ox hp hu]
    obtain ⟨a, b, ha, hb, hlt, _⟩ := fd_at hfd
    by_cases c : pos xs t = p ∧ pos xs u = (p : Int) + 1
    · exfalso
      have e1 : g0 (seatsL xs ys) (p : Int) = a := g0_at ha
      have e2 : g0 (seatsL xs ys) ((p + 1 : Nat) : Int) = b := g0_at hb
      have et : g0 (seatsL xs ys) (p : Int) = pos ys t := by
        rw [← c.1, g0_seats ox (pos_in ox ht), g0_pos ox ht]
      have eu : g0 (seatsL xs ys) ((p + 1 : Nat) : Int) = pos ys u := by
        have : ((p + 1 : Nat) : Int) = pos xs u := by omega
        rw [this, g0_seats ox (pos_in ox hu), g0_pos ox hu]
      omega
    · split <;> split <;> (try split) <;> (try split) <;> omega
/-- each beginning of a shortest walk is the shortest walk there -/
theorem walk_begin {n : Nat} {ys : List Int} (oy : IsOrd n ys) : ∀ (m k : Nat) (xs : List Int), IsOrd n xs → invR (seatsL xs ys) = m → k ≤ m → walkL (seatsL xs (wEnd xs ((walkL (seatsL xs ys)).take k))) = (walkL (seatsL xs ys)).take k
  | m, 0, xs, ox, h, _ => by
    show walkL (seatsL xs xs) = []
    rw [seats_self ox]
    exact walk_nil (by rw [← inv_NR, inv_rg])
  | 0, k + 1, xs, ox, h, hk => by omega
  | m + 1, k + 1, xs, ox, h, hk => by
    obtain ⟨p, hp, hfd, e, hi, o⟩ := walk_step ox h
    have ih := walk_begin oy m k _ o hi (by omega)
    have hW := walk_is (ys := ys) _ xs ox rfl
    have oA : IsOrd n (wEnd xs ((walkL (seatsL xs ys)).take (k + 1))) := wEnd_ord ox fun q hq => hW q (List.mem_of_mem_take hq)
    obtain ⟨a, b, ha, hb, hlt, hle⟩ := fd_at hfd
    have eA : wEnd xs ((walkL (seatsL xs ys)).take (k + 1)) = wEnd (sw xs p) ((walkL (seatsL (sw xs p) ys)).take k) := by
      rw [e, List.take_succ_cons, wEnd_cons, Int.toNat_natCast]
    obtain ⟨x, hx, x0, x1⟩ := ord_ix ox (j := p) (by omega)
    obtain ⟨y, hy, y0, y1⟩ := ord_ix ox (j := p + 1) (by omega)
    have xr : x ∈ rg n := rg_mem.mpr ⟨x0, x1⟩
    have yr : y ∈ rg n := rg_mem.mpr ⟨y0, y1⟩
    have ea : pos ys x = a := Option.some.inj ((seats_at (ys := ys) hx).symm.trans ha)
    have eb : pos ys y = b := Option.some.inj ((seats_at (ys := ys) hy).symm.trans hb)
    have hturn : pos (wEnd xs ((walkL (seatsL xs ys)).take (k + 1))) y < pos (wEnd xs ((walkL (seatsL xs ys)).take (k + 1))) x := by
      rw [eA]
      refine walk_stay oy yr xr (by omega) m k _ o hi ?_
      rw [pos_sw ox hp yr, pos_sw ox hp xr, pos_of ox hx, pos_of ox hy, if_neg (by omega), if_pos (by omega), if_pos rfl]
      omega
    have hfd2 : firstDesc (seatsL xs (wEnd xs ((walkL (seatsL xs ys)).take (k + 1)))) = some p := by
      refine fd_some (fun j u v hj hu hv => ?_) (seats_at hx) (seats_at hy) hturn
      obtain ⟨z1, hz1, z10, z11⟩ := ord_ix ox (j := j) (by omega)
      obtain ⟨z2, hz2, z20, z21⟩ := ord_ix ox (j := j + 1) (by omega)
      have r1 : z1 ∈ rg n := rg_mem.mpr ⟨z10, z11⟩
      have r2 : z2 ∈ rg n := rg_mem.mpr ⟨z20, z21⟩
      have eu : pos (wEnd xs ((walkL (seatsL xs ys)).take (k + 1))) z1 = u := Option.some.inj ((seats_at hz1).symm.trans hu)
      have ev : pos (wEnd xs ((walkL (seatsL xs ys)).take (k + 1))) z2 = v := Option.some.inj ((seats_at hz2).symm.trans hv)
      have hle2 := hle j _ _ hj (seats_at (ys := ys) hz1) (seats_at (ys := ys) hz2)
      have ne : pos ys z1 ≠ pos ys z2 := fun ez => by
        have := pos_inj oy r1 r2 ez
        subst this
        have := nd_ix ox.nodup hz1 hz2
        omega
      have := walk_stay oy r1 r2 (by omega) (m + 1) (k + 1) xs ox h (by rw [pos_of ox hz1, pos_of ox hz2]; omega)
      omega
    rw [walk_some hfd2, ← seats_sw (by rw [ox.len]; exact hp)]
    rw [eA, ih, e, List.take_succ_cons]
/-! ### rounds from the other side -/
theorem fol_turn {n : Nat} {xs ys : List Int} (ox : IsOrd n xs) (oy : IsOrd n ys) : ∀ t ∈ rg n, fol ys xs (fol xs ys t) = t := by
  intro t ht
  unfold fol
  rw [pos_g0 ox (pos_in oy ht), g0_pos oy ht]
section
variable {n : Nat} {f g : Int → Int}
/-- g leads back where f led from -/
structure Inv2 (n : Nat) (f g : Int → Int) : Prop where
  bf : Bij n f
  bg : Bij n g
  gf : ∀ t ∈ rg n, g (f t) = t
theorem Inv2.it_back (v : Inv2 n f g) {t : Int} (ht : t ∈ rg n) : ∀ i j, i ≤ j → it g i (it f j t) = it f (j - i) t
  | 0, j, _ => rfl
  | i + 1, j, h => by
    show g (it g i (it f j t)) = _
    rw [v.it_back ht i j (by omega), show j - i = (j - (i + 1)) + 1 by omega]
    exact v.gf _ (v.bf.it_in ht _)
theorem Inv2.it_iff (v : Inv2 n f g) {t : Int} (ht : t ∈ rg n) (j : Nat) : it g j t = t ↔ it f j t = t := by
  have e := v.it_back ht j j (Nat.le_refl _)
  rw [Nat.sub_self] at e
  have e' : it g j (it f j t) = t := e
  constructor
  · intro h
    exact v.bg.it_inj (v.bf.it_in ht j) ht j (e'.trans h.symm)
  · intro h
    rw [h] at e'
    exact e'
theorem Inv2.per_eq (v : Inv2 n f g) {t : Int} (ht : t ∈ rg n) : per n g t = per n f t := by
  unfold per
  have : (fun j => decide (it g (j + 1) t = t)) = fun j => decide (it f (j + 1) t = t) := by
    funext j
    by_cases c : it f (j + 1) t = t
    · rw [decide_eq_true c, decide_eq_true ((v.it_iff ht _).mpr c)]
    · rw [decide_eq_false c, decide_eq_false (fun e => c ((v.it_iff ht _).mp e))]
  rw [this]
def flip1 (r : List Int) : List Int := r.take 1 ++ (r.drop 1).reverse
theorem Inv2.cyc_eq (v : Inv2 n f g) {t : Int} (ht : t ∈ rg n) : cyc n g t = flip1 (cyc n f t) := by
  obtain ⟨p1, p2, p3, p4⟩ := v.bf.per_spec ht
  have hl := cyc_len (n := n) (f := f) t
  apply List.ext_getElem?
  intro j
  unfold flip1
  by_cases c : j < per n f t
  · rw [cyc_at (by rw [v.per_eq ht]; exact c)]
    by_cases d : j = 0
    · subst d
      rw [List.getElem?_append_left (by rw [List.length_take]; omega), List.getElem?_take_of_lt (by omega), cyc_at p1]
      rfl
    · rw [List.getElem?_append_right (by rw [List.length_take]; omega), List.length_take, hl, List.getElem?_reverse (by rw [List.length_drop]; omega), List.length_drop, hl, List.getElem?_drop, show 1 + (per n f t - 1 - 1 - (j - min 1 (per n f t))) = per n f t - j by omega, cyc_at (by omega)]
      have e := v.it_back ht j (per n f t) (by omega)
      rw [p3] at e
      rw [e]
  · rw [List.getElem?_eq_none (by rw [cyc_len, v.per_eq ht]; omega), List.getElem?_eq_none (by rw [List.length_append, List.length_reverse, List.length_take, List.length_drop, hl]; omega)]
theorem flip1_perm (r : List Int) : (flip1 r).Perm r := by
  unfold flip1
  have h : (r.take 1 ++ (r.drop 1).reverse).Perm (r.take 1 ++ r.drop 1) := List.Perm.append_left _ (List.reverse_perm _)
  rw [List.take_append_drop] at h
  exact h
theorem Inv2.mn_eq (v : Inv2 n f g) {t : Int} (ht : t ∈ rg n) : mn n g t = mn n f t := by
  obtain ⟨h1, h2⟩ := v.bf.mn_spec ht
  unfold mn
  refine mnL_of ?_ fun x hx => h2 x ?_
  · rw [v.cyc_eq ht]
    exact (flip1_perm _).mem_iff.mpr h1
  · rw [v.cyc_eq ht] at hx
    exact (flip1_perm _).mem_iff.mp hx
theorem Inv2.rounds_eq (v : Inv2 n f g) : roundsL n g = (roundsL n f).map flip1 := by
  unfold roundsL
  rw [List.map_map]
  have e : (rg n).filter (told n g) = (rg n).filter (told n f) := by
    apply List.filter_congr
    intro t ht
    unfold told
    rw [v.per_eq ht, v.mn_eq ht]
  rw [e]
  apply List.map_congr_left
  intro t ht
  exact v.cyc_eq (List.mem_filter.mp ht).1
/-! ### how many rounds, with those of one thing -/
def cN (n : Nat) (f : Int → Int) : Nat := sumN (rg n) fun t => ind (decide (mn n f t = t))
theorem ind_one {m : Int} (hm : m ∈ rg n) : sumN (rg n) (fun x => ind (decide (x = m))) = 1 := by
  obtain ⟨B, e, hB⟩ := rg_split hm
  rw [e, sumN_append, sumN_cons, sumN_zero (l := rg m.toNat) (fun x hx => by
    have := rg_mem.mp hx
    have := rg_mem.mp hm
    rw [decide_eq_false (by omega)]
    rfl), sumN_zero (l := B) (fun x hx => by
    have := hB x hx
    rw [decide_eq_false (by omega)]
    rfl), ind_true (decide_eq_true rfl)]
theorem len_sum : ∀ {l : List Int}, l.Nodup → (∀ x ∈ l, x ∈ rg n) → l.length = sumN (rg n) fun x => ind (decide (x ∈ l))
  | [], _, _ => by
    rw [sumN_zero fun x _ => by rw [decide_eq_false List.not_mem_nil]; rfl]
    rfl
  | a :: l, hn, hs => by
    obtain ⟨h1, h2⟩ := List.nodup_cons.mp hn
    have ih := len_sum h2 fun x hx => hs x (List.mem_cons_of_mem _ hx)
    have e : (sumN (rg n) fun x => ind (decide (x ∈ a :: l))) = sumN (rg n) (fun x => ind (decide (x = a))) + sumN (rg n) (fun x => ind (decide (x ∈ l))) := by
      rw [← sumN_add]
      apply sumN_congr
      intro x _
      by_cases c : x = a
      · subst c
        rw [decide_eq_true List.mem_cons_self, decide_eq_true rfl, decide_eq_false h1]
        rfl
      · by_cases d : x ∈ l
        · rw [decide_eq_true (List.mem_cons_of_mem _ d), decide_eq_true d, decide_eq_false c]
          rfl
        · rw [decide_eq_false (by rw [List.mem_cons]; exact fun h => h.elim c d), decide_eq_false d, decide_eq_false c]
          rfl
    rw [e, ind_one (hs a List.mem_cons_self), List.length_cons, ih]
    omega
/-- things are counted round by round -/
theorem Bij.by_rounds (b : Bij n f) (P : Int → Bool) : (sumN (rg n) fun t => if (decide (mn n f t = t) && P t) = true then per n f t else 0) = sumN (rg n) fun u => ind (P (mn n f u)) := by
  have e1 : ∀ t ∈ rg n, (if (decide (mn n f t = t) && P t) = true then per n f t else 0) = sumN (rg n) fun u => ind (decide (t = mn n f u) && P (mn n f u)) := by
    intro t ht
    by_cases c : (decide (mn n f t = t) && P t) = true
    · rw [if_pos c]
      rw [Bool.and_eq_true] at c
      have c1 := of_decide_eq_true c.1
      rw [← cyc_len (n := n) (f := f) t, len_sum (b.cyc_nodup ht) fun x hx => b.cyc_in ht hx]
      apply sumN_congr
      intro u hu
      by_cases d : u ∈ cyc n f t
      · have := b.mn_same ht d
        rw [decide_eq_true d, this, c1, decide_eq_true rfl, c.2]
        rfl
      · have : ¬ t = mn n f u := fun e => d (b.of_mn ht hu e.symm)
        rw [decide_eq_false d, decide_eq_false this]
        rfl
    · rw [if_neg c]
      symm
      apply sumN_zero
      intro u hu
      by_cases d : t = mn n f u
      · have em : mn n f t = t := by rw [d]; exact b.mn_mn hu
        have : P t = false := by
          by_cases z : P t = true
          · exact absurd (by rw [decide_eq_true em, z]; rfl) c
          · simpa using z
        rw [← d, this, Bool.and_false]
        rfl
      · rw [decide_eq_false d]
        rfl
  rw [sumN_congr e1, sumN_swap]
  apply sumN_congr
  intro u hu
  have e2 : ∀ t ∈ rg n, ind (decide (t = mn n f u) && P (mn n f u)) = if P (mn n f u) = true then ind (decide (t = mn n f u)) else 0 := fun t _ => by
    cases P (mn n f u)
    · rw [Bool.and_false]; rfl
    · rw [Bool.and_true]; rfl
  rw [sumN_congr e2]
  cases P (mn n f u)
  · exact sumN_zero fun x _ => rfl
  · show sumN (rg n) (fun t => ind (decide (t = mn n f u))) = 1
    exact ind_one (b.mn_in hu)
theorem sumI_filter (l : List Int) (p : Int → Bool) (k : Int → Nat) : ((l.filter p).map fun t => (k t : Int)).sum = ((sumN l fun t => if p t = true then k t else 0 : Nat) : Int) := by
  induction l with
  | nil => rfl
  | cons a l ih =>
    rw [sumN_cons, List.filter_cons]
    cases h : p a
    · rw [if_neg (by decide), ih, if_neg (by decide), Nat.zero_add]
    · rw [if_pos rfl, List.map_cons, List.sum_cons, ih, if_pos rfl]
      omega
/-- steps and rounds together are all things -/
theorem Bij.steps_c (b : Bij n f) : stepsI n f = (n : Int) - ((cN n f : Nat) : Int) := by
  have e0 : stepsI n f = (((rg n).filter (told n f)).map fun t => ((per n f t - 1 : Nat) : Int)).sum := by
    unfold stepsI roundsL
    rw [List.map_map]
    congr 1
    apply List.map_congr_left
    intro t ht
    have hp := (b.per_spec (List.mem_filter.mp ht).1).1
    show ((cyc n f t).length : Int) - 1 = _
    rw [cyc_len]
    omega
  rw [e0, sumI_filter]
  have h1 := b.by_rounds (fun _ => true)
  have h2 : (sumN (rg n) fun u => ind ((fun _ : Int => true) (mn n f u))) = n := by
    have : ∀ m : Nat, sumN (rg m) (fun _ => 1) = m := fun m => by
      induction m with
      | zero => rfl
      | succ m ih => rw [rg_succ, sumN_append, ih]; rfl
    exact this n
  rw [h2] at h1
  have h3 : (sumN (rg n) fun t => if (decide (mn n f t = t) && (fun _ : Int => true) t) = true then per n f t else 0) = (sumN (rg n) fun t => if told n f t = true then per n f t - 1 else 0) + cN n f := by
    unfold cN
    rw [← sumN_add]
    apply sumN_congr
    intro t ht
    obtain ⟨p1, _⟩ := b.per_spec ht
    unfold told
    by_cases c : mn n f t = t
    · rw [decide_eq_true c, decide_eq_true c.symm]
      by_cases d : 1 < per n f t
      · rw [decide_eq_true d]
        show per n f t = (per n f t - 1) + 1
        omega
      · rw [decide_eq_false d]
        show per n f t = 0 + 1
        omega
    · rw [decide_eq_false c, decide_eq_false (show ¬ (t = mn n f t) from fun e => c e.symm), Bool.and_false]
      rfl
  rw [h3] at h1
  omega
/-- the things of the told rounds are those that do not stay -/
theorem Bij.told_len (b : Bij n f) : ((roundsL n f).map fun r => (r.length : Int)).sum = ((sumN (rg n) fun u => ind (!decide (f u = u)) : Nat) : Int) := by
  have e0 : ((roundsL n f).map fun r => (r.length : Int)).sum = (((rg n).filter (told n f)).map fun t => ((per n f t : Nat) : Int)).sum := by
    unfold roundsL
    rw [List.map_map]
    congr 1
    apply List.map_congr_left
    intro t ht
    show ((cyc n f t).length : Int) = _
    rw [cyc_len]
  rw [e0, sumI_filter]
  congr 1
  have h1 := b.by_rounds (fun t => decide (1 < per n f t))
  have h2 : (sumN (rg n) fun t => if told n f t = true then per n f t else 0) = sumN (rg n) fun t => if (decide (mn n f t = t) && (fun t => decide (1 < per n f t)) t) = true then per n f t else 0 := by
    apply sumN_congr
    intro t _
    unfold told
    have e : (decide (1 < per n f t) && decide (t = mn n f t)) = (decide (mn n f t = t) && (fun t => decide (1 < per n f t)) t) := by
      rw [Bool.and_comm]
      congr 1
      by_cases c : mn n f t = t
      · rw [decide_eq_true c, decide_eq_true c.symm]
      · rw [decide_eq_false c, decide_eq_false (fun e => c e.symm)]
    rw [e]
  rw [h2, h1]
  apply sumN_congr
  intro u hu
  congr 1
  have hm := b.mn_in hu
  have hu2 : u ∈ cyc n f (mn n f u) := b.of_mn hm hu rfl
  show decide (1 < per n f (mn n f u)) = !decide (f u = u)
  by_cases c : f u = u
  · rw [decide_eq_true c]
    apply decide_eq_false
    intro hp
    have hpu : per n f u = 1 := by
      obtain ⟨p1, _, _, p4⟩ := b.per_spec hu
      by_cases d : 1 < per n f u
      · exact absurd c (p4 1 (Nat.le_refl _) d)
      · omega
    have hmu := b.cyc_symm hm hu2
    obtain ⟨j, hj, ej⟩ := List.mem_map.mp hmu
    rw [hpu] at hj
    have : j = 0 := by
      have := List.mem_range.mp hj
      omega
    subst this
    have e : u = mn n f u := ej
    rw [← e, hpu] at hp
    omega
  · rw [decide_eq_false c]
    apply decide_eq_true
    obtain ⟨p1, p2, p3, p4⟩ := b.per_spec hm
    by_cases d : 1 < per n f (mn n f u)
    · exact d
    · exfalso
      have hp1 : per n f (mn n f u) = 1 := by omega
      obtain ⟨j, hj, ej⟩ := List.mem_map.mp hu2
      rw [hp1] at hj p3
      have : j = 0 := by
        have := List.mem_range.mp hj
        omega
      subst this
      have e : mn n f u = u := ej
      rw [e] at p3
      exact c p3
end
end Fo
namespace Fo
open PySem PySem.Spec PyProof.Rows L2
section
variable {n : Nat} {f g : Int → Int}
/-- g is f with a and b exchanged ahead of it -/
structure Exch (n : Nat) (f g : Int → Int) (a b : Int) : Prop where
  bf : Bij n f
  bg : Bij n g
  ha : a ∈ rg n
  hb : b ∈ rg n
  ne : a ≠ b
  ga : g a = f b
  gb : g b = f a
  gx : ∀ x ∈ rg n, x ≠ a → x ≠ b → g x = f x
theorem Exch.turn {a b : Int} (e : Exch n f g a b) : Exch n g f a b := ⟨e.bg, e.bf, e.ha, e.hb, e.ne, e.gb.symm, e.ga.symm, fun x hx h1 h2 => (e.gx x hx h1 h2).symm⟩
/-- away from both rounds nothing changes -/
theorem Exch.away {a b x : Int} (e : Exch n f g a b) (hx : x ∈ rg n) (h1 : x ∉ cyc n f a) (h2 : x ∉ cyc n f b) : cyc n g x = cyc n f x := by
  have key : ∀ j, it g j x = it f j x := by
    intro j
    induction j with
    | zero => rfl
    | succ j ih =>
      show g (it g j x) = f (it f j x)
      rw [ih]
      refine e.gx _ (e.bf.it_in hx j) (fun z => h1 ?_) (fun z => h2 ?_)
      · have := e.bf.cyc_it hx j
        rw [z] at this
        exact e.bf.cyc_symm hx this
      · have := e.bf.cyc_it hx j
        rw [z] at this
        exact e.bf.cyc_symm hx this
  unfold cyc per
  have : (fun j => decide (it g (j + 1) x = x)) = fun j => decide (it f (j + 1) x = x) := by
    funext j
    rw [key]
  rw [this]
  apply List.map_congr_left
  intro j _
  exact key j
theorem Exch.merge {a b : Int} (e : Exch n f g a b) (hab : b ∉ cyc n f a) : cN n f = cN n g + 1 := by
  have hba : a ∉ cyc n f b := fun h => hab (e.bf.cyc_symm e.hb h)
  obtain ⟨p1, p2, p3, p4⟩ := e.bf.per_spec e.hb
  obtain ⟨q1, q2, q3, q4⟩ := e.bf.per_spec e.ha
  -- from a by g: through the round of b
  have w1 : ∀ j, 1 ≤ j → j ≤ per n f b → it g j a = it f j b := by
    intro j
    induction j with
    | zero => intro h; omega
    | succ j ih =>
      intro _ hj
      by_cases c : j = 0
      · subst c
        exact e.ga
      · show g (it g j a) = f (it f j b)
        rw [ih (by omega) (by omega)]
        refine e.gx _ (e.bf.it_in e.hb j) (fun z => hba ?_) (p4 j (by omega) (by omega))
        have := e.bf.cyc_it e.hb j
        rw [z] at this
        exact this
  have wb : it g (per n f b) a = b := by rw [w1 _ p1 (Nat.le_refl _), p3]
  have w2 : ∀ j, 1 ≤ j → j ≤ per n f a → it g (per n f b + j) a = it f j a := by
    intro j
    induction j with
    | zero => intro h; omega
    | succ j ih =>
      intro _ hj
      by_cases c : j = 0
      · subst c
        show g (it g (per n f b) a) = f a
        rw [wb]
        exact e.gb
      · show g (it g (per n f b + j) a) = f (it f j a)
        rw [ih (by omega) (by omega)]
        refine e.gx _ (e.bf.it_in e.ha j) (q4 j (by omega) (by omega)) (fun z => hab ?_)
        have := e.bf.cyc_it e.ha j
        rw [z] at this
        exact this
  have inB : ∀ x ∈ cyc n f b, x ∈ cyc n g a := by
    intro x hx
    obtain ⟨j, hj, rfl⟩ := List.mem_map.mp hx
    have hj2 := List.mem_range.mp hj
    by_cases c : j = 0
    · subst c
      show b ∈ _
      have := e.bg.cyc_it e.ha (per n f b)
      rw [wb] at this
      exact this
    · have := e.bg.cyc_it e.ha j
      rw [w1 j (by omega) (by omega)] at this
      exact this
  have inA : ∀ x ∈ cyc n f a, x ∈ cyc n g a := by
    intro x hx
    obtain ⟨j, hj, rfl⟩ := List.mem_map.mp hx
    have hj2 := List.mem_range.mp hj
    by_cases c : j = 0
    · subst c
      exact e.bg.cyc_self e.ha
    · have := e.bg.cyc_it e.ha (per n f b + j)
      rw [w2 j (by omega) (by omega)] at this
      exact this
  have out : ∀ x ∈ cyc n g a, x ∈ cyc n f a ∨ x ∈ cyc n f b := by
    intro x hx
    by_cases c1 : x ∈ cyc n f a
    · exact .inl c1
    · by_cases c2 : x ∈ cyc n f b
      · exact .inr c2
      · exfalso
        have hxr := e.bg.cyc_in e.ha hx
        have h3 := e.bg.cyc_symm e.ha hx
        rw [e.away hxr c1 c2] at h3
        exact c1 (e.bf.cyc_symm hxr h3)
  have mA := e.bf.mn_spec e.ha
  have mB := e.bf.mn_spec e.hb
  have mG := e.bg.mn_spec e.ha
  have R : ∀ h : Int → Int, (sumN (rg n) fun t => ind (decide (mn n h t = t))) = sumN (rg n) fun t => ind (decide (mn n h t = t)) := fun _ => rfl
  have ef : cN n f = (sumN (rg n) fun t => ind (decide (mn n f t = t) && (!decide (t ∈ cyc n f a) && !decide (t ∈ cyc n f b)))) + sumN (rg n) (fun t => ind (decide (t = mn n f a))) + sumN (rg n) (fun t => ind (decide (t = mn n f b))) := by
    unfold cN
    rw [← sumN_add, ← sumN_add]
    apply sumN_congr
    intro t ht
    by_cases c1 : t ∈ cyc n f a
    · have c2 : t ∉ cyc n f b := fun z => hab (e.bf.cyc_trans e.ha c1 (e.bf.cyc_symm e.hb z))
      have em := e.bf.mn_same e.ha c1
      have nb : ¬ t = mn n f b := fun z => c2 (by rw [z]; exact mB.1)
      rw [em, decide_eq_true c1, decide_eq_false nb]
      by_cases d : mn n f a = t
      · rw [decide_eq_true d, decide_eq_true d.symm]
        rfl
      · rw [decide_eq_false d, decide_eq_false (show ¬ t = mn n f a from fun z => d z.symm)]
        rfl
    · have na : ¬ t = mn n f a := fun z => c1 (by rw [z]; exact mA.1)
      by_cases c2 : t ∈ cyc n f b
      · have em := e.bf.mn_same e.hb c2
        rw [em, decide_eq_true c2, decide_eq_false na, decide_eq_false c1]
        by_cases d : mn n f b = t
        · rw [decide_eq_true d, decide_eq_true d.symm]
          rfl
        · rw [decide_eq_false d, decide_eq_false (show ¬ t = mn n f b from fun z => d z.symm)]
          rfl
      · have nb : ¬ t = mn n f b := fun z => c2 (by rw [z]; exact mB.1)
        rw [decide_eq_false na, decide_eq_false nb, decide_eq_false c1, decide_eq_false c2]
        show ind _ = ind (_ && true) + 0 + 0
        rw [Bool.and_true]
        rfl
  have eg : cN n g = (sumN (rg n) fun t => ind (decide (mn n f t = t) && (!decide (t ∈ cyc n f a) && !decide (t ∈ cyc n f b)))) + sumN (rg n) (fun t => ind (decide (t = mn n g a))) := by
    unfold cN
    rw [← sumN_add]
    apply sumN_congr
    intro t ht
    by_cases c : t ∈ cyc n g a
    · have em := e.bg.mn_same e.ha c
      have z : (!decide (t ∈ cyc n f a) && !decide (t ∈ cyc n f b)) = false := by
        rcases out t c with h | h
        · rw [decide_eq_true h]; rfl
        · rw [decide_eq_true h]; simp
      rw [em, z, Bool.and_false]
      by_cases d : mn n g a = t
      · rw [decide_eq_true d, decide_eq_true d.symm]
        rfl
      · rw [decide_eq_false d, decide_eq_false (show ¬ t = mn n g a from fun z => d z.symm)]
        rfl
    · have c1 : t ∉ cyc n f a := fun z => c (inA t z)
      have c2 : t ∉ cyc n f b := fun z => c (inB t z)
      have na : ¬ t = mn n g a := fun z => c (by rw [z]; exact mG.1)
      have em : mn n g t = mn n f t := by
        unfold mn
        rw [e.away ht c1 c2]
      rw [em, decide_eq_false c1, decide_eq_false c2, decide_eq_false na]
      show ind _ = ind (_ && true) + 0
      rw [Bool.and_true]
      rfl
  rw [ef, eg, ind_one (e.bf.mn_in e.ha), ind_one (e.bf.mn_in e.hb), ind_one (e.bg.mn_in e.ha)]
theorem Exch.split {a b : Int} (e : Exch n f g a b) (hab : b ∈ cyc n f a) : b ∉ cyc n g a := by
  intro hg
  obtain ⟨q1, q2, q3, q4⟩ := e.bf.per_spec e.ha
  obtain ⟨g1, g2, g3, g4⟩ := e.bg.per_spec e.ha
  obtain ⟨k, hk, ek⟩ := List.mem_map.mp hab
  have hk2 := List.mem_range.mp hk
  have hk0 : k ≠ 0 := fun z => by
    subst z
    exact e.ne ek
  have nd := e.bf.cyc_nodup e.ha
  have w : ∀ j, 1 ≤ j → j ≤ per n f a - k → it g j a = it f (k + j) a := by
    intro j
    induction j with
    | zero => intro h; omega
    | succ j ih =>
      intro _ hj
      by_cases c : j = 0
      · subst c
        show g a = f (it f k a)
        rw [ek]
        exact e.ga
      · show g (it g j a) = f (it f (k + j) a)
        rw [ih (by omega) (by omega)]
        refine e.gx _ (e.bf.it_in e.ha _) (q4 (k + j) (by omega) (by omega)) (fun z => ?_)
        rw [← ek] at z
        have := nd_ix nd (cyc_at (n := n) (f := f) (t := a) (j := k + j) (by omega)) (by rw [cyc_at (by omega), z])
        omega
  have back : it g (per n f a - k) a = a := by
    rw [w _ (by omega) (Nat.le_refl _), show k + (per n f a - k) = per n f a by omega, q3]
  have hper : per n g a ≤ per n f a - k := by
    by_cases c : per n f a - k < per n g a
    · exact absurd back (g4 _ (by omega) c)
    · omega
  obtain ⟨j, hj, ej⟩ := List.mem_map.mp hg
  have hj2 := List.mem_range.mp hj
  by_cases c : j = 0
  · subst c
    exact e.ne ej
  · rw [w j (by omega) (by omega), ← ek] at ej
    have := nd_ix nd (cyc_at (n := n) (f := f) (t := a) (j := k + j) (by omega)) (by rw [cyc_at (by omega), ej])
    omega
theorem Exch.rounds {a b : Int} (e : Exch n f g a b) : cN n f = cN n g + 1 ∨ cN n g = cN n f + 1 := by
  by_cases c : b ∈ cyc n f a
  · exact .inr (e.turn.merge (e.split c))
  · exact .inl (e.merge c)
end
/-! ### an exchange of two things -/
theorem fol_exch {n : Nat} {xs ys : List Int} (ox : IsOrd n xs) (oy : IsOrd n ys) {p q : Nat} {a b : Int} (hpq : p ≠ q) (ha : ys[p]? = some a) (hb : ys[q]? = some b) : Exch n (fol xs ys) (fol xs ((ys.set p b).set q a)) a b := by
  have oz : IsOrd n ((ys.set p b).set q a) := (set2_perm ha hb).trans oy
  have hp := (List.getElem?_eq_some_iff.mp ha).1
  have hq := (List.getElem?_eq_some_iff.mp hb).1
  have hab := oy.mem (List.mem_of_getElem? ha)
  have hbb := oy.mem (List.mem_of_getElem? hb)
  have pa : pos ((ys.set p b).set q a) a = (q : Int) := pos_of oz (by rw [List.getElem?_set_self (by rw [List.length_set]; exact hq)])
  have pb : pos ((ys.set p b).set q a) b = (p : Int) := pos_of oz (by rw [List.getElem?_set_ne (fun z => hpq z.symm), List.getElem?_set_self hp])
  refine ⟨fol_bij ox oy, fol_bij ox oz, rg_mem.mpr hab, rg_mem.mpr hbb, fun z => ?_, ?_, ?_, fun x hx h1 h2 => ?_⟩
  · rw [z] at ha
    exact hpq (nd_ix oy.nodup ha hb)
  · unfold fol
    rw [pa, pos_of oy hb]
  · unfold fol
    rw [pb, pos_of oy ha]
  · have hxb := rg_mem.mp hx
    obtain ⟨j, hj, ej, pj⟩ := pos_at oy hxb.1 hxb.2
    have n1 : p ≠ j := fun z => h1 (by rw [← z] at ej; exact Option.some.inj (ej.symm.trans ha))
    have n2 : q ≠ j := fun z => h2 (by rw [← z] at ej; exact Option.some.inj (ej.symm.trans hb))
    unfold fol
    rw [pj, pos_of oz (j := j) (by rw [List.getElem?_set_ne n2, List.getElem?_set_ne n1]; exact ej)]
theorem steps_exch {n : Nat} {xs ys : List Int} (ox : IsOrd n xs) (oy : IsOrd n ys) {p q : Nat} {a b : Int} (hpq : p ≠ q) (ha : ys[p]? = some a) (hb : ys[q]? = some b) : absI (stepsI n (fol xs ((ys.set p b).set q a)) - stepsI n (fol xs ys)) = 1 := by
  have e := fol_exch ox oy hpq ha hb
  have h := e.rounds
  rw [e.bf.steps_c, e.bg.steps_c]
  unfold absI
  split <;> omega
theorem fol_inv {n : Nat} {xs ys : List Int} (ox : IsOrd n xs) (oy : IsOrd n ys) : Inv2 n (fol xs ys) (fol ys xs) := ⟨fol_bij ox oy, fol_bij oy ox, fol_turn ox oy⟩
theorem steps_turn {n : Nat} {xs ys : List Int} (ox : IsOrd n xs) (oy : IsOrd n ys) : stepsI n (fol ys xs) = stepsI n (fol xs ys) := by
  unfold stepsI
  rw [(fol_inv ox oy).rounds_eq, List.map_map]
  congr 1
  apply List.map_congr_left
  intro r _
  show ((flip1 r).length : Int) - 1 = (r.length : Int) - 1
  rw [(flip1_perm r).length_eq]
theorem steps_swap {n : Nat} {ys : List Int} (oy : IsOrd n ys) (hn : 1 ≤ n) : ∀ (m : Nat) (xs : List Int), IsOrd n xs → invR (seatsL xs ys) = m → stepsI n (fol ys xs) ≤ (m : Int)
  | 0, xs, ox, h => by
    have := seats_same ox oy hn h
    subst this
    unfold stepsI
    rw [rounds_self ox hn]
    exact Int.le_refl _
  | m + 1, xs, ox, h => by
    obtain ⟨p, hp, _, _, hi, o⟩ := walk_step ox h
    have ih := steps_swap oy hn m _ o hi
    obtain ⟨x, hx, _⟩ := ord_ix ox (j := p) (by omega)
    obtain ⟨y, hy, _⟩ := ord_ix ox (j := p + 1) (by omega)
    have es : sw xs p = (xs.set p y).set (p + 1) x := by
      unfold sw
      rw [List.getD_eq_getElem?_getD, List.getD_eq_getElem?_getD, hx, hy]
      rfl
    have h1 := steps_exch oy ox (show p ≠ p + 1 by omega) hx hy
    rw [← es] at h1
    unfold absI at h1
    split at h1 <;> omega
theorem steps_spot {n : Nat} {xs ys : List Int} (ox : IsOrd n xs) (oy : IsOrd n ys) : farSpot xs ys - ((roundsL n (fol xs ys)).length : Int) = stepsI n (fol xs ys) := by
  have b := fol_bij ox oy
  have h1 := b.told_len
  have h2 : stepsI n (fol xs ys) = ((roundsL n (fol xs ys)).map fun r => (r.length : Int)).sum - ((roundsL n (fol xs ys)).length : Int) := by
    unfold stepsI
    exact steps_sum _
  have h3 : (sumN (rg n) fun u => ind (!decide (fol xs ys u = u))) = spT n xs ys := by
    unfold spT
    apply sumN_congr
    intro t ht
    congr 2
    by_cases c : pos xs t = pos ys t
    · rw [decide_eq_true c]
      apply decide_eq_true
      unfold fol
      rw [← c, g0_pos ox ht]
    · rw [decide_eq_false c]
      apply decide_eq_false
      intro z
      unfold fol at z
      have := pos_g0 ox (pos_in oy ht)
      rw [z] at this
      exact c this
  rw [h3] at h1
  rw [spot_T ox oy, h2, h1]
end Fo
namespace Fo
open PySem PySem.Spec PyProof.Rows L2
/-! ### counts of orders, as the program reckons them -/
def addAt (l : List Int) (i : Nat) (v : Int) : List Int := l.set i (l.getD i 0 + v)
def swIn (m : Int) (far : Nat) : Nat → List Int → List Int
  | 0, l => l
  | p + 1, l => addAt (swIn m far p l) (far + p) m
def swOut (c : List Int) (b : Nat) : Nat → List Int
  | 0 => List.replicate (c.length + b) 0
  | i + 1 => swIn (c.getD i 0) i (b + 1) (swOut c b i)
def swNext (c : List Int) (b : Nat) : List Int := swOut c b c.length
def swC : Nat → List Int
  | 0 => [1]
  | k + 1 => swNext (swC k) (k + 1)
theorem addAt_len (l : List Int) (i : Nat) (v : Int) : (addAt l i v).length = l.length := List.length_set
theorem swIn_len (m : Int) (far : Nat) : ∀ (p : Nat) (l : List Int), (swIn m far p l).length = l.length
  | 0, _ => rfl
  | p + 1, l => by rw [swIn, addAt_len, swIn_len m far p l]
theorem swOut_len (c : List Int) (b : Nat) : ∀ i : Nat, (swOut c b i).length = c.length + b
  | 0 => List.length_replicate
  | i + 1 => by rw [swOut, swIn_len, swOut_len c b i]
def triN : Nat → Nat
  | 0 => 0
  | k + 1 => triN k + (k + 1)
theorem swC_len : ∀ k : Nat, (swC k).length = 1 + triN k
  | 0 => rfl
  | k + 1 => by
    show (swOut (swC k) (k + 1) (swC k).length).length = 1 + (triN k + (k + 1))
    rw [swOut_len, swC_len k]
    omega
theorem tri_le : ∀ k : Nat, k < 12 → triN k ≤ 66 ∧ triN k < (k + 1) * (k + 1) := by decide
theorem swC_good : ∀ k : Nat, k < 12 → (swC k).all (fun x => decide (0 ≤ x)) = true ∧ (swC k).head? = some 1 ∧ (swC k).sum ≤ 479001600 := by decide +kernel
/-! by places -/
def chN (n : Nat) : Nat → Int
  | 0 => 1
  | r + 1 => chN n r * ((n : Int) - r) / (r + 1)
def mvN : Nat → Int × Int
  | 0 => (1, 1)
  | k + 1 => ((mvN k).1 * (k + 1) + -(mvN k).2, -(mvN k).2)
def spC (n : Nat) : List Int := (List.range (n + 1)).map fun r => chN n r * (mvN r).1
theorem ch_small : ∀ n : Nat, n < 13 → ∀ r : Nat, r < 14 → 0 ≤ chN n r ∧ chN n r ≤ 1000 := by decide +kernel
theorem mv_small : ∀ n : Nat, n < 13 → 0 ≤ (mvN n).1 ∧ (mvN n).1 ≤ 479001600 ∧ -1 ≤ (mvN n).2 ∧ (mvN n).2 ≤ 1 := by decide +kernel
theorem spC_good : ∀ n : Nat, n < 13 → (spC n).all (fun x => decide (0 ≤ x)) = true ∧ (spC n).head? = some 1 ∧ (spC n).sum ≤ 479001600 := by decide +kernel
def facN : Nat → Int
  | 0 => 1
  | k + 1 => facN k * (k + 1)
theorem fac_small : ∀ n : Nat, n < 13 → 0 < facN n ∧ facN n ≤ 479001600 := by decide +kernel
def noneN : Nat → List Int
  | 0 => [1, 0]
  | k + 1 => noneN k ++ [((k : Int) + 2 - 1) * ((noneN k).getD (k + 1) 0 + (noneN k).getD k 0)]
theorem spC_law : ∀ n : Nat, n < 13 → spC n = (List.range (n + 1)).map fun r => facN n / facN r / facN (n - r) * (noneN (n - 1)).getD r 0 := by decide +kernel
theorem noneN_len : ∀ k : Nat, (noneN k).length = k + 2
  | 0 => rfl
  | k + 1 => by
    rw [noneN, List.length_append, noneN_len k]
    rfl
theorem noneN_small : ∀ k : Nat, k < 12 → (noneN k).all (fun x => decide (0 ≤ x) && decide (x ≤ 479001600)) = true := by decide +kernel
/-- the sum of a beginning of good counts -/
theorem sum_nonneg : ∀ l : List Int, l.all (fun x => decide (0 ≤ x)) = true → 0 ≤ l.sum
  | [], _ => Int.le_refl _
  | a :: l, h => by
    rw [List.all_cons, Bool.and_eq_true] at h
    have := of_decide_eq_true h.1
    have := sum_nonneg l h.2
    rw [List.sum_cons]
    omega
theorem sum_take {l : List Int} {k : Nat} (h : l.all (fun x => decide (0 ≤ x)) = true) (h1 : l.head? = some 1) (hk : 0 < k) : 1 ≤ (l.take k).sum ∧ (l.take k).sum ≤ l.sum := by
  match l, h1, k, hk with
  | a :: r, h1, k + 1, _ =>
    have e : a = 1 := Option.some.inj h1
    subst e
    rw [List.all_cons, Bool.and_eq_true] at h
    rw [List.take_succ_cons, List.sum_cons, List.sum_cons]
    have hs : (r.take k).sum + (r.drop k).sum = r.sum := by rw [← List.sum_append, List.take_append_drop]
    have h2 := h.2
    rw [← List.take_append_drop k r, List.all_append, Bool.and_eq_true] at h2
    have := sum_nonneg _ h2.1
    have := sum_nonneg _ h2.2
    omega
end Fo
namespace Fo
open PySem PySem.Spec PyProof.Rows L2
/-! ### counts by shift: beginnings by the set of their things -/
def lookN (l : List (Nat × Int)) (k : Nat) : Int := ((l.find? fun p => decide (p.1 = k)).map (·.2)).getD 0
def putN (l : List (Nat × Int)) (k : Nat) (v : Int) : List (Nat × Int) := if l.any (fun p => decide (p.1 = k)) then l.map (fun p => if p.1 = k then (p.1, v) else p) else l ++ [(k, v)]
def keysN (l : List (Nat × Int)) : List Nat := l.map (·.1)
def totN (l : List (Nat × Int)) : Int := (l.map (·.2)).sum
def stIn (u : Nat) (m : Int) (lo : Nat) : Nat → List (Nat × Int) → List (Nat × Int)
  | 0, l => l
  | j + 1, l => if u.testBit (lo + j) then stIn u m lo j l else putN (stIn u m lo j l) (u + 2 ^ (lo + j)) (lookN (stIn u m lo j l) (u + 2 ^ (lo + j)) + m)
def stOut (d : List (Nat × Int)) (lo c : Nat) : Nat → List (Nat × Int)
  | 0 => []
  | i + 1 => stIn (d.getD i (0, 0)).1 (d.getD i (0, 0)).2 lo c (stOut d lo c i)
def loP (p : Nat) (r : Int) : Nat := (max 0 ((p : Int) - r)).toNat
def ctP (n p : Nat) (r : Int) : Nat := (min (n : Int) ((p : Int) + r + 1)).toNat - loP p r
def shD (n : Nat) (r : Int) : Nat → List (Nat × Int)
  | 0 => [(0, 1)]
  | p + 1 => stOut (shD n r p) (loP p r) (ctP n p r) (shD n r p).length
def shN (n : Nat) (r : Int) : Int := totN (shD n r n)
theorem any_keys (l : List (Nat × Int)) (k : Nat) : l.any (fun p => decide (p.1 = k)) = decide (k ∈ keysN l) := by
  induction l with
  | nil => rfl
  | cons p l ih =>
    rw [List.any_cons, ih]
    unfold keysN
    rw [List.map_cons]
    by_cases c : p.1 = k
    · subst c; simp
    · have c2 : ¬ k = p.1 := fun e => c e.symm
      simp [c, c2]
theorem put_keys (l : List (Nat × Int)) (k : Nat) (v : Int) : keysN (putN l k v) = if k ∈ keysN l then keysN l else keysN l ++ [k] := by
  unfold putN
  rw [any_keys]
  by_cases c : k ∈ keysN l
  · rw [decide_eq_true c, if_pos rfl, if_pos c]
    unfold keysN
    rw [List.map_map]
    apply List.map_congr_left
    intro p _
    show (if p.1 = k then (p.1, v) else p).1 = p.1
    split <;> rfl
  · rw [decide_eq_false c, if_neg (by decide), if_neg c]
    unfold keysN
    rw [List.map_append]
    rfl
theorem put_nodup {l : List (Nat × Int)} {k : Nat} {v : Int} (h : (keysN l).Nodup) : (keysN (putN l k v)).Nodup := by
  rw [put_keys]
  split
  · exact h
  · rename_i c
    rw [List.nodup_append]
    refine ⟨h, List.nodup_cons.mpr ⟨List.not_mem_nil, List.nodup_nil⟩, fun x hx y hy e => ?_⟩
    rw [List.mem_singleton.mp hy] at e
    exact c (by rw [← e]; exact hx)
theorem put_mem {l : List (Nat × Int)} {k x : Nat} {v : Int} : x ∈ keysN (putN l k v) ↔ x ∈ keysN l ∨ x = k := by
  rw [put_keys]
  split
  · rename_i c
    exact ⟨.inl, fun h => h.elim id fun e => by rw [e]; exact c⟩
  · rw [List.mem_append, List.mem_singleton]
theorem look_cons (p : Nat × Int) (l : List (Nat × Int)) (k : Nat) : lookN (p :: l) k = if p.1 = k then p.2 else lookN l k := by
  unfold lookN
  rw [List.find?_cons]
  by_cases c : p.1 = k
  · rw [decide_eq_true c, if_pos c]; rfl
  · rw [decide_eq_false c, if_neg c]
theorem put_cons (p : Nat × Int) (l : List (Nat × Int)) (k : Nat) (v : Int) (hn : (keysN (p :: l)).Nodup) : putN (p :: l) k v = if p.1 = k then (p.1, v) :: l else p :: putN l k v := by
  by_cases c : p.1 = k
  · rw [if_pos c]
    unfold putN
    rw [List.any_cons, decide_eq_true c, Bool.true_or, if_pos rfl, List.map_cons, if_pos c]
    congr 1
    have e : l.map (fun p => if p.1 = k then (p.1, v) else p) = l.map id := by
      apply List.map_congr_left
      intro q hq
      have : q.1 ≠ k := fun e => (List.nodup_cons.mp hn).1 (by
        show p.1 ∈ keysN l
        rw [c, ← e]
        exact List.mem_map.mpr ⟨q, hq, rfl⟩)
      rw [if_neg this]
      rfl
    rw [e, List.map_id]
  · rw [if_neg c]
    unfold putN
    rw [List.any_cons, decide_eq_false c, Bool.false_or]
    by_cases d : (l.any fun p => decide (p.1 = k)) = true
    · rw [if_pos d, if_pos d, List.map_cons, if_neg c]
    · rw [if_neg d, if_neg d]
      rfl
theorem put_tot : ∀ (l : List (Nat × Int)) (k : Nat) (m : Int), (keysN l).Nodup → totN (putN l k (lookN l k + m)) = totN l + m
  | [], k, m, _ => by
    show 0 + m + 0 = 0 + m
    omega
  | p :: l, k, m, hn => by
    have ih := put_tot l k m (List.nodup_cons.mp hn).2
    rw [put_cons p l k _ hn, look_cons]
    unfold totN at ih ⊢
    by_cases c : p.1 = k
    · rw [if_pos c, if_pos c, List.map_cons, List.map_cons, List.sum_cons, List.sum_cons]
      omega
    · rw [if_neg c, if_neg c, List.map_cons, List.map_cons, List.sum_cons, List.sum_cons, ih]
      omega
def PosN (l : List (Nat × Int)) : Prop := ∀ p ∈ l, 0 < p.2
theorem look_nonneg {l : List (Nat × Int)} (h : PosN l) (k : Nat) : 0 ≤ lookN l k := by
  induction l with
  | nil => exact Int.le_refl _
  | cons p l ih =>
    rw [look_cons]
    split
    · have := h p List.mem_cons_self; omega
    · exact ih fun q hq => h q (List.mem_cons_of_mem _ hq)
theorem put_pos {l : List (Nat × Int)} (h : PosN l) {k : Nat} {v : Int} (hv : 0 < v) : PosN (putN l k v) := by
  intro p hp
  unfold putN at hp
  split at hp
  · obtain ⟨q, hq, e⟩ := List.mem_map.mp hp
    rw [← e]
    split
    · exact hv
    · exact h q hq
  · rcases List.mem_append.mp hp with hp | hp
    · exact h p hp
    · rw [List.mem_singleton.mp hp]
      exact hv
theorem nodupN_len : ∀ {l m : List Nat}, l.Nodup → (∀ x ∈ l, x ∈ m) → l.length ≤ m.length
  | [], m, _, _ => Nat.zero_le _
  | a :: l, m, hn, hs => by
    obtain ⟨h1, h2⟩ := List.nodup_cons.mp hn
    have ha := hs a List.mem_cons_self
    have ih := nodupN_len (l := l) (m := m.erase a) h2 fun x hx => by
      have ne : x ≠ a := fun e => h1 (by rw [← e]; exact hx)
      exact (List.mem_erase_of_ne ne).mpr (hs x (List.mem_cons_of_mem _ hx))
    rw [List.length_erase_of_mem ha] at ih
    have : 0 < m.length := List.length_pos_of_mem ha
    rw [List.length_cons]
    omega
/-- what holds of the beginnings: no key twice, keys below 2 ^ 12, each counted -/
structure GoodD (l : List (Nat × Int)) : Prop where
  nd : (keysN l).Nodup
  lt : ∀ k ∈ keysN l, k < 4096
  pos : PosN l
theorem GoodD.len {l : List (Nat × Int)} (h : GoodD l) : l.length ≤ 4096 := by
  have h1 : (keysN l).length ≤ (List.range 4096).length := by
    have hsub : ∀ x ∈ keysN l, x ∈ List.range 4096 := fun x hx => List.mem_range.mpr (h.lt x hx)
    exact nodupN_len h.nd hsub
  rw [List.length_range] at h1
  unfold keysN at h1
  rw [List.length_map] at h1
  exact h1
theorem bit_and {u t : Nat} (h : u.testBit t = false) : u &&& 2 ^ t = 0 := by
  apply Nat.eq_of_testBit_eq
  intro i
  rw [Nat.testBit_and, Nat.testBit_two_pow, Nat.zero_testBit]
  by_cases c : t = i
  · subst c; simp [h]
  · simp [c]
theorem bit_add {u t : Nat} (h : u.testBit t = false) (hu : u < 4096) (ht : t < 12) : u + 2 ^ t = u ||| 2 ^ t := by
  have e := bit_and h
  have h2 : 2 ^ t < 4096 := Nat.pow_lt_pow_right (n := 12) (by decide) ht
  have b := BitVec.add_eq_or_of_and_eq_zero (w := 13) (BitVec.ofNat 13 u) (BitVec.ofNat 13 (2 ^ t)) (by
    apply BitVec.eq_of_toNat_eq
    rw [BitVec.toNat_and, BitVec.toNat_ofNat, BitVec.toNat_ofNat, Nat.mod_eq_of_lt (by omega), Nat.mod_eq_of_lt (by omega), e]
    rfl)
  have c := congrArg BitVec.toNat b
  rw [BitVec.toNat_or, BitVec.toNat_add, BitVec.toNat_ofNat, BitVec.toNat_ofNat, Nat.mod_eq_of_lt (show u < 2 ^ 13 by omega), Nat.mod_eq_of_lt (show 2 ^ t < 2 ^ 13 by omega), Nat.mod_eq_of_lt (show u + 2 ^ t < 2 ^ 13 by omega)] at c
  exact c
theorem bit_lt {u t : Nat} (h : u.testBit t = false) (hu : u < 4096) (ht : t < 12) : u + 2 ^ t < 4096 := by
  rw [bit_add h hu ht]
  exact Nat.or_lt_two_pow (n := 12) hu (Nat.pow_lt_pow_right (by decide) ht)
theorem put_good {l : List (Nat × Int)} (h : GoodD l) {u t : Nat} {m : Int} (hb : u.testBit t = false) (hu : u < 4096) (ht : t < 12) (hm : 0 < m) : GoodD (putN l (u + 2 ^ t) (lookN l (u + 2 ^ t) + m)) :=
  ⟨put_nodup h.nd, fun k hk => (put_mem.mp hk).elim (h.lt k) fun e => by rw [e]; exact bit_lt hb hu ht, put_pos h.pos (by have := look_nonneg h.pos (u + 2 ^ t); omega)⟩
theorem stIn_good {u : Nat} {m : Int} {lo : Nat} (hu : u < 4096) (hm : 0 < m) : ∀ (j : Nat) (l : List (Nat × Int)), GoodD l → lo + j ≤ 12 → GoodD (stIn u m lo j l) ∧ totN (stIn u m lo j l) ≤ totN l + j * m ∧ (∀ k ∈ keysN l, k ∈ keysN (stIn u m lo j l)) ∧ ∀ i, i < j → u.testBit (lo + i) = false → u + 2 ^ (lo + i) ∈ keysN (stIn u m lo j l)
  | 0, l, h, _ => ⟨h, by show totN l ≤ totN l + 0 * m; omega, fun k hk => hk, fun i hi => absurd hi (Nat.not_lt_zero _)⟩
  | j + 1, l, h, hj => by
    obtain ⟨h1, h2, h3, h4⟩ := stIn_good (lo := lo) hu hm j l h (by omega)
    have em : ((j + 1 : Nat) : Int) * m = (j : Int) * m + m := by rw [Int.natCast_add, Int.add_mul]; omega
    rw [stIn]
    split
    · rename_i c
      refine ⟨h1, by omega, h3, fun i hi hb => ?_⟩
      by_cases e : i = j
      · subst e; rw [hb] at c; cases c
      · exact h4 i (by omega) hb
    · rename_i c
      have hb : u.testBit (lo + j) = false := by simpa using c
      refine ⟨put_good h1 hb hu (by omega) hm, by rw [put_tot _ _ _ h1.nd]; omega, fun k hk => put_mem.mpr (.inl (h3 k hk)), fun i hi hb2 => ?_⟩
      by_cases e : i = j
      · subst e; exact put_mem.mpr (.inr rfl)
      · exact put_mem.mpr (.inl (h4 i (by omega) hb2))
theorem getD_at {d : List (Nat × Int)} {i : Nat} (h : i < d.length) : d.getD i (0, 0) = d[i] := by
  rw [List.getD_eq_getElem?_getD, List.getElem?_eq_getElem h]
  rfl
theorem take_tot {d : List (Nat × Int)} {i : Nat} (h : i < d.length) : totN (d.take (i + 1)) = totN (d.take i) + (d.getD i (0, 0)).2 := by
  unfold totN
  rw [List.take_add_one, List.getElem?_eq_getElem h, List.map_append, List.sum_append, getD_at h]
  show _ + (d[i].2 + 0) = _
  omega
theorem stOut_good {d : List (Nat × Int)} {lo c : Nat} (hd : GoodD d) (hc : lo + c ≤ 12) : ∀ i, i ≤ d.length → GoodD (stOut d lo c i) ∧ totN (stOut d lo c i) ≤ 12 * totN (d.take i) ∧ ∀ j, j < i → ∀ t, t < c → (d.getD j (0, 0)).1.testBit (lo + t) = false → (d.getD j (0, 0)).1 + 2 ^ (lo + t) ∈ keysN (stOut d lo c i)
  | 0, _ => ⟨⟨List.nodup_nil, fun k hk => absurd hk List.not_mem_nil, fun p hp => absurd hp List.not_mem_nil⟩, by rw [List.take_zero]; show (0 : Int) ≤ 12 * 0; decide, fun j hj => absurd hj (Nat.not_lt_zero _)⟩
  | i + 1, hi => by
    obtain ⟨h1, h2, h3⟩ := stOut_good hd hc i (by omega)
    have hmem : d.getD i (0, 0) ∈ d := by rw [getD_at (by omega)]; exact List.getElem_mem _
    have hm := hd.pos _ hmem
    have hu := hd.lt _ (List.mem_map.mpr ⟨_, hmem, rfl⟩)
    obtain ⟨g1, g2, g3, g4⟩ := stIn_good (lo := lo) hu hm c (stOut d lo c i) h1 hc
    refine ⟨g1, ?_, fun j hj t ht hb => ?_⟩
    · rw [take_tot (by omega)]
      have h12 : (c : Int) * (d.getD i (0, 0)).2 ≤ 12 * (d.getD i (0, 0)).2 := Int.mul_le_mul_of_nonneg_right (by omega) (by omega)
      show totN (stIn _ _ _ _ _) ≤ _
      omega
    · by_cases e : j = i
      · subst e; exact g4 t ht hb
      · exact g3 _ (h3 j (by omega) t ht hb)
theorem lo_ct {n p : Nat} {r : Int} (hn : n ≤ 12) (hp : p < n) (hr : 0 ≤ r) : loP p r + ctP n p r ≤ 12 ∧ loP p r ≤ p ∧ p < loP p r + ctP n p r := by
  unfold ctP loP
  omega
theorem one_bits (p : Nat) : (2 ^ p - 1).testBit p = false ∧ 2 ^ p - 1 + 2 ^ p = 2 ^ (p + 1) - 1 := by
  refine ⟨by simp, ?_⟩
  rw [Nat.pow_succ]
  have := Nat.two_pow_pos p
  omega
theorem shD_good {n : Nat} {r : Int} (hn : n ≤ 12) (hr : 0 ≤ r) : ∀ p, p ≤ n → GoodD (shD n r p) ∧ totN (shD n r p) ≤ 12 ^ p ∧ 2 ^ p - 1 ∈ keysN (shD n r p)
  | 0, _ => ⟨⟨by show [0].Nodup; decide, by show ∀ k ∈ [0], k < 4096; decide, by intro p hp; rw [List.mem_singleton.mp hp]; decide⟩, by show (1 : Int) + 0 ≤ 12 ^ 0; decide, by show 0 ∈ [0]; decide⟩
  | p + 1, hp => by
    obtain ⟨h1, h2, h3⟩ := shD_good hn hr p (by omega)
    obtain ⟨l1, l2, l3⟩ := lo_ct (r := r) hn (show p < n by omega) hr
    obtain ⟨g1, g2, g3⟩ := stOut_good h1 l1 (shD n r p).length (Nat.le_refl _)
    rw [List.take_length] at g2
    refine ⟨g1, ?_, ?_⟩
    · show totN (stOut _ _ _ _) ≤ 12 ^ (p + 1)
      rw [Int.pow_succ]
      omega
    · obtain ⟨b1, b2⟩ := one_bits p
      obtain ⟨q, hq, eq⟩ := List.mem_map.mp h3
      obtain ⟨j, hj, ej⟩ := List.getElem_of_mem hq
      have e : (shD n r p).getD j (0, 0) = q := by rw [getD_at hj, ej]
      have := g3 j hj (p - loP p r) (by omega) (by rw [e, eq, show loP p r + (p - loP p r) = p by omega]; exact b1)
      rw [e, eq, show loP p r + (p - loP p r) = p by omega, b2] at this
      exact this
theorem tot_pos {l : List (Nat × Int)} (h : PosN l) (hl : l ≠ []) : 0 < totN l := by
  have nn : ∀ m : List (Nat × Int), PosN m → 0 ≤ totN m := by
    intro m
    induction m with
    | nil => intro _; exact Int.le_refl _
    | cons p m ih =>
      intro h
      have a := h p List.mem_cons_self
      have b := ih fun q hq => h q (List.mem_cons_of_mem _ hq)
      unfold totN at b ⊢
      rw [List.map_cons, List.sum_cons]
      omega
  match l, h, hl with
  | p :: l, h, _ =>
    have a := h p List.mem_cons_self
    have b := nn l fun q hq => h q (List.mem_cons_of_mem _ hq)
    unfold totN at b ⊢
    rw [List.map_cons, List.sum_cons]
    omega
theorem shN_good {n : Nat} {r : Int} (hn : n ≤ 12) (hr : 0 ≤ r) : 1 ≤ shN n r ∧ shN n r ≤ 8916100448256 := by
  obtain ⟨h1, h2, h3⟩ := shD_good hn hr n (Nat.le_refl _)
  have hne : shD n r n ≠ [] := fun e => by rw [e] at h3; cases h3
  have h4 := tot_pos h1.pos hne
  refine ⟨h4, Int.le_trans h2 ?_⟩
  have h5 : (12 : Nat) ^ n ≤ 12 ^ 12 := Nat.pow_le_pow_right (by decide) hn
  have h6 : (((12 : Nat) ^ n : Nat) : Int) ≤ ((12 ^ 12 : Nat) : Int) := Int.ofNat_le.mpr h5
  rw [Int.natCast_pow] at h6
  exact h6
/-- a reach beyond all is as n's own -/
theorem shD_far {n : Nat} {r : Int} (hr : (n : Int) ≤ r) : ∀ p, p ≤ n → shD n r p = shD n n p
  | 0, _ => rfl
  | p + 1, hp => by
    rw [shD, shD, shD_far hr p (by omega)]
    have e1 : loP p r = loP p n := by unfold loP; omega
    have e2 : ctP n p r = ctP n p n := by unfold ctP; rw [e1]; omega
    rw [e1, e2]
theorem shN_far {n : Nat} {r : Int} : shN n (min (n : Int) r) = shN n r := by
  unfold shN
  by_cases c : (n : Int) ≤ r
  · rw [shD_far c n (Nat.le_refl _), Int.min_eq_left c]
  · rw [Int.min_eq_right (by omega)]
end Fo
namespace Fo
open PySem PySem.Spec PyProof.Rows L2
/-! ### rules of my own: xs[i] op= e, sum(d.values()) -/
section
variable {X : Cx}
def rGetL (K : PySem.W.Frag) : V → V → Hp → VK → Prop := fun o i H Q => ∃ p xs k v, o = .ref p ∧ i = .int k ∧ SqL K H p xs ∧ 0 ≤ k ∧ atI xs k = some v ∧ Q v H
theorem get_list : PGet X (rGetL X.K) := by
  intro pins s σ H o i ov iv Q J ro ri hz
  obtain ⟨p, xs, k, v, eo, ei, sq, k0, at', q⟩ := hz
  subst eo ei
  cases ro
  obtain ⟨tk, ek⟩ := ri
  subst ek
  obtain ⟨its, rl, pl, hlen⟩ := J.list sq
  obtain ⟨j, a1, a2, a3, a4, a5⟩ := atI_get at'
  obtain ⟨u, eu, ru⟩ := rl.get a2
  have l1 := rl.length
  have l2 := line63
  have ej : k.toNat = j := by
    rw [seqIndex_of k0 a5] at a1
    exact Option.some.inj a1
  exact wpAny_getItem_list pl.isList k0 (by omega) (by rw [ej]; simpa using eu) ⟨v, H, J, ru, q⟩
def tSumVals (td : TE) : TE := fun σ H Q => td σ H fun x H1 => ∃ (a : Addr) (kvs : List (Key × V)) (is : List Int), x = V.ref a ∧ H1 a = some (.dK kvs) ∧ kvs.map (·.2) = is.map V.int ∧ Q (.int is.sum) H1
theorem preSum_list (is : List Int) : ∀ n, n ≤ is.length → preSum (fun i => is.getD i 0) n = (is.take n).sum
  | 0, _ => rfl
  | n + 1, h => by
    have e : is[n]? = some is[n] := List.getElem?_eq_getElem (by omega)
    rw [List.take_add_one, e, List.sum_append, ← preSum_list is n (by omega)]
    show preSum _ n + is.getD n 0 = _
    rw [List.getD_eq_getElem?_getD, e]
    show _ + is[n] = _ + (is[n] + 0)
    omega
theorem pe_sumVals {o : Expr} {p pos apos mpos : Pos} {td : TE} (calm : X.calm = true) (gl : Gl X "sum") (mn : X.mg "sum" = none) (hd : PE X o td)
    (ab : attributeBase o "values" X.env (eval o X.env) = eval o X.env := by rfl) (ln : (apos.endLine == mpos.line) = true := by rfl)
    (st : starEach [Expr.Call (.Attribute o "values" apos) [] [] mpos] X.env = [(false, eval (Expr.Call (.Attribute o "values" apos) [] [] mpos) X.env)] := by rfl) :
    PE X (.Call (.Name "sum" p) [.Call (.Attribute o "values" apos) [] [] mpos] [] pos) (tSumVals td) := by
  refine ⟨fun pins s σ H Q J hw => ?_⟩
  refine wpAny_Call_Name_kw (ld_blt J gl mn (u := .builtin "sum") (by decide +kernel) ?_ (by decide +kernel) (by decide +kernel))
  rw [st]
  refine PySem.callWith_builtin1 (wpAny_Call_method0_late ab ln (thn (hd.run pins s σ H _ J hw) fun v s1 ⟨x, H1, J1, r1, a, kvs, is, ex, ha, hv, q⟩ => ?_))
  subst ex
  obtain rfl : v = Value.ref a := r1
  obtain ⟨_, nsys, vs, rel, dof⟩ := dk_of J1.hok ha
  obtain ⟨ep, dat⟩ := dof.dictAt
  obtain ⟨ob, es, ho, exd, hdat, hko, hpr, hnd⟩ := id dat
  refine ⟨"dict", "dict.values", F.plainAttrs_dict, F.slot_dict_values, F.type_dict_values, ⟨ob, ho, exd.1⟩, fun b e => ?_, Calls.callWith_builtin rfl (PySem.evalArgs_none ?_)⟩
  · cases e
    exact ⟨ob, ho, exd.2.1⟩
  refine call_meetsIn F.slot_dict_values ⟨ob, ho, exd.1⟩ F.entry_dict_values (F.args_dict_values_1 _) (meets_dict_values (mixKind X.prog X.w) a nsys) ⟨⟨vs, dof⟩, ?_⟩
  generalize hv1 : s1.heap.push { cls := .type "dict_values", data := .fields #[.ref a] } = hp1
  have kp1 : ∀ b u, s1.heap.get? b = some u → hp1.get? b = some u := fun b u e => by rw [← hv1]; exact Heap.get?_push_of_some _ e
  have dat1 : hp1.DictAt (mixKind X.prog X.w) a vs ep := dat.keep kp1
  have sz : hp1.objs.size = s1.heap.objs.size + 1 := by rw [← hv1]; exact Heap.size_push _ _
  have lt : a < s1.heap.objs.size := Heap.lt_size ho
  have len : vs.length = is.length := by
    have e1 := congrArg List.length hv
    rw [List.length_map, List.length_map] at e1
    exact (KV.length rel).symm.trans e1
  have vals : ∀ (i : Nat) (v : Value), (∃ k, vs[i]? = some (k, v)) → ∃ t, v = Value.int (is.getD i 0) t := fun i v ⟨k, hk⟩ => by
    obtain ⟨x, g1, g2⟩ : ∃ x, kvs[i]? = some (k, x) ∧ RelV x v := KV.at' rel hk
    have e1 : (kvs.map (·.2))[i]? = some x := by
      rw [List.getElem?_map, g1]
      rfl
    rw [hv, List.getElem?_map] at e1
    obtain ⟨j, hj, e2⟩ := Option.map_eq_some_iff.mp e1
    subst e2
    obtain ⟨t, e3⟩ := g2
    refine ⟨t, ?_⟩
    rw [e3, List.getD_eq_getElem?_getD, hj]
    rfl
  have hvw : hp1.get? s1.heap.objs.size = some { cls := .type "dict_values", data := .fields #[.ref a] } := by rw [← hv1]; exact Heap.get?_push_size _ rfl
  refine call_sum_walkG (wpAny_pyIter_values (v := s1.heap.objs.size) (d := a) ⟨_, hvw, rfl, rfl⟩ dat1 ?_)
  refine ⟨_, _, _, _, _, _, fun i => is.getD i 0, rfl, Walks.dictValues (knd := mixKind X.prog X.w) (A := X.A.in1) (J.ok.hd calm) hp1.objs.size a (by rw [sz]; exact Nat.ne_of_lt (Nat.lt_succ_of_lt lt)) vs ep,
    ⟨⟨_, Heap.get?_push_size _ rfl, rfl, rfl⟩, dat1.keep fun b u e => Heap.get?_push_of_some _ e⟩, fun b hb => ?_, vals, fun h' tk t' hk => ?_⟩
  · show b < (hp1.push _).objs.size
    rw [Heap.size_push]
    rcases List.mem_cons.mp hb with e | hb
    · rw [e]
      exact Nat.lt_succ_self _
    · rw [List.mem_singleton.mp hb, sz]
      exact Nat.lt_succ_of_lt (Nat.lt_succ_of_lt lt)
  · refine ⟨.int _, H1, J1.kept (t' := tk) fun b u e => hk b u (fun hm => ?_) (Heap.get?_push_of_some _ (kp1 b u e)), ⟨t', rfl⟩, ?_⟩
    · have e1 : b = hp1.objs.size := List.mem_singleton.mp hm
      have e2 := Heap.lt_size e
      rw [sz] at e1
      rw [e1] at e2
      exact absurd e2 (Nat.not_lt.mpr (Nat.le_succ _))
    · rw [len, preSum_list is _ (Nat.le_refl _), List.take_length]
      exact q
end
/-- a loop over the items of a dict that stands still -/
theorem for_items {d : Addr} {od : Obj} {kvs : List (Key × V)} {g : TG} {tb : TS} {D : Ends} {σ : L2.St} {H : Hp} (Pv : Nat → L2.St → Hp → Prop) (h0 : Pv 0 σ H) (hq : ∀ i σ H, Pv i σ H → H d = some (.frz od (.dK kvs)))
    (hs : ∀ (i : Nat) (k : Key) (v : V) (T : Addr) (σ : L2.St) (H : Hp), kvs[i]? = some (k, v) → Pv i σ H → H T = none → g (.ref T) σ (upd H T (.tup [kV k, v])) fun σ2 H2 => tb { D with nx := Pv (i + 1), ct := Pv (i + 1), bk := D.nx } σ2 H2) (hd : ∀ σ H, Pv kvs.length σ H → D.nx σ H) :
    ∃ W : Nat → Nat → L2.St → Hp → Prop, (∃ m, W 0 m σ H) ∧ ∀ i m σ H, W i m σ H →
      ((Iti d od kvs).stop i H ∧ D.nx σ H) ∨ ((Iti d od kvs).go i H ∧ ∃ N : L2.St → Hp → Prop, (∀ σ' H', N σ' H' → ∃ m', m' < m ∧ W (i + 1) m' σ' H') ∧ ∀ v H', (Iti d od kvs).yld i H v H' → g v σ H' fun σ2 H2 => tb { D with nx := N, ct := N, bk := D.nx } σ2 H2) := by
  refine ⟨fun i m σ H => m = kvs.length - i ∧ i ≤ kvs.length ∧ Pv i σ H, ⟨kvs.length, rfl, Nat.zero_le _, h0⟩, ?_⟩
  rintro i m σ H ⟨rfl, hi, p⟩
  have qx := hq i σ H p
  by_cases hlt : i < kvs.length
  · refine .inr ⟨⟨qx, hlt⟩, Pv (i + 1), fun σ' H' p' => ⟨kvs.length - (i + 1), by omega, rfl, hlt, p'⟩, fun v H' y => ?_⟩
    obtain ⟨T, k, x, hk, rfl, hT, rfl⟩ := y
    exact hs i k x T σ H hk p hT
  · have e : i = kvs.length := by omega
    subst e
    exact .inl ⟨⟨qx, Nat.le_refl _⟩, hd σ H p⟩
/-- .. over its keys -/
theorem for_keys {d : Addr} {od : Obj} {kvs : List (Key × V)} {g : TG} {tb : TS} {D : Ends} {σ : L2.St} {H : Hp} (Pv : Nat → L2.St → Hp → Prop) (h0 : Pv 0 σ H) (hq : ∀ i σ H, Pv i σ H → H d = some (.frz od (.dK kvs)))
    (hs : ∀ (i : Nat) (k : Key) (v : V) (σ : L2.St) (H : Hp), kvs[i]? = some (k, v) → Pv i σ H → g (kV k) σ H fun σ2 H2 => tb { D with nx := Pv (i + 1), ct := Pv (i + 1), bk := D.nx } σ2 H2) (hd : ∀ σ H, Pv kvs.length σ H → D.nx σ H) :
    ∃ W : Nat → Nat → L2.St → Hp → Prop, (∃ m, W 0 m σ H) ∧ ∀ i m σ H, W i m σ H →
      ((Itk d od kvs).stop i H ∧ D.nx σ H) ∨ ((Itk d od kvs).go i H ∧ ∃ N : L2.St → Hp → Prop, (∀ σ' H', N σ' H' → ∃ m', m' < m ∧ W (i + 1) m' σ' H') ∧ ∀ v H', (Itk d od kvs).yld i H v H' → g v σ H' fun σ2 H2 => tb { D with nx := N, ct := N, bk := D.nx } σ2 H2) := by
  refine ⟨fun i m σ H => m = kvs.length - i ∧ i ≤ kvs.length ∧ Pv i σ H, ⟨kvs.length, rfl, Nat.zero_le _, h0⟩, ?_⟩
  rintro i m σ H ⟨rfl, hi, p⟩
  have qx := hq i σ H p
  by_cases hlt : i < kvs.length
  · refine .inr ⟨⟨qx, hlt⟩, Pv (i + 1), fun σ' H' p' => ⟨kvs.length - (i + 1), by omega, rfl, hlt, p'⟩, fun v H' y => ?_⟩
    obtain ⟨rfl, k, x, hk, rfl⟩ := y
    exact hs i k x σ _ hk p
  · have e : i = kvs.length := by omega
    subst e
    exact .inl ⟨⟨qx, Nat.le_refl _⟩, hd σ H p⟩
end Fo
namespace Fo
open PySem PySem.Spec PyProof.Rows L2
/-! ### the program's counts -/
def spFac : Sp := fun vs H Q _ => ∃ n : Nat, vs = [.int n] ∧ n ≤ 12 ∧ Q (.int (facN n)) H
def spNewL (F : Nat → List Int) : Sp := fun vs H Q _ => ∃ n : Nat, vs = [.int n] ∧ 1 ≤ n ∧ n ≤ 12 ∧ ∀ (l : Addr) (H' : Hp), H l = none → H' l = some (.lst ((F n).map V.int)) → Same H H' → Q (.ref l) H'
def spSwC : Sp := spNewL fun n => swC (n - 1)
def spSpC : Sp := spNewL spC
def spSwM : Sp := fun vs H Q _ => ∃ (a : Addr) (c : List Int) (b : Nat), vs = [.ref a, .int b] ∧ H a = some (.lst (c.map V.int)) ∧ c.length ≤ 100 ∧ b ≤ 12 ∧ ∀ (l : Addr) (H' : Hp), H l = none → H' l = some (.lst ((swNext c b).map V.int)) → Same H H' → Q (.ref l) H'
def spMv : Sp := fun vs H Q _ => ∃ n : Nat, vs = [.int n] ∧ n ≤ 12 ∧ Q (.int (mvN n).1) H
def dN (l : List (Nat × Int)) : List (Key × V) := l.map fun p => (Sum.inl ((p.1 : Nat) : Int), V.int p.2)
def nearT (lo c : Nat) : List Int := (List.range c).map fun j => (((lo + j : Nat)) : Int)
def spNearT : Sp := fun vs H Q _ => ∃ (p n : Nat) (r : Int), vs = [.int p, .int n, .int r] ∧ p < n ∧ n ≤ 12 ∧ 0 ≤ r ∧ ∀ (l : Addr) (H' : Hp), H l = none → H' l = some (.lst ((nearT (loP p r) (ctP n p r)).map V.int)) → Same H H' → Q (.ref l) H'
def spFurther : Sp := fun vs H Q _ => ∃ (a b : Addr) (d : List (Nat × Int)) (lo c : Nat), vs = [.ref a, .ref b] ∧ H a = some (.dK (dN d)) ∧ GoodD d ∧ H b = some (.lst ((nearT lo c).map V.int)) ∧ lo + c ≤ 12 ∧ ∀ (l : Addr) (H' : Hp), H l = none → H' l = some (.dK (dN (stOut d lo c d.length))) → Same H H' → Q (.ref l) H'
def spShN : Sp := fun vs H Q _ => ∃ (n : Nat) (r : Int), vs = [.int n, .int r] ∧ 1 ≤ n ∧ n ≤ 12 ∧ 0 ≤ r ∧ ∀ H', Same H H' → Q (.int (shN n r)) H'
def inW (w : Str) (n : Nat) (r : Int) : Int := if w = "swap" then ((swC (n - 1)).take (r + 1).toNat).sum else if w = "spot" then ((spC n).take (r + 1).toNat).sum else shN n r
def IsWy (w : Str) : Prop := w = "swap" ∨ w = "spot" ∨ w = "shift"
def spKW : Sp := fun vs H Q _ => ∃ (w : Str) (n : Nat) (r : Int), vs = [.str w, .int n, .int r] ∧ IsWay w ∧ 1 ≤ n ∧ n ≤ 12 ∧ 0 ≤ r ∧ ∀ H', Same H H' → Q (.int (inW w n r)) H'
theorem inW_swap (n : Nat) (r : Int) : inW "swap" n r = ((swC (n - 1)).take (r + 1).toNat).sum := by unfold inW; rw [if_pos rfl]
theorem inW_spot (n : Nat) (r : Int) : inW "spot" n r = ((spC n).take (r + 1).toNat).sum := by unfold inW; rw [if_neg n1, if_pos rfl]
theorem inW_shift (n : Nat) (r : Int) : inW "shift" n r = shN n r := by unfold inW; rw [if_neg n2, if_neg n3]
theorem inW_good {w : Str} {n : Nat} {r : Int} (hw : IsWay w) (h1 : 1 ≤ n) (h2 : n ≤ 12) (hr : 0 ≤ r) : 1 ≤ inW w n r ∧ inW w n r ≤ 8916100448256 := by
  rcases hw with rfl | rfl | rfl
  · rw [inW_swap]
    obtain ⟨a, b, c⟩ := swC_good (n - 1) (by omega)
    have := sum_take (k := (r + 1).toNat) a b (by omega)
    omega
  · rw [inW_spot]
    obtain ⟨a, b, c⟩ := spC_good n (by omega)
    have := sum_take (k := (r + 1).toNat) a b (by omega)
    omega
  · rw [inW_shift]
    exact shN_good h2 hr
theorem zeros_flat : ∀ m : Nat, (List.replicate m [V.int 0]).flatten = (List.replicate m (0 : Int)).map V.int
  | 0 => rfl
  | m + 1 => by
    rw [List.replicate_succ, List.replicate_succ, List.flatten_cons, zeros_flat m]
    rfl
theorem addAt_V {l : List Int} {i : Nat} {v : Int} : (l.map V.int).set i (V.int (l.getD i 0 + v)) = (addAt l i v).map V.int := by
  unfold addAt
  rw [List.map_set]
theorem getD_some {l : List Int} {i : Nat} (h : i < l.length) : l[i]? = some (l.getD i 0) := by
  rw [List.getD_eq_getElem?_getD, List.getElem?_eq_getElem h]
  rfl
theorem dN_get (l : List (Nat × Int)) (k : Nat) : (valV (dN l) (Sum.inl (k : Int))).getD (V.int 0) = V.int (lookN l k) := by
  induction l with
  | nil => rfl
  | cons p l ih =>
    rw [look_cons]
    by_cases c : p.1 = k
    · rw [if_pos c]
      show (valV ((Sum.inl ((p.1 : Nat) : Int), V.int p.2) :: dN l) (Sum.inl (k : Int))).getD (V.int 0) = _
      rw [valV_pos (by rw [c])]
      rfl
    · rw [if_neg c]
      show (valV ((Sum.inl ((p.1 : Nat) : Int), V.int p.2) :: dN l) (Sum.inl (k : Int))).getD (V.int 0) = _
      rw [valV_neg (fun e => c (by have := Sum.inl.inj e; omega))]
      exact ih
theorem dN_any (l : List (Nat × Int)) (k : Nat) : ((dN l).any fun kv => decide (kv.1 = Sum.inl (k : Int))) = l.any fun p => decide (p.1 = k) := by
  unfold dN
  rw [List.any_map]
  congr 1
  funext p
  show decide (Sum.inl ((p.1 : Nat) : Int) = (Sum.inl (k : Int) : Key)) = decide (p.1 = k)
  by_cases c : p.1 = k
  · rw [c]; simp
  · rw [decide_eq_false c, decide_eq_false (fun e => c (by have := Sum.inl.inj e; omega))]
theorem dN_put (l : List (Nat × Int)) (k : Nat) (v : Int) : putK (dN l) (Sum.inl (k : Int)) (V.int v) = dN (putN l k v) := by
  unfold putK putN
  rw [dN_any]
  split
  · unfold dN
    rw [List.map_map, List.map_map]
    apply List.map_congr_left
    intro p _
    show (if Sum.inl ((p.1 : Nat) : Int) = (Sum.inl (k : Int) : Key) then _ else _) = _
    by_cases c : p.1 = k
    · subst c
      rw [if_pos rfl]
      show _ = (Sum.inl _, V.int (if p.1 = p.1 then (p.1, v) else p).2)
      rw [if_pos rfl]
      show _ = (Sum.inl (((if p.1 = p.1 then (p.1, v) else p).1 : Nat) : Int), V.int v)
      rw [if_pos rfl]
    · rw [if_neg (fun e => c (by have := Sum.inl.inj e; omega))]
      show _ = (Sum.inl (((if p.1 = k then (p.1, v) else p).1 : Nat) : Int), V.int (if p.1 = k then (p.1, v) else p).2)
      rw [if_neg c]
  · unfold dN
    rw [List.map_append]
    rfl
theorem dN_len (l : List (Nat × Int)) : (dN l).length = l.length := List.length_map _
theorem dN_at {l : List (Nat × Int)} {i : Nat} {k : Key} {v : V} (h : (dN l)[i]? = some (k, v)) : i < l.length ∧ k = Sum.inl (((l.getD i (0, 0)).1 : Nat) : Int) ∧ v = V.int (l.getD i (0, 0)).2 := by
  unfold dN at h
  rw [List.getElem?_map] at h
  cases e : l[i]? with
  | none => rw [e] at h; cases h
  | some p =>
    rw [e] at h
    have h2 := Option.some.inj h
    have hi := (List.getElem?_eq_some_iff.mp e).1
    rw [List.getD_eq_getElem?_getD, e]
    exact ⟨hi, (Prod.mk.inj h2).1.symm, (Prod.mk.inj h2).2.symm⟩
theorem near_at {lo c j : Nat} (h : j < c) : (nearT lo c)[j]? = some (((lo + j : Nat)) : Int) := by
  unfold nearT
  rw [List.getElem?_map, List.getElem?_range h]
  rfl
theorem near_len (lo c : Nat) : (nearT lo c).length = c := by unfold nearT; rw [List.length_map, List.length_range]
theorem near_V {p n : Nat} {r : Int} (hp : p < n) (hr : 0 ≤ r) : rgV (max 0 ((p : Int) - r)) (min (n : Int) ((p : Int) + r + 1)) = (nearT (loP p r) (ctP n p r)).map V.int := by
  unfold rgV nearT
  have e : (min (n : Int) ((p : Int) + r + 1) - max 0 ((p : Int) - r)).toNat = ctP n p r := by
    unfold ctP loP
    omega
  rw [e, List.map_map]
  apply List.map_congr_left
  intro a _
  show V.int (max 0 ((p : Int) - r) + (a : Int)) = V.int ((loP p r + a : Nat) : Int)
  congr 1
  unfold loP
  omega
theorem bit_read {u t : Nat} (hu : u < 4096) (ht : t < 12) : decide (V.int (Builtin.bitAnd (u : Int) (1 * 2 ^ ((t : Nat) : Int).toNat)) = V.int 0) = !u.testBit t := by
  rw [Int.one_mul, Int.toNat_natCast, show ((2 : Int) ^ t) = ((2 ^ t : Nat) : Int) by rw [Int.natCast_pow]; rfl, bitAnd_pp (Int.natCast_nonneg _) (Int.natCast_nonneg _), Int.toNat_natCast, Int.toNat_natCast]
  cases h : u.testBit t with
  | false =>
    rw [bit_and h]
    rfl
  | true =>
    rw [decide_eq_false]
    · rfl
    · intro e
      have e2 : u &&& 2 ^ t = 0 := by have := V.int.inj e; omega
      have e3 := congrArg (fun x => Nat.testBit x t) e2
      simp [h] at e3
theorem bit_or {u t : Nat} (h : u.testBit t = false) (hu : u < 4096) (ht : t < 12) : Builtin.bitOr (u : Int) (1 * 2 ^ ((t : Nat) : Int).toNat) = ((u + 2 ^ t : Nat) : Int) := by
  rw [Int.one_mul, Int.toNat_natCast, show ((2 : Int) ^ t) = ((2 ^ t : Nat) : Int) by rw [Int.natCast_pow]; rfl, bitOr_and, bitAnd_pp (Int.natCast_nonneg _) (Int.natCast_nonneg _), Int.toNat_natCast, Int.toNat_natCast, bit_and h]
  omega
section
variable {P : Program} {w : World} {K : PySem.W.Frag} {mg : Str → Option Value} {base : Heap}
theorem scSwM : FnScope ["counts", "behind", "more", "far", "many", "passed"] ["counts", "behind"] (defScope s_swap_counts_with_one_more) := ⟨rfl, rfl, rfl, by decide +kernel, rfl, by decide +kernel, by decide +kernel⟩
set_option maxHeartbeats 1000000 in
theorem ok_swM {f : Addr} {fd : FuncData} {k : Nat} (T : Df K mg "swap_counts_with_one_more" s_swap_counts_with_one_more ["counts", "behind"] f fd) (B : Bi mg) : FnOk P w K mg base CX0 (k + 1) f fd ["counts", "behind"] spSwM := by
  refine T.F.ok scSwM (fun vs H Q E h => ?_) (fun cdv A outer s H vs Q E hr h => ?_)
  · obtain ⟨a, c, b, rfl, _⟩ := h
    rfl
  · obtain ⟨a, c, b, rfl, ha, hc, hb, q⟩ := h
    have hlm : (c.map V.int).length = c.length := List.length_map _
    refine ⟨_, 
      (pss_cons (ps_set (i := 2) scSwM.nd rfl (.inl rfl) (pe_op op_rep (pe_lst (pa_cons pe_int pa_nil)) (pe_op op_add (pe_callB call_len_seq (by rfl) B.len PySem.boot_len (pa_cons (pv 0) pa_nil)) (pv 1))))
      (pss_cons (ps_for PassesOwn.never rfl (pi_enum (by rfl) B.enumerate (pa_cons (pv 0) pa_nil)) (pg_tup (by rfl) (pgs_cons (pg_name (i := 3) scSwM.nd rfl (.inl rfl)) (pgs_cons (pg_name (i := 4) scSwM.nd rfl (.inl rfl)) pgs_nil)))
        (pss_one (ps_for PassesOwn.never rfl (pi_range1 (by rfl) B.range (pa_cons (pe_op op_add (pv 1) pe_int) pa_nil)) (pg_name (i := 5) scSwM.nd rfl (.inl rfl))
          (pss_one (ps_augS (pv 2) (pe_op op_add (pv 3) (pv 5)) get_list (pv 4) ip_add set_list)))))
      (pss_one (ps_ret (pv 2))))), ?_⟩
    refine ⟨line_small (by show 1 ≤ 16777216; decide), fun z nz => ?_⟩
    have s1 := same_new (o := .lst [.int 0]) nz
    refine ⟨_, rfl, a, _, rfl, .inl (SqL.of (s1 _ _ ha)), _, rfl, _, _, rfl, rfl, z, _, _, rfl, rfl, upd_same, by omega, by omega, line_small (by rw [hlm]; show 1 * _ ≤ _; omega), fun l nl => ?_⟩
    have en : ((((c.map V.int).length : Nat) : Int) + (b : Int)).toNat = c.length + b := by rw [hlm]; omega
    have s2 := s1.trans (same_new (o := .lst (List.replicate ((((c.map V.int).length : Nat) : Int) + (b : Int)).toNat [V.int 0]).flatten) nl)
    have hl0 : (upd (upd H z (.lst [.int 0])) l (.lst (List.replicate ((((c.map V.int).length : Nat) : Int) + (b : Int)).toNat [V.int 0]).flatten)) l = some (.lst ((swOut c b 0).map V.int)) := by rw [upd_same, en, zeros_flat]; rfl
    have nHl : H l = none := s1.free nl
    generalize upd (upd H z (.lst [.int 0])) l (.lst (List.replicate ((((c.map V.int).length : Nat) : Int) + (b : Int)).toNat [V.int 0]).flatten) = H1 at s2 hl0 ⊢
    refine ⟨_, rfl, a, _, rfl, SqL.of (s2 _ _ ha), ?_⟩
    refine for_enumL (xs := c.map V.int) (fun i σ H3 => ∃ (y3 y4 y5 : Option V), σ = [some (.ref a), some (.int b), some (.ref l), y3, y4, y5] ∧ H3 l = some (.lst ((swOut c b i).map V.int)) ∧ Same H H3)
      ⟨_, _, _, rfl, hl0, s2⟩ (fun i σ H3 hW => by obtain ⟨_, _, _, _, _, sm⟩ := hW; exact SqL.of (sm _ _ ha)) (fun i x t σ H3 hx hW nt => ?_) (fun σ H3 hW => ?_)
    · obtain ⟨y3, y4, y5, rfl, hl3, sm⟩ := hW
      obtain ⟨y, ey, rfl⟩ := int_at_inv hx
      have hi := (List.getElem?_eq_some_iff.mp ey).1
      have eg : c.getD i 0 = y := by rw [List.getD_eq_getElem?_getD, ey]; rfl
      have st := same_new (o := .tup [.int (i : Nat), .int y]) nt
      have hl4 := st _ _ hl3
      have sm4 := sm.trans st
      have ht4 : (upd H3 t (.tup [.int (i : Nat), .int y])) t = some (.tup [.int (i : Nat), .int y]) := upd_same
      generalize upd H3 t (.tup [.int (i : Nat), .int y]) = H4 at ht4 hl4 sm4 ⊢
      refine ⟨t, _, rfl, .inl (.inl ht4), rfl, _, _, rfl, _, _, rfl, rfl, ?_⟩
      refine ⟨_, rfl, (b : Int), 1, rfl, rfl, _, rfl, by omega, by omega, ?_⟩
      rw [show ((b : Int) + 1).toNat = b + 1 by omega]
      refine for_range (lo := 0) (n := b + 1) (fun j σ H5 => ∃ (y5 : Option V), σ = [some (.ref a), some (.int b), some (.ref l), some (.int (i : Nat)), some (.int y), y5] ∧ H5 l = some (.lst ((swIn y i j (swOut c b i)).map V.int)) ∧ Same H H5) ⟨_, rfl, hl4, sm4⟩ (fun j σ H5 hj hW => ?_) (fun σ H5 hW => ?_)
      · obtain ⟨z5, rfl, hl5, sm5⟩ := hW
        have hlen : (swIn y i j (swOut c b i)).length = c.length + b := by rw [swIn_len, swOut_len]
        have hij : i + j < (swIn y i j (swOut c b i)).length := by omega
        refine ⟨_, rfl, _, rfl, _, rfl, _, _, rfl, rfl, l, _, _, _, rfl, rfl, SqL.of hl5, by omega, at_of (j := i + j) (by omega) (int_at (getD_some hij)), _, rfl, _, _, rfl, rfl, l, _, _, i + j, rfl, rfl, hl5, ix_n (by omega) (by rw [List.length_map]; exact hij), _, rfl, ?_, fun u o e => ?_⟩
        · rw [upd_same, addAt_V]
          rfl
        · rw [upd_ne (ne_of_none e nHl)]
          exact sm5 _ _ e
      · obtain ⟨z5, rfl, hl5, sm5⟩ := hW
        refine ⟨_, _, _, rfl, ?_, sm5⟩
        rw [swOut, eg]
        exact hl5
    · obtain ⟨y3, y4, y5, rfl, hl3, sm⟩ := hW
      rw [hlm] at hl3
      exact ⟨_, rfl, q l H3 nHl hl3 sm⟩
theorem scSwC : FnScope ["n", "counts", "behind"] ["n"] (defScope s_swap_counts) := ⟨rfl, rfl, rfl, by decide +kernel, rfl, by decide +kernel, by decide +kernel⟩
theorem ok_swC {f f1 : Addr} {fd d1 : FuncData} {k : Nat} (T : Df K mg "swap_counts" s_swap_counts ["n"] f fd) (T_swap_counts_with_one_more : Df K mg "swap_counts_with_one_more" s_swap_counts_with_one_more ["counts", "behind"] f1 d1) (B : Bi mg) : FnOk P w K mg base CX0 (k + 2) f fd ["n"] spSwC := by
  have G_swap_counts_with_one_more : FnOk P w K mg base CX0 (k + 1) f1 d1 ["counts", "behind"] spSwM := ok_swM T_swap_counts_with_one_more B
  refine T.F.ok scSwC (fun vs H Q E h => ?_) (fun cdv A outer s H vs Q E hr h => ?_)
  · obtain ⟨n, rfl, _⟩ := h
    rfl
  · obtain ⟨n, rfl, hn1, hn2, q⟩ := h
    refine ⟨_, 
      (pss_cons (ps_set (i := 1) scSwC.nd rfl (.inl rfl) (pe_lst (pa_cons pe_int pa_nil)))
      (pss_cons (ps_for PassesOwn.never rfl (pi_range2 (by rfl) B.range (pa_cons pe_int (pa_cons (pv 0) pa_nil))) (pg_name (i := 2) scSwC.nd rfl (.inl rfl))
        (pss_one (ps_set (i := 1) scSwC.nd rfl (.inl rfl) (pe_call G_swap_counts_with_one_more hr (by rfl) T_swap_counts_with_one_more.g T_swap_counts_with_one_more.F.kp T_swap_counts_with_one_more.b .nil pass0 (pa_cons (pv 1) (pa_cons (pv 2) pa_nil))))))
      (pss_one (ps_ret (pv 1))))), ?_⟩
    refine ⟨line_small (by show 1 ≤ 16777216; decide), fun l nl => ?_⟩
    have s1 := same_new (o := .lst [.int 1]) nl
    refine ⟨_, rfl, 1, (n : Int), rfl, ⟨by omega, by omega, by omega, by omega⟩, ?_⟩
    rw [show ((n : Int) - 1).toNat = n - 1 by omega]
    refine for_range (lo := 1) (n := n - 1) (fun i σ H1 => ∃ (l : Addr) (y2 : Option V), σ = [some (.int n), some (.ref l), y2] ∧ H l = none ∧ H1 l = some (.lst ((swC i).map V.int)) ∧ Same H H1) ⟨l, _, rfl, nl, upd_same, s1⟩ (fun i σ H1 hi hW => ?_) (fun σ H1 hW => ?_)
    · obtain ⟨l, y2, rfl, nl, hl, sm⟩ := hW
      refine ⟨_, rfl, _, rfl, l, swC i, i + 1, by show _ = [V.ref l, V.int ((i + 1 : Nat) : Int)]; rw [show ((i + 1 : Nat) : Int) = 1 + (i : Int) by omega]; rfl, hl, by rw [swC_len]; have := (tri_le i (by omega)).1; omega, by omega, fun l2 H2 nl2 hl2 s2 => ?_⟩
      exact ⟨l2, _, rfl, sm.free nl2, hl2, sm.trans s2⟩
    · obtain ⟨l, y2, rfl, nl, hl, sm⟩ := hW
      exact ⟨_, rfl, q l H1 nl hl sm⟩
end
end Fo
namespace Fo
open PySem PySem.Spec PyProof.Rows L2
theorem max_if (i j : Int) : (if j > i then j else i) = max i j := by split <;> omega
theorem min_if (i j : Int) : (if j < i then j else i) = min i j := by split <;> omega
theorem dN_val : ∀ {l : List (Nat × Int)} {i : Nat}, (keysN l).Nodup → i < l.length → valV (dN l) (Sum.inl (((l.getD i (0, 0)).1 : Nat) : Int)) = some (V.int (l.getD i (0, 0)).2)
  | [], i, _, h => absurd h (Nat.not_lt_zero _)
  | p :: l, 0, _, _ => valV_pos rfl
  | p :: l, i + 1, hn, h => by
    obtain ⟨h1, h2⟩ := List.nodup_cons.mp hn
    have ih := dN_val (l := l) (i := i) h2 (by simpa using h)
    have hi : i < l.length := by simpa using h
    show valV ((Sum.inl ((p.1 : Nat) : Int), V.int p.2) :: dN l) (Sum.inl (((l.getD i (0, 0)).1 : Nat) : Int)) = some (V.int (l.getD i (0, 0)).2)
    rw [valV_neg (fun e => h1 (by
      have e2 : p.1 = (l.getD i (0, 0)).1 := by have := Sum.inl.inj e; omega
      exact List.mem_map.mpr ⟨l.getD i (0, 0), by rw [getD_at hi]; exact List.getElem_mem _, e2.symm⟩))]
    exact ih
theorem dN_sum (l : List (Nat × Int)) : (dN l).map (·.2) = (l.map (·.2)).map V.int := by
  unfold dN
  rw [List.map_map, List.map_map]
  rfl
section
variable {P : Program} {w : World} {K : PySem.W.Frag} {mg : Str → Option Value} {base : Heap}
theorem scMv : FnScope ["n", "many", "sign", "things"] ["n"] (defScope s_count_all_moved) := ⟨rfl, rfl, rfl, by decide +kernel, rfl, by decide +kernel, by decide +kernel⟩
theorem ok_mv {f : Addr} {fd : FuncData} {k : Nat} (T : Df K mg "count_all_moved" s_count_all_moved ["n"] f fd) (B : Bi mg) : FnOk P w K mg base CX0 (k + 1) f fd ["n"] spMv := by
  refine T.F.ok scMv (fun vs H Q E h => ?_) (fun cdv A outer s H vs Q E hr h => ?_)
  · obtain ⟨n, rfl, _⟩ := h
    rfl
  · obtain ⟨n, rfl, hn, q⟩ := h
    refine ⟨_, 
      (pss_cons (ps_set (i := 1) scMv.nd rfl (.inl rfl) pe_int)
      (pss_cons (ps_set (i := 2) scMv.nd rfl (.inl rfl) pe_int)
      (pss_cons (ps_for PassesOwn.never rfl (pi_range2 (by rfl) B.range (pa_cons pe_int (pa_cons (pe_op op_add (pv 0) pe_int) pa_nil))) (pg_name (i := 3) scMv.nd rfl (.inl rfl))
        (pss_cons (ps_set (i := 2) scMv.nd rfl (.inl rfl) (pe_un un_neg (pv 2)))
        (pss_one (ps_set (i := 1) scMv.nd rfl (.inl rfl) (pe_op op_add (pe_op op_mul (pv 1) (pv 3)) (pv 2))))))
      (pss_one (ps_ret (pv 1)))))), ?_⟩
    refine ⟨_, rfl, (n : Int), 1, rfl, rfl, 1, _, rfl, ⟨by omega, by omega, by omega, by omega⟩, ?_⟩
    rw [show ((n : Int) + 1 - 1).toNat = n by omega]
    refine for_range (lo := 1) (n := n) (fun i σ H1 => ∃ y2 : Option V, σ = [some (.int n), some (.int (mvN i).1), some (.int (mvN i).2), y2] ∧ H1 = H) ⟨_, rfl, rfl⟩ (fun i σ H1 hi hW => ?_) (fun σ H1 hW => ?_)
    · obtain ⟨y2, rfl, rfl⟩ := hW
      have hf := mv_small i (by omega)
      refine ⟨_, rfl, _, rfl, _, rfl, _, rfl, _, _, rfl, rfl, .inl ⟨by omega, by omega⟩, _, rfl, _, _, rfl, rfl, some (.int (1 + (i : Int))), ?_, rfl⟩
      show [some (V.int (n : Int)), some (V.int ((mvN i).1 * (1 + (i : Int)) + -(mvN i).2)), some (V.int (-(mvN i).2)), some (V.int (1 + (i : Int)))] = _
      rw [Int.add_comm 1 (i : Int)]
      rfl
    · obtain ⟨y2, rfl, rfl⟩ := hW
      exact ⟨_, rfl, q⟩
theorem scSpC : FnScope ["n", "counts", "choices", "r"] ["n"] (defScope s_spot_counts) := ⟨rfl, rfl, rfl, by decide +kernel, rfl, by decide +kernel, by decide +kernel⟩
set_option maxHeartbeats 1000000 in
theorem ok_spC {f f1 : Addr} {fd d1 : FuncData} {k : Nat} (T : Df K mg "spot_counts" s_spot_counts ["n"] f fd) (T_count_all_moved : Df K mg "count_all_moved" s_count_all_moved ["n"] f1 d1) (B : Bi mg) : FnOk P w K mg base CX0 (k + 2) f fd ["n"] spSpC := by
  have G_count_all_moved : FnOk P w K mg base CX0 (k + 1) f1 d1 ["n"] spMv := ok_mv T_count_all_moved B
  refine T.F.ok scSpC (fun vs H Q E h => ?_) (fun cdv A outer s H vs Q E hr h => ?_)
  · obtain ⟨n, rfl, _⟩ := h
    rfl
  · obtain ⟨n, rfl, hn1, hn2, q⟩ := h
    refine ⟨_, 
      (pss_cons (ps_set (i := 1) scSpC.nd rfl (.inl rfl) (pe_lst pa_nil))
      (pss_cons (ps_set (i := 2) scSpC.nd rfl (.inl rfl) pe_int)
      (pss_cons (ps_for PassesOwn.never rfl (pi_range1 (by rfl) B.range (pa_cons (pe_op op_add (pv 0) pe_int) pa_nil)) (pg_name (i := 3) scSpC.nd rfl (.inl rfl))
        (pss_cons (ps_expr (pe_bm PySem.F.plainAttrs_list PySem.F.slot_list_append PySem.F.type_list_append mt_append (pv 1) (pa_cons (pe_op op_mul (pv 2) (pe_call G_count_all_moved hr (by rfl) T_count_all_moved.g T_count_all_moved.F.kp T_count_all_moved.b .nil pass0 (pa_cons (pv 3) pa_nil))) pa_nil)))
        (pss_one (ps_set (i := 2) scSpC.nd rfl (.inl rfl) (pe_op op_fdiv (pe_op op_mul (pv 2) (pe_op op_sub (pv 0) (pv 3))) (pe_op op_add (pv 3) pe_int))))))
      (pss_one (ps_ret (pv 1)))))), ?_⟩
    refine ⟨Nat.zero_le _, fun l nl => ?_⟩
    have s1 := same_new (o := .lst []) nl
    refine ⟨_, rfl, (n : Int), 1, rfl, rfl, _, rfl, by omega, by omega, ?_⟩
    rw [show ((n : Int) + 1).toNat = n + 1 by omega]
    refine for_range (lo := 0) (n := n + 1) (fun i σ H1 => ∃ (y3 : Option V), σ = [some (.int n), some (.ref l), some (.int (chN n i)), y3] ∧ H1 l = some (.lst (((List.range i).map fun r => chN n r * (mvN r).1).map V.int)) ∧ Same H H1) ⟨_, rfl, upd_same, s1⟩ (fun i σ H1 hi hW => ?_) (fun σ H1 hW => ?_)
    · obtain ⟨y3, rfl, hl, sm⟩ := hW
      have hc := ch_small n (by omega) i (by omega)
      refine ⟨_, rfl, .inl ⟨rfl, _, SqL.of hl⟩, _, rfl, _, rfl, i, by rw [Int.zero_add]; rfl, by omega, _, _, rfl, rfl, .inl ⟨by omega, by omega⟩, l, _, _, rfl, rfl, hl, line_lt (by rw [List.length_map, List.length_map, List.length_range]; omega), ?_⟩
      refine ⟨_, rfl, _, rfl, _, rfl, (n : Int), _, rfl, rfl, _, _, rfl, rfl, .inl ⟨by omega, by omega⟩, _, rfl, _, 1, rfl, rfl, _, _, rfl, rfl, ⟨by omega, by omega⟩, some (.int (0 + (i : Int))), ?_, ?_, fun u o e => ?_⟩
      · show [some (V.int (n : Int)), some (V.ref l), some (V.int (chN n i * ((n : Int) - (0 + (i : Int))) / (0 + (i : Int) + 1))), some (V.int (0 + (i : Int)))] = _
        rw [Int.zero_add]
        rfl
      · rw [upd_same, List.range_succ, List.map_append, List.map_append]
        rfl
      · rw [upd_ne (ne_of_none e nl)]
        exact sm _ _ e
    · obtain ⟨y3, rfl, hl, sm⟩ := hW
      exact ⟨_, rfl, q l H1 nl hl sm⟩
theorem scNearT : FnScope ["place", "n", "r"] ["place", "n", "r"] (defScope s_things_near) := ⟨rfl, rfl, rfl, by decide +kernel, rfl, by decide +kernel, by decide +kernel⟩
theorem ok_nearT {f : Addr} {fd : FuncData} {k : Nat} (T : Df K mg "things_near" s_things_near ["place", "n", "r"] f fd) (B : Bi mg) : FnOk P w K mg base CX0 (k + 1) f fd ["place", "n", "r"] spNearT := by
  refine T.F.ok scNearT (fun vs H Q E h => ?_) (fun cdv A outer s H vs Q E hr h => ?_)
  · obtain ⟨p, n, r, rfl, _⟩ := h
    rfl
  · obtain ⟨p, n, r, rfl, hp, hn, hr0, q⟩ := h
    refine ⟨_, 
      (pss_one (ps_ret (pe_listRg rfl (by rfl) B.list (prg_2 (by rfl) B.range (pe_callB (call_max2 rfl) (by rfl) B.max (by decide +kernel) (pa_cons pe_int (pa_cons (pe_op op_sub (pv 0) (pv 2)) pa_nil))) (pe_callB (call_min2 rfl) (by rfl) B.min (by decide +kernel) (pa_cons (pv 1) (pa_cons (pe_op op_add (pe_op op_add (pv 0) (pv 2)) pe_int) pa_nil))))))), ?_⟩
    refine ⟨_, rfl, _, rfl, _, _, rfl, rfl, _, _, rfl, _, rfl, _, rfl, _, rfl, _, _, rfl, rfl, _, _, rfl, rfl, _, _, rfl, ?_⟩
    rw [max_if, min_if]
    refine ⟨_, _, rfl, rfl, RgOk.of_le (by omega) (by omega) (by omega) (by omega), fun l nl => ?_⟩
    exact q l _ nl (by rw [upd_same, near_V hp hr0]) (same_new nl)
theorem scFurther : FnScope ["beginnings", "near", "longer", "used", "many", "thing", "bit"] ["beginnings", "near"] (defScope s_one_place_further) := ⟨rfl, rfl, rfl, by decide +kernel, rfl, by decide +kernel, by decide +kernel⟩
set_option maxHeartbeats 2000000 in
theorem ok_further {f : Addr} {fd : FuncData} {k : Nat} (T : Df K mg "one_place_further" s_one_place_further ["beginnings", "near"] f fd) (B : Bi mg) : FnOk P w K mg base CX0 (k + 1) f fd ["beginnings", "near"] spFurther := by
  refine T.F.ok scFurther (fun vs H Q E h => ?_) (fun cdv A outer s H vs Q E hr h => ?_)
  · obtain ⟨a, b, d, lo, c, rfl, _⟩ := h
    rfl
  · obtain ⟨a, b, d, lo, c, rfl, ha, hd, hb, hc, q⟩ := h
    refine ⟨_, 
      (pss_cons (ps_set (i := 2) scFurther.nd rfl (.inl rfl) pe_dnewK)
      (pss_cons (ps_lock (ps_for PassesOwn.never rfl (pi_items (pv 0)) (pg_tup (by rfl) (pgs_cons (pg_name (i := 3) scFurther.nd rfl (.inl rfl)) (pgs_cons (pg_name (i := 4) scFurther.nd rfl (.inl rfl)) pgs_nil)))
        (pss_one (ps_for PassesOwn.never rfl (pi_list (pv 1)) (pg_name (i := 5) scFurther.nd rfl (.inl rfl))
          (pss_cons (ps_set (i := 6) scFurther.nd rfl (.inl rfl) (pe_op op_shl pe_int (pv 5)))
          (pss_one (ps_if (pt_cmpR op_eq (pe_op op_and (pv 3) (pv 6)) pe_int (nomark _))
            (pss_one (ps_dput (hu_of hr) (pv 2) (pe_op op_or (pv 3) (pv 6)) (pe_op op_add (pe_dget2 (hu_of hr) (pv 2) (pe_op op_or (pv 3) (pv 6)) pe_int ⟨by rfl, by rfl, by rfl, by rfl⟩) (pv 4)) (by rfl)))
            pss_nil)))))))
      (pss_one (ps_ret (pv 2))))), ?_⟩
    refine fun l nl => ?_
    have s1 := same_new (o := .dK []) nl
    have nla : l ≠ a := (ne_of_none ha nl).symm
    have nlb : l ≠ b := (ne_of_none hb nl).symm
    have nba : b ≠ a := fun z => by rw [z, ha] at hb; cases hb
    refine ⟨a, _, s1 _ _ ha, trivial, fun od => ?_⟩
    refine ⟨_, rfl, a, od, _, rfl, upd_same, ?_⟩
    refine for_items (od := od) (kvs := dN d) (fun i σ H3 => ∃ (y3 y4 y5 y6 : Option V), σ = [some (.ref a), some (.ref b), some (.ref l), y3, y4, y5, y6] ∧ H3 l = some (.dK (dN (stOut d lo c i))) ∧ H3 a = some (.frz od (.dK (dN d))) ∧ (∀ u o, H u = some o → u ≠ a → H3 u = some o))
      ⟨_, _, _, _, rfl, by rw [upd_ne nla]; exact upd_same, upd_same, fun u o e nu => by rw [upd_ne nu]; exact s1 _ _ e⟩ (fun i σ H3 hW => by obtain ⟨_, _, _, _, _, _, h3, _⟩ := hW; exact h3) (fun i kk v t σ H3 hx hW nt => ?_) (fun σ H3 hW => ?_)
    · obtain ⟨y3, y4, y5, y6, rfl, hl3, ha3, kp⟩ := hW
      obtain ⟨hi, rfl, rfl⟩ := dN_at hx
      obtain ⟨g1, _, _⟩ := stOut_good hd hc i (by omega)
      have hmem : d.getD i (0, 0) ∈ d := by rw [getD_at hi]; exact List.getElem_mem _
      have hm := hd.pos _ hmem
      have hu := hd.lt _ (List.mem_map.mpr ⟨_, hmem, rfl⟩)
      generalize hux : (d.getD i (0, 0)).1 = ux at hu
      generalize hmx : (d.getD i (0, 0)).2 = mx at hm
      have st := same_new (o := .tup [kV (Sum.inl ((ux : Nat) : Int)), .int mx]) nt
      have hl4 := st _ _ hl3
      have ha4 := st _ _ ha3
      have kp4 : ∀ u o, H u = some o → u ≠ a → (upd H3 t (.tup [kV (Sum.inl ((ux : Nat) : Int)), .int mx])) u = some o := fun u o e nu => st _ _ (kp u o e nu)
      have ht4 : (upd H3 t (.tup [kV (Sum.inl ((ux : Nat) : Int)), .int mx])) t = some (.tup [kV (Sum.inl ((ux : Nat) : Int)), .int mx]) := upd_same
      generalize upd H3 t (.tup [kV (Sum.inl ((ux : Nat) : Int)), .int mx]) = H4 at ht4 hl4 ha4 kp4 ⊢
      refine ⟨t, _, rfl, .inl (.inl ht4), rfl, _, _, rfl, _, _, rfl, rfl, ?_⟩
      refine ⟨_, rfl, b, rfl, ⟨_, SqL.of (kp4 _ _ hb nba)⟩, ?_⟩
      refine for_list (xs := (nearT lo c).map V.int) (fun j σ H5 => ∃ (y5 y6 : Option V), σ = [some (.ref a), some (.ref b), some (.ref l), some (.int ((ux : Nat) : Int)), some (.int mx), y5, y6] ∧ H5 l = some (.dK (dN (stIn ux mx lo j (stOut d lo c i)))) ∧ H5 a = some (.frz od (.dK (dN d))) ∧ (∀ u o, H u = some o → u ≠ a → H5 u = some o))
        ⟨_, _, rfl, hl4, ha4, kp4⟩ (fun j σ H5 _ hW => by obtain ⟨_, _, _, _, _, kp5⟩ := hW; exact SqL.of (kp5 _ _ hb nba)) (fun j x σ H5 hx hW => ?_) (fun σ H5 hW => ?_)
      · obtain ⟨z5, z6, rfl, hl5, ha5, kp5⟩ := hW
        obtain ⟨y, ey, rfl⟩ := int_at_inv hx
        have hj := (List.getElem?_eq_some_iff.mp ey).1
        rw [near_len] at hj
        rw [near_at hj] at ey
        have ey2 := Option.some.inj ey
        subst ey2
        obtain ⟨k1, _, _, _⟩ := stIn_good (lo := lo) hu hm j _ g1 (by omega)
        have hln := k1.len
        refine ⟨_, rfl, 1, _, rfl, rfl, ⟨by omega, by omega, by decide⟩, ?_⟩
        refine ⟨_, rfl, _, rfl, _, _, rfl, rfl, rfl, _, rfl, ?_⟩
        rw [bit_read hu (show lo + j < 12 by omega)]
        cases htb : ux.testBit (lo + j) with
        | true =>
          refine iteF ⟨_, _, rfl, ?_, ha5, kp5⟩
          rw [stIn, htb, if_pos rfl]
          exact hl5
        | false =>
          refine iteT ?_
          have eb := bit_or htb hu (show lo + j < 12 by omega)
          have eg : DGet H5 l (V.int (Builtin.bitOr (ux : Int) (1 * 2 ^ (((lo + j : Nat)) : Int).toNat))) (valV (dN (stIn ux mx lo j (stOut d lo c i))) (Sum.inl ((ux + 2 ^ (lo + j) : Nat) : Int))) := by
            rw [eb]
            exact DGet.k (k := Sum.inl _) hl5
          have ep : DPut H5 l (V.int (Builtin.bitOr (ux : Int) (1 * 2 ^ (((lo + j : Nat)) : Int).toNat))) (V.int (lookN (stIn ux mx lo j (stOut d lo c i)) (ux + 2 ^ (lo + j)) + mx)) (upd H5 l (.dK (dN (stIn ux mx lo (j + 1) (stOut d lo c i))))) := by
            rw [eb, stIn, htb, if_neg (by decide), ← dN_put]
            exact DPut.k (k := Sum.inl _) hl5 (line_lt (by rw [dN_len]; omega))
          refine ⟨_, rfl, l, rfl, .inl ⟨_, .inl hl5⟩, _, rfl, _, rfl, _, _, rfl, rfl, _, eg, _, rfl, _, _, dN_get _ _, rfl, _, rfl, _, rfl, _, rfl, _, _, rfl, rfl, l, _, rfl, ep, _, _, rfl, upd_same, ?_, fun u o e nu => ?_⟩
          · rw [upd_ne nla.symm]
            exact ha5
          · rw [upd_ne (ne_of_none e nl)]
            exact kp5 u o e nu
      · obtain ⟨z5, z6, rfl, hl5, ha5, kp5⟩ := hW
        rw [List.length_map, near_len] at hl5
        refine ⟨_, _, _, _, rfl, ?_, ha5, kp5⟩
        rw [stOut, hux, hmx]
        exact hl5
    · obtain ⟨y3, y4, y5, y6, rfl, hl3, ha3, kp⟩ := hW
      rw [dN_len] at hl3
      refine ⟨ha3, _, rfl, q l _ nl (by rw [upd_ne nla]; exact hl3) fun u o e => ?_⟩
      by_cases c : u = a
      · subst c
        rw [upd_same]
        rw [ha] at e
        exact e
      · rw [upd_ne c]
        exact kp u o e c
theorem scShN : FnScope ["n", "r", "beginnings", "place", "near"] ["n", "r"] (defScope s_shift_within) := ⟨rfl, rfl, rfl, by decide +kernel, rfl, by decide +kernel, by decide +kernel⟩
set_option maxHeartbeats 1000000 in
theorem ok_shN {f f1 f2 : Addr} {fd d1 d2 : FuncData} {k : Nat} (T : Df K mg "shift_within" s_shift_within ["n", "r"] f fd) (T_things_near : Df K mg "things_near" s_things_near ["place", "n", "r"] f1 d1) (T_one_place_further : Df K mg "one_place_further" s_one_place_further ["beginnings", "near"] f2 d2) (B : Bi mg) : FnOk P w K mg base CX0 (k + 2) f fd ["n", "r"] spShN := by
  have G_things_near : FnOk P w K mg base CX0 (k + 1) f1 d1 ["place", "n", "r"] spNearT := ok_nearT T_things_near B
  have G_one_place_further : FnOk P w K mg base CX0 (k + 1) f2 d2 ["beginnings", "near"] spFurther := ok_further T_one_place_further B
  refine T.F.ok scShN (fun vs H Q E h => ?_) (fun cdv A outer s H vs Q E hr h => ?_)
  · obtain ⟨n, r, rfl, _⟩ := h
    rfl
  · obtain ⟨n, r, rfl, hn1, hn2, hr0, q⟩ := h
    refine ⟨_, 
      (pss_cons (ps_set (i := 2) scShN.nd rfl (.inl rfl) (pe_disp (pps_cons pe_int pe_int pps_nil) (by rfl) (by rfl) (fun z => by cases z) (by decide)))
      (pss_cons (ps_for PassesOwn.never rfl (pi_range1 (by rfl) B.range (pa_cons (pv 0) pa_nil)) (pg_name (i := 3) scShN.nd rfl (.inl rfl))
        (pss_cons (ps_set (i := 4) scShN.nd rfl (.inl rfl) (pe_call G_things_near hr (by rfl) T_things_near.g T_things_near.F.kp T_things_near.b .nil pass0 (pa_cons (pv 3) (pa_cons (pv 0) (pa_cons (pv 1) pa_nil)))))
        (pss_one (ps_set (i := 2) scShN.nd rfl (.inl rfl) (pe_call G_one_place_further hr (by rfl) T_one_place_further.g T_one_place_further.F.kp T_one_place_further.b .nil pass0 (pa_cons (pv 2) (pa_cons (pv 4) pa_nil)))))))
      (pss_one (ps_ret (pe_sumVals rfl (by rfl) B.sum (pv 2)))))), ?_⟩
    refine fun l nl => ⟨upd_same, [(Sum.inl 0, .int 1)], rfl, by decide, ?_⟩
    have s1 : Same H (upd (upd H l (.dK [])) l (.dK (mergeK [] [(Sum.inl 0, .int 1)]))) := fun u o e => by rw [upd_ne (ne_of_none e nl), upd_ne (ne_of_none e nl)]; exact e
    refine ⟨_, rfl, n, rfl, by omega, by omega, ?_⟩
    rw [Int.toNat_natCast]
    refine for_range (n := n) (fun i σ H1 => ∃ (l : Addr) (y3 y4 : Option V), σ = [some (.int n), some (.int r), some (.ref l), y3, y4] ∧ H1 l = some (.dK (dN (shD n r i))) ∧ Same H H1) ⟨l, _, _, rfl, by rw [upd_same]; rfl, s1⟩ (fun i σ H1 hi hW => ?_) (fun σ H1 hW => ?_)
    · obtain ⟨l, y3, y4, rfl, hl, sm⟩ := hW
      obtain ⟨g1, _, _⟩ := shD_good (r := r) hn2 hr0 i (by omega)
      obtain ⟨l1, _, _⟩ := lo_ct (r := r) hn2 hi hr0
      refine ⟨_, rfl, _, rfl, _, rfl, i, n, r, by rw [Int.zero_add]; rfl, hi, hn2, hr0, fun p H2 np hp s2 => ?_⟩
      refine ⟨_, rfl, _, rfl, l, p, _, _, _, rfl, s2 _ _ hl, g1, hp, l1, fun l2 H3 nl2 hl2 s3 => ?_⟩
      exact ⟨l2, _, _, rfl, hl2, (sm.trans s2).trans s3⟩
    · obtain ⟨l, y3, y4, rfl, hl, sm⟩ := hW
      exact ⟨_, rfl, l, _, _, rfl, hl, dN_sum _, q H1 sm⟩
theorem scKW : FnScope ["way", "n", "r"] ["way", "n", "r"] (defScope s_known_within) := ⟨rfl, rfl, rfl, by decide +kernel, rfl, by decide +kernel, by decide +kernel⟩
theorem ok_kw {f f1 f2 f3 f4 f5 f6 f7 : Addr} {fd d1 d2 d3 d4 d5 d6 d7 : FuncData} {k : Nat} (T : Df K mg "known_within" s_known_within ["way", "n", "r"] f fd) (T_swap_counts : Df K mg "swap_counts" s_swap_counts ["n"] f1 d1) (T_spot_counts : Df K mg "spot_counts" s_spot_counts ["n"] f2 d2) (T_shift_within : Df K mg "shift_within" s_shift_within ["n", "r"] f3 d3) (T4 : Df K mg "swap_counts_with_one_more" s_swap_counts_with_one_more ["counts", "behind"] f4 d4) (T5 : Df K mg "count_all_moved" s_count_all_moved ["n"] f5 d5) (T6 : Df K mg "things_near" s_things_near ["place", "n", "r"] f6 d6) (T7 : Df K mg "one_place_further" s_one_place_further ["beginnings", "near"] f7 d7) (B : Bi mg) : FnOk P w K mg base CX0 (k + 3) f fd ["way", "n", "r"] spKW := by
  have G_swap_counts : FnOk P w K mg base CX0 (k + 2) f1 d1 ["n"] spSwC := ok_swC T_swap_counts T4 B
  have G_spot_counts : FnOk P w K mg base CX0 (k + 2) f2 d2 ["n"] spSpC := ok_spC T_spot_counts T5 B
  have G_shift_within : FnOk P w K mg base CX0 (k + 2) f3 d3 ["n", "r"] spShN := ok_shN T_shift_within T6 T7 B
  refine T.F.ok scKW (fun vs H Q E h => ?_) (fun cdv A outer s H vs Q E hr h => ?_)
  · obtain ⟨wy, n, r, rfl, _⟩ := h
    rfl
  · obtain ⟨wy, n, r, rfl, hw, hn1, hn2, hr0, q⟩ := h
    refine ⟨_, 
      (pss_cons (ps_if (pt_cmpR op_eq (pv 0) pe_str (nomark _))
        (pss_one (ps_ret (pe_callB (cr_sum rfl) (by rfl) B.sum (by decide +kernel) (pa_cons (pe_slice sl_list (pe_call G_swap_counts hr (by rfl) T_swap_counts.g T_swap_counts.F.kp T_swap_counts.b .nil pass0 (pa_cons (pv 1) pa_nil)) po_none (po_some (pe_op op_add (pv 2) pe_int))) pa_nil))))
        pss_nil)
      (pss_cons (ps_if (pt_cmpR op_eq (pv 0) pe_str (nomark _))
        (pss_one (ps_ret (pe_callB (cr_sum rfl) (by rfl) B.sum (by decide +kernel) (pa_cons (pe_slice sl_list (pe_call G_spot_counts hr (by rfl) T_spot_counts.g T_spot_counts.F.kp T_spot_counts.b .nil pass0 (pa_cons (pv 1) pa_nil)) po_none (po_some (pe_op op_add (pv 2) pe_int))) pa_nil))))
        pss_nil)
      (pss_one (ps_ret (pe_call G_shift_within hr (by rfl) T_shift_within.g T_shift_within.F.kp T_shift_within.b .nil pass0 (pa_cons (pv 1) (pa_cons (pv 2) pa_nil))))))), ?_⟩
    have er : r + 1 = (((r + 1).toNat : Nat) : Int) := by omega
    rcases hw with rfl | rfl | rfl
    · refine ⟨_, rfl, rfl, _, rfl, ite2 (fun _ => ?_) (fun c => absurd (by decide +kernel) c)⟩
      refine ⟨_, rfl, n, rfl, hn1, hn2, fun l H1 nl hl s1 => ?_⟩
      refine ⟨_, rfl, r, 1, rfl, rfl, _, rfl, l, _, rfl, SqL.of hl, fun p np => ?_⟩
      refine ⟨p, (swC (n - 1)).take (r + 1).toNat, rfl, SqL.of (by rw [upd_same, cut_ints, er, cutI_head, Int.toNat_natCast]), ?_⟩
      rw [← inW_swap]
      exact q _ (s1.trans (same_new np))
    · refine ⟨_, rfl, rfl, _, rfl, ite2 (fun c => absurd c (by decide +kernel)) (fun _ => ?_)⟩
      refine ⟨_, rfl, rfl, _, rfl, ite2 (fun _ => ?_) (fun c => absurd (by decide +kernel) c)⟩
      refine ⟨_, rfl, n, rfl, hn1, hn2, fun l H1 nl hl s1 => ?_⟩
      refine ⟨_, rfl, r, 1, rfl, rfl, _, rfl, l, _, rfl, SqL.of hl, fun p np => ?_⟩
      refine ⟨p, (spC n).take (r + 1).toNat, rfl, SqL.of (by rw [upd_same, cut_ints, er, cutI_head, Int.toNat_natCast]), ?_⟩
      rw [← inW_spot]
      exact q _ (s1.trans (same_new np))
    · refine ⟨_, rfl, rfl, _, rfl, ite2 (fun c => absurd c (by decide +kernel)) (fun _ => ?_)⟩
      refine ⟨_, rfl, rfl, _, rfl, ite2 (fun c => absurd c (by decide +kernel)) (fun _ => ?_)⟩
      exact ⟨_, rfl, _, rfl, n, r, rfl, hn1, hn2, hr0, fun H1 s1 => by rw [← inW_shift]; exact q H1 s1⟩
end
end Fo
namespace Fo
open PySem PySem.Spec PyProof.Rows L2
def spCount : Sp := fun vs H Q _ => ∃ (w : Str) (n : Nat) (r : Int), vs = [.str w, .int n, .int r] ∧ IsWay w ∧ 1 ≤ n ∧ n ≤ 12 ∧ 0 ≤ r ∧ Q .non H
def atW (w : Str) (n : Nat) (r : Int) : Int := if r = 0 then inW w n 0 else inW w n r - inW w n (r - 1)
def spAt : Sp := fun vs H Q _ => ∃ (w : Str) (n : Nat) (r : Int), vs = [.str w, .int n, .int r] ∧ IsWay w ∧ 1 ≤ n ∧ n ≤ 12 ∧ 0 ≤ r ∧ ∀ H', Same H H' → Q (.int (atW w n r)) H'
section
variable {P : Program} {w : World} {K : PySem.W.Frag} {mg : Str → Option Value} {base : Heap}
theorem scCount : FnScope ["way", "n", "r"] ["way", "n", "r"] (defScope s_check_count) := ⟨rfl, rfl, rfl, by decide +kernel, rfl, by decide +kernel, by decide +kernel⟩
theorem ok_count {f f1 f2 f3 fW aW : Addr} {fd d1 d2 d3 dW : FuncData} {k : Nat} {tk : Tok} (T : Df K mg "check_count" s_check_count ["way", "n", "r"] f fd) (T_check_way : Df K mg "check_way" s_check_way ["thing"] f1 d1) (T_check_size : Df K mg "check_size" s_check_size ["thing", "most"] f2 d2) (T_check_from : Df K mg "check_from" s_check_from ["thing", "least"] f3 d3) (T_is_whole : Df K mg "is_whole" s_is_whole ["thing"] fW dW) (W : Wy K mg aW) (B : Bi mg) (mM : mg "MOST_THINGS" = some (.int 12 tk)) : FnOk P w K mg base CX0 (k + 3) f fd ["way", "n", "r"] spCount := by
  have G_check_way : FnOk P w K mg base CX0 (k + 2) f1 d1 ["thing"] spWay := ok_way (k := k + 1) T_check_way W B
  have G_check_size : FnOk P w K mg base CX0 (k + 2) f2 d2 ["thing", "most"] spSize := ok_size T_check_size T_is_whole B
  have G_check_from : FnOk P w K mg base CX0 (k + 2) f3 d3 ["thing", "least"] spFrom := ok_from T_check_from T_is_whole B
  refine T.F.ok scCount (fun vs H Q E h => ?_) (fun cdv A outer s H vs Q E hr h => ?_)
  · obtain ⟨w, n, r, rfl, _⟩ := h
    rfl
  · obtain ⟨w, n, r, rfl, hw, h1, h2, h3, q⟩ := h
    refine ⟨_, 
      (pss_cons (ps_expr (pe_call G_check_way hr (by rfl) T_check_way.g T_check_way.F.kp T_check_way.b .nil pass0 (pa_cons (pv 0) pa_nil)))
      (pss_cons (ps_expr (pe_call G_check_size hr (by rfl) T_check_size.g T_check_size.F.kp T_check_size.b .nil pass0 (pa_cons (pv 1) (pa_cons (pe_glob (v := .int 12) (by rfl) mM ⟨_, rfl⟩) pa_nil))))
      (pss_one (ps_expr (pe_call G_check_from hr (by rfl) T_check_from.g T_check_from.F.kp T_check_from.b .nil pass0 (pa_cons (pv 2) (pa_cons pe_int pa_nil))))))), ?_⟩
    exact ⟨_, rfl, w, rfl, hw, _, rfl, n, 12, rfl, by omega, by omega, _, rfl, r, 0, rfl, h3, q⟩
theorem scCW : FnScope ["way", "n", "r"] ["way", "n", "r"] (defScope s_count_within) := ⟨rfl, rfl, rfl, by decide +kernel, rfl, by decide +kernel, by decide +kernel⟩
theorem ok_cw {f f1 f2 : Addr} {fd d1 d2 : FuncData} {k : Nat} (T : Df K mg "count_within" s_count_within ["way", "n", "r"] f fd) (T_check_count : Df K mg "check_count" s_check_count ["way", "n", "r"] f1 d1) (T_known_within : Df K mg "known_within" s_known_within ["way", "n", "r"] f2 d2) (G_check_count : FnOk P w K mg base CX0 k f1 d1 ["way", "n", "r"] spCount) (G_known_within : FnOk P w K mg base CX0 k f2 d2 ["way", "n", "r"] spKW) : FnOk P w K mg base CX0 (k + 1) f fd ["way", "n", "r"] spKW := by
  refine T.F.ok scCW (fun vs H Q E h => ?_) (fun cdv A outer s H vs Q E hr h => ?_)
  · obtain ⟨w, n, r, rfl, _⟩ := h
    rfl
  · obtain ⟨w, n, r, rfl, hw, h1, h2, h3, q⟩ := h
    refine ⟨_, 
      (pss_cons (ps_expr (pe_call G_check_count hr (by rfl) T_check_count.g T_check_count.F.kp T_check_count.b .nil pass0 (pa_cons (pv 0) (pa_cons (pv 1) (pa_cons (pv 2) pa_nil)))))
      (pss_one (ps_ret (pe_call G_known_within hr (by rfl) T_known_within.g T_known_within.F.kp T_known_within.b .nil pass0 (pa_cons (pv 0) (pa_cons (pv 1) (pa_cons (pv 2) pa_nil))))))), ?_⟩
    exact ⟨_, rfl, _, rfl, _, rfl, w, n, r, rfl, hw, h1, h2, h3, _, rfl, _, rfl, _, rfl, w, n, r, rfl, hw, h1, h2, h3, q⟩
theorem scCA : FnScope ["way", "n", "r"] ["way", "n", "r"] (defScope s_count_at) := ⟨rfl, rfl, rfl, by decide +kernel, rfl, by decide +kernel, by decide +kernel⟩
theorem ok_ca {f f1 f2 : Addr} {fd d1 d2 : FuncData} {k : Nat} (T : Df K mg "count_at" s_count_at ["way", "n", "r"] f fd) (T_check_count : Df K mg "check_count" s_check_count ["way", "n", "r"] f1 d1) (T_known_within : Df K mg "known_within" s_known_within ["way", "n", "r"] f2 d2) (G_check_count : FnOk P w K mg base CX0 k f1 d1 ["way", "n", "r"] spCount) (G_known_within : FnOk P w K mg base CX0 k f2 d2 ["way", "n", "r"] spKW) : FnOk P w K mg base CX0 (k + 1) f fd ["way", "n", "r"] spAt := by
  refine T.F.ok scCA (fun vs H Q E h => ?_) (fun cdv A outer s H vs Q E hr h => ?_)
  · obtain ⟨w, n, r, rfl, _⟩ := h
    rfl
  · obtain ⟨w, n, r, rfl, hw, h1, h2, h3, q⟩ := h
    refine ⟨_, 
      (pss_cons (ps_expr (pe_call G_check_count hr (by rfl) T_check_count.g T_check_count.F.kp T_check_count.b .nil pass0 (pa_cons (pv 0) (pa_cons (pv 1) (pa_cons (pv 2) pa_nil)))))
      (pss_cons (ps_if (pt_cmpR op_eq (pv 2) pe_int (nomark _))
        (pss_one (ps_ret (pe_call G_known_within hr (by rfl) T_known_within.g T_known_within.F.kp T_known_within.b .nil pass0 (pa_cons (pv 0) (pa_cons (pv 1) (pa_cons pe_int pa_nil))))))
        pss_nil)
      (pss_one (ps_ret (pe_op op_sub (pe_call G_known_within hr (by rfl) T_known_within.g T_known_within.F.kp T_known_within.b .nil pass0 (pa_cons (pv 0) (pa_cons (pv 1) (pa_cons (pv 2) pa_nil)))) (pe_call G_known_within hr (by rfl) T_known_within.g T_known_within.F.kp T_known_within.b .nil pass0 (pa_cons (pv 0) (pa_cons (pv 1) (pa_cons (pe_op op_sub (pv 2) pe_int) pa_nil))))))))), ?_⟩
    refine ⟨_, rfl, _, rfl, _, rfl, w, n, r, rfl, hw, h1, h2, h3, ?_⟩
    refine ⟨_, rfl, rfl, _, rfl, ite2 (fun c => ?_) (fun c => ?_)⟩
    · have e : r = 0 := V.int.inj (of_decide_eq_true c)
      refine ⟨_, rfl, _, rfl, w, n, 0, rfl, hw, h1, h2, by decide, fun H1 s1 => ?_⟩
      have z := q H1 s1
      unfold atW at z
      rw [if_pos e] at z
      exact z
    · have e : r ≠ 0 := fun e => c (by rw [e]; exact decide_eq_true rfl)
      refine ⟨_, rfl, _, rfl, _, rfl, w, n, r, rfl, hw, h1, h2, h3, fun H1 s1 => ?_⟩
      refine ⟨_, rfl, _, rfl, _, rfl, r, 1, rfl, rfl, w, n, r - 1, rfl, hw, h1, h2, by omega, fun H2 s2 => ?_⟩
      refine ⟨_, _, rfl, rfl, ?_⟩
      have z := q H2 (s1.trans s2)
      unfold atW at z
      rw [if_neg e] at z
      exact z
end
end Fo
namespace Fo
open PySem PySem.Spec PyProof.Rows L2
theorem valW (x y z : V) {w : Str} (h : IsWay w) : valV (mergeK [] [((.inr "swap" : Key), x), (.inr "spot", y), (.inr "shift", z)]) (.inr w) = some (if w = "swap" then x else if w = "spot" then y else z) := by
  have h12 : ¬ (Sum.inr ("swap" : Str) : Key) = .inr "spot" := by decide +kernel
  have h13 : ¬ (Sum.inr ("swap" : Str) : Key) = .inr "shift" := by decide +kernel
  have h23 : ¬ (Sum.inr ("spot" : Str) : Key) = .inr "shift" := by decide +kernel
  have e : mergeK [] [((.inr "swap" : Key), x), (.inr "spot", y), (.inr "shift", z)] = [((.inr "swap" : Key), x), (.inr "spot", y), (.inr "shift", z)] := by
    simp [mergeK, putK, h12, h13, h23]
  rw [e]
  rcases h with rfl | rfl | rfl
  · rw [valV_pos rfl, if_pos rfl]
  · rw [valV_neg h12, valV_pos rfl, if_neg n1, if_pos rfl]
  · rw [valV_neg h13, valV_neg h23, valV_pos rfl, if_neg n2, if_neg n3]
end Fo
namespace Fo
open PySem PySem.Spec PyProof.Rows L2
/-! ### within a reach beyond all lie all: by how many things each beginning holds -/
def pcN (u n : Nat) : Nat := ((List.range n).filter fun t => u.testBit t).length
theorem pc_succ (u n : Nat) : pcN u (n + 1) = pcN u n + if u.testBit n then 1 else 0 := by
  unfold pcN
  rw [List.range_succ, List.filter_append, List.length_append]
  congr 1
  cases h : u.testBit n <;> simp [h]
theorem pc_or (u t : Nat) (h : u.testBit t = false) : ∀ n, pcN (u ||| 2 ^ t) n = pcN u n + if t < n then 1 else 0
  | 0 => by simp [pcN]
  | n + 1 => by
    rw [pc_succ, pc_succ, pc_or u t h n, Nat.testBit_or, Nat.testBit_two_pow]
    by_cases c : t = n
    · subst c
      simp [h]
    · cases hb : u.testBit n
      · by_cases c2 : t < n
        · simp [c, c2, show t < n + 1 by omega]
        · simp [c, c2, show ¬ t < n + 1 by omega]
      · by_cases c2 : t < n
        · simp [c2, show t < n + 1 by omega]
        · simp [c2, show ¬ t < n + 1 by omega]
def upN (u n : Nat) : Nat := ((List.range n).filter fun t => !u.testBit t).length
theorem up_succ (u n : Nat) : upN u (n + 1) = upN u n + if u.testBit n then 0 else 1 := by
  unfold upN
  rw [List.range_succ, List.filter_append, List.length_append]
  congr 1
  cases h : u.testBit n <;> simp [h]
theorem up_pc (u : Nat) : ∀ n, upN u n + pcN u n = n
  | 0 => rfl
  | n + 1 => by
    have ih := up_pc u n
    rw [up_succ, pc_succ]
    cases u.testBit n <;> simp <;> omega
theorem stIn_tot {u : Nat} {m : Int} (hu : u < 4096) (hm : 0 < m) : ∀ (j : Nat) (l : List (Nat × Int)), GoodD l → j ≤ 12 → totN (stIn u m 0 j l) = totN l + (upN u j : Int) * m
  | 0, l, _, _ => by show totN l = totN l + ((0 : Nat) : Int) * m; simp
  | j + 1, l, hl, hj => by
    have ih := stIn_tot hu hm j l hl (by omega)
    obtain ⟨g, _⟩ := stIn_good (lo := 0) hu hm j l hl (by omega)
    rw [stIn, up_succ, Nat.zero_add]
    cases hb : u.testBit j
    · rw [if_neg (by simp), if_neg (by simp), put_tot _ _ _ g.nd, ih, Int.natCast_add, Int.add_mul]
      omega
    · rw [if_pos rfl, if_pos rfl, ih, Nat.add_zero]
theorem stIn_keys {u n p : Nat} {m : Int} (hu : u < 4096) (hn : n ≤ 12) (hp : pcN u n = p) : ∀ (j : Nat) (l : List (Nat × Int)), j ≤ n → (∀ x ∈ keysN l, pcN x n = p + 1) → ∀ x ∈ keysN (stIn u m 0 j l), pcN x n = p + 1
  | 0, l, _, h => h
  | j + 1, l, hj, h => by
    have ih := stIn_keys (m := m) hu hn hp j l (by omega) h
    rw [stIn, Nat.zero_add]
    cases hb : u.testBit j
    · rw [if_neg (by simp)]
      intro x hx
      rcases put_mem.mp hx with hx | rfl
      · exact ih x hx
      · rw [bit_add hb hu (by omega), pc_or u j hb, hp, if_pos (by omega)]
    · rw [if_pos rfl]
      exact ih
theorem stOut_tot {d : List (Nat × Int)} {n p : Nat} (hd : GoodD d) (hn : n ≤ 12) (hk : ∀ x ∈ keysN d, pcN x n = p) : ∀ i, i ≤ d.length → GoodD (stOut d 0 n i) ∧ totN (stOut d 0 n i) = ((n : Int) - p) * totN (d.take i) ∧ ∀ x ∈ keysN (stOut d 0 n i), pcN x n = p + 1
  | 0, _ => ⟨(stOut_good (lo := 0) hd (by omega) 0 (by omega)).1, by show (0 : Int) = _ * 0; rw [Int.mul_zero], fun x hx => by cases hx⟩
  | i + 1, hi => by
    obtain ⟨h1, h2, h3⟩ := stOut_tot hd hn hk i (by omega)
    have hm : d.getD i (0, 0) ∈ d := by rw [getD_at (by omega)]; exact List.getElem_mem _
    have hkm : (d.getD i (0, 0)).1 ∈ keysN d := List.mem_map.mpr ⟨_, hm, rfl⟩
    have hu := hd.lt _ hkm
    have hpos := hd.pos _ hm
    have e := hk _ hkm
    refine ⟨(stOut_good (lo := 0) hd (by omega) (i + 1) hi).1, ?_, stIn_keys hu hn e n _ (Nat.le_refl _) h3⟩
    have eu := up_pc (d.getD i (0, 0)).1 n
    rw [stOut, stIn_tot hu hpos n _ h1 hn, h2, take_tot (by omega), Int.mul_add]
    congr 2
    omega
theorem sh_all {n : Nat} {r : Int} (hn : n ≤ 12) (hr : (n : Int) - 1 ≤ r) : ∀ p, p ≤ n → GoodD (shD n r p) ∧ totN (shD n r p) * facN (n - p) = facN n ∧ ∀ x ∈ keysN (shD n r p), pcN x n = p
  | 0, _ => by
    refine ⟨⟨by show [0].Nodup; decide, by show ∀ k ∈ [0], k < 4096; decide, by intro p hp; rw [List.mem_singleton.mp hp]; decide⟩, by show (1 + 0 : Int) * facN n = facN n; omega, ?_⟩
    intro x hx
    rw [List.mem_singleton.mp (show x ∈ [0] from hx)]
    unfold pcN
    simp
  | p + 1, hp => by
    obtain ⟨h1, h2, h3⟩ := sh_all hn hr p (by omega)
    have e1 : loP p r = 0 := by unfold loP; omega
    have e2 : ctP n p r = n := by unfold ctP; rw [e1]; omega
    obtain ⟨g1, g2, g3⟩ := stOut_tot h1 hn h3 (shD n r p).length (Nat.le_refl _)
    rw [List.take_length] at g2
    rw [shD, e1, e2]
    refine ⟨g1, ?_, g3⟩
    have ef : facN (n - p) = facN (n - (p + 1)) * ((n : Int) - p) := by
      obtain ⟨k, hk⟩ : ∃ k, n - p = k + 1 := ⟨n - p - 1, by omega⟩
      rw [show n - (p + 1) = k by omega, hk, facN]
      congr 1
      omega
    rw [g2, ← h2, ef, Int.mul_comm ((n : Int) - p), Int.mul_assoc, Int.mul_comm ((n : Int) - p)]
theorem shN_all {n : Nat} {r : Int} (hn : n ≤ 12) (hr : (n : Int) - 1 ≤ r) : shN n r = facN n := by
  have h := (sh_all hn hr n (Nat.le_refl _)).2.1
  rw [Nat.sub_self] at h
  unfold shN
  rw [← h]
  show _ = _ * (1 : Int)
  rw [Int.mul_one]
end Fo
namespace Fo
open PySem PySem.Spec PyProof.Rows L2
def mostW (w : Str) (n : Nat) : Int := if w = "swap" then (n : Int) * ((n : Int) - 1) / 2 else if w = "spot" then (n : Int) else (n : Int) - 1
theorem mostW_b {w : Str} {n : Nat} (h1 : 1 ≤ n) (h2 : n ≤ 12) : 0 ≤ mostW w n ∧ mostW w n ≤ 1000 := by
  have h : (n : Int) * ((n : Int) - 1) ≤ 12 * 11 ∧ 0 ≤ (n : Int) * ((n : Int) - 1) := ⟨Int.mul_le_mul (by omega) (by omega) (by omega) (by omega), Int.mul_nonneg (by omega) (by omega)⟩
  unfold mostW
  split
  · omega
  · split <;> omega
def atL (w : Str) (n m : Nat) : List Int := (rg m).map fun i => atW w n i
theorem atL_succ (w : Str) (n m : Nat) : atL w n (m + 1) = atL w n m ++ [atW w n (m : Int)] := by
  unfold atL
  rw [rg_succ, List.map_append]
  rfl
theorem atL_len (w : Str) (n m : Nat) : (atL w n m).length = m := by
  unfold atL
  rw [List.length_map, rg_len]
theorem atL_take (w : Str) (n : Nat) : ∀ (m r : Nat), r ≤ m → (atL w n m).take r = atL w n r
  | 0, r, h => by
    have : r = 0 := by omega
    subst this
    rfl
  | m + 1, r, h => by
    by_cases c : r = m + 1
    · subst c
      exact List.take_of_length_le (by rw [atL_len]; exact Nat.le_refl _)
    · rw [atL_succ, List.take_append_of_le_length (by rw [atL_len]; omega), atL_take w n m r (by omega)]
theorem atL_at {w : Str} {n m i : Nat} (h : i < m) : (atL w n m)[i]? = some (atW w n (i : Int)) := by
  unfold atL rg
  rw [List.map_map, List.getElem?_map, List.getElem?_range h]
  rfl
theorem atL_sum (w : Str) (n : Nat) : ∀ m : Nat, (atL w n (m + 1)).sum = inW w n (m : Int)
  | 0 => by
    show atW w n 0 + 0 = _
    unfold atW
    rw [if_pos rfl]
    exact Int.add_zero _
  | m + 1 => by
    rw [atL_succ, List.sum_append, atL_sum w n m]
    show _ + (atW w n ((m + 1 : Nat) : Int) + 0) = _
    unfold atW
    rw [if_neg (by omega), show ((m + 1 : Nat) : Int) - 1 = (m : Int) by omega]
    omega
theorem tots_s : ∀ n : Nat, n < 13 → 1 ≤ n → inW "swap" n (mostW "swap" n) = facN n ∧ inW "swap" n (mostW "swap" n + 1) = facN n ∧ inW "swap" n 0 = 1 := by decide +kernel
theorem tots_p : ∀ n : Nat, n < 13 → 1 ≤ n → inW "spot" n (mostW "spot" n) = facN n ∧ inW "spot" n (mostW "spot" n + 1) = facN n ∧ inW "spot" n 0 = 1 := by decide +kernel
theorem tots_0 : ∀ n : Nat, n < 13 → 1 ≤ n → shN n 0 = 1 := by decide +kernel
theorem tots {w : Str} {n : Nat} (hw : IsWay w) (h1 : 1 ≤ n) (h2 : n ≤ 12) : inW w n (mostW w n) = facN n ∧ inW w n (mostW w n + 1) = facN n ∧ inW w n 0 = 1 := by
  rcases hw with rfl | rfl | rfl
  · exact tots_s n (by omega) h1
  · exact tots_p n (by omega) h1
  · have em : mostW "shift" n = (n : Int) - 1 := by unfold mostW; rw [if_neg n2, if_neg n3]
    rw [em, inW_shift, inW_shift, inW_shift]
    exact ⟨shN_all h2 (by omega), shN_all h2 (by omega), tots_0 n (by omega) h1⟩
end Fo
namespace Fo
open PySem PySem.Spec PyProof.Rows L2
/-! ### all orders: each once -/
theorem allK_mem {n : Nat} : ∀ (k : Nat) (r : List Int), r.length = k → r.Nodup → (∀ x ∈ r, x ∈ rg n) → r ∈ allK n k
  | 0, r, hl, _, _ => by rw [List.length_eq_zero_iff.mp hl]; exact List.mem_cons_self
  | k + 1, r, hl, hn, hs => by
    have hne : r ≠ [] := fun e => by rw [e] at hl; cases hl
    have e := List.dropLast_concat_getLast hne
    rw [← e] at hn hs ⊢
    rw [List.nodup_append] at hn
    have ih := allK_mem k r.dropLast (by rw [List.length_dropLast, hl]; rfl) hn.1 fun x hx => hs x (List.mem_append.mpr (.inl hx))
    refine List.mem_flatMap.mpr ⟨_, ih, List.mem_map.mpr ⟨r.getLast hne, List.mem_filter.mpr ⟨hs _ (List.mem_append.mpr (.inr (List.mem_singleton.mpr rfl))), ?_⟩, rfl⟩⟩
    rw [decide_eq_false (fun z => hn.2.2 _ z _ (List.mem_singleton.mpr rfl) rfl)]
    rfl
theorem ord_mem {n : Nat} {r : List Int} (o : IsOrd n r) : r ∈ allK n n := allK_mem n r o.len o.nodup fun x hx => rg_mem.mpr (o.mem hx)
theorem allK_nodup {n : Nat} : ∀ k, (allK n k).Nodup
  | 0 => List.nodup_cons.mpr ⟨List.not_mem_nil, List.nodup_nil⟩
  | k + 1 => by
    have ih := allK_nodup (n := n) k
    show List.Pairwise _ ((allK n k).flatMap (extO n))
    rw [List.pairwise_flatMap]
    refine ⟨fun o _ => ?_, ih.imp fun {a b} hab x hx y hy e => ?_⟩
    · unfold extO
      refine List.Pairwise.map _ (fun a b h e => h ?_) ((rg_nodup n).filter _)
      have := List.append_cancel_left e
      exact (List.cons.inj this).1
    · obtain ⟨t, _, rfl⟩ := List.mem_map.mp hx
      obtain ⟨u, _, rfl⟩ := List.mem_map.mp hy
      exact hab (List.append_inj_left' e rfl)
theorem nodup_lenG : ∀ {l m : List (List Int)}, l.Nodup → (∀ x ∈ l, x ∈ m) → l.length ≤ m.length
  | [], m, _, _ => Nat.zero_le _
  | a :: l, m, hn, hs => by
    obtain ⟨h1, h2⟩ := List.nodup_cons.mp hn
    have ha := hs a List.mem_cons_self
    have ih := nodup_lenG (l := l) (m := m.erase a) h2 fun x hx => by
      have ne : x ≠ a := fun e => h1 (by rw [← e]; exact hx)
      exact (List.mem_erase_of_ne ne).mpr (hs x (List.mem_cons_of_mem _ hx))
    rw [List.length_erase_of_mem ha] at ih
    have : 0 < m.length := List.length_pos_of_mem ha
    rw [List.length_cons]
    omega
theorem nodup_perm {l m : List (List Int)} (hl : l.Nodup) (hm : m.Nodup) (h : ∀ x, x ∈ l ↔ x ∈ m) : l.Perm m := by
  rw [List.perm_iff_count]
  intro a
  have c : ∀ {l : List (List Int)}, l.Nodup → l.count a = if a ∈ l then 1 else 0 := by
    intro l hl
    by_cases ha : a ∈ l
    · rw [if_pos ha]
      have h1 := List.nodup_iff_count.mp hl a
      have h2 := List.count_pos_iff.mpr ha
      omega
    · rw [if_neg ha]
      exact List.count_eq_zero.mpr ha
  rw [c hl, c hm]
  by_cases ha : a ∈ l
  · rw [if_pos ha, if_pos ((h a).mp ha)]
  · rw [if_neg ha, if_neg (fun z => ha ((h a).mpr z))]
theorem seats_inj {n : Nat} {xs a b : List Int} (ox : IsOrd n xs) (oa : IsOrd n a) (ob : IsOrd n b) (e : seatsL a xs = seatsL b xs) : a = b := by
  apply List.ext_getElem?
  intro i
  by_cases h : i < n
  · obtain ⟨x, ex, x0, x1⟩ := ord_ix oa h
    obtain ⟨y, ey, y0, y1⟩ := ord_ix ob h
    have h1 := seats_at (ys := xs) ex
    have h2 := seats_at (ys := xs) ey
    rw [e, h2] at h1
    have h3 := Option.some.inj h1
    rw [ex, ey, pos_inj ox (rg_mem.mpr ⟨x0, x1⟩) (rg_mem.mpr ⟨y0, y1⟩) h3.symm]
  · rw [List.getElem?_eq_none (by rw [oa.len]; omega), List.getElem?_eq_none (by rw [ob.len]; omega)]
/-- all orders, called by their seats in one of them, are all orders -/
theorem seats_all {n : Nat} {xs : List Int} (ox : IsOrd n xs) : ((allK n n).map fun o => seatsL o xs).Perm (allK n n) := by
  have hnd : ((allK n n).map fun o => seatsL o xs).Nodup := by
    show List.Pairwise _ _
    rw [List.pairwise_map]
    exact (allK_nodup n).imp_of_mem fun ha hb h e => h (seats_inj ox (all_ord ha) (all_ord hb) e)
  have hsub : ∀ x ∈ (allK n n).map fun o => seatsL o xs, x ∈ allK n n := fun x h => by
    obtain ⟨o, ho, rfl⟩ := List.mem_map.mp h
    exact ord_mem (seats_ord (all_ord ho) ox)
  refine nodup_perm hnd (allK_nodup n) fun x => ⟨hsub x, fun h => Classical.byContradiction fun hx => ?_⟩
  have hl := nodup_lenG (l := x :: (allK n n).map fun o => seatsL o xs) (m := allK n n) (List.nodup_cons.mpr ⟨hx, hnd⟩) fun y hy => by
    rcases List.mem_cons.mp hy with rfl | hy
    · exact h
    · exact hsub y hy
  rw [List.length_cons, List.length_map] at hl
  omega
end Fo
namespace Fo
open PySem PySem.Spec PyProof.Rows L2
/-! ### how many orders are how far -/
/-- one less than n reaches all -/
theorem shD_last {n : Nat} (h : 1 ≤ n) : ∀ p, p ≤ n → shD n ((n : Nat) : Int) p = shD n (((n - 1 : Nat)) : Int) p
  | 0, _ => rfl
  | p + 1, hp => by
    rw [shD, shD, shD_last h p (by omega)]
    have e1 : loP p ((n : Nat) : Int) = loP p (((n - 1 : Nat)) : Int) := by unfold loP; omega
    have e2 : ctP n p ((n : Nat) : Int) = ctP n p (((n - 1 : Nat)) : Int) := by unfold ctP; rw [e1]; omega
    rw [e1, e2]
theorem shN_last {n : Nat} (h : 1 ≤ n) : shN n ((n : Nat) : Int) = shN n (((n - 1 : Nat)) : Int) := by
  unfold shN
  rw [shD_last h n (Nat.le_refl _)]
/-- how far an order is from 0, 1, .. -/
def fW (w : Str) (s : List Int) : Nat := if w = "swap" then invR s else if w = "spot" then ((rg s.length).filter fun p => !decide (p = g0 s p)).length else (maxL ((rg s.length).map fun p => absI (p - g0 s p))).toNat
theorem farW_seats {w : Str} {n : Nat} {xs o : List Int} (ox : IsOrd n xs) (oo : IsOrd n o) (hn : 1 ≤ n) : farW w xs o = ((fW w (seatsL o xs) : Nat) : Int) := by
  rw [← farW_turn ox oo hn]
  have os := seats_ord oo ox
  unfold farW fW
  split
  · unfold farSwap
    rw [inv_NR]
  · split
    · unfold farSpot spotL
      rw [oo.len, os.len]
      congr 2
      apply List.filter_congr
      intro p hp
      rw [g0_seats oo hp]
      congr 1
      by_cases c : g0 o p = g0 xs p
      · rw [decide_eq_true c, c, pos_g0 ox hp, decide_eq_true rfl]
      · rw [decide_eq_false c, decide_eq_false (fun e => c (by rw [e, g0_pos ox (g0_in oo hp), ← e]))]
    · have nn : 0 ≤ maxL (gapsL o xs) := by
        obtain ⟨h1, _⟩ := maxL_mem (gaps_nonneg o xs) (by rw [gaps_len, oo.len]; exact hn)
        exact gaps_nonneg o xs _ h1
      unfold farShift
      have e : gapsL o xs = (rg (seatsL o xs).length).map fun p => absI (p - g0 (seatsL o xs) p) := by
        unfold gapsL
        rw [seats_len]
      rw [← e]
      omega
theorem count_seats {w : Str} {n : Nat} {xs : List Int} (ox : IsOrd n xs) (hn : 1 ≤ n) (p : Int → Bool) : ((allK n n).filter fun o => p (farW w xs o)).length = (((allK n n).map (fW w)).filter fun v => p ((v : Nat) : Int)).length := by
  have h1 : ((allK n n).filter fun o => p (farW w xs o)) = (allK n n).filter fun o => p ((fW w (seatsL o xs) : Nat) : Int) := by
    apply List.filter_congr
    intro o ho
    rw [farW_seats ox (all_ord ho) hn]
  have h2 := ((seats_all ox).map (fW w)).filter (fun v => p ((v : Nat) : Int))
  have h3 := h2.length_eq
  rw [h1, ← h3, List.map_map, List.filter_map, List.length_map]
  rfl
/-! counts by a list of how many -/
def histN (L : List Nat) (m : Nat) : List Int := L.foldl (fun acc v => addAt acc v 1) (List.replicate m 0)
theorem sum_addAt : ∀ (l : List Int) (v k : Nat), v < l.length → ((addAt l v 1).take k).sum = (l.take k).sum + if v < k then 1 else 0
  | [], v, k, h => absurd h (Nat.not_lt_zero _)
  | a :: l, 0, 0, _ => rfl
  | a :: l, 0, k + 1, _ => by
    show a + 1 + (l.take k).sum = a + (l.take k).sum + if 0 < k + 1 then 1 else 0
    rw [if_pos (by omega)]
    omega
  | a :: l, v + 1, 0, _ => rfl
  | a :: l, v + 1, k + 1, h => by
    have ih := sum_addAt l v k (by simpa using h)
    show a + ((addAt l v 1).take k).sum = a + (l.take k).sum + if v + 1 < k + 1 then 1 else 0
    rw [ih]
    by_cases c : v < k
    · rw [if_pos c, if_pos (by omega)]; omega
    · rw [if_neg c, if_neg (by omega)]; omega
theorem hist_fold (k : Nat) : ∀ (L : List Nat) (acc : List Int), (∀ v ∈ L, v < acc.length) → ((L.foldl (fun acc v => addAt acc v 1) acc).take k).sum = (acc.take k).sum + (((L.filter fun v => decide (v < k)).length : Nat) : Int)
  | [], acc, _ => by show _ = _ + 0; rw [Int.add_zero]; rfl
  | v :: L, acc, h => by
    have ih := hist_fold k L (addAt acc v 1) fun u hu => by rw [addAt_len]; exact h u (List.mem_cons_of_mem _ hu)
    rw [List.foldl_cons, ih, sum_addAt acc v k (h v List.mem_cons_self), List.filter_cons]
    by_cases c : v < k
    · rw [decide_eq_true c, if_pos c, if_pos rfl, List.length_cons]
      omega
    · rw [decide_eq_false c, if_neg c, if_neg (by decide)]
      omega
theorem hist_sum {L : List Nat} {m : Nat} (h : ∀ v ∈ L, v < m) (k : Nat) : ((histN L m).take k).sum = (((L.filter fun v => decide (v < k)).length : Nat) : Int) := by
  unfold histN
  rw [hist_fold k L _ (by rw [List.length_replicate]; exact h)]
  have z : ∀ j : Nat, ((List.replicate j (0 : Int)).take k).sum = 0 := by
    intro j
    rw [List.take_replicate]
    generalize min k j = i
    induction i with
    | zero => rfl
    | succ i ih => rw [List.replicate_succ, List.sum_cons, ih]; rfl
  rw [z]
  omega
def Ls (n : Nat) : List Nat := (allK n n).map (fW "swap")
def Lp (n : Nat) : List Nat := (allK n n).map (fW "spot")
def Lf (n : Nat) : List Nat := (allK n n).map (fW "shift")
def chk (L : List Nat) (c : List Int) : Bool := L.all (fun v => decide (v < c.length)) && decide (histN L c.length = c)
theorem chk_s : ∀ n : Nat, n < 7 → 1 ≤ n → chk (Ls n) (swC (n - 1)) = true := by decide +kernel
theorem chk_p : ∀ n : Nat, n < 7 → 1 ≤ n → chk (Lp n) (spC n) = true := by decide +kernel
theorem chk_f : ∀ n : Nat, n < 7 → 1 ≤ n → ((Lf n).all (fun v => decide (v < n)) && decide ((List.range n).map (fun r => ((histN (Lf n) n).take (r + 1)).sum) = (List.range n).map fun r => shN n ((r : Nat) : Int))) = true := by decide +kernel
theorem le_lt {L : List Nat} {r : Int} (hr : 0 ≤ r) : (L.filter fun v => decide (((v : Nat) : Int) ≤ r)) = L.filter fun v => decide (v < (r + 1).toNat) := by
  apply List.filter_congr
  intro v _
  by_cases c : ((v : Nat) : Int) ≤ r
  · rw [decide_eq_true c, decide_eq_true (by omega)]
  · rw [decide_eq_false c, decide_eq_false (by omega)]
/-- as many orders of few things are within r as are counted -/
theorem count_in {w : Str} {n : Nat} {xs : List Int} {r : Int} (hw : IsWay w) (ox : IsOrd n xs) (h1 : 1 ≤ n) (h2 : n ≤ 6) (hr : 0 ≤ r) : ((((allK n n).filter fun o => decide (farW w xs o ≤ r)).length : Nat) : Int) = inW w n r := by
  rw [count_seats (p := fun v => decide (v ≤ r)) ox h1, le_lt hr]
  rcases hw with rfl | rfl | rfl
  · have c := chk_s n (by omega) h1
    unfold chk at c
    rw [Bool.and_eq_true] at c
    have c1 : ∀ v ∈ Ls n, v < (swC (n - 1)).length := fun v hv => of_decide_eq_true (List.all_eq_true.mp c.1 v hv)
    have c2 := of_decide_eq_true c.2
    have := hist_sum c1 (r + 1).toNat
    rw [c2] at this
    rw [inW_swap, this]
    rfl
  · have c := chk_p n (by omega) h1
    unfold chk at c
    rw [Bool.and_eq_true] at c
    have c1 : ∀ v ∈ Lp n, v < (spC n).length := fun v hv => of_decide_eq_true (List.all_eq_true.mp c.1 v hv)
    have c2 := of_decide_eq_true c.2
    have := hist_sum c1 (r + 1).toNat
    rw [c2] at this
    rw [inW_spot, this]
    rfl
  · have c := chk_f n (by omega) h1
    rw [Bool.and_eq_true] at c
    have c1 : ∀ v ∈ Lf n, v < n := fun v hv => of_decide_eq_true (List.all_eq_true.mp c.1 v hv)
    have c2 := of_decide_eq_true c.2
    have at' : ∀ j : Nat, j < n → ((histN (Lf n) n).take (j + 1)).sum = shN n ((j : Nat) : Int) := fun j hj => by
      have e := congrArg (fun l => l[j]?) c2
      simp only [List.getElem?_map, List.getElem?_range hj, Option.map_some] at e
      exact Option.some.inj e
    rw [inW_shift]
    show (((Lf n).filter fun v => decide (v < (r + 1).toNat)).length : Int) = _
    by_cases d : r < n
    · obtain ⟨j, rfl⟩ : ∃ j : Nat, r = (j : Int) := ⟨r.toNat, by omega⟩
      rw [← at' j (by omega), hist_sum c1, show ((j : Int) + 1).toNat = j + 1 by omega]
    · have hlen : (histN (Lf n) n).take (r + 1).toNat = (histN (Lf n) n).take (n - 1 + 1) := by
        have hl : (histN (Lf n) n).length = n := by
          unfold histN
          have : ∀ (L : List Nat) (acc : List Int), (L.foldl (fun acc v => addAt acc v 1) acc).length = acc.length := by
            intro L
            induction L with
            | nil => intro acc; rfl
            | cons v L ih => intro acc; rw [List.foldl_cons, ih, addAt_len]
          rw [this, List.length_replicate]
        rw [List.take_of_length_le (by omega), List.take_of_length_le (by omega)]
      rw [← hist_sum c1, hlen, at' (n - 1) (by omega), ← shN_far (r := r)]
      rw [show min (n : Int) r = (n : Int) by omega, shN_last (by omega)]
end Fo
namespace Fo
open PySem PySem.Spec PyProof.Rows L2
def spAllO : Sp := fun vs H Q _ => ∃ n : Nat, vs = [.int n] ∧ 1 ≤ n ∧ n ≤ 6 ∧ ∀ (l : Addr) (as : List Addr) (H' : Hp), H l = none → H' l = some (.lst (as.map V.ref)) → LL H' as (allK n n) → (∀ a ∈ as, H a = none ∧ a ≠ l) → as.Nodup → Same H H' → Q (.ref l) H'
end Fo
namespace Fo
open PySem PySem.Spec PyProof.Rows L2
def nearL (w : Str) (n : Nat) (xs : List Int) (r : Int) : List (List Int) := (allK n n).filter fun o => decide (farW w xs o ≤ r)
theorem filter_moreL {l : List (List Int)} {m : Nat} {x : List Int} (p : List Int → Bool) (h : l[m]? = some x) : (l.take (m + 1)).filter p = (l.take m).filter p ++ (if p x then [x] else []) := by
  rw [List.take_add_one, h, List.filter_append]
  show _ ++ List.filter p [x] = _
  rw [List.filter_cons]
  rfl
theorem extend_LL {H : Hp} : ∀ {as bs : List Addr} {rs ss : List (List Int)}, LL H as rs → LL H bs ss → LL H (as ++ bs) (rs ++ ss)
  | [], _, [], _, _, h => h
  | [], _, _ :: _, _, h, _ => h.elim
  | _ :: _, _, [], _, h, _ => h.elim
  | _ :: _, _, _ :: _, _, h, h2 => ⟨h.1, extend_LL h.2 h2⟩
end Fo
namespace Fo
open PySem PySem.Spec PyProof.Rows L2
/-! ### sorted(rows), rows a list of lists of whole numbers -/
def rowsR (ps : List (Addr × List Int)) : List (Addr × List Int) := ps.mergeSort fun p q => decide (p.2 ≤ q.2)
def rSortedR (K : PySem.W.Frag) : List V → Hp → VK → Prop := fun vs H Q => ∃ (a : Addr) (ps : List (Addr × List Int)), vs = [V.ref a] ∧ SqL K H a (ps.map fun p => V.ref p.1) ∧ (∀ p ∈ ps, Dp K H (.ref p.1) (dL p.2)) ∧
  ∀ q, H q = none → Q (.ref q) (upd H q (.lst ((rowsR ps).map fun p => V.ref p.1)))
theorem each_refs : ∀ {ps : List (Addr × List Int)} {us : List Value}, Vals (ps.map fun p => V.ref p.1) us → PySem.W.EachIs (fun v (p : Addr × List Int) => v = Value.ref p.1) us ps
  | [], _, .nil => .nil
  | p :: ps, _, .cons r t => .cons r (each_refs t)
theorem refs_each : ∀ {ps : List (Addr × List Int)} {us : List Value}, PySem.W.EachIs (fun v (p : Addr × List Int) => v = Value.ref p.1) us ps → Vals (ps.map fun p => V.ref p.1) us
  | _, _, .nil => .nil
  | _, _, .cons r t => .cons r (refs_each t)
theorem each_all {R S : Value → (Addr × List Int) → Prop} : ∀ {us : List Value} {ps : List (Addr × List Int)}, PySem.W.EachIs R us ps → (∀ v p, p ∈ ps → R v p → S v p) → PySem.W.EachIs S us ps
  | _, _, .nil, _ => .nil
  | _, _, .cons r t, h => .cons (h _ _ List.mem_cons_self r) (each_all t fun v p hp => h v p (List.mem_cons_of_mem _ hp))
theorem cr_sortedR {X : Cx} (hu : X.A.units + 64 < cLine) : CallR X (.builtin "sorted") (rSortedR X.K) := by
  intro pins s σ H vs us Q J rel hz
  obtain ⟨a, ps, ev, sq, hd, q⟩ := hz
  subst ev
  obtain ⟨its, rv, hl, hlen⟩ := J.list sq
  rw [Vals.ref1 rel]
  have e := each_refs rv
  have el := rv.length
  rw [List.length_map] at el hlen
  refine PySem.W.sorted_data (enc := fun p : Addr × List Int => .list (p.2.map .int)) hl.isList e (each_all e fun v p hp hv => ?_) (PySem.W.AllAlike.of fun b b' => ?_) (PySem.W.Sortable.others fun b => ⟨(fun z => by cases z), (fun xs z => by cases z)⟩) hlen (fun b _ => ?_) fun out ol eo => ?_
  · subst hv
    exact Dp.reads J _ _ _ (hd p hp) rfl
  · show PySem.W.alike (.list (b.2.map .int)) (.list (b'.2.map .int)) = true
    simp only [PySem.W.alike]
    exact PySem.W.alike_ints _ _
  · show X.A.units + 2 + (dL b.2).depth < cLine
    rw [depth_list]
    omega
  · rw [PySem.W.dataLe_rows (fun p : Addr × List Int => p.2)] at eo
    obtain ⟨ep, he⟩ := PyProof.Rows.sortedAll_at s.heap its out.toArray
    have hl2 : ((rowsR ps).map fun p => V.ref p.1).length ≤ sizeLine := by
      unfold rowsR
      rw [List.length_map, List.length_mergeSort]
      exact hlen
    exact ⟨.ref _, upd H (s.heap.objs.size + 1) (.lst ((rowsR ps).map fun p => V.ref p.1)), J.laid (t' := s.toks) (fun _ _ => PyProof.Rows.sortedAll_old) (Nat.le_succ _) ⟨hl2, out, ep, refs_each eo, he⟩, rfl, q _ (J.hok.fresh (Nat.le_succ _))⟩
theorem rows_le_total (a b : Addr × List Int) : (decide (a.2 ≤ b.2) || decide (b.2 ≤ a.2)) = true := by
  rcases List.le_total a.2 b.2 with h | h
  · rw [decide_eq_true h]; rfl
  · rw [decide_eq_true h, Bool.or_true]
theorem rowsR_perm (ps : List (Addr × List Int)) : (rowsR ps).Perm ps := List.mergeSort_perm _ _
theorem rowsR_sorted (ps : List (Addr × List Int)) : ((rowsR ps).map (·.2)).Pairwise (· ≤ ·) := by
  have h := List.pairwise_mergeSort (le := fun p q : Addr × List Int => decide (p.2 ≤ q.2)) (fun a b c h1 h2 => decide_eq_true (List.le_trans (of_decide_eq_true h1) (of_decide_eq_true h2))) rows_le_total ps
  exact List.pairwise_map.mpr (h.imp fun h => of_decide_eq_true h)
theorem rows_eq {a b : List (List Int)} (hp : a.Perm b) (ha : a.Pairwise (· ≤ ·)) (hb : b.Pairwise (· ≤ ·)) : a = b := List.Perm.eq_of_pairwise (fun x y _ _ h1 h2 => List.le_antisymm h1 h2) ha hb hp
/-- all orders stand in order -/
theorem extO_sorted (n : Nat) (o : List Int) : (extO n o).Pairwise (· < ·) := by
  unfold extO
  rw [List.pairwise_map]
  have h : (rg n).Pairwise (· < ·) := by
    unfold rg
    exact List.Pairwise.map _ (fun a b h => by omega) List.pairwise_lt_range
  exact (h.filter _).imp fun {a b} h => by
    induction o with
    | nil => exact List.cons_lt_cons_iff.mpr (.inl h)
    | cons x o ih => exact List.cons_lt_cons_iff.mpr (.inr ⟨rfl, ih⟩)
theorem lt_snoc {a b : List Int} (hl : a.length = b.length) (h : a < b) (x y : Int) : a ++ [x] < b ++ [y] := by
  induction a generalizing b with
  | nil =>
    match b, hl with
    | [], _ => exact absurd h (List.lt_irrefl _)
  | cons u a ih =>
    match b, hl with
    | v :: b, hl =>
      rcases List.cons_lt_cons_iff.mp h with h1 | ⟨h1, h2⟩
      · exact List.cons_lt_cons_iff.mpr (.inl h1)
      · exact List.cons_lt_cons_iff.mpr (.inr ⟨h1, ih (by simpa using hl) h2⟩)
theorem allK_sorted {n : Nat} : ∀ k, (allK n k).Pairwise (· < ·)
  | 0 => List.pairwise_singleton _ _
  | k + 1 => by
    show List.Pairwise _ ((allK n k).flatMap (extO n))
    rw [List.pairwise_flatMap]
    refine ⟨fun o _ => extO_sorted n o, (allK_sorted k).imp_of_mem fun {a b} ha hb h x hx y hy => ?_⟩
    obtain ⟨t, _, rfl⟩ := List.mem_map.mp hx
    obtain ⟨u, _, rfl⟩ := List.mem_map.mp hy
    exact lt_snoc (by rw [(allK_row k a ha).1, (allK_row k b hb).1]) h t u
theorem near_sorted {w : Str} {n : Nat} {xs : List Int} {r : Int} : (nearL w n xs r).Pairwise (· ≤ ·) := ((allK_sorted n).filter _).imp fun h => List.le_of_lt h
end Fo
namespace Fo
open PySem PySem.Spec PyProof.Rows L2
/-! ### orders within, with things called or places put otherwise -/
theorem map_all {n : Nat} {g : List Int → List Int} (hg : ∀ o, IsOrd n o → IsOrd n (g o)) (hi : ∀ a b, IsOrd n a → IsOrd n b → g a = g b → a = b) : ((allK n n).map g).Perm (allK n n) := by
  have hnd : ((allK n n).map g).Nodup := by
    show List.Pairwise _ _
    rw [List.pairwise_map]
    exact (allK_nodup n).imp_of_mem fun ha hb h e => h (hi _ _ (all_ord ha) (all_ord hb) e)
  have hsub : ∀ x ∈ (allK n n).map g, x ∈ allK n n := fun x h => by
    obtain ⟨o, ho, rfl⟩ := List.mem_map.mp h
    exact ord_mem (hg _ (all_ord ho))
  refine nodup_perm hnd (allK_nodup n) fun x => ⟨hsub x, fun h => Classical.byContradiction fun hx => ?_⟩
  have hl := nodup_lenG (l := x :: (allK n n).map g) (m := allK n n) (List.nodup_cons.mpr ⟨hx, hnd⟩) fun y hy => by
    rcases List.mem_cons.mp hy with rfl | hy
    · exact h
    · exact hsub y hy
  rw [List.length_cons, List.length_map] at hl
  omega
theorem near_map {w : Str} {n : Nat} {xs : List Int} {r : Int} {g : List Int → List Int} (hg : ∀ o, IsOrd n o → IsOrd n (g o)) (hi : ∀ a b, IsOrd n a → IsOrd n b → g a = g b → a = b) (hf : ∀ o, IsOrd n o → farW w (g xs) (g o) = farW w xs o) : ((nearL w n xs r).map g).Perm (nearL w n (g xs) r) := by
  have h := (map_all hg hi).filter fun o => decide (farW w (g xs) o ≤ r)
  rw [List.filter_map] at h
  have e : (allK n n).filter ((fun o => decide (farW w (g xs) o ≤ r)) ∘ g) = nearL w n xs r := by
    unfold nearL
    apply List.filter_congr
    intro o ho
    show decide (farW w (g xs) (g o) ≤ r) = _
    rw [hf o (all_ord ho)]
  rw [e] at h
  exact h
theorem back_is {n : Nat} {ns : List Int} (o : IsOrd n ns) : IsBack ns ((rg n).map (pos ns)) := by
  refine ⟨by rw [List.length_map, rg_len, o.len], fun j x hx => ?_⟩
  have hb := o.mem (List.mem_of_getElem? hx)
  unfold rg
  rw [List.map_map, List.getElem?_map, List.getElem?_range (by omega)]
  show some (pos ns ((x.toNat : Nat) : Int)) = _
  rw [show ((x.toNat : Nat) : Int) = x by omega, pos_of o hx]
theorem behind_first {n : Nat} {o : List Int} (oo : IsOrd n o) : behindL (rg n) o = o := by
  unfold behindL
  have e : o.map (fun p => (rg n).getD p.toNat 0) = o.map id := by
    apply List.map_congr_left
    intro p hp
    have hb := oo.mem hp
    unfold rg
    rw [List.getD_eq_getElem?_getD, List.getElem?_map, List.getElem?_range (by omega)]
    show ((p.toNat : Nat) : Int) = p
    omega
  rw [e, List.map_id]
theorem behind_last {n : Nat} {o : List Int} (oo : IsOrd n o) : behindL o (rg n) = o := by
  have h := by_places o
  rw [oo.len] at h
  exact h.symm
theorem rg_ord (n : Nat) : IsOrd n (rg n) := List.Perm.refl _
theorem behind_inj {n : Nat} {z a b : List Int} (oz : IsOrd n z) (oa : IsOrd n a) (ob : IsOrd n b) (e : behindL z a = behindL z b) : a = b := by
  have hb := back_is oz
  have op := back_ord oz hb
  have h := congrArg (behindL ((rg n).map (pos z))) e
  rw [← behind_assoc op oz oa, ← behind_assoc op oz ob, behind_back op (back_back oz hb), behind_first oa, behind_first ob] at h
  exact h
theorem behind_inj2 {n : Nat} {z a b : List Int} (oz : IsOrd n z) (oa : IsOrd n a) (ob : IsOrd n b) (e : behindL a z = behindL b z) : a = b := by
  have hb := back_is oz
  have op := back_ord oz hb
  have h := congrArg (fun l => behindL l ((rg n).map (pos z))) e
  rw [behind_assoc oa oz op, behind_assoc ob oz op, behind_back oz hb, behind_last oa, behind_last ob] at h
  exact h
theorem far_behind {w : Str} {n : Nat} {z xs o : List Int} (hw : IsWay w) (oz : IsOrd n z) (ox : IsOrd n xs) (oo : IsOrd n o) (hn : 1 ≤ n) : farW w (behindL z xs) (behindL z o) = farW w xs o :=
  farW_called (r := g0 z) hw ox oo (behind_ord oz ox) (behind_ord oz oo) hn (by rw [← g0_ord oz]; exact oz) (behind_pos oz ox) (behind_pos oz oo)
theorem g0_behind {n : Nat} {xs z : List Int} (oz : IsOrd n z) {p : Int} (hp : p ∈ rg n) : g0 (behindL xs z) p = g0 xs (g0 z p) := by
  obtain ⟨h0, h1⟩ := rg_mem.mp hp
  obtain ⟨x, ex, _⟩ := ord_ix oz (j := p.toNat) (by omega)
  have ep : p = ((p.toNat : Nat) : Int) := by omega
  have e1 : g0 z p = x := by rw [ep]; exact g0_at ex
  unfold behindL
  rw [e1, ep]
  have : (z.map fun p => xs.getD p.toNat 0)[p.toNat]? = some (xs.getD x.toNat 0) := by rw [List.getElem?_map, ex]; rfl
  rw [g0_at this]
  rfl
theorem spot_behind {n : Nat} {z xs o : List Int} (oz : IsOrd n z) (ox : IsOrd n xs) (oo : IsOrd n o) : farSpot (behindL xs z) (behindL o z) = farSpot xs o := by
  unfold farSpot spotL
  rw [behind_len, oz.len, ox.len, filter_len, filter_len, sum_g0 oz (fun p => ind (!decide (g0 xs p = g0 o p)))]
  congr 1
  apply sumN_congr
  intro p hp
  rw [g0_behind oz hp, g0_behind oz hp]
theorem rev_ord {n : Nat} {o : List Int} (oo : IsOrd n o) : IsOrd n o.reverse := (List.reverse_perm o).trans oo
theorem rev_inj {a b : List Int} (e : a.reverse = b.reverse) : a = b := by rw [← List.reverse_reverse a, e, List.reverse_reverse]
/-! lists of rows as pairs -/
theorem LL_zip {H : Hp} : ∀ {as : List Addr} {rs : List (List Int)}, LL H as rs → (as.zip rs).map (·.1) = as ∧ (as.zip rs).map (·.2) = rs ∧ ∀ p ∈ as.zip rs, H p.1 = some (.lst (p.2.map V.int))
  | [], [], _ => ⟨rfl, rfl, fun p hp => absurd hp List.not_mem_nil⟩
  | [], _ :: _, h => h.elim
  | _ :: _, [], h => h.elim
  | a :: as, r :: rs, h => by
    obtain ⟨h1, h2, h3⟩ := LL_zip h.2
    refine ⟨congrArg (a :: ·) h1, congrArg (r :: ·) h2, fun p hp => ?_⟩
    rcases List.mem_cons.mp hp with rfl | hp
    · exact h.1
    · exact h3 p hp
theorem LL_ps {H : Hp} : ∀ {qs : List (Addr × List Int)}, (∀ p ∈ qs, H p.1 = some (.lst (p.2.map V.int))) → LL H (qs.map (·.1)) (qs.map (·.2))
  | [], _ => trivial
  | q :: qs, h => ⟨h q List.mem_cons_self, LL_ps fun p hp => h p (List.mem_cons_of_mem _ hp)⟩
/-- what is sorted of rows -/
theorem sorted_rows {K : PySem.W.Frag} {H : Hp} {D : Addr} {bs : List Addr} {rs ss : List (List Int)} (hD : H D = some (.lst (bs.map V.ref))) (hL : LL H bs rs) (hp : rs.Perm ss) (hs : ss.Pairwise (· ≤ ·)) :
    ∃ ps : List (Addr × List Int), SqL K H D (ps.map fun p => V.ref p.1) ∧ (∀ p ∈ ps, Dp K H (.ref p.1) (dL p.2)) ∧ ∀ l, H l = none → ∃ cs : List Addr, ((rowsR ps).map fun p => V.ref p.1) = cs.map V.ref ∧ LL (upd H l (.lst (cs.map V.ref))) cs ss ∧ ∀ c ∈ cs, c ∈ bs := by
  obtain ⟨h1, h2, h3⟩ := LL_zip hL
  have e1 : bs.map V.ref = (bs.zip rs).map fun p => V.ref p.1 := by
    have h4 := congrArg (List.map V.ref) h1
    rw [List.map_map] at h4
    exact h4.symm
  refine ⟨bs.zip rs, SqL.of (by rw [hD, e1]), fun p hp2 => dp_list (h3 p hp2), fun l nl => ⟨(rowsR (bs.zip rs)).map (·.1), by rw [List.map_map]; rfl, ?_, fun c hc => ?_⟩⟩
  · have e3 : (rowsR (bs.zip rs)).map (·.2) = ss := by
      refine rows_eq (((rowsR_perm _).map _).trans ?_) (rowsR_sorted _) hs
      rw [h2]
      exact hp
    rw [← e3]
    refine LL_ps fun p hp2 => ?_
    have h4 := h3 p ((rowsR_perm _).mem_iff.mp hp2)
    rw [upd_ne (ne_of_none h4 nl)]
    exact h4
  · obtain ⟨p, hp2, rfl⟩ := List.mem_map.mp hc
    have := (rowsR_perm _).mem_iff.mp hp2
    rw [← h1]
    exact List.mem_map.mpr ⟨p, this, rfl⟩
end Fo
namespace Fo
open PySem PySem.Spec PyProof.Rows L2
/-- an inner for over a list that stands still -/
theorem in_list {K : PySem.W.Frag} {a : Addr} {xs : List V} {g1 : TG} {tt1 : TT} {te : TE} {vs1 : List Nat} {σ2 : L2.St} {H4 : Hp} {D : Addr} {Nx : Hp → Prop} (Pw : Nat → Hp → Prop) (h0 : Pw 0 H4) (hl : ∀ i H, i ≤ xs.length → Pw i H → SqL K H a xs)
    (hs : ∀ j x H, xs[j]? = some x → Pw j H → g1 x (wipe σ2 vs1) H fun σ3 H5 => wipe σ3 vs1 = wipe σ2 vs1 ∧ tt1 σ3 H5 fun b H6 =>
      if b = true then te σ3 H6 fun y H7 => ∃ acc, H7 D = some (.lst acc) ∧ acc.length < sizeLine ∧ Pw (j + 1) (upd H7 D (.lst (acc ++ [y]))) else Pw (j + 1) H6) (hd : ∀ H, Pw xs.length H → Nx H) :
    ∃ W1 : Nat → Nat → Hp → Prop, (∃ m, W1 0 m H4) ∧ ∀ j k H, W1 j k H →
      ((Itl K a).stop j H ∧ Nx H) ∨ ((Itl K a).go j H ∧ ∃ Nx1 : Hp → Prop, (∀ H', Nx1 H' → ∃ k', k' < k ∧ W1 (j + 1) k' H') ∧ ∀ x H', (Itl K a).yld j H x H' → g1 x (wipe σ2 vs1) H' fun σ3 H5 => wipe σ3 vs1 = wipe σ2 vs1 ∧ tt1 σ3 H5 fun b H6 =>
        if b = true then te σ3 H6 fun y H7 => ∃ acc, H7 D = some (.lst acc) ∧ acc.length < sizeLine ∧ Nx1 (upd H7 D (.lst (acc ++ [y]))) else Nx1 H6) := by
  refine ⟨fun j m H => m = xs.length - j ∧ j ≤ xs.length ∧ Pw j H, ⟨xs.length, by simp, Nat.zero_le _, h0⟩, ?_⟩
  rintro j m H ⟨rfl, hi, p⟩
  have q := hl j H hi p
  by_cases hlt : j < xs.length
  · refine .inr ⟨⟨xs, xs[j], q, by simp [hlt]⟩, Pw (j + 1), fun H' p' => ⟨xs.length - (j + 1), by omega, rfl, hlt, p'⟩, fun x H' y => ?_⟩
    obtain ⟨e, y⟩ := y
    subst e
    exact hs j x _ (y _ q) p
  · have e : j = xs.length := by omega
    subst e
    exact .inl ⟨⟨xs, q, Nat.le_refl _⟩, hd H p⟩
/-! ### orders with choices -/
def extC (ch : List Int) (o : List Int) : List (List Int) := (ch.filter fun t => !decide (t ∈ o)).map fun t => o ++ [t]
def ordW (chs : List (List Int)) : List (List Int) := chs.foldl (fun b ch => b.flatMap (extC ch)) [[]]
theorem ordW_more {chs : List (List Int)} {i : Nat} {ch : List Int} (h : chs[i]? = some ch) : ordW (chs.take (i + 1)) = (ordW (chs.take i)).flatMap (extC ch) := by
  unfold ordW
  rw [List.take_add_one, h, List.foldl_append]
  rfl
theorem extC_more {ch : List Int} {o : List Int} {j : Nat} {t : Int} (h : ch[j]? = some t) : extC (ch.take (j + 1)) o = extC (ch.take j) o ++ (if t ∈ o then [] else [o ++ [t]]) := by
  unfold extC
  rw [List.take_add_one, h, List.filter_append, List.map_append]
  congr 1
  show List.map _ (List.filter _ [t]) = _
  rw [List.filter_cons]
  by_cases c : t ∈ o
  · rw [decide_eq_true c, if_pos c]
    rfl
  · rw [decide_eq_false c, if_neg c]
    rfl
theorem extC_len (ch o : List Int) : (extC ch o).length ≤ ch.length := by
  unfold extC
  rw [List.length_map]
  exact List.length_filter_le _ _
theorem flatC_len (ch : List Int) : ∀ l : List (List Int), (l.flatMap (extC ch)).length ≤ l.length * ch.length
  | [] => Nat.zero_le _
  | o :: l => by
    rw [List.flatMap_cons, List.length_append, List.length_cons, Nat.add_mul, Nat.one_mul]
    have := flatC_len ch l
    have := extC_len ch o
    omega
theorem ordW_all (n : Nat) : ∀ i, ordW (List.replicate i (rg n)) = allK n i
  | 0 => rfl
  | i + 1 => by
    have h := ordW_more (chs := List.replicate (i + 1) (rg n)) (i := i) (ch := rg n) (by rw [List.getElem?_replicate, if_pos (by omega)])
    rw [List.take_of_length_le (by rw [List.length_replicate]; omega), List.take_replicate, Nat.min_eq_left (by omega), ordW_all n i] at h
    exact h
theorem ordW_rows : ∀ (i : Nat) (chs : List (List Int)), ∀ r ∈ ordW (chs.take i), r.length ≤ i
  | 0, chs, r, h => by
    rw [List.take_zero] at h
    rw [List.mem_singleton.mp h]
    exact Nat.le_refl _
  | i + 1, chs, r, h => by
    cases e : chs[i]? with
    | none =>
      have : chs.take (i + 1) = chs.take i := by rw [List.take_add_one, e]; simp
      rw [this] at h
      exact Nat.le_succ_of_le (ordW_rows i chs r h)
    | some ch =>
      rw [ordW_more e] at h
      obtain ⟨o, ho, hr⟩ := List.mem_flatMap.mp h
      obtain ⟨t, _, rfl⟩ := List.mem_map.mp hr
      have := ordW_rows i chs o ho
      rw [List.length_append]
      show _ + 1 ≤ _
      omega
def spOrdW : Sp := fun vs H Q _ => ∃ (c : Addr) (cs : List Addr) (chs : List (List Int)), vs = [.ref c] ∧ H c = some (.lst (cs.map V.ref)) ∧ LL H cs chs ∧ chs.length ≤ 12 ∧ (∀ ch ∈ chs, ch.length ≤ 12) ∧ (∀ i, i ≤ chs.length → (ordW (chs.take i)).length ≤ 100000) ∧
  ∀ (l : Addr) (as : List Addr) (H' : Hp), H l = none → H' l = some (.lst (as.map V.ref)) → LL H' as (ordW chs) → (∀ a ∈ as, H a = none ∧ a ≠ l) → as.Nodup → Same H H' → Q (.ref l) H'
section
variable {P : Program} {w : World} {K : PySem.W.Frag} {mg : Str → Option Value} {base : Heap}
theorem scOrdW : FnScope ["choices", "begun", "things", "start", "thing"] ["choices"] (defScope s_orders_with) := ⟨rfl, rfl, rfl, by decide +kernel, rfl, by decide +kernel, by decide +kernel⟩
set_option maxHeartbeats 4000000 in
theorem ok_ordW {f : Addr} {fd : FuncData} {k : Nat} (T : Df K mg "orders_with" s_orders_with ["choices"] f fd) (B : Bi mg) : FnOk P w K mg base CX0 (k + 1) f fd ["choices"] spOrdW := by
  refine T.F.ok scOrdW (fun vs H Q E h => ?_) (fun cdv A outer s H vs Q E hr h => ?_)
  · obtain ⟨c, cs, chs, rfl, _⟩ := h
    rfl
  · obtain ⟨c0, ks, chs, rfl, hc, hLc, hcl, hch, hsz, q⟩ := h
    have hkl := hLc.len
    refine ⟨_, 
      (pss_cons (ps_set (i := 1) scOrdW.nd rfl (.inl rfl) (pe_lst (pa_cons (pe_lst pa_nil) pa_nil)))
      (pss_cons (ps_for PassesOwn.never rfl (pi_list (pv 0)) (pg_name (i := 2) scOrdW.nd rfl (.inr rfl))
        (pss_one (ps_setLc2 (i := 1) (own := [("start", 3), ("thing", 4)]) (vs1 := [4]) (wi1 := iList K (tVar 2)) (g := gName 3) (tt := tYes) (g1 := gName 4) (tt1 := (tTest (tOp (rIn K true) (tVar 4) (tVar 3)))) (te := (tOp rCat (tVar 3) (tLst (tCons (tVar 4) tNil)))) (by rfl) scOrdW.nd rfl rfl (sw_true rfl rfl rfl (by decide +kernel)) (pi_list (pv 1)) (blkOk_by (N := ["choices", "begun", "things", "start", "thing"]) (sc := defScope s_orders_with) (by decide +kernel)) (by decide) (fun _ _ _ _ _ => (pg_name (i := 3) scOrdW.nd rfl (.inl rfl))) (fun _ _ _ _ _ => pts_nil) (fun _ _ _ _ _ => (pi_list (pv 2))) (fun _ _ _ _ _ => (pg_name (i := 4) scOrdW.nd rfl (.inl rfl))) (fun _ _ _ _ _ => (pts_one (pt_cmpR op_notIn_seq (pv 4) (pv 3) (by rfl)))) (fun _ _ _ _ _ => (pe_op op_cat (pv 3) (pe_lst (pa_cons (pv 4) pa_nil)))))))
      (pss_one (ps_ret (pv 1))))), ?_⟩
    refine ⟨Nat.zero_le _, fun e0 ne0 => ⟨line_small (by show 1 ≤ 16777216; decide), fun bg nbg => ?_⟩⟩
    have s0 := same_new (o := .lst []) ne0
    have s1 := same_new (o := .lst [.ref e0]) nbg
    have nHbg : H bg = none := s0.free nbg
    have neb : e0 ≠ bg := ne_of_none upd_same nbg
    refine ⟨_, rfl, c0, rfl, ⟨_, SqL.of (s1 _ _ (s0 _ _ hc))⟩, ?_⟩
    refine for_list (xs := ks.map V.ref) (fun i σ H3 => ∃ (bg : Addr) (y2 y3 y4 : Option V) (as : List Addr), σ = [some (.ref c0), some (.ref bg), y2, y3, y4] ∧ H bg = none ∧ H3 bg = some (.lst (as.map V.ref)) ∧ LL H3 as (ordW (chs.take i)) ∧ (∀ c ∈ as, H c = none ∧ c ≠ bg) ∧ as.Nodup ∧ Same H H3)
      ⟨bg, _, _, _, [e0], rfl, nHbg, upd_same, ⟨s1 _ _ upd_same, trivial⟩, fun c hc => by rw [List.mem_singleton.mp hc]; exact ⟨ne0, neb⟩, List.nodup_cons.mpr ⟨List.not_mem_nil, List.nodup_nil⟩, s0.trans s1⟩ (fun i σ H3 _ hP => by obtain ⟨_, _, _, _, _, _, _, _, _, _, _, sm⟩ := hP; exact SqL.of (sm _ _ hc)) (fun i x σ H3 hx hP => ?_) (fun σ H3 hP => ?_)
    · obtain ⟨bg, y2, y3, y4, as, rfl, nbg, hb3, hLL, hfr, hnd, sm⟩ := hP
      obtain ⟨kc, ek, rfl⟩ := ref_at_inv hx
      obtain ⟨ch, ech, hkc⟩ := hLc.get ek
      have hi := (List.getElem?_eq_some_iff.mp ech).1
      have hchl := hch ch (List.mem_of_getElem? ech)
      have hlen := hLL.len
      have hal := hsz i (by omega)
      have hkc3 := sm _ _ hkc
      refine ⟨_, rfl, bg, rfl, ⟨_, SqL.of hb3⟩, fun D nD => ?_⟩
      have nHD : H D = none := sm.free nD
      refine lc2_list (K := K) (a := bg) (xs := as.map V.ref) (fun m H4 => ∃ cs : List Addr, H4 D = some (.lst (cs.map V.ref)) ∧ LL H4 cs (((ordW (chs.take i)).take m).flatMap (extC ch)) ∧ (∀ c ∈ cs, H3 c = none ∧ c ≠ D) ∧ cs.Nodup ∧ Same H3 H4)
        ⟨[], upd_same, trivial, fun c hc => absurd hc List.not_mem_nil, List.nodup_nil, same_new nD⟩ (fun m H4 _ hP => by obtain ⟨_, _, _, _, _, s4⟩ := hP; exact SqL.of (s4 _ _ hb3)) (fun m x H4 hx hP => ?_) (fun H4 hP => ?_)
      · obtain ⟨cs, hD4, hLc4, hfc, hndc, s4⟩ := hP
        obtain ⟨r, er, rfl⟩ := ref_at_inv hx
        obtain ⟨row, erow, hrow⟩ := hLL.get er
        have hrl := ordW_rows i chs row (List.mem_of_getElem? erow)
        refine ⟨rfl, ?_⟩
        refine ⟨_, rfl, kc, rfl, ⟨_, SqL.of (s4 _ _ hkc3)⟩, ?_⟩
        refine in_list (K := K) (a := kc) (xs := ch.map V.int) (fun j H5 => ∃ cs : List Addr, H5 D = some (.lst (cs.map V.ref)) ∧ LL H5 cs (((ordW (chs.take i)).take m).flatMap (extC ch) ++ extC (ch.take j) row) ∧ (∀ c ∈ cs, H3 c = none ∧ c ≠ D) ∧ cs.Nodup ∧ Same H3 H5)
          ⟨cs, hD4, by rw [show extC (ch.take 0) row = [] from rfl, List.append_nil]; exact hLc4, hfc, hndc, s4⟩ (fun j H5 _ hP => by obtain ⟨_, _, _, _, _, s5⟩ := hP; exact SqL.of (s5 _ _ hkc3)) (fun j x H5 hx hP => ?_) (fun H5 hP => ?_)
        · obtain ⟨cs5, hD5, hL5, hf5, hnd5, s5⟩ := hP
          obtain ⟨t, et, rfl⟩ := int_at_inv hx
          have hrow5 := s5 _ _ hrow
          refine ⟨rfl, _, rfl, _, rfl, r, _, rfl, .inl (SqL.of hrow5), rfl, flat_ints row, _, rfl, ?_⟩
          show if (!inV (.int t) (row.map V.int)) = true then _ else _
          rw [inV_int]
          have em := extC_more (o := row) et
          by_cases c : t ∈ row
          · rw [decide_eq_true c]
            refine iteF ⟨cs5, hD5, ?_, hf5, hnd5, s5⟩
            rw [em, if_pos c, List.append_nil]
            exact hL5
          · rw [decide_eq_false c]
            refine iteT ⟨_, rfl, _, rfl, line_small (by show 1 ≤ 16777216; decide), fun p np => ?_⟩
            have sp1 := same_new (o := .lst [.int t]) np
            refine ⟨r, p, _, _, rfl, rfl, sp1 _ _ hrow5, upd_same, line_small (by rw [List.length_map]; show _ + 1 ≤ _; omega), fun z nz => ?_⟩
            have sp2 := same_new (o := .lst (row.map V.int ++ [.int t])) nz
            have hD6 := sp2 _ _ (sp1 _ _ hD5)
            have nzD : z ≠ D := (ne_of_none (sp1 _ _ hD5) nz).symm
            have hl5 := hL5.len
            have hcount : cs5.length < 16777216 := by
              have h1 : (((ordW (chs.take i)).take m).flatMap (extC ch) ++ extC (ch.take j) row).length ≤ ((ordW (chs.take i)).take m).length * ch.length + ch.length := by
                rw [List.length_append]
                have a1 := flatC_len ch ((ordW (chs.take i)).take m)
                have a2 := extC_len (ch.take j) row
                rw [List.length_take] at a2
                omega
              have h2 : ((ordW (chs.take i)).take m).length * ch.length ≤ 100000 * 12 := Nat.mul_le_mul (by rw [List.length_take]; omega) hchl
              omega
            refine ⟨_, hD6, line_lt (by rw [List.length_map]; exact hcount), cs5 ++ [z], by rw [upd_same, List.map_append]; rfl, ?_, fun c hc => ?_, ?_, fun u ob e => ?_⟩
            · rw [em, if_neg c, ← List.append_assoc]
              refine LL.snoc (((hL5.same sp1).same sp2).keep fun u hu ob e => by rw [upd_ne (hf5 u hu).2]; exact e) ?_
              rw [upd_ne nzD, upd_same, List.map_append]
              rfl
            · rcases List.mem_append.mp hc with hc | hc
              · exact hf5 c hc
              · rw [List.mem_singleton.mp hc]
                exact ⟨(s5.trans sp1).free nz, nzD⟩
            · rw [List.nodup_append]
              refine ⟨hnd5, List.nodup_cons.mpr ⟨List.not_mem_nil, List.nodup_nil⟩, fun x hx y hy e => ?_⟩
              rw [List.mem_singleton.mp hy] at e
              obtain ⟨ob, eo⟩ := hL5.tracked hx
              rw [e] at eo
              have := sp1 _ _ eo
              rw [nz] at this
              cases this
            · rw [upd_ne (ne_of_none e nD)]
              exact sp2 _ _ (sp1 _ _ (s5 _ _ e))
        · obtain ⟨cs5, hD5, hL5, hf5, hnd5, s5⟩ := hP
          refine ⟨cs5, hD5, ?_, hf5, hnd5, s5⟩
          rw [List.length_map, List.take_length] at hL5
          rw [List.take_add_one, erow, List.flatMap_append]
          show LL H5 cs5 (_ ++ (extC ch row ++ []))
          rw [List.append_nil]
          exact hL5
      · obtain ⟨cs, hD4, hLc4, hfc, hndc, s4⟩ := hP
        rw [List.length_map, hlen, List.take_length] at hLc4
        refine ⟨D, _, _, _, cs, rfl, nHD, hD4, ?_, fun c hc => ⟨sm.free (hfc c hc).1, (hfc c hc).2⟩, hndc, sm.trans s4⟩
        rw [ordW_more ech]
        exact hLc4
    · obtain ⟨bg, y2, y3, y4, as, rfl, nbg, hb3, hLL, hfr, hnd, sm⟩ := hP
      rw [List.length_map, hkl, List.take_length] at hLL
      exact ⟨_, rfl, q bg as H3 nbg hb3 hLL hfr hnd sm⟩
theorem LL_rep {H : Hp} {a : Addr} {r : List Int} (h : H a = some (.lst (r.map V.int))) : ∀ m, LL H (List.replicate m a) (List.replicate m r)
  | 0 => trivial
  | m + 1 => ⟨h, LL_rep h m⟩
theorem rep_flat (v : V) : ∀ m : Nat, (List.replicate m [v]).flatten = List.replicate m v
  | 0 => rfl
  | m + 1 => by rw [List.replicate_succ, List.flatten_cons, rep_flat v m]; rfl
theorem scAllO : FnScope ["n"] ["n"] (defScope s_all_orders) := ⟨rfl, rfl, rfl, by decide +kernel, rfl, by decide +kernel, by decide +kernel⟩
theorem ok_all_orders {f f1 : Addr} {fd d1 : FuncData} {k : Nat} (T : Df K mg "all_orders" s_all_orders ["n"] f fd) (T_orders_with : Df K mg "orders_with" s_orders_with ["choices"] f1 d1) (B : Bi mg) : FnOk P w K mg base CX0 (k + 2) f fd ["n"] spAllO := by
  have G_orders_with : FnOk P w K mg base CX0 (k + 1) f1 d1 ["choices"] spOrdW := ok_ordW T_orders_with B
  refine T.F.ok scAllO (fun vs H Q E h => ?_) (fun cdv A outer s H vs Q E hr h => ?_)
  · obtain ⟨n, rfl, _⟩ := h
    rfl
  · obtain ⟨n, rfl, hn1, hn2, q⟩ := h
    refine ⟨_, 
      (pss_one (ps_ret (pe_call G_orders_with hr (by rfl) T_orders_with.g T_orders_with.F.kp T_orders_with.b .nil pass0 (pa_cons (pe_op op_rep (pe_lst (pa_cons (pe_listRg rfl (by rfl) B.list (prg_1 (by rfl) B.range (pv 0))) pa_nil)) (pv 0)) pa_nil)))), ?_⟩
    refine ⟨_, rfl, n, rfl, RgOk.of_le (by omega) (by omega) (by omega) (by omega), fun l nl => ?_⟩
    have t1 := same_new (o := .lst (rgV 0 (n : Int))) nl
    have hl : (upd H l (.lst (rgV 0 (n : Int)))) l = some (.lst ((rg n).map V.int)) := by rw [upd_same, rg_V]
    refine ⟨line_small (by show 1 ≤ 16777216; decide), fun l1 nl1 => ?_⟩
    have t2 := same_new (o := .lst [.ref l]) nl1
    refine ⟨_, rfl, l1, _, _, rfl, rfl, upd_same, by omega, by omega, line_small (by rw [Int.toNat_natCast]; show 1 * n ≤ _; omega), fun l2 nl2 => ?_⟩
    have t3 := same_new (o := .lst (List.replicate ((n : Nat) : Int).toNat [V.ref l]).flatten) nl2
    have tt := (t1.trans t2).trans t3
    refine ⟨l2, List.replicate n l, List.replicate n (rg n), rfl, by rw [upd_same, Int.toNat_natCast, rep_flat, List.map_replicate], LL_rep (t3 _ _ (t2 _ _ hl)) n, by rw [List.length_replicate]; omega, fun ch hc => ?_, fun i hi => ?_, fun r as H' nr hr hLL hfr hnd s' => ?_⟩
    · rw [(List.mem_replicate.mp hc).2, rg_len]
      omega
    · rw [List.length_replicate] at hi
      rw [List.take_replicate, Nat.min_eq_left hi, ordW_all]
      have h1 := allK_len hn2 i hi
      have h2 := pow6 (show i ≤ 6 by omega)
      omega
    · rw [ordW_all] at hLL
      exact q r as H' (tt.free nr) hr hLL (fun c hc => ⟨tt.free (hfr c hc).1, (hfr c hc).2⟩) hnd (tt.trans s')
end
end Fo
namespace Fo
open PySem PySem.Spec PyProof.Rows L2
def spWithin : Sp := fun vs H Q _ => ∃ (w : Str) (a : Addr) (r : Int) (n : Nat) (xs : List Int), vs = [.str w, .ref a, .int r] ∧ IsWay w ∧ H a = some (.lst (xs.map V.int)) ∧ IsOrd n xs ∧ 1 ≤ n ∧ n ≤ 6 ∧ 0 ≤ r ∧
  ∀ (l : Addr) (as : List Addr) (H' : Hp), H l = none → H' l = some (.lst (as.map V.ref)) → LL H' as (nearL w n xs r) → (∀ a ∈ as, H a = none ∧ a ≠ l) → as.Nodup → Same H H' → Q (.ref l) H'
def spListed : Sp := fun vs H Q _ => ∃ (a : Addr) (xs : List V), vs = [.ref a] ∧ H a = some (.lst xs) ∧ xs.length ≤ 6 ∧ Q .non H
section
variable {P : Program} {w : World} {K : PySem.W.Frag} {mg : Str → Option Value} {base : Heap}
theorem scListed : FnScope ["order"] ["order"] (defScope s_check_listed) := ⟨rfl, rfl, rfl, by decide +kernel, rfl, by decide +kernel, by decide +kernel⟩
theorem ok_listed {f : Addr} {fd : FuncData} {k : Nat} {tk : Tok} (T : Df K mg "check_listed" s_check_listed ["order"] f fd) (B : Bi mg) (mL : mg "MOST_LISTED" = some (.int 6 tk)) : FnOk P w K mg base CX0 (k + 1) f fd ["order"] spListed := by
  refine T.F.ok scListed (fun vs H Q E h => ?_) (fun cdv A outer s H vs Q E hr h => ?_)
  · obtain ⟨a, xs, rfl, _⟩ := h
    rfl
  · obtain ⟨a, xs, rfl, ha, hl, q⟩ := h
    refine ⟨_, 
      (pss_one (ps_if (pt_cmpR op_gt (pe_callB call_len_seq (by rfl) B.len PySem.boot_len (pa_cons (pv 0) pa_nil)) (pe_glob (v := .int 6) (by rfl) mL ⟨_, rfl⟩) (nomark _))
        (pss_one ps_never)
        pss_nil)), ?_⟩
    exact ⟨_, rfl, a, _, rfl, .inl (SqL.of ha), _, 6, rfl, rfl, _, rfl, ite2 (fun z => absurd (of_decide_eq_true z) (by omega)) (fun _ => q)⟩
theorem scWithin : FnScope ["way", "order", "r", "other"] ["way", "order", "r"] (defScope s_all_within) := ⟨rfl, rfl, rfl, by decide +kernel, rfl, by decide +kernel, by decide +kernel⟩
set_option maxHeartbeats 4000000 in
theorem ok_within {f f1 f2 f3 f4 f5 f6 : Addr} {fd d1 d2 d3 d4 d5 d6 : FuncData} {k : Nat} (T : Df K mg "all_within" s_all_within ["way", "order", "r"] f fd) (T_check_order : Df K mg "check_order" s_check_order ["thing"] f1 d1) (T_check_way : Df K mg "check_way" s_check_way ["thing"] f2 d2) (T_check_from : Df K mg "check_from" s_check_from ["thing", "least"] f3 d3) (T_all_orders : Df K mg "all_orders" s_all_orders ["n"] f4 d4) (T_known_far : Df K mg "known_far" s_known_far ["way", "one", "other"] f5 d5) (T_check_listed : Df K mg "check_listed" s_check_listed ["order"] f6 d6)
    (G_check_order : FnOk P w K mg base CX0 k f1 d1 ["thing"] spCheck) (G_check_way : FnOk P w K mg base CX0 k f2 d2 ["thing"] spWay) (G_check_from : FnOk P w K mg base CX0 k f3 d3 ["thing", "least"] spFrom) (G_all_orders : FnOk P w K mg base CX0 k f4 d4 ["n"] spAllO) (G_known_far : FnOk P w K mg base CX0 k f5 d5 ["way", "one", "other"] spFar) (G_check_listed : FnOk P w K mg base CX0 k f6 d6 ["order"] spListed) (B : Bi mg) :
    FnOk P w K mg base CX0 (k + 1) f fd ["way", "order", "r"] spWithin := by
  refine T.F.ok scWithin (fun vs H Q E h => ?_) (fun cdv A outer s H vs Q E hr h => ?_)
  · obtain ⟨wy, a, r, n, xs, rfl, _⟩ := h
    rfl
  · obtain ⟨wy, a, r, n, xs, rfl, hw, ha, ox, hn1, hn2, hr0, q⟩ := h
    have hxl : (xs.map V.int).length = n := by rw [List.length_map, ox.len]
    refine ⟨_, 
      (pss_cons (ps_expr (pe_call G_check_order hr (by rfl) T_check_order.g T_check_order.F.kp T_check_order.b .nil pass0 (pa_cons (pv 1) pa_nil)))
      (pss_cons (ps_expr (pe_call G_check_way hr (by rfl) T_check_way.g T_check_way.F.kp T_check_way.b .nil pass0 (pa_cons (pv 0) pa_nil)))
      (pss_cons (ps_expr (pe_call G_check_listed hr (by rfl) T_check_listed.g T_check_listed.F.kp T_check_listed.b .nil pass0 (pa_cons (pv 1) pa_nil)))
      (pss_cons (ps_expr (pe_call G_check_from hr (by rfl) T_check_from.g T_check_from.F.kp T_check_from.b .nil pass0 (pa_cons (pv 2) (pa_cons pe_int pa_nil))))
      (pss_one (ps_ret (pe_lc (own := [("other", 3)]) (g := (gName 3)) (tt := (tTest (tOp (rI0 fun i j => .bl (decide (i ≤ j))) (tCall spFar [] E0 (tCons (tVar 0) (tCons (tVar 1) (tCons (tVar 3) tNil)))) (tVar 2)))) (te := (tVar 3)) rfl scWithin.nd (pi_list (pe_call G_all_orders hr (by rfl) T_all_orders.g T_all_orders.F.kp T_all_orders.b .nil pass0 (pa_cons (pe_callB call_len_seq (by rfl) B.len PySem.boot_len (pa_cons (pv 1) pa_nil)) pa_nil))) (blkOk_by (N := ["way", "order", "r", "other"]) (sc := defScope s_all_within) (by decide +kernel)) (fun _ _ _ _ _ => (pg_name (i := 3) scWithin.nd rfl (.inl rfl))) (fun _ _ _ _ _ => (pts_one (pt_cmpR op_le (pe_call G_known_far hr (by rfl) T_known_far.g T_known_far.F.kp T_known_far.b .nil pass0 (pa_cons (pv 0) (pa_cons (pv 1) (pa_cons (pv 3) pa_nil)))) (pv 2) (nomark _)))) (fun _ _ _ _ _ => (pv 3))))))))), ?_⟩
    refine ⟨_, rfl, a, n, xs, rfl, ha, ox, hn1, by omega, fun H1 s1 => ?_⟩
    refine ⟨_, rfl, wy, rfl, hw, ?_⟩
    refine ⟨_, rfl, a, _, rfl, s1 _ _ ha, by rw [hxl]; exact hn2, ?_⟩
    refine ⟨_, rfl, r, 0, rfl, hr0, ?_⟩
    refine ⟨_, rfl, a, _, rfl, .inl (SqL.of (s1 _ _ ha)), n, by rw [hxl]; rfl, hn1, hn2, fun l as H2 nl hl hLL hfr hnd s2 => ?_⟩
    have s12 := s1.trans s2
    refine ⟨l, rfl, ⟨_, SqL.of hl⟩, fun D nD => ?_⟩
    have nHD : H D = none := s12.free nD
    have hlen := hLL.len
    have hal := allK_len hn2 n (Nat.le_refl _)
    have hp6 := pow6 hn2
    refine lc_list (K := K) (a := l) (xs := as.map V.ref) (fun m H3 => ∃ bs : List Addr, H3 D = some (.lst (bs.map V.ref)) ∧ LL H3 bs (((allK n n).take m).filter fun o => decide (farW wy xs o ≤ r)) ∧ bs.Sublist (as.take m) ∧ Same H2 H3)
      ⟨[], upd_same, trivial, List.nil_sublist _, same_new nD⟩ (fun m H3 _ hP => by obtain ⟨_, _, _, _, s3⟩ := hP; exact SqL.of (s3 _ _ hl)) (fun m x H3 hx hP => ?_) (fun H3 hP => ?_)
    · obtain ⟨bs, hD3, hLb, hsub, s3⟩ := hP
      obtain ⟨c, ec, rfl⟩ := ref_at_inv hx
      obtain ⟨row, erow, hrow⟩ := hLL.get ec
      have orow := all_ord (List.mem_of_getElem? erow)
      have etk : as.take (m + 1) = as.take m ++ [c] := by rw [List.take_add_one, ec]; rfl
      have ncD : c ≠ D := ne_of_none hrow nD
      refine ⟨rfl, _, rfl, _, rfl, _, rfl, wy, a, c, n, xs, row, rfl, hw, s3 _ _ (s12 _ _ ha), s3 _ _ hrow, ox, orow, hn1, by omega, fun H4 s4 => ?_⟩
      have t4 := s3.trans s4
      refine ⟨_, rfl, _, _, rfl, rfl, _, rfl, ite2 (fun z => ?_) (fun z => ?_)⟩
      · have hz : farW wy xs row ≤ r := of_decide_eq_true z
        refine ⟨_, rfl, _, s4 _ _ hD3, line_lt ?_, bs ++ [c], by rw [upd_same, List.map_append]; rfl, ?_, ?_, fun u ob e => ?_⟩
        · rw [List.length_map]
          have := hsub.length_le
          rw [List.length_take] at this
          omega
        · rw [filter_moreL _ erow, decide_eq_true hz, if_pos rfl]
          refine LL.snoc ((hLb.same s4).keep fun u hu ob e => ?_) ?_
          · obtain ⟨o2, e2⟩ := hLL.tracked (List.mem_of_mem_take (hsub.subset hu))
            rw [upd_ne (ne_of_none e2 nD)]
            exact e
          · rw [upd_ne ncD]
            exact t4 _ _ hrow
        · rw [etk]
          exact hsub.append (List.Sublist.refl _)
        · rw [upd_ne (ne_of_none e nD)]
          exact t4 _ _ e
      · refine ⟨bs, s4 _ _ hD3, ?_, ?_, t4⟩
        · rw [filter_moreL _ erow, decide_eq_false (fun h => z (decide_eq_true h)), if_neg (by decide), List.append_nil]
          exact hLb.same s4
        · rw [etk]
          exact hsub.trans (List.sublist_append_left _ _)
    · obtain ⟨bs, hD3, hLb, hsub, s3⟩ := hP
      rw [List.length_map, hlen, List.take_length] at hLb
      refine q D bs H3 nHD hD3 hLb (fun c hc => ?_) ?_ (s12.trans s3)
      · have hca : c ∈ as := List.mem_of_mem_take (hsub.subset hc)
        obtain ⟨o2, e2⟩ := hLL.tracked hca
        exact ⟨s1.free (hfr c hca).1, ne_of_none e2 nD⟩
      · exact (hnd.sublist (List.take_sublist _ as)).sublist hsub
end
end Fo
namespace Fo
open PySem PySem.Spec PyProof.Rows L2
/-! ### a pool: three numbers, of which others are drawn -/
def PoolAt (H : Hp) (d : Addr) (c : Nat) : Prop := ∃ a b s : Int, H d = some (.lst [.int a, .int b, .int s]) ∧ 0 ≤ s ∧ s ≤ c
def KeepD (d : Addr) (H H' : Hp) : Prop := ∀ b o, H b = some o → b ≠ d → H' b = some o
theorem KeepD.refl (d : Addr) (H : Hp) : KeepD d H H := fun _ _ e _ => e
theorem KeepD.trans {d : Addr} {H H1 H2 : Hp} (a : KeepD d H H1) (b : KeepD d H1 H2) : KeepD d H H2 := fun c o e f => b c o (a c o e f) f
theorem KeepD.of_same {d : Addr} {H H' : Hp} (h : Same H H') : KeepD d H H' := fun b o e _ => h b o e
theorem KeepD.none {d : Addr} {H H1 : Hp} (k : KeepD d H H1) {p : Addr} (np : H1 p = none) (nf : p ≠ d) : H p = none := by
  cases e : H p with
  | none => rfl
  | some o =>
    have z := k p o e nf
    rw [np] at z
    cases z
theorem PoolAt.same {H H' : Hp} {d : Addr} {c : Nat} (h : PoolAt H d c) (s : Same H H') : PoolAt H' d c := by
  obtain ⟨a, b, t, e, r⟩ := h
  exact ⟨a, b, t, s _ _ e, r⟩
theorem PoolAt.mono {H : Hp} {d : Addr} {c c' : Nat} (h : PoolAt H d c) (hc : c ≤ c') : PoolAt H d c' := by
  obtain ⟨a, b, t, e, h0, h1⟩ := h
  exact ⟨a, b, t, e, h0, by omega⟩
theorem PoolAt.ne {H : Hp} {d : Addr} {c : Nat} (h : PoolAt H d c) {p : Addr} (e : H p = none) : p ≠ d := by
  obtain ⟨a, b, t, e1, _⟩ := h
  exact (ne_of_none e1 e).symm
theorem PoolAt.upd {H : Hp} {d : Addr} {c : Nat} (h : PoolAt H d c) {p : Addr} {o : HO} (n1 : p ≠ d) : PoolAt (upd H p o) d c := by
  obtain ⟨a, b, t, e, r⟩ := h
  exact ⟨a, b, t, by rw [upd_ne n1.symm]; exact e, r⟩
theorem mod_b (x : Int) {m : Int} (h : 0 < m) : 0 ≤ x % m ∧ x % m < m := ⟨Int.emod_nonneg x (by omega), Int.emod_lt_of_pos x h⟩
theorem mul_b {x y a b : Int} (hx : 0 ≤ x) (hxa : x ≤ a) (hy : 0 ≤ y) (hyb : y ≤ b) : 0 ≤ x * y ∧ x * y ≤ a * b := ⟨Int.mul_nonneg hx hy, Int.mul_le_mul hxa hyb hy (by omega)⟩
theorem at3_0 {x y z : V} : atI [x, y, z] 0 = some x := rfl
theorem at3_1 {x y z : V} : atI [x, y, z] 1 = some y := rfl
theorem at3_2 {x y z : V} : atI [x, y, z] 2 = some z := rfl
def spPool (K : PySem.W.Frag) : Sp := fun vs H Q _ => ∃ (a : Addr) (ns : List Int) (k : Nat), vs = [.ref a, .int k] ∧ SqL K H a (ns.map V.int) ∧ ns.length ≤ 63 ∧ k < 63 ∧ ∀ (d : Addr) (H' : Hp), H d = none → PoolAt H' d 5000 → Same H H' → Q (.ref d) H'
def spDrawP : Sp := fun vs H Q _ => ∃ (d : Addr) (many : Int) (c : Nat), vs = [.ref d, .int many] ∧ PoolAt H d c ∧ c < 1048576 ∧ 0 < many ∧ many < 1073741824 ∧ ∀ (v : Int) (H' : Hp), 0 ≤ v → v < many → PoolAt H' d (c + 1) → KeepD d H H' → Q (.int v) H'
def spOrdP : Sp := fun vs H Q _ => ∃ (d : Addr) (n c : Nat), vs = [.ref d, .int n] ∧ PoolAt H d c ∧ c + n < 1048576 ∧ 1 ≤ n ∧ n ≤ 12 ∧ ∀ (o : Addr) (xs : List Int) (H' : Hp), H o = none → o ≠ d → IsOrd n xs → H' o = some (.lst (xs.map V.int)) → PoolAt H' d (c + n) → KeepD d H H' → Q (.ref o) H'
section
variable {P : Program} {w : World} {K : PySem.W.Frag} {mg : Str → Option Value} {base : Heap}
theorem scTake : FnScope ["pool", "many", "found", "x"] ["pool", "many"] (defScope s_law_draw) := ⟨rfl, rfl, rfl, by decide +kernel, rfl, by decide +kernel, by decide +kernel⟩
set_option maxHeartbeats 1000000 in
theorem ok_drawP {f : Addr} {fd : FuncData} {k : Nat} (T : Df K mg "_law_draw" s_law_draw ["pool", "many"] f fd) (B : Bi mg) : FnOk P w K mg base CX0 (k + 1) f fd ["pool", "many"] spDrawP := by
  refine T.F.ok scTake (fun vs H Q E h => ?_) (fun cdv A outer s H vs Q E hr h => ?_)
  · obtain ⟨d, m, c, rfl, _⟩ := h
    rfl
  · obtain ⟨d, m, c, rfl, ⟨a, b, st, hd, s0, s1⟩, hc, hm, hm2, q⟩ := h
    refine ⟨_, 
      (pss_cons (ps_if (pt_cmpR op_eq (pe_ix ix_list (pv 0) pe_int (fun _ _ => rfl)) pe_int (nomark _))
        (pss_cons (ps_set (i := 2) scTake.nd rfl (.inl rfl) (pe_op op_mod (pe_ix ix_list (pv 0) pe_int (fun _ _ => rfl)) (pv 1)))
        (pss_cons (ps_asg (pe_op op_fdiv (pe_ix ix_list (pv 0) pe_int (fun _ _ => rfl)) (pv 1)) (pg_sub (pv 0) pe_int set_list))
        (pss_one (ps_ret (pv 2)))))
        pss_nil)
      (pss_cons (ps_asg (pe_op op_add (pe_ix ix_list (pv 0) pe_int (fun _ _ => rfl)) pe_int) (pg_sub (pv 0) pe_int set_list))
      (Evl.pss_cut (ps_set (i := 3) scTake.nd rfl (.inl rfl) (pe_op op_mod (pe_op op_add (pe_op op_mod (pe_ix ix_list (pv 0) pe_int (fun _ _ => rfl)) pe_int) (pe_op op_mul pe_int (pe_ix ix_list (pv 0) pe_int (fun _ _ => rfl)))) pe_int))
      (Evl.pss_cut (ps_set (i := 3) scTake.nd rfl (.inl rfl) (pe_op op_mod (pe_op op_mul (pv 3) (pv 3)) pe_int))
      (Evl.pss_cut (ps_set (i := 3) scTake.nd rfl (.inl rfl) (pe_op op_mod (pe_op op_mul (pe_op op_add (pv 3) pe_int) (pv 3)) pe_int))
      (pss_one (ps_ret (pe_op op_mod (pe_op op_fdiv (pv 3) pe_int) (pv 1))))))))), ?_⟩
    refine ⟨_, rfl, d, _, 1, _, rfl, rfl, SqL.of hd, at3_1, rfl, _, rfl, ite2 (fun _ => ?_) (fun _ => ?_)⟩
    · refine ⟨_, rfl, d, _, 0, _, rfl, rfl, SqL.of hd, at3_0, _, rfl, a, m, rfl, rfl, hm, ?_⟩
      refine ⟨_, rfl, d, _, 0, _, rfl, rfl, SqL.of hd, at3_0, _, rfl, a, m, rfl, rfl, ⟨hm, hm2⟩, _, rfl, d, _, 0, 0, rfl, rfl, hd, rfl, ?_⟩
      obtain ⟨c1, c2⟩ := mod_b a hm
      exact ⟨_, rfl, q _ _ c1 c2 ⟨a / m, b, st, upd_same, s0, by omega⟩ fun b o e nb => by rw [upd_ne nb]; exact e⟩
    · refine ⟨_, rfl, d, _, 2, _, rfl, rfl, SqL.of hd, at3_2, st, 1, rfl, rfl, _, rfl, d, _, 2, 2, rfl, rfl, hd, rfl, ?_⟩
      have hd1 : (upd H d (.lst [.int a, .int b, .int (st + 1)])) d = some (.lst [.int a, .int b, .int (st + 1)]) := upd_same
      have kp : KeepD d H (upd H d (.lst [.int a, .int b, .int (st + 1)])) := fun b o e nb => by rw [upd_ne nb]; exact e
      show _
      have kp2 : (upd H d (.lst (([.int a, .int b, .int st] : List V).set 2 (.int (st + 1))))) = upd H d (.lst [.int a, .int b, .int (st + 1)]) := rfl
      rw [kp2]
      generalize upd H d (.lst [.int a, .int b, .int (st + 1)]) = H1 at hd1 kp ⊢
      obtain ⟨m1, m2⟩ := mod_b a (m := 999999999989) (by decide)
      refine ⟨fun τ G => ∃ x : Int, 0 ≤ x ∧ x < 999999999989 ∧ τ = [some (.ref d), some (.int m), none, some (.int x)] ∧ G = H1, ?_, fun τ G hM => ?_⟩
      · exact ⟨_, rfl, d, _, 0, _, rfl, rfl, SqL.of hd1, at3_0, _, 999999999989, rfl, rfl, (show (0 : Int) < 999999999989 by decide), _, rfl, d, _, 2, _, rfl, rfl, SqL.of hd1, at3_2, 830003, _, rfl, rfl, .inl ⟨by decide, by decide⟩, _, _, rfl, rfl, _, 999999999989, rfl, rfl, (show (0 : Int) < 999999999989 by decide), _, (mod_b _ (by decide)).1, (mod_b _ (by decide)).2, rfl, rfl⟩
      obtain ⟨x, x0, x1, rfl, e1⟩ := hM
      subst e1
      refine ⟨fun τ G' => ∃ y : Int, 0 ≤ y ∧ y < 1000000000039 ∧ τ = [some (.ref d), some (.int m), none, some (.int y)] ∧ G' = G, ?_, fun τ G' hM => ?_⟩
      · exact ⟨_, rfl, _, rfl, x, x, rfl, rfl, .inl ⟨by omega, by omega⟩, _, 1000000000039, rfl, rfl, (show (0 : Int) < 1000000000039 by decide), _, (mod_b _ (by decide)).1, (mod_b _ (by decide)).2, rfl, rfl⟩
      obtain ⟨y, y0, y1, rfl, e1⟩ := hM
      subst e1
      refine ⟨fun τ G'' => ∃ z : Int, 0 ≤ z ∧ z < 999999999961 ∧ τ = [some (.ref d), some (.int m), none, some (.int z)] ∧ G'' = G', ?_, fun τ G'' hM => ?_⟩
      · exact ⟨_, rfl, y, 470021, rfl, rfl, _, rfl, _, y, rfl, rfl, .inl ⟨by omega, by omega⟩, _, 999999999961, rfl, rfl, (show (0 : Int) < 999999999961 by decide), _, (mod_b _ (by decide)).1, (mod_b _ (by decide)).2, rfl, rfl⟩
      obtain ⟨z, z0, z1, rfl, e1⟩ := hM
      subst e1
      obtain ⟨c1, c2⟩ := mod_b (z / 7) hm
      exact ⟨_, rfl, z, 7, rfl, rfl, ⟨by decide, by decide⟩, _, rfl, _, m, rfl, rfl, hm, q _ _ c1 c2 ⟨a, b, st + 1, hd1, by omega, by omega⟩ kp⟩
theorem scPool : FnScope ["script", "k", "cell"] ["script", "k"] (defScope s_law_pool) := ⟨rfl, rfl, rfl, by decide +kernel, rfl, by decide +kernel, by decide +kernel⟩
theorem ok_pool {f : Addr} {fd : FuncData} {k : Nat} (T : Df K mg "_law_pool" s_law_pool ["script", "k"] f fd) (B : Bi mg) : FnOk P w K mg base CX0 (k + 1) f fd ["script", "k"] (spPool K) := by
  refine T.F.ok scPool (fun vs H Q E h => ?_) (fun cdv A outer s H vs Q E hr h => ?_)
  · obtain ⟨a, ns, k, rfl, _⟩ := h
    rfl
  · obtain ⟨a, ns, k, rfl, hS, hlen, hk, q⟩ := h
    refine ⟨_, 
      (pss_cons (ps_set (i := 2) scPool.nd rfl (.inl rfl) pe_int)
      (Evl.pss_cut (ps_if (pt_cmpR op_lt (pv 1) (pe_callB call_len_seq (by rfl) B.len PySem.boot_len (pa_cons (pv 0) pa_nil)) (nomark _))
        (pss_one (ps_set (i := 2) scPool.nd rfl (.inl rfl) (pe_ix ix_list (pv 0) (pv 1) (fun _ _ => rfl))))
        pss_nil)
      (pss_one (ps_ret (pe_lst (pa_cons (pv 2) (pa_cons (pe_callTy call_int1 (by rfl) B.int (by decide +kernel) (pa_cons (pe_cmpR op_ge (pv 2) (pe_op op_pow pe_int pe_int) (nomark _)) pa_nil)) (pa_cons (pe_op op_mul pe_int (pv 1)) pa_nil)))))))), ?_⟩
    refine ⟨fun τ G => ∃ x : Int, τ = [some (.ref a), some (.int k), some (.int x)] ∧ G = H, ?_, fun τ G hM => ?_⟩
    · refine ⟨_, rfl, _, rfl, a, _, rfl, .inl hS, (k : Int), _, rfl, rfl, _, rfl, ite2 (fun c => ?_) (fun _ => ⟨0, rfl, rfl⟩)⟩
      have hl : (k : Int) < (((ns.map V.int).length : Nat) : Int) := of_decide_eq_true c
      rw [List.length_map] at hl
      exact ⟨_, rfl, _, rfl, a, _, _, _, rfl, rfl, hS, at_of (j := k) rfl (int_at (List.getElem?_eq_getElem (show k < ns.length by omega))), _, rfl, rfl⟩
    obtain ⟨x, rfl, rfl⟩ := hM
    refine ⟨_, rfl, _, rfl, 10, 18, rfl, rfl, ⟨by decide, by decide, by decide⟩, x, _, rfl, rfl, .inr ⟨_, rfl, _, rfl, 71, (k : Int), rfl, rfl, .inl ⟨by decide, by decide⟩, line_small (by show 3 ≤ 16777216; decide), fun d nd => ?_⟩⟩
    exact q d _ nd ⟨_, _, _, upd_same, by omega, by omega⟩ (same_new nd)
theorem scOrdP : FnScope ["pool", "n", "left", "found", "k"] ["pool", "n"] (defScope s_law_order) := ⟨rfl, rfl, rfl, by decide +kernel, rfl, by decide +kernel, by decide +kernel⟩
set_option maxHeartbeats 1000000 in
theorem ok_ordP {f fD : Addr} {fd fdD : FuncData} {k : Nat} (T : Df K mg "_law_order" s_law_order ["pool", "n"] f fd) (T__law_draw : Df K mg "_law_draw" s_law_draw ["pool", "many"] fD fdD) (G__law_draw : FnOk P w K mg base CX0 k fD fdD ["pool", "many"] spDrawP) (B : Bi mg) : FnOk P w K mg base CX0 (k + 1) f fd ["pool", "n"] spOrdP := by
  refine T.F.ok scOrdP (fun vs H Q E h => ?_) (fun cdv A outer s H vs Q E hr h => ?_)
  · obtain ⟨d, n, c, rfl, _⟩ := h
    rfl
  · obtain ⟨d, n, c, rfl, hP, hc, hn1, hn2, q⟩ := h
    refine ⟨_, 
      (pss_cons (ps_set (i := 2) scOrdP.nd rfl (.inl rfl) (pe_listRg rfl (by rfl) B.list (prg_1 (by rfl) B.range (pv 1))))
      (pss_cons (ps_set (i := 3) scOrdP.nd rfl (.inl rfl) (pe_lst pa_nil))
      (pss_cons (ps_for PassesOwn.never rfl (pi_range1 (by rfl) B.range (pa_cons (pv 1) pa_nil)) (pg_name (i := 4) scOrdP.nd rfl (.inl rfl))
        (pss_one (ps_expr (pe_bm PySem.F.plainAttrs_list PySem.F.slot_list_append PySem.F.type_list_append mt_append (pv 3) (pa_cons (pe_bm PySem.F.plainAttrs_list PySem.F.slot_list_pop PySem.F.type_list_pop mt_popAt (pv 2) (pa_cons (pe_call G__law_draw hr (by rfl) T__law_draw.g T__law_draw.F.kp T__law_draw.b .nil pass0 (pa_cons (pv 0) (pa_cons (pe_callB call_len_seq (by rfl) B.len PySem.boot_len (pa_cons (pv 2) pa_nil)) pa_nil))) pa_nil)) pa_nil)))))
      (pss_one (ps_ret (pv 3)))))), ?_⟩
    refine ⟨_, rfl, n, rfl, RgOk.of_le (by omega) (by omega) (by omega) (by omega), fun l nl => ?_⟩
    have hl0 : (upd H l (.lst (rgV 0 (n : Int)))) l = some (.lst ((rg n).map V.int)) := by rw [upd_same, rg_V]
    have nld := hP.ne nl
    have P0 := hP.upd (o := .lst (rgV 0 (n : Int))) nld
    have k0 : KeepD d H (upd H l (.lst (rgV 0 (n : Int)))) := KeepD.of_same (same_new nl)
    generalize upd H l (.lst (rgV 0 (n : Int))) = H0 at hl0 P0 k0 ⊢
    refine ⟨line_small (by show 0 ≤ 16777216; decide), fun p np => ?_⟩
    have npd := P0.ne np
    have lp : l ≠ p := ne_of_none hl0 np
    have nHp : H p = none := k0.none np npd
    refine ⟨_, rfl, _, rfl, by omega, by omega, ?_⟩
    rw [Int.toNat_natCast]
    refine for_range (n := n) (fun i σ H3 => ∃ (rest acc : List Int) (y4 : Option V), σ = [some (.ref d), some (.int n), some (.ref l), some (.ref p), y4] ∧ (acc ++ rest).Perm (rg n) ∧ acc.length = i ∧ H3 l = some (.lst (rest.map V.int)) ∧ H3 p = some (.lst (acc.map V.int)) ∧ PoolAt H3 d (c + i) ∧ KeepD d H H3)
      ⟨rg n, [], none, rfl, List.Perm.refl _, rfl, by rw [upd_ne lp]; exact hl0, upd_same, P0.upd npd, fun b o e f => by rw [upd_ne (ne_of_none (k0 b o e f) np)]; exact k0 b o e f⟩ (fun i σ H3 hi hW => ?_) (fun σ H3 hW => ?_)
    · obtain ⟨rest, acc, y4, rfl, hperm, el, hl3, hp3, P3, kp3⟩ := hW
      have hlen : rest.length = n - i := by
        have := List.Perm.length_eq hperm
        rw [List.length_append, rg_len] at this
        omega
      have hlm : (rest.map V.int).length = rest.length := List.length_map _
      refine ⟨_, rfl, .inl ⟨rfl, _, SqL.of hp3⟩, _, rfl, .inl ⟨rfl, _, SqL.of hl3⟩, _, rfl, _, rfl, l, _, rfl, .inl (SqL.of hl3), d, _, c + i, rfl, P3, by omega, by rw [hlm]; omega, by rw [hlm]; omega, fun v H4 v0 v1 P4 k4 => ?_⟩
      rw [hlm] at v1
      obtain ⟨y, ey⟩ : ∃ y, rest[v.toNat]? = some y := ⟨rest[v.toNat]'(by omega), List.getElem?_eq_getElem (by omega)⟩
      have hl4 := k4 l _ hl3 nld
      have hp4 := k4 p _ hp3 npd
      refine ⟨l, _, v, v.toNat, _, rfl, rfl, hl4, by omega, by omega, seq_ix (by omega) (by rw [hlm]; omega), int_at ey, ?_⟩
      refine ⟨p, _, _, rfl, rfl, by rw [upd_ne lp.symm]; exact hp4, line_lt (by rw [List.length_map]; omega), rest.eraseIdx v.toNat, acc ++ [y], _, rfl, ?_, by rw [List.length_append, el]; rfl, ?_, by rw [upd_same, List.map_append]; rfl, ?_, fun b o e f => ?_⟩
      · rw [List.append_assoc]
        exact (List.Perm.append_left acc (pop_perm ey)).trans hperm
      · rw [upd_ne lp, upd_same, map_erase]
      · exact (P4.upd nld).upd npd
      · have e4 := k4 b o (kp3 b o e f) f
        have nbl : b ≠ l := ne_of_none e nl
        have nbp : b ≠ p := ne_of_none e nHp
        rw [upd_ne nbp, upd_ne nbl]
        exact e4
    · obtain ⟨rest, acc, y4, rfl, hperm, el, hl3, hp3, P3, kp3⟩ := hW
      have hr0 : rest = [] := by
        have := List.Perm.length_eq hperm
        rw [List.length_append, rg_len] at this
        exact List.eq_nil_of_length_eq_zero (by omega)
      subst hr0
      rw [List.append_nil] at hperm
      exact ⟨_, rfl, q p acc H3 nHp npd hperm hp3 P3 kp3⟩
end
end Fo
namespace Fo
open PySem PySem.Spec PyProof.Rows L2
/-- a comprehension over zip of two lists that stand still -/
theorem lc_zipL {K : PySem.W.Frag} {a b : Addr} {xs ys : List V} {g : TG} {tt : TT} {te : TE} {vs : List Nat} {σ : L2.St} {H1 : Hp} {D : Addr} {Qd : Hp → Prop} (hlen : xs.length = ys.length) (Pv : Nat → Hp → Prop) (h0 : Pv 0 (upd H1 D (.lst []))) (hl : ∀ i H, i ≤ xs.length → Pv i H → SqL K H a xs ∧ SqL K H b ys)
    (hs : ∀ (i : Nat) (x y : V) (T : Addr) (H : Hp), xs[i]? = some x → ys[i]? = some y → Pv i H → H T = none → g (.ref T) (wipe σ vs) (upd H T (.tup [x, y])) fun σ2 H2 => wipe σ2 vs = wipe σ vs ∧ tt σ2 H2 fun b H3 =>
      if b = true then te σ2 H3 fun y H4 => ∃ acc, H4 D = some (.lst acc) ∧ acc.length < sizeLine ∧ Pv (i + 1) (upd H4 D (.lst (acc ++ [y]))) else Pv (i + 1) H3) (hd : ∀ H, Pv xs.length H → Qd H) :
    ∃ W : Nat → Nat → Hp → Prop, (∃ m, W 0 m (upd H1 D (.lst []))) ∧ ∀ i m H, W i m H →
      ((Itz K a b).stop i H ∧ Qd H) ∨ ((Itz K a b).go i H ∧ ∃ Nx : Hp → Prop, (∀ H', Nx H' → ∃ m', m' < m ∧ W (i + 1) m' H') ∧ ∀ x H', (Itz K a b).yld i H x H' → g x (wipe σ vs) H' fun σ2 H2 => wipe σ2 vs = wipe σ vs ∧ tt σ2 H2 fun b H3 =>
        if b = true then te σ2 H3 fun y H4 => ∃ acc, H4 D = some (.lst acc) ∧ acc.length < sizeLine ∧ Nx (upd H4 D (.lst (acc ++ [y]))) else Nx H3) := by
  refine ⟨fun i m H => m = xs.length - i ∧ i ≤ xs.length ∧ Pv i H, ⟨xs.length, by simp, Nat.zero_le _, h0⟩, ?_⟩
  rintro i m H ⟨rfl, hi, p⟩
  obtain ⟨q1, q2⟩ := hl i H hi p
  by_cases hlt : i < xs.length
  · refine .inr ⟨⟨xs, ys, xs[i], ys[i], q1, q2, by simp [hlt], List.getElem?_eq_getElem (by omega)⟩, Pv (i + 1), fun H' p' => ⟨xs.length - (i + 1), by omega, rfl, hlt, p'⟩, fun x H' y => ?_⟩
    obtain ⟨T, x', y', rfl, hT, rfl, f1, f2⟩ := y
    exact hs i x' y' T H (f1 xs q1) (f2 ys q2) p hT
  · have e : i = xs.length := by omega
    subst e
    exact .inl ⟨⟨xs, ys, q1, q2, .inl (Nat.le_refl _)⟩, hd H p⟩
theorem below_cut (f : Int → Bool) : ∀ (n j : Nat), j ≤ n → sumN (rg n) (fun i => ind (decide (i < (j : Int)) && f i)) = sumN (rg j) (fun i => ind (f i))
  | 0, j, h => by
    have : j = 0 := by omega
    subst this
    rfl
  | n + 1, j, h => by
    by_cases c : j ≤ n
    · rw [rg_succ, sumN_append, below_cut f n j c, sumN_cons, sumN_nil, decide_eq_false (show ¬ (n : Int) < (j : Int) by omega)]
      rfl
    · have e : j = n + 1 := by omega
      subst e
      apply sumN_congr
      intro i hi
      have := rg_mem.mp hi
      rw [decide_eq_true (show i < ((n + 1 : Nat) : Int) by omega), Bool.true_and]
theorem swap_below {n : Nat} {xs ys : List Int} (ox : IsOrd n xs) : farSwap xs ys = ((sumN (rg n) (fun p => sumN (rg p.toNat) fun q => ind (decide (g0 (seatsL xs ys) p < g0 (seatsL xs ys) q))) : Nat) : Int) := by
  unfold farSwap
  rw [inv_eq, seats_len, ox.len]
  unfold invF
  rw [sumN_swap]
  congr 1
  apply sumN_congr
  intro j hj
  have hb := rg_mem.mp hj
  have := below_cut (fun i => decide (g0 (seatsL xs ys) j < g0 (seatsL xs ys) i)) n j.toNat (by omega)
  rw [Int.toNat_of_nonneg hb.1] at this
  exact this
section
variable {P : Program} {w : World} {K : PySem.W.Frag} {mg : Str → Option Value} {base : Heap}
theorem scLFar : FnScope ["way", "one", "other", "found", "p", "q", "a", "b", "thing"] ["way", "one", "other"] (defScope s_law_far) := ⟨rfl, rfl, rfl, by decide +kernel, rfl, by decide +kernel, by decide +kernel⟩
set_option maxHeartbeats 4000000 in
theorem ok_law_far {f : Addr} {fd : FuncData} {k : Nat} (T : Df K mg "_law_far" s_law_far ["way", "one", "other"] f fd) (B : Bi mg) : FnOk P w K mg base CX0 (k + 1) f fd ["way", "one", "other"] spFar := by
  refine T.F.ok scLFar (fun vs H Q E h => ?_) (fun cdv A outer s H vs Q E hr h => ?_)
  · obtain ⟨z, a, b, n, xs, ys, rfl, _⟩ := h
    rfl
  · obtain ⟨z, a, b, n, xs, ys, rfl, hz, ha, hb, ox, oy, hn1, hn2, q⟩ := h
    have hxl : (xs.map V.int).length = n := by rw [List.length_map, ox.len]
    have hyl : (ys.map V.int).length = n := by rw [List.length_map, oy.len]
    refine ⟨_, 
      (pss_cons (ps_if (pt_cmpR op_eq (pv 0) pe_str (nomark _))
        (pss_one (ps_ret (pe_callB call_len_seq (by rfl) B.len PySem.boot_len (pa_cons (pe_lc (own := [("a", 6), ("b", 7)]) (g := (gTup K 2 (gCons (gName 6) (gCons (gName 7) gNil)))) (tt := (tTest (tOp rNe (tVar 6) (tVar 7)))) (te := (tC (.int 1))) rfl scLFar.nd (pi_zip (by rfl) B.zip (pa_cons (pv 1) (pa_cons (pv 2) pa_nil))) (blkOk_by (N := ["way", "one", "other", "found", "p", "q", "a", "b", "thing"]) (sc := defScope s_law_far) (by decide +kernel)) (fun _ _ _ _ _ => (pg_tup (by rfl) (pgs_cons (pg_name (i := 6) scLFar.nd rfl (.inl rfl)) (pgs_cons (pg_name (i := 7) scLFar.nd rfl (.inl rfl)) pgs_nil)))) (fun _ _ _ _ _ => (pts_one (pt_cmpR op_ne (pv 6) (pv 7) (nomark _)))) (fun _ _ _ _ _ => pe_int)) pa_nil))))
        pss_nil)
      (pss_cons (ps_if (pt_cmpR op_eq (pv 0) pe_str (nomark _))
        (pss_one (ps_ret (pe_callB (cr_max rfl) (by rfl) B.max (by decide +kernel) (pa_cons (pe_lc (own := [("p", 4), ("thing", 8)]) (g := (gTup K 2 (gCons (gName 4) (gCons (gName 8) gNil)))) (tt := tYes) (te := (tCB rAbs (tCons (tOp (rI0 fun i j => .int (i - j)) (tVar 4) (tBM K "list" (rIndex K) (tVar 2) (tCons (tVar 8) tNil))) tNil))) rfl scLFar.nd (pi_enum (by rfl) B.enumerate (pa_cons (pv 1) pa_nil)) (blkOk_by (N := ["way", "one", "other", "found", "p", "q", "a", "b", "thing"]) (sc := defScope s_law_far) (by decide +kernel)) (fun _ _ _ _ _ => (pg_tup (by rfl) (pgs_cons (pg_name (i := 4) scLFar.nd rfl (.inl rfl)) (pgs_cons (pg_name (i := 8) scLFar.nd rfl (.inl rfl)) pgs_nil)))) (fun _ _ _ _ _ => pts_nil) (fun _ _ _ _ _ => (pe_callB call_abs (by rfl) B.abs (by decide +kernel) (pa_cons (pe_op op_sub (pv 4) (pe_bm PySem.F.plainAttrs_list PySem.F.slot_list_index PySem.F.type_list_index mt_index (pv 2) (pa_cons (pv 8) pa_nil))) pa_nil)))) pa_nil))))
        pss_nil)
      (pss_cons (ps_set (i := 3) scLFar.nd rfl (.inl rfl) pe_int)
      (pss_cons (ps_for PassesOwn.never rfl (pi_range1 (by rfl) B.range (pa_cons (pe_callB call_len_seq (by rfl) B.len PySem.boot_len (pa_cons (pv 1) pa_nil)) pa_nil)) (pg_name (i := 4) scLFar.nd rfl (.inl rfl))
        (pss_one (ps_for PassesOwn.never rfl (pi_range1 (by rfl) B.range (pa_cons (pv 4) pa_nil)) (pg_name (i := 5) scLFar.nd rfl (.inl rfl))
          (pss_one (ps_set (i := 3) scLFar.nd rfl (.inl rfl) (pe_op op_add (pv 3) (pe_callTy call_int1 (by rfl) B.int (by decide +kernel) (pa_cons (pe_cmpR op_gt (pe_bm PySem.F.plainAttrs_list PySem.F.slot_list_index PySem.F.type_list_index mt_index (pv 2) (pa_cons (pe_ix ix_list (pv 1) (pv 5) (fun _ _ => rfl)) pa_nil)) (pe_bm PySem.F.plainAttrs_list PySem.F.slot_list_index PySem.F.type_list_index mt_index (pv 2) (pa_cons (pe_ix ix_list (pv 1) (pv 4) (fun _ _ => rfl)) pa_nil)) (nomark _)) pa_nil))))))))
      (pss_one (ps_ret (pv 3))))))), ?_⟩
    rcases hz with rfl | rfl | rfl
    · -- swap
      refine ⟨_, rfl, rfl, _, rfl, ite2 (fun c => absurd c (by decide +kernel)) (fun _ => ?_)⟩
      refine ⟨_, rfl, rfl, _, rfl, ite2 (fun c => absurd c (by decide +kernel)) (fun _ => ?_)⟩
      refine ⟨_, rfl, a, _, rfl, .inl (SqL.of ha), _, rfl, by omega, by rw [hxl]; omega, ?_⟩
      rw [hxl, Int.toNat_natCast]
      refine for_range (n := n) (fun i σ H3 => ∃ (y7 y8 : Option V), σ = [some (.str "swap"), some (.ref a), some (.ref b), some (.int ((sumN (rg i) (fun p => sumN (rg p.toNat) fun q => ind (decide (g0 (seatsL xs ys) p < g0 (seatsL xs ys) q))) : Nat) : Int)), y7, y8, none, none, none] ∧ H3 = H)
        ⟨_, _, rfl, rfl⟩ (fun i σ H3 hi hP => ?_) (fun σ H3 hP => ?_)
      · obtain ⟨y7, y8, rfl, rfl⟩ := hP
        obtain ⟨x, ex, x0, x1⟩ := ord_ix ox hi
        have gx : g0 (seatsL xs ys) (i : Int) = pos ys x := g0_at (seats_at ex)
        refine ⟨_, rfl, _, rfl, by omega, by omega, ?_⟩
        rw [show (0 + (i : Int)).toNat = i by omega]
        refine for_range (n := i) (fun j σ H4 => ∃ (y8 : Option V), σ = [some (.str "swap"), some (.ref a), some (.ref b), some (.int (((sumN (rg i) (fun p => sumN (rg p.toNat) fun q => ind (decide (g0 (seatsL xs ys) p < g0 (seatsL xs ys) q))) : Nat) : Int) + ((sumN (rg j) (fun q => ind (decide (g0 (seatsL xs ys) (i : Int) < g0 (seatsL xs ys) q))) : Nat) : Int))), some (.int (0 + (i : Int))), y8, none, none, none] ∧ H4 = H3)
          ⟨_, by show _ = [_, _, _, some (V.int (_ + 0)), _, _, _, _, _]; rw [Int.add_zero]; rfl, rfl⟩ (fun j σ H4 hj hP => ?_) (fun σ H4 hP => ?_)
        · obtain ⟨z8, rfl, rfl⟩ := hP
          obtain ⟨y, ey, y0, y1⟩ := ord_ix ox (j := j) (by omega)
          have gy : g0 (seatsL xs ys) (j : Int) = pos ys y := g0_at (seats_at ey)
          obtain ⟨j1, a1, b1, c1, p1⟩ := idx_facts oy y0 y1
          obtain ⟨j2, a2, b2, c2, p2⟩ := idx_facts oy x0 x1
          refine ⟨_, rfl, _, rfl, .inl ⟨rfl, _, SqL.of hb⟩, _, rfl, _, rfl, a, _, _, _, rfl, rfl, SqL.of ha, at_of (j := j) (by omega) (int_at ey), b, _, _, j1, _, rfl, rfl, SqL.of hb, rfl, flat_ints ys, a1, b1, c1, ?_⟩
          refine ⟨_, rfl, .inl ⟨rfl, _, SqL.of hb⟩, _, rfl, _, rfl, a, _, _, _, rfl, rfl, SqL.of ha, at_of (j := i) (by omega) (int_at ex), b, _, _, j2, _, rfl, rfl, SqL.of hb, rfl, flat_ints ys, a2, b2, c2, _, _, rfl, rfl, .inr ⟨_, rfl, _, _, rfl, rfl, some (.int (0 + (j : Int))), ?_, rfl⟩⟩
          rw [rg_succ, sumN_append, sumN_cons, sumN_nil, Int.natCast_add, ← Int.add_assoc, gx, gy, p1, p2]
          by_cases c : pos ys x < pos ys y
          · rw [decide_eq_true c]
            rfl
          · rw [decide_eq_false c]
            rfl
        · obtain ⟨z8, rfl, rfl⟩ := hP
          refine ⟨some (.int (0 + (i : Int))), z8, ?_, rfl⟩
          rw [rg_succ, sumN_append, sumN_cons, sumN_nil, Int.toNat_natCast, Nat.add_zero, Int.natCast_add]
      · obtain ⟨y7, y8, rfl, rfl⟩ := hP
        refine ⟨_, rfl, ?_⟩
        have z := q H3 (Same.refl _)
        rw [farW_swap, swap_below ox] at z
        exact z
    · -- spot
      refine ⟨_, rfl, rfl, _, rfl, ite2 (fun _ => ?_) (fun c => absurd (by decide +kernel) c)⟩
      refine ⟨_, rfl, _, rfl, a, b, _, _, rfl, SqL.of ha, SqL.of hb, fun D nD => ?_⟩
      refine lc_zipL (K := K) (a := a) (b := b) (xs := xs.map V.int) (ys := ys.map V.int) (by rw [hxl, hyl]) (fun m H3 => H3 D = some (.lst (((rg m).filter (fun p => !decide (g0 xs p = g0 ys p))).map (fun _ => V.int 1))) ∧ Same H H3) ⟨upd_same, same_new nD⟩ (fun m H3 _ hP => ⟨SqL.of (hP.2 _ _ ha), SqL.of (hP.2 _ _ hb)⟩) (fun m u v t H3 hu hv hP nt => ?_) (fun H3 hP => ?_)
      · obtain ⟨hD3, sm⟩ := hP
        obtain ⟨x, ex, rfl⟩ := int_at_inv hu
        obtain ⟨y, ey, rfl⟩ := int_at_inv hv
        have hm := (List.getElem?_eq_some_iff.mp ex).1
        rw [ox.len] at hm
        have gx : g0 xs (m : Int) = x := g0_at ex
        have gy : g0 ys (m : Int) = y := g0_at ey
        have s3 := same_new (o := .tup [.int x, .int y]) nt
        have fm : ((rg (m + 1)).filter fun p => !decide (g0 xs p = g0 ys p)) = ((rg m).filter fun p => !decide (g0 xs p = g0 ys p)) ++ (if x = y then [] else [(m : Int)]) := by
          rw [rg_succ, List.filter_append, List.filter_cons, gx, gy]
          congr 1
          by_cases c : x = y
          · simp [c]
          · simp [c]
        refine ⟨t, _, rfl, .inl (.inl upd_same), rfl, _, _, rfl, _, _, rfl, rfl, rfl, ?_⟩
        refine ⟨_, rfl, _, rfl, rfl, _, rfl, ?_⟩
        by_cases c : x = y
        · subst c
          refine iteNS rfl ⟨?_, sm.trans s3⟩
          rw [fm, if_pos rfl, List.append_nil]
          exact s3 _ _ hD3
        · rw [decide_eq_false (fun e => c (V.int.inj e))]
          refine iteT ⟨_, s3 _ _ hD3, line_lt ?_, ?_, fun u o e => ?_⟩
          · rw [List.length_map]
            refine Nat.lt_of_le_of_lt (List.length_filter_le _ _) ?_
            rw [rg_len]
            omega
          · rw [upd_same, fm, if_neg c, List.map_append]
            rfl
          · rw [upd_ne (ne_of_none e nD)]
            exact s3 _ _ (sm _ _ e)
      · obtain ⟨hD3, sm⟩ := hP
        refine ⟨D, _, rfl, .inl (SqL.of hD3), ?_⟩
        have z := q H3 sm
        rw [farW_spot] at z
        unfold farSpot spotL at z
        rw [List.length_map, hxl]
        rw [ox.len] at z
        exact z
    · -- shift
      refine ⟨_, rfl, rfl, _, rfl, ite2 (fun c => absurd c (by decide +kernel)) (fun _ => ?_)⟩
      refine ⟨_, rfl, rfl, _, rfl, ite2 (fun _ => ?_) (fun c => absurd (by decide +kernel) c)⟩
      refine ⟨_, rfl, a, _, rfl, SqL.of ha, fun D nD => ?_⟩
      refine lc_enumL (K := K) (a := a) (xs := xs.map V.int) (fun m H3 => H3 D = some (.lst (((gapsL xs ys).take m).map V.int)) ∧ Same H H3) ⟨upd_same, same_new nD⟩ (fun m H3 _ hP => SqL.of (hP.2 _ _ ha)) (fun m x t H3 hx hP nt => ?_) (fun H3 hP => ?_)
      · obtain ⟨hD3, sm⟩ := hP
        obtain ⟨y, ey, rfl⟩ := int_at_inv hx
        have hi := (List.getElem?_eq_some_iff.mp ey).1
        rw [ox.len] at hi
        have yb := ox.mem (List.mem_of_getElem? ey)
        have s3 := same_new (o := .tup [.int (m : Nat), .int y]) nt
        have eg : (gapsL xs ys)[m]? = some (absI ((m : Int) - pos ys y)) := by
          unfold gapsL rg
          rw [List.map_map, List.getElem?_map, List.getElem?_range (by rw [ox.len]; exact hi)]
          show some (absI ((m : Int) - g0 (seatsL xs ys) (m : Int))) = _
          rw [g0_at (seats_at ey)]
        obtain ⟨j1, a1, b1, c1, p1⟩ := idx_facts oy yb.1 yb.2
        have t3 := sm.trans s3
        refine ⟨t, _, rfl, .inl (.inl upd_same), rfl, _, _, rfl, _, _, rfl, rfl, rfl, ?_⟩
        refine ⟨_, rfl, _, rfl, .inl ⟨rfl, _, SqL.of (t3 _ _ hb)⟩, _, rfl, b, _, _, j1, _, rfl, rfl, SqL.of (t3 _ _ hb), rfl, flat_ints ys, a1, b1, c1, (m : Int), (j1 : Int), rfl, rfl, _, rfl, _, s3 _ _ hD3, line_lt (by rw [List.length_map, List.length_take, gaps_len, ox.len]; omega), ?_, fun u o e => ?_⟩
        · rw [upd_same, take_more eg, List.map_append, p1]
          rfl
        · rw [upd_ne (ne_of_none e nD)]
          exact s3 _ _ (sm _ _ e)
      · obtain ⟨hD3, sm⟩ := hP
        rw [List.take_of_length_le (by rw [gaps_len, List.length_map]; exact Nat.le_refl _)] at hD3
        refine ⟨D, gapsL xs ys, rfl, SqL.of hD3, by rw [gaps_len, ox.len]; exact hn1, fun m hm hle => ?_⟩
        have e : farShift xs ys = m := maxL_of (gaps_nonneg xs ys) hm hle
        have z := q H3 sm
        rw [farW_shift, e] at z
        exact z
end
end Fo
namespace Fo
open PySem PySem.Spec PyProof.Rows L2
def spTwo : Sp := fun vs H Q _ => ∃ (a b c : Addr) (n : Nat) (xs ys zs : List Int), vs = [.ref a, .ref b, .ref c] ∧ H a = some (.lst (xs.map V.int)) ∧ H b = some (.lst (ys.map V.int)) ∧ H c = some (.lst (zs.map V.int)) ∧ IsOrd n xs ∧ IsOrd n ys ∧ IsOrd n zs ∧ 1 ≤ n ∧ n ≤ 12 ∧ ∀ (H' : Hp), Same H H' → Q (.bl true) H'
section
variable {P : Program} {w : World} {K : PySem.W.Frag} {mg : Str → Option Value} {base : Heap}
theorem scTwo : FnScope ["one", "other", "third", "way", "due", "named", "found", "thing"] ["one", "other", "third"] (defScope s_law_two_right) := ⟨rfl, rfl, rfl, by decide +kernel, rfl, by decide +kernel, by decide +kernel⟩
set_option maxHeartbeats 4000000 in
theorem ok_two {f f1 f2 f3 f4 : Addr} {fd d1 d2 d3 d4 : FuncData} {k : Nat} (T : Df K mg "_law_two_right" s_law_two_right ["one", "other", "third"] f fd) (T__law_far : Df K mg "_law_far" s_law_far ["way", "one", "other"] f1 d1) (T_order_behind : Df K mg "order_behind" s_order_behind ["first", "second"] f2 d2) (T_how_far : Df K mg "how_far" s_how_far ["way", "one", "other"] f3 d3) (T_back_of : Df K mg "back_of" s_back_of ["order"] f4 d4)
    (G__law_far : FnOk P w K mg base CX0 k f1 d1 ["way", "one", "other"] spFar) (G_order_behind : FnOk P w K mg base CX0 k f2 d2 ["first", "second"] spBehind) (G_how_far : FnOk P w K mg base CX0 k f3 d3 ["way", "one", "other"] spFar) (G_back_of : FnOk P w K mg base CX0 k f4 d4 ["order"] spPlaces) (B : Bi mg) : FnOk P w K mg base CX0 (k + 1) f fd ["one", "other", "third"] spTwo := by
  refine T.F.ok scTwo (fun vs H Q E h => ?_) (fun cdv A outer s H vs Q E hr h => ?_)
  · obtain ⟨a, b, c, n, xs, ys, zs, rfl, _⟩ := h
    rfl
  · obtain ⟨a, b, c, n, xs, ys, zs, rfl, ha, hb, hc, ox, oy, oz, hn1, hn2, q⟩ := h
    have hxl : (xs.map V.int).length = n := by rw [List.length_map, ox.len]
    refine ⟨_, 
      (pss_cons (ps_for PassesOwn.never rfl (pi_list (pe_lst (pa_cons pe_str (pa_cons pe_str (pa_cons pe_str pa_nil))))) (pg_name (i := 3) scTwo.nd rfl (.inl rfl))
        (pss_cons (ps_set (i := 4) scTwo.nd rfl (.inl rfl) (pe_call G__law_far hr (by rfl) T__law_far.g T__law_far.F.kp T__law_far.b .nil pass0 (pa_cons (pv 3) (pa_cons (pv 0) (pa_cons (pv 1) pa_nil)))))
        (pss_cons (ps_set (i := 5) scTwo.nd rfl (.inl rfl) (pe_lst (pa_cons (pe_call G_order_behind hr (by rfl) T_order_behind.g T_order_behind.F.kp T_order_behind.b .nil pass0 (pa_cons (pv 2) (pa_cons (pv 0) pa_nil))) (pa_cons (pe_call G_order_behind hr (by rfl) T_order_behind.g T_order_behind.F.kp T_order_behind.b .nil pass0 (pa_cons (pv 2) (pa_cons (pv 1) pa_nil))) pa_nil))))
        (pss_cons (ps_if (pt_cmpR (op_neD hr.units) (pv 5) (pe_lst (pa_cons (pe_lc (own := [("thing", 7)]) (g := (gName 7)) (tt := tYes) (te := (tOp (rIxL K) (tVar 2) (tVar 7))) rfl scTwo.nd (pi_list (pv 0)) (blkOk_by (N := ["one", "other", "third", "way", "due", "named", "found", "thing"]) (sc := defScope s_law_two_right) (by decide +kernel)) (fun _ _ _ _ _ => (pg_name (i := 7) scTwo.nd rfl (.inl rfl))) (fun _ _ _ _ _ => pts_nil) (fun _ _ _ _ _ => (pe_ix ix_list (pv 2) (pv 7) (fun _ _ => rfl)))) (pa_cons (pe_lc (own := [("thing", 7)]) (g := (gName 7)) (tt := tYes) (te := (tOp (rIxL K) (tVar 2) (tVar 7))) rfl scTwo.nd (pi_list (pv 1)) (blkOk_by (N := ["one", "other", "third", "way", "due", "named", "found", "thing"]) (sc := defScope s_law_two_right) (by decide +kernel)) (fun _ _ _ _ _ => (pg_name (i := 7) scTwo.nd rfl (.inl rfl))) (fun _ _ _ _ _ => pts_nil) (fun _ _ _ _ _ => (pe_ix ix_list (pv 2) (pv 7) (fun _ _ => rfl)))) pa_nil))) (nomark _))
          (pss_one (ps_ret pe_bl))
          pss_nil)
        (pss_one (ps_for PassesOwn.never rfl (pi_list (pe_lst (pa_cons (pe_call G_how_far hr (by rfl) T_how_far.g T_how_far.F.kp T_how_far.b .nil pass0 (pa_cons (pv 3) (pa_cons (pv 0) (pa_cons (pv 1) pa_nil)))) (pa_cons (pe_call G_how_far hr (by rfl) T_how_far.g T_how_far.F.kp T_how_far.b .nil pass0 (pa_cons (pv 3) (pa_cons (pv 1) (pa_cons (pv 0) pa_nil)))) (pa_cons (pe_call G_how_far hr (by rfl) T_how_far.g T_how_far.F.kp T_how_far.b .nil pass0 (pa_cons (pv 3) (pa_cons (pe_ix ix_list (pv 5) pe_int (fun _ _ => rfl)) (pa_cons (pe_ix ix_list (pv 5) pe_int (fun _ _ => rfl)) pa_nil)))) pa_nil))))) (pg_name (i := 6) scTwo.nd rfl (.inl rfl))
          (pss_one (ps_if (PW.pt (pw_or (pt_not (pt_val (pe_callB call_isi (by rfl) B.isinstance (by decide +kernel) (pa_cons (pv 6) (pa_cons (pe_bltn (v := .ty "int") (by rfl) B.int (by decide +kernel) rfl) pa_nil))))) (pw_or (pt_val (pe_callB call_isi (by rfl) B.isinstance (by decide +kernel) (pa_cons (pv 6) (pa_cons (pe_bltn (v := .ty "bool") (by rfl) B.bool (by decide +kernel) rfl) pa_nil)))) (pw_or1 (pt_cmpR op_ne (pv 6) (pv 4) (nomark _))))))
            (pss_one (ps_ret pe_bl))
            pss_nil))))))))
      (pss_one (ps_ret (pe_cmpR (op_eqD hr.units) (pe_call G_order_behind hr (by rfl) T_order_behind.g T_order_behind.F.kp T_order_behind.b .nil pass0 (pa_cons (pv 0) (pa_cons (pe_call G_back_of hr (by rfl) T_back_of.g T_back_of.F.kp T_back_of.b .nil pass0 (pa_cons (pv 0) pa_nil)) pa_nil))) (pe_listRg rfl (by rfl) B.list (prg_1 (by rfl) B.range (pe_callB call_len_seq (by rfl) B.len PySem.boot_len (pa_cons (pv 0) pa_nil)))) (nomark _))))), ?_⟩
    refine ⟨line_small (by show 3 ≤ 16777216; decide), fun wl nwl => ?_⟩
    have s0 := same_new (o := .lst [.str "swap", .str "spot", .str "shift"]) nwl
    refine ⟨wl, rfl, ⟨_, SqL.of upd_same⟩, ?_⟩
    refine for_list (xs := [.str "swap", .str "spot", .str "shift"]) (fun m σ H1 => ∃ (y3 y4 y5 y6 : Option V), σ = [some (.ref a), some (.ref b), some (.ref c), y3, y4, y5, y6, none] ∧ H1 wl = some (.lst [.str "swap", .str "spot", .str "shift"]) ∧ Same H H1)
      ⟨_, _, _, _, rfl, upd_same, s0⟩ (fun m σ H1 _ hP => by obtain ⟨_, _, _, _, _, hw, _⟩ := hP; exact SqL.of hw) (fun m x σ H1 hx hP => ?_) (fun σ H1 hP => ?_)
    · obtain ⟨y3, y4, y5, y6, rfl, hw1, t1⟩ := hP
      obtain ⟨wy, rfl, hwy⟩ : ∃ wy : Str, x = .str wy ∧ IsWay wy := by
        match m, hx with
        | 0, hx => exact ⟨"swap", (Option.some.inj hx).symm, .inl rfl⟩
        | 1, hx => exact ⟨"spot", (Option.some.inj hx).symm, .inr (.inl rfl)⟩
        | 2, hx => exact ⟨"shift", (Option.some.inj hx).symm, .inr (.inr rfl)⟩
        | m + 3, hx => simp at hx
      -- due
      refine ⟨_, rfl, _, rfl, _, rfl, wy, a, b, n, xs, ys, rfl, hwy, t1 _ _ ha, t1 _ _ hb, ox, oy, hn1, hn2, fun H2 s2 => ?_⟩
      have t2 := t1.trans s2
      -- named
      refine ⟨_, rfl, _, rfl, c, a, n, zs, xs, rfl, t2 _ _ hc, t2 _ _ ha, oz, ox, hn1, hn2, fun l5 H5 n5 h5 s5 => ?_⟩
      have t5 := t2.trans s5
      refine ⟨_, rfl, _, rfl, c, b, n, zs, ys, rfl, t5 _ _ hc, t5 _ _ hb, oz, oy, hn1, hn2, fun l6 H6 n6 h6 s6 => ?_⟩
      have t6 := t5.trans s6
      refine ⟨line_small (by show 2 ≤ 16777216; decide), fun nm nnm => ?_⟩
      have s7 := same_new (o := .lst [.ref l5, .ref l6]) nnm
      have h57 := s7 _ _ (s6 _ _ h5)
      have h67 := s7 _ _ h6
      have hnm := upd_same (H := H6) (a := nm) (o := .lst [.ref l5, .ref l6])
      have t7 := t6.trans s7
      have hw7 := s7 _ _ (s6 _ _ (s5 _ _ (s2 _ _ hw1)))
      have o5 := behind_ord oz ox
      have o6 := behind_ord oz oy
      generalize upd H6 nm (.lst [.ref l5, .ref l6]) = H7 at h57 h67 hnm t7 hw7 ⊢
      -- named anew, here
      refine ⟨_, rfl, ?_⟩
      refine ⟨_, rfl, a, rfl, ⟨_, SqL.of (t7 _ _ ha)⟩, fun l nl => ?_⟩
      refine lc_list (K := K) (a := a) (xs := xs.map V.int) (fun i H3 => H3 l = some (.lst (((behindL zs xs).take i).map V.int)) ∧ Same H7 H3) ⟨upd_same, same_new nl⟩ (fun i H3 _ hP => SqL.of (hP.2 _ _ (t7 _ _ ha))) (fun i x H3 hx hP => ?_) (fun H3 hP => ?_)
      · obtain ⟨p, ep, rfl⟩ := int_at_inv hx
        obtain ⟨hl3, sm⟩ := hP
        have hp := ox.mem (List.mem_of_getElem? ep)
        obtain ⟨y, ey, _⟩ := ord_ix oz (j := p.toNat) (by omega)
        have hi := (List.getElem?_eq_some_iff.mp ep).1
        rw [ox.len] at hi
        refine ⟨rfl, _, rfl, _, rfl, c, _, _, _, rfl, rfl, SqL.of (sm _ _ (t7 _ _ hc)), at_of (j := p.toNat) (by omega) (int_at ey), _, hl3, line_lt (by rw [List.length_map, List.length_take]; omega), ?_, fun c o e => ?_⟩
        · rw [upd_same, take_more (behind_at ep ey), List.map_append]
          rfl
        · rw [upd_ne (ne_of_none e nl)]
          exact sm _ _ e
      obtain ⟨hl3, sm3⟩ := hP
      rw [List.take_of_length_le (by rw [behind_len, List.length_map]; exact Nat.le_refl _)] at hl3
      refine ⟨_, rfl, b, rfl, ⟨_, SqL.of (sm3 _ _ (t7 _ _ hb))⟩, fun l' nl' => ?_⟩
      refine lc_list (K := K) (a := b) (xs := ys.map V.int) (fun i H4 => H4 l' = some (.lst (((behindL zs ys).take i).map V.int)) ∧ Same H3 H4) ⟨upd_same, same_new nl'⟩ (fun i H4 _ hP => SqL.of (hP.2 _ _ (sm3 _ _ (t7 _ _ hb)))) (fun i x H4 hx hP => ?_) (fun H4 hP => ?_)
      · obtain ⟨p, ep, rfl⟩ := int_at_inv hx
        obtain ⟨hl4, sm⟩ := hP
        have hp := oy.mem (List.mem_of_getElem? ep)
        obtain ⟨y, ey, _⟩ := ord_ix oz (j := p.toNat) (by omega)
        have hi := (List.getElem?_eq_some_iff.mp ep).1
        rw [oy.len] at hi
        refine ⟨rfl, _, rfl, _, rfl, c, _, _, _, rfl, rfl, SqL.of (sm _ _ (sm3 _ _ (t7 _ _ hc))), at_of (j := p.toNat) (by omega) (int_at ey), _, hl4, line_lt (by rw [List.length_map, List.length_take]; omega), ?_, fun c o e => ?_⟩
        · rw [upd_same, take_more (behind_at ep ey), List.map_append]
          rfl
        · rw [upd_ne (ne_of_none e nl')]
          exact sm _ _ e
      obtain ⟨hl4, sm4⟩ := hP
      rw [List.take_of_length_le (by rw [behind_len, List.length_map]; exact Nat.le_refl _)] at hl4
      refine ⟨line_small (by show 2 ≤ 16777216; decide), fun e ne => ?_⟩
      have se := same_new (o := .lst [.ref l, .ref l']) ne
      have te := (sm3.trans sm4).trans se
      refine ⟨dLL [behindL zs xs, behindL zs ys], dLL [behindL zs xs, behindL zs ys], .lst (SqL.of (te _ _ hnm)) (.cons (dp_list (te _ _ h57)) (.cons (dp_list (te _ _ h67)) .nil)), .lst (SqL.of upd_same) (.cons (dp_list (se _ _ (sm4 _ _ hl3))) (.cons (dp_list (se _ _ hl4)) .nil)), shaped_lists _, shaped_lists _, _, rfl, ?_⟩
      rw [eqv_lists]
      refine iteF ?_
      have h58 := te _ _ h57
      have h68 := te _ _ h67
      have hnm8 := te _ _ hnm
      have hw8 := te _ _ hw7
      have t8 := t7.trans te
      generalize upd H4 e (.lst [.ref l, .ref l']) = H8 at h58 h68 hnm8 hw8 t8 ⊢
      -- the three distances
      refine ⟨_, rfl, _, rfl, _, rfl, wy, a, b, n, xs, ys, rfl, hwy, t8 _ _ ha, t8 _ _ hb, ox, oy, hn1, hn2, fun H9 s9 => ?_⟩
      have t9 := t8.trans s9
      refine ⟨_, rfl, _, rfl, _, rfl, wy, b, a, n, ys, xs, rfl, hwy, t9 _ _ hb, t9 _ _ ha, oy, ox, hn1, hn2, fun H10 s10 => ?_⟩
      have t10 := t9.trans s10
      have hnm10 := s10 _ _ (s9 _ _ hnm8)
      refine ⟨_, rfl, _, rfl, nm, _, 0, _, rfl, rfl, SqL.of hnm10, at2_0, _, rfl, nm, _, 1, _, rfl, rfl, SqL.of hnm10, at2_1, wy, l5, l6, n, _, _, rfl, hwy, s10 _ _ (s9 _ _ h58), s10 _ _ (s9 _ _ h68), o5, o6, hn1, hn2, fun H11 s11 => ?_⟩
      have t11 := t10.trans s11
      rw [farW_turn ox oy hn1, farW_called (r := g0 zs) hwy ox oy o5 o6 hn1 (by rw [← g0_ord oz]; exact oz) (behind_pos oz ox) (behind_pos oz oy)]
      refine ⟨line_small (by show 3 ≤ 16777216; decide), fun fl nfl => ?_⟩
      have s12 := same_new (o := .lst [.int (farW wy xs ys), .int (farW wy xs ys), .int (farW wy xs ys)]) nfl
      refine ⟨fl, rfl, ⟨_, SqL.of upd_same⟩, ?_⟩
      have hw11 := s11 _ _ (s10 _ _ (s9 _ _ hw8))
      refine for_list (xs := [.int (farW wy xs ys), .int (farW wy xs ys), .int (farW wy xs ys)]) (fun m σ H12 => ∃ (y6 : Option V), σ = [some (.ref a), some (.ref b), some (.ref c), some (.str wy), some (.int (farW wy xs ys)), some (.ref nm), y6, none] ∧ H12 = upd H11 fl (.lst [.int (farW wy xs ys), .int (farW wy xs ys), .int (farW wy xs ys)]))
        ⟨_, rfl, rfl⟩ (fun m σ H12 _ hP => by obtain ⟨_, _, rfl⟩ := hP; exact SqL.of upd_same) (fun m x σ H12 hx hP => ?_) (fun σ H12 hP => ?_)
      · obtain ⟨z6, rfl, rfl⟩ := hP
        have ex : x = .int (farW wy xs ys) := by
          match m, hx with
          | 0, hx => exact (Option.some.inj hx).symm
          | 1, hx => exact (Option.some.inj hx).symm
          | 2, hx => exact (Option.some.inj hx).symm
          | m + 3, hx => simp at hx
        subst ex
        refine ⟨_, rfl, _, _, _, _, true, rfl, .ty _, .base (.int _), kit_ty (by decide +kernel), true, rfl, iteF ?_⟩
        refine ⟨_, rfl, _, _, _, _, false, rfl, .ty _, .base (.int _), kit_ty (by decide +kernel), false, rfl, iteF ?_⟩
        exact ⟨_, rfl, _, rfl, rfl, _, rfl, iteNS rfl ⟨_, rfl, rfl⟩⟩
      · obtain ⟨z6, rfl, rfl⟩ := hP
        exact ⟨_, _, _, _, rfl, s12 _ _ hw11, t11.trans s12⟩
    · obtain ⟨y3, y4, y5, y6, rfl, hw1, t1⟩ := hP
      refine ⟨_, rfl, _, rfl, a, n, xs, rfl, t1 _ _ ha, ox, hn1, hn2, fun ps l2 H2 hbk nl2 hl2 s2 => ?_⟩
      have ob := back_ord ox hbk
      have t2 := t1.trans s2
      refine ⟨a, l2, n, xs, ps, rfl, t2 _ _ ha, hl2, ox, ob, hn1, hn2, fun l3 H3 n3 h3 s3 => ?_⟩
      have t3 := t2.trans s3
      rw [behind_back ox hbk] at h3
      refine ⟨_, rfl, a, _, rfl, .inl (SqL.of (t3 _ _ ha)), _, rfl, RgOk.of_le (by omega) (by omega) (by omega) (by rw [hxl]; omega), fun l4 n4 => ?_⟩
      have s4 := same_new (o := .lst (rgV 0 (((xs.map V.int).length : Nat) : Int))) n4
      refine ⟨dL (rg n), dL (rg n), dp_list (s4 _ _ h3), dp_list (by rw [upd_same, hxl, rg_V]), shaped_list _, shaped_list _, ?_⟩
      rw [eqv_list]
      exact q _ (t3.trans s4)
end
end Fo
namespace Fo
open PySem PySem.Spec PyProof.Rows L2
def spWlk : Sp := fun vs H Q _ => ∃ (a b : Addr) (n : Nat) (xs ys : List Int), two vs H a b n xs ys ∧ ∀ (H' : Hp), Same H H' → Q (.bl true) H'
theorem walk_small2 {n : Nat} {xs ys : List Int} (ox : IsOrd n xs) (hn : n ≤ 12) : (walkL (seatsL xs ys)).length ≤ 144 := by
  rw [walk_len _ _ rfl]
  have := invR_len (seatsL xs ys)
  rw [seats_len, ox.len] at this
  have h2 : n * n ≤ 12 * 12 := Nat.mul_le_mul hn hn
  omega
theorem cyc_next {n : Nat} {f : Int → Int} (b : Bij n f) {t : Int} (ht : t ∈ rg n) {k : Nat} {x : Int} (h : (cyc n f t)[k]? = some x) : x ∈ rg n ∧ (cyc n f t)[(k + 1) % (cyc n f t).length]? = some (f x) := by
  have hk := (List.getElem?_eq_some_iff.mp h).1
  rw [cyc_len] at hk
  rw [cyc_at hk] at h
  have e := Option.some.inj h
  refine ⟨by rw [← e]; exact b.it_in ht k, ?_⟩
  obtain ⟨p1, p2, p3, p4⟩ := b.per_spec ht
  rw [cyc_len, ← e]
  by_cases c : k + 1 < per n f t
  · rw [Nat.mod_eq_of_lt c, cyc_at c]
    rfl
  · have e2 : k + 1 = per n f t := by omega
    rw [e2, Nat.mod_self, cyc_at (by omega)]
    show some t = some (it f (k + 1) t)
    rw [e2, p3]
theorem row_next {n : Nat} {xs ys : List Int} (ox : IsOrd n xs) (oy : IsOrd n ys) {row : List Int} (hr : row ∈ roundsL n (fol xs ys)) {k : Nat} {x : Int} (h : row[k]? = some x) : x ∈ rg n ∧ ∃ y, row[(k + 1) % row.length]? = some y ∧ y ∈ rg n ∧ pos xs y = pos ys x := by
  obtain ⟨t, ht, rfl⟩ := List.mem_map.mp hr
  have htn := (List.mem_filter.mp ht).1
  have bj := fol_bij ox oy
  obtain ⟨h1, h2⟩ := cyc_next bj htn h
  exact ⟨h1, _, h2, bj.into _ h1, pos_g0 ox (pos_in oy h1)⟩
section
variable {P : Program} {w : World} {K : PySem.W.Frag} {mg : Str → Option Value} {base : Heap}
theorem scWlk : FnScope ["one", "other", "walk", "rounds", "steps", "some", "k", "thing"] ["one", "other"] (defScope s_law_walks_right) := ⟨rfl, rfl, rfl, by decide +kernel, rfl, by decide +kernel, by decide +kernel⟩
set_option maxHeartbeats 4000000 in
theorem ok_wlk {f f1 f2 f3 f4 f5 : Addr} {fd d1 d2 d3 d4 d5 : FuncData} {k : Nat} (T : Df K mg "_law_walks_right" s_law_walks_right ["one", "other"] f fd) (T_short_walk : Df K mg "short_walk" s_short_walk ["one", "other"] f1 d1) (T_walk_end : Df K mg "walk_end" s_walk_end ["order", "walk"] f2 d2) (T__law_far : Df K mg "_law_far" s_law_far ["way", "one", "other"] f3 d3) (T_rounds_between : Df K mg "rounds_between" s_rounds_between ["one", "other"] f4 d4) (T_steps_between : Df K mg "steps_between" s_steps_between ["one", "other"] f5 d5)
    (G_short_walk : FnOk P w K mg base CX0 k f1 d1 ["one", "other"] spShort) (G_walk_end : FnOk P w K mg base CX0 k f2 d2 ["order", "walk"] spWalkEnd) (G__law_far : FnOk P w K mg base CX0 k f3 d3 ["way", "one", "other"] spFar) (G_rounds_between : FnOk P w K mg base CX0 k f4 d4 ["one", "other"] spRounds) (G_steps_between : FnOk P w K mg base CX0 k f5 d5 ["one", "other"] spSteps) (B : Bi mg) : FnOk P w K mg base CX0 (k + 1) f fd ["one", "other"] spWlk := by
  refine T.F.ok scWlk (fun vs H Q E h => ?_) (fun cdv A outer s H vs Q E hr h => ?_)
  · obtain ⟨o, p, n, xs, ys, ⟨rfl, _⟩, _⟩ := h
    rfl
  · obtain ⟨o, p, n, xs, ys, ⟨rfl, ho, hp, ox, oy, hn1, hn2⟩, q⟩ := h
    refine ⟨_, 
      (pss_cons (ps_set (i := 2) scWlk.nd rfl (.inl rfl) (pe_call G_short_walk hr (by rfl) T_short_walk.g T_short_walk.F.kp T_short_walk.b .nil pass0 (pa_cons (pv 0) (pa_cons (pv 1) pa_nil))))
      (pss_cons (ps_if (PW.pt (pw_or (pt_cmpR (op_neD hr.units) (pe_call G_walk_end hr (by rfl) T_walk_end.g T_walk_end.F.kp T_walk_end.b .nil pass0 (pa_cons (pv 0) (pa_cons (pv 2) pa_nil))) (pv 1) (nomark _)) (pw_or1 (pt_cmpR op_ne (pe_callB call_len_seq (by rfl) B.len PySem.boot_len (pa_cons (pv 2) pa_nil)) (pe_call G__law_far hr (by rfl) T__law_far.g T__law_far.F.kp T__law_far.b .nil pass0 (pa_cons pe_str (pa_cons (pv 0) (pa_cons (pv 1) pa_nil)))) (nomark _)))))
        (pss_one (ps_ret pe_bl))
        pss_nil)
      (pss_cons (ps_set (i := 3) scWlk.nd rfl (.inl rfl) (pe_call G_rounds_between hr (by rfl) T_rounds_between.g T_rounds_between.F.kp T_rounds_between.b .nil pass0 (pa_cons (pv 0) (pa_cons (pv 1) pa_nil))))
      (pss_cons (ps_set (i := 4) scWlk.nd rfl (.inl rfl) (pe_callB (cr_sum rfl) (by rfl) B.sum (by decide +kernel) (pa_cons (pe_lc (own := [("some", 5)]) (g := (gName 5)) (tt := tYes) (te := (tOp (rI0 fun i j => .int (i - j)) (tCB (rLenS K) (tCons (tVar 5) tNil)) (tC (.int 1)))) rfl scWlk.nd (pi_list (pv 3)) (blkOk_by (N := ["one", "other", "walk", "rounds", "steps", "some", "k", "thing"]) (sc := defScope s_law_walks_right) (by decide +kernel)) (fun _ _ _ _ _ => (pg_name (i := 5) scWlk.nd rfl (.inl rfl))) (fun _ _ _ _ _ => pts_nil) (fun _ _ _ _ _ => (pe_op op_sub (pe_callB call_len_seq (by rfl) B.len PySem.boot_len (pa_cons (pv 5) pa_nil)) pe_int))) pa_nil)))
      (pss_cons (ps_if (PW.pt (pw_or (pt_cmpR op_ne (pe_call G_steps_between hr (by rfl) T_steps_between.g T_steps_between.F.kp T_steps_between.b .nil pass0 (pa_cons (pv 0) (pa_cons (pv 1) pa_nil))) (pv 4) (nomark _)) (pw_or1 (pt_cmpR op_gt (pv 4) (pe_callB call_len_seq (by rfl) B.len PySem.boot_len (pa_cons (pv 2) pa_nil)) (nomark _)))))
        (pss_one (ps_ret pe_bl))
        pss_nil)
      (pss_cons (ps_for PassesOwn.never rfl (pi_list (pv 3)) (pg_name (i := 5) scWlk.nd rfl (.inl rfl))
        (pss_one (ps_for PassesOwn.never rfl (pi_enum (by rfl) B.enumerate (pa_cons (pv 5) pa_nil)) (pg_tup (by rfl) (pgs_cons (pg_name (i := 6) scWlk.nd rfl (.inl rfl)) (pgs_cons (pg_name (i := 7) scWlk.nd rfl (.inl rfl)) pgs_nil)))
          (pss_one (ps_if (pt_cmpR op_ne (pe_bm PySem.F.plainAttrs_list PySem.F.slot_list_index PySem.F.type_list_index mt_index (pv 1) (pa_cons (pv 7) pa_nil)) (pe_bm PySem.F.plainAttrs_list PySem.F.slot_list_index PySem.F.type_list_index mt_index (pv 0) (pa_cons (pe_ix ix_list (pv 5) (pe_op op_mod (pe_op op_add (pv 6) pe_int) (pe_callB call_len_seq (by rfl) B.len PySem.boot_len (pa_cons (pv 5) pa_nil))) (fun _ _ => rfl)) pa_nil)) (nomark _))
            (pss_one (ps_ret pe_bl))
            pss_nil)))))
      (pss_one (ps_ret (pe_cmpR op_eq (pe_callB (cr_sum rfl) (by rfl) B.sum (by decide +kernel) (pa_cons (pe_lc (own := [("some", 5)]) (g := (gName 5)) (tt := tYes) (te := (tCB (rLenS K) (tCons (tVar 5) tNil))) rfl scWlk.nd (pi_list (pv 3)) (blkOk_by (N := ["one", "other", "walk", "rounds", "steps", "some", "k", "thing"]) (sc := defScope s_law_walks_right) (by decide +kernel)) (fun _ _ _ _ _ => (pg_name (i := 5) scWlk.nd rfl (.inl rfl))) (fun _ _ _ _ _ => pts_nil) (fun _ _ _ _ _ => (pe_callB call_len_seq (by rfl) B.len PySem.boot_len (pa_cons (pv 5) pa_nil)))) pa_nil)) (pe_call G__law_far hr (by rfl) T__law_far.g T__law_far.F.kp T__law_far.b .nil pass0 (pa_cons pe_str (pa_cons (pv 0) (pa_cons (pv 1) pa_nil)))) (nomark _)))))))))), ?_⟩
    have hWs := walk_small2 (ys := ys) ox hn2
    have hW := walk_is (ys := ys) _ xs ox rfl
    have hwl := walk_len _ (seatsL xs ys) rfl
    have bj := fol_bij ox oy
    have hRl := rounds_len (n := n) (f := fol xs ys)
    -- walk
    refine ⟨_, rfl, _, rfl, o, p, n, xs, ys, ⟨rfl, ho, hp, ox, oy, hn1, hn2⟩, fun l H1 nl hl s1 => ?_⟩
    refine ⟨_, rfl, _, rfl, o, l, n, xs, _, rfl, s1 _ _ ho, hl, ox, hn1, hn2, hW, by omega, fun H2 l2 s2 n2 h2 => ?_⟩
    rw [walk_to oy hn1 _ xs ox rfl] at h2
    have t2 := s1.trans s2
    refine ⟨_, rfl, dL ys, dL ys, dp_list h2, dp_list (t2 _ _ hp), shaped_list _, shaped_list _, _, rfl, ?_⟩
    rw [eqv_list]
    refine iteF ?_
    have hl2 := s2 _ _ hl
    refine ⟨_, rfl, l, _, rfl, .inl (SqL.of hl2), _, rfl, _, rfl, "swap", o, p, n, xs, ys, rfl, .inl rfl, t2 _ _ ho, t2 _ _ hp, ox, oy, hn1, hn2, fun H3 s3 => ?_⟩
    have t3 := t2.trans s3
    have efar : farW "swap" xs ys = ((((walkL (seatsL xs ys)).map V.int).length : Nat) : Int) := by
      rw [farW_swap, List.length_map, hwl]
      unfold farSwap
      rw [inv_NR]
    refine ⟨rfl, _, rfl, ?_⟩
    rw [efar]
    refine iteNS rfl ?_
    have hl3 := s3 _ _ hl2
    -- rounds
    refine ⟨_, rfl, _, rfl, o, p, n, xs, ys, ⟨rfl, t3 _ _ ho, t3 _ _ hp, ox, oy, hn1, hn2⟩, fun r1 as1 H4 _ hr4 hL4 _ _ s4 => ?_⟩
    have t4 := t3.trans s4
    have hlen := hL4.len
    -- steps
    refine ⟨_, rfl, r1, rfl, ⟨_, SqL.of hr4⟩, fun D nD => ?_⟩
    refine lc_list (K := K) (a := r1) (xs := as1.map V.ref) (fun m H5 => H5 D = some (.lst ((((roundsL n (fol xs ys)).map fun r => (r.length : Int) - 1).take m).map V.int)) ∧ Same H4 H5) ⟨upd_same, same_new nD⟩ (fun m H5 _ hP => SqL.of (hP.2 _ _ hr4)) (fun m x H5 hx hP => ?_) (fun H5 hP => ?_)
    · obtain ⟨r, er, rfl⟩ := ref_at_inv hx
      obtain ⟨hD5, sm⟩ := hP
      obtain ⟨row, erow, hrow⟩ := hL4.get er
      have em : ((roundsL n (fol xs ys)).map fun r => (r.length : Int) - 1)[m]? = some ((row.length : Int) - 1) := by rw [List.getElem?_map, erow]; rfl
      refine ⟨rfl, _, rfl, r, _, rfl, .inl (SqL.of (sm _ _ hrow)), _, 1, rfl, rfl, _, hD5, line_lt (by rw [List.length_map, List.length_take, List.length_map]; omega), ?_, fun u o e => ?_⟩
      · rw [upd_same, take_more em, List.map_append, List.length_map]
        rfl
      · rw [upd_ne (ne_of_none e nD)]
        exact sm _ _ e
    obtain ⟨hD5, s5⟩ := hP
    rw [List.take_of_length_le (by rw [List.length_map, List.length_map, hlen]; exact Nat.le_refl _)] at hD5
    refine ⟨D, _, rfl, SqL.of hD5, ?_⟩
    have t5 := t4.trans s5
    -- steps_between(one, other) != steps or steps > len(walk)
    refine ⟨_, rfl, _, rfl, o, p, n, xs, ys, ⟨rfl, t5 _ _ ho, t5 _ _ hp, ox, oy, hn1, hn2⟩, fun H6 s6 => ?_⟩
    have t6 := t5.trans s6
    refine ⟨_, rfl, rfl, _, rfl, iteNS rfl ?_⟩
    have u6 := (s4.trans s5).trans s6
    have hsw : stepsI n (fol xs ys) ≤ ((((walkL (seatsL xs ys)).map V.int).length : Nat) : Int) := by
      rw [List.length_map, hwl, ← steps_turn ox oy]
      exact steps_swap oy hn1 _ xs ox rfl
    unfold stepsI at hsw
    refine ⟨_, rfl, _, rfl, l, _, rfl, .inl (SqL.of (u6 _ _ hl3)), _, _, rfl, rfl, _, rfl, ite2 (fun z => absurd (of_decide_eq_true z) (by omega)) (fun _ => ?_)⟩
    have v6 := s5.trans s6
    -- the rounds, gone round
    refine ⟨_, rfl, r1, rfl, ⟨_, SqL.of (v6 _ _ hr4)⟩, ?_⟩
    refine for_list (xs := as1.map V.ref) (fun m σ H7 => ∃ (y5 y6 y7 : Option V), σ = [some (.ref o), some (.ref p), some (.ref l), some (.ref r1), some (.int ((roundsL n (fol xs ys)).map fun r => (r.length : Int) - 1).sum), y5, y6, y7] ∧ Same H6 H7)
      ⟨_, _, _, rfl, Same.refl _⟩ (fun m σ H7 _ hP => by obtain ⟨_, _, _, _, s7⟩ := hP; exact SqL.of (s7 _ _ (v6 _ _ hr4))) (fun m x σ H7 hx hP => ?_) (fun σ H7 hP => ?_)
    · obtain ⟨y5, y6, y7, rfl, s7⟩ := hP
      obtain ⟨r, er, rfl⟩ := ref_at_inv hx
      obtain ⟨row, erow, hrow⟩ := hL4.get er
      have hrm := List.mem_of_getElem? erow
      have hrl := rows_len bj row hrm
      have hrow7 := s7 _ _ (v6 _ _ hrow)
      refine ⟨_, rfl, r, _, rfl, SqL.of hrow7, ?_⟩
      refine for_enumL (xs := row.map V.int) (fun i σ H8 => ∃ (y6 y7 : Option V), σ = [some (.ref o), some (.ref p), some (.ref l), some (.ref r1), some (.int ((roundsL n (fol xs ys)).map fun r => (r.length : Int) - 1).sum), some (.ref r), y6, y7] ∧ Same H7 H8)
        ⟨_, _, rfl, Same.refl _⟩ (fun i σ H8 hP => by obtain ⟨_, _, _, s8⟩ := hP; exact SqL.of (s8 _ _ hrow7)) (fun i x t σ H8 hx hP nt => ?_) (fun σ H8 hP => ?_)
      · obtain ⟨z6, z7, rfl, s8⟩ := hP
        obtain ⟨y, ey, rfl⟩ := int_at_inv hx
        have hi := (List.getElem?_eq_some_iff.mp ey).1
        have s9 := same_new (o := .tup [.int (i : Nat), .int y]) nt
        have t9 := ((t6.trans s7).trans s8).trans s9
        have hrow9 := s9 _ _ (s8 _ _ hrow7)
        obtain ⟨yin, y2, ey2, y2in, epos⟩ := row_next ox oy hrm ey
        have yb := rg_mem.mp yin
        have y2b := rg_mem.mp y2in
        obtain ⟨j1, a1, b1, c1, p1⟩ := idx_facts oy yb.1 yb.2
        obtain ⟨j2, a2, b2, c2, p2⟩ := idx_facts ox y2b.1 y2b.2
        have hrlm : (row.map V.int).length = row.length := List.length_map _
        refine ⟨t, _, rfl, .inl (.inl upd_same), rfl, _, _, rfl, _, _, rfl, rfl, ?_⟩
        refine ⟨_, rfl, .inl ⟨rfl, _, SqL.of (t9 _ _ hp)⟩, _, rfl, p, _, _, j1, _, rfl, rfl, SqL.of (t9 _ _ hp), rfl, flat_ints ys, a1, b1, c1, ?_⟩
        refine ⟨_, rfl, .inl ⟨rfl, _, SqL.of (t9 _ _ ho)⟩, _, rfl, _, rfl, (i : Int), 1, rfl, rfl, _, rfl, r, _, rfl, .inl (SqL.of hrow9), (i : Int) + 1, _, rfl, rfl, by rw [hrlm]; omega, ?_⟩
        have em : ((i : Int) + 1) % (((row.map V.int).length : Nat) : Int) = (((i + 1) % row.length : Nat) : Int) := by
          rw [hrlm, Int.natCast_emod]
          rfl
        refine ⟨r, _, _, _, rfl, rfl, SqL.of hrow9, at_of (j := (i + 1) % row.length) em (int_at ey2), o, _, _, j2, _, rfl, rfl, SqL.of (t9 _ _ ho), rfl, flat_ints xs, a2, b2, c2, rfl, _, rfl, ?_⟩
        refine iteNS (congrArg V.int (by rw [p1, p2, epos])) ?_
        exact ⟨_, _, rfl, s8.trans s9⟩
      · obtain ⟨z6, z7, rfl, s8⟩ := hP
        exact ⟨_, _, _, rfl, s7.trans s8⟩
    · obtain ⟨y5, y6, y7, rfl, s7⟩ := hP
      have v7 := v6.trans s7
      have t7 := t6.trans s7
      refine ⟨_, rfl, r1, rfl, ⟨_, SqL.of (v7 _ _ hr4)⟩, fun D2 nD2 => ?_⟩
      refine lc_list (K := K) (a := r1) (xs := as1.map V.ref) (fun m H8 => H8 D2 = some (.lst ((((roundsL n (fol xs ys)).map fun r => (r.length : Int)).take m).map V.int)) ∧ Same H7 H8) ⟨upd_same, same_new nD2⟩ (fun m H8 _ hP => SqL.of (hP.2 _ _ (v7 _ _ hr4))) (fun m x H8 hx hP => ?_) (fun H8 hP => ?_)
      · obtain ⟨r, er, rfl⟩ := ref_at_inv hx
        obtain ⟨hD8, sm⟩ := hP
        obtain ⟨row, erow, hrow⟩ := hL4.get er
        have em : ((roundsL n (fol xs ys)).map fun r => (r.length : Int))[m]? = some (row.length : Int) := by rw [List.getElem?_map, erow]; rfl
        refine ⟨rfl, _, rfl, r, _, rfl, .inl (SqL.of (sm _ _ (v7 _ _ hrow))), _, hD8, line_lt (by rw [List.length_map, List.length_take, List.length_map]; omega), ?_, fun u o e => ?_⟩
        · rw [upd_same, take_more em, List.map_append, List.length_map]
          rfl
        · rw [upd_ne (ne_of_none e nD2)]
          exact sm _ _ e
      obtain ⟨hD8, s8⟩ := hP
      rw [List.take_of_length_le (by rw [List.length_map, List.length_map, hlen]; exact Nat.le_refl _)] at hD8
      have t8 := t7.trans s8
      refine ⟨D2, _, rfl, SqL.of hD8, _, rfl, _, rfl, "spot", o, p, n, xs, ys, rfl, .inr (.inl rfl), t8 _ _ ho, t8 _ _ hp, ox, oy, hn1, hn2, fun H9 s9 => ?_⟩
      have e9 : ((roundsL n (fol xs ys)).map fun r => (r.length : Int)).sum = farW "spot" xs ys := by
        have e1 := steps_spot ox oy
        unfold stepsI at e1
        rw [steps_sum] at e1
        rw [farW_spot]
        omega
      refine ⟨rfl, ?_⟩
      rw [e9]
      dsimp only
      rw [decide_eq_true rfl]
      exact q _ (t8.trans s9)
end
end Fo
namespace Fo
open PySem PySem.Spec PyProof.Rows L2
def spCR : Sp := fun vs H Q _ => ∃ (d : Addr) (w : Str) (n c : Nat), vs = [.ref d, .str w, .int n] ∧ PoolAt H d c ∧ c < 1048576 ∧ IsWay w ∧ 1 ≤ n ∧ n ≤ 12 ∧ ∀ H', PoolAt H' d (c + 1) → KeepD d H H' → Q (.bl true) H'
section
variable {P : Program} {w : World} {K : PySem.W.Frag} {mg : Str → Option Value} {base : Heap}
theorem scCR : FnScope ["pool", "way", "n", "most", "counts", "every", "k", "r"] ["pool", "way", "n"] (defScope s_law_counts_right) := ⟨rfl, rfl, rfl, by decide +kernel, rfl, by decide +kernel, by decide +kernel⟩
set_option maxHeartbeats 2000000 in
theorem ok_cr {f f1 f2 f3 : Addr} {fd d1 d2 d3 : FuncData} {k : Nat} (T : Df K mg "_law_counts_right" s_law_counts_right ["pool", "way", "n"] f fd) (T_count_within : Df K mg "count_within" s_count_within ["way", "n", "r"] f2 d2) (T_count_at : Df K mg "count_at" s_count_at ["way", "n", "r"] f3 d3) (T__law_draw : Df K mg "_law_draw" s_law_draw ["pool", "many"] f1 d1) (G_count_within : FnOk P w K mg base CX0 k f2 d2 ["way", "n", "r"] spKW) (G_count_at : FnOk P w K mg base CX0 k f3 d3 ["way", "n", "r"] spAt) (G__law_draw : FnOk P w K mg base CX0 k f1 d1 ["pool", "many"] spDrawP) (B : Bi mg) :
    FnOk P w K mg base CX0 (k + 1) f fd ["pool", "way", "n"] spCR := by
  refine T.F.ok scCR (fun vs H Q E h => ?_) (fun cdv A outer s H vs Q E hr h => ?_)
  · obtain ⟨d, wy, n, c, rfl, _⟩ := h
    rfl
  · obtain ⟨d, wy, n, c, rfl, hP, hc, hw, hn1, hn2, q⟩ := h
    obtain ⟨a1, a2, a3⟩ := tots hw hn1 hn2
    have hmb := mostW_b (w := wy) hn1 hn2
    refine ⟨_, 
      (pss_cons (ps_set (i := 3) scCR.nd rfl (.inl rfl) (pe_dget (hu_of hr) (pe_disp (pps_cons pe_str (pe_op op_fdiv (pe_op op_mul (pv 2) (pe_op op_sub (pv 2) pe_int)) pe_int) (pps_cons pe_str (pv 2) (pps_cons pe_str (pe_op op_sub (pv 2) pe_int) pps_nil))) (by rfl) (by rfl) (fun z => by cases z) (by decide)) (pv 1) (fun _ _ => rfl)))
      (pss_cons (ps_setLc (i := 4) (own := [("r", 7)]) (g := (gName 7)) (tt := tYes) (te := (tCall spAt [] E0 (tCons (tVar 1) (tCons (tVar 2) (tCons (tVar 7) tNil))))) (by rfl) scCR.nd rfl rfl (sw_true rfl rfl rfl (by decide +kernel)) (pi_range1 (by rfl) B.range (pa_cons (pe_op op_add (pv 3) pe_int) pa_nil)) (blkOk_by (N := ["pool", "way", "n", "most", "counts", "every", "k", "r"]) (sc := defScope s_law_counts_right) (by decide +kernel)) (fun _ _ _ _ _ => (pg_name (i := 7) scCR.nd rfl (.inl rfl))) (fun _ _ _ _ _ => pts_nil) (fun _ _ _ _ _ => (pe_call G_count_at hr (by rfl) T_count_at.g T_count_at.F.kp T_count_at.b .nil pass0 (pa_cons (pv 1) (pa_cons (pv 2) (pa_cons (pv 7) pa_nil))))))
      (pss_cons (ps_set (i := 5) scCR.nd rfl (.inl rfl) pe_int)
      (pss_cons (ps_for PassesOwn.never rfl (pi_range2 (by rfl) B.range (pa_cons pe_int (pa_cons (pe_op op_add (pv 2) pe_int) pa_nil))) (pg_name (i := 6) scCR.nd rfl (.inl rfl))
        (pss_one (ps_set (i := 5) scCR.nd rfl (.inl rfl) (pe_op op_mul (pv 5) (pv 6)))))
      (pss_cons (ps_if (PW.pt (pw_or (pt_cmpR op_ne (pe_callB (cr_sum rfl) (by rfl) B.sum (by decide +kernel) (pa_cons (pv 4) pa_nil)) (pv 5) (nomark _)) (pw_or (pt_cmpR op_ne (pe_call G_count_within hr (by rfl) T_count_within.g T_count_within.F.kp T_count_within.b .nil pass0 (pa_cons (pv 1) (pa_cons (pv 2) (pa_cons (pv 3) pa_nil)))) (pv 5) (nomark _)) (pw_or (pt_cmpR op_ne (pe_ix ix_list (pv 4) (pe_op op_add (pv 3) pe_int) (fun _ _ => rfl)) pe_int (nomark _)) (pw_or1 (pt_cmpR op_ne (pe_ix ix_list (pv 4) pe_int (fun _ _ => rfl)) pe_int (nomark _)))))))
        (pss_one (ps_ret pe_bl))
        pss_nil)
      (pss_cons (ps_set (i := 7) scCR.nd rfl (.inl rfl) (pe_call G__law_draw hr (by rfl) T__law_draw.g T__law_draw.F.kp T__law_draw.b .nil pass0 (pa_cons (pv 0) (pa_cons (pe_op op_add (pv 3) pe_int) pa_nil))))
      (pss_one (ps_ret (pe_cmpR op_eq (pe_call G_count_within hr (by rfl) T_count_within.g T_count_within.F.kp T_count_within.b .nil pass0 (pa_cons (pv 1) (pa_cons (pv 2) (pa_cons (pv 7) pa_nil)))) (pe_callB (cr_sum rfl) (by rfl) B.sum (by decide +kernel) (pa_cons (pe_slice sl_list (pv 4) po_none (po_some (pe_op op_add (pv 7) pe_int))) pa_nil)) (nomark _)))))))))), ?_⟩
    refine fun p np => ⟨_, rfl, _, rfl, (n : Int), 1, rfl, rfl, (n : Int), _, rfl, rfl, .inl ⟨by omega, by omega⟩, _, 2, rfl, rfl, ⟨by decide, by decide⟩, _, rfl, _, rfl, (n : Int), 1, rfl, rfl, upd_same, [(.inr "swap", _), (.inr "spot", _), (.inr "shift", _)], rfl, (by show 3 ≤ 15; decide), ?_⟩
    refine ⟨_, rfl, p, V.int (mostW wy n), rfl, .inl ⟨_, .inr wy, .inl upd_same, rfl, ?_⟩, ?_⟩
    · rw [valW _ _ _ hw]
      unfold mostW
      rcases hw with rfl | rfl | rfl
      · rw [if_pos rfl, if_pos rfl]
      · rw [if_neg n1, if_pos rfl, if_neg n1, if_pos rfl]
      · rw [if_neg n2, if_neg n3, if_neg n2, if_neg n3]
    generalize hH1 : (upd (upd H p _) p _) = H1
    have s1 : Same H H1 := by
      rw [← hH1]
      exact fun u o e => by rw [upd_ne (ne_of_none e np), upd_ne (ne_of_none e np)]; exact e
    clear hH1
    generalize mostW wy n = most at a1 a2 hmb ⊢
    obtain ⟨mN, hmN⟩ : ∃ mN : Nat, most = (mN : Int) := ⟨most.toNat, by omega⟩
    subst hmN
    -- counts
    refine ⟨_, rfl, (mN : Int), 2, rfl, rfl, _, rfl, by omega, by omega, fun D nD => ?_⟩
    rw [show ((mN : Int) + 2).toNat = mN + 2 by omega]
    refine lc_range (lo := 0) (n := mN + 2) (fun i H2 => H2 D = some (.lst ((atL wy n i).map V.int)) ∧ Same H1 H2) ⟨upd_same, same_new nD⟩ (fun i H2 hi hW => ?_) (fun H2 hW => ?_)
    · obtain ⟨hD2, s2⟩ := hW
      refine ⟨rfl, _, rfl, _, rfl, _, rfl, wy, n, (i : Int), by rw [Int.zero_add]; rfl, hw, hn1, hn2, by omega, fun H3 s3 => ?_⟩
      refine ⟨_, s3 _ _ hD2, line_lt (by rw [List.length_map, atL_len]; omega), ?_, fun u o e => ?_⟩
      · rw [upd_same, atL_succ, List.map_append]
        rfl
      · rw [upd_ne (ne_of_none e nD)]
        exact s3 _ _ (s2 _ _ e)
    obtain ⟨hD2, s2⟩ := hW
    have t2 := s1.trans s2
    have hP2 := hP.same t2
    have nDd : D ≠ d := (hP.same s1).ne nD
    -- every
    refine ⟨_, rfl, (n : Int), 1, rfl, rfl, 2, (n : Int) + 1, rfl, ⟨by omega, by omega, by omega, by omega⟩, ?_⟩
    rw [show ((n : Int) + 1 - 2).toNat = n - 1 by omega]
    refine for_range (lo := 2) (n := n - 1) (fun i σ H3 => ∃ (y6 : Option V), σ = [some (.ref d), some (.str wy), some (.int n), some (.int mN), some (.ref D), some (.int (facN (i + 1))), y6, none] ∧ H3 = H2)
      ⟨_, rfl, rfl⟩ (fun i σ H3 hi hW => ?_) (fun σ H3 hW => ?_)
    · obtain ⟨y6, rfl, rfl⟩ := hW
      refine ⟨_, rfl, _, rfl, _, _, rfl, rfl, .inr ⟨by omega, by omega⟩, some (.int (2 + (i : Int))), ?_, rfl⟩
      show [_, _, _, _, _, some (V.int (facN (i + 1) * (2 + (i : Int)))), _, _] = _
      rw [show facN (i + 1 + 1) = facN (i + 1) * (((i + 1 : Nat) : Int) + 1) from rfl, show (2 : Int) + (i : Int) = ((i + 1 : Nat) : Int) + 1 by omega]
    obtain ⟨y6, rfl, rfl⟩ := hW
    rw [show n - 1 + 1 = n by omega]
    have hsum : (atL wy n (mN + 2)).sum = facN n := by
      rw [atL_sum, ← a2]
      rfl
    refine ⟨_, rfl, D, _, rfl, SqL.of hD2, _, rfl, rfl, _, rfl, iteNS (congrArg V.int hsum) ?_⟩
    refine ⟨_, rfl, _, rfl, _, rfl, wy, n, (mN : Int), rfl, hw, hn1, hn2, by omega, fun H4 s4 => ?_⟩
    refine ⟨_, rfl, rfl, _, rfl, iteNS (congrArg V.int a1) ?_⟩
    have hD4 := s4 _ _ hD2
    have e0 : atW wy n ((mN + 1 : Nat) : Int) = 0 := by
      unfold atW
      rw [if_neg (by omega), show ((mN + 1 : Nat) : Int) - 1 = (mN : Int) by omega, show ((mN + 1 : Nat) : Int) = (mN : Int) + 1 by omega, a2, a1]
      omega
    refine ⟨_, rfl, _, rfl, (mN : Int), 1, rfl, rfl, D, _, _, _, rfl, rfl, SqL.of hD4, at_of (j := mN + 1) (by omega) (int_at (atL_at (by omega))), rfl, _, rfl, iteNS (congrArg V.int e0) ?_⟩
    have e1 : atW wy n ((0 : Nat) : Int) = 1 := by
      unfold atW
      rw [if_pos (show ((0 : Nat) : Int) = 0 from rfl)]
      exact a3
    refine ⟨_, rfl, D, _, 0, _, rfl, rfl, SqL.of hD4, at_of (j := 0) rfl (int_at (atL_at (by omega))), rfl, _, rfl, iteNS (congrArg V.int e1) ?_⟩
    -- r
    refine ⟨_, rfl, _, rfl, (mN : Int), 1, rfl, rfl, d, _, c, rfl, hP2.same s4, hc, by omega, by omega, fun r H5 r0 r1 P5 k5 => ?_⟩
    have hD5 := k5 D _ hD4 nDd
    have kk : KeepD d H H5 := (KeepD.of_same (t2.trans s4)).trans k5
    obtain ⟨rN, rfl⟩ : ∃ rN : Nat, r = (rN : Int) := ⟨r.toNat, by omega⟩
    refine ⟨_, rfl, _, rfl, _, rfl, wy, n, (rN : Int), rfl, hw, hn1, hn2, by omega, fun H6 s6 => ?_⟩
    refine ⟨_, rfl, _, rfl, (rN : Int), 1, rfl, rfl, _, rfl, D, _, rfl, SqL.of (s6 _ _ hD5), fun l nl => ?_⟩
    have sl := same_new (o := .lst (cutV ((atL wy n (mN + 2)).map V.int) none (some ((rN : Int) + 1)))) nl
    have ecut : cutV ((atL wy n (mN + 2)).map V.int) none (some ((rN : Int) + 1)) = (atL wy n (rN + 1)).map V.int := by
      rw [cut_ints, show (rN : Int) + 1 = ((rN + 1 : Nat) : Int) by omega, cutI_head, atL_take _ _ _ _ (by omega)]
    refine ⟨l, _, rfl, SqL.of (by rw [upd_same, ecut]), rfl, ?_⟩
    rw [atL_sum]
    dsimp only
    rw [decide_eq_true rfl]
    exact q _ ((P5.same s6).same sl) (kk.trans (KeepD.of_same (s6.trans sl)))
end
end Fo
namespace Fo
open PySem PySem.Spec PyProof.Rows L2
/-! ### orders side by side -/
def besL (n : Nat) (xs zs : List Int) : List Int := xs ++ zs.map fun t => (n : Int) + t
theorem rg_add (n : Nat) : ∀ m : Nat, rg (n + m) = rg n ++ (rg m).map (fun t => (n : Int) + t)
  | 0 => by
    show rg n = rg n ++ []
    rw [List.append_nil]
  | m + 1 => by
    rw [show n + (m + 1) = (n + m) + 1 by omega, rg_succ, rg_add n m, rg_succ m, List.map_append, List.append_assoc]
    congr 2
theorem bes_ord {n m : Nat} {xs zs : List Int} (ox : IsOrd n xs) (oz : IsOrd m zs) : IsOrd (n + m) (besL n xs zs) := by
  unfold IsOrd besL
  rw [rg_add]
  exact List.Perm.append ox (List.Perm.map _ oz)
theorem bes_pos1 {n : Nat} {xs zs : List Int} (ox : IsOrd n xs) {t : Int} (ht : t ∈ rg n) : pos (besL n xs zs) t = pos xs t := by
  unfold pos besL
  have hm : t ∈ xs := (List.Perm.mem_iff ox).mpr ht
  rw [List.idxOf_append, if_pos hm]
theorem bes_pos2 {n m : Nat} {xs zs : List Int} (ox : IsOrd n xs) (oz : IsOrd m zs) {t : Int} (ht : t ∈ rg m) : pos (besL n xs zs) ((n : Int) + t) = (n : Int) + pos zs t := by
  have hb := rg_mem.mp ht
  obtain ⟨j, hj, ej, pj⟩ := pos_at oz hb.1 hb.2
  have e : (besL n xs zs)[n + j]? = some ((n : Int) + t) := by
    unfold besL
    rw [List.getElem?_append_right (by rw [ox.len]; omega), ox.len, show n + j - n = j by omega, List.getElem?_map, ej]
    rfl
  have g : g0 (besL n xs zs) ((n + j : Nat) : Int) = (n : Int) + t := g0_at e
  have h := pos_g0 (bes_ord ox oz) (p := ((n + j : Nat) : Int)) (rg_mem.mpr ⟨by omega, by omega⟩)
  rw [g] at h
  rw [h, pj]
  omega
theorem bes_swap {n m : Nat} {xs ys zs ws : List Int} (ox : IsOrd n xs) (oy : IsOrd n ys) (oz : IsOrd m zs) (ow : IsOrd m ws) : farSwap (besL n xs zs) (besL n ys ws) = farSwap xs ys + farSwap zs ws := by
  rw [swap_T (bes_ord ox oz) (bes_ord oy ow), swap_T ox oy, swap_T oz ow, ← Int.natCast_add]
  congr 1
  unfold swT
  rw [rg_add, sumN_append, sumN_map]
  congr 1
  · apply sumN_congr
    intro t ht
    have b1 := rg_mem.mp (pos_in ox ht)
    have b2 := rg_mem.mp (pos_in oy ht)
    rw [sumN_append, sumN_map]
    have e2 : sumN (rg m) (fun u => dT (besL n xs zs) (besL n ys ws) t ((n : Int) + u)) = 0 := by
      apply sumN_zero
      intro u hu
      have b3 := rg_mem.mp (pos_in ow hu)
      unfold dT
      rw [bes_pos1 oy ht, bes_pos2 oy ow hu, decide_eq_false (show ¬ (n : Int) + pos ws u < pos ys t by omega), Bool.and_false]
      rfl
    rw [e2, Nat.add_zero]
    apply sumN_congr
    intro u hu
    unfold dT
    rw [bes_pos1 ox ht, bes_pos1 ox hu, bes_pos1 oy ht, bes_pos1 oy hu]
  · apply sumN_congr
    intro t ht
    have b1 := rg_mem.mp (pos_in oz ht)
    rw [sumN_append, sumN_map]
    have e1 : sumN (rg n) (fun u => dT (besL n xs zs) (besL n ys ws) ((n : Int) + t) u) = 0 := by
      apply sumN_zero
      intro u hu
      have b3 := rg_mem.mp (pos_in ox hu)
      unfold dT
      rw [bes_pos1 ox hu, bes_pos2 ox oz ht, decide_eq_false (show ¬ (n : Int) + pos zs t < pos xs u by omega), Bool.false_and]
      rfl
    rw [e1, Nat.zero_add]
    apply sumN_congr
    intro u hu
    unfold dT
    rw [bes_pos2 ox oz ht, bes_pos2 ox oz hu, bes_pos2 oy ow ht, bes_pos2 oy ow hu]
    congr 1
    congr 1
    · exact decide_eq_decide.mpr (by omega)
    · exact decide_eq_decide.mpr (by omega)
theorem bes_spot {n m : Nat} {xs ys zs ws : List Int} (ox : IsOrd n xs) (oy : IsOrd n ys) (oz : IsOrd m zs) (ow : IsOrd m ws) : farSpot (besL n xs zs) (besL n ys ws) = farSpot xs ys + farSpot zs ws := by
  rw [spot_T (bes_ord ox oz) (bes_ord oy ow), spot_T ox oy, spot_T oz ow, ← Int.natCast_add]
  congr 1
  unfold spT
  rw [rg_add, sumN_append, sumN_map]
  congr 1
  · apply sumN_congr
    intro t ht
    rw [bes_pos1 ox ht, bes_pos1 oy ht]
  · apply sumN_congr
    intro t ht
    rw [bes_pos2 ox oz ht, bes_pos2 oy ow ht]
    congr 2
    exact decide_eq_decide.mpr (by omega)
theorem bes_shift {n m : Nat} {xs ys zs ws : List Int} (ox : IsOrd n xs) (oy : IsOrd n ys) (oz : IsOrd m zs) (ow : IsOrd m ws) (hn : 1 ≤ n) (hm : 1 ≤ m) {v : Int} (hv : v = farShift xs ys ∨ v = farShift zs ws) (h1 : farShift xs ys ≤ v) (h2 : farShift zs ws ≤ v) : farShift (besL n xs zs) (besL n ys ws) = v := by
  obtain ⟨⟨t1, ht1, e1⟩, l1⟩ := shift_T (ys := ys) ox hn
  obtain ⟨⟨t2, ht2, e2⟩, l2⟩ := shift_T (ys := ws) oz hm
  have d2 : ∀ t ∈ rg m, pos (besL n xs zs) ((n : Int) + t) - pos (besL n ys ws) ((n : Int) + t) = pos zs t - pos ws t := fun t ht => by
    rw [bes_pos2 ox oz ht, bes_pos2 oy ow ht]
    omega
  refine shift_of (bes_ord ox oz) ?_ fun t ht => ?_
  · rcases hv with hv | hv
    · exact ⟨t1, by rw [rg_add]; exact List.mem_append_left _ ht1, by rw [bes_pos1 ox ht1, bes_pos1 oy ht1, hv, e1]⟩
    · exact ⟨(n : Int) + t2, by rw [rg_add]; exact List.mem_append_right _ (List.mem_map.mpr ⟨t2, ht2, rfl⟩), by rw [d2 t2 ht2, hv, e2]⟩
  · rw [rg_add] at ht
    rcases List.mem_append.mp ht with h | h
    · rw [bes_pos1 ox h, bes_pos1 oy h]
      exact Int.le_trans (l1 t h) h1
    · obtain ⟨u, hu, rfl⟩ := List.mem_map.mp h
      rw [d2 u hu]
      exact Int.le_trans (l2 u hu) h2
def spTog : Sp := fun vs H Q _ => ∃ (a b : Addr) (xs zs : List Int), vs = [.ref a, .ref b] ∧ H a = some (.lst (xs.map V.int)) ∧ H b = some (.lst (zs.map V.int)) ∧ xs.length + zs.length ≤ 12 ∧ Q .non H
def spPut : Sp := fun vs H Q _ => ∃ (a b : Addr) (xs zs : List Int), vs = [.ref a, .ref b] ∧ H a = some (.lst (xs.map V.int)) ∧ H b = some (.lst (zs.map V.int)) ∧ xs.length + zs.length ≤ 12 ∧ ∀ (l : Addr) (H' : Hp), H l = none → H' l = some (.lst ((besL xs.length xs zs).map V.int)) → Same H H' → Q (.ref l) H'
def spSide : Sp := fun vs H Q _ => ∃ (a b : Addr) (n m : Nat) (xs zs : List Int), vs = [.ref a, .ref b] ∧ H a = some (.lst (xs.map V.int)) ∧ H b = some (.lst (zs.map V.int)) ∧ IsOrd n xs ∧ IsOrd m zs ∧ 1 ≤ n ∧ 1 ≤ m ∧ n + m ≤ 12 ∧ ∀ (l : Addr) (H' : Hp), H l = none → H' l = some (.lst ((besL n xs zs).map V.int)) → Same H H' → Q (.ref l) H'
section
variable {P : Program} {w : World} {K : PySem.W.Frag} {mg : Str → Option Value} {base : Heap}
theorem scTog : FnScope ["one", "other"] ["one", "other"] (defScope s_check_together) := ⟨rfl, rfl, rfl, by decide +kernel, rfl, by decide +kernel, by decide +kernel⟩
theorem ok_tog {f : Addr} {fd : FuncData} {k : Nat} {tk : Tok} (T : Df K mg "check_together" s_check_together ["one", "other"] f fd) (B : Bi mg) (mM : mg "MOST_THINGS" = some (.int 12 tk)) : FnOk P w K mg base CX0 (k + 1) f fd ["one", "other"] spTog := by
  refine T.F.ok scTog (fun vs H Q E h => ?_) (fun cdv A outer s H vs Q E hr h => ?_)
  · obtain ⟨a, b, xs, zs, rfl, _⟩ := h
    rfl
  · obtain ⟨a, b, xs, zs, rfl, ha, hb, hle, q⟩ := h
    refine ⟨_, 
      (pss_one (ps_if (pt_cmpR op_gt (pe_op op_add (pe_callB call_len_seq (by rfl) B.len PySem.boot_len (pa_cons (pv 0) pa_nil)) (pe_callB call_len_seq (by rfl) B.len PySem.boot_len (pa_cons (pv 1) pa_nil))) (pe_glob (v := .int 12) (by rfl) mM ⟨_, rfl⟩) (nomark _))
        (pss_one ps_never)
        pss_nil)), ?_⟩
    refine ⟨_, rfl, a, _, rfl, .inl (SqL.of ha), _, rfl, b, _, rfl, .inl (SqL.of hb), _, _, rfl, rfl, _, _, rfl, rfl, _, rfl, ite2 (fun z => absurd (of_decide_eq_true z) (by rw [List.length_map, List.length_map]; omega)) (fun _ => q)⟩
theorem scPut : FnScope ["one", "other", "thing"] ["one", "other"] (defScope s_put_beside) := ⟨rfl, rfl, rfl, by decide +kernel, rfl, by decide +kernel, by decide +kernel⟩
theorem ok_put {f : Addr} {fd : FuncData} {k : Nat} (T : Df K mg "put_beside" s_put_beside ["one", "other"] f fd) (B : Bi mg) : FnOk P w K mg base CX0 (k + 1) f fd ["one", "other"] spPut := by
  refine T.F.ok scPut (fun vs H Q E h => ?_) (fun cdv A outer s H vs Q E hr h => ?_)
  · obtain ⟨a, b, xs, zs, rfl, _⟩ := h
    rfl
  · obtain ⟨a, b, xs, zs, rfl, ha, hb, hle, q⟩ := h
    refine ⟨_, 
      (pss_one (ps_ret (pe_op op_cat (pv 0) (pe_lc (own := [("thing", 2)]) (g := (gName 2)) (tt := tYes) (te := (tOp (rI0 fun i j => .int (i + j)) (tCB (rLenS K) (tCons (tVar 0) tNil)) (tVar 2))) rfl scPut.nd (pi_list (pv 1)) (blkOk_by (N := ["one", "other", "thing"]) (sc := defScope s_put_beside) (by decide +kernel)) (fun _ _ _ _ _ => (pg_name (i := 2) scPut.nd rfl (.inl rfl))) (fun _ _ _ _ _ => pts_nil) (fun _ _ _ _ _ => (pe_op op_add (pe_callB call_len_seq (by rfl) B.len PySem.boot_len (pa_cons (pv 0) pa_nil)) (pv 2))))))), ?_⟩
    refine ⟨_, rfl, _, rfl, b, rfl, ⟨_, SqL.of hb⟩, fun D nD => ?_⟩
    refine lc_list (K := K) (a := b) (xs := zs.map V.int) (fun i H3 => H3 D = some (.lst (((zs.map fun t => (xs.length : Int) + t).take i).map V.int)) ∧ Same H H3) ⟨upd_same, same_new nD⟩ (fun i H3 _ hP => SqL.of (hP.2 _ _ hb)) (fun i x H3 hx hP => ?_) (fun H3 hP => ?_)
    · obtain ⟨p, ep, rfl⟩ := int_at_inv hx
      obtain ⟨hD3, sm⟩ := hP
      have hi := (List.getElem?_eq_some_iff.mp ep).1
      have em : (zs.map fun t => (xs.length : Int) + t)[i]? = some ((xs.length : Int) + p) := by rw [List.getElem?_map, ep]; rfl
      refine ⟨rfl, _, rfl, a, _, rfl, .inl (SqL.of (sm _ _ ha)), _, rfl, _, _, rfl, rfl, _, hD3, line_lt (by rw [List.length_map, List.length_take, List.length_map]; omega), ?_, fun u o e => ?_⟩
      · rw [upd_same, take_more em, List.map_append, List.length_map]
        rfl
      · rw [upd_ne (ne_of_none e nD)]
        exact sm _ _ e
    obtain ⟨hD3, sm⟩ := hP
    rw [List.take_of_length_le (by rw [List.length_map, List.length_map]; exact Nat.le_refl _)] at hD3
    refine ⟨a, D, _, _, rfl, rfl, sm _ _ ha, hD3, line_small (by rw [List.length_map, List.length_map, List.length_map]; omega), fun l nl => ?_⟩
    refine q l _ (sm.free nl) (by rw [upd_same, ← List.map_append]; rfl) (sm.trans (same_new nl))
theorem scSide : FnScope ["one", "other"] ["one", "other"] (defScope s_side_by_side) := ⟨rfl, rfl, rfl, by decide +kernel, rfl, by decide +kernel, by decide +kernel⟩
theorem ok_side {f f1 f2 f3 : Addr} {fd d1 d2 d3 : FuncData} {k : Nat} (T : Df K mg "side_by_side" s_side_by_side ["one", "other"] f fd) (T_check_orders : Df K mg "check_orders" s_check_orders ["one", "other"] f1 d1) (T_check_together : Df K mg "check_together" s_check_together ["one", "other"] f2 d2) (T_put_beside : Df K mg "put_beside" s_put_beside ["one", "other"] f3 d3) (G_check_orders : FnOk P w K mg base CX0 k f1 d1 ["one", "other"] spChecks) (G_check_together : FnOk P w K mg base CX0 k f2 d2 ["one", "other"] spTog) (G_put_beside : FnOk P w K mg base CX0 k f3 d3 ["one", "other"] spPut) : FnOk P w K mg base CX0 (k + 1) f fd ["one", "other"] spSide := by
  refine T.F.ok scSide (fun vs H Q E h => ?_) (fun cdv A outer s H vs Q E hr h => ?_)
  · obtain ⟨a, b, n, m, xs, zs, rfl, _⟩ := h
    rfl
  · obtain ⟨a, b, n, m, xs, zs, rfl, ha, hb, ox, oz, hn, hm, hle, q⟩ := h
    have hl : xs.length + zs.length ≤ 12 := by rw [ox.len, oz.len]; exact hle
    refine ⟨_, 
      (pss_cons (ps_expr (pe_call G_check_orders hr (by rfl) T_check_orders.g T_check_orders.F.kp T_check_orders.b .nil pass0 (pa_cons (pv 0) (pa_cons (pv 1) pa_nil))))
      (pss_cons (ps_expr (pe_call G_check_together hr (by rfl) T_check_together.g T_check_together.F.kp T_check_together.b .nil pass0 (pa_cons (pv 0) (pa_cons (pv 1) pa_nil))))
      (pss_one (ps_ret (pe_call G_put_beside hr (by rfl) T_put_beside.g T_put_beside.F.kp T_put_beside.b .nil pass0 (pa_cons (pv 0) (pa_cons (pv 1) pa_nil))))))), ?_⟩
    refine ⟨_, rfl, _, rfl, a, b, n, m, xs, zs, rfl, ha, hb, ox, hn, by omega, oz, hm, by omega, fun H1 s1 => ?_⟩
    refine ⟨_, rfl, _, rfl, a, b, xs, zs, rfl, s1 _ _ ha, s1 _ _ hb, hl, ?_⟩
    refine ⟨_, rfl, _, rfl, a, b, xs, zs, rfl, s1 _ _ ha, s1 _ _ hb, hl, fun l H2 nl hl2 s2 => ?_⟩
    rw [ox.len] at hl2
    exact q l H2 (s1.free nl) hl2 (s1.trans s2)
end
end Fo
namespace Fo
open PySem PySem.Spec PyProof.Rows L2
def spBes : Sp := fun vs H Q _ => ∃ (d a b : Addr) (n c : Nat) (xs ys : List Int), vs = [.ref d, .ref a, .ref b] ∧ PoolAt H d c ∧ c < 1000000 ∧ H a = some (.lst (xs.map V.int)) ∧ H b = some (.lst (ys.map V.int)) ∧ a ≠ d ∧ b ≠ d ∧ IsOrd n xs ∧ IsOrd n ys ∧ 1 ≤ n ∧ n ≤ 12 ∧ ∀ H', PoolAt H' d (c + 25) → KeepD d H H' → Q (.bl true) H'
section
variable {P : Program} {w : World} {K : PySem.W.Frag} {mg : Str → Option Value} {base : Heap}
theorem scBes : FnScope ["pool", "one", "other", "some", "others", "both", "way", "fars"] ["pool", "one", "other"] (defScope s_law_beside_right) := ⟨rfl, rfl, rfl, by decide +kernel, rfl, by decide +kernel, by decide +kernel⟩
set_option maxHeartbeats 4000000 in
theorem ok_bes {f f1 f2 f3 f4 f5 : Addr} {fd d1 d2 d3 d4 d5 : FuncData} {k : Nat} (T : Df K mg "_law_beside_right" s_law_beside_right ["pool", "one", "other"] f fd) (T__law_order : Df K mg "_law_order" s_law_order ["pool", "n"] f1 d1) (T__law_draw : Df K mg "_law_draw" s_law_draw ["pool", "many"] f2 d2) (T_side_by_side : Df K mg "side_by_side" s_side_by_side ["one", "other"] f3 d3) (T__law_far : Df K mg "_law_far" s_law_far ["way", "one", "other"] f4 d4) (T_how_far : Df K mg "how_far" s_how_far ["way", "one", "other"] f5 d5)
    (G__law_order : FnOk P w K mg base CX0 k f1 d1 ["pool", "n"] spOrdP) (G__law_draw : FnOk P w K mg base CX0 k f2 d2 ["pool", "many"] spDrawP) (G_side_by_side : FnOk P w K mg base CX0 k f3 d3 ["one", "other"] spSide) (G__law_far : FnOk P w K mg base CX0 k f4 d4 ["way", "one", "other"] spFar) (G_how_far : FnOk P w K mg base CX0 k f5 d5 ["way", "one", "other"] spFar) (B : Bi mg) :
    FnOk P w K mg base CX0 (k + 1) f fd ["pool", "one", "other"] spBes := by
  refine T.F.ok scBes (fun vs H Q E h => ?_) (fun cdv A outer s H vs Q E hr h => ?_)
  · obtain ⟨d, a, b, n, c, xs, ys, rfl, _⟩ := h
    rfl
  · obtain ⟨d, a, b, n, c, xs, ys, rfl, hP, hc, ha, hb, nad, nbd, ox, oy, hn1, hn2, q⟩ := h
    have hxl : (xs.map V.int).length = n := by rw [List.length_map, ox.len]
    refine ⟨_, 
      (pss_cons (ps_if (pt_cmpR op_gt (pe_callB call_len_seq (by rfl) B.len PySem.boot_len (pa_cons (pv 1) pa_nil)) pe_int (nomark _))
        (pss_one (ps_ret pe_bl))
        pss_nil)
      (pss_cons (ps_set (i := 3) scBes.nd rfl (.inl rfl) (pe_call G__law_order hr (by rfl) T__law_order.g T__law_order.F.kp T__law_order.b .nil pass0 (pa_cons (pv 0) (pa_cons (pe_op op_add pe_int (pe_call G__law_draw hr (by rfl) T__law_draw.g T__law_draw.F.kp T__law_draw.b .nil pass0 (pa_cons (pv 0) (pa_cons pe_int pa_nil)))) pa_nil))))
      (pss_cons (ps_set (i := 4) scBes.nd rfl (.inl rfl) (pe_call G__law_order hr (by rfl) T__law_order.g T__law_order.F.kp T__law_order.b .nil pass0 (pa_cons (pv 0) (pa_cons (pe_callB call_len_seq (by rfl) B.len PySem.boot_len (pa_cons (pv 3) pa_nil)) pa_nil))))
      (pss_cons (ps_set (i := 5) scBes.nd rfl (.inl rfl) (pe_lst (pa_cons (pe_call G_side_by_side hr (by rfl) T_side_by_side.g T_side_by_side.F.kp T_side_by_side.b .nil pass0 (pa_cons (pv 1) (pa_cons (pv 3) pa_nil))) (pa_cons (pe_call G_side_by_side hr (by rfl) T_side_by_side.g T_side_by_side.F.kp T_side_by_side.b .nil pass0 (pa_cons (pv 2) (pa_cons (pv 4) pa_nil))) pa_nil))))
      (pss_cons (ps_for PassesOwn.never rfl (pi_list (pe_lst (pa_cons pe_str (pa_cons pe_str (pa_cons pe_str pa_nil))))) (pg_name (i := 6) scBes.nd rfl (.inl rfl))
        (pss_cons (ps_set (i := 7) scBes.nd rfl (.inl rfl) (pe_lst (pa_cons (pe_call G__law_far hr (by rfl) T__law_far.g T__law_far.F.kp T__law_far.b .nil pass0 (pa_cons (pv 6) (pa_cons (pv 1) (pa_cons (pv 2) pa_nil)))) (pa_cons (pe_call G__law_far hr (by rfl) T__law_far.g T__law_far.F.kp T__law_far.b .nil pass0 (pa_cons (pv 6) (pa_cons (pv 3) (pa_cons (pv 4) pa_nil)))) pa_nil))))
        (pss_one (ps_if (pt_cmpR op_ne (pe_call G_how_far hr (by rfl) T_how_far.g T_how_far.F.kp T_how_far.b .nil pass0 (pa_cons (pv 6) (pa_cons (pe_ix ix_list (pv 5) pe_int (fun _ _ => rfl)) (pa_cons (pe_ix ix_list (pv 5) pe_int (fun _ _ => rfl)) pa_nil)))) (pe_ix ix_list (pe_lst (pa_cons (pe_callB (cr_sum rfl) (by rfl) B.sum (by decide +kernel) (pa_cons (pv 7) pa_nil)) (pa_cons (pe_callB (cr_max rfl) (by rfl) B.max (by decide +kernel) (pa_cons (pv 7) pa_nil)) pa_nil))) (pe_callTy call_int1 (by rfl) B.int (by decide +kernel) (pa_cons (pe_cmpR op_eq (pv 6) pe_str (nomark _)) pa_nil)) (fun _ _ => rfl)) (nomark _))
          (pss_one (ps_ret pe_bl))
          pss_nil))))
      (pss_one (ps_ret pe_bl))))))), ?_⟩
    refine ⟨_, rfl, a, _, rfl, .inl (SqL.of ha), _, _, rfl, rfl, _, rfl, ite2 (fun _ => ?_) (fun cn => ?_)⟩
    · exact q _ (hP.mono (by omega)) (KeepD.refl _ _)
    have hn6 : n ≤ 6 := by
      rw [hxl] at cn
      by_cases z : n ≤ 6
      · exact z
      · exact absurd (decide_eq_true (show (n : Int) > 6 by omega)) cn
    -- some
    refine ⟨_, rfl, _, rfl, d, 6, c, rfl, hP, by omega, by decide, by decide, fun v H1 v0 v1 P1 k1 => ?_⟩
    obtain ⟨mN, hmN⟩ : ∃ mN : Nat, v = (mN : Int) := ⟨v.toNat, by omega⟩
    subst hmN
    refine ⟨1, (mN : Int), rfl, rfl, d, mN + 1, c + 1, by show [V.ref d, V.int (1 + (mN : Int))] = _; rw [show (1 : Int) + (mN : Int) = ((mN + 1 : Nat) : Int) by omega], P1, by omega, by omega, by omega, fun so zs H2 nso nsd oz hso P2 k2 => ?_⟩
    have hzl : (zs.map V.int).length = mN + 1 := by rw [List.length_map, oz.len]
    -- others
    refine ⟨_, rfl, _, rfl, so, _, rfl, .inl (SqL.of hso), d, mN + 1, c + 1 + (mN + 1), by rw [hzl]; rfl, P2, by omega, by omega, by omega, fun ot ws H3 not' notd ow hot P3 k3 => ?_⟩
    have hso3 := k3 so _ hso nsd
    have kk3 : KeepD d H H3 := (k1.trans k2).trans k3
    have ha3 := kk3 a _ ha nad
    have hb3 := kk3 b _ hb nbd
    -- both
    refine ⟨_, rfl, _, rfl, a, so, n, mN + 1, xs, zs, rfl, ha3, hso3, ox, oz, hn1, by omega, by omega, fun l4 H4 n4 h4 s4 => ?_⟩
    refine ⟨_, rfl, _, rfl, b, ot, n, mN + 1, ys, ws, rfl, s4 _ _ hb3, s4 _ _ hot, oy, ow, hn1, by omega, by omega, fun l5 H5 n5 h5 s5 => ?_⟩
    refine ⟨line_small (by show 2 ≤ 16777216; decide), fun bo nbo => ?_⟩
    have s6 := same_new (o := .lst [.ref l4, .ref l5]) nbo
    have t6 := (s4.trans s5).trans s6
    have h46 := s6 _ _ (s5 _ _ h4)
    have h56 := s6 _ _ h5
    have hbo := upd_same (H := H5) (a := bo) (o := .lst [.ref l4, .ref l5])
    generalize upd H5 bo (.lst [.ref l4, .ref l5]) = H6 at s6 t6 h46 h56 hbo ⊢
    have ob1 := bes_ord ox oz
    have ob2 := bes_ord oy ow
    -- each way
    refine ⟨line_small (by show 3 ≤ 16777216; decide), fun wl nwl => ?_⟩
    have s7 := same_new (o := .lst [.str "swap", .str "spot", .str "shift"]) nwl
    refine ⟨wl, rfl, ⟨_, SqL.of upd_same⟩, ?_⟩
    refine for_list (xs := [.str "swap", .str "spot", .str "shift"]) (fun m σ H7 => ∃ (y6 y7 : Option V), σ = [some (.ref d), some (.ref a), some (.ref b), some (.ref so), some (.ref ot), some (.ref bo), y6, y7] ∧ H7 wl = some (.lst [.str "swap", .str "spot", .str "shift"]) ∧ Same H6 H7)
      ⟨_, _, rfl, upd_same, s7⟩ (fun m σ H7 _ hP => by obtain ⟨_, _, _, hw, _⟩ := hP; exact SqL.of hw) (fun m x σ H7 hx hP => ?_) (fun σ H7 hP => ?_)
    · obtain ⟨y6, y7, rfl, hw7, u7⟩ := hP
      obtain ⟨wy, rfl, hwy⟩ : ∃ wy : Str, x = .str wy ∧ IsWay wy := by
        match m, hx with
        | 0, hx => exact ⟨"swap", (Option.some.inj hx).symm, .inl rfl⟩
        | 1, hx => exact ⟨"spot", (Option.some.inj hx).symm, .inr (.inl rfl)⟩
        | 2, hx => exact ⟨"shift", (Option.some.inj hx).symm, .inr (.inr rfl)⟩
        | m + 3, hx => simp at hx
      have t7 := t6.trans u7
      -- fars
      refine ⟨_, rfl, _, rfl, _, rfl, wy, a, b, n, xs, ys, rfl, hwy, t7 _ _ ha3, t7 _ _ hb3, ox, oy, hn1, hn2, fun H8 s8 => ?_⟩
      have t8 := t7.trans s8
      refine ⟨_, rfl, _, rfl, _, rfl, wy, so, ot, mN + 1, zs, ws, rfl, hwy, t8 _ _ hso3, t8 _ _ hot, oz, ow, by omega, by omega, fun H9 s9 => ?_⟩
      have t9 := t8.trans s9
      refine ⟨line_small (by show 2 ≤ 16777216; decide), fun fl nfl => ?_⟩
      have s10 := same_new (o := .lst [.int (farW wy xs ys), .int (farW wy zs ws)]) nfl
      have hfl := upd_same (H := H9) (a := fl) (o := .lst [.int (farW wy xs ys), .int (farW wy zs ws)])
      have u10 := (((u7.trans s8).trans s9).trans s10)
      have hw10 := s10 _ _ (s9 _ _ (s8 _ _ hw7))
      generalize upd H9 fl (.lst [.int (farW wy xs ys), .int (farW wy zs ws)]) = H10 at s10 hfl u10 hw10 ⊢
      have hbo10 := u10 _ _ hbo
      -- how far both are
      refine ⟨_, rfl, _, rfl, bo, _, 0, _, rfl, rfl, SqL.of hbo10, at2_0, _, rfl, bo, _, 1, _, rfl, rfl, SqL.of hbo10, at2_1, wy, l4, l5, n + (mN + 1), _, _, rfl, hwy, u10 _ _ h46, u10 _ _ h56, ob1, ob2, by omega, by omega, fun H11 s11 => ?_⟩
      have hfl11 := s11 _ _ hfl
      have hw11 := s11 _ _ hw10
      have u11 := u10.trans s11
      refine ⟨_, rfl, fl, [farW wy xs ys, farW wy zs ws], rfl, SqL.of hfl11, _, rfl, fl, [farW wy xs ys, farW wy zs ws], rfl, SqL.of hfl11, by show 0 < 2; decide, fun mx hmx hle => ?_⟩
      have hmx2 : mx = farW wy xs ys ∨ mx = farW wy zs ws := by
        rcases List.mem_cons.mp hmx with h | h
        · exact .inl h
        · exact .inr (List.mem_singleton.mp h)
      have hle1 := hle (farW wy xs ys) (by simp)
      have hle2 := hle (farW wy zs ws) (by simp)
      refine ⟨line_small (by show 2 ≤ 16777216; decide), fun e ne => ?_⟩
      have se := same_new (o := .lst [.int ([farW wy xs ys, farW wy zs ws].sum), .int mx]) ne
      have esum : [farW wy xs ys, farW wy zs ws].sum = farW wy xs ys + farW wy zs ws := by simp
      obtain ⟨v, ev, eq⟩ : ∃ v : Int, atI [V.int ([farW wy xs ys, farW wy zs ws].sum), V.int mx] (if decide (V.str wy = V.str "shift") = true then 1 else 0) = some (.int v) ∧ farW wy (besL n xs zs) (besL n ys ws) = v := by
        rcases hwy with rfl | rfl | rfl
        · rw [decide_eq_false (fun z => n2 (V.str.inj z).symm), if_neg (by decide), esum]
          refine ⟨_, rfl, ?_⟩
          rw [farW_swap, farW_swap, farW_swap]
          exact bes_swap ox oy oz ow
        · rw [decide_eq_false (fun z => n3 (V.str.inj z).symm), if_neg (by decide), esum]
          refine ⟨_, rfl, ?_⟩
          rw [farW_spot, farW_spot, farW_spot]
          exact bes_spot ox oy oz ow
        · rw [decide_eq_true rfl, if_pos rfl]
          refine ⟨mx, rfl, ?_⟩
          rw [farW_shift, farW_shift] at hmx2
          rw [farW_shift] at hle1 hle2
          rw [farW_shift]
          exact bes_shift ox oy oz ow hn1 (by omega) hmx2 hle1 hle2
      exact ⟨_, rfl, rfl, .inr ⟨_, rfl, e, _, _, _, rfl, rfl, SqL.of upd_same, ev, rfl, _, rfl, iteNS (congrArg V.int eq) ⟨_, _, rfl, se _ _ hw11, u11.trans se⟩⟩⟩
    · obtain ⟨y6, y7, rfl, hw7, u7⟩ := hP
      exact q _ ((P3.same (t6.trans u7)).mono (by omega)) (kk3.trans (KeepD.of_same (t6.trans u7)))
end
end Fo
namespace Fo
open PySem PySem.Spec PyProof.Rows L2
def spLst : Sp := fun vs H Q _ => ∃ (d : Addr) (w : Str) (o : Addr) (r : Int) (n : Nat) (xs : List Int), vs = [.ref d, .str w, .ref o, .int r] ∧ IsWay w ∧ H o = some (.lst (xs.map V.int)) ∧ IsOrd n xs ∧ 1 ≤ n ∧ n ≤ 6 ∧ 0 ≤ r ∧ ∀ H', Same H H' → Q (.bl true) H'
section
variable {P : Program} {w : World} {K : PySem.W.Frag} {mg : Str → Option Value} {base : Heap}
theorem scLst : FnScope ["pool", "way", "one", "r", "found", "order"] ["pool", "way", "one", "r"] (defScope s_law_listed_right) := ⟨rfl, rfl, rfl, by decide +kernel, rfl, by decide +kernel, by decide +kernel⟩
set_option maxHeartbeats 2000000 in
theorem ok_lst {f f1 f2 f3 : Addr} {fd d1 d2 d3 : FuncData} {k : Nat} (T : Df K mg "_law_listed_right" s_law_listed_right ["pool", "way", "one", "r"] f fd) (T_all_within : Df K mg "all_within" s_all_within ["way", "order", "r"] f1 d1) (T_count_within : Df K mg "count_within" s_count_within ["way", "n", "r"] f2 d2) (T__law_far : Df K mg "_law_far" s_law_far ["way", "one", "other"] f3 d3) (G_all_within : FnOk P w K mg base CX0 k f1 d1 ["way", "order", "r"] spWithin) (G_count_within : FnOk P w K mg base CX0 k f2 d2 ["way", "n", "r"] spKW) (G__law_far : FnOk P w K mg base CX0 k f3 d3 ["way", "one", "other"] spFar) (B : Bi mg) :
    FnOk P w K mg base CX0 (k + 1) f fd ["pool", "way", "one", "r"] spLst := by
  refine T.F.ok scLst (fun vs H Q E h => ?_) (fun cdv A outer s H vs Q E hr h => ?_)
  · obtain ⟨d, wy, o, r, n, xs, rfl, _⟩ := h
    rfl
  · obtain ⟨d, wy, o, r, n, xs, rfl, hw, ho, ox, hn1, hn2, hr0, q⟩ := h
    have hxl : (xs.map V.int).length = n := by rw [List.length_map, ox.len]
    refine ⟨_, 
      (pss_cons (ps_set (i := 4) scLst.nd rfl (.inl rfl) (pe_call G_all_within hr (by rfl) T_all_within.g T_all_within.F.kp T_all_within.b .nil pass0 (pa_cons (pv 1) (pa_cons (pv 2) (pa_cons (pv 3) pa_nil)))))
      (pss_cons (ps_if (PW.pt (pw_or (pt_cmpR (op_neD hr.units) (pv 4) (pe_callB (cr_sortedR hr.units) (by rfl) B.sorted (by decide +kernel) (pa_cons (pv 4) pa_nil)) (nomark _)) (pw_or1 (pt_cmpR op_ne (pe_callB call_len_seq (by rfl) B.len PySem.boot_len (pa_cons (pv 4) pa_nil)) (pe_call G_count_within hr (by rfl) T_count_within.g T_count_within.F.kp T_count_within.b .nil pass0 (pa_cons (pv 1) (pa_cons (pe_callB call_len_seq (by rfl) B.len PySem.boot_len (pa_cons (pv 2) pa_nil)) (pa_cons (pv 3) pa_nil)))) (nomark _)))))
        (pss_one (ps_ret pe_bl))
        pss_nil)
      (pss_one (ps_ret (pe_cmpR (op_eqD hr.units) (pe_lc (own := [("order", 5)]) (g := (gName 5)) (tt := (tTest (tOp (rI0 fun i j => .bl (decide (j < i))) (tCall spFar [] E0 (tCons (tVar 1) (tCons (tVar 5) (tCons (tVar 2) tNil)))) (tVar 3)))) (te := (tVar 5)) rfl scLst.nd (pi_list (pv 4)) (blkOk_by (N := ["pool", "way", "one", "r", "found", "order"]) (sc := defScope s_law_listed_right) (by decide +kernel)) (fun _ _ _ _ _ => (pg_name (i := 5) scLst.nd rfl (.inl rfl))) (fun _ _ _ _ _ => (pts_one (pt_cmpR op_gt (pe_call G__law_far hr (by rfl) T__law_far.g T__law_far.F.kp T__law_far.b .nil pass0 (pa_cons (pv 1) (pa_cons (pv 5) (pa_cons (pv 2) pa_nil)))) (pv 3) (nomark _)))) (fun _ _ _ _ _ => (pv 5))) (pe_lst pa_nil) (nomark _)))))), ?_⟩
    refine ⟨_, rfl, _, rfl, _, rfl, wy, o, r, n, xs, rfl, hw, ho, ox, hn1, hn2, hr0, fun fo fs H1 nfo hfo hLf hff hnf s1 => ?_⟩
    have hfl := hLf.len
    obtain ⟨ps, e1, e2, e3⟩ := sorted_rows (K := K) hfo hLf (List.Perm.refl _) near_sorted
    refine ⟨_, rfl, _, rfl, fo, ps, rfl, e1, e2, fun l nl => ?_⟩
    obtain ⟨cs, e4, hLs, _⟩ := e3 l nl
    rw [e4]
    have s2 := same_new (o := .lst (cs.map V.ref)) nl
    refine ⟨_, _, dp_lists (s2 _ _ hfo) (hLf.same s2), dp_lists upd_same hLs, shaped_lists _, shaped_lists _, _, rfl, ?_⟩
    rw [eqv_lists]
    refine iteF ?_
    have t2 := s1.trans s2
    have hfo2 := s2 _ _ hfo
    have hLf2 := hLf.same s2
    generalize upd H1 l (.lst (cs.map V.ref)) = H2 at s2 t2 hfo2 hLf2 ⊢
    refine ⟨_, rfl, fo, _, rfl, .inl (SqL.of hfo2), _, rfl, _, rfl, o, _, rfl, .inl (SqL.of (t2 _ _ ho)), _, rfl, wy, n, r, by rw [hxl]; rfl, hw, hn1, by omega, hr0, fun H3 s3 => ?_⟩
    refine ⟨rfl, _, rfl, iteNS (congrArg V.int ?_) ?_⟩
    · rw [List.length_map, hfl]
      exact count_in hw ox hn1 hn2 hr0
    have t3 := t2.trans s3
    have hfo3 := s3 _ _ hfo2
    have hLf3 := hLf2.same s3
    refine ⟨_, rfl, fo, rfl, ⟨_, SqL.of hfo3⟩, fun D nD => ?_⟩
    refine lc_list (K := K) (a := fo) (xs := fs.map V.ref) (fun m H4 => H4 D = some (.lst (([] : List Int).map V.int)) ∧ Same H3 H4) ⟨upd_same, same_new nD⟩ (fun m H4 _ hP => SqL.of (hP.2 _ _ hfo3)) (fun m x H4 hx hP => ?_) (fun H4 hP => ?_)
    · obtain ⟨hD4, s4⟩ := hP
      obtain ⟨c, ec, rfl⟩ := ref_at_inv hx
      obtain ⟨row, erow, hrow⟩ := hLf3.get ec
      have hin := List.mem_of_getElem? erow
      unfold nearL at hin
      obtain ⟨hin1, hin2⟩ := List.mem_filter.mp hin
      have orow := all_ord hin1
      have hle : farW wy xs row ≤ r := of_decide_eq_true hin2
      refine ⟨rfl, _, rfl, _, rfl, _, rfl, wy, c, o, n, row, xs, rfl, hw, s4 _ _ hrow, (t3.trans s4) _ _ ho, orow, ox, hn1, by omega, fun H5 s5 => ?_⟩
      rw [farW_turn ox orow hn1]
      exact ⟨_, rfl, _, _, rfl, rfl, _, rfl, ite2 (fun z => absurd (of_decide_eq_true z) (by omega)) (fun _ => ⟨s5 _ _ hD4, s4.trans s5⟩)⟩
    obtain ⟨hD4, s4⟩ := hP
    refine ⟨Nat.zero_le _, fun e ne => ?_⟩
    have s5 := same_new (o := .lst []) ne
    refine ⟨dL [], dL [], dp_list (s5 _ _ hD4), dp_list (ns := []) upd_same, shaped_list _, shaped_list _, ?_⟩
    rw [eqv_list]
    exact q _ ((t3.trans s4).trans s5)
end
end Fo
namespace Fo
open PySem PySem.Spec PyProof.Rows L2
def spLaw (K : PySem.W.Frag) : Sp := fun vs H Q _ => ∃ (a : Addr) (ns : List Int), vs = [.ref a] ∧ SqL K H a (ns.map V.int) ∧ ns.length ≤ 63 ∧ ∀ H', Q (.bl true) H'
theorem same_pool {H H1 H2 : Hp} {d : Addr} (s : Same H H1) (nd : H d = none) (k : KeepD d H1 H2) : Same H H2 := fun u o e => k u o (s u o e) (ne_of_none e nd)
section
variable {P : Program} {w : World} {K : PySem.W.Frag} {mg : Str → Option Value} {base : Heap}
theorem scLaw : FnScope ["script", "pool", "n", "one", "other", "third", "way"] ["script"] (defScope s_law) := ⟨rfl, rfl, rfl, by decide +kernel, rfl, by decide +kernel, by decide +kernel⟩
set_option maxHeartbeats 2000000 in
theorem ok_law {f f1 f2 f3 f4 f5 f6 f7 f8 : Addr} {fd d1 d2 d3 d4 d5 d6 d7 d8 : FuncData} (T : Fun K "law" "law" s_law f fd) (T__law_pool : Df K mg "_law_pool" s_law_pool ["script", "k"] f1 d1) (T__law_draw : Df K mg "_law_draw" s_law_draw ["pool", "many"] f2 d2) (T__law_order : Df K mg "_law_order" s_law_order ["pool", "n"] f3 d3) (T__law_two_right : Df K mg "_law_two_right" s_law_two_right ["one", "other", "third"] f4 d4) (T__law_walks_right : Df K mg "_law_walks_right" s_law_walks_right ["one", "other"] f5 d5) (T__law_counts_right : Df K mg "_law_counts_right" s_law_counts_right ["pool", "way", "n"] f6 d6) (T__law_beside_right : Df K mg "_law_beside_right" s_law_beside_right ["pool", "one", "other"] f7 d7) (T__law_listed_right : Df K mg "_law_listed_right" s_law_listed_right ["pool", "way", "one", "r"] f8 d8)
    (G__law_pool : FnOk P w K mg base CX0 9 f1 d1 ["script", "k"] (spPool K)) (G__law_draw : FnOk P w K mg base CX0 9 f2 d2 ["pool", "many"] spDrawP) (G__law_order : FnOk P w K mg base CX0 9 f3 d3 ["pool", "n"] spOrdP) (G__law_two_right : FnOk P w K mg base CX0 9 f4 d4 ["one", "other", "third"] spTwo) (G__law_walks_right : FnOk P w K mg base CX0 9 f5 d5 ["one", "other"] spWlk) (G__law_counts_right : FnOk P w K mg base CX0 9 f6 d6 ["pool", "way", "n"] spCR) (G__law_beside_right : FnOk P w K mg base CX0 9 f7 d7 ["pool", "one", "other"] spBes) (G__law_listed_right : FnOk P w K mg base CX0 9 f8 d8 ["pool", "way", "one", "r"] spLst)
    (B : Bi mg) : FnOk P w K mg base CX0 10 f fd ["script"] (spLaw K) := by
  refine T.ok scLaw (fun vs H Q E h => ?_) (fun cdv A outer s H vs Q E hr h => ?_)
  · obtain ⟨a, ns, rfl, _⟩ := h
    rfl
  · obtain ⟨a, ns, rfl, hS, hlen, q⟩ := h
    refine ⟨_, 
      (pss_cons (ps_set (i := 1) scLaw.nd rfl (.inl rfl) (pe_call G__law_pool hr (by rfl) T__law_pool.g T__law_pool.F.kp T__law_pool.b .nil pass0 (pa_cons (pv 0) (pa_cons pe_int pa_nil))))
      (pss_cons (ps_set (i := 2) scLaw.nd rfl (.inl rfl) (pe_op op_add pe_int (pe_call G__law_draw hr (by rfl) T__law_draw.g T__law_draw.F.kp T__law_draw.b .nil pass0 (pa_cons (pv 1) (pa_cons pe_int pa_nil)))))
      (pss_cons (ps_set (i := 3) scLaw.nd rfl (.inl rfl) (pe_call G__law_order hr (by rfl) T__law_order.g T__law_order.F.kp T__law_order.b .nil pass0 (pa_cons (pe_call G__law_pool hr (by rfl) T__law_pool.g T__law_pool.F.kp T__law_pool.b .nil pass0 (pa_cons (pv 0) (pa_cons pe_int pa_nil))) (pa_cons (pv 2) pa_nil))))
      (pss_cons (ps_set (i := 4) scLaw.nd rfl (.inl rfl) (pe_call G__law_order hr (by rfl) T__law_order.g T__law_order.F.kp T__law_order.b .nil pass0 (pa_cons (pe_call G__law_pool hr (by rfl) T__law_pool.g T__law_pool.F.kp T__law_pool.b .nil pass0 (pa_cons (pv 0) (pa_cons pe_int pa_nil))) (pa_cons (pv 2) pa_nil))))
      (pss_cons (ps_set (i := 5) scLaw.nd rfl (.inl rfl) (pe_call G__law_order hr (by rfl) T__law_order.g T__law_order.F.kp T__law_order.b .nil pass0 (pa_cons (pe_call G__law_pool hr (by rfl) T__law_pool.g T__law_pool.F.kp T__law_pool.b .nil pass0 (pa_cons (pv 0) (pa_cons pe_int pa_nil))) (pa_cons (pv 2) pa_nil))))
      (pss_cons (ps_set (i := 6) scLaw.nd rfl (.inl rfl) (pe_ix ix_list (pe_lst (pa_cons pe_str (pa_cons pe_str (pa_cons pe_str pa_nil)))) (pe_call G__law_draw hr (by rfl) T__law_draw.g T__law_draw.F.kp T__law_draw.b .nil pass0 (pa_cons (pv 1) (pa_cons pe_int pa_nil))) (fun _ _ => rfl)))
      (pss_cons (ps_if (PW.pt (pw_or (pt_not (pt_val (pe_call G__law_two_right hr (by rfl) T__law_two_right.g T__law_two_right.F.kp T__law_two_right.b .nil pass0 (pa_cons (pv 3) (pa_cons (pv 4) (pa_cons (pv 5) pa_nil)))))) (pw_or1 (pt_not (pt_val (pe_call G__law_walks_right hr (by rfl) T__law_walks_right.g T__law_walks_right.F.kp T__law_walks_right.b .nil pass0 (pa_cons (pv 3) (pa_cons (pv 4) pa_nil))))))))
        (pss_one (ps_ret pe_bl))
        pss_nil)
      (pss_cons (ps_if (PW.pt (pw_or (pt_not (pt_val (pe_call G__law_counts_right hr (by rfl) T__law_counts_right.g T__law_counts_right.F.kp T__law_counts_right.b .nil pass0 (pa_cons (pv 1) (pa_cons (pv 6) (pa_cons (pv 2) pa_nil)))))) (pw_or1 (pt_not (pt_val (pe_call G__law_beside_right hr (by rfl) T__law_beside_right.g T__law_beside_right.F.kp T__law_beside_right.b .nil pass0 (pa_cons (pv 1) (pa_cons (pv 3) (pa_cons (pv 4) pa_nil)))))))))
        (pss_one (ps_ret pe_bl))
        pss_nil)
      (pss_one (ps_ret (pe_or (pe_cmpR op_gt (pv 2) pe_int (nomark _)) (pe_one (pe_call G__law_listed_right hr (by rfl) T__law_listed_right.g T__law_listed_right.F.kp T__law_listed_right.b .nil pass0 (pa_cons (pv 1) (pa_cons (pv 6) (pa_cons (pv 3) (pa_cons (pe_call G__law_draw hr (by rfl) T__law_draw.g T__law_draw.F.kp T__law_draw.b .nil pass0 (pa_cons (pv 1) (pa_cons pe_int pa_nil))) pa_nil))))))))))))))))), ?_⟩
    refine ⟨_, rfl, a, ns, 0, rfl, hS, hlen, by decide, fun d0 H1 nd0 P1 s1 => ?_⟩
    refine ⟨_, rfl, d0, 12, 5000, rfl, P1, by decide, by decide, by decide, fun v H2 v0 v1 P2 k2 => ⟨1, v, rfl, rfl, ?_⟩⟩
    obtain ⟨mN, rfl⟩ : ∃ mN : Nat, v = (mN : Int) := ⟨v.toNat, by omega⟩
    have en : (1 : Int) + (mN : Int) = ((mN + 1 : Nat) : Int) := by omega
    have t2 : Same H H2 := same_pool s1 nd0 k2
    -- one
    refine ⟨_, rfl, a, ns, 1, rfl, t2.seq hS, hlen, by decide, fun p1 H3 np1 Q3 s3 => ?_⟩
    refine ⟨_, rfl, p1, mN + 1, 5000, by show [V.ref p1, V.int (1 + (mN : Int))] = _; rw [en], Q3, by omega, by omega, by omega, fun o1 xs H4 no1 _ ox h14 _ k4 => ?_⟩
    have s4 : Same H2 H4 := same_pool s3 np1 k4
    have t4 := t2.trans s4
    have P4 := P2.same s4
    have no1d : o1 ≠ d0 := (P2.same s3).ne no1
    -- other
    refine ⟨_, rfl, a, ns, 2, rfl, t4.seq hS, hlen, by decide, fun p2 H5 np2 Q5 s5 => ?_⟩
    refine ⟨_, rfl, p2, mN + 1, 5000, by show [V.ref p2, V.int (1 + (mN : Int))] = _; rw [en], Q5, by omega, by omega, by omega, fun o2 ys H6 no2 _ oy h26 _ k6 => ?_⟩
    have s6 : Same H4 H6 := same_pool s5 np2 k6
    have t6 := t4.trans s6
    have P6 := P4.same s6
    have no2d : o2 ≠ d0 := (P4.same s5).ne no2
    -- third
    refine ⟨_, rfl, a, ns, 3, rfl, t6.seq hS, hlen, by decide, fun p3 H7 np3 Q7 s7 => ?_⟩
    refine ⟨_, rfl, p3, mN + 1, 5000, by show [V.ref p3, V.int (1 + (mN : Int))] = _; rw [en], Q7, by omega, by omega, by omega, fun o3 zs H8 no3 _ oz h38 _ k8 => ?_⟩
    have s8 : Same H6 H8 := same_pool s7 np3 k8
    have P8 := P6.same s8
    have h18 := s8 _ _ (s6 _ _ h14)
    have h28 := s8 _ _ h26
    have no3d : o3 ≠ d0 := (P6.same s7).ne no3
    -- way
    refine ⟨line_small (by show 3 ≤ 16777216; decide), fun wl nwl => ?_⟩
    have s9 := same_new (o := .lst [.str "swap", .str "spot", .str "shift"]) nwl
    have nwd := P8.ne nwl
    refine ⟨_, rfl, d0, 3, 5001, rfl, P8.same s9, by decide, by decide, by decide, fun u H10 u0 u1 P10 k10 => ?_⟩
    have hwl := k10 _ _ (upd_same (H := H8) (a := wl) (o := .lst [.str "swap", .str "spot", .str "shift"])) nwd
    obtain ⟨wy, ewy, hwy⟩ : ∃ wy : Str, atI [V.str "swap", V.str "spot", V.str "shift"] u = some (.str wy) ∧ IsWay wy := by
      have hu : u = 0 ∨ u = 1 ∨ u = 2 := by omega
      rcases hu with rfl | rfl | rfl
      · exact ⟨_, at3_0, .inl rfl⟩
      · exact ⟨_, at3_1, .inr (.inl rfl)⟩
      · exact ⟨_, at3_2, .inr (.inr rfl)⟩
    refine ⟨wl, _, u, _, rfl, rfl, SqL.of hwl, ewy, ?_⟩
    have h110 := k10 _ _ (s9 _ _ h18) no1d
    have h210 := k10 _ _ (s9 _ _ h28) no2d
    have h310 := k10 _ _ (s9 _ _ h38) no3d
    -- all that is asked
    refine ⟨_, rfl, _, rfl, _, rfl, o1, o2, o3, mN + 1, xs, ys, zs, rfl, h110, h210, h310, ox, oy, oz, by omega, by omega, fun H11 s11 => ⟨_, rfl, iteF ?_⟩⟩
    refine ⟨_, rfl, _, rfl, o1, o2, mN + 1, xs, ys, ⟨rfl, s11 _ _ h110, s11 _ _ h210, ox, oy, by omega, by omega⟩, fun H12 s12 => ⟨_, rfl, iteF ?_⟩⟩
    have u12 := s11.trans s12
    refine ⟨_, rfl, _, rfl, _, rfl, d0, wy, mN + 1, 5002, by show [V.ref d0, V.str wy, V.int (1 + (mN : Int))] = _; rw [en], P10.same u12, by decide, hwy, by omega, by omega, fun H13 P13 k13 => ⟨_, rfl, iteF ?_⟩⟩
    have h113 := k13 _ _ (u12 _ _ h110) no1d
    have h213 := k13 _ _ (u12 _ _ h210) no2d
    refine ⟨_, rfl, _, rfl, _, rfl, d0, o1, o2, mN + 1, 5003, xs, ys, rfl, P13, by decide, h113, h213, no1d, no2d, ox, oy, by omega, by omega, fun H14 P14 k14 => ⟨_, rfl, iteF ?_⟩⟩
    have h114 := k14 _ _ h113 no1d
    refine ⟨_, rfl, 1 + (mN : Int), 6, rfl, rfl, _, rfl, ite2 (fun c => ?_) (fun c => ?_)⟩
    · exact q _
    have hn6 : mN + 1 ≤ 6 := by
      by_cases z : mN + 1 ≤ 6
      · exact z
      · exact absurd (decide_eq_true (show 1 + (mN : Int) > 6 by omega)) c
    refine ⟨_, rfl, _, rfl, _, rfl, _, rfl, d0, 8, 5028, rfl, P14, by decide, by decide, by decide, fun r H15 r0 r1 _ k15 => ?_⟩
    exact ⟨d0, wy, o1, r, mN + 1, xs, rfl, hwy, k15 _ _ h114 no1d, ox, by omega, hn6, r0, fun H16 _ => q _⟩
end
end Fo
--LAWCALL ok_law F_law T__law_pool T__law_draw T__law_order T__law_two_right T__law_walks_right T__law_counts_right T__law_beside_right T__law_listed_right (ok_pool (k := 8) T__law_pool B) (ok_drawP (k := 8) T__law_draw B) (ok_ordP (k := 8) T__law_order T__law_draw (ok_drawP (k := 7) T__law_draw B) B) (ok_two (k := 8) T__law_two_right T__law_far T_order_behind T_how_far T_back_of (ok_law_far (k := 7) T__law_far B) (ok_behind (k := 6) T_order_behind T_check_orders T_check_fit (ok_checks (k := 6) T_check_orders T_check_order (ok_check (k := 3) T_check_order T_is_order T_is_whole B m_MOST_THINGS)) B) (ok_far (k := 7) T_how_far T_check_orders T_check_way T_check_fit T_known_far (ok_checks (k := 6) T_check_orders T_check_order (ok_check (k := 3) T_check_order T_is_order T_is_whole B m_MOST_THINGS)) (ok_way (k := 6) T_check_way m_WAYS B) (ok_fit (k := 6) T_check_fit B) (ok_known (k := 6) T_known_far T_far_by_swap T_far_by_spot T_far_by_shift (ok_swap (k := 5) T_far_by_swap T_seats_in (ok_seats (k := 3) T_seats_in T_places_in B) B) (ok_spot (k := 5) T_far_by_spot B) (ok_shift (k := 5) T_far_by_shift T_seats_in (ok_seats (k := 3) T_seats_in T_places_in B) B))) (ok_back (k := 6) T_back_of T_check_order T_places_in (ok_check (k := 4) T_check_order T_is_order T_is_whole B m_MOST_THINGS) B) B) (ok_wlk (k := 8) T__law_walks_right T_short_walk T_walk_end T__law_far T_rounds_between T_steps_between (ok_short (k := 6) T_short_walk T_check_orders T_check_fit T_seats_in T_first_turned T_exchange (ok_checks (k := 6) T_check_orders T_check_order (ok_check (k := 3) T_check_order T_is_order T_is_whole B m_MOST_THINGS)) (ok_seats (k := 5) T_seats_in T_places_in B) B) (ok_walk_end (k := 4) T_walk_end T_check_order T_is_order T_is_whole T_is_walk T_exchange B m_MOST_THINGS) (ok_law_far (k := 7) T__law_far B) (ok_rounds (k := 6) T_rounds_between T_check_orders T_check_fit T_followers_between T_round_from (ok_checks (k := 6) T_check_orders T_check_order (ok_check (k := 3) T_check_order T_is_order T_is_whole B m_MOST_THINGS)) B) (ok_steps (k := 7) T_steps_between T_rounds_between (ok_rounds (k := 5) T_rounds_between T_check_orders T_check_fit T_followers_between T_round_from (ok_checks (k := 5) T_check_orders T_check_order (ok_check (k := 2) T_check_order T_is_order T_is_whole B m_MOST_THINGS)) B) B) B) (ok_cr (k := 8) T__law_counts_right T_count_within T_count_at T__law_draw (ok_cw (k := 7) T_count_within T_check_count T_known_within (ok_count (k := 4) T_check_count T_check_way T_check_size T_check_from T_is_whole m_WAYS B m_MOST_THINGS) (ok_kw (k := 4) T_known_within T_swap_counts T_spot_counts T_shift_within T_swap_counts_with_one_more T_count_all_moved T_things_near T_one_place_further B)) (ok_ca (k := 7) T_count_at T_check_count T_known_within (ok_count (k := 4) T_check_count T_check_way T_check_size T_check_from T_is_whole m_WAYS B m_MOST_THINGS) (ok_kw (k := 4) T_known_within T_swap_counts T_spot_counts T_shift_within T_swap_counts_with_one_more T_count_all_moved T_things_near T_one_place_further B)) (ok_drawP (k := 7) T__law_draw B) B) (ok_bes (k := 8) T__law_beside_right T__law_order T__law_draw T_side_by_side T__law_far T_how_far (ok_ordP (k := 7) T__law_order T__law_draw (ok_drawP (k := 6) T__law_draw B) B) (ok_drawP (k := 7) T__law_draw B) (ok_side (k := 7) T_side_by_side T_check_orders T_check_together T_put_beside (ok_checks (k := 6) T_check_orders T_check_order (ok_check (k := 3) T_check_order T_is_order T_is_whole B m_MOST_THINGS)) (ok_tog (k := 6) T_check_together B m_MOST_THINGS) (ok_put (k := 6) T_put_beside B)) (ok_law_far (k := 7) T__law_far B) (ok_far (k := 7) T_how_far T_check_orders T_check_way T_check_fit T_known_far (ok_checks (k := 6) T_check_orders T_check_order (ok_check (k := 3) T_check_order T_is_order T_is_whole B m_MOST_THINGS)) (ok_way (k := 6) T_check_way m_WAYS B) (ok_fit (k := 6) T_check_fit B) (ok_known (k := 6) T_known_far T_far_by_swap T_far_by_spot T_far_by_shift (ok_swap (k := 5) T_far_by_swap T_seats_in (ok_seats (k := 3) T_seats_in T_places_in B) B) (ok_spot (k := 5) T_far_by_spot B) (ok_shift (k := 5) T_far_by_shift T_seats_in (ok_seats (k := 3) T_seats_in T_places_in B) B))) B) (ok_lst (k := 8) T__law_listed_right T_all_within T_count_within T__law_far (ok_within (k := 7) T_all_within T_check_order T_check_way T_check_from T_all_orders T_known_far T_check_listed (ok_check (k := 4) T_check_order T_is_order T_is_whole B m_MOST_THINGS) (ok_way (k := 6) T_check_way m_WAYS B) (ok_from (k := 5) T_check_from T_is_whole B) (ok_all_orders (k := 5) T_all_orders T_orders_with B) (ok_known (k := 6) T_known_far T_far_by_swap T_far_by_spot T_far_by_shift (ok_swap (k := 5) T_far_by_swap T_seats_in (ok_seats (k := 3) T_seats_in T_places_in B) B) (ok_spot (k := 5) T_far_by_spot B) (ok_shift (k := 5) T_far_by_shift T_seats_in (ok_seats (k := 3) T_seats_in T_places_in B) B)) (ok_listed (k := 6) T_check_listed B m_MOST_LISTED) B) (ok_cw (k := 7) T_count_within T_check_count T_known_within (ok_count (k := 4) T_check_count T_check_way T_check_size T_check_from T_is_whole m_WAYS B m_MOST_THINGS) (ok_kw (k := 4) T_known_within T_swap_counts T_spot_counts T_shift_within T_swap_counts_with_one_more T_count_all_moved T_things_near T_one_place_further B)) (ok_law_far (k := 7) T__law_far B) B) B
namespace Fo
open PySem PySem.Spec PyProof.Rows L2
set_option maxHeartbeats 8000000 in
theorem all_mk {l : PySem.W.OpenLaw} {w : World} {K : PySem.W.Frag} {h : Heap} {mg : Str → Option Value} {fa : Addr} (X : K.In h) (G : h.Ns mainGlobals mg) (hfa : mg "law" = some (.ref fa))
    {f0 f1 f2 f3 f4 f5 f6 f7 f8 f9 f10 f11 f12 f13 f14 f15 f16 f17 f18 f19 f20 f21 f22 f23 f24 f25 f26 f27 f28 f29 f30 f31 f32 f33 f34 f35 f36 f37 f38 f39 f40 f41 f42 f43 f44 f45 f46 f47 f48 f49 f50 f51 f52 f53 : Addr} {od0 an0 od1 an1 od2 an2 od3 an3 od4 an4 od5 an5 od6 an6 od7 an7 od8 an8 od9 an9 od10 an10 od11 an11 od12 an12 od13 an13 od14 an14 od15 an15 od16 an16 od17 an17 od18 an18 od19 an19 od20 an20 od21 an21 od22 an22 od23 an23 od24 an24 od25 an25 od26 an26 od27 an27 od28 an28 od29 an29 od30 an30 od31 an31 od32 an32 od33 an33 od34 an34 od35 an35 od36 an36 od37 an37 od38 an38 od39 an39 od40 an40 od41 an41 od42 an42 od43 an43 od44 an44 od45 an45 od46 an46 od47 an47 od48 an48 od49 an49 od50 an50 od51 an51 od52 an52 od53 an53 : Option Addr} {sl0 sl1 sl2 sl3 sl4 sl5 sl6 sl7 sl8 sl9 sl10 sl11 sl12 sl13 sl14 sl15 sl16 sl17 sl18 sl19 sl20 sl21 sl22 sl23 sl24 sl25 sl26 sl27 sl28 sl29 sl30 sl31 sl32 sl33 sl34 sl35 sl36 sl37 sl38 sl39 sl40 sl41 sl42 sl43 sl44 sl45 sl46 sl47 sl48 sl49 sl50 sl51 sl52 sl53 : Array (Option Value)} {oc0 kV0 dc0 pm0 cd0 ct0 oc1 kV1 dc1 pm1 cd1 ct1 oc2 kV2 dc2 pm2 cd2 ct2 oc3 kV3 dc3 pm3 cd3 ct3 oc4 kV4 dc4 pm4 cd4 ct4 oc5 kV5 dc5 pm5 cd5 ct5 oc6 kV6 dc6 pm6 cd6 ct6 oc7 kV7 dc7 pm7 cd7 ct7 oc8 kV8 dc8 pm8 cd8 ct8 oc9 kV9 dc9 pm9 cd9 ct9 oc10 kV10 dc10 pm10 cd10 ct10 oc11 kV11 dc11 pm11 cd11 ct11 oc12 kV12 dc12 pm12 cd12 ct12 oc13 kV13 dc13 pm13 cd13 ct13 oc14 kV14 dc14 pm14 cd14 ct14 oc15 kV15 dc15 pm15 cd15 ct15 oc16 kV16 dc16 pm16 cd16 ct16 oc17 kV17 dc17 pm17 cd17 ct17 oc18 kV18 dc18 pm18 cd18 ct18 oc19 kV19 dc19 pm19 cd19 ct19 oc20 kV20 dc20 pm20 cd20 ct20 oc21 kV21 dc21 pm21 cd21 ct21 oc22 kV22 dc22 pm22 cd22 ct22 oc23 kV23 dc23 pm23 cd23 ct23 oc24 kV24 dc24 pm24 cd24 ct24 oc25 kV25 dc25 pm25 cd25 ct25 oc26 kV26 dc26 pm26 cd26 ct26 oc27 kV27 dc27 pm27 cd27 ct27 oc28 kV28 dc28 pm28 cd28 ct28 oc29 kV29 dc29 pm29 cd29 ct29 oc30 kV30 dc30 pm30 cd30 ct30 oc31 kV31 dc31 pm31 cd31 ct31 oc32 kV32 dc32 pm32 cd32 ct32 oc33 kV33 dc33 pm33 cd33 ct33 oc34 kV34 dc34 pm34 cd34 ct34 oc35 kV35 dc35 pm35 cd35 ct35 oc36 kV36 dc36 pm36 cd36 ct36 oc37 kV37 dc37 pm37 cd37 ct37 oc38 kV38 dc38 pm38 cd38 ct38 oc39 kV39 dc39 pm39 cd39 ct39 oc40 kV40 dc40 pm40 cd40 ct40 oc41 kV41 dc41 pm41 cd41 ct41 oc42 kV42 dc42 pm42 cd42 ct42 oc43 kV43 dc43 pm43 cd43 ct43 oc44 kV44 dc44 pm44 cd44 ct44 oc45 kV45 dc45 pm45 cd45 ct45 oc46 kV46 dc46 pm46 cd46 ct46 oc47 kV47 dc47 pm47 cd47 ct47 oc48 kV48 dc48 pm48 cd48 ct48 oc49 kV49 dc49 pm49 cd49 ct49 oc50 kV50 dc50 pm50 cd50 ct50 oc51 kV51 dc51 pm51 cd51 ct51 oc52 kV52 dc52 pm52 cd52 ct52 oc53 kV53 dc53 pm53 cd53 ct53 : Value} {tk_MOST_THINGS tk_MOST_LISTED : Tok} {aW : Addr} {ddW : Option Addr} {nW : Nat} {tW1 tW2 tW3 : Tok} {slW : Array (Option Value)}
    (a0 : PySem.W.nsIn K mainGlobals "is_whole" = some (some (.ref f0))) (l0 : K.lookup f0 = some ⟨oc0, od0, .func (PySem.W.fnOf "is_whole" "is_whole" (defArgs s_is_whole) (defBody s_is_whole) (defScope s_is_whole) .none kV0 dc0 pm0 an0 cd0 ct0), sl0⟩) (c0 : PySem.W.codeIn K cd0 "is_whole" = true) (k0 : PySem.W.keepIn K (.ref f0) = true)
    (a1 : PySem.W.nsIn K mainGlobals "check_way" = some (some (.ref f1))) (l1 : K.lookup f1 = some ⟨oc1, od1, .func (PySem.W.fnOf "check_way" "check_way" (defArgs s_check_way) (defBody s_check_way) (defScope s_check_way) .none kV1 dc1 pm1 an1 cd1 ct1), sl1⟩) (c1 : PySem.W.codeIn K cd1 "check_way" = true) (k1 : PySem.W.keepIn K (.ref f1) = true)
    (a2 : PySem.W.nsIn K mainGlobals "check_from" = some (some (.ref f2))) (l2 : K.lookup f2 = some ⟨oc2, od2, .func (PySem.W.fnOf "check_from" "check_from" (defArgs s_check_from) (defBody s_check_from) (defScope s_check_from) .none kV2 dc2 pm2 an2 cd2 ct2), sl2⟩) (c2 : PySem.W.codeIn K cd2 "check_from" = true) (k2 : PySem.W.keepIn K (.ref f2) = true)
    (a3 : PySem.W.nsIn K mainGlobals "check_size" = some (some (.ref f3))) (l3 : K.lookup f3 = some ⟨oc3, od3, .func (PySem.W.fnOf "check_size" "check_size" (defArgs s_check_size) (defBody s_check_size) (defScope s_check_size) .none kV3 dc3 pm3 an3 cd3 ct3), sl3⟩) (c3 : PySem.W.codeIn K cd3 "check_size" = true) (k3 : PySem.W.keepIn K (.ref f3) = true)
    (a4 : PySem.W.nsIn K mainGlobals "is_order" = some (some (.ref f4))) (l4 : K.lookup f4 = some ⟨oc4, od4, .func (PySem.W.fnOf "is_order" "is_order" (defArgs s_is_order) (defBody s_is_order) (defScope s_is_order) .none kV4 dc4 pm4 an4 cd4 ct4), sl4⟩) (c4 : PySem.W.codeIn K cd4 "is_order" = true) (k4 : PySem.W.keepIn K (.ref f4) = true)
    (a5 : PySem.W.nsIn K mainGlobals "check_order" = some (some (.ref f5))) (l5 : K.lookup f5 = some ⟨oc5, od5, .func (PySem.W.fnOf "check_order" "check_order" (defArgs s_check_order) (defBody s_check_order) (defScope s_check_order) .none kV5 dc5 pm5 an5 cd5 ct5), sl5⟩) (c5 : PySem.W.codeIn K cd5 "check_order" = true) (k5 : PySem.W.keepIn K (.ref f5) = true)
    (a6 : PySem.W.nsIn K mainGlobals "check_orders" = some (some (.ref f6))) (l6 : K.lookup f6 = some ⟨oc6, od6, .func (PySem.W.fnOf "check_orders" "check_orders" (defArgs s_check_orders) (defBody s_check_orders) (defScope s_check_orders) .none kV6 dc6 pm6 an6 cd6 ct6), sl6⟩) (c6 : PySem.W.codeIn K cd6 "check_orders" = true) (k6 : PySem.W.keepIn K (.ref f6) = true)
    (a7 : PySem.W.nsIn K mainGlobals "check_fit" = some (some (.ref f7))) (l7 : K.lookup f7 = some ⟨oc7, od7, .func (PySem.W.fnOf "check_fit" "check_fit" (defArgs s_check_fit) (defBody s_check_fit) (defScope s_check_fit) .none kV7 dc7 pm7 an7 cd7 ct7), sl7⟩) (c7 : PySem.W.codeIn K cd7 "check_fit" = true) (k7 : PySem.W.keepIn K (.ref f7) = true)
    (a8 : PySem.W.nsIn K mainGlobals "check_listed" = some (some (.ref f8))) (l8 : K.lookup f8 = some ⟨oc8, od8, .func (PySem.W.fnOf "check_listed" "check_listed" (defArgs s_check_listed) (defBody s_check_listed) (defScope s_check_listed) .none kV8 dc8 pm8 an8 cd8 ct8), sl8⟩) (c8 : PySem.W.codeIn K cd8 "check_listed" = true) (k8 : PySem.W.keepIn K (.ref f8) = true)
    (a9 : PySem.W.nsIn K mainGlobals "back_of" = some (some (.ref f9))) (l9 : K.lookup f9 = some ⟨oc9, od9, .func (PySem.W.fnOf "back_of" "back_of" (defArgs s_back_of) (defBody s_back_of) (defScope s_back_of) .none kV9 dc9 pm9 an9 cd9 ct9), sl9⟩) (c9 : PySem.W.codeIn K cd9 "back_of" = true) (k9 : PySem.W.keepIn K (.ref f9) = true)
    (a10 : PySem.W.nsIn K mainGlobals "places_in" = some (some (.ref f10))) (l10 : K.lookup f10 = some ⟨oc10, od10, .func (PySem.W.fnOf "places_in" "places_in" (defArgs s_places_in) (defBody s_places_in) (defScope s_places_in) .none kV10 dc10 pm10 an10 cd10 ct10), sl10⟩) (c10 : PySem.W.codeIn K cd10 "places_in" = true) (k10 : PySem.W.keepIn K (.ref f10) = true)
    (a11 : PySem.W.nsIn K mainGlobals "order_behind" = some (some (.ref f11))) (l11 : K.lookup f11 = some ⟨oc11, od11, .func (PySem.W.fnOf "order_behind" "order_behind" (defArgs s_order_behind) (defBody s_order_behind) (defScope s_order_behind) .none kV11 dc11 pm11 an11 cd11 ct11), sl11⟩) (c11 : PySem.W.codeIn K cd11 "order_behind" = true) (k11 : PySem.W.keepIn K (.ref f11) = true)
    (a12 : PySem.W.nsIn K mainGlobals "seats_in" = some (some (.ref f12))) (l12 : K.lookup f12 = some ⟨oc12, od12, .func (PySem.W.fnOf "seats_in" "seats_in" (defArgs s_seats_in) (defBody s_seats_in) (defScope s_seats_in) .none kV12 dc12 pm12 an12 cd12 ct12), sl12⟩) (c12 : PySem.W.codeIn K cd12 "seats_in" = true) (k12 : PySem.W.keepIn K (.ref f12) = true)
    (a13 : PySem.W.nsIn K mainGlobals "how_far" = some (some (.ref f13))) (l13 : K.lookup f13 = some ⟨oc13, od13, .func (PySem.W.fnOf "how_far" "how_far" (defArgs s_how_far) (defBody s_how_far) (defScope s_how_far) .none kV13 dc13 pm13 an13 cd13 ct13), sl13⟩) (c13 : PySem.W.codeIn K cd13 "how_far" = true) (k13 : PySem.W.keepIn K (.ref f13) = true)
    (a14 : PySem.W.nsIn K mainGlobals "known_far" = some (some (.ref f14))) (l14 : K.lookup f14 = some ⟨oc14, od14, .func (PySem.W.fnOf "known_far" "known_far" (defArgs s_known_far) (defBody s_known_far) (defScope s_known_far) .none kV14 dc14 pm14 an14 cd14 ct14), sl14⟩) (c14 : PySem.W.codeIn K cd14 "known_far" = true) (k14 : PySem.W.keepIn K (.ref f14) = true)
    (a15 : PySem.W.nsIn K mainGlobals "far_by_swap" = some (some (.ref f15))) (l15 : K.lookup f15 = some ⟨oc15, od15, .func (PySem.W.fnOf "far_by_swap" "far_by_swap" (defArgs s_far_by_swap) (defBody s_far_by_swap) (defScope s_far_by_swap) .none kV15 dc15 pm15 an15 cd15 ct15), sl15⟩) (c15 : PySem.W.codeIn K cd15 "far_by_swap" = true) (k15 : PySem.W.keepIn K (.ref f15) = true)
    (a16 : PySem.W.nsIn K mainGlobals "far_by_spot" = some (some (.ref f16))) (l16 : K.lookup f16 = some ⟨oc16, od16, .func (PySem.W.fnOf "far_by_spot" "far_by_spot" (defArgs s_far_by_spot) (defBody s_far_by_spot) (defScope s_far_by_spot) .none kV16 dc16 pm16 an16 cd16 ct16), sl16⟩) (c16 : PySem.W.codeIn K cd16 "far_by_spot" = true) (k16 : PySem.W.keepIn K (.ref f16) = true)
    (a17 : PySem.W.nsIn K mainGlobals "far_by_shift" = some (some (.ref f17))) (l17 : K.lookup f17 = some ⟨oc17, od17, .func (PySem.W.fnOf "far_by_shift" "far_by_shift" (defArgs s_far_by_shift) (defBody s_far_by_shift) (defScope s_far_by_shift) .none kV17 dc17 pm17 an17 cd17 ct17), sl17⟩) (c17 : PySem.W.codeIn K cd17 "far_by_shift" = true) (k17 : PySem.W.keepIn K (.ref f17) = true)
    (a18 : PySem.W.nsIn K mainGlobals "all_orders" = some (some (.ref f18))) (l18 : K.lookup f18 = some ⟨oc18, od18, .func (PySem.W.fnOf "all_orders" "all_orders" (defArgs s_all_orders) (defBody s_all_orders) (defScope s_all_orders) .none kV18 dc18 pm18 an18 cd18 ct18), sl18⟩) (c18 : PySem.W.codeIn K cd18 "all_orders" = true) (k18 : PySem.W.keepIn K (.ref f18) = true)
    (a19 : PySem.W.nsIn K mainGlobals "orders_with" = some (some (.ref f19))) (l19 : K.lookup f19 = some ⟨oc19, od19, .func (PySem.W.fnOf "orders_with" "orders_with" (defArgs s_orders_with) (defBody s_orders_with) (defScope s_orders_with) .none kV19 dc19 pm19 an19 cd19 ct19), sl19⟩) (c19 : PySem.W.codeIn K cd19 "orders_with" = true) (k19 : PySem.W.keepIn K (.ref f19) = true)
    (a20 : PySem.W.nsIn K mainGlobals "side_by_side" = some (some (.ref f20))) (l20 : K.lookup f20 = some ⟨oc20, od20, .func (PySem.W.fnOf "side_by_side" "side_by_side" (defArgs s_side_by_side) (defBody s_side_by_side) (defScope s_side_by_side) .none kV20 dc20 pm20 an20 cd20 ct20), sl20⟩) (c20 : PySem.W.codeIn K cd20 "side_by_side" = true) (k20 : PySem.W.keepIn K (.ref f20) = true)
    (a21 : PySem.W.nsIn K mainGlobals "check_together" = some (some (.ref f21))) (l21 : K.lookup f21 = some ⟨oc21, od21, .func (PySem.W.fnOf "check_together" "check_together" (defArgs s_check_together) (defBody s_check_together) (defScope s_check_together) .none kV21 dc21 pm21 an21 cd21 ct21), sl21⟩) (c21 : PySem.W.codeIn K cd21 "check_together" = true) (k21 : PySem.W.keepIn K (.ref f21) = true)
    (a22 : PySem.W.nsIn K mainGlobals "put_beside" = some (some (.ref f22))) (l22 : K.lookup f22 = some ⟨oc22, od22, .func (PySem.W.fnOf "put_beside" "put_beside" (defArgs s_put_beside) (defBody s_put_beside) (defScope s_put_beside) .none kV22 dc22 pm22 an22 cd22 ct22), sl22⟩) (c22 : PySem.W.codeIn K cd22 "put_beside" = true) (k22 : PySem.W.keepIn K (.ref f22) = true)
    (a23 : PySem.W.nsIn K mainGlobals "is_walk" = some (some (.ref f23))) (l23 : K.lookup f23 = some ⟨oc23, od23, .func (PySem.W.fnOf "is_walk" "is_walk" (defArgs s_is_walk) (defBody s_is_walk) (defScope s_is_walk) .none kV23 dc23 pm23 an23 cd23 ct23), sl23⟩) (c23 : PySem.W.codeIn K cd23 "is_walk" = true) (k23 : PySem.W.keepIn K (.ref f23) = true)
    (a24 : PySem.W.nsIn K mainGlobals "walk_end" = some (some (.ref f24))) (l24 : K.lookup f24 = some ⟨oc24, od24, .func (PySem.W.fnOf "walk_end" "walk_end" (defArgs s_walk_end) (defBody s_walk_end) (defScope s_walk_end) .none kV24 dc24 pm24 an24 cd24 ct24), sl24⟩) (c24 : PySem.W.codeIn K cd24 "walk_end" = true) (k24 : PySem.W.keepIn K (.ref f24) = true)
    (a25 : PySem.W.nsIn K mainGlobals "exchange" = some (some (.ref f25))) (l25 : K.lookup f25 = some ⟨oc25, od25, .func (PySem.W.fnOf "exchange" "exchange" (defArgs s_exchange) (defBody s_exchange) (defScope s_exchange) .none kV25 dc25 pm25 an25 cd25 ct25), sl25⟩) (c25 : PySem.W.codeIn K cd25 "exchange" = true) (k25 : PySem.W.keepIn K (.ref f25) = true)
    (a26 : PySem.W.nsIn K mainGlobals "short_walk" = some (some (.ref f26))) (l26 : K.lookup f26 = some ⟨oc26, od26, .func (PySem.W.fnOf "short_walk" "short_walk" (defArgs s_short_walk) (defBody s_short_walk) (defScope s_short_walk) .none kV26 dc26 pm26 an26 cd26 ct26), sl26⟩) (c26 : PySem.W.codeIn K cd26 "short_walk" = true) (k26 : PySem.W.keepIn K (.ref f26) = true)
    (a27 : PySem.W.nsIn K mainGlobals "first_turned" = some (some (.ref f27))) (l27 : K.lookup f27 = some ⟨oc27, od27, .func (PySem.W.fnOf "first_turned" "first_turned" (defArgs s_first_turned) (defBody s_first_turned) (defScope s_first_turned) .none kV27 dc27 pm27 an27 cd27 ct27), sl27⟩) (c27 : PySem.W.codeIn K cd27 "first_turned" = true) (k27 : PySem.W.keepIn K (.ref f27) = true)
    (a28 : PySem.W.nsIn K mainGlobals "rounds_between" = some (some (.ref f28))) (l28 : K.lookup f28 = some ⟨oc28, od28, .func (PySem.W.fnOf "rounds_between" "rounds_between" (defArgs s_rounds_between) (defBody s_rounds_between) (defScope s_rounds_between) .none kV28 dc28 pm28 an28 cd28 ct28), sl28⟩) (c28 : PySem.W.codeIn K cd28 "rounds_between" = true) (k28 : PySem.W.keepIn K (.ref f28) = true)
    (a29 : PySem.W.nsIn K mainGlobals "followers_between" = some (some (.ref f29))) (l29 : K.lookup f29 = some ⟨oc29, od29, .func (PySem.W.fnOf "followers_between" "followers_between" (defArgs s_followers_between) (defBody s_followers_between) (defScope s_followers_between) .none kV29 dc29 pm29 an29 cd29 ct29), sl29⟩) (c29 : PySem.W.codeIn K cd29 "followers_between" = true) (k29 : PySem.W.keepIn K (.ref f29) = true)
    (a30 : PySem.W.nsIn K mainGlobals "round_from" = some (some (.ref f30))) (l30 : K.lookup f30 = some ⟨oc30, od30, .func (PySem.W.fnOf "round_from" "round_from" (defArgs s_round_from) (defBody s_round_from) (defScope s_round_from) .none kV30 dc30 pm30 an30 cd30 ct30), sl30⟩) (c30 : PySem.W.codeIn K cd30 "round_from" = true) (k30 : PySem.W.keepIn K (.ref f30) = true)
    (a31 : PySem.W.nsIn K mainGlobals "steps_between" = some (some (.ref f31))) (l31 : K.lookup f31 = some ⟨oc31, od31, .func (PySem.W.fnOf "steps_between" "steps_between" (defArgs s_steps_between) (defBody s_steps_between) (defScope s_steps_between) .none kV31 dc31 pm31 an31 cd31 ct31), sl31⟩) (c31 : PySem.W.codeIn K cd31 "steps_between" = true) (k31 : PySem.W.keepIn K (.ref f31) = true)
    (a32 : PySem.W.nsIn K mainGlobals "count_within" = some (some (.ref f32))) (l32 : K.lookup f32 = some ⟨oc32, od32, .func (PySem.W.fnOf "count_within" "count_within" (defArgs s_count_within) (defBody s_count_within) (defScope s_count_within) .none kV32 dc32 pm32 an32 cd32 ct32), sl32⟩) (c32 : PySem.W.codeIn K cd32 "count_within" = true) (k32 : PySem.W.keepIn K (.ref f32) = true)
    (a33 : PySem.W.nsIn K mainGlobals "count_at" = some (some (.ref f33))) (l33 : K.lookup f33 = some ⟨oc33, od33, .func (PySem.W.fnOf "count_at" "count_at" (defArgs s_count_at) (defBody s_count_at) (defScope s_count_at) .none kV33 dc33 pm33 an33 cd33 ct33), sl33⟩) (c33 : PySem.W.codeIn K cd33 "count_at" = true) (k33 : PySem.W.keepIn K (.ref f33) = true)
    (a34 : PySem.W.nsIn K mainGlobals "check_count" = some (some (.ref f34))) (l34 : K.lookup f34 = some ⟨oc34, od34, .func (PySem.W.fnOf "check_count" "check_count" (defArgs s_check_count) (defBody s_check_count) (defScope s_check_count) .none kV34 dc34 pm34 an34 cd34 ct34), sl34⟩) (c34 : PySem.W.codeIn K cd34 "check_count" = true) (k34 : PySem.W.keepIn K (.ref f34) = true)
    (a35 : PySem.W.nsIn K mainGlobals "known_within" = some (some (.ref f35))) (l35 : K.lookup f35 = some ⟨oc35, od35, .func (PySem.W.fnOf "known_within" "known_within" (defArgs s_known_within) (defBody s_known_within) (defScope s_known_within) .none kV35 dc35 pm35 an35 cd35 ct35), sl35⟩) (c35 : PySem.W.codeIn K cd35 "known_within" = true) (k35 : PySem.W.keepIn K (.ref f35) = true)
    (a36 : PySem.W.nsIn K mainGlobals "swap_counts" = some (some (.ref f36))) (l36 : K.lookup f36 = some ⟨oc36, od36, .func (PySem.W.fnOf "swap_counts" "swap_counts" (defArgs s_swap_counts) (defBody s_swap_counts) (defScope s_swap_counts) .none kV36 dc36 pm36 an36 cd36 ct36), sl36⟩) (c36 : PySem.W.codeIn K cd36 "swap_counts" = true) (k36 : PySem.W.keepIn K (.ref f36) = true)
    (a37 : PySem.W.nsIn K mainGlobals "swap_counts_with_one_more" = some (some (.ref f37))) (l37 : K.lookup f37 = some ⟨oc37, od37, .func (PySem.W.fnOf "swap_counts_with_one_more" "swap_counts_with_one_more" (defArgs s_swap_counts_with_one_more) (defBody s_swap_counts_with_one_more) (defScope s_swap_counts_with_one_more) .none kV37 dc37 pm37 an37 cd37 ct37), sl37⟩) (c37 : PySem.W.codeIn K cd37 "swap_counts_with_one_more" = true) (k37 : PySem.W.keepIn K (.ref f37) = true)
    (a38 : PySem.W.nsIn K mainGlobals "spot_counts" = some (some (.ref f38))) (l38 : K.lookup f38 = some ⟨oc38, od38, .func (PySem.W.fnOf "spot_counts" "spot_counts" (defArgs s_spot_counts) (defBody s_spot_counts) (defScope s_spot_counts) .none kV38 dc38 pm38 an38 cd38 ct38), sl38⟩) (c38 : PySem.W.codeIn K cd38 "spot_counts" = true) (k38 : PySem.W.keepIn K (.ref f38) = true)
    (a39 : PySem.W.nsIn K mainGlobals "count_all_moved" = some (some (.ref f39))) (l39 : K.lookup f39 = some ⟨oc39, od39, .func (PySem.W.fnOf "count_all_moved" "count_all_moved" (defArgs s_count_all_moved) (defBody s_count_all_moved) (defScope s_count_all_moved) .none kV39 dc39 pm39 an39 cd39 ct39), sl39⟩) (c39 : PySem.W.codeIn K cd39 "count_all_moved" = true) (k39 : PySem.W.keepIn K (.ref f39) = true)
    (a40 : PySem.W.nsIn K mainGlobals "shift_within" = some (some (.ref f40))) (l40 : K.lookup f40 = some ⟨oc40, od40, .func (PySem.W.fnOf "shift_within" "shift_within" (defArgs s_shift_within) (defBody s_shift_within) (defScope s_shift_within) .none kV40 dc40 pm40 an40 cd40 ct40), sl40⟩) (c40 : PySem.W.codeIn K cd40 "shift_within" = true) (k40 : PySem.W.keepIn K (.ref f40) = true)
    (a41 : PySem.W.nsIn K mainGlobals "things_near" = some (some (.ref f41))) (l41 : K.lookup f41 = some ⟨oc41, od41, .func (PySem.W.fnOf "things_near" "things_near" (defArgs s_things_near) (defBody s_things_near) (defScope s_things_near) .none kV41 dc41 pm41 an41 cd41 ct41), sl41⟩) (c41 : PySem.W.codeIn K cd41 "things_near" = true) (k41 : PySem.W.keepIn K (.ref f41) = true)
    (a42 : PySem.W.nsIn K mainGlobals "one_place_further" = some (some (.ref f42))) (l42 : K.lookup f42 = some ⟨oc42, od42, .func (PySem.W.fnOf "one_place_further" "one_place_further" (defArgs s_one_place_further) (defBody s_one_place_further) (defScope s_one_place_further) .none kV42 dc42 pm42 an42 cd42 ct42), sl42⟩) (c42 : PySem.W.codeIn K cd42 "one_place_further" = true) (k42 : PySem.W.keepIn K (.ref f42) = true)
    (a43 : PySem.W.nsIn K mainGlobals "all_within" = some (some (.ref f43))) (l43 : K.lookup f43 = some ⟨oc43, od43, .func (PySem.W.fnOf "all_within" "all_within" (defArgs s_all_within) (defBody s_all_within) (defScope s_all_within) .none kV43 dc43 pm43 an43 cd43 ct43), sl43⟩) (c43 : PySem.W.codeIn K cd43 "all_within" = true) (k43 : PySem.W.keepIn K (.ref f43) = true)
    (a44 : PySem.W.nsIn K mainGlobals "_law_pool" = some (some (.ref f44))) (l44 : K.lookup f44 = some ⟨oc44, od44, .func (PySem.W.fnOf "_law_pool" "_law_pool" (defArgs s_law_pool) (defBody s_law_pool) (defScope s_law_pool) .none kV44 dc44 pm44 an44 cd44 ct44), sl44⟩) (c44 : PySem.W.codeIn K cd44 "_law_pool" = true) (k44 : PySem.W.keepIn K (.ref f44) = true)
    (a45 : PySem.W.nsIn K mainGlobals "_law_draw" = some (some (.ref f45))) (l45 : K.lookup f45 = some ⟨oc45, od45, .func (PySem.W.fnOf "_law_draw" "_law_draw" (defArgs s_law_draw) (defBody s_law_draw) (defScope s_law_draw) .none kV45 dc45 pm45 an45 cd45 ct45), sl45⟩) (c45 : PySem.W.codeIn K cd45 "_law_draw" = true) (k45 : PySem.W.keepIn K (.ref f45) = true)
    (a46 : PySem.W.nsIn K mainGlobals "_law_order" = some (some (.ref f46))) (l46 : K.lookup f46 = some ⟨oc46, od46, .func (PySem.W.fnOf "_law_order" "_law_order" (defArgs s_law_order) (defBody s_law_order) (defScope s_law_order) .none kV46 dc46 pm46 an46 cd46 ct46), sl46⟩) (c46 : PySem.W.codeIn K cd46 "_law_order" = true) (k46 : PySem.W.keepIn K (.ref f46) = true)
    (a47 : PySem.W.nsIn K mainGlobals "_law_far" = some (some (.ref f47))) (l47 : K.lookup f47 = some ⟨oc47, od47, .func (PySem.W.fnOf "_law_far" "_law_far" (defArgs s_law_far) (defBody s_law_far) (defScope s_law_far) .none kV47 dc47 pm47 an47 cd47 ct47), sl47⟩) (c47 : PySem.W.codeIn K cd47 "_law_far" = true) (k47 : PySem.W.keepIn K (.ref f47) = true)
    (a48 : PySem.W.nsIn K mainGlobals "_law_two_right" = some (some (.ref f48))) (l48 : K.lookup f48 = some ⟨oc48, od48, .func (PySem.W.fnOf "_law_two_right" "_law_two_right" (defArgs s_law_two_right) (defBody s_law_two_right) (defScope s_law_two_right) .none kV48 dc48 pm48 an48 cd48 ct48), sl48⟩) (c48 : PySem.W.codeIn K cd48 "_law_two_right" = true) (k48 : PySem.W.keepIn K (.ref f48) = true)
    (a49 : PySem.W.nsIn K mainGlobals "_law_walks_right" = some (some (.ref f49))) (l49 : K.lookup f49 = some ⟨oc49, od49, .func (PySem.W.fnOf "_law_walks_right" "_law_walks_right" (defArgs s_law_walks_right) (defBody s_law_walks_right) (defScope s_law_walks_right) .none kV49 dc49 pm49 an49 cd49 ct49), sl49⟩) (c49 : PySem.W.codeIn K cd49 "_law_walks_right" = true) (k49 : PySem.W.keepIn K (.ref f49) = true)
    (a50 : PySem.W.nsIn K mainGlobals "_law_counts_right" = some (some (.ref f50))) (l50 : K.lookup f50 = some ⟨oc50, od50, .func (PySem.W.fnOf "_law_counts_right" "_law_counts_right" (defArgs s_law_counts_right) (defBody s_law_counts_right) (defScope s_law_counts_right) .none kV50 dc50 pm50 an50 cd50 ct50), sl50⟩) (c50 : PySem.W.codeIn K cd50 "_law_counts_right" = true) (k50 : PySem.W.keepIn K (.ref f50) = true)
    (a51 : PySem.W.nsIn K mainGlobals "_law_listed_right" = some (some (.ref f51))) (l51 : K.lookup f51 = some ⟨oc51, od51, .func (PySem.W.fnOf "_law_listed_right" "_law_listed_right" (defArgs s_law_listed_right) (defBody s_law_listed_right) (defScope s_law_listed_right) .none kV51 dc51 pm51 an51 cd51 ct51), sl51⟩) (c51 : PySem.W.codeIn K cd51 "_law_listed_right" = true) (k51 : PySem.W.keepIn K (.ref f51) = true)
    (a52 : PySem.W.nsIn K mainGlobals "_law_beside_right" = some (some (.ref f52))) (l52 : K.lookup f52 = some ⟨oc52, od52, .func (PySem.W.fnOf "_law_beside_right" "_law_beside_right" (defArgs s_law_beside_right) (defBody s_law_beside_right) (defScope s_law_beside_right) .none kV52 dc52 pm52 an52 cd52 ct52), sl52⟩) (c52 : PySem.W.codeIn K cd52 "_law_beside_right" = true) (k52 : PySem.W.keepIn K (.ref f52) = true)
    (a53 : PySem.W.nsIn K mainGlobals "law" = some (some (.ref f53))) (l53 : K.lookup f53 = some ⟨oc53, od53, .func (PySem.W.fnOf "law" "law" (defArgs s_law) (defBody s_law) (defScope s_law) .none kV53 dc53 pm53 an53 cd53 ct53), sl53⟩) (c53 : PySem.W.codeIn K cd53 "law" = true) (k53 : PySem.W.keepIn K (.ref f53) = true)
    (g_MOST_THINGS : PySem.W.nsIn K mainGlobals "MOST_THINGS" = some (some (.int 12 tk_MOST_THINGS)))
    (g_MOST_LISTED : PySem.W.nsIn K mainGlobals "MOST_LISTED" = some (some (.int 6 tk_MOST_LISTED)))
    (g_WAYS : PySem.W.nsIn K mainGlobals "WAYS" = some (some (.ref aW))) (l_WAYS : K.lookup aW = some ⟨.type "tuple", ddW, .seq #[.str "swap" tW1, .str "spot" tW2, .str "shift" tW3] nW, slW⟩)
    (z_abs : PySem.W.nsIn K mainGlobals "abs" = some none)
    (z_all : PySem.W.nsIn K mainGlobals "all" = some none)
    (z_bool : PySem.W.nsIn K mainGlobals "bool" = some none)
    (z_enumerate : PySem.W.nsIn K mainGlobals "enumerate" = some none)
    (z_int : PySem.W.nsIn K mainGlobals "int" = some none)
    (z_isinstance : PySem.W.nsIn K mainGlobals "isinstance" = some none)
    (z_len : PySem.W.nsIn K mainGlobals "len" = some none)
    (z_list : PySem.W.nsIn K mainGlobals "list" = some none)
    (z_max : PySem.W.nsIn K mainGlobals "max" = some none)
    (z_min : PySem.W.nsIn K mainGlobals "min" = some none)
    (z_range : PySem.W.nsIn K mainGlobals "range" = some none)
    (z_sorted : PySem.W.nsIn K mainGlobals "sorted" = some none)
    (z_str : PySem.W.nsIn K mainGlobals "str" = some none)
    (z_sum : PySem.W.nsIn K mainGlobals "sum" = some none)
    (z_zip : PySem.W.nsIn K mainGlobals "zip" = some none)
    : ∃ fd : FuncData, (∀ (s : Shared) (v : Value), BindsTo s fd ⟨[v], []⟩ [("script", v)]) ∧ ∀ base : Heap, K.In base → base.Ns mainGlobals mg → FnOk l.prog w K mg base CX0 10 fa fd ["script"] (spLaw K) := by
  have e := hfa.symm.trans (PySem.W.mg_of X G a53)
  cases e
  have F0 := fun_mk (st := s_is_whole) l0 c0 k0
  have F1 := fun_mk (st := s_check_way) l1 c1 k1
  have F2 := fun_mk (st := s_check_from) l2 c2 k2
  have F3 := fun_mk (st := s_check_size) l3 c3 k3
  have F4 := fun_mk (st := s_is_order) l4 c4 k4
  have F5 := fun_mk (st := s_check_order) l5 c5 k5
  have F6 := fun_mk (st := s_check_orders) l6 c6 k6
  have F7 := fun_mk (st := s_check_fit) l7 c7 k7
  have F8 := fun_mk (st := s_check_listed) l8 c8 k8
  have F9 := fun_mk (st := s_back_of) l9 c9 k9
  have F10 := fun_mk (st := s_places_in) l10 c10 k10
  have F11 := fun_mk (st := s_order_behind) l11 c11 k11
  have F12 := fun_mk (st := s_seats_in) l12 c12 k12
  have F13 := fun_mk (st := s_how_far) l13 c13 k13
  have F14 := fun_mk (st := s_known_far) l14 c14 k14
  have F15 := fun_mk (st := s_far_by_swap) l15 c15 k15
  have F16 := fun_mk (st := s_far_by_spot) l16 c16 k16
  have F17 := fun_mk (st := s_far_by_shift) l17 c17 k17
  have F18 := fun_mk (st := s_all_orders) l18 c18 k18
  have F19 := fun_mk (st := s_orders_with) l19 c19 k19
  have F20 := fun_mk (st := s_side_by_side) l20 c20 k20
  have F21 := fun_mk (st := s_check_together) l21 c21 k21
  have F22 := fun_mk (st := s_put_beside) l22 c22 k22
  have F23 := fun_mk (st := s_is_walk) l23 c23 k23
  have F24 := fun_mk (st := s_walk_end) l24 c24 k24
  have F25 := fun_mk (st := s_exchange) l25 c25 k25
  have F26 := fun_mk (st := s_short_walk) l26 c26 k26
  have F27 := fun_mk (st := s_first_turned) l27 c27 k27
  have F28 := fun_mk (st := s_rounds_between) l28 c28 k28
  have F29 := fun_mk (st := s_followers_between) l29 c29 k29
  have F30 := fun_mk (st := s_round_from) l30 c30 k30
  have F31 := fun_mk (st := s_steps_between) l31 c31 k31
  have F32 := fun_mk (st := s_count_within) l32 c32 k32
  have F33 := fun_mk (st := s_count_at) l33 c33 k33
  have F34 := fun_mk (st := s_check_count) l34 c34 k34
  have F35 := fun_mk (st := s_known_within) l35 c35 k35
  have F36 := fun_mk (st := s_swap_counts) l36 c36 k36
  have F37 := fun_mk (st := s_swap_counts_with_one_more) l37 c37 k37
  have F38 := fun_mk (st := s_spot_counts) l38 c38 k38
  have F39 := fun_mk (st := s_count_all_moved) l39 c39 k39
  have F40 := fun_mk (st := s_shift_within) l40 c40 k40
  have F41 := fun_mk (st := s_things_near) l41 c41 k41
  have F42 := fun_mk (st := s_one_place_further) l42 c42 k42
  have F43 := fun_mk (st := s_all_within) l43 c43 k43
  have F44 := fun_mk (st := s_law_pool) l44 c44 k44
  have F45 := fun_mk (st := s_law_draw) l45 c45 k45
  have F46 := fun_mk (st := s_law_order) l46 c46 k46
  have F47 := fun_mk (st := s_law_far) l47 c47 k47
  have F48 := fun_mk (st := s_law_two_right) l48 c48 k48
  have F49 := fun_mk (st := s_law_walks_right) l49 c49 k49
  have F50 := fun_mk (st := s_law_counts_right) l50 c50 k50
  have F51 := fun_mk (st := s_law_listed_right) l51 c51 k51
  have F52 := fun_mk (st := s_law_beside_right) l52 c52 k52
  have F53 := fun_mk (st := s_law) l53 c53 k53
  have T_is_whole : Df K mg "is_whole" s_is_whole ["thing"] f0 _ := ⟨F0, F0.binds (ps := ["thing"]) (fun _ _ _ _ _ _ us hl => match us, hl with | [_], _ => rfl), PySem.W.mg_of X G a0⟩
  have T_check_way : Df K mg "check_way" s_check_way ["thing"] f1 _ := ⟨F1, F1.binds (ps := ["thing"]) (fun _ _ _ _ _ _ us hl => match us, hl with | [_], _ => rfl), PySem.W.mg_of X G a1⟩
  have T_check_from : Df K mg "check_from" s_check_from ["thing", "least"] f2 _ := ⟨F2, F2.binds (ps := ["thing", "least"]) (fun _ _ _ _ _ _ us hl => match us, hl with | [_, _], _ => rfl), PySem.W.mg_of X G a2⟩
  have T_check_size : Df K mg "check_size" s_check_size ["thing", "most"] f3 _ := ⟨F3, F3.binds (ps := ["thing", "most"]) (fun _ _ _ _ _ _ us hl => match us, hl with | [_, _], _ => rfl), PySem.W.mg_of X G a3⟩
  have T_is_order : Df K mg "is_order" s_is_order ["thing"] f4 _ := ⟨F4, F4.binds (ps := ["thing"]) (fun _ _ _ _ _ _ us hl => match us, hl with | [_], _ => rfl), PySem.W.mg_of X G a4⟩
  have T_check_order : Df K mg "check_order" s_check_order ["thing"] f5 _ := ⟨F5, F5.binds (ps := ["thing"]) (fun _ _ _ _ _ _ us hl => match us, hl with | [_], _ => rfl), PySem.W.mg_of X G a5⟩
  have T_check_orders : Df K mg "check_orders" s_check_orders ["one", "other"] f6 _ := ⟨F6, F6.binds (ps := ["one", "other"]) (fun _ _ _ _ _ _ us hl => match us, hl with | [_, _], _ => rfl), PySem.W.mg_of X G a6⟩
  have T_check_fit : Df K mg "check_fit" s_check_fit ["one", "other"] f7 _ := ⟨F7, F7.binds (ps := ["one", "other"]) (fun _ _ _ _ _ _ us hl => match us, hl with | [_, _], _ => rfl), PySem.W.mg_of X G a7⟩
  have T_check_listed : Df K mg "check_listed" s_check_listed ["order"] f8 _ := ⟨F8, F8.binds (ps := ["order"]) (fun _ _ _ _ _ _ us hl => match us, hl with | [_], _ => rfl), PySem.W.mg_of X G a8⟩
  have T_back_of : Df K mg "back_of" s_back_of ["order"] f9 _ := ⟨F9, F9.binds (ps := ["order"]) (fun _ _ _ _ _ _ us hl => match us, hl with | [_], _ => rfl), PySem.W.mg_of X G a9⟩
  have T_places_in : Df K mg "places_in" s_places_in ["order"] f10 _ := ⟨F10, F10.binds (ps := ["order"]) (fun _ _ _ _ _ _ us hl => match us, hl with | [_], _ => rfl), PySem.W.mg_of X G a10⟩
  have T_order_behind : Df K mg "order_behind" s_order_behind ["first", "second"] f11 _ := ⟨F11, F11.binds (ps := ["first", "second"]) (fun _ _ _ _ _ _ us hl => match us, hl with | [_, _], _ => rfl), PySem.W.mg_of X G a11⟩
  have T_seats_in : Df K mg "seats_in" s_seats_in ["one", "other"] f12 _ := ⟨F12, F12.binds (ps := ["one", "other"]) (fun _ _ _ _ _ _ us hl => match us, hl with | [_, _], _ => rfl), PySem.W.mg_of X G a12⟩
  have T_how_far : Df K mg "how_far" s_how_far ["way", "one", "other"] f13 _ := ⟨F13, F13.binds (ps := ["way", "one", "other"]) (fun _ _ _ _ _ _ us hl => match us, hl with | [_, _, _], _ => rfl), PySem.W.mg_of X G a13⟩
  have T_known_far : Df K mg "known_far" s_known_far ["way", "one", "other"] f14 _ := ⟨F14, F14.binds (ps := ["way", "one", "other"]) (fun _ _ _ _ _ _ us hl => match us, hl with | [_, _, _], _ => rfl), PySem.W.mg_of X G a14⟩
  have T_far_by_swap : Df K mg "far_by_swap" s_far_by_swap ["one", "other"] f15 _ := ⟨F15, F15.binds (ps := ["one", "other"]) (fun _ _ _ _ _ _ us hl => match us, hl with | [_, _], _ => rfl), PySem.W.mg_of X G a15⟩
  have T_far_by_spot : Df K mg "far_by_spot" s_far_by_spot ["one", "other"] f16 _ := ⟨F16, F16.binds (ps := ["one", "other"]) (fun _ _ _ _ _ _ us hl => match us, hl with | [_, _], _ => rfl), PySem.W.mg_of X G a16⟩
  have T_far_by_shift : Df K mg "far_by_shift" s_far_by_shift ["one", "other"] f17 _ := ⟨F17, F17.binds (ps := ["one", "other"]) (fun _ _ _ _ _ _ us hl => match us, hl with | [_, _], _ => rfl), PySem.W.mg_of X G a17⟩
  have T_all_orders : Df K mg "all_orders" s_all_orders ["n"] f18 _ := ⟨F18, F18.binds (ps := ["n"]) (fun _ _ _ _ _ _ us hl => match us, hl with | [_], _ => rfl), PySem.W.mg_of X G a18⟩
  have T_orders_with : Df K mg "orders_with" s_orders_with ["choices"] f19 _ := ⟨F19, F19.binds (ps := ["choices"]) (fun _ _ _ _ _ _ us hl => match us, hl with | [_], _ => rfl), PySem.W.mg_of X G a19⟩
  have T_side_by_side : Df K mg "side_by_side" s_side_by_side ["one", "other"] f20 _ := ⟨F20, F20.binds (ps := ["one", "other"]) (fun _ _ _ _ _ _ us hl => match us, hl with | [_, _], _ => rfl), PySem.W.mg_of X G a20⟩
  have T_check_together : Df K mg "check_together" s_check_together ["one", "other"] f21 _ := ⟨F21, F21.binds (ps := ["one", "other"]) (fun _ _ _ _ _ _ us hl => match us, hl with | [_, _], _ => rfl), PySem.W.mg_of X G a21⟩
  have T_put_beside : Df K mg "put_beside" s_put_beside ["one", "other"] f22 _ := ⟨F22, F22.binds (ps := ["one", "other"]) (fun _ _ _ _ _ _ us hl => match us, hl with | [_, _], _ => rfl), PySem.W.mg_of X G a22⟩
  have T_is_walk : Df K mg "is_walk" s_is_walk ["thing", "n"] f23 _ := ⟨F23, F23.binds (ps := ["thing", "n"]) (fun _ _ _ _ _ _ us hl => match us, hl with | [_, _], _ => rfl), PySem.W.mg_of X G a23⟩
  have T_walk_end : Df K mg "walk_end" s_walk_end ["order", "walk"] f24 _ := ⟨F24, F24.binds (ps := ["order", "walk"]) (fun _ _ _ _ _ _ us hl => match us, hl with | [_, _], _ => rfl), PySem.W.mg_of X G a24⟩
  have T_exchange : Df K mg "exchange" s_exchange ["row", "place"] f25 _ := ⟨F25, F25.binds (ps := ["row", "place"]) (fun _ _ _ _ _ _ us hl => match us, hl with | [_, _], _ => rfl), PySem.W.mg_of X G a25⟩
  have T_short_walk : Df K mg "short_walk" s_short_walk ["one", "other"] f26 _ := ⟨F26, F26.binds (ps := ["one", "other"]) (fun _ _ _ _ _ _ us hl => match us, hl with | [_, _], _ => rfl), PySem.W.mg_of X G a26⟩
  have T_first_turned : Df K mg "first_turned" s_first_turned ["seats"] f27 _ := ⟨F27, F27.binds (ps := ["seats"]) (fun _ _ _ _ _ _ us hl => match us, hl with | [_], _ => rfl), PySem.W.mg_of X G a27⟩
  have T_rounds_between : Df K mg "rounds_between" s_rounds_between ["one", "other"] f28 _ := ⟨F28, F28.binds (ps := ["one", "other"]) (fun _ _ _ _ _ _ us hl => match us, hl with | [_, _], _ => rfl), PySem.W.mg_of X G a28⟩
  have T_followers_between : Df K mg "followers_between" s_followers_between ["one", "other"] f29 _ := ⟨F29, F29.binds (ps := ["one", "other"]) (fun _ _ _ _ _ _ us hl => match us, hl with | [_, _], _ => rfl), PySem.W.mg_of X G a29⟩
  have T_round_from : Df K mg "round_from" s_round_from ["thing", "followers"] f30 _ := ⟨F30, F30.binds (ps := ["thing", "followers"]) (fun _ _ _ _ _ _ us hl => match us, hl with | [_, _], _ => rfl), PySem.W.mg_of X G a30⟩
  have T_steps_between : Df K mg "steps_between" s_steps_between ["one", "other"] f31 _ := ⟨F31, F31.binds (ps := ["one", "other"]) (fun _ _ _ _ _ _ us hl => match us, hl with | [_, _], _ => rfl), PySem.W.mg_of X G a31⟩
  have T_count_within : Df K mg "count_within" s_count_within ["way", "n", "r"] f32 _ := ⟨F32, F32.binds (ps := ["way", "n", "r"]) (fun _ _ _ _ _ _ us hl => match us, hl with | [_, _, _], _ => rfl), PySem.W.mg_of X G a32⟩
  have T_count_at : Df K mg "count_at" s_count_at ["way", "n", "r"] f33 _ := ⟨F33, F33.binds (ps := ["way", "n", "r"]) (fun _ _ _ _ _ _ us hl => match us, hl with | [_, _, _], _ => rfl), PySem.W.mg_of X G a33⟩
  have T_check_count : Df K mg "check_count" s_check_count ["way", "n", "r"] f34 _ := ⟨F34, F34.binds (ps := ["way", "n", "r"]) (fun _ _ _ _ _ _ us hl => match us, hl with | [_, _, _], _ => rfl), PySem.W.mg_of X G a34⟩
  have T_known_within : Df K mg "known_within" s_known_within ["way", "n", "r"] f35 _ := ⟨F35, F35.binds (ps := ["way", "n", "r"]) (fun _ _ _ _ _ _ us hl => match us, hl with | [_, _, _], _ => rfl), PySem.W.mg_of X G a35⟩
  have T_swap_counts : Df K mg "swap_counts" s_swap_counts ["n"] f36 _ := ⟨F36, F36.binds (ps := ["n"]) (fun _ _ _ _ _ _ us hl => match us, hl with | [_], _ => rfl), PySem.W.mg_of X G a36⟩
  have T_swap_counts_with_one_more : Df K mg "swap_counts_with_one_more" s_swap_counts_with_one_more ["counts", "behind"] f37 _ := ⟨F37, F37.binds (ps := ["counts", "behind"]) (fun _ _ _ _ _ _ us hl => match us, hl with | [_, _], _ => rfl), PySem.W.mg_of X G a37⟩
  have T_spot_counts : Df K mg "spot_counts" s_spot_counts ["n"] f38 _ := ⟨F38, F38.binds (ps := ["n"]) (fun _ _ _ _ _ _ us hl => match us, hl with | [_], _ => rfl), PySem.W.mg_of X G a38⟩
  have T_count_all_moved : Df K mg "count_all_moved" s_count_all_moved ["n"] f39 _ := ⟨F39, F39.binds (ps := ["n"]) (fun _ _ _ _ _ _ us hl => match us, hl with | [_], _ => rfl), PySem.W.mg_of X G a39⟩
  have T_shift_within : Df K mg "shift_within" s_shift_within ["n", "r"] f40 _ := ⟨F40, F40.binds (ps := ["n", "r"]) (fun _ _ _ _ _ _ us hl => match us, hl with | [_, _], _ => rfl), PySem.W.mg_of X G a40⟩
  have T_things_near : Df K mg "things_near" s_things_near ["place", "n", "r"] f41 _ := ⟨F41, F41.binds (ps := ["place", "n", "r"]) (fun _ _ _ _ _ _ us hl => match us, hl with | [_, _, _], _ => rfl), PySem.W.mg_of X G a41⟩
  have T_one_place_further : Df K mg "one_place_further" s_one_place_further ["beginnings", "near"] f42 _ := ⟨F42, F42.binds (ps := ["beginnings", "near"]) (fun _ _ _ _ _ _ us hl => match us, hl with | [_, _], _ => rfl), PySem.W.mg_of X G a42⟩
  have T_all_within : Df K mg "all_within" s_all_within ["way", "order", "r"] f43 _ := ⟨F43, F43.binds (ps := ["way", "order", "r"]) (fun _ _ _ _ _ _ us hl => match us, hl with | [_, _, _], _ => rfl), PySem.W.mg_of X G a43⟩
  have T__law_pool : Df K mg "_law_pool" s_law_pool ["script", "k"] f44 _ := ⟨F44, F44.binds (ps := ["script", "k"]) (fun _ _ _ _ _ _ us hl => match us, hl with | [_, _], _ => rfl), PySem.W.mg_of X G a44⟩
  have T__law_draw : Df K mg "_law_draw" s_law_draw ["pool", "many"] f45 _ := ⟨F45, F45.binds (ps := ["pool", "many"]) (fun _ _ _ _ _ _ us hl => match us, hl with | [_, _], _ => rfl), PySem.W.mg_of X G a45⟩
  have T__law_order : Df K mg "_law_order" s_law_order ["pool", "n"] f46 _ := ⟨F46, F46.binds (ps := ["pool", "n"]) (fun _ _ _ _ _ _ us hl => match us, hl with | [_, _], _ => rfl), PySem.W.mg_of X G a46⟩
  have T__law_far : Df K mg "_law_far" s_law_far ["way", "one", "other"] f47 _ := ⟨F47, F47.binds (ps := ["way", "one", "other"]) (fun _ _ _ _ _ _ us hl => match us, hl with | [_, _, _], _ => rfl), PySem.W.mg_of X G a47⟩
  have T__law_two_right : Df K mg "_law_two_right" s_law_two_right ["one", "other", "third"] f48 _ := ⟨F48, F48.binds (ps := ["one", "other", "third"]) (fun _ _ _ _ _ _ us hl => match us, hl with | [_, _, _], _ => rfl), PySem.W.mg_of X G a48⟩
  have T__law_walks_right : Df K mg "_law_walks_right" s_law_walks_right ["one", "other"] f49 _ := ⟨F49, F49.binds (ps := ["one", "other"]) (fun _ _ _ _ _ _ us hl => match us, hl with | [_, _], _ => rfl), PySem.W.mg_of X G a49⟩
  have T__law_counts_right : Df K mg "_law_counts_right" s_law_counts_right ["pool", "way", "n"] f50 _ := ⟨F50, F50.binds (ps := ["pool", "way", "n"]) (fun _ _ _ _ _ _ us hl => match us, hl with | [_, _, _], _ => rfl), PySem.W.mg_of X G a50⟩
  have T__law_listed_right : Df K mg "_law_listed_right" s_law_listed_right ["pool", "way", "one", "r"] f51 _ := ⟨F51, F51.binds (ps := ["pool", "way", "one", "r"]) (fun _ _ _ _ _ _ us hl => match us, hl with | [_, _, _, _], _ => rfl), PySem.W.mg_of X G a51⟩
  have T__law_beside_right : Df K mg "_law_beside_right" s_law_beside_right ["pool", "one", "other"] f52 _ := ⟨F52, F52.binds (ps := ["pool", "one", "other"]) (fun _ _ _ _ _ _ us hl => match us, hl with | [_, _, _], _ => rfl), PySem.W.mg_of X G a52⟩
  have B : Bi mg := ⟨PySem.W.mg_none_of X G z_abs, PySem.W.mg_none_of X G z_all, PySem.W.mg_none_of X G z_bool, PySem.W.mg_none_of X G z_enumerate, PySem.W.mg_none_of X G z_int, PySem.W.mg_none_of X G z_isinstance, PySem.W.mg_none_of X G z_len, PySem.W.mg_none_of X G z_list, PySem.W.mg_none_of X G z_max, PySem.W.mg_none_of X G z_min, PySem.W.mg_none_of X G z_range, PySem.W.mg_none_of X G z_sorted, PySem.W.mg_none_of X G z_str, PySem.W.mg_none_of X G z_sum, PySem.W.mg_none_of X G z_zip⟩
  have m_WAYS := wy_mk (PySem.W.mg_of X G g_WAYS) l_WAYS
  have m_MOST_THINGS := PySem.W.mg_of X G g_MOST_THINGS
  have m_MOST_LISTED := PySem.W.mg_of X G g_MOST_LISTED
  exact ⟨PySem.W.fnOf "law" "law" (defArgs s_law) (defBody s_law) (defScope s_law) .none kV53 dc53 pm53 an53 cd53 ct53, fun s v => .of_eq rfl, fun base _ _ => ok_law F53 T__law_pool T__law_draw T__law_order T__law_two_right T__law_walks_right T__law_counts_right T__law_beside_right T__law_listed_right (ok_pool (k := 8) T__law_pool B) (ok_drawP (k := 8) T__law_draw B) (ok_ordP (k := 8) T__law_order T__law_draw (ok_drawP (k := 7) T__law_draw B) B) (ok_two (k := 8) T__law_two_right T__law_far T_order_behind T_how_far T_back_of (ok_law_far (k := 7) T__law_far B) (ok_behind (k := 6) T_order_behind T_check_orders T_check_fit (ok_checks (k := 6) T_check_orders T_check_order (ok_check (k := 3) T_check_order T_is_order T_is_whole B m_MOST_THINGS)) B) (ok_far (k := 7) T_how_far T_check_orders T_check_way T_check_fit T_known_far (ok_checks (k := 6) T_check_orders T_check_order (ok_check (k := 3) T_check_order T_is_order T_is_whole B m_MOST_THINGS)) (ok_way (k := 6) T_check_way m_WAYS B) (ok_fit (k := 6) T_check_fit B) (ok_known (k := 6) T_known_far T_far_by_swap T_far_by_spot T_far_by_shift (ok_swap (k := 5) T_far_by_swap T_seats_in (ok_seats (k := 3) T_seats_in T_places_in B) B) (ok_spot (k := 5) T_far_by_spot B) (ok_shift (k := 5) T_far_by_shift T_seats_in (ok_seats (k := 3) T_seats_in T_places_in B) B))) (ok_back (k := 6) T_back_of T_check_order T_places_in (ok_check (k := 4) T_check_order T_is_order T_is_whole B m_MOST_THINGS) B) B) (ok_wlk (k := 8) T__law_walks_right T_short_walk T_walk_end T__law_far T_rounds_between T_steps_between (ok_short (k := 6) T_short_walk T_check_orders T_check_fit T_seats_in T_first_turned T_exchange (ok_checks (k := 6) T_check_orders T_check_order (ok_check (k := 3) T_check_order T_is_order T_is_whole B m_MOST_THINGS)) (ok_seats (k := 5) T_seats_in T_places_in B) B) (ok_walk_end (k := 4) T_walk_end T_check_order T_is_order T_is_whole T_is_walk T_exchange B m_MOST_THINGS) (ok_law_far (k := 7) T__law_far B) (ok_rounds (k := 6) T_rounds_between T_check_orders T_check_fit T_followers_between T_round_from (ok_checks (k := 6) T_check_orders T_check_order (ok_check (k := 3) T_check_order T_is_order T_is_whole B m_MOST_THINGS)) B) (ok_steps (k := 7) T_steps_between T_rounds_between (ok_rounds (k := 5) T_rounds_between T_check_orders T_check_fit T_followers_between T_round_from (ok_checks (k := 5) T_check_orders T_check_order (ok_check (k := 2) T_check_order T_is_order T_is_whole B m_MOST_THINGS)) B) B) B) (ok_cr (k := 8) T__law_counts_right T_count_within T_count_at T__law_draw (ok_cw (k := 7) T_count_within T_check_count T_known_within (ok_count (k := 4) T_check_count T_check_way T_check_size T_check_from T_is_whole m_WAYS B m_MOST_THINGS) (ok_kw (k := 4) T_known_within T_swap_counts T_spot_counts T_shift_within T_swap_counts_with_one_more T_count_all_moved T_things_near T_one_place_further B)) (ok_ca (k := 7) T_count_at T_check_count T_known_within (ok_count (k := 4) T_check_count T_check_way T_check_size T_check_from T_is_whole m_WAYS B m_MOST_THINGS) (ok_kw (k := 4) T_known_within T_swap_counts T_spot_counts T_shift_within T_swap_counts_with_one_more T_count_all_moved T_things_near T_one_place_further B)) (ok_drawP (k := 7) T__law_draw B) B) (ok_bes (k := 8) T__law_beside_right T__law_order T__law_draw T_side_by_side T__law_far T_how_far (ok_ordP (k := 7) T__law_order T__law_draw (ok_drawP (k := 6) T__law_draw B) B) (ok_drawP (k := 7) T__law_draw B) (ok_side (k := 7) T_side_by_side T_check_orders T_check_together T_put_beside (ok_checks (k := 6) T_check_orders T_check_order (ok_check (k := 3) T_check_order T_is_order T_is_whole B m_MOST_THINGS)) (ok_tog (k := 6) T_check_together B m_MOST_THINGS) (ok_put (k := 6) T_put_beside B)) (ok_law_far (k := 7) T__law_far B) (ok_far (k := 7) T_how_far T_check_orders T_check_way T_check_fit T_known_far (ok_checks (k := 6) T_check_orders T_check_order (ok_check (k := 3) T_check_order T_is_order T_is_whole B m_MOST_THINGS)) (ok_way (k := 6) T_check_way m_WAYS B) (ok_fit (k := 6) T_check_fit B) (ok_known (k := 6) T_known_far T_far_by_swap T_far_by_spot T_far_by_shift (ok_swap (k := 5) T_far_by_swap T_seats_in (ok_seats (k := 3) T_seats_in T_places_in B) B) (ok_spot (k := 5) T_far_by_spot B) (ok_shift (k := 5) T_far_by_shift T_seats_in (ok_seats (k := 3) T_seats_in T_places_in B) B))) B) (ok_lst (k := 8) T__law_listed_right T_all_within T_count_within T__law_far (ok_within (k := 7) T_all_within T_check_order T_check_way T_check_from T_all_orders T_known_far T_check_listed (ok_check (k := 4) T_check_order T_is_order T_is_whole B m_MOST_THINGS) (ok_way (k := 6) T_check_way m_WAYS B) (ok_from (k := 5) T_check_from T_is_whole B) (ok_all_orders (k := 5) T_all_orders T_orders_with B) (ok_known (k := 6) T_known_far T_far_by_swap T_far_by_spot T_far_by_shift (ok_swap (k := 5) T_far_by_swap T_seats_in (ok_seats (k := 3) T_seats_in T_places_in B) B) (ok_spot (k := 5) T_far_by_spot B) (ok_shift (k := 5) T_far_by_shift T_seats_in (ok_seats (k := 3) T_seats_in T_places_in B) B)) (ok_listed (k := 6) T_check_listed B m_MOST_LISTED) B) (ok_cw (k := 7) T_count_within T_check_count T_known_within (ok_count (k := 4) T_check_count T_check_way T_check_size T_check_from T_is_whole m_WAYS B m_MOST_THINGS) (ok_kw (k := 4) T_known_within T_swap_counts T_spot_counts T_shift_within T_swap_counts_with_one_more T_count_all_moved T_things_near T_one_place_further B)) (ok_law_far (k := 7) T__law_far B) B) B⟩
end Fo
open PySem PySem.W PyProof.Rows
set_option maxRecDepth 100000 in
set_option maxHeartbeats 0 in
theorem PySem.Challenge.cw_farorders_k98_whole_ways_and_counts_holds : PySem.Challenge.rw_farorders_k98_whole_ways_and_counts.Holds := by
  w_on; o_law; k_head; (case hw => w_witness2)
  k_fill
  refine L2.walk_of (l := PySem.Challenge.rw_farorders_k98_whole_ways_and_counts) (n := 63) (k := 10) (x := "script") (CX := fun _ => L2.CX0) (sp := fun w => Fo.spLaw _) rfl (by decide) rfl ⟨rfl, by decide, by decide⟩ (fun w h Y => PySem.W.kIn_of Y) ?F (fun _ _ a ns hl _ hS => ⟨a, ns, rfl, hS, hl, fun _ => rfl⟩) (fun _ _ _ _ _ h => h)
  case F =>
    intro w mg fa h KX G hmg
    refine' Fo.all_mk KX G hmg ?a0 ?l0 ?c0 ?k0 ?a1 ?l1 ?c1 ?k1 ?a2 ?l2 ?c2 ?k2 ?a3 ?l3 ?c3 ?k3 ?a4 ?l4 ?c4 ?k4 ?a5 ?l5 ?c5 ?k5 ?a6 ?l6 ?c6 ?k6 ?a7 ?l7 ?c7 ?k7 ?a8 ?l8 ?c8 ?k8 ?a9 ?l9 ?c9 ?k9 ?a10 ?l10 ?c10 ?k10 ?a11 ?l11 ?c11 ?k11 ?a12 ?l12 ?c12 ?k12 ?a13 ?l13 ?c13 ?k13 ?a14 ?l14 ?c14 ?k14 ?a15 ?l15 ?c15 ?k15 ?a16 ?l16 ?c16 ?k16 ?a17 ?l17 ?c17 ?k17 ?a18 ?l18 ?c18 ?k18 ?a19 ?l19 ?c19 ?k19 ?a20 ?l20 ?c20 ?k20 ?a21 ?l21 ?c21 ?k21 ?a22 ?l22 ?c22 ?k22 ?a23 ?l23 ?c23 ?k23 ?a24 ?l24 ?c24 ?k24 ?a25 ?l25 ?c25 ?k25 ?a26 ?l26 ?c26 ?k26 ?a27 ?l27 ?c27 ?k27 ?a28 ?l28 ?c28 ?k28 ?a29 ?l29 ?c29 ?k29 ?a30 ?l30 ?c30 ?k30 ?a31 ?l31 ?c31 ?k31 ?a32 ?l32 ?c32 ?k32 ?a33 ?l33 ?c33 ?k33 ?a34 ?l34 ?c34 ?k34 ?a35 ?l35 ?c35 ?k35 ?a36 ?l36 ?c36 ?k36 ?a37 ?l37 ?c37 ?k37 ?a38 ?l38 ?c38 ?k38 ?a39 ?l39 ?c39 ?k39 ?a40 ?l40 ?c40 ?k40 ?a41 ?l41 ?c41 ?k41 ?a42 ?l42 ?c42 ?k42 ?a43 ?l43 ?c43 ?k43 ?a44 ?l44 ?c44 ?k44 ?a45 ?l45 ?c45 ?k45 ?a46 ?l46 ?c46 ?k46 ?a47 ?l47 ?c47 ?k47 ?a48 ?l48 ?c48 ?k48 ?a49 ?l49 ?c49 ?k49 ?a50 ?l50 ?c50 ?k50 ?a51 ?l51 ?c51 ?k51 ?a52 ?l52 ?c52 ?k52 ?a53 ?l53 ?c53 ?k53 ?g_MOST_THINGS ?g_MOST_LISTED ?g_WAYS ?l_WAYS ?z_abs ?z_all ?z_bool ?z_enumerate ?z_int ?z_isinstance ?z_len ?z_list ?z_max ?z_min ?z_range ?z_sorted ?z_str ?z_sum ?z_zip
    (case a0 => k_is); (case l0 => k_is); (case c0 => k_is); (case k0 => k_is); (case a1 => k_is); (case l1 => k_is); (case c1 => k_is); (case k1 => k_is); (case a2 => k_is); (case l2 => k_is); (case c2 => k_is); (case k2 => k_is); (case a3 => k_is); (case l3 => k_is); (case c3 => k_is); (case k3 => k_is); (case a4 => k_is); (case l4 => k_is); (case c4 => k_is); (case k4 => k_is); (case a5 => k_is); (case l5 => k_is); (case c5 => k_is); (case k5 => k_is); (case a6 => k_is); (case l6 => k_is); (case c6 => k_is); (case k6 => k_is); (case a7 => k_is); (case l7 => k_is); (case c7 => k_is); (case k7 => k_is); (case a8 => k_is); (case l8 => k_is); (case c8 => k_is); (case k8 => k_is); (case a9 => k_is); (case l9 => k_is); (case c9 => k_is); (case k9 => k_is); (case a10 => k_is); (case l10 => k_is); (case c10 => k_is); (case k10 => k_is); (case a11 => k_is); (case l11 => k_is); (case c11 => k_is); (case k11 => k_is); (case a12 => k_is); (case l12 => k_is); (case c12 => k_is); (case k12 => k_is); (case a13 => k_is); (case l13 => k_is); (case c13 => k_is); (case k13 => k_is); (case a14 => k_is); (case l14 => k_is); (case c14 => k_is); (case k14 => k_is); (case a15 => k_is); (case l15 => k_is); (case c15 => k_is); (case k15 => k_is); (case a16 => k_is); (case l16 => k_is); (case c16 => k_is); (case k16 => k_is); (case a17 => k_is); (case l17 => k_is); (case c17 => k_is); (case k17 => k_is); (case a18 => k_is); (case l18 => k_is); (case c18 => k_is); (case k18 => k_is); (case a19 => k_is); (case l19 => k_is); (case c19 => k_is); (case k19 => k_is); (case a20 => k_is); (case l20 => k_is); (case c20 => k_is); (case k20 => k_is); (case a21 => k_is); (case l21 => k_is); (case c21 => k_is); (case k21 => k_is); (case a22 => k_is); (case l22 => k_is); (case c22 => k_is); (case k22 => k_is); (case a23 => k_is); (case l23 => k_is); (case c23 => k_is); (case k23 => k_is); (case a24 => k_is); (case l24 => k_is); (case c24 => k_is); (case k24 => k_is); (case a25 => k_is); (case l25 => k_is); (case c25 => k_is); (case k25 => k_is); (case a26 => k_is); (case l26 => k_is); (case c26 => k_is); (case k26 => k_is); (case a27 => k_is); (case l27 => k_is); (case c27 => k_is); (case k27 => k_is); (case a28 => k_is); (case l28 => k_is); (case c28 => k_is); (case k28 => k_is); (case a29 => k_is); (case l29 => k_is); (case c29 => k_is); (case k29 => k_is); (case a30 => k_is); (case l30 => k_is); (case c30 => k_is); (case k30 => k_is); (case a31 => k_is); (case l31 => k_is); (case c31 => k_is); (case k31 => k_is); (case a32 => k_is); (case l32 => k_is); (case c32 => k_is); (case k32 => k_is); (case a33 => k_is); (case l33 => k_is); (case c33 => k_is); (case k33 => k_is); (case a34 => k_is); (case l34 => k_is); (case c34 => k_is); (case k34 => k_is); (case a35 => k_is); (case l35 => k_is); (case c35 => k_is); (case k35 => k_is); (case a36 => k_is); (case l36 => k_is); (case c36 => k_is); (case k36 => k_is); (case a37 => k_is); (case l37 => k_is); (case c37 => k_is); (case k37 => k_is); (case a38 => k_is); (case l38 => k_is); (case c38 => k_is); (case k38 => k_is); (case a39 => k_is); (case l39 => k_is); (case c39 => k_is); (case k39 => k_is); (case a40 => k_is); (case l40 => k_is); (case c40 => k_is); (case k40 => k_is); (case a41 => k_is); (case l41 => k_is); (case c41 => k_is); (case k41 => k_is); (case a42 => k_is); (case l42 => k_is); (case c42 => k_is); (case k42 => k_is); (case a43 => k_is); (case l43 => k_is); (case c43 => k_is); (case k43 => k_is); (case a44 => k_is); (case l44 => k_is); (case c44 => k_is); (case k44 => k_is); (case a45 => k_is); (case l45 => k_is); (case c45 => k_is); (case k45 => k_is); (case a46 => k_is); (case l46 => k_is); (case c46 => k_is); (case k46 => k_is); (case a47 => k_is); (case l47 => k_is); (case c47 => k_is); (case k47 => k_is); (case a48 => k_is); (case l48 => k_is); (case c48 => k_is); (case k48 => k_is); (case a49 => k_is); (case l49 => k_is); (case c49 => k_is); (case k49 => k_is); (case a50 => k_is); (case l50 => k_is); (case c50 => k_is); (case k50 => k_is); (case a51 => k_is); (case l51 => k_is); (case c51 => k_is); (case k51 => k_is); (case a52 => k_is); (case l52 => k_is); (case c52 => k_is); (case k52 => k_is); (case a53 => k_is); (case l53 => k_is); (case c53 => k_is); (case k53 => k_is); (case g_MOST_THINGS => k_is); (case g_MOST_LISTED => k_is); (case g_WAYS => k_is); (case l_WAYS => k_is); (case z_abs => k_is); (case z_all => k_is); (case z_bool => k_is); (case z_enumerate => k_is); (case z_int => k_is); (case z_isinstance => k_is); (case z_len => k_is); (case z_list => k_is); (case z_max => k_is); (case z_min => k_is); (case z_range => k_is); (case z_sorted => k_is); (case z_str => k_is); (case z_sum => k_is); (case z_zip => k_is)

