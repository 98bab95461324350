import PyProof.Rows.All
import Wide.All
import OpenK.AllK
import Wide.FinOn
import HandS.ForMost
import HandS.IsInst
import HandS.Conv
import HandS.Style
import HandS.More
import HandS.Evl
import HandS.Zip
import HandS.SetFor
import HandS.Sort
import HandS.Wide
import HandS.Deep
import KE.SortData
import KE.KUnpackStar
import PySem.Challenge.RW_farorders_k23_longest_lists
set_option Elab.async false
set_option linter.all false
set_option maxRecDepth 100000
namespace Fo
open PySem PySem.Spec PyProof.Rows L2
/-! ### lists and orders -/
def rg (n : Nat) : List Int := (List.range n).map fun k => ((k : Nat) : Int)
def IsOrd (n : Nat) (ns : List Int) : Prop := ns.Perm (rg n)
theorem rg_len (n : Nat) : (rg n).length = n := by
  unfold rg
  rw [List.length_map, List.length_range]
theorem rg_mem {n : Nat} {x : Int} : x ∈ rg n ↔ 0 ≤ x ∧ x < n := by
  unfold rg
  rw [List.mem_map]
  constructor
  · rintro ⟨k, hk, rfl⟩
    have := List.mem_range.mp hk
    omega
  · rintro ⟨h0, h1⟩
    exact ⟨x.toNat, List.mem_range.mpr (by omega), by omega⟩
theorem rg_nodup (n : Nat) : (rg n).Nodup := by
  unfold rg
  exact List.Pairwise.map _ (fun a b h e => h (by omega)) List.nodup_range
theorem rg_sorted (n : Nat) : (rg n).Pairwise (· ≤ ·) := by
  unfold rg
  exact List.Pairwise.map _ (fun a b h => by omega) List.pairwise_lt_range
theorem rg_V (n : Nat) : rgV 0 (n : Int) = (rg n).map V.int := by
  unfold rgV rg
  rw [List.map_map, show ((n : Int) - 0).toNat = n by omega]
  apply List.map_congr_left
  intro a _
  show V.int (0 + (a : Int)) = V.int (a : Int)
  rw [Int.zero_add]
theorem IsOrd.len {n : Nat} {ns : List Int} (h : IsOrd n ns) : ns.length = n := (List.Perm.length_eq h).trans (rg_len n)
theorem IsOrd.mem {n : Nat} {ns : List Int} (h : IsOrd n ns) {x : Int} (m : x ∈ ns) : 0 ≤ x ∧ x < n := rg_mem.mp ((List.Perm.mem_iff h).mp m)
theorem IsOrd.nodup {n : Nat} {ns : List Int} (h : IsOrd n ns) : ns.Nodup := (List.Perm.nodup_iff h).mpr (rg_nodup n)
/-- two sorted lists of the same things are one -/
theorem sorted_eq : ∀ {a b : List Int}, a.Perm b → a.Pairwise (· ≤ ·) → b.Pairwise (· ≤ ·) → a = b := by
  intro a b hp ha hb
  exact List.Perm.eq_of_pairwise (fun x y _ _ h1 h2 => by omega) ha hb hp
/-- the things at p and p + 1 change places -/
def sw (xs : List Int) (p : Nat) : List Int := (xs.set p (xs.getD (p + 1) 0)).set (p + 1) (xs.getD p 0)
theorem split2 : ∀ {xs : List Int} {p : Nat}, p + 1 < xs.length → ∃ A a b B, xs = A ++ a :: b :: B ∧ A.length = p
  | [], p, h => by simp at h
  | [_], p, h => by simp at h
  | a :: b :: r, 0, _ => ⟨[], a, b, r, rfl, rfl⟩
  | a :: b :: r, p + 1, h => by
    obtain ⟨A, x, y, B, e, l⟩ := split2 (xs := b :: r) (p := p) (by simpa using h)
    exact ⟨a :: A, x, y, B, by rw [e]; rfl, by rw [List.length_cons, l]⟩
theorem sw_at : ∀ (A : List Int) (a b : Int) (B : List Int), sw (A ++ a :: b :: B) A.length = A ++ b :: a :: B
  | [], a, b, B => rfl
  | x :: A, a, b, B => by
    have ih := sw_at A a b B
    unfold sw at ih ⊢
    show x :: _ = x :: _
    exact congrArg (x :: ·) ih
theorem sw_perm {xs : List Int} {p : Nat} (h : p + 1 < xs.length) : (sw xs p).Perm xs := by
  obtain ⟨A, a, b, B, rfl, rfl⟩ := split2 h
  rw [sw_at]
  exact List.Perm.append_left A (List.Perm.swap a b B)
theorem sw_len (xs : List Int) (p : Nat) : (sw xs p).length = xs.length := by
  unfold sw
  rw [List.length_set, List.length_set]
theorem sw_ord {n : Nat} {xs : List Int} {p : Nat} (o : IsOrd n xs) (h : p + 1 < n) : IsOrd n (sw xs p) :=
  (sw_perm (by rw [o.len]; exact h)).trans o
theorem sw_V {xs : List Int} {p : Nat} {a b : Int} (ha : xs[p]? = some a) (hb : xs[p + 1]? = some b) : ((xs.map V.int).set p (V.int b)).set (p + 1) (V.int a) = (sw xs p).map V.int := by
  unfold sw
  rw [List.getD_eq_getElem?_getD, List.getD_eq_getElem?_getD, ha, hb, List.map_set, List.map_set]
  rfl
theorem pop_ins {xs : List Int} {p : Nat} {a : Int} (h : p + 1 < xs.length) (ha : xs[p]? = some a) : (xs.eraseIdx p).take (p + 1) ++ [a] ++ (xs.eraseIdx p).drop (p + 1) = sw xs p := by
  obtain ⟨A, x, y, B, rfl, rfl⟩ := split2 h
  have ex : x = a := by
    rw [List.getElem?_append_right (Nat.le_refl _), Nat.sub_self] at ha
    exact Option.some.inj ha
  subst ex
  rw [sw_at, List.eraseIdx_append_of_length_le (Nat.le_refl _), Nat.sub_self]
  show (A ++ y :: B).take (A.length + 1) ++ [x] ++ (A ++ y :: B).drop (A.length + 1) = _
  rw [List.take_append, List.drop_append]
  have t : A.length + 1 - A.length = 1 := by omega
  rw [t, List.take_of_length_le (by omega), List.drop_of_length_le (by omega)]
  simp
/-- the order at a walk's end -/
def wEnd (xs : List Int) (ws : List Int) : List Int := ws.foldl (fun x p => sw x p.toNat) xs
theorem wEnd_more {xs ws : List Int} {i : Nat} {p : Int} (h : ws[i]? = some p) : wEnd xs (ws.take (i + 1)) = sw (wEnd xs (ws.take i)) p.toNat := by
  unfold wEnd
  rw [List.take_add_one, h, List.foldl_append]
  rfl
theorem wEnd_ord {n : Nat} {xs : List Int} (o : IsOrd n xs) : ∀ {ws : List Int}, (∀ p ∈ ws, 0 ≤ p ∧ p + 1 < n) → IsOrd n (wEnd xs ws) := by
  intro ws
  induction ws generalizing xs with
  | nil => intro _; exact o
  | cons p ws ih =>
    intro h
    have hp := h p List.mem_cons_self
    exact ih (sw_ord o (by omega)) fun q hq => h q (List.mem_cons_of_mem _ hq)
theorem nodup_len : ∀ {l m : List Int}, l.Nodup → (∀ x ∈ l, x ∈ m) → l.length ≤ m.length
  | [], m, _, _ => Nat.zero_le _
  | a :: l, m, hn, hs => by
    obtain ⟨h1, h2⟩ := List.nodup_cons.mp hn
    have ha := hs a List.mem_cons_self
    have ih := nodup_len (l := l) (m := m.erase a) h2 fun x hx => by
      have ne : x ≠ a := fun e => h1 (by rw [← e]; exact hx)
      exact (List.mem_erase_of_ne ne).mpr (hs x (List.mem_cons_of_mem _ hx))
    rw [List.length_erase_of_mem ha] at ih
    have : 0 < m.length := List.length_pos_of_mem ha
    rw [List.length_cons]
    omega
theorem int_at {ns : List Int} {i : Nat} {x : Int} (h : ns[i]? = some x) : (ns.map V.int)[i]? = some (V.int x) := by
  rw [List.getElem?_map, h]
  rfl
theorem int_at_inv {ns : List Int} {i : Nat} {v : V} (h : (ns.map V.int)[i]? = some v) : ∃ x, ns[i]? = some x ∧ v = V.int x := by
  rw [List.getElem?_map] at h
  cases e : ns[i]? with
  | none => rw [e] at h; cases h
  | some x => rw [e] at h; exact ⟨x, rfl, (Option.some.inj h).symm⟩
theorem line_small {n : Nat} (h : n ≤ 16777216) : n ≤ sizeLine := by rw [sizeLine_eq]; exact h
theorem line_lt {n : Nat} (h : n < 16777216) : n < sizeLine := by rw [sizeLine_eq]; exact h
/-! ### data of ints -/
theorem dp_ints {K : PySem.W.Frag} {H : Hp} : ∀ ns : List Int, DpAll K H (ns.map V.int) (ns.map PyData.int)
  | [] => .nil
  | n :: r => .cons (.int n) (dp_ints r)
theorem dp_list {K : PySem.W.Frag} {H : Hp} {a : Addr} {ns : List Int} (h : H a = some (.lst (ns.map V.int))) : Dp K H (.ref a) (.list (ns.map PyData.int)) := .lst (SqL.of h) (dp_ints ns)
theorem eqv_int (i j : Int) : PyData.eqv (.int i) (.int j) = (i == j) := rfl
end Fo
namespace Fo
open PySem PySem.Spec PyProof.Rows L2
abbrev dI (ns : List Int) : List PyData := ns.map PyData.int
abbrev dL (ns : List Int) : PyData := .list (dI ns)
abbrev dLL (l : List (List Int)) : PyData := .list (l.map dL)
theorem lay_ints : ∀ ns : List Int, PyData.canLayAll0 (dI ns) = true
  | [] => rfl
  | n :: r => by
    show (PyData.canLay0 (.int n) && PyData.canLayAll0 (dI r)) = true
    rw [lay_ints r]
    rfl
theorem depth_ints : ∀ ns : List Int, PyData.depthAll (dI ns) = 0
  | [] => by simp [PyData.depthAll]
  | n :: r => by
    show PyData.depthAll (.int n :: dI r) = 0
    rw [PyData.depthAll, depth_ints r]
    simp [PyData.depth]
theorem lay_list (ns : List Int) : PyData.canLay0 (dL ns) = true := by
  rw [PyData.canLay0]
  exact lay_ints ns
theorem depth_list (ns : List Int) : PyData.depth (dL ns) = 1 := by
  rw [PyData.depth, depth_ints]
theorem shaped_list (ns : List Int) : SeqAt.shaped (dL ns) = true := by
  unfold SeqAt.shaped
  rw [lay_list, depth_list]
  rfl
theorem lay_lists : ∀ l : List (List Int), PyData.canLayAll0 (l.map dL) = true
  | [] => rfl
  | n :: r => by
    show (PyData.canLay0 (dL n) && PyData.canLayAll0 (r.map dL)) = true
    rw [lay_lists r, lay_list]
    rfl
theorem depth_lists : ∀ l : List (List Int), PyData.depthAll (l.map dL) ≤ 1
  | [] => by simp [PyData.depthAll]
  | n :: r => by
    show PyData.depthAll (dL n :: r.map dL) ≤ 1
    rw [PyData.depthAll, depth_list]
    have := depth_lists r
    omega
theorem shaped_lists (l : List (List Int)) : SeqAt.shaped (dLL l) = true := by
  unfold SeqAt.shaped
  rw [Bool.and_eq_true_iff]
  constructor
  · rw [PyData.canLay0]
    exact lay_lists l
  · apply decide_eq_true
    rw [PyData.depth]
    have := depth_lists l
    omega
theorem eqv_list (ns : List Int) : PyData.eqv (dL ns) (dL ns) = true := SeqAt.eqv_refl _ (lay_list ns)
theorem eqv_lists (l : List (List Int)) : PyData.eqv (dLL l) (dLL l) = true := SeqAt.eqv_refl _ (SeqAt.canLay_of_shaped (shaped_lists l))
theorem eqvAll_ints : ∀ a b : List Int, PyData.eqvAll (dI a) (dI b) = decide (a = b)
  | [], [] => by simp [PyData.eqvAll]
  | [], _ :: _ => by simp [PyData.eqvAll]
  | _ :: _, [] => by simp [PyData.eqvAll]
  | x :: a, y :: b => by
    show PyData.eqvAll (.int x :: dI a) (.int y :: dI b) = _
    rw [PyData.eqvAll, eqvAll_ints a b]
    show ((x == y) && decide (a = b)) = decide (x :: a = y :: b)
    by_cases h : x = y
    · subst h
      simp
    · simp [h]
theorem eqv_ints (a b : List Int) : PyData.eqv (dL a) (dL b) = decide (a = b) := by
  rw [PyData.eqv]
  exact eqvAll_ints a b
end Fo
namespace Fo
open PySem PySem.Spec PyProof.Rows L2
/-! ### slices of ints -/
def cutI (ws : List Int) (lo hi : Option Int) : List Int := (ws.drop (HT.sIx ws.length 0 lo)).take (HT.sIx ws.length ws.length hi - HT.sIx ws.length 0 lo)
theorem cut_ints (ws : List Int) (lo hi : Option Int) : cutV (ws.map V.int) lo hi = (cutI ws lo hi).map V.int := by
  unfold cutV cutI
  rw [List.length_map, List.map_take, List.map_drop]
theorem cutI_mem {ws : List Int} {lo hi : Option Int} {x : Int} (h : x ∈ cutI ws lo hi) : x ∈ ws := List.mem_of_mem_drop (List.mem_of_mem_take h)
theorem cutI_len (ws : List Int) (lo hi : Option Int) : (cutI ws lo hi).length ≤ ws.length := by
  unfold cutI
  rw [List.length_take, List.length_drop]
  omega
theorem cutI_head (ws : List Int) (k : Nat) : cutI ws none (some (k : Int)) = ws.take k := by
  unfold cutI
  rw [HT.sIx_none, HT.sIx_nat, List.drop_zero, Nat.sub_zero]
  by_cases h : k ≤ ws.length
  · rw [Nat.min_eq_left h]
  · rw [Nat.min_eq_right (by omega), List.take_length, List.take_of_length_le (by omega)]
theorem cutI_tail (ws : List Int) (k : Nat) : cutI ws (some (k : Int)) none = ws.drop k := by
  unfold cutI
  rw [HT.sIx_none, HT.sIx_nat]
  by_cases h : k ≤ ws.length
  · rw [Nat.min_eq_left h, List.take_of_length_le (by rw [List.length_drop]; exact Nat.le_refl _)]
  · rw [Nat.min_eq_right (by omega), List.drop_of_length_le (Nat.le_refl _), List.drop_of_length_le (by omega), List.take_nil]
end Fo
namespace Fo
open PySem PySem.Spec PyProof.Rows L2
/-- a loop over enumerate of a list that stands still -/
theorem for_enumL {K : PySem.W.Frag} {a : Addr} {xs : List V} {g : TG} {tb : TS} {D : Ends} {σ : L2.St} {H : Hp} (Pv : Nat → L2.St → Hp → Prop) (h0 : Pv 0 σ H) (hq : ∀ i σ H, Pv i σ H → SqL K H a xs)
    (hs : ∀ (i : Nat) (x : V) (T : Addr) (σ : L2.St) (H : Hp), xs[i]? = some x → Pv i σ H → H T = none → g (.ref T) σ (upd H T (.tup [.int (i : Nat), x])) fun σ2 H2 => tb { D with nx := Pv (i + 1), ct := Pv (i + 1), bk := D.nx } σ2 H2) (hd : ∀ σ H, Pv xs.length σ H → D.nx σ H) :
    ∃ W : Nat → Nat → L2.St → Hp → Prop, (∃ m, W 0 m σ H) ∧ ∀ i m σ H, W i m σ H →
      ((Ite K a).stop i H ∧ D.nx σ H) ∨ ((Ite K a).go i H ∧ ∃ N : L2.St → Hp → Prop, (∀ σ' H', N σ' H' → ∃ m', m' < m ∧ W (i + 1) m' σ' H') ∧ ∀ v H', (Ite K a).yld i H v H' → g v σ H' fun σ2 H2 => tb { D with nx := N, ct := N, bk := D.nx } σ2 H2) := by
  refine ⟨fun i m σ H => m = xs.length - i ∧ i ≤ xs.length ∧ Pv i σ H, ⟨xs.length, rfl, Nat.zero_le _, h0⟩, ?_⟩
  rintro i m σ H ⟨rfl, hi, p⟩
  have qx := hq i σ H p
  by_cases hlt : i < xs.length
  · have hx : xs[i]? = some xs[i] := List.getElem?_eq_getElem hlt
    refine .inr ⟨⟨xs, _, qx, hx⟩, Pv (i + 1), fun σ' H' p' => ⟨xs.length - (i + 1), by omega, rfl, hlt, p'⟩, fun v H' y => ?_⟩
    obtain ⟨T, x', rfl, hT, rfl, f1⟩ := y
    exact hs i x' T σ H (f1 xs qx) p hT
  · have e : i = xs.length := by omega
    subst e
    exact .inl ⟨⟨xs, qx, Nat.le_refl _⟩, hd σ H p⟩
/-- a comprehension over enumerate of a list that stands still -/
theorem lc_enumL {K : PySem.W.Frag} {a : Addr} {xs : List V} {g : TG} {tt : TT} {te : TE} {vs : List Nat} {σ : L2.St} {H1 : Hp} {D : Addr} {Qd : Hp → Prop} (Pv : Nat → Hp → Prop) (h0 : Pv 0 (upd H1 D (.lst []))) (hl : ∀ i H, i ≤ xs.length → Pv i H → SqL K H a xs)
    (hs : ∀ (i : Nat) (x : V) (T : Addr) (H : Hp), xs[i]? = some x → Pv i H → H T = none → g (.ref T) (wipe σ vs) (upd H T (.tup [.int (i : Nat), x])) fun σ2 H2 => wipe σ2 vs = wipe σ vs ∧ tt σ2 H2 fun b H3 =>
      if b = true then te σ2 H3 fun y H4 => ∃ acc, H4 D = some (.lst acc) ∧ acc.length < sizeLine ∧ Pv (i + 1) (upd H4 D (.lst (acc ++ [y]))) else Pv (i + 1) H3) (hd : ∀ H, Pv xs.length H → Qd H) :
    ∃ W : Nat → Nat → Hp → Prop, (∃ m, W 0 m (upd H1 D (.lst []))) ∧ ∀ i m H, W i m H →
      ((Ite K a).stop i H ∧ Qd H) ∨ ((Ite K a).go i H ∧ ∃ Nx : Hp → Prop, (∀ H', Nx H' → ∃ m', m' < m ∧ W (i + 1) m' H') ∧ ∀ x H', (Ite K a).yld i H x H' → g x (wipe σ vs) H' fun σ2 H2 => wipe σ2 vs = wipe σ vs ∧ tt σ2 H2 fun b H3 =>
        if b = true then te σ2 H3 fun y H4 => ∃ acc, H4 D = some (.lst acc) ∧ acc.length < sizeLine ∧ Nx (upd H4 D (.lst (acc ++ [y]))) else Nx H3) := by
  refine ⟨fun i m H => m = xs.length - i ∧ i ≤ xs.length ∧ Pv i H, ⟨xs.length, by simp, Nat.zero_le _, h0⟩, ?_⟩
  rintro i m H ⟨rfl, hi, p⟩
  have q := hl i H hi p
  by_cases hlt : i < xs.length
  · refine .inr ⟨⟨xs, xs[i], q, by simp [hlt]⟩, Pv (i + 1), fun H' p' => ⟨xs.length - (i + 1), by omega, rfl, hlt, p'⟩, fun x H' y => ?_⟩
    obtain ⟨T, x', rfl, hT, rfl, f1⟩ := y
    exact hs i x' T H (f1 xs q) p hT
  · have e : i = xs.length := by omega
    subst e
    exact .inl ⟨⟨xs, q, Nat.le_refl _⟩, hd H p⟩
/-! ### the back of an order -/
def IsBack (ns ps : List Int) : Prop := ps.length = ns.length ∧ ∀ (j : Nat) (x : Int), ns[j]? = some x → ps[x.toNat]? = some (j : Int)
theorem ord_at {n : Nat} {ns : List Int} (o : IsOrd n ns) {t : Nat} (h : t < n) : ∃ j : Nat, j < n ∧ ns[j]? = some (t : Int) := by
  have m : (t : Int) ∈ ns := (List.Perm.mem_iff o).mpr (rg_mem.mpr ⟨by omega, by omega⟩)
  obtain ⟨j, hj⟩ := List.mem_iff_getElem?.mp m
  exact ⟨j, by have := (List.getElem?_eq_some_iff.mp hj).1; rw [o.len] at this; exact this, hj⟩
theorem ord_ix {n : Nat} {ns : List Int} (o : IsOrd n ns) {j : Nat} (h : j < n) : ∃ x : Int, ns[j]? = some x ∧ 0 ≤ x ∧ x < n := by
  have hj : j < ns.length := by rw [o.len]; exact h
  exact ⟨ns[j], List.getElem?_eq_getElem hj, o.mem (List.getElem_mem hj)⟩
theorem back_eq {n : Nat} {ns a b : List Int} (o : IsOrd n ns) (ha : IsBack ns a) (hb : IsBack ns b) : a = b := by
  apply List.ext_getElem?
  intro t
  by_cases h : t < n
  · obtain ⟨j, _, hj⟩ := ord_at o h
    have h1 := ha.2 j _ hj
    have h2 := hb.2 j _ hj
    rw [Int.toNat_natCast] at h1 h2
    rw [h1, h2]
  · rw [List.getElem?_eq_none (by rw [ha.1, o.len]; omega), List.getElem?_eq_none (by rw [hb.1, o.len]; omega)]
def behindL (ns ms : List Int) : List Int := ms.map fun p => ns.getD p.toNat 0
theorem behind_at {ns ms : List Int} {i : Nat} {p x : Int} (hp : ms[i]? = some p) (hx : ns[p.toNat]? = some x) : (behindL ns ms)[i]? = some x := by
  unfold behindL
  rw [List.getElem?_map, hp]
  show some (ns.getD p.toNat 0) = some x
  rw [List.getD_eq_getElem?_getD, hx]
  rfl
theorem behind_len (ns ms : List Int) : (behindL ns ms).length = ms.length := by
  unfold behindL
  rw [List.length_map]
theorem take_more {l : List Int} {i : Nat} {x : Int} (h : l[i]? = some x) : l.take (i + 1) = l.take i ++ [x] := by
  rw [List.take_add_one, h]
  rfl
theorem flat_ints : ∀ ns : List Int, (ns.map V.int).all flatV = true
  | [] => rfl
  | n :: r => by
    show (flatV (V.int n) && (r.map V.int).all flatV) = true
    rw [flat_ints r]
    rfl
theorem eqV_int (i j : Int) : eqV (.int i) (.int j) = (i == j) := rfl
end Fo
namespace Fo
open PySem PySem.Spec PyProof.Rows L2
/-! ### a slice with a step that is reckoned, 1 or -1 -/
theorem pick_one (items : Array Value) : slicePick items none none (some 1) = items := by
  have e : slicePick items none none (some 1) = slicePick items none none none := rfl
  rw [e, PySem.W.kmk_pick_nat (a := 0) (b := items.size) items rfl, List.drop_zero, Nat.sub_zero, ← Array.length_toList, List.take_length]
def tStepL (K : PySem.W.Frag) (te ts : TE) : TE := fun σ H Q => te σ H fun x H1 => ∃ a, x = .ref a ∧ tPart ts σ H1 fun o H2 => ∃ xs, SqL K H2 a xs ∧
  ((o = some 1 ∧ ∀ p, H2 p = none → Q (.ref p) (upd H2 p (.lst xs))) ∨ (o = some (-1) ∧ ∀ p, H2 p = none → Q (.ref p) (upd H2 p (.lst xs.reverse))))
theorem pe_stepL {X : Cx} {e st : Expr} {te ts : TE} {p3 pos : Pos} (he : PE X e te) (hst : PE X st ts)
    (hsub : ∀ u : Value, ∀ r : Addr, subscripted (.Slice none none (some st) p3) false u (.ref r) = operate [u, .ref r] (getItem u (.ref r)) := by intro _ _; with_unfolding_all rfl) : PE X (.Subscript e (.Slice none none (some st) p3) pos) (tStepL X.K te ts) := by
  refine ⟨fun pins s σ H Q I h => ?_⟩
  refine Subscript_ (thn (he.run pins s σ H _ I h) fun v s1 z1 => ?_)
  obtain ⟨x, H1, I1, r1, a, ex, q1⟩ := z1
  subst ex
  cases r1
  refine wpAny_Slice (thn (po_none.run pins s1 σ H1 (fun o H2 => o = none ∧ H2 = H1) I1 ⟨rfl, rfl⟩) fun vl s2 z2 => ?_)
  obtain ⟨l, H2, I2, pl, el, e2⟩ := z2
  subst el e2
  refine thn (po_none.run pins s2 σ H2 (fun o H3 => o = none ∧ H3 = H2) I2 ⟨rfl, rfl⟩) fun vu s3 z3 => ?_
  obtain ⟨u, H3, I3, pu, eu, e3⟩ := z3
  subst eu e3
  refine thn ((po_some hst).run pins s3 σ H3 _ I3 q1) fun vs s4 z4 => ?_
  obtain ⟨o, H4, I4, ps, xs, hx, q⟩ := z4
  have I5 : Inv X pins σ H4 { s4 with heap := s4.heap.push { cls := .type "slice", data := .fields #[vl, vu, vs] } } := I4.kept (t' := s4.toks) fun b ob w => Heap.get?_push_of_some _ w
  obtain ⟨its, r, ht, hz⟩ := I5.list hx
  have hlen := r.length
  show wpAny (model X.prog X.w) X.A (subscriptTail e (.Slice none none (some st) p3) (.ref a) (.ref s4.heap.objs.size)) (EP X pins σ Q) X.xe _
  refine tail_any (ops := [.ref a, .ref s4.heap.objs.size]) ht.isList.typeIs (PySem.slot_list_getitem.lookup) ?_ (hsub _ _)
  rcases q with ⟨eo, q⟩ | ⟨eo, q⟩
  · subst eo
    refine wpAny_getItem_list_slice ht.isList (Heap.IsSliceOf.new _ vl vu vs) pl pu ps (by decide) ?_ (by rw [List.size_toArray]; omega)
    rw [pick_one]
    refine ⟨.ref _, _, I5.laid (t' := s4.toks) (o := .lst xs) (fun b ob w => Heap.get?_push_of_some _ w) (Nat.le_refl _) ?_, rfl, q _ (I5.hok.fresh (Nat.le_refl _))⟩
    exact ⟨hz, _, 0, r, Heap.get?_push_size _ rfl⟩
  · subst eo
    refine wpAny_getItem_list_slice ht.isList (Heap.IsSliceOf.new _ vl vu vs) pl pu ps (by decide) ?_ (by rw [List.size_toArray]; omega)
    rw [PySem.W.krv_pick]
    refine ⟨.ref _, _, I5.laid (t' := s4.toks) (o := .lst xs.reverse) (fun b ob w => Heap.get?_push_of_some _ w) (Nat.le_refl _) ?_, rfl, q _ (I5.hok.fresh (Nat.le_refl _))⟩
    exact ⟨by rw [List.length_reverse]; exact hz, _, 0, r.reverse, Heap.get?_push_size _ rfl⟩
end Fo
namespace Fo
open PySem PySem.Spec PyProof.Rows L2
/-! ### the text -/
def topS (i : Nat) : Stmt := PySem.Challenge.pw_farorders_k23_longest_lists.main.body.getD i (.Pass ⟨0, 0, 0, 0⟩)
abbrev s_OrderError : Stmt := topS 1
abbrev s_NoWay : Stmt := topS 2
abbrev s_NoNumber : Stmt := topS 3
abbrev s_is_whole : Stmt := topS 6
abbrev s_check_way : Stmt := topS 7
abbrev s_check_from : Stmt := topS 8
abbrev s_check_size : Stmt := topS 9
abbrev s_check_apart : Stmt := topS 10
abbrev s_places_in : Stmt := topS 12
abbrev s_seats_in : Stmt := topS 13
abbrev s_known_far : Stmt := topS 14
abbrev s_far_by_swap : Stmt := topS 15
abbrev s_far_by_spot : Stmt := topS 16
abbrev s_far_by_shift : Stmt := topS 17
abbrev s_all_orders : Stmt := topS 18
abbrev s_orders_with : Stmt := topS 19
abbrev s_longest_apart : Stmt := topS 22
abbrev s_longest_from : Stmt := topS 23
abbrev s_far_ones : Stmt := topS 24
abbrev s_law_cell : Stmt := topS 26
abbrev s_law_store : Stmt := topS 27
abbrev s_law_take : Stmt := topS 28
abbrev s_law_far : Stmt := topS 29
abbrev s_law_orders : Stmt := topS 30
abbrev s_law_order : Stmt := topS 31
abbrev s_law_way : Stmt := topS 32
abbrev s_law_most : Stmt := topS 33
abbrev s_law_distance : Stmt := topS 34
abbrev s_law_is_order : Stmt := topS 35
abbrev s_law_apart : Stmt := topS 36
abbrev s_law_deep : Stmt := topS 37
abbrev s_law_parts : Stmt := topS 38
abbrev s_law_grown : Stmt := topS 39
abbrev s_law_due : Stmt := topS 40
abbrev s_law : Stmt := topS 41
/-- a def of the text, where it stands -/
structure Df (K : PySem.W.Frag) (mg : Str → Option Value) (x : Str) (st : Stmt) (ps : List Str) (f : Addr) (fd : FuncData) : Prop where
  F : Fun K x x st f fd
  b : Binds K fd ps []
  g : mg x = some (.ref f)
/-- the built-in names as they were -/
structure Bi (mg : Str → Option Value) : Prop where
  ValueError : mg "ValueError" = none
  abs : mg "abs" = none
  bool : mg "bool" = none
  enumerate : mg "enumerate" = none
  int : mg "int" = none
  isinstance : mg "isinstance" = none
  len : mg "len" = none
  list : mg "list" = none
  max : mg "max" = none
  min : mg "min" = none
  range : mg "range" = none
  sorted : mg "sorted" = none
  str : mg "str" = none
end Fo
namespace Fo
open PySem PySem.Spec PyProof.Rows L2
theorem same_new {H : Hp} {p : Addr} {o : HO} (h : H p = none) : Same H (upd H p o) := fun b x e => by
  rw [upd_ne (ne_of_none e h)]
  exact e
theorem at2_0 {x y : V} : atI [x, y] 0 = some x := rfl
theorem at2_1 {x y : V} : atI [x, y] 1 = some y := rfl
end Fo
namespace Fo
open PySem PySem.Spec PyProof.Rows L2
theorem pop_perm : ∀ {xs : List Int} {k : Nat} {y : Int}, xs[k]? = some y → (y :: xs.eraseIdx k).Perm xs
  | [], k, y, h => by simp at h
  | a :: r, 0, y, h => by
    have e : a = y := Option.some.inj h
    subst e
    exact List.Perm.refl _
  | a :: r, k + 1, y, h => by
    have ih := pop_perm (xs := r) (k := k) (y := y) h
    show (y :: a :: r.eraseIdx k).Perm (a :: r)
    exact (List.Perm.swap a y _).trans (List.Perm.cons a ih)
theorem map_erase : ∀ (xs : List Int) (k : Nat), (xs.map V.int).eraseIdx k = (xs.eraseIdx k).map V.int
  | [], k => rfl
  | a :: r, 0 => rfl
  | a :: r, k + 1 => congrArg (V.int a :: ·) (map_erase r k)
/-- what len asks of a list or a tuple -/
abbrev rLenS (K : PySem.W.Frag) : List V → Hp → VK → Prop := fun xs H Q => ∃ p ys, xs = [.ref p] ∧ (SqL K H p ys ∨ SqT K H p ys) ∧ Q (.int ys.length) H
theorem seq_ix {i : Int} {k n : Nat} (e : i = (k : Int)) (h : k < n) : seqIndex? i n = some k := by
  subst e
  unfold seqIndex?
  have h1 : ¬ ((k : Int) < 0) := by omega
  simp only [h1, if_false]
  have h2 : (decide ((0 : Int) ≤ (k : Int)) && decide ((k : Int) < (n : Int))) = true := by
    simp
    omega
  rw [if_pos h2, Int.toNat_natCast]
theorem ix_n {i : Int} {k n : Nat} (e : i = (k : Int)) (h : k < n) : ixN n i = some k := by
  subst e
  unfold ixN
  rw [if_pos (by omega), if_pos (by omega), Int.toNat_natCast]
end Fo
namespace Fo
open PySem PySem.Spec PyProof.Rows L2
abbrev rMax2 : List V → Hp → VK → Prop := fun xs H Q => ∃ i j, xs = [.int i, .int j] ∧ Q (.int (if j > i then j else i)) H
abbrev rMin2 : List V → Hp → VK → Prop := fun xs H Q => ∃ i j, xs = [.int i, .int j] ∧ Q (.int (if j < i then j else i)) H
abbrev rInt1 : List V → Hp → VK → Prop := fun xs H Q => (∃ i, xs = [.int i] ∧ Q (.int i) H) ∨ ∃ k, xs = [.bl k] ∧ Q (.int (if k then 1 else 0)) H
theorem filter_more {l : List Int} {m : Nat} {x : Int} (p : Int → Bool) (h : l[m]? = some x) : (l.take (m + 1)).filter p = (l.take m).filter p ++ (if p x then [x] else []) := by
  rw [List.take_add_one, h, List.filter_append]
  show _ ++ List.filter p [x] = _
  rw [List.filter_cons]
  rfl
end Fo
namespace Fo
open PySem PySem.Spec PyProof.Rows L2
/-! ### lists of lists -/
def LL (H : Hp) : List Addr → List (List Int) → Prop
  | [], [] => True
  | a :: as, r :: rs => H a = some (.lst (r.map V.int)) ∧ LL H as rs
  | _, _ => False
theorem LL.len {H : Hp} : ∀ {as : List Addr} {rs : List (List Int)}, LL H as rs → as.length = rs.length
  | [], [], _ => rfl
  | [], _ :: _, h => h.elim
  | _ :: _, [], h => h.elim
  | a :: as, r :: rs, h => by rw [List.length_cons, List.length_cons, LL.len h.2]
theorem LL.keep {H H' : Hp} : ∀ {as : List Addr} {rs : List (List Int)}, LL H as rs → (∀ a ∈ as, ∀ o, H a = some o → H' a = some o) → LL H' as rs
  | [], [], _, _ => trivial
  | [], _ :: _, h, _ => h.elim
  | _ :: _, [], h, _ => h.elim
  | a :: as, r :: rs, h, k => ⟨k a List.mem_cons_self _ h.1, LL.keep h.2 fun b hb => k b (List.mem_cons_of_mem _ hb)⟩
theorem LL.same {H H' : Hp} {as : List Addr} {rs : List (List Int)} (h : LL H as rs) (s : Same H H') : LL H' as rs := h.keep fun a _ o e => s a o e
theorem LL.get {H : Hp} : ∀ {as : List Addr} {rs : List (List Int)} {i : Nat} {a : Addr}, LL H as rs → as[i]? = some a → ∃ r, rs[i]? = some r ∧ H a = some (.lst (r.map V.int))
  | [], [], _, _, _, e => by simp at e
  | [], _ :: _, _, _, h, _ => h.elim
  | _ :: _, [], _, _, h, _ => h.elim
  | a :: as, r :: rs, 0, b, h, e => by
    have e2 : a = b := Option.some.inj e
    subst e2
    exact ⟨r, rfl, h.1⟩
  | a :: as, r :: rs, i + 1, b, h, e => LL.get (i := i) h.2 e
theorem LL.tracked {H : Hp} {as : List Addr} {rs : List (List Int)} (h : LL H as rs) {a : Addr} (ha : a ∈ as) : ∃ o, H a = some o := by
  obtain ⟨i, hi⟩ := List.mem_iff_getElem?.mp ha
  obtain ⟨r, _, e⟩ := h.get hi
  exact ⟨_, e⟩
theorem LL.snoc {H : Hp} : ∀ {as : List Addr} {rs : List (List Int)} {a : Addr} {r : List Int}, LL H as rs → H a = some (.lst (r.map V.int)) → LL H (as ++ [a]) (rs ++ [r])
  | [], [], _, _, _, e => ⟨e, trivial⟩
  | [], _ :: _, _, _, h, _ => h.elim
  | _ :: _, [], _, _, h, _ => h.elim
  | b :: as, s :: rs, _, _, h, e => ⟨h.1, LL.snoc h.2 e⟩
theorem LL.drop {H : Hp} : ∀ {as : List Addr} {rs : List (List Int)} (k : Nat), LL H as rs → LL H (as.drop k) (rs.drop k)
  | as, rs, 0, h => h
  | [], [], k + 1, _ => trivial
  | [], _ :: _, _ + 1, h => h.elim
  | _ :: _, [], _ + 1, h => h.elim
  | _ :: as, _ :: rs, k + 1, h => LL.drop k h.2
theorem dp_LL {K : PySem.W.Frag} {H : Hp} : ∀ {as : List Addr} {rs : List (List Int)}, LL H as rs → DpAll K H (as.map V.ref) (rs.map dL)
  | [], [], _ => .nil
  | [], _ :: _, h => h.elim
  | _ :: _, [], h => h.elim
  | _ :: _, _ :: _, h => .cons (dp_list h.1) (dp_LL h.2)
theorem dp_lists {K : PySem.W.Frag} {H : Hp} {l : Addr} {as : List Addr} {rs : List (List Int)} (hl : H l = some (.lst (as.map V.ref))) (h : LL H as rs) : Dp K H (.ref l) (dLL rs) := .lst (SqL.of hl) (dp_LL h)
theorem ref_at {as : List Addr} {i : Nat} {a : Addr} (h : as[i]? = some a) : (as.map V.ref)[i]? = some (V.ref a) := by
  rw [List.getElem?_map, h]
  rfl
theorem ref_at_inv {as : List Addr} {i : Nat} {v : V} (h : (as.map V.ref)[i]? = some v) : ∃ a, as[i]? = some a ∧ v = V.ref a := by
  rw [List.getElem?_map] at h
  cases e : as[i]? with
  | none => rw [e] at h; cases h
  | some x => rw [e] at h; exact ⟨x, rfl, (Option.some.inj h).symm⟩
theorem cutV_tail (xs : List V) (k : Nat) : cutV xs (some (k : Int)) none = xs.drop k := by
  unfold cutV
  rw [HT.sIx_none, HT.sIx_nat]
  by_cases h : k ≤ xs.length
  · rw [Nat.min_eq_left h, List.take_of_length_le (by rw [List.length_drop]; exact Nat.le_refl _)]
  · rw [Nat.min_eq_right (by omega), List.drop_of_length_le (Nat.le_refl _), List.drop_of_length_le (by omega), List.take_nil]
end Fo
namespace Fo
open PySem PySem.Spec PyProof.Rows L2
/-! ### sums -/
def ind (b : Bool) : Nat := if b then 1 else 0
def sumN (l : List Int) (f : Int → Nat) : Nat := (l.map f).sum
theorem sumN_nil (f : Int → Nat) : sumN [] f = 0 := rfl
theorem sumN_cons (a : Int) (l : List Int) (f : Int → Nat) : sumN (a :: l) f = f a + sumN l f := by
  unfold sumN
  rw [List.map_cons, List.sum_cons]
theorem sumN_append (l m : List Int) (f : Int → Nat) : sumN (l ++ m) f = sumN l f + sumN m f := by
  unfold sumN
  rw [List.map_append, List.sum_append]
theorem sumN_perm {l m : List Int} (h : l.Perm m) (f : Int → Nat) : sumN l f = sumN m f := by
  induction h with
  | nil => rfl
  | cons x _ ih => rw [sumN_cons, sumN_cons, ih]
  | swap x y l => rw [sumN_cons, sumN_cons, sumN_cons, sumN_cons]; omega
  | trans _ _ h1 h2 => exact h1.trans h2
theorem sumN_congr {l : List Int} {f g : Int → Nat} (h : ∀ x ∈ l, f x = g x) : sumN l f = sumN l g := by
  unfold sumN
  rw [List.map_congr_left h]
theorem sumN_map (l : List Int) (g : Int → Int) (f : Int → Nat) : sumN (l.map g) f = sumN l (fun x => f (g x)) := by
  unfold sumN
  rw [List.map_map]
  rfl
theorem sumN_zero {l : List Int} {f : Int → Nat} (h : ∀ x ∈ l, f x = 0) : sumN l f = 0 := by
  rw [sumN_congr h]
  induction l with
  | nil => rfl
  | cons a l ih => rw [sumN_cons, ih fun x hx => h x (List.mem_cons_of_mem _ hx)]
theorem sumN_add (l : List Int) (f g : Int → Nat) : sumN l (fun x => f x + g x) = sumN l f + sumN l g := by
  induction l with
  | nil => rfl
  | cons a l ih => rw [sumN_cons, sumN_cons, sumN_cons, ih]; omega
theorem sumN_swap (l m : List Int) (f : Int → Int → Nat) : sumN l (fun i => sumN m (fun j => f i j)) = sumN m (fun j => sumN l (fun i => f i j)) := by
  induction l with
  | nil => exact (sumN_zero fun x _ => rfl).symm
  | cons a l ih =>
    rw [sumN_cons, ih, ← sumN_add]
    exact sumN_congr fun x _ => by rw [sumN_cons]
theorem filter_len (l : List Int) (p : Int → Bool) : (l.filter p).length = sumN l (fun x => ind (p x)) := by
  induction l with
  | nil => rfl
  | cons a l ih =>
    rw [sumN_cons, List.filter_cons]
    unfold ind at ih ⊢
    cases p a
    · simp only [Bool.false_eq_true, if_false]; omega
    · simp only [if_true, List.length_cons]; omega
/-! ### a list by its places -/
def g0 (s : List Int) (i : Int) : Int := s.getD i.toNat 0
theorem g0_at {s : List Int} {i : Nat} {x : Int} (h : s[i]? = some x) : g0 s (i : Int) = x := by
  unfold g0
  rw [Int.toNat_natCast, List.getD_eq_getElem?_getD, h]
  rfl
theorem by_places (s : List Int) : s = (rg s.length).map (g0 s) := by
  apply List.ext_getElem?
  intro i
  unfold rg
  rw [List.getElem?_map, List.getElem?_map]
  by_cases h : i < s.length
  · rw [List.getElem?_range h, List.getElem?_eq_getElem h]
    show some s[i] = some (g0 s (i : Int))
    rw [g0_at (List.getElem?_eq_getElem h)]
  · rw [List.getElem?_eq_none (by omega), List.getElem?_eq_none (by rw [List.length_range]; omega)]
    rfl
theorem rg_succ (n : Nat) : rg (n + 1) = rg n ++ [(n : Int)] := by
  unfold rg
  rw [List.range_succ, List.map_append]
  rfl
/-- how many of the later ones are less -/
def cntL (s : List Int) (i : Nat) : Nat := ((s.drop (i + 1)).filter (fun x => decide (x < g0 s i))).length
def invF (n : Nat) (a : Int → Int) : Nat := sumN (rg n) fun i => sumN (rg n) fun j => ind (decide (i < j) && decide (a j < a i))
def invN (s : List Int) : Nat := sumN (rg s.length) fun i => cntL s i.toNat
theorem drop_sum (n i : Nat) (f : Int → Nat) : sumN ((rg n).drop (i + 1)) f = sumN (rg n) fun j => if (i : Int) < j then f j else 0 := by
  induction n with
  | zero => rfl
  | succ n ih =>
    rw [rg_succ, sumN_append, ← ih, List.drop_append, sumN_append, rg_len]
    congr 1
    by_cases h : i + 1 ≤ n
    · rw [show i + 1 - n = 0 by omega, List.drop_zero, sumN_cons, sumN_cons, sumN_nil, sumN_nil, if_pos (by omega)]
    · rw [show i + 1 - n = (i - n) + 1 by omega, List.drop_succ_cons, List.drop_nil, sumN_cons, sumN_nil, sumN_nil, if_neg (by omega)]
theorem cnt_sum (s : List Int) (i : Nat) : cntL s i = sumN (rg s.length) fun j => ind (decide ((i : Int) < j) && decide (g0 s j < g0 s i)) := by
  unfold cntL
  rw [filter_len]
  have e : s.drop (i + 1) = ((rg s.length).drop (i + 1)).map (g0 s) := by
    rw [List.map_drop, ← by_places]
  rw [e, sumN_map, drop_sum]
  apply sumN_congr
  intro j _
  unfold ind
  by_cases h : (i : Int) < j
  · simp [h]
  · simp [h]
theorem inv_eq (s : List Int) : invN s = invF s.length (g0 s) := by
  unfold invN invF
  apply sumN_congr
  intro i hi
  have := rg_mem.mp hi
  rw [cnt_sum, Int.toNat_of_nonneg this.1]
/-! ### places of things -/
def pos (ys : List Int) (x : Int) : Int := ((ys.idxOf x : Nat) : Int)
def seatsL (xs ys : List Int) : List Int := xs.map (pos ys)
theorem pos_of {n : Nat} {ys : List Int} (o : IsOrd n ys) {j : Nat} {x : Int} (h : ys[j]? = some x) : pos ys x = (j : Int) := by
  obtain ⟨hj, e⟩ := List.getElem?_eq_some_iff.mp h
  have m : x ∈ ys := List.mem_of_getElem? h
  have hi : ys.idxOf x < ys.length := List.idxOf_lt_length_iff.mpr m
  have h2 : ys[ys.idxOf x]? = some x := by
    rw [List.getElem?_eq_getElem hi]
    exact congrArg some (List.getElem_idxOf hi)
  unfold pos
  rw [nd_ix o.nodup h2 h]
theorem pos_at {n : Nat} {ys : List Int} (o : IsOrd n ys) {x : Int} (h0 : 0 ≤ x) (h1 : x < n) : ∃ j : Nat, j < n ∧ ys[j]? = some x ∧ pos ys x = (j : Int) := by
  obtain ⟨j, hj, e⟩ := ord_at o (t := x.toNat) (by omega)
  rw [Int.toNat_of_nonneg h0] at e
  exact ⟨j, hj, e, pos_of o e⟩
theorem back_pos {n : Nat} {ys ps : List Int} (o : IsOrd n ys) (h : IsBack ys ps) {x : Int} (h0 : 0 ≤ x) (h1 : x < n) : ps[x.toNat]? = some (pos ys x) := by
  obtain ⟨j, hj, e, ep⟩ := pos_at o h0 h1
  rw [ep]
  exact h.2 j x e
theorem seats_len (xs ys : List Int) : (seatsL xs ys).length = xs.length := by
  unfold seatsL
  rw [List.length_map]
theorem seats_at {xs ys : List Int} {i : Nat} {x : Int} (h : xs[i]? = some x) : (seatsL xs ys)[i]? = some (pos ys x) := by
  unfold seatsL
  rw [List.getElem?_map, h]
  rfl
theorem seats_self {n : Nat} {ys : List Int} (o : IsOrd n ys) : seatsL ys ys = rg n := by
  apply List.ext_getElem?
  intro i
  by_cases h : i < n
  · obtain ⟨x, hx, _⟩ := ord_ix o h
    rw [seats_at hx, pos_of o hx]
    unfold rg
    rw [List.getElem?_map, List.getElem?_range h]
    rfl
  · rw [List.getElem?_eq_none (by rw [seats_len, o.len]; omega), List.getElem?_eq_none (by rw [rg_len]; omega)]
theorem seats_ord {n : Nat} {xs ys : List Int} (ox : IsOrd n xs) (oy : IsOrd n ys) : IsOrd n (seatsL xs ys) := by
  have h : (seatsL xs ys).Perm (seatsL ys ys) := List.Perm.map _ (ox.trans oy.symm)
  rw [seats_self oy] at h
  exact h
theorem g0_ord {n : Nat} {s : List Int} (o : IsOrd n s) : s = (rg n).map (g0 s) := by
  have e := by_places s
  rw [o.len] at e
  exact e
/-- inversions from the other side -/
theorem inv_turn {n : Nat} {s t : List Int} (os : IsOrd n s) (ot : IsOrd n t) (h : ∀ u ∈ rg n, g0 s (g0 t u) = u) : invN s = invN t := by
  rw [inv_eq, inv_eq, os.len, ot.len]
  unfold invF
  have p1 : ∀ f : Int → Nat, sumN (rg n) f = sumN (rg n) fun u => f (g0 t u) := fun f => by
    have e : sumN ((rg n).map (g0 t)) f = sumN (rg n) fun u => f (g0 t u) := sumN_map _ _ _
    rw [← e, ← g0_ord ot]
    exact (sumN_perm ot f).symm
  rw [p1]
  rw [sumN_congr (g := fun u => sumN (rg n) fun v => ind (decide (g0 t u < g0 t v) && decide (v < u))) (fun u hu => by
    rw [p1]
    exact sumN_congr fun v hv => by rw [h u hu, h v hv])]
  rw [sumN_swap]
  apply sumN_congr
  intro v _
  apply sumN_congr
  intro u _
  rw [Bool.and_comm]
theorem seats_turn {n : Nat} {xs ys : List Int} (ox : IsOrd n xs) (oy : IsOrd n ys) : ∀ u ∈ rg n, g0 (seatsL xs ys) (g0 (seatsL ys xs) u) = u := by
  intro u hu
  have hb := rg_mem.mp hu
  obtain ⟨y, hy, y0, y1⟩ := ord_ix oy (j := u.toNat) (by omega)
  have e1 : g0 (seatsL ys xs) u = pos xs y := by
    have := g0_at (seats_at (ys := xs) hy)
    rw [Int.toNat_of_nonneg hb.1] at this
    exact this
  obtain ⟨j, hj, ej, pj⟩ := pos_at ox y0 y1
  rw [e1, pj, g0_at (seats_at (ys := ys) ej), pos_of oy hy]
  omega
/-! ### how far two orders are -/
def farSwap (xs ys : List Int) : Int := ((invN (seatsL xs ys) : Nat) : Int)
def spotL (xs ys : List Int) : List Int := (rg xs.length).filter fun p => !decide (g0 xs p = g0 ys p)
def farSpot (xs ys : List Int) : Int := (((spotL xs ys).length : Nat) : Int)
def absI (i : Int) : Int := if i < 0 then -i else i
def gapsL (xs ys : List Int) : List Int := (rg xs.length).map fun p => absI (p - g0 (seatsL xs ys) p)
def maxL (l : List Int) : Int := l.foldr max 0
def farShift (xs ys : List Int) : Int := maxL (gapsL xs ys)
theorem maxL_of : ∀ {l : List Int} {m : Int}, (∀ x ∈ l, 0 ≤ x) → m ∈ l → (∀ x ∈ l, x ≤ m) → maxL l = m := by
  intro l m h0 hm hle
  have key : ∀ l : List Int, (∀ x ∈ l, x ≤ m) → maxL l ≤ m := by
    intro l hl
    induction l with
    | nil => exact h0 m hm
    | cons a l ih =>
      show max a (maxL l) ≤ m
      have h1 := hl a List.mem_cons_self
      have h2 := ih fun x hx => hl x (List.mem_cons_of_mem _ hx)
      omega
  have key2 : ∀ l : List Int, ∀ x ∈ l, x ≤ maxL l := by
    intro l
    induction l with
    | nil => intro x hx; exact absurd hx List.not_mem_nil
    | cons a l ih =>
      intro x hx
      show x ≤ max a (maxL l)
      rcases List.mem_cons.mp hx with rfl | hx
      · omega
      · have := ih x hx
        omega
  have := key l hle
  have := key2 l m hm
  omega
theorem gaps_nonneg (xs ys : List Int) : ∀ x ∈ gapsL xs ys, 0 ≤ x := by
  intro x hx
  obtain ⟨p, _, rfl⟩ := List.mem_map.mp hx
  unfold absI
  split <;> omega
theorem maxL_mem {l : List Int} (h0 : ∀ x ∈ l, 0 ≤ x) (hl : 0 < l.length) : maxL l ∈ l ∧ ∀ x ∈ l, x ≤ maxL l := by
  induction l with
  | nil => exact absurd hl (Nat.lt_irrefl _)
  | cons a l ih =>
    show max a (maxL l) ∈ a :: l ∧ ∀ x ∈ a :: l, x ≤ max a (maxL l)
    by_cases c : 0 < l.length
    · obtain ⟨h1, h2⟩ := ih (fun x hx => h0 x (List.mem_cons_of_mem _ hx)) c
      constructor
      · by_cases d : maxL l ≤ a
        · rw [Int.max_eq_left d]
          exact List.mem_cons_self
        · rw [Int.max_eq_right (by omega)]
          exact List.mem_cons_of_mem _ h1
      · intro x hx
        rcases List.mem_cons.mp hx with rfl | hx
        · omega
        · have := h2 x hx
          omega
    · have e : l = [] := List.eq_nil_of_length_eq_zero (by omega)
      subst e
      have := h0 a List.mem_cons_self
      have e2 : max a (maxL []) = a := by show max a 0 = a; omega
      rw [e2]
      exact ⟨List.mem_cons_self, fun x hx => by rw [List.mem_singleton.mp hx]; exact Int.le_refl _⟩
theorem farSwap_turn {n : Nat} {xs ys : List Int} (ox : IsOrd n xs) (oy : IsOrd n ys) : farSwap ys xs = farSwap xs ys := by
  unfold farSwap
  rw [inv_turn (seats_ord ox oy) (seats_ord oy ox) (seats_turn ox oy)]
theorem inv_rg (n : Nat) : invN (rg n) = 0 := by
  rw [inv_eq]
  unfold invF
  apply sumN_zero
  intro i hi
  apply sumN_zero
  intro j hj
  rw [rg_len] at hi hj
  have hi2 := rg_mem.mp hi
  have hj2 := rg_mem.mp hj
  have e : ∀ k : Int, k ∈ rg n → g0 (rg n) k = k := fun k hk => by
    have := rg_mem.mp hk
    have z : (rg n)[k.toNat]? = some k := by
      unfold rg
      rw [List.getElem?_map, List.getElem?_range (by omega)]
      show some ((k.toNat : Nat) : Int) = some k
      rw [Int.toNat_of_nonneg this.1]
    have z2 := g0_at z
    rw [Int.toNat_of_nonneg this.1] at z2
    exact z2
  rw [e i hi, e j hj]
  unfold ind
  by_cases c : i < j
  · have d : ¬ j < i := by omega
    simp [c, d]
  · simp [c]
theorem farSwap_self {n : Nat} {xs : List Int} (ox : IsOrd n xs) : farSwap xs xs = 0 := by
  unfold farSwap
  rw [seats_self ox, inv_rg]
  rfl
theorem farSpot_turn {xs ys : List Int} (h : xs.length = ys.length) : farSpot ys xs = farSpot xs ys := by
  unfold farSpot spotL
  rw [h]
  congr 3
  funext p
  congr 1
  by_cases c : g0 ys p = g0 xs p
  · rw [decide_eq_true c, decide_eq_true c.symm]
  · rw [decide_eq_false c, decide_eq_false fun e => c e.symm]
theorem farSpot_self (xs : List Int) : farSpot xs xs = 0 := by
  unfold farSpot spotL
  have e : ((rg xs.length).filter fun p => !decide (g0 xs p = g0 xs p)) = [] := by
    rw [List.filter_eq_nil_iff]
    intro a _
    simp
  rw [e]
  rfl
theorem gaps_len (xs ys : List Int) : (gapsL xs ys).length = xs.length := by
  unfold gapsL
  rw [List.length_map, rg_len]
theorem gaps_sub {n : Nat} {xs ys : List Int} (ox : IsOrd n xs) (oy : IsOrd n ys) : ∀ g ∈ gapsL ys xs, g ∈ gapsL xs ys := by
  intro g hg
  obtain ⟨u, hu, rfl⟩ := List.mem_map.mp hg
  rw [oy.len] at hu
  have hb := (seats_ord oy ox).mem (x := g0 (seatsL ys xs) u) (by
    have e := g0_ord (seats_ord oy ox)
    rw [e]
    exact List.mem_map.mpr ⟨u, hu, by rw [← e]⟩)
  refine List.mem_map.mpr ⟨g0 (seatsL ys xs) u, by rw [ox.len]; exact rg_mem.mpr hb, ?_⟩
  rw [seats_turn ox oy u hu]
  unfold absI
  split <;> split <;> omega
theorem farShift_turn {n : Nat} {xs ys : List Int} (ox : IsOrd n xs) (oy : IsOrd n ys) (hn : 1 ≤ n) : farShift ys xs = farShift xs ys := by
  unfold farShift
  obtain ⟨h1, h2⟩ := maxL_mem (gaps_nonneg xs ys) (by rw [gaps_len, ox.len]; exact hn)
  exact maxL_of (gaps_nonneg ys xs) (gaps_sub oy ox _ h1) fun x hx => h2 x (gaps_sub ox oy x hx)
theorem farShift_self {n : Nat} {xs : List Int} (ox : IsOrd n xs) (hn : 1 ≤ n) : farShift xs xs = 0 := by
  unfold farShift
  have z : ∀ g ∈ gapsL xs xs, g = 0 := by
    intro g hg
    obtain ⟨u, hu, rfl⟩ := List.mem_map.mp hg
    rw [ox.len] at hu
    have hb := rg_mem.mp hu
    rw [seats_self ox]
    have e : (rg n)[u.toNat]? = some u := by
      unfold rg
      rw [List.getElem?_map, List.getElem?_range (by omega)]
      show some ((u.toNat : Nat) : Int) = some u
      rw [Int.toNat_of_nonneg hb.1]
    have z2 := g0_at e
    rw [Int.toNat_of_nonneg hb.1] at z2
    rw [z2]
    unfold absI
    split <;> omega
  obtain ⟨h1, _⟩ := maxL_mem (gaps_nonneg xs xs) (by rw [gaps_len, ox.len]; exact hn)
  exact z _ h1
end Fo
namespace Fo
open PySem PySem.Spec PyProof.Rows L2
/-! ### turned pairs, one after the other -/
def invR : List Int → Nat
  | [] => 0
  | x :: r => (r.filter (fun z => decide (z < x))).length + invR r
theorem rg_cons (n : Nat) : rg (n + 1) = 0 :: (rg n).map (· + 1) := by
  unfold rg
  rw [List.range_succ_eq_map, List.map_cons, List.map_map, List.map_map]
  rfl
theorem inv_NR : ∀ s : List Int, invN s = invR s
  | [] => rfl
  | x :: r => by
    have ih := inv_NR r
    unfold invN at ih ⊢
    rw [List.length_cons, rg_cons, sumN_cons, sumN_map]
    show cntL (x :: r) (0 : Int).toNat + _ = (r.filter (fun z => decide (z < x))).length + invR r
    rw [← ih]
    have e1 : cntL (x :: r) (0 : Int).toNat = (r.filter (fun z => decide (z < x))).length := rfl
    rw [e1]
    congr 1
    apply sumN_congr
    intro i hi
    have hb := rg_mem.mp hi
    obtain ⟨j, rfl⟩ : ∃ j : Nat, i = (j : Int) := ⟨i.toNat, by omega⟩
    rw [show ((j : Int) + 1).toNat = j + 1 by omega, Int.toNat_natCast]
    unfold cntL
    have e2 : g0 (x :: r) ((j + 1 : Nat) : Int) = g0 r (j : Int) := by
      unfold g0
      rw [Int.toNat_natCast, Int.toNat_natCast]
      rfl
    rw [e2]
    rfl
theorem filt_perm {a b : List Int} (h : a.Perm b) (p : Int → Bool) : (a.filter p).length = (b.filter p).length := (h.filter p).length_eq
theorem invR_at : ∀ (A : List Int) (a b : Int) (B : List Int), b < a → invR (A ++ a :: b :: B) = invR (A ++ b :: a :: B) + 1
  | [], a, b, B, h => by
    show ((b :: B).filter (fun z => decide (z < a))).length + ((B.filter (fun z => decide (z < b))).length + invR B) = ((a :: B).filter (fun z => decide (z < b))).length + ((B.filter (fun z => decide (z < a))).length + invR B) + 1
    rw [List.filter_cons, List.filter_cons, decide_eq_true h, decide_eq_false (show ¬ a < b by omega), if_pos rfl, if_neg (by decide), List.length_cons]
    omega
  | x :: A, a, b, B, h => by
    have ih := invR_at A a b B h
    show ((A ++ a :: b :: B).filter (fun z => decide (z < x))).length + invR (A ++ a :: b :: B) = ((A ++ b :: a :: B).filter (fun z => decide (z < x))).length + invR (A ++ b :: a :: B) + 1
    rw [ih, filt_perm (List.Perm.append_left A (List.Perm.swap b a B))]
    omega
theorem invR_sw {s : List Int} {p : Nat} {a b : Int} (ha : s[p]? = some a) (hb : s[p + 1]? = some b) (h : b < a) : invR s = invR (sw s p) + 1 := by
  have hl := (List.getElem?_eq_some_iff.mp hb).1
  obtain ⟨A, x, y, B, rfl, rfl⟩ := split2 hl
  have ex : x = a := by
    rw [List.getElem?_append_right (Nat.le_refl _), Nat.sub_self] at ha
    exact Option.some.inj ha
  have ey : y = b := by
    rw [List.getElem?_append_right (by omega), show A.length + 1 - A.length = 1 by omega] at hb
    exact Option.some.inj hb
  subst ex ey
  rw [sw_at, invR_at A x y B h]
def firstDesc : List Int → Option Nat
  | [] => none
  | [_] => none
  | x :: y :: r => if y < x then some 0 else (firstDesc (y :: r)).map (· + 1)
theorem fd_cons (x y : Int) (r : List Int) : firstDesc (x :: y :: r) = if y < x then some 0 else (firstDesc (y :: r)).map (· + 1) := by rw [firstDesc]
theorem fd_some : ∀ {s : List Int} {p : Nat} {a b : Int}, (∀ (j : Nat) (u v : Int), j < p → s[j]? = some u → s[j + 1]? = some v → u ≤ v) → s[p]? = some a → s[p + 1]? = some b → b < a → firstDesc s = some p
  | [], p, a, b, _, ha, _, _ => by simp at ha
  | [_], p, a, b, _, _, hb, _ => by simp at hb
  | x :: y :: r, 0, a, b, _, ha, hb, h => by
    have e1 : x = a := Option.some.inj ha
    have e2 : y = b := Option.some.inj hb
    rw [fd_cons, if_pos (by omega)]
  | x :: y :: r, p + 1, a, b, hl, ha, hb, h => by
    have h0 : x ≤ y := hl 0 x y (by omega) rfl rfl
    have ih := fd_some (s := y :: r) (p := p) (a := a) (b := b) (fun j u v hj hu hv => hl (j + 1) u v (by omega) hu hv) ha hb h
    rw [fd_cons, if_neg (by omega), ih]
    rfl
theorem fd_none : ∀ {s : List Int}, (∀ (j : Nat) (u v : Int), s[j]? = some u → s[j + 1]? = some v → u ≤ v) → firstDesc s = none
  | [], _ => rfl
  | [_], _ => rfl
  | x :: y :: r, hl => by
    have h0 : x ≤ y := hl 0 x y rfl rfl
    have ih := fd_none (s := y :: r) (fun j u v hu hv => hl (j + 1) u v hu hv)
    rw [fd_cons, if_neg (by omega), ih]
    rfl
theorem fd_at : ∀ {s : List Int} {p : Nat}, firstDesc s = some p → ∃ a b, s[p]? = some a ∧ s[p + 1]? = some b ∧ b < a ∧ ∀ (j : Nat) (u v : Int), j < p → s[j]? = some u → s[j + 1]? = some v → u ≤ v
  | [], p, h => by cases h
  | [_], p, h => by cases h
  | x :: y :: r, p, h => by
    rw [fd_cons] at h
    by_cases c : y < x
    · rw [if_pos c] at h
      cases h
      exact ⟨x, y, rfl, rfl, c, fun j u v hj => absurd hj (Nat.not_lt_zero _)⟩
    · rw [if_neg c] at h
      cases e : firstDesc (y :: r) with
      | none => rw [e] at h; cases h
      | some q =>
        rw [e] at h
        have ep : q + 1 = p := Option.some.inj h
        subst ep
        obtain ⟨a, b, ha, hb, hlt, hl⟩ := fd_at e
        refine ⟨a, b, ha, hb, hlt, fun j u v hj hu hv => ?_⟩
        cases j with
        | zero =>
          have e1 : x = u := Option.some.inj hu
          have e2 : y = v := Option.some.inj hv
          omega
        | succ j => exact hl j u v (by omega) hu hv
theorem fd_sorted : ∀ {s : List Int}, firstDesc s = none → s.Pairwise (· ≤ ·)
  | [], _ => List.Pairwise.nil
  | [_], _ => List.pairwise_singleton _ _
  | x :: y :: r, h => by
    rw [fd_cons] at h
    by_cases c : y < x
    · rw [if_pos c] at h; cases h
    · rw [if_neg c] at h
      have e : firstDesc (y :: r) = none := by
        cases e : firstDesc (y :: r) with
        | none => rfl
        | some q => rw [e] at h; cases h
      have ih := fd_sorted e
      refine List.Pairwise.cons (fun z hz => ?_) ih
      rcases List.mem_cons.mp hz with rfl | hz
      · omega
      · have := (List.pairwise_cons.mp ih).1 z hz
        omega
theorem invR_sorted : ∀ {s : List Int}, s.Pairwise (· ≤ ·) → invR s = 0
  | [], _ => rfl
  | x :: r, h => by
    obtain ⟨h1, h2⟩ := List.pairwise_cons.mp h
    show (r.filter (fun z => decide (z < x))).length + invR r = 0
    rw [invR_sorted h2, List.filter_eq_nil_iff.mpr (fun z hz => by
      have := h1 z hz
      simp
      omega)]
    rfl
theorem fd_pos {s : List Int} (h : 0 < invR s) : ∃ p, firstDesc s = some p := by
  cases e : firstDesc s with
  | none => rw [invR_sorted (fd_sorted e)] at h; omega
  | some p => exact ⟨p, rfl⟩
/-- the first of the shortest walks, of at most m places -/
def gw : Nat → List Int → List Int
  | 0, _ => []
  | m + 1, s => match firstDesc s with
    | none => []
    | some p => (p : Int) :: gw m (sw s p)
abbrev walkL (s : List Int) : List Int := gw (invR s) s
theorem walk_none {s : List Int} (h : firstDesc s = none) : walkL s = [] := by
  unfold walkL
  rw [invR_sorted (fd_sorted h)]
  rfl
theorem walk_some {s : List Int} {p : Nat} (h : firstDesc s = some p) : walkL s = (p : Int) :: walkL (sw s p) := by
  obtain ⟨a, b, ha, hb, hlt, _⟩ := fd_at h
  unfold walkL
  rw [invR_sw ha hb hlt, gw, h]
theorem walk_len : ∀ (m : Nat) (s : List Int), invR s = m → (walkL s).length = m
  | 0, s, h => by
    unfold walkL
    rw [h]
    rfl
  | m + 1, s, h => by
    obtain ⟨p, hp⟩ := fd_pos (s := s) (by omega)
    obtain ⟨a, b, ha, hb, hlt, _⟩ := fd_at hp
    rw [walk_some hp, List.length_cons, walk_len m (sw s p) (by have := invR_sw ha hb hlt; omega)]
theorem invR_len (s : List Int) : invR s ≤ s.length * s.length := by
  induction s with
  | nil => exact Nat.le_refl _
  | cons x r ih =>
    show (r.filter _).length + invR r ≤ (r.length + 1) * (r.length + 1)
    have h1 : (r.filter (fun z => decide (z < x))).length ≤ r.length := List.length_filter_le _ _
    have h2 : (r.length + 1) * (r.length + 1) = r.length * r.length + r.length + r.length + 1 := by
      rw [Nat.add_mul, Nat.mul_add]
      omega
    omega
theorem seats_sw {xs ys : List Int} {p : Nat} (h : p + 1 < xs.length) : seatsL (sw xs p) ys = sw (seatsL xs ys) p := by
  obtain ⟨A, a, b, B, rfl, rfl⟩ := split2 h
  rw [sw_at]
  unfold seatsL
  rw [List.map_append, List.map_cons, List.map_cons, List.map_append, List.map_cons, List.map_cons]
  have e := sw_at (A.map (pos ys)) (pos ys a) (pos ys b) (B.map (pos ys))
  rw [List.length_map] at e
  exact e.symm
theorem cut_sw {xs : List Int} {p : Nat} {a b : Int} (ha : xs[p]? = some a) (hb : xs[p + 1]? = some b) : xs.take p ++ [b, a] ++ xs.drop (p + 2) = sw xs p := by
  have hl := (List.getElem?_eq_some_iff.mp hb).1
  obtain ⟨A, x, y, B, rfl, rfl⟩ := split2 hl
  have ex : x = a := by
    rw [List.getElem?_append_right (Nat.le_refl _), Nat.sub_self] at ha
    exact Option.some.inj ha
  have ey : y = b := by
    rw [List.getElem?_append_right (by omega), show A.length + 1 - A.length = 1 by omega] at hb
    exact Option.some.inj hb
  subst ex ey
  rw [sw_at, List.take_left, List.drop_append, List.drop_of_length_le (by omega), show A.length + 2 - A.length = 2 by omega]
  simp
theorem filt_map (l : List Int) (f : Int → Int) (p : Int → Bool) : ((l.map f).filter p).length = (l.filter (fun x => p (f x))).length := by
  rw [List.filter_map, List.length_map]
  rfl
end Fo
namespace Fo
open PySem PySem.Spec PyProof.Rows L2
theorem pos_ord {n : Nat} {xs : List Int} (o : IsOrd n xs) : IsOrd n ((rg n).map (pos xs)) := by
  have h : ((rg n).map (pos xs)).Perm (seatsL xs xs) := List.Perm.map _ o.symm
  rw [seats_self o] at h
  exact h
theorem pos_in {n : Nat} {xs : List Int} (o : IsOrd n xs) {t : Int} (h : t ∈ rg n) : pos xs t ∈ rg n := by
  have := (pos_ord o).mem (List.mem_map.mpr ⟨t, h, rfl⟩)
  exact rg_mem.mpr this
theorem pos_inj {n : Nat} {xs : List Int} (o : IsOrd n xs) {t u : Int} (ht : t ∈ rg n) (hu : u ∈ rg n) (e : pos xs t = pos xs u) : t = u := by
  have h1 := rg_mem.mp ht
  have h2 := rg_mem.mp hu
  obtain ⟨i, _, ei, pi⟩ := pos_at o h1.1 h1.2
  obtain ⟨j, _, ej, pj⟩ := pos_at o h2.1 h2.2
  have : i = j := by omega
  subst this
  exact Option.some.inj (ei.symm.trans ej)
/-- a sum over the places is a sum over the things -/
theorem sum_pos {n : Nat} {xs : List Int} (o : IsOrd n xs) (f : Int → Nat) : sumN (rg n) f = sumN (rg n) fun t => f (pos xs t) := by
  have e : sumN ((rg n).map (pos xs)) f = sumN (rg n) fun t => f (pos xs t) := sumN_map _ _ _
  rw [← e]
  exact (sumN_perm (pos_ord o) f).symm
theorem sum_g0 {n : Nat} {xs : List Int} (o : IsOrd n xs) (f : Int → Nat) : sumN (rg n) f = sumN (rg n) fun p => f (g0 xs p) := by
  have e : sumN ((rg n).map (g0 xs)) f = sumN (rg n) fun t => f (g0 xs t) := sumN_map _ _ _
  rw [← e, ← g0_ord o]
  exact (sumN_perm o f).symm
theorem g0_pos {n : Nat} {xs : List Int} (o : IsOrd n xs) {t : Int} (h : t ∈ rg n) : g0 xs (pos xs t) = t := by
  have h1 := rg_mem.mp h
  obtain ⟨j, _, ej, pj⟩ := pos_at o h1.1 h1.2
  rw [pj]
  exact g0_at ej
theorem pos_g0 {n : Nat} {xs : List Int} (o : IsOrd n xs) {p : Int} (h : p ∈ rg n) : pos xs (g0 xs p) = p := by
  have h1 := rg_mem.mp h
  obtain ⟨x, hx, _⟩ := ord_ix o (j := p.toNat) (by omega)
  have e := g0_at hx
  rw [Int.toNat_of_nonneg h1.1] at e
  rw [e, pos_of o hx]
  omega
theorem g0_in {n : Nat} {xs : List Int} (o : IsOrd n xs) {p : Int} (h : p ∈ rg n) : g0 xs p ∈ rg n := by
  have h1 := rg_mem.mp h
  obtain ⟨x, hx, x0, x1⟩ := ord_ix o (j := p.toNat) (by omega)
  have e := g0_at hx
  rw [Int.toNat_of_nonneg h1.1] at e
  rw [e]
  exact rg_mem.mpr ⟨x0, x1⟩
end Fo
namespace Fo
open PySem PySem.Spec PyProof.Rows L2
/-! ### all orders of few things -/
def extO (n : Nat) (o : List Int) : List (List Int) := ((rg n).filter fun t => !decide (t ∈ o)).map fun t => o ++ [t]
def allK (n : Nat) : Nat → List (List Int)
  | 0 => [[]]
  | k + 1 => (allK n k).flatMap (extO n)
theorem allK_row {n : Nat} : ∀ (k : Nat) (r : List Int), r ∈ allK n k → r.length = k ∧ r.Nodup ∧ ∀ x ∈ r, x ∈ rg n
  | 0, r, h => by
    rw [List.mem_singleton.mp h]
    exact ⟨rfl, List.nodup_nil, fun x hx => absurd hx List.not_mem_nil⟩
  | k + 1, r, h => by
    obtain ⟨o, ho, hr⟩ := List.mem_flatMap.mp h
    obtain ⟨h1, h2, h3⟩ := allK_row k o ho
    obtain ⟨t, ht, rfl⟩ := List.mem_map.mp hr
    obtain ⟨ht1, ht2⟩ := List.mem_filter.mp ht
    have hto : t ∉ o := by simpa using ht2
    refine ⟨by rw [List.length_append, h1]; rfl, ?_, fun x hx => ?_⟩
    · rw [List.nodup_append]
      refine ⟨h2, List.nodup_cons.mpr ⟨List.not_mem_nil, List.nodup_nil⟩, fun x hx y hy e => ?_⟩
      rw [List.mem_singleton.mp hy] at e
      exact hto (by rw [← e]; exact hx)
    · rcases List.mem_append.mp hx with hx | hx
      · exact h3 x hx
      · rw [List.mem_singleton.mp hx]
        exact ht1
theorem extO_len (n : Nat) (o : List Int) : (extO n o).length ≤ n := by
  unfold extO
  rw [List.length_map]
  have := List.length_filter_le (fun t => !decide (t ∈ o)) (rg n)
  rw [rg_len] at this
  exact this
theorem flat_len (n : Nat) : ∀ l : List (List Int), (l.flatMap (extO n)).length ≤ l.length * n
  | [] => Nat.zero_le _
  | o :: l => by
    rw [List.flatMap_cons, List.length_append, List.length_cons, Nat.add_mul, Nat.one_mul]
    have := flat_len n l
    have := extO_len n o
    omega
theorem allK_len {n : Nat} (hn : n ≤ 6) : ∀ k, k ≤ n → (allK n k).length ≤ 6 ^ k
  | 0, _ => Nat.le_refl _
  | k + 1, hk => by
    have ih := allK_len hn k (by omega)
    have h1 : (allK n (k + 1)).length ≤ (allK n k).length * n := flat_len n (allK n k)
    have h2 : (allK n k).length * n ≤ 6 ^ k * 6 := Nat.mul_le_mul ih hn
    rw [Nat.pow_succ]
    omega
theorem pow6 {k : Nat} (h : k ≤ 6) : 6 ^ k ≤ 46656 := by
  have : 6 ^ k ≤ 6 ^ 6 := Nat.pow_le_pow_right (by decide) h
  exact this
theorem nodup_count : ∀ {l : List Int}, l.Nodup → ∀ a, l.count a = if a ∈ l then 1 else 0
  | [], _, a => by simp
  | b :: l, h, a => by
    obtain ⟨h1, h2⟩ := List.nodup_cons.mp h
    have ih := nodup_count h2 a
    rw [List.count_cons, ih]
    by_cases c : b = a
    · subst c
      simp [h1]
    · have c2 : ¬ a = b := fun e => c e.symm
      simp [c, c2]
theorem nodup_ord {n : Nat} {s : List Int} (hl : s.length = n) (hn : s.Nodup) (hb : ∀ x ∈ s, x ∈ rg n) : IsOrd n s := by
  unfold IsOrd
  rw [List.perm_iff_count]
  intro a
  rw [nodup_count hn, nodup_count (rg_nodup n)]
  by_cases c : a ∈ s
  · rw [if_pos c, if_pos (hb a c)]
  · rw [if_neg c]
    by_cases d : a ∈ rg n
    · exfalso
      have := nodup_len (l := a :: s) (m := rg n) (List.nodup_cons.mpr ⟨c, hn⟩) fun x hx => by
        rcases List.mem_cons.mp hx with rfl | hx
        · exact d
        · exact hb x hx
      rw [List.length_cons, rg_len] at this
      omega
    · rw [if_neg d]
theorem all_ord {n : Nat} {r : List Int} (h : r ∈ allK n n) : IsOrd n r := by
  obtain ⟨h1, h2, h3⟩ := allK_row n r h
  exact nodup_ord h1 h2 h3
theorem inV_int (t : Int) : ∀ row : List Int, inV (.int t) (row.map V.int) = decide (t ∈ row)
  | [] => rfl
  | a :: r => by
    have ih := inV_int t r
    unfold inV at ih ⊢
    rw [List.map_cons, List.any_cons, ih, eqV_int]
    by_cases c : a = t
    · subst c
      simp
    · have c2 : ¬ t = a := fun e => c e.symm
      simp [c, c2]
theorem ext_more {n : Nat} {o : List Int} (j : Nat) : ((rg (j + 1)).filter fun t => !decide (t ∈ o)).map (fun t => o ++ [t]) = (((rg j).filter fun t => !decide (t ∈ o)).map fun t => o ++ [t]) ++ (if (j : Int) ∈ o then [] else [o ++ [(j : Int)]]) := by
  rw [rg_succ, List.filter_append, List.map_append, List.filter_cons]
  congr 1
  by_cases c : (j : Int) ∈ o
  · rw [decide_eq_true c, if_pos c]
    rfl
  · rw [decide_eq_false c, if_neg c]
    rfl
/-! ### comprehensions with two fors: a list, then a range -/
theorem lc2_list {K : PySem.W.Frag} {a : Addr} {xs : List V} {g : TG} {tt : TT} {wi1 : TI} {g1 : TG} {tt1 : TT} {te : TE} {vs vs1 : List Nat} {σ : L2.St} {H1 : Hp} {D : Addr} {Qd : Hp → Prop} (Pv : Nat → Hp → Prop) (h0 : Pv 0 (upd H1 D (.lst []))) (hl : ∀ i H, i ≤ xs.length → Pv i H → SqL K H a xs)
    (hs : ∀ i x H, xs[i]? = some x → Pv i H → g x (wipe σ vs) H fun σ2 H2 => wipe σ2 vs = wipe σ vs ∧ tt σ2 H2 fun b H3 =>
      if b = true then wi1 σ2 H3 fun J1 H4 => ∃ W1 : Nat → Nat → Hp → Prop, (∃ m, W1 0 m H4) ∧ ∀ j k H, W1 j k H →
        (J1.stop j H ∧ Pv (i + 1) H) ∨ (J1.go j H ∧ ∃ Nx1 : Hp → Prop, (∀ H', Nx1 H' → ∃ k', k' < k ∧ W1 (j + 1) k' H') ∧ ∀ x H', J1.yld j H x H' → g1 x (wipe σ2 vs1) H' fun σ3 H5 => wipe σ3 vs1 = wipe σ2 vs1 ∧ tt1 σ3 H5 fun b H6 =>
          if b = true then te σ3 H6 fun y H7 => ∃ acc, H7 D = some (.lst acc) ∧ acc.length < sizeLine ∧ Nx1 (upd H7 D (.lst (acc ++ [y]))) else Nx1 H6)
      else Pv (i + 1) H3) (hd : ∀ H, Pv xs.length H → Qd H) :
    ∃ W : Nat → Nat → Hp → Prop, (∃ m, W 0 m (upd H1 D (.lst []))) ∧ ∀ i m H, W i m H →
      ((Itl K a).stop i H ∧ Qd H) ∨ ((Itl K a).go i H ∧ ∃ Nx : Hp → Prop, (∀ H', Nx H' → ∃ m', m' < m ∧ W (i + 1) m' H') ∧ ∀ x H', (Itl K a).yld i H x H' → g x (wipe σ vs) H' fun σ2 H2 => wipe σ2 vs = wipe σ vs ∧ tt σ2 H2 fun b H3 =>
        if b = true then wi1 σ2 H3 fun J1 H4 => ∃ W1 : Nat → Nat → Hp → Prop, (∃ m, W1 0 m H4) ∧ ∀ j k H, W1 j k H →
          (J1.stop j H ∧ Nx H) ∨ (J1.go j H ∧ ∃ Nx1 : Hp → Prop, (∀ H', Nx1 H' → ∃ k', k' < k ∧ W1 (j + 1) k' H') ∧ ∀ x H', J1.yld j H x H' → g1 x (wipe σ2 vs1) H' fun σ3 H5 => wipe σ3 vs1 = wipe σ2 vs1 ∧ tt1 σ3 H5 fun b H6 =>
            if b = true then te σ3 H6 fun y H7 => ∃ acc, H7 D = some (.lst acc) ∧ acc.length < sizeLine ∧ Nx1 (upd H7 D (.lst (acc ++ [y]))) else Nx1 H6)
        else Nx H3) := by
  refine ⟨fun i m H => m = xs.length - i ∧ i ≤ xs.length ∧ Pv i H, ⟨xs.length, by simp, Nat.zero_le _, h0⟩, ?_⟩
  rintro i m H ⟨rfl, hi, p⟩
  have q := hl i H hi p
  by_cases hlt : i < xs.length
  · refine .inr ⟨⟨xs, xs[i], q, by simp [hlt]⟩, Pv (i + 1), fun H' p' => ⟨xs.length - (i + 1), by omega, rfl, hlt, p'⟩, fun x H' y => ?_⟩
    obtain ⟨e, y⟩ := y
    subst e
    exact hs i x _ (y _ q) p
  · have e : i = xs.length := by omega
    subst e
    exact .inl ⟨⟨xs, q, Nat.le_refl _⟩, hd H p⟩
theorem in_range {lo : Int} {n : Nat} {g1 : TG} {tt1 : TT} {te : TE} {vs1 : List Nat} {σ2 : L2.St} {H4 : Hp} {D : Addr} {Nx : Hp → Prop} (Pw : Nat → Hp → Prop) (h0 : Pw 0 H4)
    (hs : ∀ j H, j < n → Pw j H → g1 (.int (lo + j)) (wipe σ2 vs1) H fun σ3 H5 => wipe σ3 vs1 = wipe σ2 vs1 ∧ tt1 σ3 H5 fun b H6 =>
      if b = true then te σ3 H6 fun y H7 => ∃ acc, H7 D = some (.lst acc) ∧ acc.length < sizeLine ∧ Pw (j + 1) (upd H7 D (.lst (acc ++ [y]))) else Pw (j + 1) H6) (hd : ∀ H, Pw n H → Nx H) :
    ∃ W1 : Nat → Nat → Hp → Prop, (∃ m, W1 0 m H4) ∧ ∀ j k H, W1 j k H →
      ((Itr lo n).stop j H ∧ Nx H) ∨ ((Itr lo n).go j H ∧ ∃ Nx1 : Hp → Prop, (∀ H', Nx1 H' → ∃ k', k' < k ∧ W1 (j + 1) k' H') ∧ ∀ x H', (Itr lo n).yld j H x H' → g1 x (wipe σ2 vs1) H' fun σ3 H5 => wipe σ3 vs1 = wipe σ2 vs1 ∧ tt1 σ3 H5 fun b H6 =>
        if b = true then te σ3 H6 fun y H7 => ∃ acc, H7 D = some (.lst acc) ∧ acc.length < sizeLine ∧ Nx1 (upd H7 D (.lst (acc ++ [y]))) else Nx1 H6) := by
  refine ⟨fun j m H => m = n - j ∧ j ≤ n ∧ Pw j H, ⟨n, by simp, Nat.zero_le _, h0⟩, ?_⟩
  rintro j m H ⟨rfl, hi, p⟩
  by_cases hlt : j < n
  · refine .inr ⟨hlt, Pw (j + 1), fun H' p' => ⟨n - (j + 1), by omega, rfl, hlt, p'⟩, fun x H' y => ?_⟩
    obtain ⟨e, y⟩ := y
    subst e y
    exact hs j _ hlt p
  · have e : j = n := by omega
    subst e
    exact .inl ⟨Nat.le_refl _, hd H p⟩
end Fo
namespace Fo
open PySem PySem.Spec PyProof.Rows L2
def spWhole : Sp := fun vs H Q _ => ∃ i : Int, vs = [.int i] ∧ Q (.bl true) H
section
variable {P : Program} {w : World} {K : PySem.W.Frag} {mg : Str → Option Value} {base : Heap}
theorem scWhole : FnScope ["thing"] ["thing"] (defScope s_is_whole) := ⟨rfl, rfl, rfl, by decide +kernel, rfl, by decide +kernel, by decide +kernel⟩
theorem ok_whole {f : Addr} {fd : FuncData} {k : Nat} (T : Df K mg "is_whole" s_is_whole ["thing"] f fd) (B : Bi mg) : FnOk P w K mg base CX0 (k + 1) f fd ["thing"] spWhole := by
  refine T.F.ok scWhole (fun vs H Q E h => ?_) (fun cdv A outer s H vs Q E hr h => ?_)
  · obtain ⟨i, rfl, _⟩ := h
    rfl
  · obtain ⟨i, rfl, q⟩ := h
    refine ⟨_, pss_one (ps_ret (pe_and (pe_callB call_isi (by rfl) B.isinstance (by decide +kernel) (pa_cons (pv 0) (pa_cons (pe_bltn (v := .ty "int") (by rfl) B.int (by decide +kernel) rfl) pa_nil)))
      (pe_one (pe_not (pe_callB call_isi (by rfl) B.isinstance (by decide +kernel) (pa_cons (pv 0) (pa_cons (pe_bltn (v := .ty "bool") (by rfl) B.bool (by decide +kernel) rfl) pa_nil))))))), ?_⟩
    refine ⟨_, rfl, _, _, _, _, true, rfl, .ty _, .base (.int _), kit_ty (by decide +kernel), true, rfl, iteT ?_⟩
    exact ⟨_, rfl, _, _, _, _, false, rfl, .ty _, .base (.int _), kit_ty (by decide +kernel), false, rfl, q⟩
end
end Fo
namespace Fo
open PySem PySem.Spec PyProof.Rows L2
def IsWay (w : Str) : Prop := w = "swap" ∨ w = "spot" ∨ w = "shift"
theorem n1 : ¬ (("spot" : Str) = "swap") := by decide +kernel
theorem n2 : ¬ (("shift" : Str) = "swap") := by decide +kernel
theorem n3 : ¬ (("shift" : Str) = "spot") := by decide +kernel
/-- the ways as the top has written them -/
structure Wy (K : PySem.W.Frag) (mg : Str → Option Value) (aW : Addr) : Prop where
  g : mg "WAYS" = some (.ref aW)
  t : ∀ H : Hp, SqT K H aW [.str "swap", .str "spot", .str "shift"]
theorem wy_mk {K : PySem.W.Frag} {mg : Str → Option Value} {aW : Addr} {dd : Option Addr} {n : Nat} {t1 t2 t3 : Tok} {sl : Array (Option Value)} (g : mg "WAYS" = some (.ref aW)) (l : K.lookup aW = some ⟨.type "tuple", dd, .seq #[.str "swap" t1, .str "spot" t2, .str "shift" t3] n, sl⟩) : Wy K mg aW :=
  ⟨g, fun H => .inr ⟨_, _, _, l, rfl, rfl, line_small (by show 3 ≤ 16777216; decide), .cons ⟨_, rfl⟩ (.cons ⟨_, rfl⟩ (.cons ⟨_, rfl⟩ .nil))⟩⟩
def spWay : Sp := fun vs H Q _ => ∃ (w : Str), vs = [.str w] ∧ IsWay w ∧ Q .non H
section
variable {P : Program} {w : World} {K : PySem.W.Frag} {mg : Str → Option Value} {base : Heap}
theorem scWay : FnScope ["thing"] ["thing"] (defScope s_check_way) := ⟨rfl, rfl, rfl, by decide +kernel, rfl, by decide +kernel, by decide +kernel⟩
theorem ok_way {f aW : Addr} {fd : FuncData} {k : Nat} (T : Df K mg "check_way" s_check_way ["thing"] f fd) (W : Wy K mg aW) (B : Bi mg) : FnOk P w K mg base CX0 (k + 1) f fd ["thing"] spWay := by
  refine T.F.ok scWay (fun vs H Q E h => ?_) (fun cdv A outer s H vs Q E hr h => ?_)
  · obtain ⟨z, rfl, _⟩ := h
    rfl
  · obtain ⟨z, rfl, hz, q⟩ := h
    refine ⟨_, 
      (pss_one (ps_if (PW.pt (pw_or (pt_not (pt_val (pe_callB call_isi (by rfl) B.isinstance (by decide +kernel) (pa_cons (pv 0) (pa_cons (pe_bltn (v := .ty "str") (by rfl) B.str (by decide +kernel) rfl) pa_nil))))) (pw_or1 (pt_cmpR op_notIn_seq (pv 0) (pe_glob (v := .ref aW) (by rfl) W.g rfl) (by rfl)))))
        (pss_one ps_never)
        pss_nil)), ?_⟩
    refine ⟨_, rfl, _, _, _, _, true, rfl, .ty _, .base (.str _), kit_ty (by decide +kernel), true, rfl, iteF ?_⟩
    rcases hz with rfl | rfl | rfl
    · exact ⟨_, rfl, aW, _, rfl, .inr (W.t H), rfl, rfl, _, rfl, ite2 (fun c => absurd c (by decide +kernel)) (fun _ => q)⟩
    · exact ⟨_, rfl, aW, _, rfl, .inr (W.t H), rfl, rfl, _, rfl, ite2 (fun c => absurd c (by decide +kernel)) (fun _ => q)⟩
    · exact ⟨_, rfl, aW, _, rfl, .inr (W.t H), rfl, rfl, _, rfl, ite2 (fun c => absurd c (by decide +kernel)) (fun _ => q)⟩
end
end Fo
namespace Fo
open PySem PySem.Spec PyProof.Rows L2
def spFrom : Sp := fun vs H Q _ => ∃ (r least : Int), vs = [.int r, .int least] ∧ least ≤ r ∧ Q .non H
section
variable {P : Program} {w : World} {K : PySem.W.Frag} {mg : Str → Option Value} {base : Heap}
theorem scFrom : FnScope ["thing", "least"] ["thing", "least"] (defScope s_check_from) := ⟨rfl, rfl, rfl, by decide +kernel, rfl, by decide +kernel, by decide +kernel⟩
theorem ok_from {f fW : Addr} {fd fdW : FuncData} {k : Nat} (T : Df K mg "check_from" s_check_from ["thing", "least"] f fd) (T_is_whole : Df K mg "is_whole" s_is_whole ["thing"] fW fdW) (B : Bi mg) : FnOk P w K mg base CX0 (k + 2) f fd ["thing", "least"] spFrom := by
  have G_is_whole : FnOk P w K mg base CX0 (k + 1) fW fdW ["thing"] spWhole := ok_whole T_is_whole B
  refine T.F.ok scFrom (fun vs H Q E h => ?_) (fun cdv A outer s H vs Q E hr h => ?_)
  · obtain ⟨r, least, rfl, _⟩ := h
    rfl
  · obtain ⟨r, least, rfl, hle, q⟩ := h
    refine ⟨_, 
      (pss_one (ps_if (PW.pt (pw_or (pt_not (pt_val (pe_call G_is_whole hr (by rfl) T_is_whole.g T_is_whole.F.kp T_is_whole.b .nil pass0 (pa_cons (pv 0) pa_nil)))) (pw_or1 (pt_cmpR op_lt (pv 0) (pv 1) (nomark _)))))
        (pss_one ps_never)
        pss_nil)), ?_⟩
    refine ⟨_, rfl, r, rfl, _, rfl, iteF ?_⟩
    exact ⟨_, rfl, _, rfl, r, least, rfl, rfl, _, rfl, ite2 (fun z => absurd (of_decide_eq_true z) (by omega)) (fun _ => q)⟩
end
end Fo
namespace Fo
open PySem PySem.Spec PyProof.Rows L2
def spSize : Sp := fun vs H Q _ => ∃ (n most : Int), vs = [.int n, .int most] ∧ 1 ≤ n ∧ n ≤ most ∧ Q .non H
section
variable {P : Program} {w : World} {K : PySem.W.Frag} {mg : Str → Option Value} {base : Heap}
theorem scSize : FnScope ["thing", "most"] ["thing", "most"] (defScope s_check_size) := ⟨rfl, rfl, rfl, by decide +kernel, rfl, by decide +kernel, by decide +kernel⟩
theorem ok_size {f fW : Addr} {fd fdW : FuncData} {k : Nat} (T : Df K mg "check_size" s_check_size ["thing", "most"] f fd) (T_is_whole : Df K mg "is_whole" s_is_whole ["thing"] fW fdW) (B : Bi mg) : FnOk P w K mg base CX0 (k + 2) f fd ["thing", "most"] spSize := by
  have G_is_whole : FnOk P w K mg base CX0 (k + 1) fW fdW ["thing"] spWhole := ok_whole T_is_whole B
  refine T.F.ok scSize (fun vs H Q E h => ?_) (fun cdv A outer s H vs Q E hr h => ?_)
  · obtain ⟨n, most, rfl, _⟩ := h
    rfl
  · obtain ⟨n, most, rfl, h1, h2, q⟩ := h
    refine ⟨_, 
      (pss_one (ps_if (PW.pt (pw_or (pt_not (pt_val (pe_call G_is_whole hr (by rfl) T_is_whole.g T_is_whole.F.kp T_is_whole.b .nil pass0 (pa_cons (pv 0) pa_nil)))) (pw_or (pt_cmpR op_lt (pv 0) pe_int (nomark _)) (pw_or1 (pt_cmpR op_gt (pv 0) (pv 1) (nomark _))))))
        (pss_one ps_never)
        pss_nil)), ?_⟩
    refine ⟨_, rfl, n, rfl, _, rfl, iteF ?_⟩
    refine ⟨_, rfl, n, 1, rfl, rfl, _, rfl, ite2 (fun z => absurd (of_decide_eq_true z) (by omega)) (fun _ => ?_)⟩
    exact ⟨_, rfl, _, rfl, n, most, rfl, rfl, _, rfl, ite2 (fun z => absurd (of_decide_eq_true z) (by omega)) (fun _ => q)⟩
end
end Fo
namespace Fo
open PySem PySem.Spec PyProof.Rows L2
def farW (w : Str) (xs ys : List Int) : Int := if w = "swap" then farSwap xs ys else if w = "spot" then farSpot xs ys else farShift xs ys
theorem farW_swap (xs ys : List Int) : farW "swap" xs ys = farSwap xs ys := if_pos rfl
theorem farW_spot (xs ys : List Int) : farW "spot" xs ys = farSpot xs ys := by
  unfold farW
  rw [if_neg n1, if_pos rfl]
theorem farW_shift (xs ys : List Int) : farW "shift" xs ys = farShift xs ys := by
  unfold farW
  rw [if_neg n2, if_neg n3]
theorem farW_turn {w : Str} {n : Nat} {xs ys : List Int} (ox : IsOrd n xs) (oy : IsOrd n ys) (hn : 1 ≤ n) : farW w ys xs = farW w xs ys := by
  unfold farW
  rw [farSwap_turn ox oy, farSpot_turn (by rw [ox.len, oy.len]), farShift_turn ox oy hn]
theorem farW_self {w : Str} {n : Nat} {xs : List Int} (ox : IsOrd n xs) (hn : 1 ≤ n) : farW w xs xs = 0 := by
  unfold farW
  rw [farSwap_self ox, farSpot_self, farShift_self ox hn]
  split
  · rfl
  · split <;> rfl
abbrev rAbs : List V → Hp → VK → Prop := fun xs H Q => ∃ i, xs = [.int i] ∧ Q (.int (if i < 0 then -i else i)) H
def spFar : Sp := fun vs H Q _ => ∃ (w : Str) (a b : Addr) (n : Nat) (xs ys : List Int), vs = [.str w, .ref a, .ref b] ∧ IsWay w ∧ H a = some (.lst (xs.map V.int)) ∧ H b = some (.lst (ys.map V.int)) ∧ IsOrd n xs ∧ IsOrd n ys ∧ 1 ≤ n ∧ n ≤ 12 ∧ ∀ (H' : Hp), Same H H' → Q (.int (farW w xs ys)) H'
end Fo
namespace Fo
open PySem PySem.Spec PyProof.Rows L2
def two (vs : List V) (H : Hp) (a b : Addr) (n : Nat) (xs ys : List Int) : Prop := vs = [.ref a, .ref b] ∧ H a = some (.lst (xs.map V.int)) ∧ H b = some (.lst (ys.map V.int)) ∧ IsOrd n xs ∧ IsOrd n ys ∧ 1 ≤ n ∧ n ≤ 12
end Fo
namespace Fo
open PySem PySem.Spec PyProof.Rows L2
def spPlaces : Sp := fun vs H Q _ => ∃ (a : Addr) (n : Nat) (ns : List Int), vs = [.ref a] ∧ H a = some (.lst (ns.map V.int)) ∧ IsOrd n ns ∧ 1 ≤ n ∧ n ≤ 12 ∧
  ∀ (ps : List Int) (l : Addr) (H' : Hp), IsBack ns ps → H l = none → H' l = some (.lst (ps.map V.int)) → Same H H' → Q (.ref l) H'
section
variable {P : Program} {w : World} {K : PySem.W.Frag} {mg : Str → Option Value} {base : Heap}
theorem scPlaces : FnScope ["order", "places", "place", "thing"] ["order"] (defScope s_places_in) := ⟨rfl, rfl, rfl, by decide +kernel, rfl, by decide +kernel, by decide +kernel⟩
set_option maxHeartbeats 2000000 in
theorem ok_places {f : Addr} {fd : FuncData} {k : Nat} (T : Df K mg "places_in" s_places_in ["order"] f fd) (B : Bi mg) : FnOk P w K mg base CX0 (k + 1) f fd ["order"] spPlaces := by
  refine T.F.ok scPlaces (fun vs H Q E h => ?_) (fun cdv A outer s H vs Q E hr h => ?_)
  · obtain ⟨a, n, ns, rfl, _⟩ := h
    rfl
  · obtain ⟨a, n, ns, rfl, ha, ho, hn1, hn2, q⟩ := h
    have hlm : (ns.map V.int).length = n := by rw [List.length_map, ho.len]
    have hz : ∀ m : Nat, (List.replicate m [V.int 0]).flatten = (List.replicate m (0 : Int)).map V.int := by
      intro m
      induction m with
      | zero => rfl
      | succ m ih => rw [List.replicate_succ, List.replicate_succ, List.flatten_cons, ih]; rfl
    refine ⟨_, 
      (pss_cons (ps_set (i := 1) scPlaces.nd rfl (.inl rfl) (pe_op op_rep (pe_lst (pa_cons pe_int pa_nil)) (pe_callB call_len_seq (by rfl) B.len PySem.boot_len (pa_cons (pv 0) pa_nil))))
      (pss_cons (ps_for PassesOwn.never rfl (pi_enum (by rfl) B.enumerate (pa_cons (pv 0) pa_nil)) (pg_tup (by rfl) (pgs_cons (pg_name (i := 2) scPlaces.nd rfl (.inl rfl)) (pgs_cons (pg_name (i := 3) scPlaces.nd rfl (.inl rfl)) pgs_nil)))
        (pss_one (ps_asg (pv 2) (pg_sub (pv 1) (pv 3) set_list))))
      (pss_one (ps_ret (pv 1))))), ?_⟩
    refine ⟨line_small (by show 1 ≤ 16777216; decide), fun z nz => ?_⟩
    have s1 := same_new (o := .lst [.int 0]) nz
    refine ⟨_, rfl, a, _, rfl, .inl (SqL.of (s1 _ _ ha)), z, _, _, rfl, rfl, upd_same, by omega, by rw [hlm]; omega, line_small (by rw [hlm, Int.toNat_natCast]; show 1 * n ≤ _; omega), fun l nl => ?_⟩
    have s2 := s1.trans (same_new (o := .lst (List.replicate (((ns.map V.int).length : Nat) : Int).toNat [V.int 0]).flatten) nl)
    have nHl : H l = none := s1.free nl
    refine ⟨_, rfl, a, _, rfl, SqL.of (s2 _ _ ha), ?_⟩
    refine for_enumL (xs := ns.map V.int) (fun i σ H3 => ∃ (y2 y3 : Option V) (ps : List Int), σ = [some (.ref a), some (.ref l), y2, y3] ∧ H3 l = some (.lst (ps.map V.int)) ∧ ps.length = n ∧ (∀ (j : Nat) (x : Int), j < i → ns[j]? = some x → ps[x.toNat]? = some (j : Int)) ∧ Same H H3)
      ⟨none, none, List.replicate n 0, rfl, by rw [upd_same, hz, hlm, Int.toNat_natCast], by rw [List.length_replicate], fun j x hj => absurd hj (Nat.not_lt_zero _), s2⟩ (fun i σ H3 hP => by obtain ⟨_, _, _, _, _, _, _, sm⟩ := hP; exact SqL.of (sm _ _ ha)) (fun i x t σ H3 hx hP nt => ?_) (fun σ H3 hP => ?_)
    · obtain ⟨y2, y3, ps, rfl, hl3, el, hat, sm⟩ := hP
      obtain ⟨y, ey, rfl⟩ := int_at_inv hx
      have hy := ho.mem (List.mem_of_getElem? ey)
      have s3 := same_new (o := .tup [.int (i : Nat), .int y]) nt
      have hl4 := s3 _ _ hl3
      refine ⟨t, _, rfl, .inl (.inl upd_same), rfl, _, _, rfl, _, _, rfl, rfl, ?_⟩
      refine ⟨_, rfl, _, rfl, _, rfl, l, _, _, y.toNat, rfl, rfl, hl4, ix_n (by omega) (by rw [List.length_map]; omega), ?_⟩
      refine ⟨_, _, ps.set y.toNat (i : Int), rfl, by rw [upd_same, List.map_set], by rw [List.length_set]; exact el, fun j x hj hx2 => ?_, fun c o e => ?_⟩
      · by_cases c : j = i
        · subst c
          have e1 : x = y := Option.some.inj (hx2.symm.trans ey)
          subst e1
          rw [List.getElem?_set_self (by omega)]
        · have hx3 := ho.mem (List.mem_of_getElem? hx2)
          have ne : y.toNat ≠ x.toNat := fun e => c (nd_ix ho.nodup hx2 (by rw [ey]; congr 1; omega))
          rw [List.getElem?_set_ne ne]
          exact hat j x (by omega) hx2
      · rw [upd_ne (ne_of_none e nHl)]
        exact s3 _ _ (sm _ _ e)
    · obtain ⟨y2, y3, ps, rfl, hl3, el, hat, sm⟩ := hP
      rw [hlm] at hat
      refine ⟨_, rfl, q ps l H3 ⟨by rw [el, ho.len], fun j x hx => hat j x ?_ hx⟩ nHl hl3 sm⟩
      have := (List.getElem?_eq_some_iff.mp hx).1
      rw [ho.len] at this
      exact this
end
end Fo
namespace Fo
open PySem PySem.Spec PyProof.Rows L2
theorem g0_getD {s : List Int} {i : Nat} {x : Int} (h : s[i]? = some x) : g0 s i = x := g0_at h
def spSeats : Sp := fun vs H Q _ => ∃ (a b : Addr) (n : Nat) (xs ys : List Int), two vs H a b n xs ys ∧ ∀ (l : Addr) (H' : Hp), H l = none → H' l = some (.lst ((seatsL xs ys).map V.int)) → Same H H' → Q (.ref l) H'
section
variable {P : Program} {w : World} {K : PySem.W.Frag} {mg : Str → Option Value} {base : Heap}
theorem scSeats : FnScope ["one", "other", "places", "thing"] ["one", "other"] (defScope s_seats_in) := ⟨rfl, rfl, rfl, by decide +kernel, rfl, by decide +kernel, by decide +kernel⟩
set_option maxHeartbeats 2000000 in
theorem ok_seats {f fP : Addr} {fd fdP : FuncData} {k : Nat} (T : Df K mg "seats_in" s_seats_in ["one", "other"] f fd) (T_places_in : Df K mg "places_in" s_places_in ["order"] fP fdP) (B : Bi mg) : FnOk P w K mg base CX0 (k + 2) f fd ["one", "other"] spSeats := by
  have G_places_in : FnOk P w K mg base CX0 (k + 1) fP fdP ["order"] spPlaces := ok_places T_places_in B
  refine T.F.ok scSeats (fun vs H Q E h => ?_) (fun cdv A outer s H vs Q E hr h => ?_)
  · obtain ⟨a, b, n, xs, ys, ⟨rfl, _⟩, _⟩ := h
    rfl
  · obtain ⟨a, b, n, xs, ys, ⟨rfl, ha, hb, ox, oy, hn1, hn2⟩, q⟩ := h
    refine ⟨_, 
      (pss_cons (ps_set (i := 2) scSeats.nd rfl (.inr rfl) (pe_call G_places_in hr (by rfl) T_places_in.g T_places_in.F.kp T_places_in.b .nil pass0 (pa_cons (pv 1) pa_nil)))
      (pss_one (ps_ret (pe_lc (own := [("thing", 3)]) (g := (gName 3)) (tt := tYes) (te := (tOp (rIxL K) (tVar 2) (tVar 3))) rfl scSeats.nd (pi_list (pv 0)) (blkOk_by (N := ["one", "other", "places", "thing"]) (sc := defScope s_seats_in) (by decide +kernel)) (fun _ _ _ _ _ => (pg_name (i := 3) scSeats.nd rfl (.inl rfl))) (fun _ _ _ _ _ => pts_nil) (fun _ _ _ _ _ => (pe_ix ix_list (pv 2) (pv 3) (fun _ _ => rfl))))))), ?_⟩
    refine ⟨_, rfl, b, n, ys, rfl, hb, oy, hn1, hn2, fun ps l H1 hps nl hl s1 => ?_⟩
    refine ⟨_, rfl, a, rfl, ⟨_, SqL.of (s1 _ _ ha)⟩, fun D nD => ?_⟩
    have nHD : H D = none := s1.free nD
    refine lc_list (K := K) (a := a) (xs := xs.map V.int) (fun i H3 => H3 D = some (.lst (((seatsL xs ys).take i).map V.int)) ∧ H3 l = some (.lst (ps.map V.int)) ∧ Same H H3) ⟨upd_same, same_new nD _ _ hl, s1.trans (same_new nD)⟩ (fun i H3 _ hP => SqL.of (hP.2.2 _ _ ha)) (fun i x H3 hx hP => ?_) (fun H3 hP => ?_)
    · obtain ⟨y, ey, rfl⟩ := int_at_inv hx
      obtain ⟨hD3, hl3, sm⟩ := hP
      have hy := ox.mem (List.mem_of_getElem? ey)
      have hi := (List.getElem?_eq_some_iff.mp ey).1
      rw [ox.len] at hi
      refine ⟨rfl, _, rfl, _, rfl, l, _, _, _, rfl, rfl, SqL.of hl3, at_of (j := y.toNat) (by omega) (int_at (back_pos oy hps hy.1 hy.2)), _, hD3, line_lt (by rw [List.length_map, List.length_take]; omega), ?_, ?_, fun c o e => ?_⟩
      · rw [upd_same, take_more (seats_at ey), List.map_append]
        rfl
      · rw [upd_ne (ne_of_none hl nD)]
        exact hl3
      · rw [upd_ne (ne_of_none e nHD)]
        exact sm _ _ e
    · obtain ⟨hD3, hl3, sm⟩ := hP
      rw [List.take_of_length_le (by rw [seats_len, List.length_map]; exact Nat.le_refl _)] at hD3
      exact q D H3 nHD hD3 sm
end
end Fo
namespace Fo
open PySem PySem.Spec PyProof.Rows L2
def spSwap : Sp := fun vs H Q _ => ∃ (a b : Addr) (n : Nat) (xs ys : List Int), two vs H a b n xs ys ∧ ∀ (H' : Hp), Same H H' → Q (.int (farSwap xs ys)) H'
def spSpot : Sp := fun vs H Q _ => ∃ (a b : Addr) (n : Nat) (xs ys : List Int), two vs H a b n xs ys ∧ ∀ (H' : Hp), Same H H' → Q (.int (farSpot xs ys)) H'
def spShift : Sp := fun vs H Q _ => ∃ (a b : Addr) (n : Nat) (xs ys : List Int), two vs H a b n xs ys ∧ ∀ (H' : Hp), Same H H' → Q (.int (farShift xs ys)) H'
section
variable {P : Program} {w : World} {K : PySem.W.Frag} {mg : Str → Option Value} {base : Heap}
theorem scSwap : FnScope ["one", "other", "seats", "turned", "place", "seat", "later"] ["one", "other"] (defScope s_far_by_swap) := ⟨rfl, rfl, rfl, by decide +kernel, rfl, by decide +kernel, by decide +kernel⟩
set_option maxHeartbeats 2000000 in
theorem ok_swap {f fP : Addr} {fd fdP : FuncData} {k : Nat} (T : Df K mg "far_by_swap" s_far_by_swap ["one", "other"] f fd) (T_seats_in : Df K mg "seats_in" s_seats_in ["one", "other"] fP fdP) (G_seats_in : FnOk P w K mg base CX0 k fP fdP ["one", "other"] spSeats) (B : Bi mg) : FnOk P w K mg base CX0 (k + 1) f fd ["one", "other"] spSwap := by
  refine T.F.ok scSwap (fun vs H Q E h => ?_) (fun cdv A outer s H vs Q E hr h => ?_)
  · obtain ⟨a, b, n, xs, ys, ⟨rfl, _⟩, _⟩ := h
    rfl
  · obtain ⟨a, b, n, xs, ys, ⟨rfl, ha, hb, ox, oy, hn1, hn2⟩, q⟩ := h
    refine ⟨_, 
      (pss_cons (ps_set (i := 2) scSwap.nd rfl (.inl rfl) (pe_call G_seats_in hr (by rfl) T_seats_in.g T_seats_in.F.kp T_seats_in.b .nil pass0 (pa_cons (pv 0) (pa_cons (pv 1) pa_nil))))
      (pss_cons (ps_set (i := 3) scSwap.nd rfl (.inl rfl) pe_int)
      (pss_cons (ps_for PassesOwn.never rfl (pi_enum (by rfl) B.enumerate (pa_cons (pv 2) pa_nil)) (pg_tup (by rfl) (pgs_cons (pg_name (i := 4) scSwap.nd rfl (.inl rfl)) (pgs_cons (pg_name (i := 5) scSwap.nd rfl (.inr rfl)) pgs_nil)))
        (pss_one (ps_aug (i := 3) scSwap.nd rfl (.inl rfl) (pe_callB call_len_seq (by rfl) B.len PySem.boot_len (pa_cons (pe_lc (own := [("later", 6)]) (g := (gName 6)) (tt := (tTest (tOp (rI0 fun i j => .bl (decide (i < j))) (tVar 6) (tVar 5)))) (te := (tVar 6)) rfl scSwap.nd (pi_list (pe_slice sl_list (pv 2) (po_some (pe_op op_add (pv 4) pe_int)) po_none)) (blkOk_by (N := ["one", "other", "seats", "turned", "place", "seat", "later"]) (sc := defScope s_far_by_swap) (by decide +kernel)) (fun _ _ _ _ _ => (pg_name (i := 6) scSwap.nd rfl (.inl rfl))) (fun _ _ _ _ _ => (pts_one (pt_cmpR op_lt (pv 6) (pv 5) (nomark _)))) (fun _ _ _ _ _ => (pv 6))) pa_nil)) ip_add)))
      (pss_one (ps_ret (pv 3)))))), ?_⟩
    refine ⟨_, rfl, _, rfl, a, b, n, xs, ys, ⟨rfl, ha, hb, ox, oy, hn1, hn2⟩, fun l H1 nl hl s1 => ?_⟩
    have os := seats_ord ox oy
    refine ⟨_, rfl, l, _, rfl, SqL.of hl, ?_⟩
    refine for_enumL (xs := (seatsL xs ys).map V.int) (fun i σ H3 => ∃ (y4 y5 y6 : Option V), σ = [some (.ref a), some (.ref b), some (.ref l), some (.int ((sumN (rg i) (fun p => cntL (seatsL xs ys) p.toNat) : Nat) : Int)), y4, y5, y6] ∧ H3 l = some (.lst ((seatsL xs ys).map V.int)) ∧ Same H H3)
      ⟨none, none, none, rfl, hl, s1⟩ (fun i σ H3 hP => by obtain ⟨_, _, _, _, hl3, _⟩ := hP; exact SqL.of hl3) (fun i x t σ H3 hx hP nt => ?_) (fun σ H3 hP => ?_)
    · obtain ⟨y4, y5, y6, rfl, hl3, sm⟩ := hP
      obtain ⟨y, ey, rfl⟩ := int_at_inv hx
      have hi := (List.getElem?_eq_some_iff.mp ey).1
      rw [os.len] at hi
      have s3 := same_new (o := .tup [.int (i : Nat), .int y]) nt
      refine ⟨t, _, rfl, .inl (.inl upd_same), rfl, _, _, rfl, _, _, rfl, rfl, ?_⟩
      refine ⟨_, rfl, _, rfl, _, rfl, (i : Int), 1, rfl, rfl, _, rfl, l, _, rfl, SqL.of (s3 _ _ hl3), fun c nc => ?_⟩
      have s4 := s3.trans (same_new (o := .lst (cutV ((seatsL xs ys).map V.int) (some ((i : Int) + 1)) none)) nc)
      have ecut : cutV ((seatsL xs ys).map V.int) (some ((i : Int) + 1)) none = (((seatsL xs ys).drop (i + 1)).map V.int) := by
        rw [cut_ints, show (i : Int) + 1 = ((i + 1 : Nat) : Int) by omega, cutI_tail]
      have hc4 : (upd (upd H3 t (.tup [.int (i : Nat), .int y])) c (.lst (cutV ((seatsL xs ys).map V.int) (some ((i : Int) + 1)) none))) c = some (.lst (((seatsL xs ys).drop (i + 1)).map V.int)) := by rw [upd_same, ecut]
      refine ⟨c, rfl, ⟨_, SqL.of hc4⟩, fun D nD => ?_⟩
      have ncD : c ≠ D := ne_of_none hc4 nD
      refine lc_list (K := K) (a := c) (xs := ((seatsL xs ys).drop (i + 1)).map V.int) (fun m H5 => H5 D = some (.lst (((((seatsL xs ys).drop (i + 1)).take m).filter (fun z => decide (z < g0 (seatsL xs ys) i))).map V.int)) ∧ H5 c = some (.lst (((seatsL xs ys).drop (i + 1)).map V.int)) ∧ Same H3 H5)
        ⟨upd_same, by rw [upd_ne ncD]; exact hc4, s4.trans (same_new nD)⟩ (fun m H5 _ hP => SqL.of hP.2.1) (fun m x H5 hx hP => ?_) (fun H5 hP => ?_)
      · obtain ⟨hD5, hc5, s5⟩ := hP
        obtain ⟨z, ez, rfl⟩ := int_at_inv hx
        have eg : g0 (seatsL xs ys) i = y := g0_at ey
        refine ⟨rfl, _, rfl, _, rfl, z, y, rfl, rfl, _, rfl, ite2 (fun c => ?_) (fun c => ?_)⟩
        · have hz : z < y := of_decide_eq_true c
          refine ⟨_, rfl, _, hD5, line_lt ?_, ?_, by rw [upd_ne ncD]; exact hc5, fun u o e => ?_⟩
          · rw [List.length_map]
            refine Nat.lt_of_le_of_lt (List.length_filter_le _ _) ?_
            rw [List.length_take, List.length_drop, os.len]
            omega
          · rw [upd_same, filter_more _ ez, eg, decide_eq_true hz, if_pos rfl, List.map_append]
            rfl
          · rw [upd_ne (ne_of_none (s4 _ _ e) nD)]
            exact s5 _ _ e
        · refine ⟨?_, hc5, s5⟩
          rw [filter_more _ ez, eg, decide_eq_false (fun hz => c (decide_eq_true hz)), if_neg (by decide), List.append_nil]
          rw [eg] at hD5
          exact hD5
      · obtain ⟨hD5, hc5, s5⟩ := hP
        rw [List.length_map, List.take_length] at hD5
        refine ⟨D, _, rfl, .inl (SqL.of hD5), _, _, rfl, rfl, ?_⟩
        refine ⟨some (.int (i : Int)), some (.int y), y6, ?_, s5 _ _ hl3, sm.trans s5⟩
        rw [rg_succ, sumN_append, sumN_cons, sumN_nil, List.length_map]
        show [some (.ref a), some (.ref b), some (.ref l), some (V.int (((sumN (rg i) (fun p => cntL (seatsL xs ys) p.toNat) : Nat) : Int) + ((cntL (seatsL xs ys) i : Nat) : Int))), some (.int (i : Int)), some (.int y), y6] = _
        rw [Int.toNat_natCast, Int.natCast_add, Nat.add_zero]
    · obtain ⟨y4, y5, y6, rfl, hl3, sm⟩ := hP
      refine ⟨_, rfl, ?_⟩
      have z := q H3 sm
      unfold farSwap invN at z
      rw [List.length_map]
      exact z
theorem scSpot : FnScope ["one", "other", "place"] ["one", "other"] (defScope s_far_by_spot) := ⟨rfl, rfl, rfl, by decide +kernel, rfl, by decide +kernel, by decide +kernel⟩
set_option maxHeartbeats 2000000 in
theorem ok_spot {f : Addr} {fd : FuncData} {k : Nat} (T : Df K mg "far_by_spot" s_far_by_spot ["one", "other"] f fd) (B : Bi mg) : FnOk P w K mg base CX0 (k + 1) f fd ["one", "other"] spSpot := by
  refine T.F.ok scSpot (fun vs H Q E h => ?_) (fun cdv A outer s H vs Q E hr h => ?_)
  · obtain ⟨a, b, n, xs, ys, ⟨rfl, _⟩, _⟩ := h
    rfl
  · obtain ⟨a, b, n, xs, ys, ⟨rfl, ha, hb, ox, oy, hn1, hn2⟩, q⟩ := h
    have hxl : (xs.map V.int).length = n := by rw [List.length_map, ox.len]
    refine ⟨_, 
      (pss_one (ps_ret (pe_callB call_len_seq (by rfl) B.len PySem.boot_len (pa_cons (pe_lc (own := [("place", 2)]) (g := (gName 2)) (tt := (tTest (tOp rNe (tOp (rIxL K) (tVar 0) (tVar 2)) (tOp (rIxL K) (tVar 1) (tVar 2))))) (te := (tVar 2)) rfl scSpot.nd (pi_range1 (by rfl) B.range (pa_cons (pe_callB call_len_seq (by rfl) B.len PySem.boot_len (pa_cons (pv 0) pa_nil)) pa_nil)) (blkOk_by (N := ["one", "other", "place"]) (sc := defScope s_far_by_spot) (by decide +kernel)) (fun _ _ _ _ _ => (pg_name (i := 2) scSpot.nd rfl (.inl rfl))) (fun _ _ _ _ _ => (pts_one (pt_cmpR op_ne (pe_ix ix_list (pv 0) (pv 2) (fun _ _ => rfl)) (pe_ix ix_list (pv 1) (pv 2) (fun _ _ => rfl)) (nomark _)))) (fun _ _ _ _ _ => (pv 2))) pa_nil)))), ?_⟩
    refine ⟨_, rfl, a, _, rfl, .inl (SqL.of ha), _, rfl, by omega, by rw [hxl]; omega, fun D nD => ?_⟩
    rw [hxl, Int.toNat_natCast]
    refine lc_range (lo := 0) (n := n) (fun m H3 => H3 D = some (.lst (((rg m).filter (fun p => !decide (g0 xs p = g0 ys p))).map V.int)) ∧ Same H H3) ⟨upd_same, same_new nD⟩ (fun m H3 hm hP => ?_) (fun H3 hP => ?_)
    · obtain ⟨hD3, sm⟩ := hP
      obtain ⟨x, ex, _⟩ := ord_ix ox hm
      obtain ⟨y, ey, _⟩ := ord_ix oy hm
      have gx : g0 xs (m : Int) = x := g0_at ex
      have gy : g0 ys (m : Int) = y := g0_at ey
      have fm : ((rg (m + 1)).filter fun p => !decide (g0 xs p = g0 ys p)) = ((rg m).filter fun p => !decide (g0 xs p = g0 ys p)) ++ (if x = y then [] else [(m : Int)]) := by
        rw [rg_succ, List.filter_append, List.filter_cons, gx, gy]
        congr 1
        by_cases c : x = y
        · simp [c]
        · simp [c]
      refine ⟨rfl, _, rfl, _, rfl, a, _, _, _, rfl, rfl, SqL.of (sm _ _ ha), at_of (j := m) (by omega) (int_at ex), _, rfl, _, rfl, b, _, _, _, rfl, rfl, SqL.of (sm _ _ hb), at_of (j := m) (by omega) (int_at ey), rfl, _, rfl, ?_⟩
      by_cases c : x = y
      · subst c
        refine iteNS rfl ⟨?_, sm⟩
        rw [fm, if_pos rfl, List.append_nil]
        exact hD3
      · rw [decide_eq_false (fun e => c (V.int.inj e))]
        refine iteT ⟨_, rfl, _, hD3, line_lt ?_, ?_, fun u o e => ?_⟩
        · rw [List.length_map]
          refine Nat.lt_of_le_of_lt (List.length_filter_le _ _) ?_
          rw [rg_len]
          omega
        · rw [upd_same, fm, if_neg c, List.map_append, Int.zero_add]
          rfl
        · rw [upd_ne (ne_of_none e nD)]
          exact sm _ _ e
    · obtain ⟨hD3, sm⟩ := hP
      refine ⟨D, _, rfl, .inl (SqL.of hD3), ?_⟩
      have z := q H3 sm
      unfold farSpot spotL at z
      rw [ox.len] at z
      rw [List.length_map]
      exact z
theorem scShift : FnScope ["one", "other", "place", "seat"] ["one", "other"] (defScope s_far_by_shift) := ⟨rfl, rfl, rfl, by decide +kernel, rfl, by decide +kernel, by decide +kernel⟩
set_option maxHeartbeats 2000000 in
theorem ok_shift {f fP : Addr} {fd fdP : FuncData} {k : Nat} (T : Df K mg "far_by_shift" s_far_by_shift ["one", "other"] f fd) (T_seats_in : Df K mg "seats_in" s_seats_in ["one", "other"] fP fdP) (G_seats_in : FnOk P w K mg base CX0 k fP fdP ["one", "other"] spSeats) (B : Bi mg) : FnOk P w K mg base CX0 (k + 1) f fd ["one", "other"] spShift := by
  refine T.F.ok scShift (fun vs H Q E h => ?_) (fun cdv A outer s H vs Q E hr h => ?_)
  · obtain ⟨a, b, n, xs, ys, ⟨rfl, _⟩, _⟩ := h
    rfl
  · obtain ⟨a, b, n, xs, ys, ⟨rfl, ha, hb, ox, oy, hn1, hn2⟩, q⟩ := h
    refine ⟨_, 
      (pss_one (ps_ret (pe_callB (cr_max rfl) (by rfl) B.max (by decide +kernel) (pa_cons (pe_lc (own := [("place", 2), ("seat", 3)]) (g := (gTup K 2 (gCons (gName 2) (gCons (gName 3) gNil)))) (tt := tYes) (te := (tCB rAbs (tCons (tOp (rI0 fun i j => .int (i - j)) (tVar 2) (tVar 3)) tNil))) rfl scShift.nd (pi_enum (by rfl) B.enumerate (pa_cons (pe_call G_seats_in hr (by rfl) T_seats_in.g T_seats_in.F.kp T_seats_in.b .nil pass0 (pa_cons (pv 0) (pa_cons (pv 1) pa_nil))) pa_nil)) (blkOk_by (N := ["one", "other", "place", "seat"]) (sc := defScope s_far_by_shift) (by decide +kernel)) (fun _ _ _ _ _ => (pg_tup (by rfl) (pgs_cons (pg_name (i := 2) scShift.nd rfl (.inl rfl)) (pgs_cons (pg_name (i := 3) scShift.nd rfl (.inl rfl)) pgs_nil)))) (fun _ _ _ _ _ => pts_nil) (fun _ _ _ _ _ => (pe_callB call_abs (by rfl) B.abs (by decide +kernel) (pa_cons (pe_op op_sub (pv 2) (pv 3)) pa_nil)))) pa_nil)))), ?_⟩
    have os := seats_ord ox oy
    refine ⟨_, rfl, _, rfl, a, b, n, xs, ys, ⟨rfl, ha, hb, ox, oy, hn1, hn2⟩, fun l H1 nl hl s1 => ?_⟩
    refine ⟨l, _, rfl, SqL.of hl, fun D nD => ?_⟩
    have nlD : l ≠ D := ne_of_none hl nD
    have nHD : H D = none := s1.free nD
    refine lc_enumL (K := K) (a := l) (xs := (seatsL xs ys).map V.int) (fun m H3 => H3 D = some (.lst (((gapsL xs ys).take m).map V.int)) ∧ H3 l = some (.lst ((seatsL xs ys).map V.int)) ∧ Same H H3) ⟨upd_same, by rw [upd_ne nlD]; exact hl, s1.trans (same_new nD)⟩ (fun m H3 _ hP => SqL.of hP.2.1) (fun m x t H3 hx hP nt => ?_) (fun H3 hP => ?_)
    · obtain ⟨hD3, hl3, sm⟩ := hP
      obtain ⟨y, ey, rfl⟩ := int_at_inv hx
      have hi := (List.getElem?_eq_some_iff.mp ey).1
      rw [os.len] at hi
      have s3 := same_new (o := .tup [.int (m : Nat), .int y]) nt
      have eg : (gapsL xs ys)[m]? = some (absI ((m : Int) - y)) := by
        unfold gapsL rg
        rw [List.map_map, List.getElem?_map, List.getElem?_range (by rw [ox.len]; exact hi)]
        show some (absI ((m : Int) - g0 (seatsL xs ys) (m : Int))) = _
        rw [g0_at ey]
      refine ⟨t, _, rfl, .inl (.inl upd_same), rfl, _, _, rfl, _, _, rfl, rfl, rfl, ?_⟩
      refine ⟨_, rfl, _, rfl, (m : Int), y, rfl, rfl, _, rfl, _, s3 _ _ hD3, line_lt (by rw [List.length_map, List.length_take, gaps_len, ox.len]; omega), ?_, ?_, fun u o e => ?_⟩
      · rw [upd_same, take_more eg, List.map_append]
        rfl
      · rw [upd_ne nlD]
        exact s3 _ _ hl3
      · rw [upd_ne (ne_of_none e nHD)]
        exact s3 _ _ (sm _ _ e)
    · obtain ⟨hD3, hl3, sm⟩ := hP
      rw [List.take_of_length_le (by rw [gaps_len, List.length_map, seats_len]; exact Nat.le_refl _)] at hD3
      refine ⟨D, gapsL xs ys, rfl, SqL.of hD3, by rw [gaps_len, ox.len]; exact hn1, fun m hm hle => ?_⟩
      have e : farShift xs ys = m := maxL_of (gaps_nonneg xs ys) hm hle
      rw [← e]
      exact q H3 sm
theorem scKnown : FnScope ["way", "one", "other"] ["way", "one", "other"] (defScope s_known_far) := ⟨rfl, rfl, rfl, by decide +kernel, rfl, by decide +kernel, by decide +kernel⟩
theorem ok_known {f f4 f5 f6 : Addr} {fd d4 d5 d6 : FuncData} {k : Nat} (T : Df K mg "known_far" s_known_far ["way", "one", "other"] f fd) (T_far_by_swap : Df K mg "far_by_swap" s_far_by_swap ["one", "other"] f4 d4) (T_far_by_spot : Df K mg "far_by_spot" s_far_by_spot ["one", "other"] f5 d5) (T_far_by_shift : Df K mg "far_by_shift" s_far_by_shift ["one", "other"] f6 d6)
    (G_far_by_swap : FnOk P w K mg base CX0 k f4 d4 ["one", "other"] spSwap) (G_far_by_spot : FnOk P w K mg base CX0 k f5 d5 ["one", "other"] spSpot) (G_far_by_shift : FnOk P w K mg base CX0 k f6 d6 ["one", "other"] spShift) :
    FnOk P w K mg base CX0 (k + 1) f fd ["way", "one", "other"] spFar := by
  refine T.F.ok scKnown (fun vs H Q E h => ?_) (fun cdv A outer s H vs Q E hr h => ?_)
  · obtain ⟨z, a, b, n, xs, ys, rfl, _⟩ := h
    rfl
  · obtain ⟨z, a, b, n, xs, ys, rfl, hz, ha, hb, ox, oy, hn1, hn2, q⟩ := h
    refine ⟨_, 
      (pss_cons (ps_if (pt_cmpR op_eq (pv 0) pe_str (nomark _))
        (pss_one (ps_ret (pe_call G_far_by_swap hr (by rfl) T_far_by_swap.g T_far_by_swap.F.kp T_far_by_swap.b .nil pass0 (pa_cons (pv 1) (pa_cons (pv 2) pa_nil)))))
        pss_nil)
      (pss_cons (ps_if (pt_cmpR op_eq (pv 0) pe_str (nomark _))
        (pss_one (ps_ret (pe_call G_far_by_spot hr (by rfl) T_far_by_spot.g T_far_by_spot.F.kp T_far_by_spot.b .nil pass0 (pa_cons (pv 1) (pa_cons (pv 2) pa_nil)))))
        pss_nil)
      (pss_one (ps_ret (pe_call G_far_by_shift hr (by rfl) T_far_by_shift.g T_far_by_shift.F.kp T_far_by_shift.b .nil pass0 (pa_cons (pv 1) (pa_cons (pv 2) pa_nil))))))), ?_⟩
    rcases hz with rfl | rfl | rfl
    · refine ⟨_, rfl, rfl, _, rfl, ite2 (fun _ => ?_) (fun c => absurd (by decide +kernel) c)⟩
      exact ⟨_, rfl, _, rfl, a, b, n, xs, ys, ⟨rfl, ha, hb, ox, oy, hn1, hn2⟩, fun H2 s2 => by rw [← farW_swap]; exact q H2 s2⟩
    · refine ⟨_, rfl, rfl, _, rfl, ite2 (fun c => absurd c (by decide +kernel)) (fun _ => ?_)⟩
      refine ⟨_, rfl, rfl, _, rfl, ite2 (fun _ => ?_) (fun c => absurd (by decide +kernel) c)⟩
      exact ⟨_, rfl, _, rfl, a, b, n, xs, ys, ⟨rfl, ha, hb, ox, oy, hn1, hn2⟩, fun H2 s2 => by rw [← farW_spot]; exact q H2 s2⟩
    · refine ⟨_, rfl, rfl, _, rfl, ite2 (fun c => absurd c (by decide +kernel)) (fun _ => ?_)⟩
      refine ⟨_, rfl, rfl, _, rfl, ite2 (fun c => absurd c (by decide +kernel)) (fun _ => ?_)⟩
      exact ⟨_, rfl, _, rfl, a, b, n, xs, ys, ⟨rfl, ha, hb, ox, oy, hn1, hn2⟩, fun H2 s2 => by rw [← farW_shift]; exact q H2 s2⟩
end
end Fo
namespace Fo
open PySem PySem.Spec PyProof.Rows L2
theorem units65 {k : Nat} {A : Around} (r : Room k A) : A.units + 65 < cLine := by have := r.un; omega
theorem any_row (rs : List (List Int)) (o : List Int) : ((rs.map dL).any fun z => PyData.eqv z (dL o)) = decide (o ∈ rs) := by
  induction rs with
  | nil => rfl
  | cons a rs ih =>
    rw [List.map_cons, List.any_cons, ih, eqv_ints]
    by_cases c : a = o
    · subst c; simp
    · have c2 : ¬ o = a := fun e => c e.symm
      simp [c, c2]
end Fo
namespace Fo
open PySem PySem.Spec PyProof.Rows L2
/-! ### how far, by things -/
theorem sumN_le {l : List Int} {f g : Int → Nat} (h : ∀ x ∈ l, f x ≤ g x) : sumN l f ≤ sumN l g := by
  induction l with
  | nil => exact Nat.le_refl _
  | cons a l ih =>
    rw [sumN_cons, sumN_cons]
    have h1 := h a List.mem_cons_self
    have h2 := ih fun x hx => h x (List.mem_cons_of_mem _ hx)
    omega
theorem sumN_one {l : List Int} {f : Int → Nat} {x : Int} (h : x ∈ l) : f x ≤ sumN l f := by
  induction l with
  | nil => exact absurd h List.not_mem_nil
  | cons a l ih =>
    rw [sumN_cons]
    rcases List.mem_cons.mp h with rfl | h
    · omega
    · have := ih h
      omega
theorem ind_le {a : Bool} {n : Nat} (h : a = true → 1 ≤ n) : ind a ≤ n := by
  unfold ind
  cases a
  · exact Nat.zero_le _
  · exact h rfl
theorem ind_true {a : Bool} (h : a = true) : ind a = 1 := by rw [h]; rfl
theorem g0_seats {n : Nat} {xs ys : List Int} (o : IsOrd n xs) {p : Int} (h : p ∈ rg n) : g0 (seatsL xs ys) p = pos ys (g0 xs p) := by
  have h1 := rg_mem.mp h
  obtain ⟨x, hx, _⟩ := ord_ix o (j := p.toNat) (by omega)
  have e := g0_at hx
  have e2 := g0_at (seats_at (ys := ys) hx)
  rw [Int.toNat_of_nonneg h1.1] at e e2
  rw [e, e2]
def dT (xs ys : List Int) (t u : Int) : Nat := ind (decide (pos xs t < pos xs u) && decide (pos ys u < pos ys t))
def swT (n : Nat) (xs ys : List Int) : Nat := sumN (rg n) fun t => sumN (rg n) fun u => dT xs ys t u
def spT (n : Nat) (xs ys : List Int) : Nat := sumN (rg n) fun t => ind (!decide (pos xs t = pos ys t))
def shL (n : Nat) (xs ys : List Int) : List Int := (rg n).map fun t => absI (pos xs t - pos ys t)
theorem swap_T {n : Nat} {xs ys : List Int} (ox : IsOrd n xs) (oy : IsOrd n ys) : farSwap xs ys = ((swT n xs ys : Nat) : Int) := by
  unfold farSwap
  rw [inv_eq, seats_len, ox.len]
  unfold invF swT
  congr 1
  rw [sum_pos ox]
  apply sumN_congr
  intro t ht
  rw [sum_pos ox]
  apply sumN_congr
  intro u hu
  unfold dT
  rw [g0_seats ox (pos_in ox ht), g0_seats ox (pos_in ox hu), g0_pos ox ht, g0_pos ox hu]
theorem spot_T {n : Nat} {xs ys : List Int} (ox : IsOrd n xs) (oy : IsOrd n ys) : farSpot xs ys = ((spT n xs ys : Nat) : Int) := by
  unfold farSpot spotL spT
  rw [filter_len, ox.len]
  congr 1
  rw [sum_g0 ox (fun t => ind (!decide (pos xs t = pos ys t)))]
  apply sumN_congr
  intro p hp
  rw [pos_g0 ox hp]
  by_cases c : g0 xs p = g0 ys p
  · rw [decide_eq_true c, c, pos_g0 oy hp, decide_eq_true rfl]
  · have d : ¬ (p = pos ys (g0 xs p)) := fun e => c (by
      have := g0_pos oy (g0_in ox hp)
      rw [← e] at this
      exact this.symm)
    rw [decide_eq_false c, decide_eq_false d]
theorem shift_mem {n : Nat} {xs ys : List Int} (ox : IsOrd n xs) : ∀ g, g ∈ gapsL xs ys ↔ g ∈ shL n xs ys := by
  intro g
  unfold gapsL shL
  rw [ox.len, List.mem_map, List.mem_map]
  constructor
  · rintro ⟨p, hp, rfl⟩
    exact ⟨g0 xs p, g0_in ox hp, by rw [pos_g0 ox hp, g0_seats ox hp]⟩
  · rintro ⟨t, ht, rfl⟩
    exact ⟨pos xs t, pos_in ox ht, by rw [g0_seats ox (pos_in ox ht), g0_pos ox ht]⟩
theorem shift_T {n : Nat} {xs ys : List Int} (ox : IsOrd n xs) (hn : 1 ≤ n) : (∃ t ∈ rg n, farShift xs ys = absI (pos xs t - pos ys t)) ∧ ∀ t ∈ rg n, absI (pos xs t - pos ys t) ≤ farShift xs ys := by
  obtain ⟨h1, h2⟩ := maxL_mem (gaps_nonneg xs ys) (by rw [gaps_len, ox.len]; exact hn)
  constructor
  · obtain ⟨t, ht, e⟩ := List.mem_map.mp ((shift_mem ox _).mp h1)
    exact ⟨t, ht, e.symm⟩
  · intro t ht
    exact h2 _ ((shift_mem ox _).mpr (List.mem_map.mpr ⟨t, ht, rfl⟩))
theorem shift_of {n : Nat} {xs ys : List Int} {m : Int} (ox : IsOrd n xs) (h : ∃ t ∈ rg n, m = absI (pos xs t - pos ys t)) (hle : ∀ t ∈ rg n, absI (pos xs t - pos ys t) ≤ m) : farShift xs ys = m := by
  obtain ⟨t, ht, e⟩ := h
  refine maxL_of (gaps_nonneg xs ys) ((shift_mem ox _).mpr (List.mem_map.mpr ⟨t, ht, e.symm⟩)) fun x hx => ?_
  obtain ⟨u, hu, rfl⟩ := List.mem_map.mp ((shift_mem ox _).mp hx)
  exact hle u hu
/-! ### alike just where 0 -/
theorem invR_zero : ∀ {s : List Int}, invR s = 0 → s.Pairwise (· ≤ ·)
  | [], _ => List.Pairwise.nil
  | x :: r, h => by
    have h' : (r.filter (fun z => decide (z < x))).length + invR r = 0 := h
    refine List.Pairwise.cons (fun z hz => ?_) (invR_zero (by omega))
    have e : r.filter (fun z => decide (z < x)) = [] := List.eq_nil_of_length_eq_zero (by omega)
    have := List.filter_eq_nil_iff.mp e z hz
    simp at this
    exact this
theorem same_of_pos {n : Nat} {xs ys : List Int} (ox : IsOrd n xs) (oy : IsOrd n ys) (h : ∀ p ∈ rg n, pos ys (g0 xs p) = p) : xs = ys := by
  rw [g0_ord ox, g0_ord oy]
  apply List.map_congr_left
  intro p hp
  have e := g0_pos oy (g0_in ox hp)
  rw [h p hp] at e
  exact e.symm
theorem farW_zero {w : Str} {n : Nat} {xs ys : List Int} (hw : IsWay w) (ox : IsOrd n xs) (oy : IsOrd n ys) (hn : 1 ≤ n) (h : farW w xs ys = 0) : xs = ys := by
  rcases hw with rfl | rfl | rfl
  · rw [farW_swap] at h
    unfold farSwap at h
    rw [inv_NR] at h
    have hs := invR_zero (s := seatsL xs ys) (by omega)
    have e := sorted_eq (seats_ord ox oy) hs (rg_sorted n)
    refine same_of_pos ox oy fun p hp => ?_
    rw [← g0_seats ox hp, e]
    have h1 := rg_mem.mp hp
    have z : (rg n)[p.toNat]? = some p := by
      unfold rg
      rw [List.getElem?_map, List.getElem?_range (by omega)]
      show some ((p.toNat : Nat) : Int) = some p
      rw [Int.toNat_of_nonneg h1.1]
    have z2 := g0_at z
    rw [Int.toNat_of_nonneg h1.1] at z2
    exact z2
  · rw [farW_spot] at h
    unfold farSpot spotL at h
    have e : ((rg xs.length).filter fun p => !decide (g0 xs p = g0 ys p)) = [] := List.eq_nil_of_length_eq_zero (by omega)
    rw [g0_ord ox, g0_ord oy]
    apply List.map_congr_left
    intro p hp
    have := List.filter_eq_nil_iff.mp e p (by rw [ox.len]; exact hp)
    simpa using this
  · rw [farW_shift] at h
    have h2 := (shift_T (ys := ys) ox hn).2
    rw [h] at h2
    refine same_of_pos ox oy fun p hp => ?_
    have := h2 _ (g0_in ox hp)
    rw [pos_g0 ox hp] at this
    unfold absI at this
    split at this <;> omega
/-! ### by a third one never shorter -/
theorem farW_third {w : Str} {n : Nat} {xs ys zs : List Int} (hw : IsWay w) (ox : IsOrd n xs) (oy : IsOrd n ys) (oz : IsOrd n zs) (hn : 1 ≤ n) : farW w xs ys ≤ farW w xs zs + farW w zs ys := by
  rcases hw with rfl | rfl | rfl
  · rw [farW_swap, farW_swap, farW_swap, swap_T ox oy, swap_T ox oz, swap_T oz oy]
    have : swT n xs ys ≤ swT n xs zs + swT n zs ys := by
      unfold swT
      rw [← sumN_add]
      apply sumN_le
      intro t ht
      rw [← sumN_add]
      apply sumN_le
      intro u hu
      unfold dT
      apply ind_le
      intro h
      rw [Bool.and_eq_true] at h
      have h1 := of_decide_eq_true h.1
      have h2 := of_decide_eq_true h.2
      by_cases c : pos zs u < pos zs t
      · rw [ind_true (by rw [decide_eq_true h1, decide_eq_true c]; rfl)]
        omega
      · have ne : pos zs t ≠ pos zs u := fun e => by
          have := pos_inj oz ht hu e
          subst this
          omega
        rw [ind_true (a := decide (pos zs t < pos zs u) && decide (pos ys u < pos ys t)) (by rw [decide_eq_true (show pos zs t < pos zs u by omega), decide_eq_true h2]; rfl)]
        omega
    omega
  · rw [farW_spot, farW_spot, farW_spot, spot_T ox oy, spot_T ox oz, spot_T oz oy]
    have : spT n xs ys ≤ spT n xs zs + spT n zs ys := by
      unfold spT
      rw [← sumN_add]
      apply sumN_le
      intro t _
      apply ind_le
      intro h
      by_cases c : pos xs t = pos zs t
      · have d : ¬ (pos zs t = pos ys t) := fun e => by
          rw [c, e] at h
          simp at h
        rw [ind_true (a := !decide (pos zs t = pos ys t)) (by rw [decide_eq_false d]; rfl)]
        omega
      · rw [ind_true (a := !decide (pos xs t = pos zs t)) (by rw [decide_eq_false c]; rfl)]
        omega
    omega
  · rw [farW_shift, farW_shift, farW_shift]
    obtain ⟨t, ht, e⟩ := (shift_T (ys := ys) ox hn).1
    have h1 := (shift_T (ys := zs) ox hn).2 t ht
    have h2 := (shift_T (ys := ys) oz hn).2 t ht
    rw [e]
    unfold absI at h1 h2 ⊢
    split at h1 <;> split at h2 <;> split <;> omega
/-! ### called otherwise, and from behind -/
/-- two pairs of orders whose things stand alike -/
theorem farW_called {w : Str} {n : Nat} {xs ys xs' ys' : List Int} {r : Int → Int} (hw : IsWay w) (ox : IsOrd n xs) (oy : IsOrd n ys) (ox' : IsOrd n xs') (oy' : IsOrd n ys') (hn : 1 ≤ n) (hr : IsOrd n ((rg n).map r)) (h1 : ∀ t ∈ rg n, pos xs' (r t) = pos xs t) (h2 : ∀ t ∈ rg n, pos ys' (r t) = pos ys t) : farW w xs' ys' = farW w xs ys := by
  have sr : ∀ f : Int → Nat, sumN (rg n) f = sumN (rg n) fun t => f (r t) := fun f => by
    have e : sumN ((rg n).map r) f = sumN (rg n) fun t => f (r t) := sumN_map _ _ _
    rw [← e]
    exact (sumN_perm hr f).symm
  have rin : ∀ t ∈ rg n, r t ∈ rg n := fun t ht => rg_mem.mpr (hr.mem (List.mem_map.mpr ⟨t, ht, rfl⟩))
  have ron : ∀ t' ∈ rg n, ∃ t ∈ rg n, r t = t' := fun t' ht' => List.mem_map.mp ((List.Perm.mem_iff hr).mpr ht')
  rcases hw with rfl | rfl | rfl
  · rw [farW_swap, farW_swap, swap_T ox' oy', swap_T ox oy]
    congr 1
    unfold swT
    rw [sr]
    apply sumN_congr
    intro t ht
    rw [sr]
    apply sumN_congr
    intro u hu
    unfold dT
    rw [h1 t ht, h1 u hu, h2 t ht, h2 u hu]
  · rw [farW_spot, farW_spot, spot_T ox' oy', spot_T ox oy]
    congr 1
    unfold spT
    rw [sr]
    apply sumN_congr
    intro t ht
    rw [h1 t ht, h2 t ht]
  · rw [farW_shift, farW_shift]
    obtain ⟨⟨t, ht, e⟩, hle⟩ := shift_T (ys := ys) ox hn
    refine shift_of ox' ⟨r t, rin t ht, by rw [h1 t ht, h2 t ht]; exact e⟩ fun t' ht' => ?_
    obtain ⟨u, hu, rfl⟩ := ron t' ht'
    rw [h1 u hu, h2 u hu]
    exact hle u hu
theorem behind_ord {n : Nat} {ns ms : List Int} (o1 : IsOrd n ns) (o2 : IsOrd n ms) : IsOrd n (behindL ns ms) := by
  have h : (behindL ns ms).Perm ((rg n).map (g0 ns)) := List.Perm.map _ o2
  rw [← g0_ord o1] at h
  exact h.trans o1
theorem behind_pos {n : Nat} {zs xs : List Int} (oz : IsOrd n zs) (ox : IsOrd n xs) : ∀ t ∈ rg n, pos (behindL zs xs) (g0 zs t) = pos xs t := by
  intro t ht
  have h1 := rg_mem.mp ht
  obtain ⟨j, _, ej, pj⟩ := pos_at ox h1.1 h1.2
  obtain ⟨z, hz, _⟩ := ord_ix oz (j := t.toNat) (by omega)
  have e := g0_at hz
  rw [Int.toNat_of_nonneg h1.1] at e
  rw [e, pj]
  exact pos_of (behind_ord oz ox) (behind_at ej hz)
theorem rev_pos {n : Nat} {xs : List Int} (ox : IsOrd n xs) : ∀ t ∈ rg n, pos xs.reverse t = (n : Int) - 1 - pos xs t := by
  intro t ht
  have h1 := rg_mem.mp ht
  obtain ⟨j, hj, ej, pj⟩ := pos_at ox h1.1 h1.2
  have hl := ox.len
  have er : xs.reverse[n - 1 - j]? = some t := by
    rw [List.getElem?_reverse (by omega), hl, show n - 1 - (n - 1 - j) = j by omega]
    exact ej
  rw [pj, pos_of (n := n) ((List.reverse_perm xs).trans ox) er]
  omega
theorem farW_rev {w : Str} {n : Nat} {xs ys : List Int} (hw : IsWay w) (ox : IsOrd n xs) (oy : IsOrd n ys) (hn : 1 ≤ n) : farW w xs.reverse ys.reverse = farW w xs ys := by
  have ox' : IsOrd n xs.reverse := (List.reverse_perm xs).trans ox
  have oy' : IsOrd n ys.reverse := (List.reverse_perm ys).trans oy
  rcases hw with rfl | rfl | rfl
  · rw [farW_swap, farW_swap, swap_T ox' oy', swap_T ox oy]
    congr 1
    unfold swT
    rw [sumN_swap]
    apply sumN_congr
    intro t ht
    apply sumN_congr
    intro u hu
    unfold dT
    rw [rev_pos ox u hu, rev_pos ox t ht, rev_pos oy u hu, rev_pos oy t ht]
    congr 1
    congr 1
    · by_cases c : pos xs t < pos xs u
      · rw [decide_eq_true c, decide_eq_true (by omega)]
      · rw [decide_eq_false c, decide_eq_false (by omega)]
    · by_cases c : pos ys u < pos ys t
      · rw [decide_eq_true c, decide_eq_true (by omega)]
      · rw [decide_eq_false c, decide_eq_false (by omega)]
  · rw [farW_spot, farW_spot, spot_T ox' oy', spot_T ox oy]
    congr 1
    unfold spT
    apply sumN_congr
    intro t ht
    rw [rev_pos ox t ht, rev_pos oy t ht]
    by_cases c : pos xs t = pos ys t
    · rw [decide_eq_true c, decide_eq_true (by omega)]
    · rw [decide_eq_false c, decide_eq_false (by omega)]
  · rw [farW_shift, farW_shift]
    have ea : ∀ t ∈ rg n, absI (pos xs.reverse t - pos ys.reverse t) = absI (pos xs t - pos ys t) := fun t ht => by
      rw [rev_pos ox t ht, rev_pos oy t ht]
      unfold absI
      split <;> split <;> omega
    obtain ⟨⟨t, ht, e⟩, hle⟩ := shift_T (ys := ys) ox hn
    exact shift_of ox' ⟨t, ht, by rw [ea t ht]; exact e⟩ fun u hu => by rw [ea u hu]; exact hle u hu
/-! ### how far at most -/
theorem invR_two (s : List Int) : 2 * invR s + s.length ≤ s.length * s.length := by
  induction s with
  | nil => exact Nat.le_refl _
  | cons x r ih =>
    show 2 * ((r.filter _).length + invR r) + (r.length + 1) ≤ (r.length + 1) * (r.length + 1)
    have h1 : (r.filter (fun z => decide (z < x))).length ≤ r.length := List.length_filter_le _ _
    have h2 : (r.length + 1) * (r.length + 1) = r.length * r.length + r.length + r.length + 1 := by
      rw [Nat.add_mul, Nat.mul_add]
      omega
    omega
theorem swap_most {n : Nat} {xs ys : List Int} (ox : IsOrd n xs) : 2 * farSwap xs ys ≤ (n : Int) * ((n : Int) - 1) := by
  unfold farSwap
  rw [inv_NR]
  have h := invR_two (seatsL xs ys)
  rw [seats_len, ox.len] at h
  have e : (n : Int) * ((n : Int) - 1) = ((n * n : Nat) : Int) - (n : Int) := by
    rw [Int.mul_sub, Int.mul_one, Int.natCast_mul]
  rw [e]
  omega
theorem spot_most {n : Nat} {xs ys : List Int} (ox : IsOrd n xs) : farSpot xs ys ≤ n := by
  unfold farSpot spotL
  rw [ox.len]
  have h := List.length_filter_le (fun p => !decide (g0 xs p = g0 ys p)) (rg n)
  rw [rg_len] at h
  omega
theorem spot_one {n : Nat} {xs ys : List Int} (ox : IsOrd n xs) (oy : IsOrd n ys) : farSpot xs ys ≠ 1 := by
  intro h
  unfold farSpot at h
  obtain ⟨p, hp⟩ := List.length_eq_one_iff.mp (show (spotL xs ys).length = 1 by omega)
  have mem : ∀ q, q ∈ spotL xs ys ↔ q ∈ rg n ∧ g0 xs q ≠ g0 ys q := fun q => by
    unfold spotL
    rw [List.mem_filter, ox.len]
    simp
  have hpm := (mem p).mp (by rw [hp]; exact List.mem_cons_self)
  have hq := pos_in oy (g0_in ox hpm.1)
  have e := g0_pos oy (g0_in ox hpm.1)
  have nq : pos ys (g0 xs p) ≠ p := fun z => hpm.2 (by rw [z] at e; exact e.symm)
  have same : g0 xs (pos ys (g0 xs p)) = g0 ys (pos ys (g0 xs p)) := by
    by_cases c : g0 xs (pos ys (g0 xs p)) = g0 ys (pos ys (g0 xs p))
    · exact c
    · have := (mem _).mpr ⟨hq, c⟩
      rw [hp] at this
      exact absurd (List.mem_singleton.mp this) nq
  rw [e] at same
  have e2 := pos_g0 ox hq
  rw [same, pos_g0 ox hpm.1] at e2
  exact nq e2.symm
theorem shift_most {n : Nat} {xs ys : List Int} (ox : IsOrd n xs) (oy : IsOrd n ys) (hn : 1 ≤ n) : farShift xs ys ≤ (n : Int) - 1 := by
  obtain ⟨t, ht, e⟩ := (shift_T (ys := ys) ox hn).1
  have h1 := rg_mem.mp (pos_in ox ht)
  have h2 := rg_mem.mp (pos_in oy ht)
  rw [e]
  unfold absI
  split <;> omega
theorem below_sum (n : Nat) : ∀ b : Nat, b ≤ n → sumN (rg n) (fun j => ind (decide (j < (b : Int)))) = b := by
  induction n with
  | zero => intro b hb; have : b = 0 := by omega
            subst this; rfl
  | succ n ih =>
    intro b hb
    rw [rg_succ, sumN_append, sumN_cons, sumN_nil]
    by_cases c : b = n + 1
    · subst c
      rw [sumN_congr (g := fun j => ind (decide (j < (n : Int)))) (fun j hj => by
        have := rg_mem.mp hj
        rw [decide_eq_true this.2, decide_eq_true (show j < ((n + 1 : Nat) : Int) by omega)]), ih n (Nat.le_refl _), ind_true (decide_eq_true (by omega))]
    · rw [ih b (by omega), decide_eq_false (show ¬ ((n : Int) < (b : Int)) by omega)]
      rfl
/-- so many others stand the other way round as a thing is shifted -/
theorem turned_most {n : Nat} {xs ys : List Int} (ox : IsOrd n xs) (oy : IsOrd n ys) {t : Int} (ht : t ∈ rg n) : pos ys t - pos xs t ≤ ((sumN (rg n) (fun u => dT xs ys t u) : Nat) : Int) := by
  have h1 := rg_mem.mp (pos_in ox ht)
  have h2 := rg_mem.mp (pos_in oy ht)
  have ea := below_sum n (pos xs t).toNat (by omega)
  have eb := below_sum n (pos ys t).toNat (by omega)
  rw [sum_pos ox] at ea
  rw [sum_pos oy] at eb
  rw [Int.toNat_of_nonneg h1.1] at ea
  rw [Int.toNat_of_nonneg h2.1] at eb
  have : sumN (rg n) (fun u => ind (decide (pos ys u < pos ys t))) ≤ sumN (rg n) (fun u => ind (decide (pos xs u < pos xs t))) + sumN (rg n) (fun u => dT xs ys t u) := by
    rw [← sumN_add]
    apply sumN_le
    intro u hu
    apply ind_le
    intro h
    have hlt := of_decide_eq_true h
    by_cases c : pos xs u < pos xs t
    · rw [ind_true (decide_eq_true c)]
      omega
    · have ne : pos xs t ≠ pos xs u := fun e => by
        have := pos_inj ox ht hu e
        subst this
        omega
      unfold dT
      rw [ind_true (a := decide (pos xs t < pos xs u) && decide (pos ys u < pos ys t)) (by rw [decide_eq_true (show pos xs t < pos xs u by omega), decide_eq_true hlt]; rfl)]
      omega
  omega
theorem dT_turn (xs ys : List Int) (t u : Int) : dT ys xs t u = dT xs ys u t := by
  unfold dT
  rw [Bool.and_comm]
theorem turned_abs {n : Nat} {xs ys : List Int} (ox : IsOrd n xs) (oy : IsOrd n ys) {t : Int} (ht : t ∈ rg n) : absI (pos xs t - pos ys t) ≤ ((sumN (rg n) (fun u => dT xs ys t u) : Nat) : Int) + ((sumN (rg n) (fun u => dT xs ys u t) : Nat) : Int) := by
  have h1 := turned_most ox oy ht
  have h2 := turned_most oy ox ht
  rw [sumN_congr (g := fun u => dT xs ys u t) (fun u _ => dT_turn xs ys t u)] at h2
  unfold absI
  split <;> omega
theorem shift_swap {n : Nat} {xs ys : List Int} (ox : IsOrd n xs) (oy : IsOrd n ys) (hn : 1 ≤ n) : farShift xs ys ≤ farSwap xs ys := by
  obtain ⟨t, ht, e⟩ := (shift_T (ys := ys) ox hn).1
  have h1 := turned_most ox oy ht
  have h2 := turned_most oy ox ht
  have b1 : sumN (rg n) (fun u => dT xs ys t u) ≤ swT n xs ys := sumN_one (f := fun t => sumN (rg n) fun u => dT xs ys t u) ht
  have b2 : sumN (rg n) (fun u => dT ys xs t u) ≤ swT n ys xs := sumN_one (f := fun t => sumN (rg n) fun u => dT ys xs t u) ht
  have e1 := swap_T ox oy
  have e2 := swap_T oy ox
  have e3 := farSwap_turn ox oy
  rw [e]
  unfold absI
  split <;> omega
theorem spot_swap {n : Nat} {xs ys : List Int} (ox : IsOrd n xs) (oy : IsOrd n ys) : farSpot xs ys ≤ 2 * farSwap xs ys := by
  rw [spot_T ox oy, swap_T ox oy]
  have : spT n xs ys ≤ swT n xs ys + swT n xs ys := by
    have e : swT n xs ys = sumN (rg n) fun t => sumN (rg n) fun u => dT xs ys u t := by
      unfold swT
      rw [sumN_swap]
    have e2 : swT n xs ys + swT n xs ys = sumN (rg n) fun t => sumN (rg n) (fun u => dT xs ys t u) + sumN (rg n) (fun u => dT xs ys u t) := by
      rw [sumN_add, ← e]
      rfl
    rw [e2]
    unfold spT
    apply sumN_le
    intro t ht
    apply ind_le
    intro h
    have ha := turned_abs ox oy ht
    have ne : ¬ (pos xs t = pos ys t) := fun z => by
      rw [z] at h
      simp at h
    unfold absI at ha
    split at ha <;> omega
  omega
/-! ### backs -/
theorem back_list {n : Nat} {ns ps : List Int} (o : IsOrd n ns) (h : IsBack ns ps) : ps = (rg n).map (pos ns) := by
  apply List.ext_getElem?
  intro t
  by_cases c : t < n
  · have e := back_pos o h (x := (t : Int)) (by omega) (by omega)
    rw [Int.toNat_natCast] at e
    rw [e]
    unfold rg
    rw [List.map_map, List.getElem?_map, List.getElem?_range c]
    rfl
  · rw [List.getElem?_eq_none (by rw [h.1, o.len]; omega), List.getElem?_eq_none (by rw [List.length_map, rg_len]; omega)]
theorem back_ord {n : Nat} {ns ps : List Int} (o : IsOrd n ns) (h : IsBack ns ps) : IsOrd n ps := by
  rw [back_list o h]
  exact pos_ord o
theorem back_g0 {n : Nat} {ns ps : List Int} (o : IsOrd n ns) (h : IsBack ns ps) : ∀ t ∈ rg n, g0 ps t = pos ns t := by
  intro t ht
  have h1 := rg_mem.mp ht
  have e := g0_at (back_pos o h h1.1 h1.2)
  rw [Int.toNat_of_nonneg h1.1] at e
  exact e
theorem back_back {n : Nat} {ns ps : List Int} (o : IsOrd n ns) (h : IsBack ns ps) : IsBack ps ns := by
  refine ⟨h.1.symm, fun j x hx => ?_⟩
  have hj := (List.getElem?_eq_some_iff.mp hx).1
  rw [h.1, o.len] at hj
  obtain ⟨i, hi, ei, pi⟩ := pos_at o (x := (j : Int)) (by omega) (by omega)
  have e := back_pos o h (x := (j : Int)) (by omega) (by omega)
  rw [Int.toNat_natCast, hx] at e
  have ex : x = (i : Int) := (Option.some.inj e).trans pi
  rw [ex, Int.toNat_natCast]
  exact ei
theorem spot_back {n : Nat} {xs ys ps qs : List Int} (ox : IsOrd n xs) (oy : IsOrd n ys) (hp : IsBack xs ps) (hq : IsBack ys qs) : farSpot ps qs = farSpot xs ys := by
  rw [spot_T ox oy]
  unfold farSpot spotL spT
  rw [filter_len, hp.1, ox.len]
  congr 1
  apply sumN_congr
  intro t ht
  rw [back_g0 ox hp t ht, back_g0 oy hq t ht]
theorem behind_back {n : Nat} {xs ps : List Int} (ox : IsOrd n xs) (hp : IsBack xs ps) : behindL xs ps = rg n := by
  rw [back_list ox hp]
  unfold behindL
  rw [List.map_map]
  have e : (rg n).map ((fun p => xs.getD p.toNat 0) ∘ pos xs) = (rg n).map (fun t => t) := List.map_congr_left fun t ht => g0_pos ox ht
  rw [e, List.map_id']
theorem behind_assoc {n : Nat} {xs ys zs : List Int} (ox : IsOrd n xs) (oy : IsOrd n ys) (oz : IsOrd n zs) : behindL (behindL xs ys) zs = behindL xs (behindL ys zs) := by
  apply List.ext_getElem?
  intro i
  by_cases c : i < n
  · obtain ⟨z, hz, z0, z1⟩ := ord_ix oz c
    obtain ⟨y, hy, y0, y1⟩ := ord_ix oy (j := z.toNat) (by omega)
    obtain ⟨x, hx, _⟩ := ord_ix ox (j := y.toNat) (by omega)
    rw [behind_at hz (behind_at hy hx), behind_at (behind_at hz hy) hx]
  · rw [List.getElem?_eq_none (by rw [behind_len, oz.len]; omega), List.getElem?_eq_none (by rw [behind_len, behind_len, oz.len]; omega)]
end Fo
namespace Fo
open PySem PySem.Spec PyProof.Rows L2
def nearL (w : Str) (n : Nat) (xs : List Int) (r : Int) : List (List Int) := (allK n n).filter fun o => decide (farW w xs o ≤ r)
theorem filter_moreL {l : List (List Int)} {m : Nat} {x : List Int} (p : List Int → Bool) (h : l[m]? = some x) : (l.take (m + 1)).filter p = (l.take m).filter p ++ (if p x then [x] else []) := by
  rw [List.take_add_one, h, List.filter_append]
  show _ ++ List.filter p [x] = _
  rw [List.filter_cons]
  rfl
theorem extend_LL {H : Hp} : ∀ {as bs : List Addr} {rs ss : List (List Int)}, LL H as rs → LL H bs ss → LL H (as ++ bs) (rs ++ ss)
  | [], _, [], _, _, h => h
  | [], _, _ :: _, _, h, _ => h.elim
  | _ :: _, _, [], _, h, _ => h.elim
  | _ :: _, _, _ :: _, _, h, h2 => ⟨h.1, extend_LL h.2 h2⟩
end Fo
namespace Fo
open PySem PySem.Spec PyProof.Rows L2
/-! ### sorted(rows), rows a list of lists of whole numbers -/
def rowsR (ps : List (Addr × List Int)) : List (Addr × List Int) := ps.mergeSort fun p q => decide (p.2 ≤ q.2)
def rSortedR (K : PySem.W.Frag) : List V → Hp → VK → Prop := fun vs H Q => ∃ (a : Addr) (ps : List (Addr × List Int)), vs = [V.ref a] ∧ SqL K H a (ps.map fun p => V.ref p.1) ∧ (∀ p ∈ ps, Dp K H (.ref p.1) (dL p.2)) ∧
  ∀ q, H q = none → Q (.ref q) (upd H q (.lst ((rowsR ps).map fun p => V.ref p.1)))
theorem each_refs : ∀ {ps : List (Addr × List Int)} {us : List Value}, Vals (ps.map fun p => V.ref p.1) us → PySem.W.EachIs (fun v (p : Addr × List Int) => v = Value.ref p.1) us ps
  | [], _, .nil => .nil
  | p :: ps, _, .cons r t => .cons r (each_refs t)
theorem refs_each : ∀ {ps : List (Addr × List Int)} {us : List Value}, PySem.W.EachIs (fun v (p : Addr × List Int) => v = Value.ref p.1) us ps → Vals (ps.map fun p => V.ref p.1) us
  | _, _, .nil => .nil
  | _, _, .cons r t => .cons r (refs_each t)
theorem each_all {R S : Value → (Addr × List Int) → Prop} : ∀ {us : List Value} {ps : List (Addr × List Int)}, PySem.W.EachIs R us ps → (∀ v p, p ∈ ps → R v p → S v p) → PySem.W.EachIs S us ps
  | _, _, .nil, _ => .nil
  | _, _, .cons r t, h => .cons (h _ _ List.mem_cons_self r) (each_all t fun v p hp => h v p (List.mem_cons_of_mem _ hp))
theorem cr_sortedR {X : Cx} (hu : X.A.units + 64 < cLine) : CallR X (.builtin "sorted") (rSortedR X.K) := by
  intro pins s σ H vs us Q J rel hz
  obtain ⟨a, ps, ev, sq, hd, q⟩ := hz
  subst ev
  obtain ⟨its, rv, hl, hlen⟩ := J.list sq
  rw [Vals.ref1 rel]
  have e := each_refs rv
  have el := rv.length
  rw [List.length_map] at el hlen
  refine PySem.W.sorted_data (enc := fun p : Addr × List Int => .list (p.2.map .int)) hl.isList e (each_all e fun v p hp hv => ?_) (PySem.W.AllAlike.of fun b b' => ?_) (PySem.W.Sortable.others fun b => ⟨(fun z => by cases z), (fun xs z => by cases z)⟩) hlen (fun b _ => ?_) fun out ol eo => ?_
  · subst hv
    exact Dp.reads J _ _ _ (hd p hp) rfl
  · show PySem.W.alike (.list (b.2.map .int)) (.list (b'.2.map .int)) = true
    simp only [PySem.W.alike]
    exact PySem.W.alike_ints _ _
  · show X.A.units + 2 + (dL b.2).depth < cLine
    rw [depth_list]
    omega
  · rw [PySem.W.dataLe_rows (fun p : Addr × List Int => p.2)] at eo
    obtain ⟨ep, he⟩ := PyProof.Rows.sortedAll_at s.heap its out.toArray
    have hl2 : ((rowsR ps).map fun p => V.ref p.1).length ≤ sizeLine := by
      unfold rowsR
      rw [List.length_map, List.length_mergeSort]
      exact hlen
    exact ⟨.ref _, upd H (s.heap.objs.size + 1) (.lst ((rowsR ps).map fun p => V.ref p.1)), J.laid (t' := s.toks) (fun _ _ => PyProof.Rows.sortedAll_old) (Nat.le_succ _) ⟨hl2, out, ep, refs_each eo, he⟩, rfl, q _ (J.hok.fresh (Nat.le_succ _))⟩
theorem rows_le_total (a b : Addr × List Int) : (decide (a.2 ≤ b.2) || decide (b.2 ≤ a.2)) = true := by
  rcases List.le_total a.2 b.2 with h | h
  · rw [decide_eq_true h]; rfl
  · rw [decide_eq_true h, Bool.or_true]
theorem rowsR_perm (ps : List (Addr × List Int)) : (rowsR ps).Perm ps := List.mergeSort_perm _ _
theorem rowsR_sorted (ps : List (Addr × List Int)) : ((rowsR ps).map (·.2)).Pairwise (· ≤ ·) := by
  have h := List.pairwise_mergeSort (le := fun p q : Addr × List Int => decide (p.2 ≤ q.2)) (fun a b c h1 h2 => decide_eq_true (List.le_trans (of_decide_eq_true h1) (of_decide_eq_true h2))) rows_le_total ps
  exact List.pairwise_map.mpr (h.imp fun h => of_decide_eq_true h)
theorem rows_eq {a b : List (List Int)} (hp : a.Perm b) (ha : a.Pairwise (· ≤ ·)) (hb : b.Pairwise (· ≤ ·)) : a = b := List.Perm.eq_of_pairwise (fun x y _ _ h1 h2 => List.le_antisymm h1 h2) ha hb hp
/-- all orders stand in order -/
theorem extO_sorted (n : Nat) (o : List Int) : (extO n o).Pairwise (· < ·) := by
  unfold extO
  rw [List.pairwise_map]
  have h : (rg n).Pairwise (· < ·) := by
    unfold rg
    exact List.Pairwise.map _ (fun a b h => by omega) List.pairwise_lt_range
  exact (h.filter _).imp fun {a b} h => by
    induction o with
    | nil => exact List.cons_lt_cons_iff.mpr (.inl h)
    | cons x o ih => exact List.cons_lt_cons_iff.mpr (.inr ⟨rfl, ih⟩)
theorem lt_snoc {a b : List Int} (hl : a.length = b.length) (h : a < b) (x y : Int) : a ++ [x] < b ++ [y] := by
  induction a generalizing b with
  | nil =>
    match b, hl with
    | [], _ => exact absurd h (List.lt_irrefl _)
  | cons u a ih =>
    match b, hl with
    | v :: b, hl =>
      rcases List.cons_lt_cons_iff.mp h with h1 | ⟨h1, h2⟩
      · exact List.cons_lt_cons_iff.mpr (.inl h1)
      · exact List.cons_lt_cons_iff.mpr (.inr ⟨h1, ih (by simpa using hl) h2⟩)
theorem allK_sorted {n : Nat} : ∀ k, (allK n k).Pairwise (· < ·)
  | 0 => List.pairwise_singleton _ _
  | k + 1 => by
    show List.Pairwise _ ((allK n k).flatMap (extO n))
    rw [List.pairwise_flatMap]
    refine ⟨fun o _ => extO_sorted n o, (allK_sorted k).imp_of_mem fun {a b} ha hb h x hx y hy => ?_⟩
    obtain ⟨t, _, rfl⟩ := List.mem_map.mp hx
    obtain ⟨u, _, rfl⟩ := List.mem_map.mp hy
    exact lt_snoc (by rw [(allK_row k a ha).1, (allK_row k b hb).1]) h t u
theorem near_sorted {w : Str} {n : Nat} {xs : List Int} {r : Int} : (nearL w n xs r).Pairwise (· ≤ ·) := ((allK_sorted n).filter _).imp fun h => List.le_of_lt h
end Fo
namespace Fo
open PySem PySem.Spec PyProof.Rows L2
/-! ### all orders: each once -/
theorem allK_mem {n : Nat} : ∀ (k : Nat) (r : List Int), r.length = k → r.Nodup → (∀ x ∈ r, x ∈ rg n) → r ∈ allK n k
  | 0, r, hl, _, _ => by rw [List.length_eq_zero_iff.mp hl]; exact List.mem_cons_self
  | k + 1, r, hl, hn, hs => by
    have hne : r ≠ [] := fun e => by rw [e] at hl; cases hl
    have e := List.dropLast_concat_getLast hne
    rw [← e] at hn hs ⊢
    rw [List.nodup_append] at hn
    have ih := allK_mem k r.dropLast (by rw [List.length_dropLast, hl]; rfl) hn.1 fun x hx => hs x (List.mem_append.mpr (.inl hx))
    refine List.mem_flatMap.mpr ⟨_, ih, List.mem_map.mpr ⟨r.getLast hne, List.mem_filter.mpr ⟨hs _ (List.mem_append.mpr (.inr (List.mem_singleton.mpr rfl))), ?_⟩, rfl⟩⟩
    rw [decide_eq_false (fun z => hn.2.2 _ z _ (List.mem_singleton.mpr rfl) rfl)]
    rfl
theorem ord_mem {n : Nat} {r : List Int} (o : IsOrd n r) : r ∈ allK n n := allK_mem n r o.len o.nodup fun x hx => rg_mem.mpr (o.mem hx)
theorem allK_nodup {n : Nat} : ∀ k, (allK n k).Nodup
  | 0 => List.nodup_cons.mpr ⟨List.not_mem_nil, List.nodup_nil⟩
  | k + 1 => by
    have ih := allK_nodup (n := n) k
    show List.Pairwise _ ((allK n k).flatMap (extO n))
    rw [List.pairwise_flatMap]
    refine ⟨fun o _ => ?_, ih.imp fun {a b} hab x hx y hy e => ?_⟩
    · unfold extO
      refine List.Pairwise.map _ (fun a b h e => h ?_) ((rg_nodup n).filter _)
      have := List.append_cancel_left e
      exact (List.cons.inj this).1
    · obtain ⟨t, _, rfl⟩ := List.mem_map.mp hx
      obtain ⟨u, _, rfl⟩ := List.mem_map.mp hy
      exact hab (List.append_inj_left' e rfl)
theorem nodup_lenG : ∀ {l m : List (List Int)}, l.Nodup → (∀ x ∈ l, x ∈ m) → l.length ≤ m.length
  | [], m, _, _ => Nat.zero_le _
  | a :: l, m, hn, hs => by
    obtain ⟨h1, h2⟩ := List.nodup_cons.mp hn
    have ha := hs a List.mem_cons_self
    have ih := nodup_lenG (l := l) (m := m.erase a) h2 fun x hx => by
      have ne : x ≠ a := fun e => h1 (by rw [← e]; exact hx)
      exact (List.mem_erase_of_ne ne).mpr (hs x (List.mem_cons_of_mem _ hx))
    rw [List.length_erase_of_mem ha] at ih
    have : 0 < m.length := List.length_pos_of_mem ha
    rw [List.length_cons]
    omega
theorem nodup_perm {l m : List (List Int)} (hl : l.Nodup) (hm : m.Nodup) (h : ∀ x, x ∈ l ↔ x ∈ m) : l.Perm m := by
  rw [List.perm_iff_count]
  intro a
  have c : ∀ {l : List (List Int)}, l.Nodup → l.count a = if a ∈ l then 1 else 0 := by
    intro l hl
    by_cases ha : a ∈ l
    · rw [if_pos ha]
      have h1 := List.nodup_iff_count.mp hl a
      have h2 := List.count_pos_iff.mpr ha
      omega
    · rw [if_neg ha]
      exact List.count_eq_zero.mpr ha
  rw [c hl, c hm]
  by_cases ha : a ∈ l
  · rw [if_pos ha, if_pos ((h a).mp ha)]
  · rw [if_neg ha, if_neg (fun z => ha ((h a).mpr z))]
theorem seats_inj {n : Nat} {xs a b : List Int} (ox : IsOrd n xs) (oa : IsOrd n a) (ob : IsOrd n b) (e : seatsL a xs = seatsL b xs) : a = b := by
  apply List.ext_getElem?
  intro i
  by_cases h : i < n
  · obtain ⟨x, ex, x0, x1⟩ := ord_ix oa h
    obtain ⟨y, ey, y0, y1⟩ := ord_ix ob h
    have h1 := seats_at (ys := xs) ex
    have h2 := seats_at (ys := xs) ey
    rw [e, h2] at h1
    have h3 := Option.some.inj h1
    rw [ex, ey, pos_inj ox (rg_mem.mpr ⟨x0, x1⟩) (rg_mem.mpr ⟨y0, y1⟩) h3.symm]
  · rw [List.getElem?_eq_none (by rw [oa.len]; omega), List.getElem?_eq_none (by rw [ob.len]; omega)]
/-- all orders, called by their seats in one of them, are all orders -/
theorem seats_all {n : Nat} {xs : List Int} (ox : IsOrd n xs) : ((allK n n).map fun o => seatsL o xs).Perm (allK n n) := by
  have hnd : ((allK n n).map fun o => seatsL o xs).Nodup := by
    show List.Pairwise _ _
    rw [List.pairwise_map]
    exact (allK_nodup n).imp_of_mem fun ha hb h e => h (seats_inj ox (all_ord ha) (all_ord hb) e)
  have hsub : ∀ x ∈ (allK n n).map fun o => seatsL o xs, x ∈ allK n n := fun x h => by
    obtain ⟨o, ho, rfl⟩ := List.mem_map.mp h
    exact ord_mem (seats_ord (all_ord ho) ox)
  refine nodup_perm hnd (allK_nodup n) fun x => ⟨hsub x, fun h => Classical.byContradiction fun hx => ?_⟩
  have hl := nodup_lenG (l := x :: (allK n n).map fun o => seatsL o xs) (m := allK n n) (List.nodup_cons.mpr ⟨hx, hnd⟩) fun y hy => by
    rcases List.mem_cons.mp hy with rfl | hy
    · exact h
    · exact hsub y hy
  rw [List.length_cons, List.length_map] at hl
  omega
end Fo
namespace Fo
open PySem PySem.Spec PyProof.Rows L2
/-! ### orders within, with things called or places put otherwise -/
theorem map_all {n : Nat} {g : List Int → List Int} (hg : ∀ o, IsOrd n o → IsOrd n (g o)) (hi : ∀ a b, IsOrd n a → IsOrd n b → g a = g b → a = b) : ((allK n n).map g).Perm (allK n n) := by
  have hnd : ((allK n n).map g).Nodup := by
    show List.Pairwise _ _
    rw [List.pairwise_map]
    exact (allK_nodup n).imp_of_mem fun ha hb h e => h (hi _ _ (all_ord ha) (all_ord hb) e)
  have hsub : ∀ x ∈ (allK n n).map g, x ∈ allK n n := fun x h => by
    obtain ⟨o, ho, rfl⟩ := List.mem_map.mp h
    exact ord_mem (hg _ (all_ord ho))
  refine nodup_perm hnd (allK_nodup n) fun x => ⟨hsub x, fun h => Classical.byContradiction fun hx => ?_⟩
  have hl := nodup_lenG (l := x :: (allK n n).map g) (m := allK n n) (List.nodup_cons.mpr ⟨hx, hnd⟩) fun y hy => by
    rcases List.mem_cons.mp hy with rfl | hy
    · exact h
    · exact hsub y hy
  rw [List.length_cons, List.length_map] at hl
  omega
theorem near_map {w : Str} {n : Nat} {xs : List Int} {r : Int} {g : List Int → List Int} (hg : ∀ o, IsOrd n o → IsOrd n (g o)) (hi : ∀ a b, IsOrd n a → IsOrd n b → g a = g b → a = b) (hf : ∀ o, IsOrd n o → farW w (g xs) (g o) = farW w xs o) : ((nearL w n xs r).map g).Perm (nearL w n (g xs) r) := by
  have h := (map_all hg hi).filter fun o => decide (farW w (g xs) o ≤ r)
  rw [List.filter_map] at h
  have e : (allK n n).filter ((fun o => decide (farW w (g xs) o ≤ r)) ∘ g) = nearL w n xs r := by
    unfold nearL
    apply List.filter_congr
    intro o ho
    show decide (farW w (g xs) (g o) ≤ r) = _
    rw [hf o (all_ord ho)]
  rw [e] at h
  exact h
theorem back_is {n : Nat} {ns : List Int} (o : IsOrd n ns) : IsBack ns ((rg n).map (pos ns)) := by
  refine ⟨by rw [List.length_map, rg_len, o.len], fun j x hx => ?_⟩
  have hb := o.mem (List.mem_of_getElem? hx)
  unfold rg
  rw [List.map_map, List.getElem?_map, List.getElem?_range (by omega)]
  show some (pos ns ((x.toNat : Nat) : Int)) = _
  rw [show ((x.toNat : Nat) : Int) = x by omega, pos_of o hx]
theorem behind_first {n : Nat} {o : List Int} (oo : IsOrd n o) : behindL (rg n) o = o := by
  unfold behindL
  have e : o.map (fun p => (rg n).getD p.toNat 0) = o.map id := by
    apply List.map_congr_left
    intro p hp
    have hb := oo.mem hp
    unfold rg
    rw [List.getD_eq_getElem?_getD, List.getElem?_map, List.getElem?_range (by omega)]
    show ((p.toNat : Nat) : Int) = p
    omega
  rw [e, List.map_id]
theorem behind_last {n : Nat} {o : List Int} (oo : IsOrd n o) : behindL o (rg n) = o := by
  have h := by_places o
  rw [oo.len] at h
  exact h.symm
theorem rg_ord (n : Nat) : IsOrd n (rg n) := List.Perm.refl _
theorem behind_inj {n : Nat} {z a b : List Int} (oz : IsOrd n z) (oa : IsOrd n a) (ob : IsOrd n b) (e : behindL z a = behindL z b) : a = b := by
  have hb := back_is oz
  have op := back_ord oz hb
  have h := congrArg (behindL ((rg n).map (pos z))) e
  rw [← behind_assoc op oz oa, ← behind_assoc op oz ob, behind_back op (back_back oz hb), behind_first oa, behind_first ob] at h
  exact h
theorem behind_inj2 {n : Nat} {z a b : List Int} (oz : IsOrd n z) (oa : IsOrd n a) (ob : IsOrd n b) (e : behindL a z = behindL b z) : a = b := by
  have hb := back_is oz
  have op := back_ord oz hb
  have h := congrArg (fun l => behindL l ((rg n).map (pos z))) e
  rw [behind_assoc oa oz op, behind_assoc ob oz op, behind_back oz hb, behind_last oa, behind_last ob] at h
  exact h
theorem far_behind {w : Str} {n : Nat} {z xs o : List Int} (hw : IsWay w) (oz : IsOrd n z) (ox : IsOrd n xs) (oo : IsOrd n o) (hn : 1 ≤ n) : farW w (behindL z xs) (behindL z o) = farW w xs o :=
  farW_called (r := g0 z) hw ox oo (behind_ord oz ox) (behind_ord oz oo) hn (by rw [← g0_ord oz]; exact oz) (behind_pos oz ox) (behind_pos oz oo)
theorem g0_behind {n : Nat} {xs z : List Int} (oz : IsOrd n z) {p : Int} (hp : p ∈ rg n) : g0 (behindL xs z) p = g0 xs (g0 z p) := by
  obtain ⟨h0, h1⟩ := rg_mem.mp hp
  obtain ⟨x, ex, _⟩ := ord_ix oz (j := p.toNat) (by omega)
  have ep : p = ((p.toNat : Nat) : Int) := by omega
  have e1 : g0 z p = x := by rw [ep]; exact g0_at ex
  unfold behindL
  rw [e1, ep]
  have : (z.map fun p => xs.getD p.toNat 0)[p.toNat]? = some (xs.getD x.toNat 0) := by rw [List.getElem?_map, ex]; rfl
  rw [g0_at this]
  rfl
theorem spot_behind {n : Nat} {z xs o : List Int} (oz : IsOrd n z) (ox : IsOrd n xs) (oo : IsOrd n o) : farSpot (behindL xs z) (behindL o z) = farSpot xs o := by
  unfold farSpot spotL
  rw [behind_len, oz.len, ox.len, filter_len, filter_len, sum_g0 oz (fun p => ind (!decide (g0 xs p = g0 o p)))]
  congr 1
  apply sumN_congr
  intro p hp
  rw [g0_behind oz hp, g0_behind oz hp]
theorem rev_ord {n : Nat} {o : List Int} (oo : IsOrd n o) : IsOrd n o.reverse := (List.reverse_perm o).trans oo
theorem rev_inj {a b : List Int} (e : a.reverse = b.reverse) : a = b := by rw [← List.reverse_reverse a, e, List.reverse_reverse]
/-! lists of rows as pairs -/
theorem LL_zip {H : Hp} : ∀ {as : List Addr} {rs : List (List Int)}, LL H as rs → (as.zip rs).map (·.1) = as ∧ (as.zip rs).map (·.2) = rs ∧ ∀ p ∈ as.zip rs, H p.1 = some (.lst (p.2.map V.int))
  | [], [], _ => ⟨rfl, rfl, fun p hp => absurd hp List.not_mem_nil⟩
  | [], _ :: _, h => h.elim
  | _ :: _, [], h => h.elim
  | a :: as, r :: rs, h => by
    obtain ⟨h1, h2, h3⟩ := LL_zip h.2
    refine ⟨congrArg (a :: ·) h1, congrArg (r :: ·) h2, fun p hp => ?_⟩
    rcases List.mem_cons.mp hp with rfl | hp
    · exact h.1
    · exact h3 p hp
theorem LL_ps {H : Hp} : ∀ {qs : List (Addr × List Int)}, (∀ p ∈ qs, H p.1 = some (.lst (p.2.map V.int))) → LL H (qs.map (·.1)) (qs.map (·.2))
  | [], _ => trivial
  | q :: qs, h => ⟨h q List.mem_cons_self, LL_ps fun p hp => h p (List.mem_cons_of_mem _ hp)⟩
/-- what is sorted of rows -/
theorem sorted_rows {K : PySem.W.Frag} {H : Hp} {D : Addr} {bs : List Addr} {rs ss : List (List Int)} (hD : H D = some (.lst (bs.map V.ref))) (hL : LL H bs rs) (hp : rs.Perm ss) (hs : ss.Pairwise (· ≤ ·)) :
    ∃ ps : List (Addr × List Int), SqL K H D (ps.map fun p => V.ref p.1) ∧ (∀ p ∈ ps, Dp K H (.ref p.1) (dL p.2)) ∧ ∀ l, H l = none → ∃ cs : List Addr, ((rowsR ps).map fun p => V.ref p.1) = cs.map V.ref ∧ LL (upd H l (.lst (cs.map V.ref))) cs ss ∧ ∀ c ∈ cs, c ∈ bs := by
  obtain ⟨h1, h2, h3⟩ := LL_zip hL
  have e1 : bs.map V.ref = (bs.zip rs).map fun p => V.ref p.1 := by
    have h4 := congrArg (List.map V.ref) h1
    rw [List.map_map] at h4
    exact h4.symm
  refine ⟨bs.zip rs, SqL.of (by rw [hD, e1]), fun p hp2 => dp_list (h3 p hp2), fun l nl => ⟨(rowsR (bs.zip rs)).map (·.1), by rw [List.map_map]; rfl, ?_, fun c hc => ?_⟩⟩
  · have e3 : (rowsR (bs.zip rs)).map (·.2) = ss := by
      refine rows_eq (((rowsR_perm _).map _).trans ?_) (rowsR_sorted _) hs
      rw [h2]
      exact hp
    rw [← e3]
    refine LL_ps fun p hp2 => ?_
    have h4 := h3 p ((rowsR_perm _).mem_iff.mp hp2)
    rw [upd_ne (ne_of_none h4 nl)]
    exact h4
  · obtain ⟨p, hp2, rfl⟩ := List.mem_map.mp hc
    have := (rowsR_perm _).mem_iff.mp hp2
    rw [← h1]
    exact List.mem_map.mpr ⟨p, this, rfl⟩
end Fo
namespace Fo
open PySem PySem.Spec PyProof.Rows L2
def spAllO : Sp := fun vs H Q _ => ∃ n : Nat, vs = [.int n] ∧ 1 ≤ n ∧ n ≤ 6 ∧ ∀ (l : Addr) (as : List Addr) (H' : Hp), H l = none → H' l = some (.lst (as.map V.ref)) → LL H' as (allK n n) → (∀ a ∈ as, H a = none ∧ a ≠ l) → as.Nodup → Same H H' → Q (.ref l) H'
end Fo
namespace Fo
open PySem PySem.Spec PyProof.Rows L2
/-- an inner for over a list that stands still -/
theorem in_list {K : PySem.W.Frag} {a : Addr} {xs : List V} {g1 : TG} {tt1 : TT} {te : TE} {vs1 : List Nat} {σ2 : L2.St} {H4 : Hp} {D : Addr} {Nx : Hp → Prop} (Pw : Nat → Hp → Prop) (h0 : Pw 0 H4) (hl : ∀ i H, i ≤ xs.length → Pw i H → SqL K H a xs)
    (hs : ∀ j x H, xs[j]? = some x → Pw j H → g1 x (wipe σ2 vs1) H fun σ3 H5 => wipe σ3 vs1 = wipe σ2 vs1 ∧ tt1 σ3 H5 fun b H6 =>
      if b = true then te σ3 H6 fun y H7 => ∃ acc, H7 D = some (.lst acc) ∧ acc.length < sizeLine ∧ Pw (j + 1) (upd H7 D (.lst (acc ++ [y]))) else Pw (j + 1) H6) (hd : ∀ H, Pw xs.length H → Nx H) :
    ∃ W1 : Nat → Nat → Hp → Prop, (∃ m, W1 0 m H4) ∧ ∀ j k H, W1 j k H →
      ((Itl K a).stop j H ∧ Nx H) ∨ ((Itl K a).go j H ∧ ∃ Nx1 : Hp → Prop, (∀ H', Nx1 H' → ∃ k', k' < k ∧ W1 (j + 1) k' H') ∧ ∀ x H', (Itl K a).yld j H x H' → g1 x (wipe σ2 vs1) H' fun σ3 H5 => wipe σ3 vs1 = wipe σ2 vs1 ∧ tt1 σ3 H5 fun b H6 =>
        if b = true then te σ3 H6 fun y H7 => ∃ acc, H7 D = some (.lst acc) ∧ acc.length < sizeLine ∧ Nx1 (upd H7 D (.lst (acc ++ [y]))) else Nx1 H6) := by
  refine ⟨fun j m H => m = xs.length - j ∧ j ≤ xs.length ∧ Pw j H, ⟨xs.length, by simp, Nat.zero_le _, h0⟩, ?_⟩
  rintro j m H ⟨rfl, hi, p⟩
  have q := hl j H hi p
  by_cases hlt : j < xs.length
  · refine .inr ⟨⟨xs, xs[j], q, by simp [hlt]⟩, Pw (j + 1), fun H' p' => ⟨xs.length - (j + 1), by omega, rfl, hlt, p'⟩, fun x H' y => ?_⟩
    obtain ⟨e, y⟩ := y
    subst e
    exact hs j x _ (y _ q) p
  · have e : j = xs.length := by omega
    subst e
    exact .inl ⟨⟨xs, q, Nat.le_refl _⟩, hd H p⟩
/-! ### orders with choices -/
def extC (ch : List Int) (o : List Int) : List (List Int) := (ch.filter fun t => !decide (t ∈ o)).map fun t => o ++ [t]
def ordW (chs : List (List Int)) : List (List Int) := chs.foldl (fun b ch => b.flatMap (extC ch)) [[]]
theorem ordW_more {chs : List (List Int)} {i : Nat} {ch : List Int} (h : chs[i]? = some ch) : ordW (chs.take (i + 1)) = (ordW (chs.take i)).flatMap (extC ch) := by
  unfold ordW
  rw [List.take_add_one, h, List.foldl_append]
  rfl
theorem extC_more {ch : List Int} {o : List Int} {j : Nat} {t : Int} (h : ch[j]? = some t) : extC (ch.take (j + 1)) o = extC (ch.take j) o ++ (if t ∈ o then [] else [o ++ [t]]) := by
  unfold extC
  rw [List.take_add_one, h, List.filter_append, List.map_append]
  congr 1
  show List.map _ (List.filter _ [t]) = _
  rw [List.filter_cons]
  by_cases c : t ∈ o
  · rw [decide_eq_true c, if_pos c]
    rfl
  · rw [decide_eq_false c, if_neg c]
    rfl
theorem extC_len (ch o : List Int) : (extC ch o).length ≤ ch.length := by
  unfold extC
  rw [List.length_map]
  exact List.length_filter_le _ _
theorem flatC_len (ch : List Int) : ∀ l : List (List Int), (l.flatMap (extC ch)).length ≤ l.length * ch.length
  | [] => Nat.zero_le _
  | o :: l => by
    rw [List.flatMap_cons, List.length_append, List.length_cons, Nat.add_mul, Nat.one_mul]
    have := flatC_len ch l
    have := extC_len ch o
    omega
theorem ordW_all (n : Nat) : ∀ i, ordW (List.replicate i (rg n)) = allK n i
  | 0 => rfl
  | i + 1 => by
    have h := ordW_more (chs := List.replicate (i + 1) (rg n)) (i := i) (ch := rg n) (by rw [List.getElem?_replicate, if_pos (by omega)])
    rw [List.take_of_length_le (by rw [List.length_replicate]; omega), List.take_replicate, Nat.min_eq_left (by omega), ordW_all n i] at h
    exact h
theorem ordW_rows : ∀ (i : Nat) (chs : List (List Int)), ∀ r ∈ ordW (chs.take i), r.length ≤ i
  | 0, chs, r, h => by
    rw [List.take_zero] at h
    rw [List.mem_singleton.mp h]
    exact Nat.le_refl _
  | i + 1, chs, r, h => by
    cases e : chs[i]? with
    | none =>
      have : chs.take (i + 1) = chs.take i := by rw [List.take_add_one, e]; simp
      rw [this] at h
      exact Nat.le_succ_of_le (ordW_rows i chs r h)
    | some ch =>
      rw [ordW_more e] at h
      obtain ⟨o, ho, hr⟩ := List.mem_flatMap.mp h
      obtain ⟨t, _, rfl⟩ := List.mem_map.mp hr
      have := ordW_rows i chs o ho
      rw [List.length_append]
      show _ + 1 ≤ _
      omega
def spOrdW : Sp := fun vs H Q _ => ∃ (c : Addr) (cs : List Addr) (chs : List (List Int)), vs = [.ref c] ∧ H c = some (.lst (cs.map V.ref)) ∧ LL H cs chs ∧ chs.length ≤ 12 ∧ (∀ ch ∈ chs, ch.length ≤ 12) ∧ (∀ i, i ≤ chs.length → (ordW (chs.take i)).length ≤ 100000) ∧
  ∀ (l : Addr) (as : List Addr) (H' : Hp), H l = none → H' l = some (.lst (as.map V.ref)) → LL H' as (ordW chs) → (∀ a ∈ as, H a = none ∧ a ≠ l) → as.Nodup → Same H H' → Q (.ref l) H'
section
variable {P : Program} {w : World} {K : PySem.W.Frag} {mg : Str → Option Value} {base : Heap}
theorem scOrdW : FnScope ["choices", "begun", "things", "start", "thing"] ["choices"] (defScope s_orders_with) := ⟨rfl, rfl, rfl, by decide +kernel, rfl, by decide +kernel, by decide +kernel⟩
set_option maxHeartbeats 4000000 in
theorem ok_ordW {f : Addr} {fd : FuncData} {k : Nat} (T : Df K mg "orders_with" s_orders_with ["choices"] f fd) (B : Bi mg) : FnOk P w K mg base CX0 (k + 1) f fd ["choices"] spOrdW := by
  refine T.F.ok scOrdW (fun vs H Q E h => ?_) (fun cdv A outer s H vs Q E hr h => ?_)
  · obtain ⟨c, cs, chs, rfl, _⟩ := h
    rfl
  · obtain ⟨c0, ks, chs, rfl, hc, hLc, hcl, hch, hsz, q⟩ := h
    have hkl := hLc.len
    refine ⟨_, 
      (pss_cons (ps_set (i := 1) scOrdW.nd rfl (.inl rfl) (pe_lst (pa_cons (pe_lst pa_nil) pa_nil)))
      (pss_cons (ps_for PassesOwn.never rfl (pi_list (pv 0)) (pg_name (i := 2) scOrdW.nd rfl (.inr rfl))
        (pss_one (ps_setLc2 (i := 1) (own := [("start", 3), ("thing", 4)]) (vs1 := [4]) (wi1 := iList K (tVar 2)) (g := (gName 3)) (tt := tYes) (g1 := (gName 4)) (tt1 := (tTest (tOp (rIn K true) (tVar 4) (tVar 3)))) (te := (tOp rCat (tVar 3) (tLst (tCons (tVar 4) tNil)))) (by rfl) scOrdW.nd rfl rfl (sw_true rfl rfl rfl (by decide +kernel)) (pi_list (pv 1)) (blkOk_by (N := ["choices", "begun", "things", "start", "thing"]) (sc := defScope s_orders_with) (by decide +kernel)) (by decide) (fun _ _ _ _ _ => (pg_name (i := 3) scOrdW.nd rfl (.inl rfl))) (fun _ _ _ _ _ => pts_nil) (fun _ _ _ _ _ => (pi_list (pv 2))) (fun _ _ _ _ _ => (pg_name (i := 4) scOrdW.nd rfl (.inl rfl))) (fun _ _ _ _ _ => (pts_one (pt_cmpR op_notIn_seq (pv 4) (pv 3) (by rfl)))) (fun _ _ _ _ _ => (pe_op op_cat (pv 3) (pe_lst (pa_cons (pv 4) pa_nil)))))))
      (pss_one (ps_ret (pv 1))))), ?_⟩
    refine ⟨Nat.zero_le _, fun e0 ne0 => ⟨line_small (by show 1 ≤ 16777216; decide), fun bg nbg => ?_⟩⟩
    have s0 := same_new (o := .lst []) ne0
    have s1 := same_new (o := .lst [.ref e0]) nbg
    have nHbg : H bg = none := s0.free nbg
    have neb : e0 ≠ bg := ne_of_none upd_same nbg
    refine ⟨_, rfl, c0, rfl, ⟨_, SqL.of (s1 _ _ (s0 _ _ hc))⟩, ?_⟩
    refine for_list (xs := ks.map V.ref) (fun i σ H3 => ∃ (bg : Addr) (y2 y3 y4 : Option V) (as : List Addr), σ = [some (.ref c0), some (.ref bg), y2, y3, y4] ∧ H bg = none ∧ H3 bg = some (.lst (as.map V.ref)) ∧ LL H3 as (ordW (chs.take i)) ∧ (∀ c ∈ as, H c = none ∧ c ≠ bg) ∧ as.Nodup ∧ Same H H3)
      ⟨bg, _, _, _, [e0], rfl, nHbg, upd_same, ⟨s1 _ _ upd_same, trivial⟩, fun c hc => by rw [List.mem_singleton.mp hc]; exact ⟨ne0, neb⟩, List.nodup_cons.mpr ⟨List.not_mem_nil, List.nodup_nil⟩, s0.trans s1⟩ (fun i σ H3 _ hP => by obtain ⟨_, _, _, _, _, _, _, _, _, _, _, sm⟩ := hP; exact SqL.of (sm _ _ hc)) (fun i x σ H3 hx hP => ?_) (fun σ H3 hP => ?_)
    · obtain ⟨bg, y2, y3, y4, as, rfl, nbg, hb3, hLL, hfr, hnd, sm⟩ := hP
      obtain ⟨kc, ek, rfl⟩ := ref_at_inv hx
      obtain ⟨ch, ech, hkc⟩ := hLc.get ek
      have hi := (List.getElem?_eq_some_iff.mp ech).1
      have hchl := hch ch (List.mem_of_getElem? ech)
      have hlen := hLL.len
      have hal := hsz i (by omega)
      have hkc3 := sm _ _ hkc
      refine ⟨_, rfl, bg, rfl, ⟨_, SqL.of hb3⟩, fun D nD => ?_⟩
      have nHD : H D = none := sm.free nD
      refine lc2_list (K := K) (a := bg) (xs := as.map V.ref) (fun m H4 => ∃ cs : List Addr, H4 D = some (.lst (cs.map V.ref)) ∧ LL H4 cs (((ordW (chs.take i)).take m).flatMap (extC ch)) ∧ (∀ c ∈ cs, H3 c = none ∧ c ≠ D) ∧ cs.Nodup ∧ Same H3 H4)
        ⟨[], upd_same, trivial, fun c hc => absurd hc List.not_mem_nil, List.nodup_nil, same_new nD⟩ (fun m H4 _ hP => by obtain ⟨_, _, _, _, _, s4⟩ := hP; exact SqL.of (s4 _ _ hb3)) (fun m x H4 hx hP => ?_) (fun H4 hP => ?_)
      · obtain ⟨cs, hD4, hLc4, hfc, hndc, s4⟩ := hP
        obtain ⟨r, er, rfl⟩ := ref_at_inv hx
        obtain ⟨row, erow, hrow⟩ := hLL.get er
        have hrl := ordW_rows i chs row (List.mem_of_getElem? erow)
        refine ⟨rfl, ?_⟩
        refine ⟨_, rfl, kc, rfl, ⟨_, SqL.of (s4 _ _ hkc3)⟩, ?_⟩
        refine in_list (K := K) (a := kc) (xs := ch.map V.int) (fun j H5 => ∃ cs : List Addr, H5 D = some (.lst (cs.map V.ref)) ∧ LL H5 cs (((ordW (chs.take i)).take m).flatMap (extC ch) ++ extC (ch.take j) row) ∧ (∀ c ∈ cs, H3 c = none ∧ c ≠ D) ∧ cs.Nodup ∧ Same H3 H5)
          ⟨cs, hD4, by rw [show extC (ch.take 0) row = [] from rfl, List.append_nil]; exact hLc4, hfc, hndc, s4⟩ (fun j H5 _ hP => by obtain ⟨_, _, _, _, _, s5⟩ := hP; exact SqL.of (s5 _ _ hkc3)) (fun j x H5 hx hP => ?_) (fun H5 hP => ?_)
        · obtain ⟨cs5, hD5, hL5, hf5, hnd5, s5⟩ := hP
          obtain ⟨t, et, rfl⟩ := int_at_inv hx
          have hrow5 := s5 _ _ hrow
          refine ⟨rfl, _, rfl, _, rfl, r, _, rfl, .inl (SqL.of hrow5), rfl, flat_ints row, _, rfl, ?_⟩
          show if (!inV (.int t) (row.map V.int)) = true then _ else _
          rw [inV_int]
          have em := extC_more (o := row) et
          by_cases c : t ∈ row
          · rw [decide_eq_true c]
            refine iteF ⟨cs5, hD5, ?_, hf5, hnd5, s5⟩
            rw [em, if_pos c, List.append_nil]
            exact hL5
          · rw [decide_eq_false c]
            refine iteT ⟨_, rfl, _, rfl, line_small (by show 1 ≤ 16777216; decide), fun p np => ?_⟩
            have sp1 := same_new (o := .lst [.int t]) np
            refine ⟨r, p, _, _, rfl, rfl, sp1 _ _ hrow5, upd_same, line_small (by rw [List.length_map]; show _ + 1 ≤ _; omega), fun z nz => ?_⟩
            have sp2 := same_new (o := .lst (row.map V.int ++ [.int t])) nz
            have hD6 := sp2 _ _ (sp1 _ _ hD5)
            have nzD : z ≠ D := (ne_of_none (sp1 _ _ hD5) nz).symm
            have hl5 := hL5.len
            have hcount : cs5.length < 16777216 := by
              have h1 : (((ordW (chs.take i)).take m).flatMap (extC ch) ++ extC (ch.take j) row).length ≤ ((ordW (chs.take i)).take m).length * ch.length + ch.length := by
                rw [List.length_append]
                have a1 := flatC_len ch ((ordW (chs.take i)).take m)
                have a2 := extC_len (ch.take j) row
                rw [List.length_take] at a2
                omega
              have h2 : ((ordW (chs.take i)).take m).length * ch.length ≤ 100000 * 12 := Nat.mul_le_mul (by rw [List.length_take]; omega) hchl
              omega
            refine ⟨_, hD6, line_lt (by rw [List.length_map]; exact hcount), cs5 ++ [z], by rw [upd_same, List.map_append]; rfl, ?_, fun c hc => ?_, ?_, fun u ob e => ?_⟩
            · rw [em, if_neg c, ← List.append_assoc]
              refine LL.snoc (((hL5.same sp1).same sp2).keep fun u hu ob e => by rw [upd_ne (hf5 u hu).2]; exact e) ?_
              rw [upd_ne nzD, upd_same, List.map_append]
              rfl
            · rcases List.mem_append.mp hc with hc | hc
              · exact hf5 c hc
              · rw [List.mem_singleton.mp hc]
                exact ⟨(s5.trans sp1).free nz, nzD⟩
            · rw [List.nodup_append]
              refine ⟨hnd5, List.nodup_cons.mpr ⟨List.not_mem_nil, List.nodup_nil⟩, fun x hx y hy e => ?_⟩
              rw [List.mem_singleton.mp hy] at e
              obtain ⟨ob, eo⟩ := hL5.tracked hx
              rw [e] at eo
              have := sp1 _ _ eo
              rw [nz] at this
              cases this
            · rw [upd_ne (ne_of_none e nD)]
              exact sp2 _ _ (sp1 _ _ (s5 _ _ e))
        · obtain ⟨cs5, hD5, hL5, hf5, hnd5, s5⟩ := hP
          refine ⟨cs5, hD5, ?_, hf5, hnd5, s5⟩
          rw [List.length_map, List.take_length] at hL5
          rw [List.take_add_one, erow, List.flatMap_append]
          show LL H5 cs5 (_ ++ (extC ch row ++ []))
          rw [List.append_nil]
          exact hL5
      · obtain ⟨cs, hD4, hLc4, hfc, hndc, s4⟩ := hP
        rw [List.length_map, hlen, List.take_length] at hLc4
        refine ⟨D, _, _, _, cs, rfl, nHD, hD4, ?_, fun c hc => ⟨sm.free (hfc c hc).1, (hfc c hc).2⟩, hndc, sm.trans s4⟩
        rw [ordW_more ech]
        exact hLc4
    · obtain ⟨bg, y2, y3, y4, as, rfl, nbg, hb3, hLL, hfr, hnd, sm⟩ := hP
      rw [List.length_map, hkl, List.take_length] at hLL
      exact ⟨_, rfl, q bg as H3 nbg hb3 hLL hfr hnd sm⟩
theorem LL_rep {H : Hp} {a : Addr} {r : List Int} (h : H a = some (.lst (r.map V.int))) : ∀ m, LL H (List.replicate m a) (List.replicate m r)
  | 0 => trivial
  | m + 1 => ⟨h, LL_rep h m⟩
theorem rep_flat (v : V) : ∀ m : Nat, (List.replicate m [v]).flatten = List.replicate m v
  | 0 => rfl
  | m + 1 => by rw [List.replicate_succ, List.flatten_cons, rep_flat v m]; rfl
theorem scAllO : FnScope ["n"] ["n"] (defScope s_all_orders) := ⟨rfl, rfl, rfl, by decide +kernel, rfl, by decide +kernel, by decide +kernel⟩
theorem ok_all_orders {f f1 : Addr} {fd d1 : FuncData} {k : Nat} (T : Df K mg "all_orders" s_all_orders ["n"] f fd) (T_orders_with : Df K mg "orders_with" s_orders_with ["choices"] f1 d1) (B : Bi mg) : FnOk P w K mg base CX0 (k + 2) f fd ["n"] spAllO := by
  have G_orders_with : FnOk P w K mg base CX0 (k + 1) f1 d1 ["choices"] spOrdW := ok_ordW T_orders_with B
  refine T.F.ok scAllO (fun vs H Q E h => ?_) (fun cdv A outer s H vs Q E hr h => ?_)
  · obtain ⟨n, rfl, _⟩ := h
    rfl
  · obtain ⟨n, rfl, hn1, hn2, q⟩ := h
    refine ⟨_, 
      (pss_one (ps_ret (pe_call G_orders_with hr (by rfl) T_orders_with.g T_orders_with.F.kp T_orders_with.b .nil pass0 (pa_cons (pe_op op_rep (pe_lst (pa_cons (pe_listRg rfl (by rfl) B.list (prg_1 (by rfl) B.range (pv 0))) pa_nil)) (pv 0)) pa_nil)))), ?_⟩
    refine ⟨_, rfl, n, rfl, RgOk.of_le (by omega) (by omega) (by omega) (by omega), fun l nl => ?_⟩
    have t1 := same_new (o := .lst (rgV 0 (n : Int))) nl
    have hl : (upd H l (.lst (rgV 0 (n : Int)))) l = some (.lst ((rg n).map V.int)) := by rw [upd_same, rg_V]
    refine ⟨line_small (by show 1 ≤ 16777216; decide), fun l1 nl1 => ?_⟩
    have t2 := same_new (o := .lst [.ref l]) nl1
    refine ⟨_, rfl, l1, _, _, rfl, rfl, upd_same, by omega, by omega, line_small (by rw [Int.toNat_natCast]; show 1 * n ≤ _; omega), fun l2 nl2 => ?_⟩
    have t3 := same_new (o := .lst (List.replicate ((n : Nat) : Int).toNat [V.ref l]).flatten) nl2
    have tt := (t1.trans t2).trans t3
    refine ⟨l2, List.replicate n l, List.replicate n (rg n), rfl, by rw [upd_same, Int.toNat_natCast, rep_flat, List.map_replicate], LL_rep (t3 _ _ (t2 _ _ hl)) n, by rw [List.length_replicate]; omega, fun ch hc => ?_, fun i hi => ?_, fun r as H' nr hr hLL hfr hnd s' => ?_⟩
    · rw [(List.mem_replicate.mp hc).2, rg_len]
      omega
    · rw [List.length_replicate] at hi
      rw [List.take_replicate, Nat.min_eq_left hi, ordW_all]
      have h1 := allK_len hn2 i hi
      have h2 := pow6 (show i ≤ 6 by omega)
      omega
    · rw [ordW_all] at hLL
      exact q r as H' (tt.free nr) hr hLL (fun c hc => ⟨tt.free (hfr c hc).1, (hfr c hc).2⟩) hnd (tt.trans s')
end
end Fo
namespace Fo
open PySem PySem.Spec PyProof.Rows L2
/-- where a thing stands in an order -/
theorem idx_read {K : PySem.W.Frag} {H : Hp} {a : Addr} {n : Nat} {ys : List Int} {x : Int} {Q : VK} (o : IsOrd n ys) (h : H a = some (.lst (ys.map V.int))) (x0 : 0 ≤ x) (x1 : x < n) (q : Q (.int (pos ys x)) H) : rIndex K (.ref a) [.int x] H Q := by
  obtain ⟨j, hj, ej, pj⟩ := pos_at o x0 x1
  refine ⟨a, _, _, j, _, rfl, rfl, SqL.of h, rfl, flat_ints ys, int_at ej, ?_, fun u z' hu hz' => ?_, ?_⟩
  · show (x == x) = true
    exact beq_self_eq_true _
  · obtain ⟨y, ey, rfl⟩ := int_at_inv hz'
    show (y == x) = false
    rw [beq_eq_false_iff_ne]
    intro e
    subst e
    exact absurd (nd_ix o.nodup ey ej) (by omega)
  · rw [← pj]
    exact q
theorem idx_facts {n : Nat} {ys : List Int} {x : Int} (o : IsOrd n ys) (x0 : 0 ≤ x) (x1 : x < n) : ∃ j : Nat, (ys.map V.int)[j]? = some (V.int x) ∧ eqV (V.int x) (V.int x) = true ∧ (∀ (m : Nat) (z' : V), m < j → (ys.map V.int)[m]? = some z' → eqV z' (V.int x) = false) ∧ ((j : Nat) : Int) = pos ys x := by
  obtain ⟨j, hj, ej, pj⟩ := pos_at o x0 x1
  refine ⟨j, int_at ej, ?_, fun u z' hu hz' => ?_, pj.symm⟩
  · show (x == x) = true
    exact beq_self_eq_true _
  · obtain ⟨y, ey, rfl⟩ := int_at_inv hz'
    show (y == x) = false
    rw [beq_eq_false_iff_ne]
    intro e
    subst e
    exact absurd (nd_ix o.nodup ey ej) (by omega)
end Fo
namespace Fo
open PySem PySem.Spec PyProof.Rows L2
/-! ### pairs of things -/
theorem pair_sum (F : Int → Int → Nat) (h0 : ∀ t, F t t = 0) : ∀ n : Nat, (sumN (rg n) fun t => sumN (rg n) fun u => F t u) = sumN (rg n) fun t => sumN (rg t.toNat) fun u => F t u + F u t
  | 0 => rfl
  | n + 1 => by
    have ih := pair_sum F h0 n
    rw [rg_succ, sumN_append, sumN_append, ← ih]
    rw [sumN_cons, sumN_nil, sumN_cons, sumN_nil, Int.toNat_natCast]
    have e1 : (sumN (rg n) fun t => sumN (rg n ++ [(n : Int)]) fun u => F t u) = (sumN (rg n) fun t => sumN (rg n) fun u => F t u) + sumN (rg n) fun t => F t (n : Int) := by
      rw [← sumN_add]
      apply sumN_congr
      intro t _
      rw [sumN_append, sumN_cons, sumN_nil]
      omega
    have e2 : (sumN (rg n ++ [(n : Int)]) fun u => F (n : Int) u) = sumN (rg n) (fun u => F (n : Int) u) := by
      rw [sumN_append, sumN_cons, sumN_nil, h0]
      omega
    have e3 : (sumN (rg n) fun u => F (n : Int) u + F u (n : Int)) = sumN (rg n) (fun u => F (n : Int) u) + sumN (rg n) (fun u => F u (n : Int)) := sumN_add _ _ _
    have e4 := e1
    have e5 := e2
    have e6 := e3
    omega
def diffT (xs ys : List Int) (t u : Int) : Bool := !decide (decide (pos xs t < pos xs u) = decide (pos ys t < pos ys u))
theorem swT_pairs {n : Nat} {xs ys : List Int} (ox : IsOrd n xs) (oy : IsOrd n ys) : swT n xs ys = sumN (rg n) fun t => sumN (rg t.toNat) fun u => ind (diffT xs ys t u) := by
  unfold swT
  rw [pair_sum (fun t u => dT xs ys t u) (fun t => by
    unfold dT
    rw [decide_eq_false (show ¬ pos xs t < pos xs t by omega)]
    rfl)]
  apply sumN_congr
  intro t ht
  apply sumN_congr
  intro u hu
  have hub := rg_mem.mp hu
  have htb := rg_mem.mp ht
  have hur : u ∈ rg n := rg_mem.mpr ⟨hub.1, by omega⟩
  have n1 : pos xs t ≠ pos xs u := fun e => by
    have := pos_inj ox ht hur e
    omega
  have n2 : pos ys t ≠ pos ys u := fun e => by
    have := pos_inj oy ht hur e
    omega
  unfold dT diffT
  by_cases c : pos xs t < pos xs u
  · by_cases d : pos ys t < pos ys u
    · rw [decide_eq_true c, decide_eq_true d, decide_eq_false (show ¬ pos ys u < pos ys t by omega), decide_eq_false (show ¬ pos xs u < pos xs t by omega)]
      rfl
    · rw [decide_eq_true c, decide_eq_false d, decide_eq_true (show pos ys u < pos ys t by omega), decide_eq_false (show ¬ pos xs u < pos xs t by omega)]
      rfl
  · by_cases d : pos ys t < pos ys u
    · rw [decide_eq_false c, decide_eq_true d, decide_eq_false (show ¬ pos ys u < pos ys t by omega), decide_eq_true (show pos xs u < pos xs t by omega)]
      rfl
    · rw [decide_eq_false c, decide_eq_false d, decide_eq_true (show pos ys u < pos ys t by omega), decide_eq_true (show pos xs u < pos xs t by omega)]
      rfl
theorem sum_ind (l : List Int) (p : Int → Bool) : (l.map fun x => if p x then (1 : Int) else 0).sum = (((l.filter p).length : Nat) : Int) := by
  induction l with
  | nil => rfl
  | cons a l ih =>
    rw [List.map_cons, List.sum_cons, ih, List.filter_cons]
    cases p a
    · simp
    · simp
      omega
theorem farW_nonneg (w : Str) (xs ys : List Int) : 0 ≤ farW w xs ys := by
  unfold farW
  split
  · unfold farSwap; omega
  · split
    · unfold farSpot; omega
    · unfold farShift
      have : ∀ l : List Int, 0 ≤ maxL l := fun l => by
        induction l with
        | nil => exact Int.le_refl _
        | cons a l ih => show 0 ≤ max a (maxL l); omega
      exact this _
theorem rg_in_all {n : Nat} : ∀ k, k ≤ n → rg k ∈ allK n k
  | 0, _ => List.mem_cons_self
  | k + 1, h => by
    refine List.mem_flatMap.mpr ⟨rg k, rg_in_all k (by omega), List.mem_map.mpr ⟨(k : Int), List.mem_filter.mpr ⟨rg_mem.mpr ⟨by omega, by omega⟩, ?_⟩, (rg_succ k).symm⟩⟩
    rw [decide_eq_false (fun z => by have := rg_mem.mp z; omega)]
    rfl
theorem cutV_last (xs : List V) (v : V) : cutV (xs ++ [v]) none (some (-1)) = xs := by
  unfold cutV
  have e : HT.sIx (xs ++ [v]).length (xs ++ [v]).length (some (-1)) = xs.length := by
    unfold HT.sIx
    simp only [List.length_append, List.length_singleton]
    rw [if_pos (by decide)]
    omega
  rw [e, HT.sIx_none, List.drop_zero, Nat.sub_zero, List.take_left]
/-- a comprehension over zip of two lists that stand still -/
theorem lc_zipL {K : PySem.W.Frag} {a b : Addr} {xs ys : List V} {g : TG} {tt : TT} {te : TE} {vs : List Nat} {σ : L2.St} {H1 : Hp} {D : Addr} {Qd : Hp → Prop} (hxy : xs.length = ys.length) (Pv : Nat → Hp → Prop) (h0 : Pv 0 (upd H1 D (.lst []))) (hl : ∀ i H, i ≤ xs.length → Pv i H → SqL K H a xs ∧ SqL K H b ys)
    (hs : ∀ (i : Nat) (x y : V) (T : Addr) (H : Hp), xs[i]? = some x → ys[i]? = some y → Pv i H → H T = none → g (.ref T) (wipe σ vs) (upd H T (.tup [x, y])) fun σ2 H2 => wipe σ2 vs = wipe σ vs ∧ tt σ2 H2 fun b H3 =>
      if b = true then te σ2 H3 fun y H4 => ∃ acc, H4 D = some (.lst acc) ∧ acc.length < sizeLine ∧ Pv (i + 1) (upd H4 D (.lst (acc ++ [y]))) else Pv (i + 1) H3) (hd : ∀ H, Pv xs.length H → Qd H) :
    ∃ W : Nat → Nat → Hp → Prop, (∃ m, W 0 m (upd H1 D (.lst []))) ∧ ∀ i m H, W i m H →
      ((Itz K a b).stop i H ∧ Qd H) ∨ ((Itz K a b).go i H ∧ ∃ Nx : Hp → Prop, (∀ H', Nx H' → ∃ m', m' < m ∧ W (i + 1) m' H') ∧ ∀ x H', (Itz K a b).yld i H x H' → g x (wipe σ vs) H' fun σ2 H2 => wipe σ2 vs = wipe σ vs ∧ tt σ2 H2 fun b H3 =>
        if b = true then te σ2 H3 fun y H4 => ∃ acc, H4 D = some (.lst acc) ∧ acc.length < sizeLine ∧ Nx (upd H4 D (.lst (acc ++ [y]))) else Nx H3) := by
  refine ⟨fun i m H => m = xs.length - i ∧ i ≤ xs.length ∧ Pv i H, ⟨xs.length, by simp, Nat.zero_le _, h0⟩, ?_⟩
  rintro i m H ⟨rfl, hi, p⟩
  obtain ⟨qx, qy⟩ := hl i H hi p
  by_cases hlt : i < xs.length
  · have hlt2 : i < ys.length := by omega
    refine .inr ⟨⟨xs, ys, xs[i], ys[i], qx, qy, List.getElem?_eq_getElem hlt, List.getElem?_eq_getElem hlt2⟩, Pv (i + 1), fun H' p' => ⟨xs.length - (i + 1), by omega, rfl, hlt, p'⟩, fun x H' y => ?_⟩
    obtain ⟨T, x', y', rfl, hT, rfl, f1, f2⟩ := y
    exact hs i x' y' T H (f1 xs qx) (f2 ys qy) p hT
  · have e : i = xs.length := by omega
    subst e
    exact .inl ⟨⟨xs, ys, qx, qy, Or.inl (Nat.le_refl _)⟩, hd H p⟩
end Fo
namespace Fo
open PySem PySem.Spec PyProof.Rows L2
section
variable {P : Program} {w : World} {K : PySem.W.Frag} {mg : Str → Option Value} {base : Heap}
theorem scLOrds : FnScope ["n", "found", "turn", "longer", "order", "thing"] ["n"] (defScope s_law_orders) := ⟨rfl, rfl, rfl, by decide +kernel, rfl, by decide +kernel, by decide +kernel⟩
set_option maxHeartbeats 4000000 in
theorem ok_law_orders {f : Addr} {fd : FuncData} {k : Nat} (T : Df K mg "_law_orders" s_law_orders ["n"] f fd) (B : Bi mg) : FnOk P w K mg base CX0 (k + 1) f fd ["n"] spAllO := by
  refine T.F.ok scLOrds (fun vs H Q E h => ?_) (fun cdv A outer s H vs Q E hr h => ?_)
  · obtain ⟨n, rfl, _⟩ := h
    rfl
  · obtain ⟨n, rfl, hn1, hn2, q⟩ := h
    refine ⟨_, 
      (pss_cons (ps_set (i := 1) scLOrds.nd rfl (.inl rfl) (pe_lst (pa_cons (pe_lst pa_nil) pa_nil)))
      (pss_cons (ps_for PassesOwn.never rfl (pi_range1 (by rfl) B.range (pa_cons (pv 0) pa_nil)) (pg_name (i := 2) scLOrds.nd rfl (.inl rfl))
        (pss_cons (ps_set (i := 3) scLOrds.nd rfl (.inl rfl) (pe_lst pa_nil))
        (pss_cons (ps_for PassesOwn.never rfl (pi_list (pv 1)) (pg_name (i := 4) scLOrds.nd rfl (.inr rfl))
          (pss_one (ps_expr (pe_bm PySem.F.plainAttrs_list PySem.F.slot_list_extend PySem.F.type_list_extend mt_extend (pv 3) (pa_cons (pe_lc (own := [("thing", 5)]) (g := (gName 5)) (tt := (tTest (tOp (rIn K true) (tVar 5) (tVar 4)))) (te := (tOp rCat (tVar 4) (tLst (tCons (tVar 5) tNil)))) rfl scLOrds.nd (pi_range1 (by rfl) B.range (pa_cons (pv 0) pa_nil)) (blkOk_by (N := ["n", "found", "turn", "longer", "order", "thing"]) (sc := defScope s_law_orders) (by decide +kernel)) (fun _ _ _ _ _ => (pg_name (i := 5) scLOrds.nd rfl (.inl rfl))) (fun _ _ _ _ _ => (pts_one (pt_cmpR op_notIn_seq (pv 5) (pv 4) (by rfl)))) (fun _ _ _ _ _ => (pe_op op_cat (pv 4) (pe_lst (pa_cons (pv 5) pa_nil))))) pa_nil)))))
        (pss_one (ps_set (i := 1) scLOrds.nd rfl (.inl rfl) (pv 3))))))
      (pss_one (ps_ret (pv 1))))), ?_⟩
    refine ⟨Nat.zero_le _, fun e0 ne0 => ⟨line_small (by show 1 ≤ 16777216; decide), fun bg nbg => ?_⟩⟩
    have s0 := same_new (o := .lst []) ne0
    have s1 := same_new (o := .lst [.ref e0]) nbg
    have nHbg : H bg = none := s0.free nbg
    have neb : e0 ≠ bg := ne_of_none upd_same nbg
    refine ⟨_, rfl, n, rfl, by omega, by omega, ?_⟩
    rw [Int.toNat_natCast]
    refine for_range (n := n) (fun i σ H3 => ∃ (bg : Addr) (y2 y3 y4 y5 : Option V) (as : List Addr), σ = [some (.int n), some (.ref bg), y2, y3, y4, y5] ∧ H bg = none ∧ H3 bg = some (.lst (as.map V.ref)) ∧ LL H3 as (allK n i) ∧ (∀ c ∈ as, H c = none ∧ c ≠ bg) ∧ as.Nodup ∧ Same H H3)
      ⟨bg, _, _, _, _, [e0], rfl, nHbg, upd_same, ⟨s1 _ _ upd_same, trivial⟩, fun c hc => by rw [List.mem_singleton.mp hc]; exact ⟨ne0, neb⟩, List.nodup_cons.mpr ⟨List.not_mem_nil, List.nodup_nil⟩, s0.trans s1⟩ (fun i σ H3 hi hP => ?_) (fun σ H3 hP => ?_)
    · obtain ⟨bg, y2, y3, y4, y5, as, rfl, nbg, hb3, hLL, hfr, hnd, sm⟩ := hP
      have hlen := hLL.len
      have hal := allK_len hn2 i (by omega)
      have hp6 := pow6 (show i ≤ 6 by omega)
      refine ⟨Nat.zero_le _, fun lg nlg => ?_⟩
      have nHlg : H lg = none := sm.free nlg
      have nbl : bg ≠ lg := ne_of_none hb3 nlg
      have slg := same_new (o := .lst []) nlg
      refine ⟨_, rfl, bg, rfl, ⟨_, SqL.of (slg _ _ hb3)⟩, ?_⟩
      refine for_list (xs := as.map V.ref) (fun m σ H4 => ∃ (y4 y5 : Option V) (cs : List Addr), σ = [some (.int n), some (.ref bg), some (.int (0 + (i : Int))), some (.ref lg), y4, y5] ∧ H4 lg = some (.lst (cs.map V.ref)) ∧ LL H4 cs (((allK n i).take m).flatMap (extO n)) ∧ (∀ c ∈ cs, H3 c = none ∧ c ≠ lg) ∧ cs.Nodup ∧ Same H3 H4)
        ⟨_, _, [], rfl, upd_same, trivial, fun c hc => absurd hc List.not_mem_nil, List.nodup_nil, slg⟩ (fun m σ H4 _ hP => by obtain ⟨_, _, _, _, _, _, _, _, s4⟩ := hP; exact SqL.of (s4 _ _ hb3)) (fun m x σ H4 hx hP => ?_) (fun σ H4 hP => ?_)
      · obtain ⟨z4, z5, cs, rfl, hlg4, hLc, hfc, hndc, s4⟩ := hP
        obtain ⟨r, er, rfl⟩ := ref_at_inv hx
        obtain ⟨row, erow, hrow⟩ := hLL.get er
        have hrl := (allK_row i row (List.mem_of_getElem? erow)).1
        have hrow4 := s4 _ _ hrow
        refine ⟨_, rfl, .inl ⟨rfl, _, SqL.of hlg4⟩, _, rfl, n, rfl, by omega, by omega, fun D nD => ?_⟩
        rw [Int.toNat_natCast]
        have nlD : lg ≠ D := ne_of_none hlg4 nD
        refine lc_range (lo := 0) (n := n) (fun j H5 => ∃ ds : List Addr, H5 D = some (.lst (ds.map V.ref)) ∧ LL H5 ds (((rg j).filter fun t => !decide (t ∈ row)).map fun t => row ++ [t]) ∧ (∀ c ∈ ds, H4 c = none ∧ c ≠ D) ∧ ds.Nodup ∧ Same H4 H5)
          ⟨[], upd_same, trivial, fun c hc => absurd hc List.not_mem_nil, List.nodup_nil, same_new nD⟩ (fun j H5 hj hP => ?_) (fun H5 hP => ?_)
        · obtain ⟨ds, hD5, hL5, hf5, hnd5, s5⟩ := hP
          have hrow5 := s5 _ _ hrow4
          refine ⟨rfl, _, rfl, _, rfl, r, _, rfl, .inl (SqL.of hrow5), rfl, flat_ints row, _, rfl, ?_⟩
          show if (!inV (.int (0 + (j : Int))) (row.map V.int)) = true then _ else _
          rw [inV_int, Int.zero_add]
          have em := ext_more (n := n) (o := row) j
          by_cases c : (j : Int) ∈ row
          · rw [decide_eq_true c]
            refine iteF ⟨ds, hD5, ?_, hf5, hnd5, s5⟩
            rw [em, if_pos c, List.append_nil]
            exact hL5
          · rw [decide_eq_false c]
            refine iteT ⟨_, rfl, _, rfl, line_small (by show 1 ≤ 16777216; decide), fun p np => ?_⟩
            have sp1 := same_new (o := .lst [.int (j : Int)]) np
            refine ⟨r, p, _, _, rfl, rfl, sp1 _ _ hrow5, upd_same, line_small (by rw [List.length_map, hrl]; show _ + 1 ≤ _; omega), fun z nz => ?_⟩
            have sp2 := same_new (o := .lst (row.map V.int ++ [.int (j : Int)])) nz
            have nzD : z ≠ D := (ne_of_none (sp1 _ _ hD5) nz).symm
            have hl5 := hL5.len
            have hcount : ds.length ≤ j := by
              rw [hl5, List.length_map]
              have a2 := List.length_filter_le (fun t => !decide (t ∈ row)) (rg j)
              rw [rg_len] at a2
              exact a2
            refine ⟨_, sp2 _ _ (sp1 _ _ hD5), line_lt (by rw [List.length_map]; omega), ds ++ [z], by rw [upd_same, List.map_append]; rfl, ?_, fun c hc => ?_, ?_, fun u ob e => ?_⟩
            · rw [em, if_neg c]
              refine LL.snoc (((hL5.same sp1).same sp2).keep fun u hu ob e => by rw [upd_ne (hf5 u hu).2]; exact e) ?_
              rw [upd_ne nzD, upd_same, List.map_append]
              rfl
            · rcases List.mem_append.mp hc with hc | hc
              · exact hf5 c hc
              · rw [List.mem_singleton.mp hc]
                exact ⟨(s5.trans sp1).free nz, nzD⟩
            · rw [List.nodup_append]
              refine ⟨hnd5, List.nodup_cons.mpr ⟨List.not_mem_nil, List.nodup_nil⟩, fun x hx y hy e => ?_⟩
              rw [List.mem_singleton.mp hy] at e
              obtain ⟨ob, eo⟩ := hL5.tracked hx
              rw [e] at eo
              have := sp1 _ _ eo
              rw [nz] at this
              cases this
            · rw [upd_ne (ne_of_none e nD)]
              exact sp2 _ _ (sp1 _ _ (s5 _ _ e))
        · obtain ⟨ds, hD5, hL5, hf5, hnd5, s5⟩ := hP
          have hlg5 := s5 _ _ hlg4
          have hcl := hLc.len
          have hdl := hL5.len
          have hext : ds.length ≤ n := by
            rw [hdl]
            exact extO_len n row
          have hcn : cs.length ≤ 46656 * 6 := by
            rw [hcl]
            refine Nat.le_trans (flat_len n _) (Nat.mul_le_mul ?_ hn2)
            rw [List.length_take]
            omega
          refine ⟨lg, D, _, _, rfl, rfl, hlg5, hD5, line_small (by rw [List.length_map, List.length_map]; omega), ?_⟩
          refine ⟨_, _, cs ++ ds, rfl, by rw [upd_same, List.map_append], ?_, fun c hc => ?_, ?_, fun u ob e => ?_⟩
          · rw [List.take_add_one, erow, List.flatMap_append]
            show LL _ _ (_ ++ (extO n row ++ []))
            rw [List.append_nil]
            refine extend_LL ((hLc.same s5).keep fun u hu ob e => by rw [upd_ne (hfc u hu).2]; exact e) (hL5.keep fun u hu ob e => ?_)
            rw [upd_ne (show u ≠ lg from fun z => by have := (hf5 u hu).1; rw [z, hlg4] at this; cases this)]
            exact e
          · rcases List.mem_append.mp hc with hc | hc
            · exact hfc c hc
            · exact ⟨s4.free (hf5 c hc).1, fun z => by have := (hf5 c hc).1; rw [z, hlg4] at this; cases this⟩
          · rw [List.nodup_append]
            refine ⟨hndc, hnd5, fun x hx y hy e => ?_⟩
            subst e
            obtain ⟨ob, eo⟩ := hLc.tracked hx
            rw [(hf5 x hy).1] at eo
            cases eo
          · rw [upd_ne (ne_of_none e nlg)]
            exact s5 _ _ (s4 _ _ e)
      · obtain ⟨z4, z5, cs, rfl, hlg4, hLc, hfc, hndc, s4⟩ := hP
        rw [List.length_map, hlen, List.take_length] at hLc
        exact ⟨_, rfl, lg, _, _, _, _, cs, rfl, nHlg, hlg4, hLc, fun c hc => ⟨sm.free (hfc c hc).1, (hfc c hc).2⟩, hndc, sm.trans s4⟩
    · obtain ⟨bg, y2, y3, y4, y5, as, rfl, nbg, hb3, hLL, hfr, hnd, sm⟩ := hP
      exact ⟨_, rfl, q bg as H3 nbg hb3 hLL hfr hnd sm⟩
end
end Fo
namespace Fo
open PySem PySem.Spec PyProof.Rows L2
theorem diffT_turn {n : Nat} {xs ys : List Int} (ox : IsOrd n xs) (oy : IsOrd n ys) {t u : Int} (ht : t ∈ rg n) (hu : u ∈ rg n) (hne : t ≠ u) : diffT xs ys t u = diffT xs ys u t := by
  have a1 : pos xs t ≠ pos xs u := fun e => hne (pos_inj ox ht hu e)
  have a2 : pos ys t ≠ pos ys u := fun e => hne (pos_inj oy ht hu e)
  unfold diffT
  by_cases c : pos xs t < pos xs u
  · by_cases d : pos ys t < pos ys u
    · rw [decide_eq_true c, decide_eq_true d, decide_eq_false (show ¬ pos ys u < pos ys t by omega), decide_eq_false (show ¬ pos xs u < pos xs t by omega)]
      decide
    · rw [decide_eq_true c, decide_eq_false d, decide_eq_true (show pos ys u < pos ys t by omega), decide_eq_false (show ¬ pos xs u < pos xs t by omega)]
      decide
  · by_cases d : pos ys t < pos ys u
    · rw [decide_eq_false c, decide_eq_true d, decide_eq_false (show ¬ pos ys u < pos ys t by omega), decide_eq_true (show pos xs u < pos xs t by omega)]
      decide
    · rw [decide_eq_false c, decide_eq_false d, decide_eq_true (show pos ys u < pos ys t by omega), decide_eq_true (show pos xs u < pos xs t by omega)]
      decide
def posL (n : Nat) (xs : List Int) : List Int := (rg n).map (pos xs)
theorem posL_at {n : Nat} {xs : List Int} {m : Nat} (h : m < n) : (posL n xs)[m]? = some (pos xs (m : Int)) := by
  unfold posL rg
  rw [List.map_map, List.getElem?_map, List.getElem?_range h]
  rfl
theorem posL_len (n : Nat) (xs : List Int) : (posL n xs).length = n := by
  unfold posL
  rw [List.length_map, rg_len]
section
variable {P : Program} {w : World} {K : PySem.W.Frag} {mg : Str → Option Value} {base : Heap}
theorem scLFar : FnScope ["way", "one", "other", "n", "here", "there", "many", "thing", "less", "ahead", "p"] ["way", "one", "other"] (defScope s_law_far) := ⟨rfl, rfl, rfl, by decide +kernel, rfl, by decide +kernel, by decide +kernel⟩
set_option maxHeartbeats 4000000 in
theorem ok_law_far {f : Addr} {fd : FuncData} {k : Nat} (T : Df K mg "_law_far" s_law_far ["way", "one", "other"] f fd) (B : Bi mg) : FnOk P w K mg base CX0 (k + 1) f fd ["way", "one", "other"] spFar := by
  refine T.F.ok scLFar (fun vs H Q E h => ?_) (fun cdv A outer s H vs Q E hr h => ?_)
  · obtain ⟨z, a, b, n, xs, ys, rfl, _⟩ := h
    rfl
  · obtain ⟨z, a, b, n, xs, ys, rfl, hz, ha, hb, ox, oy, hn1, hn2, q⟩ := h
    have hxl : (xs.map V.int).length = n := by rw [List.length_map, ox.len]
    refine ⟨_, 
      (pss_cons (ps_set (i := 3) scLFar.nd rfl (.inl rfl) (pe_callB call_len_seq (by rfl) B.len PySem.boot_len (pa_cons (pv 1) pa_nil)))
      (pss_cons (ps_if (pt_cmpR op_eq (pv 0) pe_str (nomark _))
        (pss_one (ps_ret (pe_callB call_len_seq (by rfl) B.len PySem.boot_len (pa_cons (pe_lc (own := [("p", 10)]) (g := (gName 10)) (tt := (tTest (tOp rNe (tOp (rIxL K) (tVar 1) (tVar 10)) (tOp (rIxL K) (tVar 2) (tVar 10))))) (te := (tVar 10)) rfl scLFar.nd (pi_range1 (by rfl) B.range (pa_cons (pv 3) pa_nil)) (blkOk_by (N := ["way", "one", "other", "n", "here", "there", "many", "thing", "less", "ahead", "p"]) (sc := defScope s_law_far) (by decide +kernel)) (fun _ _ _ _ _ => (pg_name (i := 10) scLFar.nd rfl (.inl rfl))) (fun _ _ _ _ _ => (pts_one (pt_cmpR op_ne (pe_ix ix_list (pv 1) (pv 10) (fun _ _ => rfl)) (pe_ix ix_list (pv 2) (pv 10) (fun _ _ => rfl)) (nomark _)))) (fun _ _ _ _ _ => (pv 10))) pa_nil))))
        pss_nil)
      (pss_cons (ps_set (i := 4) scLFar.nd rfl (.inr rfl) (pe_lc (own := [("thing", 7)]) (g := (gName 7)) (tt := tYes) (te := (tBM K "list" (rIndex K) (tVar 1) (tCons (tVar 7) tNil))) rfl scLFar.nd (pi_range1 (by rfl) B.range (pa_cons (pv 3) pa_nil)) (blkOk_by (N := ["way", "one", "other", "n", "here", "there", "many", "thing", "less", "ahead", "p"]) (sc := defScope s_law_far) (by decide +kernel)) (fun _ _ _ _ _ => (pg_name (i := 7) scLFar.nd rfl (.inl rfl))) (fun _ _ _ _ _ => pts_nil) (fun _ _ _ _ _ => (pe_bm PySem.F.plainAttrs_list PySem.F.slot_list_index PySem.F.type_list_index mt_index (pv 1) (pa_cons (pv 7) pa_nil)))))
      (pss_cons (ps_set (i := 5) scLFar.nd rfl (.inr rfl) (pe_lc (own := [("thing", 7)]) (g := (gName 7)) (tt := tYes) (te := (tBM K "list" (rIndex K) (tVar 2) (tCons (tVar 7) tNil))) rfl scLFar.nd (pi_range1 (by rfl) B.range (pa_cons (pv 3) pa_nil)) (blkOk_by (N := ["way", "one", "other", "n", "here", "there", "many", "thing", "less", "ahead", "p"]) (sc := defScope s_law_far) (by decide +kernel)) (fun _ _ _ _ _ => (pg_name (i := 7) scLFar.nd rfl (.inl rfl))) (fun _ _ _ _ _ => pts_nil) (fun _ _ _ _ _ => (pe_bm PySem.F.plainAttrs_list PySem.F.slot_list_index PySem.F.type_list_index mt_index (pv 2) (pa_cons (pv 7) pa_nil)))))
      (pss_cons (ps_if (pt_cmpR op_eq (pv 0) pe_str (nomark _))
        (pss_one (ps_ret (pe_callB (cr_max rfl) (by rfl) B.max (by decide +kernel) (pa_cons (pe_lc (own := [("thing", 7)]) (g := (gName 7)) (tt := tYes) (te := (tCB rAbs (tCons (tOp (rI0 fun i j => .int (i - j)) (tOp (rIxL K) (tVar 4) (tVar 7)) (tOp (rIxL K) (tVar 5) (tVar 7))) tNil))) rfl scLFar.nd (pi_range1 (by rfl) B.range (pa_cons (pv 3) pa_nil)) (blkOk_by (N := ["way", "one", "other", "n", "here", "there", "many", "thing", "less", "ahead", "p"]) (sc := defScope s_law_far) (by decide +kernel)) (fun _ _ _ _ _ => (pg_name (i := 7) scLFar.nd rfl (.inl rfl))) (fun _ _ _ _ _ => pts_nil) (fun _ _ _ _ _ => (pe_callB call_abs (by rfl) B.abs (by decide +kernel) (pa_cons (pe_op op_sub (pe_ix ix_list (pv 4) (pv 7) (fun _ _ => rfl)) (pe_ix ix_list (pv 5) (pv 7) (fun _ _ => rfl))) pa_nil)))) pa_nil))))
        pss_nil)
      (pss_cons (ps_set (i := 6) scLFar.nd rfl (.inl rfl) pe_int)
      (pss_cons (ps_for PassesOwn.never rfl (pi_range1 (by rfl) B.range (pa_cons (pv 3) pa_nil)) (pg_name (i := 7) scLFar.nd rfl (.inl rfl))
        (pss_one (ps_for PassesOwn.never rfl (pi_range1 (by rfl) B.range (pa_cons (pv 7) pa_nil)) (pg_name (i := 8) scLFar.nd rfl (.inl rfl))
          (pss_cons (ps_set (i := 9) scLFar.nd rfl (.inl rfl) (pe_cmpR op_lt (pe_ix ix_list (pv 4) (pv 8) (fun _ _ => rfl)) (pe_ix ix_list (pv 4) (pv 7) (fun _ _ => rfl)) (nomark _)))
          (pss_one (ps_set (i := 6) scLFar.nd rfl (.inl rfl) (pe_op op_add (pv 6) (pe_callTy call_int1 (by rfl) B.int (by decide +kernel) (pa_cons (pe_cmpR op_ne (pv 9) (pe_cmpR op_lt (pe_ix ix_list (pv 5) (pv 8) (fun _ _ => rfl)) (pe_ix ix_list (pv 5) (pv 7) (fun _ _ => rfl)) (nomark _)) (nomark _)) pa_nil)))))))))
      (pss_one (ps_ret (pv 6)))))))))), ?_⟩
    refine ⟨_, rfl, a, _, rfl, .inl (SqL.of ha), ?_⟩
    rw [hxl]
    by_cases cs : z = "spot"
    · subst cs
      refine ⟨_, rfl, rfl, _, rfl, ite2 (fun _ => ?_) (fun c => absurd (by decide +kernel) c)⟩
      refine ⟨_, rfl, n, rfl, by omega, by omega, fun D nD => ?_⟩
      rw [Int.toNat_natCast]
      refine lc_range (lo := 0) (n := n) (fun m H3 => H3 D = some (.lst (((rg m).filter (fun p => !decide (g0 xs p = g0 ys p))).map V.int)) ∧ Same H H3) ⟨upd_same, same_new nD⟩ (fun m H3 hm hP => ?_) (fun H3 hP => ?_)
      · obtain ⟨hD3, sm⟩ := hP
        obtain ⟨x, ex, _⟩ := ord_ix ox hm
        obtain ⟨y, ey, _⟩ := ord_ix oy hm
        have gx : g0 xs (m : Int) = x := g0_at ex
        have gy : g0 ys (m : Int) = y := g0_at ey
        have fm : ((rg (m + 1)).filter fun p => !decide (g0 xs p = g0 ys p)) = ((rg m).filter fun p => !decide (g0 xs p = g0 ys p)) ++ (if x = y then [] else [(m : Int)]) := by
          rw [rg_succ, List.filter_append, List.filter_cons, gx, gy]
          congr 1
          by_cases c : x = y
          · simp [c]
          · simp [c]
        refine ⟨rfl, _, rfl, _, rfl, a, _, _, _, rfl, rfl, SqL.of (sm _ _ ha), at_of (j := m) (by omega) (int_at ex), _, rfl, _, rfl, b, _, _, _, rfl, rfl, SqL.of (sm _ _ hb), at_of (j := m) (by omega) (int_at ey), rfl, _, rfl, ?_⟩
        by_cases c : x = y
        · subst c
          refine iteNS rfl ⟨?_, sm⟩
          rw [fm, if_pos rfl, List.append_nil]
          exact hD3
        · rw [decide_eq_false (fun e => c (V.int.inj e))]
          refine iteT ⟨_, rfl, _, hD3, line_lt ?_, ?_, fun u o e => ?_⟩
          · rw [List.length_map]
            refine Nat.lt_of_le_of_lt (List.length_filter_le _ _) ?_
            rw [rg_len]
            omega
          · rw [upd_same, fm, if_neg c, List.map_append, Int.zero_add]
            rfl
          · rw [upd_ne (ne_of_none e nD)]
            exact sm _ _ e
      · obtain ⟨hD3, sm⟩ := hP
        refine ⟨D, _, rfl, .inl (SqL.of hD3), ?_⟩
        have z := q H3 sm
        rw [farW_spot] at z
        unfold farSpot spotL at z
        rw [ox.len] at z
        rw [List.length_map]
        exact z
    · have csn : ¬ decide (V.str z = V.str "spot") = true := fun c => cs (V.str.inj (of_decide_eq_true c))
      refine ⟨_, rfl, rfl, _, rfl, ite2 (fun c => absurd c csn) (fun _ => ?_)⟩
      refine ⟨_, rfl, n, rfl, by omega, by omega, fun D1 nD1 => ?_⟩
      rw [Int.toNat_natCast]
      refine lc_range (lo := 0) (n := n) (fun m H3 => H3 D1 = some (.lst (((posL n xs).take m).map V.int)) ∧ Same H H3) ⟨upd_same, same_new nD1⟩ (fun m H3 hm hP => ?_) (fun H3 hP => ?_)
      · obtain ⟨hD3, sm⟩ := hP
        obtain ⟨j1, a1, b1, c1, p1⟩ := idx_facts ox (x := 0 + (m : Int)) (by omega) (by omega)
        refine ⟨rfl, _, rfl, .inl ⟨rfl, _, SqL.of (sm _ _ ha)⟩, _, rfl, a, _, _, j1, _, rfl, rfl, SqL.of (sm _ _ ha), rfl, flat_ints xs, a1, b1, c1, _, hD3, line_lt (by rw [List.length_map, List.length_take, posL_len]; omega), ?_, fun u o e => ?_⟩
        · rw [upd_same, p1, List.take_add_one, posL_at hm, List.map_append, Int.zero_add]
          rfl
        · rw [upd_ne (ne_of_none e nD1)]
          exact sm _ _ e
      obtain ⟨hD1, s1⟩ := hP
      rw [List.take_of_length_le (by rw [posL_len]; exact Nat.le_refl _)] at hD1
      refine ⟨_, rfl, n, rfl, by omega, by omega, fun D2 nD2 => ?_⟩
      rw [Int.toNat_natCast]
      have n12 : D1 ≠ D2 := ne_of_none hD1 nD2
      refine lc_range (lo := 0) (n := n) (fun m H4 => H4 D2 = some (.lst (((posL n ys).take m).map V.int)) ∧ H4 D1 = some (.lst ((posL n xs).map V.int)) ∧ Same H H4) ⟨upd_same, by rw [upd_ne n12]; exact hD1, s1.trans (same_new nD2)⟩ (fun m H4 hm hP => ?_) (fun H4 hP => ?_)
      · obtain ⟨hD4, hD1', sm⟩ := hP
        obtain ⟨j1, a1, b1, c1, p1⟩ := idx_facts oy (x := 0 + (m : Int)) (by omega) (by omega)
        refine ⟨rfl, _, rfl, .inl ⟨rfl, _, SqL.of (sm _ _ hb)⟩, _, rfl, b, _, _, j1, _, rfl, rfl, SqL.of (sm _ _ hb), rfl, flat_ints ys, a1, b1, c1, _, hD4, line_lt (by rw [List.length_map, List.length_take, posL_len]; omega), ?_, by rw [upd_ne n12]; exact hD1', fun u o e => ?_⟩
        · rw [upd_same, p1, List.take_add_one, posL_at hm, List.map_append, Int.zero_add]
          rfl
        · rw [upd_ne (ne_of_none (s1 _ _ e) nD2)]
          exact sm _ _ e
      obtain ⟨hD2, hD1', s2⟩ := hP
      rw [List.take_of_length_le (by rw [posL_len]; exact Nat.le_refl _)] at hD2
      by_cases ch : z = "shift"
      · subst ch
        refine ⟨_, rfl, rfl, _, rfl, ite2 (fun _ => ?_) (fun c => absurd (by decide +kernel) c)⟩
        refine ⟨_, rfl, n, rfl, by omega, by omega, fun D nD => ?_⟩
        rw [Int.toNat_natCast]
        refine lc_range (lo := 0) (n := n) (fun m H5 => H5 D = some (.lst (((rg m).map fun t => absI (pos xs t - pos ys t)).map V.int)) ∧ Same H4 H5) ⟨upd_same, same_new nD⟩ (fun m H5 hm hP => ?_) (fun H5 hP => ?_)
        · obtain ⟨hD5, s5⟩ := hP
          refine ⟨rfl, _, rfl, _, rfl, D1, _, _, _, rfl, rfl, SqL.of (s5 _ _ hD1'), at_of (j := m) (by omega) (int_at (posL_at hm)), _, rfl, _, rfl, D2, _, _, _, rfl, rfl, SqL.of (s5 _ _ hD2), at_of (j := m) (by omega) (int_at (posL_at hm)), _, _, rfl, rfl, _, rfl, _, hD5, line_lt (by rw [List.length_map, List.length_map, rg_len]; omega), ?_, fun u o e => ?_⟩
          · rw [upd_same, rg_succ, List.map_append, List.map_append]
            rfl
          · rw [upd_ne (ne_of_none e nD)]
            exact s5 _ _ e
        · obtain ⟨hD5, s5⟩ := hP
          refine ⟨D, _, rfl, SqL.of hD5, by rw [List.length_map, rg_len]; exact hn1, fun m hm hle => ?_⟩
          obtain ⟨t, ht, e⟩ := List.mem_map.mp hm
          have ef : farShift xs ys = m := shift_of ox ⟨t, ht, e.symm⟩ fun u hu => hle _ (List.mem_map.mpr ⟨u, hu, rfl⟩)
          have z := q H5 (s2.trans s5)
          rw [farW_shift, ef] at z
          exact z
      · have csh : ¬ decide (V.str z = V.str "shift") = true := fun c => ch (V.str.inj (of_decide_eq_true c))
        have ez : z = "swap" := by
          rcases hz with e | e | e
          · exact e
          · exact absurd e cs
          · exact absurd e ch
        subst ez
        refine ⟨_, rfl, rfl, _, rfl, ite2 (fun c => absurd c csh) (fun _ => ?_)⟩
        refine ⟨_, rfl, n, rfl, by omega, by omega, ?_⟩
        rw [Int.toNat_natCast]
        refine for_range (n := n) (fun i σ H5 => ∃ (y7 y8 y9 y10 y11 : Option V), σ = [some (.str "swap"), some (.ref a), some (.ref b), some (.int n), some (.ref D1), some (.ref D2), some (.int ((sumN (rg i) (fun t => sumN (rg t.toNat) fun u => ind (diffT xs ys t u)) : Nat) : Int)), y7, y8, y9, y10] ∧ H5 = H4)
          ⟨_, _, _, _, none, rfl, rfl⟩ (fun i σ H5 hi hP => ?_) (fun σ H5 hP => ?_)
        · obtain ⟨y7, y8, y9, y10, _, rfl, rfl⟩ := hP
          refine ⟨_, rfl, _, rfl, by omega, by omega, ?_⟩
          rw [show (0 + (i : Int)).toNat = i by omega]
          refine for_range (n := i) (fun j σ H6 => ∃ (y8 y9 : Option V), σ = [some (.str "swap"), some (.ref a), some (.ref b), some (.int n), some (.ref D1), some (.ref D2), some (.int (((sumN (rg i) (fun t => sumN (rg t.toNat) fun u => ind (diffT xs ys t u)) : Nat) : Int) + ((sumN (rg j) (fun u => ind (diffT xs ys (i : Int) u)) : Nat) : Int))), some (.int (0 + (i : Int))), y8, y9, y10] ∧ H6 = H5)
            ⟨_, _, by show _ = [_, _, _, _, _, _, some (V.int (_ + 0)), _, _, _, _]; rw [Int.add_zero]; rfl, rfl⟩ (fun j σ H6 hj hP => ?_) (fun σ H6 hP => ?_)
          · obtain ⟨z8, z9, rfl, rfl⟩ := hP
            have hjn : j < n := by omega
            refine ⟨_, rfl, _, rfl, D1, _, _, _, rfl, rfl, SqL.of hD1', at_of (j := j) (by omega) (int_at (posL_at hjn)), _, rfl, _, rfl, D1, _, _, _, rfl, rfl, SqL.of hD1', at_of (j := i) (by omega) (int_at (posL_at hi)), _, _, rfl, rfl, ?_⟩
            refine ⟨_, rfl, _, rfl, _, rfl, _, rfl, D2, _, _, _, rfl, rfl, SqL.of hD2, at_of (j := j) (by omega) (int_at (posL_at hjn)), _, rfl, _, rfl, D2, _, _, _, rfl, rfl, SqL.of hD2, at_of (j := i) (by omega) (int_at (posL_at hi)), _, _, rfl, rfl, rfl, .inr ⟨_, rfl, _, _, rfl, rfl, some (.int (0 + (j : Int))), some (.bl (decide (pos xs (j : Int) < pos xs (i : Int)))), ?_, rfl⟩⟩
            have ed : (!decide (V.bl (decide (pos xs (j : Int) < pos xs (i : Int))) = V.bl (decide (pos ys (j : Int) < pos ys (i : Int))))) = diffT xs ys (i : Int) (j : Int) := by
              rw [diffT_turn ox oy (rg_mem.mpr ⟨by omega, by omega⟩) (rg_mem.mpr ⟨by omega, by omega⟩) (show (i : Int) ≠ (j : Int) by omega)]
              unfold diffT
              by_cases c : decide (pos xs (j : Int) < pos xs (i : Int)) = decide (pos ys (j : Int) < pos ys (i : Int))
              · rw [decide_eq_true c, decide_eq_true (congrArg V.bl c)]
              · rw [decide_eq_false c, decide_eq_false (fun e => c (V.bl.inj e))]
            rw [rg_succ, sumN_append, sumN_cons, sumN_nil, Int.natCast_add, ← Int.add_assoc]
            show [_, _, _, _, _, _, some (V.int (_ + (if (!decide (V.bl (decide (pos xs (j : Int) < pos xs (i : Int))) = V.bl (decide (pos ys (j : Int) < pos ys (i : Int))))) = true then 1 else 0))), _, _, _, _] = _
            rw [ed]
            cases diffT xs ys (i : Int) (j : Int)
            · rfl
            · rfl
          · obtain ⟨z8, z9, rfl, rfl⟩ := hP
            refine ⟨some (.int (0 + (i : Int))), z8, z9, y10, none, ?_, rfl⟩
            rw [rg_succ, sumN_append, sumN_cons, sumN_nil, Int.toNat_natCast, Nat.add_zero, Int.natCast_add]
        · obtain ⟨y7, y8, y9, y10, _, rfl, rfl⟩ := hP
          refine ⟨_, rfl, ?_⟩
          have z := q H5 s2
          rw [farW_swap, swap_T ox oy, swT_pairs ox oy] at z
          exact z
end
end Fo
namespace Fo
open PySem PySem.Spec PyProof.Rows L2
def spApart : Sp := fun vs H Q _ => ∃ (w : Str) (n most d : Int), vs = [.str w, .int n, .int most, .int d] ∧ IsWay w ∧ 1 ≤ n ∧ n ≤ most ∧ 1 ≤ d ∧ Q .non H
section
variable {P : Program} {w : World} {K : PySem.W.Frag} {mg : Str → Option Value} {base : Heap}
theorem scApart : FnScope ["way", "n", "most", "d"] ["way", "n", "most", "d"] (defScope s_check_apart) := ⟨rfl, rfl, rfl, by decide +kernel, rfl, by decide +kernel, by decide +kernel⟩
theorem ok_apart {f f1 f2 f3 fW aW : Addr} {fd d1 d2 d3 dW : FuncData} {k : Nat} (T : Df K mg "check_apart" s_check_apart ["way", "n", "most", "d"] f fd) (T_check_way : Df K mg "check_way" s_check_way ["thing"] f1 d1) (T_check_size : Df K mg "check_size" s_check_size ["thing", "most"] f2 d2) (T_check_from : Df K mg "check_from" s_check_from ["thing", "least"] f3 d3) (T_is_whole : Df K mg "is_whole" s_is_whole ["thing"] fW dW) (W : Wy K mg aW) (B : Bi mg) : FnOk P w K mg base CX0 (k + 3) f fd ["way", "n", "most", "d"] spApart := by
  have G_check_way : FnOk P w K mg base CX0 (k + 2) f1 d1 ["thing"] spWay := ok_way (k := k + 1) T_check_way W B
  have G_check_size : FnOk P w K mg base CX0 (k + 2) f2 d2 ["thing", "most"] spSize := ok_size T_check_size T_is_whole B
  have G_check_from : FnOk P w K mg base CX0 (k + 2) f3 d3 ["thing", "least"] spFrom := ok_from T_check_from T_is_whole B
  refine T.F.ok scApart (fun vs H Q E h => ?_) (fun cdv A outer s H vs Q E hr h => ?_)
  · obtain ⟨w, n, most, d, rfl, _⟩ := h
    rfl
  · obtain ⟨w, n, most, d, rfl, hw, h1, h2, h3, q⟩ := h
    refine ⟨_, 
      (pss_cons (ps_expr (pe_call G_check_way hr (by rfl) T_check_way.g T_check_way.F.kp T_check_way.b .nil pass0 (pa_cons (pv 0) pa_nil)))
      (pss_cons (ps_expr (pe_call G_check_size hr (by rfl) T_check_size.g T_check_size.F.kp T_check_size.b .nil pass0 (pa_cons (pv 1) (pa_cons (pv 2) pa_nil))))
      (pss_one (ps_expr (pe_call G_check_from hr (by rfl) T_check_from.g T_check_from.F.kp T_check_from.b .nil pass0 (pa_cons (pv 3) (pa_cons pe_int pa_nil))))))), ?_⟩
    exact ⟨_, rfl, w, rfl, hw, _, rfl, _, rfl, n, most, rfl, h1, h2, _, rfl, d, 1, rfl, h3, q⟩
end
end Fo
namespace Fo
open PySem PySem.Spec PyProof.Rows L2
/-! lists that lie apart -/
theorem cutV_takeN (xs : List V) (i : Nat) : cutV xs none (some (i : Int)) = xs.take i := by
  unfold cutV
  rw [HT.sIx_none, HT.sIx_nat, List.drop_zero, Nat.sub_zero]
  by_cases hh : i ≤ xs.length
  · rw [Nat.min_eq_left hh]
  · rw [Nat.min_eq_right (by omega), List.take_length, List.take_of_length_le (by omega)]
theorem LL.takeN {H : Hp} : ∀ {as : List Addr} {rs : List (List Int)} (k : Nat), LL H as rs → LL H (as.take k) (rs.take k)
  | _, _, 0, _ => trivial
  | [], [], _ + 1, _ => trivial
  | [], _ :: _, _ + 1, h => h.elim
  | _ :: _, [], _ + 1, h => h.elim
  | _ :: _, _ :: _, k + 1, h => ⟨h.1, LL.takeN k h.2⟩
theorem LL.dropN {H : Hp} : ∀ {as : List Addr} {rs : List (List Int)} (k : Nat), LL H as rs → LL H (as.drop k) (rs.drop k)
  | _, _, 0, h => h
  | [], [], _ + 1, _ => trivial
  | [], _ :: _, _ + 1, h => h.elim
  | _ :: _, [], _ + 1, h => h.elim
  | _ :: _, _ :: _, k + 1, h => LL.dropN k h.2
theorem LL.appN {H : Hp} : ∀ {as bs : List Addr} {rs ss : List (List Int)}, LL H as rs → LL H bs ss → LL H (as ++ bs) (rs ++ ss)
  | [], _, [], _, _, h => h
  | _ :: _, _, _ :: _, _, a, h => ⟨a.1, LL.appN a.2 h⟩
  | [], _, _ :: _, _, a, _ => a.elim
  | _ :: _, _, [], _, a, _ => a.elim
end Fo
namespace Fo
open PySem PySem.Spec PyProof.Rows L2
/-! a store of three numbers, of which others are drawn -/
def StAt (H : Hp) (d : Addr) : Prop := ∃ a b s : Int, H d = some (.lst [.int a, .int b, .int s])
def KeepD (d : Addr) (H H' : Hp) : Prop := ∀ b o, H b = some o → b ≠ d → H' b = some o
theorem KeepD.trans {d : Addr} {H H1 H2 : Hp} (a : KeepD d H H1) (b : KeepD d H1 H2) : KeepD d H H2 := fun c o e f => b c o (a c o e f) f
theorem KeepD.of_same {d : Addr} {H H' : Hp} (h : Same H H') : KeepD d H H' := fun b o e _ => h b o e
theorem KeepD.none {d : Addr} {H H1 : Hp} (k : KeepD d H H1) {p : Addr} (np : H1 p = none) (nf : p ≠ d) : H p = none := by
  cases e : H p with
  | none => rfl
  | some o =>
    have z := k p o e nf
    rw [np] at z
    cases z
theorem StAt.same {H H' : Hp} {d : Addr} (h : StAt H d) (s : Same H H') : StAt H' d := by
  obtain ⟨a, b, t, e⟩ := h
  exact ⟨a, b, t, s _ _ e⟩
theorem StAt.ne {H : Hp} {d : Addr} (h : StAt H d) {p : Addr} (e : H p = none) : p ≠ d := by
  obtain ⟨a, b, t, e1⟩ := h
  exact (ne_of_none e1 e).symm
def spCell (K : PySem.W.Frag) : Sp := fun vs H Q _ => ∃ (a : Addr) (ns : List Int) (k : Nat), vs = [.ref a, .int k] ∧ SqL K H a (ns.map V.int) ∧ ns.length ≤ 63 ∧ k < 63 ∧ ∀ v : Int, Q (.int v) H
def spStore : Sp := fun vs H Q _ => ∃ c : Int, vs = [.int c] ∧ ∀ (d : Addr) (H' : Hp), H d = none → StAt H' d → Same H H' → Q (.ref d) H'
def spTake : Sp := fun vs H Q _ => ∃ (d : Addr) (many : Int), vs = [.ref d, .int many] ∧ StAt H d ∧ 0 < many ∧ many ≤ 100000000000000000000 ∧ ∀ (v : Int) (H' : Hp), 0 ≤ v → v < many → StAt H' d → KeepD d H H' → Q (.int v) H'
def spLWay : Sp := fun vs H Q _ => ∃ (d : Addr), vs = [.ref d] ∧ StAt H d ∧ ∀ (z : Str) (H' : Hp), IsWay z → StAt H' d → KeepD d H H' → Q (.str z) H'
def spMost : Sp := fun vs H Q _ => ∃ (z : Str) (n : Nat), vs = [.str z, .int n] ∧ IsWay z ∧ 1 ≤ n ∧ n ≤ 12 ∧ ∀ (v : Int) (H' : Hp), 0 ≤ v → v ≤ 100 → Same H H' → Q (.int v) H'
def spDist : Sp := fun vs H Q _ => ∃ (d : Addr) (z : Str) (n : Nat), vs = [.ref d, .str z, .int n] ∧ StAt H d ∧ IsWay z ∧ 1 ≤ n ∧ n ≤ 12 ∧ ∀ (v : Int) (H' : Hp), 1 ≤ v → StAt H' d → KeepD d H H' → Q (.int v) H'
theorem mod_b (x : Int) {m : Int} (h : 0 < m) : 0 ≤ x % m ∧ x % m < m := ⟨Int.emod_nonneg x (by omega), Int.emod_lt_of_pos x h⟩
theorem at3_0 {x y z : V} : atI [x, y, z] 0 = some x := rfl
theorem at3_1 {x y z : V} : atI [x, y, z] 1 = some y := rfl
theorem at3_2 {x y z : V} : atI [x, y, z] 2 = some z := rfl
section
variable {P : Program} {w : World} {K : PySem.W.Frag} {mg : Str → Option Value} {base : Heap}
theorem scCell : FnScope ["script", "k"] ["script", "k"] (defScope s_law_cell) := ⟨rfl, rfl, rfl, by decide +kernel, rfl, by decide +kernel, by decide +kernel⟩
theorem ok_cell {f : Addr} {fd : FuncData} {k : Nat} (T : Df K mg "_law_cell" s_law_cell ["script", "k"] f fd) (B : Bi mg) : FnOk P w K mg base CX0 (k + 1) f fd ["script", "k"] (spCell K) := by
  refine T.F.ok scCell (fun vs H Q E h => ?_) (fun cdv A outer s H vs Q E hr h => ?_)
  · obtain ⟨a, ns, i, rfl, _⟩ := h
    rfl
  · obtain ⟨a, ns, i, rfl, hS, hl, hi, q⟩ := h
    refine ⟨_, 
      (pss_cons (ps_if (pt_cmpR op_lt (pv 1) (pe_callB call_len_seq (by rfl) B.len PySem.boot_len (pa_cons (pv 0) pa_nil)) (nomark _))
        (pss_one (ps_ret (pe_ix ix_list (pv 0) (pv 1) (fun _ _ => rfl))))
        pss_nil)
      (pss_one (ps_ret (pe_op op_add (pe_op op_add (pe_op op_mul (pe_op op_mul pe_int (pv 1)) (pv 1)) (pe_op op_mul pe_int (pv 1))) pe_int)))), ?_⟩
    refine ⟨_, rfl, _, rfl, a, _, rfl, .inl hS, _, _, rfl, rfl, _, rfl, ite2 (fun c => ?_) (fun _ => ?_)⟩
    · have hlt := of_decide_eq_true c
      rw [List.length_map] at hlt
      have hlt2 : i < ns.length := by omega
      exact ⟨_, rfl, _, rfl, a, _, _, _, rfl, rfl, hS, at_of (j := i) rfl (int_at (List.getElem?_eq_getElem hlt2)), q _⟩
    · exact ⟨_, rfl, 7, _, rfl, rfl, .inl ⟨by decide, by decide⟩, _, rfl, _, _, rfl, rfl, .inl ⟨by omega, by omega⟩, _, rfl, 3, _, rfl, rfl, .inl ⟨by decide, by decide⟩, _, _, rfl, rfl, _, 11, rfl, rfl, q _⟩
theorem scStore : FnScope ["cell", "great"] ["cell"] (defScope s_law_store) := ⟨rfl, rfl, rfl, by decide +kernel, rfl, by decide +kernel, by decide +kernel⟩
theorem ok_store {f : Addr} {fd : FuncData} {k : Nat} (T : Df K mg "_law_store" s_law_store ["cell"] f fd) : FnOk P w K mg base CX0 (k + 1) f fd ["cell"] spStore := by
  refine T.F.ok scStore (fun vs H Q E h => ?_) (fun cdv A outer s H vs Q E hr h => ?_)
  · obtain ⟨c, rfl, _⟩ := h
    rfl
  · obtain ⟨c, rfl, q⟩ := h
    refine ⟨_, 
      (pss_cons (ps_set (i := 1) scStore.nd rfl (.inl rfl) pe_int)
      (Evl.pss_cut (ps_if (pt_cmpR op_ge (pv 0) (pe_op op_pow pe_int pe_int) (nomark _))
        (pss_one (ps_set (i := 1) scStore.nd rfl (.inl rfl) (pv 0)))
        pss_nil)
      (pss_one (ps_ret (pe_lst (pa_cons (pv 1) (pa_cons (pe_op op_mod (pv 0) pe_int) (pa_cons pe_int pa_nil)))))))), ?_⟩
    refine ⟨fun τ G => ∃ g : Int, τ = [some (.int c), some (.int g)] ∧ G = H, ?_, fun τ G hM => ?_⟩
    · exact ⟨_, rfl, 10, 18, rfl, rfl, ⟨by decide, by decide, by decide⟩, c, _, rfl, rfl, _, rfl, ite2 (fun _ => ⟨_, rfl, c, rfl, rfl⟩) (fun _ => ⟨0, rfl, rfl⟩)⟩
    · obtain ⟨g, rfl, rfl⟩ := hM
      exact ⟨_, rfl, _, rfl, c, 2147483629, rfl, rfl, (show (0 : Int) < 2147483629 by decide), line_small (by show 3 ≤ 16777216; decide), fun d nd => q d _ nd ⟨_, _, _, upd_same⟩ (same_new nd)⟩
theorem scTake : FnScope ["store", "many", "told", "one"] ["store", "many"] (defScope s_law_take) := ⟨rfl, rfl, rfl, by decide +kernel, rfl, by decide +kernel, by decide +kernel⟩
set_option maxHeartbeats 1000000 in
theorem ok_take {f : Addr} {fd : FuncData} {k : Nat} (T : Df K mg "_law_take" s_law_take ["store", "many"] f fd) : FnOk P w K mg base CX0 (k + 1) f fd ["store", "many"] spTake := by
  refine T.F.ok scTake (fun vs H Q E h => ?_) (fun cdv A outer s H vs Q E hr h => ?_)
  · obtain ⟨d, m, rfl, _⟩ := h
    rfl
  · obtain ⟨d, m, rfl, ⟨a, b, st, hd⟩, hm, hm2, q⟩ := h
    refine ⟨_, 
      (pss_cons (ps_if (pt_cmpR op_gt (pe_ix ix_list (pv 0) pe_int (fun _ _ => rfl)) pe_int (nomark _))
        (pss_cons (ps_set (i := 2) scTake.nd rfl (.inl rfl) (pe_op op_mod (pe_ix ix_list (pv 0) pe_int (fun _ _ => rfl)) (pv 1)))
        (pss_cons (ps_asg (pe_op op_fdivW (pe_ix ix_list (pv 0) pe_int (fun _ _ => rfl)) (pv 1)) (pg_sub (pv 0) pe_int set_list))
        (pss_one (ps_ret (pv 2)))))
        pss_nil)
      (pss_cons (ps_asg (pe_op op_add (pe_ix ix_list (pv 0) pe_int (fun _ _ => rfl)) pe_int) (pg_sub (pv 0) pe_int set_list))
      (Evl.pss_cut (ps_set (i := 3) scTake.nd rfl (.inl rfl) (pe_op op_mod (pe_op op_mul (pe_op op_add (pe_ix ix_list (pv 0) pe_int (fun _ _ => rfl)) (pe_op op_mul pe_int (pe_ix ix_list (pv 0) pe_int (fun _ _ => rfl)))) pe_int) pe_int))
      (Evl.pss_cut (ps_set (i := 3) scTake.nd rfl (.inl rfl) (pe_op op_mod (pe_op op_mul (pv 3) (pv 3)) pe_int))
      (Evl.pss_cut (ps_set (i := 3) scTake.nd rfl (.inl rfl) (pe_op op_mod (pe_op op_mul (pe_op op_add (pv 3) (pe_op op_mul pe_int (pe_ix ix_list (pv 0) pe_int (fun _ _ => rfl)))) pe_int) pe_int))
      (pss_one (ps_ret (pe_op op_mod (pe_op op_fdiv (pv 3) pe_int) (pv 1))))))))), ?_⟩
    refine ⟨_, rfl, d, _, 0, _, rfl, rfl, SqL.of hd, at3_0, a, 0, rfl, rfl, _, rfl, ite2 (fun _ => ?_) (fun _ => ?_)⟩
    · refine ⟨_, rfl, d, _, 0, _, rfl, rfl, SqL.of hd, at3_0, _, rfl, a, m, rfl, rfl, hm, ?_⟩
      refine ⟨_, rfl, d, _, 0, _, rfl, rfl, SqL.of hd, at3_0, _, rfl, a, m, rfl, rfl, wide_div (b := 70) hm (by omega) (by decide) (by decide), _, rfl, d, _, 0, 0, rfl, rfl, hd, rfl, ?_⟩
      obtain ⟨c1, c2⟩ := mod_b a hm
      exact ⟨_, rfl, q _ _ c1 c2 ⟨a / m, b, st, upd_same⟩ fun b o e nb => by rw [upd_ne nb]; exact e⟩
    · refine ⟨_, rfl, d, _, 2, _, rfl, rfl, SqL.of hd, at3_2, st, 1, rfl, rfl, _, rfl, d, _, 2, 2, rfl, rfl, hd, rfl, ?_⟩
      have hd1 : (upd H d (.lst [.int a, .int b, .int (st + 1)])) d = some (.lst [.int a, .int b, .int (st + 1)]) := upd_same
      have kp : KeepD d H (upd H d (.lst [.int a, .int b, .int (st + 1)])) := fun b o e nb => by rw [upd_ne nb]; exact e
      have kp2 : (upd H d (.lst (([.int a, .int b, .int st] : List V).set 2 (.int (st + 1))))) = upd H d (.lst [.int a, .int b, .int (st + 1)]) := rfl
      rw [kp2]
      generalize upd H d (.lst [.int a, .int b, .int (st + 1)]) = H1 at hd1 kp ⊢
      refine ⟨fun τ G => ∃ x : Int, 0 ≤ x ∧ x < 2147483647 ∧ τ = [some (.ref d), some (.int m), none, some (.int x)] ∧ G = H1, ?_, fun τ G hM => ?_⟩
      · exact ⟨_, rfl, d, _, 1, _, rfl, rfl, SqL.of hd1, at3_1, _, rfl, d, _, 2, _, rfl, rfl, SqL.of hd1, at3_2, 7919, _, rfl, rfl, .inl ⟨by decide, by decide⟩, _, _, rfl, rfl, _, 48271, rfl, rfl, .inr ⟨by decide, by decide⟩, _, 2147483647, rfl, rfl, (show (0 : Int) < 2147483647 by decide), _, (mod_b _ (by decide)).1, (mod_b _ (by decide)).2, rfl, rfl⟩
      obtain ⟨x, x0, x1, rfl, e1⟩ := hM
      subst e1
      refine ⟨fun τ G' => ∃ y : Int, 0 ≤ y ∧ y < 2147483629 ∧ τ = [some (.ref d), some (.int m), none, some (.int y)] ∧ G' = G, ?_, fun τ G' hM => ?_⟩
      · exact ⟨_, rfl, _, rfl, x, x, rfl, rfl, .inl ⟨by omega, by omega⟩, _, 2147483629, rfl, rfl, (show (0 : Int) < 2147483629 by decide), _, (mod_b _ (by decide)).1, (mod_b _ (by decide)).2, rfl, rfl⟩
      obtain ⟨y, y0, y1, rfl, e1⟩ := hM
      subst e1
      refine ⟨fun τ G'' => ∃ z : Int, τ = [some (.ref d), some (.int m), none, some (.int z)] ∧ G'' = G', ?_, fun τ G'' hM => ?_⟩
      · exact ⟨_, rfl, _, rfl, d, _, 2, _, rfl, rfl, SqL.of hd1, at3_2, 40692, _, rfl, rfl, .inl ⟨by decide, by decide⟩, y, _, rfl, rfl, _, 69621, rfl, rfl, .inr ⟨by decide, by decide⟩, _, 2147483587, rfl, rfl, (show (0 : Int) < 2147483587 by decide), _, rfl, rfl⟩
      obtain ⟨z, rfl, e1⟩ := hM
      subst e1
      obtain ⟨c1, c2⟩ := mod_b (z / 8) hm
      exact ⟨_, rfl, z, 8, rfl, rfl, ⟨by decide, by decide⟩, _, rfl, _, m, rfl, rfl, hm, q _ _ c1 c2 ⟨_, _, _, hd1⟩ kp⟩
theorem scLWay : FnScope ["store"] ["store"] (defScope s_law_way) := ⟨rfl, rfl, rfl, by decide +kernel, rfl, by decide +kernel, by decide +kernel⟩
theorem ok_lway {f f1 : Addr} {fd d1 : FuncData} {k : Nat} (T : Df K mg "_law_way" s_law_way ["store"] f fd) (T__law_take : Df K mg "_law_take" s_law_take ["store", "many"] f1 d1) (G__law_take : FnOk P w K mg base CX0 k f1 d1 ["store", "many"] spTake) : FnOk P w K mg base CX0 (k + 1) f fd ["store"] spLWay := by
  refine T.F.ok scLWay (fun vs H Q E h => ?_) (fun cdv A outer s H vs Q E hr h => ?_)
  · obtain ⟨d, rfl, _⟩ := h
    rfl
  · obtain ⟨d, rfl, hd, q⟩ := h
    refine ⟨_, 
      (pss_one (ps_ret (pe_ix ix_list (pe_lst (pa_cons pe_str (pa_cons pe_str (pa_cons pe_str pa_nil)))) (pe_call G__law_take hr (by rfl) T__law_take.g T__law_take.F.kp T__law_take.b .nil pass0 (pa_cons (pv 0) (pa_cons pe_int pa_nil))) (fun _ _ => rfl)))), ?_⟩
    refine ⟨line_small (by show 3 ≤ 16777216; decide), fun t nt => ?_⟩
    have s1 := same_new (o := .lst [.str "swap", .str "spot", .str "shift"]) nt
    have ntd := hd.ne nt
    refine ⟨_, rfl, d, 3, rfl, hd.same s1, by decide, by decide, fun v H' v0 v1 hd' kp => ?_⟩
    have ht : H' t = some (.lst [.str "swap", .str "spot", .str "shift"]) := kp _ _ upd_same ntd
    obtain ⟨z, hz, ez⟩ : ∃ z : Str, IsWay z ∧ atI ([.str "swap", .str "spot", .str "shift"] : List V) v = some (.str z) := by
      have : v = 0 ∨ v = 1 ∨ v = 2 := by omega
      rcases this with rfl | rfl | rfl
      · exact ⟨"swap", .inl rfl, rfl⟩
      · exact ⟨"spot", .inr (.inl rfl), rfl⟩
      · exact ⟨"shift", .inr (.inr rfl), rfl⟩
    exact ⟨t, _, v, _, rfl, rfl, SqL.of ht, ez, q z H' hz hd' ((KeepD.of_same s1).trans kp)⟩
theorem valW2 (x y : V) {w : Str} (h : IsWay w) (z : V) : (valV (mergeK [] [((.inr "swap" : Key), x), (.inr "spot", y)]) (.inr w)).getD z = (if w = "swap" then x else if w = "spot" then y else z) := by
  have h12 : ¬ (Sum.inr ("swap" : Str) : Key) = .inr "spot" := by decide +kernel
  have h13 : ¬ (Sum.inr ("swap" : Str) : Key) = .inr "shift" := by decide +kernel
  have h23 : ¬ (Sum.inr ("spot" : Str) : Key) = .inr "shift" := by decide +kernel
  have e : mergeK [] [((.inr "swap" : Key), x), (.inr "spot", y)] = [((.inr "swap" : Key), x), (.inr "spot", y)] := by
    simp [mergeK, putK, h12]
  rw [e]
  rcases h with rfl | rfl | rfl
  · rw [valV_pos rfl, if_pos rfl]
    rfl
  · rw [valV_neg h12, valV_pos rfl, if_neg n1, if_pos rfl]
    rfl
  · rw [valV_neg h13, valV_neg h23, if_neg n2, if_neg n3]
    rfl
theorem scMost : FnScope ["way", "n"] ["way", "n"] (defScope s_law_most) := ⟨rfl, rfl, rfl, by decide +kernel, rfl, by decide +kernel, by decide +kernel⟩
theorem ok_most {f : Addr} {fd : FuncData} {k : Nat} (T : Df K mg "_law_most" s_law_most ["way", "n"] f fd) : FnOk P w K mg base CX0 (k + 1) f fd ["way", "n"] spMost := by
  refine T.F.ok scMost (fun vs H Q E h => ?_) (fun cdv A outer s H vs Q E hr h => ?_)
  · obtain ⟨z, n, rfl, _⟩ := h
    rfl
  · obtain ⟨z, n, rfl, hz, hn1, hn2, q⟩ := h
    refine ⟨_, 
      (pss_one (ps_ret (pe_dget2 (hu_of hr) (pe_disp (pps_cons pe_str (pe_op op_fdiv (pe_op op_mul (pv 1) (pe_op op_sub (pv 1) pe_int)) pe_int) (pps_cons pe_str (pv 1) pps_nil)) (by rfl) (by rfl) (fun z => by cases z) (by decide)) (pv 0) (pe_op op_sub (pv 1) pe_int) ⟨by rfl, by rfl, by rfl, by rfl⟩))), ?_⟩
    have hnn : 0 ≤ (n : Int) * ((n : Int) - 1) ∧ (n : Int) * ((n : Int) - 1) ≤ 12 * 11 := ⟨Int.mul_nonneg (by omega) (by omega), Int.mul_le_mul (by omega) (by omega) (by omega) (by decide)⟩
    refine fun p np => ⟨_, rfl, _, rfl, (n : Int), 1, rfl, rfl, (n : Int), _, rfl, rfl, .inl ⟨by omega, by omega⟩, _, 2, rfl, rfl, ⟨by decide, by decide⟩, _, rfl, upd_same, [(.inr "swap", _), (.inr "spot", _)], rfl, (by show 2 ≤ 15; decide), ?_⟩
    refine ⟨p, rfl, .inl ⟨_, .inl upd_same⟩, _, rfl, _, rfl, (n : Int), 1, rfl, rfl, _, DGet.k (k := .inr z) upd_same, ?_⟩
    rw [valW2 _ _ hz]
    have sm : Same H (upd (upd H p (.dK [])) p (.dK (mergeK [] [((.inr "swap" : Key), V.int ((n : Int) * ((n : Int) - 1) / 2)), (.inr "spot", V.int (n : Int))]))) := fun u o e => by rw [upd_ne (ne_of_none e np), upd_ne (ne_of_none e np)]; exact e
    rcases hz with rfl | rfl | rfl
    · rw [if_pos rfl]
      exact q _ _ (by omega) (by omega) sm
    · rw [if_neg n1, if_pos rfl]
      exact q _ _ (by omega) (by omega) sm
    · rw [if_neg n2, if_neg n3]
      exact q _ _ (by omega) (by omega) sm
theorem at2_of (b : Bool) (x y : V) : atI [x, y] (if b = true then 1 else 0) = some (if b = true then y else x) := by
  cases b <;> rfl
theorem scDist : FnScope ["store", "way", "n", "kind"] ["store", "way", "n"] (defScope s_law_distance) := ⟨rfl, rfl, rfl, by decide +kernel, rfl, by decide +kernel, by decide +kernel⟩
set_option maxHeartbeats 1000000 in
theorem ok_dist {f f1 f2 : Addr} {fd d1 d2 : FuncData} {k : Nat} (T : Df K mg "_law_distance" s_law_distance ["store", "way", "n"] f fd) (T__law_take : Df K mg "_law_take" s_law_take ["store", "many"] f1 d1) (T__law_most : Df K mg "_law_most" s_law_most ["way", "n"] f2 d2) (G__law_take : FnOk P w K mg base CX0 k f1 d1 ["store", "many"] spTake) (G__law_most : FnOk P w K mg base CX0 k f2 d2 ["way", "n"] spMost) (B : Bi mg) :
    FnOk P w K mg base CX0 (k + 1) f fd ["store", "way", "n"] spDist := by
  refine T.F.ok scDist (fun vs H Q E h => ?_) (fun cdv A outer s H vs Q E hr h => ?_)
  · obtain ⟨d, z, n, rfl, _⟩ := h
    rfl
  · obtain ⟨d, z, n, rfl, hd, hz, hn1, hn2, q⟩ := h
    refine ⟨_, 
      (pss_cons (ps_set (i := 3) scDist.nd rfl (.inl rfl) (pe_call G__law_take hr (by rfl) T__law_take.g T__law_take.F.kp T__law_take.b .nil pass0 (pa_cons (pv 0) (pa_cons pe_int pa_nil))))
      (pss_cons (ps_if (pt_cmpR op_eq (pv 3) pe_int (nomark _))
        (pss_one (ps_ret (pe_op op_add pe_int (pe_call G__law_take hr (by rfl) T__law_take.g T__law_take.F.kp T__law_take.b .nil pass0 (pa_cons (pv 0) (pa_cons (pe_op op_pow pe_int pe_int) pa_nil))))))
        pss_nil)
      (pss_one (ps_ret (pe_op op_add pe_int (pe_call G__law_take hr (by rfl) T__law_take.g T__law_take.F.kp T__law_take.b .nil pass0 (pa_cons (pv 0) (pa_cons (pe_ix ix_list (pe_lst (pa_cons pe_int (pa_cons (pe_op op_add (pe_call G__law_most hr (by rfl) T__law_most.g T__law_most.F.kp T__law_most.b .nil pass0 (pa_cons (pv 1) (pa_cons (pv 2) pa_nil))) pe_int) pa_nil))) (pe_callTy call_int1 (by rfl) B.int (by decide +kernel) (pa_cons (pe_cmpR op_gt (pv 3) pe_int (nomark _)) pa_nil)) (fun _ _ => rfl)) pa_nil)))))))), ?_⟩
    refine ⟨_, rfl, d, 8, rfl, hd, by decide, by decide, fun v1 H1 v10 v11 hd1 k1 => ?_⟩
    refine ⟨_, rfl, rfl, _, rfl, ite2 (fun _ => ?_) (fun _ => ?_)⟩
    · refine ⟨_, rfl, 10, 20, rfl, rfl, ⟨by decide, by decide, by decide⟩, d, _, rfl, hd1, by decide, by decide, fun v2 H2 v20 v21 hd2 k2 => ?_⟩
      exact ⟨1, _, rfl, rfl, q _ _ (by omega) hd2 (k1.trans k2)⟩
    · refine ⟨_, rfl, _, rfl, _, rfl, z, n, rfl, hz, hn1, hn2, fun mv H2 m0 m1 s2 => ?_⟩
      refine ⟨_, 2, rfl, rfl, line_small (by show 2 ≤ 16777216; decide), fun t nt => ?_⟩
      have s3 := same_new (o := .lst [.int 3, .int (mv + 2)]) nt
      refine ⟨_, rfl, v1, 2, rfl, rfl, .inr ⟨_, rfl, t, _, _, _, rfl, rfl, SqL.of upd_same, at2_of _ _ _, ?_⟩⟩
      have hb : ∃ mm : Int, (if decide (2 < v1) = true then V.int (mv + 2) else V.int 3) = V.int mm ∧ 0 < mm ∧ mm ≤ 1000 := by
        cases decide (2 < v1) with
        | true => exact ⟨mv + 2, if_pos rfl, by omega, by omega⟩
        | false => exact ⟨3, if_neg Bool.false_ne_true, by decide, by decide⟩
      obtain ⟨mm, emm, mm0, mm1⟩ := hb
      rw [emm]
      refine ⟨d, mm, rfl, (hd1.same s2).same s3, mm0, by omega, fun v2 H4 v20 v21 hd4 k4 => ?_⟩
      exact ⟨1, _, rfl, rfl, q _ _ (by omega) hd4 (k1.trans ((KeepD.of_same (s2.trans s3)).trans k4))⟩
end
end Fo
namespace L2
open PySem PySem.Spec PyProof.Rows PySem.W
/-! first, *others = a list -/
section
variable {X : Cx} {pos : Pos}
theorem pgs_star {e : Expr} {es : List Expr} {p : Pos} {t : TG} {u : TGs} (h1 : PG X e t) (h2 : PGs X es u)
    (hs : (assignEach (.Starred e p :: es) X.env).map (·.2) = assign e X.env :: (assignEach es X.env).map (·.2) := by rfl) : PGs X (.Starred e p :: es) (gCons t u) := by
  refine ⟨fun pins s σ H vs us Q I r h => ?_⟩
  obtain ⟨v, vr, e1, h⟩ := h
  subst e1
  cases r with
  | cons r rr =>
    rw [hs]
    refine assignInOrder_cons (thn (h1.run pins s σ H _ _ _ I r h) fun _ s1 ⟨σ1, H1, I1, q1⟩ => ?_)
    exact h2.run pins s1 σ1 H1 _ _ Q I1 rr q1
def gStar1 (K : PySem.W.Frag) (t : TGs) : TG := fun v σ H Q => ∃ a x xs, v = .ref a ∧ SqL K H a (x :: xs) ∧ xs.length < 16384 ∧ ∀ D, H D = none → t [x, .ref D] σ (upd H D (.lst xs)) Q
theorem pg_star1 {e1 e2 : Expr} {p : Pos} {k : Nat} {t : TGs} (hc : X.calm = true) (h : PGs X [e1, .Starred e2 p] t)
    (hn : (assignEach [e1, .Starred e2 p] X.env).length = 2 := by rfl) (hst : (assignEach [e1, .Starred e2 p] X.env).findIdx? (·.1) = some 1 := by rfl) : PG X (.Tuple [e1, .Starred e2 p] k pos) (gStar1 X.K t) := by
  refine ⟨fun pins s σ H v u Q I r hw => ?_⟩
  obtain ⟨a, x, xs, e0, hq, hz, hw⟩ := hw
  subst e0
  cases r
  obtain ⟨its, rv, pl, _⟩ := I.list hq
  cases rv with
  | cons r0 rr =>
    rename_i ux uxs
    have hh : X.A.handled = none := I.ok.hd hc
    have hl : s.heap.IsList a (ux :: uxs).toArray := by
      obtain ⟨o, m, e, c, d, q⟩ := pl
      exact ⟨o, e, c, m, q⟩
    have hlen : uxs.length = xs.length := rr.length.symm
    rw [PyProof.Rows.assign_Tuple]
    refine wpAny_bind (wpAny_standAt ?_)
    unfold unpack
    rw [hn, hst]
    refine wpAny_bind (wpAny_holding ?_)
    have hlt : a ≠ s.heap.objs.size := by obtain ⟨o, ho, _⟩ := hl; exact Nat.ne_of_lt (Heap.lt_size ho)
    unfold unpackItems
    refine wpAny_bind ?_
    unfold notIterableAtAll
    refine wpAny_bind (wpAny_specialOf hl.typeIs slot_list_iter.lookup ?_)
    refine wpAny_pure ?_
    simp only [Bool.false_eq_true, if_false]
    refine wpAny_bind (wpAny_holding (wpAny_pyIter_list hl ?_))
    have hsz : (ux :: uxs).toArray.size = uxs.length + 1 := by simp
    refine wpAny_bind (wpAny_holding (kun_draw hlt 1 0 _ _ ⟨_, Heap.get?_push_size _ rfl, rfl, rfl⟩ (hl.push _) (by omega) fun h₁ hit₁ hs₁ => ?_))
    have hl₁ : h₁.IsList a (ux :: uxs).toArray := (hl.push _).extBut hs₁.extBut hlt
    rw [Nat.zero_add] at hit₁
    have hit₁' := hit₁
    obtain ⟨oi, hoi, _⟩ := hit₁'
    have hl₁' := hl₁
    obtain ⟨ol, hol, _⟩ := hl₁'
    rw [List.drop_zero]
    show wpAny _ _ (if ([ux] : List Value).length < 1 then _ else _) _ _ _
    rw [if_neg (by simp)]
    refine wpAny_bind (wpAny_holding (kun_collect (s := { s with heap := h₁ }) (T := "list_iterator") (.inr (.inr (.inl rfl))) (Walks.list (A := X.A.in1) hh s.heap.objs.size a hlt (ux :: uxs).toArray) (fun j u st => st.1.typeIs) (k := 1) (by omega) ⟨hit₁, hl₁⟩ (Heap.lt_size hoi) (Heap.lt_size hol) (fun h₂ tk hk => ?_) (by rw [sizeLine_eq]; omega)))
    show wpAny _ _ (if uxs.length < 2 - 1 - 1 then _ else _) _ _ _
    rw [if_neg (by omega)]
    show wpAny _ _ (newList (uxs.take (uxs.length - 0)) >>= fun d => pure ([ux] ++ [d] ++ uxs.drop (uxs.length - 0))) _ _ _
    rw [Nat.sub_zero, List.take_length, List.drop_length]
    have he : ∀ b o, s.heap.get? b = some o → h₂.get? b = some o := fun b o e => by
      have hb : b ≠ s.heap.objs.size := Nat.ne_of_lt (Heap.lt_size e)
      exact hk b o hb (hs₁.extBut b o hb (Heap.get?_push_of_some _ e))
    have I1 : Inv X pins σ H { s with heap := h₂, toks := tk } := I.kept he
    refine wpAny_bind (wpAny_newList ?_ (by rw [sizeLine_eq]; omega))
    refine wpAny_pure ?_
    have I2 : Inv X pins σ (upd H h₂.objs.size (.lst xs)) { s with heap := h₂.push (seqObj "list" uxs.toArray 0), toks := tk } :=
      I1.laid (t' := tk) (fun b u e => Heap.get?_push_of_some _ e) (Nat.le_refl _)
        (show ObjOk X.prog X.w _ _ _ (.lst xs) from ⟨by rw [sizeLine_eq]; omega, uxs, 0, rr, Heap.get?_push_size _ rfl⟩)
    exact h.run pins _ σ _ [x, .ref h₂.objs.size] [ux, .ref h₂.objs.size] Q I2 (.cons r0 (.cons rfl .nil)) (hw _ (I1.hok.fresh (Nat.le_refl _)))
end
end L2
namespace Fo
open PySem PySem.Spec PyProof.Rows L2
/-! the longest list that lies apart -/
def ApL (w : Str) (d : Int) (rs : List (List Int)) : Prop := rs.Pairwise fun a b => d ≤ farW w a b
def farO (w : Str) (d : Int) (o : List Int) (rs : List (List Int)) : List (List Int) := rs.filter fun x => decide (d ≤ farW w o x)
theorem apL_cons {w : Str} {d : Int} {o : List Int} {s rs : List (List Int)} (hs : s.Sublist (farO w d o rs)) (h : ApL w d s) : ApL w d (o :: s) :=
  List.pairwise_cons.mpr ⟨fun x m => of_decide_eq_true (List.mem_filter.mp (hs.subset m)).2, h⟩
theorem apL_sub {w : Str} {d : Int} {o : List Int} {s rs : List (List Int)} (hs : s.Sublist rs) (h : ApL w d (o :: s)) : s.Sublist (farO w d o rs) := by
  have h1 := (List.pairwise_cons.mp h).1
  have e : s.filter (fun x => decide (d ≤ farW w o x)) = s := List.filter_eq_self.mpr fun x m => decide_eq_true (h1 x m)
  rw [← e]
  exact hs.filter _
/-- what a search comes to -/
structure LfR (w : Str) (d : Int) (taken rest best b : List (List Int)) : Prop where
  one : b = best ∨ ∃ s, s.Sublist rest ∧ ApL w d s ∧ b = taken ++ s
  le : best.length ≤ b.length
  most : ∀ s, s.Sublist rest → ApL w d s → taken.length + s.length ≤ b.length
/-- what it has come to ahead of place i -/
structure LfI (w : Str) (d : Int) (taken rest best : List (List Int)) (i : Nat) (b : List (List Int)) : Prop where
  one : b = best ∨ ∃ s, s.Sublist rest ∧ ApL w d s ∧ b = taken ++ s
  le : best.length ≤ b.length
  tl : taken.length ≤ b.length
  most : ∀ s, s.Sublist rest → ApL w d s → taken.length + s.length ≤ b.length ∨ s.Sublist (rest.drop i)
section
variable {w : Str} {d : Int} {taken rest best b : List (List Int)}
theorem lf_start : LfI w d taken rest best 0 (if taken.length > best.length then taken else best) := by
  split
  · rename_i h
    exact ⟨.inr ⟨[], List.nil_sublist _, List.Pairwise.nil, (List.append_nil _).symm⟩, by omega, Nat.le_refl _, fun s hs _ => .inr (by rw [List.drop_zero]; exact hs)⟩
  · exact ⟨.inl rfl, Nat.le_refl _, by omega, fun s hs _ => .inr (by rw [List.drop_zero]; exact hs)⟩
theorem lf_stop {i : Nat} (h : LfI w d taken rest best i b) (hl : taken.length + rest.length ≤ b.length + i) : LfR w d taken rest best b := by
  refine ⟨h.one, h.le, fun s hs ha => ?_⟩
  rcases h.most s hs ha with h1 | h1
  · exact h1
  · have h2 := h1.length_le
    rw [List.length_drop] at h2
    have := h.tl
    omega
theorem lf_end (h : LfI w d taken rest best rest.length b) : LfR w d taken rest best b := lf_stop h (by have := h.tl; omega)
theorem lf_step {i : Nat} {o : List Int} {b' : List (List Int)} (h : LfI w d taken rest best i b) (ho : rest[i]? = some o) (r : LfR w d (taken ++ [o]) (farO w d o (rest.drop (i + 1))) b b') : LfI w d taken rest best (i + 1) b' := by
  have hi := (List.getElem?_eq_some_iff.mp ho).1
  have hd : rest.drop i = o :: rest.drop (i + 1) := by
    rw [List.drop_eq_getElem_cons hi]
    congr 1
    exact (List.getElem?_eq_some_iff.mp ho).2
  refine ⟨?_, Nat.le_trans h.le r.le, Nat.le_trans h.tl r.le, fun s hs ha => ?_⟩
  · rcases r.one with e | ⟨s, hs, ha, e⟩
    · rw [e]
      exact h.one
    · refine .inr ⟨o :: s, ?_, apL_cons hs ha, by rw [e, List.append_assoc]; rfl⟩
      have h1 : s.Sublist (rest.drop (i + 1)) := hs.trans List.filter_sublist
      have h2 : (o :: s).Sublist (rest.drop i) := by rw [hd]; exact h1.cons_cons o
      exact h2.trans (List.drop_sublist _ _)
  · rcases h.most s hs ha with h1 | h1
    · exact .inl (Nat.le_trans h1 r.le)
    · rw [hd] at h1
      cases h1 with
      | cons _ h1 => exact .inr h1
      | cons_cons _ h1 =>
        rename_i s'
        refine .inl ?_
        have h2 := r.most s' (apL_sub h1 ha) (List.pairwise_cons.mp ha).2
        rw [List.length_append] at h2
        simp only [List.length_cons, List.length_nil] at h2 ⊢
        omega
end
theorem apL_two {w : Str} {n : Nat} {d : Int} (hn : 1 ≤ n) : ∀ {rs : List (List Int)}, (∀ r ∈ rs, IsOrd n r) → ApL w d rs → ∀ x ∈ rs, ∀ y ∈ rs, x ≠ y → d ≤ farW w x y
  | [], _, _, x, hx, _, _, _ => absurd hx List.not_mem_nil
  | a :: rs, ho, h, x, hx, y, hy, ne => by
    obtain ⟨h1, h2⟩ := List.pairwise_cons.mp h
    have oa := ho a List.mem_cons_self
    rcases List.mem_cons.mp hx with e | hx
    · rcases List.mem_cons.mp hy with e2 | hy
      · exact absurd (e.trans e2.symm) ne
      · rw [e]; exact h1 y hy
    · rcases List.mem_cons.mp hy with e | hy
      · rw [e, farW_turn oa (ho x (List.mem_cons_of_mem _ hx)) hn]
        exact h1 x hx
      · exact apL_two hn (fun r m => ho r (List.mem_cons_of_mem _ m)) h2 x hx y hy ne
theorem apL_nodup {w : Str} {n : Nat} {d : Int} {rs : List (List Int)} (hn : 1 ≤ n) (hd : 1 ≤ d) (ho : ∀ r ∈ rs, IsOrd n r) (h : ApL w d rs) : rs.Nodup := by
  refine List.Pairwise.imp_of_mem (fun {a b} ma mb h e => ?_) h
  have := farW_self (w := w) (ho b mb) hn
  rw [e] at h
  omega
theorem apL_of {w : Str} {d : Int} {rs : List (List Int)} (nd : rs.Nodup) (h : ∀ x ∈ rs, ∀ y ∈ rs, x ≠ y → d ≤ farW w x y) : ApL w d rs := List.Pairwise.imp_of_mem (fun {a b} ma mb ne => h a ma b mb ne) nd
/-- all of it called otherwise, the first one as 0, 1, .. -/
theorem called_far {w : Str} {n : Nat} {z x y : List Int} (hw : IsWay w) (hn : 1 ≤ n) (oz : IsOrd n z) (ox : IsOrd n x) (oy : IsOrd n y) : farW w (behindL z x) (behindL z y) = farW w x y := by
  have hb : IsOrd n ((rg n).map fun t => g0 z t) := by
    have e : (rg n).map (fun t => g0 z t) = z := by
      have h := by_places z
      rw [oz.len] at h
      exact h.symm
    rw [e]
    exact oz
  exact farW_called (r := fun t => g0 z t) hw ox oy (behind_ord oz ox) (behind_ord oz oy) hn hb (behind_pos oz ox) (behind_pos oz oy)
theorem longest_most {w : Str} {n : Nat} {d : Int} {tl b : List (List Int)} (hw : IsWay w) (hn : 1 ≤ n) (hd : 1 ≤ d) (hk : allK n n = rg n :: tl) (r : LfR w d [rg n] (farO w d (rg n) tl) [] b) :
    (∀ x ∈ b, IsOrd n x) ∧ ApL w d b ∧ 1 ≤ b.length ∧ ∀ ss, (∀ x ∈ ss, IsOrd n x) → ApL w d ss → ss.length ≤ b.length := by
  have h1 : 1 ≤ b.length := by
    have := r.most [] (List.nil_sublist _) List.Pairwise.nil
    simpa using this
  have or : ∀ x ∈ rg n :: tl, IsOrd n x := fun x m => all_ord (by rw [hk]; exact m)
  have hb : ∃ s, s.Sublist (farO w d (rg n) tl) ∧ ApL w d s ∧ b = [rg n] ++ s := by
    rcases r.one with e | e
    · rw [e] at h1
      exact absurd h1 (by decide)
    · exact e
  obtain ⟨s, hs, ha, rfl⟩ := hb
  refine ⟨fun x m => ?_, apL_cons hs ha, h1, fun ss os as => ?_⟩
  · rcases List.mem_cons.mp m with rfl | m
    · exact or _ List.mem_cons_self
    · exact or x (List.mem_cons_of_mem _ (List.mem_filter.mp (hs.subset m)).1)
  cases ss with
  | nil => exact Nat.zero_le _
  | cons a t =>
    have oa := os a List.mem_cons_self
    have ot : ∀ x ∈ t, IsOrd n x := fun x m => os x (List.mem_cons_of_mem _ m)
    have bk := back_is oa
    have oz := back_ord oa bk
    obtain ⟨z, hz⟩ : ∃ z, z = (rg n).map (pos a) := ⟨_, rfl⟩
    rw [← hz] at bk oz
    have ez : behindL z a = rg n := behind_back oz (back_back oa bk)
    have nd := apL_nodup hn hd os as
    obtain ⟨nda, ndt⟩ := List.nodup_cons.mp nd
    have og : ∀ x ∈ t, IsOrd n (behindL z x) := fun x m => behind_ord oz (ot x m)
    have far1 : ∀ x ∈ t, d ≤ farW w (rg n) (behindL z x) := fun x m => by
      rw [← ez, called_far hw hn oz oa (ot x m)]
      exact (List.pairwise_cons.mp as).1 x m
    have hall := allK_nodup (n := n) n
    rw [hk] at hall
    have ndF : (farO w d (rg n) tl).Nodup := (List.nodup_cons.mp hall).2.filter _
    have hm : ∀ x ∈ t, behindL z x ∈ farO w d (rg n) tl := fun x m => by
      refine List.mem_filter.mpr ⟨?_, decide_eq_true (far1 x m)⟩
      have h := ord_mem (og x m)
      rw [hk] at h
      rcases List.mem_cons.mp h with e | h
      · have h2 := far1 x m
        rw [e, farW_self (show IsOrd n (rg n) from List.Perm.refl _) hn] at h2
        omega
      · exact h
    have ndg : (t.map (behindL z)).Nodup := by
      show List.Pairwise _ _
      rw [List.pairwise_map]
      exact ndt.imp_of_mem fun ma mb h e => h (behind_inj oz (ot _ ma) (ot _ mb) e)
    let s' := (farO w d (rg n) tl).filter fun x => decide (x ∈ t.map (behindL z))
    have nds : s'.Nodup := ndF.filter _
    have ms : ∀ x, x ∈ s' ↔ x ∈ t.map (behindL z) := fun x => by
      constructor
      · exact fun h => of_decide_eq_true (List.mem_filter.mp h).2
      · intro h
        obtain ⟨y, my, rfl⟩ := List.mem_map.mp h
        exact List.mem_filter.mpr ⟨hm y my, decide_eq_true h⟩
    have pl : s'.length = t.length := by
      have := (nodup_perm nds ndg ms).length_eq
      rw [List.length_map] at this
      exact this
    have as' : ApL w d s' := apL_of nds fun x hx y hy ne => by
      obtain ⟨u, mu, rfl⟩ := List.mem_map.mp ((ms x).mp hx)
      obtain ⟨v, mv, rfl⟩ := List.mem_map.mp ((ms y).mp hy)
      rw [called_far hw hn oz (ot u mu) (ot v mv)]
      exact apL_two hn ot (List.pairwise_cons.mp as).2 u mu v mv fun e => ne (by rw [e])
    have := r.most s' List.filter_sublist as'
    rw [pl] at this
    simp only [List.length_cons, List.length_nil] at this ⊢
    omega
end Fo
namespace Fo
open PySem PySem.Spec PyProof.Rows L2
/-- what a search tells, reckoned -/
def lfGo (rec : List Int → List (List Int) → List (List Int) → List (List Int)) (t : Nat) : List (List Int) → List (List Int) → List (List Int)
  | [], b => b
  | o :: r, b => if t + (r.length + 1) ≤ b.length then b else lfGo rec t r (rec o r b)
def lfF (w : Str) (d : Int) : Nat → List (List Int) → List (List Int) → List (List Int) → List (List Int)
  | 0, _, _, b => b
  | N + 1, t, r, b => lfGo (fun o r b => lfF w d N (t ++ [o]) (farO w d o r) b) t.length r (if t.length > b.length then t else b)
def longF (w : Str) (n : Nat) (d : Int) : List (List Int) := lfF w d 24 [rg n] (farO w d (rg n) (allK n n).tail) []
theorem lfGo_at {rec : List Int → List (List Int) → List (List Int) → List (List Int)} {t : Nat} {rs b : List (List Int)} {i : Nat} {o : List Int} (h : rs[i]? = some o) : lfGo rec t (rs.drop i) b = if t + (rs.length - i) ≤ b.length then b else lfGo rec t (rs.drop (i + 1)) (rec o (rs.drop (i + 1)) b) := by
  have hi := (List.getElem?_eq_some_iff.mp h).1
  have hd : rs.drop i = o :: rs.drop (i + 1) := by
    rw [List.drop_eq_getElem_cons hi]
    congr 1
    exact (List.getElem?_eq_some_iff.mp h).2
  rw [hd, lfGo, List.length_drop]
  rw [show rs.length - (i + 1) + 1 = rs.length - i by omega]
def spFarOnes : Sp := fun vs H Q _ => ∃ (w : Str) (d : Int) (a l : Addr) (n : Nat) (xs : List Int) (bs : List Addr) (rs : List (List Int)), vs = [.str w, .int d, .ref a, .ref l] ∧ IsWay w ∧ H a = some (.lst (xs.map V.int)) ∧ IsOrd n xs ∧ 1 ≤ n ∧ n ≤ 12 ∧ H l = some (.lst (bs.map V.ref)) ∧ LL H bs rs ∧ (∀ r ∈ rs, IsOrd n r) ∧ rs.length ≤ 1000 ∧
  ∀ (l' : Addr) (as' : List Addr) (H' : Hp), H l' = none → H' l' = some (.lst (as'.map V.ref)) → as'.Sublist bs → LL H' as' (farO w d xs rs) → Same H H' → Q (.ref l') H'
/-- a search of which fewer than N are left -/
def spLF (N : Nat) : Sp := fun vs H Q _ => ∃ (w : Str) (d : Int) (t r b : Addr) (n : Nat) (ta ra ba : List Addr) (ts rs bs : List (List Int)), vs = [.str w, .int d, .ref t, .ref r, .ref b] ∧ IsWay w ∧ 1 ≤ n ∧ n ≤ 12 ∧ H t = some (.lst (ta.map V.ref)) ∧ LL H ta ts ∧ H r = some (.lst (ra.map V.ref)) ∧ LL H ra rs ∧ H b = some (.lst (ba.map V.ref)) ∧ LL H ba bs ∧ (∀ x ∈ rs, IsOrd n x) ∧ rs.length < N ∧ ts.length + rs.length ≤ 1000 ∧
  ∀ (l : Addr) (as : List Addr) (ss : List (List Int)) (H' : Hp), (l = t ∨ l = b ∨ H l = none) → (∀ x ∈ as, x ∈ ta ∨ x ∈ ra ∨ x ∈ ba) → H' l = some (.lst (as.map V.ref)) → LL H' as ss → LfR w d ts rs bs ss → ss = lfF w d N ts rs bs → Same H H' → Q (.ref l) H'
def spLongD : Sp := fun vs H Q _ => ∃ (w : Str) (n : Nat) (d : Int), vs = [.str w, .int n, .int d] ∧ IsWay w ∧ 1 ≤ n ∧ n ≤ 4 ∧ 1 ≤ d ∧
  ∀ (l : Addr) (as : List Addr) (ss : List (List Int)) (H' : Hp), H l = none → (∀ x ∈ as, H x = none) → H' l = some (.lst (as.map V.ref)) → LL H' as ss → (∀ x ∈ ss, IsOrd n x) → ApL w d ss → 1 ≤ ss.length → (∀ us, (∀ x ∈ us, IsOrd n x) → ApL w d us → us.length ≤ ss.length) → (∃ s, ss = rg n :: s) → ss = longF w n d → Same H H' → Q (.ref l) H'
theorem allK_head : ∀ n, n ≤ 4 → 1 ≤ n → ∃ tl, allK n n = rg n :: tl ∧ tl.length < 24 := by
  have h : ∀ n, n ≤ 4 → 1 ≤ n → (allK n n).head? = some (rg n) ∧ (allK n n).length ≤ 24 := by decide +kernel
  intro n h4 h1
  obtain ⟨a, b⟩ := h n h4 h1
  match hk : allK n n, a, b with
  | x :: tl, a, b => exact ⟨tl, by rw [Option.some.inj a], by rw [List.length_cons] at b; omega⟩
theorem far_more {w : Str} {d : Int} {o x : List Int} {rs : List (List Int)} {i : Nat} (h : rs[i]? = some x) : farO w d o (rs.take (i + 1)) = farO w d o (rs.take i) ++ (if d ≤ farW w o x then [x] else []) := by
  unfold farO
  rw [List.take_add_one, h, List.filter_append]
  congr 1
  show List.filter _ [x] = _
  rw [List.filter_cons]
  by_cases c : d ≤ farW w o x
  · rw [if_pos (decide_eq_true c), if_pos c]; rfl
  · rw [if_neg (fun z => c (of_decide_eq_true z)), if_neg c]; rfl
section
variable {P : Program} {w : World} {K : PySem.W.Frag} {mg : Str → Option Value} {base : Heap}
theorem scFO : FnScope ["way", "d", "order", "others", "other"] ["way", "d", "order", "others"] (defScope s_far_ones) := ⟨rfl, rfl, rfl, by decide +kernel, rfl, by decide +kernel, by decide +kernel⟩
set_option maxHeartbeats 2000000 in
theorem ok_farOnes {f f1 : Addr} {fd d1 : FuncData} {k : Nat} (T : Df K mg "far_ones" s_far_ones ["way", "d", "order", "others"] f fd) (T_known_far : Df K mg "known_far" s_known_far ["way", "one", "other"] f1 d1) (G_known_far : FnOk P w K mg base CX0 k f1 d1 ["way", "one", "other"] spFar) (B : Bi mg) : FnOk P w K mg base CX0 (k + 1) f fd ["way", "d", "order", "others"] spFarOnes := by
  refine T.F.ok scFO (fun vs H Q E h => ?_) (fun cdv A outer s H vs Q E hr h => ?_)
  · obtain ⟨z, d, a, l, n, xs, bs, rs, rfl, _⟩ := h
    rfl
  · obtain ⟨z, d, a, l, n, xs, bs, rs, rfl, hz, ha, ox, hn1, hn2, hl, hL, ho, hlen, q⟩ := h
    have hbl := hL.len
    refine ⟨_, 
      (pss_one (ps_ret (pe_lc (own := [("other", 4)]) (g := (gName 4)) (tt := (tTest (tOp (rI0 fun i j => .bl (decide (j ≤ i))) (tCall spFar [] E0 (tCons (tVar 0) (tCons (tVar 2) (tCons (tVar 4) tNil)))) (tVar 1)))) (te := (tVar 4)) rfl scFO.nd (pi_list (pv 3)) (blkOk_by (N := ["way", "d", "order", "others", "other"]) (sc := defScope s_far_ones) (by decide +kernel)) (fun _ _ _ _ _ => (pg_name (i := 4) scFO.nd rfl (.inl rfl))) (fun _ _ _ _ _ => (pts_one (pt_cmpR op_ge (pe_call G_known_far hr (by rfl) T_known_far.g T_known_far.F.kp T_known_far.b .nil pass0 (pa_cons (pv 0) (pa_cons (pv 2) (pa_cons (pv 4) pa_nil)))) (pv 1) (nomark _)))) (fun _ _ _ _ _ => (pv 4))))), ?_⟩
    refine ⟨_, rfl, l, rfl, ⟨_, SqL.of hl⟩, fun p np => ?_⟩
    refine lc_list (K := K) (a := l) (xs := bs.map V.ref) (fun i G => ∃ cs : List Addr, G p = some (.lst (cs.map V.ref)) ∧ cs.Sublist (bs.take i) ∧ LL G cs (farO z d xs (rs.take i)) ∧ Same H G) ⟨[], upd_same, List.nil_sublist _, trivial, same_new np⟩ (fun i G _ hP => by obtain ⟨_, _, _, _, sm⟩ := hP; exact SqL.of (sm _ _ hl)) (fun i x G hx hP => ?_) (fun G hP => ?_)
    · obtain ⟨c0, ec, rfl⟩ := ref_at_inv hx
      obtain ⟨cs, hp, hsub, hLc, sm⟩ := hP
      obtain ⟨row, er, hc⟩ := (hL.same sm).get ec
      have hbl2 : cs.length ≤ 1000 := by
        have := hsub.length_le
        rw [List.length_take] at this
        omega
      refine ⟨rfl, _, rfl, _, rfl, _, rfl, z, a, c0, n, xs, row, rfl, hz, sm _ _ ha, hc, ox, ho row (List.mem_of_getElem? er), hn1, hn2, fun G4 s4 => ?_⟩
      have et : bs.take (i + 1) = bs.take i ++ [c0] := by rw [List.take_add_one, ec]; rfl
      refine ⟨_, rfl, _, _, rfl, rfl, _, rfl, ite2 (fun z2 => ?_) (fun z2 => ?_)⟩
      · replace z2 := of_decide_eq_true z2
        refine ⟨_, rfl, _, s4 _ _ hp, line_lt (by rw [List.length_map]; omega), cs ++ [c0], by rw [upd_same, List.map_append]; rfl, ?_, ?_, fun b o e => ?_⟩
        · rw [et]
          exact hsub.append (List.Sublist.refl _)
        · rw [far_more er, if_pos z2]
          refine LL.snoc ((hLc.same s4).keep fun u hu o e => ?_) ?_
          · obtain ⟨ob, eo⟩ := (hL.same (sm.trans s4)).tracked (List.mem_of_mem_take (hsub.subset hu))
            have nup : u ≠ p := fun y => by
              obtain ⟨ob2, eo2⟩ := hL.tracked (List.mem_of_mem_take (hsub.subset hu))
              rw [y, np] at eo2
              cases eo2
            rw [upd_ne nup]
            exact e
          · have ncp : c0 ≠ p := fun y => by
              obtain ⟨ob2, eo2⟩ := hL.tracked (List.mem_of_getElem? ec)
              rw [y, np] at eo2
              cases eo2
            rw [upd_ne ncp]
            exact s4 _ _ hc
        · rw [upd_ne (ne_of_none e np)]
          exact s4 _ _ (sm _ _ e)
      · refine ⟨cs, s4 _ _ hp, ?_, ?_, sm.trans s4⟩
        · rw [et]
          exact hsub.trans (List.sublist_append_left _ _)
        · rw [far_more er, if_neg (fun y => z2 (decide_eq_true y)), List.append_nil]
          exact hLc.same s4
    · obtain ⟨cs, hp, hsub, hLc, sm⟩ := hP
      rw [List.take_of_length_le (by rw [List.length_map]; omega)] at hLc
      exact q p cs G np hp (hsub.trans (List.take_sublist _ _)) hLc sm
theorem scLF : FnScope ["way", "d", "taken", "rest", "best", "place", "order", "far"] ["way", "d", "taken", "rest", "best"] (defScope s_longest_from) := ⟨rfl, rfl, rfl, by decide +kernel, rfl, by decide +kernel, by decide +kernel⟩
set_option maxHeartbeats 4000000 in
theorem ok_lf1 {f f1 : Addr} {fd d1 : FuncData} {k N : Nat} (T_longest_from : Df K mg "longest_from" s_longest_from ["way", "d", "taken", "rest", "best"] f fd) (T_far_ones : Df K mg "far_ones" s_far_ones ["way", "d", "order", "others"] f1 d1) (G_far_ones : FnOk P w K mg base CX0 k f1 d1 ["way", "d", "order", "others"] spFarOnes) (G_longest_from : FnOk P w K mg base CX0 k f fd ["way", "d", "taken", "rest", "best"] (spLF N)) (B : Bi mg) : FnOk P w K mg base CX0 (k + 1) f fd ["way", "d", "taken", "rest", "best"] (spLF (N + 1)) := by
  refine T_longest_from.F.ok scLF (fun vs H Q E h => ?_) (fun cdv A outer s H vs Q E hr h => ?_)
  · obtain ⟨z, d, t, r, b, n, ta, ra, ba, ts, rs, bs, rfl, _⟩ := h
    rfl
  · obtain ⟨z, d, t, r, b, n, ta, ra, ba, ts, rs, bs, rfl, hz, hn1, hn2, ht, hTL, hr0, hRL, hb, hBL, ho, hN, hlen, q⟩ := h
    have lt := hTL.len
    have lr := hRL.len
    have lb := hBL.len
    refine ⟨_, 
      (Evl.pss_cut (ps_if (pt_cmpR op_gt (pe_callB call_len_seq (by rfl) B.len PySem.boot_len (pa_cons (pv 2) pa_nil)) (pe_callB call_len_seq (by rfl) B.len PySem.boot_len (pa_cons (pv 4) pa_nil)) (nomark _))
        (pss_one (ps_set (i := 4) scLF.nd rfl (.inl rfl) (pv 2)))
        pss_nil)
      (pss_cons (ps_for PassesOwn.never rfl (pi_enum (by rfl) B.enumerate (pa_cons (pv 3) pa_nil)) (pg_tup (by rfl) (pgs_cons (pg_name (i := 5) scLF.nd rfl (.inl rfl)) (pgs_cons (pg_name (i := 6) scLF.nd rfl (.inl rfl)) pgs_nil)))
        (pss_cons (ps_if (pt_cmpR op_le (pe_op op_sub (pe_op op_add (pe_callB call_len_seq (by rfl) B.len PySem.boot_len (pa_cons (pv 2) pa_nil)) (pe_callB call_len_seq (by rfl) B.len PySem.boot_len (pa_cons (pv 3) pa_nil))) (pv 5)) (pe_callB call_len_seq (by rfl) B.len PySem.boot_len (pa_cons (pv 4) pa_nil)) (nomark _))
          (pss_one (ps_ret (pv 4)))
          pss_nil)
        (pss_cons (ps_set (i := 7) scLF.nd rfl (.inl rfl) (pe_call G_far_ones hr (by rfl) T_far_ones.g T_far_ones.F.kp T_far_ones.b .nil pass0 (pa_cons (pv 0) (pa_cons (pv 1) (pa_cons (pv 6) (pa_cons (pe_slice sl_list (pv 3) (po_some (pe_op op_add (pv 5) pe_int)) po_none) pa_nil))))))
        (pss_one (ps_set (i := 4) scLF.nd rfl (.inl rfl) (pe_call G_longest_from hr (by rfl) T_longest_from.g T_longest_from.F.kp T_longest_from.b .nil pass0 (pa_cons (pv 0) (pa_cons (pv 1) (pa_cons (pe_op op_cat (pv 2) (pe_lst (pa_cons (pv 6) pa_nil))) (pa_cons (pv 7) (pa_cons (pv 4) pa_nil)))))))))))
      (pss_one (ps_ret (pv 4))))), ?_⟩
    -- best
    refine ⟨fun τ G => ∃ (b0 : Addr) (b0a : List Addr) (b0s : List (List Int)), τ = [some (.str z), some (.int d), some (.ref t), some (.ref r), some (.ref b0), none, none, none] ∧ (b0 = t ∨ b0 = b) ∧ (∀ x ∈ b0a, x ∈ ta ∨ x ∈ ba) ∧ H b0 = some (.lst (b0a.map V.ref)) ∧ LL H b0a b0s ∧ LfI z d ts rs bs 0 b0s ∧ b0s = (if ts.length > bs.length then ts else bs) ∧ G = H, ?_, fun τ G hM => ?_⟩
    · refine ⟨_, rfl, t, _, rfl, .inl (SqL.of ht), _, rfl, b, _, rfl, .inl (SqL.of hb), _, _, rfl, rfl, _, rfl, ite2 (fun c => ?_) (fun c => ?_)⟩
      · replace c := of_decide_eq_true c
        rw [List.length_map, List.length_map] at c
        have hs := lf_start (w := z) (d := d) (taken := ts) (rest := rs) (best := bs)
        rw [if_pos (by omega)] at hs
        exact ⟨_, rfl, t, ta, ts, rfl, .inl rfl, fun x m => .inl m, ht, hTL, hs, by rw [if_pos (by omega)], rfl⟩
      · have c' : ¬ ts.length > bs.length := fun y => c (decide_eq_true (by rw [List.length_map, List.length_map]; omega))
        have hs := lf_start (w := z) (d := d) (taken := ts) (rest := rs) (best := bs)
        rw [if_neg c'] at hs
        exact ⟨b, ba, bs, rfl, .inr rfl, fun x m => .inr m, hb, hBL, hs, by rw [if_neg c'], rfl⟩
    obtain ⟨b0, b0a, b0s, rfl, hb0, hb0a, hbb, hBB, hI, eb0, rfl⟩ := hM
    obtain ⟨fin, hfin⟩ : ∃ fin, fin = lfF z d (N + 1) ts rs bs := ⟨_, rfl⟩
    have hst : lfGo (fun o r b => lfF z d N (ts ++ [o]) (farO z d o r) b) ts.length (rs.drop 0) b0s = fin := by rw [List.drop_zero, hfin, eb0]; rfl
    refine ⟨_, rfl, r, _, rfl, SqL.of hr0, ?_⟩
    refine for_enumL (K := K) (a := r) (xs := ra.map V.ref) (fun i σ H1 => ∃ (y5 y6 y7 : Option V) (c : Addr) (ca : List Addr) (cs : List (List Int)), σ = [some (.str z), some (.int d), some (.ref t), some (.ref r), some (.ref c), y5, y6, y7] ∧ (c = t ∨ c = b ∨ G c = none) ∧ (∀ x ∈ ca, x ∈ ta ∨ x ∈ ra ∨ x ∈ ba) ∧ H1 c = some (.lst (ca.map V.ref)) ∧ LL H1 ca cs ∧ LfI z d ts rs bs i cs ∧ lfGo (fun o r b => lfF z d N (ts ++ [o]) (farO z d o r) b) ts.length (rs.drop i) cs = fin ∧ Same G H1) ⟨_, _, _, b0, b0a, b0s, rfl, hb0.imp id .inl, fun x m => (hb0a x m).imp id .inr, hbb, hBB, hI, hst, Same.refl G⟩ (fun i σ H1 hP => by obtain ⟨_, _, _, _, _, _, _, _, _, _, _, _, _, sm⟩ := hP; exact SqL.of (sm _ _ hr0)) (fun i x T2 σ H1 hx hP nT => ?_) (fun σ H1 hP => ?_)
    · obtain ⟨y5, y6, y7, c, ca, cs, rfl, hc0, hca, hc, hCL, hI, hgo, sm⟩ := hP
      obtain ⟨c0, ec, rfl⟩ := ref_at_inv hx
      have s1 := same_new (o := .tup [.int (i : Nat), .ref c0]) nT
      have sm1 := sm.trans s1
      obtain ⟨row, er, hrow⟩ := (hRL.same sm1).get ec
      have hi := (List.getElem?_eq_some_iff.mp er).1
      have lc := hCL.len
      refine ⟨T2, _, rfl, .inl (.inl upd_same), rfl, _, _, rfl, _, _, rfl, rfl, ?_⟩
      have hc1 := s1 _ _ hc
      refine ⟨_, rfl, t, _, rfl, .inl (SqL.of (sm1 _ _ ht)), _, rfl, r, _, rfl, .inl (SqL.of (sm1 _ _ hr0)), _, _, rfl, rfl, _, rfl, _, _, rfl, rfl, _, rfl, c, _, rfl, .inl (SqL.of hc1), _, _, rfl, rfl, _, rfl, ite2 (fun z2 => ?_) (fun z3 => ?_)⟩
      · replace z2 := of_decide_eq_true z2
        simp only [List.length_map] at z2
        refine ⟨_, rfl, ?_⟩
        exact q c ca cs _ hc0 hca hc1 (hCL.same s1) (lf_stop hI (by omega)) (by rw [← hfin, ← hgo, lfGo_at er, if_pos (by omega)]) sm1
      have hgo' : lfGo (fun o r b => lfF z d N (ts ++ [o]) (farO z d o r) b) ts.length (rs.drop (i + 1)) (lfF z d N (ts ++ [row]) (farO z d row (rs.drop (i + 1))) cs) = fin := by
        rw [← hgo, lfGo_at er, if_neg]
        intro y
        refine z3 (decide_eq_true ?_)
        simp only [List.length_map]
        omega
      -- those behind it that are far
      refine ⟨_, rfl, _, rfl, _, rfl, _, rfl, _, rfl, (i : Int), 1, rfl, rfl, _, rfl, r, _, rfl, SqL.of (sm1 _ _ hr0), fun u nu => ?_⟩
      rw [show (i : Int) + 1 = ((i + 1 : Nat) : Int) by omega, cutV_tail, ← List.map_drop]
      have s2 := same_new (o := .lst ((ra.drop (i + 1)).map V.ref)) nu
      have sm2 := sm1.trans s2
      have hRd : LL _ (ra.drop (i + 1)) (rs.drop (i + 1)) := LL.dropN (i + 1) (hRL.same sm2)
      refine ⟨z, d, c0, u, n, row, _, _, rfl, hz, s2 _ _ hrow, ho row (List.mem_of_getElem? er), hn1, hn2, upd_same, hRd, fun x m => ho x (List.mem_of_mem_drop m), by rw [List.length_drop]; omega, fun fl fa H3 nfl hfl hfa hFL s3 => ?_⟩
      have sm3 := sm2.trans s3
      -- further
      refine ⟨_, rfl, _, rfl, _, rfl, _, rfl, line_small (by show 1 ≤ 16777216; decide), fun v nv => ?_⟩
      have s4 := same_new (o := .lst [.ref c0]) nv
      refine ⟨t, v, _, _, rfl, rfl, (sm3.trans s4) _ _ ht, upd_same, line_small (by rw [List.length_map]; show _ + 1 ≤ 16777216; omega), fun v2 nv2 => ?_⟩
      have s5 := same_new (o := .lst (ta.map V.ref ++ [.ref c0])) nv2
      have s45 := s4.trans s5
      have sm5 := sm3.trans s45
      have hv2 : (upd (upd H3 v (.lst [.ref c0])) v2 (.lst (ta.map V.ref ++ [.ref c0]))) v2 = some (.lst ((ta ++ [c0]).map V.ref)) := by rw [upd_same, List.map_append]; rfl
      have hrow5 := ((s2.trans s3).trans s45) _ _ hrow
      have hc5 := ((s2.trans s3).trans s45) _ _ hc1
      have hC5 := (hCL.same s1).same ((s2.trans s3).trans s45)
      refine ⟨_, rfl, _, rfl, ?_⟩
      have lf2 : (farO z d row (rs.drop (i + 1))).length ≤ rs.length - (i + 1) := by
        have := List.length_filter_le (fun x => decide (d ≤ farW z row x)) (rs.drop (i + 1))
        rw [List.length_drop] at this
        exact this
      have lts := hTL.len
      refine ⟨z, d, v2, fl, c, n, ta ++ [c0], fa, ca, ts ++ [row], farO z d row (rs.drop (i + 1)), cs, rfl, hz, hn1, hn2, hv2, LL.snoc (hTL.same sm5) hrow5, s45 _ _ hfl, hFL.same s45, hc5, hC5, fun x m => ho x (List.mem_of_mem_drop (List.mem_filter.mp m).1), by omega, by rw [List.length_append]; show ts.length + 1 + _ ≤ 1000; omega, fun l as ss H6 hl has hl6 hL6 hR ess s6 => ?_⟩
      refine ⟨_, _, _, l, as, ss, rfl, ?_, fun x m => ?_, hl6, hL6, lf_step hI er hR, by rw [ess]; exact hgo', sm5.trans s6⟩
      · rcases hl with rfl | rfl | h
        · exact .inr (.inr ((sm3.trans s4).free nv2))
        · exact hc0
        · exact .inr (.inr (sm5.free h))
      · rcases has x m with h | h | h
        · rcases List.mem_append.mp h with h | h
          · exact .inl h
          · rw [List.mem_singleton.mp h]
            exact .inr (.inl (List.mem_of_getElem? ec))
        · exact .inr (.inl (List.mem_of_mem_drop (hfa.subset h)))
        · exact hca x h
    · obtain ⟨y5, y6, y7, c, ca, cs, rfl, hc0, hca, hc, hCL, hI, hgo, sm⟩ := hP
      rw [List.length_map, lr] at hI hgo
      exact ⟨_, rfl, q c ca cs _ hc0 hca hc hCL (lf_end hI) (by rw [← hfin, ← hgo, List.drop_length]; rfl) sm⟩
theorem fn_lf0 {f : Addr} {fd : FuncData} {k : Nat} : FnOk P w K mg base CX0 k f fd ["way", "d", "taken", "rest", "best"] (spLF 0) :=
  ⟨fun _ _ _ _ h => by obtain ⟨_, _, _, _, _, _, _, _, _, _, _, _, _, _, _, _, _, _, _, _, _, _, _, h, _⟩ := h; exact absurd h (Nat.not_lt_zero _), fun _ _ _ _ _ _ _ _ _ _ _ _ _ h => by obtain ⟨_, _, _, _, _, _, _, _, _, _, _, _, _, _, _, _, _, _, _, _, _, _, _, h, _⟩ := h; exact absurd h (Nat.not_lt_zero _)⟩
theorem ok_lf {f f1 : Addr} {fd d1 : FuncData} {k : Nat} (T_longest_from : Df K mg "longest_from" s_longest_from ["way", "d", "taken", "rest", "best"] f fd) (T_far_ones : Df K mg "far_ones" s_far_ones ["way", "d", "order", "others"] f1 d1) (GF : ∀ j, FnOk P w K mg base CX0 (j + k) f1 d1 ["way", "d", "order", "others"] spFarOnes) (B : Bi mg) : ∀ N, FnOk P w K mg base CX0 (N + k) f fd ["way", "d", "taken", "rest", "best"] (spLF N)
  | 0 => fn_lf0
  | N + 1 => by
    have h := ok_lf1 T_longest_from T_far_ones (GF N) (ok_lf T_longest_from T_far_ones GF B N) B
    rw [show N + 1 + k = N + k + 1 by omega]
    exact h
theorem scLg : FnScope ["way", "n", "d", "first", "others"] ["way", "n", "d"] (defScope s_longest_apart) := ⟨rfl, rfl, rfl, by decide +kernel, rfl, by decide +kernel, by decide +kernel⟩
set_option maxHeartbeats 2000000 in
theorem ok_longest {f f1 f2 f3 f4 : Addr} {fd d1 d2 d3 d4 : FuncData} {k : Nat} {tk : Tok} (T : Df K mg "longest_apart" s_longest_apart ["way", "n", "d"] f fd) (T_check_apart : Df K mg "check_apart" s_check_apart ["way", "n", "most", "d"] f1 d1) (T_all_orders : Df K mg "all_orders" s_all_orders ["n"] f2 d2) (T_longest_from : Df K mg "longest_from" s_longest_from ["way", "d", "taken", "rest", "best"] f3 d3) (T_far_ones : Df K mg "far_ones" s_far_ones ["way", "d", "order", "others"] f4 d4) (G_check_apart : FnOk P w K mg base CX0 k f1 d1 ["way", "n", "most", "d"] spApart) (G_all_orders : FnOk P w K mg base CX0 k f2 d2 ["n"] spAllO) (G_longest_from : FnOk P w K mg base CX0 k f3 d3 ["way", "d", "taken", "rest", "best"] (spLF 24)) (G_far_ones : FnOk P w K mg base CX0 k f4 d4 ["way", "d", "order", "others"] spFarOnes) (B : Bi mg) (mS : mg "MOST_SEARCHED" = some (.int 4 tk)) : FnOk P w K mg base CX0 (k + 1) f fd ["way", "n", "d"] spLongD := by
  refine T.F.ok scLg (fun vs H Q E h => ?_) (fun cdv A outer s H vs Q E hr h => ?_)
  · obtain ⟨z, n, d, rfl, _⟩ := h
    rfl
  · obtain ⟨z, n, d, rfl, hz, hn1, hn4, hd, q⟩ := h
    obtain ⟨tl, hk, htl⟩ := allK_head n hn4 hn1
    refine ⟨_, 
      (pss_cons (ps_expr (pe_call G_check_apart hr (by rfl) T_check_apart.g T_check_apart.F.kp T_check_apart.b .nil pass0 (pa_cons (pv 0) (pa_cons (pv 1) (pa_cons (pe_glob (v := .int 4) (by rfl) mS ⟨_, rfl⟩) (pa_cons (pv 2) pa_nil))))))
      (pss_cons (ps_asg (pe_call G_all_orders hr (by rfl) T_all_orders.g T_all_orders.F.kp T_all_orders.b .nil pass0 (pa_cons (pv 1) pa_nil)) (pg_star1 (by rfl) (pgs_cons (pg_name (i := 3) scLg.nd rfl (.inl rfl)) (pgs_star (pg_name (i := 4) scLg.nd rfl (.inl rfl)) pgs_nil))))
      (pss_one (ps_ret (pe_call G_longest_from hr (by rfl) T_longest_from.g T_longest_from.F.kp T_longest_from.b .nil pass0 (pa_cons (pv 0) (pa_cons (pv 2) (pa_cons (pe_lst (pa_cons (pv 3) pa_nil)) (pa_cons (pe_call G_far_ones hr (by rfl) T_far_ones.g T_far_ones.F.kp T_far_ones.b .nil pass0 (pa_cons (pv 0) (pa_cons (pv 2) (pa_cons (pv 3) (pa_cons (pv 4) pa_nil))))) (pa_cons (pe_lst pa_nil) pa_nil)))))))))), ?_⟩
    refine ⟨_, rfl, _, rfl, _, rfl, z, (n : Int), 4, d, rfl, hz, by omega, by omega, hd, ?_⟩
    refine ⟨_, rfl, n, rfl, hn1, by omega, fun al aas H2 nal hal hLL nas nda s2 => ?_⟩
    rw [hk] at hLL
    match aas, hLL with
    | [], h => exact h.elim
    | f0 :: oa, hLL =>
    obtain ⟨hf0, hOL⟩ := hLL
    have lo := hOL.len
    have or : ∀ x ∈ rg n :: tl, IsOrd n x := fun x m => all_ord (by rw [hk]; exact m)
    refine ⟨al, _, _, rfl, SqL.of hal, by rw [List.length_map]; omega, fun D nD => ?_⟩
    have s3 := same_new (o := .lst (oa.map V.ref)) nD
    refine ⟨_, _, rfl, _, _, rfl, rfl, ?_⟩
    refine ⟨_, rfl, _, rfl, _, rfl, line_small (by show 1 ≤ 16777216; decide), fun u nu => ?_⟩
    have s4 := same_new (o := .lst [.ref f0]) nu
    have s34 := s3.trans s4
    refine ⟨_, rfl, _, rfl, _, rfl, _, rfl, z, d, f0, D, n, rg n, oa, tl, rfl, hz, s34 _ _ hf0, or _ List.mem_cons_self, hn1, by omega, s4 _ _ upd_same, hOL.same s34, fun x m => or x (List.mem_cons_of_mem _ m), by omega, fun fl fa H5 nfl hfl hfa hFL s5 => ?_⟩
    refine ⟨by decide, fun e ne => ?_⟩
    have s6 := same_new (o := .lst []) ne
    have s36 := s34.trans (s5.trans s6)
    have lf2 : (farO z d (rg n) tl).length ≤ tl.length := List.length_filter_le _ _
    refine ⟨z, d, u, fl, e, n, [f0], fa, [], [rg n], farO z d (rg n) tl, [], rfl, hz, hn1, by omega, (s5.trans s6) _ _ upd_same, ⟨s36 _ _ hf0, trivial⟩, s6 _ _ hfl, hFL.same s6, upd_same, trivial, fun x m => or x (List.mem_cons_of_mem _ (List.mem_filter.mp m).1), by omega, by show 1 + _ ≤ 1000; omega, fun l as ss H7 hl has hl7 hL7 hR ess s7 => ?_⟩
    obtain ⟨g1, g2, g3, g4⟩ := longest_most hz hn1 hd hk hR
    have g5 : ∃ s, ss = rg n :: s := by
      rcases hR.one with e | ⟨s, _, _, e⟩
      · rw [e] at g3; exact absurd g3 (by decide)
      · exact ⟨s, e⟩
    have g6 : ss = longF z n d := by
      rw [ess]
      unfold longF
      rw [hk]
      rfl
    have s27 := s2.trans (s36.trans s7)
    refine q l as ss H7 ?_ (fun x m => ?_) hl7 hL7 g1 g2 g3 g4 g5 g6 s27
    · rcases hl with rfl | rfl | h
      · exact (s2.trans s3).free nu
      · exact (s2.trans (s34.trans s5)).free ne
      · exact (s2.trans s36).free h
    · rcases has x m with h | h | h
      · rw [List.mem_singleton.mp h]
        exact (nas f0 List.mem_cons_self).1
      · exact (nas x (List.mem_cons_of_mem _ (hfa.subset h))).1
      · exact absurd h List.not_mem_nil
end
end Fo
namespace Fo
open PySem PySem.Spec PyProof.Rows L2
def spLIsOrd : Sp := fun vs H Q _ => ∃ (a : Addr) (n : Nat) (ns : List Int), vs = [.ref a, .int n] ∧ H a = some (.lst (ns.map V.int)) ∧ IsOrd n ns ∧ 1 ≤ n ∧ n ≤ 12 ∧ ∀ H', Same H H' → Q (.bl true) H'
/-- a list of orders any two of which lie so far apart -/
def spLApart : Sp := fun vs H Q _ => ∃ (w : Str) (n : Nat) (d : Int) (l : Addr) (as : List Addr) (rs : List (List Int)), vs = [.str w, .int n, .int d, .ref l] ∧ IsWay w ∧ 1 ≤ n ∧ n ≤ 12 ∧ H l = some (.lst (as.map V.ref)) ∧ LL H as rs ∧ (∀ r ∈ rs, IsOrd n r) ∧ ApL w d rs ∧ rs.length ≤ 1000 ∧ ∀ H', Same H H' → Q (.bl true) H'
def spNever0 : Sp := fun _ _ _ _ => False
theorem fn_never0 {P : Program} {w : World} {K : PySem.W.Frag} {mg : Str → Option Value} {base : Heap} {CX : CXT} {k : Nat} {f : Addr} {fd : FuncData} {ps : List Str} : FnOk P w K mg base CX k f fd ps spNever0 := ⟨fun _ _ _ _ h => h.elim, fun _ _ _ _ _ _ _ _ _ _ _ _ _ h => h.elim⟩
def spDeepI : Sp := fun vs H Q _ => ∃ i : Int, vs = [.int i] ∧ Q (.int i) H
def spDeepR : Sp := fun vs H Q _ => ∃ (a : Addr) (r : List Int), vs = [.ref a] ∧ H a = some (.lst (r.map V.int)) ∧ r.length ≤ 1000 ∧ ∀ (u : Addr) (H' : Hp), H u = none → H' u = some (.lst (r.map V.int)) → Same H H' → Q (.ref u) H'
def spDeepL : Sp := fun vs H Q _ => ∃ (a : Addr) (as : List Addr) (rs : List (List Int)), vs = [.ref a] ∧ H a = some (.lst (as.map V.ref)) ∧ LL H as rs ∧ rs.length ≤ 1000 ∧ (∀ r ∈ rs, r.length ≤ 1000) ∧ ∀ (u : Addr) (cs : List Addr) (H' : Hp), H u = none → (∀ c ∈ cs, H c = none) → H' u = some (.lst (cs.map V.ref)) → LL H' cs rs → Same H H' → Q (.ref u) H'
section
variable {P : Program} {w : World} {K : PySem.W.Frag} {mg : Str → Option Value} {base : Heap}
theorem scLIsOrd : FnScope ["thing", "n", "one"] ["thing", "n"] (defScope s_law_is_order) := ⟨rfl, rfl, rfl, by decide +kernel, rfl, by decide +kernel, by decide +kernel⟩
set_option maxHeartbeats 1000000 in
theorem ok_lisord {f : Addr} {fd : FuncData} {k : Nat} (T : Df K mg "_law_is_order" s_law_is_order ["thing", "n"] f fd) (B : Bi mg) : FnOk P w K mg base CX0 (k + 1) f fd ["thing", "n"] spLIsOrd := by
  refine T.F.ok scLIsOrd (fun vs H Q E h => ?_) (fun cdv A outer s H vs Q E hr h => ?_)
  · obtain ⟨a, n, ns, rfl, _⟩ := h
    rfl
  · obtain ⟨a, n, ns, rfl, hl, ho, hn1, hn2, q⟩ := h
    have hlm : (ns.map V.int).length = n := by rw [List.length_map, ho.len]
    refine ⟨_, 
      (pss_cons (ps_if (PW.pt (pw_or (pt_not (pt_val (pe_callB call_isi (by rfl) B.isinstance (by decide +kernel) (pa_cons (pv 0) (pa_cons (pe_bltn (v := .ty "list") (by rfl) B.list (by decide +kernel) rfl) pa_nil))))) (pw_or1 (pt_cmpR op_ne (pe_callB call_len_seq (by rfl) B.len PySem.boot_len (pa_cons (pv 0) pa_nil)) (pv 1) (nomark _)))))
        (pss_one (ps_ret pe_bl))
        pss_nil)
      (pss_cons (ps_if (pt_cmpR (op_neD hr.units) (pe_lc (own := [("one", 2)]) (g := (gName 2)) (tt := (tOr (tNot (tB (tCB (rIsi K) (tCons (tVar 2) (tCons (tC (.ty "int")) tNil))))) (tB (tCB (rIsi K) (tCons (tVar 2) (tCons (tC (.ty "bool")) tNil)))))) (te := (tVar 2)) rfl scLIsOrd.nd (pi_list (pv 0)) (blkOk_by (N := ["thing", "n", "one"]) (sc := defScope s_law_is_order) (by decide +kernel)) (fun _ _ _ _ _ => (pg_name (i := 2) scLIsOrd.nd rfl (.inl rfl))) (fun _ _ _ _ _ => (pts_one (PW.pt (pw_or (pt_not (pt_val (pe_callB call_isi (by rfl) B.isinstance (by decide +kernel) (pa_cons (pv 2) (pa_cons (pe_bltn (v := .ty "int") (by rfl) B.int (by decide +kernel) rfl) pa_nil))))) (pw_or1 (pt_val (pe_callB call_isi (by rfl) B.isinstance (by decide +kernel) (pa_cons (pv 2) (pa_cons (pe_bltn (v := .ty "bool") (by rfl) B.bool (by decide +kernel) rfl) pa_nil))))))))) (fun _ _ _ _ _ => (pv 2))) (pe_lst pa_nil) (nomark _))
        (pss_one (ps_ret pe_bl))
        pss_nil)
      (pss_one (ps_ret (pe_cmpR (op_eqD hr.units) (pe_callB cr_sorted (by rfl) B.sorted (by decide +kernel) (pa_cons (pv 0) pa_nil)) (pe_listRg rfl (by rfl) B.list (prg_1 (by rfl) B.range (pv 1))) (nomark _)))))), ?_⟩
    refine ⟨_, rfl, _, _, _, _, true, rfl, .ty _, .base (.lst hl), kit_ty (by decide +kernel), true, rfl, iteF ?_⟩
    refine ⟨_, rfl, a, _, rfl, .inl (SqL.of hl), _, rfl, rfl, _, rfl, iteNS (congrArg V.int (by rw [hlm])) ?_⟩
    refine ⟨_, rfl, a, rfl, ⟨_, SqL.of hl⟩, fun p np => ?_⟩
    refine lc_list (K := K) (a := a) (xs := ns.map V.int) (fun i H3 => H3 p = some (.lst []) ∧ Same H H3) ⟨upd_same, same_new np⟩ (fun i H3 _ hP => SqL.of (hP.2 _ _ hl)) (fun i x H3 hx hP => ?_) (fun H3 hP => ?_)
    · obtain ⟨y, ey, rfl⟩ := int_at_inv hx
      refine ⟨rfl, _, rfl, _, _, _, _, true, rfl, .ty _, .base (.int _), kit_ty (by decide +kernel), true, rfl, iteF ?_⟩
      exact ⟨_, rfl, _, _, _, _, false, rfl, .ty _, .base (.int _), kit_ty (by decide +kernel), false, rfl, iteF hP⟩
    · obtain ⟨hp3, sm⟩ := hP
      refine ⟨Nat.zero_le _, fun e ne => ?_⟩
      have se := same_new (o := .lst []) ne
      refine ⟨dL [], dL [], dp_list (ns := []) (se _ _ hp3), dp_list (ns := []) upd_same, shaped_list _, shaped_list _, _, rfl, ?_⟩
      rw [eqv_list]
      refine iteF ?_
      have hl3 := se _ _ (sm _ _ hl)
      have sm3 := sm.trans se
      generalize upd H3 e (.lst []) = H4 at hl3 sm3 ⊢
      refine ⟨_, rfl, a, ns, rfl, SqL.of hl3, by rw [ho.len]; omega, fun ns' s1 hperm hsrt ns1 => ?_⟩
      refine ⟨_, rfl, n, rfl, RgOk.of_le (by omega) (by omega) (by omega) (by omega), fun s2 ns2 => ?_⟩
      have e1 : ns' = rg n := sorted_eq (hperm.trans ho) hsrt (rg_sorted n)
      subst e1
      have h1 : (upd (upd H4 s1 (.lst ((rg n).map V.int))) s2 (.lst (rgV 0 (n : Int)))) s1 = some (.lst ((rg n).map V.int)) := same_new ns2 _ _ upd_same
      have h2 : (upd (upd H4 s1 (.lst ((rg n).map V.int))) s2 (.lst (rgV 0 (n : Int)))) s2 = some (.lst ((rg n).map V.int)) := by rw [upd_same, rg_V]
      refine ⟨_, _, dp_list h1, dp_list h2, shaped_list _, shaped_list _, ?_⟩
      rw [eqv_list]
      exact q _ ((sm3.trans (same_new ns1)).trans (same_new ns2))
theorem scLAp : FnScope ["way", "n", "d", "thing", "k", "order", "other"] ["way", "n", "d", "thing"] (defScope s_law_apart) := ⟨rfl, rfl, rfl, by decide +kernel, rfl, by decide +kernel, by decide +kernel⟩
set_option maxHeartbeats 4000000 in
theorem ok_lapart {f f1 f2 : Addr} {fd d1 d2 : FuncData} {k : Nat} (T : Df K mg "_law_apart" s_law_apart ["way", "n", "d", "thing"] f fd) (T__law_is_order : Df K mg "_law_is_order" s_law_is_order ["thing", "n"] f1 d1) (T__law_far : Df K mg "_law_far" s_law_far ["way", "one", "other"] f2 d2) (G__law_is_order : FnOk P w K mg base CX0 k f1 d1 ["thing", "n"] spLIsOrd) (G__law_far : FnOk P w K mg base CX0 k f2 d2 ["way", "one", "other"] spFar) (B : Bi mg) : FnOk P w K mg base CX0 (k + 1) f fd ["way", "n", "d", "thing"] spLApart := by
  refine T.F.ok scLAp (fun vs H Q E h => ?_) (fun cdv A outer s H vs Q E hr h => ?_)
  · obtain ⟨z, n, d, l, as, rs, rfl, _⟩ := h
    rfl
  · obtain ⟨z, n, d, l, as, rs, rfl, hz, hn1, hn2, hl, hL, ho, hA, hlen, q⟩ := h
    have hal := hL.len
    refine ⟨_, 
      (pss_cons (ps_if (PW.pt (pw_or (pt_not (pt_val (pe_callB call_isi (by rfl) B.isinstance (by decide +kernel) (pa_cons (pv 3) (pa_cons (pe_bltn (v := .ty "list") (by rfl) B.list (by decide +kernel) rfl) pa_nil))))) (pw_or1 (pt_cmpR (op_neD hr.units) (pe_lc (own := [("order", 5)]) (g := (gName 5)) (tt := (tNot (tB (tCall spLIsOrd [] E0 (tCons (tVar 5) (tCons (tVar 1) tNil)))))) (te := (tVar 5)) rfl scLAp.nd (pi_list (pv 3)) (blkOk_by (N := ["way", "n", "d", "thing", "k", "order", "other"]) (sc := defScope s_law_apart) (by decide +kernel)) (fun _ _ _ _ _ => (pg_name (i := 5) scLAp.nd rfl (.inl rfl))) (fun _ _ _ _ _ => (pts_one (pt_not (pt_val (pe_call G__law_is_order hr (by rfl) T__law_is_order.g T__law_is_order.F.kp T__law_is_order.b .nil pass0 (pa_cons (pv 5) (pa_cons (pv 1) pa_nil))))))) (fun _ _ _ _ _ => (pv 5))) (pe_lst pa_nil) (nomark _)))))
        (pss_one (ps_ret pe_bl))
        pss_nil)
      (pss_cons (ps_for PassesOwn.never rfl (pi_enum (by rfl) B.enumerate (pa_cons (pv 3) pa_nil)) (pg_tup (by rfl) (pgs_cons (pg_name (i := 4) scLAp.nd rfl (.inl rfl)) (pgs_cons (pg_name (i := 5) scLAp.nd rfl (.inr rfl)) pgs_nil)))
        (pss_one (ps_if (pt_cmpR (op_neD hr.units) (pe_lc (own := [("other", 6)]) (g := (gName 6)) (tt := (tTest (tOp (rI0 fun i j => .bl (decide (i < j))) (tCall spFar [] E0 (tCons (tVar 0) (tCons (tVar 5) (tCons (tVar 6) tNil)))) (tVar 2)))) (te := (tVar 6)) rfl scLAp.nd (pi_list (pe_slice sl_list (pv 3) po_none (po_some (pv 4)))) (blkOk_by (N := ["way", "n", "d", "thing", "k", "order", "other"]) (sc := defScope s_law_apart) (by decide +kernel)) (fun _ _ _ _ _ => (pg_name (i := 6) scLAp.nd rfl (.inl rfl))) (fun _ _ _ _ _ => (pts_one (pt_cmpR op_lt (pe_call G__law_far hr (by rfl) T__law_far.g T__law_far.F.kp T__law_far.b .nil pass0 (pa_cons (pv 0) (pa_cons (pv 5) (pa_cons (pv 6) pa_nil)))) (pv 2) (nomark _)))) (fun _ _ _ _ _ => (pv 6))) (pe_lst pa_nil) (nomark _))
          (pss_one (ps_ret pe_bl))
          pss_nil)))
      (pss_one (ps_ret pe_bl)))), ?_⟩
    refine ⟨_, rfl, _, _, _, _, true, rfl, .ty _, .base (.lst hl), kit_ty (by decide +kernel), true, rfl, iteF ?_⟩
    refine ⟨_, rfl, l, rfl, ⟨_, SqL.of hl⟩, fun p np => ?_⟩
    refine lc_list (K := K) (a := l) (xs := as.map V.ref) (fun i G => G p = some (.lst []) ∧ Same H G) ⟨upd_same, same_new np⟩ (fun i G _ hP => SqL.of (hP.2 _ _ hl)) (fun i x G hx hP => ?_) (fun G hP => ?_)
    · obtain ⟨c0, ec, rfl⟩ := ref_at_inv hx
      obtain ⟨hp, sm⟩ := hP
      obtain ⟨row, er, hc⟩ := (hL.same sm).get ec
      exact ⟨rfl, _, rfl, _, rfl, c0, n, row, rfl, hc, ho row (List.mem_of_getElem? er), hn1, hn2, fun G2 s2 => ⟨true, rfl, iteF ⟨s2 _ _ hp, sm.trans s2⟩⟩⟩
    obtain ⟨hp, s1⟩ := hP
    refine ⟨by decide, fun e ne => ?_⟩
    have s2 := same_new (o := .lst []) ne
    refine ⟨dL [], dL [], dp_list (ns := []) (s2 _ _ hp), dp_list (ns := []) upd_same, shaped_list _, shaped_list _, _, rfl, ?_⟩
    rw [eqv_list]
    refine iteF ?_
    have s12 := s1.trans s2
    have hl2 := s12 _ _ hl
    refine ⟨_, rfl, l, _, rfl, SqL.of hl2, ?_⟩
    refine for_enumL (K := K) (a := l) (xs := as.map V.ref) (fun i σ C => ∃ y4 y5 y6, σ = [some (.str z), some (.int n), some (.int d), some (.ref l), y4, y5, y6] ∧ Same H C) ⟨_, _, _, rfl, s12⟩ (fun i σ C hP => by obtain ⟨_, _, _, _, sm⟩ := hP; exact SqL.of (sm _ _ hl)) (fun i x T2 σ C hx hP nT => ?_) (fun σ C hP => ?_)
    · obtain ⟨y4, y5, y6, rfl, sm⟩ := hP
      obtain ⟨c0, ec, rfl⟩ := ref_at_inv hx
      have s3 := same_new (o := .tup [.int (i : Nat), .ref c0]) nT
      have sm3 := sm.trans s3
      obtain ⟨row, er, hc⟩ := (hL.same sm3).get ec
      have hi := (List.getElem?_eq_some_iff.mp er).1
      refine ⟨T2, _, rfl, .inl (.inl upd_same), rfl, _, _, rfl, _, _, rfl, rfl, ?_⟩
      refine ⟨_, rfl, _, rfl, _, rfl, l, _, rfl, SqL.of (sm3 _ _ hl), fun c nc => ?_⟩
      rw [cutV_takeN, ← List.map_take]
      have s4 := same_new (o := .lst ((as.take i).map V.ref)) nc
      have sm4 := sm3.trans s4
      have hcc : (upd (upd C T2 (.tup [.int (i : Nat), .ref c0])) c (.lst ((as.take i).map V.ref))) c = some (.lst ((as.take i).map V.ref)) := upd_same
      have hLi := LL.takeN i (hL.same sm4)
      have hc4 := s4 _ _ hc
      refine ⟨c, rfl, ⟨_, SqL.of hcc⟩, fun p2 np2 => ?_⟩
      generalize upd (upd C T2 (.tup [.int (i : Nat), .ref c0])) c (.lst ((as.take i).map V.ref)) = C4 at *
      refine lc_list (K := K) (a := c) (xs := (as.take i).map V.ref) (fun j G => G p2 = some (.lst []) ∧ Same C4 G) ⟨upd_same, same_new np2⟩ (fun j G _ hP => SqL.of (hP.2 _ _ hcc)) (fun j x G hx hP => ?_) (fun G hP => ?_)
      · obtain ⟨hp, sG⟩ := hP
        obtain ⟨a0, ea, rfl⟩ := ref_at_inv hx
        obtain ⟨r0, er0, ha0⟩ := (hLi.same sG).get ea
        have hj : j < i := by
          have := (List.getElem?_eq_some_iff.mp er0).1
          rw [List.length_take] at this
          omega
        have er0' : rs[j]? = some r0 := by rw [List.getElem?_take, if_pos hj] at er0; exact er0
        have or := ho row (List.mem_of_getElem? er)
        have o0 := ho r0 (List.mem_of_getElem? er0')
        have hfar : d ≤ farW z row r0 := by
          have h2 := List.pairwise_iff_getElem.mp hA j i (by omega) hi hj
          rw [(List.getElem?_eq_some_iff.mp er0').2, (List.getElem?_eq_some_iff.mp er).2] at h2
          rw [farW_turn o0 or hn1]
          exact h2
        refine ⟨rfl, _, rfl, _, rfl, _, rfl, z, c0, a0, n, row, r0, rfl, hz, sG _ _ hc4, ha0, or, o0, hn1, hn2, fun G2 s5 => ?_⟩
        exact ⟨_, rfl, _, _, rfl, rfl, _, rfl, ite2 (fun y => absurd (of_decide_eq_true y) (by omega)) (fun _ => ⟨s5 _ _ hp, sG.trans s5⟩)⟩
      · obtain ⟨hp, sG⟩ := hP
        refine ⟨by decide, fun e2 ne2 => ?_⟩
        have s6 := same_new (o := .lst []) ne2
        refine ⟨dL [], dL [], dp_list (ns := []) (s6 _ _ hp), dp_list (ns := []) upd_same, shaped_list _, shaped_list _, _, rfl, ?_⟩
        rw [eqv_list]
        exact iteF ⟨_, _, _, rfl, sm4.trans (sG.trans s6)⟩
    · obtain ⟨y4, y5, y6, rfl, sm⟩ := hP
      exact q _ sm
theorem scDp : FnScope ["thing", "one"] ["thing"] (defScope s_law_deep) := ⟨rfl, rfl, rfl, by decide +kernel, rfl, by decide +kernel, by decide +kernel⟩
theorem ok_deepI {f : Addr} {fd : FuncData} {k : Nat} (T__law_deep : Df K mg "_law_deep" s_law_deep ["thing"] f fd) (B : Bi mg) : FnOk P w K mg base CX0 (k + 1) f fd ["thing"] spDeepI := by
  have G__law_deep : FnOk P w K mg base CX0 k f fd ["thing"] spNever0 := fn_never0
  refine T__law_deep.F.ok scDp (fun vs H Q E h => ?_) (fun cdv A outer s H vs Q E hr h => ?_)
  · obtain ⟨i, rfl, _⟩ := h
    rfl
  · obtain ⟨i, rfl, q⟩ := h
    refine ⟨_, 
      (pss_cons (ps_if (pt_val (pe_callB call_isi (by rfl) B.isinstance (by decide +kernel) (pa_cons (pv 0) (pa_cons (pe_bltn (v := .ty "list") (by rfl) B.list (by decide +kernel) rfl) pa_nil))))
        (pss_one (ps_ret (pe_lc (own := [("one", 1)]) (g := (gName 1)) (tt := tYes) (te := (tCall spNever0 [] E0 (tCons (tVar 1) tNil))) rfl scDp.nd (pi_list (pv 0)) (blkOk_by (N := ["thing", "one"]) (sc := defScope s_law_deep) (by decide +kernel)) (fun _ _ _ _ _ => (pg_name (i := 1) scDp.nd rfl (.inl rfl))) (fun _ _ _ _ _ => pts_nil) (fun _ _ _ _ _ => (pe_call G__law_deep hr (by rfl) T__law_deep.g T__law_deep.F.kp T__law_deep.b .nil pass0 (pa_cons (pv 1) pa_nil))))))
        pss_nil)
      (pss_one (ps_ret (pv 0)))), ?_⟩
    exact ⟨_, rfl, _, _, _, _, false, rfl, .ty _, .base (.int _), kit_ty (by decide +kernel), false, rfl, iteF ⟨_, rfl, q⟩⟩
theorem ok_deepR {f : Addr} {fd : FuncData} {k : Nat} (T__law_deep : Df K mg "_law_deep" s_law_deep ["thing"] f fd) (B : Bi mg) : FnOk P w K mg base CX0 (k + 2) f fd ["thing"] spDeepR := by
  have G__law_deep := ok_deepI (k := k) (P := P) (w := w) (base := base) T__law_deep B
  refine T__law_deep.F.ok scDp (fun vs H Q E h => ?_) (fun cdv A outer s H vs Q E hr h => ?_)
  · obtain ⟨a, r, rfl, _⟩ := h
    rfl
  · obtain ⟨a, r, rfl, ha, hr1, q⟩ := h
    refine ⟨_, 
      (pss_cons (ps_if (pt_val (pe_callB call_isi (by rfl) B.isinstance (by decide +kernel) (pa_cons (pv 0) (pa_cons (pe_bltn (v := .ty "list") (by rfl) B.list (by decide +kernel) rfl) pa_nil))))
        (pss_one (ps_ret (pe_lc (own := [("one", 1)]) (g := (gName 1)) (tt := tYes) (te := (tCall spDeepI [] E0 (tCons (tVar 1) tNil))) rfl scDp.nd (pi_list (pv 0)) (blkOk_by (N := ["thing", "one"]) (sc := defScope s_law_deep) (by decide +kernel)) (fun _ _ _ _ _ => (pg_name (i := 1) scDp.nd rfl (.inl rfl))) (fun _ _ _ _ _ => pts_nil) (fun _ _ _ _ _ => (pe_call G__law_deep hr (by rfl) T__law_deep.g T__law_deep.F.kp T__law_deep.b .nil pass0 (pa_cons (pv 1) pa_nil))))))
        pss_nil)
      (pss_one (ps_ret (pv 0)))), ?_⟩
    refine ⟨_, rfl, _, _, _, _, true, rfl, .ty _, .base (.lst ha), kit_ty (by decide +kernel), true, rfl, iteT ?_⟩
    refine ⟨_, rfl, a, rfl, ⟨_, SqL.of ha⟩, fun p np => ?_⟩
    refine lc_list (K := K) (a := a) (xs := r.map V.int) (fun i G => G p = some (.lst ((r.take i).map V.int)) ∧ Same H G) ⟨upd_same, same_new np⟩ (fun i G _ hP => SqL.of (hP.2 _ _ ha)) (fun i x G hx hP => ?_) (fun G hP => ?_)
    · obtain ⟨hp, sm⟩ := hP
      obtain ⟨y, ey, rfl⟩ := int_at_inv hx
      refine ⟨rfl, _, rfl, y, rfl, _, hp, line_lt (by rw [List.length_map, List.length_take]; omega), ?_, fun b o e => ?_⟩
      · rw [upd_same, List.take_add_one, ey, List.map_append]
        rfl
      · rw [upd_ne (ne_of_none e np)]
        exact sm _ _ e
    · obtain ⟨hp, sm⟩ := hP
      rw [List.take_of_length_le (by rw [List.length_map]; omega)] at hp
      exact q p G np hp sm
theorem ok_deepL {f : Addr} {fd : FuncData} {k : Nat} (T__law_deep : Df K mg "_law_deep" s_law_deep ["thing"] f fd) (B : Bi mg) : FnOk P w K mg base CX0 (k + 3) f fd ["thing"] spDeepL := by
  have G__law_deep := ok_deepR (k := k) (P := P) (w := w) (base := base) T__law_deep B
  refine T__law_deep.F.ok scDp (fun vs H Q E h => ?_) (fun cdv A outer s H vs Q E hr h => ?_)
  · obtain ⟨a, as, rs, rfl, _⟩ := h
    rfl
  · obtain ⟨a, as, rs, rfl, ha, hL, hlen, hrl, q⟩ := h
    have hal := hL.len
    refine ⟨_, 
      (pss_cons (ps_if (pt_val (pe_callB call_isi (by rfl) B.isinstance (by decide +kernel) (pa_cons (pv 0) (pa_cons (pe_bltn (v := .ty "list") (by rfl) B.list (by decide +kernel) rfl) pa_nil))))
        (pss_one (ps_ret (pe_lc (own := [("one", 1)]) (g := (gName 1)) (tt := tYes) (te := (tCall spDeepR [] E0 (tCons (tVar 1) tNil))) rfl scDp.nd (pi_list (pv 0)) (blkOk_by (N := ["thing", "one"]) (sc := defScope s_law_deep) (by decide +kernel)) (fun _ _ _ _ _ => (pg_name (i := 1) scDp.nd rfl (.inl rfl))) (fun _ _ _ _ _ => pts_nil) (fun _ _ _ _ _ => (pe_call G__law_deep hr (by rfl) T__law_deep.g T__law_deep.F.kp T__law_deep.b .nil pass0 (pa_cons (pv 1) pa_nil))))))
        pss_nil)
      (pss_one (ps_ret (pv 0)))), ?_⟩
    refine ⟨_, rfl, _, _, _, _, true, rfl, .ty _, .base (.lst ha), kit_ty (by decide +kernel), true, rfl, iteT ?_⟩
    refine ⟨_, rfl, a, rfl, ⟨_, SqL.of ha⟩, fun p np => ?_⟩
    refine lc_list (K := K) (a := a) (xs := as.map V.ref) (fun i G => ∃ cs : List Addr, G p = some (.lst (cs.map V.ref)) ∧ (∀ c ∈ cs, H c = none ∧ c ≠ p) ∧ LL G cs (rs.take i) ∧ Same H G) ⟨[], upd_same, fun c m => absurd m List.not_mem_nil, trivial, same_new np⟩ (fun i G _ hP => by obtain ⟨_, _, _, _, sm⟩ := hP; exact SqL.of (sm _ _ ha)) (fun i x G hx hP => ?_) (fun G hP => ?_)
    · obtain ⟨cs, hp, hfr, hLc, sm⟩ := hP
      obtain ⟨c0, ec, rfl⟩ := ref_at_inv hx
      obtain ⟨row, er, hc⟩ := (hL.same sm).get ec
      have lc := hLc.len
      rw [List.length_take] at lc
      refine ⟨rfl, _, rfl, c0, row, rfl, hc, hrl row (List.mem_of_getElem? er), fun u G2 nu hu s2 => ?_⟩
      have nup : u ≠ p := fun y => by rw [y, hp] at nu; cases nu
      refine ⟨_, s2 _ _ hp, line_lt (by rw [List.length_map]; omega), cs ++ [u], by rw [upd_same, List.map_append]; rfl, fun c m => ?_, ?_, fun b o e => ?_⟩
      · rcases List.mem_append.mp m with m | m
        · exact hfr c m
        · rw [List.mem_singleton.mp m]; exact ⟨sm.free nu, nup⟩
      · rw [List.take_add_one, er]
        refine LL.snoc ((hLc.same s2).keep fun v m o e => by rw [upd_ne (hfr v m).2]; exact e) ?_
        rw [upd_ne nup]
        exact hu
      · rw [upd_ne (ne_of_none e np)]
        exact s2 _ _ (sm _ _ e)
    · obtain ⟨cs, hp, hfr, hLc, sm⟩ := hP
      rw [List.take_of_length_le (by rw [List.length_map]; omega)] at hLc
      exact q p cs G np (fun c m => (hfr c m).1) hp hLc sm
end
end Fo
namespace Fo
open PySem PySem.Spec PyProof.Rows L2
theorem LL.put {H : Hp} : ∀ {as : List Addr} {ts : List (List Int)} {i : Nat} {a : Addr} {r : List Int}, LL H as ts → as.Nodup → as[i]? = some a → LL (L2.upd H a (.lst (r.map V.int))) as (ts.set i r)
  | [], [], _, _, _, _, _, e => by simp at e
  | [], _ :: _, _, _, _, h, _, _ => h.elim
  | _ :: _, [], _, _, _, h, _, _ => h.elim
  | b :: as, t :: ts, 0, a, r, h, nd, e => by
    have e2 : b = a := Option.some.inj e
    subst e2
    refine ⟨upd_same, h.2.keep fun u hu o eo => ?_⟩
    rw [upd_ne (fun z => (List.nodup_cons.mp nd).1 (by rw [← z]; exact hu))]
    exact eo
  | b :: as, t :: ts, i + 1, a, r, h, nd, e => by
    have hm : a ∈ as := List.mem_of_getElem? (show as[i]? = some a from e)
    refine ⟨?_, LL.put (i := i) h.2 (List.nodup_cons.mp nd).2 e⟩
    rw [upd_ne (fun z => (List.nodup_cons.mp nd).1 (by rw [z]; exact hm))]
    exact h.1
def tail9 (rs : List (List Int)) (m : Nat) : List (List Int) := (rs.take m).map (fun r => r ++ [99]) ++ rs.drop m
theorem tail9_0 (rs : List (List Int)) : tail9 rs 0 = rs := by
  unfold tail9
  rw [List.take_zero, List.drop_zero]
  rfl
theorem tail9_len (rs : List (List Int)) : tail9 rs rs.length = rs.map fun r => r ++ [99] := by
  unfold tail9
  rw [List.take_length, List.drop_length, List.append_nil]
theorem tail9_at {rs : List (List Int)} {m : Nat} {r : List Int} (h : rs[m]? = some r) : (tail9 rs m)[m]? = some r := by
  have hm := (List.getElem?_eq_some_iff.mp h).1
  unfold tail9
  rw [List.getElem?_append_right (by rw [List.length_map, List.length_take]; omega), List.length_map, List.length_take, Nat.min_eq_left (by omega), Nat.sub_self, List.getElem?_drop]
  exact h
theorem tail9_more {rs : List (List Int)} {m : Nat} {r : List Int} (h : rs[m]? = some r) : (tail9 rs m).set m (r ++ [99]) = tail9 rs (m + 1) := by
  have hm := (List.getElem?_eq_some_iff.mp h).1
  have hd : rs.drop m = r :: rs.drop (m + 1) := by
    rw [List.drop_eq_getElem_cons hm, (List.getElem?_eq_some_iff.mp h).2]
  unfold tail9
  have lt : ((rs.take m).map (fun r => r ++ [99])).length = m := by rw [List.length_map, List.length_take]; omega
  rw [hd, List.set_append, if_neg (by omega), lt, Nat.sub_self, List.set_cons_zero, List.take_add_one, h, List.map_append, List.append_assoc]
  rfl
end Fo
namespace Fo
open PySem PySem.Spec PyProof.Rows L2
/-! the most of these, none near to another -/
theorem eqv_nilP (rs : List (List Int)) : PyData.eqv (dLL rs) (dL []) = decide (rs = []) := by
  cases rs <;> simp [PyData.eqv, PyData.eqvAll]
def Ind (nb : Int → Int → Bool) (S : List Int) : Prop := S.Pairwise fun a b => nb a b = false
structure Nb (nb : Int → Int → Bool) : Prop where
  refl : ∀ i, nb i i = true
  sym : ∀ i j, nb i j = nb j i
def NrAt (H : Hp) (nr : Addr) (m : Nat) (nb : Int → Int → Bool) : Prop := ∃ (na : List Addr) (rows : List (List Int)), H nr = some (.lst (na.map V.ref)) ∧ LL H na rows ∧ rows.length = m ∧ ∀ (i : Nat) (j : Int) (row : List Int), rows[i]? = some row → 0 ≤ j → j < m → (j ∈ row ↔ nb i j = true)
theorem NrAt.same {H G : Hp} {nr : Addr} {m : Nat} {nb : Int → Int → Bool} (h : NrAt H nr m nb) (s : Same H G) : NrAt G nr m nb := by
  obtain ⟨na, rows, h1, h2, h3, h4⟩ := h
  exact ⟨na, rows, s _ _ h1, h2.same s, h3, h4⟩
theorem NrAt.at {H : Hp} {nr : Addr} {m : Nat} {nb : Int → Int → Bool} (h : NrAt H nr m nb) {k : Int} (k0 : 0 ≤ k) (k1 : k < m) : ∃ (na : List Addr) (a : Addr) (row : List Int), H nr = some (.lst (na.map V.ref)) ∧ atI (na.map V.ref) k = some (.ref a) ∧ H a = some (.lst (row.map V.int)) ∧ ∀ j : Int, 0 ≤ j → j < m → decide (j ∈ row) = nb k j := by
  obtain ⟨na, rows, h1, h2, h3, h4⟩ := h
  have hl := h2.len
  have hk : k.toNat < na.length := by omega
  have ea : na[k.toNat]? = some (na[k.toNat]) := List.getElem?_eq_getElem hk
  obtain ⟨row, er, ha⟩ := h2.get ea
  refine ⟨na, _, row, h1, at_of (show k = ((k.toNat : Nat) : Int) by omega) (ref_at ea), ha, fun j j0 j1 => ?_⟩
  have h5 := h4 _ j row er j0 j1
  rw [show ((k.toNat : Nat) : Int) = k by omega] at h5
  cases hb : nb k j with
  | true => exact decide_eq_true (h5.mpr hb)
  | false => exact decide_eq_false fun z => by rw [h5.mp z] at hb; cases hb
theorem split_len2 {α : Type} (p : α → Bool) : ∀ l : List α, l.length = (l.filter p).length + (l.filter fun x => !p x).length
  | [] => rfl
  | x :: l => by
    have ih := split_len2 p l
    rw [List.filter_cons, List.filter_cons]
    cases p x <;> simp <;> omega
theorem one_in {nb : Int → Int → Bool} {c : List Int} (hc : ∀ x ∈ c, ∀ y ∈ c, nb x y = true) : ∀ {T : List Int}, Ind nb T → (∀ x ∈ T, x ∈ c) → T.length ≤ 1
  | [], _, _ => by decide
  | [_], _, _ => Nat.le_refl 1
  | a :: b :: r, h, hi => by
    have h1 := (List.pairwise_cons.mp h).1 b List.mem_cons_self
    rw [hc a (hi a List.mem_cons_self) b (hi b (List.mem_cons_of_mem _ List.mem_cons_self))] at h1
    cases h1
theorem parts_bound {nb : Int → Int → Bool} : ∀ {cls : List (List Int)} {S : List Int}, (∀ c ∈ cls, ∀ x ∈ c, ∀ y ∈ c, nb x y = true) → Ind nb S → (∀ x ∈ S, ∃ c ∈ cls, x ∈ c) → S.length ≤ cls.length
  | [], [], _, _, _ => Nat.le_refl _
  | [], x :: S, _, _, h => by
    obtain ⟨c, m, _⟩ := h x List.mem_cons_self
    exact absurd m List.not_mem_nil
  | c :: cls, S, hn, hi, h => by
    have e := split_len2 (fun x => decide (x ∈ c)) S
    have h1 := one_in (hn c List.mem_cons_self) (hi.sublist List.filter_sublist : Ind nb (S.filter fun x => decide (x ∈ c))) fun x m => of_decide_eq_true (List.mem_filter.mp m).2
    have h2 := parts_bound (cls := cls) (S := S.filter fun x => !decide (x ∈ c)) (fun c m => hn c (List.mem_cons_of_mem _ m)) (hi.sublist List.filter_sublist) fun x m => by
      obtain ⟨m1, m2⟩ := List.mem_filter.mp m
      obtain ⟨c', mc, mx⟩ := h x m1
      rcases List.mem_cons.mp mc with rfl | mc
      · rw [decide_eq_true mx] at m2; cases m2
      · exact ⟨c', mc, mx⟩
    rw [List.length_cons]
    omega
/-- what parts have been made of the first i -/
structure PrI (nb : Int → Int → Bool) (left : List Int) (i : Nat) (cls : List (List Int)) : Prop where
  near : ∀ c ∈ cls, ∀ x ∈ c, ∀ y ∈ c, nb x y = true
  all : ∀ x ∈ left.take i, ∃ c ∈ cls, x ∈ c
  sub : ∀ c ∈ cls, ∀ x ∈ c, x ∈ left
  len : cls.length ≤ i
  row : ∀ c ∈ cls, c.length ≤ i
section
variable {nb : Int → Int → Bool} {left : List Int} {i : Nat} {cls : List (List Int)} {k : Int}
theorem pr_new (B : Nb nb) (h : PrI nb left i cls) (e : left[i]? = some k) : PrI nb left (i + 1) (cls ++ [[k]]) := by
  refine ⟨fun c m x mx y my => ?_, fun x m => ?_, fun c m x mx => ?_, ?_, fun c m => ?_⟩
  · rcases List.mem_append.mp m with m | m
    · exact h.near c m x mx y my
    · rw [List.mem_singleton.mp m] at mx my
      rw [List.mem_singleton.mp mx, List.mem_singleton.mp my]
      exact B.refl k
  · rw [List.take_add_one, e] at m
    rcases List.mem_append.mp m with m | m
    · obtain ⟨c, mc, mx⟩ := h.all x m
      exact ⟨c, List.mem_append_left _ mc, mx⟩
    · exact ⟨[k], List.mem_append_right _ List.mem_cons_self, m⟩
  · rcases List.mem_append.mp m with m | m
    · exact h.sub c m x mx
    · rw [List.mem_singleton.mp m] at mx
      rw [List.mem_singleton.mp mx]
      exact List.mem_of_getElem? e
  · rw [List.length_append]
    exact Nat.succ_le_succ h.len
  · rcases List.mem_append.mp m with m | m
    · exact Nat.le_succ_of_le (h.row c m)
    · rw [List.mem_singleton.mp m]
      exact Nat.succ_le_succ (Nat.zero_le _)
theorem pr_more (B : Nb nb) (h : PrI nb left i cls) (e : left[i]? = some k) {p : Nat} {c : List Int} (ec : cls[p]? = some c) (hc : ∀ x ∈ c, nb k x = true) : PrI nb left (i + 1) (cls.set p (c ++ [k])) := by
  have mc := List.mem_of_getElem? ec
  have hp := (List.getElem?_eq_some_iff.mp ec).1
  have key : ∀ c' ∈ cls.set p (c ++ [k]), c' ∈ cls ∨ c' = c ++ [k] := fun c' m => List.mem_or_eq_of_mem_set m
  refine ⟨fun c' m x mx y my => ?_, fun x m => ?_, fun c' m x mx => ?_, ?_, fun c' m => ?_⟩
  · rcases key c' m with m | rfl
    · exact h.near c' m x mx y my
    · rcases List.mem_append.mp mx with mx | mx <;> rcases List.mem_append.mp my with my | my
      · exact h.near c mc x mx y my
      · rw [List.mem_singleton.mp my, B.sym]; exact hc x mx
      · rw [List.mem_singleton.mp mx]; exact hc y my
      · rw [List.mem_singleton.mp mx, List.mem_singleton.mp my]; exact B.refl k
  · rw [List.take_add_one, e] at m
    have mnew : c ++ [k] ∈ cls.set p (c ++ [k]) := List.mem_iff_getElem?.mpr ⟨p, by rw [List.getElem?_set_self hp]⟩
    rcases List.mem_append.mp m with m | m
    · obtain ⟨c', mc', mx⟩ := h.all x m
      obtain ⟨q, eq⟩ := List.mem_iff_getElem?.mp mc'
      by_cases z : p = q
      · subst z
        obtain rfl := Option.some.inj (ec.symm.trans eq)
        exact ⟨_, mnew, List.mem_append_left _ mx⟩
      · exact ⟨c', List.mem_iff_getElem?.mpr ⟨q, by rw [List.getElem?_set_ne z]; exact eq⟩, mx⟩
    · exact ⟨_, mnew, List.mem_append_right _ m⟩
  · rcases key c' m with m | rfl
    · exact h.sub c' m x mx
    · rcases List.mem_append.mp mx with mx | mx
      · exact h.sub c mc x mx
      · rw [List.mem_singleton.mp mx]; exact List.mem_of_getElem? e
  · rw [List.length_set]
    exact Nat.le_succ_of_le h.len
  · rcases key c' m with m | rfl
    · exact Nat.le_succ_of_le (h.row c' m)
    · rw [List.length_append]
      exact Nat.succ_le_succ (h.row c mc)
end
def spParts23 : Sp := fun vs H Q _ => ∃ (nr lf : Addr) (m : Nat) (nb : Int → Int → Bool) (left : List Int), vs = [.ref nr, .ref lf] ∧ Nb nb ∧ NrAt H nr m nb ∧ H lf = some (.lst (left.map V.int)) ∧ (∀ x ∈ left, 0 ≤ x ∧ x < m) ∧ left.length ≤ 1000 ∧
  ∀ (p : Nat) (H' : Hp), (∀ S, Ind nb S → (∀ x ∈ S, x ∈ left) → S.length ≤ p) → Same H H' → Q (.int p) H'
section
variable {P : Program} {w : World} {K : PySem.W.Frag} {mg : Str → Option Value} {base : Heap}
theorem scPr : FnScope ["near", "left", "lists", "k", "some", "one", "j"] ["near", "left"] (defScope s_law_parts) := ⟨rfl, rfl, rfl, by decide +kernel, rfl, by decide +kernel, by decide +kernel⟩
set_option maxHeartbeats 4000000 in
theorem ok_parts {f : Addr} {fd : FuncData} {k : Nat} (T : Df K mg "_law_parts" s_law_parts ["near", "left"] f fd) (B : Bi mg) : FnOk P w K mg base CX0 (k + 1) f fd ["near", "left"] spParts23 := by
  refine T.F.ok scPr (fun vs H Q E h => ?_) (fun cdv A outer s H vs Q E hr h => ?_)
  · obtain ⟨nr, lf, m, nb, left, rfl, _⟩ := h
    rfl
  · obtain ⟨nr, lf, m, nb, left, rfl, hN, hnr, hlf, hin, hlen, q⟩ := h
    refine ⟨_, 
      (pss_cons (ps_set (i := 2) scPr.nd rfl (.inl rfl) (pe_lst pa_nil))
      (pss_cons (ps_for PassesOwn.never rfl (pi_list (pv 1)) (pg_name (i := 3) scPr.nd rfl (.inr rfl))
        (pss_cons (ps_setLc (i := 4) (own := [("one", 5)]) (g := (gName 5)) (tt := (tTest (tOp (rEqD K) (tLc (iList K (tVar 5)) (gName 6) (tTest (tOp (rIn K true) (tVar 6) (tOp (rIxL K) (tVar 0) (tVar 3)))) (tVar 6) [6]) (tLst tNil)))) (te := (tVar 5)) (by rfl) scPr.nd rfl rfl (sw_true rfl rfl rfl (by decide +kernel)) (pi_list (pv 2)) (blkOk_by (N := ["near", "left", "lists", "k", "some", "one", "j"]) (sc := defScope s_law_parts) (by decide +kernel)) (fun _ _ _ _ _ => (pg_name (i := 5) scPr.nd rfl (.inl rfl))) (fun _ _ _ _ _ => (pts_one (pt_cmpR (op_eqD hr.units) (pe_lc (own := [("j", 6)]) (g := (gName 6)) (tt := (tTest (tOp (rIn K true) (tVar 6) (tOp (rIxL K) (tVar 0) (tVar 3))))) (te := (tVar 6)) rfl scPr.nd (pi_list (pv 5)) (blkOk_by (N := ["near", "left", "lists", "k", "some", "one", "j"]) (by rfl)) (fun _ _ _ _ _ => (pg_name (i := 6) scPr.nd rfl (.inl rfl))) (fun _ _ _ _ _ => (pts_one (pt_cmpR op_notIn_seq (pv 6) (pe_ix ix_list (pv 0) (pv 3) (fun _ _ => rfl)) (by rfl)))) (fun _ _ _ _ _ => (pv 6))) (pe_lst pa_nil) (nomark _)))) (fun _ _ _ _ _ => (pv 5)))
        (pss_one (ps_if (pt_cmpR (op_eqD hr.units) (pv 4) (pe_lst pa_nil) (nomark _))
          (pss_one (ps_expr (pe_bm PySem.F.plainAttrs_list PySem.F.slot_list_append PySem.F.type_list_append mt_append (pv 2) (pa_cons (pe_lst (pa_cons (pv 3) pa_nil)) pa_nil))))
          (pss_one (ps_expr (pe_bm PySem.F.plainAttrs_list PySem.F.slot_list_append PySem.F.type_list_append mt_append (pe_ix ix_list (pv 4) pe_int (fun _ _ => rfl)) (pa_cons (pv 3) pa_nil))))))))
      (pss_one (ps_ret (pe_callB call_len_seq (by rfl) B.len PySem.boot_len (pa_cons (pv 2) pa_nil)))))), ?_⟩
    refine ⟨Nat.zero_le _, fun lb nlb => ?_⟩
    have s0 := same_new (o := .lst []) nlb
    refine ⟨_, rfl, lf, rfl, ⟨_, SqL.of (s0 _ _ hlf)⟩, ?_⟩
    refine for_list (xs := left.map V.int) (fun i σ G => ∃ (y3 y4 y5 y6 : Option V) (cs : List Addr) (cls : List (List Int)), σ = [some (.ref nr), some (.ref lf), some (.ref lb), y3, y4, y5, y6] ∧ G lb = some (.lst (cs.map V.ref)) ∧ (∀ c ∈ cs, H c = none ∧ c ≠ lb) ∧ cs.Nodup ∧ LL G cs cls ∧ PrI nb left i cls ∧ Same H G)
      ⟨_, _, _, _, [], [], rfl, upd_same, fun c z => absurd z List.not_mem_nil, List.nodup_nil, trivial, ⟨fun c z => absurd z List.not_mem_nil, fun c z => absurd z List.not_mem_nil, fun c z => absurd z List.not_mem_nil, Nat.le_refl _, fun c z => absurd z List.not_mem_nil⟩, s0⟩ (fun i σ G _ hP => by obtain ⟨_, _, _, _, _, _, _, _, _, _, _, _, sm⟩ := hP; exact SqL.of (sm _ _ hlf)) (fun i x σ G hx hP => ?_) (fun σ G hP => ?_)
    · obtain ⟨y3, y4, y5, y6, cs, cls, rfl, hlb, hfr, hnd, hLL, hPr, sm⟩ := hP
      obtain ⟨t, et, rfl⟩ := int_at_inv hx
      obtain ⟨t0, t1⟩ := hin t (List.mem_of_getElem? et)
      have hi := (List.getElem?_eq_some_iff.mp et).1
      have lcs := hLL.len
      have hcl := hPr.len
      refine ⟨_, rfl, lb, rfl, ⟨_, SqL.of hlb⟩, fun p np => ?_⟩
      refine lc_list (K := K) (a := lb) (xs := cs.map V.ref) (fun j G2 => ∃ (ds : List Addr) (dcl : List (List Int)), G2 p = some (.lst (ds.map V.ref)) ∧ ds.length ≤ j ∧ LL G2 ds dcl ∧ (∀ d ∈ ds, d ∈ cs) ∧ (∀ (d : Addr), ds[0]? = some d → ∃ (i' : Nat) (c : List Int), cs[i']? = some d ∧ cls[i']? = some c ∧ ∀ x ∈ c, nb t x = true) ∧ Same G G2)
        ⟨[], [], upd_same, Nat.le_refl _, trivial, fun d z => absurd z List.not_mem_nil, fun d z => (by cases z), same_new np⟩ (fun j G2 _ hP => by obtain ⟨_, _, _, _, _, _, _, s2⟩ := hP; exact SqL.of (s2 _ _ hlb)) (fun j x G2 hx hP => ?_) (fun G2 hP => ?_)
      · obtain ⟨ds, dcl, hp, hdl, hLd, hds, h0, s2⟩ := hP
        obtain ⟨c0, ec, rfl⟩ := ref_at_inv hx
        have hj := (List.getElem?_eq_some_iff.mp ec).1
        obtain ⟨c, er, hc⟩ := (hLL.same s2).get ec
        have hcc0 : ∀ x ∈ c, 0 ≤ x ∧ x < (m : Int) := fun x mx => hin x (hPr.sub c (List.mem_of_getElem? er) x mx)
        have hcl2 := hPr.row c (List.mem_of_getElem? er)
        refine ⟨rfl, _, rfl, c0, rfl, ⟨_, SqL.of hc⟩, fun p2 np2 => ?_⟩
        refine lc_list (K := K) (a := c0) (xs := c.map V.int) (fun l G3 => G3 p2 = some (.lst (((c.take l).filter fun x => !nb t x).map V.int)) ∧ Same G2 G3) ⟨upd_same, same_new np2⟩ (fun l G3 _ hP => SqL.of (hP.2 _ _ hc)) (fun l x G3 hx hP => ?_) (fun G3 hP => ?_)
        · obtain ⟨hp2, s3⟩ := hP
          obtain ⟨y, ey, rfl⟩ := int_at_inv hx
          obtain ⟨na, a, row, n1, n2, n3, n4⟩ := (hnr.same (sm.trans (s2.trans s3))).at t0 t1
          obtain ⟨y0, y1⟩ := hcc0 y (List.mem_of_getElem? ey)
          have hl := (List.getElem?_eq_some_iff.mp ey).1
          refine ⟨rfl, _, rfl, _, rfl, _, rfl, nr, _, t, _, rfl, rfl, SqL.of n1, n2, a, _, rfl, .inl (SqL.of n3), rfl, flat_ints row, _, rfl, ?_⟩
          show if (!inV (.int y) (row.map V.int)) = true then _ else _
          rw [inV_int, n4 y y0 y1]
          have em : (c.take (l + 1)).filter (fun x => !nb t x) = (c.take l).filter (fun x => !nb t x) ++ (if (!nb t y) = true then [y] else []) := by
            rw [List.take_add_one, ey, List.filter_append]
            congr 1
            show List.filter _ [y] = _
            rw [List.filter_cons]
            rfl
          cases hb : nb t y with
          | true =>
            refine iteF ⟨?_, s3⟩
            rw [em, hb]
            show G3 p2 = some (.lst ((_ ++ []).map V.int))
            rw [List.append_nil]
            exact hp2
          | false =>
            refine iteT ⟨_, rfl, _, hp2, line_lt ?_, ?_, fun b o e => ?_⟩
            · rw [List.length_map]
              have := List.length_filter_le (fun x => !nb t x) (c.take l)
              rw [List.length_take] at this
              omega
            · rw [upd_same, em, hb, List.map_append]
              rfl
            · rw [upd_ne (ne_of_none e np2)]
              exact s3 _ _ e
        · obtain ⟨hp2, s3⟩ := hP
          rw [List.take_of_length_le (by rw [List.length_map]; omega)] at hp2
          refine ⟨Nat.zero_le _, fun e0 ne0 => ?_⟩
          have s4 := same_new (o := .lst []) ne0
          refine ⟨dL _, dL [], dp_list (s4 _ _ hp2), dp_list (ns := []) upd_same, shaped_list _, shaped_list _, _, rfl, ?_⟩
          have s24 := s2.trans (s3.trans s4)
          have nep : c0 ≠ p := by
            obtain ⟨o, eo⟩ := hLL.tracked (List.mem_of_getElem? ec)
            exact ne_of_none eo np
          rw [eqv_ints]
          refine ite2 (fun z => ?_) (fun z => ?_)
          · replace z := of_decide_eq_true z
            refine ⟨_, rfl, _, (s3.trans s4) _ _ hp, line_lt (by rw [List.length_map]; omega), ds ++ [c0], dcl ++ [c], by rw [upd_same, List.map_append]; rfl, by rw [List.length_append]; exact Nat.succ_le_succ hdl, ?_, fun d md => ?_, fun d hd => ?_, fun b o e => ?_⟩
            · refine LL.snoc ((hLd.same (s3.trans s4)).keep fun u hu o e => ?_) ?_
              · obtain ⟨o2, e2⟩ := hLL.tracked (hds u hu)
                rw [upd_ne (ne_of_none e2 np)]
                exact e
              · rw [upd_ne nep]
                exact (s3.trans s4) _ _ hc
            · rcases List.mem_append.mp md with md | md
              · exact hds d md
              · rw [List.mem_singleton.mp md]
                exact List.mem_of_getElem? ec
            · cases ds with
              | nil =>
                obtain rfl : c0 = d := Option.some.inj hd
                refine ⟨j, c, ec, er, fun x mx => ?_⟩
                cases hb : nb t x with
                | true => rfl
                | false =>
                  have : x ∈ c.filter fun x => !nb t x := List.mem_filter.mpr ⟨mx, by rw [hb]; rfl⟩
                  rw [z] at this
                  exact absurd this List.not_mem_nil
              | cons u us => exact h0 d hd
            · rw [upd_ne (ne_of_none e np)]
              exact s24 _ _ e
          · exact ⟨ds, dcl, (s3.trans s4) _ _ hp, Nat.le_succ_of_le hdl, hLd.same (s3.trans s4), hds, h0, s24⟩
      · obtain ⟨ds, dcl, hp, hdl, hLd, hds, h0, s2⟩ := hP
        refine ⟨_, rfl, Nat.zero_le _, fun e0 ne0 => ?_⟩
        have s3 := same_new (o := .lst []) ne0
        have s23 := s2.trans s3
        have sm3 := sm.trans s23
        refine ⟨dLL dcl, dL [], dp_lists (s3 _ _ hp) (hLd.same s3), dp_list (ns := []) upd_same, shaped_lists _, shaped_list _, _, rfl, ?_⟩
        rw [eqv_nilP]
        refine ite2 (fun z => ?_) (fun z => ?_)
        · refine ⟨_, rfl, .inl ⟨rfl, _, SqL.of (s23 _ _ hlb)⟩, _, rfl, line_small (by show 1 ≤ 16777216; decide), fun u nu => ?_⟩
          have s4 := same_new (o := .lst [.int t]) nu
          have hnu : H u = none := sm3.free nu
          have nul : u ≠ lb := fun y => by rw [y, s23 _ _ hlb] at nu; cases nu
          refine ⟨lb, _, _, rfl, rfl, s4 _ _ (s23 _ _ hlb), line_lt (by rw [List.length_map]; omega), ?_⟩
          refine ⟨_, _, _, _, cs ++ [u], cls ++ [[t]], rfl, by rw [upd_same, List.map_append]; rfl, fun c mc => ?_, ?_, ?_, pr_new hN hPr et, fun b o e => ?_⟩
          · rcases List.mem_append.mp mc with mc | mc
            · exact hfr c mc
            · rw [List.mem_singleton.mp mc]; exact ⟨hnu, nul⟩
          · refine List.nodup_append.mpr ⟨hnd, List.nodup_cons.mpr ⟨List.not_mem_nil, List.nodup_nil⟩, fun a ma b mb => ?_⟩
            rw [List.mem_singleton.mp mb]
            intro y
            obtain ⟨o, eo⟩ := hLL.tracked ma
            rw [y] at eo
            rw [s23 _ _ eo] at nu
            cases nu
          · refine LL.snoc (((hLL.same s23).same s4).keep fun v hv o e => by rw [upd_ne (hfr v hv).2]; exact e) ?_
            rw [upd_ne nul, upd_same]
            rfl
          · rw [upd_ne (ne_of_none e nlb)]
            exact s4 _ _ (sm3 _ _ e)
        · have z' : dcl ≠ [] := fun y => z (decide_eq_true y)
          have ld := hLd.len
          have : 0 < ds.length := by
            rw [ld]
            exact List.length_pos_iff.mpr z'
          obtain ⟨d0, e0'⟩ : ∃ d0, ds[0]? = some d0 := ⟨_, List.getElem?_eq_getElem this⟩
          obtain ⟨i', c, ei, ecl, hcn⟩ := h0 d0 e0'
          obtain ⟨c', ec', hd0⟩ := (hLL.same s23).get ei
          obtain rfl := Option.some.inj (ec'.symm.trans ecl)
          have hcr := hPr.row c' (List.mem_of_getElem? ecl)
          refine ⟨_, rfl, p, _, 0, _, rfl, rfl, SqL.of (s3 _ _ hp), atI_nat (j := 0) (ref_at e0'), ?_⟩
          refine ⟨.inl ⟨rfl, _, SqL.of hd0⟩, _, rfl, d0, _, _, rfl, rfl, hd0, line_lt (by rw [List.length_map]; omega), ?_⟩
          have hfd := hfr d0 (List.mem_of_getElem? ei)
          refine ⟨_, _, _, _, cs, cls.set i' (c' ++ [t]), rfl, by rw [upd_ne hfd.2.symm]; exact s23 _ _ hlb, hfr, hnd, ?_, pr_more hN hPr et ecl hcn, fun b o e => ?_⟩
          · have := (hLL.same s23).put (r := c' ++ [t]) hnd ei
            rw [List.map_append] at this
            exact this
          · rw [upd_ne (ne_of_none e hfd.1)]
            exact sm3 _ _ e
    · obtain ⟨y3, y4, y5, y6, cs, cls, rfl, hlb, hfr, hnd, hLL, hPr, sm⟩ := hP
      refine ⟨_, rfl, lb, _, rfl, .inl (SqL.of hlb), ?_⟩
      rw [List.length_map, hLL.len]
      refine q _ _ (fun S hS hsub => parts_bound hPr.near hS fun x mx => hPr.all x ?_) sm
      rw [List.take_of_length_le (by rw [List.length_map]; omega)]
      exact hsub x mx
end
end Fo
namespace Fo
open PySem PySem.Spec PyProof.Rows L2
/-! the most of these, none near to another, by taking and leaving -/
structure GwR (nb : Int → Int → Bool) (left : List Int) (many best r : Int) : Prop where
  le : best ≤ r
  most : ∀ S, Ind nb S → (∀ x ∈ S, x ∈ left) → many + (S.length : Int) ≤ r
  one : r = best ∨ ∃ S, Ind nb S ∧ (∀ x ∈ S, x ∈ left) ∧ r = many + (S.length : Int)
structure GwI (nb : Int → Int → Bool) (left : List Int) (many best : Int) (t : Nat) (r : Int) : Prop where
  le : best ≤ r
  tl : many ≤ r
  most : ∀ S, Ind nb S → (∀ x ∈ S, x ∈ left) → many + (S.length : Int) ≤ r ∨ ∀ x ∈ S, x ∈ left.take t
  one : r = best ∨ ∃ S, Ind nb S ∧ (∀ x ∈ S, x ∈ left) ∧ r = many + (S.length : Int)
section
variable {nb : Int → Int → Bool} {left : List Int} {many best r : Int} {t : Nat}
theorem gw_start : GwI nb left many best left.length (if best < many then many else best) := by
  split
  · exact ⟨by omega, Int.le_refl _, fun S _ hs => .inr fun x m => by rw [List.take_length]; exact hs x m, .inr ⟨[], List.Pairwise.nil, fun x m => absurd m List.not_mem_nil, by show _ = many + ((0 : Nat) : Int); omega⟩⟩
  · exact ⟨Int.le_refl _, by omega, fun S _ hs => .inr fun x m => by rw [List.take_length]; exact hs x m, .inl rfl⟩
theorem gw_stop (h : GwI nb left many best t r) {p : Nat} (hp : ∀ S, Ind nb S → (∀ x ∈ S, x ∈ left.take t) → S.length ≤ p) (hr : ¬ r < many + (p : Int)) : GwR nb left many best r := by
  refine ⟨h.le, fun S hS hs => ?_, h.one⟩
  rcases h.most S hS hs with h1 | h1
  · exact h1
  · have := hp S hS h1
    omega
theorem gw_end (h : GwI nb left many best t r) (e : left.take t = []) : GwR nb left many best r :=
  gw_stop (p := 0) h (fun S _ hs => by
    rw [e] at hs
    match S, hs with
    | [], _ => exact Nat.le_refl _
    | x :: _, hs => exact absurd (hs x List.mem_cons_self) List.not_mem_nil) (by have := h.tl; omega)
theorem gw_step (B : Nb nb) (h : GwI nb left many best (t + 1) r) {k r' : Int} (e : left[t]? = some k) (g : GwR nb ((left.take t).filter fun x => !nb k x) (many + 1) r r') : GwI nb left many best t r' := by
  have hk := List.mem_of_getElem? e
  have g1 := g.le
  have et : left.take (t + 1) = left.take t ++ [k] := by rw [List.take_add_one, e]; rfl
  have h1 := h.le
  have h2 := h.tl
  refine ⟨by omega, by omega, fun S hS hs => ?_, ?_⟩
  · rcases h.most S hS hs with h3 | h3
    · exact .inl (by omega)
    · by_cases c : k ∈ S
      · -- k and those far from it
        have hnd : S.Nodup := hS.imp fun {a b} hab z => by rw [z, B.refl] at hab; cases hab
        have hfar : ∀ x ∈ S, x ≠ k → nb k x = false := by
          intro x mx ne
          obtain ⟨i, ei⟩ := List.mem_iff_getElem?.mp mx
          obtain ⟨j, ej⟩ := List.mem_iff_getElem?.mp c
          obtain ⟨hi, ei'⟩ := List.getElem?_eq_some_iff.mp ei
          obtain ⟨hj, ej'⟩ := List.getElem?_eq_some_iff.mp ej
          have key := List.pairwise_iff_getElem.mp hS
          rcases Nat.lt_trichotomy i j with z | z | z
          · have := key i j hi hj z
            rw [ei', ej'] at this
            rw [B.sym]; exact this
          · subst z
            exact absurd (ei'.symm.trans ej') ne
          · have := key j i hj hi z
            rw [ei', ej'] at this
            exact this
        have h4 := g.most (S.erase k) (hS.sublist List.erase_sublist) fun x m => by
          have mx := List.mem_of_mem_erase m
          have ne : x ≠ k := fun z => by
            rw [z] at m
            exact hnd.not_mem_erase m
          refine List.mem_filter.mpr ⟨?_, by rw [hfar x mx ne]; rfl⟩
          have := h3 x mx
          rw [et] at this
          rcases List.mem_append.mp this with h5 | h5
          · exact h5
          · exact absurd (List.mem_singleton.mp h5) ne
        rw [List.length_erase_of_mem c] at h4
        have : 0 < S.length := List.length_pos_of_mem c
        exact .inl (by omega)
      · refine .inr fun x m => ?_
        have := h3 x m
        rw [et] at this
        rcases List.mem_append.mp this with h5 | h5
        · exact h5
        · rw [List.mem_singleton.mp h5] at m
          exact absurd m c
  · rcases g.one with e1 | ⟨S, s1, s2, s3⟩
    · rw [e1]; exact h.one
    · refine .inr ⟨k :: S, List.pairwise_cons.mpr ⟨fun x m => ?_, s1⟩, fun x m => ?_, by rw [List.length_cons]; omega⟩
      · have := (List.mem_filter.mp (s2 x m)).2
        cases hb : nb k x with
        | false => rfl
        | true => rw [hb] at this; cases this
      · rcases List.mem_cons.mp m with rfl | m
        · exact hk
        · exact List.mem_of_mem_take (List.mem_filter.mp (s2 x m)).1
end
def spGrown (N : Nat) : Sp := fun vs H Q _ => ∃ (nr lf : Addr) (m : Nat) (nb : Int → Int → Bool) (left : List Int) (many best : Int), vs = [.ref nr, .ref lf, .int many, .int best] ∧ Nb nb ∧ NrAt H nr m nb ∧ H lf = some (.lst (left.map V.int)) ∧ (∀ x ∈ left, 0 ≤ x ∧ x < m) ∧ left.length < N ∧ left.length ≤ 1000 ∧
  ∀ (r : Int) (H' : Hp), GwR nb left many best r → Same H H' → Q (.int r) H'
section
variable {P : Program} {w : World} {K : PySem.W.Frag} {mg : Str → Option Value} {base : Heap}
theorem scGw : FnScope ["near", "left", "many", "best", "k", "j"] ["near", "left", "many", "best"] (defScope s_law_grown) := ⟨rfl, rfl, rfl, by decide +kernel, rfl, by decide +kernel, by decide +kernel⟩
set_option maxHeartbeats 4000000 in
theorem ok_grown1 {f f1 : Addr} {fd d1 : FuncData} {k N : Nat} (T__law_grown : Df K mg "_law_grown" s_law_grown ["near", "left", "many", "best"] f fd) (T__law_parts : Df K mg "_law_parts" s_law_parts ["near", "left"] f1 d1) (G__law_parts : FnOk P w K mg base CX0 k f1 d1 ["near", "left"] spParts23) (G__law_grown : FnOk P w K mg base CX0 k f fd ["near", "left", "many", "best"] (spGrown N)) (B : Bi mg) : FnOk P w K mg base CX0 (k + 1) f fd ["near", "left", "many", "best"] (spGrown (N + 1)) := by
  refine T__law_grown.F.ok scGw (fun vs H Q E h => ?_) (fun cdv A outer s H vs Q E hr h => ?_)
  · obtain ⟨nr, lf, m, nb, left, many, best, rfl, _⟩ := h
    rfl
  · obtain ⟨nr, lf, m, nb, left, many, best, rfl, hN, hnr, hlf, hin, hNl, hlen, q⟩ := h
    refine ⟨_, 
      (Evl.pss_cut (ps_if (pt_cmpR op_gt (pv 2) (pv 3) (nomark _))
        (pss_one (ps_set (i := 3) scGw.nd rfl (.inl rfl) (pv 2)))
        pss_nil)
      (pss_cons (ps_while PassesOwn.never (PW.pt (pw_and (pt_cmpR (op_neD hr.units) (pv 1) (pe_lst pa_nil) (nomark _)) (pw_and1 (pt_cmpR op_gt (pe_op op_add (pv 2) (pe_call G__law_parts hr (by rfl) T__law_parts.g T__law_parts.F.kp T__law_parts.b .nil pass0 (pa_cons (pv 0) (pa_cons (pv 1) pa_nil)))) (pv 3) (nomark _)))))
        (pss_cons (ps_set (i := 4) scGw.nd rfl (.inr rfl) (pe_ix ix_list (pv 1) (pe_un un_neg pe_int) (fun _ _ => rfl)))
        (pss_cons (ps_set (i := 3) scGw.nd rfl (.inl rfl) (pe_call G__law_grown hr (by rfl) T__law_grown.g T__law_grown.F.kp T__law_grown.b .nil pass0 (pa_cons (pv 0) (pa_cons (pe_lc (own := [("j", 5)]) (g := (gName 5)) (tt := (tTest (tOp (rIn K true) (tVar 5) (tOp (rIxL K) (tVar 0) (tVar 4))))) (te := (tVar 5)) rfl scGw.nd (pi_list (pe_slice sl_list (pv 1) po_none (po_some (pe_un un_neg pe_int)))) (blkOk_by (N := ["near", "left", "many", "best", "k", "j"]) (sc := defScope s_law_grown) (by decide +kernel)) (fun _ _ _ _ _ => (pg_name (i := 5) scGw.nd rfl (.inl rfl))) (fun _ _ _ _ _ => (pts_one (pt_cmpR op_notIn_seq (pv 5) (pe_ix ix_list (pv 0) (pv 4) (fun _ _ => rfl)) (by rfl)))) (fun _ _ _ _ _ => (pv 5))) (pa_cons (pe_op op_add (pv 2) pe_int) (pa_cons (pv 3) pa_nil))))))
        (pss_one (ps_set (i := 1) scGw.nd rfl (.inl rfl) (pe_slice sl_list (pv 1) po_none (po_some (pe_un un_neg pe_int))))))))
      (pss_one (ps_ret (pv 3))))), ?_⟩
    refine ⟨fun τ G => τ = [some (.ref nr), some (.ref lf), some (.int many), some (.int (if best < many then many else best)), none, none] ∧ G = H, ?_, fun τ G hM => ?_⟩
    · refine ⟨_, rfl, _, rfl, _, _, rfl, rfl, _, rfl, ite2 (fun c => ?_) (fun c => ?_)⟩
      · exact ⟨_, rfl, by rw [if_pos (of_decide_eq_true c)]; rfl, rfl⟩
      · exact ⟨by rw [if_neg fun z => c (decide_eq_true z)]; rfl, rfl⟩
    obtain ⟨rfl, rfl⟩ := hM
    have hst := gw_start (nb := nb) (left := left) (many := many) (best := best)
    refine ⟨fun mm σ G2 => ∃ (t : Nat) (lf' : Addr) (b : Int) (y4 y5 : Option V), mm = t ∧ t ≤ left.length ∧ σ = [some (.ref nr), some (.ref lf'), some (.int many), some (.int b), y4, y5] ∧ G2 lf' = some (.lst ((left.take t).map V.int)) ∧ GwI nb left many best t b ∧ Same G G2,
      ⟨_, left.length, lf, _, none, none, rfl, Nat.le_refl _, rfl, by rw [List.take_length]; exact hlf, hst, Same.refl G⟩, fun mm σ G2 hW => ?_⟩
    obtain ⟨t, lf', b, y4, y5, rfl, ht, rfl, hl2, hI, sm⟩ := hW
    refine ⟨_, rfl, Nat.zero_le _, fun e ne => ?_⟩
    have se := same_new (o := .lst []) ne
    refine ⟨dL (left.take mm), dL [], dp_list (se _ _ hl2), dp_list (ns := []) upd_same, shaped_list _, shaped_list _, _, rfl, ?_⟩
    rw [eqv_ints]
    have hl3 := se _ _ hl2
    have sm3 := sm.trans se
    generalize upd G2 e (.lst []) = G3 at hl3 sm3 ⊢
    have hbd : ∀ x ∈ left.take mm, 0 ≤ x ∧ x < (m : Int) := fun x mx => hin x (List.mem_of_mem_take mx)
    by_cases cn : left.take mm = []
    · exact iteNS cn (iteF ⟨_, rfl, q _ _ (gw_end hI cn) sm3⟩)
    rw [decide_eq_false cn]
    refine iteT ?_
    have lt : (left.take mm).length = mm := by rw [List.length_take]; omega
    refine ⟨_, rfl, _, rfl, _, rfl, nr, lf', m, nb, left.take mm, rfl, hN, hnr.same sm3, hl3, hbd, by omega, fun p G4 hp s4 => ?_⟩
    have sm4 := sm3.trans s4
    refine ⟨_, _, rfl, rfl, _, rfl, _, _, rfl, rfl, _, rfl, ?_⟩
    refine ite2 (fun c => ?_) (fun c => ⟨_, rfl, q _ _ (gw_stop hI hp fun z => c (decide_eq_true z)) sm4⟩)
    obtain ⟨t, rfl⟩ : ∃ t, mm = t + 1 := by
      cases mm with
      | zero => exact absurd List.take_zero cn
      | succ t => exact ⟨t, rfl⟩
    refine ⟨fun σ' H' => ∃ (lf' : Addr) (b : Int) (y4 y5 : Option V), σ' = [some (.ref nr), some (.ref lf'), some (.int many), some (.int b), y4, y5] ∧ H' lf' = some (.lst ((left.take t).map V.int)) ∧ GwI nb left many best t b ∧ Same G H', fun σ' H' hN => ?_, ?_⟩
    · obtain ⟨l2, b2, z4, z5, e1, e2, e3, e4⟩ := hN
      exact ⟨t, Nat.lt_succ_self t, t, l2, b2, z4, z5, rfl, by omega, e1, e2, e3, e4⟩
    have hk : left[t]? = some (left[t]'(by omega)) := List.getElem?_eq_getElem _
    generalize left[t]'(by omega) = k0 at hk
    have et : left.take (t + 1) = left.take t ++ [k0] := by rw [List.take_add_one, hk]; rfl
    have hl4 := s4 _ _ hl3
    rw [et, List.map_append] at hl4
    replace hl4 : G4 lf' = some (.lst ((left.take t).map V.int ++ [.int k0])) := hl4
    obtain ⟨k00, k01⟩ := hin k0 (List.mem_of_getElem? hk)
    refine ⟨_, rfl, 1, rfl, lf', _, _, .int k0, rfl, rfl, SqL.of hl4, atI_last _ _, ?_⟩
    refine ⟨_, rfl, _, rfl, 1, rfl, _, rfl, lf', _, rfl, SqL.of hl4, fun u nu => ?_⟩
    have s5 := same_new (o := .lst (cutV ((left.take t).map V.int ++ [.int k0]) none (some (-1)))) nu
    have hu : (upd G4 u (.lst (cutV ((left.take t).map V.int ++ [.int k0]) none (some (-1))))) u = some (.lst ((left.take t).map V.int)) := by rw [upd_same, cutV_last]
    have sm5 := sm4.trans s5
    have hl5 := s5 _ _ hl4
    generalize upd G4 u (.lst (cutV ((left.take t).map V.int ++ [.int k0]) none (some (-1)))) = G5 at *
    refine ⟨u, rfl, ⟨_, SqL.of hu⟩, fun p2 np2 => ?_⟩
    refine lc_list (K := K) (a := u) (xs := (left.take t).map V.int) (fun l G6 => G6 p2 = some (.lst ((((left.take t).take l).filter fun x => !nb k0 x).map V.int)) ∧ Same G5 G6) ⟨upd_same, same_new np2⟩ (fun l G6 _ hP => SqL.of (hP.2 _ _ hu)) (fun l x G6 hx hP => ?_) (fun G6 hP => ?_)
    · obtain ⟨hp2, s6⟩ := hP
      obtain ⟨y, ey, rfl⟩ := int_at_inv hx
      obtain ⟨na, a, row, n1, n2, n3, n4⟩ := (hnr.same (sm5.trans s6)).at k00 k01
      obtain ⟨y0, y1⟩ := hin y (List.mem_of_mem_take (List.mem_of_getElem? ey))
      refine ⟨rfl, _, rfl, _, rfl, _, rfl, nr, _, k0, _, rfl, rfl, SqL.of n1, n2, a, _, rfl, .inl (SqL.of n3), rfl, flat_ints row, _, rfl, ?_⟩
      show if (!inV (.int y) (row.map V.int)) = true then _ else _
      rw [inV_int, n4 y y0 y1]
      have em : ((left.take t).take (l + 1)).filter (fun x => !nb k0 x) = ((left.take t).take l).filter (fun x => !nb k0 x) ++ (if (!nb k0 y) = true then [y] else []) := by
        rw [List.take_add_one, ey, List.filter_append]
        congr 1
        show List.filter _ [y] = _
        rw [List.filter_cons]
        rfl
      cases hb : nb k0 y with
      | true =>
        refine iteF ⟨?_, s6⟩
        rw [em, hb]
        show G6 p2 = some (.lst ((_ ++ []).map V.int))
        rw [List.append_nil]
        exact hp2
      | false =>
        refine iteT ⟨_, rfl, _, hp2, line_lt ?_, ?_, fun b o e => ?_⟩
        · rw [List.length_map]
          have h1 := List.length_filter_le (fun x => !nb k0 x) ((left.take t).take l)
          have h2 := List.length_take_le' l (left.take t)
          have h3 := List.length_take_le' t left
          omega
        · rw [upd_same, em, hb, List.map_append]
          rfl
        · rw [upd_ne (ne_of_none e np2)]
          exact s6 _ _ e
    · obtain ⟨hp2, s6⟩ := hP
      rw [List.take_of_length_le (by rw [List.length_map]; exact Nat.le_refl _)] at hp2
      have lf6 : ((left.take t).filter fun x => !nb k0 x).length ≤ t := by
        have h1 := List.length_filter_le (fun x => !nb k0 x) (left.take t)
        have h2 := List.length_take_le t left
        omega
      refine ⟨_, rfl, _, _, rfl, rfl, _, rfl, nr, p2, m, nb, _, many + 1, b, rfl, hN, hnr.same (sm5.trans s6), hp2, fun x mx => hin x (List.mem_of_mem_take (List.mem_filter.mp mx).1), by omega, by omega, fun r' G7 hR s7 => ?_⟩
      have sm7 := (sm5.trans s6).trans s7
      refine ⟨_, rfl, 1, rfl, _, rfl, lf', _, rfl, SqL.of ((s6.trans s7) _ _ hl5), fun v nv => ?_⟩
      exact ⟨v, r', _, _, rfl, by rw [upd_same, cutV_last], gw_step hN hI hk hR, sm7.trans (same_new nv)⟩
theorem fn_gw0 {f : Addr} {fd : FuncData} {k : Nat} : FnOk P w K mg base CX0 k f fd ["near", "left", "many", "best"] (spGrown 0) :=
  ⟨fun _ _ _ _ h => by obtain ⟨_, _, _, _, _, _, _, _, _, _, _, _, h, _⟩ := h; exact absurd h (Nat.not_lt_zero _), fun _ _ _ _ _ _ _ _ _ _ _ _ _ h => by obtain ⟨_, _, _, _, _, _, _, _, _, _, _, _, h, _⟩ := h; exact absurd h (Nat.not_lt_zero _)⟩
theorem ok_grown {f f1 : Addr} {fd d1 : FuncData} {k : Nat} (T__law_grown : Df K mg "_law_grown" s_law_grown ["near", "left", "many", "best"] f fd) (T__law_parts : Df K mg "_law_parts" s_law_parts ["near", "left"] f1 d1) (B : Bi mg) : ∀ N, FnOk P w K mg base CX0 (N + (k + 1)) f fd ["near", "left", "many", "best"] (spGrown N)
  | 0 => fn_gw0
  | N + 1 => by
    have h := ok_grown1 T__law_grown T__law_parts (ok_parts (k := N + k) T__law_parts B) (ok_grown T__law_grown T__law_parts B N) B
    rw [show N + 1 + (k + 1) = N + (k + 1) + 1 by omega]
    exact h
end
end Fo
namespace Fo
open PySem PySem.Spec PyProof.Rows L2
/-! how many a longest list has -/
def oA (n : Nat) (i : Int) : List Int := (allK n n).getD i.toNat []
def nbF (w : Str) (n : Nat) (d : Int) (i j : Int) : Bool := decide (i = j) || (decide (farW w (oA n i) (oA n j) < d) || decide (farW w (oA n j) (oA n i) < d))
theorem nbF_nb (w : Str) (n : Nat) (d : Int) : Nb (nbF w n d) := by
  refine ⟨fun i => ?_, fun i j => ?_⟩
  · unfold nbF
    rw [decide_eq_true rfl, Bool.true_or]
  · unfold nbF
    rw [Bool.or_comm (decide (farW w (oA n i) (oA n j) < d))]
    congr 1
    exact decide_eq_decide.mpr ⟨Eq.symm, Eq.symm⟩
theorem oA_at {n i : Nat} {o : List Int} (h : (allK n n)[i]? = some o) : oA n (i : Int) = o := by
  unfold oA
  rw [Int.toNat_natCast, List.getD_eq_getElem?_getD, h]
  rfl
theorem oA_get {n : Nat} {j : Int} (j0 : 0 ≤ j) (j1 : j < ((allK n n).length : Int)) : (allK n n)[j.toNat]? = some (oA n j) := by
  have hj : j.toNat < (allK n n).length := by omega
  unfold oA
  rw [List.getD_eq_getElem?_getD, List.getElem?_eq_getElem hj]
  rfl
theorem oA_ord {n : Nat} {j : Int} (j0 : 0 ≤ j) (j1 : j < ((allK n n).length : Int)) : IsOrd n (oA n j) := all_ord (List.mem_of_getElem? (oA_get j0 j1))
theorem nbF_false {w : Str} {n : Nat} {d i j : Int} (h : nbF w n d i j = false) : d ≤ farW w (oA n i) (oA n j) ∧ d ≤ farW w (oA n j) (oA n i) := by
  unfold nbF at h
  obtain ⟨_, h2⟩ := Bool.or_eq_false_iff.mp h
  obtain ⟨h3, h4⟩ := Bool.or_eq_false_iff.mp h2
  exact ⟨Int.not_lt.mp (of_decide_eq_false h3), Int.not_lt.mp (of_decide_eq_false h4)⟩
theorem nbF_iff {w : Str} {n : Nat} {d i j : Int} (hn : 1 ≤ n) (hd : 1 ≤ d) (i0 : 0 ≤ i) (i1 : i < ((allK n n).length : Int)) (j0 : 0 ≤ j) (j1 : j < ((allK n n).length : Int)) : nbF w n d i j = true ↔ farW w (oA n i) (oA n j) < d := by
  have oi := oA_ord i0 i1
  have oj := oA_ord j0 j1
  have h := farW_turn (w := w) oi oj hn
  unfold nbF
  rw [h]
  constructor
  · intro z
    rcases Bool.or_eq_true_iff.mp z with z | z
    · rw [of_decide_eq_true z, farW_self oj hn]
      omega
    · rw [Bool.or_self] at z
      exact of_decide_eq_true z
  · intro z
    rw [decide_eq_true z]
    simp
def rowF (w : Str) (n : Nat) (d : Int) (o : List Int) : List Int := (rg (allK n n).length).filter fun j => decide (farW w o (oA n j) < d)
theorem rowF_mem {w : Str} {n : Nat} {d i j : Int} (hn : 1 ≤ n) (hd : 1 ≤ d) (i0 : 0 ≤ i) (i1 : i < ((allK n n).length : Int)) (j0 : 0 ≤ j) (j1 : j < ((allK n n).length : Int)) : j ∈ rowF w n d (oA n i) ↔ nbF w n d i j = true := by
  rw [nbF_iff hn hd i0 i1 j0 j1]
  unfold rowF
  rw [List.mem_filter]
  exact ⟨fun h => of_decide_eq_true h.2, fun h => ⟨rg_mem.mpr ⟨j0, j1⟩, decide_eq_true h⟩⟩
/-- what is left of them beside the first -/
def leftF (w : Str) (n : Nat) (d : Int) : List Int := (rg (allK n n).length).filter fun j => !nbF w n d 0 j
theorem left_bound {w : Str} {n : Nat} {d : Int} {j : Int} (h : j ∈ leftF w n d) : 0 ≤ j ∧ j < ((allK n n).length : Int) := rg_mem.mp (List.mem_filter.mp h).1
theorem left_len {w : Str} {n : Nat} {d : Int} (h1 : 1 ≤ n) (h4 : n ≤ 4) : (leftF w n d).length < 24 := by
  obtain ⟨tl, hk, ht⟩ := allK_head n h4 h1
  have hl : (allK n n).length = tl.length + 1 := by rw [hk]; rfl
  have := List.length_filter_lt_length_iff_exists (p := fun j => !nbF w n d 0 j) (l := rg (allK n n).length) |>.mpr ⟨0, rg_mem.mpr ⟨by omega, by omega⟩, by rw [(nbF_nb w n d).refl]; decide⟩
  rw [rg_len] at this
  unfold leftF
  omega
theorem due_le {w : Str} {n : Nat} {d r : Int} (h1 : 1 ≤ n) (h4 : n ≤ 4) (hd : 1 ≤ d) (g : GwR (nbF w n d) (leftF w n d) 1 0 r) {s : List (List Int)} (ho : ∀ x ∈ s, IsOrd n x) (ha : ApL w d (rg n :: s)) : 1 + (s.length : Int) ≤ r := by
  obtain ⟨tl, hk, _⟩ := allK_head n h4 h1
  obtain ⟨a1, a2⟩ := List.pairwise_cons.mp ha
  have hix : ∀ x, IsOrd n x → ∃ i : Nat, (allK n n)[i]? = some x := fun x ox => List.mem_iff_getElem?.mp (ord_mem ox)
  let ix : List Int → Int := fun x => (((allK n n).idxOf x : Nat) : Int)
  have hat : ∀ x, IsOrd n x → (allK n n)[(allK n n).idxOf x]? = some x := fun x ox => by
    have hlt := List.idxOf_lt_length_of_mem (ord_mem ox)
    rw [List.getElem?_eq_getElem hlt, List.getElem_idxOf hlt]
  have e : ∀ x, IsOrd n x → oA n (ix x) = x := fun x ox => oA_at (hat x ox)
  have hb : ∀ x, IsOrd n x → 0 ≤ ix x ∧ ix x < ((allK n n).length : Int) := fun x ox => ⟨Int.natCast_nonneg _, Int.ofNat_lt.mpr (List.getElem?_eq_some_iff.mp (hat x ox)).1⟩
  have nf : ∀ i j : Int, 0 ≤ i → i < ((allK n n).length : Int) → 0 ≤ j → j < ((allK n n).length : Int) → d ≤ farW w (oA n i) (oA n j) → nbF w n d i j = false := fun i j i0 i1 j0 j1 h => by
    cases hb : nbF w n d i j with
    | false => rfl
    | true => have := (nbF_iff h1 hd i0 i1 j0 j1).mp hb; omega
  have h := g.most (s.map ix) (List.pairwise_map.mpr ((a2.imp_of_mem fun {a b} ma mb hab => nf _ _ (hb a (ho a ma)).1 (hb a (ho a ma)).2 (hb b (ho b mb)).1 (hb b (ho b mb)).2 (by rw [e a (ho a ma), e b (ho b mb)]; exact hab)))) fun j mj => by
    obtain ⟨x, mx, rfl⟩ := List.mem_map.mp mj
    have o0 : oA n 0 = rg n := oA_at (i := 0) (by rw [hk]; rfl)
    refine List.mem_filter.mpr ⟨rg_mem.mpr (hb x (ho x mx)), ?_⟩
    rw [nf 0 (ix x) (by omega) (by rw [hk, List.length_cons]; omega) (hb x (ho x mx)).1 (hb x (ho x mx)).2 (by rw [o0, e x (ho x mx)]; exact a1 x mx)]
    rfl
  rw [List.length_map] at h
  exact h
theorem due_is {w : Str} {n : Nat} {d r : Int} (h1 : 1 ≤ n) (h4 : n ≤ 4) (g : GwR (nbF w n d) (leftF w n d) 1 0 r) : ∃ us : List (List Int), (∀ x ∈ us, IsOrd n x) ∧ ApL w d us ∧ (us.length : Int) = r := by
  obtain ⟨tl, hk, _⟩ := allK_head n h4 h1
  have h0 := g.most [] List.Pairwise.nil fun x m => absurd m List.not_mem_nil
  rcases g.one with z | ⟨S, s1, s2, s3⟩
  · rw [z] at h0
    exact absurd h0 (by decide)
  have o0 : oA n 0 = rg n := oA_at (i := 0) (by rw [hk]; rfl)
  refine ⟨rg n :: S.map (oA n), fun x m => ?_, List.pairwise_cons.mpr ⟨fun x m => ?_, List.pairwise_map.mpr (s1.imp fun h => (nbF_false h).1)⟩, by rw [List.length_cons, List.length_map, s3]; omega⟩
  · rcases List.mem_cons.mp m with rfl | m
    · exact all_ord (by rw [hk]; exact List.mem_cons_self)
    · obtain ⟨j, mj, rfl⟩ := List.mem_map.mp m
      obtain ⟨j0, j1⟩ := left_bound (s2 j mj)
      exact oA_ord j0 j1
  · obtain ⟨j, mj, rfl⟩ := List.mem_map.mp m
    have := (List.mem_filter.mp (s2 j mj)).2
    cases hb : nbF w n d 0 j with
    | false =>
      have h := (nbF_false hb).1
      rw [o0] at h
      exact h
    | true => rw [hb] at this; cases this
theorem filter_moreN {m : Nat} (p : Int → Bool) : (rg (m + 1)).filter p = (rg m).filter p ++ (if p (m : Int) = true then [(m : Int)] else []) := by
  rw [rg_succ, List.filter_append]
  congr 1
  rw [List.filter_cons]
  rfl
def spDue23 : Sp := fun vs H Q _ => ∃ (z : Str) (n : Nat) (d : Int), vs = [.str z, .int n, .int d] ∧ IsWay z ∧ 1 ≤ n ∧ n ≤ 4 ∧ 1 ≤ d ∧
  ∀ (r : Int) (H' : Hp), (∀ s, (∀ x ∈ s, IsOrd n x) → ApL z d (rg n :: s) → 1 + (s.length : Int) ≤ r) → (∃ us : List (List Int), (∀ x ∈ us, IsOrd n x) ∧ ApL z d us ∧ (us.length : Int) = r) → Same H H' → Q (.int r) H'
section
variable {P : Program} {w : World} {K : PySem.W.Frag} {mg : Str → Option Value} {base : Heap}
theorem scDu : FnScope ["way", "n", "d", "orders", "near", "order", "k", "other"] ["way", "n", "d"] (defScope s_law_due) := ⟨rfl, rfl, rfl, by decide +kernel, rfl, by decide +kernel, by decide +kernel⟩
set_option maxHeartbeats 4000000 in
theorem ok_due {f f1 f2 f3 : Addr} {fd d1 d2 d3 : FuncData} {k : Nat} (T : Df K mg "_law_due" s_law_due ["way", "n", "d"] f fd) (T__law_orders : Df K mg "_law_orders" s_law_orders ["n"] f1 d1) (T__law_far : Df K mg "_law_far" s_law_far ["way", "one", "other"] f2 d2) (T__law_grown : Df K mg "_law_grown" s_law_grown ["near", "left", "many", "best"] f3 d3) (G__law_orders : FnOk P w K mg base CX0 k f1 d1 ["n"] spAllO) (G__law_far : FnOk P w K mg base CX0 k f2 d2 ["way", "one", "other"] spFar) (G__law_grown : FnOk P w K mg base CX0 k f3 d3 ["near", "left", "many", "best"] (spGrown 24)) (B : Bi mg) : FnOk P w K mg base CX0 (k + 1) f fd ["way", "n", "d"] spDue23 := by
  refine T.F.ok scDu (fun vs H Q E h => ?_) (fun cdv A outer s H vs Q E hr h => ?_)
  · obtain ⟨z, n, d, rfl, _⟩ := h
    rfl
  · obtain ⟨z, n, d, rfl, hz, hn1, hn4, hd, q⟩ := h
    obtain ⟨tl, hk, htl⟩ := allK_head n hn4 hn1
    have hm : (allK n n).length ≤ 24 := by rw [hk, List.length_cons]; omega
    have hm1 : 1 ≤ (allK n n).length := by rw [hk, List.length_cons]; omega
    refine ⟨_, 
      (pss_cons (ps_set (i := 3) scDu.nd rfl (.inl rfl) (pe_call G__law_orders hr (by rfl) T__law_orders.g T__law_orders.F.kp T__law_orders.b .nil pass0 (pa_cons (pv 1) pa_nil)))
      (pss_cons (ps_set (i := 4) scDu.nd rfl (.inr rfl) (pe_lst pa_nil))
      (pss_cons (ps_for PassesOwn.never rfl (pi_list (pv 3)) (pg_name (i := 5) scDu.nd rfl (.inr rfl))
        (pss_one (ps_expr (pe_bm PySem.F.plainAttrs_list PySem.F.slot_list_append PySem.F.type_list_append mt_append (pv 4) (pa_cons (pe_lc (own := [("k", 6), ("other", 7)]) (g := (gTup K 2 (gCons (gName 6) (gCons (gName 7) gNil)))) (tt := (tTest (tOp (rI0 fun i j => .bl (decide (i < j))) (tCall spFar [] E0 (tCons (tVar 0) (tCons (tVar 5) (tCons (tVar 7) tNil)))) (tVar 2)))) (te := (tVar 6)) rfl scDu.nd (pi_enum (by rfl) B.enumerate (pa_cons (pv 3) pa_nil)) (blkOk_by (N := ["way", "n", "d", "orders", "near", "order", "k", "other"]) (sc := defScope s_law_due) (by decide +kernel)) (fun _ _ _ _ _ => (pg_tup (by rfl) (pgs_cons (pg_name (i := 6) scDu.nd rfl (.inl rfl)) (pgs_cons (pg_name (i := 7) scDu.nd rfl (.inl rfl)) pgs_nil)))) (fun _ _ _ _ _ => (pts_one (pt_cmpR op_lt (pe_call G__law_far hr (by rfl) T__law_far.g T__law_far.F.kp T__law_far.b .nil pass0 (pa_cons (pv 0) (pa_cons (pv 5) (pa_cons (pv 7) pa_nil)))) (pv 2) (nomark _)))) (fun _ _ _ _ _ => (pv 6))) pa_nil)))))
      (pss_one (ps_ret (pe_call G__law_grown hr (by rfl) T__law_grown.g T__law_grown.F.kp T__law_grown.b .nil pass0 (pa_cons (pv 4) (pa_cons (pe_lc (own := [("k", 6)]) (g := (gName 6)) (tt := (tTest (tOp (rIn K true) (tVar 6) (tOp (rIxL K) (tVar 4) (tC (.int 0)))))) (te := (tVar 6)) rfl scDu.nd (pi_range1 (by rfl) B.range (pa_cons (pe_callB call_len_seq (by rfl) B.len PySem.boot_len (pa_cons (pv 3) pa_nil)) pa_nil)) (blkOk_by (N := ["way", "n", "d", "orders", "near", "order", "k", "other"]) (sc := defScope s_law_due) (by decide +kernel)) (fun _ _ _ _ _ => (pg_name (i := 6) scDu.nd rfl (.inl rfl))) (fun _ _ _ _ _ => (pts_one (pt_cmpR op_notIn_seq (pv 6) (pe_ix ix_list (pv 4) pe_int (fun _ _ => rfl)) (by rfl)))) (fun _ _ _ _ _ => (pv 6))) (pa_cons pe_int (pa_cons pe_int pa_nil)))))))))), ?_⟩
    refine ⟨_, rfl, n, rfl, hn1, by omega, fun al as H2 nal hal hLL nas nda s2 => ?_⟩
    have lal := hLL.len
    refine ⟨Nat.zero_le _, fun nl nnl => ?_⟩
    have s3 := same_new (o := .lst []) nnl
    refine ⟨_, rfl, al, rfl, ⟨_, SqL.of (s3 _ _ hal)⟩, ?_⟩
    refine for_list (xs := as.map V.ref) (fun i σ G => ∃ (y5 y6 y7 : Option V) (ns : List Addr), σ = [some (.str z), some (.int n), some (.int d), some (.ref al), some (.ref nl), y5, y6, y7] ∧ G nl = some (.lst (ns.map V.ref)) ∧ ns.length = i ∧ (∀ c ∈ ns, c ≠ nl) ∧ LL G ns (((allK n n).take i).map (rowF z n d)) ∧ Same H2 G)
      ⟨_, _, _, [], rfl, upd_same, rfl, fun c m => absurd m List.not_mem_nil, trivial, s3⟩ (fun i σ G _ hP => by obtain ⟨_, _, _, _, _, _, _, _, _, sm⟩ := hP; exact SqL.of (sm _ _ hal)) (fun i x σ G hx hP => ?_) (fun σ G hP => ?_)
    · obtain ⟨y5, y6, y7, ns, rfl, hnl, hlen, hne, hLn, sm⟩ := hP
      obtain ⟨c0, ec, rfl⟩ := ref_at_inv hx
      obtain ⟨o, eo, hc0⟩ := (hLL.same sm).get ec
      have oo := all_ord (List.mem_of_getElem? eo)
      have hi := (List.getElem?_eq_some_iff.mp eo).1
      refine ⟨_, rfl, .inl ⟨rfl, _, SqL.of hnl⟩, _, rfl, al, _, rfl, SqL.of (sm _ _ hal), fun p np => ?_⟩
      refine lc_enumL (K := K) (a := al) (xs := as.map V.ref) (fun j G2 => G2 p = some (.lst (((rg j).filter fun t => decide (farW z o (oA n t) < d)).map V.int)) ∧ Same G G2) ⟨upd_same, same_new np⟩ (fun j G2 _ hP => SqL.of (hP.2 _ _ (sm _ _ hal))) (fun j x T2 G2 hx hP nT => ?_) (fun G2 hP => ?_)
      · obtain ⟨hp, s4⟩ := hP
        obtain ⟨c1, ec1, rfl⟩ := ref_at_inv hx
        have s5 := same_new (o := .tup [.int (j : Nat), .ref c1]) nT
        have s45 := s4.trans s5
        obtain ⟨o1, eo1, hc1⟩ := (hLL.same (sm.trans s45)).get ec1
        have oo1 := all_ord (List.mem_of_getElem? eo1)
        have hj := (List.getElem?_eq_some_iff.mp eo1).1
        refine ⟨T2, _, rfl, .inl (.inl upd_same), rfl, _, _, rfl, _, _, rfl, rfl, rfl, ?_⟩
        refine ⟨_, rfl, _, rfl, _, rfl, z, c0, c1, n, o, o1, rfl, hz, s45 _ _ hc0, hc1, oo, oo1, hn1, by omega, fun G3 s6 => ?_⟩
        have hp3 := (s5.trans s6) _ _ hp
        have em := filter_moreN (m := j) fun t => decide (farW z o (oA n t) < d)
        rw [oA_at eo1] at em
        refine ⟨_, rfl, _, _, rfl, rfl, _, rfl, ite2 (fun c => ?_) (fun c => ?_)⟩
        · refine ⟨_, rfl, _, hp3, line_lt ?_, ?_, fun b ob e => ?_⟩
          · rw [List.length_map]
            have := List.length_filter_le (fun t => decide (farW z o (oA n t) < d)) (rg j)
            rw [rg_len] at this
            omega
          · rw [upd_same, em, if_pos c, List.map_append]
            rfl
          · rw [upd_ne (ne_of_none e np)]
            exact (s45.trans s6) _ _ e
        · refine ⟨?_, s45.trans s6⟩
          rw [em, if_neg c, List.append_nil]
          exact hp3
      · obtain ⟨hp, s4⟩ := hP
        rw [List.length_map, lal] at hp
        have nep : p ≠ nl := fun y => by rw [y, hnl] at np; cases np
        refine ⟨nl, _, _, rfl, rfl, s4 _ _ hnl, line_lt (by rw [List.length_map]; omega), ?_⟩
        refine ⟨_, _, _, ns ++ [p], rfl, by rw [upd_same, List.map_append]; rfl, by rw [List.length_append, hlen]; rfl, fun c mc => ?_, ?_, fun b ob e => ?_⟩
        · rcases List.mem_append.mp mc with mc | mc
          · exact hne c mc
          · rw [List.mem_singleton.mp mc]; exact nep
        · rw [List.take_add_one, eo, List.map_append]
          refine LL.snoc ((hLn.same s4).keep fun u hu ob e => by rw [upd_ne (hne u hu)]; exact e) ?_
          rw [upd_ne nep]
          exact hp
        · rw [upd_ne (ne_of_none e nnl)]
          exact s4 _ _ (sm _ _ e)
    · obtain ⟨y5, y6, y7, ns, rfl, hnl, hlen, hne, hLn, sm⟩ := hP
      rw [List.take_of_length_le (by rw [List.length_map]; omega)] at hLn
      have hNr : NrAt G nl (allK n n).length (nbF z n d) := by
        refine ⟨ns, _, hnl, hLn, by rw [List.length_map], fun i j row er j0 j1 => ?_⟩
        rw [List.getElem?_map] at er
        obtain ⟨o, eo, rfl⟩ := Option.map_eq_some_iff.mp er
        have hi := (List.getElem?_eq_some_iff.mp eo).1
        rw [← oA_at eo]
        exact rowF_mem hn1 hd (Int.natCast_nonneg _) (Int.ofNat_lt.mpr hi) j0 j1
      refine ⟨_, rfl, _, rfl, al, _, rfl, .inl (SqL.of (sm _ _ hal)), ?_⟩
      have hal' : (as.map V.ref).length = (allK n n).length := by rw [List.length_map, lal]
      refine ⟨_, rfl, by omega, by omega, fun p np => ?_⟩
      rw [hal', Int.toNat_natCast]
      refine lc_range (lo := 0) (n := (allK n n).length) (fun j G2 => G2 p = some (.lst (((rg j).filter fun t => !nbF z n d 0 t).map V.int)) ∧ Same G G2) ⟨upd_same, same_new np⟩ (fun j G2 hj hP => ?_) (fun G2 hP => ?_)
      · obtain ⟨hp, s4⟩ := hP
        obtain ⟨na, a, row, n1, n2, n3, n4⟩ := (hNr.same s4).at (k := 0) (by omega) (by omega)
        have n5 := n4 (j : Int) (by omega) (by omega)
        have em := filter_moreN (m := j) fun t => !nbF z n d 0 t
        refine ⟨rfl, _, rfl, _, rfl, nl, _, 0, _, rfl, rfl, SqL.of n1, n2, a, _, rfl, .inl (SqL.of n3), rfl, flat_ints row, _, rfl, ?_⟩
        show if (!inV (.int (0 + (j : Int))) (row.map V.int)) = true then _ else _
        rw [inV_int, Int.zero_add, n5]
        cases hb : nbF z n d 0 (j : Int) with
        | true =>
          refine iteF ⟨?_, s4⟩
          rw [em, hb]
          show G2 p = some (.lst ((_ ++ []).map V.int))
          rw [List.append_nil]
          exact hp
        | false =>
          refine iteT ⟨_, rfl, _, hp, line_lt ?_, ?_, fun b ob e => ?_⟩
          · rw [List.length_map]
            have := List.length_filter_le (fun t => !nbF z n d 0 t) (rg j)
            rw [rg_len] at this
            omega
          · rw [upd_same, em, hb, List.map_append]
            rfl
          · rw [upd_ne (ne_of_none e np)]
            exact s4 _ _ e
      · obtain ⟨hp, s4⟩ := hP
        have ll := left_len (w := z) (d := d) hn1 hn4
        refine ⟨nl, p, (allK n n).length, nbF z n d, leftF z n d, 1, 0, rfl, nbF_nb z n d, hNr.same s4, hp, fun x mx => left_bound mx, ll, by omega, fun r G3 hR s5 => ?_⟩
        exact q r G3 (fun s ho ha => due_le hn1 hn4 hd hR ho ha) (due_is hn1 hn4 hR) (s2.trans (sm.trans (s4.trans s5)))
end
end Fo
namespace Fo
open PySem PySem.Spec PyProof.Rows L2
def spLaw (K : PySem.W.Frag) : Sp := fun vs H Q _ => ∃ (a : Addr) (ns : List Int), vs = [.ref a] ∧ SqL K H a (ns.map V.int) ∧ ns.length ≤ 63 ∧ ∀ H', Q (.bl true) H'
theorem turns38 (n : Nat) : ∃ m : Nat, (if (8 : Int) < (if (3 : Int) > (n : Int) then 3 else (n : Int)) then 8 else (if (3 : Int) > (n : Int) then 3 else (n : Int))) = (m : Int) ∧ m ≤ 8 := by
  refine ⟨min (max n 3) 8, ?_, by omega⟩
  split <;> split <;> omega
theorem pick23 {v1 v3 : Int} (h1 : 0 ≤ v1) (h1' : v1 < 4) (h3 : 0 ≤ v3) (h3' : v3 < 2) : ∃ n : Nat, 1 ≤ n ∧ n ≤ 4 ∧ atI [V.int (1 + v1), V.int 4] v3 = some (V.int n) := by
  rcases (show v3 = 0 ∨ v3 = 1 by omega) with rfl | rfl
  · exact ⟨(1 + v1).toNat, by omega, by omega, by rw [show (((1 + v1).toNat : Nat) : Int) = 1 + v1 by omega]; rfl⟩
  · exact ⟨4, by decide, by decide, rfl⟩
theorem apL_nodupO {w : Str} {n : Nat} {d : Int} {rs : List (List Int)} (hn : 1 ≤ n) (ho : ∀ r ∈ rs, IsOrd n r) (hd : 1 ≤ d) (h : ApL w d rs) : rs.Nodup :=
  h.imp_of_mem fun {a b} ma mb hab z => by
    rw [z, farW_self (ho b mb) hn] at hab
    omega
theorem addr_nodup {H : Hp} : ∀ {as : List Addr} {rs : List (List Int)}, LL H as rs → rs.Nodup → as.Nodup
  | [], _, _, _ => List.nodup_nil
  | _ :: _, [], h, _ => h.elim
  | a :: as, r :: rs, h, nd => by
    obtain ⟨n1, n2⟩ := List.nodup_cons.mp nd
    refine List.nodup_cons.mpr ⟨fun m => ?_, addr_nodup h.2 n2⟩
    obtain ⟨i, e⟩ := List.mem_iff_getElem?.mp m
    obtain ⟨r2, er, h2⟩ := h.2.get e
    rw [h.1] at h2
    have e2 : r.map V.int = r2.map V.int := by injection (Option.some.inj h2)
    have e3 : r = r2 := List.map_inj_right (fun x y h => V.int.inj h) |>.mp e2
    rw [e3] at n1
    exact n1 (List.mem_of_getElem? er)
theorem head_ne {H : Hp} {l : Addr} {as : List Addr} {rs : List (List Int)} (hl : H l = some (.lst (as.map V.ref))) (h : LL H as rs) : ∀ x ∈ as, x ≠ l := by
  intro x m z
  obtain ⟨i, e⟩ := List.mem_iff_getElem?.mp m
  obtain ⟨r, _, h2⟩ := h.get e
  rw [z, hl] at h2
  have e2 : as.map V.ref = r.map V.int := by injection (Option.some.inj h2)
  match as, r, e2, m with
  | _ :: _, [], e2, _ => cases e2
  | _ :: _, _ :: _, e2, _ => cases e2
section
variable {P : Program} {w : World} {K : PySem.W.Frag} {mg : Str → Option Value} {base : Heap}
theorem scLaw : FnScope ["script", "at", "store", "way", "n", "d", "found", "kept", "order"] ["script"] (defScope s_law) := ⟨rfl, rfl, rfl, by decide +kernel, rfl, by decide +kernel, by decide +kernel⟩
set_option maxHeartbeats 8000000 in
theorem ok_law {f f1 f2 f3 f4 f5 f6 f7 f8 f9 : Addr} {fd d1 d2 d3 d4 d5 d6 d7 d8 d9 : FuncData} (T : Fun K "law" "law" s_law f fd) (T__law_store : Df K mg "_law_store" s_law_store ["cell"] f1 d1) (T__law_cell : Df K mg "_law_cell" s_law_cell ["script", "k"] f2 d2) (T__law_way : Df K mg "_law_way" s_law_way ["store"] f3 d3) (T__law_take : Df K mg "_law_take" s_law_take ["store", "many"] f4 d4) (T__law_distance : Df K mg "_law_distance" s_law_distance ["store", "way", "n"] f5 d5) (T_longest_apart : Df K mg "longest_apart" s_longest_apart ["way", "n", "d"] f6 d6) (T__law_apart : Df K mg "_law_apart" s_law_apart ["way", "n", "d", "thing"] f7 d7) (T__law_due : Df K mg "_law_due" s_law_due ["way", "n", "d"] f8 d8) (T__law_deep : Df K mg "_law_deep" s_law_deep ["thing"] f9 d9)
    (G__law_store : FnOk P w K mg base CX0 39 f1 d1 ["cell"] spStore) (G__law_cell : FnOk P w K mg base CX0 39 f2 d2 ["script", "k"] (spCell K)) (G__law_way : FnOk P w K mg base CX0 39 f3 d3 ["store"] spLWay) (G__law_take : FnOk P w K mg base CX0 39 f4 d4 ["store", "many"] spTake) (G__law_distance : FnOk P w K mg base CX0 39 f5 d5 ["store", "way", "n"] spDist) (G_longest_apart : FnOk P w K mg base CX0 39 f6 d6 ["way", "n", "d"] spLongD) (G__law_apart : FnOk P w K mg base CX0 39 f7 d7 ["way", "n", "d", "thing"] spLApart) (G__law_due : FnOk P w K mg base CX0 39 f8 d8 ["way", "n", "d"] spDue23) (G__law_deep : FnOk P w K mg base CX0 39 f9 d9 ["thing"] spDeepL) (B : Bi mg) :
    FnOk P w K mg base CX0 40 f fd ["script"] (spLaw K) := by
  refine T.ok scLaw (fun vs H Q E h => ?_) (fun cdv A outer s H vs Q E hr h => ?_)
  · obtain ⟨a, ns, rfl, _⟩ := h
    rfl
  · obtain ⟨a, ns, rfl, hS, hlen, q⟩ := h
    refine ⟨_, 
      (pss_cons (ps_for PassesOwn.never rfl (pi_range1 (by rfl) B.range (pa_cons (pe_callB (call_min2 rfl) (by rfl) B.min (by decide +kernel) (pa_cons (pe_callB (call_max2 rfl) (by rfl) B.max (by decide +kernel) (pa_cons (pe_callB call_len_seq (by rfl) B.len PySem.boot_len (pa_cons (pv 0) pa_nil)) (pa_cons pe_int pa_nil))) (pa_cons pe_int pa_nil))) pa_nil)) (pg_name (i := 1) scLaw.nd rfl (.inl rfl))
        (pss_cons (ps_set (i := 2) scLaw.nd rfl (.inl rfl) (pe_call G__law_store hr (by rfl) T__law_store.g T__law_store.F.kp T__law_store.b .nil pass0 (pa_cons (pe_call G__law_cell hr (by rfl) T__law_cell.g T__law_cell.F.kp T__law_cell.b .nil pass0 (pa_cons (pv 0) (pa_cons (pv 1) pa_nil))) pa_nil)))
        (pss_cons (ps_set (i := 3) scLaw.nd rfl (.inl rfl) (pe_call G__law_way hr (by rfl) T__law_way.g T__law_way.F.kp T__law_way.b .nil pass0 (pa_cons (pv 2) pa_nil)))
        (pss_cons (ps_set (i := 4) scLaw.nd rfl (.inl rfl) (pe_ix ix_list (pe_lst (pa_cons (pe_op op_add pe_int (pe_call G__law_take hr (by rfl) T__law_take.g T__law_take.F.kp T__law_take.b .nil pass0 (pa_cons (pv 2) (pa_cons pe_int pa_nil)))) (pa_cons pe_int pa_nil))) (pe_call G__law_take hr (by rfl) T__law_take.g T__law_take.F.kp T__law_take.b .nil pass0 (pa_cons (pv 2) (pa_cons pe_int pa_nil))) (fun _ _ => rfl)))
        (pss_cons (ps_set (i := 5) scLaw.nd rfl (.inl rfl) (pe_call G__law_distance hr (by rfl) T__law_distance.g T__law_distance.F.kp T__law_distance.b .nil pass0 (pa_cons (pv 2) (pa_cons (pv 3) (pa_cons (pv 4) pa_nil)))))
        (pss_cons (ps_set (i := 6) scLaw.nd rfl (.inl rfl) (pe_call G_longest_apart hr (by rfl) T_longest_apart.g T_longest_apart.F.kp T_longest_apart.b .nil pass0 (pa_cons (pv 3) (pa_cons (pv 4) (pa_cons (pv 5) pa_nil)))))
        (pss_cons (ps_if (PW.pt (pw_or (pt_not (pt_val (pe_call G__law_apart hr (by rfl) T__law_apart.g T__law_apart.F.kp T__law_apart.b .nil pass0 (pa_cons (pv 3) (pa_cons (pv 4) (pa_cons (pv 5) (pa_cons (pv 6) pa_nil))))))) (pw_or1 (pt_cmpR op_ne (pe_callB call_len_seq (by rfl) B.len PySem.boot_len (pa_cons (pv 6) pa_nil)) (pe_call G__law_due hr (by rfl) T__law_due.g T__law_due.F.kp T__law_due.b .nil pass0 (pa_cons (pv 3) (pa_cons (pv 4) (pa_cons (pv 5) pa_nil)))) (nomark _)))))
          (pss_one (ps_ret pe_bl))
          pss_nil)
        (pss_cons (ps_set (i := 7) scLaw.nd rfl (.inl rfl) (pe_call G__law_deep hr (by rfl) T__law_deep.g T__law_deep.F.kp T__law_deep.b .nil pass0 (pa_cons (pv 6) pa_nil)))
        (pss_cons (ps_for PassesOwn.never rfl (pi_list (pv 6)) (pg_name (i := 8) scLaw.nd rfl (.inl rfl))
          (pss_one (ps_expr (pe_bm PySem.F.plainAttrs_list PySem.F.slot_list_append PySem.F.type_list_append mt_append (pv 8) (pa_cons pe_int pa_nil)))))
        (pss_cons (ps_if (pt_cmpR (op_neD hr.units) (pv 6) (pe_lc (own := [("order", 8)]) (g := (gName 8)) (tt := tYes) (te := (tOp rCat (tVar 8) (tLst (tCons (tC (.int 99)) tNil)))) rfl scLaw.nd (pi_list (pv 7)) (blkOk_by (N := ["script", "at", "store", "way", "n", "d", "found", "kept", "order"]) (sc := defScope s_law) (by decide +kernel)) (fun _ _ _ _ _ => (pg_name (i := 8) scLaw.nd rfl (.inl rfl))) (fun _ _ _ _ _ => pts_nil) (fun _ _ _ _ _ => (pe_op op_cat (pv 8) (pe_lst (pa_cons pe_int pa_nil))))) (nomark _))
          (pss_one (ps_ret pe_bl))
          pss_nil)
        (pss_cons (ps_expr (pe_bm0 PySem.F.plainAttrs_list PySem.F.slot_list_clear PySem.F.type_list_clear mt_clear (pv 6)))
        (pss_one (ps_if (pt_cmpR (op_neD hr.units) (pe_call G_longest_apart hr (by rfl) T_longest_apart.g T_longest_apart.F.kp T_longest_apart.b .nil pass0 (pa_cons (pv 3) (pa_cons (pv 4) (pa_cons (pv 5) pa_nil)))) (pv 7) (nomark _))
          (pss_one (ps_ret pe_bl))
          pss_nil)))))))))))))
      (pss_one (ps_ret pe_bl))), ?_⟩
    refine ⟨_, rfl, a, _, rfl, .inl hS, _, 3, rfl, _, 8, rfl, _, rfl, ?_⟩
    obtain ⟨m, em, hm⟩ := turns38 (ns.map V.int).length
    refine ⟨by rw [em]; omega, by rw [em]; omega, ?_⟩
    rw [em, Int.toNat_natCast]
    refine for_range (n := m) (fun i σ H3 => ∃ (y1 y2 y3 y4 y5 y6 y7 y8 : Option V), σ = [some (.ref a), y1, y2, y3, y4, y5, y6, y7, y8] ∧ Same H H3)
      ⟨_, _, _, _, _, _, _, _, rfl, Same.refl _⟩ (fun i σ H3 hi hP => ?_) (fun σ H3 hP => q _)
    obtain ⟨y1, y2, y3, y4, y5, y6, y7, y8, rfl, k3⟩ := hP
    refine ⟨_, rfl, _, rfl, a, ns, i, by rw [show (0 + (i : Int)) = (i : Int) by omega]; rfl, k3.seq hS, hlen, by omega, fun c => ⟨c, rfl, fun d H4 nd D4 s4 => ?_⟩⟩
    refine ⟨_, rfl, d, rfl, D4, fun z H5 hz D5 k5 => ?_⟩
    refine ⟨_, rfl, d, 4, rfl, D5, by decide, by decide, fun v1 H6 v10 v11 D6 k6 => ⟨1, _, rfl, rfl, ?_⟩⟩
    refine ⟨line_small (by show 2 ≤ 16777216; decide), fun t2 nt2 => ?_⟩
    have u2 := same_new (o := .lst [.int (1 + v1), .int 4]) nt2
    have D8 := D6.same u2
    have nt2d := D6.ne nt2
    refine ⟨_, rfl, d, 2, rfl, D8, by decide, by decide, fun v3 H9 v30 v31 D9 k9 => ?_⟩
    obtain ⟨n, hn1, hn4, en⟩ := pick23 v10 v11 v30 v31
    refine ⟨t2, _, v3, _, rfl, rfl, SqL.of (k9 _ _ upd_same nt2d), en, ?_⟩
    refine ⟨_, rfl, _, rfl, _, rfl, d, z, n, rfl, D9, hz, hn1, by omega, fun e5 H10 hdv D10 k10 => ?_⟩
    have kk : KeepD d H4 H10 := (((k5.trans k6).trans (KeepD.of_same u2)).trans k9).trans k10
    have s10 : Same H3 H10 := fun b o e => kk b o (s4 b o e) (fun z => by rw [z, nd] at e; cases e)
    clear kk k10 k9 k6 k5 u2 D9 D8 D6 D5 D4 s4
    have sH10 := k3.trans s10
    refine ⟨_, rfl, _, rfl, _, rfl, z, n, e5, rfl, hz, hn1, hn4, hdv, fun fl fs ss H11 nfl nfs hfl hFL hso hAp hs1 hmost hhd hlong s11 => ?_⟩
    have sH11 := sH10.trans s11
    have hnd := apL_nodupO hn1 hso hdv hAp
    have hfnd := addr_nodup hFL hnd
    have hfne := head_ne hfl hFL
    have hll : ss.length ≤ 24 := by
      obtain ⟨tl, hk, htl⟩ := allK_head n hn4 hn1
      have := nodup_lenG hnd fun x hx => ord_mem (hso x hx)
      rw [hk, List.length_cons] at this
      omega
    have lfs := hFL.len
    -- what it should be
    refine ⟨_, rfl, _, rfl, _, rfl, _, rfl, z, n, e5, fl, fs, ss, rfl, hz, hn1, by omega, hfl, hFL, hso, hAp, by omega, fun H12 s12 => ⟨true, rfl, iteF ?_⟩⟩
    refine ⟨_, rfl, fl, _, rfl, .inl (SqL.of (s12 _ _ hfl)), ?_⟩
    refine ⟨_, rfl, _, rfl, _, rfl, z, n, e5, rfl, hz, hn1, hn4, hdv, fun r H13 hle hus s13 => ?_⟩
    have er : ((fs.map V.ref).length : Int) = r := by
      rw [List.length_map, lfs]
      obtain ⟨us, u1, u2, u3⟩ := hus
      have := hmost us u1 u2
      obtain ⟨s, es⟩ := hhd
      have h2 := hle s (fun x mx => hso x (by rw [es]; exact List.mem_cons_of_mem _ mx)) (by rw [← es]; exact hAp)
      rw [es, List.length_cons] at this ⊢
      omega
    refine ⟨rfl, _, rfl, iteNS (congrArg V.int er) ?_⟩
    have s1213 := s12.trans s13
    have hfl13 := s1213 _ _ hfl
    have hFL13 := hFL.same s1213
    refine ⟨_, rfl, fl, fs, ss, rfl, hfl13, hFL13, by omega, fun x mx => by rw [(hso x mx).len]; omega, fun u cs H14 nu ncs hu hCL s14 => ?_⟩
    have sH14 := sH11.trans (s1213.trans s14)
    have hfl14 := s14 _ _ hfl13
    have hFL14 := hFL13.same s14
    have apH : ∀ x ∈ fs, H x = none := fun x mx => sH10.free (nfs x mx)
    have flH : H fl = none := sH10.free nfl
    have fsu : ∀ x ∈ fs, x ≠ u := fun x mx => by
      obtain ⟨o, eo⟩ := hFL13.tracked mx
      exact ne_of_none eo nu
    have flu : fl ≠ u := ne_of_none hfl13 nu
    have fsc : ∀ x ∈ fs, ∀ c ∈ cs, c ≠ x := fun x mx c mc y => by
      obtain ⟨o, eo⟩ := hFL13.tracked mx
      rw [← y, ncs c mc] at eo
      cases eo
    have flc : ∀ c ∈ cs, c ≠ fl := fun c mc y => by rw [← y, ncs c mc] at hfl13; cases hfl13
    -- the told list's orders are changed
    refine ⟨_, rfl, fl, rfl, ⟨_, SqL.of hfl14⟩, ?_⟩
    refine for_list (xs := fs.map V.ref) (fun j σ H16 => ∃ (y8 : Option V), σ = [some (.ref a), some (.int (0 + (i : Int))), some (.ref d), some (.str z), some (.int n), some (.int e5), some (.ref fl), some (.ref u), y8] ∧ LL H16 fs (tail9 ss j) ∧ H16 fl = some (.lst (fs.map V.ref)) ∧ H16 u = some (.lst (cs.map V.ref)) ∧ LL H16 cs ss ∧ Same H H16)
      ⟨_, rfl, by rw [tail9_0]; exact hFL14, hfl14, hu, hCL, sH14⟩ (fun j σ H16 _ hP => by obtain ⟨_, _, _, h2, _⟩ := hP; exact SqL.of h2) (fun j x σ H16 hx hP => ?_) (fun σ H16 hP => ?_)
    · obtain ⟨w8, rfl, hT, h2, h1, h1L, k16⟩ := hP
      obtain ⟨c, ec, rfl⟩ := ref_at_inv hx
      have hc2 : c ∈ fs := List.mem_of_getElem? ec
      obtain ⟨row, erow, _⟩ := hFL.get ec
      obtain ⟨r9, er9, hr9⟩ := hT.get ec
      rw [tail9_at erow] at er9
      obtain rfl := Option.some.inj er9
      have orow := hso _ (List.mem_of_getElem? erow)
      refine ⟨_, rfl, .inl ⟨rfl, _, SqL.of hr9⟩, c, _, _, rfl, rfl, hr9, line_lt (by rw [List.length_map, orow.len]; omega), ?_⟩
      refine ⟨_, rfl, ?_, by rw [upd_ne (hfne c hc2).symm]; exact h2, by rw [upd_ne (fsu c hc2).symm]; exact h1, h1L.keep fun v hv o e => by rw [upd_ne (fsc c hc2 v hv)]; exact e, fun b o e => ?_⟩
      · rw [← tail9_more erow]
        have z1 := hT.put (r := row ++ [99]) hfnd ec
        rw [List.map_append] at z1
        exact z1
      · rw [upd_ne (ne_of_none e (apH c hc2))]
        exact k16 b o e
    obtain ⟨w8, rfl, hT, h2, h1, h1L, k16⟩ := hP
    rw [List.length_map, lfs, tail9_len] at hT
    refine ⟨_, rfl, _, rfl, u, rfl, ⟨_, SqL.of h1⟩, fun D2 nD2 => ?_⟩
    refine lc_list (K := K) (a := u) (xs := cs.map V.ref) (fun j H17 => ∃ ds : List Addr, H17 D2 = some (.lst (ds.map V.ref)) ∧ LL H17 ds ((ss.take j).map fun r => r ++ [99]) ∧ (∀ u ∈ ds, u ≠ D2) ∧ Same H16 H17)
      ⟨[], upd_same, trivial, fun _ h => absurd h List.not_mem_nil, same_new nD2⟩ (fun j H17 _ hP => by obtain ⟨_, _, _, _, s17⟩ := hP; exact SqL.of (s17 _ _ h1)) (fun j x H17 hx hP => ?_) (fun H17 hP => ?_)
    · obtain ⟨ds, hD17, hL17, hds, s17⟩ := hP
      obtain ⟨c, ec, rfl⟩ := ref_at_inv hx
      obtain ⟨row, erow, hrow⟩ := h1L.get ec
      have orow := hso _ (List.mem_of_getElem? erow)
      have hj := (List.getElem?_eq_some_iff.mp erow).1
      have hdl := hL17.len
      rw [List.length_map, List.length_take] at hdl
      refine ⟨rfl, _, rfl, line_small (by show 1 ≤ 16777216; decide), fun p np => ?_⟩
      have sp1 := same_new (o := .lst [.int 99]) np
      refine ⟨c, p, _, _, rfl, rfl, sp1 _ _ (s17 _ _ hrow), upd_same, line_small (by rw [List.length_map, orow.len]; show _ + 1 ≤ _; omega), fun zz nzz => ?_⟩
      have sp2 := same_new (o := .lst (row.map V.int ++ [.int 99])) nzz
      have nzD : zz ≠ D2 := (ne_of_none (sp1 _ _ hD17) nzz).symm
      refine ⟨_, sp2 _ _ (sp1 _ _ hD17), line_lt (by rw [List.length_map]; omega), ds ++ [zz], by rw [upd_same, List.map_append]; rfl, ?_, fun v hv => ?_, fun v o e => ?_⟩
      · rw [List.take_add_one, erow, List.map_append]
        refine LL.snoc (((hL17.same sp1).same sp2).keep fun v hv o e => by rw [upd_ne (hds v hv)]; exact e) ?_
        rw [upd_ne nzD, upd_same, List.map_append]
        rfl
      · rcases List.mem_append.mp hv with hv | hv
        · exact hds v hv
        · rw [List.mem_singleton.mp hv]
          exact nzD
      · rw [upd_ne (ne_of_none e nD2)]
        exact sp2 _ _ (sp1 _ _ (s17 _ _ e))
    obtain ⟨ds, hD17, hL17, hds, s17⟩ := hP
    rw [List.length_map, h1L.len, List.take_length] at hL17
    refine ⟨_, _, dp_lists (s17 _ _ h2) (hT.same s17), dp_lists hD17 hL17, shaped_lists _, shaped_lists _, _, rfl, ?_⟩
    rw [eqv_lists]
    refine iteF ?_
    have h2b := s17 _ _ h2
    refine ⟨_, rfl, .inl ⟨rfl, _, SqL.of h2b⟩, fl, _, rfl, rfl, h2b, ?_⟩
    have k17 := k16.trans s17
    have k18 : Same H (upd H17 fl (.lst [])) := fun b o e => by rw [upd_ne (ne_of_none e flH)]; exact k17 b o e
    have h1c : (upd H17 fl (.lst [])) u = some (.lst (cs.map V.ref)) := by rw [upd_ne flu.symm]; exact s17 _ _ h1
    have h1Lc : LL (upd H17 fl (.lst [])) cs ss := (h1L.same s17).keep fun v hv o e => by
      rw [upd_ne (flc v hv)]
      exact e
    generalize upd H17 fl (.lst []) = H18 at k18 h1c h1Lc ⊢
    refine ⟨_, rfl, _, rfl, _, rfl, z, n, e5, rfl, hz, hn1, hn4, hdv, fun l3 as3 ss3 H19 nl3 nas3 hl3 hL3 hso3 hAp3 hs13 hmost3 hhd3 hlong3 k19 => ?_⟩
    obtain rfl : ss3 = ss := hlong3.trans hlong.symm
    refine ⟨_, rfl, _, _, dp_lists hl3 hL3, dp_lists (k19 _ _ h1c) (h1Lc.same k19), shaped_lists _, shaped_lists _, _, rfl, ?_⟩
    rw [eqv_lists]
    exact iteF ⟨_, _, _, _, _, _, _, _, rfl, k18.trans k19⟩
end
end Fo
--LEVEL 40
--LAWCALL ok_law F_law T__law_store T__law_cell T__law_way T__law_take T__law_distance T_longest_apart T__law_apart T__law_due T__law_deep (ok_store (k := 38) T__law_store) (ok_cell (k := 38) T__law_cell B) (ok_lway (k := 38) T__law_way T__law_take (ok_take (k := 37) T__law_take)) (ok_take (k := 38) T__law_take) (ok_dist (k := 38) T__law_distance T__law_take T__law_most (ok_take (k := 37) T__law_take) (ok_most (k := 37) T__law_most) B) (ok_longest (k := 38) T_longest_apart T_check_apart T_all_orders T_longest_from T_far_ones (ok_apart (k := 35) T_check_apart T_check_way T_check_size T_check_from T_is_whole m_WAYS B) (ok_all_orders (k := 36) T_all_orders T_orders_with B) (ok_lf (k := 14) T_longest_from T_far_ones (fun j => ok_farOnes (k := j + 13) T_far_ones T_known_far (ok_known (k := j + 12) T_known_far T_far_by_swap T_far_by_spot T_far_by_shift (ok_swap (k := j + 11) T_far_by_swap T_seats_in (ok_seats (k := j + 9) T_seats_in T_places_in B) B) (ok_spot (k := j + 11) T_far_by_spot B) (ok_shift (k := j + 11) T_far_by_shift T_seats_in (ok_seats (k := j + 9) T_seats_in T_places_in B) B)) B) B 24) (ok_farOnes (k := 37) T_far_ones T_known_far (ok_known (k := 36) T_known_far T_far_by_swap T_far_by_spot T_far_by_shift (ok_swap (k := 35) T_far_by_swap T_seats_in (ok_seats (k := 33) T_seats_in T_places_in B) B) (ok_spot (k := 35) T_far_by_spot B) (ok_shift (k := 35) T_far_by_shift T_seats_in (ok_seats (k := 33) T_seats_in T_places_in B) B)) B) B m_MOST_SEARCHED) (ok_lapart (k := 38) T__law_apart T__law_is_order T__law_far (ok_lisord (k := 37) T__law_is_order B) (ok_law_far (k := 37) T__law_far B) B) (ok_due (k := 38) T__law_due T__law_orders T__law_far T__law_grown (ok_law_orders (k := 37) T__law_orders B) (ok_law_far (k := 37) T__law_far B) (ok_grown (k := 13) T__law_grown T__law_parts B 24) B) (ok_deepL (k := 36) T__law_deep B) B
namespace Fo
open PySem PySem.Spec PyProof.Rows L2
set_option maxHeartbeats 8000000 in
theorem all_mk {l : PySem.W.OpenLaw} {w : World} {K : PySem.W.Frag} {h : Heap} {mg : Str → Option Value} {fa : Addr} (X : K.In h) (G : h.Ns mainGlobals mg) (hfa : mg "law" = some (.ref fa))
    {f0 f1 f2 f3 f4 f5 f6 f7 f8 f9 f10 f11 f12 f13 f14 f15 f16 f17 f18 f19 f20 f21 f22 f23 f24 f25 f26 f27 f28 f29 f30 : Addr} {od0 an0 od1 an1 od2 an2 od3 an3 od4 an4 od5 an5 od6 an6 od7 an7 od8 an8 od9 an9 od10 an10 od11 an11 od12 an12 od13 an13 od14 an14 od15 an15 od16 an16 od17 an17 od18 an18 od19 an19 od20 an20 od21 an21 od22 an22 od23 an23 od24 an24 od25 an25 od26 an26 od27 an27 od28 an28 od29 an29 od30 an30 : Option Addr} {sl0 sl1 sl2 sl3 sl4 sl5 sl6 sl7 sl8 sl9 sl10 sl11 sl12 sl13 sl14 sl15 sl16 sl17 sl18 sl19 sl20 sl21 sl22 sl23 sl24 sl25 sl26 sl27 sl28 sl29 sl30 : Array (Option Value)} {oc0 kV0 dc0 pm0 cd0 ct0 oc1 kV1 dc1 pm1 cd1 ct1 oc2 kV2 dc2 pm2 cd2 ct2 oc3 kV3 dc3 pm3 cd3 ct3 oc4 kV4 dc4 pm4 cd4 ct4 oc5 kV5 dc5 pm5 cd5 ct5 oc6 kV6 dc6 pm6 cd6 ct6 oc7 kV7 dc7 pm7 cd7 ct7 oc8 kV8 dc8 pm8 cd8 ct8 oc9 kV9 dc9 pm9 cd9 ct9 oc10 kV10 dc10 pm10 cd10 ct10 oc11 kV11 dc11 pm11 cd11 ct11 oc12 kV12 dc12 pm12 cd12 ct12 oc13 kV13 dc13 pm13 cd13 ct13 oc14 kV14 dc14 pm14 cd14 ct14 oc15 kV15 dc15 pm15 cd15 ct15 oc16 kV16 dc16 pm16 cd16 ct16 oc17 kV17 dc17 pm17 cd17 ct17 oc18 kV18 dc18 pm18 cd18 ct18 oc19 kV19 dc19 pm19 cd19 ct19 oc20 kV20 dc20 pm20 cd20 ct20 oc21 kV21 dc21 pm21 cd21 ct21 oc22 kV22 dc22 pm22 cd22 ct22 oc23 kV23 dc23 pm23 cd23 ct23 oc24 kV24 dc24 pm24 cd24 ct24 oc25 kV25 dc25 pm25 cd25 ct25 oc26 kV26 dc26 pm26 cd26 ct26 oc27 kV27 dc27 pm27 cd27 ct27 oc28 kV28 dc28 pm28 cd28 ct28 oc29 kV29 dc29 pm29 cd29 ct29 oc30 kV30 dc30 pm30 cd30 ct30 : Value} {tk_MOST_SEARCHED : Tok} {aW : Addr} {ddW : Option Addr} {nW : Nat} {tW1 tW2 tW3 : Tok} {slW : Array (Option Value)}
    (a0 : PySem.W.nsIn K mainGlobals "is_whole" = some (some (.ref f0))) (l0 : K.lookup f0 = some ⟨oc0, od0, .func (PySem.W.fnOf "is_whole" "is_whole" (defArgs s_is_whole) (defBody s_is_whole) (defScope s_is_whole) .none kV0 dc0 pm0 an0 cd0 ct0), sl0⟩) (c0 : PySem.W.codeIn K cd0 "is_whole" = true) (k0 : PySem.W.keepIn K (.ref f0) = true)
    (a1 : PySem.W.nsIn K mainGlobals "check_way" = some (some (.ref f1))) (l1 : K.lookup f1 = some ⟨oc1, od1, .func (PySem.W.fnOf "check_way" "check_way" (defArgs s_check_way) (defBody s_check_way) (defScope s_check_way) .none kV1 dc1 pm1 an1 cd1 ct1), sl1⟩) (c1 : PySem.W.codeIn K cd1 "check_way" = true) (k1 : PySem.W.keepIn K (.ref f1) = true)
    (a2 : PySem.W.nsIn K mainGlobals "check_from" = some (some (.ref f2))) (l2 : K.lookup f2 = some ⟨oc2, od2, .func (PySem.W.fnOf "check_from" "check_from" (defArgs s_check_from) (defBody s_check_from) (defScope s_check_from) .none kV2 dc2 pm2 an2 cd2 ct2), sl2⟩) (c2 : PySem.W.codeIn K cd2 "check_from" = true) (k2 : PySem.W.keepIn K (.ref f2) = true)
    (a3 : PySem.W.nsIn K mainGlobals "check_size" = some (some (.ref f3))) (l3 : K.lookup f3 = some ⟨oc3, od3, .func (PySem.W.fnOf "check_size" "check_size" (defArgs s_check_size) (defBody s_check_size) (defScope s_check_size) .none kV3 dc3 pm3 an3 cd3 ct3), sl3⟩) (c3 : PySem.W.codeIn K cd3 "check_size" = true) (k3 : PySem.W.keepIn K (.ref f3) = true)
    (a4 : PySem.W.nsIn K mainGlobals "check_apart" = some (some (.ref f4))) (l4 : K.lookup f4 = some ⟨oc4, od4, .func (PySem.W.fnOf "check_apart" "check_apart" (defArgs s_check_apart) (defBody s_check_apart) (defScope s_check_apart) .none kV4 dc4 pm4 an4 cd4 ct4), sl4⟩) (c4 : PySem.W.codeIn K cd4 "check_apart" = true) (k4 : PySem.W.keepIn K (.ref f4) = true)
    (a5 : PySem.W.nsIn K mainGlobals "places_in" = some (some (.ref f5))) (l5 : K.lookup f5 = some ⟨oc5, od5, .func (PySem.W.fnOf "places_in" "places_in" (defArgs s_places_in) (defBody s_places_in) (defScope s_places_in) .none kV5 dc5 pm5 an5 cd5 ct5), sl5⟩) (c5 : PySem.W.codeIn K cd5 "places_in" = true) (k5 : PySem.W.keepIn K (.ref f5) = true)
    (a6 : PySem.W.nsIn K mainGlobals "seats_in" = some (some (.ref f6))) (l6 : K.lookup f6 = some ⟨oc6, od6, .func (PySem.W.fnOf "seats_in" "seats_in" (defArgs s_seats_in) (defBody s_seats_in) (defScope s_seats_in) .none kV6 dc6 pm6 an6 cd6 ct6), sl6⟩) (c6 : PySem.W.codeIn K cd6 "seats_in" = true) (k6 : PySem.W.keepIn K (.ref f6) = true)
    (a7 : PySem.W.nsIn K mainGlobals "known_far" = some (some (.ref f7))) (l7 : K.lookup f7 = some ⟨oc7, od7, .func (PySem.W.fnOf "known_far" "known_far" (defArgs s_known_far) (defBody s_known_far) (defScope s_known_far) .none kV7 dc7 pm7 an7 cd7 ct7), sl7⟩) (c7 : PySem.W.codeIn K cd7 "known_far" = true) (k7 : PySem.W.keepIn K (.ref f7) = true)
    (a8 : PySem.W.nsIn K mainGlobals "far_by_swap" = some (some (.ref f8))) (l8 : K.lookup f8 = some ⟨oc8, od8, .func (PySem.W.fnOf "far_by_swap" "far_by_swap" (defArgs s_far_by_swap) (defBody s_far_by_swap) (defScope s_far_by_swap) .none kV8 dc8 pm8 an8 cd8 ct8), sl8⟩) (c8 : PySem.W.codeIn K cd8 "far_by_swap" = true) (k8 : PySem.W.keepIn K (.ref f8) = true)
    (a9 : PySem.W.nsIn K mainGlobals "far_by_spot" = some (some (.ref f9))) (l9 : K.lookup f9 = some ⟨oc9, od9, .func (PySem.W.fnOf "far_by_spot" "far_by_spot" (defArgs s_far_by_spot) (defBody s_far_by_spot) (defScope s_far_by_spot) .none kV9 dc9 pm9 an9 cd9 ct9), sl9⟩) (c9 : PySem.W.codeIn K cd9 "far_by_spot" = true) (k9 : PySem.W.keepIn K (.ref f9) = true)
    (a10 : PySem.W.nsIn K mainGlobals "far_by_shift" = some (some (.ref f10))) (l10 : K.lookup f10 = some ⟨oc10, od10, .func (PySem.W.fnOf "far_by_shift" "far_by_shift" (defArgs s_far_by_shift) (defBody s_far_by_shift) (defScope s_far_by_shift) .none kV10 dc10 pm10 an10 cd10 ct10), sl10⟩) (c10 : PySem.W.codeIn K cd10 "far_by_shift" = true) (k10 : PySem.W.keepIn K (.ref f10) = true)
    (a11 : PySem.W.nsIn K mainGlobals "all_orders" = some (some (.ref f11))) (l11 : K.lookup f11 = some ⟨oc11, od11, .func (PySem.W.fnOf "all_orders" "all_orders" (defArgs s_all_orders) (defBody s_all_orders) (defScope s_all_orders) .none kV11 dc11 pm11 an11 cd11 ct11), sl11⟩) (c11 : PySem.W.codeIn K cd11 "all_orders" = true) (k11 : PySem.W.keepIn K (.ref f11) = true)
    (a12 : PySem.W.nsIn K mainGlobals "orders_with" = some (some (.ref f12))) (l12 : K.lookup f12 = some ⟨oc12, od12, .func (PySem.W.fnOf "orders_with" "orders_with" (defArgs s_orders_with) (defBody s_orders_with) (defScope s_orders_with) .none kV12 dc12 pm12 an12 cd12 ct12), sl12⟩) (c12 : PySem.W.codeIn K cd12 "orders_with" = true) (k12 : PySem.W.keepIn K (.ref f12) = true)
    (a13 : PySem.W.nsIn K mainGlobals "longest_apart" = some (some (.ref f13))) (l13 : K.lookup f13 = some ⟨oc13, od13, .func (PySem.W.fnOf "longest_apart" "longest_apart" (defArgs s_longest_apart) (defBody s_longest_apart) (defScope s_longest_apart) .none kV13 dc13 pm13 an13 cd13 ct13), sl13⟩) (c13 : PySem.W.codeIn K cd13 "longest_apart" = true) (k13 : PySem.W.keepIn K (.ref f13) = true)
    (a14 : PySem.W.nsIn K mainGlobals "longest_from" = some (some (.ref f14))) (l14 : K.lookup f14 = some ⟨oc14, od14, .func (PySem.W.fnOf "longest_from" "longest_from" (defArgs s_longest_from) (defBody s_longest_from) (defScope s_longest_from) .none kV14 dc14 pm14 an14 cd14 ct14), sl14⟩) (c14 : PySem.W.codeIn K cd14 "longest_from" = true) (k14 : PySem.W.keepIn K (.ref f14) = true)
    (a15 : PySem.W.nsIn K mainGlobals "far_ones" = some (some (.ref f15))) (l15 : K.lookup f15 = some ⟨oc15, od15, .func (PySem.W.fnOf "far_ones" "far_ones" (defArgs s_far_ones) (defBody s_far_ones) (defScope s_far_ones) .none kV15 dc15 pm15 an15 cd15 ct15), sl15⟩) (c15 : PySem.W.codeIn K cd15 "far_ones" = true) (k15 : PySem.W.keepIn K (.ref f15) = true)
    (a16 : PySem.W.nsIn K mainGlobals "_law_cell" = some (some (.ref f16))) (l16 : K.lookup f16 = some ⟨oc16, od16, .func (PySem.W.fnOf "_law_cell" "_law_cell" (defArgs s_law_cell) (defBody s_law_cell) (defScope s_law_cell) .none kV16 dc16 pm16 an16 cd16 ct16), sl16⟩) (c16 : PySem.W.codeIn K cd16 "_law_cell" = true) (k16 : PySem.W.keepIn K (.ref f16) = true)
    (a17 : PySem.W.nsIn K mainGlobals "_law_store" = some (some (.ref f17))) (l17 : K.lookup f17 = some ⟨oc17, od17, .func (PySem.W.fnOf "_law_store" "_law_store" (defArgs s_law_store) (defBody s_law_store) (defScope s_law_store) .none kV17 dc17 pm17 an17 cd17 ct17), sl17⟩) (c17 : PySem.W.codeIn K cd17 "_law_store" = true) (k17 : PySem.W.keepIn K (.ref f17) = true)
    (a18 : PySem.W.nsIn K mainGlobals "_law_take" = some (some (.ref f18))) (l18 : K.lookup f18 = some ⟨oc18, od18, .func (PySem.W.fnOf "_law_take" "_law_take" (defArgs s_law_take) (defBody s_law_take) (defScope s_law_take) .none kV18 dc18 pm18 an18 cd18 ct18), sl18⟩) (c18 : PySem.W.codeIn K cd18 "_law_take" = true) (k18 : PySem.W.keepIn K (.ref f18) = true)
    (a19 : PySem.W.nsIn K mainGlobals "_law_far" = some (some (.ref f19))) (l19 : K.lookup f19 = some ⟨oc19, od19, .func (PySem.W.fnOf "_law_far" "_law_far" (defArgs s_law_far) (defBody s_law_far) (defScope s_law_far) .none kV19 dc19 pm19 an19 cd19 ct19), sl19⟩) (c19 : PySem.W.codeIn K cd19 "_law_far" = true) (k19 : PySem.W.keepIn K (.ref f19) = true)
    (a20 : PySem.W.nsIn K mainGlobals "_law_orders" = some (some (.ref f20))) (l20 : K.lookup f20 = some ⟨oc20, od20, .func (PySem.W.fnOf "_law_orders" "_law_orders" (defArgs s_law_orders) (defBody s_law_orders) (defScope s_law_orders) .none kV20 dc20 pm20 an20 cd20 ct20), sl20⟩) (c20 : PySem.W.codeIn K cd20 "_law_orders" = true) (k20 : PySem.W.keepIn K (.ref f20) = true)
    (a21 : PySem.W.nsIn K mainGlobals "_law_way" = some (some (.ref f21))) (l21 : K.lookup f21 = some ⟨oc21, od21, .func (PySem.W.fnOf "_law_way" "_law_way" (defArgs s_law_way) (defBody s_law_way) (defScope s_law_way) .none kV21 dc21 pm21 an21 cd21 ct21), sl21⟩) (c21 : PySem.W.codeIn K cd21 "_law_way" = true) (k21 : PySem.W.keepIn K (.ref f21) = true)
    (a22 : PySem.W.nsIn K mainGlobals "_law_most" = some (some (.ref f22))) (l22 : K.lookup f22 = some ⟨oc22, od22, .func (PySem.W.fnOf "_law_most" "_law_most" (defArgs s_law_most) (defBody s_law_most) (defScope s_law_most) .none kV22 dc22 pm22 an22 cd22 ct22), sl22⟩) (c22 : PySem.W.codeIn K cd22 "_law_most" = true) (k22 : PySem.W.keepIn K (.ref f22) = true)
    (a23 : PySem.W.nsIn K mainGlobals "_law_distance" = some (some (.ref f23))) (l23 : K.lookup f23 = some ⟨oc23, od23, .func (PySem.W.fnOf "_law_distance" "_law_distance" (defArgs s_law_distance) (defBody s_law_distance) (defScope s_law_distance) .none kV23 dc23 pm23 an23 cd23 ct23), sl23⟩) (c23 : PySem.W.codeIn K cd23 "_law_distance" = true) (k23 : PySem.W.keepIn K (.ref f23) = true)
    (a24 : PySem.W.nsIn K mainGlobals "_law_is_order" = some (some (.ref f24))) (l24 : K.lookup f24 = some ⟨oc24, od24, .func (PySem.W.fnOf "_law_is_order" "_law_is_order" (defArgs s_law_is_order) (defBody s_law_is_order) (defScope s_law_is_order) .none kV24 dc24 pm24 an24 cd24 ct24), sl24⟩) (c24 : PySem.W.codeIn K cd24 "_law_is_order" = true) (k24 : PySem.W.keepIn K (.ref f24) = true)
    (a25 : PySem.W.nsIn K mainGlobals "_law_apart" = some (some (.ref f25))) (l25 : K.lookup f25 = some ⟨oc25, od25, .func (PySem.W.fnOf "_law_apart" "_law_apart" (defArgs s_law_apart) (defBody s_law_apart) (defScope s_law_apart) .none kV25 dc25 pm25 an25 cd25 ct25), sl25⟩) (c25 : PySem.W.codeIn K cd25 "_law_apart" = true) (k25 : PySem.W.keepIn K (.ref f25) = true)
    (a26 : PySem.W.nsIn K mainGlobals "_law_deep" = some (some (.ref f26))) (l26 : K.lookup f26 = some ⟨oc26, od26, .func (PySem.W.fnOf "_law_deep" "_law_deep" (defArgs s_law_deep) (defBody s_law_deep) (defScope s_law_deep) .none kV26 dc26 pm26 an26 cd26 ct26), sl26⟩) (c26 : PySem.W.codeIn K cd26 "_law_deep" = true) (k26 : PySem.W.keepIn K (.ref f26) = true)
    (a27 : PySem.W.nsIn K mainGlobals "_law_parts" = some (some (.ref f27))) (l27 : K.lookup f27 = some ⟨oc27, od27, .func (PySem.W.fnOf "_law_parts" "_law_parts" (defArgs s_law_parts) (defBody s_law_parts) (defScope s_law_parts) .none kV27 dc27 pm27 an27 cd27 ct27), sl27⟩) (c27 : PySem.W.codeIn K cd27 "_law_parts" = true) (k27 : PySem.W.keepIn K (.ref f27) = true)
    (a28 : PySem.W.nsIn K mainGlobals "_law_grown" = some (some (.ref f28))) (l28 : K.lookup f28 = some ⟨oc28, od28, .func (PySem.W.fnOf "_law_grown" "_law_grown" (defArgs s_law_grown) (defBody s_law_grown) (defScope s_law_grown) .none kV28 dc28 pm28 an28 cd28 ct28), sl28⟩) (c28 : PySem.W.codeIn K cd28 "_law_grown" = true) (k28 : PySem.W.keepIn K (.ref f28) = true)
    (a29 : PySem.W.nsIn K mainGlobals "_law_due" = some (some (.ref f29))) (l29 : K.lookup f29 = some ⟨oc29, od29, .func (PySem.W.fnOf "_law_due" "_law_due" (defArgs s_law_due) (defBody s_law_due) (defScope s_law_due) .none kV29 dc29 pm29 an29 cd29 ct29), sl29⟩) (c29 : PySem.W.codeIn K cd29 "_law_due" = true) (k29 : PySem.W.keepIn K (.ref f29) = true)
    (a30 : PySem.W.nsIn K mainGlobals "law" = some (some (.ref f30))) (l30 : K.lookup f30 = some ⟨oc30, od30, .func (PySem.W.fnOf "law" "law" (defArgs s_law) (defBody s_law) (defScope s_law) .none kV30 dc30 pm30 an30 cd30 ct30), sl30⟩) (c30 : PySem.W.codeIn K cd30 "law" = true) (k30 : PySem.W.keepIn K (.ref f30) = true)
    (g_MOST_SEARCHED : PySem.W.nsIn K mainGlobals "MOST_SEARCHED" = some (some (.int 4 tk_MOST_SEARCHED)))
    (g_WAYS : PySem.W.nsIn K mainGlobals "WAYS" = some (some (.ref aW))) (l_WAYS : K.lookup aW = some ⟨.type "tuple", ddW, .seq #[.str "swap" tW1, .str "spot" tW2, .str "shift" tW3] nW, slW⟩)
    (z_ValueError : PySem.W.nsIn K mainGlobals "ValueError" = some none)
    (z_abs : PySem.W.nsIn K mainGlobals "abs" = some none)
    (z_bool : PySem.W.nsIn K mainGlobals "bool" = some none)
    (z_enumerate : PySem.W.nsIn K mainGlobals "enumerate" = some none)
    (z_int : PySem.W.nsIn K mainGlobals "int" = some none)
    (z_isinstance : PySem.W.nsIn K mainGlobals "isinstance" = some none)
    (z_len : PySem.W.nsIn K mainGlobals "len" = some none)
    (z_list : PySem.W.nsIn K mainGlobals "list" = some none)
    (z_max : PySem.W.nsIn K mainGlobals "max" = some none)
    (z_min : PySem.W.nsIn K mainGlobals "min" = some none)
    (z_range : PySem.W.nsIn K mainGlobals "range" = some none)
    (z_sorted : PySem.W.nsIn K mainGlobals "sorted" = some none)
    (z_str : PySem.W.nsIn K mainGlobals "str" = some none)
    : ∃ fd : FuncData, (∀ (s : Shared) (v : Value), BindsTo s fd ⟨[v], []⟩ [("script", v)]) ∧ ∀ base : Heap, K.In base → base.Ns mainGlobals mg → FnOk l.prog w K mg base CX0 40 fa fd ["script"] (spLaw K) := by
  have e := hfa.symm.trans (PySem.W.mg_of X G a30)
  cases e
  have F0 := fun_mk (st := s_is_whole) l0 c0 k0
  have F1 := fun_mk (st := s_check_way) l1 c1 k1
  have F2 := fun_mk (st := s_check_from) l2 c2 k2
  have F3 := fun_mk (st := s_check_size) l3 c3 k3
  have F4 := fun_mk (st := s_check_apart) l4 c4 k4
  have F5 := fun_mk (st := s_places_in) l5 c5 k5
  have F6 := fun_mk (st := s_seats_in) l6 c6 k6
  have F7 := fun_mk (st := s_known_far) l7 c7 k7
  have F8 := fun_mk (st := s_far_by_swap) l8 c8 k8
  have F9 := fun_mk (st := s_far_by_spot) l9 c9 k9
  have F10 := fun_mk (st := s_far_by_shift) l10 c10 k10
  have F11 := fun_mk (st := s_all_orders) l11 c11 k11
  have F12 := fun_mk (st := s_orders_with) l12 c12 k12
  have F13 := fun_mk (st := s_longest_apart) l13 c13 k13
  have F14 := fun_mk (st := s_longest_from) l14 c14 k14
  have F15 := fun_mk (st := s_far_ones) l15 c15 k15
  have F16 := fun_mk (st := s_law_cell) l16 c16 k16
  have F17 := fun_mk (st := s_law_store) l17 c17 k17
  have F18 := fun_mk (st := s_law_take) l18 c18 k18
  have F19 := fun_mk (st := s_law_far) l19 c19 k19
  have F20 := fun_mk (st := s_law_orders) l20 c20 k20
  have F21 := fun_mk (st := s_law_way) l21 c21 k21
  have F22 := fun_mk (st := s_law_most) l22 c22 k22
  have F23 := fun_mk (st := s_law_distance) l23 c23 k23
  have F24 := fun_mk (st := s_law_is_order) l24 c24 k24
  have F25 := fun_mk (st := s_law_apart) l25 c25 k25
  have F26 := fun_mk (st := s_law_deep) l26 c26 k26
  have F27 := fun_mk (st := s_law_parts) l27 c27 k27
  have F28 := fun_mk (st := s_law_grown) l28 c28 k28
  have F29 := fun_mk (st := s_law_due) l29 c29 k29
  have F30 := fun_mk (st := s_law) l30 c30 k30
  have T_is_whole : Df K mg "is_whole" s_is_whole ["thing"] f0 _ := ⟨F0, F0.binds (ps := ["thing"]) (fun _ _ _ _ _ _ us hl => match us, hl with | [_], _ => rfl), PySem.W.mg_of X G a0⟩
  have T_check_way : Df K mg "check_way" s_check_way ["thing"] f1 _ := ⟨F1, F1.binds (ps := ["thing"]) (fun _ _ _ _ _ _ us hl => match us, hl with | [_], _ => rfl), PySem.W.mg_of X G a1⟩
  have T_check_from : Df K mg "check_from" s_check_from ["thing", "least"] f2 _ := ⟨F2, F2.binds (ps := ["thing", "least"]) (fun _ _ _ _ _ _ us hl => match us, hl with | [_, _], _ => rfl), PySem.W.mg_of X G a2⟩
  have T_check_size : Df K mg "check_size" s_check_size ["thing", "most"] f3 _ := ⟨F3, F3.binds (ps := ["thing", "most"]) (fun _ _ _ _ _ _ us hl => match us, hl with | [_, _], _ => rfl), PySem.W.mg_of X G a3⟩
  have T_check_apart : Df K mg "check_apart" s_check_apart ["way", "n", "most", "d"] f4 _ := ⟨F4, F4.binds (ps := ["way", "n", "most", "d"]) (fun _ _ _ _ _ _ us hl => match us, hl with | [_, _, _, _], _ => rfl), PySem.W.mg_of X G a4⟩
  have T_places_in : Df K mg "places_in" s_places_in ["order"] f5 _ := ⟨F5, F5.binds (ps := ["order"]) (fun _ _ _ _ _ _ us hl => match us, hl with | [_], _ => rfl), PySem.W.mg_of X G a5⟩
  have T_seats_in : Df K mg "seats_in" s_seats_in ["one", "other"] f6 _ := ⟨F6, F6.binds (ps := ["one", "other"]) (fun _ _ _ _ _ _ us hl => match us, hl with | [_, _], _ => rfl), PySem.W.mg_of X G a6⟩
  have T_known_far : Df K mg "known_far" s_known_far ["way", "one", "other"] f7 _ := ⟨F7, F7.binds (ps := ["way", "one", "other"]) (fun _ _ _ _ _ _ us hl => match us, hl with | [_, _, _], _ => rfl), PySem.W.mg_of X G a7⟩
  have T_far_by_swap : Df K mg "far_by_swap" s_far_by_swap ["one", "other"] f8 _ := ⟨F8, F8.binds (ps := ["one", "other"]) (fun _ _ _ _ _ _ us hl => match us, hl with | [_, _], _ => rfl), PySem.W.mg_of X G a8⟩
  have T_far_by_spot : Df K mg "far_by_spot" s_far_by_spot ["one", "other"] f9 _ := ⟨F9, F9.binds (ps := ["one", "other"]) (fun _ _ _ _ _ _ us hl => match us, hl with | [_, _], _ => rfl), PySem.W.mg_of X G a9⟩
  have T_far_by_shift : Df K mg "far_by_shift" s_far_by_shift ["one", "other"] f10 _ := ⟨F10, F10.binds (ps := ["one", "other"]) (fun _ _ _ _ _ _ us hl => match us, hl with | [_, _], _ => rfl), PySem.W.mg_of X G a10⟩
  have T_all_orders : Df K mg "all_orders" s_all_orders ["n"] f11 _ := ⟨F11, F11.binds (ps := ["n"]) (fun _ _ _ _ _ _ us hl => match us, hl with | [_], _ => rfl), PySem.W.mg_of X G a11⟩
  have T_orders_with : Df K mg "orders_with" s_orders_with ["choices"] f12 _ := ⟨F12, F12.binds (ps := ["choices"]) (fun _ _ _ _ _ _ us hl => match us, hl with | [_], _ => rfl), PySem.W.mg_of X G a12⟩
  have T_longest_apart : Df K mg "longest_apart" s_longest_apart ["way", "n", "d"] f13 _ := ⟨F13, F13.binds (ps := ["way", "n", "d"]) (fun _ _ _ _ _ _ us hl => match us, hl with | [_, _, _], _ => rfl), PySem.W.mg_of X G a13⟩
  have T_longest_from : Df K mg "longest_from" s_longest_from ["way", "d", "taken", "rest", "best"] f14 _ := ⟨F14, F14.binds (ps := ["way", "d", "taken", "rest", "best"]) (fun _ _ _ _ _ _ us hl => match us, hl with | [_, _, _, _, _], _ => rfl), PySem.W.mg_of X G a14⟩
  have T_far_ones : Df K mg "far_ones" s_far_ones ["way", "d", "order", "others"] f15 _ := ⟨F15, F15.binds (ps := ["way", "d", "order", "others"]) (fun _ _ _ _ _ _ us hl => match us, hl with | [_, _, _, _], _ => rfl), PySem.W.mg_of X G a15⟩
  have T__law_cell : Df K mg "_law_cell" s_law_cell ["script", "k"] f16 _ := ⟨F16, F16.binds (ps := ["script", "k"]) (fun _ _ _ _ _ _ us hl => match us, hl with | [_, _], _ => rfl), PySem.W.mg_of X G a16⟩
  have T__law_store : Df K mg "_law_store" s_law_store ["cell"] f17 _ := ⟨F17, F17.binds (ps := ["cell"]) (fun _ _ _ _ _ _ us hl => match us, hl with | [_], _ => rfl), PySem.W.mg_of X G a17⟩
  have T__law_take : Df K mg "_law_take" s_law_take ["store", "many"] f18 _ := ⟨F18, F18.binds (ps := ["store", "many"]) (fun _ _ _ _ _ _ us hl => match us, hl with | [_, _], _ => rfl), PySem.W.mg_of X G a18⟩
  have T__law_far : Df K mg "_law_far" s_law_far ["way", "one", "other"] f19 _ := ⟨F19, F19.binds (ps := ["way", "one", "other"]) (fun _ _ _ _ _ _ us hl => match us, hl with | [_, _, _], _ => rfl), PySem.W.mg_of X G a19⟩
  have T__law_orders : Df K mg "_law_orders" s_law_orders ["n"] f20 _ := ⟨F20, F20.binds (ps := ["n"]) (fun _ _ _ _ _ _ us hl => match us, hl with | [_], _ => rfl), PySem.W.mg_of X G a20⟩
  have T__law_way : Df K mg "_law_way" s_law_way ["store"] f21 _ := ⟨F21, F21.binds (ps := ["store"]) (fun _ _ _ _ _ _ us hl => match us, hl with | [_], _ => rfl), PySem.W.mg_of X G a21⟩
  have T__law_most : Df K mg "_law_most" s_law_most ["way", "n"] f22 _ := ⟨F22, F22.binds (ps := ["way", "n"]) (fun _ _ _ _ _ _ us hl => match us, hl with | [_, _], _ => rfl), PySem.W.mg_of X G a22⟩
  have T__law_distance : Df K mg "_law_distance" s_law_distance ["store", "way", "n"] f23 _ := ⟨F23, F23.binds (ps := ["store", "way", "n"]) (fun _ _ _ _ _ _ us hl => match us, hl with | [_, _, _], _ => rfl), PySem.W.mg_of X G a23⟩
  have T__law_is_order : Df K mg "_law_is_order" s_law_is_order ["thing", "n"] f24 _ := ⟨F24, F24.binds (ps := ["thing", "n"]) (fun _ _ _ _ _ _ us hl => match us, hl with | [_, _], _ => rfl), PySem.W.mg_of X G a24⟩
  have T__law_apart : Df K mg "_law_apart" s_law_apart ["way", "n", "d", "thing"] f25 _ := ⟨F25, F25.binds (ps := ["way", "n", "d", "thing"]) (fun _ _ _ _ _ _ us hl => match us, hl with | [_, _, _, _], _ => rfl), PySem.W.mg_of X G a25⟩
  have T__law_deep : Df K mg "_law_deep" s_law_deep ["thing"] f26 _ := ⟨F26, F26.binds (ps := ["thing"]) (fun _ _ _ _ _ _ us hl => match us, hl with | [_], _ => rfl), PySem.W.mg_of X G a26⟩
  have T__law_parts : Df K mg "_law_parts" s_law_parts ["near", "left"] f27 _ := ⟨F27, F27.binds (ps := ["near", "left"]) (fun _ _ _ _ _ _ us hl => match us, hl with | [_, _], _ => rfl), PySem.W.mg_of X G a27⟩
  have T__law_grown : Df K mg "_law_grown" s_law_grown ["near", "left", "many", "best"] f28 _ := ⟨F28, F28.binds (ps := ["near", "left", "many", "best"]) (fun _ _ _ _ _ _ us hl => match us, hl with | [_, _, _, _], _ => rfl), PySem.W.mg_of X G a28⟩
  have T__law_due : Df K mg "_law_due" s_law_due ["way", "n", "d"] f29 _ := ⟨F29, F29.binds (ps := ["way", "n", "d"]) (fun _ _ _ _ _ _ us hl => match us, hl with | [_, _, _], _ => rfl), PySem.W.mg_of X G a29⟩
  have B : Bi mg := ⟨PySem.W.mg_none_of X G z_ValueError, PySem.W.mg_none_of X G z_abs, PySem.W.mg_none_of X G z_bool, PySem.W.mg_none_of X G z_enumerate, PySem.W.mg_none_of X G z_int, PySem.W.mg_none_of X G z_isinstance, PySem.W.mg_none_of X G z_len, PySem.W.mg_none_of X G z_list, PySem.W.mg_none_of X G z_max, PySem.W.mg_none_of X G z_min, PySem.W.mg_none_of X G z_range, PySem.W.mg_none_of X G z_sorted, PySem.W.mg_none_of X G z_str⟩
  have m_WAYS := wy_mk (PySem.W.mg_of X G g_WAYS) l_WAYS
  have m_MOST_SEARCHED := PySem.W.mg_of X G g_MOST_SEARCHED
  exact ⟨PySem.W.fnOf "law" "law" (defArgs s_law) (defBody s_law) (defScope s_law) .none kV30 dc30 pm30 an30 cd30 ct30, fun s v => .of_eq rfl, fun base _ _ => ok_law F30 T__law_store T__law_cell T__law_way T__law_take T__law_distance T_longest_apart T__law_apart T__law_due T__law_deep (ok_store (k := 38) T__law_store) (ok_cell (k := 38) T__law_cell B) (ok_lway (k := 38) T__law_way T__law_take (ok_take (k := 37) T__law_take)) (ok_take (k := 38) T__law_take) (ok_dist (k := 38) T__law_distance T__law_take T__law_most (ok_take (k := 37) T__law_take) (ok_most (k := 37) T__law_most) B) (ok_longest (k := 38) T_longest_apart T_check_apart T_all_orders T_longest_from T_far_ones (ok_apart (k := 35) T_check_apart T_check_way T_check_size T_check_from T_is_whole m_WAYS B) (ok_all_orders (k := 36) T_all_orders T_orders_with B) (ok_lf (k := 14) T_longest_from T_far_ones (fun j => ok_farOnes (k := j + 13) T_far_ones T_known_far (ok_known (k := j + 12) T_known_far T_far_by_swap T_far_by_spot T_far_by_shift (ok_swap (k := j + 11) T_far_by_swap T_seats_in (ok_seats (k := j + 9) T_seats_in T_places_in B) B) (ok_spot (k := j + 11) T_far_by_spot B) (ok_shift (k := j + 11) T_far_by_shift T_seats_in (ok_seats (k := j + 9) T_seats_in T_places_in B) B)) B) B 24) (ok_farOnes (k := 37) T_far_ones T_known_far (ok_known (k := 36) T_known_far T_far_by_swap T_far_by_spot T_far_by_shift (ok_swap (k := 35) T_far_by_swap T_seats_in (ok_seats (k := 33) T_seats_in T_places_in B) B) (ok_spot (k := 35) T_far_by_spot B) (ok_shift (k := 35) T_far_by_shift T_seats_in (ok_seats (k := 33) T_seats_in T_places_in B) B)) B) B m_MOST_SEARCHED) (ok_lapart (k := 38) T__law_apart T__law_is_order T__law_far (ok_lisord (k := 37) T__law_is_order B) (ok_law_far (k := 37) T__law_far B) B) (ok_due (k := 38) T__law_due T__law_orders T__law_far T__law_grown (ok_law_orders (k := 37) T__law_orders B) (ok_law_far (k := 37) T__law_far B) (ok_grown (k := 13) T__law_grown T__law_parts B 24) B) (ok_deepL (k := 36) T__law_deep B) B⟩
end Fo
open PySem PySem.W PyProof.Rows
set_option maxRecDepth 100000 in
set_option maxHeartbeats 0 in
theorem PySem.Challenge.cw_farorders_k23_longest_lists_holds : PySem.Challenge.rw_farorders_k23_longest_lists.Holds := by
  w_on; o_law; k_head; (case hw => w_witness2)
  k_fill
  refine L2.walk_of (l := PySem.Challenge.rw_farorders_k23_longest_lists) (n := 63) (k := 40) (x := "script") (CX := fun _ => L2.CX0) (sp := fun w => Fo.spLaw _) rfl (by decide) rfl ⟨rfl, by decide, by decide⟩ (fun w h Y => PySem.W.kIn_of Y) ?F (fun _ _ a ns hl _ hS => ⟨a, ns, rfl, hS, hl, fun _ => rfl⟩) (fun _ _ _ _ _ h => h)
  case F =>
    intro w mg fa h KX G hmg
    refine' Fo.all_mk KX G hmg ?a0 ?l0 ?c0 ?k0 ?a1 ?l1 ?c1 ?k1 ?a2 ?l2 ?c2 ?k2 ?a3 ?l3 ?c3 ?k3 ?a4 ?l4 ?c4 ?k4 ?a5 ?l5 ?c5 ?k5 ?a6 ?l6 ?c6 ?k6 ?a7 ?l7 ?c7 ?k7 ?a8 ?l8 ?c8 ?k8 ?a9 ?l9 ?c9 ?k9 ?a10 ?l10 ?c10 ?k10 ?a11 ?l11 ?c11 ?k11 ?a12 ?l12 ?c12 ?k12 ?a13 ?l13 ?c13 ?k13 ?a14 ?l14 ?c14 ?k14 ?a15 ?l15 ?c15 ?k15 ?a16 ?l16 ?c16 ?k16 ?a17 ?l17 ?c17 ?k17 ?a18 ?l18 ?c18 ?k18 ?a19 ?l19 ?c19 ?k19 ?a20 ?l20 ?c20 ?k20 ?a21 ?l21 ?c21 ?k21 ?a22 ?l22 ?c22 ?k22 ?a23 ?l23 ?c23 ?k23 ?a24 ?l24 ?c24 ?k24 ?a25 ?l25 ?c25 ?k25 ?a26 ?l26 ?c26 ?k26 ?a27 ?l27 ?c27 ?k27 ?a28 ?l28 ?c28 ?k28 ?a29 ?l29 ?c29 ?k29 ?a30 ?l30 ?c30 ?k30 ?g_MOST_SEARCHED ?g_WAYS ?l_WAYS ?z_ValueError ?z_abs ?z_bool ?z_enumerate ?z_int ?z_isinstance ?z_len ?z_list ?z_max ?z_min ?z_range ?z_sorted ?z_str
    (case a0 => k_is); (case l0 => k_is); (case c0 => k_is); (case k0 => k_is); (case a1 => k_is); (case l1 => k_is); (case c1 => k_is); (case k1 => k_is); (case a2 => k_is); (case l2 => k_is); (case c2 => k_is); (case k2 => k_is); (case a3 => k_is); (case l3 => k_is); (case c3 => k_is); (case k3 => k_is); (case a4 => k_is); (case l4 => k_is); (case c4 => k_is); (case k4 => k_is); (case a5 => k_is); (case l5 => k_is); (case c5 => k_is); (case k5 => k_is); (case a6 => k_is); (case l6 => k_is); (case c6 => k_is); (case k6 => k_is); (case a7 => k_is); (case l7 => k_is); (case c7 => k_is); (case k7 => k_is); (case a8 => k_is); (case l8 => k_is); (case c8 => k_is); (case k8 => k_is); (case a9 => k_is); (case l9 => k_is); (case c9 => k_is); (case k9 => k_is); (case a10 => k_is); (case l10 => k_is); (case c10 => k_is); (case k10 => k_is); (case a11 => k_is); (case l11 => k_is); (case c11 => k_is); (case k11 => k_is); (case a12 => k_is); (case l12 => k_is); (case c12 => k_is); (case k12 => k_is); (case a13 => k_is); (case l13 => k_is); (case c13 => k_is); (case k13 => k_is); (case a14 => k_is); (case l14 => k_is); (case c14 => k_is); (case k14 => k_is); (case a15 => k_is); (case l15 => k_is); (case c15 => k_is); (case k15 => k_is); (case a16 => k_is); (case l16 => k_is); (case c16 => k_is); (case k16 => k_is); (case a17 => k_is); (case l17 => k_is); (case c17 => k_is); (case k17 => k_is); (case a18 => k_is); (case l18 => k_is); (case c18 => k_is); (case k18 => k_is); (case a19 => k_is); (case l19 => k_is); (case c19 => k_is); (case k19 => k_is); (case a20 => k_is); (case l20 => k_is); (case c20 => k_is); (case k20 => k_is); (case a21 => k_is); (case l21 => k_is); (case c21 => k_is); (case k21 => k_is); (case a22 => k_is); (case l22 => k_is); (case c22 => k_is); (case k22 => k_is); (case a23 => k_is); (case l23 => k_is); (case c23 => k_is); (case k23 => k_is); (case a24 => k_is); (case l24 => k_is); (case c24 => k_is); (case k24 => k_is); (case a25 => k_is); (case l25 => k_is); (case c25 => k_is); (case k25 => k_is); (case a26 => k_is); (case l26 => k_is); (case c26 => k_is); (case k26 => k_is); (case a27 => k_is); (case l27 => k_is); (case c27 => k_is); (case k27 => k_is); (case a28 => k_is); (case l28 => k_is); (case c28 => k_is); (case k28 => k_is); (case a29 => k_is); (case l29 => k_is); (case c29 => k_is); (case k29 => k_is); (case a30 => k_is); (case l30 => k_is); (case c30 => k_is); (case k30 => k_is); (case g_MOST_SEARCHED => k_is); (case g_WAYS => k_is); (case l_WAYS => k_is); (case z_ValueError => k_is); (case z_abs => k_is); (case z_bool => k_is); (case z_enumerate => k_is); (case z_int => k_is); (case z_isinstance => k_is); (case z_len => k_is); (case z_list => k_is); (case z_max => k_is); (case z_min => k_is); (case z_range => k_is); (case z_sorted => k_is); (case z_str => k_is)

