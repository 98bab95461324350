import PyProof.Rows.All
import Wide.All
import OpenK.AllK
import Wide.FinOn
import HandS.ForMost
import HandS.IsInst
import HandS.Conv
import HandS.Style
import HandS.More
import HandS.Evl
import HandS.Zip
import HandS.SetFor
import HandS.Sort
import HandS.Wide
import HandS.Deep
import KE.SortData
import HandS.TupAny
import KE.GoesEnum
import PySem.Challenge.RW_farorders_k15_how_many_within
set_option Elab.async false
set_option linter.all false
set_option maxRecDepth 100000
namespace Fo
open PySem PySem.Spec PyProof.Rows L2
/-! ### lists and orders -/
def rg (n : Nat) : List Int := (List.range n).map fun k => ((k : Nat) : Int)
def IsOrd (n : Nat) (ns : List Int) : Prop := ns.Perm (rg n)
theorem rg_len (n : Nat) : (rg n).length = n := by
  unfold rg
  rw [List.length_map, List.length_range]
theorem rg_mem {n : Nat} {x : Int} : x ∈ rg n ↔ 0 ≤ x ∧ x < n := by
  unfold rg
  rw [List.mem_map]
  constructor
  · rintro ⟨k, hk, rfl⟩
    have := List.mem_range.mp hk
    omega
  · rintro ⟨h0, h1⟩
    exact ⟨x.toNat, List.mem_range.mpr (by omega), by omega⟩
theorem rg_nodup (n : Nat) : (rg n).Nodup := by
  unfold rg
  exact List.Pairwise.map _ (fun a b h e => h (by omega)) List.nodup_range
theorem rg_sorted (n : Nat) : (rg n).Pairwise (· ≤ ·) := by
  unfold rg
  exact List.Pairwise.map _ (fun a b h => by omega) List.pairwise_lt_range
theorem rg_V (n : Nat) : rgV 0 (n : Int) = (rg n).map V.int := by
  unfold rgV rg
  rw [List.map_map, show ((n : Int) - 0).toNat = n by omega]
  apply List.map_congr_left
  intro a _
  show V.int (0 + (a : Int)) = V.int (a : Int)
  rw [Int.zero_add]
theorem IsOrd.len {n : Nat} {ns : List Int} (h : IsOrd n ns) : ns.length = n := (List.Perm.length_eq h).trans (rg_len n)
theorem IsOrd.mem {n : Nat} {ns : List Int} (h : IsOrd n ns) {x : Int} (m : x ∈ ns) : 0 ≤ x ∧ x < n := rg_mem.mp ((List.Perm.mem_iff h).mp m)
theorem IsOrd.nodup {n : Nat} {ns : List Int} (h : IsOrd n ns) : ns.Nodup := (List.Perm.nodup_iff h).mpr (rg_nodup n)
/-- two sorted lists of the same things are one -/
theorem sorted_eq : ∀ {a b : List Int}, a.Perm b → a.Pairwise (· ≤ ·) → b.Pairwise (· ≤ ·) → a = b := by
  intro a b hp ha hb
  exact List.Perm.eq_of_pairwise (fun x y _ _ h1 h2 => by omega) ha hb hp
/-- the things at p and p + 1 change places -/
def sw (xs : List Int) (p : Nat) : List Int := (xs.set p (xs.getD (p + 1) 0)).set (p + 1) (xs.getD p 0)
theorem split2 : ∀ {xs : List Int} {p : Nat}, p + 1 < xs.length → ∃ A a b B, xs = A ++ a :: b :: B ∧ A.length = p
  | [], p, h => by simp at h
  | [_], p, h => by simp at h
  | a :: b :: r, 0, _ => ⟨[], a, b, r, rfl, rfl⟩
  | a :: b :: r, p + 1, h => by
    obtain ⟨A, x, y, B, e, l⟩ := split2 (xs := b :: r) (p := p) (by simpa using h)
    exact ⟨a :: A, x, y, B, by rw [e]; rfl, by rw [List.length_cons, l]⟩
theorem sw_at : ∀ (A : List Int) (a b : Int) (B : List Int), sw (A ++ a :: b :: B) A.length = A ++ b :: a :: B
  | [], a, b, B => rfl
  | x :: A, a, b, B => by
    have ih := sw_at A a b B
    unfold sw at ih ⊢
    show x :: _ = x :: _
    exact congrArg (x :: ·) ih
theorem sw_perm {xs : List Int} {p : Nat} (h : p + 1 < xs.length) : (sw xs p).Perm xs := by
  obtain ⟨A, a, b, B, rfl, rfl⟩ := split2 h
  rw [sw_at]
  exact List.Perm.append_left A (List.Perm.swap a b B)
theorem sw_len (xs : List Int) (p : Nat) : (sw xs p).length = xs.length := by
  unfold sw
  rw [List.length_set, List.length_set]
theorem sw_ord {n : Nat} {xs : List Int} {p : Nat} (o : IsOrd n xs) (h : p + 1 < n) : IsOrd n (sw xs p) :=
  (sw_perm (by rw [o.len]; exact h)).trans o
theorem sw_V {xs : List Int} {p : Nat} {a b : Int} (ha : xs[p]? = some a) (hb : xs[p + 1]? = some b) : ((xs.map V.int).set p (V.int b)).set (p + 1) (V.int a) = (sw xs p).map V.int := by
  unfold sw
  rw [List.getD_eq_getElem?_getD, List.getD_eq_getElem?_getD, ha, hb, List.map_set, List.map_set]
  rfl
theorem pop_ins {xs : List Int} {p : Nat} {a : Int} (h : p + 1 < xs.length) (ha : xs[p]? = some a) : (xs.eraseIdx p).take (p + 1) ++ [a] ++ (xs.eraseIdx p).drop (p + 1) = sw xs p := by
  obtain ⟨A, x, y, B, rfl, rfl⟩ := split2 h
  have ex : x = a := by
    rw [List.getElem?_append_right (Nat.le_refl _), Nat.sub_self] at ha
    exact Option.some.inj ha
  subst ex
  rw [sw_at, List.eraseIdx_append_of_length_le (Nat.le_refl _), Nat.sub_self]
  show (A ++ y :: B).take (A.length + 1) ++ [x] ++ (A ++ y :: B).drop (A.length + 1) = _
  rw [List.take_append, List.drop_append]
  have t : A.length + 1 - A.length = 1 := by omega
  rw [t, List.take_of_length_le (by omega), List.drop_of_length_le (by omega)]
  simp
/-- the order at a walk's end -/
def wEnd (xs : List Int) (ws : List Int) : List Int := ws.foldl (fun x p => sw x p.toNat) xs
theorem wEnd_more {xs ws : List Int} {i : Nat} {p : Int} (h : ws[i]? = some p) : wEnd xs (ws.take (i + 1)) = sw (wEnd xs (ws.take i)) p.toNat := by
  unfold wEnd
  rw [List.take_add_one, h, List.foldl_append]
  rfl
theorem wEnd_ord {n : Nat} {xs : List Int} (o : IsOrd n xs) : ∀ {ws : List Int}, (∀ p ∈ ws, 0 ≤ p ∧ p + 1 < n) → IsOrd n (wEnd xs ws) := by
  intro ws
  induction ws generalizing xs with
  | nil => intro _; exact o
  | cons p ws ih =>
    intro h
    have hp := h p List.mem_cons_self
    exact ih (sw_ord o (by omega)) fun q hq => h q (List.mem_cons_of_mem _ hq)
theorem nodup_len : ∀ {l m : List Int}, l.Nodup → (∀ x ∈ l, x ∈ m) → l.length ≤ m.length
  | [], m, _, _ => Nat.zero_le _
  | a :: l, m, hn, hs => by
    obtain ⟨h1, h2⟩ := List.nodup_cons.mp hn
    have ha := hs a List.mem_cons_self
    have ih := nodup_len (l := l) (m := m.erase a) h2 fun x hx => by
      have ne : x ≠ a := fun e => h1 (by rw [← e]; exact hx)
      exact (List.mem_erase_of_ne ne).mpr (hs x (List.mem_cons_of_mem _ hx))
    rw [List.length_erase_of_mem ha] at ih
    have : 0 < m.length := List.length_pos_of_mem ha
    rw [List.length_cons]
    omega
theorem int_at {ns : List Int} {i : Nat} {x : Int} (h : ns[i]? = some x) : (ns.map V.int)[i]? = some (V.int x) := by
  rw [List.getElem?_map, h]
  rfl
theorem int_at_inv {ns : List Int} {i : Nat} {v : V} (h : (ns.map V.int)[i]? = some v) : ∃ x, ns[i]? = some x ∧ v = V.int x := by
  rw [List.getElem?_map] at h
  cases e : ns[i]? with
  | none => rw [e] at h; cases h
  | some x => rw [e] at h; exact ⟨x, rfl, (Option.some.inj h).symm⟩
theorem line_small {n : Nat} (h : n ≤ 16777216) : n ≤ sizeLine := by rw [sizeLine_eq]; exact h
theorem line_lt {n : Nat} (h : n < 16777216) : n < sizeLine := by rw [sizeLine_eq]; exact h
/-! ### data of ints -/
theorem dp_ints {K : PySem.W.Frag} {H : Hp} : ∀ ns : List Int, DpAll K H (ns.map V.int) (ns.map PyData.int)
  | [] => .nil
  | n :: r => .cons (.int n) (dp_ints r)
theorem dp_list {K : PySem.W.Frag} {H : Hp} {a : Addr} {ns : List Int} (h : H a = some (.lst (ns.map V.int))) : Dp K H (.ref a) (.list (ns.map PyData.int)) := .lst (SqL.of h) (dp_ints ns)
theorem eqv_int (i j : Int) : PyData.eqv (.int i) (.int j) = (i == j) := rfl
end Fo
namespace Fo
open PySem PySem.Spec PyProof.Rows L2
abbrev dI (ns : List Int) : List PyData := ns.map PyData.int
abbrev dL (ns : List Int) : PyData := .list (dI ns)
abbrev dLL (l : List (List Int)) : PyData := .list (l.map dL)
theorem lay_ints : ∀ ns : List Int, PyData.canLayAll0 (dI ns) = true
  | [] => rfl
  | n :: r => by
    show (PyData.canLay0 (.int n) && PyData.canLayAll0 (dI r)) = true
    rw [lay_ints r]
    rfl
theorem depth_ints : ∀ ns : List Int, PyData.depthAll (dI ns) = 0
  | [] => by simp [PyData.depthAll]
  | n :: r => by
    show PyData.depthAll (.int n :: dI r) = 0
    rw [PyData.depthAll, depth_ints r]
    simp [PyData.depth]
theorem lay_list (ns : List Int) : PyData.canLay0 (dL ns) = true := by
  rw [PyData.canLay0]
  exact lay_ints ns
theorem depth_list (ns : List Int) : PyData.depth (dL ns) = 1 := by
  rw [PyData.depth, depth_ints]
theorem shaped_list (ns : List Int) : SeqAt.shaped (dL ns) = true := by
  unfold SeqAt.shaped
  rw [lay_list, depth_list]
  rfl
theorem lay_lists : ∀ l : List (List Int), PyData.canLayAll0 (l.map dL) = true
  | [] => rfl
  | n :: r => by
    show (PyData.canLay0 (dL n) && PyData.canLayAll0 (r.map dL)) = true
    rw [lay_lists r, lay_list]
    rfl
theorem depth_lists : ∀ l : List (List Int), PyData.depthAll (l.map dL) ≤ 1
  | [] => by simp [PyData.depthAll]
  | n :: r => by
    show PyData.depthAll (dL n :: r.map dL) ≤ 1
    rw [PyData.depthAll, depth_list]
    have := depth_lists r
    omega
theorem shaped_lists (l : List (List Int)) : SeqAt.shaped (dLL l) = true := by
  unfold SeqAt.shaped
  rw [Bool.and_eq_true_iff]
  constructor
  · rw [PyData.canLay0]
    exact lay_lists l
  · apply decide_eq_true
    rw [PyData.depth]
    have := depth_lists l
    omega
theorem eqv_list (ns : List Int) : PyData.eqv (dL ns) (dL ns) = true := SeqAt.eqv_refl _ (lay_list ns)
theorem eqv_lists (l : List (List Int)) : PyData.eqv (dLL l) (dLL l) = true := SeqAt.eqv_refl _ (SeqAt.canLay_of_shaped (shaped_lists l))
theorem eqvAll_ints : ∀ a b : List Int, PyData.eqvAll (dI a) (dI b) = decide (a = b)
  | [], [] => by simp [PyData.eqvAll]
  | [], _ :: _ => by simp [PyData.eqvAll]
  | _ :: _, [] => by simp [PyData.eqvAll]
  | x :: a, y :: b => by
    show PyData.eqvAll (.int x :: dI a) (.int y :: dI b) = _
    rw [PyData.eqvAll, eqvAll_ints a b]
    show ((x == y) && decide (a = b)) = decide (x :: a = y :: b)
    by_cases h : x = y
    · subst h
      simp
    · simp [h]
theorem eqv_ints (a b : List Int) : PyData.eqv (dL a) (dL b) = decide (a = b) := by
  rw [PyData.eqv]
  exact eqvAll_ints a b
end Fo
namespace Fo
open PySem PySem.Spec PyProof.Rows L2
/-! ### slices of ints -/
def cutI (ws : List Int) (lo hi : Option Int) : List Int := (ws.drop (HT.sIx ws.length 0 lo)).take (HT.sIx ws.length ws.length hi - HT.sIx ws.length 0 lo)
theorem cut_ints (ws : List Int) (lo hi : Option Int) : cutV (ws.map V.int) lo hi = (cutI ws lo hi).map V.int := by
  unfold cutV cutI
  rw [List.length_map, List.map_take, List.map_drop]
theorem cutI_mem {ws : List Int} {lo hi : Option Int} {x : Int} (h : x ∈ cutI ws lo hi) : x ∈ ws := List.mem_of_mem_drop (List.mem_of_mem_take h)
theorem cutI_len (ws : List Int) (lo hi : Option Int) : (cutI ws lo hi).length ≤ ws.length := by
  unfold cutI
  rw [List.length_take, List.length_drop]
  omega
theorem cutI_head (ws : List Int) (k : Nat) : cutI ws none (some (k : Int)) = ws.take k := by
  unfold cutI
  rw [HT.sIx_none, HT.sIx_nat, List.drop_zero, Nat.sub_zero]
  by_cases h : k ≤ ws.length
  · rw [Nat.min_eq_left h]
  · rw [Nat.min_eq_right (by omega), List.take_length, List.take_of_length_le (by omega)]
theorem cutI_tail (ws : List Int) (k : Nat) : cutI ws (some (k : Int)) none = ws.drop k := by
  unfold cutI
  rw [HT.sIx_none, HT.sIx_nat]
  by_cases h : k ≤ ws.length
  · rw [Nat.min_eq_left h, List.take_of_length_le (by rw [List.length_drop]; exact Nat.le_refl _)]
  · rw [Nat.min_eq_right (by omega), List.drop_of_length_le (Nat.le_refl _), List.drop_of_length_le (by omega), List.take_nil]
end Fo
namespace Fo
open PySem PySem.Spec PyProof.Rows L2
/-- a loop over enumerate of a list that stands still -/
theorem for_enumL {K : PySem.W.Frag} {a : Addr} {xs : List V} {g : TG} {tb : TS} {D : Ends} {σ : L2.St} {H : Hp} (Pv : Nat → L2.St → Hp → Prop) (h0 : Pv 0 σ H) (hq : ∀ i σ H, Pv i σ H → SqL K H a xs)
    (hs : ∀ (i : Nat) (x : V) (T : Addr) (σ : L2.St) (H : Hp), xs[i]? = some x → Pv i σ H → H T = none → g (.ref T) σ (upd H T (.tup [.int (i : Nat), x])) fun σ2 H2 => tb { D with nx := Pv (i + 1), ct := Pv (i + 1), bk := D.nx } σ2 H2) (hd : ∀ σ H, Pv xs.length σ H → D.nx σ H) :
    ∃ W : Nat → Nat → L2.St → Hp → Prop, (∃ m, W 0 m σ H) ∧ ∀ i m σ H, W i m σ H →
      ((Ite K a).stop i H ∧ D.nx σ H) ∨ ((Ite K a).go i H ∧ ∃ N : L2.St → Hp → Prop, (∀ σ' H', N σ' H' → ∃ m', m' < m ∧ W (i + 1) m' σ' H') ∧ ∀ v H', (Ite K a).yld i H v H' → g v σ H' fun σ2 H2 => tb { D with nx := N, ct := N, bk := D.nx } σ2 H2) := by
  refine ⟨fun i m σ H => m = xs.length - i ∧ i ≤ xs.length ∧ Pv i σ H, ⟨xs.length, rfl, Nat.zero_le _, h0⟩, ?_⟩
  rintro i m σ H ⟨rfl, hi, p⟩
  have qx := hq i σ H p
  by_cases hlt : i < xs.length
  · have hx : xs[i]? = some xs[i] := List.getElem?_eq_getElem hlt
    refine .inr ⟨⟨xs, _, qx, hx⟩, Pv (i + 1), fun σ' H' p' => ⟨xs.length - (i + 1), by omega, rfl, hlt, p'⟩, fun v H' y => ?_⟩
    obtain ⟨T, x', rfl, hT, rfl, f1⟩ := y
    exact hs i x' T σ H (f1 xs qx) p hT
  · have e : i = xs.length := by omega
    subst e
    exact .inl ⟨⟨xs, qx, Nat.le_refl _⟩, hd σ H p⟩
/-- a comprehension over enumerate of a list that stands still -/
theorem lc_enumL {K : PySem.W.Frag} {a : Addr} {xs : List V} {g : TG} {tt : TT} {te : TE} {vs : List Nat} {σ : L2.St} {H1 : Hp} {D : Addr} {Qd : Hp → Prop} (Pv : Nat → Hp → Prop) (h0 : Pv 0 (upd H1 D (.lst []))) (hl : ∀ i H, i ≤ xs.length → Pv i H → SqL K H a xs)
    (hs : ∀ (i : Nat) (x : V) (T : Addr) (H : Hp), xs[i]? = some x → Pv i H → H T = none → g (.ref T) (wipe σ vs) (upd H T (.tup [.int (i : Nat), x])) fun σ2 H2 => wipe σ2 vs = wipe σ vs ∧ tt σ2 H2 fun b H3 =>
      if b = true then te σ2 H3 fun y H4 => ∃ acc, H4 D = some (.lst acc) ∧ acc.length < sizeLine ∧ Pv (i + 1) (upd H4 D (.lst (acc ++ [y]))) else Pv (i + 1) H3) (hd : ∀ H, Pv xs.length H → Qd H) :
    ∃ W : Nat → Nat → Hp → Prop, (∃ m, W 0 m (upd H1 D (.lst []))) ∧ ∀ i m H, W i m H →
      ((Ite K a).stop i H ∧ Qd H) ∨ ((Ite K a).go i H ∧ ∃ Nx : Hp → Prop, (∀ H', Nx H' → ∃ m', m' < m ∧ W (i + 1) m' H') ∧ ∀ x H', (Ite K a).yld i H x H' → g x (wipe σ vs) H' fun σ2 H2 => wipe σ2 vs = wipe σ vs ∧ tt σ2 H2 fun b H3 =>
        if b = true then te σ2 H3 fun y H4 => ∃ acc, H4 D = some (.lst acc) ∧ acc.length < sizeLine ∧ Nx (upd H4 D (.lst (acc ++ [y]))) else Nx H3) := by
  refine ⟨fun i m H => m = xs.length - i ∧ i ≤ xs.length ∧ Pv i H, ⟨xs.length, by simp, Nat.zero_le _, h0⟩, ?_⟩
  rintro i m H ⟨rfl, hi, p⟩
  have q := hl i H hi p
  by_cases hlt : i < xs.length
  · refine .inr ⟨⟨xs, xs[i], q, by simp [hlt]⟩, Pv (i + 1), fun H' p' => ⟨xs.length - (i + 1), by omega, rfl, hlt, p'⟩, fun x H' y => ?_⟩
    obtain ⟨T, x', rfl, hT, rfl, f1⟩ := y
    exact hs i x' T H (f1 xs q) p hT
  · have e : i = xs.length := by omega
    subst e
    exact .inl ⟨⟨xs, q, Nat.le_refl _⟩, hd H p⟩
/-! ### the back of an order -/
def IsBack (ns ps : List Int) : Prop := ps.length = ns.length ∧ ∀ (j : Nat) (x : Int), ns[j]? = some x → ps[x.toNat]? = some (j : Int)
theorem ord_at {n : Nat} {ns : List Int} (o : IsOrd n ns) {t : Nat} (h : t < n) : ∃ j : Nat, j < n ∧ ns[j]? = some (t : Int) := by
  have m : (t : Int) ∈ ns := (List.Perm.mem_iff o).mpr (rg_mem.mpr ⟨by omega, by omega⟩)
  obtain ⟨j, hj⟩ := List.mem_iff_getElem?.mp m
  exact ⟨j, by have := (List.getElem?_eq_some_iff.mp hj).1; rw [o.len] at this; exact this, hj⟩
theorem ord_ix {n : Nat} {ns : List Int} (o : IsOrd n ns) {j : Nat} (h : j < n) : ∃ x : Int, ns[j]? = some x ∧ 0 ≤ x ∧ x < n := by
  have hj : j < ns.length := by rw [o.len]; exact h
  exact ⟨ns[j], List.getElem?_eq_getElem hj, o.mem (List.getElem_mem hj)⟩
theorem back_eq {n : Nat} {ns a b : List Int} (o : IsOrd n ns) (ha : IsBack ns a) (hb : IsBack ns b) : a = b := by
  apply List.ext_getElem?
  intro t
  by_cases h : t < n
  · obtain ⟨j, _, hj⟩ := ord_at o h
    have h1 := ha.2 j _ hj
    have h2 := hb.2 j _ hj
    rw [Int.toNat_natCast] at h1 h2
    rw [h1, h2]
  · rw [List.getElem?_eq_none (by rw [ha.1, o.len]; omega), List.getElem?_eq_none (by rw [hb.1, o.len]; omega)]
def behindL (ns ms : List Int) : List Int := ms.map fun p => ns.getD p.toNat 0
theorem behind_at {ns ms : List Int} {i : Nat} {p x : Int} (hp : ms[i]? = some p) (hx : ns[p.toNat]? = some x) : (behindL ns ms)[i]? = some x := by
  unfold behindL
  rw [List.getElem?_map, hp]
  show some (ns.getD p.toNat 0) = some x
  rw [List.getD_eq_getElem?_getD, hx]
  rfl
theorem behind_len (ns ms : List Int) : (behindL ns ms).length = ms.length := by
  unfold behindL
  rw [List.length_map]
theorem take_more {l : List Int} {i : Nat} {x : Int} (h : l[i]? = some x) : l.take (i + 1) = l.take i ++ [x] := by
  rw [List.take_add_one, h]
  rfl
theorem flat_ints : ∀ ns : List Int, (ns.map V.int).all flatV = true
  | [] => rfl
  | n :: r => by
    show (flatV (V.int n) && (r.map V.int).all flatV) = true
    rw [flat_ints r]
    rfl
theorem eqV_int (i j : Int) : eqV (.int i) (.int j) = (i == j) := rfl
end Fo
namespace Fo
open PySem PySem.Spec PyProof.Rows L2
/-! ### a slice with a step that is reckoned, 1 or -1 -/
theorem pick_one (items : Array Value) : slicePick items none none (some 1) = items := by
  have e : slicePick items none none (some 1) = slicePick items none none none := rfl
  rw [e, PySem.W.kmk_pick_nat (a := 0) (b := items.size) items rfl, List.drop_zero, Nat.sub_zero, ← Array.length_toList, List.take_length]
def tStepL (K : PySem.W.Frag) (te ts : TE) : TE := fun σ H Q => te σ H fun x H1 => ∃ a, x = .ref a ∧ tPart ts σ H1 fun o H2 => ∃ xs, SqL K H2 a xs ∧
  ((o = some 1 ∧ ∀ p, H2 p = none → Q (.ref p) (upd H2 p (.lst xs))) ∨ (o = some (-1) ∧ ∀ p, H2 p = none → Q (.ref p) (upd H2 p (.lst xs.reverse))))
theorem pe_stepL {X : Cx} {e st : Expr} {te ts : TE} {p3 pos : Pos} (he : PE X e te) (hst : PE X st ts)
    (hsub : ∀ u : Value, ∀ r : Addr, subscripted (.Slice none none (some st) p3) false u (.ref r) = operate [u, .ref r] (getItem u (.ref r)) := by intro _ _; with_unfolding_all rfl) : PE X (.Subscript e (.Slice none none (some st) p3) pos) (tStepL X.K te ts) := by
  refine ⟨fun pins s σ H Q I h => ?_⟩
  refine Subscript_ (thn (he.run pins s σ H _ I h) fun v s1 z1 => ?_)
  obtain ⟨x, H1, I1, r1, a, ex, q1⟩ := z1
  subst ex
  cases r1
  refine wpAny_Slice (thn (po_none.run pins s1 σ H1 (fun o H2 => o = none ∧ H2 = H1) I1 ⟨rfl, rfl⟩) fun vl s2 z2 => ?_)
  obtain ⟨l, H2, I2, pl, el, e2⟩ := z2
  subst el e2
  refine thn (po_none.run pins s2 σ H2 (fun o H3 => o = none ∧ H3 = H2) I2 ⟨rfl, rfl⟩) fun vu s3 z3 => ?_
  obtain ⟨u, H3, I3, pu, eu, e3⟩ := z3
  subst eu e3
  refine thn ((po_some hst).run pins s3 σ H3 _ I3 q1) fun vs s4 z4 => ?_
  obtain ⟨o, H4, I4, ps, xs, hx, q⟩ := z4
  have I5 : Inv X pins σ H4 { s4 with heap := s4.heap.push { cls := .type "slice", data := .fields #[vl, vu, vs] } } := I4.kept (t' := s4.toks) fun b ob w => Heap.get?_push_of_some _ w
  obtain ⟨its, r, ht, hz⟩ := I5.list hx
  have hlen := r.length
  show wpAny (model X.prog X.w) X.A (subscriptTail e (.Slice none none (some st) p3) (.ref a) (.ref s4.heap.objs.size)) (EP X pins σ Q) X.xe _
  refine tail_any (ops := [.ref a, .ref s4.heap.objs.size]) ht.isList.typeIs (PySem.slot_list_getitem.lookup) ?_ (hsub _ _)
  rcases q with ⟨eo, q⟩ | ⟨eo, q⟩
  · subst eo
    refine wpAny_getItem_list_slice ht.isList (Heap.IsSliceOf.new _ vl vu vs) pl pu ps (by decide) ?_ (by rw [List.size_toArray]; omega)
    rw [pick_one]
    refine ⟨.ref _, _, I5.laid (t' := s4.toks) (o := .lst xs) (fun b ob w => Heap.get?_push_of_some _ w) (Nat.le_refl _) ?_, rfl, q _ (I5.hok.fresh (Nat.le_refl _))⟩
    exact ⟨hz, _, 0, r, Heap.get?_push_size _ rfl⟩
  · subst eo
    refine wpAny_getItem_list_slice ht.isList (Heap.IsSliceOf.new _ vl vu vs) pl pu ps (by decide) ?_ (by rw [List.size_toArray]; omega)
    rw [PySem.W.krv_pick]
    refine ⟨.ref _, _, I5.laid (t' := s4.toks) (o := .lst xs.reverse) (fun b ob w => Heap.get?_push_of_some _ w) (Nat.le_refl _) ?_, rfl, q _ (I5.hok.fresh (Nat.le_refl _))⟩
    exact ⟨by rw [List.length_reverse]; exact hz, _, 0, r.reverse, Heap.get?_push_size _ rfl⟩
end Fo
namespace Fo
open PySem PySem.Spec PyProof.Rows L2
/-! ### the text -/
def topS (i : Nat) : Stmt := PySem.Challenge.pw_farorders_k15_how_many_within.main.body.getD i (.Pass ⟨0, 0, 0, 0⟩)
abbrev s_OrderError : Stmt := topS 1
abbrev s_NoWay : Stmt := topS 2
abbrev s_NoNumber : Stmt := topS 3
abbrev s_is_whole : Stmt := topS 6
abbrev s_check_way : Stmt := topS 7
abbrev s_check_from : Stmt := topS 8
abbrev s_check_size : Stmt := topS 9
abbrev s_count_within : Stmt := topS 12
abbrev s_count_at : Stmt := topS 13
abbrev s_check_count : Stmt := topS 14
abbrev s_known_within : Stmt := topS 15
abbrev s_swap_counts : Stmt := topS 16
abbrev s_swap_counts_with_one_more : Stmt := topS 17
abbrev s_spot_counts : Stmt := topS 18
abbrev s_count_all_moved : Stmt := topS 19
abbrev s_shift_within : Stmt := topS 20
abbrev s_things_near : Stmt := topS 21
abbrev s_one_place_further : Stmt := topS 22
abbrev s_law_draws : Stmt := topS 24
abbrev s_law_take : Stmt := topS 25
abbrev s_law_swaps : Stmt := topS 26
abbrev s_law_chosen : Stmt := topS 27
abbrev s_law_spots : Stmt := topS 28
abbrev s_law_fill : Stmt := topS 29
abbrev s_law_shifts : Stmt := topS 30
abbrev s_law_within : Stmt := topS 31
abbrev s_law_whole : Stmt := topS 32
abbrev s_law_right : Stmt := topS 33
abbrev s_law : Stmt := topS 34
/-- a def of the text, where it stands -/
structure Df (K : PySem.W.Frag) (mg : Str → Option Value) (x : Str) (st : Stmt) (ps : List Str) (f : Addr) (fd : FuncData) : Prop where
  F : Fun K x x st f fd
  b : Binds K fd ps []
  g : mg x = some (.ref f)
/-- the built-in names as they were -/
structure Bi (mg : Str → Option Value) : Prop where
  ValueError : mg "ValueError" = none
  abs : mg "abs" = none
  bool : mg "bool" = none
  enumerate : mg "enumerate" = none
  int : mg "int" = none
  isinstance : mg "isinstance" = none
  len : mg "len" = none
  list : mg "list" = none
  max : mg "max" = none
  min : mg "min" = none
  range : mg "range" = none
  str : mg "str" = none
  sum : mg "sum" = none
  tuple : mg "tuple" = none
end Fo
namespace Fo
open PySem PySem.Spec PyProof.Rows L2
theorem same_new {H : Hp} {p : Addr} {o : HO} (h : H p = none) : Same H (upd H p o) := fun b x e => by
  rw [upd_ne (ne_of_none e h)]
  exact e
theorem at2_0 {x y : V} : atI [x, y] 0 = some x := rfl
theorem at2_1 {x y : V} : atI [x, y] 1 = some y := rfl
end Fo
namespace Fo
open PySem PySem.Spec PyProof.Rows L2
theorem pop_perm : ∀ {xs : List Int} {k : Nat} {y : Int}, xs[k]? = some y → (y :: xs.eraseIdx k).Perm xs
  | [], k, y, h => by simp at h
  | a :: r, 0, y, h => by
    have e : a = y := Option.some.inj h
    subst e
    exact List.Perm.refl _
  | a :: r, k + 1, y, h => by
    have ih := pop_perm (xs := r) (k := k) (y := y) h
    show (y :: a :: r.eraseIdx k).Perm (a :: r)
    exact (List.Perm.swap a y _).trans (List.Perm.cons a ih)
theorem map_erase : ∀ (xs : List Int) (k : Nat), (xs.map V.int).eraseIdx k = (xs.eraseIdx k).map V.int
  | [], k => rfl
  | a :: r, 0 => rfl
  | a :: r, k + 1 => congrArg (V.int a :: ·) (map_erase r k)
/-- what len asks of a list or a tuple -/
abbrev rLenS (K : PySem.W.Frag) : List V → Hp → VK → Prop := fun xs H Q => ∃ p ys, xs = [.ref p] ∧ (SqL K H p ys ∨ SqT K H p ys) ∧ Q (.int ys.length) H
theorem seq_ix {i : Int} {k n : Nat} (e : i = (k : Int)) (h : k < n) : seqIndex? i n = some k := by
  subst e
  unfold seqIndex?
  have h1 : ¬ ((k : Int) < 0) := by omega
  simp only [h1, if_false]
  have h2 : (decide ((0 : Int) ≤ (k : Int)) && decide ((k : Int) < (n : Int))) = true := by
    simp
    omega
  rw [if_pos h2, Int.toNat_natCast]
theorem ix_n {i : Int} {k n : Nat} (e : i = (k : Int)) (h : k < n) : ixN n i = some k := by
  subst e
  unfold ixN
  rw [if_pos (by omega), if_pos (by omega), Int.toNat_natCast]
end Fo
namespace Fo
open PySem PySem.Spec PyProof.Rows L2
/-! ### lists of lists -/
def LL (H : Hp) : List Addr → List (List Int) → Prop
  | [], [] => True
  | a :: as, r :: rs => H a = some (.lst (r.map V.int)) ∧ LL H as rs
  | _, _ => False
theorem LL.len {H : Hp} : ∀ {as : List Addr} {rs : List (List Int)}, LL H as rs → as.length = rs.length
  | [], [], _ => rfl
  | [], _ :: _, h => h.elim
  | _ :: _, [], h => h.elim
  | a :: as, r :: rs, h => by rw [List.length_cons, List.length_cons, LL.len h.2]
theorem LL.keep {H H' : Hp} : ∀ {as : List Addr} {rs : List (List Int)}, LL H as rs → (∀ a ∈ as, ∀ o, H a = some o → H' a = some o) → LL H' as rs
  | [], [], _, _ => trivial
  | [], _ :: _, h, _ => h.elim
  | _ :: _, [], h, _ => h.elim
  | a :: as, r :: rs, h, k => ⟨k a List.mem_cons_self _ h.1, LL.keep h.2 fun b hb => k b (List.mem_cons_of_mem _ hb)⟩
theorem LL.same {H H' : Hp} {as : List Addr} {rs : List (List Int)} (h : LL H as rs) (s : Same H H') : LL H' as rs := h.keep fun a _ o e => s a o e
theorem LL.get {H : Hp} : ∀ {as : List Addr} {rs : List (List Int)} {i : Nat} {a : Addr}, LL H as rs → as[i]? = some a → ∃ r, rs[i]? = some r ∧ H a = some (.lst (r.map V.int))
  | [], [], _, _, _, e => by simp at e
  | [], _ :: _, _, _, h, _ => h.elim
  | _ :: _, [], _, _, h, _ => h.elim
  | a :: as, r :: rs, 0, b, h, e => by
    have e2 : a = b := Option.some.inj e
    subst e2
    exact ⟨r, rfl, h.1⟩
  | a :: as, r :: rs, i + 1, b, h, e => LL.get (i := i) h.2 e
theorem LL.tracked {H : Hp} {as : List Addr} {rs : List (List Int)} (h : LL H as rs) {a : Addr} (ha : a ∈ as) : ∃ o, H a = some o := by
  obtain ⟨i, hi⟩ := List.mem_iff_getElem?.mp ha
  obtain ⟨r, _, e⟩ := h.get hi
  exact ⟨_, e⟩
theorem LL.snoc {H : Hp} : ∀ {as : List Addr} {rs : List (List Int)} {a : Addr} {r : List Int}, LL H as rs → H a = some (.lst (r.map V.int)) → LL H (as ++ [a]) (rs ++ [r])
  | [], [], _, _, _, e => ⟨e, trivial⟩
  | [], _ :: _, _, _, h, _ => h.elim
  | _ :: _, [], _, _, h, _ => h.elim
  | b :: as, s :: rs, _, _, h, e => ⟨h.1, LL.snoc h.2 e⟩
theorem LL.drop {H : Hp} : ∀ {as : List Addr} {rs : List (List Int)} (k : Nat), LL H as rs → LL H (as.drop k) (rs.drop k)
  | as, rs, 0, h => h
  | [], [], k + 1, _ => trivial
  | [], _ :: _, _ + 1, h => h.elim
  | _ :: _, [], _ + 1, h => h.elim
  | _ :: as, _ :: rs, k + 1, h => LL.drop k h.2
theorem dp_LL {K : PySem.W.Frag} {H : Hp} : ∀ {as : List Addr} {rs : List (List Int)}, LL H as rs → DpAll K H (as.map V.ref) (rs.map dL)
  | [], [], _ => .nil
  | [], _ :: _, h => h.elim
  | _ :: _, [], h => h.elim
  | _ :: _, _ :: _, h => .cons (dp_list h.1) (dp_LL h.2)
theorem dp_lists {K : PySem.W.Frag} {H : Hp} {l : Addr} {as : List Addr} {rs : List (List Int)} (hl : H l = some (.lst (as.map V.ref))) (h : LL H as rs) : Dp K H (.ref l) (dLL rs) := .lst (SqL.of hl) (dp_LL h)
theorem ref_at {as : List Addr} {i : Nat} {a : Addr} (h : as[i]? = some a) : (as.map V.ref)[i]? = some (V.ref a) := by
  rw [List.getElem?_map, h]
  rfl
theorem ref_at_inv {as : List Addr} {i : Nat} {v : V} (h : (as.map V.ref)[i]? = some v) : ∃ a, as[i]? = some a ∧ v = V.ref a := by
  rw [List.getElem?_map] at h
  cases e : as[i]? with
  | none => rw [e] at h; cases h
  | some x => rw [e] at h; exact ⟨x, rfl, (Option.some.inj h).symm⟩
theorem cutV_tail (xs : List V) (k : Nat) : cutV xs (some (k : Int)) none = xs.drop k := by
  unfold cutV
  rw [HT.sIx_none, HT.sIx_nat]
  by_cases h : k ≤ xs.length
  · rw [Nat.min_eq_left h, List.take_of_length_le (by rw [List.length_drop]; exact Nat.le_refl _)]
  · rw [Nat.min_eq_right (by omega), List.drop_of_length_le (Nat.le_refl _), List.drop_of_length_le (by omega), List.take_nil]
end Fo
namespace Fo
open PySem PySem.Spec PyProof.Rows L2
/-! ### sums -/
def ind (b : Bool) : Nat := if b then 1 else 0
def sumN (l : List Int) (f : Int → Nat) : Nat := (l.map f).sum
theorem sumN_nil (f : Int → Nat) : sumN [] f = 0 := rfl
theorem sumN_cons (a : Int) (l : List Int) (f : Int → Nat) : sumN (a :: l) f = f a + sumN l f := by
  unfold sumN
  rw [List.map_cons, List.sum_cons]
theorem sumN_append (l m : List Int) (f : Int → Nat) : sumN (l ++ m) f = sumN l f + sumN m f := by
  unfold sumN
  rw [List.map_append, List.sum_append]
theorem sumN_perm {l m : List Int} (h : l.Perm m) (f : Int → Nat) : sumN l f = sumN m f := by
  induction h with
  | nil => rfl
  | cons x _ ih => rw [sumN_cons, sumN_cons, ih]
  | swap x y l => rw [sumN_cons, sumN_cons, sumN_cons, sumN_cons]; omega
  | trans _ _ h1 h2 => exact h1.trans h2
theorem sumN_congr {l : List Int} {f g : Int → Nat} (h : ∀ x ∈ l, f x = g x) : sumN l f = sumN l g := by
  unfold sumN
  rw [List.map_congr_left h]
theorem sumN_map (l : List Int) (g : Int → Int) (f : Int → Nat) : sumN (l.map g) f = sumN l (fun x => f (g x)) := by
  unfold sumN
  rw [List.map_map]
  rfl
theorem sumN_zero {l : List Int} {f : Int → Nat} (h : ∀ x ∈ l, f x = 0) : sumN l f = 0 := by
  rw [sumN_congr h]
  induction l with
  | nil => rfl
  | cons a l ih => rw [sumN_cons, ih fun x hx => h x (List.mem_cons_of_mem _ hx)]
theorem sumN_add (l : List Int) (f g : Int → Nat) : sumN l (fun x => f x + g x) = sumN l f + sumN l g := by
  induction l with
  | nil => rfl
  | cons a l ih => rw [sumN_cons, sumN_cons, sumN_cons, ih]; omega
theorem sumN_swap (l m : List Int) (f : Int → Int → Nat) : sumN l (fun i => sumN m (fun j => f i j)) = sumN m (fun j => sumN l (fun i => f i j)) := by
  induction l with
  | nil => exact (sumN_zero fun x _ => rfl).symm
  | cons a l ih =>
    rw [sumN_cons, ih, ← sumN_add]
    exact sumN_congr fun x _ => by rw [sumN_cons]
theorem filter_len (l : List Int) (p : Int → Bool) : (l.filter p).length = sumN l (fun x => ind (p x)) := by
  induction l with
  | nil => rfl
  | cons a l ih =>
    rw [sumN_cons, List.filter_cons]
    unfold ind at ih ⊢
    cases p a
    · simp only [Bool.false_eq_true, if_false]; omega
    · simp only [if_true, List.length_cons]; omega
/-! ### a list by its places -/
def g0 (s : List Int) (i : Int) : Int := s.getD i.toNat 0
theorem g0_at {s : List Int} {i : Nat} {x : Int} (h : s[i]? = some x) : g0 s (i : Int) = x := by
  unfold g0
  rw [Int.toNat_natCast, List.getD_eq_getElem?_getD, h]
  rfl
theorem by_places (s : List Int) : s = (rg s.length).map (g0 s) := by
  apply List.ext_getElem?
  intro i
  unfold rg
  rw [List.getElem?_map, List.getElem?_map]
  by_cases h : i < s.length
  · rw [List.getElem?_range h, List.getElem?_eq_getElem h]
    show some s[i] = some (g0 s (i : Int))
    rw [g0_at (List.getElem?_eq_getElem h)]
  · rw [List.getElem?_eq_none (by omega), List.getElem?_eq_none (by rw [List.length_range]; omega)]
    rfl
theorem rg_succ (n : Nat) : rg (n + 1) = rg n ++ [(n : Int)] := by
  unfold rg
  rw [List.range_succ, List.map_append]
  rfl
/-- how many of the later ones are less -/
def cntL (s : List Int) (i : Nat) : Nat := ((s.drop (i + 1)).filter (fun x => decide (x < g0 s i))).length
def invF (n : Nat) (a : Int → Int) : Nat := sumN (rg n) fun i => sumN (rg n) fun j => ind (decide (i < j) && decide (a j < a i))
def invN (s : List Int) : Nat := sumN (rg s.length) fun i => cntL s i.toNat
theorem drop_sum (n i : Nat) (f : Int → Nat) : sumN ((rg n).drop (i + 1)) f = sumN (rg n) fun j => if (i : Int) < j then f j else 0 := by
  induction n with
  | zero => rfl
  | succ n ih =>
    rw [rg_succ, sumN_append, ← ih, List.drop_append, sumN_append, rg_len]
    congr 1
    by_cases h : i + 1 ≤ n
    · rw [show i + 1 - n = 0 by omega, List.drop_zero, sumN_cons, sumN_cons, sumN_nil, sumN_nil, if_pos (by omega)]
    · rw [show i + 1 - n = (i - n) + 1 by omega, List.drop_succ_cons, List.drop_nil, sumN_cons, sumN_nil, sumN_nil, if_neg (by omega)]
theorem cnt_sum (s : List Int) (i : Nat) : cntL s i = sumN (rg s.length) fun j => ind (decide ((i : Int) < j) && decide (g0 s j < g0 s i)) := by
  unfold cntL
  rw [filter_len]
  have e : s.drop (i + 1) = ((rg s.length).drop (i + 1)).map (g0 s) := by
    rw [List.map_drop, ← by_places]
  rw [e, sumN_map, drop_sum]
  apply sumN_congr
  intro j _
  unfold ind
  by_cases h : (i : Int) < j
  · simp [h]
  · simp [h]
theorem inv_eq (s : List Int) : invN s = invF s.length (g0 s) := by
  unfold invN invF
  apply sumN_congr
  intro i hi
  have := rg_mem.mp hi
  rw [cnt_sum, Int.toNat_of_nonneg this.1]
/-! ### places of things -/
def pos (ys : List Int) (x : Int) : Int := ((ys.idxOf x : Nat) : Int)
def seatsL (xs ys : List Int) : List Int := xs.map (pos ys)
theorem pos_of {n : Nat} {ys : List Int} (o : IsOrd n ys) {j : Nat} {x : Int} (h : ys[j]? = some x) : pos ys x = (j : Int) := by
  obtain ⟨hj, e⟩ := List.getElem?_eq_some_iff.mp h
  have m : x ∈ ys := List.mem_of_getElem? h
  have hi : ys.idxOf x < ys.length := List.idxOf_lt_length_iff.mpr m
  have h2 : ys[ys.idxOf x]? = some x := by
    rw [List.getElem?_eq_getElem hi]
    exact congrArg some (List.getElem_idxOf hi)
  unfold pos
  rw [nd_ix o.nodup h2 h]
theorem pos_at {n : Nat} {ys : List Int} (o : IsOrd n ys) {x : Int} (h0 : 0 ≤ x) (h1 : x < n) : ∃ j : Nat, j < n ∧ ys[j]? = some x ∧ pos ys x = (j : Int) := by
  obtain ⟨j, hj, e⟩ := ord_at o (t := x.toNat) (by omega)
  rw [Int.toNat_of_nonneg h0] at e
  exact ⟨j, hj, e, pos_of o e⟩
theorem back_pos {n : Nat} {ys ps : List Int} (o : IsOrd n ys) (h : IsBack ys ps) {x : Int} (h0 : 0 ≤ x) (h1 : x < n) : ps[x.toNat]? = some (pos ys x) := by
  obtain ⟨j, hj, e, ep⟩ := pos_at o h0 h1
  rw [ep]
  exact h.2 j x e
theorem seats_len (xs ys : List Int) : (seatsL xs ys).length = xs.length := by
  unfold seatsL
  rw [List.length_map]
theorem seats_at {xs ys : List Int} {i : Nat} {x : Int} (h : xs[i]? = some x) : (seatsL xs ys)[i]? = some (pos ys x) := by
  unfold seatsL
  rw [List.getElem?_map, h]
  rfl
theorem seats_self {n : Nat} {ys : List Int} (o : IsOrd n ys) : seatsL ys ys = rg n := by
  apply List.ext_getElem?
  intro i
  by_cases h : i < n
  · obtain ⟨x, hx, _⟩ := ord_ix o h
    rw [seats_at hx, pos_of o hx]
    unfold rg
    rw [List.getElem?_map, List.getElem?_range h]
    rfl
  · rw [List.getElem?_eq_none (by rw [seats_len, o.len]; omega), List.getElem?_eq_none (by rw [rg_len]; omega)]
theorem seats_ord {n : Nat} {xs ys : List Int} (ox : IsOrd n xs) (oy : IsOrd n ys) : IsOrd n (seatsL xs ys) := by
  have h : (seatsL xs ys).Perm (seatsL ys ys) := List.Perm.map _ (ox.trans oy.symm)
  rw [seats_self oy] at h
  exact h
theorem g0_ord {n : Nat} {s : List Int} (o : IsOrd n s) : s = (rg n).map (g0 s) := by
  have e := by_places s
  rw [o.len] at e
  exact e
/-- inversions from the other side -/
theorem inv_turn {n : Nat} {s t : List Int} (os : IsOrd n s) (ot : IsOrd n t) (h : ∀ u ∈ rg n, g0 s (g0 t u) = u) : invN s = invN t := by
  rw [inv_eq, inv_eq, os.len, ot.len]
  unfold invF
  have p1 : ∀ f : Int → Nat, sumN (rg n) f = sumN (rg n) fun u => f (g0 t u) := fun f => by
    have e : sumN ((rg n).map (g0 t)) f = sumN (rg n) fun u => f (g0 t u) := sumN_map _ _ _
    rw [← e, ← g0_ord ot]
    exact (sumN_perm ot f).symm
  rw [p1]
  rw [sumN_congr (g := fun u => sumN (rg n) fun v => ind (decide (g0 t u < g0 t v) && decide (v < u))) (fun u hu => by
    rw [p1]
    exact sumN_congr fun v hv => by rw [h u hu, h v hv])]
  rw [sumN_swap]
  apply sumN_congr
  intro v _
  apply sumN_congr
  intro u _
  rw [Bool.and_comm]
theorem seats_turn {n : Nat} {xs ys : List Int} (ox : IsOrd n xs) (oy : IsOrd n ys) : ∀ u ∈ rg n, g0 (seatsL xs ys) (g0 (seatsL ys xs) u) = u := by
  intro u hu
  have hb := rg_mem.mp hu
  obtain ⟨y, hy, y0, y1⟩ := ord_ix oy (j := u.toNat) (by omega)
  have e1 : g0 (seatsL ys xs) u = pos xs y := by
    have := g0_at (seats_at (ys := xs) hy)
    rw [Int.toNat_of_nonneg hb.1] at this
    exact this
  obtain ⟨j, hj, ej, pj⟩ := pos_at ox y0 y1
  rw [e1, pj, g0_at (seats_at (ys := ys) ej), pos_of oy hy]
  omega
/-! ### how far two orders are -/
def farSwap (xs ys : List Int) : Int := ((invN (seatsL xs ys) : Nat) : Int)
def spotL (xs ys : List Int) : List Int := (rg xs.length).filter fun p => !decide (g0 xs p = g0 ys p)
def farSpot (xs ys : List Int) : Int := (((spotL xs ys).length : Nat) : Int)
def absI (i : Int) : Int := if i < 0 then -i else i
def gapsL (xs ys : List Int) : List Int := (rg xs.length).map fun p => absI (p - g0 (seatsL xs ys) p)
def maxL (l : List Int) : Int := l.foldr max 0
def farShift (xs ys : List Int) : Int := maxL (gapsL xs ys)
theorem maxL_of : ∀ {l : List Int} {m : Int}, (∀ x ∈ l, 0 ≤ x) → m ∈ l → (∀ x ∈ l, x ≤ m) → maxL l = m := by
  intro l m h0 hm hle
  have key : ∀ l : List Int, (∀ x ∈ l, x ≤ m) → maxL l ≤ m := by
    intro l hl
    induction l with
    | nil => exact h0 m hm
    | cons a l ih =>
      show max a (maxL l) ≤ m
      have h1 := hl a List.mem_cons_self
      have h2 := ih fun x hx => hl x (List.mem_cons_of_mem _ hx)
      omega
  have key2 : ∀ l : List Int, ∀ x ∈ l, x ≤ maxL l := by
    intro l
    induction l with
    | nil => intro x hx; exact absurd hx List.not_mem_nil
    | cons a l ih =>
      intro x hx
      show x ≤ max a (maxL l)
      rcases List.mem_cons.mp hx with rfl | hx
      · omega
      · have := ih x hx
        omega
  have := key l hle
  have := key2 l m hm
  omega
theorem gaps_nonneg (xs ys : List Int) : ∀ x ∈ gapsL xs ys, 0 ≤ x := by
  intro x hx
  obtain ⟨p, _, rfl⟩ := List.mem_map.mp hx
  unfold absI
  split <;> omega
theorem maxL_mem {l : List Int} (h0 : ∀ x ∈ l, 0 ≤ x) (hl : 0 < l.length) : maxL l ∈ l ∧ ∀ x ∈ l, x ≤ maxL l := by
  induction l with
  | nil => exact absurd hl (Nat.lt_irrefl _)
  | cons a l ih =>
    show max a (maxL l) ∈ a :: l ∧ ∀ x ∈ a :: l, x ≤ max a (maxL l)
    by_cases c : 0 < l.length
    · obtain ⟨h1, h2⟩ := ih (fun x hx => h0 x (List.mem_cons_of_mem _ hx)) c
      constructor
      · by_cases d : maxL l ≤ a
        · rw [Int.max_eq_left d]
          exact List.mem_cons_self
        · rw [Int.max_eq_right (by omega)]
          exact List.mem_cons_of_mem _ h1
      · intro x hx
        rcases List.mem_cons.mp hx with rfl | hx
        · omega
        · have := h2 x hx
          omega
    · have e : l = [] := List.eq_nil_of_length_eq_zero (by omega)
      subst e
      have := h0 a List.mem_cons_self
      have e2 : max a (maxL []) = a := by show max a 0 = a; omega
      rw [e2]
      exact ⟨List.mem_cons_self, fun x hx => by rw [List.mem_singleton.mp hx]; exact Int.le_refl _⟩
theorem farSwap_turn {n : Nat} {xs ys : List Int} (ox : IsOrd n xs) (oy : IsOrd n ys) : farSwap ys xs = farSwap xs ys := by
  unfold farSwap
  rw [inv_turn (seats_ord ox oy) (seats_ord oy ox) (seats_turn ox oy)]
theorem inv_rg (n : Nat) : invN (rg n) = 0 := by
  rw [inv_eq]
  unfold invF
  apply sumN_zero
  intro i hi
  apply sumN_zero
  intro j hj
  rw [rg_len] at hi hj
  have hi2 := rg_mem.mp hi
  have hj2 := rg_mem.mp hj
  have e : ∀ k : Int, k ∈ rg n → g0 (rg n) k = k := fun k hk => by
    have := rg_mem.mp hk
    have z : (rg n)[k.toNat]? = some k := by
      unfold rg
      rw [List.getElem?_map, List.getElem?_range (by omega)]
      show some ((k.toNat : Nat) : Int) = some k
      rw [Int.toNat_of_nonneg this.1]
    have z2 := g0_at z
    rw [Int.toNat_of_nonneg this.1] at z2
    exact z2
  rw [e i hi, e j hj]
  unfold ind
  by_cases c : i < j
  · have d : ¬ j < i := by omega
    simp [c, d]
  · simp [c]
theorem farSwap_self {n : Nat} {xs : List Int} (ox : IsOrd n xs) : farSwap xs xs = 0 := by
  unfold farSwap
  rw [seats_self ox, inv_rg]
  rfl
theorem farSpot_turn {xs ys : List Int} (h : xs.length = ys.length) : farSpot ys xs = farSpot xs ys := by
  unfold farSpot spotL
  rw [h]
  congr 3
  funext p
  congr 1
  by_cases c : g0 ys p = g0 xs p
  · rw [decide_eq_true c, decide_eq_true c.symm]
  · rw [decide_eq_false c, decide_eq_false fun e => c e.symm]
theorem farSpot_self (xs : List Int) : farSpot xs xs = 0 := by
  unfold farSpot spotL
  have e : ((rg xs.length).filter fun p => !decide (g0 xs p = g0 xs p)) = [] := by
    rw [List.filter_eq_nil_iff]
    intro a _
    simp
  rw [e]
  rfl
theorem gaps_len (xs ys : List Int) : (gapsL xs ys).length = xs.length := by
  unfold gapsL
  rw [List.length_map, rg_len]
theorem gaps_sub {n : Nat} {xs ys : List Int} (ox : IsOrd n xs) (oy : IsOrd n ys) : ∀ g ∈ gapsL ys xs, g ∈ gapsL xs ys := by
  intro g hg
  obtain ⟨u, hu, rfl⟩ := List.mem_map.mp hg
  rw [oy.len] at hu
  have hb := (seats_ord oy ox).mem (x := g0 (seatsL ys xs) u) (by
    have e := g0_ord (seats_ord oy ox)
    rw [e]
    exact List.mem_map.mpr ⟨u, hu, by rw [← e]⟩)
  refine List.mem_map.mpr ⟨g0 (seatsL ys xs) u, by rw [ox.len]; exact rg_mem.mpr hb, ?_⟩
  rw [seats_turn ox oy u hu]
  unfold absI
  split <;> split <;> omega
theorem farShift_turn {n : Nat} {xs ys : List Int} (ox : IsOrd n xs) (oy : IsOrd n ys) (hn : 1 ≤ n) : farShift ys xs = farShift xs ys := by
  unfold farShift
  obtain ⟨h1, h2⟩ := maxL_mem (gaps_nonneg xs ys) (by rw [gaps_len, ox.len]; exact hn)
  exact maxL_of (gaps_nonneg ys xs) (gaps_sub oy ox _ h1) fun x hx => h2 x (gaps_sub ox oy x hx)
theorem farShift_self {n : Nat} {xs : List Int} (ox : IsOrd n xs) (hn : 1 ≤ n) : farShift xs xs = 0 := by
  unfold farShift
  have z : ∀ g ∈ gapsL xs xs, g = 0 := by
    intro g hg
    obtain ⟨u, hu, rfl⟩ := List.mem_map.mp hg
    rw [ox.len] at hu
    have hb := rg_mem.mp hu
    rw [seats_self ox]
    have e : (rg n)[u.toNat]? = some u := by
      unfold rg
      rw [List.getElem?_map, List.getElem?_range (by omega)]
      show some ((u.toNat : Nat) : Int) = some u
      rw [Int.toNat_of_nonneg hb.1]
    have z2 := g0_at e
    rw [Int.toNat_of_nonneg hb.1] at z2
    rw [z2]
    unfold absI
    split <;> omega
  obtain ⟨h1, _⟩ := maxL_mem (gaps_nonneg xs xs) (by rw [gaps_len, ox.len]; exact hn)
  exact z _ h1
end Fo
namespace Fo
open PySem PySem.Spec PyProof.Rows L2
/-! ### turned pairs, one after the other -/
def invR : List Int → Nat
  | [] => 0
  | x :: r => (r.filter (fun z => decide (z < x))).length + invR r
theorem rg_cons (n : Nat) : rg (n + 1) = 0 :: (rg n).map (· + 1) := by
  unfold rg
  rw [List.range_succ_eq_map, List.map_cons, List.map_map, List.map_map]
  rfl
theorem inv_NR : ∀ s : List Int, invN s = invR s
  | [] => rfl
  | x :: r => by
    have ih := inv_NR r
    unfold invN at ih ⊢
    rw [List.length_cons, rg_cons, sumN_cons, sumN_map]
    show cntL (x :: r) (0 : Int).toNat + _ = (r.filter (fun z => decide (z < x))).length + invR r
    rw [← ih]
    have e1 : cntL (x :: r) (0 : Int).toNat = (r.filter (fun z => decide (z < x))).length := rfl
    rw [e1]
    congr 1
    apply sumN_congr
    intro i hi
    have hb := rg_mem.mp hi
    obtain ⟨j, rfl⟩ : ∃ j : Nat, i = (j : Int) := ⟨i.toNat, by omega⟩
    rw [show ((j : Int) + 1).toNat = j + 1 by omega, Int.toNat_natCast]
    unfold cntL
    have e2 : g0 (x :: r) ((j + 1 : Nat) : Int) = g0 r (j : Int) := by
      unfold g0
      rw [Int.toNat_natCast, Int.toNat_natCast]
      rfl
    rw [e2]
    rfl
theorem filt_perm {a b : List Int} (h : a.Perm b) (p : Int → Bool) : (a.filter p).length = (b.filter p).length := (h.filter p).length_eq
theorem invR_at : ∀ (A : List Int) (a b : Int) (B : List Int), b < a → invR (A ++ a :: b :: B) = invR (A ++ b :: a :: B) + 1
  | [], a, b, B, h => by
    show ((b :: B).filter (fun z => decide (z < a))).length + ((B.filter (fun z => decide (z < b))).length + invR B) = ((a :: B).filter (fun z => decide (z < b))).length + ((B.filter (fun z => decide (z < a))).length + invR B) + 1
    rw [List.filter_cons, List.filter_cons, decide_eq_true h, decide_eq_false (show ¬ a < b by omega), if_pos rfl, if_neg (by decide), List.length_cons]
    omega
  | x :: A, a, b, B, h => by
    have ih := invR_at A a b B h
    show ((A ++ a :: b :: B).filter (fun z => decide (z < x))).length + invR (A ++ a :: b :: B) = ((A ++ b :: a :: B).filter (fun z => decide (z < x))).length + invR (A ++ b :: a :: B) + 1
    rw [ih, filt_perm (List.Perm.append_left A (List.Perm.swap b a B))]
    omega
theorem invR_sw {s : List Int} {p : Nat} {a b : Int} (ha : s[p]? = some a) (hb : s[p + 1]? = some b) (h : b < a) : invR s = invR (sw s p) + 1 := by
  have hl := (List.getElem?_eq_some_iff.mp hb).1
  obtain ⟨A, x, y, B, rfl, rfl⟩ := split2 hl
  have ex : x = a := by
    rw [List.getElem?_append_right (Nat.le_refl _), Nat.sub_self] at ha
    exact Option.some.inj ha
  have ey : y = b := by
    rw [List.getElem?_append_right (by omega), show A.length + 1 - A.length = 1 by omega] at hb
    exact Option.some.inj hb
  subst ex ey
  rw [sw_at, invR_at A x y B h]
def firstDesc : List Int → Option Nat
  | [] => none
  | [_] => none
  | x :: y :: r => if y < x then some 0 else (firstDesc (y :: r)).map (· + 1)
theorem fd_cons (x y : Int) (r : List Int) : firstDesc (x :: y :: r) = if y < x then some 0 else (firstDesc (y :: r)).map (· + 1) := by rw [firstDesc]
theorem fd_some : ∀ {s : List Int} {p : Nat} {a b : Int}, (∀ (j : Nat) (u v : Int), j < p → s[j]? = some u → s[j + 1]? = some v → u ≤ v) → s[p]? = some a → s[p + 1]? = some b → b < a → firstDesc s = some p
  | [], p, a, b, _, ha, _, _ => by simp at ha
  | [_], p, a, b, _, _, hb, _ => by simp at hb
  | x :: y :: r, 0, a, b, _, ha, hb, h => by
    have e1 : x = a := Option.some.inj ha
    have e2 : y = b := Option.some.inj hb
    rw [fd_cons, if_pos (by omega)]
  | x :: y :: r, p + 1, a, b, hl, ha, hb, h => by
    have h0 : x ≤ y := hl 0 x y (by omega) rfl rfl
    have ih := fd_some (s := y :: r) (p := p) (a := a) (b := b) (fun j u v hj hu hv => hl (j + 1) u v (by omega) hu hv) ha hb h
    rw [fd_cons, if_neg (by omega), ih]
    rfl
theorem fd_none : ∀ {s : List Int}, (∀ (j : Nat) (u v : Int), s[j]? = some u → s[j + 1]? = some v → u ≤ v) → firstDesc s = none
  | [], _ => rfl
  | [_], _ => rfl
  | x :: y :: r, hl => by
    have h0 : x ≤ y := hl 0 x y rfl rfl
    have ih := fd_none (s := y :: r) (fun j u v hu hv => hl (j + 1) u v hu hv)
    rw [fd_cons, if_neg (by omega), ih]
    rfl
theorem fd_at : ∀ {s : List Int} {p : Nat}, firstDesc s = some p → ∃ a b, s[p]? = some a ∧ s[p + 1]? = some b ∧ b < a ∧ ∀ (j : Nat) (u v : Int), j < p → s[j]? = some u → s[j + 1]? = some v → u ≤ v
  | [], p, h => by cases h
  | [_], p, h => by cases h
  | x :: y :: r, p, h => by
    rw [fd_cons] at h
    by_cases c : y < x
    · rw [if_pos c] at h
      cases h
      exact ⟨x, y, rfl, rfl, c, fun j u v hj => absurd hj (Nat.not_lt_zero _)⟩
    · rw [if_neg c] at h
      cases e : firstDesc (y :: r) with
      | none => rw [e] at h; cases h
      | some q =>
        rw [e] at h
        have ep : q + 1 = p := Option.some.inj h
        subst ep
        obtain ⟨a, b, ha, hb, hlt, hl⟩ := fd_at e
        refine ⟨a, b, ha, hb, hlt, fun j u v hj hu hv => ?_⟩
        cases j with
        | zero =>
          have e1 : x = u := Option.some.inj hu
          have e2 : y = v := Option.some.inj hv
          omega
        | succ j => exact hl j u v (by omega) hu hv
theorem fd_sorted : ∀ {s : List Int}, firstDesc s = none → s.Pairwise (· ≤ ·)
  | [], _ => List.Pairwise.nil
  | [_], _ => List.pairwise_singleton _ _
  | x :: y :: r, h => by
    rw [fd_cons] at h
    by_cases c : y < x
    · rw [if_pos c] at h; cases h
    · rw [if_neg c] at h
      have e : firstDesc (y :: r) = none := by
        cases e : firstDesc (y :: r) with
        | none => rfl
        | some q => rw [e] at h; cases h
      have ih := fd_sorted e
      refine List.Pairwise.cons (fun z hz => ?_) ih
      rcases List.mem_cons.mp hz with rfl | hz
      · omega
      · have := (List.pairwise_cons.mp ih).1 z hz
        omega
theorem invR_sorted : ∀ {s : List Int}, s.Pairwise (· ≤ ·) → invR s = 0
  | [], _ => rfl
  | x :: r, h => by
    obtain ⟨h1, h2⟩ := List.pairwise_cons.mp h
    show (r.filter (fun z => decide (z < x))).length + invR r = 0
    rw [invR_sorted h2, List.filter_eq_nil_iff.mpr (fun z hz => by
      have := h1 z hz
      simp
      omega)]
    rfl
theorem fd_pos {s : List Int} (h : 0 < invR s) : ∃ p, firstDesc s = some p := by
  cases e : firstDesc s with
  | none => rw [invR_sorted (fd_sorted e)] at h; omega
  | some p => exact ⟨p, rfl⟩
/-- the first of the shortest walks, of at most m places -/
def gw : Nat → List Int → List Int
  | 0, _ => []
  | m + 1, s => match firstDesc s with
    | none => []
    | some p => (p : Int) :: gw m (sw s p)
abbrev walkL (s : List Int) : List Int := gw (invR s) s
theorem walk_none {s : List Int} (h : firstDesc s = none) : walkL s = [] := by
  unfold walkL
  rw [invR_sorted (fd_sorted h)]
  rfl
theorem walk_some {s : List Int} {p : Nat} (h : firstDesc s = some p) : walkL s = (p : Int) :: walkL (sw s p) := by
  obtain ⟨a, b, ha, hb, hlt, _⟩ := fd_at h
  unfold walkL
  rw [invR_sw ha hb hlt, gw, h]
theorem walk_len : ∀ (m : Nat) (s : List Int), invR s = m → (walkL s).length = m
  | 0, s, h => by
    unfold walkL
    rw [h]
    rfl
  | m + 1, s, h => by
    obtain ⟨p, hp⟩ := fd_pos (s := s) (by omega)
    obtain ⟨a, b, ha, hb, hlt, _⟩ := fd_at hp
    rw [walk_some hp, List.length_cons, walk_len m (sw s p) (by have := invR_sw ha hb hlt; omega)]
theorem invR_len (s : List Int) : invR s ≤ s.length * s.length := by
  induction s with
  | nil => exact Nat.le_refl _
  | cons x r ih =>
    show (r.filter _).length + invR r ≤ (r.length + 1) * (r.length + 1)
    have h1 : (r.filter (fun z => decide (z < x))).length ≤ r.length := List.length_filter_le _ _
    have h2 : (r.length + 1) * (r.length + 1) = r.length * r.length + r.length + r.length + 1 := by
      rw [Nat.add_mul, Nat.mul_add]
      omega
    omega
theorem seats_sw {xs ys : List Int} {p : Nat} (h : p + 1 < xs.length) : seatsL (sw xs p) ys = sw (seatsL xs ys) p := by
  obtain ⟨A, a, b, B, rfl, rfl⟩ := split2 h
  rw [sw_at]
  unfold seatsL
  rw [List.map_append, List.map_cons, List.map_cons, List.map_append, List.map_cons, List.map_cons]
  have e := sw_at (A.map (pos ys)) (pos ys a) (pos ys b) (B.map (pos ys))
  rw [List.length_map] at e
  exact e.symm
theorem cut_sw {xs : List Int} {p : Nat} {a b : Int} (ha : xs[p]? = some a) (hb : xs[p + 1]? = some b) : xs.take p ++ [b, a] ++ xs.drop (p + 2) = sw xs p := by
  have hl := (List.getElem?_eq_some_iff.mp hb).1
  obtain ⟨A, x, y, B, rfl, rfl⟩ := split2 hl
  have ex : x = a := by
    rw [List.getElem?_append_right (Nat.le_refl _), Nat.sub_self] at ha
    exact Option.some.inj ha
  have ey : y = b := by
    rw [List.getElem?_append_right (by omega), show A.length + 1 - A.length = 1 by omega] at hb
    exact Option.some.inj hb
  subst ex ey
  rw [sw_at, List.take_left, List.drop_append, List.drop_of_length_le (by omega), show A.length + 2 - A.length = 2 by omega]
  simp
theorem filt_map (l : List Int) (f : Int → Int) (p : Int → Bool) : ((l.map f).filter p).length = (l.filter (fun x => p (f x))).length := by
  rw [List.filter_map, List.length_map]
  rfl
end Fo
namespace Fo
open PySem PySem.Spec PyProof.Rows L2
theorem pos_ord {n : Nat} {xs : List Int} (o : IsOrd n xs) : IsOrd n ((rg n).map (pos xs)) := by
  have h : ((rg n).map (pos xs)).Perm (seatsL xs xs) := List.Perm.map _ o.symm
  rw [seats_self o] at h
  exact h
theorem pos_in {n : Nat} {xs : List Int} (o : IsOrd n xs) {t : Int} (h : t ∈ rg n) : pos xs t ∈ rg n := by
  have := (pos_ord o).mem (List.mem_map.mpr ⟨t, h, rfl⟩)
  exact rg_mem.mpr this
theorem pos_inj {n : Nat} {xs : List Int} (o : IsOrd n xs) {t u : Int} (ht : t ∈ rg n) (hu : u ∈ rg n) (e : pos xs t = pos xs u) : t = u := by
  have h1 := rg_mem.mp ht
  have h2 := rg_mem.mp hu
  obtain ⟨i, _, ei, pi⟩ := pos_at o h1.1 h1.2
  obtain ⟨j, _, ej, pj⟩ := pos_at o h2.1 h2.2
  have : i = j := by omega
  subst this
  exact Option.some.inj (ei.symm.trans ej)
/-- a sum over the places is a sum over the things -/
theorem sum_pos {n : Nat} {xs : List Int} (o : IsOrd n xs) (f : Int → Nat) : sumN (rg n) f = sumN (rg n) fun t => f (pos xs t) := by
  have e : sumN ((rg n).map (pos xs)) f = sumN (rg n) fun t => f (pos xs t) := sumN_map _ _ _
  rw [← e]
  exact (sumN_perm (pos_ord o) f).symm
theorem sum_g0 {n : Nat} {xs : List Int} (o : IsOrd n xs) (f : Int → Nat) : sumN (rg n) f = sumN (rg n) fun p => f (g0 xs p) := by
  have e : sumN ((rg n).map (g0 xs)) f = sumN (rg n) fun t => f (g0 xs t) := sumN_map _ _ _
  rw [← e, ← g0_ord o]
  exact (sumN_perm o f).symm
theorem g0_pos {n : Nat} {xs : List Int} (o : IsOrd n xs) {t : Int} (h : t ∈ rg n) : g0 xs (pos xs t) = t := by
  have h1 := rg_mem.mp h
  obtain ⟨j, _, ej, pj⟩ := pos_at o h1.1 h1.2
  rw [pj]
  exact g0_at ej
theorem pos_g0 {n : Nat} {xs : List Int} (o : IsOrd n xs) {p : Int} (h : p ∈ rg n) : pos xs (g0 xs p) = p := by
  have h1 := rg_mem.mp h
  obtain ⟨x, hx, _⟩ := ord_ix o (j := p.toNat) (by omega)
  have e := g0_at hx
  rw [Int.toNat_of_nonneg h1.1] at e
  rw [e, pos_of o hx]
  omega
theorem g0_in {n : Nat} {xs : List Int} (o : IsOrd n xs) {p : Int} (h : p ∈ rg n) : g0 xs p ∈ rg n := by
  have h1 := rg_mem.mp h
  obtain ⟨x, hx, x0, x1⟩ := ord_ix o (j := p.toNat) (by omega)
  have e := g0_at hx
  rw [Int.toNat_of_nonneg h1.1] at e
  rw [e]
  exact rg_mem.mpr ⟨x0, x1⟩
end Fo
namespace Fo
open PySem PySem.Spec PyProof.Rows L2
/-! ### all orders of few things -/
def extO (n : Nat) (o : List Int) : List (List Int) := ((rg n).filter fun t => !decide (t ∈ o)).map fun t => o ++ [t]
def allK (n : Nat) : Nat → List (List Int)
  | 0 => [[]]
  | k + 1 => (allK n k).flatMap (extO n)
theorem allK_row {n : Nat} : ∀ (k : Nat) (r : List Int), r ∈ allK n k → r.length = k ∧ r.Nodup ∧ ∀ x ∈ r, x ∈ rg n
  | 0, r, h => by
    rw [List.mem_singleton.mp h]
    exact ⟨rfl, List.nodup_nil, fun x hx => absurd hx List.not_mem_nil⟩
  | k + 1, r, h => by
    obtain ⟨o, ho, hr⟩ := List.mem_flatMap.mp h
    obtain ⟨h1, h2, h3⟩ := allK_row k o ho
    obtain ⟨t, ht, rfl⟩ := List.mem_map.mp hr
    obtain ⟨ht1, ht2⟩ := List.mem_filter.mp ht
    have hto : t ∉ o := by simpa using ht2
    refine ⟨by rw [List.length_append, h1]; rfl, ?_, fun x hx => ?_⟩
    · rw [List.nodup_append]
      refine ⟨h2, List.nodup_cons.mpr ⟨List.not_mem_nil, List.nodup_nil⟩, fun x hx y hy e => ?_⟩
      rw [List.mem_singleton.mp hy] at e
      exact hto (by rw [← e]; exact hx)
    · rcases List.mem_append.mp hx with hx | hx
      · exact h3 x hx
      · rw [List.mem_singleton.mp hx]
        exact ht1
theorem extO_len (n : Nat) (o : List Int) : (extO n o).length ≤ n := by
  unfold extO
  rw [List.length_map]
  have := List.length_filter_le (fun t => !decide (t ∈ o)) (rg n)
  rw [rg_len] at this
  exact this
theorem flat_len (n : Nat) : ∀ l : List (List Int), (l.flatMap (extO n)).length ≤ l.length * n
  | [] => Nat.zero_le _
  | o :: l => by
    rw [List.flatMap_cons, List.length_append, List.length_cons, Nat.add_mul, Nat.one_mul]
    have := flat_len n l
    have := extO_len n o
    omega
theorem allK_len {n : Nat} (hn : n ≤ 6) : ∀ k, k ≤ n → (allK n k).length ≤ 6 ^ k
  | 0, _ => Nat.le_refl _
  | k + 1, hk => by
    have ih := allK_len hn k (by omega)
    have h1 : (allK n (k + 1)).length ≤ (allK n k).length * n := flat_len n (allK n k)
    have h2 : (allK n k).length * n ≤ 6 ^ k * 6 := Nat.mul_le_mul ih hn
    rw [Nat.pow_succ]
    omega
theorem pow6 {k : Nat} (h : k ≤ 6) : 6 ^ k ≤ 46656 := by
  have : 6 ^ k ≤ 6 ^ 6 := Nat.pow_le_pow_right (by decide) h
  exact this
theorem nodup_count : ∀ {l : List Int}, l.Nodup → ∀ a, l.count a = if a ∈ l then 1 else 0
  | [], _, a => by simp
  | b :: l, h, a => by
    obtain ⟨h1, h2⟩ := List.nodup_cons.mp h
    have ih := nodup_count h2 a
    rw [List.count_cons, ih]
    by_cases c : b = a
    · subst c
      simp [h1]
    · have c2 : ¬ a = b := fun e => c e.symm
      simp [c, c2]
theorem nodup_ord {n : Nat} {s : List Int} (hl : s.length = n) (hn : s.Nodup) (hb : ∀ x ∈ s, x ∈ rg n) : IsOrd n s := by
  unfold IsOrd
  rw [List.perm_iff_count]
  intro a
  rw [nodup_count hn, nodup_count (rg_nodup n)]
  by_cases c : a ∈ s
  · rw [if_pos c, if_pos (hb a c)]
  · rw [if_neg c]
    by_cases d : a ∈ rg n
    · exfalso
      have := nodup_len (l := a :: s) (m := rg n) (List.nodup_cons.mpr ⟨c, hn⟩) fun x hx => by
        rcases List.mem_cons.mp hx with rfl | hx
        · exact d
        · exact hb x hx
      rw [List.length_cons, rg_len] at this
      omega
    · rw [if_neg d]
theorem all_ord {n : Nat} {r : List Int} (h : r ∈ allK n n) : IsOrd n r := by
  obtain ⟨h1, h2, h3⟩ := allK_row n r h
  exact nodup_ord h1 h2 h3
theorem inV_int (t : Int) : ∀ row : List Int, inV (.int t) (row.map V.int) = decide (t ∈ row)
  | [] => rfl
  | a :: r => by
    have ih := inV_int t r
    unfold inV at ih ⊢
    rw [List.map_cons, List.any_cons, ih, eqV_int]
    by_cases c : a = t
    · subst c
      simp
    · have c2 : ¬ t = a := fun e => c e.symm
      simp [c, c2]
theorem ext_more {n : Nat} {o : List Int} (j : Nat) : ((rg (j + 1)).filter fun t => !decide (t ∈ o)).map (fun t => o ++ [t]) = (((rg j).filter fun t => !decide (t ∈ o)).map fun t => o ++ [t]) ++ (if (j : Int) ∈ o then [] else [o ++ [(j : Int)]]) := by
  rw [rg_succ, List.filter_append, List.map_append, List.filter_cons]
  congr 1
  by_cases c : (j : Int) ∈ o
  · rw [decide_eq_true c, if_pos c]
    rfl
  · rw [decide_eq_false c, if_neg c]
    rfl
/-! ### comprehensions with two fors: a list, then a range -/
theorem lc2_list {K : PySem.W.Frag} {a : Addr} {xs : List V} {g : TG} {tt : TT} {wi1 : TI} {g1 : TG} {tt1 : TT} {te : TE} {vs vs1 : List Nat} {σ : L2.St} {H1 : Hp} {D : Addr} {Qd : Hp → Prop} (Pv : Nat → Hp → Prop) (h0 : Pv 0 (upd H1 D (.lst []))) (hl : ∀ i H, i ≤ xs.length → Pv i H → SqL K H a xs)
    (hs : ∀ i x H, xs[i]? = some x → Pv i H → g x (wipe σ vs) H fun σ2 H2 => wipe σ2 vs = wipe σ vs ∧ tt σ2 H2 fun b H3 =>
      if b = true then wi1 σ2 H3 fun J1 H4 => ∃ W1 : Nat → Nat → Hp → Prop, (∃ m, W1 0 m H4) ∧ ∀ j k H, W1 j k H →
        (J1.stop j H ∧ Pv (i + 1) H) ∨ (J1.go j H ∧ ∃ Nx1 : Hp → Prop, (∀ H', Nx1 H' → ∃ k', k' < k ∧ W1 (j + 1) k' H') ∧ ∀ x H', J1.yld j H x H' → g1 x (wipe σ2 vs1) H' fun σ3 H5 => wipe σ3 vs1 = wipe σ2 vs1 ∧ tt1 σ3 H5 fun b H6 =>
          if b = true then te σ3 H6 fun y H7 => ∃ acc, H7 D = some (.lst acc) ∧ acc.length < sizeLine ∧ Nx1 (upd H7 D (.lst (acc ++ [y]))) else Nx1 H6)
      else Pv (i + 1) H3) (hd : ∀ H, Pv xs.length H → Qd H) :
    ∃ W : Nat → Nat → Hp → Prop, (∃ m, W 0 m (upd H1 D (.lst []))) ∧ ∀ i m H, W i m H →
      ((Itl K a).stop i H ∧ Qd H) ∨ ((Itl K a).go i H ∧ ∃ Nx : Hp → Prop, (∀ H', Nx H' → ∃ m', m' < m ∧ W (i + 1) m' H') ∧ ∀ x H', (Itl K a).yld i H x H' → g x (wipe σ vs) H' fun σ2 H2 => wipe σ2 vs = wipe σ vs ∧ tt σ2 H2 fun b H3 =>
        if b = true then wi1 σ2 H3 fun J1 H4 => ∃ W1 : Nat → Nat → Hp → Prop, (∃ m, W1 0 m H4) ∧ ∀ j k H, W1 j k H →
          (J1.stop j H ∧ Nx H) ∨ (J1.go j H ∧ ∃ Nx1 : Hp → Prop, (∀ H', Nx1 H' → ∃ k', k' < k ∧ W1 (j + 1) k' H') ∧ ∀ x H', J1.yld j H x H' → g1 x (wipe σ2 vs1) H' fun σ3 H5 => wipe σ3 vs1 = wipe σ2 vs1 ∧ tt1 σ3 H5 fun b H6 =>
            if b = true then te σ3 H6 fun y H7 => ∃ acc, H7 D = some (.lst acc) ∧ acc.length < sizeLine ∧ Nx1 (upd H7 D (.lst (acc ++ [y]))) else Nx1 H6)
        else Nx H3) := by
  refine ⟨fun i m H => m = xs.length - i ∧ i ≤ xs.length ∧ Pv i H, ⟨xs.length, by simp, Nat.zero_le _, h0⟩, ?_⟩
  rintro i m H ⟨rfl, hi, p⟩
  have q := hl i H hi p
  by_cases hlt : i < xs.length
  · refine .inr ⟨⟨xs, xs[i], q, by simp [hlt]⟩, Pv (i + 1), fun H' p' => ⟨xs.length - (i + 1), by omega, rfl, hlt, p'⟩, fun x H' y => ?_⟩
    obtain ⟨e, y⟩ := y
    subst e
    exact hs i x _ (y _ q) p
  · have e : i = xs.length := by omega
    subst e
    exact .inl ⟨⟨xs, q, Nat.le_refl _⟩, hd H p⟩
theorem in_range {lo : Int} {n : Nat} {g1 : TG} {tt1 : TT} {te : TE} {vs1 : List Nat} {σ2 : L2.St} {H4 : Hp} {D : Addr} {Nx : Hp → Prop} (Pw : Nat → Hp → Prop) (h0 : Pw 0 H4)
    (hs : ∀ j H, j < n → Pw j H → g1 (.int (lo + j)) (wipe σ2 vs1) H fun σ3 H5 => wipe σ3 vs1 = wipe σ2 vs1 ∧ tt1 σ3 H5 fun b H6 =>
      if b = true then te σ3 H6 fun y H7 => ∃ acc, H7 D = some (.lst acc) ∧ acc.length < sizeLine ∧ Pw (j + 1) (upd H7 D (.lst (acc ++ [y]))) else Pw (j + 1) H6) (hd : ∀ H, Pw n H → Nx H) :
    ∃ W1 : Nat → Nat → Hp → Prop, (∃ m, W1 0 m H4) ∧ ∀ j k H, W1 j k H →
      ((Itr lo n).stop j H ∧ Nx H) ∨ ((Itr lo n).go j H ∧ ∃ Nx1 : Hp → Prop, (∀ H', Nx1 H' → ∃ k', k' < k ∧ W1 (j + 1) k' H') ∧ ∀ x H', (Itr lo n).yld j H x H' → g1 x (wipe σ2 vs1) H' fun σ3 H5 => wipe σ3 vs1 = wipe σ2 vs1 ∧ tt1 σ3 H5 fun b H6 =>
        if b = true then te σ3 H6 fun y H7 => ∃ acc, H7 D = some (.lst acc) ∧ acc.length < sizeLine ∧ Nx1 (upd H7 D (.lst (acc ++ [y]))) else Nx1 H6) := by
  refine ⟨fun j m H => m = n - j ∧ j ≤ n ∧ Pw j H, ⟨n, by simp, Nat.zero_le _, h0⟩, ?_⟩
  rintro j m H ⟨rfl, hi, p⟩
  by_cases hlt : j < n
  · refine .inr ⟨hlt, Pw (j + 1), fun H' p' => ⟨n - (j + 1), by omega, rfl, hlt, p'⟩, fun x H' y => ?_⟩
    obtain ⟨e, y⟩ := y
    subst e y
    exact hs j _ hlt p
  · have e : j = n := by omega
    subst e
    exact .inl ⟨Nat.le_refl _, hd H p⟩
end Fo
namespace Fo
open PySem PySem.Spec PyProof.Rows L2
abbrev rMax2 : List V → Hp → VK → Prop := fun xs H Q => ∃ i j, xs = [.int i, .int j] ∧ Q (.int (if j > i then j else i)) H
abbrev rMin2 : List V → Hp → VK → Prop := fun xs H Q => ∃ i j, xs = [.int i, .int j] ∧ Q (.int (if j < i then j else i)) H
abbrev rInt1 : List V → Hp → VK → Prop := fun xs H Q => (∃ i, xs = [.int i] ∧ Q (.int i) H) ∨ ∃ k, xs = [.bl k] ∧ Q (.int (if k then 1 else 0)) H
theorem filter_more {l : List Int} {m : Nat} {x : Int} (p : Int → Bool) (h : l[m]? = some x) : (l.take (m + 1)).filter p = (l.take m).filter p ++ (if p x then [x] else []) := by
  rw [List.take_add_one, h, List.filter_append]
  show _ ++ List.filter p [x] = _
  rw [List.filter_cons]
  rfl
end Fo
namespace Fo
open PySem PySem.Spec PyProof.Rows L2
def spWhole : Sp := fun vs H Q _ => ∃ i : Int, vs = [.int i] ∧ Q (.bl true) H
section
variable {P : Program} {w : World} {K : PySem.W.Frag} {mg : Str → Option Value} {base : Heap}
theorem scWhole : FnScope ["thing"] ["thing"] (defScope s_is_whole) := ⟨rfl, rfl, rfl, by decide +kernel, rfl, by decide +kernel, by decide +kernel⟩
theorem ok_whole {f : Addr} {fd : FuncData} {k : Nat} (T : Df K mg "is_whole" s_is_whole ["thing"] f fd) (B : Bi mg) : FnOk P w K mg base CX0 (k + 1) f fd ["thing"] spWhole := by
  refine T.F.ok scWhole (fun vs H Q E h => ?_) (fun cdv A outer s H vs Q E hr h => ?_)
  · obtain ⟨i, rfl, _⟩ := h
    rfl
  · obtain ⟨i, rfl, q⟩ := h
    refine ⟨_, pss_one (ps_ret (pe_and (pe_callB call_isi (by rfl) B.isinstance (by decide +kernel) (pa_cons (pv 0) (pa_cons (pe_bltn (v := .ty "int") (by rfl) B.int (by decide +kernel) rfl) pa_nil)))
      (pe_one (pe_not (pe_callB call_isi (by rfl) B.isinstance (by decide +kernel) (pa_cons (pv 0) (pa_cons (pe_bltn (v := .ty "bool") (by rfl) B.bool (by decide +kernel) rfl) pa_nil))))))), ?_⟩
    refine ⟨_, rfl, _, _, _, _, true, rfl, .ty _, .base (.int _), kit_ty (by decide +kernel), true, rfl, iteT ?_⟩
    exact ⟨_, rfl, _, _, _, _, false, rfl, .ty _, .base (.int _), kit_ty (by decide +kernel), false, rfl, q⟩
end
end Fo
namespace Fo
open PySem PySem.Spec PyProof.Rows L2
def IsWay (w : Str) : Prop := w = "swap" ∨ w = "spot" ∨ w = "shift"
theorem n1 : ¬ (("spot" : Str) = "swap") := by decide +kernel
theorem n2 : ¬ (("shift" : Str) = "swap") := by decide +kernel
theorem n3 : ¬ (("shift" : Str) = "spot") := by decide +kernel
/-- the ways as the top has written them -/
structure Wy (K : PySem.W.Frag) (mg : Str → Option Value) (aW : Addr) : Prop where
  g : mg "WAYS" = some (.ref aW)
  t : ∀ H : Hp, SqT K H aW [.str "swap", .str "spot", .str "shift"]
theorem wy_mk {K : PySem.W.Frag} {mg : Str → Option Value} {aW : Addr} {dd : Option Addr} {n : Nat} {t1 t2 t3 : Tok} {sl : Array (Option Value)} (g : mg "WAYS" = some (.ref aW)) (l : K.lookup aW = some ⟨.type "tuple", dd, .seq #[.str "swap" t1, .str "spot" t2, .str "shift" t3] n, sl⟩) : Wy K mg aW :=
  ⟨g, fun H => .inr ⟨_, _, _, l, rfl, rfl, line_small (by show 3 ≤ 16777216; decide), .cons ⟨_, rfl⟩ (.cons ⟨_, rfl⟩ (.cons ⟨_, rfl⟩ .nil))⟩⟩
def spWay : Sp := fun vs H Q _ => ∃ (w : Str), vs = [.str w] ∧ IsWay w ∧ Q .non H
section
variable {P : Program} {w : World} {K : PySem.W.Frag} {mg : Str → Option Value} {base : Heap}
theorem scWay : FnScope ["thing"] ["thing"] (defScope s_check_way) := ⟨rfl, rfl, rfl, by decide +kernel, rfl, by decide +kernel, by decide +kernel⟩
theorem ok_way {f aW : Addr} {fd : FuncData} {k : Nat} (T : Df K mg "check_way" s_check_way ["thing"] f fd) (W : Wy K mg aW) (B : Bi mg) : FnOk P w K mg base CX0 (k + 1) f fd ["thing"] spWay := by
  refine T.F.ok scWay (fun vs H Q E h => ?_) (fun cdv A outer s H vs Q E hr h => ?_)
  · obtain ⟨z, rfl, _⟩ := h
    rfl
  · obtain ⟨z, rfl, hz, q⟩ := h
    refine ⟨_, 
      (pss_one (ps_if (PW.pt (pw_or (pt_not (pt_val (pe_callB call_isi (by rfl) B.isinstance (by decide +kernel) (pa_cons (pv 0) (pa_cons (pe_bltn (v := .ty "str") (by rfl) B.str (by decide +kernel) rfl) pa_nil))))) (pw_or1 (pt_cmpR op_notIn_seq (pv 0) (pe_glob (v := .ref aW) (by rfl) W.g rfl) (by rfl)))))
        (pss_one ps_never)
        pss_nil)), ?_⟩
    refine ⟨_, rfl, _, _, _, _, true, rfl, .ty _, .base (.str _), kit_ty (by decide +kernel), true, rfl, iteF ?_⟩
    rcases hz with rfl | rfl | rfl
    · exact ⟨_, rfl, aW, _, rfl, .inr (W.t H), rfl, rfl, _, rfl, ite2 (fun c => absurd c (by decide +kernel)) (fun _ => q)⟩
    · exact ⟨_, rfl, aW, _, rfl, .inr (W.t H), rfl, rfl, _, rfl, ite2 (fun c => absurd c (by decide +kernel)) (fun _ => q)⟩
    · exact ⟨_, rfl, aW, _, rfl, .inr (W.t H), rfl, rfl, _, rfl, ite2 (fun c => absurd c (by decide +kernel)) (fun _ => q)⟩
end
end Fo
namespace Fo
open PySem PySem.Spec PyProof.Rows L2
def farW (w : Str) (xs ys : List Int) : Int := if w = "swap" then farSwap xs ys else if w = "spot" then farSpot xs ys else farShift xs ys
theorem farW_swap (xs ys : List Int) : farW "swap" xs ys = farSwap xs ys := if_pos rfl
theorem farW_spot (xs ys : List Int) : farW "spot" xs ys = farSpot xs ys := by
  unfold farW
  rw [if_neg n1, if_pos rfl]
theorem farW_shift (xs ys : List Int) : farW "shift" xs ys = farShift xs ys := by
  unfold farW
  rw [if_neg n2, if_neg n3]
theorem farW_turn {w : Str} {n : Nat} {xs ys : List Int} (ox : IsOrd n xs) (oy : IsOrd n ys) (hn : 1 ≤ n) : farW w ys xs = farW w xs ys := by
  unfold farW
  rw [farSwap_turn ox oy, farSpot_turn (by rw [ox.len, oy.len]), farShift_turn ox oy hn]
theorem farW_self {w : Str} {n : Nat} {xs : List Int} (ox : IsOrd n xs) (hn : 1 ≤ n) : farW w xs xs = 0 := by
  unfold farW
  rw [farSwap_self ox, farSpot_self, farShift_self ox hn]
  split
  · rfl
  · split <;> rfl
abbrev rAbs : List V → Hp → VK → Prop := fun xs H Q => ∃ i, xs = [.int i] ∧ Q (.int (if i < 0 then -i else i)) H
def spFar : Sp := fun vs H Q _ => ∃ (w : Str) (a b : Addr) (n : Nat) (xs ys : List Int), vs = [.str w, .ref a, .ref b] ∧ IsWay w ∧ H a = some (.lst (xs.map V.int)) ∧ H b = some (.lst (ys.map V.int)) ∧ IsOrd n xs ∧ IsOrd n ys ∧ 1 ≤ n ∧ n ≤ 12 ∧ ∀ (H' : Hp), Same H H' → Q (.int (farW w xs ys)) H'
end Fo
namespace Fo
open PySem PySem.Spec PyProof.Rows L2
/-! ### counts of orders, as the program reckons them -/
def addAt (l : List Int) (i : Nat) (v : Int) : List Int := l.set i (l.getD i 0 + v)
def swIn (m : Int) (far : Nat) : Nat → List Int → List Int
  | 0, l => l
  | p + 1, l => addAt (swIn m far p l) (far + p) m
def swOut (c : List Int) (b : Nat) : Nat → List Int
  | 0 => List.replicate (c.length + b) 0
  | i + 1 => swIn (c.getD i 0) i (b + 1) (swOut c b i)
def swNext (c : List Int) (b : Nat) : List Int := swOut c b c.length
def swC : Nat → List Int
  | 0 => [1]
  | k + 1 => swNext (swC k) (k + 1)
theorem addAt_len (l : List Int) (i : Nat) (v : Int) : (addAt l i v).length = l.length := List.length_set
theorem swIn_len (m : Int) (far : Nat) : ∀ (p : Nat) (l : List Int), (swIn m far p l).length = l.length
  | 0, _ => rfl
  | p + 1, l => by rw [swIn, addAt_len, swIn_len m far p l]
theorem swOut_len (c : List Int) (b : Nat) : ∀ i : Nat, (swOut c b i).length = c.length + b
  | 0 => List.length_replicate
  | i + 1 => by rw [swOut, swIn_len, swOut_len c b i]
def triN : Nat → Nat
  | 0 => 0
  | k + 1 => triN k + (k + 1)
theorem swC_len : ∀ k : Nat, (swC k).length = 1 + triN k
  | 0 => rfl
  | k + 1 => by
    show (swOut (swC k) (k + 1) (swC k).length).length = 1 + (triN k + (k + 1))
    rw [swOut_len, swC_len k]
    omega
theorem tri_le : ∀ k : Nat, k < 12 → triN k ≤ 66 ∧ triN k < (k + 1) * (k + 1) := by decide
theorem swC_good : ∀ k : Nat, k < 12 → (swC k).all (fun x => decide (0 ≤ x)) = true ∧ (swC k).head? = some 1 ∧ (swC k).sum ≤ 479001600 := by decide +kernel
/-! by places -/
def chN (n : Nat) : Nat → Int
  | 0 => 1
  | r + 1 => chN n r * ((n : Int) - r) / (r + 1)
def mvN : Nat → Int × Int
  | 0 => (1, 1)
  | k + 1 => ((mvN k).1 * (k + 1) + -(mvN k).2, -(mvN k).2)
def spC (n : Nat) : List Int := (List.range (n + 1)).map fun r => chN n r * (mvN r).1
theorem ch_small : ∀ n : Nat, n < 13 → ∀ r : Nat, r < 14 → 0 ≤ chN n r ∧ chN n r ≤ 1000 := by decide +kernel
theorem mv_small : ∀ n : Nat, n < 13 → 0 ≤ (mvN n).1 ∧ (mvN n).1 ≤ 479001600 ∧ -1 ≤ (mvN n).2 ∧ (mvN n).2 ≤ 1 := by decide +kernel
theorem spC_good : ∀ n : Nat, n < 13 → (spC n).all (fun x => decide (0 ≤ x)) = true ∧ (spC n).head? = some 1 ∧ (spC n).sum ≤ 479001600 := by decide +kernel
def facN : Nat → Int
  | 0 => 1
  | k + 1 => facN k * (k + 1)
theorem fac_small : ∀ n : Nat, n < 13 → 0 < facN n ∧ facN n ≤ 479001600 := by decide +kernel
def noneN : Nat → List Int
  | 0 => [1, 0]
  | k + 1 => noneN k ++ [((k : Int) + 2 - 1) * ((noneN k).getD (k + 1) 0 + (noneN k).getD k 0)]
theorem spC_law : ∀ n : Nat, n < 13 → spC n = (List.range (n + 1)).map fun r => facN n / facN r / facN (n - r) * (noneN (n - 1)).getD r 0 := by decide +kernel
theorem noneN_len : ∀ k : Nat, (noneN k).length = k + 2
  | 0 => rfl
  | k + 1 => by
    rw [noneN, List.length_append, noneN_len k]
    rfl
theorem noneN_small : ∀ k : Nat, k < 12 → (noneN k).all (fun x => decide (0 ≤ x) && decide (x ≤ 479001600)) = true := by decide +kernel
/-- the sum of a beginning of good counts -/
theorem sum_nonneg : ∀ l : List Int, l.all (fun x => decide (0 ≤ x)) = true → 0 ≤ l.sum
  | [], _ => Int.le_refl _
  | a :: l, h => by
    rw [List.all_cons, Bool.and_eq_true] at h
    have := of_decide_eq_true h.1
    have := sum_nonneg l h.2
    rw [List.sum_cons]
    omega
theorem sum_take {l : List Int} {k : Nat} (h : l.all (fun x => decide (0 ≤ x)) = true) (h1 : l.head? = some 1) (hk : 0 < k) : 1 ≤ (l.take k).sum ∧ (l.take k).sum ≤ l.sum := by
  match l, h1, k, hk with
  | a :: r, h1, k + 1, _ =>
    have e : a = 1 := Option.some.inj h1
    subst e
    rw [List.all_cons, Bool.and_eq_true] at h
    rw [List.take_succ_cons, List.sum_cons, List.sum_cons]
    have hs : (r.take k).sum + (r.drop k).sum = r.sum := by rw [← List.sum_append, List.take_append_drop]
    have h2 := h.2
    rw [← List.take_append_drop k r, List.all_append, Bool.and_eq_true] at h2
    have := sum_nonneg _ h2.1
    have := sum_nonneg _ h2.2
    omega
end Fo
namespace Fo
open PySem PySem.Spec PyProof.Rows L2
/-! ### counts by shift: beginnings by the set of their things -/
def lookN (l : List (Nat × Int)) (k : Nat) : Int := ((l.find? fun p => decide (p.1 = k)).map (·.2)).getD 0
def putN (l : List (Nat × Int)) (k : Nat) (v : Int) : List (Nat × Int) := if l.any (fun p => decide (p.1 = k)) then l.map (fun p => if p.1 = k then (p.1, v) else p) else l ++ [(k, v)]
def keysN (l : List (Nat × Int)) : List Nat := l.map (·.1)
def totN (l : List (Nat × Int)) : Int := (l.map (·.2)).sum
def stIn (u : Nat) (m : Int) (lo : Nat) : Nat → List (Nat × Int) → List (Nat × Int)
  | 0, l => l
  | j + 1, l => if u.testBit (lo + j) then stIn u m lo j l else putN (stIn u m lo j l) (u + 2 ^ (lo + j)) (lookN (stIn u m lo j l) (u + 2 ^ (lo + j)) + m)
def stOut (d : List (Nat × Int)) (lo c : Nat) : Nat → List (Nat × Int)
  | 0 => []
  | i + 1 => stIn (d.getD i (0, 0)).1 (d.getD i (0, 0)).2 lo c (stOut d lo c i)
def loP (p : Nat) (r : Int) : Nat := (max 0 ((p : Int) - r)).toNat
def ctP (n p : Nat) (r : Int) : Nat := (min (n : Int) ((p : Int) + r + 1)).toNat - loP p r
def shD (n : Nat) (r : Int) : Nat → List (Nat × Int)
  | 0 => [(0, 1)]
  | p + 1 => stOut (shD n r p) (loP p r) (ctP n p r) (shD n r p).length
def shN (n : Nat) (r : Int) : Int := totN (shD n r n)
theorem any_keys (l : List (Nat × Int)) (k : Nat) : l.any (fun p => decide (p.1 = k)) = decide (k ∈ keysN l) := by
  induction l with
  | nil => rfl
  | cons p l ih =>
    rw [List.any_cons, ih]
    unfold keysN
    rw [List.map_cons]
    by_cases c : p.1 = k
    · subst c; simp
    · have c2 : ¬ k = p.1 := fun e => c e.symm
      simp [c, c2]
theorem put_keys (l : List (Nat × Int)) (k : Nat) (v : Int) : keysN (putN l k v) = if k ∈ keysN l then keysN l else keysN l ++ [k] := by
  unfold putN
  rw [any_keys]
  by_cases c : k ∈ keysN l
  · rw [decide_eq_true c, if_pos rfl, if_pos c]
    unfold keysN
    rw [List.map_map]
    apply List.map_congr_left
    intro p _
    show (if p.1 = k then (p.1, v) else p).1 = p.1
    split <;> rfl
  · rw [decide_eq_false c, if_neg (by decide), if_neg c]
    unfold keysN
    rw [List.map_append]
    rfl
theorem put_nodup {l : List (Nat × Int)} {k : Nat} {v : Int} (h : (keysN l).Nodup) : (keysN (putN l k v)).Nodup := by
  rw [put_keys]
  split
  · exact h
  · rename_i c
    rw [List.nodup_append]
    refine ⟨h, List.nodup_cons.mpr ⟨List.not_mem_nil, List.nodup_nil⟩, fun x hx y hy e => ?_⟩
    rw [List.mem_singleton.mp hy] at e
    exact c (by rw [← e]; exact hx)
theorem put_mem {l : List (Nat × Int)} {k x : Nat} {v : Int} : x ∈ keysN (putN l k v) ↔ x ∈ keysN l ∨ x = k := by
  rw [put_keys]
  split
  · rename_i c
    exact ⟨.inl, fun h => h.elim id fun e => by rw [e]; exact c⟩
  · rw [List.mem_append, List.mem_singleton]
theorem look_cons (p : Nat × Int) (l : List (Nat × Int)) (k : Nat) : lookN (p :: l) k = if p.1 = k then p.2 else lookN l k := by
  unfold lookN
  rw [List.find?_cons]
  by_cases c : p.1 = k
  · rw [decide_eq_true c, if_pos c]; rfl
  · rw [decide_eq_false c, if_neg c]
theorem put_cons (p : Nat × Int) (l : List (Nat × Int)) (k : Nat) (v : Int) (hn : (keysN (p :: l)).Nodup) : putN (p :: l) k v = if p.1 = k then (p.1, v) :: l else p :: putN l k v := by
  by_cases c : p.1 = k
  · rw [if_pos c]
    unfold putN
    rw [List.any_cons, decide_eq_true c, Bool.true_or, if_pos rfl, List.map_cons, if_pos c]
    congr 1
    have e : l.map (fun p => if p.1 = k then (p.1, v) else p) = l.map id := by
      apply List.map_congr_left
      intro q hq
      have : q.1 ≠ k := fun e => (List.nodup_cons.mp hn).1 (by
        show p.1 ∈ keysN l
        rw [c, ← e]
        exact List.mem_map.mpr ⟨q, hq, rfl⟩)
      rw [if_neg this]
      rfl
    rw [e, List.map_id]
  · rw [if_neg c]
    unfold putN
    rw [List.any_cons, decide_eq_false c, Bool.false_or]
    by_cases d : (l.any fun p => decide (p.1 = k)) = true
    · rw [if_pos d, if_pos d, List.map_cons, if_neg c]
    · rw [if_neg d, if_neg d]
      rfl
theorem put_tot : ∀ (l : List (Nat × Int)) (k : Nat) (m : Int), (keysN l).Nodup → totN (putN l k (lookN l k + m)) = totN l + m
  | [], k, m, _ => by
    show 0 + m + 0 = 0 + m
    omega
  | p :: l, k, m, hn => by
    have ih := put_tot l k m (List.nodup_cons.mp hn).2
    rw [put_cons p l k _ hn, look_cons]
    unfold totN at ih ⊢
    by_cases c : p.1 = k
    · rw [if_pos c, if_pos c, List.map_cons, List.map_cons, List.sum_cons, List.sum_cons]
      omega
    · rw [if_neg c, if_neg c, List.map_cons, List.map_cons, List.sum_cons, List.sum_cons, ih]
      omega
def PosN (l : List (Nat × Int)) : Prop := ∀ p ∈ l, 0 < p.2
theorem look_nonneg {l : List (Nat × Int)} (h : PosN l) (k : Nat) : 0 ≤ lookN l k := by
  induction l with
  | nil => exact Int.le_refl _
  | cons p l ih =>
    rw [look_cons]
    split
    · have := h p List.mem_cons_self; omega
    · exact ih fun q hq => h q (List.mem_cons_of_mem _ hq)
theorem put_pos {l : List (Nat × Int)} (h : PosN l) {k : Nat} {v : Int} (hv : 0 < v) : PosN (putN l k v) := by
  intro p hp
  unfold putN at hp
  split at hp
  · obtain ⟨q, hq, e⟩ := List.mem_map.mp hp
    rw [← e]
    split
    · exact hv
    · exact h q hq
  · rcases List.mem_append.mp hp with hp | hp
    · exact h p hp
    · rw [List.mem_singleton.mp hp]
      exact hv
theorem nodupN_len : ∀ {l m : List Nat}, l.Nodup → (∀ x ∈ l, x ∈ m) → l.length ≤ m.length
  | [], m, _, _ => Nat.zero_le _
  | a :: l, m, hn, hs => by
    obtain ⟨h1, h2⟩ := List.nodup_cons.mp hn
    have ha := hs a List.mem_cons_self
    have ih := nodupN_len (l := l) (m := m.erase a) h2 fun x hx => by
      have ne : x ≠ a := fun e => h1 (by rw [← e]; exact hx)
      exact (List.mem_erase_of_ne ne).mpr (hs x (List.mem_cons_of_mem _ hx))
    rw [List.length_erase_of_mem ha] at ih
    have : 0 < m.length := List.length_pos_of_mem ha
    rw [List.length_cons]
    omega
/-- what holds of the beginnings: no key twice, keys below 2 ^ 12, each counted -/
structure GoodD (l : List (Nat × Int)) : Prop where
  nd : (keysN l).Nodup
  lt : ∀ k ∈ keysN l, k < 4096
  pos : PosN l
theorem GoodD.len {l : List (Nat × Int)} (h : GoodD l) : l.length ≤ 4096 := by
  have h1 : (keysN l).length ≤ (List.range 4096).length := by
    have hsub : ∀ x ∈ keysN l, x ∈ List.range 4096 := fun x hx => List.mem_range.mpr (h.lt x hx)
    exact nodupN_len h.nd hsub
  rw [List.length_range] at h1
  unfold keysN at h1
  rw [List.length_map] at h1
  exact h1
theorem bit_and {u t : Nat} (h : u.testBit t = false) : u &&& 2 ^ t = 0 := by
  apply Nat.eq_of_testBit_eq
  intro i
  rw [Nat.testBit_and, Nat.testBit_two_pow, Nat.zero_testBit]
  by_cases c : t = i
  · subst c; simp [h]
  · simp [c]
theorem bit_add {u t : Nat} (h : u.testBit t = false) (hu : u < 4096) (ht : t < 12) : u + 2 ^ t = u ||| 2 ^ t := by
  have e := bit_and h
  have h2 : 2 ^ t < 4096 := Nat.pow_lt_pow_right (n := 12) (by decide) ht
  have b := BitVec.add_eq_or_of_and_eq_zero (w := 13) (BitVec.ofNat 13 u) (BitVec.ofNat 13 (2 ^ t)) (by
    apply BitVec.eq_of_toNat_eq
    rw [BitVec.toNat_and, BitVec.toNat_ofNat, BitVec.toNat_ofNat, Nat.mod_eq_of_lt (by omega), Nat.mod_eq_of_lt (by omega), e]
    rfl)
  have c := congrArg BitVec.toNat b
  rw [BitVec.toNat_or, BitVec.toNat_add, BitVec.toNat_ofNat, BitVec.toNat_ofNat, Nat.mod_eq_of_lt (show u < 2 ^ 13 by omega), Nat.mod_eq_of_lt (show 2 ^ t < 2 ^ 13 by omega), Nat.mod_eq_of_lt (show u + 2 ^ t < 2 ^ 13 by omega)] at c
  exact c
theorem bit_lt {u t : Nat} (h : u.testBit t = false) (hu : u < 4096) (ht : t < 12) : u + 2 ^ t < 4096 := by
  rw [bit_add h hu ht]
  exact Nat.or_lt_two_pow (n := 12) hu (Nat.pow_lt_pow_right (by decide) ht)
theorem put_good {l : List (Nat × Int)} (h : GoodD l) {u t : Nat} {m : Int} (hb : u.testBit t = false) (hu : u < 4096) (ht : t < 12) (hm : 0 < m) : GoodD (putN l (u + 2 ^ t) (lookN l (u + 2 ^ t) + m)) :=
  ⟨put_nodup h.nd, fun k hk => (put_mem.mp hk).elim (h.lt k) fun e => by rw [e]; exact bit_lt hb hu ht, put_pos h.pos (by have := look_nonneg h.pos (u + 2 ^ t); omega)⟩
theorem stIn_good {u : Nat} {m : Int} {lo : Nat} (hu : u < 4096) (hm : 0 < m) : ∀ (j : Nat) (l : List (Nat × Int)), GoodD l → lo + j ≤ 12 → GoodD (stIn u m lo j l) ∧ totN (stIn u m lo j l) ≤ totN l + j * m ∧ (∀ k ∈ keysN l, k ∈ keysN (stIn u m lo j l)) ∧ ∀ i, i < j → u.testBit (lo + i) = false → u + 2 ^ (lo + i) ∈ keysN (stIn u m lo j l)
  | 0, l, h, _ => ⟨h, by show totN l ≤ totN l + 0 * m; omega, fun k hk => hk, fun i hi => absurd hi (Nat.not_lt_zero _)⟩
  | j + 1, l, h, hj => by
    obtain ⟨h1, h2, h3, h4⟩ := stIn_good (lo := lo) hu hm j l h (by omega)
    have em : ((j + 1 : Nat) : Int) * m = (j : Int) * m + m := by rw [Int.natCast_add, Int.add_mul]; omega
    rw [stIn]
    split
    · rename_i c
      refine ⟨h1, by omega, h3, fun i hi hb => ?_⟩
      by_cases e : i = j
      · subst e; rw [hb] at c; cases c
      · exact h4 i (by omega) hb
    · rename_i c
      have hb : u.testBit (lo + j) = false := by simpa using c
      refine ⟨put_good h1 hb hu (by omega) hm, by rw [put_tot _ _ _ h1.nd]; omega, fun k hk => put_mem.mpr (.inl (h3 k hk)), fun i hi hb2 => ?_⟩
      by_cases e : i = j
      · subst e; exact put_mem.mpr (.inr rfl)
      · exact put_mem.mpr (.inl (h4 i (by omega) hb2))
theorem getD_at {d : List (Nat × Int)} {i : Nat} (h : i < d.length) : d.getD i (0, 0) = d[i] := by
  rw [List.getD_eq_getElem?_getD, List.getElem?_eq_getElem h]
  rfl
theorem take_tot {d : List (Nat × Int)} {i : Nat} (h : i < d.length) : totN (d.take (i + 1)) = totN (d.take i) + (d.getD i (0, 0)).2 := by
  unfold totN
  rw [List.take_add_one, List.getElem?_eq_getElem h, List.map_append, List.sum_append, getD_at h]
  show _ + (d[i].2 + 0) = _
  omega
theorem stOut_good {d : List (Nat × Int)} {lo c : Nat} (hd : GoodD d) (hc : lo + c ≤ 12) : ∀ i, i ≤ d.length → GoodD (stOut d lo c i) ∧ totN (stOut d lo c i) ≤ 12 * totN (d.take i) ∧ ∀ j, j < i → ∀ t, t < c → (d.getD j (0, 0)).1.testBit (lo + t) = false → (d.getD j (0, 0)).1 + 2 ^ (lo + t) ∈ keysN (stOut d lo c i)
  | 0, _ => ⟨⟨List.nodup_nil, fun k hk => absurd hk List.not_mem_nil, fun p hp => absurd hp List.not_mem_nil⟩, by rw [List.take_zero]; show (0 : Int) ≤ 12 * 0; decide, fun j hj => absurd hj (Nat.not_lt_zero _)⟩
  | i + 1, hi => by
    obtain ⟨h1, h2, h3⟩ := stOut_good hd hc i (by omega)
    have hmem : d.getD i (0, 0) ∈ d := by rw [getD_at (by omega)]; exact List.getElem_mem _
    have hm := hd.pos _ hmem
    have hu := hd.lt _ (List.mem_map.mpr ⟨_, hmem, rfl⟩)
    obtain ⟨g1, g2, g3, g4⟩ := stIn_good (lo := lo) hu hm c (stOut d lo c i) h1 hc
    refine ⟨g1, ?_, fun j hj t ht hb => ?_⟩
    · rw [take_tot (by omega)]
      have h12 : (c : Int) * (d.getD i (0, 0)).2 ≤ 12 * (d.getD i (0, 0)).2 := Int.mul_le_mul_of_nonneg_right (by omega) (by omega)
      show totN (stIn _ _ _ _ _) ≤ _
      omega
    · by_cases e : j = i
      · subst e; exact g4 t ht hb
      · exact g3 _ (h3 j (by omega) t ht hb)
theorem lo_ct {n p : Nat} {r : Int} (hn : n ≤ 12) (hp : p < n) (hr : 0 ≤ r) : loP p r + ctP n p r ≤ 12 ∧ loP p r ≤ p ∧ p < loP p r + ctP n p r := by
  unfold ctP loP
  omega
theorem one_bits (p : Nat) : (2 ^ p - 1).testBit p = false ∧ 2 ^ p - 1 + 2 ^ p = 2 ^ (p + 1) - 1 := by
  refine ⟨by simp, ?_⟩
  rw [Nat.pow_succ]
  have := Nat.two_pow_pos p
  omega
theorem shD_good {n : Nat} {r : Int} (hn : n ≤ 12) (hr : 0 ≤ r) : ∀ p, p ≤ n → GoodD (shD n r p) ∧ totN (shD n r p) ≤ 12 ^ p ∧ 2 ^ p - 1 ∈ keysN (shD n r p)
  | 0, _ => ⟨⟨by show [0].Nodup; decide, by show ∀ k ∈ [0], k < 4096; decide, by intro p hp; rw [List.mem_singleton.mp hp]; decide⟩, by show (1 : Int) + 0 ≤ 12 ^ 0; decide, by show 0 ∈ [0]; decide⟩
  | p + 1, hp => by
    obtain ⟨h1, h2, h3⟩ := shD_good hn hr p (by omega)
    obtain ⟨l1, l2, l3⟩ := lo_ct (r := r) hn (show p < n by omega) hr
    obtain ⟨g1, g2, g3⟩ := stOut_good h1 l1 (shD n r p).length (Nat.le_refl _)
    rw [List.take_length] at g2
    refine ⟨g1, ?_, ?_⟩
    · show totN (stOut _ _ _ _) ≤ 12 ^ (p + 1)
      rw [Int.pow_succ]
      omega
    · obtain ⟨b1, b2⟩ := one_bits p
      obtain ⟨q, hq, eq⟩ := List.mem_map.mp h3
      obtain ⟨j, hj, ej⟩ := List.getElem_of_mem hq
      have e : (shD n r p).getD j (0, 0) = q := by rw [getD_at hj, ej]
      have := g3 j hj (p - loP p r) (by omega) (by rw [e, eq, show loP p r + (p - loP p r) = p by omega]; exact b1)
      rw [e, eq, show loP p r + (p - loP p r) = p by omega, b2] at this
      exact this
theorem tot_pos {l : List (Nat × Int)} (h : PosN l) (hl : l ≠ []) : 0 < totN l := by
  have nn : ∀ m : List (Nat × Int), PosN m → 0 ≤ totN m := by
    intro m
    induction m with
    | nil => intro _; exact Int.le_refl _
    | cons p m ih =>
      intro h
      have a := h p List.mem_cons_self
      have b := ih fun q hq => h q (List.mem_cons_of_mem _ hq)
      unfold totN at b ⊢
      rw [List.map_cons, List.sum_cons]
      omega
  match l, h, hl with
  | p :: l, h, _ =>
    have a := h p List.mem_cons_self
    have b := nn l fun q hq => h q (List.mem_cons_of_mem _ hq)
    unfold totN at b ⊢
    rw [List.map_cons, List.sum_cons]
    omega
theorem shN_good {n : Nat} {r : Int} (hn : n ≤ 12) (hr : 0 ≤ r) : 1 ≤ shN n r ∧ shN n r ≤ 8916100448256 := by
  obtain ⟨h1, h2, h3⟩ := shD_good hn hr n (Nat.le_refl _)
  have hne : shD n r n ≠ [] := fun e => by rw [e] at h3; cases h3
  have h4 := tot_pos h1.pos hne
  refine ⟨h4, Int.le_trans h2 ?_⟩
  have h5 : (12 : Nat) ^ n ≤ 12 ^ 12 := Nat.pow_le_pow_right (by decide) hn
  have h6 : (((12 : Nat) ^ n : Nat) : Int) ≤ ((12 ^ 12 : Nat) : Int) := Int.ofNat_le.mpr h5
  rw [Int.natCast_pow] at h6
  exact h6
/-- a reach beyond all is as n's own -/
theorem shD_far {n : Nat} {r : Int} (hr : (n : Int) ≤ r) : ∀ p, p ≤ n → shD n r p = shD n n p
  | 0, _ => rfl
  | p + 1, hp => by
    rw [shD, shD, shD_far hr p (by omega)]
    have e1 : loP p r = loP p n := by unfold loP; omega
    have e2 : ctP n p r = ctP n p n := by unfold ctP; rw [e1]; omega
    rw [e1, e2]
theorem shN_far {n : Nat} {r : Int} : shN n (min (n : Int) r) = shN n r := by
  unfold shN
  by_cases c : (n : Int) ≤ r
  · rw [shD_far c n (Nat.le_refl _), Int.min_eq_left c]
  · rw [Int.min_eq_right (by omega)]
end Fo
namespace Fo
open PySem PySem.Spec PyProof.Rows L2
/-! ### rules of my own: xs[i] op= e, sum(d.values()) -/
section
variable {X : Cx}
def rGetL (K : PySem.W.Frag) : V → V → Hp → VK → Prop := fun o i H Q => ∃ p xs k v, o = .ref p ∧ i = .int k ∧ SqL K H p xs ∧ 0 ≤ k ∧ atI xs k = some v ∧ Q v H
theorem get_list : PGet X (rGetL X.K) := by
  intro pins s σ H o i ov iv Q J ro ri hz
  obtain ⟨p, xs, k, v, eo, ei, sq, k0, at', q⟩ := hz
  subst eo ei
  cases ro
  obtain ⟨tk, ek⟩ := ri
  subst ek
  obtain ⟨its, rl, pl, hlen⟩ := J.list sq
  obtain ⟨j, a1, a2, a3, a4, a5⟩ := atI_get at'
  obtain ⟨u, eu, ru⟩ := rl.get a2
  have l1 := rl.length
  have l2 := line63
  have ej : k.toNat = j := by
    rw [seqIndex_of k0 a5] at a1
    exact Option.some.inj a1
  exact wpAny_getItem_list pl.isList k0 (by omega) (by rw [ej]; simpa using eu) ⟨v, H, J, ru, q⟩
def tSumVals (td : TE) : TE := fun σ H Q => td σ H fun x H1 => ∃ (a : Addr) (kvs : List (Key × V)) (is : List Int), x = V.ref a ∧ H1 a = some (.dK kvs) ∧ kvs.map (·.2) = is.map V.int ∧ Q (.int is.sum) H1
theorem preSum_list (is : List Int) : ∀ n, n ≤ is.length → preSum (fun i => is.getD i 0) n = (is.take n).sum
  | 0, _ => rfl
  | n + 1, h => by
    have e : is[n]? = some is[n] := List.getElem?_eq_getElem (by omega)
    rw [List.take_add_one, e, List.sum_append, ← preSum_list is n (by omega)]
    show preSum _ n + is.getD n 0 = _
    rw [List.getD_eq_getElem?_getD, e]
    show _ + is[n] = _ + (is[n] + 0)
    omega
theorem pe_sumVals {o : Expr} {p pos apos mpos : Pos} {td : TE} (calm : X.calm = true) (gl : Gl X "sum") (mn : X.mg "sum" = none) (hd : PE X o td)
    (ab : attributeBase o "values" X.env (eval o X.env) = eval o X.env := by rfl) (ln : (apos.endLine == mpos.line) = true := by rfl)
    (st : starEach [Expr.Call (.Attribute o "values" apos) [] [] mpos] X.env = [(false, eval (Expr.Call (.Attribute o "values" apos) [] [] mpos) X.env)] := by rfl) :
    PE X (.Call (.Name "sum" p) [.Call (.Attribute o "values" apos) [] [] mpos] [] pos) (tSumVals td) := by
  refine ⟨fun pins s σ H Q J hw => ?_⟩
  refine wpAny_Call_Name_kw (ld_blt J gl mn (u := .builtin "sum") (by decide +kernel) ?_ (by decide +kernel) (by decide +kernel))
  rw [st]
  refine PySem.callWith_builtin1 (wpAny_Call_method0_late ab ln (thn (hd.run pins s σ H _ J hw) fun v s1 ⟨x, H1, J1, r1, a, kvs, is, ex, ha, hv, q⟩ => ?_))
  subst ex
  obtain rfl : v = Value.ref a := r1
  obtain ⟨_, nsys, vs, rel, dof⟩ := dk_of J1.hok ha
  obtain ⟨ep, dat⟩ := dof.dictAt
  obtain ⟨ob, es, ho, exd, hdat, hko, hpr, hnd⟩ := id dat
  refine ⟨"dict", "dict.values", F.plainAttrs_dict, F.slot_dict_values, F.type_dict_values, ⟨ob, ho, exd.1⟩, fun b e => ?_, Calls.callWith_builtin rfl (PySem.evalArgs_none ?_)⟩
  · cases e
    exact ⟨ob, ho, exd.2.1⟩
  refine call_meetsIn F.slot_dict_values ⟨ob, ho, exd.1⟩ F.entry_dict_values (F.args_dict_values_1 _) (meets_dict_values (mixKind X.prog X.w) a nsys) ⟨⟨vs, dof⟩, ?_⟩
  generalize hv1 : s1.heap.push { cls := .type "dict_values", data := .fields #[.ref a] } = hp1
  have kp1 : ∀ b u, s1.heap.get? b = some u → hp1.get? b = some u := fun b u e => by rw [← hv1]; exact Heap.get?_push_of_some _ e
  have dat1 : hp1.DictAt (mixKind X.prog X.w) a vs ep := dat.keep kp1
  have sz : hp1.objs.size = s1.heap.objs.size + 1 := by rw [← hv1]; exact Heap.size_push _ _
  have lt : a < s1.heap.objs.size := Heap.lt_size ho
  have len : vs.length = is.length := by
    have e1 := congrArg List.length hv
    rw [List.length_map, List.length_map] at e1
    exact (KV.length rel).symm.trans e1
  have vals : ∀ (i : Nat) (v : Value), (∃ k, vs[i]? = some (k, v)) → ∃ t, v = Value.int (is.getD i 0) t := fun i v ⟨k, hk⟩ => by
    obtain ⟨x, g1, g2⟩ : ∃ x, kvs[i]? = some (k, x) ∧ RelV x v := KV.at' rel hk
    have e1 : (kvs.map (·.2))[i]? = some x := by
      rw [List.getElem?_map, g1]
      rfl
    rw [hv, List.getElem?_map] at e1
    obtain ⟨j, hj, e2⟩ := Option.map_eq_some_iff.mp e1
    subst e2
    obtain ⟨t, e3⟩ := g2
    refine ⟨t, ?_⟩
    rw [e3, List.getD_eq_getElem?_getD, hj]
    rfl
  have hvw : hp1.get? s1.heap.objs.size = some { cls := .type "dict_values", data := .fields #[.ref a] } := by rw [← hv1]; exact Heap.get?_push_size _ rfl
  refine call_sum_walkG (wpAny_pyIter_values (v := s1.heap.objs.size) (d := a) ⟨_, hvw, rfl, rfl⟩ dat1 ?_)
  refine ⟨_, _, _, _, _, _, fun i => is.getD i 0, rfl, Walks.dictValues (knd := mixKind X.prog X.w) (A := X.A.in1) (J.ok.hd calm) hp1.objs.size a (by rw [sz]; exact Nat.ne_of_lt (Nat.lt_succ_of_lt lt)) vs ep,
    ⟨⟨_, Heap.get?_push_size _ rfl, rfl, rfl⟩, dat1.keep fun b u e => Heap.get?_push_of_some _ e⟩, fun b hb => ?_, vals, fun h' tk t' hk => ?_⟩
  · show b < (hp1.push _).objs.size
    rw [Heap.size_push]
    rcases List.mem_cons.mp hb with e | hb
    · rw [e]
      exact Nat.lt_succ_self _
    · rw [List.mem_singleton.mp hb, sz]
      exact Nat.lt_succ_of_lt (Nat.lt_succ_of_lt lt)
  · refine ⟨.int _, H1, J1.kept (t' := tk) fun b u e => hk b u (fun hm => ?_) (Heap.get?_push_of_some _ (kp1 b u e)), ⟨t', rfl⟩, ?_⟩
    · have e1 : b = hp1.objs.size := List.mem_singleton.mp hm
      have e2 := Heap.lt_size e
      rw [sz] at e1
      rw [e1] at e2
      exact absurd e2 (Nat.not_lt.mpr (Nat.le_succ _))
    · rw [len, preSum_list is _ (Nat.le_refl _), List.take_length]
      exact q
end
/-- a loop over the items of a dict that stands still -/
theorem for_items {d : Addr} {od : Obj} {kvs : List (Key × V)} {g : TG} {tb : TS} {D : Ends} {σ : L2.St} {H : Hp} (Pv : Nat → L2.St → Hp → Prop) (h0 : Pv 0 σ H) (hq : ∀ i σ H, Pv i σ H → H d = some (.frz od (.dK kvs)))
    (hs : ∀ (i : Nat) (k : Key) (v : V) (T : Addr) (σ : L2.St) (H : Hp), kvs[i]? = some (k, v) → Pv i σ H → H T = none → g (.ref T) σ (upd H T (.tup [kV k, v])) fun σ2 H2 => tb { D with nx := Pv (i + 1), ct := Pv (i + 1), bk := D.nx } σ2 H2) (hd : ∀ σ H, Pv kvs.length σ H → D.nx σ H) :
    ∃ W : Nat → Nat → L2.St → Hp → Prop, (∃ m, W 0 m σ H) ∧ ∀ i m σ H, W i m σ H →
      ((Iti d od kvs).stop i H ∧ D.nx σ H) ∨ ((Iti d od kvs).go i H ∧ ∃ N : L2.St → Hp → Prop, (∀ σ' H', N σ' H' → ∃ m', m' < m ∧ W (i + 1) m' σ' H') ∧ ∀ v H', (Iti d od kvs).yld i H v H' → g v σ H' fun σ2 H2 => tb { D with nx := N, ct := N, bk := D.nx } σ2 H2) := by
  refine ⟨fun i m σ H => m = kvs.length - i ∧ i ≤ kvs.length ∧ Pv i σ H, ⟨kvs.length, rfl, Nat.zero_le _, h0⟩, ?_⟩
  rintro i m σ H ⟨rfl, hi, p⟩
  have qx := hq i σ H p
  by_cases hlt : i < kvs.length
  · refine .inr ⟨⟨qx, hlt⟩, Pv (i + 1), fun σ' H' p' => ⟨kvs.length - (i + 1), by omega, rfl, hlt, p'⟩, fun v H' y => ?_⟩
    obtain ⟨T, k, x, hk, rfl, hT, rfl⟩ := y
    exact hs i k x T σ H hk p hT
  · have e : i = kvs.length := by omega
    subst e
    exact .inl ⟨⟨qx, Nat.le_refl _⟩, hd σ H p⟩
/-- .. over its keys -/
theorem for_keys {d : Addr} {od : Obj} {kvs : List (Key × V)} {g : TG} {tb : TS} {D : Ends} {σ : L2.St} {H : Hp} (Pv : Nat → L2.St → Hp → Prop) (h0 : Pv 0 σ H) (hq : ∀ i σ H, Pv i σ H → H d = some (.frz od (.dK kvs)))
    (hs : ∀ (i : Nat) (k : Key) (v : V) (σ : L2.St) (H : Hp), kvs[i]? = some (k, v) → Pv i σ H → g (kV k) σ H fun σ2 H2 => tb { D with nx := Pv (i + 1), ct := Pv (i + 1), bk := D.nx } σ2 H2) (hd : ∀ σ H, Pv kvs.length σ H → D.nx σ H) :
    ∃ W : Nat → Nat → L2.St → Hp → Prop, (∃ m, W 0 m σ H) ∧ ∀ i m σ H, W i m σ H →
      ((Itk d od kvs).stop i H ∧ D.nx σ H) ∨ ((Itk d od kvs).go i H ∧ ∃ N : L2.St → Hp → Prop, (∀ σ' H', N σ' H' → ∃ m', m' < m ∧ W (i + 1) m' σ' H') ∧ ∀ v H', (Itk d od kvs).yld i H v H' → g v σ H' fun σ2 H2 => tb { D with nx := N, ct := N, bk := D.nx } σ2 H2) := by
  refine ⟨fun i m σ H => m = kvs.length - i ∧ i ≤ kvs.length ∧ Pv i σ H, ⟨kvs.length, rfl, Nat.zero_le _, h0⟩, ?_⟩
  rintro i m σ H ⟨rfl, hi, p⟩
  have qx := hq i σ H p
  by_cases hlt : i < kvs.length
  · refine .inr ⟨⟨qx, hlt⟩, Pv (i + 1), fun σ' H' p' => ⟨kvs.length - (i + 1), by omega, rfl, hlt, p'⟩, fun v H' y => ?_⟩
    obtain ⟨rfl, k, x, hk, rfl⟩ := y
    exact hs i k x σ _ hk p
  · have e : i = kvs.length := by omega
    subst e
    exact .inl ⟨⟨qx, Nat.le_refl _⟩, hd σ H p⟩
end Fo
namespace Fo
open PySem PySem.Spec PyProof.Rows L2
def spFrom : Sp := fun vs H Q _ => ∃ (r least : Int), vs = [.int r, .int least] ∧ least ≤ r ∧ Q .non H
section
variable {P : Program} {w : World} {K : PySem.W.Frag} {mg : Str → Option Value} {base : Heap}
theorem scFrom : FnScope ["thing", "least"] ["thing", "least"] (defScope s_check_from) := ⟨rfl, rfl, rfl, by decide +kernel, rfl, by decide +kernel, by decide +kernel⟩
theorem ok_from {f fW : Addr} {fd fdW : FuncData} {k : Nat} (T : Df K mg "check_from" s_check_from ["thing", "least"] f fd) (T_is_whole : Df K mg "is_whole" s_is_whole ["thing"] fW fdW) (B : Bi mg) : FnOk P w K mg base CX0 (k + 2) f fd ["thing", "least"] spFrom := by
  have G_is_whole : FnOk P w K mg base CX0 (k + 1) fW fdW ["thing"] spWhole := ok_whole T_is_whole B
  refine T.F.ok scFrom (fun vs H Q E h => ?_) (fun cdv A outer s H vs Q E hr h => ?_)
  · obtain ⟨r, least, rfl, _⟩ := h
    rfl
  · obtain ⟨r, least, rfl, hle, q⟩ := h
    refine ⟨_, 
      (pss_one (ps_if (PW.pt (pw_or (pt_not (pt_val (pe_call G_is_whole hr (by rfl) T_is_whole.g T_is_whole.F.kp T_is_whole.b .nil pass0 (pa_cons (pv 0) pa_nil)))) (pw_or1 (pt_cmpR op_lt (pv 0) (pv 1) (nomark _)))))
        (pss_one ps_never)
        pss_nil)), ?_⟩
    refine ⟨_, rfl, r, rfl, _, rfl, iteF ?_⟩
    exact ⟨_, rfl, _, rfl, r, least, rfl, rfl, _, rfl, ite2 (fun z => absurd (of_decide_eq_true z) (by omega)) (fun _ => q)⟩
end
end Fo
namespace Fo
open PySem PySem.Spec PyProof.Rows L2
def spSize : Sp := fun vs H Q _ => ∃ (n most : Int), vs = [.int n, .int most] ∧ 1 ≤ n ∧ n ≤ most ∧ Q .non H
section
variable {P : Program} {w : World} {K : PySem.W.Frag} {mg : Str → Option Value} {base : Heap}
theorem scSize : FnScope ["thing", "most"] ["thing", "most"] (defScope s_check_size) := ⟨rfl, rfl, rfl, by decide +kernel, rfl, by decide +kernel, by decide +kernel⟩
theorem ok_size {f fW : Addr} {fd fdW : FuncData} {k : Nat} (T : Df K mg "check_size" s_check_size ["thing", "most"] f fd) (T_is_whole : Df K mg "is_whole" s_is_whole ["thing"] fW fdW) (B : Bi mg) : FnOk P w K mg base CX0 (k + 2) f fd ["thing", "most"] spSize := by
  have G_is_whole : FnOk P w K mg base CX0 (k + 1) fW fdW ["thing"] spWhole := ok_whole T_is_whole B
  refine T.F.ok scSize (fun vs H Q E h => ?_) (fun cdv A outer s H vs Q E hr h => ?_)
  · obtain ⟨n, most, rfl, _⟩ := h
    rfl
  · obtain ⟨n, most, rfl, h1, h2, q⟩ := h
    refine ⟨_, 
      (pss_one (ps_if (PW.pt (pw_or (pt_not (pt_val (pe_call G_is_whole hr (by rfl) T_is_whole.g T_is_whole.F.kp T_is_whole.b .nil pass0 (pa_cons (pv 0) pa_nil)))) (pw_or (pt_cmpR op_lt (pv 0) pe_int (nomark _)) (pw_or1 (pt_cmpR op_gt (pv 0) (pv 1) (nomark _))))))
        (pss_one ps_never)
        pss_nil)), ?_⟩
    refine ⟨_, rfl, n, rfl, _, rfl, iteF ?_⟩
    refine ⟨_, rfl, n, 1, rfl, rfl, _, rfl, ite2 (fun z => absurd (of_decide_eq_true z) (by omega)) (fun _ => ?_)⟩
    exact ⟨_, rfl, _, rfl, n, most, rfl, rfl, _, rfl, ite2 (fun z => absurd (of_decide_eq_true z) (by omega)) (fun _ => q)⟩
end
end Fo
namespace Fo
open PySem PySem.Spec PyProof.Rows L2
def two (vs : List V) (H : Hp) (a b : Addr) (n : Nat) (xs ys : List Int) : Prop := vs = [.ref a, .ref b] ∧ H a = some (.lst (xs.map V.int)) ∧ H b = some (.lst (ys.map V.int)) ∧ IsOrd n xs ∧ IsOrd n ys ∧ 1 ≤ n ∧ n ≤ 12
end Fo
namespace Fo
open PySem PySem.Spec PyProof.Rows L2
/-! ### the program's counts -/
def spFac : Sp := fun vs H Q _ => ∃ n : Nat, vs = [.int n] ∧ n ≤ 12 ∧ Q (.int (facN n)) H
def spNewL (F : Nat → List Int) : Sp := fun vs H Q _ => ∃ n : Nat, vs = [.int n] ∧ 1 ≤ n ∧ n ≤ 12 ∧ ∀ (l : Addr) (H' : Hp), H l = none → H' l = some (.lst ((F n).map V.int)) → Same H H' → Q (.ref l) H'
def spSwC : Sp := spNewL fun n => swC (n - 1)
def spSpC : Sp := spNewL spC
def spSwM : Sp := fun vs H Q _ => ∃ (a : Addr) (c : List Int) (b : Nat), vs = [.ref a, .int b] ∧ H a = some (.lst (c.map V.int)) ∧ c.length ≤ 100 ∧ b ≤ 12 ∧ ∀ (l : Addr) (H' : Hp), H l = none → H' l = some (.lst ((swNext c b).map V.int)) → Same H H' → Q (.ref l) H'
def spMv : Sp := fun vs H Q _ => ∃ n : Nat, vs = [.int n] ∧ n ≤ 12 ∧ Q (.int (mvN n).1) H
def dN (l : List (Nat × Int)) : List (Key × V) := l.map fun p => (Sum.inl ((p.1 : Nat) : Int), V.int p.2)
def nearT (lo c : Nat) : List Int := (List.range c).map fun j => (((lo + j : Nat)) : Int)
def spNearT : Sp := fun vs H Q _ => ∃ (p n : Nat) (r : Int), vs = [.int p, .int n, .int r] ∧ p < n ∧ n ≤ 12 ∧ 0 ≤ r ∧ ∀ (l : Addr) (H' : Hp), H l = none → H' l = some (.lst ((nearT (loP p r) (ctP n p r)).map V.int)) → Same H H' → Q (.ref l) H'
def spFurther : Sp := fun vs H Q _ => ∃ (a b : Addr) (d : List (Nat × Int)) (lo c : Nat), vs = [.ref a, .ref b] ∧ H a = some (.dK (dN d)) ∧ GoodD d ∧ H b = some (.lst ((nearT lo c).map V.int)) ∧ lo + c ≤ 12 ∧ ∀ (l : Addr) (H' : Hp), H l = none → H' l = some (.dK (dN (stOut d lo c d.length))) → Same H H' → Q (.ref l) H'
def spShN : Sp := fun vs H Q _ => ∃ (n : Nat) (r : Int), vs = [.int n, .int r] ∧ 1 ≤ n ∧ n ≤ 12 ∧ 0 ≤ r ∧ ∀ H', Same H H' → Q (.int (shN n r)) H'
def inW (w : Str) (n : Nat) (r : Int) : Int := if w = "swap" then ((swC (n - 1)).take (r + 1).toNat).sum else if w = "spot" then ((spC n).take (r + 1).toNat).sum else shN n r
def IsWy (w : Str) : Prop := w = "swap" ∨ w = "spot" ∨ w = "shift"
def spKW : Sp := fun vs H Q _ => ∃ (w : Str) (n : Nat) (r : Int), vs = [.str w, .int n, .int r] ∧ IsWay w ∧ 1 ≤ n ∧ n ≤ 12 ∧ 0 ≤ r ∧ ∀ H', Same H H' → Q (.int (inW w n r)) H'
theorem inW_swap (n : Nat) (r : Int) : inW "swap" n r = ((swC (n - 1)).take (r + 1).toNat).sum := by unfold inW; rw [if_pos rfl]
theorem inW_spot (n : Nat) (r : Int) : inW "spot" n r = ((spC n).take (r + 1).toNat).sum := by unfold inW; rw [if_neg n1, if_pos rfl]
theorem inW_shift (n : Nat) (r : Int) : inW "shift" n r = shN n r := by unfold inW; rw [if_neg n2, if_neg n3]
theorem inW_good {w : Str} {n : Nat} {r : Int} (hw : IsWay w) (h1 : 1 ≤ n) (h2 : n ≤ 12) (hr : 0 ≤ r) : 1 ≤ inW w n r ∧ inW w n r ≤ 8916100448256 := by
  rcases hw with rfl | rfl | rfl
  · rw [inW_swap]
    obtain ⟨a, b, c⟩ := swC_good (n - 1) (by omega)
    have := sum_take (k := (r + 1).toNat) a b (by omega)
    omega
  · rw [inW_spot]
    obtain ⟨a, b, c⟩ := spC_good n (by omega)
    have := sum_take (k := (r + 1).toNat) a b (by omega)
    omega
  · rw [inW_shift]
    exact shN_good h2 hr
theorem zeros_flat : ∀ m : Nat, (List.replicate m [V.int 0]).flatten = (List.replicate m (0 : Int)).map V.int
  | 0 => rfl
  | m + 1 => by
    rw [List.replicate_succ, List.replicate_succ, List.flatten_cons, zeros_flat m]
    rfl
theorem addAt_V {l : List Int} {i : Nat} {v : Int} : (l.map V.int).set i (V.int (l.getD i 0 + v)) = (addAt l i v).map V.int := by
  unfold addAt
  rw [List.map_set]
theorem getD_some {l : List Int} {i : Nat} (h : i < l.length) : l[i]? = some (l.getD i 0) := by
  rw [List.getD_eq_getElem?_getD, List.getElem?_eq_getElem h]
  rfl
theorem dN_get (l : List (Nat × Int)) (k : Nat) : (valV (dN l) (Sum.inl (k : Int))).getD (V.int 0) = V.int (lookN l k) := by
  induction l with
  | nil => rfl
  | cons p l ih =>
    rw [look_cons]
    by_cases c : p.1 = k
    · rw [if_pos c]
      show (valV ((Sum.inl ((p.1 : Nat) : Int), V.int p.2) :: dN l) (Sum.inl (k : Int))).getD (V.int 0) = _
      rw [valV_pos (by rw [c])]
      rfl
    · rw [if_neg c]
      show (valV ((Sum.inl ((p.1 : Nat) : Int), V.int p.2) :: dN l) (Sum.inl (k : Int))).getD (V.int 0) = _
      rw [valV_neg (fun e => c (by have := Sum.inl.inj e; omega))]
      exact ih
theorem dN_any (l : List (Nat × Int)) (k : Nat) : ((dN l).any fun kv => decide (kv.1 = Sum.inl (k : Int))) = l.any fun p => decide (p.1 = k) := by
  unfold dN
  rw [List.any_map]
  congr 1
  funext p
  show decide (Sum.inl ((p.1 : Nat) : Int) = (Sum.inl (k : Int) : Key)) = decide (p.1 = k)
  by_cases c : p.1 = k
  · rw [c]; simp
  · rw [decide_eq_false c, decide_eq_false (fun e => c (by have := Sum.inl.inj e; omega))]
theorem dN_put (l : List (Nat × Int)) (k : Nat) (v : Int) : putK (dN l) (Sum.inl (k : Int)) (V.int v) = dN (putN l k v) := by
  unfold putK putN
  rw [dN_any]
  split
  · unfold dN
    rw [List.map_map, List.map_map]
    apply List.map_congr_left
    intro p _
    show (if Sum.inl ((p.1 : Nat) : Int) = (Sum.inl (k : Int) : Key) then _ else _) = _
    by_cases c : p.1 = k
    · subst c
      rw [if_pos rfl]
      show _ = (Sum.inl _, V.int (if p.1 = p.1 then (p.1, v) else p).2)
      rw [if_pos rfl]
      show _ = (Sum.inl (((if p.1 = p.1 then (p.1, v) else p).1 : Nat) : Int), V.int v)
      rw [if_pos rfl]
    · rw [if_neg (fun e => c (by have := Sum.inl.inj e; omega))]
      show _ = (Sum.inl (((if p.1 = k then (p.1, v) else p).1 : Nat) : Int), V.int (if p.1 = k then (p.1, v) else p).2)
      rw [if_neg c]
  · unfold dN
    rw [List.map_append]
    rfl
theorem dN_len (l : List (Nat × Int)) : (dN l).length = l.length := List.length_map _
theorem dN_at {l : List (Nat × Int)} {i : Nat} {k : Key} {v : V} (h : (dN l)[i]? = some (k, v)) : i < l.length ∧ k = Sum.inl (((l.getD i (0, 0)).1 : Nat) : Int) ∧ v = V.int (l.getD i (0, 0)).2 := by
  unfold dN at h
  rw [List.getElem?_map] at h
  cases e : l[i]? with
  | none => rw [e] at h; cases h
  | some p =>
    rw [e] at h
    have h2 := Option.some.inj h
    have hi := (List.getElem?_eq_some_iff.mp e).1
    rw [List.getD_eq_getElem?_getD, e]
    exact ⟨hi, (Prod.mk.inj h2).1.symm, (Prod.mk.inj h2).2.symm⟩
theorem near_at {lo c j : Nat} (h : j < c) : (nearT lo c)[j]? = some (((lo + j : Nat)) : Int) := by
  unfold nearT
  rw [List.getElem?_map, List.getElem?_range h]
  rfl
theorem near_len (lo c : Nat) : (nearT lo c).length = c := by unfold nearT; rw [List.length_map, List.length_range]
theorem near_V {p n : Nat} {r : Int} (hp : p < n) (hr : 0 ≤ r) : rgV (max 0 ((p : Int) - r)) (min (n : Int) ((p : Int) + r + 1)) = (nearT (loP p r) (ctP n p r)).map V.int := by
  unfold rgV nearT
  have e : (min (n : Int) ((p : Int) + r + 1) - max 0 ((p : Int) - r)).toNat = ctP n p r := by
    unfold ctP loP
    omega
  rw [e, List.map_map]
  apply List.map_congr_left
  intro a _
  show V.int (max 0 ((p : Int) - r) + (a : Int)) = V.int ((loP p r + a : Nat) : Int)
  congr 1
  unfold loP
  omega
theorem bit_read {u t : Nat} (hu : u < 4096) (ht : t < 12) : decide (V.int (Builtin.bitAnd (u : Int) (1 * 2 ^ ((t : Nat) : Int).toNat)) = V.int 0) = !u.testBit t := by
  rw [Int.one_mul, Int.toNat_natCast, show ((2 : Int) ^ t) = ((2 ^ t : Nat) : Int) by rw [Int.natCast_pow]; rfl, bitAnd_pp (Int.natCast_nonneg _) (Int.natCast_nonneg _), Int.toNat_natCast, Int.toNat_natCast]
  cases h : u.testBit t with
  | false =>
    rw [bit_and h]
    rfl
  | true =>
    rw [decide_eq_false]
    · rfl
    · intro e
      have e2 : u &&& 2 ^ t = 0 := by have := V.int.inj e; omega
      have e3 := congrArg (fun x => Nat.testBit x t) e2
      simp [h] at e3
theorem bit_or {u t : Nat} (h : u.testBit t = false) (hu : u < 4096) (ht : t < 12) : Builtin.bitOr (u : Int) (1 * 2 ^ ((t : Nat) : Int).toNat) = ((u + 2 ^ t : Nat) : Int) := by
  rw [Int.one_mul, Int.toNat_natCast, show ((2 : Int) ^ t) = ((2 ^ t : Nat) : Int) by rw [Int.natCast_pow]; rfl, bitOr_and, bitAnd_pp (Int.natCast_nonneg _) (Int.natCast_nonneg _), Int.toNat_natCast, Int.toNat_natCast, bit_and h]
  omega
section
variable {P : Program} {w : World} {K : PySem.W.Frag} {mg : Str → Option Value} {base : Heap}
theorem scSwM : FnScope ["counts", "behind", "more", "far", "many", "passed"] ["counts", "behind"] (defScope s_swap_counts_with_one_more) := ⟨rfl, rfl, rfl, by decide +kernel, rfl, by decide +kernel, by decide +kernel⟩
set_option maxHeartbeats 1000000 in
theorem ok_swM {f : Addr} {fd : FuncData} {k : Nat} (T : Df K mg "swap_counts_with_one_more" s_swap_counts_with_one_more ["counts", "behind"] f fd) (B : Bi mg) : FnOk P w K mg base CX0 (k + 1) f fd ["counts", "behind"] spSwM := by
  refine T.F.ok scSwM (fun vs H Q E h => ?_) (fun cdv A outer s H vs Q E hr h => ?_)
  · obtain ⟨a, c, b, rfl, _⟩ := h
    rfl
  · obtain ⟨a, c, b, rfl, ha, hc, hb, q⟩ := h
    have hlm : (c.map V.int).length = c.length := List.length_map _
    refine ⟨_, 
      (pss_cons (ps_set (i := 2) scSwM.nd rfl (.inl rfl) (pe_op op_rep (pe_lst (pa_cons pe_int pa_nil)) (pe_op op_add (pe_callB call_len_seq (by rfl) B.len PySem.boot_len (pa_cons (pv 0) pa_nil)) (pv 1))))
      (pss_cons (ps_for PassesOwn.never rfl (pi_enum (by rfl) B.enumerate (pa_cons (pv 0) pa_nil)) (pg_tup (by rfl) (pgs_cons (pg_name (i := 3) scSwM.nd rfl (.inl rfl)) (pgs_cons (pg_name (i := 4) scSwM.nd rfl (.inl rfl)) pgs_nil)))
        (pss_one (ps_for PassesOwn.never rfl (pi_range1 (by rfl) B.range (pa_cons (pe_op op_add (pv 1) pe_int) pa_nil)) (pg_name (i := 5) scSwM.nd rfl (.inl rfl))
          (pss_one (ps_augS (pv 2) (pe_op op_add (pv 3) (pv 5)) get_list (pv 4) ip_add set_list)))))
      (pss_one (ps_ret (pv 2))))), ?_⟩
    refine ⟨line_small (by show 1 ≤ 16777216; decide), fun z nz => ?_⟩
    have s1 := same_new (o := .lst [.int 0]) nz
    refine ⟨_, rfl, a, _, rfl, .inl (SqL.of (s1 _ _ ha)), _, rfl, _, _, rfl, rfl, z, _, _, rfl, rfl, upd_same, by omega, by omega, line_small (by rw [hlm]; show 1 * _ ≤ _; omega), fun l nl => ?_⟩
    have en : ((((c.map V.int).length : Nat) : Int) + (b : Int)).toNat = c.length + b := by rw [hlm]; omega
    have s2 := s1.trans (same_new (o := .lst (List.replicate ((((c.map V.int).length : Nat) : Int) + (b : Int)).toNat [V.int 0]).flatten) nl)
    have hl0 : (upd (upd H z (.lst [.int 0])) l (.lst (List.replicate ((((c.map V.int).length : Nat) : Int) + (b : Int)).toNat [V.int 0]).flatten)) l = some (.lst ((swOut c b 0).map V.int)) := by rw [upd_same, en, zeros_flat]; rfl
    have nHl : H l = none := s1.free nl
    generalize upd (upd H z (.lst [.int 0])) l (.lst (List.replicate ((((c.map V.int).length : Nat) : Int) + (b : Int)).toNat [V.int 0]).flatten) = H1 at s2 hl0 ⊢
    refine ⟨_, rfl, a, _, rfl, SqL.of (s2 _ _ ha), ?_⟩
    refine for_enumL (xs := c.map V.int) (fun i σ H3 => ∃ (y3 y4 y5 : Option V), σ = [some (.ref a), some (.int b), some (.ref l), y3, y4, y5] ∧ H3 l = some (.lst ((swOut c b i).map V.int)) ∧ Same H H3)
      ⟨_, _, _, rfl, hl0, s2⟩ (fun i σ H3 hW => by obtain ⟨_, _, _, _, _, sm⟩ := hW; exact SqL.of (sm _ _ ha)) (fun i x t σ H3 hx hW nt => ?_) (fun σ H3 hW => ?_)
    · obtain ⟨y3, y4, y5, rfl, hl3, sm⟩ := hW
      obtain ⟨y, ey, rfl⟩ := int_at_inv hx
      have hi := (List.getElem?_eq_some_iff.mp ey).1
      have eg : c.getD i 0 = y := by rw [List.getD_eq_getElem?_getD, ey]; rfl
      have st := same_new (o := .tup [.int (i : Nat), .int y]) nt
      have hl4 := st _ _ hl3
      have sm4 := sm.trans st
      have ht4 : (upd H3 t (.tup [.int (i : Nat), .int y])) t = some (.tup [.int (i : Nat), .int y]) := upd_same
      generalize upd H3 t (.tup [.int (i : Nat), .int y]) = H4 at ht4 hl4 sm4 ⊢
      refine ⟨t, _, rfl, .inl (.inl ht4), rfl, _, _, rfl, _, _, rfl, rfl, ?_⟩
      refine ⟨_, rfl, (b : Int), 1, rfl, rfl, _, rfl, by omega, by omega, ?_⟩
      rw [show ((b : Int) + 1).toNat = b + 1 by omega]
      refine for_range (lo := 0) (n := b + 1) (fun j σ H5 => ∃ (y5 : Option V), σ = [some (.ref a), some (.int b), some (.ref l), some (.int (i : Nat)), some (.int y), y5] ∧ H5 l = some (.lst ((swIn y i j (swOut c b i)).map V.int)) ∧ Same H H5) ⟨_, rfl, hl4, sm4⟩ (fun j σ H5 hj hW => ?_) (fun σ H5 hW => ?_)
      · obtain ⟨z5, rfl, hl5, sm5⟩ := hW
        have hlen : (swIn y i j (swOut c b i)).length = c.length + b := by rw [swIn_len, swOut_len]
        have hij : i + j < (swIn y i j (swOut c b i)).length := by omega
        refine ⟨_, rfl, _, rfl, _, rfl, _, _, rfl, rfl, l, _, _, _, rfl, rfl, SqL.of hl5, by omega, at_of (j := i + j) (by omega) (int_at (getD_some hij)), _, rfl, _, _, rfl, rfl, l, _, _, i + j, rfl, rfl, hl5, ix_n (by omega) (by rw [List.length_map]; exact hij), _, rfl, ?_, fun u o e => ?_⟩
        · rw [upd_same, addAt_V]
          rfl
        · rw [upd_ne (ne_of_none e nHl)]
          exact sm5 _ _ e
      · obtain ⟨z5, rfl, hl5, sm5⟩ := hW
        refine ⟨_, _, _, rfl, ?_, sm5⟩
        rw [swOut, eg]
        exact hl5
    · obtain ⟨y3, y4, y5, rfl, hl3, sm⟩ := hW
      rw [hlm] at hl3
      exact ⟨_, rfl, q l H3 nHl hl3 sm⟩
theorem scSwC : FnScope ["n", "counts", "behind"] ["n"] (defScope s_swap_counts) := ⟨rfl, rfl, rfl, by decide +kernel, rfl, by decide +kernel, by decide +kernel⟩
theorem ok_swC {f f1 : Addr} {fd d1 : FuncData} {k : Nat} (T : Df K mg "swap_counts" s_swap_counts ["n"] f fd) (T_swap_counts_with_one_more : Df K mg "swap_counts_with_one_more" s_swap_counts_with_one_more ["counts", "behind"] f1 d1) (B : Bi mg) : FnOk P w K mg base CX0 (k + 2) f fd ["n"] spSwC := by
  have G_swap_counts_with_one_more : FnOk P w K mg base CX0 (k + 1) f1 d1 ["counts", "behind"] spSwM := ok_swM T_swap_counts_with_one_more B
  refine T.F.ok scSwC (fun vs H Q E h => ?_) (fun cdv A outer s H vs Q E hr h => ?_)
  · obtain ⟨n, rfl, _⟩ := h
    rfl
  · obtain ⟨n, rfl, hn1, hn2, q⟩ := h
    refine ⟨_, 
      (pss_cons (ps_set (i := 1) scSwC.nd rfl (.inl rfl) (pe_lst (pa_cons pe_int pa_nil)))
      (pss_cons (ps_for PassesOwn.never rfl (pi_range2 (by rfl) B.range (pa_cons pe_int (pa_cons (pv 0) pa_nil))) (pg_name (i := 2) scSwC.nd rfl (.inl rfl))
        (pss_one (ps_set (i := 1) scSwC.nd rfl (.inl rfl) (pe_call G_swap_counts_with_one_more hr (by rfl) T_swap_counts_with_one_more.g T_swap_counts_with_one_more.F.kp T_swap_counts_with_one_more.b .nil pass0 (pa_cons (pv 1) (pa_cons (pv 2) pa_nil))))))
      (pss_one (ps_ret (pv 1))))), ?_⟩
    refine ⟨line_small (by show 1 ≤ 16777216; decide), fun l nl => ?_⟩
    have s1 := same_new (o := .lst [.int 1]) nl
    refine ⟨_, rfl, 1, (n : Int), rfl, ⟨by omega, by omega, by omega, by omega⟩, ?_⟩
    rw [show ((n : Int) - 1).toNat = n - 1 by omega]
    refine for_range (lo := 1) (n := n - 1) (fun i σ H1 => ∃ (l : Addr) (y2 : Option V), σ = [some (.int n), some (.ref l), y2] ∧ H l = none ∧ H1 l = some (.lst ((swC i).map V.int)) ∧ Same H H1) ⟨l, _, rfl, nl, upd_same, s1⟩ (fun i σ H1 hi hW => ?_) (fun σ H1 hW => ?_)
    · obtain ⟨l, y2, rfl, nl, hl, sm⟩ := hW
      refine ⟨_, rfl, _, rfl, l, swC i, i + 1, by show _ = [V.ref l, V.int ((i + 1 : Nat) : Int)]; rw [show ((i + 1 : Nat) : Int) = 1 + (i : Int) by omega]; rfl, hl, by rw [swC_len]; have := (tri_le i (by omega)).1; omega, by omega, fun l2 H2 nl2 hl2 s2 => ?_⟩
      exact ⟨l2, _, rfl, sm.free nl2, hl2, sm.trans s2⟩
    · obtain ⟨l, y2, rfl, nl, hl, sm⟩ := hW
      exact ⟨_, rfl, q l H1 nl hl sm⟩
end
end Fo
namespace Fo
open PySem PySem.Spec PyProof.Rows L2
theorem max_if (i j : Int) : (if j > i then j else i) = max i j := by split <;> omega
theorem min_if (i j : Int) : (if j < i then j else i) = min i j := by split <;> omega
theorem dN_val : ∀ {l : List (Nat × Int)} {i : Nat}, (keysN l).Nodup → i < l.length → valV (dN l) (Sum.inl (((l.getD i (0, 0)).1 : Nat) : Int)) = some (V.int (l.getD i (0, 0)).2)
  | [], i, _, h => absurd h (Nat.not_lt_zero _)
  | p :: l, 0, _, _ => valV_pos rfl
  | p :: l, i + 1, hn, h => by
    obtain ⟨h1, h2⟩ := List.nodup_cons.mp hn
    have ih := dN_val (l := l) (i := i) h2 (by simpa using h)
    have hi : i < l.length := by simpa using h
    show valV ((Sum.inl ((p.1 : Nat) : Int), V.int p.2) :: dN l) (Sum.inl (((l.getD i (0, 0)).1 : Nat) : Int)) = some (V.int (l.getD i (0, 0)).2)
    rw [valV_neg (fun e => h1 (by
      have e2 : p.1 = (l.getD i (0, 0)).1 := by have := Sum.inl.inj e; omega
      exact List.mem_map.mpr ⟨l.getD i (0, 0), by rw [getD_at hi]; exact List.getElem_mem _, e2.symm⟩))]
    exact ih
theorem dN_sum (l : List (Nat × Int)) : (dN l).map (·.2) = (l.map (·.2)).map V.int := by
  unfold dN
  rw [List.map_map, List.map_map]
  rfl
section
variable {P : Program} {w : World} {K : PySem.W.Frag} {mg : Str → Option Value} {base : Heap}
theorem scMv : FnScope ["n", "many", "sign", "things"] ["n"] (defScope s_count_all_moved) := ⟨rfl, rfl, rfl, by decide +kernel, rfl, by decide +kernel, by decide +kernel⟩
theorem ok_mv {f : Addr} {fd : FuncData} {k : Nat} (T : Df K mg "count_all_moved" s_count_all_moved ["n"] f fd) (B : Bi mg) : FnOk P w K mg base CX0 (k + 1) f fd ["n"] spMv := by
  refine T.F.ok scMv (fun vs H Q E h => ?_) (fun cdv A outer s H vs Q E hr h => ?_)
  · obtain ⟨n, rfl, _⟩ := h
    rfl
  · obtain ⟨n, rfl, hn, q⟩ := h
    refine ⟨_, 
      (pss_cons (ps_set (i := 1) scMv.nd rfl (.inl rfl) pe_int)
      (pss_cons (ps_set (i := 2) scMv.nd rfl (.inl rfl) pe_int)
      (pss_cons (ps_for PassesOwn.never rfl (pi_range2 (by rfl) B.range (pa_cons pe_int (pa_cons (pe_op op_add (pv 0) pe_int) pa_nil))) (pg_name (i := 3) scMv.nd rfl (.inl rfl))
        (pss_cons (ps_set (i := 2) scMv.nd rfl (.inl rfl) (pe_un un_neg (pv 2)))
        (pss_one (ps_set (i := 1) scMv.nd rfl (.inl rfl) (pe_op op_add (pe_op op_mul (pv 1) (pv 3)) (pv 2))))))
      (pss_one (ps_ret (pv 1)))))), ?_⟩
    refine ⟨_, rfl, (n : Int), 1, rfl, rfl, 1, _, rfl, ⟨by omega, by omega, by omega, by omega⟩, ?_⟩
    rw [show ((n : Int) + 1 - 1).toNat = n by omega]
    refine for_range (lo := 1) (n := n) (fun i σ H1 => ∃ y2 : Option V, σ = [some (.int n), some (.int (mvN i).1), some (.int (mvN i).2), y2] ∧ H1 = H) ⟨_, rfl, rfl⟩ (fun i σ H1 hi hW => ?_) (fun σ H1 hW => ?_)
    · obtain ⟨y2, rfl, rfl⟩ := hW
      have hf := mv_small i (by omega)
      refine ⟨_, rfl, _, rfl, _, rfl, _, rfl, _, _, rfl, rfl, .inl ⟨by omega, by omega⟩, _, rfl, _, _, rfl, rfl, some (.int (1 + (i : Int))), ?_, rfl⟩
      show [some (V.int (n : Int)), some (V.int ((mvN i).1 * (1 + (i : Int)) + -(mvN i).2)), some (V.int (-(mvN i).2)), some (V.int (1 + (i : Int)))] = _
      rw [Int.add_comm 1 (i : Int)]
      rfl
    · obtain ⟨y2, rfl, rfl⟩ := hW
      exact ⟨_, rfl, q⟩
theorem scSpC : FnScope ["n", "counts", "choices", "r"] ["n"] (defScope s_spot_counts) := ⟨rfl, rfl, rfl, by decide +kernel, rfl, by decide +kernel, by decide +kernel⟩
set_option maxHeartbeats 1000000 in
theorem ok_spC {f f1 : Addr} {fd d1 : FuncData} {k : Nat} (T : Df K mg "spot_counts" s_spot_counts ["n"] f fd) (T_count_all_moved : Df K mg "count_all_moved" s_count_all_moved ["n"] f1 d1) (B : Bi mg) : FnOk P w K mg base CX0 (k + 2) f fd ["n"] spSpC := by
  have G_count_all_moved : FnOk P w K mg base CX0 (k + 1) f1 d1 ["n"] spMv := ok_mv T_count_all_moved B
  refine T.F.ok scSpC (fun vs H Q E h => ?_) (fun cdv A outer s H vs Q E hr h => ?_)
  · obtain ⟨n, rfl, _⟩ := h
    rfl
  · obtain ⟨n, rfl, hn1, hn2, q⟩ := h
    refine ⟨_, 
      (pss_cons (ps_set (i := 1) scSpC.nd rfl (.inl rfl) (pe_lst pa_nil))
      (pss_cons (ps_set (i := 2) scSpC.nd rfl (.inl rfl) pe_int)
      (pss_cons (ps_for PassesOwn.never rfl (pi_range1 (by rfl) B.range (pa_cons (pe_op op_add (pv 0) pe_int) pa_nil)) (pg_name (i := 3) scSpC.nd rfl (.inl rfl))
        (pss_cons (ps_expr (pe_bm PySem.F.plainAttrs_list PySem.F.slot_list_append PySem.F.type_list_append mt_append (pv 1) (pa_cons (pe_op op_mul (pv 2) (pe_call G_count_all_moved hr (by rfl) T_count_all_moved.g T_count_all_moved.F.kp T_count_all_moved.b .nil pass0 (pa_cons (pv 3) pa_nil))) pa_nil)))
        (pss_one (ps_set (i := 2) scSpC.nd rfl (.inl rfl) (pe_op op_fdiv (pe_op op_mul (pv 2) (pe_op op_sub (pv 0) (pv 3))) (pe_op op_add (pv 3) pe_int))))))
      (pss_one (ps_ret (pv 1)))))), ?_⟩
    refine ⟨Nat.zero_le _, fun l nl => ?_⟩
    have s1 := same_new (o := .lst []) nl
    refine ⟨_, rfl, (n : Int), 1, rfl, rfl, _, rfl, by omega, by omega, ?_⟩
    rw [show ((n : Int) + 1).toNat = n + 1 by omega]
    refine for_range (lo := 0) (n := n + 1) (fun i σ H1 => ∃ (y3 : Option V), σ = [some (.int n), some (.ref l), some (.int (chN n i)), y3] ∧ H1 l = some (.lst (((List.range i).map fun r => chN n r * (mvN r).1).map V.int)) ∧ Same H H1) ⟨_, rfl, upd_same, s1⟩ (fun i σ H1 hi hW => ?_) (fun σ H1 hW => ?_)
    · obtain ⟨y3, rfl, hl, sm⟩ := hW
      have hc := ch_small n (by omega) i (by omega)
      refine ⟨_, rfl, .inl ⟨rfl, _, SqL.of hl⟩, _, rfl, _, rfl, i, by rw [Int.zero_add]; rfl, by omega, _, _, rfl, rfl, .inl ⟨by omega, by omega⟩, l, _, _, rfl, rfl, hl, line_lt (by rw [List.length_map, List.length_map, List.length_range]; omega), ?_⟩
      refine ⟨_, rfl, _, rfl, _, rfl, (n : Int), _, rfl, rfl, _, _, rfl, rfl, .inl ⟨by omega, by omega⟩, _, rfl, _, 1, rfl, rfl, _, _, rfl, rfl, ⟨by omega, by omega⟩, some (.int (0 + (i : Int))), ?_, ?_, fun u o e => ?_⟩
      · show [some (V.int (n : Int)), some (V.ref l), some (V.int (chN n i * ((n : Int) - (0 + (i : Int))) / (0 + (i : Int) + 1))), some (V.int (0 + (i : Int)))] = _
        rw [Int.zero_add]
        rfl
      · rw [upd_same, List.range_succ, List.map_append, List.map_append]
        rfl
      · rw [upd_ne (ne_of_none e nl)]
        exact sm _ _ e
    · obtain ⟨y3, rfl, hl, sm⟩ := hW
      exact ⟨_, rfl, q l H1 nl hl sm⟩
theorem scNearT : FnScope ["place", "n", "r"] ["place", "n", "r"] (defScope s_things_near) := ⟨rfl, rfl, rfl, by decide +kernel, rfl, by decide +kernel, by decide +kernel⟩
theorem ok_nearT {f : Addr} {fd : FuncData} {k : Nat} (T : Df K mg "things_near" s_things_near ["place", "n", "r"] f fd) (B : Bi mg) : FnOk P w K mg base CX0 (k + 1) f fd ["place", "n", "r"] spNearT := by
  refine T.F.ok scNearT (fun vs H Q E h => ?_) (fun cdv A outer s H vs Q E hr h => ?_)
  · obtain ⟨p, n, r, rfl, _⟩ := h
    rfl
  · obtain ⟨p, n, r, rfl, hp, hn, hr0, q⟩ := h
    refine ⟨_, 
      (pss_one (ps_ret (pe_listRg rfl (by rfl) B.list (prg_2 (by rfl) B.range (pe_callB (call_max2 rfl) (by rfl) B.max (by decide +kernel) (pa_cons pe_int (pa_cons (pe_op op_sub (pv 0) (pv 2)) pa_nil))) (pe_callB (call_min2 rfl) (by rfl) B.min (by decide +kernel) (pa_cons (pv 1) (pa_cons (pe_op op_add (pe_op op_add (pv 0) (pv 2)) pe_int) pa_nil))))))), ?_⟩
    refine ⟨_, rfl, _, rfl, _, _, rfl, rfl, _, _, rfl, _, rfl, _, rfl, _, rfl, _, _, rfl, rfl, _, _, rfl, rfl, _, _, rfl, ?_⟩
    rw [max_if, min_if]
    refine ⟨_, _, rfl, rfl, RgOk.of_le (by omega) (by omega) (by omega) (by omega), fun l nl => ?_⟩
    exact q l _ nl (by rw [upd_same, near_V hp hr0]) (same_new nl)
theorem scFurther : FnScope ["beginnings", "near", "longer", "used", "many", "thing", "bit"] ["beginnings", "near"] (defScope s_one_place_further) := ⟨rfl, rfl, rfl, by decide +kernel, rfl, by decide +kernel, by decide +kernel⟩
set_option maxHeartbeats 2000000 in
theorem ok_further {f : Addr} {fd : FuncData} {k : Nat} (T : Df K mg "one_place_further" s_one_place_further ["beginnings", "near"] f fd) (B : Bi mg) : FnOk P w K mg base CX0 (k + 1) f fd ["beginnings", "near"] spFurther := by
  refine T.F.ok scFurther (fun vs H Q E h => ?_) (fun cdv A outer s H vs Q E hr h => ?_)
  · obtain ⟨a, b, d, lo, c, rfl, _⟩ := h
    rfl
  · obtain ⟨a, b, d, lo, c, rfl, ha, hd, hb, hc, q⟩ := h
    refine ⟨_, 
      (pss_cons (ps_set (i := 2) scFurther.nd rfl (.inl rfl) pe_dnewK)
      (pss_cons (ps_lock (ps_for PassesOwn.never rfl (pi_items (pv 0)) (pg_tup (by rfl) (pgs_cons (pg_name (i := 3) scFurther.nd rfl (.inl rfl)) (pgs_cons (pg_name (i := 4) scFurther.nd rfl (.inl rfl)) pgs_nil)))
        (pss_one (ps_for PassesOwn.never rfl (pi_list (pv 1)) (pg_name (i := 5) scFurther.nd rfl (.inl rfl))
          (pss_cons (ps_set (i := 6) scFurther.nd rfl (.inl rfl) (pe_op op_shl pe_int (pv 5)))
          (pss_one (ps_if (pt_cmpR op_eq (pe_op op_and (pv 3) (pv 6)) pe_int (nomark _))
            (pss_one (ps_dput (hu_of hr) (pv 2) (pe_op op_or (pv 3) (pv 6)) (pe_op op_add (pe_dget2 (hu_of hr) (pv 2) (pe_op op_or (pv 3) (pv 6)) pe_int ⟨by rfl, by rfl, by rfl, by rfl⟩) (pv 4)) (by rfl)))
            pss_nil)))))))
      (pss_one (ps_ret (pv 2))))), ?_⟩
    refine fun l nl => ?_
    have s1 := same_new (o := .dK []) nl
    have nla : l ≠ a := (ne_of_none ha nl).symm
    have nlb : l ≠ b := (ne_of_none hb nl).symm
    have nba : b ≠ a := fun z => by rw [z, ha] at hb; cases hb
    refine ⟨a, _, s1 _ _ ha, trivial, fun od => ?_⟩
    refine ⟨_, rfl, a, od, _, rfl, upd_same, ?_⟩
    refine for_items (od := od) (kvs := dN d) (fun i σ H3 => ∃ (y3 y4 y5 y6 : Option V), σ = [some (.ref a), some (.ref b), some (.ref l), y3, y4, y5, y6] ∧ H3 l = some (.dK (dN (stOut d lo c i))) ∧ H3 a = some (.frz od (.dK (dN d))) ∧ (∀ u o, H u = some o → u ≠ a → H3 u = some o))
      ⟨_, _, _, _, rfl, by rw [upd_ne nla]; exact upd_same, upd_same, fun u o e nu => by rw [upd_ne nu]; exact s1 _ _ e⟩ (fun i σ H3 hW => by obtain ⟨_, _, _, _, _, _, h3, _⟩ := hW; exact h3) (fun i kk v t σ H3 hx hW nt => ?_) (fun σ H3 hW => ?_)
    · obtain ⟨y3, y4, y5, y6, rfl, hl3, ha3, kp⟩ := hW
      obtain ⟨hi, rfl, rfl⟩ := dN_at hx
      obtain ⟨g1, _, _⟩ := stOut_good hd hc i (by omega)
      have hmem : d.getD i (0, 0) ∈ d := by rw [getD_at hi]; exact List.getElem_mem _
      have hm := hd.pos _ hmem
      have hu := hd.lt _ (List.mem_map.mpr ⟨_, hmem, rfl⟩)
      generalize hux : (d.getD i (0, 0)).1 = ux at hu
      generalize hmx : (d.getD i (0, 0)).2 = mx at hm
      have st := same_new (o := .tup [kV (Sum.inl ((ux : Nat) : Int)), .int mx]) nt
      have hl4 := st _ _ hl3
      have ha4 := st _ _ ha3
      have kp4 : ∀ u o, H u = some o → u ≠ a → (upd H3 t (.tup [kV (Sum.inl ((ux : Nat) : Int)), .int mx])) u = some o := fun u o e nu => st _ _ (kp u o e nu)
      have ht4 : (upd H3 t (.tup [kV (Sum.inl ((ux : Nat) : Int)), .int mx])) t = some (.tup [kV (Sum.inl ((ux : Nat) : Int)), .int mx]) := upd_same
      generalize upd H3 t (.tup [kV (Sum.inl ((ux : Nat) : Int)), .int mx]) = H4 at ht4 hl4 ha4 kp4 ⊢
      refine ⟨t, _, rfl, .inl (.inl ht4), rfl, _, _, rfl, _, _, rfl, rfl, ?_⟩
      refine ⟨_, rfl, b, rfl, ⟨_, SqL.of (kp4 _ _ hb nba)⟩, ?_⟩
      refine for_list (xs := (nearT lo c).map V.int) (fun j σ H5 => ∃ (y5 y6 : Option V), σ = [some (.ref a), some (.ref b), some (.ref l), some (.int ((ux : Nat) : Int)), some (.int mx), y5, y6] ∧ H5 l = some (.dK (dN (stIn ux mx lo j (stOut d lo c i)))) ∧ H5 a = some (.frz od (.dK (dN d))) ∧ (∀ u o, H u = some o → u ≠ a → H5 u = some o))
        ⟨_, _, rfl, hl4, ha4, kp4⟩ (fun j σ H5 _ hW => by obtain ⟨_, _, _, _, _, kp5⟩ := hW; exact SqL.of (kp5 _ _ hb nba)) (fun j x σ H5 hx hW => ?_) (fun σ H5 hW => ?_)
      · obtain ⟨z5, z6, rfl, hl5, ha5, kp5⟩ := hW
        obtain ⟨y, ey, rfl⟩ := int_at_inv hx
        have hj := (List.getElem?_eq_some_iff.mp ey).1
        rw [near_len] at hj
        rw [near_at hj] at ey
        have ey2 := Option.some.inj ey
        subst ey2
        obtain ⟨k1, _, _, _⟩ := stIn_good (lo := lo) hu hm j _ g1 (by omega)
        have hln := k1.len
        refine ⟨_, rfl, 1, _, rfl, rfl, ⟨by omega, by omega, by decide⟩, ?_⟩
        refine ⟨_, rfl, _, rfl, _, _, rfl, rfl, rfl, _, rfl, ?_⟩
        rw [bit_read hu (show lo + j < 12 by omega)]
        cases htb : ux.testBit (lo + j) with
        | true =>
          refine iteF ⟨_, _, rfl, ?_, ha5, kp5⟩
          rw [stIn, htb, if_pos rfl]
          exact hl5
        | false =>
          refine iteT ?_
          have eb := bit_or htb hu (show lo + j < 12 by omega)
          have eg : DGet H5 l (V.int (Builtin.bitOr (ux : Int) (1 * 2 ^ (((lo + j : Nat)) : Int).toNat))) (valV (dN (stIn ux mx lo j (stOut d lo c i))) (Sum.inl ((ux + 2 ^ (lo + j) : Nat) : Int))) := by
            rw [eb]
            exact DGet.k (k := Sum.inl _) hl5
          have ep : DPut H5 l (V.int (Builtin.bitOr (ux : Int) (1 * 2 ^ (((lo + j : Nat)) : Int).toNat))) (V.int (lookN (stIn ux mx lo j (stOut d lo c i)) (ux + 2 ^ (lo + j)) + mx)) (upd H5 l (.dK (dN (stIn ux mx lo (j + 1) (stOut d lo c i))))) := by
            rw [eb, stIn, htb, if_neg (by decide), ← dN_put]
            exact DPut.k (k := Sum.inl _) hl5 (line_lt (by rw [dN_len]; omega))
          refine ⟨_, rfl, l, rfl, .inl ⟨_, .inl hl5⟩, _, rfl, _, rfl, _, _, rfl, rfl, _, eg, _, rfl, _, _, dN_get _ _, rfl, _, rfl, _, rfl, _, rfl, _, _, rfl, rfl, l, _, rfl, ep, _, _, rfl, upd_same, ?_, fun u o e nu => ?_⟩
          · rw [upd_ne nla.symm]
            exact ha5
          · rw [upd_ne (ne_of_none e nl)]
            exact kp5 u o e nu
      · obtain ⟨z5, z6, rfl, hl5, ha5, kp5⟩ := hW
        rw [List.length_map, near_len] at hl5
        refine ⟨_, _, _, _, rfl, ?_, ha5, kp5⟩
        rw [stOut, hux, hmx]
        exact hl5
    · obtain ⟨y3, y4, y5, y6, rfl, hl3, ha3, kp⟩ := hW
      rw [dN_len] at hl3
      refine ⟨ha3, _, rfl, q l _ nl (by rw [upd_ne nla]; exact hl3) fun u o e => ?_⟩
      by_cases c : u = a
      · subst c
        rw [upd_same]
        rw [ha] at e
        exact e
      · rw [upd_ne c]
        exact kp u o e c
theorem scShN : FnScope ["n", "r", "beginnings", "place", "near"] ["n", "r"] (defScope s_shift_within) := ⟨rfl, rfl, rfl, by decide +kernel, rfl, by decide +kernel, by decide +kernel⟩
set_option maxHeartbeats 1000000 in
theorem ok_shN {f f1 f2 : Addr} {fd d1 d2 : FuncData} {k : Nat} (T : Df K mg "shift_within" s_shift_within ["n", "r"] f fd) (T_things_near : Df K mg "things_near" s_things_near ["place", "n", "r"] f1 d1) (T_one_place_further : Df K mg "one_place_further" s_one_place_further ["beginnings", "near"] f2 d2) (B : Bi mg) : FnOk P w K mg base CX0 (k + 2) f fd ["n", "r"] spShN := by
  have G_things_near : FnOk P w K mg base CX0 (k + 1) f1 d1 ["place", "n", "r"] spNearT := ok_nearT T_things_near B
  have G_one_place_further : FnOk P w K mg base CX0 (k + 1) f2 d2 ["beginnings", "near"] spFurther := ok_further T_one_place_further B
  refine T.F.ok scShN (fun vs H Q E h => ?_) (fun cdv A outer s H vs Q E hr h => ?_)
  · obtain ⟨n, r, rfl, _⟩ := h
    rfl
  · obtain ⟨n, r, rfl, hn1, hn2, hr0, q⟩ := h
    refine ⟨_, 
      (pss_cons (ps_set (i := 2) scShN.nd rfl (.inl rfl) (pe_disp (pps_cons pe_int pe_int pps_nil) (by rfl) (by rfl) (fun z => by cases z) (by decide)))
      (pss_cons (ps_for PassesOwn.never rfl (pi_range1 (by rfl) B.range (pa_cons (pv 0) pa_nil)) (pg_name (i := 3) scShN.nd rfl (.inl rfl))
        (pss_cons (ps_set (i := 4) scShN.nd rfl (.inl rfl) (pe_call G_things_near hr (by rfl) T_things_near.g T_things_near.F.kp T_things_near.b .nil pass0 (pa_cons (pv 3) (pa_cons (pv 0) (pa_cons (pv 1) pa_nil)))))
        (pss_one (ps_set (i := 2) scShN.nd rfl (.inl rfl) (pe_call G_one_place_further hr (by rfl) T_one_place_further.g T_one_place_further.F.kp T_one_place_further.b .nil pass0 (pa_cons (pv 2) (pa_cons (pv 4) pa_nil)))))))
      (pss_one (ps_ret (pe_sumVals rfl (by rfl) B.sum (pv 2)))))), ?_⟩
    refine fun l nl => ⟨upd_same, [(Sum.inl 0, .int 1)], rfl, by decide, ?_⟩
    have s1 : Same H (upd (upd H l (.dK [])) l (.dK (mergeK [] [(Sum.inl 0, .int 1)]))) := fun u o e => by rw [upd_ne (ne_of_none e nl), upd_ne (ne_of_none e nl)]; exact e
    refine ⟨_, rfl, n, rfl, by omega, by omega, ?_⟩
    rw [Int.toNat_natCast]
    refine for_range (n := n) (fun i σ H1 => ∃ (l : Addr) (y3 y4 : Option V), σ = [some (.int n), some (.int r), some (.ref l), y3, y4] ∧ H1 l = some (.dK (dN (shD n r i))) ∧ Same H H1) ⟨l, _, _, rfl, by rw [upd_same]; rfl, s1⟩ (fun i σ H1 hi hW => ?_) (fun σ H1 hW => ?_)
    · obtain ⟨l, y3, y4, rfl, hl, sm⟩ := hW
      obtain ⟨g1, _, _⟩ := shD_good (r := r) hn2 hr0 i (by omega)
      obtain ⟨l1, _, _⟩ := lo_ct (r := r) hn2 hi hr0
      refine ⟨_, rfl, _, rfl, _, rfl, i, n, r, by rw [Int.zero_add]; rfl, hi, hn2, hr0, fun p H2 np hp s2 => ?_⟩
      refine ⟨_, rfl, _, rfl, l, p, _, _, _, rfl, s2 _ _ hl, g1, hp, l1, fun l2 H3 nl2 hl2 s3 => ?_⟩
      exact ⟨l2, _, _, rfl, hl2, (sm.trans s2).trans s3⟩
    · obtain ⟨l, y3, y4, rfl, hl, sm⟩ := hW
      exact ⟨_, rfl, l, _, _, rfl, hl, dN_sum _, q H1 sm⟩
theorem scKW : FnScope ["way", "n", "r"] ["way", "n", "r"] (defScope s_known_within) := ⟨rfl, rfl, rfl, by decide +kernel, rfl, by decide +kernel, by decide +kernel⟩
theorem ok_kw {f f1 f2 f3 f4 f5 f6 f7 : Addr} {fd d1 d2 d3 d4 d5 d6 d7 : FuncData} {k : Nat} (T : Df K mg "known_within" s_known_within ["way", "n", "r"] f fd) (T_swap_counts : Df K mg "swap_counts" s_swap_counts ["n"] f1 d1) (T_spot_counts : Df K mg "spot_counts" s_spot_counts ["n"] f2 d2) (T_shift_within : Df K mg "shift_within" s_shift_within ["n", "r"] f3 d3) (T4 : Df K mg "swap_counts_with_one_more" s_swap_counts_with_one_more ["counts", "behind"] f4 d4) (T5 : Df K mg "count_all_moved" s_count_all_moved ["n"] f5 d5) (T6 : Df K mg "things_near" s_things_near ["place", "n", "r"] f6 d6) (T7 : Df K mg "one_place_further" s_one_place_further ["beginnings", "near"] f7 d7) (B : Bi mg) : FnOk P w K mg base CX0 (k + 3) f fd ["way", "n", "r"] spKW := by
  have G_swap_counts : FnOk P w K mg base CX0 (k + 2) f1 d1 ["n"] spSwC := ok_swC T_swap_counts T4 B
  have G_spot_counts : FnOk P w K mg base CX0 (k + 2) f2 d2 ["n"] spSpC := ok_spC T_spot_counts T5 B
  have G_shift_within : FnOk P w K mg base CX0 (k + 2) f3 d3 ["n", "r"] spShN := ok_shN T_shift_within T6 T7 B
  refine T.F.ok scKW (fun vs H Q E h => ?_) (fun cdv A outer s H vs Q E hr h => ?_)
  · obtain ⟨wy, n, r, rfl, _⟩ := h
    rfl
  · obtain ⟨wy, n, r, rfl, hw, hn1, hn2, hr0, q⟩ := h
    refine ⟨_, 
      (pss_cons (ps_if (pt_cmpR op_eq (pv 0) pe_str (nomark _))
        (pss_one (ps_ret (pe_callB (cr_sum rfl) (by rfl) B.sum (by decide +kernel) (pa_cons (pe_slice sl_list (pe_call G_swap_counts hr (by rfl) T_swap_counts.g T_swap_counts.F.kp T_swap_counts.b .nil pass0 (pa_cons (pv 1) pa_nil)) po_none (po_some (pe_op op_add (pv 2) pe_int))) pa_nil))))
        pss_nil)
      (pss_cons (ps_if (pt_cmpR op_eq (pv 0) pe_str (nomark _))
        (pss_one (ps_ret (pe_callB (cr_sum rfl) (by rfl) B.sum (by decide +kernel) (pa_cons (pe_slice sl_list (pe_call G_spot_counts hr (by rfl) T_spot_counts.g T_spot_counts.F.kp T_spot_counts.b .nil pass0 (pa_cons (pv 1) pa_nil)) po_none (po_some (pe_op op_add (pv 2) pe_int))) pa_nil))))
        pss_nil)
      (pss_one (ps_ret (pe_call G_shift_within hr (by rfl) T_shift_within.g T_shift_within.F.kp T_shift_within.b .nil pass0 (pa_cons (pv 1) (pa_cons (pv 2) pa_nil))))))), ?_⟩
    have er : r + 1 = (((r + 1).toNat : Nat) : Int) := by omega
    rcases hw with rfl | rfl | rfl
    · refine ⟨_, rfl, rfl, _, rfl, ite2 (fun _ => ?_) (fun c => absurd (by decide +kernel) c)⟩
      refine ⟨_, rfl, n, rfl, hn1, hn2, fun l H1 nl hl s1 => ?_⟩
      refine ⟨_, rfl, r, 1, rfl, rfl, _, rfl, l, _, rfl, SqL.of hl, fun p np => ?_⟩
      refine ⟨p, (swC (n - 1)).take (r + 1).toNat, rfl, SqL.of (by rw [upd_same, cut_ints, er, cutI_head, Int.toNat_natCast]), ?_⟩
      rw [← inW_swap]
      exact q _ (s1.trans (same_new np))
    · refine ⟨_, rfl, rfl, _, rfl, ite2 (fun c => absurd c (by decide +kernel)) (fun _ => ?_)⟩
      refine ⟨_, rfl, rfl, _, rfl, ite2 (fun _ => ?_) (fun c => absurd (by decide +kernel) c)⟩
      refine ⟨_, rfl, n, rfl, hn1, hn2, fun l H1 nl hl s1 => ?_⟩
      refine ⟨_, rfl, r, 1, rfl, rfl, _, rfl, l, _, rfl, SqL.of hl, fun p np => ?_⟩
      refine ⟨p, (spC n).take (r + 1).toNat, rfl, SqL.of (by rw [upd_same, cut_ints, er, cutI_head, Int.toNat_natCast]), ?_⟩
      rw [← inW_spot]
      exact q _ (s1.trans (same_new np))
    · refine ⟨_, rfl, rfl, _, rfl, ite2 (fun c => absurd c (by decide +kernel)) (fun _ => ?_)⟩
      refine ⟨_, rfl, rfl, _, rfl, ite2 (fun c => absurd c (by decide +kernel)) (fun _ => ?_)⟩
      exact ⟨_, rfl, _, rfl, n, r, rfl, hn1, hn2, hr0, fun H1 s1 => by rw [← inW_shift]; exact q H1 s1⟩
end
end Fo
namespace Fo
open PySem PySem.Spec PyProof.Rows L2
def spCount : Sp := fun vs H Q _ => ∃ (w : Str) (n : Nat) (r : Int), vs = [.str w, .int n, .int r] ∧ IsWay w ∧ 1 ≤ n ∧ n ≤ 12 ∧ 0 ≤ r ∧ Q .non H
def atW (w : Str) (n : Nat) (r : Int) : Int := if r = 0 then inW w n 0 else inW w n r - inW w n (r - 1)
def spAt : Sp := fun vs H Q _ => ∃ (w : Str) (n : Nat) (r : Int), vs = [.str w, .int n, .int r] ∧ IsWay w ∧ 1 ≤ n ∧ n ≤ 12 ∧ 0 ≤ r ∧ ∀ H', Same H H' → Q (.int (atW w n r)) H'
section
variable {P : Program} {w : World} {K : PySem.W.Frag} {mg : Str → Option Value} {base : Heap}
theorem scCount : FnScope ["way", "n", "r"] ["way", "n", "r"] (defScope s_check_count) := ⟨rfl, rfl, rfl, by decide +kernel, rfl, by decide +kernel, by decide +kernel⟩
theorem ok_count {f f1 f2 f3 fW aW : Addr} {fd d1 d2 d3 dW : FuncData} {k : Nat} {tk : Tok} (T : Df K mg "check_count" s_check_count ["way", "n", "r"] f fd) (T_check_way : Df K mg "check_way" s_check_way ["thing"] f1 d1) (T_check_size : Df K mg "check_size" s_check_size ["thing", "most"] f2 d2) (T_check_from : Df K mg "check_from" s_check_from ["thing", "least"] f3 d3) (T_is_whole : Df K mg "is_whole" s_is_whole ["thing"] fW dW) (W : Wy K mg aW) (B : Bi mg) (mM : mg "MOST_THINGS" = some (.int 12 tk)) : FnOk P w K mg base CX0 (k + 3) f fd ["way", "n", "r"] spCount := by
  have G_check_way : FnOk P w K mg base CX0 (k + 2) f1 d1 ["thing"] spWay := ok_way (k := k + 1) T_check_way W B
  have G_check_size : FnOk P w K mg base CX0 (k + 2) f2 d2 ["thing", "most"] spSize := ok_size T_check_size T_is_whole B
  have G_check_from : FnOk P w K mg base CX0 (k + 2) f3 d3 ["thing", "least"] spFrom := ok_from T_check_from T_is_whole B
  refine T.F.ok scCount (fun vs H Q E h => ?_) (fun cdv A outer s H vs Q E hr h => ?_)
  · obtain ⟨w, n, r, rfl, _⟩ := h
    rfl
  · obtain ⟨w, n, r, rfl, hw, h1, h2, h3, q⟩ := h
    refine ⟨_, 
      (pss_cons (ps_expr (pe_call G_check_way hr (by rfl) T_check_way.g T_check_way.F.kp T_check_way.b .nil pass0 (pa_cons (pv 0) pa_nil)))
      (pss_cons (ps_expr (pe_call G_check_size hr (by rfl) T_check_size.g T_check_size.F.kp T_check_size.b .nil pass0 (pa_cons (pv 1) (pa_cons (pe_glob (v := .int 12) (by rfl) mM ⟨_, rfl⟩) pa_nil))))
      (pss_one (ps_expr (pe_call G_check_from hr (by rfl) T_check_from.g T_check_from.F.kp T_check_from.b .nil pass0 (pa_cons (pv 2) (pa_cons pe_int pa_nil))))))), ?_⟩
    exact ⟨_, rfl, w, rfl, hw, _, rfl, n, 12, rfl, by omega, by omega, _, rfl, r, 0, rfl, h3, q⟩
theorem scCW : FnScope ["way", "n", "r"] ["way", "n", "r"] (defScope s_count_within) := ⟨rfl, rfl, rfl, by decide +kernel, rfl, by decide +kernel, by decide +kernel⟩
theorem ok_cw {f f1 f2 : Addr} {fd d1 d2 : FuncData} {k : Nat} (T : Df K mg "count_within" s_count_within ["way", "n", "r"] f fd) (T_check_count : Df K mg "check_count" s_check_count ["way", "n", "r"] f1 d1) (T_known_within : Df K mg "known_within" s_known_within ["way", "n", "r"] f2 d2) (G_check_count : FnOk P w K mg base CX0 k f1 d1 ["way", "n", "r"] spCount) (G_known_within : FnOk P w K mg base CX0 k f2 d2 ["way", "n", "r"] spKW) : FnOk P w K mg base CX0 (k + 1) f fd ["way", "n", "r"] spKW := by
  refine T.F.ok scCW (fun vs H Q E h => ?_) (fun cdv A outer s H vs Q E hr h => ?_)
  · obtain ⟨w, n, r, rfl, _⟩ := h
    rfl
  · obtain ⟨w, n, r, rfl, hw, h1, h2, h3, q⟩ := h
    refine ⟨_, 
      (pss_cons (ps_expr (pe_call G_check_count hr (by rfl) T_check_count.g T_check_count.F.kp T_check_count.b .nil pass0 (pa_cons (pv 0) (pa_cons (pv 1) (pa_cons (pv 2) pa_nil)))))
      (pss_one (ps_ret (pe_call G_known_within hr (by rfl) T_known_within.g T_known_within.F.kp T_known_within.b .nil pass0 (pa_cons (pv 0) (pa_cons (pv 1) (pa_cons (pv 2) pa_nil))))))), ?_⟩
    exact ⟨_, rfl, _, rfl, _, rfl, w, n, r, rfl, hw, h1, h2, h3, _, rfl, _, rfl, _, rfl, w, n, r, rfl, hw, h1, h2, h3, q⟩
theorem scCA : FnScope ["way", "n", "r"] ["way", "n", "r"] (defScope s_count_at) := ⟨rfl, rfl, rfl, by decide +kernel, rfl, by decide +kernel, by decide +kernel⟩
theorem ok_ca {f f1 f2 : Addr} {fd d1 d2 : FuncData} {k : Nat} (T : Df K mg "count_at" s_count_at ["way", "n", "r"] f fd) (T_check_count : Df K mg "check_count" s_check_count ["way", "n", "r"] f1 d1) (T_known_within : Df K mg "known_within" s_known_within ["way", "n", "r"] f2 d2) (G_check_count : FnOk P w K mg base CX0 k f1 d1 ["way", "n", "r"] spCount) (G_known_within : FnOk P w K mg base CX0 k f2 d2 ["way", "n", "r"] spKW) : FnOk P w K mg base CX0 (k + 1) f fd ["way", "n", "r"] spAt := by
  refine T.F.ok scCA (fun vs H Q E h => ?_) (fun cdv A outer s H vs Q E hr h => ?_)
  · obtain ⟨w, n, r, rfl, _⟩ := h
    rfl
  · obtain ⟨w, n, r, rfl, hw, h1, h2, h3, q⟩ := h
    refine ⟨_, 
      (pss_cons (ps_expr (pe_call G_check_count hr (by rfl) T_check_count.g T_check_count.F.kp T_check_count.b .nil pass0 (pa_cons (pv 0) (pa_cons (pv 1) (pa_cons (pv 2) pa_nil)))))
      (pss_cons (ps_if (pt_cmpR op_eq (pv 2) pe_int (nomark _))
        (pss_one (ps_ret (pe_call G_known_within hr (by rfl) T_known_within.g T_known_within.F.kp T_known_within.b .nil pass0 (pa_cons (pv 0) (pa_cons (pv 1) (pa_cons pe_int pa_nil))))))
        pss_nil)
      (pss_one (ps_ret (pe_op op_sub (pe_call G_known_within hr (by rfl) T_known_within.g T_known_within.F.kp T_known_within.b .nil pass0 (pa_cons (pv 0) (pa_cons (pv 1) (pa_cons (pv 2) pa_nil)))) (pe_call G_known_within hr (by rfl) T_known_within.g T_known_within.F.kp T_known_within.b .nil pass0 (pa_cons (pv 0) (pa_cons (pv 1) (pa_cons (pe_op op_sub (pv 2) pe_int) pa_nil))))))))), ?_⟩
    refine ⟨_, rfl, _, rfl, _, rfl, w, n, r, rfl, hw, h1, h2, h3, ?_⟩
    refine ⟨_, rfl, rfl, _, rfl, ite2 (fun c => ?_) (fun c => ?_)⟩
    · have e : r = 0 := V.int.inj (of_decide_eq_true c)
      refine ⟨_, rfl, _, rfl, w, n, 0, rfl, hw, h1, h2, by decide, fun H1 s1 => ?_⟩
      have z := q H1 s1
      unfold atW at z
      rw [if_pos e] at z
      exact z
    · have e : r ≠ 0 := fun e => c (by rw [e]; exact decide_eq_true rfl)
      refine ⟨_, rfl, _, rfl, _, rfl, w, n, r, rfl, hw, h1, h2, h3, fun H1 s1 => ?_⟩
      refine ⟨_, rfl, _, rfl, _, rfl, r, 1, rfl, rfl, w, n, r - 1, rfl, hw, h1, h2, by omega, fun H2 s2 => ?_⟩
      refine ⟨_, _, rfl, rfl, ?_⟩
      have z := q H2 (s1.trans s2)
      unfold atW at z
      rw [if_neg e] at z
      exact z
end
end Fo
namespace Fo
open PySem PySem.Spec PyProof.Rows L2
/-! ### a store: the drawn numbers and how many were taken -/
structure Sk where
  d : Addr
  dl : Addr
  ds : List Int
structure SkAt (H : Hp) (S : Sk) : Prop where
  top : ∃ i : Int, H S.d = some (.lst [.ref S.dl, .int i])
  nums : H S.dl = some (.lst (S.ds.map V.int))
  len : 0 < S.ds.length
  pos : ∀ x ∈ S.ds, 0 ≤ x
  ne : S.dl ≠ S.d
def KeepS (S : Sk) (H H' : Hp) : Prop := ∀ b o, H b = some o → b ≠ S.d → H' b = some o
theorem KeepS.trans {S : Sk} {H H1 H2 : Hp} (a : KeepS S H H1) (b : KeepS S H1 H2) : KeepS S H H2 := fun c o e f => b c o (a c o e f) f
theorem KeepS.of_same {S : Sk} {H H' : Hp} (h : Same H H') : KeepS S H H' := fun b o e _ => h b o e
theorem SkAt.same {H H' : Hp} {S : Sk} (h : SkAt H S) (s : Same H H') : SkAt H' S := ⟨by obtain ⟨i, e⟩ := h.top; exact ⟨i, s _ _ e⟩, s _ _ h.nums, h.len, h.pos, h.ne⟩
theorem SkAt.apart {H : Hp} {S : Sk} (h : SkAt H S) {p : Addr} (e : H p = none) : p ≠ S.d ∧ p ≠ S.dl := by
  obtain ⟨i, e1⟩ := h.top
  exact ⟨(ne_of_none e1 e).symm, (ne_of_none h.nums e).symm⟩
theorem SkAt.upd {H : Hp} {S : Sk} (h : SkAt H S) {p : Addr} {o : HO} (n1 : p ≠ S.d) (n2 : p ≠ S.dl) : SkAt (upd H p o) S :=
  ⟨by obtain ⟨i, e⟩ := h.top; exact ⟨i, by rw [upd_ne n1.symm]; exact e⟩, by rw [upd_ne n2.symm]; exact h.nums, h.len, h.pos, h.ne⟩
theorem keepS_none {S : Sk} {H H1 : Hp} (k : KeepS S H H1) {p : Addr} (np : H1 p = none) (nf : p ≠ S.d) : H p = none := by
  cases e : H p with
  | none => rfl
  | some o =>
    have z := k p o e nf
    rw [np] at z
    cases z
def spDraws (K : PySem.W.Frag) : Sp := fun vs H Q _ => ∃ (a : Addr) (ns : List Int) (many : Int), vs = [.ref a, .int many] ∧ SqL K H a (ns.map V.int) ∧ ns.length ≤ 63 ∧ 0 < many ∧ many ≤ 1000 ∧
  ∀ (ds : List Int) (l : Addr) (H' : Hp), 0 < ds.length → (∀ x ∈ ds, 0 ≤ x) → H l = none → H' l = some (.lst (ds.map V.int)) → Same H H' → Q (.ref l) H'
def spTake : Sp := fun vs H Q _ => ∃ (S : Sk) (many : Int), vs = [.ref S.d, .int many] ∧ SkAt H S ∧ 0 < many ∧ ∀ (v : Int) (H' : Hp), 0 ≤ v → v < many → SkAt H' S → KeepS S H H' → Q (.int v) H'
def spOrder : Sp := fun vs H Q _ => ∃ (S : Sk) (n : Nat), vs = [.ref S.d, .int n] ∧ SkAt H S ∧ 1 ≤ n ∧ n ≤ 12 ∧
  ∀ (ns : List Int) (l : Addr) (H' : Hp), IsOrd n ns → H l = none → H' l = some (.lst (ns.map V.int)) → SkAt H' S → KeepS S H H' → Q (.ref l) H'
section
variable {P : Program} {w : World} {K : PySem.W.Frag} {mg : Str → Option Value} {base : Heap}
theorem mod_b (x : Int) {m : Int} (h : 0 < m) : 0 ≤ x % m ∧ x % m < m := ⟨Int.emod_nonneg x (by omega), Int.emod_lt_of_pos x h⟩
theorem scTake : FnScope ["store", "many"] ["store", "many"] (defScope s_law_take) := ⟨rfl, rfl, rfl, by decide +kernel, rfl, by decide +kernel, by decide +kernel⟩
theorem ok_take {f : Addr} {fd : FuncData} {k : Nat} (T : Df K mg "_law_take" s_law_take ["store", "many"] f fd) (B : Bi mg) : FnOk P w K mg base CX0 (k + 1) f fd ["store", "many"] spTake := by
  refine T.F.ok scTake (fun vs H Q E h => ?_) (fun cdv A outer s H vs Q E hr h => ?_)
  · obtain ⟨S, m, rfl, _⟩ := h
    rfl
  · obtain ⟨S, m, rfl, hS, hm, q⟩ := h
    obtain ⟨i, hd⟩ := hS.top
    refine ⟨_, 
      (pss_cons (ps_asg (pe_op op_add (pe_ix ix_list (pv 0) pe_int (fun _ _ => rfl)) pe_int) (pg_sub (pv 0) pe_int set_list))
      (pss_one (ps_ret (pe_op op_mod (pe_ix ix_list (pe_ix ix_list (pv 0) pe_int (fun _ _ => rfl)) (pe_op op_mod (pe_op op_sub (pe_ix ix_list (pv 0) pe_int (fun _ _ => rfl)) pe_int) (pe_callB call_len_seq (by rfl) B.len PySem.boot_len (pa_cons (pe_ix ix_list (pv 0) pe_int (fun _ _ => rfl)) pa_nil))) (fun _ _ => rfl)) (pv 1))))), ?_⟩
    refine ⟨_, rfl, S.d, _, 1, _, rfl, rfl, SqL.of hd, at2_1, i, 1, rfl, rfl, _, rfl, S.d, _, 1, 1, rfl, rfl, hd, rfl, ?_⟩
    have hd1 : (upd H S.d (.lst [.ref S.dl, .int (i + 1)])) S.d = some (.lst [.ref S.dl, .int (i + 1)]) := upd_same
    have hn1 : (upd H S.d (.lst [.ref S.dl, .int (i + 1)])) S.dl = some (.lst (S.ds.map V.int)) := by rw [upd_ne hS.ne]; exact hS.nums
    have hl := hS.len
    have hlm : (S.ds.map V.int).length = S.ds.length := List.length_map _
    obtain ⟨b1, b2⟩ := mod_b (i + 1 - 1) (m := (((S.ds.map V.int).length : Nat) : Int)) (by rw [hlm]; omega)
    obtain ⟨j, ej⟩ : ∃ j : Nat, (i + 1 - 1) % (((S.ds.map V.int).length : Nat) : Int) = (j : Int) := ⟨((i + 1 - 1) % (((S.ds.map V.int).length : Nat) : Int)).toNat, by omega⟩
    have hj : j < S.ds.length := by rw [hlm] at b2 ej; omega
    refine ⟨_, rfl, S.d, _, 0, _, rfl, rfl, SqL.of hd1, at2_0, _, rfl, S.d, _, 1, _, rfl, rfl, SqL.of hd1, at2_1, i + 1, 1, rfl, rfl, _, rfl, S.d, _, 0, _, rfl, rfl, SqL.of hd1, at2_0, S.dl, _, rfl, .inl (SqL.of hn1), _, _, rfl, rfl, ?_, S.dl, _, _, _, rfl, rfl, SqL.of hn1, at_of ej (int_at (List.getElem?_eq_getElem hj)), _, rfl, _, m, rfl, rfl, hm, ?_⟩
    · rw [hlm]; omega
    obtain ⟨c1, c2⟩ := mod_b S.ds[j] hm
    exact q _ _ c1 c2 ⟨⟨i + 1, hd1⟩, hn1, hS.len, hS.pos, hS.ne⟩ fun b o e nb => by rw [upd_ne nb]; exact e
theorem scDraws : FnScope ["script", "many", "drawn", "base", "k", "cell", "number", "one"] ["script", "many"] (defScope s_law_draws) := ⟨rfl, rfl, rfl, by decide +kernel, rfl, by decide +kernel, by decide +kernel⟩
set_option maxHeartbeats 4000000 in
theorem ok_draws {f : Addr} {fd : FuncData} {k : Nat} (T : Df K mg "_law_draws" s_law_draws ["script", "many"] f fd) (B : Bi mg) : FnOk P w K mg base CX0 (k + 1) f fd ["script", "many"] (spDraws K) := by
  refine T.F.ok scDraws (fun vs H Q E h => ?_) (fun cdv A outer s H vs Q E hr h => ?_)
  · obtain ⟨a, ns, m, rfl, _⟩ := h
    rfl
  · obtain ⟨a, ns, m, rfl, hS, hlen, hm0, hm1, q⟩ := h
    refine ⟨_, 
      (pss_cons (ps_set (i := 2) scDraws.nd rfl (.inl rfl) (pe_lst pa_nil))
      (pss_cons (ps_set (i := 3) scDraws.nd rfl (.inl rfl) pe_int)
      (pss_cons (ps_for PassesOwn.never rfl (pi_enum (by rfl) B.enumerate (pa_cons (pe_slice sl_list (pv 0) po_none (po_some pe_int)) pa_nil)) (pg_tup (by rfl) (pgs_cons (pg_name (i := 4) scDraws.nd rfl (.inl rfl)) (pgs_cons (pg_name (i := 5) scDraws.nd rfl (.inl rfl)) pgs_nil)))
        (pss_cons (ps_set (i := 6) scDraws.nd rfl (.inl rfl) (pe_callB call_abs (by rfl) B.abs (by decide +kernel) (pa_cons (pv 5) pa_nil)))
        (pss_cons (ps_set (i := 3) scDraws.nd rfl (.inl rfl) (pe_op op_mod (pe_op op_add (pe_op op_mul (pv 3) pe_int) (pv 6)) pe_int))
        (pss_one (ps_if (pt_cmpR op_ge (pv 6) (pe_op op_pow pe_int pe_int) (nomark _))
          (pss_one (ps_while PassesOwn.never (PW.pt (pw_and (pt_cmpR op_gt (pv 6) pe_int (nomark _)) (pw_and1 (pt_cmpR op_lt (pe_callB call_len_seq (by rfl) B.len PySem.boot_len (pa_cons (pv 2) pa_nil)) (pv 1) (nomark _)))))
            (pss_cons (ps_expr (pe_bm PySem.F.plainAttrs_list PySem.F.slot_list_append PySem.F.type_list_append mt_append (pv 2) (pa_cons (pe_op op_mod (pv 6) pe_int) pa_nil)))
            (pss_one (ps_set (i := 6) scDraws.nd rfl (.inl rfl) (pe_op op_fdiv (pv 6) pe_int))))))
          (Evl.pss_cut (ps_set (i := 7) scDraws.nd rfl (.inl rfl) (pe_op op_mod (pe_op op_mul (pe_op op_add (pe_op op_add (pe_op op_mod (pv 6) pe_int) (pv 4)) pe_int) pe_int) pe_int))
          (Evl.pss_cut (ps_set (i := 7) scDraws.nd rfl (.inl rfl) (pe_op op_mod (pe_op op_mul (pv 7) (pv 7)) pe_int))
          (pss_cons (ps_expr (pe_bm PySem.F.plainAttrs_list PySem.F.slot_list_append PySem.F.type_list_append mt_append (pv 2) (pa_cons (pe_op op_mod (pe_op op_fdiv (pv 7) pe_int) pe_int) pa_nil)))
          (Evl.pss_cut (ps_set (i := 7) scDraws.nd rfl (.inl rfl) (pe_op op_mod (pe_op op_add (pe_op op_add (pe_op op_mul (pv 7) pe_int) (pe_op op_mul pe_int (pv 4))) pe_int) pe_int))
          (Evl.pss_cut (ps_set (i := 7) scDraws.nd rfl (.inl rfl) (pe_op op_mod (pe_op op_mul (pv 7) (pv 7)) pe_int))
          (pss_one (ps_expr (pe_bm PySem.F.plainAttrs_list PySem.F.slot_list_append PySem.F.type_list_append mt_append (pv 2) (pa_cons (pe_op op_mod (pe_op op_fdiv (pv 7) pe_int) pe_int) pa_nil))))))))))))))
      (pss_cons (ps_for PassesOwn.never rfl (pi_range1 (by rfl) B.range (pa_cons (pe_op op_sub (pv 1) (pe_callB call_len_seq (by rfl) B.len PySem.boot_len (pa_cons (pv 2) pa_nil))) pa_nil)) (pg_name (i := 4) scDraws.nd rfl (.inl rfl))
        (Evl.pss_cut (ps_set (i := 7) scDraws.nd rfl (.inl rfl) (pe_op op_mod (pe_op op_add (pe_op op_add (pv 3) (pe_op op_mul pe_int (pv 4))) pe_int) pe_int))
        (Evl.pss_cut (ps_set (i := 7) scDraws.nd rfl (.inl rfl) (pe_op op_mod (pe_op op_mul (pv 7) (pv 7)) pe_int))
        (Evl.pss_cut (ps_set (i := 7) scDraws.nd rfl (.inl rfl) (pe_op op_mod (pe_op op_add (pe_op op_mul (pv 7) pe_int) (pv 4)) pe_int))
        (pss_one (ps_expr (pe_bm PySem.F.plainAttrs_list PySem.F.slot_list_append PySem.F.type_list_append mt_append (pv 2) (pa_cons (pe_op op_mod (pe_op op_fdiv (pe_op op_mod (pe_op op_mul (pv 7) (pv 7)) pe_int) pe_int) pe_int) pa_nil))))))))
      (pss_one (ps_ret (pv 2))))))), ?_⟩
    refine ⟨Nat.zero_le _, fun l nl => ?_⟩
    have s1 := same_new (o := .lst []) nl
    refine ⟨_, rfl, 63, rfl, a, _, rfl, s1.seq hS, fun c nc => ?_⟩
    have s2 := s1.trans (same_new (o := .lst (cutV (ns.map V.int) none (some 63))) nc)
    have nlc : l ≠ c := ne_of_none upd_same nc
    have hc2 : (upd (upd H l (.lst [])) c (.lst (cutV (ns.map V.int) none (some 63)))) c = some (.lst ((cutI ns none (some 63)).map V.int)) := by rw [upd_same, cut_ints]
    have hcl : (cutI ns none (some 63)).length ≤ 63 := Nat.le_trans (cutI_len _ _ _) hlen
    refine ⟨c, _, rfl, SqL.of hc2, ?_⟩
    refine for_enumL (xs := (cutI ns none (some 63)).map V.int) (fun i σ H3 => ∃ (b0 : Int) (y4 y5 y6 y7 : Option V) (ds : List Int), σ = [some (.ref a), some (.int m), some (.ref l), some (.int b0), y4, y5, y6, y7] ∧ 0 ≤ b0 ∧ b0 < 2147483629 ∧ ds.length ≤ 1000 + 2 * i ∧ (∀ x ∈ ds, 0 ≤ x) ∧ H3 l = some (.lst (ds.map V.int)) ∧ H3 c = some (.lst ((cutI ns none (some 63)).map V.int)) ∧ Same H H3)
      ⟨7, _, _, _, _, [], rfl, by decide, by decide, by simp, fun x hx => absurd hx List.not_mem_nil, by rw [upd_ne nlc]; exact upd_same, hc2, s2⟩ (fun i σ H3 hP => by obtain ⟨_, _, _, _, _, _, _, _, _, _, _, _, hc3, _⟩ := hP; exact SqL.of hc3) (fun i x t σ H3 hx hP nt => ?_) (fun σ H3 hP => ?_)
    · obtain ⟨b0, y4, y5, y6, y7, ds, rfl, hb0, hb1, hdl, hdp, hl3, hc3, sm⟩ := hP
      obtain ⟨y, ey, rfl⟩ := int_at_inv hx
      have hi := (List.getElem?_eq_some_iff.mp ey).1
      have st := same_new (o := .tup [.int (i : Nat), .int y]) nt
      have hl4 := st _ _ hl3
      have hc4 := st _ _ hc3
      have sm4 := sm.trans st
      have ht4 : (upd H3 t (.tup [.int (i : Nat), .int y])) t = some (.tup [.int (i : Nat), .int y]) := upd_same
      generalize upd H3 t (.tup [.int (i : Nat), .int y]) = H4 at ht4 hl4 hc4 sm4 ⊢
      refine ⟨t, _, rfl, .inl (.inl ht4), rfl, _, _, rfl, _, _, rfl, rfl, ?_⟩
      -- number, base
      refine ⟨_, rfl, y, rfl, ?_⟩
      obtain ⟨num, enum, hnum⟩ : ∃ num : Int, (if y < 0 then -y else y) = num ∧ 0 ≤ num := ⟨_, rfl, by split <;> omega⟩
      rw [enum]
      refine ⟨_, rfl, b0, 31, rfl, rfl, .inl ⟨by omega, by omega⟩, _, rfl, _, num, rfl, rfl, _, 2147483629, rfl, rfl, (show (0 : Int) < 2147483629 by decide), ?_⟩
      obtain ⟨m1, m2⟩ := mod_b (b0 * 31 + num) (m := 2147483629) (by decide)
      refine ⟨_, rfl, 10, 18, rfl, rfl, ⟨by decide, by decide, by decide⟩, num, _, rfl, rfl, _, rfl, ite2 (fun _ => ?_) (fun _ => ?_)⟩
      · -- while
        refine ⟨fun q' σ H5 => ∃ (nm : Int) (es : List Int), σ = [some (.ref a), some (.int m), some (.ref l), some (.int ((b0 * 31 + num) % 2147483629)), some (.int (i : Nat)), some (.int y), some (.int nm), y7] ∧ 0 ≤ nm ∧ q' = nm.toNat ∧ es.length ≤ 1000 + 2 * i ∧ (∀ x ∈ es, 0 ≤ x) ∧ H5 l = some (.lst (es.map V.int)) ∧ H5 c = some (.lst ((cutI ns none (some 63)).map V.int)) ∧ Same H H5,
          ⟨_, num, ds, rfl, hnum, rfl, hdl, hdp, hl4, hc4, sm4⟩, fun q' σ H5 hW => ?_⟩
        obtain ⟨nm, es, rfl, hnm, rfl, hel, hep, hl5, hc5, sm5⟩ := hW
        have stop : ∃ (b0' : Int) (y4 y5 y6 y7' : Option V) (ds : List Int), [some (V.ref a), some (.int m), some (.ref l), some (.int ((b0 * 31 + num) % 2147483629)), some (.int (i : Nat)), some (.int y), some (.int nm), y7] = [some (V.ref a), some (.int m), some (.ref l), some (.int b0'), y4, y5, y6, y7'] ∧ 0 ≤ b0' ∧ b0' < 2147483629 ∧ ds.length ≤ 1000 + 2 * (i + 1) ∧ (∀ x ∈ ds, 0 ≤ x) ∧ H5 l = some (.lst (ds.map V.int)) ∧ H5 c = some (.lst ((cutI ns none (some 63)).map V.int)) ∧ Same H H5 :=
          ⟨_, _, _, _, _, es, rfl, m1, m2, by omega, hep, hl5, hc5, sm5⟩
        refine ⟨_, rfl, nm, 0, rfl, rfl, _, rfl, ite2 (fun c1 => ?_) (fun _ => iteF stop)⟩
        have hnpos : 0 < nm := of_decide_eq_true c1
        refine ⟨_, rfl, l, _, rfl, .inl (SqL.of hl5), _, rfl, _, _, rfl, rfl, _, rfl, ite2 (fun c2 => ?_) (fun _ => stop)⟩
        have hless : (((es.map V.int).length : Nat) : Int) < m := of_decide_eq_true c2
        rw [List.length_map] at hless
        refine ⟨fun σ' H' => ∃ (nm' : Int) (es' : List Int), σ' = [some (.ref a), some (.int m), some (.ref l), some (.int ((b0 * 31 + num) % 2147483629)), some (.int (i : Nat)), some (.int y), some (.int nm'), y7] ∧ 0 ≤ nm' ∧ nm' < nm ∧ es'.length ≤ 1000 + 2 * i ∧ (∀ x ∈ es', 0 ≤ x) ∧ H' l = some (.lst (es'.map V.int)) ∧ H' c = some (.lst ((cutI ns none (some 63)).map V.int)) ∧ Same H H', fun σ' H' hN => ?_, ?_⟩
        · obtain ⟨nm', es', e1, e2, e3, r⟩ := hN
          exact ⟨nm'.toNat, by omega, nm', es', e1, e2, rfl, r⟩
        · refine ⟨_, rfl, .inl ⟨rfl, _, SqL.of hl5⟩, _, rfl, nm, 10007, rfl, rfl, (show (0 : Int) < 10007 by decide), l, _, _, rfl, rfl, hl5, line_lt (by rw [List.length_map]; omega), ?_⟩
          refine ⟨_, rfl, nm, 10007, rfl, rfl, ⟨by decide, by decide⟩, nm / 10007, es ++ [nm % 10007], rfl, Int.ediv_nonneg hnm (by decide), by omega, by rw [List.length_append, List.length_singleton]; omega, fun x hx => ?_, by rw [upd_same, List.map_append]; rfl, by rw [upd_ne nlc.symm]; exact hc5, fun b o e => ?_⟩
          · rcases List.mem_append.mp hx with hx | hx
            · exact hep x hx
            · rw [List.mem_singleton.mp hx]
              exact (mod_b nm (by decide)).1
          · rw [upd_ne (ne_of_none e nl)]
            exact sm5 _ _ e
      · -- two of a small number
        refine ⟨fun τ1 G1 => ∃ o1 : Int, 0 ≤ o1 ∧ o1 < 2147483647 ∧ τ1 = [some (.ref a), some (.int m), some (.ref l), some (.int ((b0 * 31 + num) % 2147483629)), some (.int (i : Nat)), some (.int y), some (.int num), some (.int o1)] ∧ G1 = H4, ?_, fun τ1 G1 hM => ?_⟩
        · exact ⟨_, rfl, num, 2147483647, rfl, rfl, (show (0 : Int) < 2147483647 by decide), _, rfl, _, _, rfl, rfl, _, 1, rfl, rfl, _, 48271, rfl, rfl, .inr ⟨by decide, by decide⟩, _, 2147483647, rfl, rfl, (show (0 : Int) < 2147483647 by decide), _, (mod_b _ (by decide)).1, (mod_b _ (by decide)).2, rfl, rfl⟩
        obtain ⟨o1, o10, o11, rfl, e1⟩ := hM
        subst e1
        refine ⟨fun τ2 G2 => ∃ o2 : Int, 0 ≤ o2 ∧ o2 < 2147483629 ∧ τ2 = [some (.ref a), some (.int m), some (.ref l), some (.int ((b0 * 31 + num) % 2147483629)), some (.int (i : Nat)), some (.int y), some (.int num), some (.int o2)] ∧ G2 = G1, ?_, fun τ2 G2 hM => ?_⟩
        · exact ⟨_, rfl, _, rfl, o1, o1, rfl, rfl, .inl ⟨by omega, by omega⟩, _, 2147483629, rfl, rfl, (show (0 : Int) < 2147483629 by decide), _, (mod_b _ (by decide)).1, (mod_b _ (by decide)).2, rfl, rfl⟩
        obtain ⟨o2, o20, o21, rfl, e1⟩ := hM
        subst e1
        refine ⟨_, rfl, .inl ⟨rfl, _, SqL.of hl4⟩, _, rfl, o2, 8, rfl, rfl, ⟨by decide, by decide⟩, _, 10007, rfl, rfl, (show (0 : Int) < 10007 by decide), l, _, _, rfl, rfl, hl4, line_lt (by rw [List.length_map]; omega), ?_⟩
        refine ⟨fun τ3 G3 => ∃ o3 : Int, 0 ≤ o3 ∧ o3 < 2147483563 ∧ τ3 = [some (.ref a), some (.int m), some (.ref l), some (.int ((b0 * 31 + num) % 2147483629)), some (.int (i : Nat)), some (.int y), some (.int num), some (.int o3)] ∧ G3 = upd G2 l (.lst (ds.map V.int ++ [.int (o2 / 8 % 10007)])), ?_, fun τ3 G3 hM => ?_⟩
        · exact ⟨_, rfl, o2, 40692, rfl, rfl, .inl ⟨by omega, by omega⟩, _, rfl, 2, _, rfl, rfl, .inl ⟨by decide, by decide⟩, _, _, rfl, rfl, _, 1, rfl, rfl, _, 2147483563, rfl, rfl, (show (0 : Int) < 2147483563 by decide), _, (mod_b _ (by decide)).1, (mod_b _ (by decide)).2, rfl, rfl⟩
        obtain ⟨o3, o30, o31, rfl, rfl⟩ := hM
        refine ⟨fun τ4 G4 => ∃ o4 : Int, 0 ≤ o4 ∧ o4 < 2147483647 ∧ τ4 = [some (.ref a), some (.int m), some (.ref l), some (.int ((b0 * 31 + num) % 2147483629)), some (.int (i : Nat)), some (.int y), some (.int num), some (.int o4)] ∧ G4 = upd G2 l (.lst (ds.map V.int ++ [.int (o2 / 8 % 10007)])), ?_, fun τ4 G4 hM => ?_⟩
        · exact ⟨_, rfl, _, rfl, o3, o3, rfl, rfl, .inl ⟨by omega, by omega⟩, _, 2147483647, rfl, rfl, (show (0 : Int) < 2147483647 by decide), _, (mod_b _ (by decide)).1, (mod_b _ (by decide)).2, rfl, rfl⟩
        obtain ⟨o4, o40, o41, rfl, rfl⟩ := hM
        refine ⟨_, rfl, .inl ⟨rfl, _, SqL.of upd_same⟩, _, rfl, o4, 8, rfl, rfl, ⟨by decide, by decide⟩, _, 10007, rfl, rfl, (show (0 : Int) < 10007 by decide), l, _, _, rfl, rfl, upd_same, line_lt (by rw [List.length_append, List.length_map]; show _ + 1 < _; omega), ?_⟩
        refine ⟨_, _, _, _, _, (ds ++ [o2 / 8 % 10007]) ++ [o4 / 8 % 10007], rfl, m1, m2, by rw [List.length_append, List.length_append]; show _ + 1 + 1 ≤ _; omega, fun x hx => ?_, by rw [upd_same, List.map_append, List.map_append]; rfl, by rw [upd_ne nlc.symm, upd_ne nlc.symm]; exact hc4, fun b o e => ?_⟩
        · rcases List.mem_append.mp hx with hx | hx
          · rcases List.mem_append.mp hx with hx | hx
            · exact hdp x hx
            · rw [List.mem_singleton.mp hx]
              exact (mod_b _ (by decide)).1
          · rw [List.mem_singleton.mp hx]
            exact (mod_b _ (by decide)).1
        · rw [upd_ne (ne_of_none e nl), upd_ne (ne_of_none e nl)]
          exact sm4 _ _ e
    · obtain ⟨b0, y4, y5, y6, y7, ds, rfl, hb0, hb1, hdl, hdp, hl3, hc3, sm⟩ := hP
      rw [List.length_map] at hdl
      -- the rest
      refine ⟨_, rfl, _, rfl, l, _, rfl, .inl (SqL.of hl3), m, _, rfl, rfl, _, rfl, by rw [List.length_map]; omega, by rw [List.length_map]; omega, ?_⟩
      rw [List.length_map]
      refine for_range (n := (m - (ds.length : Int)).toNat) (fun i σ H4 => ∃ (y4 y5 y6 y7 : Option V) (es : List Int), σ = [some (.ref a), some (.int m), some (.ref l), some (.int b0), y4, y5, y6, y7] ∧ es.length = ds.length + i ∧ (∀ x ∈ es, 0 ≤ x) ∧ H4 l = some (.lst (es.map V.int)) ∧ Same H H4)
        ⟨_, _, _, _, ds, rfl, rfl, hdp, hl3, sm⟩ (fun i σ H4 hi hP => ?_) (fun σ H4 hP => ?_)
      · obtain ⟨z4, z5, z6, z7, es, rfl, hel, hep, hl4, sm4⟩ := hP
        refine ⟨fun τ1 G1 => ∃ o1 : Int, 0 ≤ o1 ∧ o1 < 2147483629 ∧ τ1 = [some (.ref a), some (.int m), some (.ref l), some (.int b0), some (.int (0 + (i : Int))), z5, z6, some (.int o1)] ∧ G1 = H4, ?_, fun τ1 G1 hM => ?_⟩
        · exact ⟨_, rfl, _, rfl, 7919, _, rfl, rfl, .inl ⟨by decide, by decide⟩, _, _, rfl, rfl, _, 13, rfl, rfl, _, 2147483629, rfl, rfl, (show (0 : Int) < 2147483629 by decide), _, (mod_b _ (by decide)).1, (mod_b _ (by decide)).2, rfl, rfl⟩
        obtain ⟨o1, o10, o11, rfl, e1⟩ := hM
        subst e1
        refine ⟨fun τ2 G2 => ∃ o2 : Int, 0 ≤ o2 ∧ o2 < 2147483647 ∧ τ2 = [some (.ref a), some (.int m), some (.ref l), some (.int b0), some (.int (0 + (i : Int))), z5, z6, some (.int o2)] ∧ G2 = G1, ?_, fun τ2 G2 hM => ?_⟩
        · exact ⟨_, rfl, _, rfl, o1, o1, rfl, rfl, .inl ⟨by omega, by omega⟩, _, 2147483647, rfl, rfl, (show (0 : Int) < 2147483647 by decide), _, (mod_b _ (by decide)).1, (mod_b _ (by decide)).2, rfl, rfl⟩
        obtain ⟨o2, o20, o21, rfl, e1⟩ := hM
        subst e1
        refine ⟨fun τ3 G3 => ∃ o3 : Int, 0 ≤ o3 ∧ o3 < 2147483563 ∧ τ3 = [some (.ref a), some (.int m), some (.ref l), some (.int b0), some (.int (0 + (i : Int))), z5, z6, some (.int o3)] ∧ G3 = G2, ?_, fun τ3 G3 hM => ?_⟩
        · exact ⟨_, rfl, o2, 69621, rfl, rfl, .inl ⟨by omega, by omega⟩, _, rfl, _, _, rfl, rfl, _, 2147483563, rfl, rfl, (show (0 : Int) < 2147483563 by decide), _, (mod_b _ (by decide)).1, (mod_b _ (by decide)).2, rfl, rfl⟩
        obtain ⟨o3, o30, o31, rfl, e1⟩ := hM
        subst e1
        refine ⟨_, rfl, .inl ⟨rfl, _, SqL.of hl4⟩, _, rfl, _, rfl, o3, o3, rfl, rfl, .inl ⟨by omega, by omega⟩, _, 2147483629, rfl, rfl, (show (0 : Int) < 2147483629 by decide), _, 8, rfl, rfl, ⟨by decide, by decide⟩, _, 10007, rfl, rfl, (show (0 : Int) < 10007 by decide), l, _, _, rfl, rfl, hl4, line_lt (by rw [List.length_map]; omega), ?_⟩
        refine ⟨_, _, _, _, es ++ [o3 * o3 % 2147483629 / 8 % 10007], rfl, by rw [List.length_append, hel]; show _ + 1 = _; omega, fun x hx => ?_, by rw [upd_same, List.map_append]; rfl, fun b o e => ?_⟩
        · rcases List.mem_append.mp hx with hx | hx
          · exact hep x hx
          · rw [List.mem_singleton.mp hx]
            exact (mod_b _ (by decide)).1
        · rw [upd_ne (ne_of_none e nl)]
          exact sm4 _ _ e
      · obtain ⟨z4, z5, z6, z7, es, rfl, hel, hep, hl4, sm4⟩ := hP
        exact ⟨_, rfl, q es l H4 (by omega) hep nl hl4 sm4⟩
end
end Fo
namespace Fo
open PySem PySem.Spec PyProof.Rows L2
/-! ### orders within a reach by shift, place by place, are as many as the program's beginnings tell (for k15) -/
def wtN (g : Nat → Int) (l : List (Nat × Int)) : Int := (l.map fun p => p.2 * g p.1).sum
theorem put_wt (g : Nat → Int) : ∀ (l : List (Nat × Int)) (k : Nat) (m : Int), (keysN l).Nodup → wtN g (putN l k (lookN l k + m)) = wtN g l + m * g k
  | [], k, m, _ => by
    show (0 + m) * g k + 0 = 0 + m * g k
    rw [Int.zero_add, Int.zero_add, Int.add_zero]
  | p :: l, k, m, hn => by
    have ih := put_wt g l k m (List.nodup_cons.mp hn).2
    rw [put_cons p l k _ hn, look_cons]
    unfold wtN at ih ⊢
    by_cases c : p.1 = k
    · rw [if_pos c, if_pos c, List.map_cons, List.map_cons, List.sum_cons, List.sum_cons]
      show (p.2 + m) * g p.1 + _ = _
      rw [Int.add_mul, c]
      omega
    · rw [if_neg c, if_neg c, List.map_cons, List.map_cons, List.sum_cons, List.sum_cons, ih]
      omega
/-- the sum over the things from lo on, c of them, that are not yet placed -/
def upS (g : Nat → Int) (u lo : Nat) : Nat → Int
  | 0 => 0
  | j + 1 => upS g u lo j + if u.testBit (lo + j) then 0 else g (u + 2 ^ (lo + j))
theorem stIn_wt {g : Nat → Int} {u : Nat} {m : Int} {lo : Nat} (hu : u < 4096) (hm : 0 < m) : ∀ (j : Nat) (l : List (Nat × Int)), GoodD l → lo + j ≤ 12 → wtN g (stIn u m lo j l) = wtN g l + m * upS g u lo j
  | 0, l, _, _ => by
    show wtN g l = wtN g l + m * 0
    rw [Int.mul_zero, Int.add_zero]
  | j + 1, l, hl, hj => by
    have ih := stIn_wt (g := g) (lo := lo) hu hm j l hl (by omega)
    obtain ⟨gd, _⟩ := stIn_good (lo := lo) hu hm j l hl (by omega)
    rw [stIn, upS]
    cases hb : u.testBit (lo + j)
    · rw [if_neg (by simp), if_neg (by simp), put_wt g _ _ _ gd.nd, ih, Int.mul_add]
      omega
    · rw [if_pos rfl, if_pos rfl, ih, Int.add_zero]
theorem wt_take {g : Nat → Int} {d : List (Nat × Int)} {i : Nat} (h : i < d.length) : wtN g (d.take (i + 1)) = wtN g (d.take i) + (d.getD i (0, 0)).2 * g (d.getD i (0, 0)).1 := by
  unfold wtN
  rw [List.take_add_one, List.getElem?_eq_getElem h, List.map_append, List.sum_append, getD_at h]
  show _ + (_ + 0) = _
  rw [Int.add_zero]
/-- in how many ways the places from p on take the things that are not in u -/
def compF (n : Nat) (r : Int) : Nat → Nat → Nat → Int
  | 0, _, _ => 1
  | f + 1, p, u => upS (compF n r f (p + 1)) u (loP p r) (ctP n p r)
theorem stOut_wt {n p f : Nat} {r : Int} {d : List (Nat × Int)} (hd : GoodD d) (hc : loP p r + ctP n p r ≤ 12) : ∀ i, i ≤ d.length → wtN (compF n r f (p + 1)) (stOut d (loP p r) (ctP n p r) i) = wtN (compF n r (f + 1) p) (d.take i)
  | 0, _ => rfl
  | i + 1, hi => by
    have ih := stOut_wt (f := f) hd hc i (by omega)
    have hm : d.getD i (0, 0) ∈ d := by rw [getD_at (by omega)]; exact List.getElem_mem _
    have hu := hd.lt _ (List.mem_map.mpr ⟨_, hm, rfl⟩)
    have hpos := hd.pos _ hm
    obtain ⟨g1, _⟩ := stOut_good hd hc i (by omega)
    rw [stOut, stIn_wt hu hpos _ _ g1 hc, ih, wt_take (by omega)]
    rfl
theorem shN_comp {n : Nat} {r : Int} (hn : n ≤ 12) (hr : 0 ≤ r) : ∀ p, p ≤ n → wtN (compF n r (n - p) p) (shD n r p) = compF n r n 0 0
  | 0, _ => by
    show 1 * compF n r n 0 0 + 0 = _
    omega
  | p + 1, hp => by
    have ih := shN_comp hn hr p (by omega)
    obtain ⟨h1, _⟩ := shD_good hn hr p (by omega)
    obtain ⟨l1, _⟩ := lo_ct (r := r) hn (show p < n by omega) hr
    have e := stOut_wt (f := n - (p + 1)) h1 l1 (shD n r p).length (Nat.le_refl _)
    rw [List.take_length, show n - (p + 1) + 1 = n - p by omega, ih] at e
    rw [shD]
    exact e
theorem shN_fill {n : Nat} {r : Int} (hn : n ≤ 12) (hr : 0 ≤ r) : shN n r = compF n r n 0 0 := by
  rw [← shN_comp hn hr n (Nat.le_refl _), Nat.sub_self]
  unfold shN totN wtN
  congr 1
  apply List.map_congr_left
  intro p _
  show _ = p.2 * 1
  rw [Int.mul_one]
end Fo
namespace Fo
open PySem PySem.Spec PyProof.Rows L2
/-! ### a call of what a subscript tells, one of several defs (for k15) -/
structure HeldE (P : Program) (w : World) (K : PySem.W.Frag) (mg : Str → Option Value) (base : Heap) (k : Nat) (f : Addr) (sp : Sp) : Prop where
  ex : ∃ (fd : FuncData) (ps : List Str), FnOk P w K mg base CX0 k f fd ps sp ∧ PySem.W.keepIn K (.ref f) = true ∧ Binds K fd ps []
def tCallE (tf : TE) (S : Addr → Option Sp) (t : TA) : TE := fun σ H Q => tf σ H fun v H1 => ∃ f sp, v = .ref f ∧ S f = some sp ∧ t σ H1 fun vs H2 => sp vs H2 Q (fun _ _ _ => False)
theorem pe_callE {X : Cx} {k : Nat} {S : Addr → Option Sp} {o i e : Expr} {es : List Expr} {sp0 pos : Pos} {tf : TE} {t : TA} (A : ∀ f sp, S f = some sp → HeldE X.prog X.w X.K X.mg X.base k f sp) (hr : Room k X.A) (hf : PE X (.Subscript o i sp0) tf) (ha : PA X (e :: es) t)
    (he : starEach (e :: es) X.env = (false, eval e X.env) :: starEach es X.env := by rfl) (hpl : (backTo pos (starEach es X.env)).any (·.1) = false := by rfl)
    (hev : eval (.Call (.Subscript o i sp0) (e :: es) [] pos) X.env = (do callWith pos (← eval (.Subscript o i sp0) X.env) [] (backTo pos (starEach (e :: es) X.env)) (backToKw pos (keywordEach [] X.env))) := by rfl) :
    PE X (.Call (.Subscript o i sp0) (e :: es) [] pos) (tCallE tf S t) := by
  refine ⟨fun pins s σ H Q I h => ?_⟩
  rw [hev]
  refine wpAny_bind (thn (hf.run pins s σ H _ I h) fun u s1 ⟨v, H1, I1, r1, q1⟩ => ?_)
  obtain ⟨f, sp, rfl, hS, ht⟩ := q1
  obtain ⟨fd, ps, F, hk, hb⟩ := (A f sp hS).ex
  cases r1
  refine PySem.W.callWith_K (h₀ := X.base) I1.ok.mod.kin hk (thn (ha.run pos pins s1 σ _ _ I1 ht) fun us s2 ⟨vs, H2, I2, r, q⟩ => ⟨I2.kIn, ?_⟩) he hpl
  refine run_fn (E := fun _ _ _ => False) F hr hb .nil (fun _ _ _ _ _ _ _ z => z.elim) I2 r ?_
  rw [List.append_nil]
  exact q
end Fo
namespace Fo
open PySem PySem.Spec PyProof.Rows L2
/-! ### k15's own counts by swap and spot -/
def lswP (less : List Int) (far : Nat) (z : Int) : Bool := decide (0 ≤ (far : Int) - z) && decide ((far : Int) - z < (less.length : Int))
def lswF (less : List Int) (n far : Nat) : Int := (((rg n).filter (lswP less far)).map fun z => g0 less ((far : Int) - z)).sum
def lsw : Nat → List Int
  | 0 => [1]
  | k + 1 => (List.range ((k + 2) * (k + 1) / 2 + 1)).map (lswF (lsw k) (k + 2))
theorem lsw_sw : ∀ k : Nat, k < 12 → lsw k = swC k := by decide +kernel
def chN2 (n : Int) : Nat → Int
  | 0 => 1
  | s + 1 => chN2 n s * (n - s) / (s + 1)
def spSwp (m : Nat) : Sp := fun vs H Q _ => ∃ (n : Nat), vs = [.int n] ∧ 1 ≤ n ∧ n ≤ m ∧ n ≤ 12 ∧ ∀ (l : Addr) (H' : Hp), H l = none → H' l = some (.lst ((lsw (n - 1)).map V.int)) → Same H H' → Q (.ref l) H'
def spChosen : Sp := fun vs H Q _ => ∃ (n k : Nat), vs = [.int n, .int k] ∧ k ≤ n ∧ n ≤ 12 ∧ ∀ H', Same H H' → Q (.int (chN2 n k)) H'
section
variable {P : Program} {w : World} {K : PySem.W.Frag} {mg : Str → Option Value} {base : Heap}
theorem scChosen : FnScope ["n", "k", "found", "step"] ["n", "k"] (defScope s_law_chosen) := ⟨rfl, rfl, rfl, by decide +kernel, rfl, by decide +kernel, by decide +kernel⟩
set_option maxHeartbeats 1000000 in
theorem ok_chosen {f : Addr} {fd : FuncData} {k : Nat} (T : Df K mg "_law_chosen" s_law_chosen ["n", "k"] f fd) (B : Bi mg) : FnOk P w K mg base CX0 (k + 1) f fd ["n", "k"] spChosen := by
  refine T.F.ok scChosen (fun vs H Q E h => ?_) (fun cdv A outer s H vs Q E hr h => ?_)
  · obtain ⟨n, k, rfl, _⟩ := h
    rfl
  · obtain ⟨n, k, rfl, hk, hn, q⟩ := h
    refine ⟨_, 
      (pss_cons (ps_set (i := 2) scChosen.nd rfl (.inl rfl) pe_int)
      (pss_cons (ps_for PassesOwn.never rfl (pi_range1 (by rfl) B.range (pa_cons (pv 1) pa_nil)) (pg_name (i := 3) scChosen.nd rfl (.inl rfl))
        (pss_one (ps_set (i := 2) scChosen.nd rfl (.inl rfl) (pe_op op_fdiv (pe_op op_mul (pv 2) (pe_op op_sub (pv 0) (pv 3))) (pe_op op_add (pv 3) pe_int)))))
      (pss_one (ps_ret (pv 2))))), ?_⟩
    refine ⟨_, rfl, _, rfl, by omega, by omega, ?_⟩
    rw [Int.toNat_natCast]
    refine for_range (n := k) (fun i σ H1 => ∃ (y3 : Option V), σ = [some (.int n), some (.int k), some (.int (chN2 n i)), y3] ∧ H1 = H) ⟨_, rfl, rfl⟩ (fun i σ H1 hi hW => ?_) (fun σ H1 hW => ?_)
    · obtain ⟨y3, rfl, rfl⟩ := hW
      refine ⟨_, rfl, _, rfl, _, rfl, (n : Int), 0 + (i : Int), rfl, rfl, _, _, rfl, rfl, .inr ⟨by omega, by omega⟩, _, rfl, 0 + (i : Int), 1, rfl, rfl, _, _, rfl, rfl, ⟨by omega, by omega⟩, some (.int (0 + (i : Int))), ?_, rfl⟩
      show [_, _, some (V.int (chN2 n i * ((n : Int) - (0 + (i : Int))) / (0 + (i : Int) + 1))), _] = _
      rw [Int.zero_add, chN2]
    · obtain ⟨y3, rfl, rfl⟩ := hW
      exact ⟨_, rfl, q _ (Same.refl _)⟩
theorem lsw_at {k far : Nat} (h : far < (k + 2) * (k + 1) / 2 + 1) : (lsw (k + 1))[far]? = some (lswF (lsw k) (k + 2) far) := by
  rw [lsw, List.getElem?_map, List.getElem?_range h]
  rfl
theorem lsw_len (k : Nat) : (lsw (k + 1)).length = (k + 2) * (k + 1) / 2 + 1 := by
  rw [lsw, List.length_map, List.length_range]
theorem scSwp : FnScope ["n", "less", "found", "far", "some", "k"] ["n"] (defScope s_law_swaps) := ⟨rfl, rfl, rfl, by decide +kernel, rfl, by decide +kernel, by decide +kernel⟩
theorem ok_swp0 {f : Addr} {fd : FuncData} {k : Nat} (T : Df K mg "_law_swaps" s_law_swaps ["n"] f fd) : FnOk P w K mg base CX0 (k + 1) f fd ["n"] (spSwp 0) := by
  refine T.F.ok scSwp (fun vs H Q E h => ?_) (fun cdv A outer s H vs Q E hr h => ?_)
  · obtain ⟨n, rfl, _⟩ := h
    rfl
  · obtain ⟨n, rfl, h1, h2, _⟩ := h
    omega
set_option maxHeartbeats 2000000 in
theorem ok_swp {f : Addr} {fd : FuncData} {k m : Nat} (T : Df K mg "_law_swaps" s_law_swaps ["n"] f fd) (G__law_swaps : FnOk P w K mg base CX0 k f fd ["n"] (spSwp m)) (B : Bi mg) : FnOk P w K mg base CX0 (k + 1) f fd ["n"] (spSwp (m + 1)) := by
  have T__law_swaps := T
  refine T.F.ok scSwp (fun vs H Q E h => ?_) (fun cdv A outer s H vs Q E hr h => ?_)
  · obtain ⟨n, rfl, _⟩ := h
    rfl
  · obtain ⟨n, rfl, h1, h2, h12, q⟩ := h
    refine ⟨_, 
      (pss_cons (ps_if (pt_cmpR op_eq (pv 0) pe_int (nomark _))
        (pss_one (ps_ret (pe_lst (pa_cons pe_int pa_nil))))
        pss_nil)
      (pss_cons (ps_set (i := 1) scSwp.nd rfl (.inr rfl) (pe_call G__law_swaps hr (by rfl) T__law_swaps.g T__law_swaps.F.kp T__law_swaps.b .nil pass0 (pa_cons (pe_op op_sub (pv 0) pe_int) pa_nil)))
      (pss_cons (ps_set (i := 2) scSwp.nd rfl (.inl rfl) (pe_lst pa_nil))
      (pss_cons (ps_for PassesOwn.never rfl (pi_range1 (by rfl) B.range (pa_cons (pe_op op_add (pe_op op_fdiv (pe_op op_mul (pv 0) (pe_op op_sub (pv 0) pe_int)) pe_int) pe_int) pa_nil)) (pg_name (i := 3) scSwp.nd rfl (.inr rfl))
        (pss_cons (ps_setLc (i := 4) (own := [("k", 5)]) (g := (gName 5)) (tt := tYes) (te := (tOp (rI0 fun i j => .int (i - j)) (tVar 3) (tVar 5))) (by rfl) scSwp.nd rfl rfl (sw_true rfl rfl rfl (by decide +kernel)) (pi_range1 (by rfl) B.range (pa_cons (pv 0) pa_nil)) (blkOk_by (N := ["n", "less", "found", "far", "some", "k"]) (sc := defScope s_law_swaps) (by decide +kernel)) (fun _ _ _ _ _ => (pg_name (i := 5) scSwp.nd rfl (.inl rfl))) (fun _ _ _ _ _ => pts_nil) (fun _ _ _ _ _ => (pe_op op_sub (pv 3) (pv 5))))
        (pss_one (ps_expr (pe_bm PySem.F.plainAttrs_list PySem.F.slot_list_append PySem.F.type_list_append mt_append (pv 2) (pa_cons (pe_callB (cr_sum rfl) (by rfl) B.sum (by decide +kernel) (pa_cons (pe_lc (own := [("k", 5)]) (g := (gName 5)) (tt := (tTest (tChain (rI0 fun i j => .bl (decide (i ≤ j))) (rI0 fun i j => .bl (decide (i < j))) (tC (.int 0)) (tVar 5) (tCB (rLenS K) (tCons (tVar 1) tNil))))) (te := (tOp (rIxL K) (tVar 1) (tVar 5))) rfl scSwp.nd (pi_list (pv 4)) (blkOk_by (N := ["n", "less", "found", "far", "some", "k"]) (sc := defScope s_law_swaps) (by decide +kernel)) (fun _ _ _ _ _ => (pg_name (i := 5) scSwp.nd rfl (.inl rfl))) (fun _ _ _ _ _ => (pts_one (pt_chain op_le op_lt pe_int (pv 5) (pe_callB call_len_seq (by rfl) B.len PySem.boot_len (pa_cons (pv 1) pa_nil))))) (fun _ _ _ _ _ => (pe_ix ix_list (pv 1) (pv 5) (fun _ _ => rfl)))) pa_nil)) pa_nil))))))
      (pss_one (ps_ret (pv 2))))))), ?_⟩
    refine ⟨_, rfl, rfl, _, rfl, ite2 (fun c => ?_) (fun c => ?_)⟩
    · have e : n = 1 := by
        have := V.int.inj (of_decide_eq_true c)
        omega
      subst e
      refine ⟨line_small (by show 1 ≤ 16777216; decide), fun l nl => q l _ nl upd_same (same_new nl)⟩
    have hn2 : 2 ≤ n := by
      by_cases z : n = 1
      · exact absurd (decide_eq_true (by rw [z]; rfl)) c
      · omega
    obtain ⟨j, rfl⟩ : ∃ j, n = j + 2 := ⟨n - 2, by omega⟩
    -- less
    refine ⟨_, rfl, ((j + 2 : Nat) : Int), 1, rfl, rfl, j + 1, by show [V.int (((j + 2 : Nat) : Int) - 1)] = _; rw [show ((j + 2 : Nat) : Int) - 1 = ((j + 1 : Nat) : Int) by omega], by omega, by omega, by omega, fun le H1 nle hle s1 => ?_⟩
    rw [show j + 1 - 1 = j by omega] at hle
    refine ⟨line_small (by show 0 ≤ 16777216; decide), fun fo nfo => ?_⟩
    have s2 := same_new (o := .lst []) nfo
    have nle2 : le ≠ fo := ne_of_none hle nfo
    have nHfo : H fo = none := s1.free nfo
    have hj : ((j + 2 : Nat) : Int) * (((j + 2 : Nat) : Int) - 1) = (((j + 2) * (j + 1) : Nat) : Int) := by
      rw [Int.natCast_mul]
      congr 1
      omega
    have hb : (j + 2) * (j + 1) ≤ 12 * 11 := Nat.mul_le_mul (by omega) (by omega)
    have hN : ((((j + 2 : Nat) : Int) * (((j + 2 : Nat) : Int) - 1)) / 2 + 1) = (((j + 2) * (j + 1) / 2 + 1 : Nat) : Int) := by
      rw [hj]
      omega
    refine ⟨_, rfl, _, rfl, ((j + 2 : Nat) : Int), 1, rfl, rfl, _, _, rfl, rfl, .inl ⟨by omega, by omega⟩, _, 2, rfl, rfl, ⟨by decide, by decide⟩, _, 1, rfl, rfl, _, rfl, by rw [hN]; omega, by rw [hN]; omega, ?_⟩
    rw [hN, Int.toNat_natCast]
    refine for_range (n := (j + 2) * (j + 1) / 2 + 1) (fun i σ H3 => ∃ (y3 y4 : Option V), σ = [some (.int ((j + 2 : Nat) : Int)), some (.ref le), some (.ref fo), y3, y4, none] ∧ H3 fo = some (.lst (((lsw (j + 1)).take i).map V.int)) ∧ H3 le = some (.lst ((lsw j).map V.int)) ∧ ∀ u o, H u = some o → H3 u = some o)
      ⟨_, _, rfl, upd_same, by rw [upd_ne nle2]; exact hle, s1.trans s2⟩ (fun i σ H3 hi hW => ?_) (fun σ H3 hW => ?_)
    · obtain ⟨y3, y4, rfl, hfo3, hle3, sm⟩ := hW
      rw [show 0 + (i : Int) = (i : Int) from Int.zero_add _]
      -- some
      refine ⟨_, rfl, _, rfl, by omega, by omega, fun so nso => ?_⟩
      rw [Int.toNat_natCast]
      refine lc_range (lo := 0) (n := j + 2) (fun t H4 => H4 so = some (.lst (((rg t).map fun z => (i : Int) - z).map V.int)) ∧ Same H3 H4) ⟨upd_same, same_new nso⟩ (fun t H4 ht hP => ?_) (fun H4 hP => ?_)
      · obtain ⟨hs4, s4⟩ := hP
        refine ⟨rfl, _, rfl, _, rfl, (i : Int), 0 + (t : Int), rfl, rfl, _, hs4, line_lt (by rw [List.length_map, List.length_map, rg_len]; omega), ?_, fun u o e => ?_⟩
        · rw [upd_same, rg_succ, List.map_append, List.map_append, Int.zero_add]
          rfl
        · rw [upd_ne (ne_of_none e nso)]
          exact s4 _ _ e
      obtain ⟨hs4, s4⟩ := hP
      -- the sum
      refine ⟨_, rfl, .inl ⟨rfl, _, SqL.of (s4 _ _ hfo3)⟩, ?_⟩
      refine ⟨_, rfl, so, rfl, ⟨_, SqL.of hs4⟩, fun D nD => ?_⟩
      refine lc_list (K := K) (a := so) (xs := ((rg (j + 2)).map fun z => (i : Int) - z).map V.int) (fun t H5 => H5 D = some (.lst ((((rg t).filter (lswP (lsw j) i)).map fun z => g0 (lsw j) ((i : Int) - z)).map V.int)) ∧ Same H4 H5) ⟨upd_same, same_new nD⟩ (fun t H5 _ hP => SqL.of (hP.2 _ _ hs4)) (fun t x H5 hx hP => ?_) (fun H5 hP => ?_)
      · obtain ⟨hD5, s5⟩ := hP
        obtain ⟨y, ey, rfl⟩ := int_at_inv hx
        have ht : t < j + 2 := by
          have := (List.getElem?_eq_some_iff.mp ey).1
          rw [List.length_map, rg_len] at this
          exact this
        have hy : y = (i : Int) - (t : Int) := by
          unfold rg at ey
          rw [List.map_map, List.getElem?_map, List.getElem?_range ht] at ey
          exact (Option.some.inj ey).symm
        subst hy
        have hle5 := s5 _ _ (s4 _ _ hle3)
        have hll : ((lsw j).map V.int).length = (lsw j).length := List.length_map _
        have em : ((rg (t + 1)).filter (lswP (lsw j) i)) = ((rg t).filter (lswP (lsw j) i)) ++ (if lswP (lsw j) i (t : Int) then [(t : Int)] else []) := by
          rw [rg_succ, List.filter_append, List.filter_cons]
          rfl
        have no : lswP (lsw j) i (t : Int) = false → (H5 D = some (.lst ((((rg (t + 1)).filter (lswP (lsw j) i)).map fun z => g0 (lsw j) ((i : Int) - z)).map V.int)) ∧ Same H4 H5) := fun z => by
          rw [em, z, if_neg (by decide), List.append_nil]
          exact ⟨hD5, s5⟩
        refine ⟨rfl, _, rfl, 0, (i : Int) - (t : Int), rfl, rfl, _, rfl, ite2 (fun c1 => ?_) (fun c1 => ?_)⟩
        · have h0 : (0 : Int) ≤ (i : Int) - (t : Int) := of_decide_eq_true c1
          refine ⟨_, rfl, le, _, rfl, .inl (SqL.of hle5), _, _, rfl, rfl, _, rfl, ite2 (fun c2 => ?_) (fun c2 => ?_)⟩
          · have h2 : (i : Int) - (t : Int) < ((lsw j).length : Int) := by
              have := of_decide_eq_true c2
              rw [hll] at this
              exact this
            have yes : lswP (lsw j) i (t : Int) = true := by
              unfold lswP
              rw [decide_eq_true h0, decide_eq_true h2]
              rfl
            obtain ⟨v, ev⟩ : ∃ v, (lsw j)[((i : Int) - (t : Int)).toNat]? = some v := ⟨(lsw j)[((i : Int) - (t : Int)).toNat]'(by omega), List.getElem?_eq_getElem (by omega)⟩
            have gv : g0 (lsw j) ((i : Int) - (t : Int)) = v := by
              have := g0_at ev
              rw [Int.toNat_of_nonneg h0] at this
              exact this
            refine ⟨_, rfl, _, rfl, le, _, _, _, rfl, rfl, SqL.of hle5, at_of (j := ((i : Int) - (t : Int)).toNat) (by omega) (int_at ev), _, hD5, line_lt ?_, ?_, fun u o e => ?_⟩
            · rw [List.length_map, List.length_map]
              refine Nat.lt_of_le_of_lt (List.length_filter_le _ _) ?_
              rw [rg_len]
              omega
            · rw [upd_same, em, yes, if_pos rfl, List.map_append, List.map_append]
              show some (HO.lst (_ ++ [V.int v])) = some (HO.lst (_ ++ [V.int (g0 (lsw j) ((i : Int) - (t : Int)))]))
              rw [gv]
            · rw [upd_ne (ne_of_none e nD)]
              exact s5 _ _ e
          · refine no ?_
            unfold lswP
            rw [decide_eq_false (show ¬ (i : Int) - (t : Int) < ((lsw j).length : Int) from fun z => c2 (decide_eq_true (by rw [hll]; exact z))), Bool.and_false]
        · refine ⟨false, rfl, iteF (no ?_)⟩
          unfold lswP
          rw [decide_eq_false (show ¬ (0 : Int) ≤ (i : Int) - (t : Int) from fun z => c1 (decide_eq_true z)), Bool.false_and]
      obtain ⟨hD5, s5⟩ := hP
      rw [List.length_map, List.length_map, rg_len] at hD5
      refine ⟨D, _, rfl, SqL.of hD5, ?_⟩
      have s45 := s4.trans s5
      refine ⟨fo, _, _, rfl, rfl, s45 _ _ hfo3, line_lt (by rw [List.length_map, List.length_take, lsw_len]; omega), _, _, rfl, ?_, ?_, fun u o e => ?_⟩
      · rw [upd_same, take_more (lsw_at hi), List.map_append]
        rfl
      · rw [upd_ne nle2]
        exact s45 _ _ hle3
      · rw [upd_ne (ne_of_none e nHfo)]
        exact s45 _ _ (sm _ _ e)
    · obtain ⟨y3, y4, rfl, hfo3, hle3, sm⟩ := hW
      rw [List.take_of_length_le (by rw [lsw_len]; exact Nat.le_refl _)] at hfo3
      exact ⟨_, rfl, q fo H3 nHfo hfo3 sm⟩
theorem ok_swaps {f : Addr} {fd : FuncData} {k : Nat} (T : Df K mg "_law_swaps" s_law_swaps ["n"] f fd) (B : Bi mg) : ∀ m, FnOk P w K mg base CX0 (k + 1 + m) f fd ["n"] (spSwp m)
  | 0 => ok_swp0 T
  | m + 1 => ok_swp T (ok_swaps T B m) B
end
end Fo
namespace Fo
open PySem PySem.Spec PyProof.Rows L2
/-! ### enumerate of a tuple -/
def IteT (K : PySem.W.Frag) (a : Addr) : It :=
  ⟨fun i H => ∃ (xs : List V) (x : V), SqT K H a xs ∧ xs[i]? = some x, fun i H v H' => ∃ T x, v = .ref T ∧ H T = none ∧ H' = upd H T (.tup [.int (i : Nat), x]) ∧ ∀ xs, SqT K H a xs → xs[i]? = some x, fun i H => ∃ xs : List V, SqT K H a xs ∧ xs.length ≤ i⟩
theorem iter_apart {h : Heap} {it a : Addr} {i : Nat} {items : Array Value} (h1 : h.IsTupleIter it a i) (h2 : h.IsTuple a items) : a ≠ it := fun z => by
  obtain ⟨o, e, _, d⟩ := h1
  obtain ⟨o2, e2, _, n, d2⟩ := h2
  rw [z, e] at e2
  cases e2
  rw [d] at d2
  cases d2
theorem enum_apart {h : Heap} {it a e : Addr} {c : Int} {old : Value} {items : Array Value} (h1 : IsEnum h e it c old) (h2 : h.IsTuple a items) : e ≠ a := fun z => by
  obtain ⟨o2, e2, _, n, d2⟩ := h2
  rw [← z, show h.get? e = _ from h1] at e2
  cases e2
  cases d2
theorem turn_enumT {P : Program} {w : World} {K : PySem.W.Frag} {elts : List Expr} {kk : Nat} {tpos : Pos} (a e it : Addr) :
    Turn P w K (.Tuple elts kk tpos) (IteT K a) [e, it] e (fun i h => (∃ old, IsEnum h e it ((i : Nat) : Int) old) ∧ h.IsTupleIter it a i ∧ e ≠ it) where
  mem := by simp
  obj := fun i h st b hb => by
    obtain ⟨⟨old, he⟩, ⟨o, ho, hc, hd⟩, _⟩ := st
    have e' : b = e ∨ b = it := by simpa using hb
    rcases e' with z | z
    · rw [z]; exact ⟨_, he, fun v q => nomatch q⟩
    · rw [z]; exact ⟨o, ho, fun v q => by rw [hd] at q; cases q⟩
  keep := fun i h h' st k => let ⟨⟨old, he⟩, hi, hne⟩ := st; ⟨⟨old, k e (by simp) _ he⟩, hi.at fun o q => k it (by simp) o q, hne⟩
  item := by
    intro X hP hw hK hc i pins s σ H E I hf st hg
    subst hP hw hK
    obtain ⟨⟨old, he⟩, hit, hne⟩ := st
    obtain ⟨xs, x, hq, hx⟩ := hg
    obtain ⟨its, rv, p, hz⟩ := I.tuple hq
    obtain ⟨u, hu, ru⟩ := rv.get hx
    have ht : s.heap.IsTuple a its.toArray := p
    have hel : e < s.heap.objs.size := Heap.lt_size he
    have hil : it < s.heap.objs.size := by obtain ⟨_, q, _⟩ := hit; exact Heap.lt_size q
    have hai := iter_apart hit ht
    have hea := enum_apart he ht
    have hlt : i < its.toArray.size := by
      have := (List.getElem?_eq_some_iff.mp hu).1
      simpa using this
    refine wpAny_pyNext_enum_itemD (Draws.tuple (A := X.A.in1) (I.ok.hd hc) it a hai its.toArray) he ⟨hit, ht⟩ hlt hne (by simp [hne, hea]) fun y h' tk hy ho hst hT hsz hk => ?_
    obtain rfl : y = u := by
      have hy2 : its[i]? = some y := by simpa using hy
      rw [hu] at hy2
      exact (Option.some.inj hy2).symm
    obtain ⟨hit', ht'⟩ := hst
    refine ⟨_, rfl, wpAny_letOwnedTupleGo_enum (s := { s with heap := h', toks := tk + 1 }) ho fun h'' he' sb => ?_⟩
    have hT2 : h''.get? s.heap.objs.size = some { cls := .type "tuple", data := .seq #[.int i tk, y] } := (sb.2 _ (Nat.ne_of_gt hel)).trans hT
    have new : ObjOk X.prog X.w (upd H s.heap.objs.size (.tup [.int (i : Nat), x])) h'' s.heap.objs.size (.tup [.int (i : Nat), x]) :=
      ⟨by show 2 ≤ sizeLine; decide, [.int i tk, y], .cons ⟨_, rfl⟩ (.cons ru .nil), ⟨_, hT2, rfl, _, rfl⟩⟩
    have I1 : Inv X pins σ (upd H s.heap.objs.size (.tup [.int (i : Nat), x])) { s with heap := h'', toks := tk + 1 } :=
      I.turnedNew (ch := [e, it]) (fun b ob hb q => (sb.2 b (fun z => hb (by simp [z]))).trans (hk b ob (fun z => hb (by simp [z])) (fun z => hb (by simp [z])) q)) hf (Nat.le_refl _) new
    refine ⟨.ref s.heap.objs.size, _, I1, rfl, ⟨_, x, rfl, I.hok.fresh (Nat.le_refl _), rfl, fun ys hy => by rw [I.tuple_inj hy hq]; exact hx⟩, ⟨⟨y, ?_⟩, hit'.at fun o q => (sb.2 it (Ne.symm hne)).trans q, hne⟩, fun b hb => ?_⟩
    · have e1 : ((i + 1 : Nat) : Int) = (i : Int) + 1 := by omega
      rw [e1]; exact he'
    · have hb' : b < s.heap.objs.size := by
        have e' : b = e ∨ b = it := by simpa using hb
        rcases e' with z | z
        · rw [z]; exact hel
        · rw [z]; exact hil
      rw [upd_ne (Nat.ne_of_lt hb')]
      exact (hf b hb).1
  done := by
    intro X hP hw hK hc i pins s σ H E I hf st hg
    subst hP hw hK
    obtain ⟨⟨old, he⟩, hit, hne⟩ := st
    obtain ⟨xs, hq, hx⟩ := hg
    obtain ⟨its, rv, p, hz⟩ := I.tuple hq
    obtain ⟨f0, f1, f2, f3, f4, f5⟩ := hf it (by simp)
    have hl := rv.length
    have ht : s.heap.IsTuple a its.toArray := p
    have hT : s.TypeIs (.ref e) "enumerate" := ⟨_, he, rfl⟩
    unfold pyNext
    refine wpAny_bind (wpAny_attempt (wpAny_callSpecial?_slot (name := Str.ofString "__next__") hT F.slot_enumerate_next
      (wpAny_call_entry F.slot_enumerate_next hT F.entry_enumerate_next ?_ (F.args_enumerate_next_1 _))))
    show wpAny _ _ (field (.ref e) 2 >>= _) _ _ _
    refine wpAny_bind (wpAny_field he rfl (x := .ref it) rfl ?_)
    refine wpAny_bind (wpAny_nextOf_tuple_end (A := X.A.in1) (I.ok.hd hc) hit ht (by simp; omega) fun h' x he' hx' => ?_)
    obtain ⟨o, ho, hc2⟩ := hx'
    refine wpAny_bind (wpAny_isInstance (T := "StopIteration") (b := true) ⟨o, ho, hc2⟩ isSubtype_stop ?_)
    exact wpAny_pure ⟨rfl, I.turned (t' := s.toks) (fun b o hb q => he' b o hb q) f0 f1 f3 f4 f5⟩
  self := fun A i s Q E st h => let ⟨⟨_, he⟩, _⟩ := st; wpAny_pyIter_enum he h
set_option maxHeartbeats 1000000 in
theorem meets_enum1 {v : Value} {o : Obj} {H : Heap → Prop} (B : Begins v o H) :
    Meets (Builtin.«enumerate.__new__» ⟨[.type "enumerate", v], []⟩) (fun _ R s => H s.heap ∧
      R (.ok (.ret (.ref (s.heap.push o).objs.size))) { s with heap := (s.heap.push o).push { cls := .type "enumerate", data := .fields #[.none, .bool false, .ref s.heap.objs.size, rawInt 0, .none, .none] } }) :=
  .of_wp fun prog w A R s h => by
    obtain ⟨hp, g, d, tk, os⟩ := s; obtain ⟨h1, h⟩ := h
    have hsub := sub_enumerate
    have q1 : ∀ {A' : Around} {E : Value → Shared → Prop} {Q : Value → Shared → Prop}, Q (.ref hp.objs.size) ⟨hp.push o, g, d, tk, os⟩ → wpAny (model prog w) A' (pyIter v) Q E ⟨hp, g, d, tk, os⟩ :=
      fun q => B.iter prog w _ _ ⟨hp, g, d, tk, os⟩ _ h1 q
    wp_walk using q1
    refine wpAny_stack_any fun st => wpAny_pure ?_
    split
    · rename_i c _ _ _ _ _
      cases (c == Value.type "enumerate")
      · wp_walk using q1
        exact ⟨_, rfl, h⟩
      · wp_walk using q1
        exact ⟨_, rfl, h⟩
    · wp_walk using q1
      exact ⟨_, rfl, h⟩
theorem call_enum1 {prog : Program} {w : World} {A : Around} {E : Value → Shared → Prop} {s : Shared} {v : Value} {o : Obj} {H : Heap → Prop} {Q : Value → Shared → Prop} (B : Begins v o H) (h1 : H s.heap)
    (h : ∀ h', IsEnum h' (s.heap.objs.size + 1) s.heap.objs.size 0 .none → h'.get? s.heap.objs.size = some o → h'.objs.size = s.heap.objs.size + 2 →
      (∀ b o, s.heap.get? b = some o → h'.get? b = some o) → Q (.ref (s.heap.objs.size + 1)) { s with heap := h' }) :
    wpAny (model prog w) A (call (.type "enumerate") [v]) Q E s := by
  refine callType_new F.called_enumerate (by decide) (F.typeCall_enumerate_1 _) (F.newCall_enumerate_1 _) (fun obj => F.args_object_init_2 obj _) F.entry_enumerate_new
    (meets_enum1 B) ⟨h1, ?_⟩
  have hz : (s.heap.push o).objs.size = s.heap.objs.size + 1 := Heap.size_push ..
  show _ ∧ _
  rw [hz]
  have he : IsEnum ((s.heap.push o).push { cls := .type "enumerate", data := .fields #[.none, .bool false, .ref s.heap.objs.size, rawInt 0, .none, .none] }) (s.heap.objs.size + 1) s.heap.objs.size 0 .none := by
    have := Heap.get?_push_size (s.heap.push o) (o := { cls := .type "enumerate", data := .fields #[.none, .bool false, .ref s.heap.objs.size, rawInt 0, .none, .none] }) rfl
    rw [hz] at this; exact this
  refine ⟨⟨_, he, rfl⟩, h _ he (Heap.get?_push_of_some _ (Heap.get?_push_size _ B.free)) (by rw [Heap.size_push, hz]) fun b o x => Heap.get?_push_of_some _ (Heap.get?_push_of_some _ x)⟩
def iEnumT (K : PySem.W.Frag) (ta : TA) : TI := fun σ H R => ta σ H fun vs H1 => ∃ a xs, vs = [.ref a] ∧ SqT K H1 a xs ∧ R (IteT K a) H1
theorem pi_enumT {X : Cx} {e : Expr} {ta : TA} {p pos tpos : Pos} {elts : List Expr} {kk : Nat} (hg : Gl X "enumerate") (hm : X.mg "enumerate" = none) (ha : PA X [e] ta) (hs : starEach [e] X.env = [(false, eval e X.env)] := by rfl) :
    PI X (.Tuple elts kk tpos) (.Call (.Name "enumerate" p) [e] [] pos) (iEnumT X.K ta) := by
  refine ⟨fun pins s σ H R I h => ?_⟩
  refine Call_ (ld_blt I hg hm boot_enumerate (PyProof.Rows.callWith_type1 (thn (ha.run pos pins s σ H _ I h) fun us s1 ⟨vs, H1, I1, r1, q1⟩ => ?_) hs rfl))
  obtain ⟨a, xs, ex, hq, q⟩ := q1
  subst ex
  cases r1 with
  | cons r rr =>
    cases rr
    cases r
    obtain ⟨its, rv, p', hz⟩ := I1.tuple hq
    have ht : s1.heap.IsTuple a its.toArray := p'
    refine call_enum1 (begins_tuple a its.toArray) ht fun h' he hit hsz hk => wpAny_pyIter_enum he ?_
    have I2 : Inv X pins σ H1 { s1 with heap := h' } := I1.kept (t' := s1.toks) hk
    refine ⟨s1.heap.objs.size + 1, [s1.heap.objs.size + 1, s1.heap.objs.size], _, _, H1, rfl, I2, turn_enumT a (s1.heap.objs.size + 1) s1.heap.objs.size, ⟨⟨.none, he⟩, ⟨_, hit, rfl, rfl⟩, Nat.succ_ne_self _⟩, fun b hb => ?_, q⟩
    have e' : b = s1.heap.objs.size + 1 ∨ b = s1.heap.objs.size := by simpa using hb
    have hle : s1.heap.objs.size ≤ b := by
      rcases e' with z | z
      · rw [z]; exact Nat.le_add_right _ _
      · rw [z]; exact Nat.le_refl _
    exact I1.fpOk hle (I1.hok.fresh hle)
/-- a loop over enumerate of a tuple -/
theorem for_enumT {K : PySem.W.Frag} {a : Addr} {xs : List V} {g : TG} {tb : TS} {D : Ends} {σ : L2.St} {H : Hp} (Pv : Nat → L2.St → Hp → Prop) (h0 : Pv 0 σ H) (hq : ∀ i σ H, Pv i σ H → SqT K H a xs)
    (hs : ∀ (i : Nat) (x : V) (T : Addr) (σ : L2.St) (H : Hp), xs[i]? = some x → Pv i σ H → H T = none → g (.ref T) σ (upd H T (.tup [.int (i : Nat), x])) fun σ2 H2 => tb { D with nx := Pv (i + 1), ct := Pv (i + 1), bk := D.nx } σ2 H2) (hd : ∀ σ H, Pv xs.length σ H → D.nx σ H) :
    ∃ W : Nat → Nat → L2.St → Hp → Prop, (∃ m, W 0 m σ H) ∧ ∀ i m σ H, W i m σ H →
      ((IteT K a).stop i H ∧ D.nx σ H) ∨ ((IteT K a).go i H ∧ ∃ N : L2.St → Hp → Prop, (∀ σ' H', N σ' H' → ∃ m', m' < m ∧ W (i + 1) m' σ' H') ∧ ∀ v H', (IteT K a).yld i H v H' → g v σ H' fun σ2 H2 => tb { D with nx := N, ct := N, bk := D.nx } σ2 H2) := by
  refine ⟨fun i m σ H => m = xs.length - i ∧ i ≤ xs.length ∧ Pv i σ H, ⟨xs.length, rfl, Nat.zero_le _, h0⟩, ?_⟩
  rintro i m σ H ⟨rfl, hi, p⟩
  have qx := hq i σ H p
  by_cases hlt : i < xs.length
  · have hx : xs[i]? = some xs[i] := List.getElem?_eq_getElem hlt
    refine .inr ⟨⟨xs, _, qx, hx⟩, Pv (i + 1), fun σ' H' p' => ⟨xs.length - (i + 1), by omega, rfl, hlt, p'⟩, fun v H' y => ?_⟩
    obtain ⟨T, x', rfl, hT, rfl, f1⟩ := y
    exact hs i x' T σ H (f1 xs qx) p hT
  · have e : i = xs.length := by omega
    subst e
    exact .inl ⟨⟨xs, qx, Nat.le_refl _⟩, hd σ H p⟩
end Fo
namespace Fo
open PySem PySem.Spec PyProof.Rows L2
/-! ### filling place by place, from the things left (for k15) -/
def fillE (r : Int) : Nat → Int → List Int → Int
  | 0, _, _ => 1
  | f + 1, p, left => (left.map fun t => if absI (t - p) ≤ r then fillE r f (p + 1) (left.filter fun s => !decide (s = t)) else 0).sum
def sN (F : Nat → Int) : Nat → Int
  | 0 => 0
  | k + 1 => sN F k + F k
theorem sN_congr {F G : Nat → Int} : ∀ k, (∀ j, j < k → F j = G j) → sN F k = sN G k
  | 0, _ => rfl
  | k + 1, h => by
    show sN F k + F k = sN G k + G k
    rw [sN_congr k fun j hj => h j (by omega), h k (by omega)]
theorem sN_zero {F : Nat → Int} : ∀ k, (∀ j, j < k → F j = 0) → sN F k = 0
  | 0, _ => rfl
  | k + 1, h => by
    show sN F k + F k = 0
    rw [sN_zero k fun j hj => h j (by omega), h k (by omega)]
    rfl
theorem sN_add (F : Nat → Int) (a : Nat) : ∀ b, sN F (a + b) = sN F a + sN (fun j => F (a + j)) b
  | 0 => by show sN F a = sN F a + 0; omega
  | b + 1 => by
    show sN F (a + b) + F (a + b) = sN F a + (sN (fun j => F (a + j)) b + F (a + b))
    rw [sN_add F a b]
    omega
theorem sN_window {F G : Nat → Int} {n lo c : Nat} (h : lo + c ≤ n) (hin : ∀ j, lo ≤ j → j < lo + c → F j = G (j - lo)) (hout : ∀ j, j < n → (j < lo ∨ lo + c ≤ j) → F j = 0) : sN F n = sN G c := by
  have e : n = lo + (c + (n - lo - c)) := by omega
  rw [e, sN_add, sN_add, sN_zero lo fun j hj => hout j (by omega) (.inl hj), sN_zero (n - lo - c) fun j hj => hout _ (by omega) (.inr (by omega))]
  rw [sN_congr (G := G) c fun j hj => by rw [hin _ (by omega) (by omega)]; congr 1; omega]
  omega
theorem upS_sN (g : Nat → Int) (u lo : Nat) : ∀ j, upS g u lo j = sN (fun i => if u.testBit (lo + i) then 0 else g (u + 2 ^ (lo + i))) j
  | 0 => rfl
  | j + 1 => by
    show upS g u lo j + _ = sN _ j + _
    rw [upS_sN g u lo j]
theorem sum_rg (c : Int → Bool) (G : Int → Int) : ∀ n, (((rg n).filter c).map G).sum = sN (fun j => if c (j : Int) = true then G j else 0) n
  | 0 => rfl
  | n + 1 => by
    rw [rg_succ, List.filter_append, List.map_append, List.sum_append, sum_rg c G n]
    show _ = sN _ n + _
    congr 1
    show (([(n : Int)].filter c).map G).sum = if c (n : Int) = true then G n else 0
    by_cases hc : c (n : Int) = true
    · rw [if_pos hc, List.filter_cons, if_pos hc]
      show G n + 0 = G n
      omega
    · rw [if_neg hc, List.filter_cons, if_neg hc]
      rfl
/-- the things that are not in u -/
def lf (n u : Nat) : List Int := (rg n).filter fun t => !u.testBit t.toNat
theorem lf_less {n u t : Nat} (h : u.testBit t = false) (hu : u < 4096) (ht : t < 12) : lf n (u + 2 ^ t) = (lf n u).filter fun s => !decide (s = (t : Int)) := by
  unfold lf
  rw [List.filter_filter]
  refine List.filter_congr fun x hx => ?_
  have hb := rg_mem.mp hx
  rw [bit_add h hu ht, Nat.testBit_or, Nat.testBit_two_pow]
  by_cases c : t = x.toNat
  · have c2 : x = (t : Int) := by omega
    rw [decide_eq_true c, decide_eq_true c2, Bool.or_true]
    rfl
  · have c2 : ¬ x = (t : Int) := by omega
    rw [decide_eq_false c, decide_eq_false c2, Bool.or_false]
    cases u.testBit x.toNat <;> rfl
theorem fill_comp {n : Nat} {r : Int} (hn : n ≤ 12) (hr : 0 ≤ r) : ∀ (f p u : Nat), p + f ≤ n → u < 4096 → fillE r f p (lf n u) = compF n r f p u
  | 0, _, _, _, _ => rfl
  | f + 1, p, u, hp, hu => by
    show (((rg n).filter _).map _).sum = upS _ u (loP p r) (ctP n p r)
    rw [sum_rg, upS_sN]
    have hlo : loP p r ≤ p := by unfold loP; omega
    have hlc : loP p r + ctP n p r = (min (n : Int) ((p : Int) + r + 1)).toNat := by unfold ctP; unfold loP; omega
    refine sN_window (lo := loP p r) (by rw [hlc]; omega) (fun j h1 h2 => ?_) (fun j hj h => ?_)
    · have e : loP p r + (j - loP p r) = j := by omega
      rw [e, Int.toNat_natCast]
      have hj : j < 12 := by rw [hlc] at h2; omega
      cases hb : u.testBit j
      · have hin : absI ((j : Int) - p) ≤ r := by
          unfold absI
          rw [hlc] at h2
          unfold loP at h1
          split <;> omega
        rw [if_pos (by rfl), if_pos hin, if_neg (by decide), ← lf_less hb hu hj]
        exact fill_comp hn hr f (p + 1) _ (by omega) (bit_lt hb hu hj)
      · rw [if_neg (by decide), if_pos rfl]
    · have hout : ¬ absI ((j : Int) - p) ≤ r := by
        unfold absI
        rcases h with h | h
        · unfold loP at h
          split <;> omega
        · rw [hlc] at h
          split <;> omega
      split <;> first | rfl | rw [if_neg hout]
theorem comp_min {n : Nat} {r : Int} (hr : 0 ≤ r) : ∀ (f p u : Nat), p + f ≤ n → compF n (min r n) f p u = compF n r f p u
  | 0, _, _, _ => rfl
  | f + 1, p, u, h => by
    show upS _ u (loP p (min r n)) (ctP n p (min r n)) = upS _ u (loP p r) (ctP n p r)
    have e1 : loP p (min r n) = loP p r := by unfold loP; omega
    have e2 : ctP n p (min r n) = ctP n p r := by unfold ctP; rw [e1]; omega
    rw [e1, e2, upS_sN, upS_sN]
    refine sN_congr _ fun j _ => ?_
    split
    · rfl
    · exact comp_min hr f (p + 1) _ (by omega)
theorem shift_fill {n : Nat} {r : Int} (hn : n ≤ 12) (hr : 0 ≤ r) : fillE (min r n) n 0 (rg n) = shN n r := by
  have e : rg n = lf n 0 := by
    unfold lf
    exact (List.filter_eq_self.mpr fun x _ => by rw [Nat.zero_testBit]; rfl).symm
  rw [e, shN_fill hn hr, ← comp_min hr n 0 0 (by omega)]
  exact fill_comp hn (by omega) n 0 0 (by omega) (by decide)
end Fo
namespace Fo
open PySem PySem.Spec PyProof.Rows L2
theorem nodup_le {α : Type} [DecidableEq α] : ∀ {l m : List α}, l.Nodup → (∀ x ∈ l, x ∈ m) → l.length ≤ m.length
  | [], _, _, _ => Nat.zero_le _
  | x :: l, m, h, hm => by
    obtain ⟨h1, h2⟩ := List.nodup_cons.mp h
    have hx := hm x List.mem_cons_self
    have ih := nodup_le (m := m.erase x) h2 fun y hy => (List.mem_erase_of_ne (fun e : y = x => h1 (e ▸ hy))).mpr (hm y (List.mem_cons_of_mem _ hy))
    rw [List.length_erase_of_mem hx] at ih
    have := List.length_pos_of_mem hx
    show l.length + 1 ≤ m.length
    omega
def subsL : List Int → List (List Int)
  | [] => [[]]
  | x :: l => subsL l ++ (subsL l).map (x :: ·)
theorem subs_mem {s l : List Int} (h : s.Sublist l) : s ∈ subsL l := by
  induction h with
  | slnil => exact List.mem_singleton.mpr rfl
  | cons a _ ih => exact List.mem_append_left _ ih
  | cons_cons a _ ih => exact List.mem_append_right _ (List.mem_map.mpr ⟨_, ih, rfl⟩)
theorem subs_len : ∀ l : List Int, (subsL l).length = 2 ^ l.length
  | [] => rfl
  | x :: l => by
    show (subsL l ++ _).length = 2 ^ (l.length + 1)
    rw [List.length_append, List.length_map, subs_len l, Nat.pow_succ]
    omega
def ky (l : List Int) : List Key := l.map Sum.inl
theorem ky_map (l : List Int) : (ky l).map kV = l.map V.int := by
  unfold ky
  rw [List.map_map]
  rfl
theorem ky_inj : ∀ {a b : List Int}, ky a = ky b → a = b
  | [], [], _ => rfl
  | [], _ :: _, h => by cases h
  | _ :: _, [], h => by cases h
  | x :: a, y :: b, h => by
    have h1 := List.cons.inj h
    rw [ky_inj h1.2, Sum.inl.inj h1.1]
structure Memo (n : Nat) (r : Int) (kvs : List (List Key × V)) : Prop where
  val : ∀ left v, valV kvs (ky left) = some v → v = .int (fillE r left.length ((n : Int) - left.length) left)
  nd : (kvs.map (·.1)).Nodup
  sub : ∀ k ∈ kvs.map (·.1), ∃ left : List Int, k = ky left ∧ left.Sublist (rg n)
theorem Memo.len {n : Nat} {r : Int} {kvs : List (List Key × V)} (h : Memo n r kvs) (hn : n ≤ 12) : kvs.length ≤ 4096 := by
  have h1 := nodup_le (m := (subsL (rg n)).map ky) h.nd fun k hk => by
    obtain ⟨left, rfl, hs⟩ := h.sub k hk
    exact List.mem_map_of_mem (subs_mem hs)
  rw [List.length_map, List.length_map, subs_len, rg_len] at h1
  have h2 : 2 ^ n ≤ 2 ^ 12 := Nat.pow_le_pow_right (by decide) hn
  exact Nat.le_trans h1 h2
theorem Memo.nil (n : Nat) (r : Int) : Memo n r [] := ⟨fun _ _ h => absurd (valV_nil.symm.trans h) (by simp), List.nodup_nil, fun _ h => absurd h List.not_mem_nil⟩
theorem Memo.put {n : Nat} {r : Int} {kvs : List (List Key × V)} (h : Memo n r kvs) {left : List Int} (hs : left.Sublist (rg n)) : Memo n r (putK kvs (ky left) (.int (fillE r left.length ((n : Int) - left.length) left))) ∧ valV (putK kvs (ky left) (.int (fillE r left.length ((n : Int) - left.length) left))) (ky left) = some (.int (fillE r left.length ((n : Int) - left.length) left)) := by
  refine ⟨⟨fun l2 v hv => ?_, ?_, fun k hk => ?_⟩, by rw [valV_put, if_pos rfl]⟩
  · rw [valV_put] at hv
    by_cases c : ky l2 = ky left
    · rw [if_pos c] at hv
      rw [ky_inj c]
      exact (Option.some.inj hv).symm
    · rw [if_neg c] at hv
      exact h.val l2 v hv
  · cases hv : valV kvs (ky left) with
    | none =>
      rw [putK_new _ hv, List.map_append, List.nodup_append]
      refine ⟨h.nd, List.nodup_cons.mpr ⟨List.not_mem_nil, List.nodup_nil⟩, fun a ha b hb e => ?_⟩
      rw [List.mem_singleton.mp hb] at e
      have e2 : a = ky left := e
      rw [e2] at ha
      exact valV_not hv ha
    | some v =>
      have e : (putK kvs (ky left) (.int (fillE r left.length ((n : Int) - left.length) left))).map (·.1) = kvs.map (·.1) := by
        unfold putK
        rw [if_pos (by rw [valV_any, hv]; rfl), List.map_map]
        refine List.map_congr_left fun kv _ => ?_
        show (if kv.1 = ky left then (kv.1, _) else kv).1 = kv.1
        split <;> rfl
      rw [e]
      exact h.nd
  · cases hv : valV kvs (ky left) with
    | none =>
      rw [putK_new _ hv, List.map_append] at hk
      rcases List.mem_append.mp hk with hk | hk
      · exact h.sub k hk
      · exact ⟨left, List.mem_singleton.mp hk, hs⟩
    | some v =>
      have e : (putK kvs (ky left) (.int (fillE r left.length ((n : Int) - left.length) left))).map (·.1) = kvs.map (·.1) := by
        unfold putK
        rw [if_pos (by rw [valV_any, hv]; rfl), List.map_map]
        refine List.map_congr_left fun kv _ => ?_
        show (if kv.1 = ky left then (kv.1, _) else kv).1 = kv.1
        split <;> rfl
      rw [e] at hk
      exact h.sub k hk
theorem without {left : List Int} {k : Nat} {t : Int} (nd : left.Nodup) (e : left[k]? = some t) : left.take k ++ left.drop (k + 1) = left.filter fun s => !decide (s = t) := by
  obtain ⟨hk, rfl⟩ := List.getElem?_eq_some_iff.mp e
  have h1 : left = left.take k ++ left[k] :: left.drop (k + 1) := by rw [← List.drop_eq_getElem_cons hk, List.take_append_drop]
  have h2 : (left.take k ++ left[k] :: left.drop (k + 1)).Nodup := by rw [← h1]; exact nd
  obtain ⟨n1, n2, n3⟩ := List.nodup_append.mp h2
  obtain ⟨n4, _⟩ := List.nodup_cons.mp n2
  generalize left[k] = t at *
  generalize left.take k = a at *
  generalize left.drop (k + 1) = b at *
  rw [h1, List.filter_append, List.filter_cons, if_neg (by rw [decide_eq_true rfl]; decide)]
  congr 1
  · exact (List.filter_eq_self.mpr fun x hx => by rw [decide_eq_false (n3 x hx t List.mem_cons_self)]; rfl).symm
  · exact (List.filter_eq_self.mpr fun x hx => by rw [decide_eq_false (fun z : x = t => n4 (z ▸ hx))]; rfl).symm
def spFill (m : Nat) : Sp := fun vs H Q _ => ∃ (n f : Nat) (r p : Int) (t kd : Addr) (left : List Int) (kvs : List (List Key × V)), vs = [.int n, .int r, .int p, .ref t, .ref kd] ∧ n ≤ 12 ∧ f < m ∧ p + f = n ∧ left.length = f ∧ left.Sublist (rg n) ∧ H t = some (.tup (left.map V.int)) ∧ H kd = some (.dT kvs) ∧ Memo n r kvs ∧
  ∀ (H' : Hp) (kvs' : List (List Key × V)), H' kd = some (.dT kvs') → Memo n r kvs' → (∀ b o, H b = some o → b ≠ kd → H' b = some o) → Q (.int (fillE r f p left)) H'
section
variable {P : Program} {w : World} {K : PySem.W.Frag} {mg : Str → Option Value} {base : Heap}
theorem scFill : FnScope ["n", "r", "place", "left", "known", "total", "k", "thing", "rest"] ["n", "r", "place", "left", "known"] (defScope s_law_fill) := ⟨rfl, rfl, rfl, by decide +kernel, rfl, by decide +kernel, by decide +kernel⟩
theorem ok_fill0 {f : Addr} {fd : FuncData} {k : Nat} (T : Df K mg "_law_fill" s_law_fill ["n", "r", "place", "left", "known"] f fd) : FnOk P w K mg base CX0 (k + 1) f fd ["n", "r", "place", "left", "known"] (spFill 0) := by
  refine T.F.ok scFill (fun vs H Q E h => ?_) (fun cdv A outer s H vs Q E hr h => ?_)
  · obtain ⟨n, f, r, p, t, kd, left, kvs, rfl, _⟩ := h
    rfl
  · obtain ⟨n, f, r, p, t, kd, left, kvs, rfl, h1, h2, _⟩ := h
    omega
set_option maxHeartbeats 4000000 in
theorem ok_fill1 {f : Addr} {fd : FuncData} {k m : Nat} (T : Df K mg "_law_fill" s_law_fill ["n", "r", "place", "left", "known"] f fd) (G__law_fill : FnOk P w K mg base CX0 k f fd ["n", "r", "place", "left", "known"] (spFill m)) (B : Bi mg) : FnOk P w K mg base CX0 (k + 1) f fd ["n", "r", "place", "left", "known"] (spFill (m + 1)) := by
  have T__law_fill := T
  refine T.F.ok scFill (fun vs H Q E h => ?_) (fun cdv A outer s H vs Q E hr h => ?_)
  · obtain ⟨n, f, r, p, t, kd, left, kvs, rfl, _⟩ := h
    rfl
  · obtain ⟨n, ff, r, p, t, kd, left, kvs, rfl, hn, hf, hp, hlen, hsub, ht, hk, hM, q⟩ := h
    refine ⟨_, 
      (pss_cons (ps_if (pt_cmpR op_eq (pv 2) (pv 0) (nomark _))
        (pss_one (ps_ret pe_int))
        pss_nil)
      (Evl.pss_cut (ps_if (pt_cmp (pc_dnotin (hu_of hr) (pv 3) (pv 4)))
        (pss_cons (ps_set (i := 5) scFill.nd rfl (.inl rfl) pe_int)
        (pss_cons (ps_for PassesOwn.never rfl (pi_enumT (by rfl) B.enumerate (pa_cons (pv 3) pa_nil)) (pg_tup (by rfl) (pgs_cons (pg_name (i := 6) scFill.nd rfl (.inl rfl)) (pgs_cons (pg_name (i := 7) scFill.nd rfl (.inl rfl)) pgs_nil)))
          (pss_one (ps_if (pt_cmpR op_le (pe_callB call_abs (by rfl) B.abs (by decide +kernel) (pa_cons (pe_op op_sub (pv 7) (pv 2)) pa_nil)) (pv 1) (nomark _))
            (pss_cons (ps_set (i := 8) scFill.nd rfl (.inl rfl) (pe_op op_catA (pe_slice sl_tupA (pv 3) po_none (po_some (pv 6))) (pe_slice sl_tupA (pv 3) (po_some (pe_op op_add (pv 6) pe_int)) po_none)))
            (pss_one (ps_set (i := 5) scFill.nd rfl (.inl rfl) (pe_op op_add (pv 5) (pe_call G__law_fill hr (by rfl) T__law_fill.g T__law_fill.F.kp T__law_fill.b .nil pass0 (pa_cons (pv 0) (pa_cons (pv 1) (pa_cons (pe_op op_add (pv 2) pe_int) (pa_cons (pv 8) (pa_cons (pv 4) pa_nil))))))))))
            pss_nil)))
        (pss_one (ps_dput (hu_of hr) (pv 4) (pv 3) (pv 5) (by rfl)))))
        pss_nil)
      (pss_one (ps_ret (pe_dget (hu_of hr) (pv 4) (pv 3) (fun _ _ => rfl)))))), ?_⟩
    have tkd : t ≠ kd := fun z => by rw [z, hk] at ht; cases ht
    refine ⟨_, rfl, _, rfl, rfl, _, rfl, ite2 (fun c => ?_) (fun c => ?_)⟩
    · have e : p = n := V.int.inj (of_decide_eq_true c)
      obtain rfl : ff = 0 := by omega
      exact q H kvs hk hM fun b o e _ => e
    have pn : p ≠ n := fun z => c (decide_eq_true (by rw [z]))
    obtain ⟨g, rfl⟩ : ∃ g, ff = g + 1 := ⟨ff - 1, by omega⟩
    have epl : p = (n : Int) - (left.length : Nat) := by omega
    have ht2 : H t = some (.tup ((ky left).map kV)) := by rw [ky_map]; exact ht
    have nd : left.Nodup := hsub.nodup (rg_nodup n)
    refine ⟨fun τ G => ∃ (y5 y6 y7 y8 : Option V) (kvs2 : List (List Key × V)), τ = [some (.int n), some (.int r), some (.int p), some (.ref t), some (.ref kd), y5, y6, y7, y8] ∧ G kd = some (.dT kvs2) ∧ Memo n r kvs2 ∧ valV kvs2 (ky left) = some (.int (fillE r (g + 1) p left)) ∧ (∀ b o, H b = some o → b ≠ kd → G b = some o), ?_, fun τ G hM2 => ?_⟩
    · refine ⟨_, rfl, _, rfl, kd, _, rfl, DGet.t hk ht2, _, rfl, ?_⟩
      cases hv0 : valV kvs (ky left) with
      | some v =>
        have ev := hM.val left v hv0
        rw [← epl, hlen] at ev
        exact iteF ⟨_, _, _, _, kvs, rfl, hk, hM, by rw [hv0, ev], fun b o e _ => e⟩
      | none =>
        refine iteT ?_
        have pt : ∀ i, i ≤ left.length → (left.take i).length ≤ left.length := fun i _ => by rw [List.length_take]; omega
        refine ⟨_, rfl, t, _, rfl, SqT.of ht, ?_⟩
        refine for_enumT (xs := left.map V.int) (fun i σ G => ∃ (y6 y7 y8 : Option V) (kvs2 : List (List Key × V)), σ = [some (.int n), some (.int r), some (.int p), some (.ref t), some (.ref kd), some (.int (((left.take i).map fun t => if absI (t - p) ≤ r then fillE r g (p + 1) (left.filter fun s => !decide (s = t)) else 0).sum)), y6, y7, y8] ∧ G kd = some (.dT kvs2) ∧ Memo n r kvs2 ∧ (∀ b o, H b = some o → b ≠ kd → G b = some o)) ⟨_, _, _, kvs, rfl, hk, hM, fun b o e _ => e⟩ (fun i σ G hP => by obtain ⟨_, _, _, _, _, _, _, kG⟩ := hP; exact SqT.of (kG _ _ ht tkd)) (fun i x T σ G hx hP nT => ?_) (fun σ G hP => ?_)
        · obtain ⟨y6, y7, y8, kvs2, rfl, hk2, hM2, kG⟩ := hP
          obtain ⟨th, eth, rfl⟩ := int_at_inv hx
          have sT := same_new (o := .tup [.int (i : Nat), .int th]) nT
          have hi : i < left.length := (List.getElem?_eq_some_iff.mp eth).1
          have eS : ((left.take (i + 1)).map fun t => if absI (t - p) ≤ r then fillE r g (p + 1) (left.filter fun s => !decide (s = t)) else 0).sum = ((left.take i).map fun t => if absI (t - p) ≤ r then fillE r g (p + 1) (left.filter fun s => !decide (s = t)) else 0).sum + (if absI (th - p) ≤ r then fillE r g (p + 1) (left.filter fun s => !decide (s = th)) else 0) := by
            rw [List.take_add_one, eth, List.map_append, List.sum_append]
            show _ + ((if absI (th - p) ≤ r then fillE r g (p + 1) (left.filter fun s => !decide (s = th)) else 0) + 0) = _
            rw [Int.add_zero]
          have kG2 : ∀ b o, H b = some o → b ≠ kd → (upd G T (.tup [.int (i : Nat), .int th])) b = some o := fun b o e f => sT _ _ (kG b o e f)
          have hk3 := sT _ _ hk2
          refine ⟨T, _, rfl, .inl (.inl upd_same), rfl, _, _, rfl, _, _, rfl, rfl, ?_⟩
          generalize upd G T (.tup [.int (i : Nat), .int th]) = G3 at kG2 hk3 ⊢
          refine ⟨_, rfl, _, rfl, _, _, rfl, rfl, _, rfl, _, rfl, _, _, rfl, rfl, _, rfl, ite2 (fun c => ?_) (fun c => ?_)⟩
          rotate_left
          · have c2 : ¬ absI (th - p) ≤ r := fun z => c (decide_eq_true z)
            rw [if_neg c2] at eS
            exact ⟨_, _, _, kvs2, by rw [eS, Int.add_zero]; rfl, hk3, hM2, kG2⟩
          have c2 : absI (th - p) ≤ r := of_decide_eq_true c
          rw [if_pos c2] at eS
          have ht3 := kG2 _ _ ht tkd
          have lm : (left.map V.int).length = left.length := List.length_map _
          have ew := without nd eth
          have e1 : cutV (left.map V.int) none (some (i : Int)) = (left.take i).map V.int := by rw [cut_ints]; exact congrArg _ (cutI_head left i)
          have e2 : cutV (left.map V.int) (some ((i : Int) + 1)) none = (left.drop (i + 1)).map V.int := by rw [cut_ints]; exact congrArg _ (cutI_tail left (i + 1))
          have l1 : ((left.take i).map V.int).length = i := by rw [List.length_map, List.length_take]; omega
          have l2 : ((left.drop (i + 1)).map V.int).length = left.length - (i + 1) := by rw [List.length_map, List.length_drop]
          refine ⟨_, rfl, _, rfl, _, rfl, t, _, rfl, SqT.of ht3, fun hw => ?_, fun _ z1 nz1 => ?_⟩
          · exfalso
            have := hw.2
            rw [HT.sIx_nat, lm] at this
            omega
          rw [e1]
          have s1 := same_new (o := .tup ((left.take i).map V.int)) nz1
          refine ⟨_, rfl, _, rfl, _, _, rfl, rfl, _, rfl, t, _, rfl, SqT.of (s1 _ _ ht3), fun hw => ?_, fun _ z2 nz2 => ?_⟩
          · exfalso
            have := hw.1
            rw [show ((i : Int) + 1) = ((i + 1 : Nat) : Int) from rfl, HT.sIx_nat, lm] at this
            omega
          rw [e2]
          have s2 := same_new (o := .tup ((left.drop (i + 1)).map V.int)) nz2
          have hz1 := s2 _ _ (upd_same (H := G3) (a := z1) (o := .tup ((left.take i).map V.int)))
          refine ⟨z1, z2, _, _, rfl, rfl, SqT.of hz1, SqT.of upd_same, line_small (by have a4 := hsub.length_le; rw [rg_len] at a4; omega), fun q1 => ?c1, fun q1 q2 => ?c2, fun q1 q2 z3 nz3 => ?c3⟩
          case' c1 =>
            have hb : (upd (upd G3 z1 (.tup ((left.take i).map V.int))) z2 (.tup ((left.drop (i + 1)).map V.int))) z2 = some (.tup ((left.filter fun s => !decide (s = th)).map V.int)) := by
              rw [upd_same, ← ew, List.map_append, q1]; rfl
            have sC := s1.trans s2
            generalize upd (upd G3 z1 (.tup ((left.take i).map V.int))) z2 (.tup ((left.drop (i + 1)).map V.int)) = C at hb sC ⊢
            generalize z2 = bb at hb ⊢
          case' c2 =>
            have hb : (upd (upd G3 z1 (.tup ((left.take i).map V.int))) z2 (.tup ((left.drop (i + 1)).map V.int))) z1 = some (.tup ((left.filter fun s => !decide (s = th)).map V.int)) := by
              rw [hz1, ← ew, List.map_append, q2, List.append_nil]
            have sC := s1.trans s2
            generalize upd (upd G3 z1 (.tup ((left.take i).map V.int))) z2 (.tup ((left.drop (i + 1)).map V.int)) = C at hb sC ⊢
            generalize z1 = bb at hb ⊢
          case' c3 =>
            have hb : (upd (upd (upd G3 z1 (.tup ((left.take i).map V.int))) z2 (.tup ((left.drop (i + 1)).map V.int))) z3 (.tup ((left.take i).map V.int ++ (left.drop (i + 1)).map V.int))) z3 = some (.tup ((left.filter fun s => !decide (s = th)).map V.int)) := by
              rw [upd_same, ← ew, List.map_append]
            have sC := (s1.trans s2).trans (same_new (o := .tup ((left.take i).map V.int ++ (left.drop (i + 1)).map V.int)) nz3)
            generalize upd (upd (upd G3 z1 (.tup ((left.take i).map V.int))) z2 (.tup ((left.drop (i + 1)).map V.int))) z3 (.tup ((left.take i).map V.int ++ (left.drop (i + 1)).map V.int)) = C at hb sC ⊢
            generalize z3 = bb at hb ⊢
          all_goals
            refine ⟨_, rfl, _, rfl, _, rfl, _, rfl, _, _, rfl, rfl, _, rfl, _, rfl, n, g, r, p + 1, bb, kd, _, kvs2, rfl, hn, by omega, by omega, ?_, (List.filter_sublist).trans hsub, hb, sC _ _ hk3, hM2, fun C2 kvs3 hk4 hM4 k4 => ?_⟩
            · rw [← ew, List.length_append, List.length_take, List.length_drop]; omega
            · refine ⟨_, _, rfl, rfl, _, _, _, kvs3, by rw [eS]; rfl, hk4, hM4, fun b o e f => k4 _ _ (sC _ _ (kG2 b o e f)) f⟩
        · obtain ⟨y6, y7, y8, kvs2, rfl, hk2, hM2, kG⟩ := hP
          rw [List.length_map, List.take_length]
          have hp2 := hM2.put hsub
          rw [hlen, show (n : Int) - ((g + 1 : Nat) : Int) = p by omega] at hp2
          refine ⟨_, rfl, _, rfl, _, rfl, kd, _, rfl, DPut.t hk2 (kG _ _ ht2 tkd) (line_lt (by have := hM2.len hn; omega)), ?_⟩
          exact ⟨_, _, _, _, _, rfl, upd_same, hp2.1, hp2.2, fun b o e f => by rw [upd_ne f]; exact kG b o e f⟩
    obtain ⟨y5, y6, y7, y8, kvs2, rfl, hk2, hM3, hv, keep⟩ := hM2
    have ht3 := keep _ _ ht2 tkd
    refine ⟨_, rfl, _, rfl, kd, _, rfl, (hv ▸ DGet.t hk2 ht3), q G kvs2 hk2 hM3 keep⟩
theorem ok_fills {f : Addr} {fd : FuncData} {k : Nat} (T : Df K mg "_law_fill" s_law_fill ["n", "r", "place", "left", "known"] f fd) (B : Bi mg) : ∀ m, FnOk P w K mg base CX0 (k + 1 + m) f fd ["n", "r", "place", "left", "known"] (spFill m)
  | 0 => ok_fill0 T
  | m + 1 => ok_fill1 T (ok_fills T B m) B
end
end Fo
namespace Fo
open PySem PySem.Spec PyProof.Rows L2
/-! ### a call of what a subscript tells, one of several defs (for k15) -/
def tCallE2 (tf : TE) (S : Addr → Sp → Prop) (t : TA) : TE := fun σ H Q => tf σ H fun v H1 => ∃ f sp, v = .ref f ∧ S f sp ∧ t σ H1 fun vs H2 => sp vs H2 Q (fun _ _ _ => False)
theorem pe_callE2 {X : Cx} {k : Nat} {S : Addr → Sp → Prop} {o i e : Expr} {es : List Expr} {sp0 pos : Pos} {tf : TE} {t : TA} (A : ∀ f sp, S f sp → HeldE X.prog X.w X.K X.mg X.base k f sp) (hr : Room k X.A) (hf : PE X (.Subscript o i sp0) tf) (ha : PA X (e :: es) t)
    (he : starEach (e :: es) X.env = (false, eval e X.env) :: starEach es X.env := by rfl) (hpl : (backTo pos (starEach es X.env)).any (·.1) = false := by rfl)
    (hev : eval (.Call (.Subscript o i sp0) (e :: es) [] pos) X.env = (do callWith pos (← eval (.Subscript o i sp0) X.env) [] (backTo pos (starEach (e :: es) X.env)) (backToKw pos (keywordEach [] X.env))) := by rfl) :
    PE X (.Call (.Subscript o i sp0) (e :: es) [] pos) (tCallE2 tf S t) := by
  refine ⟨fun pins s σ H Q I h => ?_⟩
  rw [hev]
  refine wpAny_bind (thn (hf.run pins s σ H _ I h) fun u s1 ⟨v, H1, I1, r1, q1⟩ => ?_)
  obtain ⟨f, sp, rfl, hS, ht⟩ := q1
  obtain ⟨fd, ps, F, hk, hb⟩ := (A f sp hS).ex
  cases r1
  refine PySem.W.callWith_K (h₀ := X.base) I1.ok.mod.kin hk (thn (ha.run pos pins s1 σ _ _ I1 ht) fun us s2 ⟨vs, H2, I2, r, q⟩ => ⟨I2.kIn, ?_⟩) he hpl
  refine run_fn (E := fun _ _ _ => False) F hr hb .nil (fun _ _ _ _ _ _ _ z => z.elim) I2 r ?_
  rw [List.append_nil]
  exact q
end Fo
namespace Fo
open PySem PySem.Spec PyProof.Rows L2
def fcI : Nat → Int
  | 0 => 1
  | k + 1 => fcI k * ((k : Int) + 1)
def sgI (k : Nat) : Int := if k % 2 = 0 then 1 else -1
def totS (k : Nat) : Nat → Int
  | 0 => 0
  | j + 1 => totS k j + sgI j * chN2 k j * fcI (k - j)
theorem spots_eq : ∀ n : Nat, n < 13 → (List.range (n + 1)).map (fun k => chN2 n k * totS k (k + 1)) = spC n := by decide +kernel
theorem ch2_small : ∀ n : Nat, n < 13 → ∀ k : Nat, k ≤ n → 0 ≤ chN2 n k ∧ chN2 n k ≤ 1000 := by decide +kernel
def spShifts : Sp := fun vs H Q _ => ∃ (n : Nat) (r : Int), vs = [.int n, .int r] ∧ n ≤ 12 ∧ 0 ≤ r ∧ ∀ H', Same H H' → Q (.int (shN n r)) H'
def spSpots : Sp := fun vs H Q _ => ∃ (n : Nat), vs = [.int n] ∧ n ≤ 12 ∧ ∀ (l : Addr) (H' : Hp), H l = none → H' l = some (.lst ((spC n).map V.int)) → Same H H' → Q (.ref l) H'
def spWhole15 : Sp := fun vs H Q _ => ∃ i : Int, vs = [.int i, .int i] ∧ Q (.bl true) H
def spR15 : Sp := fun vs H Q _ => ∃ (w : Str) (n : Nat) (r : Int), vs = [.str w, .int n, .int r] ∧ IsWay w ∧ 1 ≤ n ∧ n ≤ 12 ∧ 0 ≤ r ∧ ∀ H', Same H H' → Q (.bl true) H'
section
variable {P : Program} {w : World} {K : PySem.W.Frag} {mg : Str → Option Value} {base : Heap}
theorem scShifts : FnScope ["n", "r"] ["n", "r"] (defScope s_law_shifts) := ⟨rfl, rfl, rfl, by decide +kernel, rfl, by decide +kernel, by decide +kernel⟩
theorem ok_shifts {f f1 : Addr} {fd d1 : FuncData} {k : Nat} (T : Df K mg "_law_shifts" s_law_shifts ["n", "r"] f fd) (T__law_fill : Df K mg "_law_fill" s_law_fill ["n", "r", "place", "left", "known"] f1 d1) (G__law_fill : FnOk P w K mg base CX0 k f1 d1 ["n", "r", "place", "left", "known"] (spFill 13)) (B : Bi mg) : FnOk P w K mg base CX0 (k + 1) f fd ["n", "r"] spShifts := by
  refine T.F.ok scShifts (fun vs H Q E h => ?_) (fun cdv A outer s H vs Q E hr h => ?_)
  · obtain ⟨n, r, rfl, _⟩ := h
    rfl
  · obtain ⟨n, r, rfl, hn, hr0, q⟩ := h
    refine ⟨_, 
      (pss_one (ps_ret (pe_call G__law_fill hr (by rfl) T__law_fill.g T__law_fill.F.kp T__law_fill.b .nil pass0 (pa_cons (pv 0) (pa_cons (pe_callB (call_min2 rfl) (by rfl) B.min (by decide +kernel) (pa_cons (pv 1) (pa_cons (pv 0) pa_nil))) (pa_cons pe_int (pa_cons (pe_callTy call_tuple_of (by rfl) B.tuple (by decide +kernel) (pa_cons (pe_listRg rfl (by rfl) B.list (prg_1 (by rfl) B.range (pv 0))) pa_nil)) (pa_cons pe_dnewT pa_nil)))))))), ?_⟩
    refine ⟨_, rfl, _, rfl, _, rfl, _, _, rfl, _, rfl, n, rfl, RgOk.of_le (by omega) (by omega) (by omega) (by omega), fun l nl => ?_⟩
    have s1 := same_new (o := .lst (rgV 0 (n : Int))) nl
    have hl : (upd H l (.lst (rgV 0 (n : Int)))) l = some (.lst ((rg n).map V.int)) := by rw [upd_same, rg_V]
    refine ⟨l, _, rfl, .inl ⟨SqL.of hl, fun t nt => ?_⟩⟩
    have s2 := same_new (o := .tup ((rg n).map V.int)) nt
    refine fun d nd => ?_
    have s3 := same_new (o := .dT []) nd
    have em : (if (n : Int) < r then (n : Int) else r) = min r n := by split <;> omega
    refine ⟨n, n, _, 0, t, d, rg n, [], rfl, hn, by omega, by omega, rg_len n, List.Sublist.refl _, s3 _ _ upd_same, upd_same, Memo.nil _ _, fun H' kvs' _ _ keep => ?_⟩
    rw [em, shift_fill hn hr0]
    exact q _ fun b o e => keep b o (((s1.trans s2).trans s3) b o e) (fun z => by rw [z, (s1.trans s2).free nd] at e; cases e)
theorem scSpots : FnScope ["n", "found", "k", "total", "kept", "ways", "one"] ["n"] (defScope s_law_spots) := ⟨rfl, rfl, rfl, by decide +kernel, rfl, by decide +kernel, by decide +kernel⟩
set_option maxHeartbeats 2000000 in
theorem ok_spots {f f1 : Addr} {fd d1 : FuncData} {k : Nat} (T : Df K mg "_law_spots" s_law_spots ["n"] f fd) (T__law_chosen : Df K mg "_law_chosen" s_law_chosen ["n", "k"] f1 d1) (G__law_chosen : FnOk P w K mg base CX0 k f1 d1 ["n", "k"] spChosen) (B : Bi mg) : FnOk P w K mg base CX0 (k + 1) f fd ["n"] spSpots := by
  refine T.F.ok scSpots (fun vs H Q E h => ?_) (fun cdv A outer s H vs Q E hr h => ?_)
  · obtain ⟨n, rfl, _⟩ := h
    rfl
  · obtain ⟨n, rfl, hn, q⟩ := h
    refine ⟨_, 
      (pss_cons (ps_set (i := 1) scSpots.nd rfl (.inl rfl) (pe_lst pa_nil))
      (pss_cons (ps_for PassesOwn.never rfl (pi_range1 (by rfl) B.range (pa_cons (pe_op op_add (pv 0) pe_int) pa_nil)) (pg_name (i := 2) scSpots.nd rfl (.inl rfl))
        (pss_cons (ps_set (i := 3) scSpots.nd rfl (.inl rfl) pe_int)
        (pss_cons (ps_for PassesOwn.never rfl (pi_range1 (by rfl) B.range (pa_cons (pe_op op_add (pv 2) pe_int) pa_nil)) (pg_name (i := 4) scSpots.nd rfl (.inl rfl))
          (pss_cons (ps_set (i := 5) scSpots.nd rfl (.inl rfl) pe_int)
          (pss_cons (ps_for PassesOwn.never rfl (pi_range1 (by rfl) B.range (pa_cons (pe_op op_sub (pv 2) (pv 4)) pa_nil)) (pg_name (i := 6) scSpots.nd rfl (.inl rfl))
            (pss_one (ps_set (i := 5) scSpots.nd rfl (.inl rfl) (pe_op op_mul (pv 5) (pe_op op_add (pv 6) pe_int)))))
          (pss_one (ps_set (i := 3) scSpots.nd rfl (.inl rfl) (pe_op op_add (pv 3) (pe_op op_mul (pe_op op_mul (pe_ix ix_list (pe_lst (pa_cons pe_int (pa_cons (pe_un un_neg pe_int) pa_nil))) (pe_op op_mod (pv 4) pe_int) (fun _ _ => rfl)) (pe_call G__law_chosen hr (by rfl) T__law_chosen.g T__law_chosen.F.kp T__law_chosen.b .nil pass0 (pa_cons (pv 2) (pa_cons (pv 4) pa_nil)))) (pv 5))))))))
        (pss_one (ps_expr (pe_bm PySem.F.plainAttrs_list PySem.F.slot_list_append PySem.F.type_list_append mt_append (pv 1) (pa_cons (pe_op op_mul (pe_call G__law_chosen hr (by rfl) T__law_chosen.g T__law_chosen.F.kp T__law_chosen.b .nil pass0 (pa_cons (pv 0) (pa_cons (pv 2) pa_nil))) (pv 3)) pa_nil)))))))
      (pss_one (ps_ret (pv 1))))), ?_⟩
    refine ⟨by show 0 ≤ sizeLine; decide, fun l nl => ?_⟩
    have s0 := same_new (o := .lst []) nl
    refine ⟨_, rfl, (n : Int), 1, rfl, rfl, _, rfl, by omega, by omega, ?_⟩
    rw [show ((n : Int) + 1).toNat = n + 1 by omega]
    refine for_range (n := n + 1) (fun i σ G => ∃ y2 y3 y4 y5 y6, σ = [some (.int n), some (.ref l), y2, y3, y4, y5, y6] ∧ G l = some (.lst (((List.range i).map fun k => chN2 n k * totS k (k + 1)).map V.int)) ∧ Same H G) ⟨_, _, _, _, _, rfl, upd_same, s0⟩ (fun i σ G hi hP => ?_) (fun σ G hP => ?_)
    · obtain ⟨y2, y3, y4, y5, y6, rfl, hl, sm⟩ := hP
      refine ⟨_, rfl, 0 + (i : Int), 1, rfl, rfl, _, rfl, by omega, by omega, ?_⟩
      rw [show ((0 + (i : Int)) + 1).toNat = i + 1 by omega]
      refine for_range (n := i + 1) (fun j σ G2 => ∃ y4 y5 y6, σ = [some (.int n), some (.ref l), some (.int (0 + (i : Int))), some (.int (totS i j)), y4, y5, y6] ∧ Same G G2) ⟨_, _, _, rfl, Same.refl _⟩ (fun j σ G2 hj hP => ?_) (fun σ G2 hP => ?_)
      · obtain ⟨y4, y5, y6, rfl, s2⟩ := hP
        refine ⟨_, rfl, _, rfl, 0 + (i : Int), 0 + (j : Int), rfl, rfl, _, rfl, by omega, by omega, ?_⟩
        rw [show ((0 + (i : Int)) - (0 + (j : Int))).toNat = i - j by omega]
        refine for_range (n := i - j) (fun m σ G3 => ∃ y6, σ = [some (.int n), some (.ref l), some (.int (0 + (i : Int))), some (.int (totS i j)), some (.int (0 + (j : Int))), some (.int (fcI m)), y6] ∧ G3 = G2) ⟨_, rfl, rfl⟩ (fun m σ G3 hm hP => ?_) (fun σ G3 hP => ?_)
        · obtain ⟨y6, rfl, rfl⟩ := hP
          refine ⟨_, rfl, _, rfl, 0 + (m : Int), 1, rfl, rfl, fcI m, _, rfl, rfl, .inr ⟨by omega, by omega⟩, some (.int (0 + (m : Int))), ?_, rfl⟩
          show [some (V.int n), some (V.ref l), some (V.int (0 + (i : Int))), some (V.int (totS i j)), some (V.int (0 + (j : Int))), some (V.int (fcI m * (0 + (m : Int) + 1))), some (V.int (0 + (m : Int)))] = _
          rw [Int.zero_add (m : Int)]
          rfl
        · obtain ⟨y6, rfl, rfl⟩ := hP
          have hat : atI [V.int 1, V.int (-1)] ((0 + (j : Int)) % 2) = some (V.int (sgI j)) := by
            rcases (show j % 2 = 0 ∨ j % 2 = 1 by omega) with z | z
            · rw [show (0 + (j : Int)) % 2 = 0 by omega]
              unfold sgI
              rw [if_pos z]
              rfl
            · rw [show (0 + (j : Int)) % 2 = 1 by omega]
              unfold sgI
              rw [if_neg (by omega)]
              rfl
          have hsg : sgI j = 1 ∨ sgI j = -1 := by unfold sgI; split <;> simp
          have hch := ch2_small i (by omega) j (by omega)
          refine ⟨_, rfl, 1, rfl, line_small (by show 2 ≤ 16777216; decide), fun t nt => ?_⟩
          have s3 := same_new (o := .lst [.int 1, .int (-1)]) nt
          refine ⟨_, rfl, _, 2, rfl, rfl, (show (0 : Int) < 2 by decide), t, _, _, _, rfl, rfl, SqL.of upd_same, hat, ?_⟩
          refine ⟨_, rfl, _, rfl, i, j, by rw [Int.zero_add, Int.zero_add]; rfl, by omega, by omega, fun H4 s4 => ?_⟩
          refine ⟨_, _, rfl, rfl, .inl ⟨by omega, by omega⟩, _, rfl, _, _, rfl, rfl, .inl ⟨?_, ?_⟩, _, _, rfl, rfl, ?_⟩
          · rcases hsg with z | z <;> rw [z] <;> omega
          · rcases hsg with z | z <;> rw [z] <;> omega
          exact ⟨_, _, _, rfl, s2.trans (s3.trans s4)⟩
      · obtain ⟨y4, y5, y6, rfl, s2⟩ := hP
        have hch := ch2_small n (by omega) i (by omega)
        refine ⟨_, rfl, .inl ⟨rfl, _, SqL.of (s2 _ _ hl)⟩, _, rfl, _, rfl, n, i, by rw [Int.zero_add]; rfl, by omega, hn, fun H4 s4 => ?_⟩
        refine ⟨_, rfl, _, _, rfl, rfl, .inl ⟨by omega, by omega⟩, l, _, _, rfl, rfl, s4 _ _ (s2 _ _ hl), line_lt (by rw [List.length_map, List.length_map, List.length_range]; omega), _, _, _, _, _, rfl, ?_, fun b o e => ?_⟩
        · rw [upd_same, List.range_succ, List.map_append, List.map_append]
          rfl
        · rw [upd_ne (fun z => by rw [z, nl] at e; cases e)]
          exact s4 _ _ (s2 _ _ (sm _ _ e))
    · obtain ⟨y2, y3, y4, y5, y6, rfl, hl, sm⟩ := hP
      rw [spots_eq n (by omega)] at hl
      exact ⟨_, rfl, q l _ nl hl sm⟩
theorem scWhole15 : FnScope ["found", "due"] ["found", "due"] (defScope s_law_whole) := ⟨rfl, rfl, rfl, by decide +kernel, rfl, by decide +kernel, by decide +kernel⟩
theorem ok_whole15 {f : Addr} {fd : FuncData} {k : Nat} (T : Df K mg "_law_whole" s_law_whole ["found", "due"] f fd) (B : Bi mg) : FnOk P w K mg base CX0 (k + 1) f fd ["found", "due"] spWhole15 := by
  refine T.F.ok scWhole15 (fun vs H Q E h => ?_) (fun cdv A outer s H vs Q E hr h => ?_)
  · obtain ⟨i, rfl, _⟩ := h
    rfl
  · obtain ⟨i, rfl, q⟩ := h
    refine ⟨_, 
      (pss_one (ps_ret (pe_and (pe_callB call_isi (by rfl) B.isinstance (by decide +kernel) (pa_cons (pv 0) (pa_cons (pe_bltn (v := .ty "int") (by rfl) B.int (by decide +kernel) rfl) pa_nil))) (pe_and (pe_not (pe_callB call_isi (by rfl) B.isinstance (by decide +kernel) (pa_cons (pv 0) (pa_cons (pe_bltn (v := .ty "bool") (by rfl) B.bool (by decide +kernel) rfl) pa_nil)))) (pe_one (pe_cmpR op_eq (pv 0) (pv 1) (nomark _))))))), ?_⟩
    refine ⟨_, rfl, _, _, _, _, true, rfl, .ty _, .base (.int _), kit_ty (by decide +kernel), ?_⟩
    refine ⟨true, rfl, iteT ⟨_, rfl, _, _, _, _, false, rfl, .ty _, .base (.int _), kit_ty (by decide +kernel), false, rfl, true, rfl, iteT ⟨_, rfl, _, rfl, rfl, ?_⟩⟩⟩
    rw [decide_eq_true rfl]
    exact q
theorem scWithin15 : FnScope ["way", "n", "r", "counts", "far", "many"] ["way", "n", "r"] (defScope s_law_within) := ⟨rfl, rfl, rfl, by decide +kernel, rfl, by decide +kernel, by decide +kernel⟩
set_option maxHeartbeats 2000000 in
theorem ok_within15 {f f1 f2 f3 : Addr} {fd d1 d2 d3 : FuncData} {k : Nat} (T : Df K mg "_law_within" s_law_within ["way", "n", "r"] f fd) (T__law_swaps : Df K mg "_law_swaps" s_law_swaps ["n"] f1 d1) (T__law_spots : Df K mg "_law_spots" s_law_spots ["n"] f2 d2) (T__law_shifts : Df K mg "_law_shifts" s_law_shifts ["n", "r"] f3 d3) (G__law_swaps : FnOk P w K mg base CX0 k f1 d1 ["n"] (spSwp 12)) (G__law_spots : FnOk P w K mg base CX0 k f2 d2 ["n"] spSpots) (G__law_shifts : FnOk P w K mg base CX0 k f3 d3 ["n", "r"] spShifts) (B : Bi mg) : FnOk P w K mg base CX0 (k + 1) f fd ["way", "n", "r"] spKW := by
  have HELD : ∀ (g : Addr) (sp : Sp), ((g = f1 ∧ sp = spSwp 12) ∨ (g = f2 ∧ sp = spSpots)) → HeldE P w K mg base k g sp := fun g sp h => by
    rcases h with ⟨rfl, rfl⟩ | ⟨rfl, rfl⟩
    · exact ⟨⟨_, _, G__law_swaps, T__law_swaps.F.kp, T__law_swaps.b⟩⟩
    · exact ⟨⟨_, _, G__law_spots, T__law_spots.F.kp, T__law_spots.b⟩⟩
  refine T.F.ok scWithin15 (fun vs H Q E h => ?_) (fun cdv A outer s H vs Q E hr h => ?_)
  · obtain ⟨wy, n, r, rfl, _⟩ := h
    rfl
  · obtain ⟨wy, n, r, rfl, hw, hn1, hn2, hr0, q⟩ := h
    refine ⟨_, 
      (pss_cons (ps_if (pt_cmpR op_eq (pv 0) pe_str (nomark _))
        (pss_one (ps_ret (pe_call G__law_shifts hr (by rfl) T__law_shifts.g T__law_shifts.F.kp T__law_shifts.b .nil pass0 (pa_cons (pv 1) (pa_cons (pv 2) pa_nil)))))
        pss_nil)
      (Evl.pss_cut (ps_set (i := 3) scWithin15.nd rfl (.inl rfl) (pe_callE2 HELD hr (pe_ix ix_list (pe_lst (pa_cons (pe_glob (v := .ref f1) (by rfl) T__law_swaps.g rfl) (pa_cons (pe_glob (v := .ref f2) (by rfl) T__law_spots.g rfl) pa_nil))) (pe_callTy call_int1 (by rfl) B.int (by decide +kernel) (pa_cons (pe_cmpR op_eq (pv 0) pe_str (nomark _)) pa_nil)) (fun _ _ => rfl)) (pa_cons (pv 1) pa_nil)))
      (pss_one (ps_ret (pe_callB (cr_sum rfl) (by rfl) B.sum (by decide +kernel) (pa_cons (pe_lc (own := [("far", 4), ("many", 5)]) (g := (gTup K 2 (gCons (gName 4) (gCons (gName 5) gNil)))) (tt := (tTest (tOp (rI0 fun i j => .bl (decide (i ≤ j))) (tVar 4) (tVar 2)))) (te := (tVar 5)) rfl scWithin15.nd (pi_enum (by rfl) B.enumerate (pa_cons (pv 3) pa_nil)) (blkOk_by (N := ["way", "n", "r", "counts", "far", "many"]) (sc := defScope s_law_within) (by decide +kernel)) (fun _ _ _ _ _ => (pg_tup (by rfl) (pgs_cons (pg_name (i := 4) scWithin15.nd rfl (.inl rfl)) (pgs_cons (pg_name (i := 5) scWithin15.nd rfl (.inl rfl)) pgs_nil)))) (fun _ _ _ _ _ => (pts_one (pt_cmpR op_le (pv 4) (pv 2) (nomark _)))) (fun _ _ _ _ _ => (pv 5))) pa_nil)))))), ?_⟩
    by_cases c : wy = "shift"
    · subst c
      refine ⟨_, rfl, rfl, _, rfl, ite2 (fun _ => ?_) (fun c => absurd rfl c)⟩
      refine ⟨_, rfl, _, rfl, n, r, rfl, hn2, hr0, fun H' s' => ?_⟩
      rw [← inW_shift]
      exact q _ s'
    refine ⟨_, rfl, rfl, _, rfl, ite2 (fun z => absurd (V.str.inj (of_decide_eq_true z)) c) (fun _ => ?_)⟩
    refine ⟨fun τ G => ∃ (L : List Int) (l : Addr), τ = [some (.str wy), some (.int n), some (.int r), some (.ref l), none, none] ∧ Same H G ∧ G l = some (.lst (L.map V.int)) ∧ L.length ≤ 100 ∧ (L.take (r + 1).toNat).sum = inW wy n r, ?_, fun τ G hM => ?_⟩
    · refine ⟨line_small (by show 2 ≤ 16777216; decide), fun t nt => ?_⟩
      have s1 := same_new (o := .lst [.ref f1, .ref f2]) nt
      rcases hw with rfl | rfl | rfl
      · refine ⟨_, rfl, rfl, .inr ⟨false, rfl, t, _, _, _, rfl, rfl, SqL.of upd_same, at2_0, f1, _, rfl, .inl ⟨rfl, rfl⟩, _, rfl, n, rfl, hn1, hn2, hn2, fun l H' _ hl s' => ?_⟩⟩
        rw [lsw_sw (n - 1) (by omega)] at hl
        refine ⟨_, l, rfl, s1.trans s', hl, ?_, (inW_swap n r).symm⟩
        have := (show ∀ k : Nat, k < 12 → (swC k).length ≤ 100 by decide +kernel) (n - 1) (by omega)
        exact this
      · refine ⟨_, rfl, rfl, .inr ⟨true, rfl, t, _, _, _, rfl, rfl, SqL.of upd_same, at2_1, f2, _, rfl, .inr ⟨rfl, rfl⟩, _, rfl, n, rfl, hn2, fun l H' _ hl s' => ?_⟩⟩
        refine ⟨_, l, rfl, s1.trans s', hl, ?_, (inW_spot n r).symm⟩
        unfold spC
        rw [List.length_map, List.length_range]
        omega
      · exact absurd rfl c
    obtain ⟨L, l, rfl, sG, hl, hL, hsum⟩ := hM
    refine ⟨_, rfl, l, _, rfl, SqL.of hl, fun D nD => ?_⟩
    refine lc_enumL (K := K) (a := l) (xs := L.map V.int) (fun i C => C D = some (.lst ((L.take (min i (r + 1).toNat)).map V.int)) ∧ Same G C) ⟨by rw [Nat.zero_min]; exact upd_same, same_new nD⟩ (fun i C _ hP => SqL.of (hP.2 _ _ hl)) (fun i x T C hx hP nT => ?_) (fun C hP => ?_)
    · obtain ⟨hD, sC⟩ := hP
      obtain ⟨y, ey, rfl⟩ := int_at_inv hx
      have sT := same_new (o := .tup [.int (i : Nat), .int y]) nT
      refine ⟨T, _, rfl, .inl (.inl upd_same), rfl, _, _, rfl, _, _, rfl, rfl, rfl, _, rfl, _, rfl, _, _, rfl, rfl, _, rfl, ite2 (fun c => ?_) (fun c => ?_)⟩
      · have c2 : (i : Int) ≤ r := of_decide_eq_true c
        refine ⟨_, rfl, _, sT _ _ hD, line_lt (by rw [List.length_map, List.length_take]; omega), ?_, fun b o e => ?_⟩
        · rw [upd_same, show min (i + 1) (r + 1).toNat = i + 1 by omega, show min i (r + 1).toNat = i by omega, List.take_add_one, ey, List.map_append]
          rfl
        · rw [upd_ne (ne_of_none e nD)]
          exact sT _ _ (sC _ _ e)
      · have c2 : ¬ (i : Int) ≤ r := fun z => c (decide_eq_true z)
        refine ⟨?_, sC.trans sT⟩
        rw [show min (i + 1) (r + 1).toNat = min i (r + 1).toNat by omega]
        exact sT _ _ hD
    · obtain ⟨hD, sC⟩ := hP
      rw [List.length_map] at hD
      refine ⟨D, _, rfl, SqL.of hD, ?_⟩
      have e1 : (L.take (min L.length (r + 1).toNat)).sum = inW wy n r := by
        rw [← hsum]
        by_cases h : L.length ≤ (r + 1).toNat
        · rw [show min L.length (r + 1).toNat = L.length by omega, List.take_length, List.take_of_length_le h]
        · rw [show min L.length (r + 1).toNat = (r + 1).toNat by omega]
      rw [e1]
      exact q _ (sG.trans sC)
theorem scR15 : FnScope ["way", "n", "r", "due", "less", "again"] ["way", "n", "r"] (defScope s_law_right) := ⟨rfl, rfl, rfl, by decide +kernel, rfl, by decide +kernel, by decide +kernel⟩
set_option maxHeartbeats 2000000 in
theorem ok_R15 {f f1 f2 f3 f4 : Addr} {fd d1 d2 d3 d4 : FuncData} {k : Nat} (T : Df K mg "_law_right" s_law_right ["way", "n", "r"] f fd) (T__law_within : Df K mg "_law_within" s_law_within ["way", "n", "r"] f1 d1) (T__law_whole : Df K mg "_law_whole" s_law_whole ["found", "due"] f2 d2) (T_count_within : Df K mg "count_within" s_count_within ["way", "n", "r"] f3 d3) (T_count_at : Df K mg "count_at" s_count_at ["way", "n", "r"] f4 d4) (G__law_within : FnOk P w K mg base CX0 k f1 d1 ["way", "n", "r"] spKW) (G__law_whole : FnOk P w K mg base CX0 k f2 d2 ["found", "due"] spWhole15) (G_count_within : FnOk P w K mg base CX0 k f3 d3 ["way", "n", "r"] spKW) (G_count_at : FnOk P w K mg base CX0 k f4 d4 ["way", "n", "r"] spAt) (B : Bi mg) : FnOk P w K mg base CX0 (k + 1) f fd ["way", "n", "r"] spR15 := by
  refine T.F.ok scR15 (fun vs H Q E h => ?_) (fun cdv A outer s H vs Q E hr h => ?_)
  · obtain ⟨wy, n, r, rfl, _⟩ := h
    rfl
  · obtain ⟨wy, n, r, rfl, hw, hn1, hn2, hr0, q⟩ := h
    refine ⟨_, 
      (pss_cons (ps_set (i := 3) scR15.nd rfl (.inl rfl) (pe_call G__law_within hr (by rfl) T__law_within.g T__law_within.F.kp T__law_within.b .nil pass0 (pa_cons (pv 0) (pa_cons (pv 1) (pa_cons (pv 2) pa_nil)))))
      (pss_cons (ps_set (i := 4) scR15.nd rfl (.inl rfl) pe_int)
      (Evl.pss_cut (ps_if (pt_cmpR op_gt (pv 2) pe_int (nomark _))
        (pss_one (ps_set (i := 4) scR15.nd rfl (.inl rfl) (pe_call G__law_within hr (by rfl) T__law_within.g T__law_within.F.kp T__law_within.b .nil pass0 (pa_cons (pv 0) (pa_cons (pv 1) (pa_cons (pe_op op_sub (pv 2) pe_int) pa_nil))))))
        pss_nil)
      (pss_cons (ps_for PassesOwn.never rfl (pi_range1 (by rfl) B.range (pa_cons pe_int pa_nil)) (pg_name (i := 5) scR15.nd rfl (.inl rfl))
        (pss_cons (ps_if (pt_not (pt_val (pe_call G__law_whole hr (by rfl) T__law_whole.g T__law_whole.F.kp T__law_whole.b .nil pass0 (pa_cons (pe_call G_count_within hr (by rfl) T_count_within.g T_count_within.F.kp T_count_within.b .nil pass0 (pa_cons (pv 0) (pa_cons (pv 1) (pa_cons (pv 2) pa_nil)))) (pa_cons (pv 3) pa_nil)))))
          (pss_one (ps_ret pe_bl))
          pss_nil)
        (pss_one (ps_if (pt_not (pt_val (pe_call G__law_whole hr (by rfl) T__law_whole.g T__law_whole.F.kp T__law_whole.b .nil pass0 (pa_cons (pe_call G_count_at hr (by rfl) T_count_at.g T_count_at.F.kp T_count_at.b .nil pass0 (pa_cons (pv 0) (pa_cons (pv 1) (pa_cons (pv 2) pa_nil)))) (pa_cons (pe_op op_sub (pv 3) (pv 4)) pa_nil)))))
          (pss_one (ps_ret pe_bl))
          pss_nil))))
      (pss_one (ps_ret pe_bl)))))), ?_⟩
    refine ⟨_, rfl, _, rfl, _, rfl, wy, n, r, rfl, hw, hn1, hn2, hr0, fun H1 s1 => ?_⟩
    refine ⟨fun τ G => ∃ le : Int, τ = [some (.str wy), some (.int n), some (.int r), some (.int (inW wy n r)), some (.int le), none] ∧ inW wy n r - le = atW wy n r ∧ Same H G, ?_, fun τ G hM => ?_⟩
    · refine ⟨_, rfl, _, 0, rfl, rfl, _, rfl, ite2 (fun c => ?_) (fun c => ?_)⟩
      · have c1 : 0 < r := of_decide_eq_true c
        refine ⟨_, rfl, _, rfl, _, rfl, r, 1, rfl, rfl, wy, n, r - 1, rfl, hw, hn1, hn2, by omega, fun H2 s2 => ?_⟩
        exact ⟨_, rfl, by unfold atW; rw [if_neg (by omega)], s1.trans s2⟩
      · have c1 : ¬ 0 < r := fun z => c (decide_eq_true z)
        obtain rfl : r = 0 := by omega
        exact ⟨0, rfl, by unfold atW; rw [if_pos rfl]; omega, s1⟩
    obtain ⟨le, rfl, hle, sG⟩ := hM
    refine ⟨2, rfl, by decide, by decide, ?_⟩
    refine for_range (n := 2) (fun i σ C => ∃ y5, σ = [some (.str wy), some (.int n), some (.int r), some (.int (inW wy n r)), some (.int le), y5] ∧ Same G C) ⟨_, rfl, Same.refl _⟩ (fun i σ C hi hP => ?_) (fun σ C hP => ?_)
    · obtain ⟨y5, rfl, sC⟩ := hP
      refine ⟨_, rfl, _, rfl, _, rfl, wy, n, r, rfl, hw, hn1, hn2, hr0, fun C1 t1 => ?_⟩
      refine ⟨_, rfl, _, rfl, true, rfl, iteF ?_⟩
      refine ⟨_, rfl, _, rfl, _, rfl, wy, n, r, rfl, hw, hn1, hn2, hr0, fun C2 t2 => ?_⟩
      refine ⟨_, rfl, _, rfl, _, _, rfl, rfl, atW wy n r, by rw [← hle]; rfl, true, rfl, iteF ?_⟩
      exact ⟨_, rfl, sC.trans (t1.trans t2)⟩
    · obtain ⟨y5, rfl, sC⟩ := hP
      exact q _ (sG.trans sC)
end
end Fo
namespace Fo
open PySem PySem.Spec PyProof.Rows L2
theorem valW (x y z : V) {w : Str} (h : IsWay w) : valV (mergeK [] [((.inr "swap" : Key), x), (.inr "spot", y), (.inr "shift", z)]) (.inr w) = some (if w = "swap" then x else if w = "spot" then y else z) := by
  have h12 : ¬ (Sum.inr ("swap" : Str) : Key) = .inr "spot" := by decide +kernel
  have h13 : ¬ (Sum.inr ("swap" : Str) : Key) = .inr "shift" := by decide +kernel
  have h23 : ¬ (Sum.inr ("spot" : Str) : Key) = .inr "shift" := by decide +kernel
  have e : mergeK [] [((.inr "swap" : Key), x), (.inr "spot", y), (.inr "shift", z)] = [((.inr "swap" : Key), x), (.inr "spot", y), (.inr "shift", z)] := by
    simp [mergeK, putK, h12, h13, h23]
  rw [e]
  rcases h with rfl | rfl | rfl
  · rw [valV_pos rfl, if_pos rfl]
  · rw [valV_neg h12, valV_pos rfl, if_neg n1, if_pos rfl]
  · rw [valV_neg h13, valV_neg h23, valV_pos rfl, if_neg n2, if_neg n3]
end Fo
namespace Fo
open PySem PySem.Spec PyProof.Rows L2
def mostW (w : Str) (n : Nat) : Int := if w = "swap" then (n : Int) * ((n : Int) - 1) / 2 else if w = "spot" then (n : Int) else (n : Int) - 1
theorem mostW_b {w : Str} {n : Nat} (h1 : 1 ≤ n) (h2 : n ≤ 12) : 0 ≤ mostW w n ∧ mostW w n ≤ 1000 := by
  have h : ∀ m : Nat, m < 13 → 1 ≤ m → 0 ≤ (m : Int) * ((m : Int) - 1) / 2 ∧ (m : Int) * ((m : Int) - 1) / 2 ≤ 1000 := by decide +kernel
  unfold mostW
  split
  · exact h n (by omega) h1
  · split <;> omega
def spLaw (K : PySem.W.Frag) : Sp := fun vs H Q _ => ∃ (a : Addr) (ns : List Int), vs = [.ref a] ∧ SqL K H a (ns.map V.int) ∧ ns.length ≤ 63 ∧ ∀ H', Q (.bl true) H'
section
variable {P : Program} {w : World} {K : PySem.W.Frag} {mg : Str → Option Value} {base : Heap}
theorem scLaw : FnScope ["script", "store", "turn", "n", "way", "most", "some", "r", "size"] ["script"] (defScope s_law) := ⟨rfl, rfl, rfl, by decide +kernel, rfl, by decide +kernel, by decide +kernel⟩
set_option maxHeartbeats 8000000 in
theorem ok_law {f f1 f2 f3 : Addr} {fd d1 d2 d3 : FuncData} (T : Fun K "law" "law" s_law f fd) (T__law_draws : Df K mg "_law_draws" s_law_draws ["script", "many"] f1 d1) (T__law_take : Df K mg "_law_take" s_law_take ["store", "many"] f2 d2) (T__law_right : Df K mg "_law_right" s_law_right ["way", "n", "r"] f3 d3)
    (G__law_draws : FnOk P w K mg base CX0 19 f1 d1 ["script", "many"] (spDraws K)) (G__law_take : FnOk P w K mg base CX0 19 f2 d2 ["store", "many"] spTake) (G__law_right : FnOk P w K mg base CX0 19 f3 d3 ["way", "n", "r"] spR15)
    (B : Bi mg) : FnOk P w K mg base CX0 20 f fd ["script"] (spLaw K) := by
  refine T.ok scLaw (fun vs H Q E h => ?_) (fun cdv A outer s H vs Q E hr h => ?_)
  · obtain ⟨a, ns, rfl, _⟩ := h
    rfl
  · obtain ⟨a, ns, rfl, hS, hlen, q⟩ := h
    refine ⟨_, 
      (pss_cons (ps_set (i := 1) scLaw.nd rfl (.inl rfl) (pe_lst (pa_cons (pe_call G__law_draws hr (by rfl) T__law_draws.g T__law_draws.F.kp T__law_draws.b .nil pass0 (pa_cons (pv 0) (pa_cons pe_int pa_nil))) (pa_cons pe_int pa_nil))))
      (pss_cons (ps_for PassesOwn.never rfl (pi_range1 (by rfl) B.range (pa_cons pe_int pa_nil)) (pg_name (i := 2) scLaw.nd rfl (.inl rfl))
        (pss_cons (ps_set (i := 3) scLaw.nd rfl (.inl rfl) (pe_ix ix_list (pe_lst (pa_cons (pe_op op_add pe_int (pe_call G__law_take hr (by rfl) T__law_take.g T__law_take.F.kp T__law_take.b .nil pass0 (pa_cons (pv 1) (pa_cons pe_int pa_nil)))) (pa_cons pe_int (pa_cons (pe_op op_add pe_int (pe_call G__law_take hr (by rfl) T__law_take.g T__law_take.F.kp T__law_take.b .nil pass0 (pa_cons (pv 1) (pa_cons pe_int pa_nil)))) pa_nil)))) (pe_call G__law_take hr (by rfl) T__law_take.g T__law_take.F.kp T__law_take.b .nil pass0 (pa_cons (pv 1) (pa_cons pe_int pa_nil))) (fun _ _ => rfl)))
        (pss_one (ps_for PassesOwn.never rfl (pi_list (pe_lst (pa_cons pe_str (pa_cons pe_str (pa_cons pe_str pa_nil))))) (pg_name (i := 4) scLaw.nd rfl (.inl rfl))
          (Evl.pss_cut (ps_set (i := 5) scLaw.nd rfl (.inl rfl) (pe_dget (hu_of hr) (pe_disp (pps_cons pe_str (pe_op op_fdiv (pe_op op_mul (pv 3) (pe_op op_sub (pv 3) pe_int)) pe_int) (pps_cons pe_str (pv 3) (pps_cons pe_str (pe_op op_sub (pv 3) pe_int) pps_nil))) (by rfl) (by rfl) (fun z => by cases z) (by decide)) (pv 4) (fun _ _ => rfl)))
          (pss_cons (ps_set (i := 6) scLaw.nd rfl (.inl rfl) (pe_lst (pa_cons (pe_call G__law_take hr (by rfl) T__law_take.g T__law_take.F.kp T__law_take.b .nil pass0 (pa_cons (pv 1) (pa_cons pe_int pa_nil))) (pa_cons (pe_call G__law_take hr (by rfl) T__law_take.g T__law_take.F.kp T__law_take.b .nil pass0 (pa_cons (pv 1) (pa_cons (pe_op op_add (pv 5) pe_int) pa_nil))) (pa_cons (pv 5) (pa_cons (pe_op op_add (pv 5) pe_int) pa_nil))))))
          (pss_cons (ps_set (i := 6) scLaw.nd rfl (.inl rfl) (pe_op op_cat (pv 6) (pe_lst (pa_cons (pe_callB (call_max2 rfl) (by rfl) B.max (by decide +kernel) (pa_cons pe_int (pa_cons (pe_op op_sub (pv 5) pe_int) pa_nil))) (pa_cons (pe_ix ix_list (pe_lst (pa_cons (pe_op op_pow pe_int pe_int) (pa_cons (pe_op op_add (pv 5) (pe_call G__law_take hr (by rfl) T__law_take.g T__law_take.F.kp T__law_take.b .nil pass0 (pa_cons (pv 1) (pa_cons pe_int pa_nil)))) pa_nil))) (pe_op op_mod (pv 2) pe_int) (fun _ _ => rfl)) pa_nil)))))
          (pss_cons (ps_set (i := 7) scLaw.nd rfl (.inl rfl) (pe_ix ix_list (pv 6) (pe_call G__law_take hr (by rfl) T__law_take.g T__law_take.F.kp T__law_take.b .nil pass0 (pa_cons (pv 1) (pa_cons pe_int pa_nil))) (fun _ _ => rfl)))
          (Evl.pss_cut (ps_set (i := 8) scLaw.nd rfl (.inl rfl) (pe_ix ix_list (pe_lst (pa_cons (pv 3) (pa_cons (pe_callB (call_min2 rfl) (by rfl) B.min (by decide +kernel) (pa_cons (pv 3) (pa_cons pe_int pa_nil))) pa_nil))) (pe_callTy call_int1 (by rfl) B.int (by decide +kernel) (pa_cons (pe_and (pe_cmpR op_eq (pv 4) pe_str (nomark _)) (pe_one (pe_cmpR op_gt (pv 2) pe_int (nomark _)))) pa_nil)) (fun _ _ => rfl)))
          (pss_one (ps_if (pt_not (pt_val (pe_call G__law_right hr (by rfl) T__law_right.g T__law_right.F.kp T__law_right.b .nil pass0 (pa_cons (pv 4) (pa_cons (pv 8) (pa_cons (pv 7) pa_nil))))))
            (pss_one (ps_ret pe_bl))
            pss_nil)))))))))))
      (pss_one (ps_ret pe_bl)))), ?_⟩
    refine ⟨_, rfl, a, ns, 100, rfl, hS, hlen, by decide, by decide, fun ds l H0 hd1 hd2 nl hl _ => ?_⟩
    refine ⟨line_small (by show 2 ≤ 16777216; decide), fun st nst => ?_⟩
    have nls : l ≠ st := ne_of_none hl nst
    have hS0 : SkAt (upd H0 st (.lst [.ref l, .int 0])) ⟨st, l, ds⟩ := ⟨⟨0, upd_same⟩, by show upd _ _ _ l = _; rw [upd_ne nls]; exact hl, hd1, hd2, nls⟩
    generalize hSS : (⟨st, l, ds⟩ : Sk) = S at hS0
    have eS : st = S.d := by rw [← hSS]
    subst eS
    generalize upd H0 S.d (.lst [.ref l, .int 0]) = H1 at hS0 ⊢
    refine ⟨4, rfl, by decide, by decide, ?_⟩
    refine for_range (n := 4) (fun i σ H1 => ∃ y2 y3 y4 y5 y6 y7 y8, σ = [some (.ref a), some (.ref S.d), y2, y3, y4, y5, y6, y7, y8] ∧ SkAt H1 S)
      ⟨_, _, _, _, _, _, _, rfl, hS0⟩ (fun i σ H2 hi hP => ?_) (fun σ H2 hP => q _)
    obtain ⟨y2, y3, y4, y5, y6, y7, y8, rfl, hS2⟩ := hP
    -- n
    refine ⟨_, rfl, S, 12, rfl, hS2, by decide, fun v1 H3 v10 v11 hS3 k3 => ⟨1, _, rfl, rfl, ?_⟩⟩
    refine ⟨_, rfl, S, 6, rfl, hS3, by decide, fun v2 H4 v20 v21 hS4 k4 => ⟨1, _, rfl, rfl, ?_⟩⟩
    refine ⟨line_small (by show 3 ≤ 16777216; decide), fun t nt => ?_⟩
    have u4 := same_new (o := .lst ([1 + v1, 12, 1 + v2].map V.int)) nt
    have ht : (upd H4 t (.lst ([1 + v1, 12, 1 + v2].map V.int))) t = some (.lst ([1 + v1, 12, 1 + v2].map V.int)) := upd_same
    have td := (hS4.apart nt).1
    refine ⟨_, rfl, S, 3, rfl, hS4.same u4, by decide, fun v3 H5 v30 v31 hS5 k5 => ?_⟩
    obtain ⟨n, hn1, hn2, hpick⟩ : ∃ n : Nat, 1 ≤ n ∧ n ≤ 12 ∧ atI ([1 + v1, 12, 1 + v2].map V.int) v3 = some (V.int (n : Int)) := by
      rcases (show v3 = 0 ∨ v3 = 1 ∨ v3 = 2 by omega) with rfl | rfl | rfl
      · exact ⟨(1 + v1).toNat, by omega, by omega, by rw [show (((1 + v1).toNat : Nat) : Int) = 1 + v1 by omega]; rfl⟩
      · exact ⟨12, by omega, by omega, rfl⟩
      · exact ⟨(1 + v2).toNat, by omega, by omega, by rw [show (((1 + v2).toNat : Nat) : Int) = 1 + v2 by omega]; rfl⟩
    refine ⟨t, _, _, _, rfl, rfl, SqL.of (k5 _ _ ht td), hpick, ?_⟩
    clear ht hpick u4 nt td k3 k4 k5 hS2 hS3 hS4
    -- the ways
    refine ⟨line_small (by show 3 ≤ 16777216; decide), fun wl nwl => ?_⟩
    have u9 := same_new (o := .lst [.str "swap", .str "spot", .str "shift"]) nwl
    have hw0 : (upd H5 wl (.lst [.str "swap", .str "spot", .str "shift"])) wl = some (.lst [.str "swap", .str "spot", .str "shift"]) := upd_same
    have wd := (hS5.apart nwl).1
    replace hS5 := hS5.same u9
    generalize upd H5 wl (.lst [.str "swap", .str "spot", .str "shift"]) = H6 at hw0 hS5 ⊢
    refine ⟨wl, rfl, ⟨_, SqL.of hw0⟩, ?_⟩
    refine for_list (xs := [.str "swap", .str "spot", .str "shift"]) (fun r σ A => ∃ z4 z5 z6 z7 z8, σ = [some (.ref a), some (.ref S.d), some (.int (0 + (i : Int))), some (.int n), z4, z5, z6, z7, z8] ∧ SkAt A S ∧ KeepS S H6 A) ⟨_, _, _, _, _, rfl, hS5, KeepS.of_same (Same.refl _)⟩ (fun r σ A _ hP => by obtain ⟨_, _, _, _, _, _, _, kA⟩ := hP; exact SqL.of (kA _ _ hw0 wd)) (fun r x σ A hx hP => ?_) (fun σ A hP => ?_)
    rotate_left
    · obtain ⟨z4, z5, z6, z7, z8, rfl, hSA, _⟩ := hP
      exact ⟨_, _, _, _, _, _, _, rfl, hSA⟩
    obtain ⟨z4, z5, z6, z7, z8, rfl, hSA, kA⟩ := hP
    obtain ⟨wy, rfl, hwy⟩ : ∃ wy : Str, x = .str wy ∧ IsWay wy := by
      match r, hx with
      | 0, hx => exact ⟨_, (Option.some.inj hx).symm, .inl rfl⟩
      | 1, hx => exact ⟨_, (Option.some.inj hx).symm, .inr (.inl rfl)⟩
      | 2, hx => exact ⟨_, (Option.some.inj hx).symm, .inr (.inr rfl)⟩
      | r + 3, hx => cases hx
    obtain ⟨mb0, mb1⟩ := mostW_b (w := wy) hn1 hn2
    -- most
    refine ⟨fun τ G => τ = [some (.ref a), some (.ref S.d), some (.int (0 + (i : Int))), some (.int n), some (.str wy), some (.int (mostW wy n)), z6, z7, z8] ∧ Same A G, ?_, fun τ G hM => ?_⟩
    · refine fun p np => ⟨_, rfl, _, rfl, (n : Int), 1, rfl, rfl, (n : Int), _, rfl, rfl, .inl ⟨by omega, by omega⟩, _, 2, rfl, rfl, ⟨by decide, by decide⟩, _, rfl, _, rfl, (n : Int), 1, rfl, rfl, upd_same, [(.inr "swap", _), (.inr "spot", _), (.inr "shift", _)], rfl, (by show 3 ≤ 15; decide), ?_⟩
      refine ⟨_, rfl, p, V.int (mostW wy n), rfl, .inl ⟨_, .inr wy, .inl upd_same, rfl, ?_⟩, rfl, fun b o e => ?_⟩
      · rw [valW _ _ _ hwy]
        unfold mostW
        split
        · rfl
        · split <;> rfl
      · rw [upd_ne (ne_of_none e np), upd_ne (ne_of_none e np)]
        exact e
    obtain ⟨rfl, sG⟩ := hM
    replace hSA := hSA.same sG
    replace kA := kA.trans (KeepS.of_same sG)
    clear sG
    -- some
    refine ⟨_, rfl, S, 4, rfl, hSA, by decide, fun c1 A1 c10 _ hS1' k1 => ?_⟩
    refine ⟨_, rfl, _, rfl, _, 1, rfl, rfl, S, _, rfl, hS1', by omega, fun c2 A2 c20 _ hS2' k2 => ?_⟩
    refine ⟨_, rfl, _, rfl, _, 1, rfl, rfl, line_small (by show 4 ≤ 16777216; decide), fun s1 ns1 => ?_⟩
    have u1 := same_new (o := .lst ([c1, c2, mostW wy n, mostW wy n + 1].map V.int)) ns1
    have hs1 : (upd A2 s1 (.lst ([c1, c2, mostW wy n, mostW wy n + 1].map V.int))) s1 = some (.lst ([c1, c2, mostW wy n, mostW wy n + 1].map V.int)) := upd_same
    have s1d := (hS2'.apart ns1).1
    have hS3' : SkAt (upd A2 s1 (.lst ([c1, c2, mostW wy n, mostW wy n + 1].map V.int))) S := hS2'.same u1
    change gName 6 _ _ (upd A2 s1 (.lst ([c1, c2, mostW wy n, mostW wy n + 1].map V.int))) _
    generalize upd A2 s1 (.lst ([c1, c2, mostW wy n, mostW wy n + 1].map V.int)) = A3 at u1 hs1 hS3' ⊢
    have kA3 := kA.trans (k1.trans (k2.trans (KeepS.of_same u1)))
    refine ⟨_, rfl, _, rfl, _, 1, rfl, rfl, _, _, rfl, ?_⟩
    refine ⟨10, 25, rfl, rfl, ⟨by decide, by decide, by decide⟩, ?_⟩
    refine ⟨_, rfl, _, rfl, S, 99, rfl, hS3', by decide, fun c3 A4 c30 _ hS4' k4 => ⟨_, _, rfl, rfl, line_small (by show 2 ≤ 16777216; decide), fun l2 nl2 => ?_⟩⟩
    have hs1' := k4 _ _ hs1 s1d
    have u5 := same_new (o := .lst ([(10 : Int) ^ (25 : Int).toNat, mostW wy n + c3].map V.int)) nl2
    have hl2 : (upd A4 l2 (.lst ([(10 : Int) ^ (25 : Int).toNat, mostW wy n + c3].map V.int))) l2 = some (.lst ([(10 : Int) ^ (25 : Int).toNat, mostW wy n + c3].map V.int)) := upd_same
    obtain ⟨x5, ex5, x50⟩ : ∃ x : Int, atI ([(10 : Int) ^ (25 : Int).toNat, mostW wy n + c3].map V.int) ((0 + (i : Int)) % 2) = some (V.int x) ∧ 0 ≤ x := by
      rcases (show (0 + (i : Int)) % 2 = 0 ∨ (0 + (i : Int)) % 2 = 1 by omega) with z | z <;> rw [z]
      · exact ⟨_, rfl, by decide⟩
      · exact ⟨_, rfl, by omega⟩
    refine ⟨_, rfl, _, 2, rfl, rfl, (show (0 : Int) < 2 by decide), l2, _, _, _, rfl, rfl, SqL.of hl2, ex5, ?_⟩
    rw [max_if]
    refine ⟨line_small (by show 2 ≤ 16777216; decide), fun l3 nl3 => ?_⟩
    replace nl3 : (upd A4 l2 (.lst ([(10 : Int) ^ (25 : Int).toNat, mostW wy n + c3].map V.int))) l3 = none := nl3
    have u6 := same_new (o := .lst ([max 0 (mostW wy n - 1), x5].map V.int)) nl3
    refine ⟨s1, l3, _, _, rfl, rfl, u6 _ _ (u5 _ _ hs1'), upd_same, line_small (by show 6 ≤ 16777216; decide), fun s2 ns2 => ?_⟩
    replace ns2 : (upd (upd A4 l2 (.lst ([(10 : Int) ^ (25 : Int).toNat, mostW wy n + c3].map V.int))) l3 (.lst ([max 0 (mostW wy n - 1), x5].map V.int))) s2 = none := ns2
    have u7 := same_new (o := .lst ([c1, c2, mostW wy n, mostW wy n + 1, max 0 (mostW wy n - 1), x5].map V.int)) ns2
    have u57 := (u5.trans u6).trans u7
    have hs2 : (upd (upd (upd A4 l2 (.lst ([(10 : Int) ^ (25 : Int).toNat, mostW wy n + c3].map V.int))) l3 (.lst ([max 0 (mostW wy n - 1), x5].map V.int))) s2 (.lst ([c1, c2, mostW wy n, mostW wy n + 1, max 0 (mostW wy n - 1), x5].map V.int))) s2 = some (.lst ([c1, c2, mostW wy n, mostW wy n + 1, max 0 (mostW wy n - 1), x5].map V.int)) := upd_same
    have hS5' := hS4'.same u57
    have s2d := ((hS4'.same (u5.trans u6)).apart ns2).1
    change gName 6 _ _ (upd (upd (upd A4 l2 (.lst ([(10 : Int) ^ (25 : Int).toNat, mostW wy n + c3].map V.int))) l3 (.lst ([max 0 (mostW wy n - 1), x5].map V.int))) s2 (.lst ([c1, c2, mostW wy n, mostW wy n + 1, max 0 (mostW wy n - 1), x5].map V.int))) _
    generalize upd (upd (upd A4 l2 (.lst ([(10 : Int) ^ (25 : Int).toNat, mostW wy n + c3].map V.int))) l3 (.lst ([max 0 (mostW wy n - 1), x5].map V.int))) s2 (.lst ([c1, c2, mostW wy n, mostW wy n + 1, max 0 (mostW wy n - 1), x5].map V.int)) = A5 at u57 hs2 hS5' ⊢
    have kA5 := kA3.trans (k4.trans (KeepS.of_same u57))
    -- r
    refine ⟨_, rfl, _, rfl, S, 6, rfl, hS5', by decide, fun c6 A6 c60 c61 hS6' k6 => ?_⟩
    obtain ⟨rr, hrr, rr0⟩ : ∃ x : Int, atI ([c1, c2, mostW wy n, mostW wy n + 1, max 0 (mostW wy n - 1), x5].map V.int) c6 = some (V.int x) ∧ 0 ≤ x := by
      have h : c6.toNat < [c1, c2, mostW wy n, mostW wy n + 1, max 0 (mostW wy n - 1), x5].length := by show c6.toNat < 6; omega
      refine ⟨[c1, c2, mostW wy n, mostW wy n + 1, max 0 (mostW wy n - 1), x5][c6.toNat], at_of (j := c6.toNat) (by omega) (int_at (List.getElem?_eq_getElem h)), ?_⟩
      have hm := List.getElem_mem h
      generalize [c1, c2, mostW wy n, mostW wy n + 1, max 0 (mostW wy n - 1), x5][c6.toNat] = y at hm ⊢
      simp only [List.mem_cons, List.not_mem_nil, or_false] at hm
      omega
    refine ⟨s2, _, _, _, rfl, rfl, SqL.of (k6 _ _ hs2 s2d), hrr, ?_⟩
    have kA6 := kA5.trans k6
    clear hs2 u57 u5 u6 u7 hl2 ex5 kA5 k6 hS5' kA3 k4 hs1 hs1' u1 k1 k2 hS1' hS2' hS3' hS4'
    -- size
    refine ⟨fun τ G => ∃ sz : Nat, 1 ≤ sz ∧ sz ≤ 12 ∧ τ = [some (.ref a), some (.ref S.d), some (.int (0 + (i : Int))), some (.int n), some (.str wy), some (.int (mostW wy n)), some (.ref s2), some (.int rr), some (.int sz)] ∧ Same A6 G, ?_, fun τ G hM => ?_⟩
    · refine ⟨_, rfl, _, rfl, _, _, rfl, ?_⟩
      rw [min_if]
      obtain ⟨m8, em8, m81, m82⟩ : ∃ m8 : Nat, min (n : Int) 8 = (m8 : Int) ∧ 1 ≤ m8 ∧ m8 ≤ 12 := ⟨(min (n : Int) 8).toNat, by omega, by omega, by omega⟩
      rw [em8]
      refine ⟨line_small (by show 2 ≤ 16777216; decide), fun t nt => ?_⟩
      have u8 := same_new (o := .lst [.int n, .int m8]) nt
      refine ⟨_, rfl, rfl, _, rfl, ite2 (fun _ => ?_) (fun _ => ?_)⟩
      · refine ⟨_, rfl, _, 0, rfl, rfl, ?_⟩
        by_cases c : 0 < 0 + (i : Int)
        · exact .inr ⟨true, congrArg (fun b => [V.bl b]) (decide_eq_true c), t, _, _, _, rfl, rfl, SqL.of upd_same, at2_1, m8, m81, m82, rfl, u8⟩
        · exact .inr ⟨false, congrArg (fun b => [V.bl b]) (decide_eq_false c), t, _, _, _, rfl, rfl, SqL.of upd_same, at2_0, n, hn1, hn2, rfl, u8⟩
      · exact .inr ⟨false, rfl, t, _, _, _, rfl, rfl, SqL.of upd_same, at2_0, n, hn1, hn2, rfl, u8⟩
    obtain ⟨sz, sz1, sz2, rfl, sG⟩ := hM
    refine ⟨_, rfl, _, rfl, _, rfl, wy, sz, rr, rfl, hwy, sz1, sz2, rr0, fun G2 s2' => ?_⟩
    exact ⟨true, rfl, iteF ⟨_, _, _, _, _, rfl, hS6'.same (sG.trans s2'), kA6.trans (KeepS.of_same (sG.trans s2'))⟩⟩
end
end Fo
--LEVEL 20
--LAWCALL ok_law F_law T__law_draws T__law_take T__law_right (ok_draws (k := 18) T__law_draws B) (ok_take (k := 18) T__law_take B) (ok_R15 (k := 18) T__law_right T__law_within T__law_whole T_count_within T_count_at (ok_within15 (k := 17) T__law_within T__law_swaps T__law_spots T__law_shifts (ok_swaps (k := 4) T__law_swaps B 12) (ok_spots (k := 16) T__law_spots T__law_chosen (ok_chosen (k := 15) T__law_chosen B) B) (ok_shifts (k := 16) T__law_shifts T__law_fill (ok_fills (k := 2) T__law_fill B 13) B) B) (ok_whole15 (k := 17) T__law_whole B) (ok_cw (k := 17) T_count_within T_check_count T_known_within (ok_count (k := 14) T_check_count T_check_way T_check_size T_check_from T_is_whole m_WAYS B m_MOST_THINGS) (ok_kw (k := 14) T_known_within T_swap_counts T_spot_counts T_shift_within T_swap_counts_with_one_more T_count_all_moved T_things_near T_one_place_further B)) (ok_ca (k := 17) T_count_at T_check_count T_known_within (ok_count (k := 14) T_check_count T_check_way T_check_size T_check_from T_is_whole m_WAYS B m_MOST_THINGS) (ok_kw (k := 14) T_known_within T_swap_counts T_spot_counts T_shift_within T_swap_counts_with_one_more T_count_all_moved T_things_near T_one_place_further B)) B) B
namespace Fo
open PySem PySem.Spec PyProof.Rows L2
set_option maxHeartbeats 8000000 in
theorem all_mk {l : PySem.W.OpenLaw} {w : World} {K : PySem.W.Frag} {h : Heap} {mg : Str → Option Value} {fa : Addr} (X : K.In h) (G : h.Ns mainGlobals mg) (hfa : mg "law" = some (.ref fa))
    {f0 f1 f2 f3 f4 f5 f6 f7 f8 f9 f10 f11 f12 f13 f14 f15 f16 f17 f18 f19 f20 f21 f22 f23 f24 f25 : Addr} {od0 an0 od1 an1 od2 an2 od3 an3 od4 an4 od5 an5 od6 an6 od7 an7 od8 an8 od9 an9 od10 an10 od11 an11 od12 an12 od13 an13 od14 an14 od15 an15 od16 an16 od17 an17 od18 an18 od19 an19 od20 an20 od21 an21 od22 an22 od23 an23 od24 an24 od25 an25 : Option Addr} {sl0 sl1 sl2 sl3 sl4 sl5 sl6 sl7 sl8 sl9 sl10 sl11 sl12 sl13 sl14 sl15 sl16 sl17 sl18 sl19 sl20 sl21 sl22 sl23 sl24 sl25 : Array (Option Value)} {oc0 kV0 dc0 pm0 cd0 ct0 oc1 kV1 dc1 pm1 cd1 ct1 oc2 kV2 dc2 pm2 cd2 ct2 oc3 kV3 dc3 pm3 cd3 ct3 oc4 kV4 dc4 pm4 cd4 ct4 oc5 kV5 dc5 pm5 cd5 ct5 oc6 kV6 dc6 pm6 cd6 ct6 oc7 kV7 dc7 pm7 cd7 ct7 oc8 kV8 dc8 pm8 cd8 ct8 oc9 kV9 dc9 pm9 cd9 ct9 oc10 kV10 dc10 pm10 cd10 ct10 oc11 kV11 dc11 pm11 cd11 ct11 oc12 kV12 dc12 pm12 cd12 ct12 oc13 kV13 dc13 pm13 cd13 ct13 oc14 kV14 dc14 pm14 cd14 ct14 oc15 kV15 dc15 pm15 cd15 ct15 oc16 kV16 dc16 pm16 cd16 ct16 oc17 kV17 dc17 pm17 cd17 ct17 oc18 kV18 dc18 pm18 cd18 ct18 oc19 kV19 dc19 pm19 cd19 ct19 oc20 kV20 dc20 pm20 cd20 ct20 oc21 kV21 dc21 pm21 cd21 ct21 oc22 kV22 dc22 pm22 cd22 ct22 oc23 kV23 dc23 pm23 cd23 ct23 oc24 kV24 dc24 pm24 cd24 ct24 oc25 kV25 dc25 pm25 cd25 ct25 : Value} {tk_MOST_THINGS : Tok} {aW : Addr} {ddW : Option Addr} {nW : Nat} {tW1 tW2 tW3 : Tok} {slW : Array (Option Value)}
    (a0 : PySem.W.nsIn K mainGlobals "is_whole" = some (some (.ref f0))) (l0 : K.lookup f0 = some ⟨oc0, od0, .func (PySem.W.fnOf "is_whole" "is_whole" (defArgs s_is_whole) (defBody s_is_whole) (defScope s_is_whole) .none kV0 dc0 pm0 an0 cd0 ct0), sl0⟩) (c0 : PySem.W.codeIn K cd0 "is_whole" = true) (k0 : PySem.W.keepIn K (.ref f0) = true)
    (a1 : PySem.W.nsIn K mainGlobals "check_way" = some (some (.ref f1))) (l1 : K.lookup f1 = some ⟨oc1, od1, .func (PySem.W.fnOf "check_way" "check_way" (defArgs s_check_way) (defBody s_check_way) (defScope s_check_way) .none kV1 dc1 pm1 an1 cd1 ct1), sl1⟩) (c1 : PySem.W.codeIn K cd1 "check_way" = true) (k1 : PySem.W.keepIn K (.ref f1) = true)
    (a2 : PySem.W.nsIn K mainGlobals "check_from" = some (some (.ref f2))) (l2 : K.lookup f2 = some ⟨oc2, od2, .func (PySem.W.fnOf "check_from" "check_from" (defArgs s_check_from) (defBody s_check_from) (defScope s_check_from) .none kV2 dc2 pm2 an2 cd2 ct2), sl2⟩) (c2 : PySem.W.codeIn K cd2 "check_from" = true) (k2 : PySem.W.keepIn K (.ref f2) = true)
    (a3 : PySem.W.nsIn K mainGlobals "check_size" = some (some (.ref f3))) (l3 : K.lookup f3 = some ⟨oc3, od3, .func (PySem.W.fnOf "check_size" "check_size" (defArgs s_check_size) (defBody s_check_size) (defScope s_check_size) .none kV3 dc3 pm3 an3 cd3 ct3), sl3⟩) (c3 : PySem.W.codeIn K cd3 "check_size" = true) (k3 : PySem.W.keepIn K (.ref f3) = true)
    (a4 : PySem.W.nsIn K mainGlobals "count_within" = some (some (.ref f4))) (l4 : K.lookup f4 = some ⟨oc4, od4, .func (PySem.W.fnOf "count_within" "count_within" (defArgs s_count_within) (defBody s_count_within) (defScope s_count_within) .none kV4 dc4 pm4 an4 cd4 ct4), sl4⟩) (c4 : PySem.W.codeIn K cd4 "count_within" = true) (k4 : PySem.W.keepIn K (.ref f4) = true)
    (a5 : PySem.W.nsIn K mainGlobals "count_at" = some (some (.ref f5))) (l5 : K.lookup f5 = some ⟨oc5, od5, .func (PySem.W.fnOf "count_at" "count_at" (defArgs s_count_at) (defBody s_count_at) (defScope s_count_at) .none kV5 dc5 pm5 an5 cd5 ct5), sl5⟩) (c5 : PySem.W.codeIn K cd5 "count_at" = true) (k5 : PySem.W.keepIn K (.ref f5) = true)
    (a6 : PySem.W.nsIn K mainGlobals "check_count" = some (some (.ref f6))) (l6 : K.lookup f6 = some ⟨oc6, od6, .func (PySem.W.fnOf "check_count" "check_count" (defArgs s_check_count) (defBody s_check_count) (defScope s_check_count) .none kV6 dc6 pm6 an6 cd6 ct6), sl6⟩) (c6 : PySem.W.codeIn K cd6 "check_count" = true) (k6 : PySem.W.keepIn K (.ref f6) = true)
    (a7 : PySem.W.nsIn K mainGlobals "known_within" = some (some (.ref f7))) (l7 : K.lookup f7 = some ⟨oc7, od7, .func (PySem.W.fnOf "known_within" "known_within" (defArgs s_known_within) (defBody s_known_within) (defScope s_known_within) .none kV7 dc7 pm7 an7 cd7 ct7), sl7⟩) (c7 : PySem.W.codeIn K cd7 "known_within" = true) (k7 : PySem.W.keepIn K (.ref f7) = true)
    (a8 : PySem.W.nsIn K mainGlobals "swap_counts" = some (some (.ref f8))) (l8 : K.lookup f8 = some ⟨oc8, od8, .func (PySem.W.fnOf "swap_counts" "swap_counts" (defArgs s_swap_counts) (defBody s_swap_counts) (defScope s_swap_counts) .none kV8 dc8 pm8 an8 cd8 ct8), sl8⟩) (c8 : PySem.W.codeIn K cd8 "swap_counts" = true) (k8 : PySem.W.keepIn K (.ref f8) = true)
    (a9 : PySem.W.nsIn K mainGlobals "swap_counts_with_one_more" = some (some (.ref f9))) (l9 : K.lookup f9 = some ⟨oc9, od9, .func (PySem.W.fnOf "swap_counts_with_one_more" "swap_counts_with_one_more" (defArgs s_swap_counts_with_one_more) (defBody s_swap_counts_with_one_more) (defScope s_swap_counts_with_one_more) .none kV9 dc9 pm9 an9 cd9 ct9), sl9⟩) (c9 : PySem.W.codeIn K cd9 "swap_counts_with_one_more" = true) (k9 : PySem.W.keepIn K (.ref f9) = true)
    (a10 : PySem.W.nsIn K mainGlobals "spot_counts" = some (some (.ref f10))) (l10 : K.lookup f10 = some ⟨oc10, od10, .func (PySem.W.fnOf "spot_counts" "spot_counts" (defArgs s_spot_counts) (defBody s_spot_counts) (defScope s_spot_counts) .none kV10 dc10 pm10 an10 cd10 ct10), sl10⟩) (c10 : PySem.W.codeIn K cd10 "spot_counts" = true) (k10 : PySem.W.keepIn K (.ref f10) = true)
    (a11 : PySem.W.nsIn K mainGlobals "count_all_moved" = some (some (.ref f11))) (l11 : K.lookup f11 = some ⟨oc11, od11, .func (PySem.W.fnOf "count_all_moved" "count_all_moved" (defArgs s_count_all_moved) (defBody s_count_all_moved) (defScope s_count_all_moved) .none kV11 dc11 pm11 an11 cd11 ct11), sl11⟩) (c11 : PySem.W.codeIn K cd11 "count_all_moved" = true) (k11 : PySem.W.keepIn K (.ref f11) = true)
    (a12 : PySem.W.nsIn K mainGlobals "shift_within" = some (some (.ref f12))) (l12 : K.lookup f12 = some ⟨oc12, od12, .func (PySem.W.fnOf "shift_within" "shift_within" (defArgs s_shift_within) (defBody s_shift_within) (defScope s_shift_within) .none kV12 dc12 pm12 an12 cd12 ct12), sl12⟩) (c12 : PySem.W.codeIn K cd12 "shift_within" = true) (k12 : PySem.W.keepIn K (.ref f12) = true)
    (a13 : PySem.W.nsIn K mainGlobals "things_near" = some (some (.ref f13))) (l13 : K.lookup f13 = some ⟨oc13, od13, .func (PySem.W.fnOf "things_near" "things_near" (defArgs s_things_near) (defBody s_things_near) (defScope s_things_near) .none kV13 dc13 pm13 an13 cd13 ct13), sl13⟩) (c13 : PySem.W.codeIn K cd13 "things_near" = true) (k13 : PySem.W.keepIn K (.ref f13) = true)
    (a14 : PySem.W.nsIn K mainGlobals "one_place_further" = some (some (.ref f14))) (l14 : K.lookup f14 = some ⟨oc14, od14, .func (PySem.W.fnOf "one_place_further" "one_place_further" (defArgs s_one_place_further) (defBody s_one_place_further) (defScope s_one_place_further) .none kV14 dc14 pm14 an14 cd14 ct14), sl14⟩) (c14 : PySem.W.codeIn K cd14 "one_place_further" = true) (k14 : PySem.W.keepIn K (.ref f14) = true)
    (a15 : PySem.W.nsIn K mainGlobals "_law_draws" = some (some (.ref f15))) (l15 : K.lookup f15 = some ⟨oc15, od15, .func (PySem.W.fnOf "_law_draws" "_law_draws" (defArgs s_law_draws) (defBody s_law_draws) (defScope s_law_draws) .none kV15 dc15 pm15 an15 cd15 ct15), sl15⟩) (c15 : PySem.W.codeIn K cd15 "_law_draws" = true) (k15 : PySem.W.keepIn K (.ref f15) = true)
    (a16 : PySem.W.nsIn K mainGlobals "_law_take" = some (some (.ref f16))) (l16 : K.lookup f16 = some ⟨oc16, od16, .func (PySem.W.fnOf "_law_take" "_law_take" (defArgs s_law_take) (defBody s_law_take) (defScope s_law_take) .none kV16 dc16 pm16 an16 cd16 ct16), sl16⟩) (c16 : PySem.W.codeIn K cd16 "_law_take" = true) (k16 : PySem.W.keepIn K (.ref f16) = true)
    (a17 : PySem.W.nsIn K mainGlobals "_law_swaps" = some (some (.ref f17))) (l17 : K.lookup f17 = some ⟨oc17, od17, .func (PySem.W.fnOf "_law_swaps" "_law_swaps" (defArgs s_law_swaps) (defBody s_law_swaps) (defScope s_law_swaps) .none kV17 dc17 pm17 an17 cd17 ct17), sl17⟩) (c17 : PySem.W.codeIn K cd17 "_law_swaps" = true) (k17 : PySem.W.keepIn K (.ref f17) = true)
    (a18 : PySem.W.nsIn K mainGlobals "_law_chosen" = some (some (.ref f18))) (l18 : K.lookup f18 = some ⟨oc18, od18, .func (PySem.W.fnOf "_law_chosen" "_law_chosen" (defArgs s_law_chosen) (defBody s_law_chosen) (defScope s_law_chosen) .none kV18 dc18 pm18 an18 cd18 ct18), sl18⟩) (c18 : PySem.W.codeIn K cd18 "_law_chosen" = true) (k18 : PySem.W.keepIn K (.ref f18) = true)
    (a19 : PySem.W.nsIn K mainGlobals "_law_spots" = some (some (.ref f19))) (l19 : K.lookup f19 = some ⟨oc19, od19, .func (PySem.W.fnOf "_law_spots" "_law_spots" (defArgs s_law_spots) (defBody s_law_spots) (defScope s_law_spots) .none kV19 dc19 pm19 an19 cd19 ct19), sl19⟩) (c19 : PySem.W.codeIn K cd19 "_law_spots" = true) (k19 : PySem.W.keepIn K (.ref f19) = true)
    (a20 : PySem.W.nsIn K mainGlobals "_law_fill" = some (some (.ref f20))) (l20 : K.lookup f20 = some ⟨oc20, od20, .func (PySem.W.fnOf "_law_fill" "_law_fill" (defArgs s_law_fill) (defBody s_law_fill) (defScope s_law_fill) .none kV20 dc20 pm20 an20 cd20 ct20), sl20⟩) (c20 : PySem.W.codeIn K cd20 "_law_fill" = true) (k20 : PySem.W.keepIn K (.ref f20) = true)
    (a21 : PySem.W.nsIn K mainGlobals "_law_shifts" = some (some (.ref f21))) (l21 : K.lookup f21 = some ⟨oc21, od21, .func (PySem.W.fnOf "_law_shifts" "_law_shifts" (defArgs s_law_shifts) (defBody s_law_shifts) (defScope s_law_shifts) .none kV21 dc21 pm21 an21 cd21 ct21), sl21⟩) (c21 : PySem.W.codeIn K cd21 "_law_shifts" = true) (k21 : PySem.W.keepIn K (.ref f21) = true)
    (a22 : PySem.W.nsIn K mainGlobals "_law_within" = some (some (.ref f22))) (l22 : K.lookup f22 = some ⟨oc22, od22, .func (PySem.W.fnOf "_law_within" "_law_within" (defArgs s_law_within) (defBody s_law_within) (defScope s_law_within) .none kV22 dc22 pm22 an22 cd22 ct22), sl22⟩) (c22 : PySem.W.codeIn K cd22 "_law_within" = true) (k22 : PySem.W.keepIn K (.ref f22) = true)
    (a23 : PySem.W.nsIn K mainGlobals "_law_whole" = some (some (.ref f23))) (l23 : K.lookup f23 = some ⟨oc23, od23, .func (PySem.W.fnOf "_law_whole" "_law_whole" (defArgs s_law_whole) (defBody s_law_whole) (defScope s_law_whole) .none kV23 dc23 pm23 an23 cd23 ct23), sl23⟩) (c23 : PySem.W.codeIn K cd23 "_law_whole" = true) (k23 : PySem.W.keepIn K (.ref f23) = true)
    (a24 : PySem.W.nsIn K mainGlobals "_law_right" = some (some (.ref f24))) (l24 : K.lookup f24 = some ⟨oc24, od24, .func (PySem.W.fnOf "_law_right" "_law_right" (defArgs s_law_right) (defBody s_law_right) (defScope s_law_right) .none kV24 dc24 pm24 an24 cd24 ct24), sl24⟩) (c24 : PySem.W.codeIn K cd24 "_law_right" = true) (k24 : PySem.W.keepIn K (.ref f24) = true)
    (a25 : PySem.W.nsIn K mainGlobals "law" = some (some (.ref f25))) (l25 : K.lookup f25 = some ⟨oc25, od25, .func (PySem.W.fnOf "law" "law" (defArgs s_law) (defBody s_law) (defScope s_law) .none kV25 dc25 pm25 an25 cd25 ct25), sl25⟩) (c25 : PySem.W.codeIn K cd25 "law" = true) (k25 : PySem.W.keepIn K (.ref f25) = true)
    (g_MOST_THINGS : PySem.W.nsIn K mainGlobals "MOST_THINGS" = some (some (.int 12 tk_MOST_THINGS)))
    (g_WAYS : PySem.W.nsIn K mainGlobals "WAYS" = some (some (.ref aW))) (l_WAYS : K.lookup aW = some ⟨.type "tuple", ddW, .seq #[.str "swap" tW1, .str "spot" tW2, .str "shift" tW3] nW, slW⟩)
    (z_ValueError : PySem.W.nsIn K mainGlobals "ValueError" = some none)
    (z_abs : PySem.W.nsIn K mainGlobals "abs" = some none)
    (z_bool : PySem.W.nsIn K mainGlobals "bool" = some none)
    (z_enumerate : PySem.W.nsIn K mainGlobals "enumerate" = some none)
    (z_int : PySem.W.nsIn K mainGlobals "int" = some none)
    (z_isinstance : PySem.W.nsIn K mainGlobals "isinstance" = some none)
    (z_len : PySem.W.nsIn K mainGlobals "len" = some none)
    (z_list : PySem.W.nsIn K mainGlobals "list" = some none)
    (z_max : PySem.W.nsIn K mainGlobals "max" = some none)
    (z_min : PySem.W.nsIn K mainGlobals "min" = some none)
    (z_range : PySem.W.nsIn K mainGlobals "range" = some none)
    (z_str : PySem.W.nsIn K mainGlobals "str" = some none)
    (z_sum : PySem.W.nsIn K mainGlobals "sum" = some none)
    (z_tuple : PySem.W.nsIn K mainGlobals "tuple" = some none)
    : ∃ fd : FuncData, (∀ (s : Shared) (v : Value), BindsTo s fd ⟨[v], []⟩ [("script", v)]) ∧ ∀ base : Heap, K.In base → base.Ns mainGlobals mg → FnOk l.prog w K mg base CX0 20 fa fd ["script"] (spLaw K) := by
  have e := hfa.symm.trans (PySem.W.mg_of X G a25)
  cases e
  have F0 := fun_mk (st := s_is_whole) l0 c0 k0
  have F1 := fun_mk (st := s_check_way) l1 c1 k1
  have F2 := fun_mk (st := s_check_from) l2 c2 k2
  have F3 := fun_mk (st := s_check_size) l3 c3 k3
  have F4 := fun_mk (st := s_count_within) l4 c4 k4
  have F5 := fun_mk (st := s_count_at) l5 c5 k5
  have F6 := fun_mk (st := s_check_count) l6 c6 k6
  have F7 := fun_mk (st := s_known_within) l7 c7 k7
  have F8 := fun_mk (st := s_swap_counts) l8 c8 k8
  have F9 := fun_mk (st := s_swap_counts_with_one_more) l9 c9 k9
  have F10 := fun_mk (st := s_spot_counts) l10 c10 k10
  have F11 := fun_mk (st := s_count_all_moved) l11 c11 k11
  have F12 := fun_mk (st := s_shift_within) l12 c12 k12
  have F13 := fun_mk (st := s_things_near) l13 c13 k13
  have F14 := fun_mk (st := s_one_place_further) l14 c14 k14
  have F15 := fun_mk (st := s_law_draws) l15 c15 k15
  have F16 := fun_mk (st := s_law_take) l16 c16 k16
  have F17 := fun_mk (st := s_law_swaps) l17 c17 k17
  have F18 := fun_mk (st := s_law_chosen) l18 c18 k18
  have F19 := fun_mk (st := s_law_spots) l19 c19 k19
  have F20 := fun_mk (st := s_law_fill) l20 c20 k20
  have F21 := fun_mk (st := s_law_shifts) l21 c21 k21
  have F22 := fun_mk (st := s_law_within) l22 c22 k22
  have F23 := fun_mk (st := s_law_whole) l23 c23 k23
  have F24 := fun_mk (st := s_law_right) l24 c24 k24
  have F25 := fun_mk (st := s_law) l25 c25 k25
  have T_is_whole : Df K mg "is_whole" s_is_whole ["thing"] f0 _ := ⟨F0, F0.binds (ps := ["thing"]) (fun _ _ _ _ _ _ us hl => match us, hl with | [_], _ => rfl), PySem.W.mg_of X G a0⟩
  have T_check_way : Df K mg "check_way" s_check_way ["thing"] f1 _ := ⟨F1, F1.binds (ps := ["thing"]) (fun _ _ _ _ _ _ us hl => match us, hl with | [_], _ => rfl), PySem.W.mg_of X G a1⟩
  have T_check_from : Df K mg "check_from" s_check_from ["thing", "least"] f2 _ := ⟨F2, F2.binds (ps := ["thing", "least"]) (fun _ _ _ _ _ _ us hl => match us, hl with | [_, _], _ => rfl), PySem.W.mg_of X G a2⟩
  have T_check_size : Df K mg "check_size" s_check_size ["thing", "most"] f3 _ := ⟨F3, F3.binds (ps := ["thing", "most"]) (fun _ _ _ _ _ _ us hl => match us, hl with | [_, _], _ => rfl), PySem.W.mg_of X G a3⟩
  have T_count_within : Df K mg "count_within" s_count_within ["way", "n", "r"] f4 _ := ⟨F4, F4.binds (ps := ["way", "n", "r"]) (fun _ _ _ _ _ _ us hl => match us, hl with | [_, _, _], _ => rfl), PySem.W.mg_of X G a4⟩
  have T_count_at : Df K mg "count_at" s_count_at ["way", "n", "r"] f5 _ := ⟨F5, F5.binds (ps := ["way", "n", "r"]) (fun _ _ _ _ _ _ us hl => match us, hl with | [_, _, _], _ => rfl), PySem.W.mg_of X G a5⟩
  have T_check_count : Df K mg "check_count" s_check_count ["way", "n", "r"] f6 _ := ⟨F6, F6.binds (ps := ["way", "n", "r"]) (fun _ _ _ _ _ _ us hl => match us, hl with | [_, _, _], _ => rfl), PySem.W.mg_of X G a6⟩
  have T_known_within : Df K mg "known_within" s_known_within ["way", "n", "r"] f7 _ := ⟨F7, F7.binds (ps := ["way", "n", "r"]) (fun _ _ _ _ _ _ us hl => match us, hl with | [_, _, _], _ => rfl), PySem.W.mg_of X G a7⟩
  have T_swap_counts : Df K mg "swap_counts" s_swap_counts ["n"] f8 _ := ⟨F8, F8.binds (ps := ["n"]) (fun _ _ _ _ _ _ us hl => match us, hl with | [_], _ => rfl), PySem.W.mg_of X G a8⟩
  have T_swap_counts_with_one_more : Df K mg "swap_counts_with_one_more" s_swap_counts_with_one_more ["counts", "behind"] f9 _ := ⟨F9, F9.binds (ps := ["counts", "behind"]) (fun _ _ _ _ _ _ us hl => match us, hl with | [_, _], _ => rfl), PySem.W.mg_of X G a9⟩
  have T_spot_counts : Df K mg "spot_counts" s_spot_counts ["n"] f10 _ := ⟨F10, F10.binds (ps := ["n"]) (fun _ _ _ _ _ _ us hl => match us, hl with | [_], _ => rfl), PySem.W.mg_of X G a10⟩
  have T_count_all_moved : Df K mg "count_all_moved" s_count_all_moved ["n"] f11 _ := ⟨F11, F11.binds (ps := ["n"]) (fun _ _ _ _ _ _ us hl => match us, hl with | [_], _ => rfl), PySem.W.mg_of X G a11⟩
  have T_shift_within : Df K mg "shift_within" s_shift_within ["n", "r"] f12 _ := ⟨F12, F12.binds (ps := ["n", "r"]) (fun _ _ _ _ _ _ us hl => match us, hl with | [_, _], _ => rfl), PySem.W.mg_of X G a12⟩
  have T_things_near : Df K mg "things_near" s_things_near ["place", "n", "r"] f13 _ := ⟨F13, F13.binds (ps := ["place", "n", "r"]) (fun _ _ _ _ _ _ us hl => match us, hl with | [_, _, _], _ => rfl), PySem.W.mg_of X G a13⟩
  have T_one_place_further : Df K mg "one_place_further" s_one_place_further ["beginnings", "near"] f14 _ := ⟨F14, F14.binds (ps := ["beginnings", "near"]) (fun _ _ _ _ _ _ us hl => match us, hl with | [_, _], _ => rfl), PySem.W.mg_of X G a14⟩
  have T__law_draws : Df K mg "_law_draws" s_law_draws ["script", "many"] f15 _ := ⟨F15, F15.binds (ps := ["script", "many"]) (fun _ _ _ _ _ _ us hl => match us, hl with | [_, _], _ => rfl), PySem.W.mg_of X G a15⟩
  have T__law_take : Df K mg "_law_take" s_law_take ["store", "many"] f16 _ := ⟨F16, F16.binds (ps := ["store", "many"]) (fun _ _ _ _ _ _ us hl => match us, hl with | [_, _], _ => rfl), PySem.W.mg_of X G a16⟩
  have T__law_swaps : Df K mg "_law_swaps" s_law_swaps ["n"] f17 _ := ⟨F17, F17.binds (ps := ["n"]) (fun _ _ _ _ _ _ us hl => match us, hl with | [_], _ => rfl), PySem.W.mg_of X G a17⟩
  have T__law_chosen : Df K mg "_law_chosen" s_law_chosen ["n", "k"] f18 _ := ⟨F18, F18.binds (ps := ["n", "k"]) (fun _ _ _ _ _ _ us hl => match us, hl with | [_, _], _ => rfl), PySem.W.mg_of X G a18⟩
  have T__law_spots : Df K mg "_law_spots" s_law_spots ["n"] f19 _ := ⟨F19, F19.binds (ps := ["n"]) (fun _ _ _ _ _ _ us hl => match us, hl with | [_], _ => rfl), PySem.W.mg_of X G a19⟩
  have T__law_fill : Df K mg "_law_fill" s_law_fill ["n", "r", "place", "left", "known"] f20 _ := ⟨F20, F20.binds (ps := ["n", "r", "place", "left", "known"]) (fun _ _ _ _ _ _ us hl => match us, hl with | [_, _, _, _, _], _ => rfl), PySem.W.mg_of X G a20⟩
  have T__law_shifts : Df K mg "_law_shifts" s_law_shifts ["n", "r"] f21 _ := ⟨F21, F21.binds (ps := ["n", "r"]) (fun _ _ _ _ _ _ us hl => match us, hl with | [_, _], _ => rfl), PySem.W.mg_of X G a21⟩
  have T__law_within : Df K mg "_law_within" s_law_within ["way", "n", "r"] f22 _ := ⟨F22, F22.binds (ps := ["way", "n", "r"]) (fun _ _ _ _ _ _ us hl => match us, hl with | [_, _, _], _ => rfl), PySem.W.mg_of X G a22⟩
  have T__law_whole : Df K mg "_law_whole" s_law_whole ["found", "due"] f23 _ := ⟨F23, F23.binds (ps := ["found", "due"]) (fun _ _ _ _ _ _ us hl => match us, hl with | [_, _], _ => rfl), PySem.W.mg_of X G a23⟩
  have T__law_right : Df K mg "_law_right" s_law_right ["way", "n", "r"] f24 _ := ⟨F24, F24.binds (ps := ["way", "n", "r"]) (fun _ _ _ _ _ _ us hl => match us, hl with | [_, _, _], _ => rfl), PySem.W.mg_of X G a24⟩
  have B : Bi mg := ⟨PySem.W.mg_none_of X G z_ValueError, PySem.W.mg_none_of X G z_abs, PySem.W.mg_none_of X G z_bool, PySem.W.mg_none_of X G z_enumerate, PySem.W.mg_none_of X G z_int, PySem.W.mg_none_of X G z_isinstance, PySem.W.mg_none_of X G z_len, PySem.W.mg_none_of X G z_list, PySem.W.mg_none_of X G z_max, PySem.W.mg_none_of X G z_min, PySem.W.mg_none_of X G z_range, PySem.W.mg_none_of X G z_str, PySem.W.mg_none_of X G z_sum, PySem.W.mg_none_of X G z_tuple⟩
  have m_WAYS := wy_mk (PySem.W.mg_of X G g_WAYS) l_WAYS
  have m_MOST_THINGS := PySem.W.mg_of X G g_MOST_THINGS
  exact ⟨PySem.W.fnOf "law" "law" (defArgs s_law) (defBody s_law) (defScope s_law) .none kV25 dc25 pm25 an25 cd25 ct25, fun s v => .of_eq rfl, fun base _ _ => ok_law F25 T__law_draws T__law_take T__law_right (ok_draws (k := 18) T__law_draws B) (ok_take (k := 18) T__law_take B) (ok_R15 (k := 18) T__law_right T__law_within T__law_whole T_count_within T_count_at (ok_within15 (k := 17) T__law_within T__law_swaps T__law_spots T__law_shifts (ok_swaps (k := 4) T__law_swaps B 12) (ok_spots (k := 16) T__law_spots T__law_chosen (ok_chosen (k := 15) T__law_chosen B) B) (ok_shifts (k := 16) T__law_shifts T__law_fill (ok_fills (k := 2) T__law_fill B 13) B) B) (ok_whole15 (k := 17) T__law_whole B) (ok_cw (k := 17) T_count_within T_check_count T_known_within (ok_count (k := 14) T_check_count T_check_way T_check_size T_check_from T_is_whole m_WAYS B m_MOST_THINGS) (ok_kw (k := 14) T_known_within T_swap_counts T_spot_counts T_shift_within T_swap_counts_with_one_more T_count_all_moved T_things_near T_one_place_further B)) (ok_ca (k := 17) T_count_at T_check_count T_known_within (ok_count (k := 14) T_check_count T_check_way T_check_size T_check_from T_is_whole m_WAYS B m_MOST_THINGS) (ok_kw (k := 14) T_known_within T_swap_counts T_spot_counts T_shift_within T_swap_counts_with_one_more T_count_all_moved T_things_near T_one_place_further B)) B) B⟩
end Fo
open PySem PySem.W PyProof.Rows
set_option maxRecDepth 100000 in
set_option maxHeartbeats 0 in
theorem PySem.Challenge.cw_farorders_k15_how_many_within_holds : PySem.Challenge.rw_farorders_k15_how_many_within.Holds := by
  w_on; o_law; k_head; (case hw => w_witness2)
  k_fill
  refine L2.walk_of (l := PySem.Challenge.rw_farorders_k15_how_many_within) (n := 63) (k := 20) (x := "script") (CX := fun _ => L2.CX0) (sp := fun w => Fo.spLaw _) rfl (by decide) rfl ⟨rfl, by decide, by decide⟩ (fun w h Y => PySem.W.kIn_of Y) ?F (fun _ _ a ns hl _ hS => ⟨a, ns, rfl, hS, hl, fun _ => rfl⟩) (fun _ _ _ _ _ h => h)
  case F =>
    intro w mg fa h KX G hmg
    refine' Fo.all_mk KX G hmg ?a0 ?l0 ?c0 ?k0 ?a1 ?l1 ?c1 ?k1 ?a2 ?l2 ?c2 ?k2 ?a3 ?l3 ?c3 ?k3 ?a4 ?l4 ?c4 ?k4 ?a5 ?l5 ?c5 ?k5 ?a6 ?l6 ?c6 ?k6 ?a7 ?l7 ?c7 ?k7 ?a8 ?l8 ?c8 ?k8 ?a9 ?l9 ?c9 ?k9 ?a10 ?l10 ?c10 ?k10 ?a11 ?l11 ?c11 ?k11 ?a12 ?l12 ?c12 ?k12 ?a13 ?l13 ?c13 ?k13 ?a14 ?l14 ?c14 ?k14 ?a15 ?l15 ?c15 ?k15 ?a16 ?l16 ?c16 ?k16 ?a17 ?l17 ?c17 ?k17 ?a18 ?l18 ?c18 ?k18 ?a19 ?l19 ?c19 ?k19 ?a20 ?l20 ?c20 ?k20 ?a21 ?l21 ?c21 ?k21 ?a22 ?l22 ?c22 ?k22 ?a23 ?l23 ?c23 ?k23 ?a24 ?l24 ?c24 ?k24 ?a25 ?l25 ?c25 ?k25 ?g_MOST_THINGS ?g_WAYS ?l_WAYS ?z_ValueError ?z_abs ?z_bool ?z_enumerate ?z_int ?z_isinstance ?z_len ?z_list ?z_max ?z_min ?z_range ?z_str ?z_sum ?z_tuple
    (case a0 => k_is); (case l0 => k_is); (case c0 => k_is); (case k0 => k_is); (case a1 => k_is); (case l1 => k_is); (case c1 => k_is); (case k1 => k_is); (case a2 => k_is); (case l2 => k_is); (case c2 => k_is); (case k2 => k_is); (case a3 => k_is); (case l3 => k_is); (case c3 => k_is); (case k3 => k_is); (case a4 => k_is); (case l4 => k_is); (case c4 => k_is); (case k4 => k_is); (case a5 => k_is); (case l5 => k_is); (case c5 => k_is); (case k5 => k_is); (case a6 => k_is); (case l6 => k_is); (case c6 => k_is); (case k6 => k_is); (case a7 => k_is); (case l7 => k_is); (case c7 => k_is); (case k7 => k_is); (case a8 => k_is); (case l8 => k_is); (case c8 => k_is); (case k8 => k_is); (case a9 => k_is); (case l9 => k_is); (case c9 => k_is); (case k9 => k_is); (case a10 => k_is); (case l10 => k_is); (case c10 => k_is); (case k10 => k_is); (case a11 => k_is); (case l11 => k_is); (case c11 => k_is); (case k11 => k_is); (case a12 => k_is); (case l12 => k_is); (case c12 => k_is); (case k12 => k_is); (case a13 => k_is); (case l13 => k_is); (case c13 => k_is); (case k13 => k_is); (case a14 => k_is); (case l14 => k_is); (case c14 => k_is); (case k14 => k_is); (case a15 => k_is); (case l15 => k_is); (case c15 => k_is); (case k15 => k_is); (case a16 => k_is); (case l16 => k_is); (case c16 => k_is); (case k16 => k_is); (case a17 => k_is); (case l17 => k_is); (case c17 => k_is); (case k17 => k_is); (case a18 => k_is); (case l18 => k_is); (case c18 => k_is); (case k18 => k_is); (case a19 => k_is); (case l19 => k_is); (case c19 => k_is); (case k19 => k_is); (case a20 => k_is); (case l20 => k_is); (case c20 => k_is); (case k20 => k_is); (case a21 => k_is); (case l21 => k_is); (case c21 => k_is); (case k21 => k_is); (case a22 => k_is); (case l22 => k_is); (case c22 => k_is); (case k22 => k_is); (case a23 => k_is); (case l23 => k_is); (case c23 => k_is); (case k23 => k_is); (case a24 => k_is); (case l24 => k_is); (case c24 => k_is); (case k24 => k_is); (case a25 => k_is); (case l25 => k_is); (case c25 => k_is); (case k25 => k_is); (case g_MOST_THINGS => k_is); (case g_WAYS => k_is); (case l_WAYS => k_is); (case z_ValueError => k_is); (case z_abs => k_is); (case z_bool => k_is); (case z_enumerate => k_is); (case z_int => k_is); (case z_isinstance => k_is); (case z_len => k_is); (case z_list => k_is); (case z_max => k_is); (case z_min => k_is); (case z_range => k_is); (case z_str => k_is); (case z_sum => k_is); (case z_tuple => k_is)

