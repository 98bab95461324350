import PyProof.Rows.All
import Wide.All
import OpenK.AllK
import Wide.FinOn
import HandS.ForMost
import HandS.IsInst
import HandS.Conv
import HandS.Style
import HandS.More
import HandS.Evl
import HandS.Zip
import HandS.SetFor
import HandS.Sort
import HandS.Wide
import HandS.Deep
import KE.SortData
import PyProof.ReprRoads
import HandS.Exc
import HandS.ExcOwn
import HandS.ExcIs
import HandS.ExcValue
import HandS.Small
import HandS.WordsExc
import KE.KDictZip
import HandS.Text
import HandS.GenList
import HandS.AnyAll
import HandS.EndTab
import HandS.HotCalls
import KE.KUnpackStar
import HandS.RaiseMore
import HandS.FStr
import PySem.Challenge.RW_farorders_k27_no_ways_and_no_numbers_apa
set_option Elab.async false
set_option linter.all false
set_option maxRecDepth 100000
namespace Fo
open PySem PySem.Spec PyProof.Rows L2
/-! ### lists and orders -/
def rg (n : Nat) : List Int := (List.range n).map fun k => ((k : Nat) : Int)
def IsOrd (n : Nat) (ns : List Int) : Prop := ns.Perm (rg n)
theorem rg_len (n : Nat) : (rg n).length = n := by
  unfold rg
  rw [List.length_map, List.length_range]
theorem rg_mem {n : Nat} {x : Int} : x ∈ rg n ↔ 0 ≤ x ∧ x < n := by
  unfold rg
  rw [List.mem_map]
  constructor
  · rintro ⟨k, hk, rfl⟩
    have := List.mem_range.mp hk
    omega
  · rintro ⟨h0, h1⟩
    exact ⟨x.toNat, List.mem_range.mpr (by omega), by omega⟩
theorem rg_nodup (n : Nat) : (rg n).Nodup := by
  unfold rg
  exact List.Pairwise.map _ (fun a b h e => h (by omega)) List.nodup_range
theorem rg_sorted (n : Nat) : (rg n).Pairwise (· ≤ ·) := by
  unfold rg
  exact List.Pairwise.map _ (fun a b h => by omega) List.pairwise_lt_range
theorem rg_V (n : Nat) : rgV 0 (n : Int) = (rg n).map V.int := by
  unfold rgV rg
  rw [List.map_map, show ((n : Int) - 0).toNat = n by omega]
  apply List.map_congr_left
  intro a _
  show V.int (0 + (a : Int)) = V.int (a : Int)
  rw [Int.zero_add]
theorem IsOrd.len {n : Nat} {ns : List Int} (h : IsOrd n ns) : ns.length = n := (List.Perm.length_eq h).trans (rg_len n)
theorem IsOrd.mem {n : Nat} {ns : List Int} (h : IsOrd n ns) {x : Int} (m : x ∈ ns) : 0 ≤ x ∧ x < n := rg_mem.mp ((List.Perm.mem_iff h).mp m)
theorem IsOrd.nodup {n : Nat} {ns : List Int} (h : IsOrd n ns) : ns.Nodup := (List.Perm.nodup_iff h).mpr (rg_nodup n)
/-- two sorted lists of the same things are one -/
theorem sorted_eq : ∀ {a b : List Int}, a.Perm b → a.Pairwise (· ≤ ·) → b.Pairwise (· ≤ ·) → a = b := by
  intro a b hp ha hb
  exact List.Perm.eq_of_pairwise (fun x y _ _ h1 h2 => by omega) ha hb hp
/-- the things at p and p + 1 change places -/
def sw (xs : List Int) (p : Nat) : List Int := (xs.set p (xs.getD (p + 1) 0)).set (p + 1) (xs.getD p 0)
theorem split2 : ∀ {xs : List Int} {p : Nat}, p + 1 < xs.length → ∃ A a b B, xs = A ++ a :: b :: B ∧ A.length = p
  | [], p, h => by simp at h
  | [_], p, h => by simp at h
  | a :: b :: r, 0, _ => ⟨[], a, b, r, rfl, rfl⟩
  | a :: b :: r, p + 1, h => by
    obtain ⟨A, x, y, B, e, l⟩ := split2 (xs := b :: r) (p := p) (by simpa using h)
    exact ⟨a :: A, x, y, B, by rw [e]; rfl, by rw [List.length_cons, l]⟩
theorem sw_at : ∀ (A : List Int) (a b : Int) (B : List Int), sw (A ++ a :: b :: B) A.length = A ++ b :: a :: B
  | [], a, b, B => rfl
  | x :: A, a, b, B => by
    have ih := sw_at A a b B
    unfold sw at ih ⊢
    show x :: _ = x :: _
    exact congrArg (x :: ·) ih
theorem sw_perm {xs : List Int} {p : Nat} (h : p + 1 < xs.length) : (sw xs p).Perm xs := by
  obtain ⟨A, a, b, B, rfl, rfl⟩ := split2 h
  rw [sw_at]
  exact List.Perm.append_left A (List.Perm.swap a b B)
theorem sw_len (xs : List Int) (p : Nat) : (sw xs p).length = xs.length := by
  unfold sw
  rw [List.length_set, List.length_set]
theorem sw_ord {n : Nat} {xs : List Int} {p : Nat} (o : IsOrd n xs) (h : p + 1 < n) : IsOrd n (sw xs p) :=
  (sw_perm (by rw [o.len]; exact h)).trans o
theorem sw_V {xs : List Int} {p : Nat} {a b : Int} (ha : xs[p]? = some a) (hb : xs[p + 1]? = some b) : ((xs.map V.int).set p (V.int b)).set (p + 1) (V.int a) = (sw xs p).map V.int := by
  unfold sw
  rw [List.getD_eq_getElem?_getD, List.getD_eq_getElem?_getD, ha, hb, List.map_set, List.map_set]
  rfl
theorem pop_ins {xs : List Int} {p : Nat} {a : Int} (h : p + 1 < xs.length) (ha : xs[p]? = some a) : (xs.eraseIdx p).take (p + 1) ++ [a] ++ (xs.eraseIdx p).drop (p + 1) = sw xs p := by
  obtain ⟨A, x, y, B, rfl, rfl⟩ := split2 h
  have ex : x = a := by
    rw [List.getElem?_append_right (Nat.le_refl _), Nat.sub_self] at ha
    exact Option.some.inj ha
  subst ex
  rw [sw_at, List.eraseIdx_append_of_length_le (Nat.le_refl _), Nat.sub_self]
  show (A ++ y :: B).take (A.length + 1) ++ [x] ++ (A ++ y :: B).drop (A.length + 1) = _
  rw [List.take_append, List.drop_append]
  have t : A.length + 1 - A.length = 1 := by omega
  rw [t, List.take_of_length_le (by omega), List.drop_of_length_le (by omega)]
  simp
/-- the order at a walk's end -/
def wEnd (xs : List Int) (ws : List Int) : List Int := ws.foldl (fun x p => sw x p.toNat) xs
theorem wEnd_more {xs ws : List Int} {i : Nat} {p : Int} (h : ws[i]? = some p) : wEnd xs (ws.take (i + 1)) = sw (wEnd xs (ws.take i)) p.toNat := by
  unfold wEnd
  rw [List.take_add_one, h, List.foldl_append]
  rfl
theorem wEnd_ord {n : Nat} {xs : List Int} (o : IsOrd n xs) : ∀ {ws : List Int}, (∀ p ∈ ws, 0 ≤ p ∧ p + 1 < n) → IsOrd n (wEnd xs ws) := by
  intro ws
  induction ws generalizing xs with
  | nil => intro _; exact o
  | cons p ws ih =>
    intro h
    have hp := h p List.mem_cons_self
    exact ih (sw_ord o (by omega)) fun q hq => h q (List.mem_cons_of_mem _ hq)
theorem nodup_len : ∀ {l m : List Int}, l.Nodup → (∀ x ∈ l, x ∈ m) → l.length ≤ m.length
  | [], m, _, _ => Nat.zero_le _
  | a :: l, m, hn, hs => by
    obtain ⟨h1, h2⟩ := List.nodup_cons.mp hn
    have ha := hs a List.mem_cons_self
    have ih := nodup_len (l := l) (m := m.erase a) h2 fun x hx => by
      have ne : x ≠ a := fun e => h1 (by rw [← e]; exact hx)
      exact (List.mem_erase_of_ne ne).mpr (hs x (List.mem_cons_of_mem _ hx))
    rw [List.length_erase_of_mem ha] at ih
    have : 0 < m.length := List.length_pos_of_mem ha
    rw [List.length_cons]
    omega
theorem int_at {ns : List Int} {i : Nat} {x : Int} (h : ns[i]? = some x) : (ns.map V.int)[i]? = some (V.int x) := by
  rw [List.getElem?_map, h]
  rfl
theorem int_at_inv {ns : List Int} {i : Nat} {v : V} (h : (ns.map V.int)[i]? = some v) : ∃ x, ns[i]? = some x ∧ v = V.int x := by
  rw [List.getElem?_map] at h
  cases e : ns[i]? with
  | none => rw [e] at h; cases h
  | some x => rw [e] at h; exact ⟨x, rfl, (Option.some.inj h).symm⟩
theorem line_small {n : Nat} (h : n ≤ 16777216) : n ≤ sizeLine := by rw [sizeLine_eq]; exact h
theorem line_lt {n : Nat} (h : n < 16777216) : n < sizeLine := by rw [sizeLine_eq]; exact h
/-! ### data of ints -/
theorem dp_ints {K : PySem.W.Frag} {H : Hp} : ∀ ns : List Int, DpAll K H (ns.map V.int) (ns.map PyData.int)
  | [] => .nil
  | n :: r => .cons (.int n) (dp_ints r)
theorem dp_list {K : PySem.W.Frag} {H : Hp} {a : Addr} {ns : List Int} (h : H a = some (.lst (ns.map V.int))) : Dp K H (.ref a) (.list (ns.map PyData.int)) := .lst (SqL.of h) (dp_ints ns)
theorem eqv_int (i j : Int) : PyData.eqv (.int i) (.int j) = (i == j) := rfl
end Fo
namespace Fo
open PySem PySem.Spec PyProof.Rows L2
abbrev dI (ns : List Int) : List PyData := ns.map PyData.int
abbrev dL (ns : List Int) : PyData := .list (dI ns)
abbrev dLL (l : List (List Int)) : PyData := .list (l.map dL)
theorem lay_ints : ∀ ns : List Int, PyData.canLayAll0 (dI ns) = true
  | [] => rfl
  | n :: r => by
    show (PyData.canLay0 (.int n) && PyData.canLayAll0 (dI r)) = true
    rw [lay_ints r]
    rfl
theorem depth_ints : ∀ ns : List Int, PyData.depthAll (dI ns) = 0
  | [] => by simp [PyData.depthAll]
  | n :: r => by
    show PyData.depthAll (.int n :: dI r) = 0
    rw [PyData.depthAll, depth_ints r]
    simp [PyData.depth]
theorem lay_list (ns : List Int) : PyData.canLay0 (dL ns) = true := by
  rw [PyData.canLay0]
  exact lay_ints ns
theorem depth_list (ns : List Int) : PyData.depth (dL ns) = 1 := by
  rw [PyData.depth, depth_ints]
theorem shaped_list (ns : List Int) : SeqAt.shaped (dL ns) = true := by
  unfold SeqAt.shaped
  rw [lay_list, depth_list]
  rfl
theorem lay_lists : ∀ l : List (List Int), PyData.canLayAll0 (l.map dL) = true
  | [] => rfl
  | n :: r => by
    show (PyData.canLay0 (dL n) && PyData.canLayAll0 (r.map dL)) = true
    rw [lay_lists r, lay_list]
    rfl
theorem depth_lists : ∀ l : List (List Int), PyData.depthAll (l.map dL) ≤ 1
  | [] => by simp [PyData.depthAll]
  | n :: r => by
    show PyData.depthAll (dL n :: r.map dL) ≤ 1
    rw [PyData.depthAll, depth_list]
    have := depth_lists r
    omega
theorem shaped_lists (l : List (List Int)) : SeqAt.shaped (dLL l) = true := by
  unfold SeqAt.shaped
  rw [Bool.and_eq_true_iff]
  constructor
  · rw [PyData.canLay0]
    exact lay_lists l
  · apply decide_eq_true
    rw [PyData.depth]
    have := depth_lists l
    omega
theorem eqv_list (ns : List Int) : PyData.eqv (dL ns) (dL ns) = true := SeqAt.eqv_refl _ (lay_list ns)
theorem eqv_lists (l : List (List Int)) : PyData.eqv (dLL l) (dLL l) = true := SeqAt.eqv_refl _ (SeqAt.canLay_of_shaped (shaped_lists l))
theorem eqvAll_ints : ∀ a b : List Int, PyData.eqvAll (dI a) (dI b) = decide (a = b)
  | [], [] => by simp [PyData.eqvAll]
  | [], _ :: _ => by simp [PyData.eqvAll]
  | _ :: _, [] => by simp [PyData.eqvAll]
  | x :: a, y :: b => by
    show PyData.eqvAll (.int x :: dI a) (.int y :: dI b) = _
    rw [PyData.eqvAll, eqvAll_ints a b]
    show ((x == y) && decide (a = b)) = decide (x :: a = y :: b)
    by_cases h : x = y
    · subst h
      simp
    · simp [h]
theorem eqv_ints (a b : List Int) : PyData.eqv (dL a) (dL b) = decide (a = b) := by
  rw [PyData.eqv]
  exact eqvAll_ints a b
end Fo
namespace Fo
open PySem PySem.Spec PyProof.Rows L2
/-! ### slices of ints -/
def cutI (ws : List Int) (lo hi : Option Int) : List Int := (ws.drop (HT.sIx ws.length 0 lo)).take (HT.sIx ws.length ws.length hi - HT.sIx ws.length 0 lo)
theorem cut_ints (ws : List Int) (lo hi : Option Int) : cutV (ws.map V.int) lo hi = (cutI ws lo hi).map V.int := by
  unfold cutV cutI
  rw [List.length_map, List.map_take, List.map_drop]
theorem cutI_mem {ws : List Int} {lo hi : Option Int} {x : Int} (h : x ∈ cutI ws lo hi) : x ∈ ws := List.mem_of_mem_drop (List.mem_of_mem_take h)
theorem cutI_len (ws : List Int) (lo hi : Option Int) : (cutI ws lo hi).length ≤ ws.length := by
  unfold cutI
  rw [List.length_take, List.length_drop]
  omega
theorem cutI_head (ws : List Int) (k : Nat) : cutI ws none (some (k : Int)) = ws.take k := by
  unfold cutI
  rw [HT.sIx_none, HT.sIx_nat, List.drop_zero, Nat.sub_zero]
  by_cases h : k ≤ ws.length
  · rw [Nat.min_eq_left h]
  · rw [Nat.min_eq_right (by omega), List.take_length, List.take_of_length_le (by omega)]
theorem cutI_tail (ws : List Int) (k : Nat) : cutI ws (some (k : Int)) none = ws.drop k := by
  unfold cutI
  rw [HT.sIx_none, HT.sIx_nat]
  by_cases h : k ≤ ws.length
  · rw [Nat.min_eq_left h, List.take_of_length_le (by rw [List.length_drop]; exact Nat.le_refl _)]
  · rw [Nat.min_eq_right (by omega), List.drop_of_length_le (Nat.le_refl _), List.drop_of_length_le (by omega), List.take_nil]
end Fo
namespace Fo
open PySem PySem.Spec PyProof.Rows L2
/-- a loop over enumerate of a list that stands still -/
theorem for_enumL {K : PySem.W.Frag} {a : Addr} {xs : List V} {g : TG} {tb : TS} {D : Ends} {σ : L2.St} {H : Hp} (Pv : Nat → L2.St → Hp → Prop) (h0 : Pv 0 σ H) (hq : ∀ i σ H, Pv i σ H → SqL K H a xs)
    (hs : ∀ (i : Nat) (x : V) (T : Addr) (σ : L2.St) (H : Hp), xs[i]? = some x → Pv i σ H → H T = none → g (.ref T) σ (upd H T (.tup [.int (i : Nat), x])) fun σ2 H2 => tb { D with nx := Pv (i + 1), ct := Pv (i + 1), bk := D.nx } σ2 H2) (hd : ∀ σ H, Pv xs.length σ H → D.nx σ H) :
    ∃ W : Nat → Nat → L2.St → Hp → Prop, (∃ m, W 0 m σ H) ∧ ∀ i m σ H, W i m σ H →
      ((Ite K a).stop i H ∧ D.nx σ H) ∨ ((Ite K a).go i H ∧ ∃ N : L2.St → Hp → Prop, (∀ σ' H', N σ' H' → ∃ m', m' < m ∧ W (i + 1) m' σ' H') ∧ ∀ v H', (Ite K a).yld i H v H' → g v σ H' fun σ2 H2 => tb { D with nx := N, ct := N, bk := D.nx } σ2 H2) := by
  refine ⟨fun i m σ H => m = xs.length - i ∧ i ≤ xs.length ∧ Pv i σ H, ⟨xs.length, rfl, Nat.zero_le _, h0⟩, ?_⟩
  rintro i m σ H ⟨rfl, hi, p⟩
  have qx := hq i σ H p
  by_cases hlt : i < xs.length
  · have hx : xs[i]? = some xs[i] := List.getElem?_eq_getElem hlt
    refine .inr ⟨⟨xs, _, qx, hx⟩, Pv (i + 1), fun σ' H' p' => ⟨xs.length - (i + 1), by omega, rfl, hlt, p'⟩, fun v H' y => ?_⟩
    obtain ⟨T, x', rfl, hT, rfl, f1⟩ := y
    exact hs i x' T σ H (f1 xs qx) p hT
  · have e : i = xs.length := by omega
    subst e
    exact .inl ⟨⟨xs, qx, Nat.le_refl _⟩, hd σ H p⟩
/-- a comprehension over enumerate of a list that stands still -/
theorem lc_enumL {K : PySem.W.Frag} {a : Addr} {xs : List V} {g : TG} {tt : TT} {te : TE} {vs : List Nat} {σ : L2.St} {H1 : Hp} {D : Addr} {Qd : Hp → Prop} (Pv : Nat → Hp → Prop) (h0 : Pv 0 (upd H1 D (.lst []))) (hl : ∀ i H, i ≤ xs.length → Pv i H → SqL K H a xs)
    (hs : ∀ (i : Nat) (x : V) (T : Addr) (H : Hp), xs[i]? = some x → Pv i H → H T = none → g (.ref T) (wipe σ vs) (upd H T (.tup [.int (i : Nat), x])) fun σ2 H2 => wipe σ2 vs = wipe σ vs ∧ tt σ2 H2 fun b H3 =>
      if b = true then te σ2 H3 fun y H4 => ∃ acc, H4 D = some (.lst acc) ∧ acc.length < sizeLine ∧ Pv (i + 1) (upd H4 D (.lst (acc ++ [y]))) else Pv (i + 1) H3) (hd : ∀ H, Pv xs.length H → Qd H) :
    ∃ W : Nat → Nat → Hp → Prop, (∃ m, W 0 m (upd H1 D (.lst []))) ∧ ∀ i m H, W i m H →
      ((Ite K a).stop i H ∧ Qd H) ∨ ((Ite K a).go i H ∧ ∃ Nx : Hp → Prop, (∀ H', Nx H' → ∃ m', m' < m ∧ W (i + 1) m' H') ∧ ∀ x H', (Ite K a).yld i H x H' → g x (wipe σ vs) H' fun σ2 H2 => wipe σ2 vs = wipe σ vs ∧ tt σ2 H2 fun b H3 =>
        if b = true then te σ2 H3 fun y H4 => ∃ acc, H4 D = some (.lst acc) ∧ acc.length < sizeLine ∧ Nx (upd H4 D (.lst (acc ++ [y]))) else Nx H3) := by
  refine ⟨fun i m H => m = xs.length - i ∧ i ≤ xs.length ∧ Pv i H, ⟨xs.length, by simp, Nat.zero_le _, h0⟩, ?_⟩
  rintro i m H ⟨rfl, hi, p⟩
  have q := hl i H hi p
  by_cases hlt : i < xs.length
  · refine .inr ⟨⟨xs, xs[i], q, by simp [hlt]⟩, Pv (i + 1), fun H' p' => ⟨xs.length - (i + 1), by omega, rfl, hlt, p'⟩, fun x H' y => ?_⟩
    obtain ⟨T, x', rfl, hT, rfl, f1⟩ := y
    exact hs i x' T H (f1 xs q) p hT
  · have e : i = xs.length := by omega
    subst e
    exact .inl ⟨⟨xs, q, Nat.le_refl _⟩, hd H p⟩
/-! ### the back of an order -/
def IsBack (ns ps : List Int) : Prop := ps.length = ns.length ∧ ∀ (j : Nat) (x : Int), ns[j]? = some x → ps[x.toNat]? = some (j : Int)
theorem ord_at {n : Nat} {ns : List Int} (o : IsOrd n ns) {t : Nat} (h : t < n) : ∃ j : Nat, j < n ∧ ns[j]? = some (t : Int) := by
  have m : (t : Int) ∈ ns := (List.Perm.mem_iff o).mpr (rg_mem.mpr ⟨by omega, by omega⟩)
  obtain ⟨j, hj⟩ := List.mem_iff_getElem?.mp m
  exact ⟨j, by have := (List.getElem?_eq_some_iff.mp hj).1; rw [o.len] at this; exact this, hj⟩
theorem ord_ix {n : Nat} {ns : List Int} (o : IsOrd n ns) {j : Nat} (h : j < n) : ∃ x : Int, ns[j]? = some x ∧ 0 ≤ x ∧ x < n := by
  have hj : j < ns.length := by rw [o.len]; exact h
  exact ⟨ns[j], List.getElem?_eq_getElem hj, o.mem (List.getElem_mem hj)⟩
theorem back_eq {n : Nat} {ns a b : List Int} (o : IsOrd n ns) (ha : IsBack ns a) (hb : IsBack ns b) : a = b := by
  apply List.ext_getElem?
  intro t
  by_cases h : t < n
  · obtain ⟨j, _, hj⟩ := ord_at o h
    have h1 := ha.2 j _ hj
    have h2 := hb.2 j _ hj
    rw [Int.toNat_natCast] at h1 h2
    rw [h1, h2]
  · rw [List.getElem?_eq_none (by rw [ha.1, o.len]; omega), List.getElem?_eq_none (by rw [hb.1, o.len]; omega)]
def behindL (ns ms : List Int) : List Int := ms.map fun p => ns.getD p.toNat 0
theorem behind_at {ns ms : List Int} {i : Nat} {p x : Int} (hp : ms[i]? = some p) (hx : ns[p.toNat]? = some x) : (behindL ns ms)[i]? = some x := by
  unfold behindL
  rw [List.getElem?_map, hp]
  show some (ns.getD p.toNat 0) = some x
  rw [List.getD_eq_getElem?_getD, hx]
  rfl
theorem behind_len (ns ms : List Int) : (behindL ns ms).length = ms.length := by
  unfold behindL
  rw [List.length_map]
theorem take_more {l : List Int} {i : Nat} {x : Int} (h : l[i]? = some x) : l.take (i + 1) = l.take i ++ [x] := by
  rw [List.take_add_one, h]
  rfl
theorem flat_ints : ∀ ns : List Int, (ns.map V.int).all flatV = true
  | [] => rfl
  | n :: r => by
    show (flatV (V.int n) && (r.map V.int).all flatV) = true
    rw [flat_ints r]
    rfl
theorem eqV_int (i j : Int) : eqV (.int i) (.int j) = (i == j) := rfl
end Fo
namespace Fo
open PySem PySem.Spec PyProof.Rows L2
/-! ### a slice with a step that is reckoned, 1 or -1 -/
theorem pick_one (items : Array Value) : slicePick items none none (some 1) = items := by
  have e : slicePick items none none (some 1) = slicePick items none none none := rfl
  rw [e, PySem.W.kmk_pick_nat (a := 0) (b := items.size) items rfl, List.drop_zero, Nat.sub_zero, ← Array.length_toList, List.take_length]
def tStepL (K : PySem.W.Frag) (te ts : TE) : TE := fun σ H Q => te σ H fun x H1 => ∃ a, x = .ref a ∧ tPart ts σ H1 fun o H2 => ∃ xs, SqL K H2 a xs ∧
  ((o = some 1 ∧ ∀ p, H2 p = none → Q (.ref p) (upd H2 p (.lst xs))) ∨ (o = some (-1) ∧ ∀ p, H2 p = none → Q (.ref p) (upd H2 p (.lst xs.reverse))))
theorem pe_stepL {X : Cx} {e st : Expr} {te ts : TE} {p3 pos : Pos} (he : PE X e te) (hst : PE X st ts)
    (hsub : ∀ u : Value, ∀ r : Addr, subscripted (.Slice none none (some st) p3) false u (.ref r) = operate [u, .ref r] (getItem u (.ref r)) := by intro _ _; with_unfolding_all rfl) : PE X (.Subscript e (.Slice none none (some st) p3) pos) (tStepL X.K te ts) := by
  refine ⟨fun pins s σ H Q I h => ?_⟩
  refine Subscript_ (thn (he.run pins s σ H _ I h) fun v s1 z1 => ?_)
  obtain ⟨x, H1, I1, r1, a, ex, q1⟩ := z1
  subst ex
  cases r1
  refine wpAny_Slice (thn (po_none.run pins s1 σ H1 (fun o H2 => o = none ∧ H2 = H1) I1 ⟨rfl, rfl⟩) fun vl s2 z2 => ?_)
  obtain ⟨l, H2, I2, pl, el, e2⟩ := z2
  subst el e2
  refine thn (po_none.run pins s2 σ H2 (fun o H3 => o = none ∧ H3 = H2) I2 ⟨rfl, rfl⟩) fun vu s3 z3 => ?_
  obtain ⟨u, H3, I3, pu, eu, e3⟩ := z3
  subst eu e3
  refine thn ((po_some hst).run pins s3 σ H3 _ I3 q1) fun vs s4 z4 => ?_
  obtain ⟨o, H4, I4, ps, xs, hx, q⟩ := z4
  have I5 : Inv X pins σ H4 { s4 with heap := s4.heap.push { cls := .type "slice", data := .fields #[vl, vu, vs] } } := I4.kept (t' := s4.toks) fun b ob w => Heap.get?_push_of_some _ w
  obtain ⟨its, r, ht, hz⟩ := I5.list hx
  have hlen := r.length
  show wpAny (model X.prog X.w) X.A (subscriptTail e (.Slice none none (some st) p3) (.ref a) (.ref s4.heap.objs.size)) (EP X pins σ Q) X.xe _
  refine tail_any (ops := [.ref a, .ref s4.heap.objs.size]) ht.isList.typeIs (PySem.slot_list_getitem.lookup) ?_ (hsub _ _)
  rcases q with ⟨eo, q⟩ | ⟨eo, q⟩
  · subst eo
    refine wpAny_getItem_list_slice ht.isList (Heap.IsSliceOf.new _ vl vu vs) pl pu ps (by decide) ?_ (by rw [List.size_toArray]; omega)
    rw [pick_one]
    refine ⟨.ref _, _, I5.laid (t' := s4.toks) (o := .lst xs) (fun b ob w => Heap.get?_push_of_some _ w) (Nat.le_refl _) ?_, rfl, q _ (I5.hok.fresh (Nat.le_refl _))⟩
    exact ⟨hz, _, 0, r, Heap.get?_push_size _ rfl⟩
  · subst eo
    refine wpAny_getItem_list_slice ht.isList (Heap.IsSliceOf.new _ vl vu vs) pl pu ps (by decide) ?_ (by rw [List.size_toArray]; omega)
    rw [PySem.W.krv_pick]
    refine ⟨.ref _, _, I5.laid (t' := s4.toks) (o := .lst xs.reverse) (fun b ob w => Heap.get?_push_of_some _ w) (Nat.le_refl _) ?_, rfl, q _ (I5.hok.fresh (Nat.le_refl _))⟩
    exact ⟨by rw [List.length_reverse]; exact hz, _, 0, r.reverse, Heap.get?_push_size _ rfl⟩
end Fo
namespace Fo
open PySem PySem.Spec PyProof.Rows L2
/-! ### the text -/
def topS (i : Nat) : Stmt := PySem.Challenge.pw_farorders_k27_no_ways_and_no_numbers_apa.main.body.getD i (.Pass ⟨0, 0, 0, 0⟩)
abbrev s_OrderError : Stmt := topS 1
abbrev s_NoOrder : Stmt := topS 2
abbrev s_NoWay : Stmt := topS 3
abbrev s_NoFit : Stmt := topS 4
abbrev s_NoPlace : Stmt := topS 5
abbrev s_NoNumber : Stmt := topS 6
abbrev s_TooMany : Stmt := topS 7
abbrev s_NoText : Stmt := topS 8
abbrev s_NoName : Stmt := topS 9
abbrev s_NoRow : Stmt := topS 10
abbrev s_is_whole : Stmt := topS 13
abbrev s_check_way : Stmt := topS 14
abbrev s_check_from : Stmt := topS 15
abbrev s_check_size : Stmt := topS 16
abbrev s_check_apart : Stmt := topS 17
abbrev s_is_order : Stmt := topS 21
abbrev s_is_order_list : Stmt := topS 22
abbrev s_places_in : Stmt := topS 23
abbrev s_seats_in : Stmt := topS 24
abbrev s_known_far : Stmt := topS 25
abbrev s_far_by_swap : Stmt := topS 26
abbrev s_far_by_spot : Stmt := topS 27
abbrev s_far_by_shift : Stmt := topS 28
abbrev s_all_orders : Stmt := topS 29
abbrev s_orders_with : Stmt := topS 30
abbrev s_lies_apart : Stmt := topS 34
abbrev s_are_far : Stmt := topS 35
abbrev s_is_far : Stmt := topS 36
abbrev s_longest_apart : Stmt := topS 37
abbrev s_longest_from : Stmt := topS 38
abbrev s_far_ones : Stmt := topS 39
abbrev s_first_apart : Stmt := topS 40
abbrev s_is_parting : Stmt := topS 41
abbrev s_are_near : Stmt := topS 42
abbrev s_is_near : Stmt := topS 43
abbrev s_first_parting : Stmt := topS 44
abbrev s_first_near : Stmt := topS 45
abbrev s_law_cell : Stmt := topS 47
abbrev s_law_store : Stmt := topS 48
abbrev s_law_take : Stmt := topS 49
abbrev s_law_kind : Stmt := topS 50
abbrev s_law_word : Stmt := topS 51
abbrev s_law_no_way : Stmt := topS 52
abbrev s_law_no_number : Stmt := topS 53
abbrev s_law_right : Stmt := topS 54
abbrev s_law : Stmt := topS 55
/-- a def of the text, where it stands -/
structure Df (K : PySem.W.Frag) (mg : Str → Option Value) (x : Str) (st : Stmt) (ps : List Str) (f : Addr) (fd : FuncData) : Prop where
  F : Fun K x x st f fd
  b : Binds K fd ps []
  g : mg x = some (.ref f)
/-- the built-in names as they were -/
structure Bi (mg : Str → Option Value) : Prop where
  ValueError : mg "ValueError" = none
  abs : mg "abs" = none
  all : mg "all" = none
  bool : mg "bool" = none
  enumerate : mg "enumerate" = none
  int : mg "int" = none
  isinstance : mg "isinstance" = none
  len : mg "len" = none
  list : mg "list" = none
  max : mg "max" = none
  min : mg "min" = none
  range : mg "range" = none
  repr : mg "repr" = none
  sorted : mg "sorted" = none
  str : mg "str" = none
end Fo
namespace Fo
open PySem PySem.Spec PyProof.Rows L2
theorem same_new {H : Hp} {p : Addr} {o : HO} (h : H p = none) : Same H (upd H p o) := fun b x e => by
  rw [upd_ne (ne_of_none e h)]
  exact e
theorem at2_0 {x y : V} : atI [x, y] 0 = some x := rfl
theorem at2_1 {x y : V} : atI [x, y] 1 = some y := rfl
end Fo
namespace Fo
open PySem PySem.Spec PyProof.Rows L2
theorem pop_perm : ∀ {xs : List Int} {k : Nat} {y : Int}, xs[k]? = some y → (y :: xs.eraseIdx k).Perm xs
  | [], k, y, h => by simp at h
  | a :: r, 0, y, h => by
    have e : a = y := Option.some.inj h
    subst e
    exact List.Perm.refl _
  | a :: r, k + 1, y, h => by
    have ih := pop_perm (xs := r) (k := k) (y := y) h
    show (y :: a :: r.eraseIdx k).Perm (a :: r)
    exact (List.Perm.swap a y _).trans (List.Perm.cons a ih)
theorem map_erase : ∀ (xs : List Int) (k : Nat), (xs.map V.int).eraseIdx k = (xs.eraseIdx k).map V.int
  | [], k => rfl
  | a :: r, 0 => rfl
  | a :: r, k + 1 => congrArg (V.int a :: ·) (map_erase r k)
/-- what len asks of a list or a tuple -/
abbrev rLenS (K : PySem.W.Frag) : List V → Hp → VK → Prop := fun xs H Q => ∃ p ys, xs = [.ref p] ∧ (SqL K H p ys ∨ SqT K H p ys) ∧ Q (.int ys.length) H
theorem seq_ix {i : Int} {k n : Nat} (e : i = (k : Int)) (h : k < n) : seqIndex? i n = some k := by
  subst e
  unfold seqIndex?
  have h1 : ¬ ((k : Int) < 0) := by omega
  simp only [h1, if_false]
  have h2 : (decide ((0 : Int) ≤ (k : Int)) && decide ((k : Int) < (n : Int))) = true := by
    simp
    omega
  rw [if_pos h2, Int.toNat_natCast]
theorem ix_n {i : Int} {k n : Nat} (e : i = (k : Int)) (h : k < n) : ixN n i = some k := by
  subst e
  unfold ixN
  rw [if_pos (by omega), if_pos (by omega), Int.toNat_natCast]
end Fo
namespace Fo
open PySem PySem.Spec PyProof.Rows L2
abbrev rMax2 : List V → Hp → VK → Prop := fun xs H Q => ∃ i j, xs = [.int i, .int j] ∧ Q (.int (if j > i then j else i)) H
abbrev rMin2 : List V → Hp → VK → Prop := fun xs H Q => ∃ i j, xs = [.int i, .int j] ∧ Q (.int (if j < i then j else i)) H
abbrev rInt1 : List V → Hp → VK → Prop := fun xs H Q => (∃ i, xs = [.int i] ∧ Q (.int i) H) ∨ ∃ k, xs = [.bl k] ∧ Q (.int (if k then 1 else 0)) H
theorem filter_more {l : List Int} {m : Nat} {x : Int} (p : Int → Bool) (h : l[m]? = some x) : (l.take (m + 1)).filter p = (l.take m).filter p ++ (if p x then [x] else []) := by
  rw [List.take_add_one, h, List.filter_append]
  show _ ++ List.filter p [x] = _
  rw [List.filter_cons]
  rfl
end Fo
namespace Fo
open PySem PySem.Spec PyProof.Rows L2
/-- what is tracked lies elsewhere than the table of modules -/
def SysAt (base : Heap) : Prop := ∃ o, base.get? sysModules = some o
/-! defs that ask repr: they want to know that no other repr is under way (A.guards) -/
structure FnG (P : Program) (w : World) (K : PySem.W.Frag) (mg : Str → Option Value) (base : Heap) (k : Nat) (f : Addr) (fd : FuncData) (ps : List Str) (sp : Sp) : Prop where
  len : ∀ vs H Q E, sp vs H Q E → vs.length = ps.length
  go : ∀ (A : Around) (outer : List Env) (s : Shared) (H : Hp) (args : Args) (us : List Value) (vs : List V) (Q : VK) (E : XK), A.guards = some [] → Room k A → Env0 P w K mg base A outer s H → BindsTo s fd args (ps.zip us) → Vals vs us → sp vs H Q E → codeAny (model P w) A (.call (.ref f) args) (CR CX0 outer P w H s Q E) s
section
variable {P : Program} {w : World} {K : PySem.W.Frag} {mg : Str → Option Value} {base : Heap}
/-- as Fun.ok -/
theorem okG {y qual : Str} {st : Stmt} {f : Addr} {fd : FuncData} {N ps : List Str} {k : Nat} {sp : Sp} (F : Fun K y qual st f fd) (S : FnScope N ps (defScope st)) (len : ∀ vs H Q E, sp vs H Q E → vs.length = ps.length)
    (body : ∀ (cdv : Value) (A : Around) (outer : List Env) (s : Shared) (H : Hp) (vs : List V) (Q : VK) (E : XK), A.guards = some [] → Room k (A.deeper (envOfC qual (defScope st) s.heap.objs.size f cdv)) → sp vs H Q E →
      ∃ t, PSs (cxOf CX0 P w K mg base N qual (defScope st) f cdv A outer s H E).nox (defBody st) t ∧ t { nx := fun _ H' => Q .non H', rt := Q } (start N vs) H) : FnG P w K mg base (k + 1) f fd ps sp := by
  obtain ⟨oc, od, kV, dc, pm, an, cdv, ct, osl, rfl, lk, hcd⟩ := F.ex
  refine ⟨len, fun A outer s H args us vs Q E gA rm ev bn rv h => ?_⟩
  have kin : K.In s.heap := ev.mod.kin.keeps fun b o e => (ev.bs b o e).1
  have nol : s.heap.NoLimit := ev.mod.nolimit.keeps fun b o e => (ev.bs b o e).1
  refine codeAny_call_function rm.depth (kin _ _ lk) rfl S.co S.gen rfl (PySem.W.codeRec_of kin hcd) (bn _ _ _ _ ?_)
  refine wpAny_newFunctionEnv_cells S.kind (fun yv hy => ?_) fun env he s1 inc => ?_
  · rcases S.par yv.1 (List.of_mem_zip hy).1 with z | z
    · exact .inl z
    · exact .inr ⟨z, PySem.W.cellsFrom_some _ _ _ (.inl z)⟩
  · subst he
    refine ⟨nol.keeps inc.toInCall.keep, codeAny_func ?_⟩
    obtain ⟨t, pt, qt⟩ := body cdv A outer s H vs Q E gA (rm.deeper _) h
    have J : Inv (cxOf CX0 P w K mg base N qual (defScope st) f cdv A outer s H E) [] (start N vs) H s1 := inv_start S rm.hd ev (len _ _ _ _ h) rv inc
    refine wpAny_mono (pt.nox.run [] s1 (start N vs) H _ J qt) (fun fl s' z => ?_) fun _ _ z => z
    cases fl with
    | brk => exact z.choose_spec.choose_spec.2.elim
    | cont => exact z.choose_spec.choose_spec.2.elim
    | next =>
      obtain ⟨σ', H', J', q⟩ := z
      exact ⟨V.non, H', J'.os, J'.bare, J'.base, J'.hok, rfl, q⟩
    | ret u =>
      obtain ⟨v, σ', H', J', r', q⟩ := z
      exact ⟨v, H', J'.os, J'.bare, J'.base, J'.hok, r', q⟩
end
section
variable {X : Cx}
/-- the call of such a def -/
theorem pe_callG {k : Nat} {f : Addr} {fd : FuncData} {ps : List Str} {sp : Sp} {y : Str} {p pos : Pos} {e : Expr} {es : List Expr} {t : TA} (F : FnG X.prog X.w X.K X.mg X.base k f fd ps sp) (gA : X.A.guards = some []) (hr : Room k X.A) (hg : Gl X y) (hm : X.mg y = some (.ref f)) (hk : PySem.W.keepIn X.K (.ref f) = true) (hb : Binds X.K fd ps [])
    (ha : PA X (e :: es) t) (hdb : (y == ("__debug__" : Str)) = false := by decide) (he : starEach (e :: es) X.env = (false, eval e X.env) :: starEach es X.env := by rfl) (hpl : (backTo pos (starEach es X.env)).any (·.1) = false := by rfl) :
    PE X (.Call (.Name y p) (e :: es) [] pos) (tCall sp [] E0 t) := by
  refine ⟨fun pins s σ H Q I h => wpAny_Call_Name_kw (ld_glob I hg hm (PySem.W.callWith_K (h₀ := X.base) I.ok.mod.kin hk (thn (ha.run pos pins s σ H _ I h) fun us s1 ⟨vs, H1, I1, r, q⟩ => ⟨I1.kIn, ?_⟩) he hpl) hdb)⟩
  have r2 : Vals (vs ++ []) (us ++ []) := r.append .nil
  have hl : (us ++ []).length = ps.length := by rw [← r2.length]; exact F.len _ _ _ _ q
  refine wpAny_call (codeAny_mono (F.go X.A X.stack s1 H1 ⟨us, []⟩ (us ++ []) (vs ++ []) Q E0 gA hr I1.env0 (hb s1 us I1.kIn hl) r2 q) fun rs s' hq => ?_)
  match rs, hq with
  | .error _, hq => exact hq.elim
  | .ok (.ret u), hq => exact I1.after hq
  | .ok .next, hq => exact False.elim hq
  | .ok .brk, hq => exact False.elim hq
  | .ok .cont, hq => exact False.elim hq
end
/-! the end of such a law -/
section
variable {P : Program} {w : World} {K : PySem.W.Frag} {mg mb : Str → Option Value} {k : Nat} {fa a : Addr} {fd : FuncData} {y : Str} {sp : Sp} {s : Shared} {us : List Value} {ns : List Int}
theorem lawG_at (kin : K.In s.heap) (ng : s.heap.Ns mainGlobals mg) (nb : s.heap.Ns builtinsNs mb) (eb : ∀ x : Str, x ≠ "__name__" → mb x = bootBuiltins x) (lim : s.heap.NoLimit) (eg : s.gens = #[]) (oa : s.heap.get? a = some { cls := .type "list", data := .seq us.toArray }) (rm : Room k callerA)
    (sy : ∃ m, s.heap.Ns sysModules m) (F : ∀ base : Heap, K.In base → base.Ns mainGlobals mg → SysAt base → FnG P w K mg base k fa fd [y] sp) (bn : ∀ (s : Shared) (u : Value), BindsTo s fd ⟨[u], []⟩ [(y, u)]) {H : Hp} (only : Only H) (hok : HOk P w H s.heap) (h1 : ∀ b, H b ≠ none → b = a) (h2 : H a ≠ none → K.lookup a = none) (h : sp [.ref a] H (fun v _ => v = .bl true) fun _ _ _ => False) :
    codeAny (model P w) callerA (.call (.ref fa) ⟨[.ref a], []⟩) (fun r s' => r = .ok (.ret (.bool true)) ∧ OldK s.heap s'.heap ∧ s'.os = s.os ∧ AllBare s'.gens) s := by
  have trk : ∀ {b : Addr} {u : HO}, H b = some u → b = a := fun {b u} e => h1 b (by rw [e]; exact fun z => nomatch z)
  have noD : ∀ {b : Addr} {o : Obj} {es : Array DictEntry} {ep : Nat}, s.heap.get? b = some o → o.data = .dict es ep → H b = none := fun {b o es ep} e dd => by
    cases q : H b with
    | none => rfl
    | some u =>
      have eq := trk q
      rw [eq, oa] at e
      cases e
      cases (show Data.seq us.toArray _ = Data.dict es ep from dd)
  have nsB : ∀ {b : Addr} {m : Str → Option Value}, s.heap.Ns b m → (hidT s.heap H).Ns b m := fun {b m} ⟨o, es, ep, e, dd, r⟩ => ⟨o, es, ep, hidT_get e (noD e dd), dd, r⟩
  have kinB : K.In (hidT s.heap H) := fun b o e => hidT_get (kin b o e) (by
    cases q : H b with
    | none => rfl
    | some u =>
      have eq := trk q
      rw [eq] at e q
      rw [h2 (by rw [q]; exact fun z => nomatch z)] at e
      cases e)
  have md : Mod K mg (hidT s.heap H) := ⟨kinB, nsB ng, ⟨mb, nsB nb, eb⟩, let ⟨mc, l1, l2⟩ := lim; ⟨mc, nsB l1, l2⟩⟩
  have noF : ∀ b : Addr, b ∉ ([] : List Addr) := fun b z => nomatch z
  have ev : Env0 P w K mg (hidT s.heap H) callerA [] s H := ⟨rfl, md, fun b o e => of_hidT e, Nat.le_of_eq (hidT_size _ _), trivial, fun b z => absurd (show b ∈ ([] : List Addr) from z) (noF b), hok, .of_eq eg⟩
  have sB : SysAt (hidT s.heap H) := by
    obtain ⟨m, z⟩ := sy
    obtain ⟨o, _, _, e, _⟩ := nsB z
    exact ⟨o, e⟩
  refine codeAny_mono ((F _ kinB (nsB ng) sB).go callerA [] s H ⟨[.ref a], []⟩ [.ref a] [.ref a] _ _ rfl rm ev (bn s (.ref a)) (.cons rfl .nil) h) fun rs s' z => ?_
  match rs, z with
  | .error _, z => exact z.elim
  | .ok .next, z => exact False.elim z
  | .ok .brk, z => exact False.elim z
  | .ok .cont, z => exact False.elim z
  | .ok (.ret u), z =>
    obtain ⟨v, H', os, ba, un, hok', rv, q⟩ := z
    obtain rfl : v = .bl true := q
    obtain rfl : u = Value.bool true := rv
    refine ⟨rfl, OldK.of_keep fun b o e => ?_, os, ba⟩
    rcases only b with z | ⟨ob, xs, z⟩
    · exact un.keep b o e z (fun y => absurd (show b ∈ ([] : List Addr) from y) (noF b)) (noF b)
    · obtain ⟨g1, _⟩ := hok b _ z
      obtain ⟨g2, _⟩ := hok' b _ (un.frzs b ob _ z)
      rw [e] at g1
      cases g1
      exact g2
theorem lawG (kin : K.In s.heap) (ng : s.heap.Ns mainGlobals mg) (nb : s.heap.Ns builtinsNs mb) (eb : ∀ x : Str, x ≠ "__name__" → mb x = bootBuiltins x) (lim : s.heap.NoLimit) (eg : s.gens = #[]) (oa : s.heap.get? a = some { cls := .type "list", data := .seq us.toArray }) (hi : IntsAre us ns) (hl : ns.length ≤ sizeLine) (rm : Room k callerA)
    (sy : ∃ m, s.heap.Ns sysModules m) (F : ∀ base : Heap, K.In base → base.Ns mainGlobals mg → SysAt base → FnG P w K mg base k fa fd [y] sp) (bn : ∀ (s : Shared) (u : Value), BindsTo s fd ⟨[u], []⟩ [(y, u)]) (hsp : ∀ H : Hp, Only H → SqL K H a (ns.map V.int) → sp [.ref a] H (fun v _ => v = .bl true) fun _ _ _ => False) :
    codeAny (model P w) callerA (.call (.ref fa) ⟨[.ref a], []⟩) (fun r s' => r = .ok (.ret (.bool true)) ∧ OldK s.heap s'.heap ∧ s'.os = s.os ∧ AllBare s'.gens) s := by
  have rv := vals_ints hi
  have el := hi.length
  cases hk : K.lookup a with
  | some o =>
    have e := kin a o hk
    rw [oa] at e
    cases e
    have o0 : Only (fun _ => none) := fun _ => .inl rfl
    exact lawG_at kin ng nb eb lim eg oa rm sy F bn o0 (fun b u z => absurd (show (none : Option HO) = some u from z) (fun y => nomatch y)) (fun b z => absurd rfl z) (fun z => absurd rfl z) (hsp _ o0 (.inr ⟨_, us.toArray, _, hk, rfl, rfl, rfl, by rw [List.size_toArray, el]; exact hl, by simpa using rv⟩))
  | none =>
    obtain ⟨ob, eo⟩ : ∃ ob : Obj, ob = { cls := .type "list", data := .seq us.toArray } := ⟨_, rfl⟩
    obtain ⟨H, eH⟩ : ∃ H : Hp, H = fun b => if b = a then some (.frz ob (.lst (ns.map V.int))) else none := ⟨_, rfl⟩
    have ha : H a = some (.frz ob (.lst (ns.map V.int))) := by rw [eH]; exact if_pos rfl
    have hb : ∀ b, b ≠ a → H b = none := fun b z => by rw [eH]; exact if_neg z
    have on : Only H := fun b => by
      by_cases z : b = a
      · rw [z]
        exact .inr ⟨_, _, ha⟩
      · exact .inl (hb b z)
    refine lawG_at kin ng nb eb lim eg oa rm sy F bn on (fun b u z => ?_) (fun b z => ?_) (fun _ => hk) (hsp H on (.inl (.inr ⟨ob, ha⟩)))
    · by_cases y : b = a
      · subst y
        rw [ha] at z
        cases z
        rw [eo]
        exact ⟨oa, by rw [List.length_map]; exact hl, us, _, rv, oa⟩
      · rw [hb b y] at z
        cases z
    · by_cases y : b = a
      · exact y
      · exact absurd (hb b y) z
end
theorem walkG {l : PySem.W.OpenLaw} {n k : Nat} {q : Program} {loose : List Str} {XP : (Str → Option Value) → Heap → Prop} {YP : World → Heap → Prop} {d : DefRec} {K : Params → PySem.W.Frag} {sp : World → Sp} {y : Str} (hn : l.most = some n) (hn2 : n ≤ sizeLine) (hdf : d.params.defaults = []) (rm : Room k callerA) (hY : ∀ (w : World) (h : Heap), YP w h → (K w.params).In h) (him : importsNone q = true)
    (F : ∀ (w : World) (mg : Str → Option Value) (fa : Addr) (h : Heap), (K w.params).In h → h.Ns mainGlobals mg → mg d.name = some (.ref fa) → ∃ fd : FuncData, (∀ (s : Shared) (u : Value), BindsTo s fd ⟨[u], []⟩ [(y, u)]) ∧ ∀ base : Heap, (K w.params).In base → base.Ns mainGlobals mg → SysAt base → FnG l.prog w (K w.params) mg base k fa fd [y] (sp w))
    (hsp : ∀ (w : World) (H : Hp) (a : Addr) (ns : List Int), ns.length ≤ n → Only H → SqL (K w.params) H a (ns.map V.int) → sp w [.ref a] H (fun v _ => v = .bl true) fun _ _ _ => False) : PySem.W.WalkO q loose XP YP l.row.toRowW d [] (fun f vs => PySem.call f vs) := by
  refine Att.attach_call hn hdf fun w sA sB mg mb fa o1 pm cd dc ad us ns G Y ho hd hcd hmg hob hin hle hge => ?_
  have KX := hY w _ Y
  obtain ⟨fd, hb, hF⟩ := F w mg fa _ KX G.T.g hmg
  obtain ⟨mm, sy, _⟩ := (G.T.seer him).mods
  exact lawG KX G.T.g G.T.b G.T.builtins G.T.nolimit hge hob hin (Nat.le_trans hle hn2) rm ⟨mm, sy⟩ hF hb fun H hH hS => hsp w H ad ns hle hH hS
end Fo
namespace Fo
open PySem PySem.Spec PyProof.Rows L2
/-! an error that was caught is known behind the try, too -/
def ExV (cls : Value) (d : Option Addr) (a : Addr) : HO := .ext fun h => ∃ oe : Obj, h.get? a = some oe ∧ Zc cls d oe ∧ ∃ vs, oe.data = .fields vs
theorem exV_ok {P : Program} {w : World} {H : Hp} {h : Heap} {a : Addr} {cls : Value} {d : Option Addr} {oe : Obj} (e : h.get? a = some oe) (z : Zc cls d oe) (f : ∃ vs, oe.data = .fields vs) : ObjOk P w H h a (ExV cls d a) :=
  ⟨⟨oe, e, z, f⟩, ⟨oe, e⟩, fun _ _ ⟨o, q, r⟩ k => ⟨o, k o q, r⟩⟩
theorem inv_track {X : Cx} {pins : List (Addr × Obj)} {σ : L2.St} {H : Hp} {s : Shared} {a : Addr} {o : HO} (I : Inv X pins σ H s) (na : H a = none) (n0 : X.s_0.heap.get? a = none) (nL : a ≠ X.env.locals) (nC : ∀ x c, X.env.cells.lookup x = some c → c ≠ a) (nP : ∀ p ∈ X.pn ++ pins, p.1 ≠ a) (new : ObjOk X.prog X.w (upd H a o) s.heap a o) :
    Inv X pins σ (upd H a o) s := by
  have n1 : ∀ b u, X.s_0.heap.get? b = some u → b ≠ a := fun b u e z => by rw [z, n0] at e; cases e
  refine ⟨I.ok, I.os, I.bare, ⟨I.base.keep, I.base.slot, fun b u e n hq => ?_, I.base.there, fun b xs e => ?_, fun b u xs e => ?_, fun b ps e => ?_⟩, I.loc, I.cell, ?_, fun x c e => ?_, fun p hp => ?_, I.hok.laidN (fun _ _ e => e) na new, I.len⟩
  · rw [upd_ne (n1 b u e)]
    exact I.base.free b u e n hq
  · have q := I.base.tups b xs e
    rw [upd_ne (ne_of_none q na)]
    exact q
  · have q := I.base.frzs b u xs e
    rw [upd_ne (ne_of_none q na)]
    exact q
  · obtain ⟨m, q⟩ := I.base.tbls b ps e
    exact ⟨m, by rw [upd_ne (ne_of_none q na)]; exact q⟩
  · rw [upd_ne (Ne.symm nL)]
    exact I.free
  · rw [upd_ne (nC x c e)]
    exact I.freeC x c e
  · obtain ⟨e, n, ne, nf, d⟩ := I.pin p hp
    exact ⟨e, by rw [upd_ne (nP p hp)]; exact n, ne, nf, d⟩
/-- what an «except x as n» wishes, the error known behind it -/
def wAsK (K : PySem.W.Frag) (c : Value) (i : Nat) (ts : Addr → Value → Option Addr → TS) (Wout : WX) (D : Ends) : WX := fun cls d σ H =>
  ∃ b, PySem.W.exmOne K cls c = some b ∧ (b = true → ∀ a, H a = none → ts a cls d ⟨fun σ' H' => D.nx (σ'.set i none) (upd H' a (ExV cls d a)), fun v H' => D.rt v (upd H' a (ExV cls d a)), fun σ' H' => D.bk (σ'.set i none) (upd H' a (ExV cls d a)), fun σ' H' => D.ct (σ'.set i none) (upd H' a (ExV cls d a))⟩ (σ.set i (some (.ref a))) H) ∧ (b = false → Wout cls d σ H)
section
variable {X : Cx} {x n : Str} {c : Value} {i : Nat} {body suite : List Stmt} {b₀ : Stmt} {np pos pos' : Pos} {tb : WX → TS} {ts : Addr → Value → Option Addr → TS} {Wout : WX}
theorem ps_try_k (hs : X.stack = X.env :: X.outer) (hf : X.env.frame = some X.env.locals) (hex : X.ex = []) (hN : X.N.Nodup) (hi : X.N[i]? = some n) (hln : X.env.kindOf n = some .local) (hc : Names X x c) (tk : Takes X Wout)
    (hb : ∀ (W : WX) (pn : List (Addr × Obj)) (xe : Value → Shared → Prop), Takes (X.tr pn xe) W → PassesOwn (model X.prog X.w) X.A X.env xe → PSs (X.tr pn xe) body (tb W)) (hsu : ∀ (a : Addr) (oe : Obj) (cls : Value) (d : Option Addr) (pn : List (Addr × Obj)), Zc cls d oe → (∃ vs, oe.data = .fields vs) → PSs (X.suite a ((a, oe) :: pn)) (b₀ :: suite) (ts a cls d)) : PS X (.Try body [.ExceptHandler (some (.Name x np)) (some n) (b₀ :: suite) pos'] [] [] pos) (fun D σ H => tb (wAsK X.K c i ts Wout D) D σ H) := by
  refine ⟨fun pins s σ H D I hw => ?_⟩
  have okX := I.ok
  have frX : X.A.frames = some (X.env :: X.outer) := by rw [okX.frames, hs]
  have lcN : Loc X.env.scope n := .inl hln
  refine wpAny_Try_except (wpAny_mono ((hb (wAsK X.K c i ts Wout D) (X.pn ++ pins) (fun e s₁ => wpAny (model X.prog X.w) X.A (noteFrame e X.env) (fun _ s₂ => wpAny (model X.prog X.w) X.A (setFlight e none) (fun _ s₃ => wpAny (model X.prog X.w) X.A (handleBy e X.env [.ExceptHandler (some (.Name x np)) (some n) (b₀ :: suite) pos']) (SP X pins D) X.xe s₃) X.xe s₂) X.xe s₁) (fun u s' xx => ?_) PassesOwn.looking).run [] s σ H D (I.toTry _) hw) (fun fl s1 hsp => ?_) (fun _ _ he => he))
  · obtain ⟨a, Bg, sI, pins', σ', H', cls, d, rfl, J', nb, up, sky, na, os, ag, b, hb1, hyes, hno⟩ := xx
    have Ja : Inv X pins σ' H' sI := J'.ofTry okX
    have skyE : Sky Bg (X.env :: X.outer) a (Zc cls d) X.env.locals s'.heap := by rw [← hs]; exact sky
    show wpAny (model X.prog X.w) X.A (noteFrame (.ref a) X.env) _ _ _
    refine Sky.land Zc.steady frX hf skyE fun h3 fl3 up3 => ?_
    have Jb : Inv X pins σ' H' { s' with heap := h3 } := Ja.landed nb fl3.1 (up.trans up3) os ag
    obtain ⟨oe3, vs3, he3, hz3, hd3⟩ := fl3.there
    have nfr : a ∉ frs (X.env :: X.outer) := fun hm => by
      obtain ⟨_, o', e', hnf⟩ := fl3.2.2.1.mem hm
      rw [he3] at e'
      cases e'
      exact hnf _ hd3
    have nL : a ≠ X.env.locals := fun z => nfr (List.mem_filterMap.mpr ⟨X.env, List.mem_cons_self, by rw [hf, z]⟩)
    have nF : a ∉ X.fs := fun hm => by
      obtain ⟨e, hem, q⟩ := List.mem_filterMap.mp hm
      exact nfr (List.mem_filterMap.mpr ⟨e, List.mem_cons_of_mem _ hem, q⟩)
    have nB : Bg.get? a = none := fl3.2.1
    have n0 : X.s_0.heap.get? a = none := by
      cases e : X.s_0.heap.get? a with
      | none => rfl
      | some o =>
        obtain ⟨o', q⟩ := Ja.base.there a o e (by rw [hex]; exact fun z => nomatch z)
        have z := nb a o' q (by rw [hs]; exact nfr)
        rw [nB] at z
        cases z
    have nP : ∀ p ∈ X.pn ++ pins, p.1 ≠ a := fun p hp z => by
      obtain ⟨e, _, ne, nf, _⟩ := Ja.pin p hp
      have q := nb p.1 p.2 e (fun hm => by
        rcases List.mem_cons.mp (Ja.stkSub p.1 hm) with y | y
        · exact ne y
        · exact nf y)
      rw [z, nB] at q
      cases q
    have Sb := Jb.suite he3 hd3 na nL nF
    refine wpAny_handleBy_cons (codeAny_handlers_test ?_) (by intro q; cases q)
    have tyA : PySem.W.Looks (model X.prog X.w) h3 (typeOf (.ref a)) cls := fun A Q E s k q => wpAny_typeOf_ref (k _ _ he3) (by rw [hz3.1]; exact q)
    have exA := PySem.W.exm_one (M := model X.prog X.w) (Jb.kIn) tyA hb1
    have nameA : ∀ {Q : Value → Shared → Prop} {E : Value → Shared → Prop}, Q c { s' with heap := h3 } → wpAny (model X.prog X.w) (X.A.mark (some (.ref a))) (eval (.Name x np) X.env) Q E { s' with heap := h3 } := fun {Q E} q => by
      rcases hc with ⟨hg, hdbg, hm | ⟨hm, hv, hnn⟩⟩
      · exact ld_glob (X := X.suite a ((a, oe3) :: (X.pn ++ pins))) Sb hg hm q hdbg
      · exact ld_blt (X := X.suite a ((a, oe3) :: (X.pn ++ pins))) Sb hg hm hv q hnn hdbg
    refine nameA (exA.here ?_)
    cases b with
    | false =>
      show wpAny _ X.A (handleBy (.ref a) X.env []) _ _ _
      refine wpAny_handleBy_nil ?_
      obtain ⟨k1, k2, k3, oe, vs, T, oT, ts', he, hz, hd, h1, hr⟩ := id fl3
      unfold PySem.passOn
      refine wpAny_bind (wpAny_field he hd h1 ?_)
      rw [if_neg (show ¬ ((Value.ref T == Value.none) = true) from by simp)]
      have out : wpAny (model X.prog X.w) X.A (setFlight (.ref a) X.env.frame) (fun _ s4 => wpAny (model X.prog X.w) X.A (throw (.ref a) : Sem Flow) (SP X pins D) X.xe s4) X.xe { s' with heap := h3 } := by
        rw [hf]
        exact HandSPX.setFlight_upZ fl3 fun h4 hh4 up4 => wpAny_throw (tk _ _ ⟨a, Bg, sI, pins, σ', H', cls, d, rfl, Ja, nb, (up.trans up3).trans up4, .inr (.inr (by rw [hs]; exact hh4)), na, os, ag, hno rfl⟩)
      first
        | exact wpAny_bind (wpAny_pure (wpAny_bind out))
        | exact wpAny_bind out
    | true =>
      refine codeAny_handlers_suite_as (HandSPX.lands_againZ fl3 fun h4 fl4 up4 => ?_)
      have Jc : Inv X pins σ' H' { s' with heap := h4 } := Ja.landed nb fl4.1 ((up.trans up3).trans up4) os ag
      obtain ⟨oe4, vs4, he4, hz4, hd4⟩ := fl4.there
      have Sc := Jc.suite he4 hd4 na nL nF
      refine store_ok (X := X.suite a ((a, oe4) :: (X.pn ++ pins))) (v := .ref a) Sc hN hi lcN rfl (fun s5 S5 => ?_) (.inr hln)
      refine wpAny_mono ((hsu a oe4 cls d (X.pn ++ pins) hz4 ⟨_, hd4⟩).run [] s5 _ H' _ S5 (hyes rfl a na)) (fun fl s6 hsp => ?_) (fun _ _ z => False.elim z)
      have fin : ∀ {σ6 : L2.St} {H6 : Hp} {Q : Shared → Prop}, Inv (X.suite a ((a, oe4) :: (X.pn ++ pins))) [] σ6 H6 s6 → (∀ s7, Inv X pins (σ6.set i none) (upd H6 a (ExV cls d a)) s7 → Q s7) → wpAny (model X.prog X.w) X.A (do bindName X.env n .none; unbindBehindTheSuite X.env n pos') (fun _ s7 => Q s7) X.xe s6 := fun {σ6 H6 Q} S6 hq =>
        gone_ok (X := X.suite a ((a, oe4) :: (X.pn ++ pins))) S6 hN hi hln fun s7 S7 => by
          obtain ⟨g7, n7, _, _, _⟩ := S7.pin (a, oe4) (List.mem_append.mpr (.inl List.mem_cons_self))
          have U7 : Inv X pins (σ6.set i none) H6 s7 := S7.unsuite okX
          refine hq s7 (inv_track U7 n7 n0 nL (fun y cc e z => ?_) nP (exV_ok g7 hz4 ⟨_, hd4⟩))
          obtain ⟨v, o, ho, hdo⟩ := U7.cell y cc e
          rw [z, show s7.heap.get? a = some oe4 from g7] at ho
          cases ho
          rw [hd4] at hdo
          cases hdo
      cases fl with
      | next => obtain ⟨σ6, H6, S6, q6⟩ := hsp; exact fin S6 fun s7 J7 => ⟨_, _, J7, q6⟩
      | brk => obtain ⟨σ6, H6, S6, q6⟩ := hsp; exact fin S6 fun s7 J7 => ⟨_, _, J7, q6⟩
      | cont => obtain ⟨σ6, H6, S6, q6⟩ := hsp; exact fin S6 fun s7 J7 => ⟨_, _, J7, q6⟩
      | ret u => obtain ⟨v6, σ6, H6, S6, r6, q6⟩ := hsp; exact fin S6 fun s7 J7 => ⟨_, _, _, J7, r6, q6⟩
  · cases fl with
    | next => obtain ⟨σ', H', J', q⟩ := hsp; exact wpAny_execs_nil ⟨σ', H', J'.ofTry okX, q⟩
    | brk => obtain ⟨σ', H', J', q⟩ := hsp; exact ⟨σ', H', J'.ofTry okX, q⟩
    | cont => obtain ⟨σ', H', J', q⟩ := hsp; exact ⟨σ', H', J'.ofTry okX, q⟩
    | ret u => obtain ⟨v, σ', H', J', r, q⟩ := hsp; exact ⟨v, σ', H', J'.ofTry okX, r, q⟩
end
/-! isinstance of such an error -/
theorem inst_of {X : Cx} {pins : List (Addr × Obj)} {σ : L2.St} {H : Hp} {s : Shared} {a C : Addr} (I : Inv X pins σ H s) (h : H a = some (ExV (.ref C) none a)) : ∃ oe, PySem.W.InstAt s.heap a oe C none := by
  obtain ⟨⟨oe, g, ⟨h1, h2⟩, vs, hv⟩, _, _⟩ := I.hok a _ h
  obtain ⟨oc, od, oda, osl⟩ := oe
  dsimp only at h1 h2 hv
  subst h1 h2 hv
  exact ⟨_, g, rfl, rfl, trivial⟩
/-- types, errors among them -/
inductive TyZ (K : PySem.W.Frag) (H : Hp) : V → Value → Prop where
  | x {v : V} {t : Value} (h : TyX K H v t) : TyZ K H v t
  | exc {a C : Addr} (h : H a = some (ExV (.ref C) none a)) (c : ExcC K C) : TyZ K H (.ref a) (.ref C)
theorem kitz_of {X : Cx} {pins : List (Addr × Obj)} {σ : L2.St} {H : Hp} {s : Shared} {v : V} {u t : Value} (I : Inv X pins σ H s) (rv : RelV v u) (ty : TyZ X.K H v t) : ∃ Pz : Heap → Prop, PySem.W.KitX X.K u t Pz ∧ Pz s.heap ∧ u ≠ .builtin "__main__.__loader__#opaque" := by
  cases ty with
  | x h => exact kit_of I rv h
  | @exc a C h c =>
    cases (show u = Value.ref a from rv)
    obtain ⟨oe, J⟩ := inst_of I h
    exact ⟨_, PySem.W.handS_kitx_exc c.hg c.hk c.hs c.hd c.ha c.hn c.ht c.hm, J, fun z => nomatch z⟩
def rIsZ (K : PySem.W.Frag) : List V → Hp → VK → Prop := fun xs H Q => ∃ (v c : V) (t u : Value) (b : Bool), xs = [v, c] ∧ ClsV c u ∧ TyZ K H v t ∧ PySem.W.kitOne K t u = some b ∧ Q (.bl b) H
def rIsZT (K : PySem.W.Frag) : List V → Hp → VK → Prop := fun xs H Q => ∃ (v : V) (tp : Addr) (cs : List V) (t : Value) (us : List Value) (b : Bool), xs = [v, .ref tp] ∧ H tp = some (.tup cs) ∧ Paired ClsV cs us ∧ TyZ K H v t ∧ PySem.W.kitAny K t us = some b ∧ Q (.bl b) H
theorem call_isZ {X : Cx} : CallR X (.builtin "isinstance") (rIsZ X.K) := by
  intro pins s σ H xs us Q I r h
  obtain ⟨v, c, t, u, b, rfl, k, ty, e, q⟩ := h
  obtain ⟨w1, w2, rfl, r1, r2⟩ := vals2 r
  obtain rfl := k.eq r2
  obtain ⟨Pz, Z, p, hx⟩ := kitz_of I r1 ty
  exact PySem.W.kia_one Z I.kIn p e hx fun tk => ⟨.bl b, H, I.tok tk, rfl, q⟩
theorem call_isZT {X : Cx} : CallR X (.builtin "isinstance") (rIsZT X.K) := by
  intro pins s σ H xs us Q I r h
  obtain ⟨v, tp, cs, t, ws, b, rfl, hT, k, ty, e, q⟩ := h
  obtain ⟨w1, w2, rfl, r1, r2⟩ := vals2 r
  cases (show w2 = Value.ref tp from r2)
  obtain ⟨Pz, Z, p, hx⟩ := kitz_of I r1 ty
  obtain ⟨_, its, rv, ob, h1, h2, n, h3⟩ := (show ObjOk X.prog X.w H s.heap tp (.tup cs) from I.hok tp _ hT)
  obtain rfl := ClsV.all k rv
  obtain ⟨oc, od, dt, sl⟩ := ob
  simp only at h2 h3
  subst h2 h3
  exact PySem.W.kia_tup Z I.kIn p h1 e hx fun tk => ⟨.bl b, H, I.tok tk, rfl, q⟩
end Fo
namespace Fo
open PySem PySem.Spec PyProof.Rows L2
/-! isinstance of the error that the suite holds, whatever class it has -/
def rIsP (K : PySem.W.Frag) (a : Addr) (cls : Value) (d : Option Addr) : List V → Hp → VK → Prop := fun xs H Q => ∃ (C : Addr) (c : V) (u : Value) (b : Bool), cls = .ref C ∧ d = none ∧ ExcC K C ∧ xs = [.ref a, c] ∧ ClsV c u ∧ PySem.W.kitOne K (.ref C) u = some b ∧ Q (.bl b) H
def rIsPT (K : PySem.W.Frag) (a : Addr) (cls : Value) (d : Option Addr) : List V → Hp → VK → Prop := fun xs H Q => ∃ (C : Addr) (tp : Addr) (cs : List V) (us : List Value) (b : Bool), cls = .ref C ∧ d = none ∧ ExcC K C ∧ xs = [.ref a, .ref tp] ∧ H tp = some (.tup cs) ∧ Paired ClsV cs us ∧ PySem.W.kitAny K (.ref C) us = some b ∧ Q (.bl b) H
theorem inst_pin {X : Cx} {pins pn : List (Addr × Obj)} {σ : L2.St} {H : Hp} {s : Shared} {a C : Addr} {oe : Obj} (I : Inv (X.suite a ((a, oe) :: pn)) pins σ H s) (hz : Zc (.ref C) none oe) (hf : ∃ vs, oe.data = .fields vs) : PySem.W.InstAt s.heap a oe C none := by
  obtain ⟨hget, _⟩ := I.pin (a, oe) (List.mem_append.mpr (.inl List.mem_cons_self))
  obtain ⟨vs, hv⟩ := hf
  obtain ⟨oc, od, oda, osl⟩ := oe
  obtain ⟨h1, h2⟩ := hz
  dsimp only at h1 h2 hv
  subst h1 h2 hv
  exact ⟨hget, rfl, rfl, trivial⟩
theorem call_isP {X : Cx} {a : Addr} {cls : Value} {d : Option Addr} {oe : Obj} {pn : List (Addr × Obj)} (hz : Zc cls d oe) (hf : ∃ vs, oe.data = .fields vs) : CallR (X.suite a ((a, oe) :: pn)) (.builtin "isinstance") (rIsP X.K a cls d) := by
  intro pins s σ H xs us Q I r h
  obtain ⟨C, c, u, b, rfl, rfl, ec, rfl, k, e, q⟩ := h
  obtain ⟨w1, w2, rfl, r1, r2⟩ := vals2 r
  obtain rfl := k.eq r2
  cases (show w1 = Value.ref a from r1)
  exact PySem.W.kia_one (PySem.W.handS_kitx_exc ec.hg ec.hk ec.hs ec.hd ec.ha ec.hn ec.ht ec.hm) I.kIn (inst_pin I hz hf) e (fun z => nomatch z) fun tk => ⟨.bl b, H, I.tok tk, rfl, q⟩
theorem call_isPT {X : Cx} {a : Addr} {cls : Value} {d : Option Addr} {oe : Obj} {pn : List (Addr × Obj)} (hz : Zc cls d oe) (hf : ∃ vs, oe.data = .fields vs) : CallR (X.suite a ((a, oe) :: pn)) (.builtin "isinstance") (rIsPT X.K a cls d) := by
  intro pins s σ H xs us Q I r h
  obtain ⟨C, tp, cs, ws, b, rfl, rfl, ec, rfl, hT, k, e, q⟩ := h
  obtain ⟨w1, w2, rfl, r1, r2⟩ := vals2 r
  cases (show w1 = Value.ref a from r1)
  cases (show w2 = Value.ref tp from r2)
  obtain ⟨_, its, rv, ob, h1, h2, n, h3⟩ := (show ObjOk _ _ H s.heap tp (.tup cs) from I.hok tp _ hT)
  obtain rfl := ClsV.all k rv
  obtain ⟨oc, od, dt, sl⟩ := ob
  simp only at h2 h3
  subst h2 h3
  exact PySem.W.kia_tup (PySem.W.handS_kitx_exc ec.hg ec.hk ec.hs ec.hd ec.ha ec.hn ec.ht ec.hm) I.kIn (inst_pin I hz hf) h1 e (fun z => nomatch z) fun tk => ⟨.bl b, H, I.tok tk, rfl, q⟩
theorem ix_listP {X : Cx} {a : Addr} {pn : List (Addr × Obj)} : IxR (X.suite a pn) (rIxL X.K) := ix_list
/-- none of several classes -/
theorem any_no {K : PySem.W.Frag} {t : Value} : ∀ {us : List Value}, (∀ u ∈ us, PySem.W.kitOne K t u = some false) → PySem.W.kitAny K t us = some false
  | [], _ => rfl
  | u :: r, h => by
    unfold PySem.W.kitAny
    rw [h u List.mem_cons_self]
    exact any_no fun x hx => h x (List.mem_cons_of_mem _ hx)
theorem any_yes {K : PySem.W.Frag} {t u : Value} : ∀ {us : List Value}, (∀ u ∈ us, ∃ b, PySem.W.kitOne K t u = some b) → u ∈ us → PySem.W.kitOne K t u = some true → PySem.W.kitAny K t us = some true
  | [], _, h, _ => absurd h List.not_mem_nil
  | w :: r, h, hu, e => by
    unfold PySem.W.kitAny
    obtain ⟨b, hb⟩ := h w List.mem_cons_self
    rw [hb]
    cases b with
    | true => rfl
    | false =>
      rcases List.mem_cons.mp hu with rfl | hu
      · rw [hb] at e
        cases e
      · exact any_yes (fun x hx => h x (List.mem_cons_of_mem _ hx)) hu e
end Fo
namespace Fo
open PySem PySem.Spec PyProof.Rows L2
/-! things of any kind, as data; repr of them -/
def keyD : Key → PyData
  | .inl i => .int i
  | .inr x => .str x
inductive Kvs : List (Key × V) → List (PyData × PyData) → Prop
  | nil : Kvs [] []
  | cons {k : Key} {i : Int} {r : List (Key × V)} {s : List (PyData × PyData)} : Kvs r s → Kvs ((k, .int i) :: r) ((keyD k, .int i) :: s)
mutual
inductive Dq (H : Hp) : V → PyData → Prop
  | non : Dq H .non .none
  | bl (b : Bool) : Dq H (.bl b) (.bool b)
  | int (i : Int) : Dq H (.int i) (.int i)
  | str (x : Str) : Dq H (.str x) (.str x)
  | lst {a : Addr} {xs : List V} {ds : List PyData} : H a = some (.lst xs) → DqAll H xs ds → Dq H (.ref a) (.list ds)
  | tup {a : Addr} {xs : List V} {ds : List PyData} : H a = some (.tup xs) → DqAll H xs ds → Dq H (.ref a) (.tuple ds)
  | dic {a : Addr} {kvs : List (Key × V)} {ks : List (PyData × PyData)} : H a = some (.dK kvs) → Kvs kvs ks → Dq H (.ref a) (.dict ks)
inductive DqAll (H : Hp) : List V → List PyData → Prop
  | nil : DqAll H [] []
  | cons {v : V} {vs : List V} {d : PyData} {ds : List PyData} : Dq H v d → DqAll H vs ds → DqAll H (v :: vs) (d :: ds)
end
mutual
theorem Dq.keep {H H' : Hp} (k : ∀ b o, H b = some o → H' b = some o) : ∀ (d : PyData) (v : V), Dq H v d → Dq H' v d
  | .none, _, h => by cases h; exact .non
  | .bool b, _, h => by cases h; exact .bl b
  | .int i, _, h => by cases h; exact .int i
  | .str x, _, h => by cases h; exact .str x
  | .list ds, _, h => by
    cases h with
    | lst e a => exact .lst (k _ _ e) (DqAll.keep k ds _ a)
  | .tuple ds, _, h => by
    cases h with
    | tup e a => exact .tup (k _ _ e) (DqAll.keep k ds _ a)
  | .dict ks, _, h => by
    cases h with
    | dic e a => exact .dic (k _ _ e) a
theorem DqAll.keep {H H' : Hp} (k : ∀ b o, H b = some o → H' b = some o) : ∀ (ds : List PyData) (vs : List V), DqAll H vs ds → DqAll H' vs ds
  | [], _, h => by cases h; exact .nil
  | d :: ds, _, h => by
    cases h with
    | cons h1 h2 => exact .cons (Dq.keep k d _ h1) (DqAll.keep k ds _ h2)
end
theorem Dq.same {H H' : Hp} {d : PyData} {v : V} (h : Dq H v d) (s : Same H H') : Dq H' v d := Dq.keep s d v h
theorem DqAll.same {H H' : Hp} {ds : List PyData} {vs : List V} (h : DqAll H vs ds) (s : Same H H') : DqAll H' vs ds := DqAll.keep s ds vs h
theorem DqAll.len {H : Hp} : ∀ {ds : List PyData} {vs : List V}, DqAll H vs ds → vs.length = ds.length
  | [], _, h => by cases h; rfl
  | d :: ds, _, h => by
    cases h with
    | cons h1 h2 => rw [List.length_cons, List.length_cons, DqAll.len h2]
theorem DqAll.get {H : Hp} : ∀ {ds : List PyData} {vs : List V} {i : Nat} {v : V}, DqAll H vs ds → vs[i]? = some v → ∃ d, ds[i]? = some d ∧ Dq H v d
  | [], _, i, v, h, e => by cases h; simp at e
  | d :: ds, _, 0, v, h, e => by
    cases h with
    | cons h1 h2 =>
      cases (Option.some.inj e)
      exact ⟨d, rfl, h1⟩
  | d :: ds, _, i + 1, v, h, e => by
    cases h with
    | cons h1 h2 => exact DqAll.get (i := i) h2 e
theorem DqAll.app {H : Hp} : ∀ {ds es : List PyData} {vs us : List V}, DqAll H vs ds → DqAll H us es → DqAll H (vs ++ us) (ds ++ es)
  | [], _, _, _, h, g => by cases h; exact g
  | d :: ds, _, _, _, h, g => by
    cases h with
    | cons h1 h2 => exact .cons h1 (DqAll.app h2 g)
theorem DqAll.take {H : Hp} : ∀ {ds : List PyData} {vs : List V} (n : Nat), DqAll H vs ds → DqAll H (vs.take n) (ds.take n)
  | [], _, n, h => by cases h; rw [List.take_nil, List.take_nil]; exact .nil
  | d :: ds, _, 0, h => .nil
  | d :: ds, _, n + 1, h => by
    cases h with
    | cons h1 h2 => exact .cons h1 (DqAll.take n h2)
theorem DqAll.drop {H : Hp} : ∀ {ds : List PyData} {vs : List V} (n : Nat), DqAll H vs ds → DqAll H (vs.drop n) (ds.drop n)
  | [], _, n, h => by cases h; rw [List.drop_nil, List.drop_nil]; exact .nil
  | d :: ds, _, 0, h => h
  | d :: ds, _, n + 1, h => by
    cases h with
    | cons h1 h2 => exact DqAll.drop n h2
theorem dq_ints {H : Hp} : ∀ ns : List Int, DqAll H (ns.map V.int) (ns.map PyData.int)
  | [] => .nil
  | n :: r => .cons (.int n) (dq_ints r)
theorem dq_list {H : Hp} {a : Addr} {ns : List Int} (h : H a = some (.lst (ns.map V.int))) : Dq H (.ref a) (.list (ns.map PyData.int)) := .lst h (dq_ints ns)
section
variable {X : Cx} {pins : List (Addr × Obj)} {σ : L2.St} {H : Hp} {s : Shared}
theorem not_sys (I : Inv X pins σ H s) (z : SysAt X.base) {a : Addr} {o : HO} (e : H a = some o) : sysModules ≠ a := fun q => by
  obtain ⟨ob, eb⟩ := z
  have := (I.env0.bs _ _ eb).2
  rw [q, e] at this
  cases this
theorem kvs_reads (h : Heap) : ∀ {kvs : List (Key × V)} {ks : List (PyData × PyData)} {vs : List (Key × Value)} {es : List DictEntry}, Kvs kvs ks → KV kvs vs → Pairs (mixKind X.prog X.w) es vs → ReadsAll h (es.map (·.key)) (ks.map (·.1)) [] ∧ ReadsAll h (es.map (·.val)) (ks.map (·.2)) []
  | [], _, _, _, q, r, p => by
    cases q
    cases r
    cases p
    exact ⟨.nil, .nil⟩
  | kv :: kvs, _, _, _, q, r, p => by
    cases q with
    | cons q' =>
      cases r with
      | cons r1 r2 =>
        cases p with
        | cons p1 p2 =>
          obtain ⟨hk, hv⟩ := r1
          obtain ⟨t1, t2⟩ := kvs_reads h q' r2 (by assumption)
          obtain ⟨tv, ev⟩ := hv
          rename_i kk ii ss bb l2 ee ees p3
          have e1 : ∃ u, Reads h ee.key (keyD kk) u ∧ u = [] := by
            have p1' : keyIs bb.1 ee.key = true := p1
            rw [← hk] at p1'
            rcases keyIs_shape p1' with ⟨i, t, a1, a2⟩ | ⟨x, t, a1, a2⟩
            · have a1 : kk = Sum.inl i := a1
              rw [a2, a1]
              exact ⟨_, .int i t, rfl⟩
            · have a1 : kk = Sum.inr x := a1
              rw [a2, a1]
              exact ⟨_, .str x t, rfl⟩
          obtain ⟨_, e1, rfl⟩ := e1
          refine ⟨ReadsAll.cons e1 t1, ReadsAll.cons (as := []) (d := .int ii) ?_ t2⟩
          show Reads h ee.val _ _
          rw [p2, ev]
          exact .int ii tv
mutual
theorem Dq.reads (I : Inv X pins σ H s) (z : SysAt X.base) : ∀ (d : PyData) (v : V) (u : Value), Dq H v d → RelV v u → ∃ as, Reads s.heap u d as ∧ sysModules ∉ as
  | .none, _, _, h, r => by
    cases h
    cases r
    exact ⟨_, .none, List.not_mem_nil⟩
  | .bool b, _, _, h, r => by
    cases h
    cases r
    exact ⟨_, .bool b, List.not_mem_nil⟩
  | .int i, _, _, h, r => by
    cases h
    obtain ⟨t, rfl⟩ := r
    exact ⟨_, .int i t, List.not_mem_nil⟩
  | .str x, _, _, h, r => by
    cases h
    obtain ⟨t, rfl⟩ := r
    exact ⟨_, .str x t, List.not_mem_nil⟩
  | .list ds, _, _, h, r => by
    cases h with
    | lst e ha =>
      cases r
      obtain ⟨its, rv, ⟨o, n, ho, hc, _, hd⟩, _⟩ := I.list (SqL.of e)
      obtain ⟨as, hr, hn⟩ := Dq.readsAll I z ds _ its ha rv
      exact ⟨_, .list ho hc hd hr, fun q => by
        rcases List.mem_cons.mp q with q | q
        · exact not_sys I z e q
        · exact hn q⟩
  | .tuple ds, _, _, h, r => by
    cases h with
    | tup e ha =>
      cases r
      obtain ⟨its, rv, ⟨o, ho, hc, n, hd⟩, _⟩ := I.tuple (SqT.of e)
      obtain ⟨as, hr, hn⟩ := Dq.readsAll I z ds _ its ha rv
      exact ⟨_, .tuple ho hc hd hr, hn⟩
  | .dict ks, _, _, h, r => by
    cases h with
    | dic e hk =>
      cases r
      obtain ⟨_, nsys, vs, rel, dof⟩ := dk_of I.hok e
      obtain ⟨ep, ob, es, ho, exd, hdat, hko, hpr, hnd⟩ := dof.dictAt
      obtain ⟨r1, r2⟩ := kvs_reads (X := X) s.heap hk rel hpr
      exact ⟨_, .dict ho exd.1 hdat r1 r2, fun q => by
        rcases List.mem_cons.mp q with q | q
        · exact not_sys I z e q
        · cases q⟩
theorem Dq.readsAll (I : Inv X pins σ H s) (z : SysAt X.base) : ∀ (ds : List PyData) (vs : List V) (us : List Value), DqAll H vs ds → Vals vs us → ∃ as, ReadsAll s.heap us ds as ∧ sysModules ∉ as
  | [], _, _, h, r => by
    cases h
    cases r
    exact ⟨_, .nil, List.not_mem_nil⟩
  | d :: ds, _, _, h, r => by
    cases h with
    | cons h1 h2 =>
      cases r with
      | cons r1 r2 =>
        obtain ⟨as, q1, n1⟩ := Dq.reads I z d _ _ h1 r1
        obtain ⟨bs, q2, n2⟩ := Dq.readsAll I z ds _ _ h2 r2
        exact ⟨_, .cons q1 q2, fun q => by
          rcases List.mem_append.mp q with q | q
          · exact n1 q
          · exact n2 q⟩
end
/-- fit to be shown -/
structure Rp (m : Nat) (d : PyData) : Prop where
  show' : d.showable = true
  len : d.shown.length ≤ m
  dep : d.depth ≤ 20
/-- repr of a thing -/
def rReprD : List V → Hp → VK → Prop := fun xs H Q => ∃ (v : V) (d : PyData) (m : Nat), xs = [v] ∧ Dq H v d ∧ Rp m d ∧ m ≤ 16777216 ∧ Q (.str d.shown) H
theorem call_reprD {k : Nat} (g : X.A.guards = some []) (rm : Room k X.A) (z : SysAt X.base) : CallR X (.builtin "repr") rReprD := by
  intro pins s σ H xs us Q I r h
  obtain ⟨v, d, m, rfl, hd, rp, hm, q⟩ := h
  obtain ⟨u, rfl, ru⟩ := vals1 r
  have hun := rm.un
  have hdp := rp.dep
  have hsz : d.shown.length ≤ sizeLine := by rw [sizeLine_eq]; exact Nat.le_trans rp.len hm
  obtain ⟨as, rd, ns⟩ := Dq.reads I z d v u hd ru
  have big : ∀ {a : Addr}, u = .ref a → wpAny (model X.prog X.w) X.A (PySem.call (.builtin "repr") [u]) (EP X pins σ Q) X.xe s := fun {a} e => by
    subst e
    exact repr_of_reads' rd rp.show' (fun _ => ns) g (by omega) (fun _ _ e => e) (fun h' tk' tk kp => ⟨.str d.shown, H, I.kept (t' := tk) kp, ⟨_, rfl⟩, q⟩) hsz
  cases hd with
  | non =>
    cases ru
    have e : PyData.shown .none = "None" := by rw [PyData.shown]
    rw [e] at q
    exact PySem.P.repr_of_none ⟨.str _, H, I.tok _, ⟨_, rfl⟩, q⟩
  | bl b =>
    cases ru
    have e : PyData.shown (.bool b) = (if b = true then Str.ofString "True" else Str.ofString "False") := by rw [PyData.shown]
    rw [e] at q
    exact PySem.P.repr_of_bool ⟨.str _, H, I.tok _, ⟨_, rfl⟩, q⟩
  | int i =>
    obtain ⟨t, rfl⟩ := ru
    have e : PyData.shown (.int i) = Str.ofString (toString i) := by rw [PyData.shown]
    rw [e] at q
    exact PySem.P.repr_of_int (by have := rp.show'; rw [PyData.showable] at this; exact of_decide_eq_true this) ⟨.str _, H, I.tok _, ⟨_, rfl⟩, q⟩
  | str x =>
    obtain ⟨t, rfl⟩ := ru
    have e : PyData.shown (.str x) = reprText x := by rw [PyData.shown]
    rw [e] at q hsz
    exact PySem.P.repr_of_str ⟨.str _, H, I.tok _, ⟨_, rfl⟩, q⟩ hsz
  | lst e _ => exact big ru
  | tup e _ => exact big ru
  | dic e _ => exact big ru
end
/-! how long the texts are -/
theorem textFrom_le : ∀ (ts : List Str) (k : Nat) (acc : Str), (textFrom k acc ts).length ≤ acc.length + piled ts
  | [], k, acc => by rw [textFrom]; exact Nat.le_add_right _ _
  | t :: ts, k, acc => by
    rw [textFrom, piled_cons]
    have := textFrom_le ts (k + 1) (acc ++ Str.ofString (if k > 0 then ", " else "") ++ t)
    have e : (Str.ofString (if k > 0 then ", " else "")).length ≤ 2 := by split <;> decide
    rw [strLen_append, strLen_append] at this
    omega
theorem listText_le (ts : List Str) : (listText ts).length ≤ piled ts + 2 := by
  unfold listText
  have := textFrom_le ts 0 (Str.ofString "[")
  rw [strLen_append]
  have e1 : (Str.ofString "[").length = 1 := rfl
  have e2 : (Str.ofString "]").length = 1 := rfl
  omega
theorem piled_le : ∀ {ts : List Str} {m : Nat}, (∀ t ∈ ts, t.length ≤ m) → piled ts ≤ ts.length * (m + 2)
  | [], m, _ => by rw [piled_nil]; exact Nat.zero_le _
  | t :: ts, m, h => by
    rw [piled_cons, List.length_cons, Nat.succ_mul]
    have h1 := piled_le (ts := ts) fun x hx => h x (List.mem_cons_of_mem _ hx)
    have h2 := h t List.mem_cons_self
    omega
theorem join_le (ts : List Str) : (Str.join ", " ts).length ≤ piled ts := by
  by_cases h : ts = []
  · subst h
    decide
  · have := join_length_add ts h
    omega
theorem shownAll_eq : ∀ xs : List PyData, PyData.shownAll xs = xs.map PyData.shown
  | [] => by rw [PyData.shownAll]; rfl
  | x :: xs => by rw [PyData.shownAll, shownAll_eq xs]; rfl
theorem showableAll_of : ∀ {xs : List PyData}, (∀ x ∈ xs, PyData.showable x = true) → PyData.showableAll xs = true
  | [], _ => by rw [PyData.showableAll]
  | x :: xs, h => by rw [PyData.showableAll, h x List.mem_cons_self, showableAll_of fun y hy => h y (List.mem_cons_of_mem _ hy)]; rfl
theorem depthAll_of : ∀ {xs : List PyData} {k : Nat}, (∀ x ∈ xs, PyData.depth x ≤ k) → PyData.depthAll xs ≤ k
  | [], _, _ => by rw [PyData.depthAll]; exact Nat.zero_le _
  | x :: xs, k, h => by
    rw [PyData.depthAll]
    have h1 := h x List.mem_cons_self
    have h2 := depthAll_of fun y hy => h y (List.mem_cons_of_mem _ hy)
    exact Nat.max_le.mpr ⟨h1, h2⟩
/-- shown in m signs, k deep -/
structure Rq (m k : Nat) (d : PyData) : Prop where
  s : d.showable = true
  l : d.shown.length ≤ m
  d : d.depth ≤ k
theorem Rq.rp {m k : Nat} {d : PyData} (h : Rq m k d) (hk : k ≤ 20) : Rp m d := ⟨h.s, h.l, Nat.le_trans h.d hk⟩
theorem Rq.mono {m k m' k' : Nat} {d : PyData} (h : Rq m k d) (hm : m ≤ m') (hk : k ≤ k') : Rq m' k' d := ⟨h.s, Nat.le_trans h.l hm, Nat.le_trans h.d hk⟩
theorem rq_none : Rq 110 0 .none := ⟨by rw [PyData.showable], by rw [PyData.shown]; decide, by rw [PyData.depth]; exact Nat.le_refl _⟩
theorem rq_bool (b : Bool) : Rq 110 0 (.bool b) := ⟨by rw [PyData.showable], by rw [PyData.shown]; cases b <;> decide, by rw [PyData.depth]; exact Nat.le_refl _⟩
theorem rq_int {i : Int} (h : i.natAbs.log2 < 100) : Rq 110 0 (.int i) := by
  refine ⟨by rw [PyData.showable]; exact decide_eq_true (by omega), ?_, by rw [PyData.depth]; exact Nat.le_refl _⟩
  rw [PyData.shown]
  have := int_text_length_le (k := 100) (by decide) h
  show (Str.ofString (toString i)).length ≤ 110
  rw [PySem.ofString_length]
  omega
theorem rq_str {x : Str} (h : (reprText x).length ≤ 110) : Rq 110 0 (.str x) := ⟨by rw [PyData.showable], by rw [PyData.shown]; exact h, by rw [PyData.depth]; exact Nat.le_refl _⟩
theorem rq_list {xs : List PyData} {m k n : Nat} (h : ∀ x ∈ xs, Rq m k x) (hn : xs.length ≤ n) : Rq (n * (m + 2) + 2) (k + 1) (.list xs) := by
  refine ⟨by rw [PyData.showable]; exact showableAll_of fun x hx => (h x hx).s, ?_, by rw [PyData.depth]; exact Nat.succ_le_succ (depthAll_of fun x hx => (h x hx).d)⟩
  rw [PyData.shown, shownAll_eq]
  have h1 := listText_le (xs.map PyData.shown)
  have h2 := piled_le (ts := xs.map PyData.shown) (m := m) fun t ht => by
    obtain ⟨x, hx, rfl⟩ := List.mem_map.mp ht
    exact (h x hx).l
  rw [List.length_map] at h2
  have h3 := Nat.mul_le_mul_right (m + 2) hn
  omega
theorem rq_tup {xs : List PyData} {m k n : Nat} (h : ∀ x ∈ xs, Rq m k x) (hn : xs.length ≤ n) : Rq (n * (m + 2) + 3) (k + 1) (.tuple xs) := by
  refine ⟨by rw [PyData.showable]; exact showableAll_of fun x hx => (h x hx).s, ?_, by rw [PyData.depth]; exact Nat.succ_le_succ (depthAll_of fun x hx => (h x hx).d)⟩
  rw [PyData.shown, shownAll_eq]
  unfold tupleText
  rw [strLen_append, strLen_append]
  have h1 := join_le (xs.map PyData.shown)
  have h2 := piled_le (ts := xs.map PyData.shown) (m := m) fun t ht => by
    obtain ⟨x, hx, rfl⟩ := List.mem_map.mp ht
    exact (h x hx).l
  rw [List.length_map] at h2
  have h3 := Nat.mul_le_mul_right (m + 2) hn
  have e1 : (Str.ofString "(").length = 1 := rfl
  have e2 : (Str.ofString (if ((xs.map PyData.shown).length == 1) = true then ",)" else ")")).length ≤ 2 := by split <;> decide
  omega
theorem showableKv_of : ∀ {ks : List (PyData × PyData)}, (∀ p ∈ ks, PyData.showable p.1 = true ∧ PyData.showable p.2 = true) → PyData.showableKv ks = true
  | [], _ => by rw [PyData.showableKv]
  | (a, b) :: ks, h => by
    obtain ⟨h1, h2⟩ := h (a, b) List.mem_cons_self
    rw [PyData.showableKv, h1, h2, showableKv_of fun y hy => h y (List.mem_cons_of_mem _ hy)]
    rfl
theorem depthKv_of : ∀ {ks : List (PyData × PyData)} {k : Nat}, (∀ p ∈ ks, PyData.depth p.1 ≤ k ∧ PyData.depth p.2 ≤ k) → PyData.depthKv ks ≤ k
  | [], _, _ => by rw [PyData.depthKv]; exact Nat.zero_le _
  | (a, b) :: ks, k, h => by
    rw [PyData.depthKv]
    obtain ⟨h1, h3⟩ := h (a, b) List.mem_cons_self
    exact Nat.max_le.mpr ⟨Nat.max_le.mpr ⟨h1, h3⟩, depthKv_of fun y hy => h y (List.mem_cons_of_mem _ hy)⟩
theorem shownKv_map : ∀ ks : List (PyData × PyData), PyData.shownKv ks = ks.map fun p => p.1.shown ++ Str.ofString ": " ++ p.2.shown
  | [] => by rw [PyData.shownKv]; rfl
  | (a, b) :: ks => by rw [PyData.shownKv, shownKv_map ks]; rfl
theorem rq_dict {ks : List (PyData × PyData)} {m k n : Nat} (h : ∀ p ∈ ks, Rq m k p.1 ∧ Rq m k p.2) (hn : ks.length ≤ n) : Rq (n * (2 * m + 4) + 2) (k + 1) (.dict ks) := by
  refine ⟨by rw [PyData.showable]; exact showableKv_of fun p hp => ⟨(h p hp).1.s, (h p hp).2.s⟩, ?_, by rw [PyData.depth]; exact Nat.succ_le_succ (depthKv_of fun p hp => ⟨(h p hp).1.d, (h p hp).2.d⟩)⟩
  rw [PyData.shown, shownKv_map]
  unfold dictText
  rw [strLen_append, strLen_append]
  have h1 := join_le (ks.map fun p => p.1.shown ++ Str.ofString ": " ++ p.2.shown)
  have h2 := piled_le (ts := ks.map fun p => p.1.shown ++ Str.ofString ": " ++ p.2.shown) (m := 2 * m + 2) fun t ht => by
    obtain ⟨p, hp, rfl⟩ := List.mem_map.mp ht
    have a1 := (h p hp).1.l
    have a2 := (h p hp).2.l
    have e3 : (Str.ofString ": ").length = 2 := rfl
    rw [strLen_append, strLen_append]
    omega
  rw [List.length_map, show 2 * m + 2 + 2 = 2 * m + 4 by omega] at h2
  have h3 := Nat.mul_le_mul_right (2 * m + 4) hn
  have e1 : (Str.ofString "{").length = 1 := rfl
  have e2 : (Str.ofString "}").length = 1 := rfl
  omega
end Fo
namespace Fo
open PySem PySem.Spec PyProof.Rows L2
/-! dict(enumerate(xs)) of a list of ints -/
def enumKV : Nat → List Int → List (Key × V)
  | _, [] => []
  | i, x :: r => (.inl (i : Int), .int x) :: enumKV (i + 1) r
theorem enumKV_len : ∀ (i : Nat) (ns : List Int), (enumKV i ns).length = ns.length
  | _, [] => rfl
  | i, x :: r => by rw [enumKV, List.length_cons, List.length_cons, enumKV_len (i + 1) r]
def enumD : Nat → List Int → List (PyData × PyData)
  | _, [] => []
  | i, x :: r => (.int (i : Int), .int x) :: enumD (i + 1) r
theorem enumD_len : ∀ (i : Nat) (ns : List Int), (enumD i ns).length = ns.length
  | _, [] => rfl
  | i, x :: r => by rw [enumD, List.length_cons, List.length_cons, enumD_len (i + 1) r]
theorem enum_kvs : ∀ (i : Nat) (ns : List Int), Kvs (enumKV i ns) (enumD i ns)
  | _, [] => .nil
  | i, x :: r => .cons (k := .inl (i : Int)) (enum_kvs (i + 1) r)
theorem enumD_mem : ∀ {i : Nat} {ns : List Int} {p : PyData × PyData}, p ∈ enumD i ns → ∃ (j : Nat) (x : Int), p = (.int (j : Int), .int x) ∧ j < i + ns.length ∧ x ∈ ns
  | _, [], _, h => absurd h List.not_mem_nil
  | i, x :: r, p, h => by
    rcases List.mem_cons.mp h with h | h
    · exact ⟨i, x, h, by rw [List.length_cons]; omega, List.mem_cons_self⟩
    · obtain ⟨j, y, e, hj, hy⟩ := enumD_mem h
      exact ⟨j, y, e, by rw [List.length_cons]; omega, List.mem_cons_of_mem _ hy⟩
theorem merge_enum : ∀ (ns : List Int) (acc : List (Key × V)) (i : Nat), (∀ p ∈ acc, ∃ j : Nat, p.1 = .inl (j : Int) ∧ j < i) → mergeK acc (enumKV i ns) = acc ++ enumKV i ns
  | [], acc, i, _ => by
    rw [enumKV, List.append_nil]
    rfl
  | x :: r, acc, i, h => by
    have e : valV acc (.inl (i : Int)) = none := by
      unfold valV
      rw [Option.map_eq_none_iff, List.find?_eq_none]
      intro p hp hd
      obtain ⟨j, ej, hj⟩ := h p hp
      have := of_decide_eq_true hd
      rw [ej] at this
      injection this with this
      omega
    show mergeK (putK acc (.inl (i : Int)) (.int x)) (enumKV (i + 1) r) = _
    rw [putK_new _ e, merge_enum r _ (i + 1) (fun p hp => ?_), List.append_assoc]
    · rfl
    · rcases List.mem_append.mp hp with hp | hp
      · obtain ⟨j, ej, hj⟩ := h p hp
        exact ⟨j, ej, by omega⟩
      · rw [List.mem_singleton.mp hp]
        exact ⟨i, rfl, by omega⟩
/-- what the dict holds, by the list's own values -/
def enumV : Nat → List Value → List (Key × Value)
  | _, [] => []
  | i, x :: r => (.inl (i : Int), x) :: enumV (i + 1) r
theorem enumV_len : ∀ (i : Nat) (us : List Value), (enumV i us).length = us.length
  | _, [] => rfl
  | i, x :: r => by rw [enumV, List.length_cons, List.length_cons, enumV_len (i + 1) r]
theorem enumV_at : ∀ {j i : Nat} {us : List Value} {v : Value}, us[j]? = some v → (enumV i us)[j]? = some (.inl ((i + j : Nat) : Int), v)
  | _, _, [], _, h => by simp at h
  | 0, i, x :: r, v, h => by
    cases (Option.some.inj h)
    rfl
  | j + 1, i, x :: r, v, h => by
    have := enumV_at (j := j) (i := i + 1) (us := r) h
    rw [show i + (j + 1) = i + 1 + j by omega]
    exact this
theorem enumV_rel : ∀ {i : Nat} {ns : List Int} {us : List Value}, Vals (ns.map V.int) us → KV (enumKV i ns) (enumV i us)
  | _, [], _, h => by cases h; exact .nil
  | i, x :: r, _, h => by
    cases h with
    | cons h1 h2 => exact .cons ⟨rfl, h1⟩ (enumV_rel h2)
section
variable {X : Cx}
def tDictEnum (K : PySem.W.Frag) (te : TE) : TE := fun σ H Q => te σ H fun x H1 => ∃ (a : Addr) (ns : List Int), x = .ref a ∧ SqL K H1 a (ns.map V.int) ∧ ∀ p, H1 p = none → Q (.ref p) (upd H1 p (.dK (enumKV 0 ns)))
theorem pe_dictEnum {e : Expr} {te : TE} {p q pos qos : Pos} (calm : X.calm = true) (gd : Gl X "dict") (md : X.mg "dict" = none) (ge : Gl X "enumerate") (me : X.mg "enumerate" = none) (he : PE X e te)
    (st : starEach [Expr.Call (.Name "enumerate" q) [e] [] qos] X.env = [(false, eval (Expr.Call (.Name "enumerate" q) [e] [] qos) X.env)] := by rfl) (su : starEach [e] X.env = [(false, eval e X.env)] := by rfl) :
    PE X (.Call (.Name "dict" p) [.Call (.Name "enumerate" q) [e] [] qos] [] pos) (tDictEnum X.K te) := by
  refine ⟨fun pins s σ H Q I h => ?_⟩
  refine wpAny_Call_Name_kw (ld_blt I gd md (u := .type "dict") (by decide +kernel) ?_ (by decide +kernel) (by decide +kernel))
  rw [st]
  refine PySem.callWith_type1 ?_
  refine wpAny_Call_Name_kw (ld_blt I ge me (u := .type "enumerate") (by decide +kernel) ?_ (by decide +kernel) (by decide +kernel))
  rw [su]
  refine PySem.callWith_type1 (thn (he.run pins s σ H _ I h) fun u s1 ⟨x, H1, I1, r1, a, ns, ex, sq, qk⟩ => ?_)
  subst ex
  obtain rfl : u = Value.ref a := r1
  obtain ⟨its, rv, pl, hz⟩ := I1.list sq
  have hlt := Heap.lt_size pl.isList.choose_spec.1
  refine call_enumerate_list pl.isList fun h' en it sz kp => ?_
  have I2 : Inv X pins σ H1 { s1 with heap := h' } := I1.kept (t' := s1.toks) kp
  have lis : h'.IsList a its.toArray := pl.isList.at fun o e => kp _ _ e
  have ln : its.length = ns.length := by rw [← rv.length, List.length_map]
  have hzn : ns.length ≤ sizeLine := by rw [List.length_map] at hz; exact hz
  refine PySem.call_dict_pairs (knd := mixKind X.prog X.w) (kvs := enumV 0 its) (PairArg.enumerate (s1.heap.objs.size + 1) s1.heap.objs.size a (Nat.succ_ne_self _) (Nat.ne_of_lt (Nat.lt_succ_of_lt hlt)) (Nat.ne_of_lt hlt) its.toArray) (I.ok.hd calm) ⟨⟨_, en⟩, it, lis⟩ ⟨by rw [enumV_len]; simp, fun i key v hr => ?_⟩ (by simp only [List.size_toArray]; omega) fun h2 tk hd2 kp2 => ?_
  · obtain ⟨⟨t, rfl⟩, hv⟩ := hr
    refine ⟨.inl (i : Int), ?_, ?_⟩
    · have := enumV_at (j := i) (i := 0) (us := its) (v := v) (by simpa using hv)
      rw [Nat.zero_add] at this
      exact this
    · show Value.isInt (i : Int) (.int (i : Int) t) = true
      simp [Value.isInt]
  · have em : KV (enumKV 0 ns) (merged [] (enumV 0 its)) := by
      have := KV.merge (enumV_rel (i := 0) rv) (.nil : KV (κ := Key) [] [])
      rw [merge_enum ns [] 0 (fun p hp => absurd hp List.not_mem_nil)] at this
      exact this
    have nn : H1 h'.objs.size = none := I2.hok.fresh (Nat.le_refl _)
    refine ⟨.ref h'.objs.size, upd H1 h'.objs.size (.dK (enumKV 0 ns)), I1.laid (t' := tk) (fun b o e => kp2 b o (fun z => ?_) (kp b o e)) (by rw [sz]; omega) (show ObjOk X.prog X.w _ _ _ (.dK (enumKV 0 ns)) from ⟨by rw [enumKV_len]; exact hzn, beq_eq_false_iff_ne.mpr (Nat.ne_of_gt I2.big), merged [] (enumV 0 its), em, hd2⟩), rfl, qk _ nn⟩
    have := Heap.lt_size e
    simp only [List.mem_cons, List.not_mem_nil, or_false] at z
    rcases z with z | z
    · rw [z] at this
      exact absurd this (Nat.not_lt.mpr (Nat.le_succ _))
    · rw [z] at this
      exact absurd this (Nat.lt_irrefl _)
end
end Fo
namespace Fo
open PySem PySem.Spec PyProof.Rows L2
/-! kinds of things -/
def tyD : PyData → String
  | .none => "NoneType"
  | .bool _ => "bool"
  | .int _ => "int"
  | .str _ => "str"
  | .list _ => "list"
  | .tuple _ => "tuple"
  | .dict _ => "dict"
theorem dq_ty {K : PySem.W.Frag} {H : Hp} {v : V} {d : PyData} (h : Dq H v d) : TyX K H v (.type (tyD d)) := by
  cases h with
  | non => exact .base .non
  | bl b => exact .base (.bl b)
  | int i => exact .base (.int i)
  | str x => exact .base (.str x)
  | lst e _ => exact .base (.lst e)
  | tup e _ => exact .base (.tup e)
  | dic e _ => exact .base (.dK e)
def isIntD : PyData → Bool
  | .int _ => true
  | .bool _ => true
  | _ => false
def isBoolD : PyData → Bool
  | .bool _ => true
  | _ => false
def isListD : PyData → Bool
  | .list _ => true
  | _ => false
def isStrD : PyData → Bool
  | .str _ => true
  | _ => false
theorem kit_intD {K : PySem.W.Frag} : ∀ d : PyData, PySem.W.kitOne K (.type (tyD d)) (.type "int") = some (isIntD d)
  | .none => show PySem.W.kitOne K (.type "NoneType") (.type "int") = some false from kit_ty (by decide +kernel)
  | .bool _ => show PySem.W.kitOne K (.type "bool") (.type "int") = some true from kit_ty (by decide +kernel)
  | .int _ => show PySem.W.kitOne K (.type "int") (.type "int") = some true from kit_ty (by decide +kernel)
  | .str _ => show PySem.W.kitOne K (.type "str") (.type "int") = some false from kit_ty (by decide +kernel)
  | .list _ => show PySem.W.kitOne K (.type "list") (.type "int") = some false from kit_ty (by decide +kernel)
  | .tuple _ => show PySem.W.kitOne K (.type "tuple") (.type "int") = some false from kit_ty (by decide +kernel)
  | .dict _ => show PySem.W.kitOne K (.type "dict") (.type "int") = some false from kit_ty (by decide +kernel)
theorem kit_boolD {K : PySem.W.Frag} : ∀ d : PyData, PySem.W.kitOne K (.type (tyD d)) (.type "bool") = some (isBoolD d)
  | .none => show PySem.W.kitOne K (.type "NoneType") (.type "bool") = some false from kit_ty (by decide +kernel)
  | .bool _ => show PySem.W.kitOne K (.type "bool") (.type "bool") = some true from kit_ty (by decide +kernel)
  | .int _ => show PySem.W.kitOne K (.type "int") (.type "bool") = some false from kit_ty (by decide +kernel)
  | .str _ => show PySem.W.kitOne K (.type "str") (.type "bool") = some false from kit_ty (by decide +kernel)
  | .list _ => show PySem.W.kitOne K (.type "list") (.type "bool") = some false from kit_ty (by decide +kernel)
  | .tuple _ => show PySem.W.kitOne K (.type "tuple") (.type "bool") = some false from kit_ty (by decide +kernel)
  | .dict _ => show PySem.W.kitOne K (.type "dict") (.type "bool") = some false from kit_ty (by decide +kernel)
theorem kit_listD {K : PySem.W.Frag} : ∀ d : PyData, PySem.W.kitOne K (.type (tyD d)) (.type "list") = some (isListD d)
  | .none => show PySem.W.kitOne K (.type "NoneType") (.type "list") = some false from kit_ty (by decide +kernel)
  | .bool _ => show PySem.W.kitOne K (.type "bool") (.type "list") = some false from kit_ty (by decide +kernel)
  | .int _ => show PySem.W.kitOne K (.type "int") (.type "list") = some false from kit_ty (by decide +kernel)
  | .str _ => show PySem.W.kitOne K (.type "str") (.type "list") = some false from kit_ty (by decide +kernel)
  | .list _ => show PySem.W.kitOne K (.type "list") (.type "list") = some true from kit_ty (by decide +kernel)
  | .tuple _ => show PySem.W.kitOne K (.type "tuple") (.type "list") = some false from kit_ty (by decide +kernel)
  | .dict _ => show PySem.W.kitOne K (.type "dict") (.type "list") = some false from kit_ty (by decide +kernel)
theorem kit_strD {K : PySem.W.Frag} : ∀ d : PyData, PySem.W.kitOne K (.type (tyD d)) (.type "str") = some (isStrD d)
  | .none => show PySem.W.kitOne K (.type "NoneType") (.type "str") = some false from kit_ty (by decide +kernel)
  | .bool _ => show PySem.W.kitOne K (.type "bool") (.type "str") = some false from kit_ty (by decide +kernel)
  | .int _ => show PySem.W.kitOne K (.type "int") (.type "str") = some false from kit_ty (by decide +kernel)
  | .str _ => show PySem.W.kitOne K (.type "str") (.type "str") = some true from kit_ty (by decide +kernel)
  | .list _ => show PySem.W.kitOne K (.type "list") (.type "str") = some false from kit_ty (by decide +kernel)
  | .tuple _ => show PySem.W.kitOne K (.type "tuple") (.type "str") = some false from kit_ty (by decide +kernel)
  | .dict _ => show PySem.W.kitOne K (.type "dict") (.type "str") = some false from kit_ty (by decide +kernel)
def wholeD : PyData → Bool
  | .int _ => true
  | _ => false
def GoodD (d : PyData) : Prop := ∃ ns : List Int, d = .list (ns.map PyData.int) ∧ IsOrd ns.length ns ∧ 1 ≤ ns.length ∧ ns.length ≤ 12
theorem all_ints : ∀ {ds : List PyData}, ds.all wholeD = true → ∃ ns : List Int, ds = ns.map PyData.int
  | [], _ => ⟨[], rfl⟩
  | d :: ds, h => by
    rw [List.all_cons, Bool.and_eq_true] at h
    obtain ⟨ns, e⟩ := all_ints h.2
    cases d with
    | int i => exact ⟨i :: ns, by rw [e]; rfl⟩
    | _ => cases h.1
theorem dq_intsV {H : Hp} : ∀ {ns : List Int} {vs : List V}, DqAll H vs (ns.map PyData.int) → vs = ns.map V.int
  | [], _, h => by cases h; rfl
  | n :: r, _, h => by
    rw [List.map_cons] at h
    cases h with
    | cons h1 h2 =>
      cases h1
      rw [dq_intsV h2]
      rfl
theorem intD_inj : ∀ {a b : List Int}, a.map PyData.int = b.map PyData.int → a = b
  | [], [], _ => rfl
  | [], _ :: _, h => by cases h
  | _ :: _, [], h => by cases h
  | x :: a, y :: b, h => by
    rw [List.map_cons, List.map_cons] at h
    injection h with h1 h2
    injection h1 with h1
    rw [h1, intD_inj h2]
theorem good_all {ds : List PyData} (h : GoodD (.list ds)) : ds.all wholeD = true := by
  obtain ⟨ns, e, _⟩ := h
  injection e with e
  rw [e, List.all_eq_true]
  intro x hx
  obtain ⟨i, _, rfl⟩ := List.mem_map.mp hx
  rfl
def spWholeD : Sp := fun vs H Q _ => ∃ (v : V) (d : PyData), vs = [v] ∧ Dq H v d ∧ Q (.bl (wholeD d)) H
def spIsOrdD : Sp := fun vs H Q _ => ∃ (v : V) (d : PyData), vs = [v] ∧ Dq H v d ∧ ∀ (b : Bool) (H' : Hp), (b = true ↔ GoodD d) → Same H H' → Q (.bl b) H'
def spGoodL : Sp := fun vs H Q _ => ∃ (v : V) (d : PyData), vs = [v] ∧ Dq H v d ∧ ∀ (b : Bool) (H' : Hp), (b = true ↔ GoodD d) → Same H H' → Q (.bl b) H'
theorem not_good {d : PyData} (h : isListD d = false) : (false = true ↔ GoodD d) := by
  refine ⟨fun z => absurd z Bool.false_ne_true, fun z => ?_⟩
  obtain ⟨ns, e, _⟩ := z
  rw [e] at h
  cases h
theorem not_good_len {ds : List PyData} (h : ds.length < 1 ∨ 12 < ds.length) : (false = true ↔ GoodD (.list ds)) := by
  refine ⟨fun z => absurd z Bool.false_ne_true, fun z => ?_⟩
  obtain ⟨ns, e, _, h1, h2⟩ := z
  injection e with e
  rw [e, List.length_map] at h
  omega
theorem not_good_all {ds : List PyData} (h : ds.all wholeD = false) : (false = true ↔ GoodD (.list ds)) := ⟨fun z => absurd z Bool.false_ne_true, fun z => by rw [good_all z] at h; cases h⟩
theorem all_map_id (ds : List PyData) : (ds.map wholeD).all id = ds.all wholeD := by
  rw [List.all_map]
  rfl
theorem perm_sub : ∀ {a b : List Int}, a.Nodup → (∀ x ∈ a, x ∈ b) → b.length ≤ a.length → a.Perm b
  | [], b, _, _, h => by
    have : b = [] := List.eq_nil_of_length_eq_zero (Nat.le_zero.mp h)
    rw [this]
  | x :: a, b, nd, sub, h => by
    have hx := sub x List.mem_cons_self
    have nx := (List.nodup_cons.mp nd).1
    have h1 := List.length_erase_of_mem hx
    rw [List.length_cons] at h
    refine List.Perm.trans (List.Perm.cons x (perm_sub (b := b.erase x) (List.nodup_cons.mp nd).2 (fun y hy => ?_) (by omega))) (List.perm_cons_erase hx).symm
    exact (List.mem_erase_of_ne (fun z => nx (by rw [← z]; exact hy))).mpr (sub y (List.mem_cons_of_mem _ hy))
theorem ord_of {ns : List Int} (nd : ns.Nodup) (h : ∀ x ∈ ns, 0 ≤ x ∧ x < (ns.length : Int)) : IsOrd ns.length ns := by
  have sub : ∀ x ∈ ns, x ∈ rg ns.length := fun x hx => rg_mem.mpr (h x hx)
  exact perm_sub nd sub (by rw [rg_len]; exact Nat.le_refl _)
theorem inV_ints (t : Int) : ∀ row : List Int, inV (.int t) (row.map V.int) = decide (t ∈ row)
  | [] => rfl
  | x :: r => by
    have ih := inV_ints t r
    unfold inV at ih ⊢
    have eqI : eqV (.int x) (.int t) = decide (x = t) := by
      unfold eqV
      by_cases e : x = t
      · subst e
        simp
      · simp [e]
    rw [List.map_cons, List.any_cons, ih, eqI]
    by_cases e : x = t
    · subst e
      simp
    · have e1 : ¬ t = x := fun z => e z.symm
      simp [e, e1]
theorem flatI (row : List Int) : (row.map V.int).all flatV = true := by
  rw [List.all_eq_true]
  intro x hx
  obtain ⟨i, _, rfl⟩ := List.mem_map.mp hx
  rfl
section
variable {P : Program} {w : World} {K : PySem.W.Frag} {mg : Str → Option Value} {base : Heap}
theorem scWholeD : FnScope ["thing"] ["thing"] (defScope s_is_whole) := ⟨rfl, rfl, rfl, by decide +kernel, rfl, by decide +kernel, by decide +kernel⟩
theorem ok_wholeD {f : Addr} {fd : FuncData} {k : Nat} (T : Df K mg "is_whole" s_is_whole ["thing"] f fd) (B : Bi mg) : FnOk P w K mg base CX0 (k + 1) f fd ["thing"] spWholeD := by
  refine T.F.ok scWholeD (fun vs H Q E h => ?_) (fun cdv A outer s H vs Q E hr h => ?_)
  · obtain ⟨v, d, rfl, _⟩ := h
    rfl
  · obtain ⟨v, d, rfl, hd, q⟩ := h
    refine ⟨_, 
      (pss_one (ps_ret (pe_and (pe_callB call_isi (by rfl) B.isinstance (by decide +kernel) (pa_cons (pv 0) (pa_cons (pe_bltn (v := .ty "int") (by rfl) B.int (by decide +kernel) rfl) pa_nil))) (pe_one (pe_not (pe_callB call_isi (by rfl) B.isinstance (by decide +kernel) (pa_cons (pv 0) (pa_cons (pe_bltn (v := .ty "bool") (by rfl) B.bool (by decide +kernel) rfl) pa_nil)))))))), ?_⟩
    refine ⟨_, rfl, _, _, _, _, isIntD d, rfl, .ty _, dq_ty hd, kit_intD d, _, rfl, ?_⟩
    cases d with
    | int i => exact iteT ⟨_, rfl, _, _, _, _, false, rfl, .ty _, dq_ty hd, kit_boolD _, false, rfl, q⟩
    | bool b => exact iteT ⟨_, rfl, _, _, _, _, true, rfl, .ty _, dq_ty hd, kit_boolD _, true, rfl, q⟩
    | _ => exact iteF q
theorem scIsOrdD : FnScope ["thing", "number"] ["thing"] (defScope s_is_order) := ⟨rfl, rfl, rfl, by decide +kernel, rfl, by decide +kernel, by decide +kernel⟩
set_option maxHeartbeats 2000000 in
theorem ok_isOrdD {f fW : Addr} {fd fdW : FuncData} {k : Nat} {t : Tok} (T : Df K mg "is_order" s_is_order ["thing"] f fd) (T_is_whole : Df K mg "is_whole" s_is_whole ["thing"] fW fdW) (B : Bi mg) (mM : mg "MOST_THINGS" = some (.int 12 t)) : FnOk P w K mg base CX0 (k + 2) f fd ["thing"] spIsOrdD := by
  have G_is_whole : FnOk P w K mg base CX0 (k + 1) fW fdW ["thing"] spWholeD := ok_wholeD T_is_whole B
  refine T.F.ok scIsOrdD (fun vs H Q E h => ?_) (fun cdv A outer s H vs Q E hr h => ?_)
  · obtain ⟨v, d, rfl, _⟩ := h
    rfl
  · obtain ⟨v, d, rfl, hd, q⟩ := h
    refine ⟨_, 
      (pss_cons (ps_if (PW.pt (pw_or (pt_not (pt_val (pe_callB call_isi (by rfl) B.isinstance (by decide +kernel) (pa_cons (pv 0) (pa_cons (pe_bltn (v := .ty "list") (by rfl) B.list (by decide +kernel) rfl) pa_nil))))) (pw_or (pt_cmpR op_lt (pe_callB call_len_seq (by rfl) B.len PySem.boot_len (pa_cons (pv 0) pa_nil)) pe_int (nomark _)) (pw_or1 (pt_cmpR op_gt (pe_callB call_len_seq (by rfl) B.len PySem.boot_len (pa_cons (pv 0) pa_nil)) (pe_glob (v := .int 12) (by rfl) mM ⟨_, rfl⟩) (nomark _))))))
        (pss_one (ps_ret pe_bl))
        pss_nil)
      (pss_cons (ps_if (pt_not (pt_val (pe_callB (cr_all rfl) (by rfl) B.all (by decide +kernel) (pa_cons (pe_lc (own := [("number", 1)]) (g := (gName 1)) (tt := tYes) (te := (tCall spWholeD [] E0 (tCons (tVar 1) tNil))) rfl scIsOrdD.nd (pi_list (pv 0)) (blkOk_by (N := ["thing", "number"]) (sc := defScope s_is_order) (by decide +kernel)) (fun _ _ _ _ _ => (pg_name (i := 1) scIsOrdD.nd rfl (.inl rfl))) (fun _ _ _ _ _ => pts_nil) (fun _ _ _ _ _ => (pe_call G_is_whole hr (by rfl) T_is_whole.g T_is_whole.F.kp T_is_whole.b .nil pass0 (pa_cons (pv 1) pa_nil)))) pa_nil))))
        (pss_one (ps_ret pe_bl))
        pss_nil)
      (pss_one (ps_ret (pe_cmpR (op_eqD hr.units) (pe_callB cr_sorted (by rfl) B.sorted (by decide +kernel) (pa_cons (pv 0) pa_nil)) (pe_listRg rfl (by rfl) B.list (prg_1 (by rfl) B.range (pe_callB call_len_seq (by rfl) B.len PySem.boot_len (pa_cons (pv 0) pa_nil)))) (nomark _)))))), ?_⟩
    refine ⟨_, rfl, _, _, _, _, isListD d, rfl, .ty _, dq_ty hd, kit_listD d, _, rfl, ?_⟩
    cases hl : isListD d with
    | false => exact iteT (iteT (q _ _ (not_good hl) (Same.refl _)))
    | true =>
      cases hd with
      | @lst a xs ds e al =>
        have hlen := al.len
        refine iteF ?_
        refine ⟨_, rfl, a, _, rfl, .inl (SqL.of e), _, 1, rfl, rfl, _, rfl, ite2 (fun c => ?_) (fun c => ?_)⟩
        · exact iteT (q _ _ (not_good_len (.inl (by have := of_decide_eq_true c; omega))) (Same.refl _))
        have c1 : 1 ≤ ds.length := by
          by_cases z : ds.length < 1
          · exact absurd (decide_eq_true (show ((xs.length : Nat) : Int) < 1 by omega)) c
          · omega
        refine ⟨_, rfl, a, _, rfl, .inl (SqL.of e), _, 12, rfl, rfl, _, rfl, ite2 (fun c => ?_) (fun c => ?_)⟩
        · exact q _ _ (not_good_len (.inr (by have := of_decide_eq_true c; omega))) (Same.refl _)
        have c2 : ds.length ≤ 12 := by
          by_cases z : 12 < ds.length
          · exact absurd (decide_eq_true (show (12 : Int) < ((xs.length : Nat) : Int) by omega)) c
          · omega
        refine ⟨_, rfl, a, rfl, ⟨_, SqL.of e⟩, fun p np => ?_⟩
        refine lc_list (K := K) (a := a) (xs := xs) (fun i H3 => H3 p = some (.lst (((ds.take i).map wholeD).map V.bl)) ∧ Same H H3) ⟨upd_same, same_new np⟩ (fun i H3 _ hP => SqL.of (hP.2 _ _ e)) (fun i x H3 hx hP => ?_) (fun H3 hP => ?_)
        · obtain ⟨hp3, sm⟩ := hP
          obtain ⟨d, ed, hd⟩ := al.get hx
          have hi := (List.getElem?_eq_some_iff.mp ed).1
          refine ⟨rfl, _, rfl, x, d, rfl, hd.same sm, _, hp3, line_lt (by rw [List.length_map, List.length_map, List.length_take]; omega), ?_, fun b o eb => ?_⟩
          · rw [upd_same, List.take_add_one, ed, List.map_append, List.map_append]
            rfl
          · rw [upd_ne (ne_of_none eb np)]
            exact sm _ _ eb
        · obtain ⟨hp3, sm⟩ := hP
          rw [hlen, List.take_length] at hp3
          have e3 := sm _ _ e
          refine ⟨p, _, rfl, SqL.of hp3, _, rfl, ?_⟩
          rw [all_map_id]
          cases ha : ds.all wholeD with
          | false => exact iteT (q _ _ (not_good_all ha) sm)
          | true =>
            obtain ⟨ns, ens⟩ := all_ints ha
            subst ens
            have exs := dq_intsV al
            subst exs
            rw [List.length_map] at c1 c2 hlen
            refine iteF ?_
            refine ⟨_, rfl, a, ns, rfl, SqL.of e3, by omega, fun ns' s1 hperm hsrt ns1 => ?_⟩
            have e4 := same_new (o := .lst (ns'.map V.int)) ns1 _ _ e3
            refine ⟨_, rfl, a, _, rfl, .inl (SqL.of e4), _, rfl, RgOk.of_le (by omega) (by rw [List.length_map]; omega) (by omega) (by omega), fun s2 ns2 => ?_⟩
            rw [List.length_map]
            have h1 : (upd (upd H3 s1 (.lst (ns'.map V.int))) s2 (.lst (rgV 0 (ns.length : Int)))) s1 = some (.lst (ns'.map V.int)) := same_new ns2 _ _ upd_same
            have h2 : (upd (upd H3 s1 (.lst (ns'.map V.int))) s2 (.lst (rgV 0 (ns.length : Int)))) s2 = some (.lst ((rg ns.length).map V.int)) := by rw [upd_same, rg_V]
            refine ⟨_, _, dp_list h1, dp_list h2, shaped_list _, shaped_list _, ?_⟩
            rw [show PyData.eqv (.list (ns'.map PyData.int)) (.list ((rg ns.length).map PyData.int)) = decide (ns' = rg ns.length) from eqv_ints _ _]
            refine q _ _ ⟨fun z => ?_, fun z => ?_⟩ ((sm.trans (same_new ns1)).trans (same_new ns2))
            · have z := of_decide_eq_true z
              rw [z] at hperm
              exact ⟨ns, rfl, hperm.symm, c1, c2⟩
            · obtain ⟨ms, em, ho, _⟩ := z
              injection em with em
              have em := intD_inj em
              subst em
              exact decide_eq_true (sorted_eq (hperm.trans ho) hsrt (rg_sorted _))
      | _ => cases hl
end
end Fo
namespace Fo
open PySem PySem.Spec PyProof.Rows L2
/-! ### lists of lists -/
def LL (H : Hp) : List Addr → List (List Int) → Prop
  | [], [] => True
  | a :: as, r :: rs => H a = some (.lst (r.map V.int)) ∧ LL H as rs
  | _, _ => False
theorem LL.len {H : Hp} : ∀ {as : List Addr} {rs : List (List Int)}, LL H as rs → as.length = rs.length
  | [], [], _ => rfl
  | [], _ :: _, h => h.elim
  | _ :: _, [], h => h.elim
  | a :: as, r :: rs, h => by rw [List.length_cons, List.length_cons, LL.len h.2]
theorem LL.keep {H H' : Hp} : ∀ {as : List Addr} {rs : List (List Int)}, LL H as rs → (∀ a ∈ as, ∀ o, H a = some o → H' a = some o) → LL H' as rs
  | [], [], _, _ => trivial
  | [], _ :: _, h, _ => h.elim
  | _ :: _, [], h, _ => h.elim
  | a :: as, r :: rs, h, k => ⟨k a List.mem_cons_self _ h.1, LL.keep h.2 fun b hb => k b (List.mem_cons_of_mem _ hb)⟩
theorem LL.same {H H' : Hp} {as : List Addr} {rs : List (List Int)} (h : LL H as rs) (s : Same H H') : LL H' as rs := h.keep fun a _ o e => s a o e
theorem LL.get {H : Hp} : ∀ {as : List Addr} {rs : List (List Int)} {i : Nat} {a : Addr}, LL H as rs → as[i]? = some a → ∃ r, rs[i]? = some r ∧ H a = some (.lst (r.map V.int))
  | [], [], _, _, _, e => by simp at e
  | [], _ :: _, _, _, h, _ => h.elim
  | _ :: _, [], _, _, h, _ => h.elim
  | a :: as, r :: rs, 0, b, h, e => by
    have e2 : a = b := Option.some.inj e
    subst e2
    exact ⟨r, rfl, h.1⟩
  | a :: as, r :: rs, i + 1, b, h, e => LL.get (i := i) h.2 e
theorem LL.tracked {H : Hp} {as : List Addr} {rs : List (List Int)} (h : LL H as rs) {a : Addr} (ha : a ∈ as) : ∃ o, H a = some o := by
  obtain ⟨i, hi⟩ := List.mem_iff_getElem?.mp ha
  obtain ⟨r, _, e⟩ := h.get hi
  exact ⟨_, e⟩
theorem LL.snoc {H : Hp} : ∀ {as : List Addr} {rs : List (List Int)} {a : Addr} {r : List Int}, LL H as rs → H a = some (.lst (r.map V.int)) → LL H (as ++ [a]) (rs ++ [r])
  | [], [], _, _, _, e => ⟨e, trivial⟩
  | [], _ :: _, _, _, h, _ => h.elim
  | _ :: _, [], _, _, h, _ => h.elim
  | b :: as, s :: rs, _, _, h, e => ⟨h.1, LL.snoc h.2 e⟩
theorem LL.drop {H : Hp} : ∀ {as : List Addr} {rs : List (List Int)} (k : Nat), LL H as rs → LL H (as.drop k) (rs.drop k)
  | as, rs, 0, h => h
  | [], [], k + 1, _ => trivial
  | [], _ :: _, _ + 1, h => h.elim
  | _ :: _, [], _ + 1, h => h.elim
  | _ :: as, _ :: rs, k + 1, h => LL.drop k h.2
theorem dp_LL {K : PySem.W.Frag} {H : Hp} : ∀ {as : List Addr} {rs : List (List Int)}, LL H as rs → DpAll K H (as.map V.ref) (rs.map dL)
  | [], [], _ => .nil
  | [], _ :: _, h => h.elim
  | _ :: _, [], h => h.elim
  | _ :: _, _ :: _, h => .cons (dp_list h.1) (dp_LL h.2)
theorem dp_lists {K : PySem.W.Frag} {H : Hp} {l : Addr} {as : List Addr} {rs : List (List Int)} (hl : H l = some (.lst (as.map V.ref))) (h : LL H as rs) : Dp K H (.ref l) (dLL rs) := .lst (SqL.of hl) (dp_LL h)
theorem ref_at {as : List Addr} {i : Nat} {a : Addr} (h : as[i]? = some a) : (as.map V.ref)[i]? = some (V.ref a) := by
  rw [List.getElem?_map, h]
  rfl
theorem ref_at_inv {as : List Addr} {i : Nat} {v : V} (h : (as.map V.ref)[i]? = some v) : ∃ a, as[i]? = some a ∧ v = V.ref a := by
  rw [List.getElem?_map] at h
  cases e : as[i]? with
  | none => rw [e] at h; cases h
  | some x => rw [e] at h; exact ⟨x, rfl, (Option.some.inj h).symm⟩
theorem cutV_tail (xs : List V) (k : Nat) : cutV xs (some (k : Int)) none = xs.drop k := by
  unfold cutV
  rw [HT.sIx_none, HT.sIx_nat]
  by_cases h : k ≤ xs.length
  · rw [Nat.min_eq_left h, List.take_of_length_le (by rw [List.length_drop]; exact Nat.le_refl _)]
  · rw [Nat.min_eq_right (by omega), List.drop_of_length_le (Nat.le_refl _), List.drop_of_length_le (by omega), List.take_nil]
end Fo
namespace Fo
open PySem PySem.Spec PyProof.Rows L2
/-! ### sums -/
def ind (b : Bool) : Nat := if b then 1 else 0
def sumN (l : List Int) (f : Int → Nat) : Nat := (l.map f).sum
theorem sumN_nil (f : Int → Nat) : sumN [] f = 0 := rfl
theorem sumN_cons (a : Int) (l : List Int) (f : Int → Nat) : sumN (a :: l) f = f a + sumN l f := by
  unfold sumN
  rw [List.map_cons, List.sum_cons]
theorem sumN_append (l m : List Int) (f : Int → Nat) : sumN (l ++ m) f = sumN l f + sumN m f := by
  unfold sumN
  rw [List.map_append, List.sum_append]
theorem sumN_perm {l m : List Int} (h : l.Perm m) (f : Int → Nat) : sumN l f = sumN m f := by
  induction h with
  | nil => rfl
  | cons x _ ih => rw [sumN_cons, sumN_cons, ih]
  | swap x y l => rw [sumN_cons, sumN_cons, sumN_cons, sumN_cons]; omega
  | trans _ _ h1 h2 => exact h1.trans h2
theorem sumN_congr {l : List Int} {f g : Int → Nat} (h : ∀ x ∈ l, f x = g x) : sumN l f = sumN l g := by
  unfold sumN
  rw [List.map_congr_left h]
theorem sumN_map (l : List Int) (g : Int → Int) (f : Int → Nat) : sumN (l.map g) f = sumN l (fun x => f (g x)) := by
  unfold sumN
  rw [List.map_map]
  rfl
theorem sumN_zero {l : List Int} {f : Int → Nat} (h : ∀ x ∈ l, f x = 0) : sumN l f = 0 := by
  rw [sumN_congr h]
  induction l with
  | nil => rfl
  | cons a l ih => rw [sumN_cons, ih fun x hx => h x (List.mem_cons_of_mem _ hx)]
theorem sumN_add (l : List Int) (f g : Int → Nat) : sumN l (fun x => f x + g x) = sumN l f + sumN l g := by
  induction l with
  | nil => rfl
  | cons a l ih => rw [sumN_cons, sumN_cons, sumN_cons, ih]; omega
theorem sumN_swap (l m : List Int) (f : Int → Int → Nat) : sumN l (fun i => sumN m (fun j => f i j)) = sumN m (fun j => sumN l (fun i => f i j)) := by
  induction l with
  | nil => exact (sumN_zero fun x _ => rfl).symm
  | cons a l ih =>
    rw [sumN_cons, ih, ← sumN_add]
    exact sumN_congr fun x _ => by rw [sumN_cons]
theorem filter_len (l : List Int) (p : Int → Bool) : (l.filter p).length = sumN l (fun x => ind (p x)) := by
  induction l with
  | nil => rfl
  | cons a l ih =>
    rw [sumN_cons, List.filter_cons]
    unfold ind at ih ⊢
    cases p a
    · simp only [Bool.false_eq_true, if_false]; omega
    · simp only [if_true, List.length_cons]; omega
/-! ### a list by its places -/
def g0 (s : List Int) (i : Int) : Int := s.getD i.toNat 0
theorem g0_at {s : List Int} {i : Nat} {x : Int} (h : s[i]? = some x) : g0 s (i : Int) = x := by
  unfold g0
  rw [Int.toNat_natCast, List.getD_eq_getElem?_getD, h]
  rfl
theorem by_places (s : List Int) : s = (rg s.length).map (g0 s) := by
  apply List.ext_getElem?
  intro i
  unfold rg
  rw [List.getElem?_map, List.getElem?_map]
  by_cases h : i < s.length
  · rw [List.getElem?_range h, List.getElem?_eq_getElem h]
    show some s[i] = some (g0 s (i : Int))
    rw [g0_at (List.getElem?_eq_getElem h)]
  · rw [List.getElem?_eq_none (by omega), List.getElem?_eq_none (by rw [List.length_range]; omega)]
    rfl
theorem rg_succ (n : Nat) : rg (n + 1) = rg n ++ [(n : Int)] := by
  unfold rg
  rw [List.range_succ, List.map_append]
  rfl
/-- how many of the later ones are less -/
def cntL (s : List Int) (i : Nat) : Nat := ((s.drop (i + 1)).filter (fun x => decide (x < g0 s i))).length
def invF (n : Nat) (a : Int → Int) : Nat := sumN (rg n) fun i => sumN (rg n) fun j => ind (decide (i < j) && decide (a j < a i))
def invN (s : List Int) : Nat := sumN (rg s.length) fun i => cntL s i.toNat
theorem drop_sum (n i : Nat) (f : Int → Nat) : sumN ((rg n).drop (i + 1)) f = sumN (rg n) fun j => if (i : Int) < j then f j else 0 := by
  induction n with
  | zero => rfl
  | succ n ih =>
    rw [rg_succ, sumN_append, ← ih, List.drop_append, sumN_append, rg_len]
    congr 1
    by_cases h : i + 1 ≤ n
    · rw [show i + 1 - n = 0 by omega, List.drop_zero, sumN_cons, sumN_cons, sumN_nil, sumN_nil, if_pos (by omega)]
    · rw [show i + 1 - n = (i - n) + 1 by omega, List.drop_succ_cons, List.drop_nil, sumN_cons, sumN_nil, sumN_nil, if_neg (by omega)]
theorem cnt_sum (s : List Int) (i : Nat) : cntL s i = sumN (rg s.length) fun j => ind (decide ((i : Int) < j) && decide (g0 s j < g0 s i)) := by
  unfold cntL
  rw [filter_len]
  have e : s.drop (i + 1) = ((rg s.length).drop (i + 1)).map (g0 s) := by
    rw [List.map_drop, ← by_places]
  rw [e, sumN_map, drop_sum]
  apply sumN_congr
  intro j _
  unfold ind
  by_cases h : (i : Int) < j
  · simp [h]
  · simp [h]
theorem inv_eq (s : List Int) : invN s = invF s.length (g0 s) := by
  unfold invN invF
  apply sumN_congr
  intro i hi
  have := rg_mem.mp hi
  rw [cnt_sum, Int.toNat_of_nonneg this.1]
/-! ### places of things -/
def pos (ys : List Int) (x : Int) : Int := ((ys.idxOf x : Nat) : Int)
def seatsL (xs ys : List Int) : List Int := xs.map (pos ys)
theorem pos_of {n : Nat} {ys : List Int} (o : IsOrd n ys) {j : Nat} {x : Int} (h : ys[j]? = some x) : pos ys x = (j : Int) := by
  obtain ⟨hj, e⟩ := List.getElem?_eq_some_iff.mp h
  have m : x ∈ ys := List.mem_of_getElem? h
  have hi : ys.idxOf x < ys.length := List.idxOf_lt_length_iff.mpr m
  have h2 : ys[ys.idxOf x]? = some x := by
    rw [List.getElem?_eq_getElem hi]
    exact congrArg some (List.getElem_idxOf hi)
  unfold pos
  rw [nd_ix o.nodup h2 h]
theorem pos_at {n : Nat} {ys : List Int} (o : IsOrd n ys) {x : Int} (h0 : 0 ≤ x) (h1 : x < n) : ∃ j : Nat, j < n ∧ ys[j]? = some x ∧ pos ys x = (j : Int) := by
  obtain ⟨j, hj, e⟩ := ord_at o (t := x.toNat) (by omega)
  rw [Int.toNat_of_nonneg h0] at e
  exact ⟨j, hj, e, pos_of o e⟩
theorem back_pos {n : Nat} {ys ps : List Int} (o : IsOrd n ys) (h : IsBack ys ps) {x : Int} (h0 : 0 ≤ x) (h1 : x < n) : ps[x.toNat]? = some (pos ys x) := by
  obtain ⟨j, hj, e, ep⟩ := pos_at o h0 h1
  rw [ep]
  exact h.2 j x e
theorem seats_len (xs ys : List Int) : (seatsL xs ys).length = xs.length := by
  unfold seatsL
  rw [List.length_map]
theorem seats_at {xs ys : List Int} {i : Nat} {x : Int} (h : xs[i]? = some x) : (seatsL xs ys)[i]? = some (pos ys x) := by
  unfold seatsL
  rw [List.getElem?_map, h]
  rfl
theorem seats_self {n : Nat} {ys : List Int} (o : IsOrd n ys) : seatsL ys ys = rg n := by
  apply List.ext_getElem?
  intro i
  by_cases h : i < n
  · obtain ⟨x, hx, _⟩ := ord_ix o h
    rw [seats_at hx, pos_of o hx]
    unfold rg
    rw [List.getElem?_map, List.getElem?_range h]
    rfl
  · rw [List.getElem?_eq_none (by rw [seats_len, o.len]; omega), List.getElem?_eq_none (by rw [rg_len]; omega)]
theorem seats_ord {n : Nat} {xs ys : List Int} (ox : IsOrd n xs) (oy : IsOrd n ys) : IsOrd n (seatsL xs ys) := by
  have h : (seatsL xs ys).Perm (seatsL ys ys) := List.Perm.map _ (ox.trans oy.symm)
  rw [seats_self oy] at h
  exact h
theorem g0_ord {n : Nat} {s : List Int} (o : IsOrd n s) : s = (rg n).map (g0 s) := by
  have e := by_places s
  rw [o.len] at e
  exact e
/-- inversions from the other side -/
theorem inv_turn {n : Nat} {s t : List Int} (os : IsOrd n s) (ot : IsOrd n t) (h : ∀ u ∈ rg n, g0 s (g0 t u) = u) : invN s = invN t := by
  rw [inv_eq, inv_eq, os.len, ot.len]
  unfold invF
  have p1 : ∀ f : Int → Nat, sumN (rg n) f = sumN (rg n) fun u => f (g0 t u) := fun f => by
    have e : sumN ((rg n).map (g0 t)) f = sumN (rg n) fun u => f (g0 t u) := sumN_map _ _ _
    rw [← e, ← g0_ord ot]
    exact (sumN_perm ot f).symm
  rw [p1]
  rw [sumN_congr (g := fun u => sumN (rg n) fun v => ind (decide (g0 t u < g0 t v) && decide (v < u))) (fun u hu => by
    rw [p1]
    exact sumN_congr fun v hv => by rw [h u hu, h v hv])]
  rw [sumN_swap]
  apply sumN_congr
  intro v _
  apply sumN_congr
  intro u _
  rw [Bool.and_comm]
theorem seats_turn {n : Nat} {xs ys : List Int} (ox : IsOrd n xs) (oy : IsOrd n ys) : ∀ u ∈ rg n, g0 (seatsL xs ys) (g0 (seatsL ys xs) u) = u := by
  intro u hu
  have hb := rg_mem.mp hu
  obtain ⟨y, hy, y0, y1⟩ := ord_ix oy (j := u.toNat) (by omega)
  have e1 : g0 (seatsL ys xs) u = pos xs y := by
    have := g0_at (seats_at (ys := xs) hy)
    rw [Int.toNat_of_nonneg hb.1] at this
    exact this
  obtain ⟨j, hj, ej, pj⟩ := pos_at ox y0 y1
  rw [e1, pj, g0_at (seats_at (ys := ys) ej), pos_of oy hy]
  omega
/-! ### how far two orders are -/
def farSwap (xs ys : List Int) : Int := ((invN (seatsL xs ys) : Nat) : Int)
def spotL (xs ys : List Int) : List Int := (rg xs.length).filter fun p => !decide (g0 xs p = g0 ys p)
def farSpot (xs ys : List Int) : Int := (((spotL xs ys).length : Nat) : Int)
def absI (i : Int) : Int := if i < 0 then -i else i
def gapsL (xs ys : List Int) : List Int := (rg xs.length).map fun p => absI (p - g0 (seatsL xs ys) p)
def maxL (l : List Int) : Int := l.foldr max 0
def farShift (xs ys : List Int) : Int := maxL (gapsL xs ys)
theorem maxL_of : ∀ {l : List Int} {m : Int}, (∀ x ∈ l, 0 ≤ x) → m ∈ l → (∀ x ∈ l, x ≤ m) → maxL l = m := by
  intro l m h0 hm hle
  have key : ∀ l : List Int, (∀ x ∈ l, x ≤ m) → maxL l ≤ m := by
    intro l hl
    induction l with
    | nil => exact h0 m hm
    | cons a l ih =>
      show max a (maxL l) ≤ m
      have h1 := hl a List.mem_cons_self
      have h2 := ih fun x hx => hl x (List.mem_cons_of_mem _ hx)
      omega
  have key2 : ∀ l : List Int, ∀ x ∈ l, x ≤ maxL l := by
    intro l
    induction l with
    | nil => intro x hx; exact absurd hx List.not_mem_nil
    | cons a l ih =>
      intro x hx
      show x ≤ max a (maxL l)
      rcases List.mem_cons.mp hx with rfl | hx
      · omega
      · have := ih x hx
        omega
  have := key l hle
  have := key2 l m hm
  omega
theorem gaps_nonneg (xs ys : List Int) : ∀ x ∈ gapsL xs ys, 0 ≤ x := by
  intro x hx
  obtain ⟨p, _, rfl⟩ := List.mem_map.mp hx
  unfold absI
  split <;> omega
theorem maxL_mem {l : List Int} (h0 : ∀ x ∈ l, 0 ≤ x) (hl : 0 < l.length) : maxL l ∈ l ∧ ∀ x ∈ l, x ≤ maxL l := by
  induction l with
  | nil => exact absurd hl (Nat.lt_irrefl _)
  | cons a l ih =>
    show max a (maxL l) ∈ a :: l ∧ ∀ x ∈ a :: l, x ≤ max a (maxL l)
    by_cases c : 0 < l.length
    · obtain ⟨h1, h2⟩ := ih (fun x hx => h0 x (List.mem_cons_of_mem _ hx)) c
      constructor
      · by_cases d : maxL l ≤ a
        · rw [Int.max_eq_left d]
          exact List.mem_cons_self
        · rw [Int.max_eq_right (by omega)]
          exact List.mem_cons_of_mem _ h1
      · intro x hx
        rcases List.mem_cons.mp hx with rfl | hx
        · omega
        · have := h2 x hx
          omega
    · have e : l = [] := List.eq_nil_of_length_eq_zero (by omega)
      subst e
      have := h0 a List.mem_cons_self
      have e2 : max a (maxL []) = a := by show max a 0 = a; omega
      rw [e2]
      exact ⟨List.mem_cons_self, fun x hx => by rw [List.mem_singleton.mp hx]; exact Int.le_refl _⟩
theorem farSwap_turn {n : Nat} {xs ys : List Int} (ox : IsOrd n xs) (oy : IsOrd n ys) : farSwap ys xs = farSwap xs ys := by
  unfold farSwap
  rw [inv_turn (seats_ord ox oy) (seats_ord oy ox) (seats_turn ox oy)]
theorem inv_rg (n : Nat) : invN (rg n) = 0 := by
  rw [inv_eq]
  unfold invF
  apply sumN_zero
  intro i hi
  apply sumN_zero
  intro j hj
  rw [rg_len] at hi hj
  have hi2 := rg_mem.mp hi
  have hj2 := rg_mem.mp hj
  have e : ∀ k : Int, k ∈ rg n → g0 (rg n) k = k := fun k hk => by
    have := rg_mem.mp hk
    have z : (rg n)[k.toNat]? = some k := by
      unfold rg
      rw [List.getElem?_map, List.getElem?_range (by omega)]
      show some ((k.toNat : Nat) : Int) = some k
      rw [Int.toNat_of_nonneg this.1]
    have z2 := g0_at z
    rw [Int.toNat_of_nonneg this.1] at z2
    exact z2
  rw [e i hi, e j hj]
  unfold ind
  by_cases c : i < j
  · have d : ¬ j < i := by omega
    simp [c, d]
  · simp [c]
theorem farSwap_self {n : Nat} {xs : List Int} (ox : IsOrd n xs) : farSwap xs xs = 0 := by
  unfold farSwap
  rw [seats_self ox, inv_rg]
  rfl
theorem farSpot_turn {xs ys : List Int} (h : xs.length = ys.length) : farSpot ys xs = farSpot xs ys := by
  unfold farSpot spotL
  rw [h]
  congr 3
  funext p
  congr 1
  by_cases c : g0 ys p = g0 xs p
  · rw [decide_eq_true c, decide_eq_true c.symm]
  · rw [decide_eq_false c, decide_eq_false fun e => c e.symm]
theorem farSpot_self (xs : List Int) : farSpot xs xs = 0 := by
  unfold farSpot spotL
  have e : ((rg xs.length).filter fun p => !decide (g0 xs p = g0 xs p)) = [] := by
    rw [List.filter_eq_nil_iff]
    intro a _
    simp
  rw [e]
  rfl
theorem gaps_len (xs ys : List Int) : (gapsL xs ys).length = xs.length := by
  unfold gapsL
  rw [List.length_map, rg_len]
theorem gaps_sub {n : Nat} {xs ys : List Int} (ox : IsOrd n xs) (oy : IsOrd n ys) : ∀ g ∈ gapsL ys xs, g ∈ gapsL xs ys := by
  intro g hg
  obtain ⟨u, hu, rfl⟩ := List.mem_map.mp hg
  rw [oy.len] at hu
  have hb := (seats_ord oy ox).mem (x := g0 (seatsL ys xs) u) (by
    have e := g0_ord (seats_ord oy ox)
    rw [e]
    exact List.mem_map.mpr ⟨u, hu, by rw [← e]⟩)
  refine List.mem_map.mpr ⟨g0 (seatsL ys xs) u, by rw [ox.len]; exact rg_mem.mpr hb, ?_⟩
  rw [seats_turn ox oy u hu]
  unfold absI
  split <;> split <;> omega
theorem farShift_turn {n : Nat} {xs ys : List Int} (ox : IsOrd n xs) (oy : IsOrd n ys) (hn : 1 ≤ n) : farShift ys xs = farShift xs ys := by
  unfold farShift
  obtain ⟨h1, h2⟩ := maxL_mem (gaps_nonneg xs ys) (by rw [gaps_len, ox.len]; exact hn)
  exact maxL_of (gaps_nonneg ys xs) (gaps_sub oy ox _ h1) fun x hx => h2 x (gaps_sub ox oy x hx)
theorem farShift_self {n : Nat} {xs : List Int} (ox : IsOrd n xs) (hn : 1 ≤ n) : farShift xs xs = 0 := by
  unfold farShift
  have z : ∀ g ∈ gapsL xs xs, g = 0 := by
    intro g hg
    obtain ⟨u, hu, rfl⟩ := List.mem_map.mp hg
    rw [ox.len] at hu
    have hb := rg_mem.mp hu
    rw [seats_self ox]
    have e : (rg n)[u.toNat]? = some u := by
      unfold rg
      rw [List.getElem?_map, List.getElem?_range (by omega)]
      show some ((u.toNat : Nat) : Int) = some u
      rw [Int.toNat_of_nonneg hb.1]
    have z2 := g0_at e
    rw [Int.toNat_of_nonneg hb.1] at z2
    rw [z2]
    unfold absI
    split <;> omega
  obtain ⟨h1, _⟩ := maxL_mem (gaps_nonneg xs xs) (by rw [gaps_len, ox.len]; exact hn)
  exact z _ h1
end Fo
namespace Fo
open PySem PySem.Spec PyProof.Rows L2
/-! ### turned pairs, one after the other -/
def invR : List Int → Nat
  | [] => 0
  | x :: r => (r.filter (fun z => decide (z < x))).length + invR r
theorem rg_cons (n : Nat) : rg (n + 1) = 0 :: (rg n).map (· + 1) := by
  unfold rg
  rw [List.range_succ_eq_map, List.map_cons, List.map_map, List.map_map]
  rfl
theorem inv_NR : ∀ s : List Int, invN s = invR s
  | [] => rfl
  | x :: r => by
    have ih := inv_NR r
    unfold invN at ih ⊢
    rw [List.length_cons, rg_cons, sumN_cons, sumN_map]
    show cntL (x :: r) (0 : Int).toNat + _ = (r.filter (fun z => decide (z < x))).length + invR r
    rw [← ih]
    have e1 : cntL (x :: r) (0 : Int).toNat = (r.filter (fun z => decide (z < x))).length := rfl
    rw [e1]
    congr 1
    apply sumN_congr
    intro i hi
    have hb := rg_mem.mp hi
    obtain ⟨j, rfl⟩ : ∃ j : Nat, i = (j : Int) := ⟨i.toNat, by omega⟩
    rw [show ((j : Int) + 1).toNat = j + 1 by omega, Int.toNat_natCast]
    unfold cntL
    have e2 : g0 (x :: r) ((j + 1 : Nat) : Int) = g0 r (j : Int) := by
      unfold g0
      rw [Int.toNat_natCast, Int.toNat_natCast]
      rfl
    rw [e2]
    rfl
theorem filt_perm {a b : List Int} (h : a.Perm b) (p : Int → Bool) : (a.filter p).length = (b.filter p).length := (h.filter p).length_eq
theorem invR_at : ∀ (A : List Int) (a b : Int) (B : List Int), b < a → invR (A ++ a :: b :: B) = invR (A ++ b :: a :: B) + 1
  | [], a, b, B, h => by
    show ((b :: B).filter (fun z => decide (z < a))).length + ((B.filter (fun z => decide (z < b))).length + invR B) = ((a :: B).filter (fun z => decide (z < b))).length + ((B.filter (fun z => decide (z < a))).length + invR B) + 1
    rw [List.filter_cons, List.filter_cons, decide_eq_true h, decide_eq_false (show ¬ a < b by omega), if_pos rfl, if_neg (by decide), List.length_cons]
    omega
  | x :: A, a, b, B, h => by
    have ih := invR_at A a b B h
    show ((A ++ a :: b :: B).filter (fun z => decide (z < x))).length + invR (A ++ a :: b :: B) = ((A ++ b :: a :: B).filter (fun z => decide (z < x))).length + invR (A ++ b :: a :: B) + 1
    rw [ih, filt_perm (List.Perm.append_left A (List.Perm.swap b a B))]
    omega
theorem invR_sw {s : List Int} {p : Nat} {a b : Int} (ha : s[p]? = some a) (hb : s[p + 1]? = some b) (h : b < a) : invR s = invR (sw s p) + 1 := by
  have hl := (List.getElem?_eq_some_iff.mp hb).1
  obtain ⟨A, x, y, B, rfl, rfl⟩ := split2 hl
  have ex : x = a := by
    rw [List.getElem?_append_right (Nat.le_refl _), Nat.sub_self] at ha
    exact Option.some.inj ha
  have ey : y = b := by
    rw [List.getElem?_append_right (by omega), show A.length + 1 - A.length = 1 by omega] at hb
    exact Option.some.inj hb
  subst ex ey
  rw [sw_at, invR_at A x y B h]
def firstDesc : List Int → Option Nat
  | [] => none
  | [_] => none
  | x :: y :: r => if y < x then some 0 else (firstDesc (y :: r)).map (· + 1)
theorem fd_cons (x y : Int) (r : List Int) : firstDesc (x :: y :: r) = if y < x then some 0 else (firstDesc (y :: r)).map (· + 1) := by rw [firstDesc]
theorem fd_some : ∀ {s : List Int} {p : Nat} {a b : Int}, (∀ (j : Nat) (u v : Int), j < p → s[j]? = some u → s[j + 1]? = some v → u ≤ v) → s[p]? = some a → s[p + 1]? = some b → b < a → firstDesc s = some p
  | [], p, a, b, _, ha, _, _ => by simp at ha
  | [_], p, a, b, _, _, hb, _ => by simp at hb
  | x :: y :: r, 0, a, b, _, ha, hb, h => by
    have e1 : x = a := Option.some.inj ha
    have e2 : y = b := Option.some.inj hb
    rw [fd_cons, if_pos (by omega)]
  | x :: y :: r, p + 1, a, b, hl, ha, hb, h => by
    have h0 : x ≤ y := hl 0 x y (by omega) rfl rfl
    have ih := fd_some (s := y :: r) (p := p) (a := a) (b := b) (fun j u v hj hu hv => hl (j + 1) u v (by omega) hu hv) ha hb h
    rw [fd_cons, if_neg (by omega), ih]
    rfl
theorem fd_none : ∀ {s : List Int}, (∀ (j : Nat) (u v : Int), s[j]? = some u → s[j + 1]? = some v → u ≤ v) → firstDesc s = none
  | [], _ => rfl
  | [_], _ => rfl
  | x :: y :: r, hl => by
    have h0 : x ≤ y := hl 0 x y rfl rfl
    have ih := fd_none (s := y :: r) (fun j u v hu hv => hl (j + 1) u v hu hv)
    rw [fd_cons, if_neg (by omega), ih]
    rfl
theorem fd_at : ∀ {s : List Int} {p : Nat}, firstDesc s = some p → ∃ a b, s[p]? = some a ∧ s[p + 1]? = some b ∧ b < a ∧ ∀ (j : Nat) (u v : Int), j < p → s[j]? = some u → s[j + 1]? = some v → u ≤ v
  | [], p, h => by cases h
  | [_], p, h => by cases h
  | x :: y :: r, p, h => by
    rw [fd_cons] at h
    by_cases c : y < x
    · rw [if_pos c] at h
      cases h
      exact ⟨x, y, rfl, rfl, c, fun j u v hj => absurd hj (Nat.not_lt_zero _)⟩
    · rw [if_neg c] at h
      cases e : firstDesc (y :: r) with
      | none => rw [e] at h; cases h
      | some q =>
        rw [e] at h
        have ep : q + 1 = p := Option.some.inj h
        subst ep
        obtain ⟨a, b, ha, hb, hlt, hl⟩ := fd_at e
        refine ⟨a, b, ha, hb, hlt, fun j u v hj hu hv => ?_⟩
        cases j with
        | zero =>
          have e1 : x = u := Option.some.inj hu
          have e2 : y = v := Option.some.inj hv
          omega
        | succ j => exact hl j u v (by omega) hu hv
theorem fd_sorted : ∀ {s : List Int}, firstDesc s = none → s.Pairwise (· ≤ ·)
  | [], _ => List.Pairwise.nil
  | [_], _ => List.pairwise_singleton _ _
  | x :: y :: r, h => by
    rw [fd_cons] at h
    by_cases c : y < x
    · rw [if_pos c] at h; cases h
    · rw [if_neg c] at h
      have e : firstDesc (y :: r) = none := by
        cases e : firstDesc (y :: r) with
        | none => rfl
        | some q => rw [e] at h; cases h
      have ih := fd_sorted e
      refine List.Pairwise.cons (fun z hz => ?_) ih
      rcases List.mem_cons.mp hz with rfl | hz
      · omega
      · have := (List.pairwise_cons.mp ih).1 z hz
        omega
theorem invR_sorted : ∀ {s : List Int}, s.Pairwise (· ≤ ·) → invR s = 0
  | [], _ => rfl
  | x :: r, h => by
    obtain ⟨h1, h2⟩ := List.pairwise_cons.mp h
    show (r.filter (fun z => decide (z < x))).length + invR r = 0
    rw [invR_sorted h2, List.filter_eq_nil_iff.mpr (fun z hz => by
      have := h1 z hz
      simp
      omega)]
    rfl
theorem fd_pos {s : List Int} (h : 0 < invR s) : ∃ p, firstDesc s = some p := by
  cases e : firstDesc s with
  | none => rw [invR_sorted (fd_sorted e)] at h; omega
  | some p => exact ⟨p, rfl⟩
/-- the first of the shortest walks, of at most m places -/
def gw : Nat → List Int → List Int
  | 0, _ => []
  | m + 1, s => match firstDesc s with
    | none => []
    | some p => (p : Int) :: gw m (sw s p)
abbrev walkL (s : List Int) : List Int := gw (invR s) s
theorem walk_none {s : List Int} (h : firstDesc s = none) : walkL s = [] := by
  unfold walkL
  rw [invR_sorted (fd_sorted h)]
  rfl
theorem walk_some {s : List Int} {p : Nat} (h : firstDesc s = some p) : walkL s = (p : Int) :: walkL (sw s p) := by
  obtain ⟨a, b, ha, hb, hlt, _⟩ := fd_at h
  unfold walkL
  rw [invR_sw ha hb hlt, gw, h]
theorem walk_len : ∀ (m : Nat) (s : List Int), invR s = m → (walkL s).length = m
  | 0, s, h => by
    unfold walkL
    rw [h]
    rfl
  | m + 1, s, h => by
    obtain ⟨p, hp⟩ := fd_pos (s := s) (by omega)
    obtain ⟨a, b, ha, hb, hlt, _⟩ := fd_at hp
    rw [walk_some hp, List.length_cons, walk_len m (sw s p) (by have := invR_sw ha hb hlt; omega)]
theorem invR_len (s : List Int) : invR s ≤ s.length * s.length := by
  induction s with
  | nil => exact Nat.le_refl _
  | cons x r ih =>
    show (r.filter _).length + invR r ≤ (r.length + 1) * (r.length + 1)
    have h1 : (r.filter (fun z => decide (z < x))).length ≤ r.length := List.length_filter_le _ _
    have h2 : (r.length + 1) * (r.length + 1) = r.length * r.length + r.length + r.length + 1 := by
      rw [Nat.add_mul, Nat.mul_add]
      omega
    omega
theorem seats_sw {xs ys : List Int} {p : Nat} (h : p + 1 < xs.length) : seatsL (sw xs p) ys = sw (seatsL xs ys) p := by
  obtain ⟨A, a, b, B, rfl, rfl⟩ := split2 h
  rw [sw_at]
  unfold seatsL
  rw [List.map_append, List.map_cons, List.map_cons, List.map_append, List.map_cons, List.map_cons]
  have e := sw_at (A.map (pos ys)) (pos ys a) (pos ys b) (B.map (pos ys))
  rw [List.length_map] at e
  exact e.symm
theorem cut_sw {xs : List Int} {p : Nat} {a b : Int} (ha : xs[p]? = some a) (hb : xs[p + 1]? = some b) : xs.take p ++ [b, a] ++ xs.drop (p + 2) = sw xs p := by
  have hl := (List.getElem?_eq_some_iff.mp hb).1
  obtain ⟨A, x, y, B, rfl, rfl⟩ := split2 hl
  have ex : x = a := by
    rw [List.getElem?_append_right (Nat.le_refl _), Nat.sub_self] at ha
    exact Option.some.inj ha
  have ey : y = b := by
    rw [List.getElem?_append_right (by omega), show A.length + 1 - A.length = 1 by omega] at hb
    exact Option.some.inj hb
  subst ex ey
  rw [sw_at, List.take_left, List.drop_append, List.drop_of_length_le (by omega), show A.length + 2 - A.length = 2 by omega]
  simp
theorem filt_map (l : List Int) (f : Int → Int) (p : Int → Bool) : ((l.map f).filter p).length = (l.filter (fun x => p (f x))).length := by
  rw [List.filter_map, List.length_map]
  rfl
end Fo
namespace Fo
open PySem PySem.Spec PyProof.Rows L2
theorem pos_ord {n : Nat} {xs : List Int} (o : IsOrd n xs) : IsOrd n ((rg n).map (pos xs)) := by
  have h : ((rg n).map (pos xs)).Perm (seatsL xs xs) := List.Perm.map _ o.symm
  rw [seats_self o] at h
  exact h
theorem pos_in {n : Nat} {xs : List Int} (o : IsOrd n xs) {t : Int} (h : t ∈ rg n) : pos xs t ∈ rg n := by
  have := (pos_ord o).mem (List.mem_map.mpr ⟨t, h, rfl⟩)
  exact rg_mem.mpr this
theorem pos_inj {n : Nat} {xs : List Int} (o : IsOrd n xs) {t u : Int} (ht : t ∈ rg n) (hu : u ∈ rg n) (e : pos xs t = pos xs u) : t = u := by
  have h1 := rg_mem.mp ht
  have h2 := rg_mem.mp hu
  obtain ⟨i, _, ei, pi⟩ := pos_at o h1.1 h1.2
  obtain ⟨j, _, ej, pj⟩ := pos_at o h2.1 h2.2
  have : i = j := by omega
  subst this
  exact Option.some.inj (ei.symm.trans ej)
/-- a sum over the places is a sum over the things -/
theorem sum_pos {n : Nat} {xs : List Int} (o : IsOrd n xs) (f : Int → Nat) : sumN (rg n) f = sumN (rg n) fun t => f (pos xs t) := by
  have e : sumN ((rg n).map (pos xs)) f = sumN (rg n) fun t => f (pos xs t) := sumN_map _ _ _
  rw [← e]
  exact (sumN_perm (pos_ord o) f).symm
theorem sum_g0 {n : Nat} {xs : List Int} (o : IsOrd n xs) (f : Int → Nat) : sumN (rg n) f = sumN (rg n) fun p => f (g0 xs p) := by
  have e : sumN ((rg n).map (g0 xs)) f = sumN (rg n) fun t => f (g0 xs t) := sumN_map _ _ _
  rw [← e, ← g0_ord o]
  exact (sumN_perm o f).symm
theorem g0_pos {n : Nat} {xs : List Int} (o : IsOrd n xs) {t : Int} (h : t ∈ rg n) : g0 xs (pos xs t) = t := by
  have h1 := rg_mem.mp h
  obtain ⟨j, _, ej, pj⟩ := pos_at o h1.1 h1.2
  rw [pj]
  exact g0_at ej
theorem pos_g0 {n : Nat} {xs : List Int} (o : IsOrd n xs) {p : Int} (h : p ∈ rg n) : pos xs (g0 xs p) = p := by
  have h1 := rg_mem.mp h
  obtain ⟨x, hx, _⟩ := ord_ix o (j := p.toNat) (by omega)
  have e := g0_at hx
  rw [Int.toNat_of_nonneg h1.1] at e
  rw [e, pos_of o hx]
  omega
theorem g0_in {n : Nat} {xs : List Int} (o : IsOrd n xs) {p : Int} (h : p ∈ rg n) : g0 xs p ∈ rg n := by
  have h1 := rg_mem.mp h
  obtain ⟨x, hx, x0, x1⟩ := ord_ix o (j := p.toNat) (by omega)
  have e := g0_at hx
  rw [Int.toNat_of_nonneg h1.1] at e
  rw [e]
  exact rg_mem.mpr ⟨x0, x1⟩
end Fo
namespace Fo
open PySem PySem.Spec PyProof.Rows L2
/-! ### all orders of few things -/
def extO (n : Nat) (o : List Int) : List (List Int) := ((rg n).filter fun t => !decide (t ∈ o)).map fun t => o ++ [t]
def allK (n : Nat) : Nat → List (List Int)
  | 0 => [[]]
  | k + 1 => (allK n k).flatMap (extO n)
theorem allK_row {n : Nat} : ∀ (k : Nat) (r : List Int), r ∈ allK n k → r.length = k ∧ r.Nodup ∧ ∀ x ∈ r, x ∈ rg n
  | 0, r, h => by
    rw [List.mem_singleton.mp h]
    exact ⟨rfl, List.nodup_nil, fun x hx => absurd hx List.not_mem_nil⟩
  | k + 1, r, h => by
    obtain ⟨o, ho, hr⟩ := List.mem_flatMap.mp h
    obtain ⟨h1, h2, h3⟩ := allK_row k o ho
    obtain ⟨t, ht, rfl⟩ := List.mem_map.mp hr
    obtain ⟨ht1, ht2⟩ := List.mem_filter.mp ht
    have hto : t ∉ o := by simpa using ht2
    refine ⟨by rw [List.length_append, h1]; rfl, ?_, fun x hx => ?_⟩
    · rw [List.nodup_append]
      refine ⟨h2, List.nodup_cons.mpr ⟨List.not_mem_nil, List.nodup_nil⟩, fun x hx y hy e => ?_⟩
      rw [List.mem_singleton.mp hy] at e
      exact hto (by rw [← e]; exact hx)
    · rcases List.mem_append.mp hx with hx | hx
      · exact h3 x hx
      · rw [List.mem_singleton.mp hx]
        exact ht1
theorem extO_len (n : Nat) (o : List Int) : (extO n o).length ≤ n := by
  unfold extO
  rw [List.length_map]
  have := List.length_filter_le (fun t => !decide (t ∈ o)) (rg n)
  rw [rg_len] at this
  exact this
theorem flat_len (n : Nat) : ∀ l : List (List Int), (l.flatMap (extO n)).length ≤ l.length * n
  | [] => Nat.zero_le _
  | o :: l => by
    rw [List.flatMap_cons, List.length_append, List.length_cons, Nat.add_mul, Nat.one_mul]
    have := flat_len n l
    have := extO_len n o
    omega
theorem allK_len {n : Nat} (hn : n ≤ 6) : ∀ k, k ≤ n → (allK n k).length ≤ 6 ^ k
  | 0, _ => Nat.le_refl _
  | k + 1, hk => by
    have ih := allK_len hn k (by omega)
    have h1 : (allK n (k + 1)).length ≤ (allK n k).length * n := flat_len n (allK n k)
    have h2 : (allK n k).length * n ≤ 6 ^ k * 6 := Nat.mul_le_mul ih hn
    rw [Nat.pow_succ]
    omega
theorem pow6 {k : Nat} (h : k ≤ 6) : 6 ^ k ≤ 46656 := by
  have : 6 ^ k ≤ 6 ^ 6 := Nat.pow_le_pow_right (by decide) h
  exact this
theorem nodup_count : ∀ {l : List Int}, l.Nodup → ∀ a, l.count a = if a ∈ l then 1 else 0
  | [], _, a => by simp
  | b :: l, h, a => by
    obtain ⟨h1, h2⟩ := List.nodup_cons.mp h
    have ih := nodup_count h2 a
    rw [List.count_cons, ih]
    by_cases c : b = a
    · subst c
      simp [h1]
    · have c2 : ¬ a = b := fun e => c e.symm
      simp [c, c2]
theorem nodup_ord {n : Nat} {s : List Int} (hl : s.length = n) (hn : s.Nodup) (hb : ∀ x ∈ s, x ∈ rg n) : IsOrd n s := by
  unfold IsOrd
  rw [List.perm_iff_count]
  intro a
  rw [nodup_count hn, nodup_count (rg_nodup n)]
  by_cases c : a ∈ s
  · rw [if_pos c, if_pos (hb a c)]
  · rw [if_neg c]
    by_cases d : a ∈ rg n
    · exfalso
      have := nodup_len (l := a :: s) (m := rg n) (List.nodup_cons.mpr ⟨c, hn⟩) fun x hx => by
        rcases List.mem_cons.mp hx with rfl | hx
        · exact d
        · exact hb x hx
      rw [List.length_cons, rg_len] at this
      omega
    · rw [if_neg d]
theorem all_ord {n : Nat} {r : List Int} (h : r ∈ allK n n) : IsOrd n r := by
  obtain ⟨h1, h2, h3⟩ := allK_row n r h
  exact nodup_ord h1 h2 h3
theorem inV_int (t : Int) : ∀ row : List Int, inV (.int t) (row.map V.int) = decide (t ∈ row)
  | [] => rfl
  | a :: r => by
    have ih := inV_int t r
    unfold inV at ih ⊢
    rw [List.map_cons, List.any_cons, ih, eqV_int]
    by_cases c : a = t
    · subst c
      simp
    · have c2 : ¬ t = a := fun e => c e.symm
      simp [c, c2]
theorem ext_more {n : Nat} {o : List Int} (j : Nat) : ((rg (j + 1)).filter fun t => !decide (t ∈ o)).map (fun t => o ++ [t]) = (((rg j).filter fun t => !decide (t ∈ o)).map fun t => o ++ [t]) ++ (if (j : Int) ∈ o then [] else [o ++ [(j : Int)]]) := by
  rw [rg_succ, List.filter_append, List.map_append, List.filter_cons]
  congr 1
  by_cases c : (j : Int) ∈ o
  · rw [decide_eq_true c, if_pos c]
    rfl
  · rw [decide_eq_false c, if_neg c]
    rfl
/-! ### comprehensions with two fors: a list, then a range -/
theorem lc2_list {K : PySem.W.Frag} {a : Addr} {xs : List V} {g : TG} {tt : TT} {wi1 : TI} {g1 : TG} {tt1 : TT} {te : TE} {vs vs1 : List Nat} {σ : L2.St} {H1 : Hp} {D : Addr} {Qd : Hp → Prop} (Pv : Nat → Hp → Prop) (h0 : Pv 0 (upd H1 D (.lst []))) (hl : ∀ i H, i ≤ xs.length → Pv i H → SqL K H a xs)
    (hs : ∀ i x H, xs[i]? = some x → Pv i H → g x (wipe σ vs) H fun σ2 H2 => wipe σ2 vs = wipe σ vs ∧ tt σ2 H2 fun b H3 =>
      if b = true then wi1 σ2 H3 fun J1 H4 => ∃ W1 : Nat → Nat → Hp → Prop, (∃ m, W1 0 m H4) ∧ ∀ j k H, W1 j k H →
        (J1.stop j H ∧ Pv (i + 1) H) ∨ (J1.go j H ∧ ∃ Nx1 : Hp → Prop, (∀ H', Nx1 H' → ∃ k', k' < k ∧ W1 (j + 1) k' H') ∧ ∀ x H', J1.yld j H x H' → g1 x (wipe σ2 vs1) H' fun σ3 H5 => wipe σ3 vs1 = wipe σ2 vs1 ∧ tt1 σ3 H5 fun b H6 =>
          if b = true then te σ3 H6 fun y H7 => ∃ acc, H7 D = some (.lst acc) ∧ acc.length < sizeLine ∧ Nx1 (upd H7 D (.lst (acc ++ [y]))) else Nx1 H6)
      else Pv (i + 1) H3) (hd : ∀ H, Pv xs.length H → Qd H) :
    ∃ W : Nat → Nat → Hp → Prop, (∃ m, W 0 m (upd H1 D (.lst []))) ∧ ∀ i m H, W i m H →
      ((Itl K a).stop i H ∧ Qd H) ∨ ((Itl K a).go i H ∧ ∃ Nx : Hp → Prop, (∀ H', Nx H' → ∃ m', m' < m ∧ W (i + 1) m' H') ∧ ∀ x H', (Itl K a).yld i H x H' → g x (wipe σ vs) H' fun σ2 H2 => wipe σ2 vs = wipe σ vs ∧ tt σ2 H2 fun b H3 =>
        if b = true then wi1 σ2 H3 fun J1 H4 => ∃ W1 : Nat → Nat → Hp → Prop, (∃ m, W1 0 m H4) ∧ ∀ j k H, W1 j k H →
          (J1.stop j H ∧ Nx H) ∨ (J1.go j H ∧ ∃ Nx1 : Hp → Prop, (∀ H', Nx1 H' → ∃ k', k' < k ∧ W1 (j + 1) k' H') ∧ ∀ x H', J1.yld j H x H' → g1 x (wipe σ2 vs1) H' fun σ3 H5 => wipe σ3 vs1 = wipe σ2 vs1 ∧ tt1 σ3 H5 fun b H6 =>
            if b = true then te σ3 H6 fun y H7 => ∃ acc, H7 D = some (.lst acc) ∧ acc.length < sizeLine ∧ Nx1 (upd H7 D (.lst (acc ++ [y]))) else Nx1 H6)
        else Nx H3) := by
  refine ⟨fun i m H => m = xs.length - i ∧ i ≤ xs.length ∧ Pv i H, ⟨xs.length, by simp, Nat.zero_le _, h0⟩, ?_⟩
  rintro i m H ⟨rfl, hi, p⟩
  have q := hl i H hi p
  by_cases hlt : i < xs.length
  · refine .inr ⟨⟨xs, xs[i], q, by simp [hlt]⟩, Pv (i + 1), fun H' p' => ⟨xs.length - (i + 1), by omega, rfl, hlt, p'⟩, fun x H' y => ?_⟩
    obtain ⟨e, y⟩ := y
    subst e
    exact hs i x _ (y _ q) p
  · have e : i = xs.length := by omega
    subst e
    exact .inl ⟨⟨xs, q, Nat.le_refl _⟩, hd H p⟩
theorem in_range {lo : Int} {n : Nat} {g1 : TG} {tt1 : TT} {te : TE} {vs1 : List Nat} {σ2 : L2.St} {H4 : Hp} {D : Addr} {Nx : Hp → Prop} (Pw : Nat → Hp → Prop) (h0 : Pw 0 H4)
    (hs : ∀ j H, j < n → Pw j H → g1 (.int (lo + j)) (wipe σ2 vs1) H fun σ3 H5 => wipe σ3 vs1 = wipe σ2 vs1 ∧ tt1 σ3 H5 fun b H6 =>
      if b = true then te σ3 H6 fun y H7 => ∃ acc, H7 D = some (.lst acc) ∧ acc.length < sizeLine ∧ Pw (j + 1) (upd H7 D (.lst (acc ++ [y]))) else Pw (j + 1) H6) (hd : ∀ H, Pw n H → Nx H) :
    ∃ W1 : Nat → Nat → Hp → Prop, (∃ m, W1 0 m H4) ∧ ∀ j k H, W1 j k H →
      ((Itr lo n).stop j H ∧ Nx H) ∨ ((Itr lo n).go j H ∧ ∃ Nx1 : Hp → Prop, (∀ H', Nx1 H' → ∃ k', k' < k ∧ W1 (j + 1) k' H') ∧ ∀ x H', (Itr lo n).yld j H x H' → g1 x (wipe σ2 vs1) H' fun σ3 H5 => wipe σ3 vs1 = wipe σ2 vs1 ∧ tt1 σ3 H5 fun b H6 =>
        if b = true then te σ3 H6 fun y H7 => ∃ acc, H7 D = some (.lst acc) ∧ acc.length < sizeLine ∧ Nx1 (upd H7 D (.lst (acc ++ [y]))) else Nx1 H6) := by
  refine ⟨fun j m H => m = n - j ∧ j ≤ n ∧ Pw j H, ⟨n, by simp, Nat.zero_le _, h0⟩, ?_⟩
  rintro j m H ⟨rfl, hi, p⟩
  by_cases hlt : j < n
  · refine .inr ⟨hlt, Pw (j + 1), fun H' p' => ⟨n - (j + 1), by omega, rfl, hlt, p'⟩, fun x H' y => ?_⟩
    obtain ⟨e, y⟩ := y
    subst e y
    exact hs j _ hlt p
  · have e : j = n := by omega
    subst e
    exact .inl ⟨Nat.le_refl _, hd H p⟩
end Fo
namespace Fo
open PySem PySem.Spec PyProof.Rows L2
def spWhole : Sp := fun vs H Q _ => ∃ i : Int, vs = [.int i] ∧ Q (.bl true) H
section
variable {P : Program} {w : World} {K : PySem.W.Frag} {mg : Str → Option Value} {base : Heap}
theorem scWhole : FnScope ["thing"] ["thing"] (defScope s_is_whole) := ⟨rfl, rfl, rfl, by decide +kernel, rfl, by decide +kernel, by decide +kernel⟩
theorem ok_whole {f : Addr} {fd : FuncData} {k : Nat} (T : Df K mg "is_whole" s_is_whole ["thing"] f fd) (B : Bi mg) : FnOk P w K mg base CX0 (k + 1) f fd ["thing"] spWhole := by
  refine T.F.ok scWhole (fun vs H Q E h => ?_) (fun cdv A outer s H vs Q E hr h => ?_)
  · obtain ⟨i, rfl, _⟩ := h
    rfl
  · obtain ⟨i, rfl, q⟩ := h
    refine ⟨_, pss_one (ps_ret (pe_and (pe_callB call_isi (by rfl) B.isinstance (by decide +kernel) (pa_cons (pv 0) (pa_cons (pe_bltn (v := .ty "int") (by rfl) B.int (by decide +kernel) rfl) pa_nil)))
      (pe_one (pe_not (pe_callB call_isi (by rfl) B.isinstance (by decide +kernel) (pa_cons (pv 0) (pa_cons (pe_bltn (v := .ty "bool") (by rfl) B.bool (by decide +kernel) rfl) pa_nil))))))), ?_⟩
    refine ⟨_, rfl, _, _, _, _, true, rfl, .ty _, .base (.int _), kit_ty (by decide +kernel), true, rfl, iteT ?_⟩
    exact ⟨_, rfl, _, _, _, _, false, rfl, .ty _, .base (.int _), kit_ty (by decide +kernel), false, rfl, q⟩
end
end Fo
namespace Fo
open PySem PySem.Spec PyProof.Rows L2
/-! ### whole numbers, orders -/
def spIsOrd : Sp := fun vs H Q _ => ∃ (a : Addr) (n : Nat) (ns : List Int), vs = [.ref a] ∧ H a = some (.lst (ns.map V.int)) ∧ IsOrd n ns ∧ 1 ≤ n ∧ n ≤ 12 ∧ ∀ H', Same H H' → Q (.bl true) H'
def spCheck : Sp := fun vs H Q _ => ∃ (a : Addr) (n : Nat) (ns : List Int), vs = [.ref a] ∧ H a = some (.lst (ns.map V.int)) ∧ IsOrd n ns ∧ 1 ≤ n ∧ n ≤ 12 ∧ ∀ H', Same H H' → Q .non H'
section
variable {P : Program} {w : World} {K : PySem.W.Frag} {mg : Str → Option Value} {base : Heap}
theorem scIsOrd : FnScope ["thing", "number"] ["thing"] (defScope s_is_order) := ⟨rfl, rfl, rfl, by decide +kernel, rfl, by decide +kernel, by decide +kernel⟩
theorem all_true (n : Nat) : (List.replicate n true).all id = true := by simp
set_option maxHeartbeats 2000000 in
theorem ok_is_order {f fW : Addr} {fd fdW : FuncData} {k : Nat} {t : Tok} (T : Df K mg "is_order" s_is_order ["thing"] f fd) (TW : Df K mg "is_whole" s_is_whole ["thing"] fW fdW) (B : Bi mg) (mM : mg "MOST_THINGS" = some (.int 12 t)) : FnOk P w K mg base CX0 (k + 2) f fd ["thing"] spIsOrd := by
  have GW : FnOk P w K mg base CX0 (k + 1) fW fdW ["thing"] spWhole := ok_whole TW B
  refine T.F.ok scIsOrd (fun vs H Q E h => ?_) (fun cdv A outer s H vs Q E hr h => ?_)
  · obtain ⟨a, n, ns, rfl, _⟩ := h
    rfl
  · obtain ⟨a, n, ns, rfl, hl, ho, hn1, hn2, q⟩ := h
    have hlm : (ns.map V.int).length = n := by rw [List.length_map, ho.len]
    refine ⟨_, pss_cons (ps_if (PW.pt (pw_or (pt_not (pt_val (pe_callB call_isi (by rfl) B.isinstance (by decide +kernel) (pa_cons (pv 0) (pa_cons (pe_bltn (v := .ty "list") (by rfl) B.list (by decide +kernel) rfl) pa_nil)))))
        (pw_or (pt_cmpR op_lt (pe_callB call_len_seq (by rfl) B.len PySem.boot_len (pa_cons (pv 0) pa_nil)) pe_int (nomark _)) (pw_or1 (pt_cmpR op_gt (pe_callB call_len_seq (by rfl) B.len PySem.boot_len (pa_cons (pv 0) pa_nil)) (pe_glob (v := .int 12) (by rfl) mM ⟨_, rfl⟩) (nomark _))))))
        (pss_one (ps_ret pe_bl)) pss_nil)
      (pss_cons (ps_if (pt_not (pt_val (pe_callB (cr_all rfl) (by rfl) B.all (by decide +kernel) (pa_cons (pe_lc (own := [("number", 1)]) (g := gName 1) (tt := tYes) (te := tCall spWhole [] E0 (tCons (tVar 1) tNil)) rfl scIsOrd.nd (pi_list (pv 0)) (blkOk_by (N := ["thing", "number"]) (sc := defScope s_is_order) (by decide +kernel)) (fun _ _ _ _ _ => pg_name (i := 1) scIsOrd.nd rfl (.inl rfl)) (fun _ _ _ _ _ => pts_nil)
          (fun _ _ _ _ _ => pe_call GW hr (by rfl) TW.g TW.F.kp TW.b .nil pass0 (pa_cons (pv 1) pa_nil))) pa_nil)))) (pss_one (ps_ret pe_bl)) pss_nil)
      (pss_one (ps_ret (pe_cmpR (op_eqD hr.units) (pe_callB cr_sorted (by rfl) B.sorted (by decide +kernel) (pa_cons (pv 0) pa_nil)) (pe_listRg rfl (by rfl) B.list (prg_1 (by rfl) B.range (pe_callB call_len_seq (by rfl) B.len PySem.boot_len (pa_cons (pv 0) pa_nil)))) (nomark _))))), ?_⟩
    refine ⟨_, rfl, _, _, _, _, true, rfl, .ty _, .base (.lst hl), kit_ty (by decide +kernel), true, rfl, iteF ?_⟩
    refine ⟨_, rfl, a, _, rfl, .inl (SqL.of hl), _, 1, rfl, rfl, _, rfl, ite2 (fun c => absurd (of_decide_eq_true c) (by rw [hlm]; omega)) (fun _ => ?_)⟩
    refine ⟨_, rfl, a, _, rfl, .inl (SqL.of hl), _, 12, rfl, rfl, _, rfl, ite2 (fun c => absurd (of_decide_eq_true c) (by rw [hlm]; omega)) (fun _ => ?_)⟩
    refine ⟨_, rfl, a, rfl, ⟨_, SqL.of hl⟩, fun p np => ?_⟩
    refine lc_list (K := K) (a := a) (xs := ns.map V.int) (fun i H3 => H3 p = some (.lst ((List.replicate i true).map V.bl)) ∧ Same H H3) ⟨upd_same, same_new np⟩ (fun i H3 _ hP => SqL.of (hP.2 _ _ hl)) (fun i x H3 hx hP => ?_) (fun H3 hP => ?_)
    · obtain ⟨y, ey, rfl⟩ := int_at_inv hx
      obtain ⟨hp3, sm⟩ := hP
      refine ⟨rfl, _, rfl, y, rfl, _, hp3, line_lt (by
        rw [List.length_map, List.length_replicate]
        have := (List.getElem?_eq_some_iff.mp hx).1
        omega), ?_, fun b o e => ?_⟩
      · rw [upd_same, List.replicate_succ', List.map_append]
        rfl
      · rw [upd_ne (ne_of_none e np)]
        exact sm _ _ e
    · obtain ⟨hp3, sm⟩ := hP
      have hl3 := sm _ _ hl
      refine ⟨p, _, rfl, SqL.of hp3, _, rfl, ?_⟩
      rw [all_true]
      refine iteF ?_
      refine ⟨_, rfl, a, ns, rfl, SqL.of hl3, by rw [ho.len]; omega, fun ns' s1 hperm hsrt ns1 => ?_⟩
      have hl4 := same_new (o := .lst (ns'.map V.int)) ns1 _ _ hl3
      refine ⟨_, rfl, a, _, rfl, .inl (SqL.of hl4), _, rfl, RgOk.of_le (by omega) (by rw [hlm]; omega) (by omega) (by omega), fun s2 ns2 => ?_⟩
      have e1 : ns' = rg n := sorted_eq (hperm.trans ho) hsrt (rg_sorted n)
      subst e1
      rw [hlm]
      have h1 : (upd (upd H3 s1 (.lst ((rg n).map V.int))) s2 (.lst (rgV 0 (n : Int)))) s1 = some (.lst ((rg n).map V.int)) := same_new ns2 _ _ upd_same
      have h2 : (upd (upd H3 s1 (.lst ((rg n).map V.int))) s2 (.lst (rgV 0 (n : Int)))) s2 = some (.lst ((rg n).map V.int)) := by rw [upd_same, rg_V]
      refine ⟨_, _, dp_list h1, dp_list h2, shaped_list _, shaped_list _, ?_⟩
      rw [eqv_list]
      exact q _ ((sm.trans (same_new ns1)).trans (same_new ns2))
end
end Fo
namespace Fo
open PySem PySem.Spec PyProof.Rows L2
def IsWay (w : Str) : Prop := w = "swap" ∨ w = "spot" ∨ w = "shift"
theorem n1 : ¬ (("spot" : Str) = "swap") := by decide +kernel
theorem n2 : ¬ (("shift" : Str) = "swap") := by decide +kernel
theorem n3 : ¬ (("shift" : Str) = "spot") := by decide +kernel
/-- the ways as the top has written them -/
structure Wy (K : PySem.W.Frag) (mg : Str → Option Value) (aW : Addr) : Prop where
  g : mg "WAYS" = some (.ref aW)
  t : ∀ H : Hp, SqT K H aW [.str "swap", .str "spot", .str "shift"]
theorem wy_mk {K : PySem.W.Frag} {mg : Str → Option Value} {aW : Addr} {dd : Option Addr} {n : Nat} {t1 t2 t3 : Tok} {sl : Array (Option Value)} (g : mg "WAYS" = some (.ref aW)) (l : K.lookup aW = some ⟨.type "tuple", dd, .seq #[.str "swap" t1, .str "spot" t2, .str "shift" t3] n, sl⟩) : Wy K mg aW :=
  ⟨g, fun H => .inr ⟨_, _, _, l, rfl, rfl, line_small (by show 3 ≤ 16777216; decide), .cons ⟨_, rfl⟩ (.cons ⟨_, rfl⟩ (.cons ⟨_, rfl⟩ .nil))⟩⟩
def spWay : Sp := fun vs H Q _ => ∃ (w : Str), vs = [.str w] ∧ IsWay w ∧ Q .non H
section
variable {P : Program} {w : World} {K : PySem.W.Frag} {mg : Str → Option Value} {base : Heap}
theorem scWay : FnScope ["thing"] ["thing"] (defScope s_check_way) := ⟨rfl, rfl, rfl, by decide +kernel, rfl, by decide +kernel, by decide +kernel⟩
theorem ok_way {f aW : Addr} {fd : FuncData} {k : Nat} (T : Df K mg "check_way" s_check_way ["thing"] f fd) (W : Wy K mg aW) (B : Bi mg) : FnOk P w K mg base CX0 (k + 1) f fd ["thing"] spWay := by
  refine T.F.ok scWay (fun vs H Q E h => ?_) (fun cdv A outer s H vs Q E hr h => ?_)
  · obtain ⟨z, rfl, _⟩ := h
    rfl
  · obtain ⟨z, rfl, hz, q⟩ := h
    refine ⟨_, 
      (pss_one (ps_if (PW.pt (pw_or (pt_not (pt_val (pe_callB call_isi (by rfl) B.isinstance (by decide +kernel) (pa_cons (pv 0) (pa_cons (pe_bltn (v := .ty "str") (by rfl) B.str (by decide +kernel) rfl) pa_nil))))) (pw_or1 (pt_cmpR op_notIn_seq (pv 0) (pe_glob (v := .ref aW) (by rfl) W.g rfl) (by rfl)))))
        (pss_one ps_never)
        pss_nil)), ?_⟩
    refine ⟨_, rfl, _, _, _, _, true, rfl, .ty _, .base (.str _), kit_ty (by decide +kernel), true, rfl, iteF ?_⟩
    rcases hz with rfl | rfl | rfl
    · exact ⟨_, rfl, aW, _, rfl, .inr (W.t H), rfl, rfl, _, rfl, ite2 (fun c => absurd c (by decide +kernel)) (fun _ => q)⟩
    · exact ⟨_, rfl, aW, _, rfl, .inr (W.t H), rfl, rfl, _, rfl, ite2 (fun c => absurd c (by decide +kernel)) (fun _ => q)⟩
    · exact ⟨_, rfl, aW, _, rfl, .inr (W.t H), rfl, rfl, _, rfl, ite2 (fun c => absurd c (by decide +kernel)) (fun _ => q)⟩
end
end Fo
namespace Fo
open PySem PySem.Spec PyProof.Rows L2
def spFrom : Sp := fun vs H Q _ => ∃ (r least : Int), vs = [.int r, .int least] ∧ least ≤ r ∧ Q .non H
section
variable {P : Program} {w : World} {K : PySem.W.Frag} {mg : Str → Option Value} {base : Heap}
theorem scFrom : FnScope ["thing", "least"] ["thing", "least"] (defScope s_check_from) := ⟨rfl, rfl, rfl, by decide +kernel, rfl, by decide +kernel, by decide +kernel⟩
theorem ok_from {f fW : Addr} {fd fdW : FuncData} {k : Nat} (T : Df K mg "check_from" s_check_from ["thing", "least"] f fd) (T_is_whole : Df K mg "is_whole" s_is_whole ["thing"] fW fdW) (B : Bi mg) : FnOk P w K mg base CX0 (k + 2) f fd ["thing", "least"] spFrom := by
  have G_is_whole : FnOk P w K mg base CX0 (k + 1) fW fdW ["thing"] spWhole := ok_whole T_is_whole B
  refine T.F.ok scFrom (fun vs H Q E h => ?_) (fun cdv A outer s H vs Q E hr h => ?_)
  · obtain ⟨r, least, rfl, _⟩ := h
    rfl
  · obtain ⟨r, least, rfl, hle, q⟩ := h
    refine ⟨_, 
      (pss_one (ps_if (PW.pt (pw_or (pt_not (pt_val (pe_call G_is_whole hr (by rfl) T_is_whole.g T_is_whole.F.kp T_is_whole.b .nil pass0 (pa_cons (pv 0) pa_nil)))) (pw_or1 (pt_cmpR op_lt (pv 0) (pv 1) (nomark _)))))
        (pss_one ps_never)
        pss_nil)), ?_⟩
    refine ⟨_, rfl, r, rfl, _, rfl, iteF ?_⟩
    exact ⟨_, rfl, _, rfl, r, least, rfl, rfl, _, rfl, ite2 (fun z => absurd (of_decide_eq_true z) (by omega)) (fun _ => q)⟩
end
end Fo
namespace Fo
open PySem PySem.Spec PyProof.Rows L2
def spSize : Sp := fun vs H Q _ => ∃ (n most : Int), vs = [.int n, .int most] ∧ 1 ≤ n ∧ n ≤ most ∧ Q .non H
section
variable {P : Program} {w : World} {K : PySem.W.Frag} {mg : Str → Option Value} {base : Heap}
theorem scSize : FnScope ["thing", "most"] ["thing", "most"] (defScope s_check_size) := ⟨rfl, rfl, rfl, by decide +kernel, rfl, by decide +kernel, by decide +kernel⟩
theorem ok_size {f fW : Addr} {fd fdW : FuncData} {k : Nat} (T : Df K mg "check_size" s_check_size ["thing", "most"] f fd) (T_is_whole : Df K mg "is_whole" s_is_whole ["thing"] fW fdW) (B : Bi mg) : FnOk P w K mg base CX0 (k + 2) f fd ["thing", "most"] spSize := by
  have G_is_whole : FnOk P w K mg base CX0 (k + 1) fW fdW ["thing"] spWhole := ok_whole T_is_whole B
  refine T.F.ok scSize (fun vs H Q E h => ?_) (fun cdv A outer s H vs Q E hr h => ?_)
  · obtain ⟨n, most, rfl, _⟩ := h
    rfl
  · obtain ⟨n, most, rfl, h1, h2, q⟩ := h
    refine ⟨_, 
      (pss_one (ps_if (PW.pt (pw_or (pt_not (pt_val (pe_call G_is_whole hr (by rfl) T_is_whole.g T_is_whole.F.kp T_is_whole.b .nil pass0 (pa_cons (pv 0) pa_nil)))) (pw_or (pt_cmpR op_lt (pv 0) pe_int (nomark _)) (pw_or1 (pt_cmpR op_gt (pv 0) (pv 1) (nomark _))))))
        (pss_one ps_never)
        pss_nil)), ?_⟩
    refine ⟨_, rfl, n, rfl, _, rfl, iteF ?_⟩
    refine ⟨_, rfl, n, 1, rfl, rfl, _, rfl, ite2 (fun z => absurd (of_decide_eq_true z) (by omega)) (fun _ => ?_)⟩
    exact ⟨_, rfl, _, rfl, n, most, rfl, rfl, _, rfl, ite2 (fun z => absurd (of_decide_eq_true z) (by omega)) (fun _ => q)⟩
end
end Fo
namespace Fo
open PySem PySem.Spec PyProof.Rows L2
def farW (w : Str) (xs ys : List Int) : Int := if w = "swap" then farSwap xs ys else if w = "spot" then farSpot xs ys else farShift xs ys
theorem farW_swap (xs ys : List Int) : farW "swap" xs ys = farSwap xs ys := if_pos rfl
theorem farW_spot (xs ys : List Int) : farW "spot" xs ys = farSpot xs ys := by
  unfold farW
  rw [if_neg n1, if_pos rfl]
theorem farW_shift (xs ys : List Int) : farW "shift" xs ys = farShift xs ys := by
  unfold farW
  rw [if_neg n2, if_neg n3]
theorem farW_turn {w : Str} {n : Nat} {xs ys : List Int} (ox : IsOrd n xs) (oy : IsOrd n ys) (hn : 1 ≤ n) : farW w ys xs = farW w xs ys := by
  unfold farW
  rw [farSwap_turn ox oy, farSpot_turn (by rw [ox.len, oy.len]), farShift_turn ox oy hn]
theorem farW_self {w : Str} {n : Nat} {xs : List Int} (ox : IsOrd n xs) (hn : 1 ≤ n) : farW w xs xs = 0 := by
  unfold farW
  rw [farSwap_self ox, farSpot_self, farShift_self ox hn]
  split
  · rfl
  · split <;> rfl
abbrev rAbs : List V → Hp → VK → Prop := fun xs H Q => ∃ i, xs = [.int i] ∧ Q (.int (if i < 0 then -i else i)) H
def spFar : Sp := fun vs H Q _ => ∃ (w : Str) (a b : Addr) (n : Nat) (xs ys : List Int), vs = [.str w, .ref a, .ref b] ∧ IsWay w ∧ H a = some (.lst (xs.map V.int)) ∧ H b = some (.lst (ys.map V.int)) ∧ IsOrd n xs ∧ IsOrd n ys ∧ 1 ≤ n ∧ n ≤ 12 ∧ ∀ (H' : Hp), Same H H' → Q (.int (farW w xs ys)) H'
end Fo
namespace Fo
open PySem PySem.Spec PyProof.Rows L2
def two (vs : List V) (H : Hp) (a b : Addr) (n : Nat) (xs ys : List Int) : Prop := vs = [.ref a, .ref b] ∧ H a = some (.lst (xs.map V.int)) ∧ H b = some (.lst (ys.map V.int)) ∧ IsOrd n xs ∧ IsOrd n ys ∧ 1 ≤ n ∧ n ≤ 12
end Fo
namespace Fo
open PySem PySem.Spec PyProof.Rows L2
def spPlaces : Sp := fun vs H Q _ => ∃ (a : Addr) (n : Nat) (ns : List Int), vs = [.ref a] ∧ H a = some (.lst (ns.map V.int)) ∧ IsOrd n ns ∧ 1 ≤ n ∧ n ≤ 12 ∧
  ∀ (ps : List Int) (l : Addr) (H' : Hp), IsBack ns ps → H l = none → H' l = some (.lst (ps.map V.int)) → Same H H' → Q (.ref l) H'
section
variable {P : Program} {w : World} {K : PySem.W.Frag} {mg : Str → Option Value} {base : Heap}
theorem scPlaces : FnScope ["order", "places", "place", "thing"] ["order"] (defScope s_places_in) := ⟨rfl, rfl, rfl, by decide +kernel, rfl, by decide +kernel, by decide +kernel⟩
set_option maxHeartbeats 2000000 in
theorem ok_places {f : Addr} {fd : FuncData} {k : Nat} (T : Df K mg "places_in" s_places_in ["order"] f fd) (B : Bi mg) : FnOk P w K mg base CX0 (k + 1) f fd ["order"] spPlaces := by
  refine T.F.ok scPlaces (fun vs H Q E h => ?_) (fun cdv A outer s H vs Q E hr h => ?_)
  · obtain ⟨a, n, ns, rfl, _⟩ := h
    rfl
  · obtain ⟨a, n, ns, rfl, ha, ho, hn1, hn2, q⟩ := h
    have hlm : (ns.map V.int).length = n := by rw [List.length_map, ho.len]
    have hz : ∀ m : Nat, (List.replicate m [V.int 0]).flatten = (List.replicate m (0 : Int)).map V.int := by
      intro m
      induction m with
      | zero => rfl
      | succ m ih => rw [List.replicate_succ, List.replicate_succ, List.flatten_cons, ih]; rfl
    refine ⟨_, 
      (pss_cons (ps_set (i := 1) scPlaces.nd rfl (.inl rfl) (pe_op op_rep (pe_lst (pa_cons pe_int pa_nil)) (pe_callB call_len_seq (by rfl) B.len PySem.boot_len (pa_cons (pv 0) pa_nil))))
      (pss_cons (ps_for PassesOwn.never rfl (pi_enum (by rfl) B.enumerate (pa_cons (pv 0) pa_nil)) (pg_tup (by rfl) (pgs_cons (pg_name (i := 2) scPlaces.nd rfl (.inl rfl)) (pgs_cons (pg_name (i := 3) scPlaces.nd rfl (.inl rfl)) pgs_nil)))
        (pss_one (ps_asg (pv 2) (pg_sub (pv 1) (pv 3) set_list))))
      (pss_one (ps_ret (pv 1))))), ?_⟩
    refine ⟨line_small (by show 1 ≤ 16777216; decide), fun z nz => ?_⟩
    have s1 := same_new (o := .lst [.int 0]) nz
    refine ⟨_, rfl, a, _, rfl, .inl (SqL.of (s1 _ _ ha)), z, _, _, rfl, rfl, upd_same, by omega, by rw [hlm]; omega, line_small (by rw [hlm, Int.toNat_natCast]; show 1 * n ≤ _; omega), fun l nl => ?_⟩
    have s2 := s1.trans (same_new (o := .lst (List.replicate (((ns.map V.int).length : Nat) : Int).toNat [V.int 0]).flatten) nl)
    have nHl : H l = none := s1.free nl
    refine ⟨_, rfl, a, _, rfl, SqL.of (s2 _ _ ha), ?_⟩
    refine for_enumL (xs := ns.map V.int) (fun i σ H3 => ∃ (y2 y3 : Option V) (ps : List Int), σ = [some (.ref a), some (.ref l), y2, y3] ∧ H3 l = some (.lst (ps.map V.int)) ∧ ps.length = n ∧ (∀ (j : Nat) (x : Int), j < i → ns[j]? = some x → ps[x.toNat]? = some (j : Int)) ∧ Same H H3)
      ⟨none, none, List.replicate n 0, rfl, by rw [upd_same, hz, hlm, Int.toNat_natCast], by rw [List.length_replicate], fun j x hj => absurd hj (Nat.not_lt_zero _), s2⟩ (fun i σ H3 hP => by obtain ⟨_, _, _, _, _, _, _, sm⟩ := hP; exact SqL.of (sm _ _ ha)) (fun i x t σ H3 hx hP nt => ?_) (fun σ H3 hP => ?_)
    · obtain ⟨y2, y3, ps, rfl, hl3, el, hat, sm⟩ := hP
      obtain ⟨y, ey, rfl⟩ := int_at_inv hx
      have hy := ho.mem (List.mem_of_getElem? ey)
      have s3 := same_new (o := .tup [.int (i : Nat), .int y]) nt
      have hl4 := s3 _ _ hl3
      refine ⟨t, _, rfl, .inl (.inl upd_same), rfl, _, _, rfl, _, _, rfl, rfl, ?_⟩
      refine ⟨_, rfl, _, rfl, _, rfl, l, _, _, y.toNat, rfl, rfl, hl4, ix_n (by omega) (by rw [List.length_map]; omega), ?_⟩
      refine ⟨_, _, ps.set y.toNat (i : Int), rfl, by rw [upd_same, List.map_set], by rw [List.length_set]; exact el, fun j x hj hx2 => ?_, fun c o e => ?_⟩
      · by_cases c : j = i
        · subst c
          have e1 : x = y := Option.some.inj (hx2.symm.trans ey)
          subst e1
          rw [List.getElem?_set_self (by omega)]
        · have hx3 := ho.mem (List.mem_of_getElem? hx2)
          have ne : y.toNat ≠ x.toNat := fun e => c (nd_ix ho.nodup hx2 (by rw [ey]; congr 1; omega))
          rw [List.getElem?_set_ne ne]
          exact hat j x (by omega) hx2
      · rw [upd_ne (ne_of_none e nHl)]
        exact s3 _ _ (sm _ _ e)
    · obtain ⟨y2, y3, ps, rfl, hl3, el, hat, sm⟩ := hP
      rw [hlm] at hat
      refine ⟨_, rfl, q ps l H3 ⟨by rw [el, ho.len], fun j x hx => hat j x ?_ hx⟩ nHl hl3 sm⟩
      have := (List.getElem?_eq_some_iff.mp hx).1
      rw [ho.len] at this
      exact this
end
end Fo
namespace Fo
open PySem PySem.Spec PyProof.Rows L2
theorem g0_getD {s : List Int} {i : Nat} {x : Int} (h : s[i]? = some x) : g0 s i = x := g0_at h
def spSeats : Sp := fun vs H Q _ => ∃ (a b : Addr) (n : Nat) (xs ys : List Int), two vs H a b n xs ys ∧ ∀ (l : Addr) (H' : Hp), H l = none → H' l = some (.lst ((seatsL xs ys).map V.int)) → Same H H' → Q (.ref l) H'
section
variable {P : Program} {w : World} {K : PySem.W.Frag} {mg : Str → Option Value} {base : Heap}
theorem scSeats : FnScope ["one", "other", "places", "thing"] ["one", "other"] (defScope s_seats_in) := ⟨rfl, rfl, rfl, by decide +kernel, rfl, by decide +kernel, by decide +kernel⟩
set_option maxHeartbeats 2000000 in
theorem ok_seats {f fP : Addr} {fd fdP : FuncData} {k : Nat} (T : Df K mg "seats_in" s_seats_in ["one", "other"] f fd) (T_places_in : Df K mg "places_in" s_places_in ["order"] fP fdP) (B : Bi mg) : FnOk P w K mg base CX0 (k + 2) f fd ["one", "other"] spSeats := by
  have G_places_in : FnOk P w K mg base CX0 (k + 1) fP fdP ["order"] spPlaces := ok_places T_places_in B
  refine T.F.ok scSeats (fun vs H Q E h => ?_) (fun cdv A outer s H vs Q E hr h => ?_)
  · obtain ⟨a, b, n, xs, ys, ⟨rfl, _⟩, _⟩ := h
    rfl
  · obtain ⟨a, b, n, xs, ys, ⟨rfl, ha, hb, ox, oy, hn1, hn2⟩, q⟩ := h
    refine ⟨_, 
      (pss_cons (ps_set (i := 2) scSeats.nd rfl (.inr rfl) (pe_call G_places_in hr (by rfl) T_places_in.g T_places_in.F.kp T_places_in.b .nil pass0 (pa_cons (pv 1) pa_nil)))
      (pss_one (ps_ret (pe_lc (own := [("thing", 3)]) (g := (gName 3)) (tt := tYes) (te := (tOp (rIxL K) (tVar 2) (tVar 3))) rfl scSeats.nd (pi_list (pv 0)) (blkOk_by (N := ["one", "other", "places", "thing"]) (sc := defScope s_seats_in) (by decide +kernel)) (fun _ _ _ _ _ => (pg_name (i := 3) scSeats.nd rfl (.inl rfl))) (fun _ _ _ _ _ => pts_nil) (fun _ _ _ _ _ => (pe_ix ix_list (pv 2) (pv 3) (fun _ _ => rfl))))))), ?_⟩
    refine ⟨_, rfl, b, n, ys, rfl, hb, oy, hn1, hn2, fun ps l H1 hps nl hl s1 => ?_⟩
    refine ⟨_, rfl, a, rfl, ⟨_, SqL.of (s1 _ _ ha)⟩, fun D nD => ?_⟩
    have nHD : H D = none := s1.free nD
    refine lc_list (K := K) (a := a) (xs := xs.map V.int) (fun i H3 => H3 D = some (.lst (((seatsL xs ys).take i).map V.int)) ∧ H3 l = some (.lst (ps.map V.int)) ∧ Same H H3) ⟨upd_same, same_new nD _ _ hl, s1.trans (same_new nD)⟩ (fun i H3 _ hP => SqL.of (hP.2.2 _ _ ha)) (fun i x H3 hx hP => ?_) (fun H3 hP => ?_)
    · obtain ⟨y, ey, rfl⟩ := int_at_inv hx
      obtain ⟨hD3, hl3, sm⟩ := hP
      have hy := ox.mem (List.mem_of_getElem? ey)
      have hi := (List.getElem?_eq_some_iff.mp ey).1
      rw [ox.len] at hi
      refine ⟨rfl, _, rfl, _, rfl, l, _, _, _, rfl, rfl, SqL.of hl3, at_of (j := y.toNat) (by omega) (int_at (back_pos oy hps hy.1 hy.2)), _, hD3, line_lt (by rw [List.length_map, List.length_take]; omega), ?_, ?_, fun c o e => ?_⟩
      · rw [upd_same, take_more (seats_at ey), List.map_append]
        rfl
      · rw [upd_ne (ne_of_none hl nD)]
        exact hl3
      · rw [upd_ne (ne_of_none e nHD)]
        exact sm _ _ e
    · obtain ⟨hD3, hl3, sm⟩ := hP
      rw [List.take_of_length_le (by rw [seats_len, List.length_map]; exact Nat.le_refl _)] at hD3
      exact q D H3 nHD hD3 sm
end
end Fo
namespace Fo
open PySem PySem.Spec PyProof.Rows L2
def spSwap : Sp := fun vs H Q _ => ∃ (a b : Addr) (n : Nat) (xs ys : List Int), two vs H a b n xs ys ∧ ∀ (H' : Hp), Same H H' → Q (.int (farSwap xs ys)) H'
def spSpot : Sp := fun vs H Q _ => ∃ (a b : Addr) (n : Nat) (xs ys : List Int), two vs H a b n xs ys ∧ ∀ (H' : Hp), Same H H' → Q (.int (farSpot xs ys)) H'
def spShift : Sp := fun vs H Q _ => ∃ (a b : Addr) (n : Nat) (xs ys : List Int), two vs H a b n xs ys ∧ ∀ (H' : Hp), Same H H' → Q (.int (farShift xs ys)) H'
section
variable {P : Program} {w : World} {K : PySem.W.Frag} {mg : Str → Option Value} {base : Heap}
theorem scSwap : FnScope ["one", "other", "seats", "turned", "place", "seat", "later"] ["one", "other"] (defScope s_far_by_swap) := ⟨rfl, rfl, rfl, by decide +kernel, rfl, by decide +kernel, by decide +kernel⟩
set_option maxHeartbeats 2000000 in
theorem ok_swap {f fP : Addr} {fd fdP : FuncData} {k : Nat} (T : Df K mg "far_by_swap" s_far_by_swap ["one", "other"] f fd) (T_seats_in : Df K mg "seats_in" s_seats_in ["one", "other"] fP fdP) (G_seats_in : FnOk P w K mg base CX0 k fP fdP ["one", "other"] spSeats) (B : Bi mg) : FnOk P w K mg base CX0 (k + 1) f fd ["one", "other"] spSwap := by
  refine T.F.ok scSwap (fun vs H Q E h => ?_) (fun cdv A outer s H vs Q E hr h => ?_)
  · obtain ⟨a, b, n, xs, ys, ⟨rfl, _⟩, _⟩ := h
    rfl
  · obtain ⟨a, b, n, xs, ys, ⟨rfl, ha, hb, ox, oy, hn1, hn2⟩, q⟩ := h
    refine ⟨_, 
      (pss_cons (ps_set (i := 2) scSwap.nd rfl (.inl rfl) (pe_call G_seats_in hr (by rfl) T_seats_in.g T_seats_in.F.kp T_seats_in.b .nil pass0 (pa_cons (pv 0) (pa_cons (pv 1) pa_nil))))
      (pss_cons (ps_set (i := 3) scSwap.nd rfl (.inl rfl) pe_int)
      (pss_cons (ps_for PassesOwn.never rfl (pi_enum (by rfl) B.enumerate (pa_cons (pv 2) pa_nil)) (pg_tup (by rfl) (pgs_cons (pg_name (i := 4) scSwap.nd rfl (.inl rfl)) (pgs_cons (pg_name (i := 5) scSwap.nd rfl (.inr rfl)) pgs_nil)))
        (pss_one (ps_aug (i := 3) scSwap.nd rfl (.inl rfl) (pe_callB call_len_seq (by rfl) B.len PySem.boot_len (pa_cons (pe_lc (own := [("later", 6)]) (g := (gName 6)) (tt := (tTest (tOp (rI0 fun i j => .bl (decide (i < j))) (tVar 6) (tVar 5)))) (te := (tVar 6)) rfl scSwap.nd (pi_list (pe_slice sl_list (pv 2) (po_some (pe_op op_add (pv 4) pe_int)) po_none)) (blkOk_by (N := ["one", "other", "seats", "turned", "place", "seat", "later"]) (sc := defScope s_far_by_swap) (by decide +kernel)) (fun _ _ _ _ _ => (pg_name (i := 6) scSwap.nd rfl (.inl rfl))) (fun _ _ _ _ _ => (pts_one (pt_cmpR op_lt (pv 6) (pv 5) (nomark _)))) (fun _ _ _ _ _ => (pv 6))) pa_nil)) ip_add)))
      (pss_one (ps_ret (pv 3)))))), ?_⟩
    refine ⟨_, rfl, _, rfl, a, b, n, xs, ys, ⟨rfl, ha, hb, ox, oy, hn1, hn2⟩, fun l H1 nl hl s1 => ?_⟩
    have os := seats_ord ox oy
    refine ⟨_, rfl, l, _, rfl, SqL.of hl, ?_⟩
    refine for_enumL (xs := (seatsL xs ys).map V.int) (fun i σ H3 => ∃ (y4 y5 y6 : Option V), σ = [some (.ref a), some (.ref b), some (.ref l), some (.int ((sumN (rg i) (fun p => cntL (seatsL xs ys) p.toNat) : Nat) : Int)), y4, y5, y6] ∧ H3 l = some (.lst ((seatsL xs ys).map V.int)) ∧ Same H H3)
      ⟨none, none, none, rfl, hl, s1⟩ (fun i σ H3 hP => by obtain ⟨_, _, _, _, hl3, _⟩ := hP; exact SqL.of hl3) (fun i x t σ H3 hx hP nt => ?_) (fun σ H3 hP => ?_)
    · obtain ⟨y4, y5, y6, rfl, hl3, sm⟩ := hP
      obtain ⟨y, ey, rfl⟩ := int_at_inv hx
      have hi := (List.getElem?_eq_some_iff.mp ey).1
      rw [os.len] at hi
      have s3 := same_new (o := .tup [.int (i : Nat), .int y]) nt
      refine ⟨t, _, rfl, .inl (.inl upd_same), rfl, _, _, rfl, _, _, rfl, rfl, ?_⟩
      refine ⟨_, rfl, _, rfl, _, rfl, (i : Int), 1, rfl, rfl, _, rfl, l, _, rfl, SqL.of (s3 _ _ hl3), fun c nc => ?_⟩
      have s4 := s3.trans (same_new (o := .lst (cutV ((seatsL xs ys).map V.int) (some ((i : Int) + 1)) none)) nc)
      have ecut : cutV ((seatsL xs ys).map V.int) (some ((i : Int) + 1)) none = (((seatsL xs ys).drop (i + 1)).map V.int) := by
        rw [cut_ints, show (i : Int) + 1 = ((i + 1 : Nat) : Int) by omega, cutI_tail]
      have hc4 : (upd (upd H3 t (.tup [.int (i : Nat), .int y])) c (.lst (cutV ((seatsL xs ys).map V.int) (some ((i : Int) + 1)) none))) c = some (.lst (((seatsL xs ys).drop (i + 1)).map V.int)) := by rw [upd_same, ecut]
      refine ⟨c, rfl, ⟨_, SqL.of hc4⟩, fun D nD => ?_⟩
      have ncD : c ≠ D := ne_of_none hc4 nD
      refine lc_list (K := K) (a := c) (xs := ((seatsL xs ys).drop (i + 1)).map V.int) (fun m H5 => H5 D = some (.lst (((((seatsL xs ys).drop (i + 1)).take m).filter (fun z => decide (z < g0 (seatsL xs ys) i))).map V.int)) ∧ H5 c = some (.lst (((seatsL xs ys).drop (i + 1)).map V.int)) ∧ Same H3 H5)
        ⟨upd_same, by rw [upd_ne ncD]; exact hc4, s4.trans (same_new nD)⟩ (fun m H5 _ hP => SqL.of hP.2.1) (fun m x H5 hx hP => ?_) (fun H5 hP => ?_)
      · obtain ⟨hD5, hc5, s5⟩ := hP
        obtain ⟨z, ez, rfl⟩ := int_at_inv hx
        have eg : g0 (seatsL xs ys) i = y := g0_at ey
        refine ⟨rfl, _, rfl, _, rfl, z, y, rfl, rfl, _, rfl, ite2 (fun c => ?_) (fun c => ?_)⟩
        · have hz : z < y := of_decide_eq_true c
          refine ⟨_, rfl, _, hD5, line_lt ?_, ?_, by rw [upd_ne ncD]; exact hc5, fun u o e => ?_⟩
          · rw [List.length_map]
            refine Nat.lt_of_le_of_lt (List.length_filter_le _ _) ?_
            rw [List.length_take, List.length_drop, os.len]
            omega
          · rw [upd_same, filter_more _ ez, eg, decide_eq_true hz, if_pos rfl, List.map_append]
            rfl
          · rw [upd_ne (ne_of_none (s4 _ _ e) nD)]
            exact s5 _ _ e
        · refine ⟨?_, hc5, s5⟩
          rw [filter_more _ ez, eg, decide_eq_false (fun hz => c (decide_eq_true hz)), if_neg (by decide), List.append_nil]
          rw [eg] at hD5
          exact hD5
      · obtain ⟨hD5, hc5, s5⟩ := hP
        rw [List.length_map, List.take_length] at hD5
        refine ⟨D, _, rfl, .inl (SqL.of hD5), _, _, rfl, rfl, ?_⟩
        refine ⟨some (.int (i : Int)), some (.int y), y6, ?_, s5 _ _ hl3, sm.trans s5⟩
        rw [rg_succ, sumN_append, sumN_cons, sumN_nil, List.length_map]
        show [some (.ref a), some (.ref b), some (.ref l), some (V.int (((sumN (rg i) (fun p => cntL (seatsL xs ys) p.toNat) : Nat) : Int) + ((cntL (seatsL xs ys) i : Nat) : Int))), some (.int (i : Int)), some (.int y), y6] = _
        rw [Int.toNat_natCast, Int.natCast_add, Nat.add_zero]
    · obtain ⟨y4, y5, y6, rfl, hl3, sm⟩ := hP
      refine ⟨_, rfl, ?_⟩
      have z := q H3 sm
      unfold farSwap invN at z
      rw [List.length_map]
      exact z
theorem scSpot : FnScope ["one", "other", "place"] ["one", "other"] (defScope s_far_by_spot) := ⟨rfl, rfl, rfl, by decide +kernel, rfl, by decide +kernel, by decide +kernel⟩
set_option maxHeartbeats 2000000 in
theorem ok_spot {f : Addr} {fd : FuncData} {k : Nat} (T : Df K mg "far_by_spot" s_far_by_spot ["one", "other"] f fd) (B : Bi mg) : FnOk P w K mg base CX0 (k + 1) f fd ["one", "other"] spSpot := by
  refine T.F.ok scSpot (fun vs H Q E h => ?_) (fun cdv A outer s H vs Q E hr h => ?_)
  · obtain ⟨a, b, n, xs, ys, ⟨rfl, _⟩, _⟩ := h
    rfl
  · obtain ⟨a, b, n, xs, ys, ⟨rfl, ha, hb, ox, oy, hn1, hn2⟩, q⟩ := h
    have hxl : (xs.map V.int).length = n := by rw [List.length_map, ox.len]
    refine ⟨_, 
      (pss_one (ps_ret (pe_callB call_len_seq (by rfl) B.len PySem.boot_len (pa_cons (pe_lc (own := [("place", 2)]) (g := (gName 2)) (tt := (tTest (tOp rNe (tOp (rIxL K) (tVar 0) (tVar 2)) (tOp (rIxL K) (tVar 1) (tVar 2))))) (te := (tVar 2)) rfl scSpot.nd (pi_range1 (by rfl) B.range (pa_cons (pe_callB call_len_seq (by rfl) B.len PySem.boot_len (pa_cons (pv 0) pa_nil)) pa_nil)) (blkOk_by (N := ["one", "other", "place"]) (sc := defScope s_far_by_spot) (by decide +kernel)) (fun _ _ _ _ _ => (pg_name (i := 2) scSpot.nd rfl (.inl rfl))) (fun _ _ _ _ _ => (pts_one (pt_cmpR op_ne (pe_ix ix_list (pv 0) (pv 2) (fun _ _ => rfl)) (pe_ix ix_list (pv 1) (pv 2) (fun _ _ => rfl)) (nomark _)))) (fun _ _ _ _ _ => (pv 2))) pa_nil)))), ?_⟩
    refine ⟨_, rfl, a, _, rfl, .inl (SqL.of ha), _, rfl, by omega, by rw [hxl]; omega, fun D nD => ?_⟩
    rw [hxl, Int.toNat_natCast]
    refine lc_range (lo := 0) (n := n) (fun m H3 => H3 D = some (.lst (((rg m).filter (fun p => !decide (g0 xs p = g0 ys p))).map V.int)) ∧ Same H H3) ⟨upd_same, same_new nD⟩ (fun m H3 hm hP => ?_) (fun H3 hP => ?_)
    · obtain ⟨hD3, sm⟩ := hP
      obtain ⟨x, ex, _⟩ := ord_ix ox hm
      obtain ⟨y, ey, _⟩ := ord_ix oy hm
      have gx : g0 xs (m : Int) = x := g0_at ex
      have gy : g0 ys (m : Int) = y := g0_at ey
      have fm : ((rg (m + 1)).filter fun p => !decide (g0 xs p = g0 ys p)) = ((rg m).filter fun p => !decide (g0 xs p = g0 ys p)) ++ (if x = y then [] else [(m : Int)]) := by
        rw [rg_succ, List.filter_append, List.filter_cons, gx, gy]
        congr 1
        by_cases c : x = y
        · simp [c]
        · simp [c]
      refine ⟨rfl, _, rfl, _, rfl, a, _, _, _, rfl, rfl, SqL.of (sm _ _ ha), at_of (j := m) (by omega) (int_at ex), _, rfl, _, rfl, b, _, _, _, rfl, rfl, SqL.of (sm _ _ hb), at_of (j := m) (by omega) (int_at ey), rfl, _, rfl, ?_⟩
      by_cases c : x = y
      · subst c
        refine iteNS rfl ⟨?_, sm⟩
        rw [fm, if_pos rfl, List.append_nil]
        exact hD3
      · rw [decide_eq_false (fun e => c (V.int.inj e))]
        refine iteT ⟨_, rfl, _, hD3, line_lt ?_, ?_, fun u o e => ?_⟩
        · rw [List.length_map]
          refine Nat.lt_of_le_of_lt (List.length_filter_le _ _) ?_
          rw [rg_len]
          omega
        · rw [upd_same, fm, if_neg c, List.map_append, Int.zero_add]
          rfl
        · rw [upd_ne (ne_of_none e nD)]
          exact sm _ _ e
    · obtain ⟨hD3, sm⟩ := hP
      refine ⟨D, _, rfl, .inl (SqL.of hD3), ?_⟩
      have z := q H3 sm
      unfold farSpot spotL at z
      rw [ox.len] at z
      rw [List.length_map]
      exact z
theorem scShift : FnScope ["one", "other", "place", "seat"] ["one", "other"] (defScope s_far_by_shift) := ⟨rfl, rfl, rfl, by decide +kernel, rfl, by decide +kernel, by decide +kernel⟩
set_option maxHeartbeats 2000000 in
theorem ok_shift {f fP : Addr} {fd fdP : FuncData} {k : Nat} (T : Df K mg "far_by_shift" s_far_by_shift ["one", "other"] f fd) (T_seats_in : Df K mg "seats_in" s_seats_in ["one", "other"] fP fdP) (G_seats_in : FnOk P w K mg base CX0 k fP fdP ["one", "other"] spSeats) (B : Bi mg) : FnOk P w K mg base CX0 (k + 1) f fd ["one", "other"] spShift := by
  refine T.F.ok scShift (fun vs H Q E h => ?_) (fun cdv A outer s H vs Q E hr h => ?_)
  · obtain ⟨a, b, n, xs, ys, ⟨rfl, _⟩, _⟩ := h
    rfl
  · obtain ⟨a, b, n, xs, ys, ⟨rfl, ha, hb, ox, oy, hn1, hn2⟩, q⟩ := h
    refine ⟨_, 
      (pss_one (ps_ret (pe_callB (cr_max rfl) (by rfl) B.max (by decide +kernel) (pa_cons (pe_lc (own := [("place", 2), ("seat", 3)]) (g := (gTup K 2 (gCons (gName 2) (gCons (gName 3) gNil)))) (tt := tYes) (te := (tCB rAbs (tCons (tOp (rI0 fun i j => .int (i - j)) (tVar 2) (tVar 3)) tNil))) rfl scShift.nd (pi_enum (by rfl) B.enumerate (pa_cons (pe_call G_seats_in hr (by rfl) T_seats_in.g T_seats_in.F.kp T_seats_in.b .nil pass0 (pa_cons (pv 0) (pa_cons (pv 1) pa_nil))) pa_nil)) (blkOk_by (N := ["one", "other", "place", "seat"]) (sc := defScope s_far_by_shift) (by decide +kernel)) (fun _ _ _ _ _ => (pg_tup (by rfl) (pgs_cons (pg_name (i := 2) scShift.nd rfl (.inl rfl)) (pgs_cons (pg_name (i := 3) scShift.nd rfl (.inl rfl)) pgs_nil)))) (fun _ _ _ _ _ => pts_nil) (fun _ _ _ _ _ => (pe_callB call_abs (by rfl) B.abs (by decide +kernel) (pa_cons (pe_op op_sub (pv 2) (pv 3)) pa_nil)))) pa_nil)))), ?_⟩
    have os := seats_ord ox oy
    refine ⟨_, rfl, _, rfl, a, b, n, xs, ys, ⟨rfl, ha, hb, ox, oy, hn1, hn2⟩, fun l H1 nl hl s1 => ?_⟩
    refine ⟨l, _, rfl, SqL.of hl, fun D nD => ?_⟩
    have nlD : l ≠ D := ne_of_none hl nD
    have nHD : H D = none := s1.free nD
    refine lc_enumL (K := K) (a := l) (xs := (seatsL xs ys).map V.int) (fun m H3 => H3 D = some (.lst (((gapsL xs ys).take m).map V.int)) ∧ H3 l = some (.lst ((seatsL xs ys).map V.int)) ∧ Same H H3) ⟨upd_same, by rw [upd_ne nlD]; exact hl, s1.trans (same_new nD)⟩ (fun m H3 _ hP => SqL.of hP.2.1) (fun m x t H3 hx hP nt => ?_) (fun H3 hP => ?_)
    · obtain ⟨hD3, hl3, sm⟩ := hP
      obtain ⟨y, ey, rfl⟩ := int_at_inv hx
      have hi := (List.getElem?_eq_some_iff.mp ey).1
      rw [os.len] at hi
      have s3 := same_new (o := .tup [.int (m : Nat), .int y]) nt
      have eg : (gapsL xs ys)[m]? = some (absI ((m : Int) - y)) := by
        unfold gapsL rg
        rw [List.map_map, List.getElem?_map, List.getElem?_range (by rw [ox.len]; exact hi)]
        show some (absI ((m : Int) - g0 (seatsL xs ys) (m : Int))) = _
        rw [g0_at ey]
      refine ⟨t, _, rfl, .inl (.inl upd_same), rfl, _, _, rfl, _, _, rfl, rfl, rfl, ?_⟩
      refine ⟨_, rfl, _, rfl, (m : Int), y, rfl, rfl, _, rfl, _, s3 _ _ hD3, line_lt (by rw [List.length_map, List.length_take, gaps_len, ox.len]; omega), ?_, ?_, fun u o e => ?_⟩
      · rw [upd_same, take_more eg, List.map_append]
        rfl
      · rw [upd_ne nlD]
        exact s3 _ _ hl3
      · rw [upd_ne (ne_of_none e nHD)]
        exact s3 _ _ (sm _ _ e)
    · obtain ⟨hD3, hl3, sm⟩ := hP
      rw [List.take_of_length_le (by rw [gaps_len, List.length_map, seats_len]; exact Nat.le_refl _)] at hD3
      refine ⟨D, gapsL xs ys, rfl, SqL.of hD3, by rw [gaps_len, ox.len]; exact hn1, fun m hm hle => ?_⟩
      have e : farShift xs ys = m := maxL_of (gaps_nonneg xs ys) hm hle
      rw [← e]
      exact q H3 sm
theorem scKnown : FnScope ["way", "one", "other"] ["way", "one", "other"] (defScope s_known_far) := ⟨rfl, rfl, rfl, by decide +kernel, rfl, by decide +kernel, by decide +kernel⟩
theorem ok_known {f f4 f5 f6 : Addr} {fd d4 d5 d6 : FuncData} {k : Nat} (T : Df K mg "known_far" s_known_far ["way", "one", "other"] f fd) (T_far_by_swap : Df K mg "far_by_swap" s_far_by_swap ["one", "other"] f4 d4) (T_far_by_spot : Df K mg "far_by_spot" s_far_by_spot ["one", "other"] f5 d5) (T_far_by_shift : Df K mg "far_by_shift" s_far_by_shift ["one", "other"] f6 d6)
    (G_far_by_swap : FnOk P w K mg base CX0 k f4 d4 ["one", "other"] spSwap) (G_far_by_spot : FnOk P w K mg base CX0 k f5 d5 ["one", "other"] spSpot) (G_far_by_shift : FnOk P w K mg base CX0 k f6 d6 ["one", "other"] spShift) :
    FnOk P w K mg base CX0 (k + 1) f fd ["way", "one", "other"] spFar := by
  refine T.F.ok scKnown (fun vs H Q E h => ?_) (fun cdv A outer s H vs Q E hr h => ?_)
  · obtain ⟨z, a, b, n, xs, ys, rfl, _⟩ := h
    rfl
  · obtain ⟨z, a, b, n, xs, ys, rfl, hz, ha, hb, ox, oy, hn1, hn2, q⟩ := h
    refine ⟨_, 
      (pss_cons (ps_if (pt_cmpR op_eq (pv 0) pe_str (nomark _))
        (pss_one (ps_ret (pe_call G_far_by_swap hr (by rfl) T_far_by_swap.g T_far_by_swap.F.kp T_far_by_swap.b .nil pass0 (pa_cons (pv 1) (pa_cons (pv 2) pa_nil)))))
        pss_nil)
      (pss_cons (ps_if (pt_cmpR op_eq (pv 0) pe_str (nomark _))
        (pss_one (ps_ret (pe_call G_far_by_spot hr (by rfl) T_far_by_spot.g T_far_by_spot.F.kp T_far_by_spot.b .nil pass0 (pa_cons (pv 1) (pa_cons (pv 2) pa_nil)))))
        pss_nil)
      (pss_one (ps_ret (pe_call G_far_by_shift hr (by rfl) T_far_by_shift.g T_far_by_shift.F.kp T_far_by_shift.b .nil pass0 (pa_cons (pv 1) (pa_cons (pv 2) pa_nil))))))), ?_⟩
    rcases hz with rfl | rfl | rfl
    · refine ⟨_, rfl, rfl, _, rfl, ite2 (fun _ => ?_) (fun c => absurd (by decide +kernel) c)⟩
      exact ⟨_, rfl, _, rfl, a, b, n, xs, ys, ⟨rfl, ha, hb, ox, oy, hn1, hn2⟩, fun H2 s2 => by rw [← farW_swap]; exact q H2 s2⟩
    · refine ⟨_, rfl, rfl, _, rfl, ite2 (fun c => absurd c (by decide +kernel)) (fun _ => ?_)⟩
      refine ⟨_, rfl, rfl, _, rfl, ite2 (fun _ => ?_) (fun c => absurd (by decide +kernel) c)⟩
      exact ⟨_, rfl, _, rfl, a, b, n, xs, ys, ⟨rfl, ha, hb, ox, oy, hn1, hn2⟩, fun H2 s2 => by rw [← farW_spot]; exact q H2 s2⟩
    · refine ⟨_, rfl, rfl, _, rfl, ite2 (fun c => absurd c (by decide +kernel)) (fun _ => ?_)⟩
      refine ⟨_, rfl, rfl, _, rfl, ite2 (fun c => absurd c (by decide +kernel)) (fun _ => ?_)⟩
      exact ⟨_, rfl, _, rfl, a, b, n, xs, ys, ⟨rfl, ha, hb, ox, oy, hn1, hn2⟩, fun H2 s2 => by rw [← farW_shift]; exact q H2 s2⟩
end
end Fo
namespace Fo
open PySem PySem.Spec PyProof.Rows L2
theorem units65 {k : Nat} {A : Around} (r : Room k A) : A.units + 65 < cLine := by have := r.un; omega
theorem any_row (rs : List (List Int)) (o : List Int) : ((rs.map dL).any fun z => PyData.eqv z (dL o)) = decide (o ∈ rs) := by
  induction rs with
  | nil => rfl
  | cons a rs ih =>
    rw [List.map_cons, List.any_cons, ih, eqv_ints]
    by_cases c : a = o
    · subst c; simp
    · have c2 : ¬ o = a := fun e => c e.symm
      simp [c, c2]
end Fo
namespace Fo
open PySem PySem.Spec PyProof.Rows L2
/-! ### how far, by things -/
theorem sumN_le {l : List Int} {f g : Int → Nat} (h : ∀ x ∈ l, f x ≤ g x) : sumN l f ≤ sumN l g := by
  induction l with
  | nil => exact Nat.le_refl _
  | cons a l ih =>
    rw [sumN_cons, sumN_cons]
    have h1 := h a List.mem_cons_self
    have h2 := ih fun x hx => h x (List.mem_cons_of_mem _ hx)
    omega
theorem sumN_one {l : List Int} {f : Int → Nat} {x : Int} (h : x ∈ l) : f x ≤ sumN l f := by
  induction l with
  | nil => exact absurd h List.not_mem_nil
  | cons a l ih =>
    rw [sumN_cons]
    rcases List.mem_cons.mp h with rfl | h
    · omega
    · have := ih h
      omega
theorem ind_le {a : Bool} {n : Nat} (h : a = true → 1 ≤ n) : ind a ≤ n := by
  unfold ind
  cases a
  · exact Nat.zero_le _
  · exact h rfl
theorem ind_true {a : Bool} (h : a = true) : ind a = 1 := by rw [h]; rfl
theorem g0_seats {n : Nat} {xs ys : List Int} (o : IsOrd n xs) {p : Int} (h : p ∈ rg n) : g0 (seatsL xs ys) p = pos ys (g0 xs p) := by
  have h1 := rg_mem.mp h
  obtain ⟨x, hx, _⟩ := ord_ix o (j := p.toNat) (by omega)
  have e := g0_at hx
  have e2 := g0_at (seats_at (ys := ys) hx)
  rw [Int.toNat_of_nonneg h1.1] at e e2
  rw [e, e2]
def dT (xs ys : List Int) (t u : Int) : Nat := ind (decide (pos xs t < pos xs u) && decide (pos ys u < pos ys t))
def swT (n : Nat) (xs ys : List Int) : Nat := sumN (rg n) fun t => sumN (rg n) fun u => dT xs ys t u
def spT (n : Nat) (xs ys : List Int) : Nat := sumN (rg n) fun t => ind (!decide (pos xs t = pos ys t))
def shL (n : Nat) (xs ys : List Int) : List Int := (rg n).map fun t => absI (pos xs t - pos ys t)
theorem swap_T {n : Nat} {xs ys : List Int} (ox : IsOrd n xs) (oy : IsOrd n ys) : farSwap xs ys = ((swT n xs ys : Nat) : Int) := by
  unfold farSwap
  rw [inv_eq, seats_len, ox.len]
  unfold invF swT
  congr 1
  rw [sum_pos ox]
  apply sumN_congr
  intro t ht
  rw [sum_pos ox]
  apply sumN_congr
  intro u hu
  unfold dT
  rw [g0_seats ox (pos_in ox ht), g0_seats ox (pos_in ox hu), g0_pos ox ht, g0_pos ox hu]
theorem spot_T {n : Nat} {xs ys : List Int} (ox : IsOrd n xs) (oy : IsOrd n ys) : farSpot xs ys = ((spT n xs ys : Nat) : Int) := by
  unfold farSpot spotL spT
  rw [filter_len, ox.len]
  congr 1
  rw [sum_g0 ox (fun t => ind (!decide (pos xs t = pos ys t)))]
  apply sumN_congr
  intro p hp
  rw [pos_g0 ox hp]
  by_cases c : g0 xs p = g0 ys p
  · rw [decide_eq_true c, c, pos_g0 oy hp, decide_eq_true rfl]
  · have d : ¬ (p = pos ys (g0 xs p)) := fun e => c (by
      have := g0_pos oy (g0_in ox hp)
      rw [← e] at this
      exact this.symm)
    rw [decide_eq_false c, decide_eq_false d]
theorem shift_mem {n : Nat} {xs ys : List Int} (ox : IsOrd n xs) : ∀ g, g ∈ gapsL xs ys ↔ g ∈ shL n xs ys := by
  intro g
  unfold gapsL shL
  rw [ox.len, List.mem_map, List.mem_map]
  constructor
  · rintro ⟨p, hp, rfl⟩
    exact ⟨g0 xs p, g0_in ox hp, by rw [pos_g0 ox hp, g0_seats ox hp]⟩
  · rintro ⟨t, ht, rfl⟩
    exact ⟨pos xs t, pos_in ox ht, by rw [g0_seats ox (pos_in ox ht), g0_pos ox ht]⟩
theorem shift_T {n : Nat} {xs ys : List Int} (ox : IsOrd n xs) (hn : 1 ≤ n) : (∃ t ∈ rg n, farShift xs ys = absI (pos xs t - pos ys t)) ∧ ∀ t ∈ rg n, absI (pos xs t - pos ys t) ≤ farShift xs ys := by
  obtain ⟨h1, h2⟩ := maxL_mem (gaps_nonneg xs ys) (by rw [gaps_len, ox.len]; exact hn)
  constructor
  · obtain ⟨t, ht, e⟩ := List.mem_map.mp ((shift_mem ox _).mp h1)
    exact ⟨t, ht, e.symm⟩
  · intro t ht
    exact h2 _ ((shift_mem ox _).mpr (List.mem_map.mpr ⟨t, ht, rfl⟩))
theorem shift_of {n : Nat} {xs ys : List Int} {m : Int} (ox : IsOrd n xs) (h : ∃ t ∈ rg n, m = absI (pos xs t - pos ys t)) (hle : ∀ t ∈ rg n, absI (pos xs t - pos ys t) ≤ m) : farShift xs ys = m := by
  obtain ⟨t, ht, e⟩ := h
  refine maxL_of (gaps_nonneg xs ys) ((shift_mem ox _).mpr (List.mem_map.mpr ⟨t, ht, e.symm⟩)) fun x hx => ?_
  obtain ⟨u, hu, rfl⟩ := List.mem_map.mp ((shift_mem ox _).mp hx)
  exact hle u hu
/-! ### alike just where 0 -/
theorem invR_zero : ∀ {s : List Int}, invR s = 0 → s.Pairwise (· ≤ ·)
  | [], _ => List.Pairwise.nil
  | x :: r, h => by
    have h' : (r.filter (fun z => decide (z < x))).length + invR r = 0 := h
    refine List.Pairwise.cons (fun z hz => ?_) (invR_zero (by omega))
    have e : r.filter (fun z => decide (z < x)) = [] := List.eq_nil_of_length_eq_zero (by omega)
    have := List.filter_eq_nil_iff.mp e z hz
    simp at this
    exact this
theorem same_of_pos {n : Nat} {xs ys : List Int} (ox : IsOrd n xs) (oy : IsOrd n ys) (h : ∀ p ∈ rg n, pos ys (g0 xs p) = p) : xs = ys := by
  rw [g0_ord ox, g0_ord oy]
  apply List.map_congr_left
  intro p hp
  have e := g0_pos oy (g0_in ox hp)
  rw [h p hp] at e
  exact e.symm
theorem farW_zero {w : Str} {n : Nat} {xs ys : List Int} (hw : IsWay w) (ox : IsOrd n xs) (oy : IsOrd n ys) (hn : 1 ≤ n) (h : farW w xs ys = 0) : xs = ys := by
  rcases hw with rfl | rfl | rfl
  · rw [farW_swap] at h
    unfold farSwap at h
    rw [inv_NR] at h
    have hs := invR_zero (s := seatsL xs ys) (by omega)
    have e := sorted_eq (seats_ord ox oy) hs (rg_sorted n)
    refine same_of_pos ox oy fun p hp => ?_
    rw [← g0_seats ox hp, e]
    have h1 := rg_mem.mp hp
    have z : (rg n)[p.toNat]? = some p := by
      unfold rg
      rw [List.getElem?_map, List.getElem?_range (by omega)]
      show some ((p.toNat : Nat) : Int) = some p
      rw [Int.toNat_of_nonneg h1.1]
    have z2 := g0_at z
    rw [Int.toNat_of_nonneg h1.1] at z2
    exact z2
  · rw [farW_spot] at h
    unfold farSpot spotL at h
    have e : ((rg xs.length).filter fun p => !decide (g0 xs p = g0 ys p)) = [] := List.eq_nil_of_length_eq_zero (by omega)
    rw [g0_ord ox, g0_ord oy]
    apply List.map_congr_left
    intro p hp
    have := List.filter_eq_nil_iff.mp e p (by rw [ox.len]; exact hp)
    simpa using this
  · rw [farW_shift] at h
    have h2 := (shift_T (ys := ys) ox hn).2
    rw [h] at h2
    refine same_of_pos ox oy fun p hp => ?_
    have := h2 _ (g0_in ox hp)
    rw [pos_g0 ox hp] at this
    unfold absI at this
    split at this <;> omega
/-! ### by a third one never shorter -/
theorem farW_third {w : Str} {n : Nat} {xs ys zs : List Int} (hw : IsWay w) (ox : IsOrd n xs) (oy : IsOrd n ys) (oz : IsOrd n zs) (hn : 1 ≤ n) : farW w xs ys ≤ farW w xs zs + farW w zs ys := by
  rcases hw with rfl | rfl | rfl
  · rw [farW_swap, farW_swap, farW_swap, swap_T ox oy, swap_T ox oz, swap_T oz oy]
    have : swT n xs ys ≤ swT n xs zs + swT n zs ys := by
      unfold swT
      rw [← sumN_add]
      apply sumN_le
      intro t ht
      rw [← sumN_add]
      apply sumN_le
      intro u hu
      unfold dT
      apply ind_le
      intro h
      rw [Bool.and_eq_true] at h
      have h1 := of_decide_eq_true h.1
      have h2 := of_decide_eq_true h.2
      by_cases c : pos zs u < pos zs t
      · rw [ind_true (by rw [decide_eq_true h1, decide_eq_true c]; rfl)]
        omega
      · have ne : pos zs t ≠ pos zs u := fun e => by
          have := pos_inj oz ht hu e
          subst this
          omega
        rw [ind_true (a := decide (pos zs t < pos zs u) && decide (pos ys u < pos ys t)) (by rw [decide_eq_true (show pos zs t < pos zs u by omega), decide_eq_true h2]; rfl)]
        omega
    omega
  · rw [farW_spot, farW_spot, farW_spot, spot_T ox oy, spot_T ox oz, spot_T oz oy]
    have : spT n xs ys ≤ spT n xs zs + spT n zs ys := by
      unfold spT
      rw [← sumN_add]
      apply sumN_le
      intro t _
      apply ind_le
      intro h
      by_cases c : pos xs t = pos zs t
      · have d : ¬ (pos zs t = pos ys t) := fun e => by
          rw [c, e] at h
          simp at h
        rw [ind_true (a := !decide (pos zs t = pos ys t)) (by rw [decide_eq_false d]; rfl)]
        omega
      · rw [ind_true (a := !decide (pos xs t = pos zs t)) (by rw [decide_eq_false c]; rfl)]
        omega
    omega
  · rw [farW_shift, farW_shift, farW_shift]
    obtain ⟨t, ht, e⟩ := (shift_T (ys := ys) ox hn).1
    have h1 := (shift_T (ys := zs) ox hn).2 t ht
    have h2 := (shift_T (ys := ys) oz hn).2 t ht
    rw [e]
    unfold absI at h1 h2 ⊢
    split at h1 <;> split at h2 <;> split <;> omega
/-! ### called otherwise, and from behind -/
/-- two pairs of orders whose things stand alike -/
theorem farW_called {w : Str} {n : Nat} {xs ys xs' ys' : List Int} {r : Int → Int} (hw : IsWay w) (ox : IsOrd n xs) (oy : IsOrd n ys) (ox' : IsOrd n xs') (oy' : IsOrd n ys') (hn : 1 ≤ n) (hr : IsOrd n ((rg n).map r)) (h1 : ∀ t ∈ rg n, pos xs' (r t) = pos xs t) (h2 : ∀ t ∈ rg n, pos ys' (r t) = pos ys t) : farW w xs' ys' = farW w xs ys := by
  have sr : ∀ f : Int → Nat, sumN (rg n) f = sumN (rg n) fun t => f (r t) := fun f => by
    have e : sumN ((rg n).map r) f = sumN (rg n) fun t => f (r t) := sumN_map _ _ _
    rw [← e]
    exact (sumN_perm hr f).symm
  have rin : ∀ t ∈ rg n, r t ∈ rg n := fun t ht => rg_mem.mpr (hr.mem (List.mem_map.mpr ⟨t, ht, rfl⟩))
  have ron : ∀ t' ∈ rg n, ∃ t ∈ rg n, r t = t' := fun t' ht' => List.mem_map.mp ((List.Perm.mem_iff hr).mpr ht')
  rcases hw with rfl | rfl | rfl
  · rw [farW_swap, farW_swap, swap_T ox' oy', swap_T ox oy]
    congr 1
    unfold swT
    rw [sr]
    apply sumN_congr
    intro t ht
    rw [sr]
    apply sumN_congr
    intro u hu
    unfold dT
    rw [h1 t ht, h1 u hu, h2 t ht, h2 u hu]
  · rw [farW_spot, farW_spot, spot_T ox' oy', spot_T ox oy]
    congr 1
    unfold spT
    rw [sr]
    apply sumN_congr
    intro t ht
    rw [h1 t ht, h2 t ht]
  · rw [farW_shift, farW_shift]
    obtain ⟨⟨t, ht, e⟩, hle⟩ := shift_T (ys := ys) ox hn
    refine shift_of ox' ⟨r t, rin t ht, by rw [h1 t ht, h2 t ht]; exact e⟩ fun t' ht' => ?_
    obtain ⟨u, hu, rfl⟩ := ron t' ht'
    rw [h1 u hu, h2 u hu]
    exact hle u hu
theorem behind_ord {n : Nat} {ns ms : List Int} (o1 : IsOrd n ns) (o2 : IsOrd n ms) : IsOrd n (behindL ns ms) := by
  have h : (behindL ns ms).Perm ((rg n).map (g0 ns)) := List.Perm.map _ o2
  rw [← g0_ord o1] at h
  exact h.trans o1
theorem behind_pos {n : Nat} {zs xs : List Int} (oz : IsOrd n zs) (ox : IsOrd n xs) : ∀ t ∈ rg n, pos (behindL zs xs) (g0 zs t) = pos xs t := by
  intro t ht
  have h1 := rg_mem.mp ht
  obtain ⟨j, _, ej, pj⟩ := pos_at ox h1.1 h1.2
  obtain ⟨z, hz, _⟩ := ord_ix oz (j := t.toNat) (by omega)
  have e := g0_at hz
  rw [Int.toNat_of_nonneg h1.1] at e
  rw [e, pj]
  exact pos_of (behind_ord oz ox) (behind_at ej hz)
theorem rev_pos {n : Nat} {xs : List Int} (ox : IsOrd n xs) : ∀ t ∈ rg n, pos xs.reverse t = (n : Int) - 1 - pos xs t := by
  intro t ht
  have h1 := rg_mem.mp ht
  obtain ⟨j, hj, ej, pj⟩ := pos_at ox h1.1 h1.2
  have hl := ox.len
  have er : xs.reverse[n - 1 - j]? = some t := by
    rw [List.getElem?_reverse (by omega), hl, show n - 1 - (n - 1 - j) = j by omega]
    exact ej
  rw [pj, pos_of (n := n) ((List.reverse_perm xs).trans ox) er]
  omega
theorem farW_rev {w : Str} {n : Nat} {xs ys : List Int} (hw : IsWay w) (ox : IsOrd n xs) (oy : IsOrd n ys) (hn : 1 ≤ n) : farW w xs.reverse ys.reverse = farW w xs ys := by
  have ox' : IsOrd n xs.reverse := (List.reverse_perm xs).trans ox
  have oy' : IsOrd n ys.reverse := (List.reverse_perm ys).trans oy
  rcases hw with rfl | rfl | rfl
  · rw [farW_swap, farW_swap, swap_T ox' oy', swap_T ox oy]
    congr 1
    unfold swT
    rw [sumN_swap]
    apply sumN_congr
    intro t ht
    apply sumN_congr
    intro u hu
    unfold dT
    rw [rev_pos ox u hu, rev_pos ox t ht, rev_pos oy u hu, rev_pos oy t ht]
    congr 1
    congr 1
    · by_cases c : pos xs t < pos xs u
      · rw [decide_eq_true c, decide_eq_true (by omega)]
      · rw [decide_eq_false c, decide_eq_false (by omega)]
    · by_cases c : pos ys u < pos ys t
      · rw [decide_eq_true c, decide_eq_true (by omega)]
      · rw [decide_eq_false c, decide_eq_false (by omega)]
  · rw [farW_spot, farW_spot, spot_T ox' oy', spot_T ox oy]
    congr 1
    unfold spT
    apply sumN_congr
    intro t ht
    rw [rev_pos ox t ht, rev_pos oy t ht]
    by_cases c : pos xs t = pos ys t
    · rw [decide_eq_true c, decide_eq_true (by omega)]
    · rw [decide_eq_false c, decide_eq_false (by omega)]
  · rw [farW_shift, farW_shift]
    have ea : ∀ t ∈ rg n, absI (pos xs.reverse t - pos ys.reverse t) = absI (pos xs t - pos ys t) := fun t ht => by
      rw [rev_pos ox t ht, rev_pos oy t ht]
      unfold absI
      split <;> split <;> omega
    obtain ⟨⟨t, ht, e⟩, hle⟩ := shift_T (ys := ys) ox hn
    exact shift_of ox' ⟨t, ht, by rw [ea t ht]; exact e⟩ fun u hu => by rw [ea u hu]; exact hle u hu
/-! ### how far at most -/
theorem invR_two (s : List Int) : 2 * invR s + s.length ≤ s.length * s.length := by
  induction s with
  | nil => exact Nat.le_refl _
  | cons x r ih =>
    show 2 * ((r.filter _).length + invR r) + (r.length + 1) ≤ (r.length + 1) * (r.length + 1)
    have h1 : (r.filter (fun z => decide (z < x))).length ≤ r.length := List.length_filter_le _ _
    have h2 : (r.length + 1) * (r.length + 1) = r.length * r.length + r.length + r.length + 1 := by
      rw [Nat.add_mul, Nat.mul_add]
      omega
    omega
theorem swap_most {n : Nat} {xs ys : List Int} (ox : IsOrd n xs) : 2 * farSwap xs ys ≤ (n : Int) * ((n : Int) - 1) := by
  unfold farSwap
  rw [inv_NR]
  have h := invR_two (seatsL xs ys)
  rw [seats_len, ox.len] at h
  have e : (n : Int) * ((n : Int) - 1) = ((n * n : Nat) : Int) - (n : Int) := by
    rw [Int.mul_sub, Int.mul_one, Int.natCast_mul]
  rw [e]
  omega
theorem spot_most {n : Nat} {xs ys : List Int} (ox : IsOrd n xs) : farSpot xs ys ≤ n := by
  unfold farSpot spotL
  rw [ox.len]
  have h := List.length_filter_le (fun p => !decide (g0 xs p = g0 ys p)) (rg n)
  rw [rg_len] at h
  omega
theorem spot_one {n : Nat} {xs ys : List Int} (ox : IsOrd n xs) (oy : IsOrd n ys) : farSpot xs ys ≠ 1 := by
  intro h
  unfold farSpot at h
  obtain ⟨p, hp⟩ := List.length_eq_one_iff.mp (show (spotL xs ys).length = 1 by omega)
  have mem : ∀ q, q ∈ spotL xs ys ↔ q ∈ rg n ∧ g0 xs q ≠ g0 ys q := fun q => by
    unfold spotL
    rw [List.mem_filter, ox.len]
    simp
  have hpm := (mem p).mp (by rw [hp]; exact List.mem_cons_self)
  have hq := pos_in oy (g0_in ox hpm.1)
  have e := g0_pos oy (g0_in ox hpm.1)
  have nq : pos ys (g0 xs p) ≠ p := fun z => hpm.2 (by rw [z] at e; exact e.symm)
  have same : g0 xs (pos ys (g0 xs p)) = g0 ys (pos ys (g0 xs p)) := by
    by_cases c : g0 xs (pos ys (g0 xs p)) = g0 ys (pos ys (g0 xs p))
    · exact c
    · have := (mem _).mpr ⟨hq, c⟩
      rw [hp] at this
      exact absurd (List.mem_singleton.mp this) nq
  rw [e] at same
  have e2 := pos_g0 ox hq
  rw [same, pos_g0 ox hpm.1] at e2
  exact nq e2.symm
theorem shift_most {n : Nat} {xs ys : List Int} (ox : IsOrd n xs) (oy : IsOrd n ys) (hn : 1 ≤ n) : farShift xs ys ≤ (n : Int) - 1 := by
  obtain ⟨t, ht, e⟩ := (shift_T (ys := ys) ox hn).1
  have h1 := rg_mem.mp (pos_in ox ht)
  have h2 := rg_mem.mp (pos_in oy ht)
  rw [e]
  unfold absI
  split <;> omega
theorem below_sum (n : Nat) : ∀ b : Nat, b ≤ n → sumN (rg n) (fun j => ind (decide (j < (b : Int)))) = b := by
  induction n with
  | zero => intro b hb; have : b = 0 := by omega
            subst this; rfl
  | succ n ih =>
    intro b hb
    rw [rg_succ, sumN_append, sumN_cons, sumN_nil]
    by_cases c : b = n + 1
    · subst c
      rw [sumN_congr (g := fun j => ind (decide (j < (n : Int)))) (fun j hj => by
        have := rg_mem.mp hj
        rw [decide_eq_true this.2, decide_eq_true (show j < ((n + 1 : Nat) : Int) by omega)]), ih n (Nat.le_refl _), ind_true (decide_eq_true (by omega))]
    · rw [ih b (by omega), decide_eq_false (show ¬ ((n : Int) < (b : Int)) by omega)]
      rfl
/-- so many others stand the other way round as a thing is shifted -/
theorem turned_most {n : Nat} {xs ys : List Int} (ox : IsOrd n xs) (oy : IsOrd n ys) {t : Int} (ht : t ∈ rg n) : pos ys t - pos xs t ≤ ((sumN (rg n) (fun u => dT xs ys t u) : Nat) : Int) := by
  have h1 := rg_mem.mp (pos_in ox ht)
  have h2 := rg_mem.mp (pos_in oy ht)
  have ea := below_sum n (pos xs t).toNat (by omega)
  have eb := below_sum n (pos ys t).toNat (by omega)
  rw [sum_pos ox] at ea
  rw [sum_pos oy] at eb
  rw [Int.toNat_of_nonneg h1.1] at ea
  rw [Int.toNat_of_nonneg h2.1] at eb
  have : sumN (rg n) (fun u => ind (decide (pos ys u < pos ys t))) ≤ sumN (rg n) (fun u => ind (decide (pos xs u < pos xs t))) + sumN (rg n) (fun u => dT xs ys t u) := by
    rw [← sumN_add]
    apply sumN_le
    intro u hu
    apply ind_le
    intro h
    have hlt := of_decide_eq_true h
    by_cases c : pos xs u < pos xs t
    · rw [ind_true (decide_eq_true c)]
      omega
    · have ne : pos xs t ≠ pos xs u := fun e => by
        have := pos_inj ox ht hu e
        subst this
        omega
      unfold dT
      rw [ind_true (a := decide (pos xs t < pos xs u) && decide (pos ys u < pos ys t)) (by rw [decide_eq_true (show pos xs t < pos xs u by omega), decide_eq_true hlt]; rfl)]
      omega
  omega
theorem dT_turn (xs ys : List Int) (t u : Int) : dT ys xs t u = dT xs ys u t := by
  unfold dT
  rw [Bool.and_comm]
theorem turned_abs {n : Nat} {xs ys : List Int} (ox : IsOrd n xs) (oy : IsOrd n ys) {t : Int} (ht : t ∈ rg n) : absI (pos xs t - pos ys t) ≤ ((sumN (rg n) (fun u => dT xs ys t u) : Nat) : Int) + ((sumN (rg n) (fun u => dT xs ys u t) : Nat) : Int) := by
  have h1 := turned_most ox oy ht
  have h2 := turned_most oy ox ht
  rw [sumN_congr (g := fun u => dT xs ys u t) (fun u _ => dT_turn xs ys t u)] at h2
  unfold absI
  split <;> omega
theorem shift_swap {n : Nat} {xs ys : List Int} (ox : IsOrd n xs) (oy : IsOrd n ys) (hn : 1 ≤ n) : farShift xs ys ≤ farSwap xs ys := by
  obtain ⟨t, ht, e⟩ := (shift_T (ys := ys) ox hn).1
  have h1 := turned_most ox oy ht
  have h2 := turned_most oy ox ht
  have b1 : sumN (rg n) (fun u => dT xs ys t u) ≤ swT n xs ys := sumN_one (f := fun t => sumN (rg n) fun u => dT xs ys t u) ht
  have b2 : sumN (rg n) (fun u => dT ys xs t u) ≤ swT n ys xs := sumN_one (f := fun t => sumN (rg n) fun u => dT ys xs t u) ht
  have e1 := swap_T ox oy
  have e2 := swap_T oy ox
  have e3 := farSwap_turn ox oy
  rw [e]
  unfold absI
  split <;> omega
theorem spot_swap {n : Nat} {xs ys : List Int} (ox : IsOrd n xs) (oy : IsOrd n ys) : farSpot xs ys ≤ 2 * farSwap xs ys := by
  rw [spot_T ox oy, swap_T ox oy]
  have : spT n xs ys ≤ swT n xs ys + swT n xs ys := by
    have e : swT n xs ys = sumN (rg n) fun t => sumN (rg n) fun u => dT xs ys u t := by
      unfold swT
      rw [sumN_swap]
    have e2 : swT n xs ys + swT n xs ys = sumN (rg n) fun t => sumN (rg n) (fun u => dT xs ys t u) + sumN (rg n) (fun u => dT xs ys u t) := by
      rw [sumN_add, ← e]
      rfl
    rw [e2]
    unfold spT
    apply sumN_le
    intro t ht
    apply ind_le
    intro h
    have ha := turned_abs ox oy ht
    have ne : ¬ (pos xs t = pos ys t) := fun z => by
      rw [z] at h
      simp at h
    unfold absI at ha
    split at ha <;> omega
  omega
/-! ### backs -/
theorem back_list {n : Nat} {ns ps : List Int} (o : IsOrd n ns) (h : IsBack ns ps) : ps = (rg n).map (pos ns) := by
  apply List.ext_getElem?
  intro t
  by_cases c : t < n
  · have e := back_pos o h (x := (t : Int)) (by omega) (by omega)
    rw [Int.toNat_natCast] at e
    rw [e]
    unfold rg
    rw [List.map_map, List.getElem?_map, List.getElem?_range c]
    rfl
  · rw [List.getElem?_eq_none (by rw [h.1, o.len]; omega), List.getElem?_eq_none (by rw [List.length_map, rg_len]; omega)]
theorem back_ord {n : Nat} {ns ps : List Int} (o : IsOrd n ns) (h : IsBack ns ps) : IsOrd n ps := by
  rw [back_list o h]
  exact pos_ord o
theorem back_g0 {n : Nat} {ns ps : List Int} (o : IsOrd n ns) (h : IsBack ns ps) : ∀ t ∈ rg n, g0 ps t = pos ns t := by
  intro t ht
  have h1 := rg_mem.mp ht
  have e := g0_at (back_pos o h h1.1 h1.2)
  rw [Int.toNat_of_nonneg h1.1] at e
  exact e
theorem back_back {n : Nat} {ns ps : List Int} (o : IsOrd n ns) (h : IsBack ns ps) : IsBack ps ns := by
  refine ⟨h.1.symm, fun j x hx => ?_⟩
  have hj := (List.getElem?_eq_some_iff.mp hx).1
  rw [h.1, o.len] at hj
  obtain ⟨i, hi, ei, pi⟩ := pos_at o (x := (j : Int)) (by omega) (by omega)
  have e := back_pos o h (x := (j : Int)) (by omega) (by omega)
  rw [Int.toNat_natCast, hx] at e
  have ex : x = (i : Int) := (Option.some.inj e).trans pi
  rw [ex, Int.toNat_natCast]
  exact ei
theorem spot_back {n : Nat} {xs ys ps qs : List Int} (ox : IsOrd n xs) (oy : IsOrd n ys) (hp : IsBack xs ps) (hq : IsBack ys qs) : farSpot ps qs = farSpot xs ys := by
  rw [spot_T ox oy]
  unfold farSpot spotL spT
  rw [filter_len, hp.1, ox.len]
  congr 1
  apply sumN_congr
  intro t ht
  rw [back_g0 ox hp t ht, back_g0 oy hq t ht]
theorem behind_back {n : Nat} {xs ps : List Int} (ox : IsOrd n xs) (hp : IsBack xs ps) : behindL xs ps = rg n := by
  rw [back_list ox hp]
  unfold behindL
  rw [List.map_map]
  have e : (rg n).map ((fun p => xs.getD p.toNat 0) ∘ pos xs) = (rg n).map (fun t => t) := List.map_congr_left fun t ht => g0_pos ox ht
  rw [e, List.map_id']
theorem behind_assoc {n : Nat} {xs ys zs : List Int} (ox : IsOrd n xs) (oy : IsOrd n ys) (oz : IsOrd n zs) : behindL (behindL xs ys) zs = behindL xs (behindL ys zs) := by
  apply List.ext_getElem?
  intro i
  by_cases c : i < n
  · obtain ⟨z, hz, z0, z1⟩ := ord_ix oz c
    obtain ⟨y, hy, y0, y1⟩ := ord_ix oy (j := z.toNat) (by omega)
    obtain ⟨x, hx, _⟩ := ord_ix ox (j := y.toNat) (by omega)
    rw [behind_at hz (behind_at hy hx), behind_at (behind_at hz hy) hx]
  · rw [List.getElem?_eq_none (by rw [behind_len, oz.len]; omega), List.getElem?_eq_none (by rw [behind_len, behind_len, oz.len]; omega)]
end Fo
namespace Fo
open PySem PySem.Spec PyProof.Rows L2
def nearL (w : Str) (n : Nat) (xs : List Int) (r : Int) : List (List Int) := (allK n n).filter fun o => decide (farW w xs o ≤ r)
theorem filter_moreL {l : List (List Int)} {m : Nat} {x : List Int} (p : List Int → Bool) (h : l[m]? = some x) : (l.take (m + 1)).filter p = (l.take m).filter p ++ (if p x then [x] else []) := by
  rw [List.take_add_one, h, List.filter_append]
  show _ ++ List.filter p [x] = _
  rw [List.filter_cons]
  rfl
theorem extend_LL {H : Hp} : ∀ {as bs : List Addr} {rs ss : List (List Int)}, LL H as rs → LL H bs ss → LL H (as ++ bs) (rs ++ ss)
  | [], _, [], _, _, h => h
  | [], _, _ :: _, _, h, _ => h.elim
  | _ :: _, _, [], _, h, _ => h.elim
  | _ :: _, _, _ :: _, _, h, h2 => ⟨h.1, extend_LL h.2 h2⟩
end Fo
namespace Fo
open PySem PySem.Spec PyProof.Rows L2
/-! ### sorted(rows), rows a list of lists of whole numbers -/
def rowsR (ps : List (Addr × List Int)) : List (Addr × List Int) := ps.mergeSort fun p q => decide (p.2 ≤ q.2)
def rSortedR (K : PySem.W.Frag) : List V → Hp → VK → Prop := fun vs H Q => ∃ (a : Addr) (ps : List (Addr × List Int)), vs = [V.ref a] ∧ SqL K H a (ps.map fun p => V.ref p.1) ∧ (∀ p ∈ ps, Dp K H (.ref p.1) (dL p.2)) ∧
  ∀ q, H q = none → Q (.ref q) (upd H q (.lst ((rowsR ps).map fun p => V.ref p.1)))
theorem each_refs : ∀ {ps : List (Addr × List Int)} {us : List Value}, Vals (ps.map fun p => V.ref p.1) us → PySem.W.EachIs (fun v (p : Addr × List Int) => v = Value.ref p.1) us ps
  | [], _, .nil => .nil
  | p :: ps, _, .cons r t => .cons r (each_refs t)
theorem refs_each : ∀ {ps : List (Addr × List Int)} {us : List Value}, PySem.W.EachIs (fun v (p : Addr × List Int) => v = Value.ref p.1) us ps → Vals (ps.map fun p => V.ref p.1) us
  | _, _, .nil => .nil
  | _, _, .cons r t => .cons r (refs_each t)
theorem each_all {R S : Value → (Addr × List Int) → Prop} : ∀ {us : List Value} {ps : List (Addr × List Int)}, PySem.W.EachIs R us ps → (∀ v p, p ∈ ps → R v p → S v p) → PySem.W.EachIs S us ps
  | _, _, .nil, _ => .nil
  | _, _, .cons r t, h => .cons (h _ _ List.mem_cons_self r) (each_all t fun v p hp => h v p (List.mem_cons_of_mem _ hp))
theorem cr_sortedR {X : Cx} (hu : X.A.units + 64 < cLine) : CallR X (.builtin "sorted") (rSortedR X.K) := by
  intro pins s σ H vs us Q J rel hz
  obtain ⟨a, ps, ev, sq, hd, q⟩ := hz
  subst ev
  obtain ⟨its, rv, hl, hlen⟩ := J.list sq
  rw [Vals.ref1 rel]
  have e := each_refs rv
  have el := rv.length
  rw [List.length_map] at el hlen
  refine PySem.W.sorted_data (enc := fun p : Addr × List Int => .list (p.2.map .int)) hl.isList e (each_all e fun v p hp hv => ?_) (PySem.W.AllAlike.of fun b b' => ?_) (PySem.W.Sortable.others fun b => ⟨(fun z => by cases z), (fun xs z => by cases z)⟩) hlen (fun b _ => ?_) fun out ol eo => ?_
  · subst hv
    exact Dp.reads J _ _ _ (hd p hp) rfl
  · show PySem.W.alike (.list (b.2.map .int)) (.list (b'.2.map .int)) = true
    simp only [PySem.W.alike]
    exact PySem.W.alike_ints _ _
  · show X.A.units + 2 + (dL b.2).depth < cLine
    rw [depth_list]
    omega
  · rw [PySem.W.dataLe_rows (fun p : Addr × List Int => p.2)] at eo
    obtain ⟨ep, he⟩ := PyProof.Rows.sortedAll_at s.heap its out.toArray
    have hl2 : ((rowsR ps).map fun p => V.ref p.1).length ≤ sizeLine := by
      unfold rowsR
      rw [List.length_map, List.length_mergeSort]
      exact hlen
    exact ⟨.ref _, upd H (s.heap.objs.size + 1) (.lst ((rowsR ps).map fun p => V.ref p.1)), J.laid (t' := s.toks) (fun _ _ => PyProof.Rows.sortedAll_old) (Nat.le_succ _) ⟨hl2, out, ep, refs_each eo, he⟩, rfl, q _ (J.hok.fresh (Nat.le_succ _))⟩
theorem rows_le_total (a b : Addr × List Int) : (decide (a.2 ≤ b.2) || decide (b.2 ≤ a.2)) = true := by
  rcases List.le_total a.2 b.2 with h | h
  · rw [decide_eq_true h]; rfl
  · rw [decide_eq_true h, Bool.or_true]
theorem rowsR_perm (ps : List (Addr × List Int)) : (rowsR ps).Perm ps := List.mergeSort_perm _ _
theorem rowsR_sorted (ps : List (Addr × List Int)) : ((rowsR ps).map (·.2)).Pairwise (· ≤ ·) := by
  have h := List.pairwise_mergeSort (le := fun p q : Addr × List Int => decide (p.2 ≤ q.2)) (fun a b c h1 h2 => decide_eq_true (List.le_trans (of_decide_eq_true h1) (of_decide_eq_true h2))) rows_le_total ps
  exact List.pairwise_map.mpr (h.imp fun h => of_decide_eq_true h)
theorem rows_eq {a b : List (List Int)} (hp : a.Perm b) (ha : a.Pairwise (· ≤ ·)) (hb : b.Pairwise (· ≤ ·)) : a = b := List.Perm.eq_of_pairwise (fun x y _ _ h1 h2 => List.le_antisymm h1 h2) ha hb hp
/-- all orders stand in order -/
theorem extO_sorted (n : Nat) (o : List Int) : (extO n o).Pairwise (· < ·) := by
  unfold extO
  rw [List.pairwise_map]
  have h : (rg n).Pairwise (· < ·) := by
    unfold rg
    exact List.Pairwise.map _ (fun a b h => by omega) List.pairwise_lt_range
  exact (h.filter _).imp fun {a b} h => by
    induction o with
    | nil => exact List.cons_lt_cons_iff.mpr (.inl h)
    | cons x o ih => exact List.cons_lt_cons_iff.mpr (.inr ⟨rfl, ih⟩)
theorem lt_snoc {a b : List Int} (hl : a.length = b.length) (h : a < b) (x y : Int) : a ++ [x] < b ++ [y] := by
  induction a generalizing b with
  | nil =>
    match b, hl with
    | [], _ => exact absurd h (List.lt_irrefl _)
  | cons u a ih =>
    match b, hl with
    | v :: b, hl =>
      rcases List.cons_lt_cons_iff.mp h with h1 | ⟨h1, h2⟩
      · exact List.cons_lt_cons_iff.mpr (.inl h1)
      · exact List.cons_lt_cons_iff.mpr (.inr ⟨h1, ih (by simpa using hl) h2⟩)
theorem allK_sorted {n : Nat} : ∀ k, (allK n k).Pairwise (· < ·)
  | 0 => List.pairwise_singleton _ _
  | k + 1 => by
    show List.Pairwise _ ((allK n k).flatMap (extO n))
    rw [List.pairwise_flatMap]
    refine ⟨fun o _ => extO_sorted n o, (allK_sorted k).imp_of_mem fun {a b} ha hb h x hx y hy => ?_⟩
    obtain ⟨t, _, rfl⟩ := List.mem_map.mp hx
    obtain ⟨u, _, rfl⟩ := List.mem_map.mp hy
    exact lt_snoc (by rw [(allK_row k a ha).1, (allK_row k b hb).1]) h t u
theorem near_sorted {w : Str} {n : Nat} {xs : List Int} {r : Int} : (nearL w n xs r).Pairwise (· ≤ ·) := ((allK_sorted n).filter _).imp fun h => List.le_of_lt h
end Fo
namespace Fo
open PySem PySem.Spec PyProof.Rows L2
/-! ### all orders: each once -/
theorem allK_mem {n : Nat} : ∀ (k : Nat) (r : List Int), r.length = k → r.Nodup → (∀ x ∈ r, x ∈ rg n) → r ∈ allK n k
  | 0, r, hl, _, _ => by rw [List.length_eq_zero_iff.mp hl]; exact List.mem_cons_self
  | k + 1, r, hl, hn, hs => by
    have hne : r ≠ [] := fun e => by rw [e] at hl; cases hl
    have e := List.dropLast_concat_getLast hne
    rw [← e] at hn hs ⊢
    rw [List.nodup_append] at hn
    have ih := allK_mem k r.dropLast (by rw [List.length_dropLast, hl]; rfl) hn.1 fun x hx => hs x (List.mem_append.mpr (.inl hx))
    refine List.mem_flatMap.mpr ⟨_, ih, List.mem_map.mpr ⟨r.getLast hne, List.mem_filter.mpr ⟨hs _ (List.mem_append.mpr (.inr (List.mem_singleton.mpr rfl))), ?_⟩, rfl⟩⟩
    rw [decide_eq_false (fun z => hn.2.2 _ z _ (List.mem_singleton.mpr rfl) rfl)]
    rfl
theorem ord_mem {n : Nat} {r : List Int} (o : IsOrd n r) : r ∈ allK n n := allK_mem n r o.len o.nodup fun x hx => rg_mem.mpr (o.mem hx)
theorem allK_nodup {n : Nat} : ∀ k, (allK n k).Nodup
  | 0 => List.nodup_cons.mpr ⟨List.not_mem_nil, List.nodup_nil⟩
  | k + 1 => by
    have ih := allK_nodup (n := n) k
    show List.Pairwise _ ((allK n k).flatMap (extO n))
    rw [List.pairwise_flatMap]
    refine ⟨fun o _ => ?_, ih.imp fun {a b} hab x hx y hy e => ?_⟩
    · unfold extO
      refine List.Pairwise.map _ (fun a b h e => h ?_) ((rg_nodup n).filter _)
      have := List.append_cancel_left e
      exact (List.cons.inj this).1
    · obtain ⟨t, _, rfl⟩ := List.mem_map.mp hx
      obtain ⟨u, _, rfl⟩ := List.mem_map.mp hy
      exact hab (List.append_inj_left' e rfl)
theorem nodup_lenG : ∀ {l m : List (List Int)}, l.Nodup → (∀ x ∈ l, x ∈ m) → l.length ≤ m.length
  | [], m, _, _ => Nat.zero_le _
  | a :: l, m, hn, hs => by
    obtain ⟨h1, h2⟩ := List.nodup_cons.mp hn
    have ha := hs a List.mem_cons_self
    have ih := nodup_lenG (l := l) (m := m.erase a) h2 fun x hx => by
      have ne : x ≠ a := fun e => h1 (by rw [← e]; exact hx)
      exact (List.mem_erase_of_ne ne).mpr (hs x (List.mem_cons_of_mem _ hx))
    rw [List.length_erase_of_mem ha] at ih
    have : 0 < m.length := List.length_pos_of_mem ha
    rw [List.length_cons]
    omega
theorem nodup_perm {l m : List (List Int)} (hl : l.Nodup) (hm : m.Nodup) (h : ∀ x, x ∈ l ↔ x ∈ m) : l.Perm m := by
  rw [List.perm_iff_count]
  intro a
  have c : ∀ {l : List (List Int)}, l.Nodup → l.count a = if a ∈ l then 1 else 0 := by
    intro l hl
    by_cases ha : a ∈ l
    · rw [if_pos ha]
      have h1 := List.nodup_iff_count.mp hl a
      have h2 := List.count_pos_iff.mpr ha
      omega
    · rw [if_neg ha]
      exact List.count_eq_zero.mpr ha
  rw [c hl, c hm]
  by_cases ha : a ∈ l
  · rw [if_pos ha, if_pos ((h a).mp ha)]
  · rw [if_neg ha, if_neg (fun z => ha ((h a).mpr z))]
theorem seats_inj {n : Nat} {xs a b : List Int} (ox : IsOrd n xs) (oa : IsOrd n a) (ob : IsOrd n b) (e : seatsL a xs = seatsL b xs) : a = b := by
  apply List.ext_getElem?
  intro i
  by_cases h : i < n
  · obtain ⟨x, ex, x0, x1⟩ := ord_ix oa h
    obtain ⟨y, ey, y0, y1⟩ := ord_ix ob h
    have h1 := seats_at (ys := xs) ex
    have h2 := seats_at (ys := xs) ey
    rw [e, h2] at h1
    have h3 := Option.some.inj h1
    rw [ex, ey, pos_inj ox (rg_mem.mpr ⟨x0, x1⟩) (rg_mem.mpr ⟨y0, y1⟩) h3.symm]
  · rw [List.getElem?_eq_none (by rw [oa.len]; omega), List.getElem?_eq_none (by rw [ob.len]; omega)]
/-- all orders, called by their seats in one of them, are all orders -/
theorem seats_all {n : Nat} {xs : List Int} (ox : IsOrd n xs) : ((allK n n).map fun o => seatsL o xs).Perm (allK n n) := by
  have hnd : ((allK n n).map fun o => seatsL o xs).Nodup := by
    show List.Pairwise _ _
    rw [List.pairwise_map]
    exact (allK_nodup n).imp_of_mem fun ha hb h e => h (seats_inj ox (all_ord ha) (all_ord hb) e)
  have hsub : ∀ x ∈ (allK n n).map fun o => seatsL o xs, x ∈ allK n n := fun x h => by
    obtain ⟨o, ho, rfl⟩ := List.mem_map.mp h
    exact ord_mem (seats_ord (all_ord ho) ox)
  refine nodup_perm hnd (allK_nodup n) fun x => ⟨hsub x, fun h => Classical.byContradiction fun hx => ?_⟩
  have hl := nodup_lenG (l := x :: (allK n n).map fun o => seatsL o xs) (m := allK n n) (List.nodup_cons.mpr ⟨hx, hnd⟩) fun y hy => by
    rcases List.mem_cons.mp hy with rfl | hy
    · exact h
    · exact hsub y hy
  rw [List.length_cons, List.length_map] at hl
  omega
end Fo
namespace Fo
open PySem PySem.Spec PyProof.Rows L2
/-! ### orders within, with things called or places put otherwise -/
theorem map_all {n : Nat} {g : List Int → List Int} (hg : ∀ o, IsOrd n o → IsOrd n (g o)) (hi : ∀ a b, IsOrd n a → IsOrd n b → g a = g b → a = b) : ((allK n n).map g).Perm (allK n n) := by
  have hnd : ((allK n n).map g).Nodup := by
    show List.Pairwise _ _
    rw [List.pairwise_map]
    exact (allK_nodup n).imp_of_mem fun ha hb h e => h (hi _ _ (all_ord ha) (all_ord hb) e)
  have hsub : ∀ x ∈ (allK n n).map g, x ∈ allK n n := fun x h => by
    obtain ⟨o, ho, rfl⟩ := List.mem_map.mp h
    exact ord_mem (hg _ (all_ord ho))
  refine nodup_perm hnd (allK_nodup n) fun x => ⟨hsub x, fun h => Classical.byContradiction fun hx => ?_⟩
  have hl := nodup_lenG (l := x :: (allK n n).map g) (m := allK n n) (List.nodup_cons.mpr ⟨hx, hnd⟩) fun y hy => by
    rcases List.mem_cons.mp hy with rfl | hy
    · exact h
    · exact hsub y hy
  rw [List.length_cons, List.length_map] at hl
  omega
theorem near_map {w : Str} {n : Nat} {xs : List Int} {r : Int} {g : List Int → List Int} (hg : ∀ o, IsOrd n o → IsOrd n (g o)) (hi : ∀ a b, IsOrd n a → IsOrd n b → g a = g b → a = b) (hf : ∀ o, IsOrd n o → farW w (g xs) (g o) = farW w xs o) : ((nearL w n xs r).map g).Perm (nearL w n (g xs) r) := by
  have h := (map_all hg hi).filter fun o => decide (farW w (g xs) o ≤ r)
  rw [List.filter_map] at h
  have e : (allK n n).filter ((fun o => decide (farW w (g xs) o ≤ r)) ∘ g) = nearL w n xs r := by
    unfold nearL
    apply List.filter_congr
    intro o ho
    show decide (farW w (g xs) (g o) ≤ r) = _
    rw [hf o (all_ord ho)]
  rw [e] at h
  exact h
theorem back_is {n : Nat} {ns : List Int} (o : IsOrd n ns) : IsBack ns ((rg n).map (pos ns)) := by
  refine ⟨by rw [List.length_map, rg_len, o.len], fun j x hx => ?_⟩
  have hb := o.mem (List.mem_of_getElem? hx)
  unfold rg
  rw [List.map_map, List.getElem?_map, List.getElem?_range (by omega)]
  show some (pos ns ((x.toNat : Nat) : Int)) = _
  rw [show ((x.toNat : Nat) : Int) = x by omega, pos_of o hx]
theorem behind_first {n : Nat} {o : List Int} (oo : IsOrd n o) : behindL (rg n) o = o := by
  unfold behindL
  have e : o.map (fun p => (rg n).getD p.toNat 0) = o.map id := by
    apply List.map_congr_left
    intro p hp
    have hb := oo.mem hp
    unfold rg
    rw [List.getD_eq_getElem?_getD, List.getElem?_map, List.getElem?_range (by omega)]
    show ((p.toNat : Nat) : Int) = p
    omega
  rw [e, List.map_id]
theorem behind_last {n : Nat} {o : List Int} (oo : IsOrd n o) : behindL o (rg n) = o := by
  have h := by_places o
  rw [oo.len] at h
  exact h.symm
theorem rg_ord (n : Nat) : IsOrd n (rg n) := List.Perm.refl _
theorem behind_inj {n : Nat} {z a b : List Int} (oz : IsOrd n z) (oa : IsOrd n a) (ob : IsOrd n b) (e : behindL z a = behindL z b) : a = b := by
  have hb := back_is oz
  have op := back_ord oz hb
  have h := congrArg (behindL ((rg n).map (pos z))) e
  rw [← behind_assoc op oz oa, ← behind_assoc op oz ob, behind_back op (back_back oz hb), behind_first oa, behind_first ob] at h
  exact h
theorem behind_inj2 {n : Nat} {z a b : List Int} (oz : IsOrd n z) (oa : IsOrd n a) (ob : IsOrd n b) (e : behindL a z = behindL b z) : a = b := by
  have hb := back_is oz
  have op := back_ord oz hb
  have h := congrArg (fun l => behindL l ((rg n).map (pos z))) e
  rw [behind_assoc oa oz op, behind_assoc ob oz op, behind_back oz hb, behind_last oa, behind_last ob] at h
  exact h
theorem far_behind {w : Str} {n : Nat} {z xs o : List Int} (hw : IsWay w) (oz : IsOrd n z) (ox : IsOrd n xs) (oo : IsOrd n o) (hn : 1 ≤ n) : farW w (behindL z xs) (behindL z o) = farW w xs o :=
  farW_called (r := g0 z) hw ox oo (behind_ord oz ox) (behind_ord oz oo) hn (by rw [← g0_ord oz]; exact oz) (behind_pos oz ox) (behind_pos oz oo)
theorem g0_behind {n : Nat} {xs z : List Int} (oz : IsOrd n z) {p : Int} (hp : p ∈ rg n) : g0 (behindL xs z) p = g0 xs (g0 z p) := by
  obtain ⟨h0, h1⟩ := rg_mem.mp hp
  obtain ⟨x, ex, _⟩ := ord_ix oz (j := p.toNat) (by omega)
  have ep : p = ((p.toNat : Nat) : Int) := by omega
  have e1 : g0 z p = x := by rw [ep]; exact g0_at ex
  unfold behindL
  rw [e1, ep]
  have : (z.map fun p => xs.getD p.toNat 0)[p.toNat]? = some (xs.getD x.toNat 0) := by rw [List.getElem?_map, ex]; rfl
  rw [g0_at this]
  rfl
theorem spot_behind {n : Nat} {z xs o : List Int} (oz : IsOrd n z) (ox : IsOrd n xs) (oo : IsOrd n o) : farSpot (behindL xs z) (behindL o z) = farSpot xs o := by
  unfold farSpot spotL
  rw [behind_len, oz.len, ox.len, filter_len, filter_len, sum_g0 oz (fun p => ind (!decide (g0 xs p = g0 o p)))]
  congr 1
  apply sumN_congr
  intro p hp
  rw [g0_behind oz hp, g0_behind oz hp]
theorem rev_ord {n : Nat} {o : List Int} (oo : IsOrd n o) : IsOrd n o.reverse := (List.reverse_perm o).trans oo
theorem rev_inj {a b : List Int} (e : a.reverse = b.reverse) : a = b := by rw [← List.reverse_reverse a, e, List.reverse_reverse]
/-! lists of rows as pairs -/
theorem LL_zip {H : Hp} : ∀ {as : List Addr} {rs : List (List Int)}, LL H as rs → (as.zip rs).map (·.1) = as ∧ (as.zip rs).map (·.2) = rs ∧ ∀ p ∈ as.zip rs, H p.1 = some (.lst (p.2.map V.int))
  | [], [], _ => ⟨rfl, rfl, fun p hp => absurd hp List.not_mem_nil⟩
  | [], _ :: _, h => h.elim
  | _ :: _, [], h => h.elim
  | a :: as, r :: rs, h => by
    obtain ⟨h1, h2, h3⟩ := LL_zip h.2
    refine ⟨congrArg (a :: ·) h1, congrArg (r :: ·) h2, fun p hp => ?_⟩
    rcases List.mem_cons.mp hp with rfl | hp
    · exact h.1
    · exact h3 p hp
theorem LL_ps {H : Hp} : ∀ {qs : List (Addr × List Int)}, (∀ p ∈ qs, H p.1 = some (.lst (p.2.map V.int))) → LL H (qs.map (·.1)) (qs.map (·.2))
  | [], _ => trivial
  | q :: qs, h => ⟨h q List.mem_cons_self, LL_ps fun p hp => h p (List.mem_cons_of_mem _ hp)⟩
/-- what is sorted of rows -/
theorem sorted_rows {K : PySem.W.Frag} {H : Hp} {D : Addr} {bs : List Addr} {rs ss : List (List Int)} (hD : H D = some (.lst (bs.map V.ref))) (hL : LL H bs rs) (hp : rs.Perm ss) (hs : ss.Pairwise (· ≤ ·)) :
    ∃ ps : List (Addr × List Int), SqL K H D (ps.map fun p => V.ref p.1) ∧ (∀ p ∈ ps, Dp K H (.ref p.1) (dL p.2)) ∧ ∀ l, H l = none → ∃ cs : List Addr, ((rowsR ps).map fun p => V.ref p.1) = cs.map V.ref ∧ LL (upd H l (.lst (cs.map V.ref))) cs ss ∧ ∀ c ∈ cs, c ∈ bs := by
  obtain ⟨h1, h2, h3⟩ := LL_zip hL
  have e1 : bs.map V.ref = (bs.zip rs).map fun p => V.ref p.1 := by
    have h4 := congrArg (List.map V.ref) h1
    rw [List.map_map] at h4
    exact h4.symm
  refine ⟨bs.zip rs, SqL.of (by rw [hD, e1]), fun p hp2 => dp_list (h3 p hp2), fun l nl => ⟨(rowsR (bs.zip rs)).map (·.1), by rw [List.map_map]; rfl, ?_, fun c hc => ?_⟩⟩
  · have e3 : (rowsR (bs.zip rs)).map (·.2) = ss := by
      refine rows_eq (((rowsR_perm _).map _).trans ?_) (rowsR_sorted _) hs
      rw [h2]
      exact hp
    rw [← e3]
    refine LL_ps fun p hp2 => ?_
    have h4 := h3 p ((rowsR_perm _).mem_iff.mp hp2)
    rw [upd_ne (ne_of_none h4 nl)]
    exact h4
  · obtain ⟨p, hp2, rfl⟩ := List.mem_map.mp hc
    have := (rowsR_perm _).mem_iff.mp hp2
    rw [← h1]
    exact List.mem_map.mpr ⟨p, this, rfl⟩
end Fo
namespace Fo
open PySem PySem.Spec PyProof.Rows L2
def spAllO : Sp := fun vs H Q _ => ∃ n : Nat, vs = [.int n] ∧ 1 ≤ n ∧ n ≤ 6 ∧ ∀ (l : Addr) (as : List Addr) (H' : Hp), H l = none → H' l = some (.lst (as.map V.ref)) → LL H' as (allK n n) → (∀ a ∈ as, H a = none ∧ a ≠ l) → as.Nodup → Same H H' → Q (.ref l) H'
end Fo
namespace Fo
open PySem PySem.Spec PyProof.Rows L2
/-- an inner for over a list that stands still -/
theorem in_list {K : PySem.W.Frag} {a : Addr} {xs : List V} {g1 : TG} {tt1 : TT} {te : TE} {vs1 : List Nat} {σ2 : L2.St} {H4 : Hp} {D : Addr} {Nx : Hp → Prop} (Pw : Nat → Hp → Prop) (h0 : Pw 0 H4) (hl : ∀ i H, i ≤ xs.length → Pw i H → SqL K H a xs)
    (hs : ∀ j x H, xs[j]? = some x → Pw j H → g1 x (wipe σ2 vs1) H fun σ3 H5 => wipe σ3 vs1 = wipe σ2 vs1 ∧ tt1 σ3 H5 fun b H6 =>
      if b = true then te σ3 H6 fun y H7 => ∃ acc, H7 D = some (.lst acc) ∧ acc.length < sizeLine ∧ Pw (j + 1) (upd H7 D (.lst (acc ++ [y]))) else Pw (j + 1) H6) (hd : ∀ H, Pw xs.length H → Nx H) :
    ∃ W1 : Nat → Nat → Hp → Prop, (∃ m, W1 0 m H4) ∧ ∀ j k H, W1 j k H →
      ((Itl K a).stop j H ∧ Nx H) ∨ ((Itl K a).go j H ∧ ∃ Nx1 : Hp → Prop, (∀ H', Nx1 H' → ∃ k', k' < k ∧ W1 (j + 1) k' H') ∧ ∀ x H', (Itl K a).yld j H x H' → g1 x (wipe σ2 vs1) H' fun σ3 H5 => wipe σ3 vs1 = wipe σ2 vs1 ∧ tt1 σ3 H5 fun b H6 =>
        if b = true then te σ3 H6 fun y H7 => ∃ acc, H7 D = some (.lst acc) ∧ acc.length < sizeLine ∧ Nx1 (upd H7 D (.lst (acc ++ [y]))) else Nx1 H6) := by
  refine ⟨fun j m H => m = xs.length - j ∧ j ≤ xs.length ∧ Pw j H, ⟨xs.length, by simp, Nat.zero_le _, h0⟩, ?_⟩
  rintro j m H ⟨rfl, hi, p⟩
  have q := hl j H hi p
  by_cases hlt : j < xs.length
  · refine .inr ⟨⟨xs, xs[j], q, by simp [hlt]⟩, Pw (j + 1), fun H' p' => ⟨xs.length - (j + 1), by omega, rfl, hlt, p'⟩, fun x H' y => ?_⟩
    obtain ⟨e, y⟩ := y
    subst e
    exact hs j x _ (y _ q) p
  · have e : j = xs.length := by omega
    subst e
    exact .inl ⟨⟨xs, q, Nat.le_refl _⟩, hd H p⟩
/-! ### orders with choices -/
def extC (ch : List Int) (o : List Int) : List (List Int) := (ch.filter fun t => !decide (t ∈ o)).map fun t => o ++ [t]
def ordW (chs : List (List Int)) : List (List Int) := chs.foldl (fun b ch => b.flatMap (extC ch)) [[]]
theorem ordW_more {chs : List (List Int)} {i : Nat} {ch : List Int} (h : chs[i]? = some ch) : ordW (chs.take (i + 1)) = (ordW (chs.take i)).flatMap (extC ch) := by
  unfold ordW
  rw [List.take_add_one, h, List.foldl_append]
  rfl
theorem extC_more {ch : List Int} {o : List Int} {j : Nat} {t : Int} (h : ch[j]? = some t) : extC (ch.take (j + 1)) o = extC (ch.take j) o ++ (if t ∈ o then [] else [o ++ [t]]) := by
  unfold extC
  rw [List.take_add_one, h, List.filter_append, List.map_append]
  congr 1
  show List.map _ (List.filter _ [t]) = _
  rw [List.filter_cons]
  by_cases c : t ∈ o
  · rw [decide_eq_true c, if_pos c]
    rfl
  · rw [decide_eq_false c, if_neg c]
    rfl
theorem extC_len (ch o : List Int) : (extC ch o).length ≤ ch.length := by
  unfold extC
  rw [List.length_map]
  exact List.length_filter_le _ _
theorem flatC_len (ch : List Int) : ∀ l : List (List Int), (l.flatMap (extC ch)).length ≤ l.length * ch.length
  | [] => Nat.zero_le _
  | o :: l => by
    rw [List.flatMap_cons, List.length_append, List.length_cons, Nat.add_mul, Nat.one_mul]
    have := flatC_len ch l
    have := extC_len ch o
    omega
theorem ordW_all (n : Nat) : ∀ i, ordW (List.replicate i (rg n)) = allK n i
  | 0 => rfl
  | i + 1 => by
    have h := ordW_more (chs := List.replicate (i + 1) (rg n)) (i := i) (ch := rg n) (by rw [List.getElem?_replicate, if_pos (by omega)])
    rw [List.take_of_length_le (by rw [List.length_replicate]; omega), List.take_replicate, Nat.min_eq_left (by omega), ordW_all n i] at h
    exact h
theorem ordW_rows : ∀ (i : Nat) (chs : List (List Int)), ∀ r ∈ ordW (chs.take i), r.length ≤ i
  | 0, chs, r, h => by
    rw [List.take_zero] at h
    rw [List.mem_singleton.mp h]
    exact Nat.le_refl _
  | i + 1, chs, r, h => by
    cases e : chs[i]? with
    | none =>
      have : chs.take (i + 1) = chs.take i := by rw [List.take_add_one, e]; simp
      rw [this] at h
      exact Nat.le_succ_of_le (ordW_rows i chs r h)
    | some ch =>
      rw [ordW_more e] at h
      obtain ⟨o, ho, hr⟩ := List.mem_flatMap.mp h
      obtain ⟨t, _, rfl⟩ := List.mem_map.mp hr
      have := ordW_rows i chs o ho
      rw [List.length_append]
      show _ + 1 ≤ _
      omega
def spOrdW : Sp := fun vs H Q _ => ∃ (c : Addr) (cs : List Addr) (chs : List (List Int)), vs = [.ref c] ∧ H c = some (.lst (cs.map V.ref)) ∧ LL H cs chs ∧ chs.length ≤ 12 ∧ (∀ ch ∈ chs, ch.length ≤ 12) ∧ (∀ i, i ≤ chs.length → (ordW (chs.take i)).length ≤ 100000) ∧
  ∀ (l : Addr) (as : List Addr) (H' : Hp), H l = none → H' l = some (.lst (as.map V.ref)) → LL H' as (ordW chs) → (∀ a ∈ as, H a = none ∧ a ≠ l) → as.Nodup → Same H H' → Q (.ref l) H'
section
variable {P : Program} {w : World} {K : PySem.W.Frag} {mg : Str → Option Value} {base : Heap}
theorem scOrdW : FnScope ["choices", "begun", "things", "start", "thing"] ["choices"] (defScope s_orders_with) := ⟨rfl, rfl, rfl, by decide +kernel, rfl, by decide +kernel, by decide +kernel⟩
set_option maxHeartbeats 4000000 in
theorem ok_ordW {f : Addr} {fd : FuncData} {k : Nat} (T : Df K mg "orders_with" s_orders_with ["choices"] f fd) (B : Bi mg) : FnOk P w K mg base CX0 (k + 1) f fd ["choices"] spOrdW := by
  refine T.F.ok scOrdW (fun vs H Q E h => ?_) (fun cdv A outer s H vs Q E hr h => ?_)
  · obtain ⟨c, cs, chs, rfl, _⟩ := h
    rfl
  · obtain ⟨c0, ks, chs, rfl, hc, hLc, hcl, hch, hsz, q⟩ := h
    have hkl := hLc.len
    refine ⟨_, 
      (pss_cons (ps_set (i := 1) scOrdW.nd rfl (.inl rfl) (pe_lst (pa_cons (pe_lst pa_nil) pa_nil)))
      (pss_cons (ps_for PassesOwn.never rfl (pi_list (pv 0)) (pg_name (i := 2) scOrdW.nd rfl (.inr rfl))
        (pss_one (ps_setLc2 (i := 1) (own := [("start", 3), ("thing", 4)]) (vs1 := [4]) (wi1 := iList K (tVar 2)) (g := (gName 3)) (tt := tYes) (g1 := (gName 4)) (tt1 := (tTest (tOp (rIn K true) (tVar 4) (tVar 3)))) (te := (tOp rCat (tVar 3) (tLst (tCons (tVar 4) tNil)))) (by rfl) scOrdW.nd rfl rfl (sw_true rfl rfl rfl (by decide +kernel)) (pi_list (pv 1)) (blkOk_by (N := ["choices", "begun", "things", "start", "thing"]) (sc := defScope s_orders_with) (by decide +kernel)) (by decide) (fun _ _ _ _ _ => (pg_name (i := 3) scOrdW.nd rfl (.inl rfl))) (fun _ _ _ _ _ => pts_nil) (fun _ _ _ _ _ => (pi_list (pv 2))) (fun _ _ _ _ _ => (pg_name (i := 4) scOrdW.nd rfl (.inl rfl))) (fun _ _ _ _ _ => (pts_one (pt_cmpR op_notIn_seq (pv 4) (pv 3) (by rfl)))) (fun _ _ _ _ _ => (pe_op op_cat (pv 3) (pe_lst (pa_cons (pv 4) pa_nil)))))))
      (pss_one (ps_ret (pv 1))))), ?_⟩
    refine ⟨Nat.zero_le _, fun e0 ne0 => ⟨line_small (by show 1 ≤ 16777216; decide), fun bg nbg => ?_⟩⟩
    have s0 := same_new (o := .lst []) ne0
    have s1 := same_new (o := .lst [.ref e0]) nbg
    have nHbg : H bg = none := s0.free nbg
    have neb : e0 ≠ bg := ne_of_none upd_same nbg
    refine ⟨_, rfl, c0, rfl, ⟨_, SqL.of (s1 _ _ (s0 _ _ hc))⟩, ?_⟩
    refine for_list (xs := ks.map V.ref) (fun i σ H3 => ∃ (bg : Addr) (y2 y3 y4 : Option V) (as : List Addr), σ = [some (.ref c0), some (.ref bg), y2, y3, y4] ∧ H bg = none ∧ H3 bg = some (.lst (as.map V.ref)) ∧ LL H3 as (ordW (chs.take i)) ∧ (∀ c ∈ as, H c = none ∧ c ≠ bg) ∧ as.Nodup ∧ Same H H3)
      ⟨bg, _, _, _, [e0], rfl, nHbg, upd_same, ⟨s1 _ _ upd_same, trivial⟩, fun c hc => by rw [List.mem_singleton.mp hc]; exact ⟨ne0, neb⟩, List.nodup_cons.mpr ⟨List.not_mem_nil, List.nodup_nil⟩, s0.trans s1⟩ (fun i σ H3 _ hP => by obtain ⟨_, _, _, _, _, _, _, _, _, _, _, sm⟩ := hP; exact SqL.of (sm _ _ hc)) (fun i x σ H3 hx hP => ?_) (fun σ H3 hP => ?_)
    · obtain ⟨bg, y2, y3, y4, as, rfl, nbg, hb3, hLL, hfr, hnd, sm⟩ := hP
      obtain ⟨kc, ek, rfl⟩ := ref_at_inv hx
      obtain ⟨ch, ech, hkc⟩ := hLc.get ek
      have hi := (List.getElem?_eq_some_iff.mp ech).1
      have hchl := hch ch (List.mem_of_getElem? ech)
      have hlen := hLL.len
      have hal := hsz i (by omega)
      have hkc3 := sm _ _ hkc
      refine ⟨_, rfl, bg, rfl, ⟨_, SqL.of hb3⟩, fun D nD => ?_⟩
      have nHD : H D = none := sm.free nD
      refine lc2_list (K := K) (a := bg) (xs := as.map V.ref) (fun m H4 => ∃ cs : List Addr, H4 D = some (.lst (cs.map V.ref)) ∧ LL H4 cs (((ordW (chs.take i)).take m).flatMap (extC ch)) ∧ (∀ c ∈ cs, H3 c = none ∧ c ≠ D) ∧ cs.Nodup ∧ Same H3 H4)
        ⟨[], upd_same, trivial, fun c hc => absurd hc List.not_mem_nil, List.nodup_nil, same_new nD⟩ (fun m H4 _ hP => by obtain ⟨_, _, _, _, _, s4⟩ := hP; exact SqL.of (s4 _ _ hb3)) (fun m x H4 hx hP => ?_) (fun H4 hP => ?_)
      · obtain ⟨cs, hD4, hLc4, hfc, hndc, s4⟩ := hP
        obtain ⟨r, er, rfl⟩ := ref_at_inv hx
        obtain ⟨row, erow, hrow⟩ := hLL.get er
        have hrl := ordW_rows i chs row (List.mem_of_getElem? erow)
        refine ⟨rfl, ?_⟩
        refine ⟨_, rfl, kc, rfl, ⟨_, SqL.of (s4 _ _ hkc3)⟩, ?_⟩
        refine in_list (K := K) (a := kc) (xs := ch.map V.int) (fun j H5 => ∃ cs : List Addr, H5 D = some (.lst (cs.map V.ref)) ∧ LL H5 cs (((ordW (chs.take i)).take m).flatMap (extC ch) ++ extC (ch.take j) row) ∧ (∀ c ∈ cs, H3 c = none ∧ c ≠ D) ∧ cs.Nodup ∧ Same H3 H5)
          ⟨cs, hD4, by rw [show extC (ch.take 0) row = [] from rfl, List.append_nil]; exact hLc4, hfc, hndc, s4⟩ (fun j H5 _ hP => by obtain ⟨_, _, _, _, _, s5⟩ := hP; exact SqL.of (s5 _ _ hkc3)) (fun j x H5 hx hP => ?_) (fun H5 hP => ?_)
        · obtain ⟨cs5, hD5, hL5, hf5, hnd5, s5⟩ := hP
          obtain ⟨t, et, rfl⟩ := int_at_inv hx
          have hrow5 := s5 _ _ hrow
          refine ⟨rfl, _, rfl, _, rfl, r, _, rfl, .inl (SqL.of hrow5), rfl, flat_ints row, _, rfl, ?_⟩
          show if (!inV (.int t) (row.map V.int)) = true then _ else _
          rw [inV_int]
          have em := extC_more (o := row) et
          by_cases c : t ∈ row
          · rw [decide_eq_true c]
            refine iteF ⟨cs5, hD5, ?_, hf5, hnd5, s5⟩
            rw [em, if_pos c, List.append_nil]
            exact hL5
          · rw [decide_eq_false c]
            refine iteT ⟨_, rfl, _, rfl, line_small (by show 1 ≤ 16777216; decide), fun p np => ?_⟩
            have sp1 := same_new (o := .lst [.int t]) np
            refine ⟨r, p, _, _, rfl, rfl, sp1 _ _ hrow5, upd_same, line_small (by rw [List.length_map]; show _ + 1 ≤ _; omega), fun z nz => ?_⟩
            have sp2 := same_new (o := .lst (row.map V.int ++ [.int t])) nz
            have hD6 := sp2 _ _ (sp1 _ _ hD5)
            have nzD : z ≠ D := (ne_of_none (sp1 _ _ hD5) nz).symm
            have hl5 := hL5.len
            have hcount : cs5.length < 16777216 := by
              have h1 : (((ordW (chs.take i)).take m).flatMap (extC ch) ++ extC (ch.take j) row).length ≤ ((ordW (chs.take i)).take m).length * ch.length + ch.length := by
                rw [List.length_append]
                have a1 := flatC_len ch ((ordW (chs.take i)).take m)
                have a2 := extC_len (ch.take j) row
                rw [List.length_take] at a2
                omega
              have h2 : ((ordW (chs.take i)).take m).length * ch.length ≤ 100000 * 12 := Nat.mul_le_mul (by rw [List.length_take]; omega) hchl
              omega
            refine ⟨_, hD6, line_lt (by rw [List.length_map]; exact hcount), cs5 ++ [z], by rw [upd_same, List.map_append]; rfl, ?_, fun c hc => ?_, ?_, fun u ob e => ?_⟩
            · rw [em, if_neg c, ← List.append_assoc]
              refine LL.snoc (((hL5.same sp1).same sp2).keep fun u hu ob e => by rw [upd_ne (hf5 u hu).2]; exact e) ?_
              rw [upd_ne nzD, upd_same, List.map_append]
              rfl
            · rcases List.mem_append.mp hc with hc | hc
              · exact hf5 c hc
              · rw [List.mem_singleton.mp hc]
                exact ⟨(s5.trans sp1).free nz, nzD⟩
            · rw [List.nodup_append]
              refine ⟨hnd5, List.nodup_cons.mpr ⟨List.not_mem_nil, List.nodup_nil⟩, fun x hx y hy e => ?_⟩
              rw [List.mem_singleton.mp hy] at e
              obtain ⟨ob, eo⟩ := hL5.tracked hx
              rw [e] at eo
              have := sp1 _ _ eo
              rw [nz] at this
              cases this
            · rw [upd_ne (ne_of_none e nD)]
              exact sp2 _ _ (sp1 _ _ (s5 _ _ e))
        · obtain ⟨cs5, hD5, hL5, hf5, hnd5, s5⟩ := hP
          refine ⟨cs5, hD5, ?_, hf5, hnd5, s5⟩
          rw [List.length_map, List.take_length] at hL5
          rw [List.take_add_one, erow, List.flatMap_append]
          show LL H5 cs5 (_ ++ (extC ch row ++ []))
          rw [List.append_nil]
          exact hL5
      · obtain ⟨cs, hD4, hLc4, hfc, hndc, s4⟩ := hP
        rw [List.length_map, hlen, List.take_length] at hLc4
        refine ⟨D, _, _, _, cs, rfl, nHD, hD4, ?_, fun c hc => ⟨sm.free (hfc c hc).1, (hfc c hc).2⟩, hndc, sm.trans s4⟩
        rw [ordW_more ech]
        exact hLc4
    · obtain ⟨bg, y2, y3, y4, as, rfl, nbg, hb3, hLL, hfr, hnd, sm⟩ := hP
      rw [List.length_map, hkl, List.take_length] at hLL
      exact ⟨_, rfl, q bg as H3 nbg hb3 hLL hfr hnd sm⟩
theorem LL_rep {H : Hp} {a : Addr} {r : List Int} (h : H a = some (.lst (r.map V.int))) : ∀ m, LL H (List.replicate m a) (List.replicate m r)
  | 0 => trivial
  | m + 1 => ⟨h, LL_rep h m⟩
theorem rep_flat (v : V) : ∀ m : Nat, (List.replicate m [v]).flatten = List.replicate m v
  | 0 => rfl
  | m + 1 => by rw [List.replicate_succ, List.flatten_cons, rep_flat v m]; rfl
theorem scAllO : FnScope ["n"] ["n"] (defScope s_all_orders) := ⟨rfl, rfl, rfl, by decide +kernel, rfl, by decide +kernel, by decide +kernel⟩
theorem ok_all_orders {f f1 : Addr} {fd d1 : FuncData} {k : Nat} (T : Df K mg "all_orders" s_all_orders ["n"] f fd) (T_orders_with : Df K mg "orders_with" s_orders_with ["choices"] f1 d1) (B : Bi mg) : FnOk P w K mg base CX0 (k + 2) f fd ["n"] spAllO := by
  have G_orders_with : FnOk P w K mg base CX0 (k + 1) f1 d1 ["choices"] spOrdW := ok_ordW T_orders_with B
  refine T.F.ok scAllO (fun vs H Q E h => ?_) (fun cdv A outer s H vs Q E hr h => ?_)
  · obtain ⟨n, rfl, _⟩ := h
    rfl
  · obtain ⟨n, rfl, hn1, hn2, q⟩ := h
    refine ⟨_, 
      (pss_one (ps_ret (pe_call G_orders_with hr (by rfl) T_orders_with.g T_orders_with.F.kp T_orders_with.b .nil pass0 (pa_cons (pe_op op_rep (pe_lst (pa_cons (pe_listRg rfl (by rfl) B.list (prg_1 (by rfl) B.range (pv 0))) pa_nil)) (pv 0)) pa_nil)))), ?_⟩
    refine ⟨_, rfl, n, rfl, RgOk.of_le (by omega) (by omega) (by omega) (by omega), fun l nl => ?_⟩
    have t1 := same_new (o := .lst (rgV 0 (n : Int))) nl
    have hl : (upd H l (.lst (rgV 0 (n : Int)))) l = some (.lst ((rg n).map V.int)) := by rw [upd_same, rg_V]
    refine ⟨line_small (by show 1 ≤ 16777216; decide), fun l1 nl1 => ?_⟩
    have t2 := same_new (o := .lst [.ref l]) nl1
    refine ⟨_, rfl, l1, _, _, rfl, rfl, upd_same, by omega, by omega, line_small (by rw [Int.toNat_natCast]; show 1 * n ≤ _; omega), fun l2 nl2 => ?_⟩
    have t3 := same_new (o := .lst (List.replicate ((n : Nat) : Int).toNat [V.ref l]).flatten) nl2
    have tt := (t1.trans t2).trans t3
    refine ⟨l2, List.replicate n l, List.replicate n (rg n), rfl, by rw [upd_same, Int.toNat_natCast, rep_flat, List.map_replicate], LL_rep (t3 _ _ (t2 _ _ hl)) n, by rw [List.length_replicate]; omega, fun ch hc => ?_, fun i hi => ?_, fun r as H' nr hr hLL hfr hnd s' => ?_⟩
    · rw [(List.mem_replicate.mp hc).2, rg_len]
      omega
    · rw [List.length_replicate] at hi
      rw [List.take_replicate, Nat.min_eq_left hi, ordW_all]
      have h1 := allK_len hn2 i hi
      have h2 := pow6 (show i ≤ 6 by omega)
      omega
    · rw [ordW_all] at hLL
      exact q r as H' (tt.free nr) hr hLL (fun c hc => ⟨tt.free (hfr c hc).1, (hfr c hc).2⟩) hnd (tt.trans s')
end
end Fo
namespace Fo
open PySem PySem.Spec PyProof.Rows L2
/-- where a thing stands in an order -/
theorem idx_read {K : PySem.W.Frag} {H : Hp} {a : Addr} {n : Nat} {ys : List Int} {x : Int} {Q : VK} (o : IsOrd n ys) (h : H a = some (.lst (ys.map V.int))) (x0 : 0 ≤ x) (x1 : x < n) (q : Q (.int (pos ys x)) H) : rIndex K (.ref a) [.int x] H Q := by
  obtain ⟨j, hj, ej, pj⟩ := pos_at o x0 x1
  refine ⟨a, _, _, j, _, rfl, rfl, SqL.of h, rfl, flat_ints ys, int_at ej, ?_, fun u z' hu hz' => ?_, ?_⟩
  · show (x == x) = true
    exact beq_self_eq_true _
  · obtain ⟨y, ey, rfl⟩ := int_at_inv hz'
    show (y == x) = false
    rw [beq_eq_false_iff_ne]
    intro e
    subst e
    exact absurd (nd_ix o.nodup ey ej) (by omega)
  · rw [← pj]
    exact q
theorem idx_facts {n : Nat} {ys : List Int} {x : Int} (o : IsOrd n ys) (x0 : 0 ≤ x) (x1 : x < n) : ∃ j : Nat, (ys.map V.int)[j]? = some (V.int x) ∧ eqV (V.int x) (V.int x) = true ∧ (∀ (m : Nat) (z' : V), m < j → (ys.map V.int)[m]? = some z' → eqV z' (V.int x) = false) ∧ ((j : Nat) : Int) = pos ys x := by
  obtain ⟨j, hj, ej, pj⟩ := pos_at o x0 x1
  refine ⟨j, int_at ej, ?_, fun u z' hu hz' => ?_, pj.symm⟩
  · show (x == x) = true
    exact beq_self_eq_true _
  · obtain ⟨y, ey, rfl⟩ := int_at_inv hz'
    show (y == x) = false
    rw [beq_eq_false_iff_ne]
    intro e
    subst e
    exact absurd (nd_ix o.nodup ey ej) (by omega)
end Fo
namespace Fo
open PySem PySem.Spec PyProof.Rows L2
/-! ### pairs of things -/
theorem pair_sum (F : Int → Int → Nat) (h0 : ∀ t, F t t = 0) : ∀ n : Nat, (sumN (rg n) fun t => sumN (rg n) fun u => F t u) = sumN (rg n) fun t => sumN (rg t.toNat) fun u => F t u + F u t
  | 0 => rfl
  | n + 1 => by
    have ih := pair_sum F h0 n
    rw [rg_succ, sumN_append, sumN_append, ← ih]
    rw [sumN_cons, sumN_nil, sumN_cons, sumN_nil, Int.toNat_natCast]
    have e1 : (sumN (rg n) fun t => sumN (rg n ++ [(n : Int)]) fun u => F t u) = (sumN (rg n) fun t => sumN (rg n) fun u => F t u) + sumN (rg n) fun t => F t (n : Int) := by
      rw [← sumN_add]
      apply sumN_congr
      intro t _
      rw [sumN_append, sumN_cons, sumN_nil]
      omega
    have e2 : (sumN (rg n ++ [(n : Int)]) fun u => F (n : Int) u) = sumN (rg n) (fun u => F (n : Int) u) := by
      rw [sumN_append, sumN_cons, sumN_nil, h0]
      omega
    have e3 : (sumN (rg n) fun u => F (n : Int) u + F u (n : Int)) = sumN (rg n) (fun u => F (n : Int) u) + sumN (rg n) (fun u => F u (n : Int)) := sumN_add _ _ _
    have e4 := e1
    have e5 := e2
    have e6 := e3
    omega
def diffT (xs ys : List Int) (t u : Int) : Bool := !decide (decide (pos xs t < pos xs u) = decide (pos ys t < pos ys u))
theorem swT_pairs {n : Nat} {xs ys : List Int} (ox : IsOrd n xs) (oy : IsOrd n ys) : swT n xs ys = sumN (rg n) fun t => sumN (rg t.toNat) fun u => ind (diffT xs ys t u) := by
  unfold swT
  rw [pair_sum (fun t u => dT xs ys t u) (fun t => by
    unfold dT
    rw [decide_eq_false (show ¬ pos xs t < pos xs t by omega)]
    rfl)]
  apply sumN_congr
  intro t ht
  apply sumN_congr
  intro u hu
  have hub := rg_mem.mp hu
  have htb := rg_mem.mp ht
  have hur : u ∈ rg n := rg_mem.mpr ⟨hub.1, by omega⟩
  have n1 : pos xs t ≠ pos xs u := fun e => by
    have := pos_inj ox ht hur e
    omega
  have n2 : pos ys t ≠ pos ys u := fun e => by
    have := pos_inj oy ht hur e
    omega
  unfold dT diffT
  by_cases c : pos xs t < pos xs u
  · by_cases d : pos ys t < pos ys u
    · rw [decide_eq_true c, decide_eq_true d, decide_eq_false (show ¬ pos ys u < pos ys t by omega), decide_eq_false (show ¬ pos xs u < pos xs t by omega)]
      rfl
    · rw [decide_eq_true c, decide_eq_false d, decide_eq_true (show pos ys u < pos ys t by omega), decide_eq_false (show ¬ pos xs u < pos xs t by omega)]
      rfl
  · by_cases d : pos ys t < pos ys u
    · rw [decide_eq_false c, decide_eq_true d, decide_eq_false (show ¬ pos ys u < pos ys t by omega), decide_eq_true (show pos xs u < pos xs t by omega)]
      rfl
    · rw [decide_eq_false c, decide_eq_false d, decide_eq_true (show pos ys u < pos ys t by omega), decide_eq_true (show pos xs u < pos xs t by omega)]
      rfl
theorem sum_ind (l : List Int) (p : Int → Bool) : (l.map fun x => if p x then (1 : Int) else 0).sum = (((l.filter p).length : Nat) : Int) := by
  induction l with
  | nil => rfl
  | cons a l ih =>
    rw [List.map_cons, List.sum_cons, ih, List.filter_cons]
    cases p a
    · simp
    · simp
      omega
theorem farW_nonneg (w : Str) (xs ys : List Int) : 0 ≤ farW w xs ys := by
  unfold farW
  split
  · unfold farSwap; omega
  · split
    · unfold farSpot; omega
    · unfold farShift
      have : ∀ l : List Int, 0 ≤ maxL l := fun l => by
        induction l with
        | nil => exact Int.le_refl _
        | cons a l ih => show 0 ≤ max a (maxL l); omega
      exact this _
theorem rg_in_all {n : Nat} : ∀ k, k ≤ n → rg k ∈ allK n k
  | 0, _ => List.mem_cons_self
  | k + 1, h => by
    refine List.mem_flatMap.mpr ⟨rg k, rg_in_all k (by omega), List.mem_map.mpr ⟨(k : Int), List.mem_filter.mpr ⟨rg_mem.mpr ⟨by omega, by omega⟩, ?_⟩, (rg_succ k).symm⟩⟩
    rw [decide_eq_false (fun z => by have := rg_mem.mp z; omega)]
    rfl
theorem cutV_last (xs : List V) (v : V) : cutV (xs ++ [v]) none (some (-1)) = xs := by
  unfold cutV
  have e : HT.sIx (xs ++ [v]).length (xs ++ [v]).length (some (-1)) = xs.length := by
    unfold HT.sIx
    simp only [List.length_append, List.length_singleton]
    rw [if_pos (by decide)]
    omega
  rw [e, HT.sIx_none, List.drop_zero, Nat.sub_zero, List.take_left]
/-- a comprehension over zip of two lists that stand still -/
theorem lc_zipL {K : PySem.W.Frag} {a b : Addr} {xs ys : List V} {g : TG} {tt : TT} {te : TE} {vs : List Nat} {σ : L2.St} {H1 : Hp} {D : Addr} {Qd : Hp → Prop} (hxy : xs.length = ys.length) (Pv : Nat → Hp → Prop) (h0 : Pv 0 (upd H1 D (.lst []))) (hl : ∀ i H, i ≤ xs.length → Pv i H → SqL K H a xs ∧ SqL K H b ys)
    (hs : ∀ (i : Nat) (x y : V) (T : Addr) (H : Hp), xs[i]? = some x → ys[i]? = some y → Pv i H → H T = none → g (.ref T) (wipe σ vs) (upd H T (.tup [x, y])) fun σ2 H2 => wipe σ2 vs = wipe σ vs ∧ tt σ2 H2 fun b H3 =>
      if b = true then te σ2 H3 fun y H4 => ∃ acc, H4 D = some (.lst acc) ∧ acc.length < sizeLine ∧ Pv (i + 1) (upd H4 D (.lst (acc ++ [y]))) else Pv (i + 1) H3) (hd : ∀ H, Pv xs.length H → Qd H) :
    ∃ W : Nat → Nat → Hp → Prop, (∃ m, W 0 m (upd H1 D (.lst []))) ∧ ∀ i m H, W i m H →
      ((Itz K a b).stop i H ∧ Qd H) ∨ ((Itz K a b).go i H ∧ ∃ Nx : Hp → Prop, (∀ H', Nx H' → ∃ m', m' < m ∧ W (i + 1) m' H') ∧ ∀ x H', (Itz K a b).yld i H x H' → g x (wipe σ vs) H' fun σ2 H2 => wipe σ2 vs = wipe σ vs ∧ tt σ2 H2 fun b H3 =>
        if b = true then te σ2 H3 fun y H4 => ∃ acc, H4 D = some (.lst acc) ∧ acc.length < sizeLine ∧ Nx (upd H4 D (.lst (acc ++ [y]))) else Nx H3) := by
  refine ⟨fun i m H => m = xs.length - i ∧ i ≤ xs.length ∧ Pv i H, ⟨xs.length, by simp, Nat.zero_le _, h0⟩, ?_⟩
  rintro i m H ⟨rfl, hi, p⟩
  obtain ⟨qx, qy⟩ := hl i H hi p
  by_cases hlt : i < xs.length
  · have hlt2 : i < ys.length := by omega
    refine .inr ⟨⟨xs, ys, xs[i], ys[i], qx, qy, List.getElem?_eq_getElem hlt, List.getElem?_eq_getElem hlt2⟩, Pv (i + 1), fun H' p' => ⟨xs.length - (i + 1), by omega, rfl, hlt, p'⟩, fun x H' y => ?_⟩
    obtain ⟨T, x', y', rfl, hT, rfl, f1, f2⟩ := y
    exact hs i x' y' T H (f1 xs qx) (f2 ys qy) p hT
  · have e : i = xs.length := by omega
    subst e
    exact .inl ⟨⟨xs, ys, qx, qy, Or.inl (Nat.le_refl _)⟩, hd H p⟩
end Fo
namespace Fo
open PySem PySem.Spec PyProof.Rows L2
/-! how long a thing is, shown: added up -/
mutual
def wt : PyData → Nat
  | .none => 4
  | .bool _ => 5
  | .int i => (Str.ofString (toString i)).length
  | .str x => (reprText x).length
  | .list xs => wtL xs + 2
  | .tuple xs => wtL xs + 3
  | .dict kvs => wtK kvs + 2
def wtL : List PyData → Nat
  | [] => 0
  | x :: xs => wt x + 2 + wtL xs
def wtK : List (PyData × PyData) → Nat
  | [] => 0
  | (k, v) :: r => wt k + wt v + 4 + wtK r
end
theorem kvLen {k v : Str} : (k ++ Str.ofString ": " ++ v).length = k.length + v.length + 2 := by
  rw [strLen_append, strLen_append, show (Str.ofString ": ").length = 2 from rfl]
  omega
mutual
theorem shown_le : ∀ d : PyData, d.shown.length ≤ wt d
  | .none => by rw [PyData.shown, wt]; decide
  | .bool b => by rw [PyData.shown, wt]; cases b <;> decide
  | .int i => by rw [PyData.shown, wt]; exact Nat.le_refl _
  | .str x => by rw [PyData.shown, wt]; exact Nat.le_refl _
  | .list xs => by
    rw [PyData.shown, wt]
    have h1 := listText_le (PyData.shownAll xs)
    have h2 := piled_shown xs
    omega
  | .tuple xs => by
    rw [PyData.shown, wt]
    unfold tupleText
    rw [strLen_append, strLen_append]
    have h1 := join_le (PyData.shownAll xs)
    have h2 := piled_shown xs
    have e1 : (Str.ofString "(").length = 1 := rfl
    have e2 : (Str.ofString (if ((PyData.shownAll xs).length == 1) = true then ",)" else ")")).length ≤ 2 := by split <;> decide
    omega
  | .dict kvs => by
    rw [PyData.shown, wt]
    unfold dictText
    rw [strLen_append, strLen_append]
    have h1 := join_le (PyData.shownKv kvs)
    have h2 := piled_kv kvs
    have e1 : (Str.ofString "{").length = 1 := rfl
    have e2 : (Str.ofString "}").length = 1 := rfl
    omega
theorem piled_shown : ∀ xs : List PyData, piled (PyData.shownAll xs) ≤ wtL xs
  | [] => by rw [PyData.shownAll, piled_nil]; exact Nat.zero_le _
  | x :: xs => by
    rw [PyData.shownAll, piled_cons, wtL]
    have h1 := shown_le x
    have h2 := piled_shown xs
    omega
theorem piled_kv : ∀ ks : List (PyData × PyData), piled (PyData.shownKv ks) ≤ wtK ks
  | [] => by rw [PyData.shownKv, piled_nil]; exact Nat.zero_le _
  | (a, b) :: ks => by
    rw [PyData.shownKv, piled_cons, wtK]
    have h1 := shown_le a
    have h2 := shown_le b
    have h3 := piled_kv ks
    have e : (PyData.shown a ++ ": " ++ PyData.shown b).length = (PyData.shown a).length + (PyData.shown b).length + 2 := kvLen
    omega
end
/-- fit to be shown, in m signs, k deep -/
structure Rw (m k : Nat) (d : PyData) : Prop where
  s : d.showable = true
  l : wt d ≤ m
  d : d.depth ≤ k
structure Rws (m k : Nat) (ds : List PyData) : Prop where
  s : PyData.showableAll ds = true
  l : wtL ds ≤ m
  d : PyData.depthAll ds ≤ k
theorem Rw.rp {m k : Nat} {d : PyData} (h : Rw m k d) (hk : k ≤ 20) : Rp m d := ⟨h.s, Nat.le_trans (shown_le d) h.l, Nat.le_trans h.d hk⟩
theorem Rw.mono {m k m' k' : Nat} {d : PyData} (h : Rw m k d) (hm : m ≤ m') (hk : k ≤ k') : Rw m' k' d := ⟨h.s, Nat.le_trans h.l hm, Nat.le_trans h.d hk⟩
theorem Rws.mono {m k m' k' : Nat} {d : List PyData} (h : Rws m k d) (hm : m ≤ m') (hk : k ≤ k') : Rws m' k' d := ⟨h.s, Nat.le_trans h.l hm, Nat.le_trans h.d hk⟩
theorem rw_none : Rw 4 0 .none := ⟨by rw [PyData.showable], by rw [wt]; exact Nat.le_refl _, by rw [PyData.depth]; exact Nat.le_refl _⟩
theorem rw_bool (b : Bool) : Rw 5 0 (.bool b) := ⟨by rw [PyData.showable], by rw [wt]; exact Nat.le_refl _, by rw [PyData.depth]; exact Nat.le_refl _⟩
theorem log2_100 {i : Int} (h1 : -100000000000000000000000000 ≤ i) (h2 : i ≤ 100000000000000000000000000) : i.natAbs.log2 < 100 := by
  by_cases z : i.natAbs = 0
  · rw [z]
    decide
  · rw [Nat.log2_lt z]
    have : (2 : Nat) ^ 100 = 1267650600228229401496703205376 := by decide
    omega
theorem rw_int {i : Int} (h1 : -100000000000000000000000000 ≤ i) (h2 : i ≤ 100000000000000000000000000) : Rw 110 0 (.int i) := by
  have h := log2_100 h1 h2
  refine ⟨by rw [PyData.showable]; exact decide_eq_true (by omega), ?_, by rw [PyData.depth]; exact Nat.le_refl _⟩
  rw [wt]
  have := int_text_length_le (k := 100) (by decide) h
  rw [PySem.ofString_length]
  omega
theorem rw_str {x : Str} {n : Nat} (h : (reprText x).length ≤ n) : Rw n 0 (.str x) := ⟨by rw [PyData.showable], by rw [wt]; exact h, by rw [PyData.depth]; exact Nat.le_refl _⟩
theorem rws_nil {k : Nat} : Rws 0 k [] := ⟨by rw [PyData.showableAll], by rw [wtL]; exact Nat.le_refl _, by rw [PyData.depthAll]; exact Nat.zero_le _⟩
theorem rws_cons {a b k : Nat} {d : PyData} {ds : List PyData} (h : Rw a k d) (g : Rws b k ds) : Rws (a + 2 + b) k (d :: ds) :=
  ⟨by rw [PyData.showableAll, h.s, g.s]; rfl, by rw [wtL]; have := h.l; have := g.l; omega, by rw [PyData.depthAll]; exact Nat.max_le.mpr ⟨h.d, g.d⟩⟩
theorem rws_ints {b : Nat} : ∀ {ns : List Int}, (∀ x ∈ ns, -100000000000000000000000000 ≤ x ∧ x ≤ 100000000000000000000000000) → Rws (ns.length * 112) b (ns.map PyData.int)
  | [], _ => by rw [List.map_nil, List.length_nil, Nat.zero_mul]; exact rws_nil
  | x :: r, h => by
    have h1 := h x List.mem_cons_self
    have h2 := rws_cons ((rw_int h1.1 h1.2).mono (Nat.le_refl _) (Nat.zero_le b)) (rws_ints (b := b) (ns := r) fun y hy => h y (List.mem_cons_of_mem _ hy))
    exact h2.mono (by rw [List.length_cons, Nat.succ_mul]; omega) (Nat.le_refl _)
theorem rw_list {m k : Nat} {ds : List PyData} (h : Rws m k ds) : Rw (m + 2) (k + 1) (.list ds) := ⟨by rw [PyData.showable]; exact h.s, by rw [wt]; have := h.l; omega, by rw [PyData.depth]; exact Nat.succ_le_succ h.d⟩
theorem rw_tup {m k : Nat} {ds : List PyData} (h : Rws m k ds) : Rw (m + 3) (k + 1) (.tuple ds) := ⟨by rw [PyData.showable]; exact h.s, by rw [wt]; have := h.l; omega, by rw [PyData.depth]; exact Nat.succ_le_succ h.d⟩
theorem wtL_app : ∀ a b : List PyData, wtL (a ++ b) = wtL a + wtL b
  | [], b => by rw [List.nil_append, wtL, Nat.zero_add]
  | x :: a, b => by
    rw [List.cons_append, wtL, wtL, wtL_app a b]
    omega
theorem showAll_app : ∀ a b : List PyData, PyData.showableAll (a ++ b) = (PyData.showableAll a && PyData.showableAll b)
  | [], b => by rw [List.nil_append, PyData.showableAll, Bool.true_and]
  | x :: a, b => by rw [List.cons_append, PyData.showableAll, PyData.showableAll, showAll_app a b, Bool.and_assoc]
theorem depAll_app : ∀ a b : List PyData, PyData.depthAll (a ++ b) = max (PyData.depthAll a) (PyData.depthAll b)
  | [], b => by rw [List.nil_append, PyData.depthAll, Nat.zero_max]
  | x :: a, b => by
    rw [List.cons_append, PyData.depthAll, PyData.depthAll, depAll_app a b]
    omega
theorem Rws.app {m n k : Nat} {a b : List PyData} (h : Rws m k a) (g : Rws n k b) : Rws (m + n) k (a ++ b) :=
  ⟨by rw [showAll_app, h.s, g.s]; rfl, by rw [wtL_app]; have := h.l; have := g.l; omega, by rw [depAll_app]; exact Nat.max_le.mpr ⟨h.d, g.d⟩⟩
theorem Rws.left {m k : Nat} {a b : List PyData} (h : Rws m k (a ++ b)) : Rws m k a := by
  have h1 := h.s
  have h2 := h.l
  have h3 := h.d
  rw [showAll_app, Bool.and_eq_true] at h1
  rw [wtL_app] at h2
  rw [depAll_app] at h3
  exact ⟨h1.1, by omega, by omega⟩
theorem Rws.right {m k : Nat} {a b : List PyData} (h : Rws m k (a ++ b)) : Rws m k b := by
  have h1 := h.s
  have h2 := h.l
  have h3 := h.d
  rw [showAll_app, Bool.and_eq_true] at h1
  rw [wtL_app] at h2
  rw [depAll_app] at h3
  exact ⟨h1.2, by omega, by omega⟩
theorem Rws.take {m k : Nat} {a : List PyData} (h : Rws m k a) (n : Nat) : Rws m k (a.take n) := Rws.left (b := a.drop n) (by rw [List.take_append_drop]; exact h)
theorem Rws.drop {m k : Nat} {a : List PyData} (h : Rws m k a) (n : Nat) : Rws m k (a.drop n) := Rws.right (a := a.take n) (by rw [List.take_append_drop]; exact h)
theorem Rws.mem {m k : Nat} {x : PyData} : ∀ {a : List PyData}, Rws m k a → x ∈ a → Rw m k x
  | [], _, h => absurd h List.not_mem_nil
  | y :: a, h, hx => by
    have h1 := h.s
    have h2 := h.l
    have h3 := h.d
    rw [PyData.showableAll, Bool.and_eq_true] at h1
    rw [wtL] at h2
    rw [PyData.depthAll] at h3
    rcases List.mem_cons.mp hx with rfl | hx
    · exact ⟨h1.1, by omega, by omega⟩
    · exact Rws.mem (a := a) ⟨h1.2, by omega, by omega⟩ hx
theorem Rw.lst {m k : Nat} {ds : List PyData} (h : Rw m k (.list ds)) : ∃ j, j + 1 = k ∧ Rws m j ds := by
  have h1 := h.s
  have h2 := h.l
  have h3 := h.d
  rw [PyData.showable] at h1
  rw [wt] at h2
  rw [PyData.depth] at h3
  exact ⟨k - 1, by omega, h1, by omega, by omega⟩
theorem Rw.lsts {m k : Nat} {ds : List PyData} (h : Rw m k (.list ds)) : Rws m k ds := by
  obtain ⟨j, e, h⟩ := h.lst
  exact h.mono (Nat.le_refl _) (by omega)
theorem rw_cat {m n k : Nat} {a b : List PyData} (h : Rw m k (.list a)) (g : Rw n k (.list b)) : Rw (m + n) k (.list (a ++ b)) := by
  have h1 := h.s
  have h2 := h.l
  have h3 := h.d
  have g1 := g.s
  have g2 := g.l
  have g3 := g.d
  rw [PyData.showable] at h1 g1
  rw [wt] at h2 g2
  rw [PyData.depth] at h3 g3
  exact ⟨by rw [PyData.showable, showAll_app, h1, g1]; rfl, by rw [wt, wtL_app]; omega, by rw [PyData.depth, depAll_app]; omega⟩
theorem rw_take {m k : Nat} {a : List PyData} (h : Rw m k (.list a)) (n : Nat) : Rw m k (.list (a.take n)) := by
  have h1 := h.s
  have h2 := h.l
  have h3 := h.d
  rw [PyData.showable] at h1
  rw [wt] at h2
  rw [PyData.depth] at h3
  obtain ⟨g1, g2, g3⟩ := Rws.take ⟨h1, Nat.le_refl _, Nat.le_refl _⟩ n
  exact ⟨by rw [PyData.showable]; exact g1, by rw [wt]; omega, by rw [PyData.depth]; omega⟩
theorem rw_drop {m k : Nat} {a : List PyData} (h : Rw m k (.list a)) (n : Nat) : Rw m k (.list (a.drop n)) := by
  have h1 := h.s
  have h2 := h.l
  have h3 := h.d
  rw [PyData.showable] at h1
  rw [wt] at h2
  rw [PyData.depth] at h3
  obtain ⟨g1, g2, g3⟩ := Rws.drop ⟨h1, Nat.le_refl _, Nat.le_refl _⟩ n
  exact ⟨by rw [PyData.showable]; exact g1, by rw [wt]; omega, by rw [PyData.depth]; omega⟩
theorem rw_mem {m k : Nat} {a : List PyData} {x : PyData} (h : Rw m k (.list a)) (hx : x ∈ a) : Rw m k x := h.lsts.mem hx
theorem rw_totup {m k : Nat} {a : List PyData} (h : Rw m k (.list a)) : Rw (m + 1) k (.tuple a) := by
  have h1 := h.s
  have h2 := h.l
  have h3 := h.d
  rw [PyData.showable] at h1
  rw [wt] at h2
  rw [PyData.depth] at h3
  exact ⟨by rw [PyData.showable]; exact h1, by rw [wt]; omega, by rw [PyData.depth]; omega⟩
theorem rw_repl {m k : Nat} {x : PyData} (h : Rw m k x) : ∀ n : Nat, Rws (n * (m + 2)) k (List.replicate n x)
  | 0 => rws_nil.mono (Nat.zero_le _) (Nat.le_refl _)
  | n + 1 => by
    rw [List.replicate_succ]
    exact (rws_cons h (rw_repl h n)).mono (by rw [Nat.succ_mul]; omega) (Nat.le_refl _)
theorem rw_dict1 {m n : Nat} {k v : PyData} (h : Rw m 0 k) (g : Rw n 0 v) : Rw (m + n + 6) 1 (.dict [(k, v)]) :=
  ⟨by rw [PyData.showable, PyData.showableKv, h.s, g.s, PyData.showableKv]; rfl, by rw [wt, wtK, wtK]; have := h.l; have := g.l; omega, by
    rw [PyData.depth, PyData.depthKv, PyData.depthKv]
    have := h.d
    have := g.d
    omega⟩
theorem rw_dict0 : Rw 2 1 (.dict []) := ⟨by rw [PyData.showable, PyData.showableKv], by rw [wt, wtK]; decide, by rw [PyData.depth, PyData.depthKv]; decide⟩
end Fo
namespace Fo
open PySem PySem.Spec PyProof.Rows L2
/-! expressions that make things of any kind: what they are, and how long they are shown -/
/-- what draws numbers, and what stays while it draws -/
structure Src where
  At : Hp → Prop
  Kp : Hp → Hp → Prop
  cut : Hp → Hp
  refl : ∀ H, Kp H H
  trans : ∀ {a b c}, Kp a b → Kp b c → Kp a c
  kp : ∀ {H H'}, Kp H H' → Same (cut H) (cut H')
  le : ∀ H, Same (cut H) H
  same : ∀ {H H'}, At H → Same H H' → At H' ∧ Kp H H'
  put : ∀ {H H1 p} (o : HO), At H → Kp H H1 → At H1 → H p = none → At (upd H1 p o) ∧ Kp H (upd H1 p o) ∧ (cut (upd H1 p o)) p = some o ∧ ∀ b, b ≠ p → cut (upd H1 p o) b = cut H1 b
theorem Src.new (S : Src) {H : Hp} {p : Addr} (o : HO) (h : S.At H) (np : H p = none) : (S.cut (upd H p o)) p = some o := (S.put o h (S.refl H) h np).2.2.1
def Od (S : Src) (m k : Nat) (B : PyData → Prop) (H : Hp) (v : V) : Prop := ∃ d, Dq (S.cut H) v d ∧ Rw m k d ∧ B d
theorem Od.kp {S : Src} {m k : Nat} {B : PyData → Prop} {H H' : Hp} {v : V} (h : Od S m k B H v) (e : S.Kp H H') : Od S m k B H' v := by
  obtain ⟨d, h1, h2, h3⟩ := h
  exact ⟨d, h1.same (S.kp e), h2, h3⟩
theorem Od.mono {S : Src} {m k m' k' : Nat} {B C : PyData → Prop} {H : Hp} {v : V} (h : Od S m k B H v) (hm : m ≤ m') (hk : k ≤ k') (i : ∀ d, B d → C d) : Od S m' k' C H v := by
  obtain ⟨d, h1, h2, h3⟩ := h
  exact ⟨d, h1, h2.mono hm hk, i d h3⟩
abbrev bT : PyData → Prop := fun _ => True
abbrev oL (A : List PyData → Prop) : PyData → Prop := fun d => ∃ ds, d = .list ds ∧ A ds
abbrev oT (A : List PyData → Prop) : PyData → Prop := fun d => ∃ ds, d = .tuple ds ∧ A ds
abbrev oI (A : Int → Prop) : PyData → Prop := fun d => ∃ i, d = .int i ∧ A i
abbrev oS (A : Str → Prop) : PyData → Prop := fun d => ∃ x, d = .str x ∧ A x
def OE (S : Src) (t : TE) (σ : L2.St) (H : Hp) (m k : Nat) (B : PyData → Prop) : Prop := ∀ H1 Q, S.Kp H H1 → S.At H1 → (∀ v H2, S.Kp H1 H2 → S.At H2 → Od S m k B H2 v → Q v H2) → t σ H1 Q
def OA (S : Src) (t : TA) (σ : L2.St) (H : Hp) (m k : Nat) (A : List PyData → Prop) : Prop := ∀ H1 Q, S.Kp H H1 → S.At H1 → (∀ vs H2, S.Kp H1 H2 → S.At H2 → (∃ ds, DqAll (S.cut H2) vs ds ∧ Rws m k ds ∧ A ds) → Q vs H2) → t σ H1 Q
def OO (S : Src) (t : TO) (σ : L2.St) (H : Hp) (P : Option Int → Prop) : Prop := ∀ H1 Q, S.Kp H H1 → S.At H1 → (∀ o H2, S.Kp H1 H2 → S.At H2 → P o → Q o H2) → t σ H1 Q
section
variable {S : Src} {σ : L2.St} {H : Hp} {m k a b : Nat} {B C : PyData → Prop} {t u : TE}
theorem OE.kp (h : OE S t σ H m k B) {H' : Hp} (e : S.Kp H H') : OE S t σ H' m k B := fun H1 Q e1 at1 q => h H1 Q (S.trans e e1) at1 q
theorem OE.mono (h : OE S t σ H m k B) {m' k' : Nat} (hm : m ≤ m') (hk : k ≤ k') (i : ∀ d, B d → C d) : OE S t σ H m' k' C := fun H1 Q e1 at1 q => h H1 Q e1 at1 fun v H2 e2 at2 o => q v H2 e2 at2 (o.mono hm hk i)
theorem OE.imp (h : OE S t σ H m k B) (i : ∀ d, B d → C d) : OE S t σ H m k C := h.mono (Nat.le_refl _) (Nat.le_refl _) i
theorem oe_var {i : Nat} {v : V} (e : σ[i]? = some (some v)) (o : Od S m a B H v) (hk : a ≤ k) : OE S (tVar i) σ H m k B := fun H1 _ e1 at1 q => ⟨v, e, q v H1 (S.refl _) at1 ((o.kp e1).mono (Nat.le_refl _) hk fun _ h => h)⟩
theorem oe_v {i : Nat} {v : V} (e : σ[i]? = some (some v)) (o : Od S m k B H v) : OE S (tVar i) σ H m k B := fun H1 _ e1 at1 q => ⟨v, e, q v H1 (S.refl _) at1 (o.kp e1)⟩
theorem oe_c {v : V} {d : PyData} (h : ∀ G, Dq G v d) (r : Rw m 0 d) : OE S (tC v) σ H m 0 (fun x => x = d) := fun H1 _ _ at1 q => q v H1 (S.refl _) at1 ⟨d, h _, r, rfl⟩
theorem oe_non : OE S (tC .non) σ H 4 0 (fun x => x = .none) := oe_c (fun _ => .non) rw_none
theorem oe_bl (x : Bool) : OE S (tC (.bl x)) σ H 5 0 (fun d => d = .bool x) := oe_c (fun _ => .bl x) (rw_bool x)
theorem oe_int {i : Int} (h : -100000000000000000000000000 ≤ i ∧ i ≤ 100000000000000000000000000) : OE S (tC (.int i)) σ H 110 0 (fun d => d = .int i) := oe_c (fun _ => .int i) (rw_int h.1 h.2)
theorem oe_intI {i : Int} (h : -100000000000000000000000000 ≤ i ∧ i ≤ 100000000000000000000000000) : OE S (tC (.int i)) σ H 110 0 (oI fun j => j = i) := (oe_int h).imp fun _ e => ⟨i, e, rfl⟩
theorem oe_str {x : Str} (n : Nat) (h : (reprText x).length ≤ n) : OE S (tC (.str x)) σ H n 0 (fun d => d = .str x) := oe_c (fun _ => .str x) (rw_str h)
theorem oa_nil : OA S tNil σ H 0 0 (fun ds => ds = []) := fun H1 _ _ at1 q => q [] H1 (S.refl _) at1 ⟨[], .nil, rws_nil, rfl⟩
theorem oa_nilN (C : PyData → Prop) : OA S tNil σ H 0 0 (fun ds => ds.length = 0 ∧ ∀ x ∈ ds, C x) := fun H1 _ _ at1 q => q [] H1 (S.refl _) at1 ⟨[], .nil, rws_nil, rfl, fun _ h => absurd h List.not_mem_nil⟩
theorem oa_cons {r : TA} {k2 : Nat} {A : List PyData → Prop} (h : OE S t σ H a k B) (g : OA S r σ H b k2 A) : OA S (tCons t r) σ H (a + 2 + b) (max k k2) (fun ds => ∃ x y, ds = x :: y ∧ B x ∧ A y) := fun H1 Q e1 at1 q =>
  h H1 _ e1 at1 fun v H2 e2 at2 o => g H2 _ (S.trans e1 e2) at2 fun vs H3 e3 at3 p => by
    obtain ⟨x, h1, h2, h3⟩ := o.kp e3
    obtain ⟨y, g1, g2, g3⟩ := p
    exact q (v :: vs) H3 (S.trans e2 e3) at3 ⟨x :: y, .cons h1 g1, rws_cons (h2.mono (Nat.le_refl _) (Nat.le_max_left _ _)) (g2.mono (Nat.le_refl _) (Nat.le_max_right _ _)), x, y, rfl, h3, g3⟩
theorem oa_consN {r : TA} {n k2 : Nat} {C : PyData → Prop} (h : OE S t σ H a k B) (i : ∀ d, B d → C d) (g : OA S r σ H b k2 (fun ds => ds.length = n ∧ ∀ x ∈ ds, C x)) : OA S (tCons t r) σ H (a + 2 + b) (max k k2) (fun ds => ds.length = n + 1 ∧ ∀ x ∈ ds, C x) := fun H1 Q e1 at1 q =>
  oa_cons h g H1 Q e1 at1 fun vs H2 e2 at2 o => by
    obtain ⟨_, h1, h2, x, y, rfl, h3, h4, h5⟩ := o
    refine q vs H2 e2 at2 ⟨x :: y, h1, h2, by rw [List.length_cons, h4], fun z hz => ?_⟩
    rcases List.mem_cons.mp hz with rfl | hz
    · exact i _ h3
    · exact h5 z hz
theorem wtL_len : ∀ ds : List PyData, ds.length ≤ wtL ds
  | [] => Nat.zero_le _
  | d :: ds => by
    rw [wtL, List.length_cons]
    have := wtL_len ds
    omega
theorem oe_lst {r : TA} {A : List PyData → Prop} (h : OA S r σ H m k A) (hm : m ≤ 16777216) : OE S (tLst r) σ H (m + 2) (k + 1) (oL A) := fun H1 Q e1 at1 q =>
  h H1 _ e1 at1 fun vs H2 e2 at2 o => by
    obtain ⟨ds, h1, h2, h3⟩ := o
    have hl := wtL_len ds
    have := h2.l
    refine ⟨line_small (by rw [h1.len]; omega), fun p np => ?_⟩
    obtain ⟨at3, e3⟩ := S.same at2 (same_new (o := .lst vs) np)
    exact q _ _ (S.trans e2 e3) at3 ⟨.list ds, .lst (S.new _ at2 np) (h1.same (S.kp e3)), rw_list h2, ds, rfl, h3⟩
theorem oe_tup {r : TA} {A : List PyData → Prop} (h : OA S r σ H m k A) (hm : m ≤ 16777216) : OE S (tTup r) σ H (m + 3) (k + 1) (oT A) := fun H1 Q e1 at1 q =>
  h H1 _ e1 at1 fun vs H2 e2 at2 o => by
    obtain ⟨ds, h1, h2, h3⟩ := o
    have hl := wtL_len ds
    have := h2.l
    refine ⟨line_small (by rw [h1.len]; omega), fun p np => ?_⟩
    obtain ⟨at3, e3⟩ := S.same at2 (same_new (o := .tup vs) np)
    exact q _ _ (S.trans e2 e3) at3 ⟨.tuple ds, .tup (S.new _ at2 np) (h1.same (S.kp e3)), rw_tup h2, ds, rfl, h3⟩
theorem dq_lst {G : Hp} {v : V} {ds : List PyData} (h : Dq G v (.list ds)) : ∃ p xs, v = .ref p ∧ G p = some (.lst xs) ∧ DqAll G xs ds := by
  cases h with
  | @lst p xs _ e al => exact ⟨p, xs, rfl, e, al⟩
theorem dq_tupI {G : Hp} {v : V} {ds : List PyData} (h : Dq G v (.tuple ds)) : ∃ p xs, v = .ref p ∧ G p = some (.tup xs) ∧ DqAll G xs ds := by
  cases h with
  | @tup p xs _ e al => exact ⟨p, xs, rfl, e, al⟩
theorem dq_intI {G : Hp} {v : V} {i : Int} (h : Dq G v (.int i)) : v = .int i := by
  cases h with
  | int => rfl
theorem dq_strI {G : Hp} {v : V} {x : Str} (h : Dq G v (.str x)) : v = .str x := by
  cases h with
  | str => rfl
theorem rw_len {ds : List PyData} (h : Rw m k (.list ds)) : ds.length ≤ m := by
  have h2 := h.l
  rw [wt] at h2
  have := wtL_len ds
  omega
theorem oe_cat {k2 : Nat} {A A' : List PyData → Prop} (h : OE S t σ H a k (oL A)) (g : OE S u σ H b k2 (oL A')) (hm : a + b ≤ 16777216) : OE S (tOp rCat t u) σ H (a + b) (max k k2) (oL fun ds => ∃ x y, ds = x ++ y ∧ A x ∧ A' y) := fun H1 Q e1 at1 q =>
  h H1 _ e1 at1 fun v H2 e2 at2 o => g H2 _ (S.trans e1 e2) at2 fun w H3 e3 at3 o' => by
    obtain ⟨_, h1, h2, x, rfl, h3⟩ := o.kp e3
    obtain ⟨_, g1, g2, y, rfl, g3⟩ := o'
    obtain ⟨p, xs, rfl, hp, ax⟩ := dq_lst h1
    obtain ⟨r, ys, rfl, hr, ay⟩ := dq_lst g1
    have l1 := rw_len h2
    have l2 := rw_len g2
    refine ⟨p, r, xs, ys, rfl, rfl, S.le _ _ _ hp, S.le _ _ _ hr, line_small (by rw [ax.len, ay.len]; omega), fun c nc => ?_⟩
    obtain ⟨at4, e4⟩ := S.same at3 (same_new (o := .lst (xs ++ ys)) nc)
    exact q _ _ (S.trans (S.trans e2 e3) e4) at4 ⟨.list (x ++ y), .lst (S.new _ at3 nc) ((ax.app ay).same (S.kp e4)), rw_cat (h2.mono (Nat.le_refl _) (Nat.le_max_left _ _)) (g2.mono (Nat.le_refl _) (Nat.le_max_right _ _)), x ++ y, rfl, x, y, rfl, h3, g3⟩
theorem oe_catN {n1 n2 k2 : Nat} (h : OE S t σ H a k (oL fun ds => ds.length = n1 ∧ ∀ x ∈ ds, C x)) (g : OE S u σ H b k2 (oL fun ds => ds.length = n2 ∧ ∀ x ∈ ds, C x)) (hm : a + b ≤ 16777216) : OE S (tOp rCat t u) σ H (a + b) (max k k2) (oL fun ds => ds.length = n1 + n2 ∧ ∀ x ∈ ds, C x) :=
  (oe_cat h g hm).imp fun d hd => by
    obtain ⟨_, rfl, x, y, rfl, ⟨h1, h2⟩, g1, g2⟩ := hd
    refine ⟨_, rfl, by rw [List.length_append, h1, g1], fun z hz => ?_⟩
    rcases List.mem_append.mp hz with hz | hz
    · exact h2 z hz
    · exact g2 z hz
/-- a slice of anything -/
def cutG {α : Type} (xs : List α) (lo hi : Option Int) : List α := (xs.drop (HT.sIx xs.length 0 lo)).take (HT.sIx xs.length xs.length hi - HT.sIx xs.length 0 lo)
theorem DqAll.cut {G : Hp} {vs : List V} {ds : List PyData} (h : DqAll G vs ds) (lo hi : Option Int) : DqAll G (cutV vs lo hi) (cutG ds lo hi) := by
  unfold cutV cutG
  rw [h.len]
  exact (h.drop _).take _
theorem oo_none : OO S tNoPart σ H (fun o => o = none) := fun H1 _ _ at1 q => q none H1 (S.refl _) at1 rfl
theorem oo_some {A : Int → Prop} (h : OE S t σ H m k (oI A)) : OO S (tPart t) σ H (fun o => ∃ i, o = some i ∧ A i) := fun H1 _ e1 at1 q => h H1 _ e1 at1 fun v H2 e2 at2 o => by
  obtain ⟨_, h1, _, i, rfl, h3⟩ := o
  exact ⟨i, dq_intI h1, q _ _ e2 at2 ⟨i, rfl, h3⟩⟩
theorem oe_sl {K : PySem.W.Frag} {A : List PyData → Prop} {tl th : TO} {P R : Option Int → Prop} (h : OE S t σ H m k (oL A)) (hl : OO S tl σ H P) (hh : OO S th σ H R) : OE S (tSl (rSlL K) t tl th) σ H m k (oL fun ds => ∃ x l u, ds = cutG x l u ∧ A x ∧ P l ∧ R u) := fun H1 Q e1 at1 q =>
  h H1 _ e1 at1 fun v H2 e2 at2 o => hl H2 _ (S.trans e1 e2) at2 fun l H3 e3 at3 pl => hh H3 _ (S.trans e1 (S.trans e2 e3)) at3 fun u H4 e4 at4 pu => by
    obtain ⟨_, h1, h2, x, rfl, h3⟩ := o.kp (S.trans e3 e4)
    obtain ⟨p, xs, rfl, hp, ax⟩ := dq_lst h1
    refine ⟨p, xs, rfl, SqL.of (S.le _ _ _ hp), fun c nc => ?_⟩
    obtain ⟨at5, e5⟩ := S.same at4 (same_new (o := .lst (cutV xs l u)) nc)
    exact q _ _ (S.trans (S.trans (S.trans e2 e3) e4) e5) at5 ⟨.list (cutG x l u), .lst (S.new _ at4 nc) ((ax.cut l u).same (S.kp e5)), rw_take (rw_drop h2 _) _, _, rfl, x, l, u, rfl, h3, pl, pu⟩
theorem oe_add {A A' : Int → Prop} (h : OE S t σ H m a (oI A)) (g : OE S u σ H m b (oI A')) (hb : ∀ i j, A i → A' j → -100000000000000000000000000 ≤ i + j ∧ i + j ≤ 100000000000000000000000000) : OE S (tOp (rI0 fun i j => .int (i + j)) t u) σ H 110 0 (oI fun z => ∃ i j, z = i + j ∧ A i ∧ A' j) := fun H1 Q e1 at1 q =>
  h H1 _ e1 at1 fun v H2 e2 at2 o => g H2 _ (S.trans e1 e2) at2 fun w H3 e3 at3 o' => by
    obtain ⟨_, h1, _, i, rfl, h3⟩ := o.kp e3
    obtain ⟨_, g1, _, j, rfl, g3⟩ := o'
    have hz := hb i j h3 g3
    exact ⟨i, j, dq_intI h1, dq_intI g1, q _ _ (S.trans e2 e3) at3 ⟨.int (i + j), .int _, rw_int hz.1 hz.2, _, rfl, i, j, rfl, h3, g3⟩⟩
theorem oe_sub {A A' : Int → Prop} (h : OE S t σ H m a (oI A)) (g : OE S u σ H m b (oI A')) (hb : ∀ i j, A i → A' j → -100000000000000000000000000 ≤ i - j ∧ i - j ≤ 100000000000000000000000000) : OE S (tOp (rI0 fun i j => .int (i - j)) t u) σ H 110 0 (oI fun z => ∃ i j, z = i - j ∧ A i ∧ A' j) := fun H1 Q e1 at1 q =>
  h H1 _ e1 at1 fun v H2 e2 at2 o => g H2 _ (S.trans e1 e2) at2 fun w H3 e3 at3 o' => by
    obtain ⟨_, h1, _, i, rfl, h3⟩ := o.kp e3
    obtain ⟨_, g1, _, j, rfl, g3⟩ := o'
    have hz := hb i j h3 g3
    exact ⟨i, j, dq_intI h1, dq_intI g1, q _ _ (S.trans e2 e3) at3 ⟨.int (i - j), .int _, rw_int hz.1 hz.2, _, rfl, i, j, rfl, h3, g3⟩⟩
theorem oe_neg {A : Int → Prop} (h : OE S t σ H m a (oI A)) (hb : ∀ i, A i → -100000000000000000000000000 ≤ -i ∧ -i ≤ 100000000000000000000000000) : OE S (tUn (rU fun i => .int (-i)) t) σ H 110 0 (oI fun z => ∃ i, z = -i ∧ A i) := fun H1 Q e1 at1 q =>
  h H1 _ e1 at1 fun v H2 e2 at2 o => by
    obtain ⟨_, h1, _, i, rfl, h3⟩ := o
    have hz := hb i h3
    exact ⟨i, dq_intI h1, q _ _ e2 at2 ⟨.int (-i), .int _, rw_int hz.1 hz.2, _, rfl, i, rfl, h3⟩⟩
theorem oe_pow {i j : Int} (hc : CPow i j) (hb : -100000000000000000000000000 ≤ i ^ j.toNat ∧ i ^ j.toNat ≤ 100000000000000000000000000) : OE S (tOp (rI CPow fun i j => .int (i ^ j.toNat)) (tC (.int i)) (tC (.int j))) σ H 110 0 (oI fun z => z = i ^ j.toNat) := fun H1 Q e1 at1 q =>
  ⟨i, j, rfl, rfl, hc, q _ _ (S.refl _) at1 ⟨.int (i ^ j.toNat), .int _, rw_int hb.1 hb.2, _, rfl, rfl⟩⟩
theorem oe_ix {K : PySem.W.Frag} {n : Nat} {A : Int → Prop} (h : OE S t σ H m k (oL fun ds => ds.length = n ∧ ∀ x ∈ ds, B x)) (g : OE S u σ H a b (oI A)) (hi : ∀ i, A i → 0 ≤ i ∧ i < (n : Int)) : OE S (tOp (rIxL K) t u) σ H m k B := fun H1 Q e1 at1 q =>
  h H1 _ e1 at1 fun v H2 e2 at2 o => g H2 _ (S.trans e1 e2) at2 fun w H3 e3 at3 o' => by
    obtain ⟨_, h1, h2, x, rfl, h3, h4⟩ := o.kp e3
    obtain ⟨_, g1, _, i, rfl, gi⟩ := o'
    obtain ⟨i0, i1⟩ := hi i gi
    obtain ⟨p, xs, rfl, hp, ax⟩ := dq_lst h1
    have hl := ax.len
    have hi : i.toNat < xs.length := by omega
    have ev : xs[i.toNat]? = some xs[i.toNat] := List.getElem?_eq_getElem hi
    obtain ⟨d, ed, hd⟩ := ax.get ev
    have md := List.mem_of_getElem? ed
    refine ⟨p, xs, i, xs[i.toNat], rfl, dq_intI g1, SqL.of (S.le _ _ _ hp), at_of (j := i.toNat) (Int.toNat_of_nonneg i0).symm ev, ?_⟩
    exact q _ _ (S.trans e2 e3) at3 ⟨d, hd, rw_mem h2 md, h4 d md⟩
theorem oe_ixI {K : PySem.W.Frag} {ns : List Int} {A : Int → Prop} (h : OE S t σ H m k (oL fun ds => ds = ns.map PyData.int)) (g : OE S u σ H a b (oI A)) (hi : ∀ i, A i → 0 ≤ i ∧ i < (ns.length : Int)) : OE S (tOp (rIxL K) t u) σ H m k (oI fun z => z ∈ ns) :=
  oe_ix (n := ns.length) (h.imp fun d hd => by obtain ⟨ds, rfl, rfl⟩ := hd; exact ⟨_, rfl, List.length_map _, fun x hx => by obtain ⟨y, hy, rfl⟩ := List.mem_map.mp hx; exact ⟨y, rfl, hy⟩⟩) g hi
theorem oe_lenI {K : PySem.W.Frag} {ns : List Int} (h : OE S t σ H m a (oL fun ds => ds = ns.map PyData.int)) (hn : ns.length ≤ 10000) : OE S (tCB (rLenS K) (tCons t tNil)) σ H 110 0 (oI fun z => z = (ns.length : Int)) := fun H1 Q e1 at1 q =>
  h H1 _ e1 at1 fun v H2 e2 at2 o => by
    obtain ⟨_, h1, h2, x, rfl, rfl⟩ := o
    obtain ⟨p, xs, rfl, hp, ax⟩ := dq_lst h1
    refine ⟨p, xs, rfl, .inl (SqL.of (S.le _ _ _ hp)), ?_⟩
    rw [ax.len, List.length_map]
    exact q _ _ e2 at2 ⟨.int (ns.length : Int), .int _, rw_int (by omega) (by omega), _, rfl, rfl⟩
theorem od_isI {i : Int} (h : Od S m k B H (.int i)) : Od S m k (oI fun j => j = i) H (.int i) := by
  obtain ⟨d, h1, h2, _⟩ := h
  cases h1 with
  | int => exact ⟨_, .int i, h2, i, rfl, rfl⟩
theorem oe_len {K : PySem.W.Frag} {A : List PyData → Prop} (h : OE S t σ H m a (oL A)) (hm : m ≤ 16777216) : OE S (tCB (rLenS K) (tCons t tNil)) σ H 110 0 (oI fun z => ∃ ds : List PyData, z = ds.length ∧ A ds ∧ ds.length ≤ m) := fun H1 Q e1 at1 q =>
  h H1 _ e1 at1 fun v H2 e2 at2 o => by
    obtain ⟨_, h1, h2, x, rfl, h3⟩ := o
    obtain ⟨p, xs, rfl, hp, ax⟩ := dq_lst h1
    have hl := rw_len h2
    refine ⟨p, xs, rfl, .inl (SqL.of (S.le _ _ _ hp)), ?_⟩
    rw [ax.len]
    exact q _ _ e2 at2 ⟨.int (x.length : Int), .int _, rw_int (by omega) (by omega), _, rfl, x, rfl, h3, hl⟩
theorem oe_tupOf {K : PySem.W.Frag} {A : List PyData → Prop} (h : OE S t σ H m k (oL A)) : OE S (tCB (fun xs H Q => ∃ p ys, xs = [.ref p] ∧ ((SqL K H p ys ∧ ∀ l, H l = none → Q (.ref l) (upd H l (.tup ys))) ∨ (SqT K H p ys ∧ Q (.ref p) H))) (tCons t tNil)) σ H (m + 1) k (oT A) := fun H1 Q e1 at1 q =>
  h H1 _ e1 at1 fun v H2 e2 at2 o => by
    obtain ⟨_, h1, h2, x, rfl, h3⟩ := o
    obtain ⟨p, xs, rfl, hp, ax⟩ := dq_lst h1
    refine ⟨p, xs, rfl, .inl ⟨SqL.of (S.le _ _ _ hp), fun c nc => ?_⟩⟩
    obtain ⟨at3, e3⟩ := S.same at2 (same_new (o := .tup xs) nc)
    exact q _ _ (S.trans e2 e3) at3 ⟨.tuple x, .tup (S.new _ at2 nc) (ax.same (S.kp e3)), rw_totup h2, x, rfl, h3⟩
theorem oe_listOf {K : PySem.W.Frag} {A : List PyData → Prop} (h : OE S t σ H m k (oL A)) : OE S (tCB (fun xs H Q => ∃ p ys, xs = [.ref p] ∧ (SqL K H p ys ∨ SqT K H p ys) ∧ ∀ l, H l = none → Q (.ref l) (upd H l (.lst ys))) (tCons t tNil)) σ H m k (oL A) := fun H1 Q e1 at1 q =>
  h H1 _ e1 at1 fun v H2 e2 at2 o => by
    obtain ⟨_, h1, h2, x, rfl, h3⟩ := o
    obtain ⟨p, xs, rfl, hp, ax⟩ := dq_lst h1
    refine ⟨p, xs, rfl, .inl (SqL.of (S.le _ _ _ hp)), fun c nc => ?_⟩
    obtain ⟨at3, e3⟩ := S.same at2 (same_new (o := .lst xs) nc)
    exact q _ _ (S.trans e2 e3) at3 ⟨.list x, .lst (S.new _ at2 nc) (ax.same (S.kp e3)), h2, x, rfl, h3⟩
theorem flat_rep {α : Type} (x : α) : ∀ n : Nat, (List.replicate n [x]).flatten = List.replicate n x
  | 0 => rfl
  | n + 1 => by
    rw [List.replicate_succ, List.flatten_cons, flat_rep x n]
    rfl
theorem DqAll.repl {G : Hp} {v : V} {d : PyData} (h : Dq G v d) : ∀ n : Nat, DqAll G (List.replicate n v) (List.replicate n d)
  | 0 => .nil
  | n + 1 => by
    rw [List.replicate_succ, List.replicate_succ]
    exact .cons h (DqAll.repl h n)
/-- [x] * n -/
theorem oe_rep1 {n : Nat} (h : OE S t σ H m k B) (hn : n ≤ 1000) (hm : m ≤ 10000) : OE S (tOp rRep (tLst (tCons t tNil)) (tC (.int (n : Int)))) σ H (n * (m + 2) + 2) (k + 1) (oL fun ds => ∃ x, ds = List.replicate n x ∧ B x) := fun H1 Q e1 at1 q =>
  oe_lst (oa_cons h oa_nil) (by omega) H1 _ e1 at1 fun v H2 e2 at2 o => by
    rw [Nat.max_eq_left (Nat.zero_le k)] at o
    obtain ⟨_, h1, h2, _, rfl, x, _, rfl, h3, rfl⟩ := o
    obtain ⟨p, xs, rfl, hp, ax⟩ := dq_lst h1
    cases ax with
    | @cons v _ _ _ hv an =>
      cases an
      refine ⟨p, (n : Int), [v], rfl, rfl, S.le _ _ _ hp, by omega, by omega, line_small (by rw [Int.toNat_natCast]; show 1 * n ≤ _; omega), fun c nc => ?_⟩
      rw [Int.toNat_natCast, flat_rep]
      obtain ⟨at3, e3⟩ := S.same at2 (same_new (o := .lst (List.replicate n v)) nc)
      obtain ⟨j, ej, h4⟩ := h2.lst
      have h5 := rw_repl (h4.mem List.mem_cons_self) n
      refine q _ _ (S.trans e2 e3) at3 ⟨.list (List.replicate n x), .lst (S.new _ at2 nc) ((DqAll.repl hv n).same (S.kp e3)), ?_, _, rfl, x, rfl, h3⟩
      have h6 : Rw m k x := by
        have s1 := h4.s
        have s2 := h4.l
        have s3 := h4.d
        have t2 := h2.l
        have t3 := h2.d
        rw [PyData.showableAll, Bool.and_eq_true] at s1
        rw [wt, wtL, wtL] at t2
        rw [PyData.depth, PyData.depthAll] at t3
        exact ⟨s1.1, by omega, by omega⟩
      exact rw_list (rw_repl h6 n)
theorem oe_d0 : OE S (fun _ H1 Q => ∀ d, H1 d = none → Q (.ref d) (upd H1 d (.dK []))) σ H 2 1 (fun d => d = .dict []) := fun H1 Q e1 at1 q => fun c nc => by
  obtain ⟨at3, e3⟩ := S.same at1 (same_new (o := .dK []) nc)
  exact q _ _ e3 at3 ⟨.dict [], .dic (S.new _ at1 nc) .nil, rw_dict0, rfl⟩
/-! statements -/
theorem os_set {i : Nat} {v : TS} {D : Ends} (at1 : S.At H) (h : OE S t σ H m k B) (q : ∀ x H', S.Kp H H' → S.At H' → Od S m k B H' x → v D (σ.set i (some x)) H') : tSeq (tAsg t (gName i)) v D σ H := h H _ (S.refl _) at1 q
theorem os_ret {D : Ends} (at1 : S.At H) (h : OE S t σ H m k B) (q : ∀ x H', S.Kp H H' → S.At H' → Od S m k B H' x → D.rt x H') : tRet t D σ H := h H _ (S.refl _) at1 q
end
end Fo
namespace Fo
open PySem PySem.Spec PyProof.Rows L2
/-! comprehensions whose values are flat; ranges; the store as a source -/
def flatD : PyData → Bool
  | .none => true
  | .bool _ => true
  | .int _ => true
  | .str _ => true
  | _ => false
theorem dq_flat {G G' : Hp} {v : V} {d : PyData} (h : Dq G v d) (f : flatD d = true) : Dq G' v d := by
  cases h with
  | non => exact .non
  | bl b => exact .bl b
  | int i => exact .int i
  | str x => exact .str x
  | _ => cases f
theorem dqAll_flat {G G' : Hp} : ∀ {vs : List V} {ds : List PyData}, DqAll G vs ds → (∀ d ∈ ds, flatD d = true) → DqAll G' vs ds
  | _, [], h, _ => by cases h; exact .nil
  | _, d :: ds, h, f => by
    cases h with
    | cons h1 h2 => exact .cons (dq_flat h1 (f d List.mem_cons_self)) (dqAll_flat h2 fun x hx => f x (List.mem_cons_of_mem _ hx))
/-- two lists, one by one -/
inductive Two2 {α β : Type} (R : α → β → Prop) : List α → List β → Prop
  | nil : Two2 R [] []
  | snoc {xs : List α} {ys : List β} {x : α} {y : β} : Two2 R xs ys → R x y → Two2 R (xs ++ [x]) (ys ++ [y])
theorem Two2.len {α β : Type} {R : α → β → Prop} {xs : List α} {ys : List β} (h : Two2 R xs ys) : xs.length = ys.length := by
  induction h with
  | nil => rfl
  | snoc _ _ ih => rw [List.length_append, List.length_append, ih]; rfl
theorem Two2.memR {α β : Type} {R : α → β → Prop} {xs : List α} {ys : List β} (h : Two2 R xs ys) : ∀ y ∈ ys, ∃ x ∈ xs, R x y := by
  induction h with
  | nil => exact fun _ h => absurd h List.not_mem_nil
  | snoc h r ih =>
    intro y hy
    rcases List.mem_append.mp hy with hy | hy
    · obtain ⟨x, hx, hr⟩ := ih y hy
      exact ⟨x, List.mem_append_left _ hx, hr⟩
    · rw [List.mem_singleton.mp hy]
      exact ⟨_, List.mem_append_right _ List.mem_cons_self, r⟩
theorem Two2.memL {α β : Type} {R : α → β → Prop} {xs : List α} {ys : List β} (h : Two2 R xs ys) : ∀ x ∈ xs, ∃ y ∈ ys, R x y := by
  induction h with
  | nil => exact fun _ h => absurd h List.not_mem_nil
  | snoc h r ih =>
    intro x hx
    rcases List.mem_append.mp hx with hx | hx
    · obtain ⟨y, hy, hr⟩ := ih x hx
      exact ⟨y, List.mem_append_left _ hy, hr⟩
    · rw [List.mem_singleton.mp hx]
      exact ⟨_, List.mem_append_right _ List.mem_cons_self, r⟩
theorem rws_snoc {a b k : Nat} {d : PyData} {ds : List PyData} (g : Rws b k ds) (h : Rw a k d) : Rws (b + (a + 2)) k (ds ++ [d]) := (g.app (rws_cons h rws_nil)).mono (by omega) (Nat.le_refl _)
theorem DqAll.snoc {G : Hp} {vs : List V} {ds : List PyData} {v : V} {d : PyData} (h : DqAll G vs ds) (g : Dq G v d) : DqAll G (vs ++ [v]) (ds ++ [d]) := h.app (.cons g .nil)
section
variable {S : Src} {σ : L2.St} {H : Hp} {m k a b : Nat} {B C : PyData → Prop} {t u : TE}
theorem oe_lcF {K : PySem.W.Frag} {j : Nat} {vs : List Nat} {A : List PyData → Prop} {R : PyData → PyData → Prop} {me ke n : Nat} {te : TE} (h : OE S t σ H m a (oL A)) (hn : ∀ ds, A ds → ds.length ≤ n) (hz : n * (me + 2) ≤ 16777216)
    (hw : ∀ x : V, wipe ((wipe σ vs).set j (some x)) vs = wipe σ vs) (he : ∀ ds x v H', A ds → x ∈ ds → S.Kp H H' → S.At H' → Dq (S.cut H') v x → OE S te ((wipe σ vs).set j (some v)) H' me ke (R x)) (hf : ∀ x y, R x y → flatD y = true) :
    OE S (tLc (iList K t) (gName j) tYes te vs) σ H (n * (me + 2) + 2) (ke + 1) (oL fun ys => ∃ xs, A xs ∧ Two2 R xs ys) := fun H1 Q e1 at1 q =>
  h H1 _ e1 at1 fun v H2 e2 at2 o => by
    obtain ⟨_, h1, h2, ds, rfl, h3⟩ := o
    obtain ⟨p, xs, rfl, hp, ax⟩ := dq_lst h1
    refine ⟨p, rfl, ⟨xs, SqL.of (S.le _ _ _ hp)⟩, fun D nD => ?_⟩
    have hD0 := S.put (.lst []) at2 (S.refl _) at2 nD
    have hpD : p ≠ D := fun z => by rw [z] at hp; have := S.le _ _ _ hp; rw [nD] at this; cases this
    refine lc_list (K := K) (a := p) (xs := xs) (fun i H3 => ∃ acc ys, H3 D = some (.lst acc) ∧ S.cut H3 D = some (.lst acc) ∧ acc.length = i ∧ DqAll H3 acc ys ∧ (∀ d ∈ ys, flatD d = true) ∧ Rws (i * (me + 2)) ke ys ∧ Two2 R (ds.take i) ys ∧ S.Kp H2 H3 ∧ S.At H3)
      ⟨[], [], upd_same, hD0.2.2.1, rfl, .nil, fun _ h => absurd h List.not_mem_nil, rws_nil.mono (Nat.zero_le _) (Nat.le_refl _), by rw [List.take_zero]; exact .nil, hD0.2.1, hD0.1⟩
      (fun i H3 _ hP => by obtain ⟨_, _, _, _, _, _, _, _, _, k3, _⟩ := hP; exact SqL.of (S.le _ _ _ (S.kp k3 _ _ hp))) (fun i x H3 hx hP => ?_) (fun H3 hP => ?_)
    · obtain ⟨acc, ys, hD, hcD, la, ay, fy, ry, ty, k3, at3⟩ := hP
      obtain ⟨d, ed, hd⟩ := (ax.same (S.kp k3)).get hx
      have hi := (List.getElem?_eq_some_iff.mp ed).1
      have hin := hn ds h3
      refine ⟨hw x, ?_⟩
      refine (he ds d x H3 h3 (List.mem_of_getElem? ed) (S.trans e1 (S.trans e2 k3)) at3 hd) H3 _ (S.refl _) at3 fun y H4 k4 at4 o4 => ?_
      obtain ⟨z, hz4, rz, bz⟩ := o4
      have hD4 : H4 D = some (.lst acc) := S.le _ _ _ (S.kp k4 _ _ hcD)
      have pD := S.put (.lst (acc ++ [y])) at2 (S.trans k3 k4) at4 nD
      refine ⟨acc, hD4, line_small (by
        have : i * 2 ≤ 16777216 := by
          have a1 : i * (me + 2) ≤ n * (me + 2) := Nat.mul_le_mul_right _ (by omega)
          have a2 : i * 2 ≤ i * (me + 2) := Nat.mul_le_mul_left _ (by omega)
          omega
        omega), acc ++ [y], ys ++ [z], upd_same, pD.2.2.1, by rw [List.length_append, la]; rfl, (dqAll_flat ay fy).snoc (dq_flat hz4 (hf _ _ bz)), fun w hw => ?_, ?_, ?_, pD.2.1, pD.1⟩
      · rcases List.mem_append.mp hw with hw | hw
        · exact fy w hw
        · rw [List.mem_singleton.mp hw]
          exact hf _ _ bz
      · rw [Nat.succ_mul]
        exact rws_snoc ry rz
      · rw [List.take_add_one, ed]
        exact ty.snoc bz
    · obtain ⟨acc, ys, hD, hcD, la, ay, fy, ry, ty, k3, at3⟩ := hP
      rw [ax.len, List.take_length] at ty
      have hin := hn ds h3
      exact q _ _ (S.trans e2 k3) at3 ⟨.list ys, .lst hcD (dqAll_flat ay fy), rw_list (ry.mono (Nat.mul_le_mul_right _ (by rw [ax.len]; exact hin)) (Nat.le_refl _)), ys, rfl, ds, h3, ty⟩
theorem od_int {A : Int → Prop} {v : V} (h : Od S m k (oI A) H v) : ∃ i, v = .int i ∧ A i := by
  obtain ⟨_, h1, _, i, rfl, h3⟩ := h
  exact ⟨i, dq_intI h1, h3⟩
theorem od_of_int {i : Int} {A : Int → Prop} (h : -100000000000000000000000000 ≤ i ∧ i ≤ 100000000000000000000000000) (g : A i) : Od S 110 0 (oI A) H (.int i) := ⟨.int i, .int i, rw_int h.1 h.2, i, rfl, g⟩
theorem dqAll_intsG {G : Hp} : ∀ {ns : List Int}, DqAll G (ns.map V.int) (ns.map PyData.int)
  | [] => .nil
  | n :: r => .cons (.int n) dqAll_intsG
theorem od_ints {a : Addr} {ns : List Int} {n : Nat} (h : S.cut H a = some (.lst (ns.map V.int))) (hb : ∀ x ∈ ns, -100000000000000000000000000 ≤ x ∧ x ≤ 100000000000000000000000000) (hn : ns.length ≤ n) : Od S (n * 112 + 2) 1 (oL fun ds => ds = ns.map PyData.int) H (.ref a) :=
  ⟨.list (ns.map PyData.int), .lst h dqAll_intsG, rw_list ((rws_ints hb).mono (Nat.mul_le_mul_right _ hn) (Nat.le_refl 0)), _, rfl, rfl⟩
theorem od_str {x : Str} {A : Str → Prop} {n : Nat} (h : (reprText x).length ≤ n) (g : A x) : Od S n 0 (oS A) H (.str x) := ⟨.str x, .str x, rw_str h, x, rfl, g⟩
end
end Fo
namespace Fo
open PySem PySem.Spec PyProof.Rows L2
/-! short texts -/
structure TxOk (m : Nat) (x : Str) : Prop where
  l : x.length ≤ m
  c : ∀ c ∈ x.cps.toList, c < 16 ^ 8
theorem TxOk.app {m n : Nat} {x y : Str} (a : TxOk m x) (b : TxOk n y) : TxOk (m + n) (x ++ y) := by
  refine ⟨?_, fun c hc => ?_⟩
  · rw [strLen_append]
    have := a.l
    have := b.l
    omega
  · have e : (x ++ y).cps.toList = x.cps.toList ++ y.cps.toList := by
      show (x.cps ++ y.cps).toList = _
      simp
    rw [e] at hc
    rcases List.mem_append.mp hc with h | h
    · exact a.c c h
    · exact b.c c h
theorem TxOk.cut {m : Nat} {x : Str} (a : TxOk m x) (lo hi : Option Int) : TxOk m (cutS x lo hi) := by
  refine ⟨?_, fun c hc => ?_⟩
  · have := a.l
    show (((x.cps.toList.drop _).take _).toArray).size ≤ m
    rw [List.size_toArray, List.length_take, List.length_drop, Array.length_toList]
    have e : x.length = x.cps.size := rfl
    omega
  · have hc : c ∈ (x.cps.toList.drop _).take _ := hc
    exact a.c c (List.mem_of_mem_drop (List.mem_of_mem_take hc))
theorem TxOk.mono {m n : Nat} {x : Str} (a : TxOk m x) (h : m ≤ n) : TxOk n x := ⟨Nat.le_trans a.l h, a.c⟩
theorem TxOk.rw {m : Nat} {x : Str} (a : TxOk m x) : Rw (10 * m + 2) 0 (.str x) := rw_str (by
  have h1 := StrLaws.reprText_len x a.c
  have h2 := a.l
  omega)
theorem tx_one {c : Nat} (h : c < 16 ^ 8) : TxOk 1 ⟨#[c]⟩ := ⟨Nat.le_refl _, fun d hd => by
  have : d = c := List.mem_singleton.mp hd
  rw [this]
  exact h⟩
theorem at_memG {α : Type} {xs : List α} {i : Int} (h0 : 0 ≤ i) (h1 : i < (xs.length : Int)) : ∃ v, atI xs i = some v ∧ v ∈ xs := by
  have hl : i.toNat < xs.length := by omega
  refine ⟨xs[i.toNat], ?_, List.getElem_mem hl⟩
  unfold atI ixN
  rw [if_pos h0, if_pos h1]
  exact List.getElem?_eq_getElem hl
abbrev oX (m : Nat) (A : Str → Prop) : PyData → Prop := oS fun x => TxOk m x ∧ A x
section
variable {S : Src} {σ : L2.St} {H : Hp} {m n k a b : Nat} {t u : TE} {A A' : Str → Prop}
theorem oe_tx {x : Str} (n : Nat) (h : TxOk n x) : OE S (tC (.str x)) σ H (10 * n + 2) 0 (oX n fun y => y = x) := (oe_c (fun _ => .str x) h.rw).imp fun _ e => ⟨x, e, h, rfl⟩
theorem od_tx {v : V} (h : Od S a k (oX m A) H v) : ∃ x, v = .str x ∧ TxOk m x ∧ A x := by
  obtain ⟨_, h1, _, x, rfl, h3⟩ := h
  exact ⟨x, dq_strI h1, h3⟩
theorem od_of_tx {x : Str} (h : TxOk m x) (g : A x) : Od S (10 * m + 2) 0 (oX m A) H (.str x) := ⟨.str x, .str x, h.rw, x, rfl, h, g⟩
theorem oe_catS (h : OE S t σ H a k (oX m A)) (g : OE S u σ H b k (oX n A')) (hm : m + n ≤ 16777216) : OE S (tOp (fun x y H Q => ∃ i j, x = .str i ∧ y = .str j ∧ i.length + j.length ≤ sizeLine ∧ Q (.str (i ++ j)) H) t u) σ H (10 * (m + n) + 2) 0 (oX (m + n) fun z => ∃ x y, z = x ++ y ∧ A x ∧ A' y) := fun H1 Q e1 at1 q =>
  h H1 _ e1 at1 fun v H2 e2 at2 o => g H2 _ (S.trans e1 e2) at2 fun w H3 e3 at3 o' => by
    obtain ⟨x, rfl, x1, x2⟩ := od_tx o
    obtain ⟨y, rfl, y1, y2⟩ := od_tx o'
    have l1 := x1.l
    have l2 := y1.l
    exact ⟨x, y, rfl, rfl, line_small (by omega), q _ _ (S.trans e2 e3) at3 (od_of_tx (x1.app y1) ⟨x, y, rfl, x2, y2⟩)⟩
theorem oe_slS {tl th : TO} {P R : Option Int → Prop} (h : OE S t σ H a k (oX m A)) (hl : OO S tl σ H P) (hh : OO S th σ H R) (hm : m ≤ 16777216) : OE S (tSl rSlS t tl th) σ H (10 * m + 2) 0 (oX m fun z => ∃ x l u, z = cutS x l u ∧ A x ∧ P l ∧ R u) := fun H1 Q e1 at1 q =>
  h H1 _ e1 at1 fun v H2 e2 at2 o => hl H2 _ (S.trans e1 e2) at2 fun l H3 e3 at3 pl => hh H3 _ (S.trans e1 (S.trans e2 e3)) at3 fun u H4 e4 at4 pu => by
    obtain ⟨x, rfl, x1, x2⟩ := od_tx o
    have l1 := x1.l
    exact ⟨x, rfl, line_small (by omega), q _ _ (S.trans (S.trans e2 e3) e4) at4 (od_of_tx (x1.cut l u) ⟨x, l, u, rfl, x2, pl, pu⟩)⟩
theorem oe_ixS {z : Str} {B : Int → Prop} (hl : z.length = n) (hz : n ≤ 16777216) (hc : ∀ c ∈ z.cps.toList, c < 16 ^ 8) (g : OE S u σ H a b (oI B)) (hi : ∀ i, B i → 0 ≤ i ∧ i < (n : Int)) : OE S (tOp rIxS (tC (.str z)) u) σ H 12 0 (oX 1 fun y => ∃ c ∈ z.cps.toList, y = ⟨#[c]⟩) := fun H1 Q e1 at1 q =>
  g H1 _ e1 at1 fun w H3 e3 at3 o' => by
    obtain ⟨i, rfl, gi⟩ := od_int o'
    obtain ⟨i0, i1⟩ := hi i gi
    obtain ⟨c, ec, mc⟩ := at_memG (xs := z.cps.toList) i0 (by rw [Array.length_toList]; show i < ((z.length : Nat) : Int); rw [hl]; exact i1)
    exact ⟨z, i, c, rfl, rfl, line_small (by rw [hl]; exact hz), ec, q _ _ e3 at3 ((od_of_tx (tx_one (hc c mc)) ⟨c, mc, rfl⟩))⟩
theorem oe_upper (h : OE S t σ H a b (oX m A)) (hm : m ≤ 5592405) (hu : ∀ x, A x → TxOk n (Txt.upper x)) : OE S (tM0 (fun x xs H Q => ∃ a, x = .str a ∧ xs = [] ∧ a.length ≤ 5592405 ∧ Q (.str (Txt.upper a)) H) t) σ H (10 * n + 2) 0 (oX n fun z => ∃ x, z = Txt.upper x ∧ A x) := fun H1 Q e1 at1 q =>
  h H1 _ e1 at1 fun v H2 e2 at2 o => by
    obtain ⟨x, rfl, x1, x2⟩ := od_tx o
    have l1 := x1.l
    exact ⟨⟨x, rfl⟩, x, rfl, rfl, by omega, q _ _ e2 at2 (od_of_tx (hu x x2) ⟨x, rfl, x2⟩)⟩
theorem oe_lenS (h : OE S t σ H a b (oX m A)) (hm : m ≤ 16777216) : OE S (tCB (fun xs H Q => ∃ z, xs = [.str z] ∧ z.length ≤ sizeLine ∧ Q (.int z.length) H) (tCons t tNil)) σ H 110 0 (oI fun i => ∃ x : Str, i = (x.length : Int) ∧ A x) := fun H1 Q e1 at1 q =>
  h H1 _ e1 at1 fun v H2 e2 at2 o => by
    obtain ⟨x, rfl, x1, x2⟩ := od_tx o
    have l1 := x1.l
    exact ⟨x, rfl, line_small (by omega), q _ _ e2 at2 (od_of_int ⟨by omega, by omega⟩ ⟨x, rfl, x2⟩)⟩
/-- {text: number} -/
theorem oe_d1 {i : Nat} {z : Str} {y : Int} (e : σ[i]? = some (some (.str z))) (h : TxOk m z) (hy : -100 ≤ y ∧ y ≤ 100) : OE S (tDisp [(tVar i, tC (.int y))]) σ H (10 * m + 2 + 110 + 6) 1 (fun d => d = .dict [(.str z, .int y)]) := fun H1 Q e1 at1 q => fun p np => by
  refine ⟨_, e, upd_same, [(.inr z, .int y)], rfl, (by show 1 ≤ 15; decide), ?_⟩
  have p1 := S.put (.dK []) at1 (S.refl _) at1 np
  have p2 := S.put (.dK (mergeK [] [(.inr z, .int y)])) at1 p1.2.1 p1.1 np
  exact q _ _ p2.2.1 p2.1 ⟨.dict [(.str z, .int y)], .dic p2.2.2.1 (.cons .nil), rw_dict1 (m := 10 * m + 2) (n := 110) h.rw (rw_int (i := y) (by omega) (by omega)), rfl⟩
/-- list(range(n)) -/
theorem oe_lrg {n : Nat} (hn : n ≤ 1000) (h : OE S t σ H a b (oI fun i => i = (n : Int))) : OE S (tLstRg (tRg1 t)) σ H (n * 112 + 2) 1 (oL fun ds => ds = (rg n).map PyData.int) := fun H1 Q e1 at1 q =>
  h H1 _ e1 at1 fun v H2 e2 at2 o => by
    obtain ⟨i, rfl, rfl⟩ := od_int o
    refine ⟨_, rfl, ⟨by omega, by omega, by omega, by omega, by omega⟩, fun p np => ?_⟩
    obtain ⟨at3, e3⟩ := S.same at2 (same_new (o := .lst (rgV 0 (n : Int))) np)
    have hb : ∀ x ∈ rg n, -100000000000000000000000000 ≤ x ∧ x ≤ 100000000000000000000000000 := fun x hx => by
      have := rg_mem.mp hx
      omega
    refine q _ _ (S.trans e2 e3) at3 ⟨.list ((rg n).map PyData.int), .lst (by rw [S.new _ at2 np, rg_V]) dqAll_intsG, ?_, _, rfl, rfl⟩
    exact (rw_list (rws_ints (b := 0) hb)).mono (by rw [rg_len]; exact Nat.le_refl _) (Nat.le_refl _)
end
end Fo
namespace Fo
open PySem PySem.Spec PyProof.Rows L2
theorem oe_strI {S : Src} {σ : L2.St} {H : Hp} {m a : Nat} {t : TE} {A : Int → Prop} (h : OE S t σ H m a (oI A)) (hb : ∀ i, A i → -100000000000000000000000000 ≤ i ∧ i ≤ 100000000000000000000000000) : OE S (tCB (fun xs H Q => ∃ i, xs = [.int i] ∧ i.natAbs.log2 < 1920 ∧ Q (.str (toString i)) H) (tCons t tNil)) σ H 1102 0 (oX 110 fun x => ∃ i : Int, x = toString i ∧ A i) := fun H1 Q e1 at1 q =>
  h H1 _ e1 at1 fun v H2 e2 at2 o => by
    obtain ⟨i, rfl, hi⟩ := od_int o
    obtain ⟨b1, b2⟩ := hb i hi
    have hl := log2_100 b1 b2
    have ht : TxOk 110 (Str.ofString (toString i)) := ⟨by
      have := int_text_length_le (k := 100) (by decide) hl
      rw [PySem.ofString_length]
      omega, fun c hc => by
      rw [PyProof.Rows.signs_ofString] at hc
      obtain ⟨ch, _, rfl⟩ := List.mem_map.mp hc
      exact ch.val.toNat_lt⟩
    exact ⟨i, rfl, by omega, q _ _ e2 at2 (od_of_tx ht ⟨i, rfl, hi⟩)⟩
end Fo
namespace Fo
open PySem PySem.Spec PyProof.Rows L2
/-! loops over lists of anything -/
section
variable {S : Src} {σ : L2.St} {H : Hp} {m k a b : Nat} {B C : PyData → Prop} {t u : TE}
theorem of_list {K : PySem.W.Frag} {A : List PyData → Prop} {g : TG} {tb : TS} {D : Ends} (at1 : S.At H) (h : OE S t σ H m k (oL A)) (Pv : L2.St → Hp → Prop) (h0 : ∀ H', S.Kp H H' → S.At H' → Pv σ H')
    (hs : ∀ σ' H' x d (N : L2.St → Hp → Prop), Pv σ' H' → S.Kp H H' → S.At H' → Dq (S.cut H') x d → Rw m k d → (∃ ds, A ds ∧ d ∈ ds) → (∀ s h, Pv s h → S.Kp H' h → S.At h → N s h) → g x σ' H' fun σ2 H2 => tb { D with nx := N, ct := N, bk := D.nx } σ2 H2) (hd : ∀ σ' H', Pv σ' H' → S.Kp H H' → S.At H' → D.nx σ' H') : tFor (iList K t) g tb D σ H :=
  h H _ (S.refl H) at1 fun v H2 e2 at2 o => by
    obtain ⟨_, h1, h2, ds, rfl, h3⟩ := o
    obtain ⟨p, xs, rfl, hp, ax⟩ := dq_lst h1
    refine ⟨p, rfl, ⟨xs, SqL.of (S.le _ _ _ hp)⟩, ?_⟩
    refine for_list (xs := xs) (fun _ s h => (Pv s h ∧ S.Kp H h ∧ S.At h) ∧ S.Kp H2 h) ⟨⟨h0 H2 e2 at2, e2, at2⟩, S.refl _⟩ (fun i s h _ w => SqL.of (S.le _ _ _ (S.kp w.2 _ _ hp))) (fun i x s h hx w => ?_) (fun s h w => hd s h w.1.1 w.1.2.1 w.1.2.2)
    obtain ⟨d, ed, hdq⟩ := (ax.same (S.kp w.2)).get hx
    have md := List.mem_of_getElem? ed
    exact hs s h x d _ w.1.1 w.1.2.1 w.1.2.2 hdq (rw_mem h2 md) ⟨ds, h3, md⟩ fun s' h' p k at' => ⟨⟨p, S.trans w.1.2.1 k, at'⟩, S.trans w.2 k⟩
theorem og_pair {K : PySem.W.Frag} {x : V} {p q : PyData} {i j : Nat} {Q : L2.St → Hp → Prop} (h : Dq (S.cut H) x (.tuple [p, q])) (c : ∀ v w, Dq (S.cut H) v p → Dq (S.cut H) w q → Q ((σ.set i (some v)).set j (some w)) H) : gTup K 2 (gCons (gName i) (gCons (gName j) gNil)) x σ H Q := by
  obtain ⟨a, xs, rfl, e, al⟩ := dq_tupI h
  cases al with
  | cons h1 al =>
    cases al with
    | cons h2 al =>
      cases al
      exact ⟨a, _, rfl, SqT.of (S.le _ _ _ e), rfl, _, _, rfl, _, _, rfl, rfl, c _ _ h1 h2⟩
end
end Fo
namespace Fo
open PySem PySem.Spec PyProof.Rows L2
section
variable {S : Src} {σ : L2.St} {H : Hp} {m k : Nat} {B : PyData → Prop} {t : TE}
theorem of_run {K : PySem.W.Frag} {A : List PyData → Prop} {g : TG} {tb : TS} {D : Ends} (at1 : S.At H) (h : OE S t σ H m k (oL A)) (q : ∀ p xs H', S.Kp H H' → S.At H' → S.cut H' p = some (.lst xs) → (∃ ds, DqAll (S.cut H') xs ds ∧ Rw m k (.list ds) ∧ A ds) → ∃ W : Nat → Nat → L2.St → Hp → Prop, (∃ m, W 0 m σ H') ∧ ∀ i m σ H, W i m σ H →
      ((Itl K p).stop i H ∧ D.nx σ H) ∨ ((Itl K p).go i H ∧ ∃ N : L2.St → Hp → Prop, (∀ σ' H', N σ' H' → ∃ m', m' < m ∧ W (i + 1) m' σ' H') ∧ ∀ x H', (Itl K p).yld i H x H' → g x σ H' fun σ2 H2 => tb { D with nx := N, ct := N, bk := D.nx } σ2 H2)) : tFor (iList K t) g tb D σ H :=
  h H _ (S.refl H) at1 fun v H2 e2 at2 o => by
    obtain ⟨_, h1, h2, ds, rfl, h3⟩ := o
    obtain ⟨p, xs, rfl, hp, ax⟩ := dq_lst h1
    exact ⟨p, rfl, ⟨xs, SqL.of (S.le _ _ _ hp)⟩, q p xs H2 e2 at2 hp ⟨ds, ax, h2, h3⟩⟩
theorem oa_one {Q : List V → Hp → Prop} (at1 : S.At H) (h : OE S t σ H m k B) (q : ∀ v H', S.Kp H H' → S.At H' → Od S m k B H' v → Q [v] H') : tCons t tNil σ H Q := h H _ (S.refl H) at1 q
end
end Fo
namespace Fo
open PySem PySem.Spec PyProof.Rows L2
/-! sources: none, and one that stands at one address -/
def src0 : Src where
  At := fun _ => True
  Kp := Same
  cut := fun H => H
  refl := Same.refl
  trans := Same.trans
  kp := fun k => k
  le := Same.refl
  same := fun _ s => ⟨trivial, s⟩
  put := fun {H H1 p} o _ k _ np => ⟨trivial, fun b x e => by rw [upd_ne (ne_of_none e np)]; exact k b x e, upd_same, fun b hb => upd_ne hb⟩
open Classical in
noncomputable def cut1 (d : Addr) (H : Hp) : Hp := fun b => if b = d then none else H b
theorem cut1_ne {d : Addr} {H : Hp} {b : Addr} (h : b ≠ d) : cut1 d H b = H b := by
  unfold cut1
  rw [if_neg h]
theorem cut1_of {d : Addr} {H : Hp} {b : Addr} {o : HO} (h : cut1 d H b = some o) : H b = some o ∧ b ≠ d := by
  unfold cut1 at h
  split at h
  · cases h
  · exact ⟨h, by assumption⟩
noncomputable def src1 (d : Addr) (X : HO → Prop) : Src where
  At := fun H => ∃ o, H d = some o ∧ X o
  Kp := fun H H' => ∀ b o, H b = some o → b ≠ d → H' b = some o
  cut := cut1 d
  refl := fun _ _ _ e _ => e
  trans := fun k l b o e n => l b o (k b o e n) n
  kp := fun k b o e => by
    obtain ⟨e1, e2⟩ := cut1_of e
    rw [cut1_ne e2]
    exact k b o e1 e2
  le := fun _ _ _ e => (cut1_of e).1
  same := fun h s => ⟨by obtain ⟨o, e, x⟩ := h; exact ⟨o, s _ _ e, x⟩, fun b o e _ => s b o e⟩
  put := fun {H H1 p} o h k h1 np => by
    obtain ⟨q, e, x⟩ := h
    have n1 : p ≠ d := fun z => by rw [z, e] at np; cases np
    refine ⟨by obtain ⟨q1, e1, x1⟩ := h1; exact ⟨q1, by rw [upd_ne n1.symm]; exact e1, x1⟩, fun b x e f => ?_, by rw [cut1_ne n1]; exact upd_same, fun b hb => ?_⟩
    · rw [upd_ne (ne_of_none e np)]
      exact k b x e f
    · unfold cut1
      split
      · rfl
      · exact upd_ne hb
theorem os_put1 {d : Addr} {X : HO → Prop} {H : Hp} {o : HO} (x : X o) : (src1 d X).At (upd H d o) ∧ (src1 d X).Kp H (upd H d o) := ⟨⟨o, upd_same, x⟩, fun b q e n => by rw [upd_ne n]; exact e⟩
/-- the whole list made a source: it is added to -/
theorem od_1 {d : Addr} {X : HO → Prop} {m k : Nat} {B : PyData → Prop} {H H' : Hp} {v : V} (h : Od src0 m k B H v) (e : ∀ b o, H b = some o → (src1 d X).cut H' b = some o) : Od (src1 d X) m k B H' v := by
  obtain ⟨x, h1, h2, h3⟩ := h
  exact ⟨x, h1.same e, h2, h3⟩
end Fo
namespace Fo
open PySem PySem.Spec PyProof.Rows L2
/-! a store of three numbers, of which others are drawn -/
def StAt (H : Hp) (d : Addr) : Prop := ∃ a b s : Int, H d = some (.lst [.int a, .int b, .int s])
def KeepD (d : Addr) (H H' : Hp) : Prop := ∀ b o, H b = some o → b ≠ d → H' b = some o
theorem KeepD.trans {d : Addr} {H H1 H2 : Hp} (a : KeepD d H H1) (b : KeepD d H1 H2) : KeepD d H H2 := fun c o e f => b c o (a c o e f) f
theorem KeepD.of_same {d : Addr} {H H' : Hp} (h : Same H H') : KeepD d H H' := fun b o e _ => h b o e
theorem KeepD.none {d : Addr} {H H1 : Hp} (k : KeepD d H H1) {p : Addr} (np : H1 p = none) (nf : p ≠ d) : H p = none := by
  cases e : H p with
  | none => rfl
  | some o =>
    have z := k p o e nf
    rw [np] at z
    cases z
theorem StAt.same {H H' : Hp} {d : Addr} (h : StAt H d) (s : Same H H') : StAt H' d := by
  obtain ⟨a, b, t, e⟩ := h
  exact ⟨a, b, t, s _ _ e⟩
theorem StAt.ne {H : Hp} {d : Addr} (h : StAt H d) {p : Addr} (e : H p = none) : p ≠ d := by
  obtain ⟨a, b, t, e1⟩ := h
  exact (ne_of_none e1 e).symm
def spCell (K : PySem.W.Frag) : Sp := fun vs H Q _ => ∃ (a : Addr) (ns : List Int) (k : Nat), vs = [.ref a, .int k] ∧ SqL K H a (ns.map V.int) ∧ ns.length ≤ 63 ∧ k < 63 ∧ ∀ v : Int, Q (.int v) H
def spStore : Sp := fun vs H Q _ => ∃ c : Int, vs = [.int c] ∧ ∀ (d : Addr) (H' : Hp), H d = none → StAt H' d → Same H H' → Q (.ref d) H'
def spTake : Sp := fun vs H Q _ => ∃ (d : Addr) (many : Int), vs = [.ref d, .int many] ∧ StAt H d ∧ 0 < many ∧ many ≤ 100000000000000000000 ∧ ∀ (v : Int) (H' : Hp), 0 ≤ v → v < many → StAt H' d → KeepD d H H' → Q (.int v) H'
def spLWay : Sp := fun vs H Q _ => ∃ (d : Addr), vs = [.ref d] ∧ StAt H d ∧ ∀ (z : Str) (H' : Hp), IsWay z → StAt H' d → KeepD d H H' → Q (.str z) H'
def spMost : Sp := fun vs H Q _ => ∃ (z : Str) (n : Nat), vs = [.str z, .int n] ∧ IsWay z ∧ 1 ≤ n ∧ n ≤ 12 ∧ ∀ (v : Int) (H' : Hp), 0 ≤ v → v ≤ 100 → Same H H' → Q (.int v) H'
def spDist : Sp := fun vs H Q _ => ∃ (d : Addr) (z : Str) (n : Nat), vs = [.ref d, .str z, .int n] ∧ StAt H d ∧ IsWay z ∧ 1 ≤ n ∧ n ≤ 12 ∧ ∀ (v : Int) (H' : Hp), 1 ≤ v → StAt H' d → KeepD d H H' → Q (.int v) H'
theorem mod_b (x : Int) {m : Int} (h : 0 < m) : 0 ≤ x % m ∧ x % m < m := ⟨Int.emod_nonneg x (by omega), Int.emod_lt_of_pos x h⟩
theorem at3_0 {x y z : V} : atI [x, y, z] 0 = some x := rfl
theorem at3_1 {x y z : V} : atI [x, y, z] 1 = some y := rfl
theorem at3_2 {x y z : V} : atI [x, y, z] 2 = some z := rfl
section
variable {P : Program} {w : World} {K : PySem.W.Frag} {mg : Str → Option Value} {base : Heap}
theorem scCell : FnScope ["script", "k"] ["script", "k"] (defScope s_law_cell) := ⟨rfl, rfl, rfl, by decide +kernel, rfl, by decide +kernel, by decide +kernel⟩
theorem ok_cell {f : Addr} {fd : FuncData} {k : Nat} (T : Df K mg "_law_cell" s_law_cell ["script", "k"] f fd) (B : Bi mg) : FnOk P w K mg base CX0 (k + 1) f fd ["script", "k"] (spCell K) := by
  refine T.F.ok scCell (fun vs H Q E h => ?_) (fun cdv A outer s H vs Q E hr h => ?_)
  · obtain ⟨a, ns, i, rfl, _⟩ := h
    rfl
  · obtain ⟨a, ns, i, rfl, hS, hl, hi, q⟩ := h
    refine ⟨_, 
      (pss_cons (ps_if (pt_cmpR op_lt (pv 1) (pe_callB call_len_seq (by rfl) B.len PySem.boot_len (pa_cons (pv 0) pa_nil)) (nomark _))
        (pss_one (ps_ret (pe_ix ix_list (pv 0) (pv 1) (fun _ _ => rfl))))
        pss_nil)
      (pss_one (ps_ret (pe_op op_add (pe_op op_add (pe_op op_mul (pe_op op_mul pe_int (pv 1)) (pv 1)) (pe_op op_mul pe_int (pv 1))) pe_int)))), ?_⟩
    refine ⟨_, rfl, _, rfl, a, _, rfl, .inl hS, _, _, rfl, rfl, _, rfl, ite2 (fun c => ?_) (fun _ => ?_)⟩
    · have hlt := of_decide_eq_true c
      rw [List.length_map] at hlt
      have hlt2 : i < ns.length := by omega
      exact ⟨_, rfl, _, rfl, a, _, _, _, rfl, rfl, hS, at_of (j := i) rfl (int_at (List.getElem?_eq_getElem hlt2)), q _⟩
    · exact ⟨_, rfl, 7, _, rfl, rfl, .inl ⟨by decide, by decide⟩, _, rfl, _, _, rfl, rfl, .inl ⟨by omega, by omega⟩, _, rfl, 3, _, rfl, rfl, .inl ⟨by decide, by decide⟩, _, _, rfl, rfl, _, 11, rfl, rfl, q _⟩
theorem scStore : FnScope ["cell", "great"] ["cell"] (defScope s_law_store) := ⟨rfl, rfl, rfl, by decide +kernel, rfl, by decide +kernel, by decide +kernel⟩
theorem ok_store {f : Addr} {fd : FuncData} {k : Nat} (T : Df K mg "_law_store" s_law_store ["cell"] f fd) : FnOk P w K mg base CX0 (k + 1) f fd ["cell"] spStore := by
  refine T.F.ok scStore (fun vs H Q E h => ?_) (fun cdv A outer s H vs Q E hr h => ?_)
  · obtain ⟨c, rfl, _⟩ := h
    rfl
  · obtain ⟨c, rfl, q⟩ := h
    refine ⟨_, 
      (pss_cons (ps_set (i := 1) scStore.nd rfl (.inl rfl) pe_int)
      (Evl.pss_cut (ps_if (pt_cmpR op_ge (pv 0) (pe_op op_pow pe_int pe_int) (nomark _))
        (pss_one (ps_set (i := 1) scStore.nd rfl (.inl rfl) (pv 0)))
        pss_nil)
      (pss_one (ps_ret (pe_lst (pa_cons (pv 1) (pa_cons (pe_op op_mod (pv 0) pe_int) (pa_cons pe_int pa_nil)))))))), ?_⟩
    refine ⟨fun τ G => ∃ g : Int, τ = [some (.int c), some (.int g)] ∧ G = H, ?_, fun τ G hM => ?_⟩
    · exact ⟨_, rfl, 10, 18, rfl, rfl, ⟨by decide, by decide, by decide⟩, c, _, rfl, rfl, _, rfl, ite2 (fun _ => ⟨_, rfl, c, rfl, rfl⟩) (fun _ => ⟨0, rfl, rfl⟩)⟩
    · obtain ⟨g, rfl, rfl⟩ := hM
      exact ⟨_, rfl, _, rfl, c, 2147483629, rfl, rfl, (show (0 : Int) < 2147483629 by decide), line_small (by show 3 ≤ 16777216; decide), fun d nd => q d _ nd ⟨_, _, _, upd_same⟩ (same_new nd)⟩
theorem scTake : FnScope ["store", "many", "told", "one"] ["store", "many"] (defScope s_law_take) := ⟨rfl, rfl, rfl, by decide +kernel, rfl, by decide +kernel, by decide +kernel⟩
set_option maxHeartbeats 1000000 in
theorem ok_take {f : Addr} {fd : FuncData} {k : Nat} (T : Df K mg "_law_take" s_law_take ["store", "many"] f fd) : FnOk P w K mg base CX0 (k + 1) f fd ["store", "many"] spTake := by
  refine T.F.ok scTake (fun vs H Q E h => ?_) (fun cdv A outer s H vs Q E hr h => ?_)
  · obtain ⟨d, m, rfl, _⟩ := h
    rfl
  · obtain ⟨d, m, rfl, ⟨a, b, st, hd⟩, hm, hm2, q⟩ := h
    refine ⟨_, 
      (pss_cons (ps_if (pt_cmpR op_gt (pe_ix ix_list (pv 0) pe_int (fun _ _ => rfl)) pe_int (nomark _))
        (pss_cons (ps_set (i := 2) scTake.nd rfl (.inl rfl) (pe_op op_mod (pe_ix ix_list (pv 0) pe_int (fun _ _ => rfl)) (pv 1)))
        (pss_cons (ps_asg (pe_op op_fdivW (pe_ix ix_list (pv 0) pe_int (fun _ _ => rfl)) (pv 1)) (pg_sub (pv 0) pe_int set_list))
        (pss_one (ps_ret (pv 2)))))
        pss_nil)
      (pss_cons (ps_asg (pe_op op_add (pe_ix ix_list (pv 0) pe_int (fun _ _ => rfl)) pe_int) (pg_sub (pv 0) pe_int set_list))
      (Evl.pss_cut (ps_set (i := 3) scTake.nd rfl (.inl rfl) (pe_op op_mod (pe_op op_mul (pe_op op_add (pe_ix ix_list (pv 0) pe_int (fun _ _ => rfl)) (pe_op op_mul pe_int (pe_ix ix_list (pv 0) pe_int (fun _ _ => rfl)))) pe_int) pe_int))
      (Evl.pss_cut (ps_set (i := 3) scTake.nd rfl (.inl rfl) (pe_op op_mod (pe_op op_mul (pv 3) (pv 3)) pe_int))
      (Evl.pss_cut (ps_set (i := 3) scTake.nd rfl (.inl rfl) (pe_op op_mod (pe_op op_mul (pe_op op_add (pv 3) (pe_op op_mul pe_int (pe_ix ix_list (pv 0) pe_int (fun _ _ => rfl)))) pe_int) pe_int))
      (pss_one (ps_ret (pe_op op_mod (pe_op op_fdiv (pv 3) pe_int) (pv 1))))))))), ?_⟩
    refine ⟨_, rfl, d, _, 0, _, rfl, rfl, SqL.of hd, at3_0, a, 0, rfl, rfl, _, rfl, ite2 (fun _ => ?_) (fun _ => ?_)⟩
    · refine ⟨_, rfl, d, _, 0, _, rfl, rfl, SqL.of hd, at3_0, _, rfl, a, m, rfl, rfl, hm, ?_⟩
      refine ⟨_, rfl, d, _, 0, _, rfl, rfl, SqL.of hd, at3_0, _, rfl, a, m, rfl, rfl, wide_div (b := 70) hm (by omega) (by decide) (by decide), _, rfl, d, _, 0, 0, rfl, rfl, hd, rfl, ?_⟩
      obtain ⟨c1, c2⟩ := mod_b a hm
      exact ⟨_, rfl, q _ _ c1 c2 ⟨a / m, b, st, upd_same⟩ fun b o e nb => by rw [upd_ne nb]; exact e⟩
    · refine ⟨_, rfl, d, _, 2, _, rfl, rfl, SqL.of hd, at3_2, st, 1, rfl, rfl, _, rfl, d, _, 2, 2, rfl, rfl, hd, rfl, ?_⟩
      have hd1 : (upd H d (.lst [.int a, .int b, .int (st + 1)])) d = some (.lst [.int a, .int b, .int (st + 1)]) := upd_same
      have kp : KeepD d H (upd H d (.lst [.int a, .int b, .int (st + 1)])) := fun b o e nb => by rw [upd_ne nb]; exact e
      have kp2 : (upd H d (.lst (([.int a, .int b, .int st] : List V).set 2 (.int (st + 1))))) = upd H d (.lst [.int a, .int b, .int (st + 1)]) := rfl
      rw [kp2]
      generalize upd H d (.lst [.int a, .int b, .int (st + 1)]) = H1 at hd1 kp ⊢
      refine ⟨fun τ G => ∃ x : Int, 0 ≤ x ∧ x < 2147483647 ∧ τ = [some (.ref d), some (.int m), none, some (.int x)] ∧ G = H1, ?_, fun τ G hM => ?_⟩
      · exact ⟨_, rfl, d, _, 1, _, rfl, rfl, SqL.of hd1, at3_1, _, rfl, d, _, 2, _, rfl, rfl, SqL.of hd1, at3_2, 7919, _, rfl, rfl, .inl ⟨by decide, by decide⟩, _, _, rfl, rfl, _, 48271, rfl, rfl, .inr ⟨by decide, by decide⟩, _, 2147483647, rfl, rfl, (show (0 : Int) < 2147483647 by decide), _, (mod_b _ (by decide)).1, (mod_b _ (by decide)).2, rfl, rfl⟩
      obtain ⟨x, x0, x1, rfl, e1⟩ := hM
      subst e1
      refine ⟨fun τ G' => ∃ y : Int, 0 ≤ y ∧ y < 2147483629 ∧ τ = [some (.ref d), some (.int m), none, some (.int y)] ∧ G' = G, ?_, fun τ G' hM => ?_⟩
      · exact ⟨_, rfl, _, rfl, x, x, rfl, rfl, .inl ⟨by omega, by omega⟩, _, 2147483629, rfl, rfl, (show (0 : Int) < 2147483629 by decide), _, (mod_b _ (by decide)).1, (mod_b _ (by decide)).2, rfl, rfl⟩
      obtain ⟨y, y0, y1, rfl, e1⟩ := hM
      subst e1
      refine ⟨fun τ G'' => ∃ z : Int, τ = [some (.ref d), some (.int m), none, some (.int z)] ∧ G'' = G', ?_, fun τ G'' hM => ?_⟩
      · exact ⟨_, rfl, _, rfl, d, _, 2, _, rfl, rfl, SqL.of hd1, at3_2, 40692, _, rfl, rfl, .inl ⟨by decide, by decide⟩, y, _, rfl, rfl, _, 69621, rfl, rfl, .inr ⟨by decide, by decide⟩, _, 2147483587, rfl, rfl, (show (0 : Int) < 2147483587 by decide), _, rfl, rfl⟩
      obtain ⟨z, rfl, e1⟩ := hM
      subst e1
      obtain ⟨c1, c2⟩ := mod_b (z / 8) hm
      exact ⟨_, rfl, z, 8, rfl, rfl, ⟨by decide, by decide⟩, _, rfl, _, m, rfl, rfl, hm, q _ _ c1 c2 ⟨_, _, _, hd1⟩ kp⟩
end
end Fo
namespace Fo
open PySem PySem.Spec PyProof.Rows L2
theorem StAt.new {H : Hp} {d : Addr} (h : StAt H d) {p : Addr} {o : HO} (e : H p = none) : StAt (L2.upd H p o) d := h.same (same_new e)
theorem StAt.upd {H : Hp} {d : Addr} (h : StAt H d) {p : Addr} {o : HO} (n1 : p ≠ d) : StAt (L2.upd H p o) d := by
  obtain ⟨a, b, t, e⟩ := h
  exact ⟨a, b, t, by rw [upd_ne n1.symm]; exact e⟩
theorem KeepD.new {d : Addr} {H : Hp} {p : Addr} {o : HO} (e : H p = Option.none) : KeepD d H (upd H p o) := KeepD.of_same (same_new e)
def spOrderS : Sp := fun vs H Q _ => ∃ (d : Addr) (n : Nat), vs = [.ref d, .int n] ∧ StAt H d ∧ n ≤ 12 ∧
  ∀ (ns : List Int) (l : Addr) (H' : Hp), IsOrd n ns → H l = none → H' l = some (.lst (ns.map V.int)) → l ≠ d → StAt H' d → KeepD d H H' → Q (.ref l) H'
section
variable {P : Program} {w : World} {K : PySem.W.Frag} {mg : Str → Option Value} {base : Heap}
end
end Fo
namespace Fo
open PySem PySem.Spec PyProof.Rows L2
def spApart : Sp := fun vs H Q _ => ∃ (w : Str) (n most d : Int), vs = [.str w, .int n, .int most, .int d] ∧ IsWay w ∧ 1 ≤ n ∧ n ≤ most ∧ 1 ≤ d ∧ Q .non H
section
variable {P : Program} {w : World} {K : PySem.W.Frag} {mg : Str → Option Value} {base : Heap}
theorem scApart : FnScope ["way", "n", "most", "d"] ["way", "n", "most", "d"] (defScope s_check_apart) := ⟨rfl, rfl, rfl, by decide +kernel, rfl, by decide +kernel, by decide +kernel⟩
theorem ok_apart {f f1 f2 f3 fW aW : Addr} {fd d1 d2 d3 dW : FuncData} {k : Nat} (T : Df K mg "check_apart" s_check_apart ["way", "n", "most", "d"] f fd) (T_check_way : Df K mg "check_way" s_check_way ["thing"] f1 d1) (T_check_size : Df K mg "check_size" s_check_size ["thing", "most"] f2 d2) (T_check_from : Df K mg "check_from" s_check_from ["thing", "least"] f3 d3) (T_is_whole : Df K mg "is_whole" s_is_whole ["thing"] fW dW) (W : Wy K mg aW) (B : Bi mg) : FnOk P w K mg base CX0 (k + 3) f fd ["way", "n", "most", "d"] spApart := by
  have G_check_way : FnOk P w K mg base CX0 (k + 2) f1 d1 ["thing"] spWay := ok_way (k := k + 1) T_check_way W B
  have G_check_size : FnOk P w K mg base CX0 (k + 2) f2 d2 ["thing", "most"] spSize := ok_size T_check_size T_is_whole B
  have G_check_from : FnOk P w K mg base CX0 (k + 2) f3 d3 ["thing", "least"] spFrom := ok_from T_check_from T_is_whole B
  refine T.F.ok scApart (fun vs H Q E h => ?_) (fun cdv A outer s H vs Q E hr h => ?_)
  · obtain ⟨w, n, most, d, rfl, _⟩ := h
    rfl
  · obtain ⟨w, n, most, d, rfl, hw, h1, h2, h3, q⟩ := h
    refine ⟨_, 
      (pss_cons (ps_expr (pe_call G_check_way hr (by rfl) T_check_way.g T_check_way.F.kp T_check_way.b .nil pass0 (pa_cons (pv 0) pa_nil)))
      (pss_cons (ps_expr (pe_call G_check_size hr (by rfl) T_check_size.g T_check_size.F.kp T_check_size.b .nil pass0 (pa_cons (pv 1) (pa_cons (pv 2) pa_nil))))
      (pss_one (ps_expr (pe_call G_check_from hr (by rfl) T_check_from.g T_check_from.F.kp T_check_from.b .nil pass0 (pa_cons (pv 3) (pa_cons pe_int pa_nil))))))), ?_⟩
    exact ⟨_, rfl, w, rfl, hw, _, rfl, _, rfl, n, most, rfl, h1, h2, _, rfl, d, 1, rfl, h3, q⟩
end
end Fo
namespace Fo
open PySem PySem.Spec PyProof.Rows L2 GenW
/-! all(test for x in ..) where the test calls defs of the program -/
/-- around a generator's block that all() walks -/
abbrev gArd (A : Around) (ce : Env) : Around := A.in1.in1.deeper ce
theorem room_gen {k : Nat} {A : Around} {ce : Env} (r : Room (k + 1) A) : Room k (gArd A ce) := by
  obtain ⟨h1, h2, h3⟩ := r
  refine ⟨h1, ?_, ?_⟩
  · show A.depth + 1 + 3 * k + 5 < _
    omega
  · show A.units + 1 + 1 + 3 + 16 * k + 200 < _
    omega
theorem over_gl {A : Around} {el : Expr} {gs : List Comprehension} {sc : Scope} {p : Pos} {it ac : Value} {ce : Env} : A.over (.compLoop (.GeneratorExp el gs sc p) 0 it ac ce) [] = A.deeper ce := by
  first
    | rfl
    | (obtain ⟨a1, a2, a3, a4, a5⟩ := A; simp [Around.over, Around.deeper, marksOver, frameCount, unitsOf, envsOf, guardsOf, pushEnvs, pushGuards, Code.envs, Code.env?, Code.isFrame, Code.guards, Code.isGuard, Code.weight, Code.frames, Code.isCreation, Code.isCaller, Code.cUnits])
abbrev gCx (X : Cx) (s : Shared) (H : Hp) (ce : Env) (fp : List Addr) (pn : List (Addr × Obj)) : Cx := { X with A := gArd X.A ce, s_0 := s, H_0 := H, env := ce, outer := X.stack, stack := ce :: X.stack, ex := fp, fn := fun _ => false, pn := pn, xe := fun _ _ => False }
/-- the scope of a generator expression without cells of its own -/
structure GSc (sc : Scope) : Prop where
  co : sc.isCoroutine = false
  cell : ∀ y ∈ sc.names, y.2 ≠ .cell
  dot : sc.names.lookup (".0" : Str) = some NameKind.local
def gscB (sc : Scope) : Bool := !sc.isCoroutine && sc.names.all (fun y => y.2 != .cell) && sc.names.lookup (".0" : Str) == some NameKind.local
theorem gsc_by {sc : Scope} (h : gscB sc = true) : GSc sc := by
  unfold gscB at h
  simp only [Bool.and_eq_true, List.all_eq_true, bne_iff_ne, ne_eq, beq_iff_eq, Bool.not_eq_true'] at h
  exact ⟨h.1.1, h.1.2, h.2⟩
/-- what happens while a generator sleeps -/
def Aft (s s' : Shared) : Prop := s'.os = s.os ∧ AllBare s'.gens ∧ ∀ b o, s.heap.get? b = some o → s'.heap.get? b = some o

section
variable {X : Cx} {pins : List (Addr × Obj)} {σ : L2.St} {H : Hp} {s : Shared}
theorem gen_start {sc : Scope} {own : List (Str × Nat)} {fp : List Addr} {code : Value} {h2 : Heap} {g2 : Array GenState} {t2 : Nat} {m : Str → Option Value} {a : Addr} {go : Obj} (I : Inv X pins σ H s) (ok : BlkOk X.N X.env.scope sc own) (gs : GSc sc) (hN : X.N.Nodup) (hc : X.calm = true)
    (hfp : ∀ b ∈ fp, FpOk X pins H b ∧ b < s.heap.objs.size) (hn : h2.Ns s.heap.objs.size m) (kp : ∀ b o, s.heap.get? b = some o → h2.get? b = some o) (ha : s.heap.objs.size < a) (hgo : h2.get? a = some go) (hgd : ∀ v, go.data ≠ .cell v) (hbr : AllBare g2) :
    Inv (gCx X s H (genEnv sc (cloFrom X.env.cells sc.names []) s.heap.objs.size code builtinsNs X.env) fp [(a, go)]) [] (wipe σ (own.map (·.2))) H { s with heap := h2, gens := g2, toks := t2 } := by
  have fr : ∀ y ∈ sc.names, y.2 = .free → ∃ c, X.env.cells.lookup y.1 = some c := fun y hy e => by
    rcases ok.free y hy e with k | k
    · exact I.ok.has _ (.inl k)
    · exact I.ok.has _ (.inr k)
  have cm : ∀ {y c}, (cloFrom X.env.cells sc.names []).lookup y = some c → X.env.cells.lookup y = some c ∧ c < s.heap.objs.size := fun {y c} e => by
    rcases cloFrom_mem (PySem.mem_of_lookup e) with hm | ⟨h1, rfl⟩
    · cases hm
    · obtain ⟨c, hc⟩ := fr _ h1 rfl
      rw [hc]
      obtain ⟨w, z⟩ := I.cell _ _ hc
      exact ⟨rfl, z.lt⟩
  have look : ∀ {y}, sc.names.lookup y = some .free → ∃ c, (cloFrom X.env.cells sc.names []).lookup y = some c ∧ X.env.cells.lookup y = some c := fun {y} hl => by
    obtain ⟨c', e'⟩ := mem_lookup (cloFrom_has (cells := X.env.cells) (acc := []) (PySem.mem_of_lookup hl))
    exact ⟨c', e', (cm e').1⟩
  have nst : ∀ b, s.heap.objs.size ≤ b → b ∉ frs X.stack := fun b hb z => by
    rcases List.mem_cons.mp (I.stkSub b z) with q | q
    · rw [q] at hb
      exact absurd (Nat.lt_of_lt_of_le I.lt hb) (Nat.lt_irrefl _)
    · exact I.nofs hb q
  have okB : (gCx X s H (genEnv sc (cloFrom X.env.cells sc.names []) s.heap.objs.size code builtinsNs X.env) fp [(a, go)]).Ok := by
    refine ⟨I.ok.mod, ok.kind, I.ok.glob, rfl, Nat.le_refl _, fun y z c e1 e2 => I.ok.inj y z c (cm e1).1 (cm e2).1, fun y hy => ?_, fun y c z e => (by cases z), fun _ => I.ok.hd hc, Around.frames_deeper (A := X.A.in1.in1) I.ok.frames, .inr ⟨rfl, rfl⟩,
      fun b hb => ⟨Nat.ne_of_lt (hfp b hb).2, fun y c e z => (hfp b hb).1.2.2.2.2.1 y c (cm e).1 z⟩, I.bs, Nat.le_trans I.ok.bsz I.sz, fun b o e hb => ?_, fun b hb z => ?_, I.stack, I.stkFree⟩
    · have hy : sc.names.lookup y = some .cell ∨ sc.names.lookup y = some .free := hy
      rcases hy with hy | hy
      · exact absurd rfl (gs.cell _ (PySem.mem_of_lookup hy))
      · obtain ⟨c, h1, _⟩ := look hy
        exact ⟨c, h1⟩
    · rcases (hfp b hb).1.2.2.2.1 with z | z
      · exact I.ok.noex b o e z
      · exact absurd (Nat.lt_of_lt_of_le (Heap.lt_size e) (Nat.le_trans I.ok.bsz z)) (Nat.lt_irrefl _)
    · rcases List.mem_cons.mp (I.stkSub b z) with q | q
      · exact (hfp b hb).1.2.1 q
      · exact (hfp b hb).1.2.2.1 q
  refine ⟨okB, rfl, hbr, Un.kept kp, ⟨m, hn, fun i y av e1 e2 e3 => ?_⟩, fun y c e => ?_, I.hok.fresh (Nat.le_refl _), fun y c e => I.freeC y c (cm e).1, fun p hp => ?_, I.hok.kept kp, by rw [wipe_length]; exact I.len⟩
  · obtain ⟨e2, hne⟩ := wipe_some e2
    have no : ∀ k, sc.names.lookup y = some k → ¬ (k = .local ∨ k = .cell) := fun k hk hh => by
      rcases ok.own _ (PySem.mem_of_lookup hk) hh with e' | e'
      · obtain ⟨p, hp, hpy⟩ := List.mem_map.mp e'
        have e3 := ok.ix p hp
        have : p.1 = y := hpy
        rw [this] at e3
        exact hne (List.mem_map.mpr ⟨p, hp, nodup_ix hN e3 e1⟩)
      · exact e' (List.mem_of_getElem? e1)
    have hfr : sc.names.lookup y = some .free := by
      have e3 : sc.names.lookup y = some .local ∨ sc.names.lookup y = some .cell ∨ sc.names.lookup y = some .free := e3
      rcases e3 with e3 | e3 | e3
      · exact absurd (.inl rfl) (no _ e3)
      · exact absurd (.inr rfl) (no _ e3)
      · exact e3
    obtain ⟨m', _, hl⟩ := I.loc
    have hvis : Vis X.env.scope y := (ok.free _ (PySem.mem_of_lookup hfr) rfl).elim (fun k => .inr (.inl k)) (fun k => .inr (.inr k))
    obtain ⟨w, r, q⟩ := hl i y av e1 e2 hvis
    refine ⟨w, r, .inr ⟨.inr hfr, ?_⟩⟩
    obtain ⟨c, h1, h3⟩ := look hfr
    rcases q with ⟨k, _⟩ | ⟨_, c', e', z⟩
    · have k : X.env.scope.names.lookup y = some .local := k
      rcases ok.free _ (PySem.mem_of_lookup hfr) rfl with k' | k' <;> rw [show X.env.scope.names.lookup y = _ from k'] at k <;> cases k
    · rw [h3] at e'
      cases e'
      exact ⟨c, h1, z.keeps kp⟩
  · obtain ⟨w, z⟩ := I.cell y c (cm e).1
    exact ⟨w, z.keeps kp⟩
  · have e : p = (a, go) := by simpa using hp
    subst e
    exact ⟨hgo, I.hok.fresh (Nat.le_of_lt ha), Nat.ne_of_gt ha, nst _ (Nat.le_of_lt ha), hgd⟩
end

/-- an item is out: a truth; behind False nothing is asked any more -/
def gY (Y : Cx) (w : L2.St) (Qf : Hp → Prop) (a : Addr) (g : Nat) : Protocol := fun _ _ v s kap => ∃ b, v = .bool b ∧ s.heap.IsGen a g ∧ s.heap.NoLimit ∧ AllBare s.gens ∧
  if b = true then ∀ s'', Aft s s'' → kap (.send .none) s'' else ∃ H, Inv Y [] w H s ∧ Qf H
def gR (Y : Cx) (w : L2.St) (Qt : Hp → Prop) : Nat → Shared → Shared → Prop := fun _ _ s => ∃ H, Inv Y [] w H s ∧ Qt H

theorem gen_loop {Y : Cx} {A : Around} {el tg iter : Expr} {sc : Scope} {pos : Pos} {it : Addr} {fp : List Addr} {tn : Nat → Heap → Prop} {J : It} {gt : TG} {te : TE} {vs : List Nat} {σ0 : L2.St} {a : Addr} {g : Nat} {go : Obj} {Qt Qf : Hp → Prop} {W : Nat → Nat → Hp → Prop}
    (hA : Y.A = A.deeper Y.env) (hc : Y.calm = true) (hx : Y.xe = fun _ _ => False) (hex : Y.ex = fp) (hpn : Y.pn = [(a, go)]) (hgo : ∀ h : Heap, h.get? a = some go → h.IsGen a g) (haf : a ∉ fp) (hco : Y.env.scope.isCoroutine = false)
    (T : Turn Y.prog Y.w Y.K tg J fp it tn) (pg : PG Y tg gt) (pe : PE Y el te)
    (turn : ∀ i m H, W i m H → (J.stop i H ∧ Qt H) ∨ (J.go i H ∧ ∀ x H', J.yld i H x H' → gt x (wipe σ0 vs) H' fun σ2 H3 => wipe σ2 vs = wipe σ0 vs ∧ te σ2 H3 fun y H4 => ∃ b, y = .bl b ∧ if b = true then ∃ m', m' < m ∧ W (i + 1) m' H4 else Qf H4)) :
    ∀ (n i m : Nat) (H : Hp) (s₀ s : Shared), m < n → W i m H → Inv Y [] (wipe σ0 vs) H s → tn i s.heap → (∀ b ∈ fp, H b = none) →
      Seg (model Y.prog Y.w) A (fun n s₀ r s₁ => r = .ok .next ∧ gR Y (wipe σ0 vs) Qt n s₀ s₁) (gY Y (wipe σ0 vs) Qf a g) n s₀ (.compLoop (.GeneratorExp el [⟨tg, iter, [], 0⟩] sc pos) 0 (.ref it) .none Y.env)
        ((model Y.prog Y.w).den (.compLoop (.GeneratorExp el [⟨tg, iter, [], 0⟩] sc pos) 0 (.ref it) .none Y.env)) [] s := by
  have ov : A.over (.compLoop (.GeneratorExp el [⟨tg, iter, [], 0⟩] sc pos) 0 (.ref it) .none Y.env) [] = Y.A := over_gl.trans hA.symm
  have fpo : ∀ {H' : Hp} {s' : Shared} {σ' : L2.St}, Inv Y [] σ' H' s' → (∀ b ∈ fp, H' b = none) → ∀ b ∈ fp, FpOk Y [] H' b := fun {H' s' σ'} I' hn b hb => by
    have hb' : b ∈ Y.ex := by rw [hex]; exact hb
    refine ⟨hn b hb, (I'.ok.exf b hb').1, I'.ok.exfs b hb', .inl hb', fun x c e => (I'.ok.exf b hb').2 x c e, fun p hp z => ?_⟩
    rw [hpn] at hp
    have e : p = (a, go) := by simpa using hp
    rw [e] at z
    have z : a = b := z
    exact haf (by rw [z]; exact hb)
  intro n
  induction n with
  | zero =>
    intro i m H s₀ s hm
    omega
  | succ n ih =>
    intro i m H s₀ s hm w I st nf
    show Seg _ A _ _ _ s₀ _ ((compTurn (.GeneratorExp el [⟨tg, iter, [], 0⟩] sc pos) 0 (.ref it) .none Y.env).onRaise (leaving Y.env)) [] s
    rw [compTurn_gen, Sem.onRaise_eq_wrap]
    refine seg_bind_wrap (wpAny_standAt ?_)
    refine seg_bind_wrap ?_
    rw [ov]
    rcases turn i m H w with ⟨stop, q⟩ | ⟨go', step⟩
    · refine thnF (T.done Y rfl rfl rfl hc i [] s _ H (fun _ _ => False) I (fpo I nf) st stop) fun r s6 ⟨hr, I6⟩ => ?_
      subst hr
      exact seg_end (.ok .next) ⟨rfl, H, I6, q⟩
    · refine thnF (T.item Y rfl rfl rfl hc i [] s _ H (fun _ _ => False) I (fpo I nf) st go') fun r s6 ⟨u, hr, h6⟩ => ?_
      subst hr
      refine seg_bind_wrap ?_
      rw [ov]
      refine thnF h6 fun _ s7 ⟨x, H7, I7, r7, y7, st7, n7⟩ => ?_
      have I7' := I7.pinned (fpo I7 n7) (T.obj _ _ st7)
      refine seg_bind_wrap ?_
      rw [ov]
      have hs := pg.run _ s7 _ H7 x u _ I7' r7 (step x H7 y7)
      rw [hx] at hs
      refine thnF hs fun _ s8 ⟨σ8, H8, I8, hw8, q8⟩ => ?_
      refine seg_bind_wrap (wpAny_pure ?_)
      simp only [if_true]
      have hy : ∀ v, yieldOut Y.env v = yieldValue v := fun v => by simp only [yieldOut, hco, Bool.false_eq_true, if_false]
      simp only [hy]
      rw [Sem.bind_eq_wrap', Sem.bind_eq_wrap', Sem.wrap_wrap, Sem.wrap_wrap]
      refine seg_wrap ?_
      rw [ov]
      have hp := pe.run _ s8 σ8 H8 _ I8 q8
      rw [hx] at hp
      refine thnF hp fun v s9 ⟨yv, H9, I9, r9, b, eb, q9⟩ => ?_
      subst eb
      obtain rfl : v = Value.bool b := r9
      have pin9 : ∀ c ∈ fp, ∀ o, s7.heap.get? c = some o → s9.heap.get? c = some o ∧ H9 c = none := fun c hc' o e =>
        let z := I9.pin (c, o) (List.mem_append_right _ (List.mem_append_right _ (mem_pinsAt hc' e)))
        ⟨z.1, z.2.1⟩
      have I10 : Inv Y [] (wipe σ0 vs) H9 s9 := (I9.unpinned (pins := [])).weak (by rw [← hw8, wipe_length]) fun j v e => by
        rw [← hw8] at e
        exact (wipe_some e).1
      have st9 : tn (i + 1) s9.heap := T.keep _ _ _ st7 fun c hc' o e => (pin9 c hc' o e).1
      have nf9 : ∀ c ∈ fp, H9 c = none := fun c hc' => by
        obtain ⟨o, e, _⟩ := T.obj _ _ st7 c hc'
        exact (pin9 c hc' o e).2
      have hga : s9.heap.get? a = some go := (I10.pin (a, go) (by rw [hpn]; simp)).1
      refine seg_at (seg_yield rfl rfl rfl ⟨b, rfl, hgo _ hga, I10.nolimit, I10.bare, ?_⟩)
      cases b with
      | false =>
        rw [if_neg Bool.false_ne_true] at q9 ⊢
        exact ⟨H9, I10, q9⟩
      | true =>
        rw [if_pos rfl] at q9 ⊢
        obtain ⟨m', hm', w'⟩ := q9
        intro s'' ⟨ho, hb, hk⟩
        exact seg_again rfl (ih (i + 1) m' H9 s'' s'' (by omega) w' (I10.call' (ch := []) ho (Un.kept hk) (I10.hok.kept hk) hb fun b z => by simp at z) (T.keep _ _ _ st9 fun b _ o e => hk b o e) nf9)

theorem gen_begin {P : Program} {w : World} {A : Around} {R : GenEnd} {Yp : Protocol} {n : Nat} {s₀ s : Shared} {el tg iter : Expr} {sc : Scope} {pos : Pos} {it : Addr} {ce : Env}
    (lp : Seg (model P w) A R Yp n s₀ (.compLoop (.GeneratorExp el [⟨tg, iter, [], 0⟩] sc pos) 0 (.ref it) .none ce) ((model P w).den (.compLoop (.GeneratorExp el [⟨tg, iter, [], 0⟩] sc pos) 0 (.ref it) .none ce)) [] s)
    (self : ∀ (B : Around) (Q : Value → Shared → Prop) (E : Value → Shared → Prop), Q (.ref it) s → wpAny (model P w) B (pyIter (.ref it)) Q E s) :
    Seg (model P w) A R Yp n s₀ (.compStart (.GeneratorExp el [⟨tg, iter, [], 0⟩] sc pos) 0 (.ref it) .none ce) ((model P w).den (.compStart (.GeneratorExp el [⟨tg, iter, [], 0⟩] sc pos) 0 (.ref it) .none ce)) [] s := by
  show Seg _ A _ _ _ s₀ _ ((compStart (.GeneratorExp el [⟨tg, iter, [], 0⟩] sc pos) 0 (.ref it) .none ce).onRaise (leaving ce)) [] s
  unfold compStart
  rw [Sem.onRaise_eq_wrap]
  show Seg _ A _ _ _ s₀ _ ((ask >>= _).wrap _ _ _ _) [] s
  refine seg_bind_wrap (wpAny_askSetting ?_)
  split
  · exact seg_again rfl lp
  · first
      | exact seg_bind_wrap (wpAny_rule (seg_bind_wrap (wpAny_standAt (seg_bind_wrap (self _ _ _ (seg_again rfl lp))))))
      | (refine seg_bind_wrap (wpAny_rule ?_); show Seg _ A _ _ _ s₀ _ ((standAt iter.pos >>= _).wrap _ _ _ _) [] s; exact seg_bind_wrap (wpAny_standAt (seg_bind_wrap (self _ _ _ (seg_again rfl lp)))))

theorem all_loop {Y : Cx} {A : Around} {a : Addr} {g : Nat} {w : L2.St} {Qt Qf : Hp → Prop} {R : Result → Shared → Prop} (hh : A.handled = none) (hd : A.depth < recursionLimit)
    (ht : ∀ s H s', Inv Y [] w H s → Qt H → Aft s s' → R (.ok (.ret (.bool true))) s') (hf : ∀ s H s', Inv Y [] w H s → Qf H → Aft s s' → R (.ok (.ret (.bool false))) s') :
    ∀ (n : Nat) (s : Shared), s.heap.IsGen a g → s.heap.NoLimit →
      (∃ gs, s.gens[g]? = some gs ∧ gs.Goes (model Y.prog Y.w) A.in1.in1 (fun n s₀ r s₁ => r = .ok .next ∧ gR Y w Qt n s₀ s₁) (gY Y w Qf a g) n (.send .none) (s.setGen g .running)) →
      codeAny (model Y.prog Y.w) A (.builtin "all.loop" ⟨[.ref a], []⟩) R s := by
  intro n
  induction n with
  | zero =>
    intro s hg hl ⟨gs, hgs, hgo⟩
    refine codeAny_builtin F.entry_all_loop ?_
    rw [Around.under_plainId F.plain_all_loop _]
    show wpAny _ A.in1 (pyNext (.ref a) >>= _) _ _ s
    refine wpAny_bind (wpAny_pyNext_genexpQ (A := A.in1) (P := gR Y w Qt) hh hl hd hg hgs hgo (fun v s₁ gs' hb hv => ?_) (fun s₁ hp h' hk => ?_))
    · obtain ⟨b, rfl, hg1, hl1, hb1, q⟩ := hv
      refine wpAny_bind (wpAny_holding (wpAny_truthy_bool ?_))
      refine wpAny_bind (wpAny_letGo ?_)
      cases b with
      | true =>
        rw [if_pos rfl] at q
        exact (q s₁ ⟨rfl, hb1, fun _ _ e => e⟩).elim
      | false =>
        rw [if_neg Bool.false_ne_true] at q
        obtain ⟨H, I, qf⟩ := q
        simp only [Bool.false_eq_true, if_false]
        exact wpAny_bind (wpAny_rule (wpAny_pure (hf s₁ H _ I qf ⟨rfl, allBare_setGen hb1 hb, fun _ _ e => e⟩)))
    · obtain ⟨H, I, qt⟩ := hp
      exact wpAny_bind (wpAny_rule (wpAny_pure (ht s₁ H _ I qt ⟨rfl, allBare_setGen I.bare rfl, hk⟩)))
  | succ n ih =>
    intro s hg hl ⟨gs, hgs, hgo⟩
    have hgl : g + 1 ≤ s.gens.size := (Array.getElem?_eq_some_iff.mp hgs).1
    refine codeAny_builtin F.entry_all_loop ?_
    rw [Around.under_plainId F.plain_all_loop _]
    show wpAny _ A.in1 (pyNext (.ref a) >>= _) _ _ s
    refine wpAny_bind (wpAny_gsz (n := g + 1) hgl (wpAny_pyNext_genexpQ (A := A.in1) (P := gR Y w Qt) hh hl hd hg hgs hgo (fun v s₁ gs' hb hv => ?_) (fun s₁ hp h' hk => ?_)))
    · intro hsz
      obtain ⟨b, rfl, hg1, hl1, hb1, q⟩ := hv
      refine wpAny_bind (wpAny_holding (wpAny_truthy_bool ?_))
      refine wpAny_bind (wpAny_letGo ?_)
      cases b with
      | true =>
        rw [if_pos rfl] at q
        simp only [if_true]
        have hsz1 : g < s₁.gens.size := by
          rw [setGen_size] at hsz
          exact hsz
        refine wpAny_pure ⟨plainId_quiet F.plain_all_loop _, ih _ hg1 hl1 ⟨gs', setGen_at hsz1, ?_⟩⟩
        exact q _ ⟨rfl, allBare_setGen (allBare_setGen hb1 hb) rfl, fun _ _ e => e⟩
      | false =>
        rw [if_neg Bool.false_ne_true] at q
        obtain ⟨H, I, qf⟩ := q
        simp only [Bool.false_eq_true, if_false]
        exact wpAny_bind (wpAny_rule (wpAny_pure (hf s₁ H _ I qf ⟨rfl, allBare_setGen hb1 hb, fun _ _ e => e⟩)))
    · intro _
      obtain ⟨H, I, qt⟩ := hp
      exact wpAny_bind (wpAny_rule (wpAny_pure (ht s₁ H _ I qt ⟨rfl, allBare_setGen I.bare rfl, hk⟩)))
end Fo
namespace Fo
open PySem PySem.Spec PyProof.Rows L2 GenW
/-- all(test for target in iter): W by the turn and a measure -/
def tAllG (P : Addr) (wi : TI) (gt : TG) (te : TE) (vs : List Nat) : TE := fun σ H Q => wi σ H fun J H1 => GxR.TabG H1 P ∧ ∀ H2, GxR.Tabbed P H1 H2 → ∃ W : Nat → Nat → Hp → Prop, (∃ m, W 0 m H2) ∧ ∀ i m H, W i m H →
  (J.stop i H ∧ Q (.bl true) H) ∨ (J.go i H ∧ ∀ x H', J.yld i H x H' → gt x (wipe σ vs) H' fun σ2 H3 => wipe σ2 vs = wipe σ vs ∧ te σ2 H3 fun y H4 => ∃ b, y = .bl b ∧ if b = true then ∃ m', m' < m ∧ W (i + 1) m' H4 else Q (.bl false) H4)
section
variable {X : Cx}
set_option maxHeartbeats 4000000 in
theorem pe_allG {c P : Addr} {el tg iter : Expr} {sc : Scope} {own : List (Str × Nat)} {p pos gpos : Pos} {wi : TI} {gt : TG} {te : TE} {k : Nat} (hc : X.calm = true) (hN : X.N.Nodup) (hr : Room k X.A) (hg : Gl X "all") (hm : X.mg "all" = none) (hb : bootBuiltins "all" = some (.builtin "all"))
    (TB : LamX.TabB X.base X.mg c P) (hcode : X.env.code = .ref c) (hi : PI X tg iter wi) (ok : BlkOk X.N X.env.scope sc own) (gs : GSc sc)
    (hgt : ∀ (s : Shared) (H : Hp) (C : Addr) (cl : List (Str × Addr)) (cd : Value) (fp : List Addr) (pn : List (Addr × Obj)), PG (gCx X s H (genEnv sc cl C cd builtinsNs X.env) fp pn) tg gt)
    (he : ∀ (s : Shared) (H : Hp) (C : Addr) (cl : List (Str × Addr)) (cd : Value) (fp : List Addr) (pn : List (Addr × Obj)), PE (gCx X s H (genEnv sc cl C cd builtinsNs X.env) fp pn) el te)
    (hs : ∀ v, genFold iter X.env v = pure v := by intro _; rfl)
    (hst : starEach [.GeneratorExp el [⟨tg, iter, [], 0⟩] sc gpos] X.env = (false, eval (.GeneratorExp el [⟨tg, iter, [], 0⟩] sc gpos) X.env) :: starEach [] X.env := by rfl) :
    PE X (.Call (.Name "all" p) [.GeneratorExp el [⟨tg, iter, [], 0⟩] sc gpos] [] pos) (tAllG P wi gt te (own.map (·.2))) := by
  refine ⟨fun pins s σ H Q I hq => ?_⟩
  have fr : ∀ y ∈ sc.names, y.2 = .free → ∃ c, X.env.cells.lookup y.1 = some c := fun y hy e => by
    rcases ok.free y hy e with k | k
    · exact I.ok.has _ (.inl k)
    · exact I.ok.has _ (.inr k)
  refine wpAny_Call_Name_kw (ld_blt I hg hm hb ?_)
  refine PyProof.Rows.callWith_builtin1 ?_ hst (by rfl)
  rw [hst]
  show wpAny _ _ (spliced ((false, eval (.GeneratorExp el [⟨tg, iter, [], 0⟩] sc gpos) X.env) :: backTo pos (starEach [] X.env))) _ _ s
  refine Calls.spliced_cons ?_
  refine wpAny_GeneratorExp_make gs.co (closure_ok fr) gs.cell gs.dot ok.kind (by have := hr.dp; omega) ?_ hs
  refine thn (hi.run pins s σ H _ I hq) fun xv s1 hx => thn hx fun itv s2 h2 => ?_
  obtain ⟨it, fp, tn, J, H1, rfl, I2, T, st2, f2, ⟨ps, hP, htp⟩, q⟩ := h2
  refine ⟨I2.nolimit, ?_⟩
  have hPs : s2.heap.get? P = some { cls := .none, data := .fields ps } := I2.hok P _ hP
  have cd : PySem.W.CodeHd s2.heap c P := TB.code.keeps fun b u e => I2.bk b u e
  have szf : ∀ b ∈ fp, b < s2.heap.objs.size := fun b hb => by
    obtain ⟨o, e, _⟩ := T.obj _ _ st2 b hb
    exact Heap.lt_size e
  have nP : ∀ b ∈ fp, b ≠ P := fun b hb z => by
    have z2 := (f2 b hb).1
    rw [z, hP] at z2
    cases z2
  have cont : ∀ (code : Value) (h3 : Heap) (tk : Nat) (more : Array Value), (∀ b o, b ≠ P → s2.heap.get? b = some o → h3.get? b = some o) → s2.heap.objs.size ≤ h3.objs.size → h3.get? P = some { cls := .none, data := .fields (ps ++ more) } → TriplesOk (ps ++ more).toList →
      wpAny (model X.prog X.w) X.A (builtinsFor X.env.globals X.env.builtins) (fun bi s₄ =>
        ∀ h', h'.Ns s₄.heap.objs.size (fun y => if y = ".0" then some (Value.ref it) else none) → Heap.SameBut s₄.heap.objs.size (s₄.heap.push { cls := .type "frame", data := .dict #[] }) h' →
          wpAny (model X.prog X.w) X.A (spliced (backTo pos (starEach [] X.env))) (fun us s5 => wpAny (model X.prog X.w) X.A (call (.builtin "all") (Value.ref h'.objs.size :: us)) (EP X pins σ Q) X.xe s5) X.xe { s₄ with
            gens := s₄.gens.push (.fresh (.compStart (.GeneratorExp el [⟨tg, iter, [], 0⟩] sc gpos) 0 (.ref it) .none (genEnv sc (cloFrom X.env.cells sc.names []) s₄.heap.objs.size code bi X.env))),
            toks := s₄.toks + 1 + 1 + 1,
            heap := h'.push { cls := .type "generator", data := .fields #[.int s₄.gens.size 0, .str "<genexpr>" (s₄.toks + 1), .str (X.env.qual ++ "<genexpr>") (s₄.toks + 1 + 1)] } }) X.xe { s2 with heap := h3, toks := tk } := by
    intro code h3 tk more kp3 sz3 hP3 ht3
    obtain ⟨bm, ob, e1, e2, e3, e4, e5, e6, e7, e8⟩ := TB.bm
    have I3 : Inv X pins σ (upd H1 P (.tbl (ps ++ more))) { s2 with heap := h3, toks := tk } := GxR.inv_tab (h' := h3) (g' := s2.gens) (d' := s2.drawn) (t' := tk) I2 hP kp3 hP3 I2.bare
    have nsg : h3.Ns X.env.globals X.mg := by
      rw [I2.ok.glob]
      obtain ⟨og, es, ep, eg, r⟩ := I2.mod.glob.keeps I2.bk
      exact ⟨og, es, ep, kp3 _ og TB.gP eg, r⟩
    refine wpAny_builtinsFor (m := X.mg) nsg e1 e2 (kp3 _ _ e4 (I2.bk _ _ e5)) e6 e7 e8 ?_
    intro h' hn' hs'
    refine Calls.spliced_nil ?_
    have sz' : h'.objs.size = h3.objs.size + 1 := by rw [hs'.1, Heap.size_push]
    have kp' : ∀ b o, h3.get? b = some o → h'.get? b = some o := fun b o e => hs'.extBut b o (Nat.ne_of_lt (Heap.lt_size e)) (Heap.get?_push_of_some _ e)
    generalize hgo : ({ cls := .type "generator", data := .fields #[.int s2.gens.size 0, .str "<genexpr>" (tk + 1), .str (X.env.qual ++ "<genexpr>") (tk + 1 + 1)] } : Obj) = go
    have hget : (h'.push go).get? h'.objs.size = some go := by
      rw [← hgo]
      exact Heap.get?_push_size _ rfl
    have hgen : ∀ h : Heap, h.get? h'.objs.size = some go → h.IsGen h'.objs.size s2.gens.size := fun h e => by
      rw [← hgo] at e
      exact ⟨_, _, _, e, rfl, rfl, rfl⟩
    have hgd : ∀ v, go.data ≠ .cell v := fun v z => by
      rw [← hgo] at z
      cases z
    have tb : GxR.Tabbed P H1 (upd H1 P (.tbl (ps ++ more))) := ⟨⟨ps ++ more, upd_same, ht3⟩, fun b hb => upd_ne hb⟩
    obtain ⟨W, ⟨m0, w0⟩, turn⟩ := q _ tb
    have f3 : ∀ b ∈ fp, FpOk X pins (upd H1 P (.tbl (ps ++ more))) b ∧ b < h3.objs.size := fun b hb => by
      refine ⟨⟨?_, (f2 b hb).2⟩, Nat.lt_of_lt_of_le (szf b hb) sz3⟩
      rw [upd_ne (nP b hb)]
      exact (f2 b hb).1
    have kp5 : ∀ b o, h3.get? b = some o → (h'.push go).get? b = some o := fun b o e => Heap.get?_push_of_some _ (kp' b o e)
    have st5 : tn 0 (h'.push go) := T.keep _ _ _ st2 fun b hb o e => kp5 b o (kp3 b o (nP b hb) e)
    generalize hce : genEnv sc (cloFrom X.env.cells sc.names []) h3.objs.size code builtinsNs X.env = ce
    have hgl : s2.gens.size < (s2.gens.push (.fresh (.compStart (.GeneratorExp el [⟨tg, iter, [], 0⟩] sc gpos) 0 (.ref it) .none ce))).size := by
      rw [Array.size_push]
      exact Nat.lt_succ_self _
    have bare5 : AllBare (s2.gens.push (.fresh (.compStart (.GeneratorExp el [⟨tg, iter, [], 0⟩] sc gpos) 0 (.ref it) .none ce))) := I2.bare.push rfl
    have I6 := gen_start (h2 := h'.push go) (g2 := (({ s2 with heap := h'.push go, gens := s2.gens.push (.fresh (.compStart (.GeneratorExp el [⟨tg, iter, [], 0⟩] sc gpos) 0 (.ref it) .none ce)) } : Shared).setGen s2.gens.size .running).gens) (t2 := tk + 1 + 1 + 1) (code := code) (go := go) I3 ok gs hN hc f3 (hn'.push go) kp5 (by show h3.objs.size < h'.objs.size; omega) hget hgd (allBare_setGen bare5 rfl)
    have pg := hgt { s2 with heap := h3, toks := tk } (upd H1 P (.tbl (ps ++ more))) h3.objs.size (cloFrom X.env.cells sc.names []) code fp [(h'.objs.size, go)]
    have pe := he { s2 with heap := h3, toks := tk } (upd H1 P (.tbl (ps ++ more))) h3.objs.size (cloFrom X.env.cells sc.names []) code fp [(h'.objs.size, go)]
    have hsc : ce.scope = sc := by rw [← hce]; rfl
    change Inv (gCx X { s2 with heap := h3, toks := tk } (upd H1 P (.tbl (ps ++ more))) (genEnv sc (cloFrom X.env.cells sc.names []) h3.objs.size code builtinsNs X.env) fp [(h'.objs.size, go)]) [] _ _ _ at I6
    rw [hce] at I6 pg pe
    refine call_function_tree F.kind_all F.plain_all F.entry_all (F.args_all1 _) ?_
    unfold Builtin.«all»
    refine wpAny_bind (m := oneArg "all" _) (wpAny_pure ?_)
    refine wpAny_bind (wpAny_pyIter_gen (hgen _ hget) ?_)
    have back : ∀ {s7 s8 : Shared} {H7 : Hp}, Inv (gCx X { s2 with heap := h3, toks := tk } (upd H1 P (.tbl (ps ++ more))) ce fp [(h'.objs.size, go)]) [] (wipe σ (own.map (·.2))) H7 s7 → Aft s7 s8 → Inv X pins σ H7 s8 := fun {s7 s8 H7} I7 af => by
      obtain ⟨o1, o2, o3⟩ := af
      exact I3.call' (ch := fp) (o1.trans I7.os) (I7.base.trans (Un.kept o3)) (I7.hok.kept o3) o2 fun b hb => ⟨(f3 b hb).1.2.2.2.1, (f3 b hb).1.2.1, (f3 b hb).1.2.2.2.2.1, (f3 b hb).1.2.2.2.2.2⟩
    refine wpAny_pure ⟨plainId_quiet F.plain_all_loop _, all_loop (Y := gCx X { s2 with heap := h3, toks := tk } (upd H1 P (.tbl (ps ++ more))) ce fp [(h'.objs.size, go)]) (A := X.A) (a := h'.objs.size) (g := s2.gens.size) (w := wipe σ (own.map (·.2))) (Qt := fun H => Q (.bl true) H) (Qf := fun H => Q (.bl false) H) hr.hd (by have := hr.dp; omega) (fun s7 H7 s8 I7 q7 af => ?_) (fun s7 H7 s8 I7 q7 af => ?_) (m0 + 1) _ (hgen _ hget) (I3.nolimit.keeps kp5) ⟨_, Array.getElem?_push_size .., rfl, ?_⟩⟩
    · exact ⟨.bl true, H7, back I7 af, rfl, q7⟩
    · exact ⟨.bl false, H7, back I7 af, rfl, q7⟩
    · refine gen_begin ?_ (fun B Q' E' h => T.self B 0 _ Q' E' st5 h)
      have lp := gen_loop (A := X.A.in1.in1) (Y := gCx X { s2 with heap := h3, toks := tk } (upd H1 P (.tbl (ps ++ more))) ce fp [(h'.objs.size, go)]) (iter := iter) (sc := sc) (pos := gpos) (σ0 := σ) (vs := own.map (·.2)) (Qt := fun H => Q (.bl true) H) (Qf := fun H => Q (.bl false) H) (g := s2.gens.size) rfl hc rfl rfl rfl hgen (fun z => by
        have h9 : (h'.objs.size : Nat) < h3.objs.size := (f3 _ z).2
        omega) (by show ce.scope.isCoroutine = false; rw [hsc]; exact gs.co) T pg pe turn (m0 + 1) 0 m0 (upd H1 P (.tbl (ps ++ more)))
      exact lp _ _ (Nat.lt_succ_self _) w0 I6 st5 fun b hb => (f3 b hb).1.1
  cases hf : codeAmong gpos ps.toList with
  | none =>
    refine wpAny_genexprCodeX hcode (cd.code hPs htp) (cd.tab hPs) hf fun c' h' tk hx hge hlt hco' _ htab' _ => ?_
    obtain ⟨o1, vs, f1, tf, fl, tg', inF, tx, tt, op, _, _, _, _, _, _, _, _, _, htr, _⟩ := hco'
    exact cont _ h' tk _ hx (Nat.le_trans hge (Nat.le_of_lt hlt)) htab'.2 htr
  | some cv =>
    refine wpAny_genexprCode_hit hcode (cd.code hPs htp) hf ?_
    have e : ps ++ #[] = ps := by simp
    exact cont cv s2.heap s2.toks #[] (fun b o _ e => e) (Nat.le_refl _) (by rw [e]; exact hPs) (by rw [e]; exact htp)
end
end Fo
namespace Fo
open PySem PySem.Spec PyProof.Rows L2
/-! what stays where tables of code objects may grow -/
def KeepT (H H' : Hp) : Prop := (∀ b o, H b = some o → (∀ q, o ≠ .tbl q) → H' b = some o) ∧ ∀ b q, H b = some (.tbl q) → ∃ q', H' b = some (.tbl q') ∧ (TriplesOk q.toList → TriplesOk q'.toList)
theorem KeepT.refl (H : Hp) : KeepT H H := ⟨fun _ _ e _ => e, fun _ q e => ⟨q, e, id⟩⟩
theorem KeepT.of_same {H H' : Hp} (h : Same H H') : KeepT H H' := ⟨fun b o e _ => h b o e, fun b q e => ⟨q, h b _ e, id⟩⟩
theorem KeepT.trans {H H1 H2 : Hp} (a : KeepT H H1) (b : KeepT H1 H2) : KeepT H H2 := by
  refine ⟨fun c o e f => b.1 c o (a.1 c o e f) f, fun c q e => ?_⟩
  obtain ⟨q1, e1, t1⟩ := a.2 c q e
  obtain ⟨q2, e2, t2⟩ := b.2 c q1 e1
  exact ⟨q2, e2, fun z => t2 (t1 z)⟩
theorem KeepT.free {H H' : Hp} (a : KeepT H H') {p : Addr} (np : H' p = none) : H p = none := by
  cases e : H p with
  | none => rfl
  | some o =>
    cases o with
    | tbl q =>
      obtain ⟨q', e', _⟩ := a.2 p q e
      rw [np] at e'
      cases e'
    | _ =>
      have z := a.1 p _ e (fun q z => by cases z)
      rw [np] at z
      cases z
theorem KeepT.lst {H H' : Hp} (a : KeepT H H') {p : Addr} {xs : List V} (e : H p = some (.lst xs)) : H' p = some (.lst xs) := a.1 p _ e (fun q z => by cases z)
theorem KeepT.seq {K : PySem.W.Frag} {H H' : Hp} (a : KeepT H H') {p : Addr} {xs : List V} (e : SqL K H p xs) : SqL K H' p xs := by
  rcases e with (e | ⟨o, e⟩) | e
  · exact .inl (.inl (a.1 p _ e (fun q z => by cases z)))
  · exact .inl (.inr ⟨o, a.1 p _ e (fun q z => by cases z)⟩)
  · exact .inr e
theorem KeepT.tab {H H' : Hp} (a : KeepT H H') {P : Addr} (t : GxR.TabG H P) : GxR.TabG H' P := by
  obtain ⟨q, e, z⟩ := t
  obtain ⟨q', e', t'⟩ := a.2 P q e
  exact ⟨q', e', t' z⟩
theorem KeepT.of_tabbed {P : Addr} {H H' : Hp} (t : GxR.TabG H P) (h : GxR.Tabbed P H H') : KeepT H H' := by
  obtain ⟨q0, e0, z0⟩ := t
  obtain ⟨⟨q1, e1, z1⟩, k⟩ := h
  refine ⟨fun b o e f => ?_, fun b q e => ?_⟩
  · rw [k b (fun z => by rw [z, e0] at e; exact f q0 (Option.some.inj e).symm)]
    exact e
  · by_cases hb : b = P
    · rw [hb] at e ⊢
      exact ⟨q1, e1, fun _ => z1⟩
    · exact ⟨q, by rw [k b hb]; exact e, id⟩
/-- the same but for the object at d -/
def KeepTD (d : Addr) (H H' : Hp) : Prop := (∀ b o, H b = some o → b ≠ d → (∀ q, o ≠ .tbl q) → H' b = some o) ∧ ∀ b q, H b = some (.tbl q) → b ≠ d → ∃ q', H' b = some (.tbl q') ∧ (TriplesOk q.toList → TriplesOk q'.toList)
theorem LL.keepT {H H' : Hp} {as : List Addr} {rs : List (List Int)} (h : LL H as rs) (s : KeepT H H') : LL H' as rs := by
  induction as generalizing rs with
  | nil => cases rs with
    | nil => trivial
    | cons _ _ => exact h.elim
  | cons a as ih => cases rs with
    | nil => exact h.elim
    | cons r rs => exact ⟨s.lst h.1, ih h.2⟩
/-- a def with the code object that it runs by -/
structure DfC (K : PySem.W.Frag) (mg : Str → Option Value) (x : Str) (st : Stmt) (ps : List Str) (f : Addr) (fd : FuncData) (c : Addr) : Prop where
  F : Fun K x x st f fd
  b : Binds K fd ps []
  g : mg x = some (.ref f)
  c : fd.code = .ref c
theorem fun_okC {P : Program} {w : World} {K : PySem.W.Frag} {mg : Str → Option Value} {base : Heap} {x qual : Str} {st : Stmt} {f c : Addr} {fd : FuncData} {N ps : List Str} {k : Nat} {sp : Sp} (F : Fun K x qual st f fd) (hc : fd.code = .ref c) (S : FnScope N ps (defScope st))
    (len : ∀ vs H Q E, sp vs H Q E → vs.length = ps.length)
    (body : ∀ (A : Around) (outer : List Env) (s : Shared) (H : Hp) (vs : List V) (Q : VK) (E : XK), Room k (A.deeper (envOfC qual (defScope st) s.heap.objs.size f (.ref c))) → sp vs H Q E →
      ∃ t, PSs (cxOf CX0 P w K mg base N qual (defScope st) f (.ref c) A outer s H E).nox (defBody st) t ∧ t { nx := fun _ H' => Q .non H', rt := Q } (start N vs) H) : FnOk P w K mg base CX0 (k + 1) f fd ps sp := by
  obtain ⟨oc, od, kV, doc, pm, an, cdv, ct, osl, rfl, lk, hcd⟩ := F.ex
  obtain rfl : cdv = .ref c := hc
  refine fn_of lk hcd S len fun A outer s H vs Q E hr hsp => ?_
  obtain ⟨t, h1, h2⟩ := body A outer s H vs Q E hr hsp
  exact ⟨t, h1.nox, h2⟩
/-- over a list that stands still -/
theorem all_list {K : PySem.W.Frag} {a : Addr} {xs : List V} {gt : TG} {te : TE} {vs : List Nat} {σ : L2.St} {H : Hp} {Q : VK} (Pv : Nat → Hp → Prop) (h0 : Pv 0 H) (hl : ∀ i H, i ≤ xs.length → Pv i H → SqL K H a xs)
    (hs : ∀ i x H, xs[i]? = some x → Pv i H → gt x (wipe σ vs) H fun σ2 H3 => wipe σ2 vs = wipe σ vs ∧ te σ2 H3 fun y H4 => ∃ b, y = .bl b ∧ if b = true then Pv (i + 1) H4 else Q (.bl false) H4) (hd : ∀ H, Pv xs.length H → Q (.bl true) H)
    (mono : ∀ (x : V) (H : Hp) (p q : V → Hp → Prop), (∀ y H, p y H → q y H) → (gt x (wipe σ vs) H fun σ2 H3 => wipe σ2 vs = wipe σ vs ∧ te σ2 H3 p) → (gt x (wipe σ vs) H fun σ2 H3 => wipe σ2 vs = wipe σ vs ∧ te σ2 H3 q)) :
    ∃ W : Nat → Nat → Hp → Prop, (∃ m, W 0 m H) ∧ ∀ i m H, W i m H →
      ((Itl K a).stop i H ∧ Q (.bl true) H) ∨ ((Itl K a).go i H ∧ ∀ x H', (Itl K a).yld i H x H' → gt x (wipe σ vs) H' fun σ2 H3 => wipe σ2 vs = wipe σ vs ∧ te σ2 H3 fun y H4 => ∃ b, y = .bl b ∧ if b = true then ∃ m', m' < m ∧ W (i + 1) m' H4 else Q (.bl false) H4) := by
  refine ⟨fun j m H => m = xs.length - j ∧ j ≤ xs.length ∧ Pv j H, ⟨xs.length, by simp, Nat.zero_le _, h0⟩, ?_⟩
  rintro j m H ⟨rfl, hi, p⟩
  have q := hl j H hi p
  by_cases hlt : j < xs.length
  · refine .inr ⟨⟨xs, xs[j], q, by simp [hlt]⟩, fun x H' y => ?_⟩
    obtain ⟨e, y⟩ := y
    subst e
    refine mono x _ _ _ (fun z H4 hz => ?_) (hs j x _ (y _ q) p)
    obtain ⟨b, eb, r⟩ := hz
    refine ⟨b, eb, ?_⟩
    cases b with
    | true => exact ⟨xs.length - (j + 1), by omega, rfl, hlt, r⟩
    | false => exact r
  · have e : j = xs.length := by omega
    subst e
    exact .inl ⟨⟨xs, q, Nat.le_refl _⟩, hd H p⟩
end Fo
namespace Fo
open PySem PySem.Spec PyProof.Rows L2
def farAll (w : Str) (d : Int) (xs : List Int) (rs : List (List Int)) : Bool := rs.all fun o => decide (d ≤ farW w xs o)
theorem farAll_nil {w : Str} {d : Int} {xs : List Int} : farAll w d xs [] = true := rfl
theorem farAll_more {w : Str} {d : Int} {xs : List Int} {rs : List (List Int)} {i : Nat} {r : List Int} (h : rs[i]? = some r) : farAll w d xs (rs.take (i + 1)) = (farAll w d xs (rs.take i) && decide (d ≤ farW w xs r)) := by
  unfold farAll
  rw [List.take_add_one, h, List.all_append]
  show (_ && (decide (d ≤ farW w xs r) && true)) = _
  rw [Bool.and_true]
theorem farAll_false {w : Str} {d : Int} {xs : List Int} {rs : List (List Int)} {i : Nat} {r : List Int} (h : rs[i]? = some r) (hf : decide (d ≤ farW w xs r) = false) : farAll w d xs rs = false := by
  unfold farAll
  rw [List.all_eq_false]
  exact ⟨r, List.mem_of_getElem? h, by rw [hf]; decide⟩
/-- a list of orders, told whether all of them are so far -/
def spIsFar (Pt : Addr) : Sp := fun vs H Q _ => ∃ (w : Str) (d : Int) (a l : Addr) (n : Nat) (xs : List Int) (bs : List Addr) (rs : List (List Int)), vs = [.str w, .int d, .ref a, .ref l] ∧ IsWay w ∧ H a = some (.lst (xs.map V.int)) ∧ IsOrd n xs ∧ 1 ≤ n ∧ n ≤ 12 ∧
  H l = some (.lst (bs.map V.ref)) ∧ LL H bs rs ∧ (∀ r ∈ rs, IsOrd n r) ∧ GxR.TabG H Pt ∧ ∀ H', KeepT H H' → Q (.bl (farAll w d xs rs)) H'
section
variable {P : Program} {w : World} {K : PySem.W.Frag} {mg : Str → Option Value} {base : Heap}
theorem scIsFar : FnScope ["way", "d", "order", "others", "other"] ["way", "d", "order", "others"] (defScope s_is_far) := ⟨rfl, rfl, rfl, by decide +kernel, rfl, by decide +kernel, by decide +kernel⟩
set_option maxHeartbeats 2000000 in
theorem ok_isFar {f f1 c Pt : Addr} {fd d1 : FuncData} {k : Nat} (T : DfC K mg "is_far" s_is_far ["way", "d", "order", "others"] f fd c) (TB : LamX.TabB base mg c Pt) (T_known_far : Df K mg "known_far" s_known_far ["way", "one", "other"] f1 d1) (G_known_far : FnOk P w K mg base CX0 k f1 d1 ["way", "one", "other"] spFar) (B : Bi mg) :
    FnOk P w K mg base CX0 (k + 2) f fd ["way", "d", "order", "others"] (spIsFar Pt) := by
  refine fun_okC T.F T.c scIsFar (fun vs H Q E h => ?_) (fun A outer s H vs Q E hr h => ?_)
  · obtain ⟨z, d, a, l, n, xs, bs, rs, rfl, _⟩ := h
    rfl
  · obtain ⟨z, d, a, l, n, xs, bs, rs, rfl, hz, ha, ox, hn1, hn2, hl, hL, ho, ht, q⟩ := h
    refine ⟨_, 
      (pss_one (ps_ret (pe_allG (own := [("other", 4)]) (gt := (gName 4)) (te := (tOp (rI0 fun i j => .bl (decide (j ≤ i))) (tCall spFar [] E0 (tCons (tVar 0) (tCons (tVar 2) (tCons (tVar 4) tNil)))) (tVar 1))) rfl scIsFar.nd hr (by rfl) B.all (by decide +kernel) TB rfl (pi_list (pv 3)) (blkOk_by (N := ["way", "d", "order", "others", "other"]) (sc := defScope s_is_far) (by decide +kernel)) (gsc_by (by decide +kernel)) (fun _ _ _ _ _ _ _ => (pg_name (i := 4) scIsFar.nd rfl (.inl rfl))) (fun _ _ _ _ _ _ _ => (pe_cmpR op_ge (pe_call G_known_far (room_gen hr) (by rfl) T_known_far.g T_known_far.F.kp T_known_far.b .nil pass0 (pa_cons (pv 0) (pa_cons (pv 2) (pa_cons (pv 4) pa_nil)))) (pv 1) (nomark _)))))), ?_⟩
    refine ⟨_, rfl, l, rfl, ⟨_, SqL.of hl⟩, ht, fun H2 tb => ?_⟩
    have k2 := KeepT.of_tabbed ht tb
    refine all_list (K := K) (a := l) (xs := bs.map V.ref) (fun i H3 => KeepT H H3 ∧ farAll z d xs (rs.take i) = true) ⟨k2, rfl⟩ (fun i H3 _ hP => SqL.of (hP.1.lst hl)) (fun i x H3 hx hP => ?_) (fun H3 hP => ?_) (fun x H3 p p' hpq h => ?_)
    · obtain ⟨k3, hall⟩ := hP
      obtain ⟨r, er, rfl⟩ := ref_at_inv hx
      obtain ⟨row, erow, hrow⟩ := hL.get er
      refine ⟨rfl, _, rfl, _, rfl, _, rfl, z, a, r, n, xs, row, rfl, hz, k3.lst ha, k3.lst hrow, ox, ho _ (List.mem_of_getElem? erow), hn1, hn2, fun H4 s4 => ?_⟩
      have k4 := k3.trans (KeepT.of_same s4)
      refine ⟨_, rfl, _, _, rfl, rfl, _, rfl, ?_⟩
      cases hb : decide (d ≤ farW z xs row) with
      | true => exact ⟨k4, by rw [farAll_more erow, hall, hb]; rfl⟩
      | false =>
        have z2 := q H4 k4
        rw [farAll_false erow hb] at z2
        exact z2
    · obtain ⟨k3, hall⟩ := hP
      rw [List.length_map, hL.len, List.take_length] at hall
      have z2 := q H3 k3
      rw [hall] at z2
      exact z2
    · obtain ⟨e1, i1, e2, i3, e3, i4, e4, zz, a', b', n', xs', ys', e5, r1, r2, r3, r4, r5, r6, r7, r8⟩ := h
      exact ⟨e1, i1, e2, i3, e3, i4, e4, zz, a', b', n', xs', ys', e5, r1, r2, r3, r4, r5, r6, r7, fun H4 s4 => by
        obtain ⟨j, ej, u1, u2, e6, e7, e8⟩ := r8 H4 s4
        exact ⟨j, ej, u1, u2, e6, e7, hpq _ _ e8⟩⟩
end
end Fo
namespace Fo
open PySem PySem.Spec PyProof.Rows L2
/-! the end of a law that reaches tables of code objects -/
theorem tab_code {K : PySem.W.Frag} {x : Str} {c P f : Addr} {oc : Value} {od : Option Addr} {fd : FuncData} {osl : Array (Option Value)} (t : PySem.W.tabIn K x = some (c, P)) (a : PySem.W.nsIn K mainGlobals x = some (some (.ref f))) (l : K.lookup f = some ⟨oc, od, .func fd, osl⟩) : fd.code = .ref c := by
  unfold PySem.W.tabIn at t
  rw [a] at t
  simp only [l] at t
  split at t
  · rename_i c' e
    rw [e]
    split at t
    · split at t
      · cases t
        rfl
      · cases t
    · cases t
  · cases t
theorem tab_mk {K : PySem.W.Frag} {x : Str} {c P f : Addr} {oc o2 cd : Value} {od d2 : Option Addr} {osl s2 : Array (Option Value)} {nm ql : Str} {ar : Arguments} {bd : List Stmt} {sc : Scope} {dV kV dc pm ct : Value} {an : Option Addr} {vs : Array Value}
    (a : PySem.W.nsIn K mainGlobals x = some (some (.ref f))) (l : K.lookup f = some ⟨oc, od, .func (PySem.W.fnOf nm ql ar bd sc dV kV dc pm an cd ct), osl⟩) (e : cd = .ref c) (u : K.lookup c = some ⟨o2, d2, .fields vs, s2⟩) (v : vs[11]? = some (.ref P)) : PySem.W.tabIn K x = some (c, P) := by
  subst e
  have hc : (PySem.W.fnOf nm ql ar bd sc dV kV dc pm an (.ref c) ct).code = .ref c := rfl
  unfold PySem.W.tabIn
  rw [a]
  simp only [l, hc, u, v]
def TabsOf (q : Program) (K : PySem.W.Frag) (h : Heap) : Prop := ∀ (y : Str) (c P : Addr), ((recsOf q).any fun e => e.name == y) = true → PySem.W.tabIn K y = some (c, P) → PySem.W.CodeHd h c P ∧ h.get? P = some { cls := .none, data := .fields #[] }
theorem walk_tab {l : PySem.W.OpenLaw} {n k : Nat} {q : Program} {loose : List Str} {XP : (Str → Option Value) → Heap → Prop} {YP : World → Heap → Prop} {d : DefRec} {K : Params → PySem.W.Frag} {CX : World → CXT} {x : Str}
    (hn : l.most = some n) (hn2 : n ≤ sizeLine) (hdf : d.params.defaults = []) (hr : Room k callerA) (hY : ∀ (w : World) (h : Heap), YP w h → (K w.params).In h)
    (F : ∀ (w : World) (mg : Str → Option Value) (fa : Addr) (h : Heap), (K w.params).In h → h.Ns mainGlobals mg → mg d.name = some (.ref fa) → TabsOf q (K w.params) h → LamX.LawAtS l w (K w.params) (CX w) k n x mg fa h)
    (hX : ∀ (w : World) (H : Hp) (s : Shared) (e : Value) (s' : Shared), CX w [] H s (fun _ _ _ => False) e s' → False) :
    PySem.W.WalkO q loose XP YP l.row.toRowW d [] (fun f vs => PySem.call f vs) := by
  refine Att.attach_callB hn hdf fun w sA sB mg mb fa o1 pm cd dc ad us ns G Y ho hd hcd hmg hob hin hle hbi hge => ?_
  have KX := hY w _ Y
  have tabs : TabsOf q (K w.params) sB.heap := fun y c P hy ht => by
    obtain ⟨e, he⟩ := Option.isSome_iff_exists.mp ((List.find?_isSome (p := fun e : DefRec => e.name == y) (xs := recsOf q)).mpr (by
      obtain ⟨z, z1, z2⟩ := List.any_eq_true.mp hy
      exact ⟨z, z1, z2⟩))
    exact PySem.W.tab_of G.T KX he ht
  obtain ⟨fd, cs, sp, hT, nT, C, hb, hsp, hF⟩ := F w mg fa _ KX G.T.g hmg tabs
  exact LamX.law_callTs KX G.T.g G.T.b G.T.builtins G.T.nolimit hge hT nT C G.T.bmain hob hin (Nat.le_trans hle hn2) hr hF hb (fun H hH hS => hsp H ad ns hle hbi hH hS) fun H e s' => hX w H sB e s'
end Fo
namespace Fo
open PySem PySem.Spec PyProof.Rows L2
/-! the end of a law that asks repr and reaches tables of code objects -/
/-- what is tracked when the law begins: its script, and the tables -/
structure Beg (h : Heap) (H : Hp) (K : PySem.W.Frag) (cs : List (Addr × Addr)) (a : Addr) (us : List Value) : Prop where
  tr : ∀ b u, H b = some u → b = a ∨ ∃ p ∈ cs, b = p.2
  ta : h.get? a = some { cls := .type "list", data := .seq us.toArray }
  tt : ∀ p ∈ cs, h.get? p.2 = some { cls := .none, data := .fields #[] }
  kt : ∀ p ∈ cs, K.lookup p.2 = none
  ka : H a ≠ none → K.lookup a = none
section
variable {h : Heap} {H : Hp} {K : PySem.W.Frag} {cs : List (Addr × Addr)} {a : Addr} {us : List Value}
theorem Beg.none {b : Addr} {o : Obj} (B : Beg h H K cs a us) (e : h.get? b = some o) (n1 : ∀ vs n, o.data ≠ .seq vs n) (n2 : o.data ≠ .fields #[]) : H b = none := by
  cases q : H b with
  | none => rfl
  | some u =>
    exfalso
    rcases B.tr b u q with rfl | ⟨p, hp, rfl⟩
    · rw [B.ta] at e
      cases e
      exact n1 _ _ rfl
    · rw [B.tt p hp] at e
      cases e
      exact n2 rfl
theorem Beg.at (B : Beg h H K cs a us) {b : Addr} {o : Obj} (e : h.get? b = some o) (n1 : ∀ vs n, o.data ≠ .seq vs n) (n2 : o.data ≠ .fields #[]) : (hidT h H).get? b = some o := hidT_get e (B.none e n1 n2)
theorem Beg.names (B : Beg h H K cs a us) {b : Addr} {m : Str → Option Value} (n : h.Ns b m) : (hidT h H).Ns b m := by
  obtain ⟨o, es, ep, e, dd, r⟩ := n
  exact ⟨o, es, ep, B.at e (fun _ _ z => by rw [dd] at z; cases z) (fun z => by rw [dd] at z; cases z), dd, r⟩
theorem Beg.kin (B : Beg h H K cs a us) (k : K.In h) : K.In (hidT h H) := fun b o e => hidT_get (k b o e) (by
  cases q : H b with
  | none => rfl
  | some u =>
    exfalso
    rcases B.tr b u q with rfl | ⟨p, hp, rfl⟩
    · rw [B.ka (by rw [q]; exact fun z => nomatch z)] at e
      cases e
    · rw [B.kt p hp] at e
      cases e)
theorem Beg.table (B : Beg h H K cs a us) {mg : Str → Option Value} (g : h.Ns mainGlobals mg) {p : Addr × Addr} (hp : p ∈ cs) (C : PySem.W.CodeHd h p.1 p.2)
    (bi : ∃ (bm : Addr) (ob : Obj), mg "__builtins__" = some (.ref bm) ∧ bm ≠ builtinsNs ∧ h.get? bm = some ob ∧ ob.cls = .type "module" ∧ ob.dict = some builtinsNs ∧ ob.data = .plain) : LamX.TabB (hidT h H) mg p.1 p.2 := by
  have at2 := B.tt p hp
  constructor
  · obtain ⟨o, ws, x1, x2, x3, x4, x5, x6, x7, c0, c1, c2, c3, c⟩ := C
    exact ⟨o, ws, x1, x2, x3, x4, x5, x6, x7, B.at c0 (fun _ _ z => by rw [c2] at z; cases z) (fun z => by rw [c2] at z; cases z; simp at c3), c1, c2, c3, c⟩
  · obtain ⟨bm, ob, y1, y2, y3, y4, y5, y6⟩ := bi
    refine ⟨bm, ob, y1, y2, ?_, ?_, B.at y3 (fun _ _ z => by rw [y6] at z; cases z) (fun z => by rw [y6] at z; cases z), y4, y5, y6⟩
    · rintro rfl
      obtain ⟨o, es, ep, e, dd, _⟩ := g
      rw [y3] at e
      cases e
      rw [y6] at dd
      cases dd
    · rintro rfl
      rw [y3] at at2
      cases at2
      cases y6
  · intro z
    obtain ⟨o, es, ep, e, dd, _⟩ := g
    rw [z] at e
    rw [at2] at e
    cases e
    cases dd
end
/-- what a law that asks repr and reaches tables promises -/
def LawGS (l : PySem.W.OpenLaw) (w : World) (K : PySem.W.Frag) (k n : Nat) (y : Str) (mg : Str → Option Value) (fa : Addr) (h : Heap) : Prop :=
  ∃ (fd : FuncData) (cs : List (Addr × Addr)) (sp : Sp), ((∀ p ∈ cs, h.get? p.2 = some { cls := .none, data := .fields #[] }) ∧ (∀ p ∈ cs, K.lookup p.2 = none) ∧ ∀ p ∈ cs, PySem.W.CodeHd h p.1 p.2) ∧ (∀ (s : Shared) (u : Value), BindsTo s fd ⟨[u], []⟩ [(y, u)]) ∧
    (∀ (H : Hp) (a : Addr) (ns : List Int), ns.length ≤ n → (∀ p ∈ cs, H p.2 = some (.tbl #[])) → SqL K H a (ns.map V.int) → sp [.ref a] H (fun v _ => v = .bl true) fun _ _ _ => False) ∧
    ∀ base : Heap, K.In base → base.Ns mainGlobals mg → SysAt base → (∀ p ∈ cs, LamX.TabB base mg p.1 p.2) → FnG l.prog w K mg base k fa fd [y] sp
section
variable {P : Program} {w : World} {K : PySem.W.Frag} {mg mb : Str → Option Value} {k : Nat} {fa a : Addr} {cs : List (Addr × Addr)} {fd : FuncData} {y : Str} {sp : Sp} {s : Shared} {us : List Value} {ns : List Int}
theorem beg_run {H : Hp} (B : Beg s.heap H K cs a us) (kin : K.In s.heap) (ng : s.heap.Ns mainGlobals mg) (nb : s.heap.Ns builtinsNs mb) (eb : ∀ z : Str, z ≠ "__name__" → mb z = bootBuiltins z) (lim : s.heap.NoLimit) (eg : s.gens = #[]) (C : ∀ p ∈ cs, PySem.W.CodeHd s.heap p.1 p.2)
    (bi : ∃ (bm : Addr) (ob : Obj), mg "__builtins__" = some (.ref bm) ∧ bm ≠ builtinsNs ∧ s.heap.get? bm = some ob ∧ ob.cls = .type "module" ∧ ob.dict = some builtinsNs ∧ ob.data = .plain) (rm : Room k callerA) (sy : ∃ m, s.heap.Ns sysModules m)
    (F : ∀ base : Heap, K.In base → base.Ns mainGlobals mg → SysAt base → (∀ p ∈ cs, LamX.TabB base mg p.1 p.2) → FnG P w K mg base k fa fd [y] sp) (bn : ∀ (s : Shared) (u : Value), BindsTo s fd ⟨[u], []⟩ [(y, u)])
    (hok : HOk P w H s.heap) (kd : ∀ b u, H b = some u → (∃ o xs, u = .frz o (.lst xs)) ∨ u = .tbl #[] ∧ ∃ p ∈ cs, b = p.2) (tb : ∀ p ∈ cs, H p.2 = some (.tbl #[])) (hs : sp [.ref a] H (fun v _ => v = .bl true) fun _ _ _ => False) :
    codeAny (model P w) callerA (.call (.ref fa) ⟨[.ref a], []⟩) (fun r s' => r = .ok (.ret (.bool true)) ∧ OldK s.heap s'.heap ∧ s'.os = s.os ∧ AllBare s'.gens) s := by
  have sB : SysAt (hidT s.heap H) := by
    obtain ⟨m, z⟩ := sy
    obtain ⟨o, _, _, e, _⟩ := B.names z
    exact ⟨o, e⟩
  obtain ⟨mc, lm1, lm2⟩ := lim
  have mo : Mod K mg (hidT s.heap H) := ⟨B.kin kin, B.names ng, ⟨mb, B.names nb, eb⟩, ⟨mc, B.names lm1, lm2⟩⟩
  have ev : Env0 P w K mg (hidT s.heap H) callerA [] s H := ⟨rfl, mo, fun _ _ z => of_hidT z, Nat.le_of_eq (hidT_size _ _), trivial, fun _ z => absurd z List.not_mem_nil, hok, .of_eq eg⟩
  have run := (F _ (B.kin kin) (B.names ng) sB fun p hp => B.table ng hp (C p hp) bi).go callerA [] s H ⟨[.ref a], []⟩ [.ref a] [.ref a] _ _ rfl rm ev (bn s (.ref a)) (.cons rfl .nil) hs
  refine codeAny_mono run fun rs s' z => ?_
  rcases rs with _ | fl
  · exact z.elim
  rcases fl with _ | _ | _ | u
  · exact (show False from z).elim
  · exact (show False from z).elim
  · exact (show False from z).elim
  obtain ⟨v, H', os, ba, un, hok', rv, q⟩ := z
  obtain rfl : v = .bl true := q
  obtain rfl : u = Value.bool true := rv
  have nf : ∀ b : Addr, b ∉ frs ([] : List Env) := fun _ z => absurd z List.not_mem_nil
  have other : ∀ b o, (∀ p ∈ cs, b ≠ p.2) → s.heap.get? b = some o → s'.heap.get? b = some o := fun b o nt e => by
    cases hb : H b with
    | none => exact un.keep b o e hb (fun z => absurd z List.not_mem_nil) (nf b)
    | some u =>
      rcases kd b u hb with ⟨ob, xs, rfl⟩ | ⟨_, p, hp, z⟩
      · have g1 := (hok b _ hb).1
        have g2 := (hok' b _ (un.frzs b ob _ hb)).1
        rw [e] at g1
        cases g1
        exact g2
      · exact absurd z (nt p hp)
  have tabs : ∀ p ∈ cs, ∃ more : Array Value, s'.heap.get? p.2 = some { cls := .none, data := .fields more } := fun p hp => by
    obtain ⟨more, z⟩ := un.tbls p.2 #[] (tb p hp)
    exact ⟨_, hok' p.2 _ z⟩
  have two : ∀ b : Addr, (∀ p ∈ cs, b ≠ p.2) ∨ ∃ p ∈ cs, b = p.2 := fun b => by
    by_cases c : ∃ p ∈ cs, b = p.2
    · exact .inr c
    · exact .inl fun p hp z => c ⟨p, hp, z⟩
  refine ⟨rfl, ⟨fun b o e => ?_, fun b o e => ?_⟩, os, ba⟩
  · rcases two b with nt | ⟨p, hp, rfl⟩
    · exact .inl (other b o nt e)
    · have at2 := B.tt p hp
      obtain ⟨more, hm⟩ := tabs p hp
      have ec := ((C p hp).tab at2).isCodeTable
      rw [at2] at e
      cases e
      exact .inr (.inl ⟨ec, rfl, #[], more, rfl, by rw [Array.empty_append]; exact hm⟩)
  · rcases two b with nt | ⟨p, hp, rfl⟩
    · exact ⟨o, other b o nt e⟩
    · obtain ⟨more, hm⟩ := tabs p hp
      exact ⟨_, hm⟩
theorem lawG_tab (kin : K.In s.heap) (ng : s.heap.Ns mainGlobals mg) (nb : s.heap.Ns builtinsNs mb) (eb : ∀ z : Str, z ≠ "__name__" → mb z = bootBuiltins z) (lim : s.heap.NoLimit) (eg : s.gens = #[]) (T1 : ∀ p ∈ cs, s.heap.get? p.2 = some { cls := .none, data := .fields #[] }) (T2 : ∀ p ∈ cs, K.lookup p.2 = none) (C : ∀ p ∈ cs, PySem.W.CodeHd s.heap p.1 p.2)
    (bi : ∃ (bm : Addr) (ob : Obj), mg "__builtins__" = some (.ref bm) ∧ bm ≠ builtinsNs ∧ s.heap.get? bm = some ob ∧ ob.cls = .type "module" ∧ ob.dict = some builtinsNs ∧ ob.data = .plain) (oa : s.heap.get? a = some { cls := .type "list", data := .seq us.toArray }) (hi : IntsAre us ns) (hl : ns.length ≤ sizeLine) (rm : Room k callerA) (sy : ∃ m, s.heap.Ns sysModules m)
    (F : ∀ base : Heap, K.In base → base.Ns mainGlobals mg → SysAt base → (∀ p ∈ cs, LamX.TabB base mg p.1 p.2) → FnG P w K mg base k fa fd [y] sp) (bn : ∀ (s : Shared) (u : Value), BindsTo s fd ⟨[u], []⟩ [(y, u)])
    (hsp : ∀ H : Hp, (∀ p ∈ cs, H p.2 = some (.tbl #[])) → SqL K H a (ns.map V.int) → sp [.ref a] H (fun v _ => v = .bl true) fun _ _ _ => False) :
    codeAny (model P w) callerA (.call (.ref fa) ⟨[.ref a], []⟩) (fun r s' => r = .ok (.ret (.bool true)) ∧ OldK s.heap s'.heap ∧ s'.os = s.os ∧ AllBare s'.gens) s := by
  classical
  have el := hi.length
  have na : ∀ p ∈ cs, p.2 ≠ a := fun p hp z => by
    have e := T1 p hp
    rw [z, oa] at e
    cases e
  obtain ⟨ob, eo⟩ : ∃ ob : Obj, ob = { cls := .type "list", data := .seq us.toArray } := ⟨_, rfl⟩
  obtain ⟨H, eH⟩ : ∃ H : Hp, H = fun b => if b = a then (if K.lookup a = none then some (.frz ob (.lst (ns.map V.int))) else none) else if ∃ p ∈ cs, b = p.2 then some (.tbl #[]) else none := ⟨_, rfl⟩
  have Ha : H a = if K.lookup a = none then some (.frz ob (.lst (ns.map V.int))) else none := by rw [eH]; exact if_pos rfl
  have Ht : ∀ p ∈ cs, H p.2 = some (.tbl #[]) := fun p hp => by rw [eH]; exact (if_neg (na p hp)).trans (if_pos ⟨p, hp, rfl⟩)
  have Hb : ∀ b u, H b = some u → (b = a ∧ K.lookup a = none ∧ u = .frz ob (.lst (ns.map V.int))) ∨ (u = .tbl #[] ∧ ∃ p ∈ cs, b = p.2) := fun b u e => by
    rw [eH] at e
    by_cases c : b = a
    · have e := (if_pos c).symm.trans e
      split at e
      · rename_i c2
        cases e
        exact .inl ⟨c, c2, rfl⟩
      · cases e
    · have e := (if_neg c).symm.trans e
      split at e
      · rename_i c2
        cases e
        exact .inr ⟨rfl, c2⟩
      · cases e
  have B : Beg s.heap H K cs a us := ⟨fun b u e => by
    rcases Hb b u e with ⟨z, _⟩ | ⟨_, z⟩
    · exact .inl z
    · exact .inr z, oa, T1, T2, fun z => by
    rw [Ha] at z
    by_cases c : K.lookup a = none
    · exact c
    · rw [if_neg c] at z
      exact absurd rfl z⟩
  have ok : HOk P w H s.heap := fun b u e => by
    rcases Hb b u e with ⟨rfl, _, rfl⟩ | ⟨rfl, p, hp, rfl⟩
    · rw [eo]
      exact ⟨oa, by rw [List.length_map]; exact hl, us, _, vals_ints hi, oa⟩
    · exact T1 p hp
  refine beg_run B kin ng nb eb lim eg C bi rm sy F bn ok (fun b u e => ?_) Ht (hsp H Ht ?_)
  · rcases Hb b u e with ⟨_, _, rfl⟩ | z
    · exact .inl ⟨_, _, rfl⟩
    · exact .inr z
  · by_cases c : K.lookup a = none
    · exact .inl (.inr ⟨ob, by rw [Ha, if_pos c]⟩)
    · obtain ⟨o, ho⟩ := Option.ne_none_iff_exists'.mp c
      have e := kin a o ho
      rw [oa] at e
      cases e
      exact .inr ⟨_, us.toArray, _, ho, rfl, rfl, rfl, by rw [List.size_toArray, el]; exact hl, by simpa using vals_ints hi⟩
end
theorem walkGT {l : PySem.W.OpenLaw} {n k : Nat} {q : Program} {loose : List Str} {XP : (Str → Option Value) → Heap → Prop} {YP : World → Heap → Prop} {d : DefRec} {K : Params → PySem.W.Frag} {y : Str} (hn : l.most = some n) (hn2 : n ≤ sizeLine) (hdf : d.params.defaults = []) (rm : Room k callerA) (hY : ∀ (w : World) (h : Heap), YP w h → (K w.params).In h) (him : importsNone q = true)
    (F : ∀ (w : World) (mg : Str → Option Value) (fa : Addr) (h : Heap), (K w.params).In h → h.Ns mainGlobals mg → mg d.name = some (.ref fa) → TabsOf q (K w.params) h → LawGS l w (K w.params) k n y mg fa h) : PySem.W.WalkO q loose XP YP l.row.toRowW d [] (fun f vs => PySem.call f vs) := by
  refine Att.attach_callB hn hdf fun w sA sB mg mb fa o1 pm cd dc ad us ns G Y ho hd hcd hmg hob hin hle _ hge => ?_
  have kin := hY w _ Y
  have tabs : TabsOf q (K w.params) sB.heap := fun z c A hz ht => by
    obtain ⟨e, he, hn⟩ := List.any_eq_true.mp hz
    obtain ⟨e2, he2⟩ := Option.isSome_iff_exists.mp ((List.find?_isSome (p := fun r : DefRec => r.name == z)).mpr ⟨e, he, hn⟩)
    exact PySem.W.tab_of G.T kin he2 ht
  obtain ⟨fd, cs, sp, ⟨T1, T2, C⟩, bn, hsp, hF⟩ := F w mg fa _ kin G.T.g hmg tabs
  obtain ⟨mm, sy, _⟩ := (G.T.seer him).mods
  exact lawG_tab kin G.T.g G.T.b G.T.builtins G.T.nolimit hge T1 T2 C G.T.bmain hob hin (Nat.le_trans hle hn2) rm ⟨mm, sy⟩ hF bn fun H hH hS => hsp H ad ns hle hH hS
end Fo
namespace Fo
open PySem PySem.Spec PyProof.Rows L2
/-! own defs called within an except suite: what they promise of the error that stands pinned -/
abbrev SpP := Addr → Value → Option Addr → Sp
structure FnP (P : Program) (w : World) (K : PySem.W.Frag) (mg : Str → Option Value) (base : Heap) (k : Nat) (f : Addr) (fd : FuncData) (ps : List Str) (sp : SpP) : Prop where
  len : ∀ a cls d vs H Q E, sp a cls d vs H Q E → vs.length = ps.length
  run : ∀ (A : Around) (outer : List Env) (s : Shared) (H : Hp) (args : Args) (us : List Value) (vs : List V) (Q : VK) (E : XK) (p : Addr × Obj) (cls : Value) (d : Option Addr), L2H.RoomH k A → L2H.PinOk outer H s p → Zc cls d p.2 → (∃ vs, p.2.data = .fields vs) → Env0 P w K mg base A outer s H → BindsTo s fd args (ps.zip us) → Vals vs us → sp p.1 cls d vs H Q E →
    codeAny (model P w) A (.call (.ref f) args) (CR CX0 outer P w H s Q E) s
section
variable {P : Program} {w : World} {K : PySem.W.Frag} {mg : Str → Option Value} {base : Heap}
theorem okP {y qual : Str} {st : Stmt} {f : Addr} {fd : FuncData} {N ps : List Str} {k : Nat} {sp : SpP} (F : Fun K y qual st f fd) (S : FnScope N ps (defScope st)) (len : ∀ a cls d vs H Q E, sp a cls d vs H Q E → vs.length = ps.length)
    (body : ∀ (cdv : Value) (A : Around) (outer : List Env) (s : Shared) (H : Hp) (vs : List V) (Q : VK) (E : XK) (a : Addr) (oe : Obj) (cls : Value) (d : Option Addr), L2H.RoomH k (A.deeper (envOfC qual (defScope st) s.heap.objs.size f cdv)) → Zc cls d oe → (∃ vs, oe.data = .fields vs) → sp a cls d vs H Q E →
      ∃ t, PSs (L2H.cxH CX0 P w K mg base N qual (defScope st) f cdv A outer s H E (a, oe)) (defBody st) t ∧ t { nx := fun _ H' => Q .non H', rt := Q } (L2.start N vs) H) : FnP P w K mg base (k + 1) f fd ps sp := by
  obtain ⟨oc, od, kV, dc, pm, an, cdv, ct, osl, rfl, lk, hcd⟩ := F.ex
  refine ⟨len, fun A outer s H args us vs Q E p cls d hr hpin hz hf e0 hb r hsp => ?_⟩
  have hl := len _ _ _ _ _ _ _ hsp
  have KX : K.In s.heap := e0.mod.kin.keeps fun b o e => (e0.bs b o e).1
  have lim : s.heap.NoLimit := e0.mod.nolimit.keeps fun b o e => (e0.bs b o e).1
  refine codeAny_call_function hr.depth (KX _ _ lk) rfl S.co S.gen rfl (PySem.W.codeRec_of KX hcd) (hb _ _ _ _ ?_)
  refine wpAny_newFunctionEnv_cells S.kind (fun yv hy => ?_) fun env he s1 x => ?_
  · rcases S.par yv.1 (List.of_mem_zip hy).1 with z | z
    · exact .inl z
    · exact .inr ⟨z, PySem.W.cellsFrom_some _ _ _ (.inl z)⟩
  subst he
  refine ⟨lim.keeps x.toInCall.keep, codeAny_func ?_⟩
  obtain ⟨t, ht, hq⟩ := body cdv A outer s H vs Q E p.1 p.2 cls d (hr.deeper _) hz hf hsp
  have I : Inv (L2H.cxH CX0 P w K mg base N qual (defScope st) f cdv A outer s H E p) [] (L2.start N vs) H s1 := L2H.inv_startH S hpin e0 hl r x
  refine wpAny_mono (ht.run [] s1 (L2.start N vs) H _ I hq) (fun fl s' hs => ?_) fun e s' hs => hs
  cases fl with
  | ret u =>
    obtain ⟨v, σ', H', J, rv, q⟩ := hs
    exact ⟨v, H', J.os, J.bare, J.base, J.hok, rv, q⟩
  | next =>
    obtain ⟨σ', H', J, q⟩ := hs
    exact ⟨V.non, H', J.os, J.bare, J.base, J.hok, rfl, q⟩
  | brk =>
    obtain ⟨_, _, _, q⟩ := hs
    exact False.elim q
  | cont =>
    obtain ⟨_, _, _, q⟩ := hs
    exact False.elim q
end
def tCallP (sp : SpP) (a : Addr) (cls : Value) (d : Option Addr) (t : TA) : TE := fun σ H Q => t σ H fun vs H1 => sp a cls d vs H1 Q E0
section
variable {X : Cx} {k : Nat} {f : Addr} {fd : FuncData} {ps : List Str} {sp : SpP} {x : Str} {q pos : Pos} {e : Expr} {es : List Expr} {t : TA} {a : Addr} {oe : Obj} {cls : Value} {d : Option Addr}
theorem pe_callP (hp : (a, oe) ∈ X.pn) (hz : Zc cls d oe) (hf : ∃ vs, oe.data = .fields vs) (F : FnP X.prog X.w X.K X.mg X.base k f fd ps sp) (hr : L2H.RoomH k X.A) (hg : Gl X x) (hm : X.mg x = some (.ref f)) (hk : PySem.W.keepIn X.K (.ref f) = true) (hb : Binds X.K fd ps [])
    (ha : PA X (e :: es) t) (hdb : (x == ("__debug__" : Str)) = false := by decide) (he : starEach (e :: es) X.env = (false, eval e X.env) :: starEach es X.env := by rfl) (hpl : (backTo pos (starEach es X.env)).any (·.1) = false := by rfl) :
    PE X (.Call (.Name x q) (e :: es) [] pos) (tCallP sp a cls d t) := by
  refine ⟨fun pins s σ H Q I h => ?_⟩
  refine wpAny_Call_Name_kw (ld_glob I hg hm ?_ hdb)
  refine PySem.W.callWith_K (h₀ := X.base) I.ok.mod.kin hk (thn (ha.run pos pins s σ H _ I h) fun us s1 ⟨vs, H1, I1, r, q⟩ => ⟨I1.kIn, ?_⟩) he hpl
  have hl : us.length = ps.length := by rw [← r.length]; exact F.len _ _ _ _ _ _ _ q
  have b := hb s1 us I1.kIn (by rw [List.append_nil]; exact hl)
  rw [List.append_nil] at b
  have P1 := I1.pin (a, oe) (List.mem_append_left _ hp)
  have hpin : L2H.PinOk X.stack H1 s1 (a, oe) := ⟨P1.1, P1.2.1, fun hm => (List.mem_cons.mp (I1.stkSub a hm)).elim P1.2.2.1 P1.2.2.2.1, P1.2.2.2.2⟩
  refine wpAny_call (codeAny_mono (F.run X.A X.stack s1 H1 ⟨us, []⟩ us vs Q E0 (a, oe) cls d hr hpin hz hf I1.env0 b r q) fun rs s' hq => ?_)
  match rs, hq with
  | .error _, hq => exact hq.elim
  | .ok (.ret u), hq => exact I1.after hq
  | .ok .next, hq => exact False.elim hq
  | .ok .brk, hq => exact False.elim hq
  | .ok .cont, hq => exact False.elim hq
theorem inst_pinQ {pins : List (Addr × Obj)} {σ : L2.St} {H : Hp} {s : Shared} {C : Addr} (hp : (a, oe) ∈ X.pn) (I : Inv X pins σ H s) (hz : Zc (.ref C) none oe) (hf : ∃ vs, oe.data = .fields vs) : PySem.W.InstAt s.heap a oe C none := by
  obtain ⟨hget, _⟩ := I.pin (a, oe) (List.mem_append.mpr (.inl hp))
  obtain ⟨vs, hv⟩ := hf
  obtain ⟨oc, od, oda, osl⟩ := oe
  obtain ⟨h1, h2⟩ := hz
  dsimp only at h1 h2 hv
  subst h1 h2 hv
  exact ⟨hget, rfl, rfl, trivial⟩
theorem call_isQ (hp : (a, oe) ∈ X.pn) (hz : Zc cls d oe) (hf : ∃ vs, oe.data = .fields vs) : CallR X (.builtin "isinstance") (rIsP X.K a cls d) := by
  intro pins s σ H xs us Q I r h
  obtain ⟨C, c, u, b, rfl, rfl, ec, rfl, k, e, q⟩ := h
  obtain ⟨w1, w2, rfl, r1, r2⟩ := vals2 r
  obtain rfl := k.eq r2
  cases (show w1 = Value.ref a from r1)
  exact PySem.W.kia_one (PySem.W.handS_kitx_exc ec.hg ec.hk ec.hs ec.hd ec.ha ec.hn ec.ht ec.hm) I.kIn (inst_pinQ hp I hz hf) e (fun z => nomatch z) fun tk => ⟨.bl b, H, I.tok tk, rfl, q⟩
theorem call_isQT (hp : (a, oe) ∈ X.pn) (hz : Zc cls d oe) (hf : ∃ vs, oe.data = .fields vs) : CallR X (.builtin "isinstance") (rIsPT X.K a cls d) := by
  intro pins s σ H xs us Q I r h
  obtain ⟨C, tp, cs, ws, b, rfl, rfl, ec, rfl, hT, k, e, q⟩ := h
  obtain ⟨w1, w2, rfl, r1, r2⟩ := vals2 r
  cases (show w1 = Value.ref a from r1)
  cases (show w2 = Value.ref tp from r2)
  obtain ⟨_, its, rv, ob, h1, h2, n, h3⟩ := (show ObjOk _ _ H s.heap tp (.tup cs) from I.hok tp _ hT)
  obtain rfl := ClsV.all k rv
  obtain ⟨oc, od, dt, sl⟩ := ob
  simp only at h2 h3
  subst h2 h3
  exact PySem.W.kia_tup (PySem.W.handS_kitx_exc ec.hg ec.hk ec.hs ec.hd ec.ha ec.hn ec.ht ec.hm) I.kIn (inst_pinQ hp I hz hf) h1 e (fun z => nomatch z) fun tk => ⟨.bl b, H, I.tok tk, rfl, q⟩
end
end Fo
namespace L2
open PySem PySem.Spec PyProof.Rows PySem.W
/-! first, *others = a list -/
section
variable {X : Cx} {pos : Pos}
theorem pgs_star {e : Expr} {es : List Expr} {p : Pos} {t : TG} {u : TGs} (h1 : PG X e t) (h2 : PGs X es u)
    (hs : (assignEach (.Starred e p :: es) X.env).map (·.2) = assign e X.env :: (assignEach es X.env).map (·.2) := by rfl) : PGs X (.Starred e p :: es) (gCons t u) := by
  refine ⟨fun pins s σ H vs us Q I r h => ?_⟩
  obtain ⟨v, vr, e1, h⟩ := h
  subst e1
  cases r with
  | cons r rr =>
    rw [hs]
    refine assignInOrder_cons (thn (h1.run pins s σ H _ _ _ I r h) fun _ s1 ⟨σ1, H1, I1, q1⟩ => ?_)
    exact h2.run pins s1 σ1 H1 _ _ Q I1 rr q1
def gStar1 (K : PySem.W.Frag) (t : TGs) : TG := fun v σ H Q => ∃ a x xs, v = .ref a ∧ SqL K H a (x :: xs) ∧ xs.length < 16384 ∧ ∀ D, H D = none → t [x, .ref D] σ (upd H D (.lst xs)) Q
theorem pg_star1 {e1 e2 : Expr} {p : Pos} {k : Nat} {t : TGs} (hc : X.calm = true) (h : PGs X [e1, .Starred e2 p] t)
    (hn : (assignEach [e1, .Starred e2 p] X.env).length = 2 := by rfl) (hst : (assignEach [e1, .Starred e2 p] X.env).findIdx? (·.1) = some 1 := by rfl) : PG X (.Tuple [e1, .Starred e2 p] k pos) (gStar1 X.K t) := by
  refine ⟨fun pins s σ H v u Q I r hw => ?_⟩
  obtain ⟨a, x, xs, e0, hq, hz, hw⟩ := hw
  subst e0
  cases r
  obtain ⟨its, rv, pl, _⟩ := I.list hq
  cases rv with
  | cons r0 rr =>
    rename_i ux uxs
    have hh : X.A.handled = none := I.ok.hd hc
    have hl : s.heap.IsList a (ux :: uxs).toArray := by
      obtain ⟨o, m, e, c, d, q⟩ := pl
      exact ⟨o, e, c, m, q⟩
    have hlen : uxs.length = xs.length := rr.length.symm
    rw [PyProof.Rows.assign_Tuple]
    refine wpAny_bind (wpAny_standAt ?_)
    unfold unpack
    rw [hn, hst]
    refine wpAny_bind (wpAny_holding ?_)
    have hlt : a ≠ s.heap.objs.size := by obtain ⟨o, ho, _⟩ := hl; exact Nat.ne_of_lt (Heap.lt_size ho)
    unfold unpackItems
    refine wpAny_bind ?_
    unfold notIterableAtAll
    refine wpAny_bind (wpAny_specialOf hl.typeIs slot_list_iter.lookup ?_)
    refine wpAny_pure ?_
    simp only [Bool.false_eq_true, if_false]
    refine wpAny_bind (wpAny_holding (wpAny_pyIter_list hl ?_))
    have hsz : (ux :: uxs).toArray.size = uxs.length + 1 := by simp
    refine wpAny_bind (wpAny_holding (kun_draw hlt 1 0 _ _ ⟨_, Heap.get?_push_size _ rfl, rfl, rfl⟩ (hl.push _) (by omega) fun h₁ hit₁ hs₁ => ?_))
    have hl₁ : h₁.IsList a (ux :: uxs).toArray := (hl.push _).extBut hs₁.extBut hlt
    rw [Nat.zero_add] at hit₁
    have hit₁' := hit₁
    obtain ⟨oi, hoi, _⟩ := hit₁'
    have hl₁' := hl₁
    obtain ⟨ol, hol, _⟩ := hl₁'
    rw [List.drop_zero]
    show wpAny _ _ (if ([ux] : List Value).length < 1 then _ else _) _ _ _
    rw [if_neg (by simp)]
    refine wpAny_bind (wpAny_holding (kun_collect (s := { s with heap := h₁ }) (T := "list_iterator") (.inr (.inr (.inl rfl))) (Walks.list (A := X.A.in1) hh s.heap.objs.size a hlt (ux :: uxs).toArray) (fun j u st => st.1.typeIs) (k := 1) (by omega) ⟨hit₁, hl₁⟩ (Heap.lt_size hoi) (Heap.lt_size hol) (fun h₂ tk hk => ?_) (by rw [sizeLine_eq]; omega)))
    show wpAny _ _ (if uxs.length < 2 - 1 - 1 then _ else _) _ _ _
    rw [if_neg (by omega)]
    show wpAny _ _ (newList (uxs.take (uxs.length - 0)) >>= fun d => pure ([ux] ++ [d] ++ uxs.drop (uxs.length - 0))) _ _ _
    rw [Nat.sub_zero, List.take_length, List.drop_length]
    have he : ∀ b o, s.heap.get? b = some o → h₂.get? b = some o := fun b o e => by
      have hb : b ≠ s.heap.objs.size := Nat.ne_of_lt (Heap.lt_size e)
      exact hk b o hb (hs₁.extBut b o hb (Heap.get?_push_of_some _ e))
    have I1 : Inv X pins σ H { s with heap := h₂, toks := tk } := I.kept he
    refine wpAny_bind (wpAny_newList ?_ (by rw [sizeLine_eq]; omega))
    refine wpAny_pure ?_
    have I2 : Inv X pins σ (upd H h₂.objs.size (.lst xs)) { s with heap := h₂.push (seqObj "list" uxs.toArray 0), toks := tk } :=
      I1.laid (t' := tk) (fun b u e => Heap.get?_push_of_some _ e) (Nat.le_refl _)
        (show ObjOk X.prog X.w _ _ _ (.lst xs) from ⟨by rw [sizeLine_eq]; omega, uxs, 0, rr, Heap.get?_push_size _ rfl⟩)
    exact h.run pins _ σ _ [x, .ref h₂.objs.size] [ux, .ref h₂.objs.size] Q I2 (.cons r0 (.cons rfl .nil)) (hw _ (I1.hok.fresh (Nat.le_refl _)))
end
end L2
namespace Fo
open PySem PySem.Spec PyProof.Rows L2
/-! a list of anything held against the empty one -/
abbrev rNilEq (K : PySem.W.Frag) : R2 := fun x y H Q => ∃ a b xs, x = .ref a ∧ y = .ref b ∧ SqL K H a xs ∧ SqL K H b [] ∧ Q (.bl xs.isEmpty) H
abbrev rNilNe (K : PySem.W.Frag) : R2 := fun x y H Q => ∃ a b xs, x = .ref a ∧ y = .ref b ∧ SqL K H a xs ∧ SqL K H b [] ∧ Q (.bl (!xs.isEmpty)) H
section
variable {X : Cx}
theorem op_eqNilL (hu : X.A.units + 64 < cLine) : OpR X (compareOp .Eq) (rNilEq X.K) := by
  intro pins s σ H x y v u Q I rx ry h
  obtain ⟨a, b, xs, rfl, rfl, ha, hb, q⟩ := h
  cases (show v = Value.ref a from rx)
  cases (show u = Value.ref b from ry)
  obtain ⟨us, r1, p1, _⟩ := I.list ha
  obtain ⟨ws, r2, p2, _⟩ := I.list hb
  have e2 : ws.length = 0 := r2.length.symm
  have e1 : us.length = xs.length := r1.length.symm
  cases xs with
  | nil =>
    refine SeqAt.eq_listAt (e := fun _ => true) p1.isList p2.isList ?_ (by omega) (fun j h1 h2 => ?_) ?_
    · rw [List.size_toArray, List.size_toArray, e1, e2]
      rfl
    · rw [List.size_toArray, e2] at h2
      omega
    · rw [show ((List.range us.toArray.size).all fun _ => true) = true from List.all_eq_true.mpr fun _ _ => rfl]
      exact ⟨.bl true, H, I, rfl, q⟩
  | cons x r =>
    refine SeqAt.eq_list_lengthsAt p1.isList p2.isList ?_ (by omega) ⟨.bl false, H, I, rfl, q⟩
    rw [List.size_toArray, List.size_toArray, e1, e2]
    rfl
theorem op_neNilL (hu : X.A.units + 64 < cLine) : OpR X (compareOp .NotEq) (rNilNe X.K) := by
  intro pins s σ H x y v u Q I rx ry h
  obtain ⟨a, b, xs, rfl, rfl, ha, hb, q⟩ := h
  cases (show v = Value.ref a from rx)
  cases (show u = Value.ref b from ry)
  obtain ⟨us, r1, p1, _⟩ := I.list ha
  obtain ⟨ws, r2, p2, _⟩ := I.list hb
  have e2 : ws.length = 0 := r2.length.symm
  have e1 : us.length = xs.length := r1.length.symm
  cases xs with
  | nil =>
    refine SeqAt.RcNeAt.lists (e := fun _ => true) p1.isList p2.isList ?_ (by omega) (fun j h1 h2 => ?_) _ _ _ _ ?_
    · rw [List.size_toArray, List.size_toArray, e1, e2]
      rfl
    · rw [List.size_toArray, e2] at h2
      omega
    · rw [show ((List.range us.toArray.size).all fun _ => true) = true from List.all_eq_true.mpr fun _ _ => rfl]
      exact ⟨.bl false, H, I, rfl, q⟩
  | cons x r =>
    refine SeqAt.RcNeAt.lists_lengths p1.isList p2.isList ?_ (by omega) _ _ _ _ ⟨.bl true, H, I, rfl, q⟩
    rw [List.size_toArray, List.size_toArray, e1, e2]
    rfl
end
end Fo
namespace Fo
open PySem PySem.Spec PyProof.Rows L2
/-! defs that refuse -/
section
variable {P : Program} {w : World} {K : PySem.W.Frag} {mg : Str → Option Value} {base : Heap} {k : Nat} {f : Addr} {fd : FuncData} {ps : List Str}
theorem fn_up {sp : Sp} (F : FnOk P w K mg base CX0 k f fd ps sp) : FnOk P w K mg base (L2.CX P w) k f fd ps sp :=
  ⟨F.len, fun A outer s H args us vs Q E hr e0 hb hv hs => codeAny_mono (F.run A outer s H args us vs Q E hr e0 hb hv hs) fun r s' h => match r, h with
    | .error _, h => h.elim
    | .ok (.ret _), h => h
    | .ok .next, h => h
    | .ok .brk, h => h
    | .ok .cont, h => h⟩
theorem fn_or {CX : CXT} {sp sp' : Sp} (F : FnOk P w K mg base CX k f fd ps sp) (G : FnOk P w K mg base CX k f fd ps sp') : FnOk P w K mg base CX k f fd ps (fun vs H Q E => sp vs H Q E ∨ sp' vs H Q E) :=
  ⟨fun vs H Q E h => h.elim (F.len vs H Q E) (G.len vs H Q E), fun A outer s H args us vs Q E hr e0 hb hv hs => hs.elim (F.run A outer s H args us vs Q E hr e0 hb hv) (G.run A outer s H args us vs Q E hr e0 hb hv)⟩
def spNever : Sp := fun _ _ _ _ => False
theorem fn_never {CX : CXT} : FnOk P w K mg base CX k f fd ps spNever := ⟨fun _ _ _ _ h => h.elim, fun _ _ _ _ _ _ _ _ _ _ _ _ _ h => h.elim⟩
end
/-- an error class of the program, over ValueError -/
structure ExK (K : PySem.W.Frag) (mg : Str → Option Value) (x : Str) (C : Addr) : Prop where
  g : mg x = some (.ref C)
  q : PySem.W.excIn K C [.type "ValueError", .type "Exception", .type "BaseException", .type "object"] "ValueError.__new__" = true
  kp : PySem.W.keepIn K (.ref C) = true
  sb : PySem.W.subIn K (.ref C) (.type "BaseException") = some true
  ty : PySem.W.typeIn K (.ref C) = some (.type "type")
  ec : ExcC K C
section
variable {X : Cx}
theorem ps_raiseK {W : WX} {x m : Str} {C : Addr} {j : Nat} {p p2 pos pos' : Pos} (hc : X.calm = true) (tk : Takes X W) (c : ExK X.K X.mg x C) (hg : Gl X x) (hdb : (x == ("__debug__" : Str)) = false := by decide) :
    PS X (.Raise (some (.Call (.Name x p) [.Constant (.str m) j p2] [] pos)) none pos') (fun _ σ H => W (.ref C) none σ H) :=
  ps_raise hc tk (pmk_own PySem.F.excBase_ValueError c.q c.g c.kp (raises_own c.sb c.ty) hg hdb)
theorem ps_raiseA {W : WX} {x : Str} {C : Addr} {e : Expr} {ta : TE} {p pos pos' : Pos} (hc : X.calm = true) (tk : Takes X W) (c : ExK X.K X.mg x C) (hg : Gl X x) (he : PE X e ta) (hdb : (x == ("__debug__" : Str)) = false := by decide)
    (hs : starEach [e] X.env = (false, eval e X.env) :: starEach [] X.env := by rfl) :
    PS X (.Raise (some (.Call (.Name x p) [e] [] pos)) none pos') (fun _ σ H => ta σ H fun _ H1 => W (.ref C) none σ H1) :=
  ps_raise hc tk (SkE.pmk_own1 PySem.F.excBase_ValueError c.q c.g c.kp (raises_own c.sb c.ty) hg he hs hdb)
end
end Fo
namespace Fo
open PySem PySem.Spec PyProof.Rows L2
/-! what is no order is refused -/
def lenD : PyData → Nat
  | .list ds => ds.length
  | _ => 0
theorem good_at {H : Hp} {v : V} {d : PyData} (h : Dq H v d) (g : GoodD d) : ∃ (a : Addr) (ns : List Int), v = .ref a ∧ H a = some (.lst (ns.map V.int)) ∧ IsOrd ns.length ns ∧ 1 ≤ ns.length ∧ ns.length ≤ 12 ∧ lenD d = ns.length := by
  obtain ⟨ns, rfl, h1, h2, h3⟩ := g
  cases h with
  | @lst a xs _ e al =>
    have := dq_intsV al
    subst this
    exact ⟨a, ns, rfl, e, h1, h2, h3, List.length_map _⟩
def spChk (cO : Addr) : Sp := fun vs H Q E => ∃ (v : V) (d : PyData), vs = [v] ∧ Dq H v d ∧ (GoodD d → ∀ H', Same H H' → Q .non H') ∧ (¬ GoodD d → ∀ H', Same H H' → E (.ref cO) none H')
section
variable {P : Program} {w : World} {K : PySem.W.Frag} {mg : Str → Option Value} {base : Heap}
end
end Fo
namespace Fo
open PySem PySem.Spec PyProof.Rows L2
/-- C is the i-th of the nine error classes, and none of the others -/
structure KdY (K : PySem.W.Frag) (c : Nat → Addr) (C : Addr) (i : Nat) : Prop where
  ec : ExcC K C
  ks : ∀ j, j < 9 → PySem.W.kitOne K (.ref C) (.ref (c j)) = some (decide (j = i))
  ve : PySem.W.kitOne K (.ref C) (.type "ValueError") = some true
  lt : i < 9
def cls9 (a0 a1 a2 a3 a4 a5 a6 a7 a8 : Addr) : Nat → Addr
  | 0 => a0
  | 1 => a1
  | 2 => a2
  | 3 => a3
  | 4 => a4
  | 5 => a5
  | 6 => a6
  | 7 => a7
  | _ => a8
theorem kd_mk9 {K : PySem.W.Frag} {C a0 a1 a2 a3 a4 a5 a6 a7 a8 : Addr} {i : Nat} (ec : ExcC K C) (h0 : PySem.W.kitOne K (.ref C) (.ref a0) = some (decide (0 = i))) (h1 : PySem.W.kitOne K (.ref C) (.ref a1) = some (decide (1 = i))) (h2 : PySem.W.kitOne K (.ref C) (.ref a2) = some (decide (2 = i))) (h3 : PySem.W.kitOne K (.ref C) (.ref a3) = some (decide (3 = i))) (h4 : PySem.W.kitOne K (.ref C) (.ref a4) = some (decide (4 = i))) (h5 : PySem.W.kitOne K (.ref C) (.ref a5) = some (decide (5 = i))) (h6 : PySem.W.kitOne K (.ref C) (.ref a6) = some (decide (6 = i))) (h7 : PySem.W.kitOne K (.ref C) (.ref a7) = some (decide (7 = i))) (h8 : PySem.W.kitOne K (.ref C) (.ref a8) = some (decide (8 = i))) (ve : PySem.W.kitOne K (.ref C) (.type "ValueError") = some true) (lt : i < 9) : KdY K (cls9 a0 a1 a2 a3 a4 a5 a6 a7 a8) C i := by
  refine ⟨ec, fun j hj => ?_, ve, lt⟩
  rcases (show j = 0 ∨ j = 1 ∨ j = 2 ∨ j = 3 ∨ j = 4 ∨ j = 5 ∨ j = 6 ∨ j = 7 ∨ j = 8 by omega) with rfl | rfl | rfl | rfl | rfl | rfl | rfl | rfl | rfl
  · exact h0
  · exact h1
  · exact h2
  · exact h3
  · exact h4
  · exact h5
  · exact h6
  · exact h7
  · exact h8
def spKindsY (K : PySem.W.Frag) (c : Nat → Addr) : Sp := fun vs H Q _ => ∃ (a C : Addr) (i : Nat), vs = [.ref a, .int i] ∧ H a = some (ExV (.ref C) none a) ∧ KdY K c C i ∧ ∀ H', Same H H' → Q (.bl true) H'
abbrev dB (bs : List Bool) : PyData := .list (bs.map PyData.bool)
theorem dp_bools {K : PySem.W.Frag} {H : Hp} : ∀ bs : List Bool, DpAll K H (bs.map V.bl) (bs.map PyData.bool)
  | [] => .nil
  | b :: r => .cons (.bl b) (dp_bools r)
theorem dp_boolL {K : PySem.W.Frag} {H : Hp} {a : Addr} {bs : List Bool} (h : H a = some (.lst (bs.map V.bl))) : Dp K H (.ref a) (dB bs) := .lst (SqL.of h) (dp_bools bs)
theorem lay_bools : ∀ bs : List Bool, PyData.canLayAll0 (bs.map PyData.bool) = true
  | [] => rfl
  | b :: r => by
    show (PyData.canLay0 (.bool b) && PyData.canLayAll0 (r.map PyData.bool)) = true
    rw [lay_bools r]
    rfl
theorem depth_bools : ∀ bs : List Bool, PyData.depthAll (bs.map PyData.bool) = 0
  | [] => by simp [PyData.depthAll]
  | b :: r => by
    show PyData.depthAll (.bool b :: r.map PyData.bool) = 0
    rw [PyData.depthAll, depth_bools r]
    simp [PyData.depth]
theorem shaped_bools (bs : List Bool) : SeqAt.shaped (dB bs) = true := by
  unfold SeqAt.shaped
  rw [Bool.and_eq_true_iff]
  constructor
  · rw [PyData.canLay0]
    exact lay_bools bs
  · apply decide_eq_true
    rw [PyData.depth, depth_bools]
    decide
theorem eqv_bools (bs : List Bool) : PyData.eqv (dB bs) (dB bs) = true := SeqAt.eqv_refl _ (SeqAt.canLay_of_shaped (shaped_bools bs))
/-- bools and a new list of them -/
theorem nb (bs : List Bool) {H : Hp} {p : Addr} (np : H p = none) : Same H (upd H p (.lst (bs.map V.bl))) ∧ (upd H p (.lst (bs.map V.bl))) p = some (.lst (bs.map V.bl)) := ⟨same_new np, upd_same⟩
section
variable {P : Program} {w : World} {K : PySem.W.Frag} {mg : Str → Option Value} {base : Heap}
end
end Fo
namespace Fo
open PySem PySem.Spec PyProof.Rows L2
/-! lists of orders, asked of anything -/
def OLd (d : PyData) : Prop := ∃ ds, d = .list ds ∧ (∀ x ∈ ds, GoodD x) ∧ ∀ x ∈ ds, ∀ y ∈ ds, lenD x = lenD y
def spOLD : Sp := fun vs H Q _ => ∃ (v : V) (d : PyData), vs = [v] ∧ Dq H v d ∧ (∀ ds, d = .list ds → ds.length ≤ 1000000) ∧ ∀ (b : Bool) (H' : Hp), (b = true ↔ OLd d) → Same H H' → Q (.bl b) H'
theorem all_snoc (bs : List Bool) (b : Bool) : (bs ++ [b]).all id = true ↔ bs.all id = true ∧ b = true := by
  rw [List.all_append, Bool.and_eq_true]
  simp
theorem take_all {ds : List PyData} {i : Nat} {d : PyData} (e : ds[i]? = some d) {p : PyData → Prop} : (∀ x ∈ ds.take (i + 1), p x) ↔ (∀ x ∈ ds.take i, p x) ∧ p d := by
  rw [List.take_add_one, e]
  constructor
  · intro h
    exact ⟨fun x m => h x (List.mem_append_left _ m), h d (List.mem_append_right _ List.mem_cons_self)⟩
  · rintro ⟨h1, h2⟩ x m
    rcases List.mem_append.mp m with m | m
    · exact h1 x m
    · rw [List.mem_singleton.mp m]
      exact h2
section
variable {P : Program} {w : World} {K : PySem.W.Frag} {mg : Str → Option Value} {base : Heap}
theorem scOLD : FnScope ["thing", "each", "order"] ["thing"] (defScope s_is_order_list) := ⟨rfl, rfl, rfl, by decide +kernel, rfl, by decide +kernel, by decide +kernel⟩
set_option maxHeartbeats 2000000 in
theorem ok_olD {f f1 : Addr} {fd d1 : FuncData} {k : Nat} (T : Df K mg "is_order_list" s_is_order_list ["thing"] f fd) (T_is_order : Df K mg "is_order" s_is_order ["thing"] f1 d1) (G_is_order : FnOk P w K mg base CX0 k f1 d1 ["thing"] spIsOrdD) (B : Bi mg) : FnOk P w K mg base CX0 (k + 1) f fd ["thing"] spOLD := by
  refine T.F.ok scOLD (fun vs H Q E h => ?_) (fun cdv A outer s H vs Q E hr h => ?_)
  · obtain ⟨v, d, rfl, _⟩ := h
    rfl
  · obtain ⟨v, d, rfl, hd, hlen, q⟩ := h
    refine ⟨_, 
      (pss_cons (ps_if (PW.pt (pw_or (pt_not (pt_val (pe_callB call_isi (by rfl) B.isinstance (by decide +kernel) (pa_cons (pv 0) (pa_cons (pe_bltn (v := .ty "list") (by rfl) B.list (by decide +kernel) rfl) pa_nil))))) (pw_or1 (pt_not (pt_val (pe_callB (cr_all rfl) (by rfl) B.all (by decide +kernel) (pa_cons (pe_lc (own := [("each", 1)]) (g := (gName 1)) (tt := tYes) (te := (tCall spIsOrdD [] E0 (tCons (tVar 1) tNil))) rfl scOLD.nd (pi_list (pv 0)) (blkOk_by (N := ["thing", "each", "order"]) (sc := defScope s_is_order_list) (by decide +kernel)) (fun _ _ _ _ _ => (pg_name (i := 1) scOLD.nd rfl (.inl rfl))) (fun _ _ _ _ _ => pts_nil) (fun _ _ _ _ _ => (pe_call G_is_order hr (by rfl) T_is_order.g T_is_order.F.kp T_is_order.b .nil pass0 (pa_cons (pv 1) pa_nil)))) pa_nil)))))))
        (pss_one (ps_ret pe_bl))
        pss_nil)
      (pss_one (ps_ret (pe_callB (cr_all rfl) (by rfl) B.all (by decide +kernel) (pa_cons (pe_lc (own := [("order", 2)]) (g := (gName 2)) (tt := tYes) (te := (tOp rEq (tCB (rLenS K) (tCons (tVar 2) tNil)) (tCB (rLenS K) (tCons (tOp (rIxL K) (tVar 0) (tC (.int 0))) tNil)))) rfl scOLD.nd (pi_list (pv 0)) (blkOk_by (N := ["thing", "each", "order"]) (sc := defScope s_is_order_list) (by decide +kernel)) (fun _ _ _ _ _ => (pg_name (i := 2) scOLD.nd rfl (.inl rfl))) (fun _ _ _ _ _ => pts_nil) (fun _ _ _ _ _ => (pe_cmpR op_eq (pe_callB call_len_seq (by rfl) B.len PySem.boot_len (pa_cons (pv 2) pa_nil)) (pe_callB call_len_seq (by rfl) B.len PySem.boot_len (pa_cons (pe_ix ix_list (pv 0) pe_int (fun _ _ => rfl)) pa_nil)) (nomark _)))) pa_nil))))), ?_⟩
    refine ⟨_, rfl, _, _, _, _, isListD d, rfl, .ty _, dq_ty hd, kit_listD d, _, rfl, ?_⟩
    cases hl : isListD d with
    | false =>
      refine iteT (iteT (q _ _ ⟨fun z => absurd z Bool.false_ne_true, fun z => ?_⟩ (Same.refl _)))
      obtain ⟨ds, e, _⟩ := z
      rw [e] at hl
      cases hl
    | true =>
      cases hd with
      | @lst a xs ds e al =>
        have hl1 := al.len
        have hl2 := hlen ds rfl
        refine iteF ?_
        refine ⟨_, rfl, a, rfl, ⟨_, SqL.of e⟩, fun p np => ?_⟩
        refine lc_list (K := K) (a := a) (xs := xs) (fun i H3 => (∃ bs : List Bool, H3 p = some (.lst (bs.map V.bl)) ∧ bs.length = i ∧ (bs.all id = true ↔ ∀ x ∈ ds.take i, GoodD x)) ∧ Same H H3) ⟨⟨[], upd_same, rfl, by simp⟩, same_new np⟩ (fun i H3 _ hP => SqL.of (hP.2 _ _ e)) (fun i x H3 hx hP => ?_) (fun H3 hP => ?_)
        · obtain ⟨⟨bs, hp3, hb, hg⟩, sm⟩ := hP
          obtain ⟨d, ed, hd⟩ := al.get hx
          have hi := (List.getElem?_eq_some_iff.mp ed).1
          refine ⟨rfl, _, rfl, x, d, rfl, hd.same sm, fun b H4 hb4 s4 => ⟨_, s4 _ _ hp3, line_lt (by rw [List.length_map]; omega), ⟨bs ++ [b], by rw [upd_same, List.map_append]; rfl, by rw [List.length_append, hb]; rfl, ?_⟩, fun b o eb => ?_⟩⟩
          · rw [all_snoc, hg, hb4, take_all ed]
          · rw [upd_ne (ne_of_none eb np)]
            exact s4 _ _ (sm _ _ eb)
        · obtain ⟨⟨bs, hp3, hb, hg⟩, sm⟩ := hP
          rw [hl1, List.take_length] at hg
          have e3 := sm _ _ e
          refine ⟨p, _, rfl, SqL.of hp3, _, rfl, ?_⟩
          have hno : bs.all id = false → (false = true ↔ OLd (.list ds)) := fun z => ⟨fun y => absurd y Bool.false_ne_true, fun y => by
            obtain ⟨ds', e', g', _⟩ := y
            injection e' with e'
            subst e'
            rw [hg.mpr g'] at z
            exact absurd z (by decide)⟩
          cases ha : bs.all id with
          | false => exact iteT (q _ _ (hno ha) sm)
          | true =>
            have good := hg.mp ha
            refine iteF ?_
            refine ⟨_, rfl, a, rfl, ⟨_, SqL.of e3⟩, fun p2 np2 => ?_⟩
            refine lc_list (K := K) (a := a) (xs := xs) (fun i H5 => (∃ cs : List Bool, H5 p2 = some (.lst (cs.map V.bl)) ∧ cs.length = i ∧ (cs.all id = true ↔ ∀ x ∈ ds.take i, ∀ y, ds[0]? = some y → lenD x = lenD y)) ∧ Same H3 H5) ⟨⟨[], upd_same, rfl, by simp⟩, same_new np2⟩ (fun i H5 _ hP => SqL.of (hP.2 _ _ e3)) (fun i x H5 hx hP => ?_) (fun H5 hP => ?_)
            · obtain ⟨⟨cs, hp5, hc, hg5⟩, sm5⟩ := hP
              have al5 := al.same (sm.trans sm5)
              obtain ⟨d, ed, hd⟩ := al5.get hx
              have hi := (List.getElem?_eq_some_iff.mp ed).1
              have g1 := good d (List.mem_of_getElem? ed)
              obtain ⟨a1, ns1, rfl, h1, o1, _, _, l1⟩ := good_at hd g1
              obtain ⟨x0, ex0⟩ : ∃ x0, xs[0]? = some x0 := ⟨xs[0]'(by omega), List.getElem?_eq_getElem (by omega)⟩
              obtain ⟨d0, ed0, hd0⟩ := al5.get ex0
              obtain ⟨a0, ns0, rfl, h0, o0, _, _, l0⟩ := good_at hd0 (good d0 (List.mem_of_getElem? ed0))
              refine ⟨rfl, _, rfl, a1, _, rfl, .inl (SqL.of h1), _, rfl, a, _, 0, _, rfl, rfl, SqL.of (sm5 _ _ e3), at_of (j := 0) rfl ex0, a0, _, rfl, .inl (SqL.of h0), rfl, ?_⟩
              refine ⟨_, hp5, line_lt (by rw [List.length_map]; omega), ⟨cs ++ [decide (lenD d = lenD d0)], ?_, by rw [List.length_append, hc]; rfl, ?_⟩, fun b o eb => ?_⟩
              · have e1 : decide (V.int (((ns1.map V.int).length : Nat) : Int) = V.int (((ns0.map V.int).length : Nat) : Int)) = decide (lenD d = lenD d0) := by
                  rw [List.length_map, List.length_map, l1, l0, decide_eq_decide]
                  exact ⟨fun z => by injection z with z; omega, fun z => by rw [z]⟩
                rw [upd_same, List.map_append, ← e1]
                rfl
              · rw [all_snoc, hg5, take_all ed, decide_eq_true_iff]
                refine and_congr Iff.rfl ⟨fun z y ey => ?_, fun z => z d0 ed0⟩
                rw [ed0] at ey
                rw [← Option.some.inj ey]
                exact z
              · rw [upd_ne (ne_of_none eb np2)]
                exact sm5 _ _ eb
            · obtain ⟨⟨cs, hp5, hc, hg5⟩, sm5⟩ := hP
              rw [hl1, List.take_length] at hg5
              refine ⟨p2, _, rfl, SqL.of hp5, ?_⟩
              refine q _ _ ?_ (sm.trans sm5)
              rw [hg5]
              constructor
              · intro h
                refine ⟨ds, rfl, good, fun x mx y my => ?_⟩
                cases ds with
                | nil => exact absurd mx List.not_mem_nil
                | cons d0 r => rw [h x mx d0 rfl, h y my d0 rfl]
              · rintro ⟨ds', e', _, h⟩
                injection e' with e'
                subst e'
                exact fun x mx y ey => h x mx y (List.mem_of_getElem? ey)
      | _ => cases hl
end
end Fo
namespace Fo
open PySem PySem.Spec PyProof.Rows L2
/-- a list of orders of n things -/
structure OL (H : Hp) (l : Addr) (as : List Addr) (rs : List (List Int)) (n : Nat) : Prop where
  top : H l = some (.lst (as.map V.ref))
  ll : LL H as rs
  ord : ∀ r ∈ rs, IsOrd n r
  n1 : 1 ≤ n
  n2 : n ≤ 12
theorem OL.same {H H' : Hp} {l : Addr} {as : List Addr} {rs : List (List Int)} {n : Nat} (h : OL H l as rs n) (s : Same H H') : OL H' l as rs n := ⟨s _ _ h.top, h.ll.same s, h.ord, h.n1, h.n2⟩
end Fo
namespace Fo
open PySem PySem.Spec PyProof.Rows L2
/-- the numbers of a list of numbers -/
def intsD : PyData → List Int
  | .list ds => ds.filterMap fun x => match x with | .int i => some i | _ => none
  | _ => []
theorem intsD_of (ns : List Int) : intsD (.list (ns.map PyData.int)) = ns := by
  show List.filterMap _ (ns.map PyData.int) = ns
  rw [List.filterMap_map]
  induction ns with
  | nil => rfl
  | cons x r ih => rw [List.filterMap_cons]; show x :: _ = x :: r; rw [show List.filterMap _ r = r from ih]
theorem good_ints {d : PyData} (g : GoodD d) : d = .list ((intsD d).map PyData.int) ∧ IsOrd (intsD d).length (intsD d) ∧ 1 ≤ (intsD d).length ∧ (intsD d).length ≤ 12 := by
  obtain ⟨ns, rfl, h1, h2, h3⟩ := g
  rw [intsD_of]
  exact ⟨rfl, h1, h2, h3⟩
theorem good_atD {H : Hp} {v : V} {d : PyData} (h : Dq H v d) (g : GoodD d) : ∃ (a : Addr), v = .ref a ∧ H a = some (.lst ((intsD d).map V.int)) := by
  obtain ⟨ns, rfl, h1, h2, h3⟩ := g
  rw [intsD_of]
  cases h with
  | @lst a xs _ e al =>
    have := dq_intsV al
    subst this
    exact ⟨a, rfl, e⟩
def rowsD' : PyData → List (List Int)
  | .list ds => ds.map intsD
  | _ => []
theorem old_rows {ds : List PyData} (h : OLd (.list ds)) : ∃ n, n ≤ 12 ∧ ∀ r ∈ ds.map intsD, IsOrd n r := by
  obtain ⟨_, e, g, l⟩ := h
  injection e with e
  subst e
  cases ds with
  | nil => exact ⟨0, by decide, fun r m => absurd m List.not_mem_nil⟩
  | cons d0 r =>
    refine ⟨(intsD d0).length, (good_ints (g d0 List.mem_cons_self)).2.2.2, fun x m => ?_⟩
    obtain ⟨y, my, rfl⟩ := List.mem_map.mp m
    have h1 := good_ints (g y my)
    have h2 := good_ints (g d0 List.mem_cons_self)
    have h3 := l y my d0 List.mem_cons_self
    rw [h1.1, h2.1] at h3
    have h4 : (intsD y).length = (intsD d0).length := by
      have h3 : ((intsD y).map PyData.int).length = ((intsD d0).map PyData.int).length := h3
      rwa [List.length_map, List.length_map] at h3
    rw [← h4]
    exact h1.2.1
theorem good_ll {H : Hp} : ∀ {xs : List V} {ds : List PyData}, DqAll H xs ds → (∀ x ∈ ds, GoodD x) → ∃ as : List Addr, xs = as.map V.ref ∧ LL H as (ds.map intsD)
  | [], [], _, _ => ⟨[], rfl, trivial⟩
  | _ :: _, _ :: _, .cons h t, g => by
    obtain ⟨a, rfl, ha⟩ := good_atD h (g _ List.mem_cons_self)
    obtain ⟨as, rfl, hL⟩ := good_ll t fun x m => g x (List.mem_cons_of_mem _ m)
    exact ⟨a :: as, rfl, ha, hL⟩
end Fo
namespace Fo
open PySem PySem.Spec PyProof.Rows L2
def WayD (d : PyData) : Prop := ∃ z : Str, d = .str z ∧ IsWay z
def spWayX (cW : Addr) : Sp := fun vs H Q E => ∃ (v : V) (d : PyData), vs = [v] ∧ Dq H v d ∧ (WayD d → Q .non H) ∧ (¬ WayD d → E (.ref cW) none H)
theorem inV_ways (z : Str) : inV (.str z) [.str "swap", .str "spot", .str "shift"] = decide (z = "swap" ∨ z = "spot" ∨ z = "shift") := by
  have e : ∀ x : Str, eqV (.str x) (.str z) = decide (z = x) := fun x => by
    unfold eqV
    by_cases h : x = z
    · subst h
      simp
    · have h2 : ¬ z = x := fun y => h y.symm
      simp [h, h2]
  unfold inV
  simp only [List.any_cons, List.any_nil, e, Bool.or_false]
  by_cases h1 : z = "swap"
  · simp [h1]
  · by_cases h2 : z = "spot"
    · simp [h2]
    · by_cases h3 : z = "shift"
      · simp [h3]
      · simp [h1, h2, h3]
section
variable {P : Program} {w : World} {K : PySem.W.Frag} {mg : Str → Option Value} {base : Heap}
theorem scWayX : FnScope ["thing"] ["thing"] (defScope s_check_way) := ⟨rfl, rfl, rfl, by decide +kernel, rfl, by decide +kernel, by decide +kernel⟩
theorem ok_wayX {f aW cW : Addr} {fd : FuncData} {k : Nat} (T : Df K mg "check_way" s_check_way ["thing"] f fd) (W : Wy K mg aW) (X_NoWay : ExK K mg "NoWay" cW) (B : Bi mg) : FnOk P w K mg base (L2.CX P w) (k + 1) f fd ["thing"] (spWayX cW) := by
  refine T.F.okX scWayX (fun vs H Q E h => ?_) (fun cdv A outer s H vs Q E hr h => ?_)
  · obtain ⟨v, d, rfl, _⟩ := h
    rfl
  · obtain ⟨v, d, rfl, hd, q1, q2⟩ := h
    refine ⟨_, 
      (pss_one (ps_if (PW.pt (pw_or (pt_not (pt_val (pe_callB call_isi (by rfl) B.isinstance (by decide +kernel) (pa_cons (pv 0) (pa_cons (pe_bltn (v := .ty "str") (by rfl) B.str (by decide +kernel) rfl) pa_nil))))) (pw_or1 (pt_cmpR op_notIn_seq (pv 0) (pe_glob (v := .ref aW) (by rfl) W.g rfl) (by rfl)))))
        (pss_one (ps_raiseK rfl (takes_of rfl rfl rfl rfl) X_NoWay (by rfl)))
        pss_nil)), ?_⟩
    refine ⟨_, rfl, _, _, _, _, isStrD d, rfl, .ty _, dq_ty hd, kit_strD d, _, rfl, ?_⟩
    cases hd with
    | str z =>
      refine iteF ⟨_, rfl, aW, _, rfl, .inr (W.t H), rfl, rfl, _, rfl, ?_⟩
      show if (!inV (.str z) [.str "swap", .str "spot", .str "shift"]) = true then _ else _
      rw [inV_ways]
      by_cases c : z = "swap" ∨ z = "spot" ∨ z = "shift"
      · rw [decide_eq_true c]
        exact iteF (q1 ⟨z, rfl, c⟩)
      · rw [decide_eq_false c]
        exact iteT (q2 fun y => by obtain ⟨z2, e, h⟩ := y; injection e with e; subst e; exact c h)
    | _ => exact iteT (iteT (q2 fun y => by obtain ⟨z2, e, h⟩ := y; cases e))
end
end Fo
namespace Fo
open PySem PySem.Spec PyProof.Rows L2
/-! what is no number is refused -/
def SizeD (most : Int) (d : PyData) : Prop := ∃ i : Int, d = .int i ∧ 1 ≤ i ∧ i ≤ most
def FromD (least : Int) (d : PyData) : Prop := ∃ i : Int, d = .int i ∧ least ≤ i
def spSizeX (cN : Addr) : Sp := fun vs H Q E => ∃ (v : V) (d : PyData) (most : Int), vs = [v, .int most] ∧ Dq H v d ∧ 0 ≤ most ∧ most ≤ 1000 ∧ (SizeD most d → Q .non H) ∧ (¬ SizeD most d → E (.ref cN) none H)
def spFromX (cN : Addr) : Sp := fun vs H Q E => ∃ (v : V) (d : PyData) (least : Int), vs = [v, .int least] ∧ Dq H v d ∧ 0 ≤ least ∧ least ≤ 1000 ∧ (FromD least d → Q .non H) ∧ (¬ FromD least d → E (.ref cN) none H)
theorem log2_1000 {i : Int} (h1 : 0 ≤ i) (h2 : i ≤ 1000) : i.natAbs.log2 < 1920 := by
  by_cases z : i.natAbs = 0
  · rw [z]
    decide
  · have : i.natAbs.log2 < 10 := by
      rw [Nat.log2_lt z]
      omega
    omega
theorem text_1000 {i : Int} (h1 : 0 ≤ i) (h2 : i ≤ 1000) : (Str.ofString (toString i)).length ≤ 20 := by
  have h : i.natAbs.log2 < 10 := by
    by_cases z : i.natAbs = 0
    · rw [z]
      decide
    · rw [Nat.log2_lt z]
      omega
  have := int_text_length_le (k := 10) (by decide) h
  rw [PySem.ofString_length]
  omega
section
variable {P : Program} {w : World} {K : PySem.W.Frag} {mg : Str → Option Value} {base : Heap}
theorem scSizeX : FnScope ["thing", "most"] ["thing", "most"] (defScope s_check_size) := ⟨rfl, rfl, rfl, by decide +kernel, rfl, by decide +kernel, by decide +kernel⟩
theorem ok_sizeX {f f1 cN : Addr} {fd d1 : FuncData} {k : Nat} (T : Df K mg "check_size" s_check_size ["thing", "most"] f fd) (T_is_whole : Df K mg "is_whole" s_is_whole ["thing"] f1 d1) (G_is_whole : FnOk P w K mg base CX0 k f1 d1 ["thing"] spWholeD) (X_NoNumber : ExK K mg "NoNumber" cN) (B : Bi mg) : FnOk P w K mg base (L2.CX P w) (k + 1) f fd ["thing", "most"] (spSizeX cN) := by
  refine T.F.okX scSizeX (fun vs H Q E h => ?_) (fun cdv A outer s H vs Q E hr h => ?_)
  · obtain ⟨v, d, most, rfl, _⟩ := h
    rfl
  · obtain ⟨v, d, most, rfl, hd, m0, m1, q1, q2⟩ := h
    refine ⟨_, 
      (pss_one (ps_if (PW.pt (pw_or (pt_not (pt_val (pe_call G_is_whole hr (by rfl) T_is_whole.g T_is_whole.F.kp T_is_whole.b .nil pass0 (pa_cons (pv 0) pa_nil)))) (pw_or (pt_cmpR op_lt (pv 0) pe_int (nomark _)) (pw_or1 (pt_cmpR op_gt (pv 0) (pv 1) (nomark _))))))
        (pss_one (ps_raiseA rfl (takes_of rfl rfl rfl rfl) X_NoNumber (by rfl) (pe_joined (PJ.cons pe_str (PJ.cons (pe_fmt (pv 1)) PJ.nil)))))
        pss_nil)), ?_⟩
    have bad : ¬ SizeD most d → tJs [tC (.str "not a whole number from 1 to "), tFmt (tVar 1)] Str.empty [some v, some (.int most)] H fun _ H1 => E (.ref cN) none H1 := fun n => by
      refine ⟨_, rfl, by decide +kernel, _, rfl, .inr ⟨most, rfl, log2_1000 m0 m1, _, rfl, ?_, q2 n⟩⟩
      rw [strLen_append]
      have := text_1000 m0 m1
      exact line_small (by
        have e : (Str.empty ++ ("not a whole number from 1 to " : Str)).length ≤ 40 := by decide +kernel
        have e2 : (toString most : Str) = Str.ofString (toString most) := rfl
        omega)
    refine ⟨_, rfl, v, d, rfl, hd, _, rfl, ?_⟩
    cases hd with
    | int y =>
      refine iteF ⟨_, rfl, y, 1, rfl, rfl, _, rfl, ?_⟩
      by_cases c0 : y < 1
      · rw [decide_eq_true c0]
        exact iteT (iteT (bad fun z => by obtain ⟨i, e, h, _⟩ := z; injection e with e; omega))
      · rw [decide_eq_false c0]
        refine iteF ⟨_, rfl, _, rfl, y, most, rfl, rfl, _, rfl, ?_⟩
        by_cases c1 : most < y
        · rw [decide_eq_true c1]
          exact iteT (bad fun z => by obtain ⟨i, e, _, h⟩ := z; injection e with e; omega)
        · rw [decide_eq_false c1]
          exact iteF (q1 ⟨y, rfl, by omega, by omega⟩)
    | _ => exact iteT (iteT (bad fun z => by obtain ⟨i, e, _⟩ := z; cases e))
theorem scFromX : FnScope ["thing", "least"] ["thing", "least"] (defScope s_check_from) := ⟨rfl, rfl, rfl, by decide +kernel, rfl, by decide +kernel, by decide +kernel⟩
theorem ok_fromX {f f1 cN : Addr} {fd d1 : FuncData} {k : Nat} (T : Df K mg "check_from" s_check_from ["thing", "least"] f fd) (T_is_whole : Df K mg "is_whole" s_is_whole ["thing"] f1 d1) (G_is_whole : FnOk P w K mg base CX0 k f1 d1 ["thing"] spWholeD) (X_NoNumber : ExK K mg "NoNumber" cN) (B : Bi mg) : FnOk P w K mg base (L2.CX P w) (k + 1) f fd ["thing", "least"] (spFromX cN) := by
  refine T.F.okX scFromX (fun vs H Q E h => ?_) (fun cdv A outer s H vs Q E hr h => ?_)
  · obtain ⟨v, d, most, rfl, _⟩ := h
    rfl
  · obtain ⟨v, d, most, rfl, hd, m0, m1, q1, q2⟩ := h
    refine ⟨_, 
      (pss_one (ps_if (PW.pt (pw_or (pt_not (pt_val (pe_call G_is_whole hr (by rfl) T_is_whole.g T_is_whole.F.kp T_is_whole.b .nil pass0 (pa_cons (pv 0) pa_nil)))) (pw_or1 (pt_cmpR op_lt (pv 0) (pv 1) (nomark _)))))
        (pss_one (ps_raiseA rfl (takes_of rfl rfl rfl rfl) X_NoNumber (by rfl) (pe_joined (PJ.cons pe_str (PJ.cons (pe_fmt (pv 1)) (PJ.cons pe_str PJ.nil))))))
        pss_nil)), ?_⟩
    have bad : ¬ FromD most d → tJs [tC (.str "not a whole number from "), tFmt (tVar 1), tC (.str " on")] Str.empty [some v, some (.int most)] H fun _ H1 => E (.ref cN) none H1 := fun n => by
      have := text_1000 m0 m1
      have e : (Str.empty ++ ("not a whole number from " : Str)).length ≤ 40 := by decide +kernel
      have e2 : (toString most : Str) = Str.ofString (toString most) := rfl
      have e3 : (" on" : Str).length = 3 := by decide +kernel
      refine ⟨_, rfl, by decide +kernel, _, rfl, .inr ⟨most, rfl, log2_1000 m0 m1, _, rfl, ?_, _, rfl, ?_, q2 n⟩⟩
      · rw [strLen_append]
        exact line_small (by omega)
      · rw [strLen_append, strLen_append]
        exact line_small (by omega)
    refine ⟨_, rfl, v, d, rfl, hd, _, rfl, ?_⟩
    cases hd with
    | int y =>
      refine iteF ⟨_, rfl, _, rfl, y, most, rfl, rfl, _, rfl, ?_⟩
      by_cases c0 : y < most
      · rw [decide_eq_true c0]
        exact iteT (bad fun z => by obtain ⟨i, e, h⟩ := z; injection e with e; omega)
      · rw [decide_eq_false c0]
        exact iteF (q1 ⟨y, rfl, by omega⟩)
    | _ => exact iteT (iteT (bad fun z => by obtain ⟨i, e, _⟩ := z; cases e))
end
end Fo
namespace Fo
open PySem PySem.Spec PyProof.Rows L2
/-! the bounds that are refused -/
def spPX (cW cN : Addr) : Sp := fun vs H Q E => ∃ (x v u : V) (f d e : PyData) (m : Int), vs = [x, v, .int m, u] ∧ 0 ≤ m ∧ m ≤ 1000 ∧ Dq H x f ∧ Dq H v d ∧ Dq H u e ∧ ((¬ WayD f ∧ E (.ref cW) none H) ∨ (WayD f ∧ ¬ (SizeD m d ∧ FromD 1 e) ∧ E (.ref cN) none H))
def spBX (m : Int) (cW cN : Addr) : Sp := fun vs H Q E => ∃ (x v u : V) (f d e : PyData), vs = [x, v, u] ∧ Dq H x f ∧ Dq H v d ∧ Dq H u e ∧ ((¬ WayD f ∧ E (.ref cW) none H) ∨ (WayD f ∧ ¬ (SizeD m d ∧ FromD 1 e) ∧ E (.ref cN) none H))
def spMX (cN : Addr) : Sp := fun vs H Q E => ∃ (v u : V) (d e : PyData), vs = [v, u] ∧ Dq H v d ∧ Dq H u e ∧ (∀ i : Int, d = .int i → 1 ≤ i → i ≤ 12 → ¬ SizeD i e) ∧ E (.ref cN) none H
section
variable {P : Program} {w : World} {K : PySem.W.Frag} {mg : Str → Option Value} {base : Heap}
theorem scPX : FnScope ["way", "n", "most", "d"] ["way", "n", "most", "d"] (defScope s_check_apart) := ⟨rfl, rfl, rfl, by decide +kernel, rfl, by decide +kernel, by decide +kernel⟩
theorem ok_apX {f f1 f2 f3 cW cN : Addr} {fd d1 d2 d3 : FuncData} {k : Nat} (T : Df K mg "check_apart" s_check_apart ["way", "n", "most", "d"] f fd) (T_check_way : Df K mg "check_way" s_check_way ["thing"] f1 d1) (T_check_size : Df K mg "check_size" s_check_size ["thing", "most"] f2 d2) (T_check_from : Df K mg "check_from" s_check_from ["thing", "least"] f3 d3) (G_check_way : FnOk P w K mg base (L2.CX P w) k f1 d1 ["thing"] (spWayX cW)) (G_check_size : FnOk P w K mg base (L2.CX P w) k f2 d2 ["thing", "most"] (spSizeX cN)) (G_check_from : FnOk P w K mg base (L2.CX P w) k f3 d3 ["thing", "least"] (spFromX cN)) : FnOk P w K mg base (L2.CX P w) (k + 1) f fd ["way", "n", "most", "d"] (spPX cW cN) := by
  refine T.F.okX scPX (fun vs H Q E h => ?_) (fun cdv A outer s H vs Q E hr h => ?_)
  · obtain ⟨x, v, u, f, d, e, m, rfl, _⟩ := h
    rfl
  · obtain ⟨x, v, u, f, d, e, m, rfl, m0, m1, hf, hd, he, q⟩ := h
    refine ⟨_, 
      (pss_cons (ps_expr (pe_callS G_check_way hr (by rfl) T_check_way.g T_check_way.F.kp T_check_way.b (fun σ => passAt (takes_of rfl rfl rfl rfl) σ) (pa_cons (pv 0) pa_nil)))
      (pss_cons (ps_expr (pe_callS G_check_size hr (by rfl) T_check_size.g T_check_size.F.kp T_check_size.b (fun σ => passAt (takes_of rfl rfl rfl rfl) σ) (pa_cons (pv 1) (pa_cons (pv 2) pa_nil))))
      (pss_one (ps_expr (pe_callS G_check_from hr (by rfl) T_check_from.g T_check_from.F.kp T_check_from.b (fun σ => passAt (takes_of rfl rfl rfl rfl) σ) (pa_cons (pv 3) (pa_cons pe_int pa_nil))))))), ?_⟩
    refine ⟨_, rfl, x, f, rfl, hf, fun wy => ?_, fun nw => ?_⟩
    · rcases q with ⟨nw, _⟩ | ⟨_, nn, q⟩
      · exact absurd wy nw
      refine ⟨_, rfl, _, rfl, v, d, m, rfl, hd, m0, m1, fun sz => ?_, fun _ => q⟩
      exact ⟨_, rfl, u, e, 1, rfl, he, by decide, by decide, fun fr => absurd ⟨sz, fr⟩ nn, fun _ => q⟩
    · rcases q with ⟨_, q⟩ | ⟨wy, _⟩
      · exact q
      · exact absurd wy nw
end
end Fo
namespace Fo
open PySem PySem.Spec PyProof.Rows L2
/-! lists of lists of orders -/
def LLL (H : Hp) : List Addr → List (List Addr) → List (List (List Int)) → Prop
  | [], [], [] => True
  | p :: ps, bs :: bss, rs :: rss => H p = some (.lst (bs.map V.ref)) ∧ LL H bs rs ∧ LLL H ps bss rss
  | _, _, _ => False
theorem LLL.len {H : Hp} : ∀ {ps : List Addr} {bss : List (List Addr)} {rss : List (List (List Int))}, LLL H ps bss rss → ps.length = rss.length ∧ bss.length = rss.length
  | [], [], [], _ => ⟨rfl, rfl⟩
  | _ :: _, _ :: _, _ :: _, h => by
    have := LLL.len h.2.2
    exact ⟨by rw [List.length_cons, List.length_cons, this.1], by rw [List.length_cons, List.length_cons, this.2]⟩
  | [], [], _ :: _, h => h.elim
  | [], _ :: _, _, h => h.elim
  | _ :: _, [], _, h => h.elim
  | _ :: _, _ :: _, [], h => h.elim
theorem LLL.keep {H H' : Hp} : ∀ {ps : List Addr} {bss : List (List Addr)} {rss : List (List (List Int))}, LLL H ps bss rss → (∀ a ∈ ps, ∀ o, H a = some o → H' a = some o) → (∀ bs ∈ bss, ∀ a ∈ bs, ∀ o, H a = some o → H' a = some o) → LLL H' ps bss rss
  | [], [], [], _, _, _ => trivial
  | p :: ps, bs :: bss, rs :: rss, h, k1, k2 => ⟨k1 p List.mem_cons_self _ h.1, h.2.1.keep (k2 bs List.mem_cons_self), LLL.keep h.2.2 (fun a ha => k1 a (List.mem_cons_of_mem _ ha)) fun b hb => k2 b (List.mem_cons_of_mem _ hb)⟩
  | [], [], _ :: _, h, _, _ => h.elim
  | [], _ :: _, _, h, _, _ => h.elim
  | _ :: _, [], _, h, _, _ => h.elim
  | _ :: _, _ :: _, [], h, _, _ => h.elim
theorem LLL.keepT {H H' : Hp} (s : KeepT H H') : ∀ {ps : List Addr} {bss : List (List Addr)} {rss : List (List (List Int))}, LLL H ps bss rss → LLL H' ps bss rss
  | [], [], [], _ => trivial
  | p :: ps, bs :: bss, rs :: rss, h => ⟨s.lst h.1, h.2.1.keepT s, LLL.keepT s h.2.2⟩
  | [], [], _ :: _, h => h.elim
  | [], _ :: _, _, h => h.elim
  | _ :: _, [], _, h => h.elim
  | _ :: _, _ :: _, [], h => h.elim
theorem LLL.same {H H' : Hp} {ps : List Addr} {bss : List (List Addr)} {rss : List (List (List Int))} (h : LLL H ps bss rss) (s : Same H H') : LLL H' ps bss rss := h.keepT (KeepT.of_same s)
theorem LLL.get {H : Hp} : ∀ {ps : List Addr} {bss : List (List Addr)} {rss : List (List (List Int))} {i : Nat} {p : Addr}, LLL H ps bss rss → ps[i]? = some p → ∃ bs rs, bss[i]? = some bs ∧ rss[i]? = some rs ∧ H p = some (.lst (bs.map V.ref)) ∧ LL H bs rs
  | [], _, _, _, _, _, e => by simp at e
  | p :: ps, bs :: bss, rs :: rss, 0, q, h, e => by
    have e2 : p = q := Option.some.inj e
    subst e2
    exact ⟨bs, rs, rfl, rfl, h.1, h.2.1⟩
  | p :: ps, bs :: bss, rs :: rss, i + 1, q, h, e => LLL.get (i := i) h.2.2 e
  | _ :: _, [], _, _, _, h, _ => h.elim
  | _ :: _, _ :: _, [], _, _, h, _ => h.elim
theorem LLL.snoc {H : Hp} : ∀ {ps : List Addr} {bss : List (List Addr)} {rss : List (List (List Int))} {p : Addr} {bs : List Addr} {rs : List (List Int)}, LLL H ps bss rss → H p = some (.lst (bs.map V.ref)) → LL H bs rs → LLL H (ps ++ [p]) (bss ++ [bs]) (rss ++ [rs])
  | [], [], [], _, _, _, _, e, f => ⟨e, f, trivial⟩
  | p :: ps, bs :: bss, rs :: rss, _, _, _, h, e, f => ⟨h.1, h.2.1, LLL.snoc h.2.2 e f⟩
  | [], [], _ :: _, _, _, _, h, _, _ => h.elim
  | [], _ :: _, _, _, _, _, h, _, _ => h.elim
  | _ :: _, [], _, _, _, _, h, _, _ => h.elim
  | _ :: _, _ :: _, [], _, _, _, h, _, _ => h.elim
/-- the i-th list is another one from now on -/
theorem LLL.put {H : Hp} : ∀ {ps : List Addr} {bss : List (List Addr)} {rss : List (List (List Int))} {i : Nat} {p : Addr} {bs : List Addr} {rs : List (List Int)}, LLL H ps bss rss → ps.Nodup → (∀ b ∈ bss, p ∉ b) → ps[i]? = some p → LL (upd H p (.lst (bs.map V.ref))) bs rs → LLL (upd H p (.lst (bs.map V.ref))) ps (bss.set i bs) (rss.set i rs)
  | [], _, _, _, _, _, _, _, _, _, e, _ => by simp at e
  | p :: ps, b0 :: bss, r0 :: rss, 0, q, bs, rs, h, nd, hb, e, f => by
    have e2 : p = q := Option.some.inj e
    subst e2
    refine ⟨upd_same, f, h.2.2.keep (fun a ha o eo => ?_) fun b hbm a ha o eo => ?_⟩
    · rw [upd_ne (fun z => (List.nodup_cons.mp nd).1 (by rw [← z]; exact ha))]
      exact eo
    · rw [upd_ne (fun z => hb b (List.mem_cons_of_mem _ hbm) (by rw [← z]; exact ha))]
      exact eo
  | p :: ps, b0 :: bss, r0 :: rss, i + 1, q, bs, rs, h, nd, hb, e, f => by
    have hm : q ∈ ps := List.mem_of_getElem? (show ps[i]? = some q from e)
    refine ⟨?_, h.2.1.keep fun a ha o eo => ?_, LLL.put (i := i) h.2.2 (List.nodup_cons.mp nd).2 (fun b hbm => hb b (List.mem_cons_of_mem _ hbm)) e f⟩
    · rw [upd_ne (fun z => (List.nodup_cons.mp nd).1 (by rw [z]; exact hm))]
      exact h.1
    · rw [upd_ne (fun z => hb b0 List.mem_cons_self (by rw [← z]; exact ha))]
      exact eo
  | _ :: _, [], _, _, _, _, _, h, _, _, _, _ => h.elim
  | _ :: _, _ :: _, [], _, _, _, _, h, _, _, _, _ => h.elim
/-! the parting -/
def nearAll (w : Str) (d : Int) (xs : List Int) (rs : List (List Int)) : Bool := rs.all fun o => decide (farW w xs o < d)
theorem nearAll_more {w : Str} {d : Int} {xs : List Int} {rs : List (List Int)} {i : Nat} {r : List Int} (h : rs[i]? = some r) : nearAll w d xs (rs.take (i + 1)) = (nearAll w d xs (rs.take i) && decide (farW w xs r < d)) := by
  unfold nearAll
  rw [List.take_add_one, h, List.all_append]
  show (_ && (decide (farW w xs r < d) && true)) = _
  rw [Bool.and_true]
theorem nearAll_false {w : Str} {d : Int} {xs : List Int} {rs : List (List Int)} {i : Nat} {r : List Int} (h : rs[i]? = some r) (hf : decide (farW w xs r < d) = false) : nearAll w d xs rs = false := by
  unfold nearAll
  rw [List.all_eq_false]
  exact ⟨r, List.mem_of_getElem? h, by rw [hf]; decide⟩
def homeP (w : Str) (d : Int) (o : List Int) (pp : List (List (List Int))) : Option Nat := pp.findIdx? (nearAll w d o)
def stepP (w : Str) (d : Int) (pp : List (List (List Int))) (o : List Int) : List (List (List Int)) := match homeP w d o pp with
  | none => pp ++ [[o]]
  | some i => pp.set i (pp.getD i [] ++ [o])
def partL (w : Str) (d : Int) (os : List (List Int)) : List (List (List Int)) := os.foldl (stepP w d) []
theorem partL_more {w : Str} {d : Int} {os : List (List Int)} {i : Nat} {o : List Int} (h : os[i]? = some o) : partL w d (os.take (i + 1)) = stepP w d (partL w d (os.take i)) o := by
  unfold partL
  rw [List.take_add_one, h, List.foldl_append]
  rfl
theorem stepP_mem {w : Str} {d : Int} {pp : List (List (List Int))} {o x : List Int} {rs : List (List Int)} (h : rs ∈ stepP w d pp o) (hx : x ∈ rs) : x = o ∨ ∃ rs' ∈ pp, x ∈ rs' := by
  unfold stepP at h
  split at h
  · rcases List.mem_append.mp h with h | h
    · exact .inr ⟨rs, h, hx⟩
    · rw [List.mem_singleton.mp h] at hx
      exact .inl (List.mem_singleton.mp hx)
  · rename_i i e
    rcases List.mem_or_eq_of_mem_set h with h | h
    · exact .inr ⟨rs, h, hx⟩
    · rw [h] at hx
      rcases List.mem_append.mp hx with hx | hx
      · right
        rw [List.getD_eq_getElem?_getD] at hx
        cases e2 : pp[i]? with
        | none => rw [e2] at hx; cases hx
        | some r => rw [e2] at hx; exact ⟨r, List.mem_of_getElem? e2, hx⟩
      · exact .inl (List.mem_singleton.mp hx)
theorem partL_mem {w : Str} {d : Int} {os : List (List Int)} : ∀ {i : Nat} {x : List Int} {rs : List (List Int)}, i ≤ os.length → rs ∈ partL w d (os.take i) → x ∈ rs → x ∈ os
  | 0, x, rs, _, h, hx => by
    rw [List.take_zero] at h
    cases h
  | i + 1, x, rs, hi, h, hx => by
    have e : os[i]? = some os[i] := List.getElem?_eq_getElem hi
    rw [partL_more e] at h
    rcases stepP_mem h hx with z | ⟨rs', h1, h2⟩
    · rw [z]
      exact List.getElem_mem hi
    · exact partL_mem (i := i) (by omega) h1 h2
def spIsNear (Pt : Addr) : Sp := fun vs H Q _ => ∃ (w : Str) (d : Int) (a l : Addr) (n : Nat) (xs : List Int) (bs : List Addr) (rs : List (List Int)), vs = [.str w, .int d, .ref a, .ref l] ∧ IsWay w ∧ H a = some (.lst (xs.map V.int)) ∧ IsOrd n xs ∧ 1 ≤ n ∧ n ≤ 12 ∧
  H l = some (.lst (bs.map V.ref)) ∧ LL H bs rs ∧ (∀ r ∈ rs, IsOrd n r) ∧ GxR.TabG H Pt ∧ ∀ H', KeepT H H' → Q (.bl (nearAll w d xs rs)) H'
def optV : Option Nat → V
  | none => .non
  | some i => .int (i : Int)
def spFNear (Pt : Addr) : Sp := fun vs H Q _ => ∃ (w : Str) (d : Int) (a l : Addr) (n : Nat) (xs : List Int) (ps : List Addr) (bss : List (List Addr)) (rss : List (List (List Int))), vs = [.str w, .int d, .ref a, .ref l] ∧ IsWay w ∧ H a = some (.lst (xs.map V.int)) ∧ IsOrd n xs ∧ 1 ≤ n ∧ n ≤ 12 ∧
  H l = some (.lst (ps.map V.ref)) ∧ LLL H ps bss rss ∧ (∀ rs ∈ rss, ∀ r ∈ rs, IsOrd n r) ∧ GxR.TabG H Pt ∧ ∀ H', KeepT H H' → Q (optV (homeP w d xs rss)) H'
def spParting (Pt : Addr) : Sp := fun vs H Q _ => ∃ (w : Str) (n : Nat) (d : Int), vs = [.str w, .int n, .int d] ∧ IsWay w ∧ 1 ≤ n ∧ n ≤ 5 ∧ 1 ≤ d ∧ GxR.TabG H Pt ∧
  ∀ (l : Addr) (ps : List Addr) (bss : List (List Addr)) (H' : Hp), H l = none → H' l = some (.lst (ps.map V.ref)) → LLL H' ps bss (partL w d (allK n n)) → (∀ p ∈ ps, H p = none ∧ p ≠ l ∧ ∀ bs ∈ bss, p ∉ bs) → ps.Nodup → (∀ bs ∈ bss, ∀ b ∈ bs, H b = none ∧ b ≠ l) → bss.flatten.Nodup → KeepT H H' → Q (.ref l) H'
theorem flat_set : ∀ {bss : List (List Addr)} {i : Nat} {bs : List Addr} {c : Addr}, bss[i]? = some bs → (bss.set i (bs ++ [c])).flatten.Perm (bss.flatten ++ [c])
  | [], _, _, _, e => by simp at e
  | b :: bss, 0, bs, c, e => by
    have e2 : b = bs := Option.some.inj e
    subst e2
    show ((b ++ [c]) ++ bss.flatten).Perm ((b ++ bss.flatten) ++ [c])
    rw [List.append_assoc, List.append_assoc]
    exact List.Perm.append_left b List.perm_append_comm
  | b :: bss, i + 1, bs, c, e => by
    show (b ++ (bss.set i (bs ++ [c])).flatten).Perm ((b ++ bss.flatten) ++ [c])
    rw [List.append_assoc]
    exact List.Perm.append_left b (flat_set (i := i) e)
section
variable {P : Program} {w : World} {K : PySem.W.Frag} {mg : Str → Option Value} {base : Heap}
theorem scIsNear : FnScope ["way", "d", "order", "others", "other"] ["way", "d", "order", "others"] (defScope s_is_near) := ⟨rfl, rfl, rfl, by decide +kernel, rfl, by decide +kernel, by decide +kernel⟩
set_option maxHeartbeats 2000000 in
theorem ok_isNear {f f1 c Pt : Addr} {fd d1 : FuncData} {k : Nat} (T : DfC K mg "is_near" s_is_near ["way", "d", "order", "others"] f fd c) (TB : LamX.TabB base mg c Pt) (T_known_far : Df K mg "known_far" s_known_far ["way", "one", "other"] f1 d1) (G_known_far : FnOk P w K mg base CX0 k f1 d1 ["way", "one", "other"] spFar) (B : Bi mg) :
    FnOk P w K mg base CX0 (k + 2) f fd ["way", "d", "order", "others"] (spIsNear Pt) := by
  refine fun_okC T.F T.c scIsNear (fun vs H Q E h => ?_) (fun A outer s H vs Q E hr h => ?_)
  · obtain ⟨z, d, a, l, n, xs, bs, rs, rfl, _⟩ := h
    rfl
  · obtain ⟨z, d, a, l, n, xs, bs, rs, rfl, hz, ha, ox, hn1, hn2, hl, hL, ho, ht, q⟩ := h
    refine ⟨_, 
      (pss_one (ps_ret (pe_allG (own := [("other", 4)]) (gt := (gName 4)) (te := (tOp (rI0 fun i j => .bl (decide (i < j))) (tCall spFar [] E0 (tCons (tVar 0) (tCons (tVar 2) (tCons (tVar 4) tNil)))) (tVar 1))) rfl scIsNear.nd hr (by rfl) B.all (by decide +kernel) TB rfl (pi_list (pv 3)) (blkOk_by (N := ["way", "d", "order", "others", "other"]) (sc := defScope s_is_near) (by decide +kernel)) (gsc_by (by decide +kernel)) (fun _ _ _ _ _ _ _ => (pg_name (i := 4) scIsNear.nd rfl (.inl rfl))) (fun _ _ _ _ _ _ _ => (pe_cmpR op_lt (pe_call G_known_far (room_gen hr) (by rfl) T_known_far.g T_known_far.F.kp T_known_far.b .nil pass0 (pa_cons (pv 0) (pa_cons (pv 2) (pa_cons (pv 4) pa_nil)))) (pv 1) (nomark _)))))), ?_⟩
    refine ⟨_, rfl, l, rfl, ⟨_, SqL.of hl⟩, ht, fun H2 tb => ?_⟩
    have k2 := KeepT.of_tabbed ht tb
    refine all_list (K := K) (a := l) (xs := bs.map V.ref) (fun i H3 => KeepT H H3 ∧ nearAll z d xs (rs.take i) = true) ⟨k2, rfl⟩ (fun i H3 _ hP => SqL.of (hP.1.lst hl)) (fun i x H3 hx hP => ?_) (fun H3 hP => ?_) (fun x H3 p p' hpq h => ?_)
    · obtain ⟨k3, hall⟩ := hP
      obtain ⟨r, er, rfl⟩ := ref_at_inv hx
      obtain ⟨row, erow, hrow⟩ := hL.get er
      refine ⟨rfl, _, rfl, _, rfl, _, rfl, z, a, r, n, xs, row, rfl, hz, k3.lst ha, k3.lst hrow, ox, ho _ (List.mem_of_getElem? erow), hn1, hn2, fun H4 s4 => ?_⟩
      have k4 := k3.trans (KeepT.of_same s4)
      refine ⟨_, rfl, _, _, rfl, rfl, _, rfl, ?_⟩
      cases hb : decide (farW z xs row < d) with
      | true => exact ⟨k4, by rw [nearAll_more erow, hall, hb]; rfl⟩
      | false =>
        have z2 := q H4 k4
        rw [nearAll_false erow hb] at z2
        exact z2
    · obtain ⟨k3, hall⟩ := hP
      rw [List.length_map, hL.len, List.take_length] at hall
      have z2 := q H3 k3
      rw [hall] at z2
      exact z2
    · obtain ⟨e1, i1, e2, i3, e3, i4, e4, zz, a', b', n', xs', ys', e5, r1, r2, r3, r4, r5, r6, r7, r8⟩ := h
      exact ⟨e1, i1, e2, i3, e3, i4, e4, zz, a', b', n', xs', ys', e5, r1, r2, r3, r4, r5, r6, r7, fun H4 s4 => by
        obtain ⟨j, ej, u1, u2, e6, e7, e8⟩ := r8 H4 s4
        exact ⟨j, ej, u1, u2, e6, e7, hpq _ _ e8⟩⟩
theorem scFNear : FnScope ["way", "d", "order", "parts", "place", "part"] ["way", "d", "order", "parts"] (defScope s_first_near) := ⟨rfl, rfl, rfl, by decide +kernel, rfl, by decide +kernel, by decide +kernel⟩
set_option maxHeartbeats 2000000 in
theorem ok_fnear {f f1 c0 Pt : Addr} {fd d1 : FuncData} {k : Nat} (T : Df K mg "first_near" s_first_near ["way", "d", "order", "parts"] f fd) (T_is_near : DfC K mg "is_near" s_is_near ["way", "d", "order", "others"] f1 d1 c0) (G_is_near : FnOk P w K mg base CX0 k f1 d1 ["way", "d", "order", "others"] (spIsNear Pt)) (B : Bi mg) :
    FnOk P w K mg base CX0 (k + 1) f fd ["way", "d", "order", "parts"] (spFNear Pt) := by
  refine T.F.ok scFNear (fun vs H Q E h => ?_) (fun cdv A outer s H vs Q E hr h => ?_)
  · obtain ⟨z, d, a, l, n, xs, ps, bss, rss, rfl, _⟩ := h
    rfl
  · obtain ⟨z, d, a, l, n, xs, ps, bss, rss, rfl, hz, ha, ox, hn1, hn2, hl, hL, ho, ht, q⟩ := h
    refine ⟨_, 
      (pss_cons (ps_for PassesOwn.never rfl (pi_enum (by rfl) B.enumerate (pa_cons (pv 3) pa_nil)) (pg_tup (by rfl) (pgs_cons (pg_name (i := 4) scFNear.nd rfl (.inl rfl)) (pgs_cons (pg_name (i := 5) scFNear.nd rfl (.inl rfl)) pgs_nil)))
        (pss_one (ps_if (pt_val (pe_call G_is_near hr (by rfl) T_is_near.g T_is_near.F.kp T_is_near.b .nil pass0 (pa_cons (pv 0) (pa_cons (pv 1) (pa_cons (pv 2) (pa_cons (pv 5) pa_nil))))))
          (pss_one (ps_ret (pv 4)))
          pss_nil)))
      (pss_one (ps_ret pe_non))), ?_⟩
    refine ⟨_, rfl, l, _, rfl, SqL.of hl, ?_⟩
    refine for_enumL (xs := ps.map V.ref) (fun i σ H3 => ∃ (y4 y5 : Option V), σ = [some (.str z), some (.int d), some (.ref a), some (.ref l), y4, y5] ∧ KeepT H H3 ∧ ∀ j (hj : j < rss.length), j < i → nearAll z d xs rss[j] = false)
      ⟨none, none, rfl, KeepT.refl _, fun j hj h => by omega⟩ (fun i σ H3 hP => by obtain ⟨_, _, _, k3, _⟩ := hP; exact SqL.of (k3.lst hl)) (fun i x t σ H3 hx hP nt => ?_) (fun σ H3 hP => ?_)
    · obtain ⟨y4, y5, rfl, k3, hno⟩ := hP
      obtain ⟨p, ep, rfl⟩ := ref_at_inv hx
      obtain ⟨bs, rs, ebs, ers, hp, hLp⟩ := hL.get ep
      have s3 := same_new (o := .tup [.int (i : Nat), .ref p]) nt
      have k4 := k3.trans (KeepT.of_same s3)
      refine ⟨t, _, rfl, .inl (.inl upd_same), rfl, _, _, rfl, _, _, rfl, rfl, ?_⟩
      refine ⟨_, rfl, _, rfl, _, rfl, _, rfl, z, d, a, p, n, xs, bs, rs, rfl, hz, k4.lst ha, ox, hn1, hn2, k4.lst hp, hLp.keepT k4, ho rs (List.mem_of_getElem? ers), k4.tab ht, fun H5 k5 => ?_⟩
      have k45 := k4.trans k5
      have hi := (List.getElem?_eq_some_iff.mp ers).1
      have ei := (List.getElem?_eq_some_iff.mp ers).2
      refine ⟨_, rfl, ?_⟩
      cases hb : nearAll z d xs rs with
      | true =>
        refine iteT ⟨_, rfl, ?_⟩
        have z2 := q H5 k45
        have e9 : homeP z d xs rss = some i := by
          unfold homeP
          rw [List.findIdx?_eq_some_iff_getElem]
          exact ⟨hi, by rw [ei]; exact hb, fun j hji => by rw [hno j (by omega) hji]; decide⟩
        rw [e9] at z2
        exact z2
      | false =>
        refine iteF ⟨_, _, rfl, k45, fun j hj hji => ?_⟩
        by_cases e : j = i
        · subst e
          rw [ei]
          exact hb
        · exact hno j hj (by omega)
    · obtain ⟨y4, y5, rfl, k3, hno⟩ := hP
      have z2 := q H3 k3
      have e9 : homeP z d xs rss = none := by
        unfold homeP
        rw [List.findIdx?_eq_none_iff]
        intro r hr
        obtain ⟨j, hj, ej⟩ := List.getElem_of_mem hr
        rw [← ej]
        exact hno j hj (by rw [List.length_map, hL.len.1]; exact hj)
      rw [e9] at z2
      exact z2
end
end Fo
namespace Fo
open PySem PySem.Spec PyProof.Rows L2
theorem set_some {α : Type} {l : List α} {i : Nat} {x : α} (h : l[i]? = some x) (d : α) : l.getD i d = x := by
  rw [List.getD_eq_getElem?_getD, h]
  rfl
section
variable {P : Program} {w : World} {K : PySem.W.Frag} {mg : Str → Option Value} {base : Heap}
theorem scPart : FnScope ["way", "n", "d", "parts", "order", "place"] ["way", "n", "d"] (defScope s_first_parting) := ⟨rfl, rfl, rfl, by decide +kernel, rfl, by decide +kernel, by decide +kernel⟩
set_option maxHeartbeats 4000000 in
theorem ok_parting {f f1 f2 f3 Pt : Addr} {fd d1 d2 d3 : FuncData} {k : Nat} {tk : Tok} (T : Df K mg "first_parting" s_first_parting ["way", "n", "d"] f fd) (T_check_apart : Df K mg "check_apart" s_check_apart ["way", "n", "most", "d"] f1 d1) (T_all_orders : Df K mg "all_orders" s_all_orders ["n"] f2 d2) (T_first_near : Df K mg "first_near" s_first_near ["way", "d", "order", "parts"] f3 d3)
    (G_check_apart : FnOk P w K mg base CX0 k f1 d1 ["way", "n", "most", "d"] spApart) (G_all_orders : FnOk P w K mg base CX0 k f2 d2 ["n"] spAllO) (G_first_near : FnOk P w K mg base CX0 k f3 d3 ["way", "d", "order", "parts"] (spFNear Pt)) (B : Bi mg) (mL : mg "MOST_PARTED" = some (.int 5 tk)) :
    FnOk P w K mg base CX0 (k + 1) f fd ["way", "n", "d"] (spParting Pt) := by
  refine T.F.ok scPart (fun vs H Q E h => ?_) (fun cdv A outer s H vs Q E hr h => ?_)
  · obtain ⟨z, n, d, rfl, _⟩ := h
    rfl
  · obtain ⟨z, n, d, rfl, hz, hn1, hn2, hd, ht, q⟩ := h
    refine ⟨_, 
      (pss_cons (ps_expr (pe_call G_check_apart hr (by rfl) T_check_apart.g T_check_apart.F.kp T_check_apart.b .nil pass0 (pa_cons (pv 0) (pa_cons (pv 1) (pa_cons (pe_glob (v := .int 5) (by rfl) mL ⟨_, rfl⟩) (pa_cons (pv 2) pa_nil))))))
      (pss_cons (ps_set (i := 3) scPart.nd rfl (.inl rfl) (pe_lst pa_nil))
      (pss_cons (ps_for PassesOwn.never rfl (pi_list (pe_call G_all_orders hr (by rfl) T_all_orders.g T_all_orders.F.kp T_all_orders.b .nil pass0 (pa_cons (pv 1) pa_nil))) (pg_name (i := 4) scPart.nd rfl (.inl rfl))
        (pss_cons (ps_set (i := 5) scPart.nd rfl (.inl rfl) (pe_call G_first_near hr (by rfl) T_first_near.g T_first_near.F.kp T_first_near.b .nil pass0 (pa_cons (pv 0) (pa_cons (pv 2) (pa_cons (pv 4) (pa_cons (pv 3) pa_nil))))))
        (pss_one (ps_if (pt_cmpR op_isN (pv 5) pe_non (nomark _))
          (pss_one (ps_expr (pe_bm PySem.F.plainAttrs_list PySem.F.slot_list_append PySem.F.type_list_append mt_append (pv 3) (pa_cons (pe_lst (pa_cons (pv 4) pa_nil)) pa_nil))))
          (pss_one (ps_expr (pe_bm PySem.F.plainAttrs_list PySem.F.slot_list_append PySem.F.type_list_append mt_append (pe_ix ix_list (pv 3) (pv 5) (fun _ _ => rfl)) (pa_cons (pv 4) pa_nil))))))))
      (pss_one (ps_ret (pv 3)))))), ?_⟩
    refine ⟨_, rfl, _, rfl, _, rfl, z, (n : Int), 5, d, rfl, hz, by omega, by omega, hd, ?_⟩
    refine ⟨Nat.zero_le _, fun l nl => ?_⟩
    have s0 := same_new (o := .lst []) nl
    refine ⟨_, rfl, n, rfl, hn1, by omega, fun r as H2 nr hr2 hLL hfr hnd s2 => ?_⟩
    have hl2 : H2 l = some (.lst []) := s2 _ _ upd_same
    have nrl : r ≠ l := fun z => by rw [z, upd_same] at nr; cases nr
    have hlen := hLL.len
    have hal := allK_len (show n ≤ 6 by omega) n (Nat.le_refl _)
    have hp6 := pow6 (show n ≤ 6 by omega)
    have hbl : ∀ u ∈ as, u ≠ l := fun u hu z => by have := (hfr u hu).1; rw [z, upd_same] at this; cases this
    have hbr : ∀ u ∈ as, u ≠ r := fun u hu => (hfr u hu).2
    refine ⟨r, rfl, ⟨_, SqL.of hr2⟩, ?_⟩
    refine for_list (xs := as.map V.ref) (fun m σ H3 => ∃ (y4 y5 : Option V) (ps : List Addr) (bss : List (List Addr)), σ = [some (.str z), some (.int n), some (.int d), some (.ref l), y4, y5] ∧ H3 l = some (.lst (ps.map V.ref)) ∧ LLL H3 ps bss (partL z d ((allK n n).take m)) ∧ bss.flatten.Perm (as.take m) ∧ ps.length ≤ m ∧ ps.Nodup ∧ (∀ p ∈ ps, H p = none ∧ p ≠ l ∧ p ≠ r ∧ p ∉ as) ∧ KeepT H H3 ∧ H3 r = some (.lst (as.map V.ref)) ∧ LL H3 as (allK n n))
      ⟨_, _, [], [], rfl, hl2, trivial, List.Perm.refl _, Nat.le_refl _, List.nodup_nil, fun _ h => absurd h List.not_mem_nil, KeepT.of_same (s0.trans s2), hr2, hLL⟩ (fun m σ H3 _ hP => by obtain ⟨_, _, _, _, _, _, _, _, _, _, _, _, h7, _⟩ := hP; exact SqL.of h7) (fun m x σ H3 hx hP => ?_) (fun σ H3 hP => ?_)
    · obtain ⟨y4, y5, ps, bss, rfl, hl3, hL3, hfl, hpl, hpn, hpf, k3, hr3, hA3⟩ := hP
      obtain ⟨c, ec, rfl⟩ := ref_at_inv hx
      obtain ⟨row, erow, hrow⟩ := hA3.get ec
      have etk : as.take (m + 1) = as.take m ++ [c] := by rw [List.take_add_one, ec]; rfl
      have hm := (List.getElem?_eq_some_iff.mp ec).1
      have hca : c ∈ as := List.mem_of_getElem? ec
      have inAs : ∀ bs ∈ bss, ∀ b ∈ bs, b ∈ as := fun bs hb b hbb => List.mem_of_mem_take (hfl.subset (List.mem_flatten.mpr ⟨bs, hb, hbb⟩))
      refine ⟨_, rfl, _, rfl, _, rfl, _, rfl, z, d, c, l, n, row, ps, bss, _, rfl, hz, hrow, all_ord (List.mem_of_getElem? erow), hn1, by omega, hl3, hL3, fun rs hrs o ho => all_ord (partL_mem (by rw [← hlen]; omega) hrs ho), k3.tab ht, fun H4 k4 => ?_⟩
      have k34 := k3.trans k4
      have hl4 := k4.lst hl3
      have hL4 := hL3.keepT k4
      have hrow4 := k4.lst hrow
      have hr4 := k4.lst hr3
      have hA4 := hA3.keepT k4
      cases hh : homeP z d row (partL z d ((allK n n).take m)) with
      | none =>
        refine ⟨_, rfl, rfl, _, rfl, iteT ?_⟩
        refine ⟨_, rfl, .inl ⟨rfl, _, SqL.of hl4⟩, _, rfl, line_small (by show 1 ≤ 16777216; decide), fun p np => ?_⟩
        have sp := same_new (o := .lst [.ref c]) np
        have npl : p ≠ l := (ne_of_none hl4 np).symm
        have npr : p ≠ r := (ne_of_none hr4 np).symm
        have npa : p ∉ as := fun hp => by
          obtain ⟨o, eo⟩ := hA4.tracked hp
          rw [np] at eo
          cases eo
        have npp : p ∉ ps := fun hp => by
          obtain ⟨i, hi⟩ := List.mem_iff_getElem?.mp hp
          obtain ⟨_, _, _, _, e, _⟩ := hL4.get hi
          rw [np] at e
          cases e
        refine ⟨l, _, _, rfl, rfl, sp _ _ hl4, line_lt (by rw [List.length_map]; omega), ?_⟩
        have kup : ∀ {u : Addr} {o : HO}, u ≠ l → H4 u = some o → (upd (upd H4 p (.lst [.ref c])) l (.lst (ps.map V.ref ++ [.ref p]))) u = some o := fun {u o} hu e => by rw [upd_ne hu]; exact sp _ _ e
        refine ⟨_, _, ps ++ [p], bss ++ [[c]], rfl, by rw [upd_same, List.map_append]; rfl, ?_, ?_, by rw [List.length_append, List.length_singleton]; omega, ?_, fun u hu => ?_, ⟨fun b o e f => ?_, fun b qq e => ?_⟩, kup nrl hr4, hA4.keep fun u hu o e => kup (hbl u hu) e⟩
        · rw [partL_more erow]
          unfold stepP
          rw [hh]
          refine LLL.snoc (hL4.keep (fun u hu o e => kup (hpf u hu).2.1 e) fun bs hb u hu o e => kup (hbl u (inAs bs hb u hu)) e) ?_ ⟨kup (hbl c hca) hrow4, trivial⟩
          rw [upd_ne npl, upd_same]
          rfl
        · rw [etk, List.flatten_append]
          exact hfl.append_right _
        · rw [List.nodup_append]
          exact ⟨hpn, List.nodup_cons.mpr ⟨List.not_mem_nil, List.nodup_nil⟩, fun x hx y hy e => npp (by rw [← List.mem_singleton.mp hy, ← e]; exact hx)⟩
        · rcases List.mem_append.mp hu with hu | hu
          · exact hpf u hu
          · rw [List.mem_singleton.mp hu]
            exact ⟨k34.free np, npl, npr, npa⟩
        · rw [upd_ne (ne_of_none e nl), upd_ne (ne_of_none e (k34.free np))]
          exact k34.1 b o e f
        · rw [upd_ne (ne_of_none e nl), upd_ne (ne_of_none e (k34.free np))]
          exact k34.2 b qq e
      | some i =>
        have hi : i < (partL z d ((allK n n).take m)).length := by
          unfold homeP at hh
          exact (List.findIdx?_eq_some_iff_getElem.mp hh).1
        have hips : i < ps.length := by rw [hL4.len.1]; exact hi
        have ep : ps[i]? = some ps[i] := List.getElem?_eq_getElem hips
        obtain ⟨bs, rs, ebs, ers, hp, hLp⟩ := hL4.get ep
        generalize hpd : ps[i] = p at ep hp
        have hpp : p ∈ ps := List.mem_of_getElem? ep
        have hpb : ∀ b ∈ bss, p ∉ b := fun b hb z => (hpf p hpp).2.2.2 (inAs b hb p z)
        have hbsl : bs.length ≤ m := by
          have h1 : bs.length ≤ bss.flatten.length := (List.sublist_flatten_of_mem (List.mem_of_getElem? ebs)).length_le
          have h2 := hfl.length_eq
          rw [List.length_take] at h2
          omega
        refine ⟨_, rfl, rfl, _, rfl, iteF ?_⟩
        refine ⟨_, rfl, _, rfl, l, _, _, _, rfl, rfl, SqL.of hl4, at_of (j := i) rfl (ref_at ep), .inl ⟨rfl, _, SqL.of hp⟩, _, rfl, p, _, _, rfl, rfl, hp, line_lt (by rw [List.length_map]; omega), ?_⟩
        have kup : ∀ {u : Addr} {o : HO}, u ≠ p → H4 u = some o → (upd H4 p (.lst (bs.map V.ref ++ [.ref c]))) u = some o := fun {u o} hu e => by rw [upd_ne hu]; exact e
        have eup : upd H4 p (.lst (bs.map V.ref ++ [.ref c])) = upd H4 p (.lst ((bs ++ [c]).map V.ref)) := by rw [List.map_append]; rfl
        refine ⟨_, _, ps, bss.set i (bs ++ [c]), rfl, kup (fun z => (hpf p hpp).2.1 z.symm) hl4, ?_, ?_, by omega, hpn, hpf, ⟨fun b o e f => ?_, fun b qq e => ?_⟩, kup (fun z => (hpf p hpp).2.2.1 z.symm) hr4, hA4.keep fun u hu o e => kup (fun z => (hpf p hpp).2.2.2 (by rw [← z]; exact hu)) e⟩
        · rw [partL_more erow]
          unfold stepP
          rw [hh]
          show LLL _ ps _ ((partL z d ((allK n n).take m)).set i ((partL z d ((allK n n).take m)).getD i [] ++ [row]))
          rw [set_some ers, eup]
          refine LLL.put hL4 hpn hpb ep ?_
          rw [← eup]
          refine LL.snoc (hLp.keep fun u hu o e => kup (fun z => hpb bs (List.mem_of_getElem? ebs) (by rw [← z]; exact hu)) e) ?_
          exact kup (fun z => (hpf p hpp).2.2.2 (by rw [← z]; exact hca)) hrow4
        · rw [etk]
          exact (flat_set ebs).trans (hfl.append_right _)
        · rw [upd_ne (ne_of_none e (hpf p hpp).1)]
          exact k34.1 b o e f
        · rw [upd_ne (ne_of_none e (hpf p hpp).1)]
          exact k34.2 b qq e
    · obtain ⟨y4, y5, ps, bss, rfl, hl3, hL3, hfl, hpl, hpn, hpf, k3, hr3, hA3⟩ := hP
      rw [List.length_map, hlen, List.take_length] at hL3
      rw [List.length_map, List.take_length] at hfl
      have inAs : ∀ bs ∈ bss, ∀ b ∈ bs, b ∈ as := fun bs hb b hbb => hfl.subset (List.mem_flatten.mpr ⟨bs, hb, hbb⟩)
      refine ⟨_, rfl, q l ps bss H3 nl hl3 hL3 (fun p hp => ⟨(hpf p hp).1, (hpf p hp).2.1, fun bs hb z => (hpf p hp).2.2.2 (inAs bs hb p z)⟩) hpn (fun bs hb b hbb => ?_) (hfl.nodup_iff.mpr hnd) k3⟩
      exact ⟨s0.free (hfr b (inAs bs hb b hbb)).1, hbl b (inAs bs hb b hbb)⟩
end
end Fo
namespace Fo
open PySem PySem.Spec PyProof.Rows L2
def stepF (w : Str) (d : Int) (acc : List (List Int)) (o : List Int) : List (List Int) := if farAll w d o acc = true then acc ++ [o] else acc
def firstL (w : Str) (d : Int) (os : List (List Int)) : List (List Int) := os.foldl (stepF w d) []
theorem firstL_more {w : Str} {d : Int} {os : List (List Int)} {i : Nat} {o : List Int} (h : os[i]? = some o) : firstL w d (os.take (i + 1)) = stepF w d (firstL w d (os.take i)) o := by
  unfold firstL
  rw [List.take_add_one, h, List.foldl_append]
  rfl
theorem firstL_snoc (w : Str) (d : Int) (os : List (List Int)) (o : List Int) : firstL w d (os ++ [o]) = stepF w d (firstL w d os) o := by
  unfold firstL
  rw [List.foldl_append]
  rfl
theorem firstL_sub (w : Str) (d : Int) (os : List (List Int)) : ∀ i, i ≤ os.length → (firstL w d (os.take i)).Sublist (os.take i)
  | 0, _ => by
    rw [List.take_zero]
    exact List.Sublist.refl _
  | i + 1, h => by
    have ih := firstL_sub w d os i (by omega)
    have e : os[i]? = some os[i] := List.getElem?_eq_getElem h
    rw [firstL_more e, List.take_add_one, e]
    unfold stepF
    split
    · exact ih.append (List.Sublist.refl _)
    · exact ih.trans (List.sublist_append_left _ _)
theorem firstL_subset (w : Str) (d : Int) (os : List (List Int)) {o : List Int} (h : o ∈ firstL w d os) : o ∈ os := by
  have z := firstL_sub w d os os.length (Nat.le_refl _)
  rw [List.take_length] at z
  exact z.subset h
theorem first_one {w : Str} {n : Nat} (hw : IsWay w) (hn : 1 ≤ n) (os : List (List Int)) (ho : ∀ o ∈ os, IsOrd n o) (hnd : os.Nodup) : firstL w 1 os = os := by
  have key : ∀ i, i ≤ os.length → firstL w 1 (os.take i) = os.take i := by
    intro i
    induction i with
    | zero =>
      intro _
      rw [List.take_zero]
      rfl
    | succ i ih =>
      intro h
      have e : os[i]? = some os[i] := List.getElem?_eq_getElem h
      rw [firstL_more e, ih (by omega), List.take_add_one, e]
      unfold stepF
      rw [if_pos]
      · rfl
      unfold farAll
      rw [List.all_eq_true]
      intro r hr
      apply decide_eq_true
      have h0 := farW_nonneg w os[i] r
      have hne : farW w os[i] r ≠ 0 := fun z => by
        have e2 := farW_zero hw (ho _ (List.getElem_mem h)) (ho _ (List.mem_of_mem_take hr)) hn z
        obtain ⟨j, hj⟩ := List.mem_iff_getElem?.mp hr
        rw [List.getElem?_take] at hj
        split at hj
        · rename_i hlt
          rw [← e2] at hj
          have := (List.getElem?_inj (l := os) (i := j) (j := i) (by omega) hnd).mp (hj.trans e.symm)
          omega
        · cases hj
      omega
  have z := key os.length (Nat.le_refl _)
  rw [List.take_length] at z
  exact z
theorem far_none {w : Str} {d : Int} {xs : List Int} {rs : List (List Int)} : (rs.filter (fun o => decide (farW w xs o < d)) = []) ↔ farAll w d xs rs = true := by
  unfold farAll
  rw [List.filter_eq_nil_iff, List.all_eq_true]
  constructor
  · intro h r hr
    have z := h r hr
    apply decide_eq_true
    have : ¬ farW w xs r < d := fun q => z (decide_eq_true q)
    omega
  · intro h r hr q
    have z := of_decide_eq_true (h r hr)
    have q' := of_decide_eq_true q
    omega
def spFirst (Pt : Addr) : Sp := fun vs H Q _ => ∃ (w : Str) (n : Nat) (d : Int), vs = [.str w, .int n, .int d] ∧ IsWay w ∧ 1 ≤ n ∧ n ≤ 6 ∧ 1 ≤ d ∧ GxR.TabG H Pt ∧
  ∀ (l : Addr) (as : List Addr) (H' : Hp), H l = none → H' l = some (.lst (as.map V.ref)) → LL H' as (firstL w d (allK n n)) → (∀ a ∈ as, H a = none ∧ a ≠ l) → as.Nodup → KeepT H H' → Q (.ref l) H'
def spLFirst : Sp := fun vs H Q _ => ∃ (w : Str) (n : Nat) (d : Int), vs = [.str w, .int n, .int d] ∧ IsWay w ∧ 1 ≤ n ∧ n ≤ 6 ∧ 1 ≤ d ∧
  ∀ (l : Addr) (as : List Addr) (H' : Hp), H l = none → H' l = some (.lst (as.map V.ref)) → LL H' as (firstL w d (allK n n)) → (∀ a ∈ as, H a = none ∧ a ≠ l) → as.Nodup → Same H H' → Q (.ref l) H'
section
variable {P : Program} {w : World} {K : PySem.W.Frag} {mg : Str → Option Value} {base : Heap}
theorem scFirst : FnScope ["way", "n", "d", "taken", "order"] ["way", "n", "d"] (defScope s_first_apart) := ⟨rfl, rfl, rfl, by decide +kernel, rfl, by decide +kernel, by decide +kernel⟩
set_option maxHeartbeats 2000000 in
theorem ok_first {f f1 f2 f3 Pt : Addr} {fd d1 d2 d3 : FuncData} {k c0 : Nat} {tk : Tok} (T : Df K mg "first_apart" s_first_apart ["way", "n", "d"] f fd) (T_check_apart : Df K mg "check_apart" s_check_apart ["way", "n", "most", "d"] f1 d1) (T_all_orders : Df K mg "all_orders" s_all_orders ["n"] f2 d2) (T_is_far : DfC K mg "is_far" s_is_far ["way", "d", "order", "others"] f3 d3 c0)
    (G_check_apart : FnOk P w K mg base CX0 k f1 d1 ["way", "n", "most", "d"] spApart) (G_all_orders : FnOk P w K mg base CX0 k f2 d2 ["n"] spAllO) (G_is_far : FnOk P w K mg base CX0 k f3 d3 ["way", "d", "order", "others"] (spIsFar Pt)) (B : Bi mg) (mL : mg "MOST_LISTED" = some (.int 6 tk)) :
    FnOk P w K mg base CX0 (k + 1) f fd ["way", "n", "d"] (spFirst Pt) := by
  refine T.F.ok scFirst (fun vs H Q E h => ?_) (fun cdv A outer s H vs Q E hr h => ?_)
  · obtain ⟨z, n, d, rfl, _⟩ := h
    rfl
  · obtain ⟨z, n, d, rfl, hz, hn1, hn2, hd, ht, q⟩ := h
    refine ⟨_, 
      (pss_cons (ps_expr (pe_call G_check_apart hr (by rfl) T_check_apart.g T_check_apart.F.kp T_check_apart.b .nil pass0 (pa_cons (pv 0) (pa_cons (pv 1) (pa_cons (pe_glob (v := .int 6) (by rfl) mL ⟨_, rfl⟩) (pa_cons (pv 2) pa_nil))))))
      (pss_cons (ps_set (i := 3) scFirst.nd rfl (.inl rfl) (pe_lst pa_nil))
      (pss_cons (ps_for PassesOwn.never rfl (pi_list (pe_call G_all_orders hr (by rfl) T_all_orders.g T_all_orders.F.kp T_all_orders.b .nil pass0 (pa_cons (pv 1) pa_nil))) (pg_name (i := 4) scFirst.nd rfl (.inl rfl))
        (pss_one (ps_if (pt_val (pe_call G_is_far hr (by rfl) T_is_far.g T_is_far.F.kp T_is_far.b .nil pass0 (pa_cons (pv 0) (pa_cons (pv 2) (pa_cons (pv 4) (pa_cons (pv 3) pa_nil))))))
          (pss_one (ps_expr (pe_bm PySem.F.plainAttrs_list PySem.F.slot_list_append PySem.F.type_list_append mt_append (pv 3) (pa_cons (pv 4) pa_nil))))
          pss_nil)))
      (pss_one (ps_ret (pv 3)))))), ?_⟩
    refine ⟨_, rfl, _, rfl, _, rfl, z, (n : Int), 6, d, rfl, hz, by omega, by omega, hd, ?_⟩
    refine ⟨Nat.zero_le _, fun l nl => ?_⟩
    have s0 := same_new (o := .lst []) nl
    refine ⟨_, rfl, n, rfl, hn1, hn2, fun r as H2 nr hr2 hLL hfr hnd s2 => ?_⟩
    have hl2 : H2 l = some (.lst []) := s2 _ _ upd_same
    have nrl : r ≠ l := fun z => by rw [z, upd_same] at nr; cases nr
    have hlen := hLL.len
    have hal := allK_len hn2 n (Nat.le_refl _)
    have hp6 := pow6 hn2
    refine ⟨r, rfl, ⟨_, SqL.of hr2⟩, ?_⟩
    refine for_list (xs := as.map V.ref) (fun m σ H3 => ∃ (y4 : Option V) (bs : List Addr), σ = [some (.str z), some (.int n), some (.int d), some (.ref l), y4] ∧ H3 l = some (.lst (bs.map V.ref)) ∧ LL H3 bs (firstL z d ((allK n n).take m)) ∧ bs.Sublist (as.take m) ∧ KeepT H H3 ∧ H3 r = some (.lst (as.map V.ref)) ∧ LL H3 as (allK n n))
      ⟨_, [], rfl, hl2, trivial, List.nil_sublist _, KeepT.of_same (s0.trans s2), hr2, hLL⟩ (fun m σ H3 _ hP => by obtain ⟨_, _, _, _, _, _, _, h7, _⟩ := hP; exact SqL.of h7) (fun m x σ H3 hx hP => ?_) (fun σ H3 hP => ?_)
    · obtain ⟨y4, bs, rfl, hl3, hLb, hsub, k3, hr3, hL3⟩ := hP
      obtain ⟨c, ec, rfl⟩ := ref_at_inv hx
      obtain ⟨row, erow, hrow⟩ := hL3.get ec
      have etk : as.take (m + 1) = as.take m ++ [c] := by rw [List.take_add_one, ec]; rfl
      have hca : c ∈ as := List.mem_of_getElem? ec
      have hcl : c ≠ l := fun z => by have := (hfr c hca).1; rw [z, upd_same] at this; cases this
      have hbl : ∀ u ∈ as, u ≠ l := fun u hu z => by have := (hfr u hu).1; rw [z, upd_same] at this; cases this
      refine ⟨_, rfl, _, rfl, _, rfl, _, rfl, z, d, c, l, n, row, bs, _, rfl, hz, hrow, all_ord (List.mem_of_getElem? erow), hn1, by omega, hl3, hLb, fun o ho => all_ord (List.mem_of_mem_take (firstL_subset _ _ _ ho)), k3.tab ht, fun H4 k4 => ?_⟩
      have k34 := k3.trans k4
      refine ⟨_, rfl, ?_⟩
      cases hb : farAll z d row (firstL z d ((allK n n).take m)) with
      | true =>
        refine iteT ⟨_, rfl, .inl ⟨rfl, _, SqL.of (k4.lst hl3)⟩, _, rfl, l, _, _, rfl, rfl, k4.lst hl3, line_lt ?_, ?_⟩
        · rw [List.length_map]
          have := hsub.length_le
          rw [List.length_take] at this
          omega
        refine ⟨_, bs ++ [c], rfl, by rw [upd_same, List.map_append]; rfl, ?_, ?_, ⟨fun b o e f => ?_, fun b qq e => ?_⟩, by rw [upd_ne nrl]; exact k4.lst hr3, (hL3.keepT k4).keep fun u hu o e => by rw [upd_ne (hbl u hu)]; exact e⟩
        · rw [firstL_more erow]
          unfold stepF
          rw [hb, if_pos rfl]
          refine LL.snoc ((hLb.keepT k4).keep fun u hu o e => by rw [upd_ne (hbl u (List.mem_of_mem_take (hsub.subset hu)))]; exact e) ?_
          rw [upd_ne hcl]
          exact k4.lst hrow
        · rw [etk]
          exact hsub.append (List.Sublist.refl _)
        · rw [upd_ne (ne_of_none e nl)]
          exact k34.1 b o e f
        · rw [upd_ne (ne_of_none e nl)]
          exact k34.2 b qq e
      | false =>
        refine iteF ⟨_, bs, rfl, k4.lst hl3, ?_, ?_, k34, k4.lst hr3, hL3.keepT k4⟩
        · rw [firstL_more erow]
          unfold stepF
          rw [hb, if_neg Bool.false_ne_true]
          exact hLb.keepT k4
        · rw [etk]
          exact hsub.trans (List.sublist_append_left _ _)
    · obtain ⟨y4, bs, rfl, hl3, hLb, hsub, k3, hr3, hL3⟩ := hP
      rw [List.length_map, hlen, List.take_length] at hLb
      refine ⟨_, rfl, q l bs H3 nl hl3 hLb (fun c hc => ?_) ?_ k3⟩
      · have hca : c ∈ as := List.mem_of_mem_take (hsub.subset hc)
        exact ⟨s0.free (hfr c hca).1, fun z => by have := (hfr c hca).1; rw [z, upd_same] at this; cases this⟩
      · exact (hnd.sublist (List.take_sublist _ as)).sublist hsub
end
end Fo
namespace Fo
open PySem PySem.Spec PyProof.Rows L2
/-! the pool as a source -/
noncomputable def srcD (d : Addr) : Src where
  At := fun H => StAt H d
  Kp := KeepD d
  cut := cut1 d
  refl := fun _ _ _ e _ => e
  trans := KeepD.trans
  kp := fun k b o e => by
    obtain ⟨e1, e2⟩ := cut1_of e
    rw [cut1_ne e2]
    exact k b o e1 e2
  le := fun _ _ _ e => (cut1_of e).1
  same := fun h s => ⟨h.same s, KeepD.of_same s⟩
  put := fun {H H1 p} o h k h1 np => by
    have n1 := h.ne np
    refine ⟨h1.upd n1, fun b x e f => ?_, by rw [cut1_ne n1]; exact upd_same, fun b hb => ?_⟩
    · rw [upd_ne (ne_of_none e np)]
      exact k b x e f
    · unfold cut1
      split
      · rfl
      · exact upd_ne hb
section
variable {d : Addr} {σ : L2.St} {H : Hp} {m k a b : Nat} {u : TE}
theorem oe_take {i : Nat} {A : Int → Prop} (e : σ[i]? = some (some (.ref d))) (g : OE (srcD d) u σ H a b (oI A)) (hA : ∀ z, A z → 0 < z ∧ z ≤ 100000000000000000000) : OE (srcD d) (tCall spTake [] E0 (tCons (tVar i) (tCons u tNil))) σ H 110 0 (oI fun z => ∃ y, A y ∧ 0 ≤ z ∧ z < y) := fun H1 Q e1 at1 q =>
  ⟨_, e, g H1 _ e1 at1 fun v H2 e2 at2 o => by
    obtain ⟨y, rfl, hy⟩ := od_int o
    obtain ⟨h1, h2⟩ := hA y hy
    exact ⟨d, y, rfl, at2, h1, h2, fun z H3 z0 z1 at3 k3 => q _ _ (KeepD.trans e2 k3) at3 ⟨.int z, .int z, rw_int (by omega) (by omega), z, rfl, y, hy, z0, z1⟩⟩⟩
theorem oe_takeC {i : Nat} {n : Int} (e : σ[i]? = some (some (.ref d))) (h : 0 < n ∧ n ≤ 100000000000000000000) : OE (srcD d) (tCall spTake [] E0 (tCons (tVar i) (tCons (tC (.int n)) tNil))) σ H 110 0 (oI fun z => 0 ≤ z ∧ z < n) :=
  (oe_take e (oe_intI ⟨by omega, Int.le_trans h.2 (by decide)⟩) fun z e => by rw [e]; exact h).imp fun _ ⟨z, h1, y, h2, h3⟩ => ⟨z, h1, by rw [← h2]; exact h3⟩
end
end Fo
namespace Fo
open PySem PySem.Spec PyProof.Rows L2
theorem at_negG {α : Type} {xs : List α} {i : Int} (h0 : i < 0) (h1 : -(xs.length : Int) ≤ i) : ∃ v, atI xs i = some v ∧ v ∈ xs := by
  have hl : (i + (xs.length : Int)).toNat < xs.length := by omega
  refine ⟨xs[(i + (xs.length : Int)).toNat], ?_, List.getElem_mem hl⟩
  unfold atI ixN
  rw [if_neg (by omega), if_pos h1]
  exact List.getElem?_eq_getElem hl
theorem rws_rev {m k : Nat} : ∀ {ds : List PyData}, Rws m k ds → Rws m k ds.reverse
  | [], h => h
  | d :: ds, h => by
    have h1 := h.mem (x := d) List.mem_cons_self
    have e : d :: ds = [d] ++ ds := rfl
    have h2 : Rws m k ds := Rws.right (a := [d]) h
    have s := h.s
    have l := h.l
    have dd := h.d
    have r := rws_rev ⟨h2.s, Nat.le_refl (wtL ds), h2.d⟩
    rw [wtL] at l
    rw [List.reverse_cons]
    have a1 : Rws (wt d + 2) k [d] := (rws_cons ⟨h1.s, Nat.le_refl _, h1.d⟩ rws_nil).mono (by omega) (Nat.le_refl _)
    exact (r.app a1).mono (by omega) (Nat.le_refl _)
section
variable {d : Addr} {σ : L2.St} {H : Hp} {m k a b n : Nat} {t u : TE}
theorem dq_rev {G : Hp} {vs : List V} {ds : List PyData} (h : DqAll G vs ds) : DqAll G vs.reverse ds.reverse := by
  induction ds generalizing vs with
  | nil => cases h; exact .nil
  | cons d ds ih =>
    cases h with
    | cons h1 h2 =>
      rw [List.reverse_cons, List.reverse_cons]
      exact (ih h2).app (.cons h1 .nil)
/-- with an index that may be below nought -/
theorem oe_ixN {S : Src} {K : PySem.W.Frag} {ns : List Int} {A : Int → Prop} (h : OE S t σ H m k (oL fun ds => ds = ns.map PyData.int)) (g : OE S u σ H a b (oI A)) (hi : ∀ i, A i → -(ns.length : Int) ≤ i ∧ i < (ns.length : Int)) : OE S (tOp (rIxL K) t u) σ H m k (fun _ => True) := fun H1 Q e1 at1 q =>
  h H1 _ e1 at1 fun v H2 e2 at2 o => g H2 _ (S.trans e1 e2) at2 fun w H3 e3 at3 o' => by
    obtain ⟨_, h1, h2, x, rfl, rfl⟩ := o.kp e3
    obtain ⟨i, rfl, gi⟩ := od_int o'
    obtain ⟨i0, i1⟩ := hi i gi
    obtain ⟨p, xs, rfl, hp, ax⟩ := dq_lst h1
    have hl := ax.len
    rw [List.length_map] at hl
    obtain ⟨v, ev, mv⟩ : ∃ v, atI xs i = some v ∧ v ∈ xs := by
      by_cases c : 0 ≤ i
      · exact at_memG c (by omega)
      · exact at_negG (by omega) (by omega)
    obtain ⟨j, ej⟩ := List.mem_iff_getElem?.mp mv
    obtain ⟨d, ed, hd⟩ := ax.get ej
    have md := List.mem_of_getElem? ed
    exact ⟨p, xs, i, v, rfl, rfl, SqL.of (S.le _ _ _ hp), ev, q _ _ (S.trans e2 e3) at3 ⟨d, hd, rw_mem h2 md, trivial⟩⟩
theorem oe_rev {S : Src} {K : PySem.W.Frag} {A : List PyData → Prop} (h : OE S t σ H m k (oL A)) : OE S (tRevL K t) σ H m k (oL fun ds => ∃ x, ds = x.reverse ∧ A x) := fun H1 Q e1 at1 q =>
  h H1 _ e1 at1 fun v H2 e2 at2 o => by
    obtain ⟨_, h1, h2, x, rfl, h3⟩ := o
    obtain ⟨p, xs, rfl, hp, ax⟩ := dq_lst h1
    refine ⟨p, xs, rfl, SqL.of (S.le _ _ _ hp), fun c nc => ?_⟩
    obtain ⟨at3, e3⟩ := S.same at2 (same_new (o := .lst xs.reverse) nc)
    refine q _ _ (S.trans e2 e3) at3 ⟨.list x.reverse, .lst (S.new _ at2 nc) ((dq_rev ax).same (S.kp e3)), ?_, _, rfl, x, rfl, h3⟩
    obtain ⟨j, ej, hw⟩ := h2.lst
    have := rw_list (rws_rev (⟨hw.s, Nat.le_refl (wtL x), hw.d⟩ : Rws (wtL x) j x))
    have hl := h2.l
    rw [wt] at hl
    exact this.mono (by omega) (by omega)
end
end Fo
namespace Fo
open PySem PySem.Spec PyProof.Rows L2
/-! lists that lie apart -/
theorem cutV_takeN (xs : List V) (i : Nat) : cutV xs none (some (i : Int)) = xs.take i := by
  unfold cutV
  rw [HT.sIx_none, HT.sIx_nat, List.drop_zero, Nat.sub_zero]
  by_cases hh : i ≤ xs.length
  · rw [Nat.min_eq_left hh]
  · rw [Nat.min_eq_right (by omega), List.take_length, List.take_of_length_le (by omega)]
theorem LL.takeN {H : Hp} : ∀ {as : List Addr} {rs : List (List Int)} (k : Nat), LL H as rs → LL H (as.take k) (rs.take k)
  | _, _, 0, _ => trivial
  | [], [], _ + 1, _ => trivial
  | [], _ :: _, _ + 1, h => h.elim
  | _ :: _, [], _ + 1, h => h.elim
  | _ :: _, _ :: _, k + 1, h => ⟨h.1, LL.takeN k h.2⟩
theorem LL.dropN {H : Hp} : ∀ {as : List Addr} {rs : List (List Int)} (k : Nat), LL H as rs → LL H (as.drop k) (rs.drop k)
  | _, _, 0, h => h
  | [], [], _ + 1, _ => trivial
  | [], _ :: _, _ + 1, h => h.elim
  | _ :: _, [], _ + 1, h => h.elim
  | _ :: _, _ :: _, k + 1, h => LL.dropN k h.2
theorem LL.appN {H : Hp} : ∀ {as bs : List Addr} {rs ss : List (List Int)}, LL H as rs → LL H bs ss → LL H (as ++ bs) (rs ++ ss)
  | [], _, [], _, _, h => h
  | _ :: _, _, _ :: _, _, a, h => ⟨a.1, LL.appN a.2 h⟩
  | [], _, _ :: _, _, a, _ => a.elim
  | _ :: _, _, [], _, a, _ => a.elim
/-- any two, the later first, lie so far apart -/
def UpA (w : Str) (d : Int) (rs : List (List Int)) : Prop := rs.Pairwise fun a b => d ≤ farW w b a
theorem upA_of {w : Str} {d : Int} {rs : List (List Int)} (h : ∀ i o, rs[i]? = some o → farAll w d o (rs.take i) = true) : UpA w d rs := by
  unfold UpA
  rw [List.pairwise_iff_getElem]
  intro i j hi hj hij
  have z := h j rs[j] (List.getElem?_eq_getElem hj)
  unfold farAll at z
  rw [List.all_eq_true] at z
  refine of_decide_eq_true (z rs[i] ?_)
  have : (rs.take j)[i]? = some rs[i] := by rw [List.getElem?_take, if_pos hij]; exact List.getElem?_eq_getElem hi
  exact List.mem_of_getElem? this
theorem upA_fold {w : Str} {d : Int} : ∀ (os acc : List (List Int)), UpA w d acc → UpA w d (os.foldl (stepF w d) acc)
  | [], _, h => h
  | o :: os, acc, h => by
    refine upA_fold os _ ?_
    unfold stepF
    split
    · rename_i c
      unfold UpA
      rw [List.pairwise_append]
      refine ⟨h, List.pairwise_cons.mpr ⟨fun x m => absurd m List.not_mem_nil, List.Pairwise.nil⟩, fun x hx y hy => ?_⟩
      rw [List.mem_singleton.mp hy]
      unfold farAll at c
      rw [List.all_eq_true] at c
      exact of_decide_eq_true (c x hx)
    · exact h
theorem upA_first (w : Str) (d : Int) (os : List (List Int)) : UpA w d (firstL w d os) := upA_fold os [] List.Pairwise.nil
theorem firstL_one {w : Str} {d : Int} {o : List Int} {os : List (List Int)} : 1 ≤ (firstL w d (o :: os)).length := by
  have key : ∀ (os acc : List (List Int)), acc.length ≤ (os.foldl (stepF w d) acc).length := by
    intro os
    induction os with
    | nil => exact fun _ => Nat.le_refl _
    | cons b os ih =>
      intro acc
      refine Nat.le_trans ?_ (ih _)
      unfold stepF
      split
      · rw [List.length_append]; omega
      · exact Nat.le_refl _
  exact key os (stepF w d [] o)
/-- so far apart, that none lies near two -/
theorem near_two {w : Str} {n : Nat} {d e : Int} {o x y : List Int} (hw : IsWay w) (hn : 1 ≤ n) (oo : IsOrd n o) (ox : IsOrd n x) (oy : IsOrd n y) (hd : d ≤ farW w y x) (hx : farW w o x ≤ e) (hy : farW w o y ≤ e) (he : 2 * e < d) : False := by
  have t := farW_third (xs := y) (ys := x) (zs := o) hw oy ox oo hn
  have s := farW_turn (w := w) oo oy hn
  omega
theorem nodup_upA {w : Str} {n : Nat} {d : Int} {rs : List (List Int)} (hn : 1 ≤ n) (ho : ∀ r ∈ rs, IsOrd n r) (hd : 1 ≤ d) (hu : UpA w d rs) : rs.Nodup := by
  refine List.Pairwise.imp_of_mem (fun {a b} ma mb h e => ?_) hu
  have := farW_self (w := w) (ho b mb) hn
  rw [e] at h
  omega
end Fo
namespace Fo
open PySem PySem.Spec PyProof.Rows L2
/-! the longest list that lies apart -/
def ApL (w : Str) (d : Int) (rs : List (List Int)) : Prop := rs.Pairwise fun a b => d ≤ farW w a b
def farO (w : Str) (d : Int) (o : List Int) (rs : List (List Int)) : List (List Int) := rs.filter fun x => decide (d ≤ farW w o x)
theorem apL_cons {w : Str} {d : Int} {o : List Int} {s rs : List (List Int)} (hs : s.Sublist (farO w d o rs)) (h : ApL w d s) : ApL w d (o :: s) :=
  List.pairwise_cons.mpr ⟨fun x m => of_decide_eq_true (List.mem_filter.mp (hs.subset m)).2, h⟩
theorem apL_sub {w : Str} {d : Int} {o : List Int} {s rs : List (List Int)} (hs : s.Sublist rs) (h : ApL w d (o :: s)) : s.Sublist (farO w d o rs) := by
  have h1 := (List.pairwise_cons.mp h).1
  have e : s.filter (fun x => decide (d ≤ farW w o x)) = s := List.filter_eq_self.mpr fun x m => decide_eq_true (h1 x m)
  rw [← e]
  exact hs.filter _
/-- what a search comes to -/
structure LfR (w : Str) (d : Int) (taken rest best b : List (List Int)) : Prop where
  one : b = best ∨ ∃ s, s.Sublist rest ∧ ApL w d s ∧ b = taken ++ s
  le : best.length ≤ b.length
  most : ∀ s, s.Sublist rest → ApL w d s → taken.length + s.length ≤ b.length
/-- what it has come to ahead of place i -/
structure LfI (w : Str) (d : Int) (taken rest best : List (List Int)) (i : Nat) (b : List (List Int)) : Prop where
  one : b = best ∨ ∃ s, s.Sublist rest ∧ ApL w d s ∧ b = taken ++ s
  le : best.length ≤ b.length
  tl : taken.length ≤ b.length
  most : ∀ s, s.Sublist rest → ApL w d s → taken.length + s.length ≤ b.length ∨ s.Sublist (rest.drop i)
section
variable {w : Str} {d : Int} {taken rest best b : List (List Int)}
theorem lf_start : LfI w d taken rest best 0 (if taken.length > best.length then taken else best) := by
  split
  · rename_i h
    exact ⟨.inr ⟨[], List.nil_sublist _, List.Pairwise.nil, (List.append_nil _).symm⟩, by omega, Nat.le_refl _, fun s hs _ => .inr (by rw [List.drop_zero]; exact hs)⟩
  · exact ⟨.inl rfl, Nat.le_refl _, by omega, fun s hs _ => .inr (by rw [List.drop_zero]; exact hs)⟩
theorem lf_stop {i : Nat} (h : LfI w d taken rest best i b) (hl : taken.length + rest.length ≤ b.length + i) : LfR w d taken rest best b := by
  refine ⟨h.one, h.le, fun s hs ha => ?_⟩
  rcases h.most s hs ha with h1 | h1
  · exact h1
  · have h2 := h1.length_le
    rw [List.length_drop] at h2
    have := h.tl
    omega
theorem lf_end (h : LfI w d taken rest best rest.length b) : LfR w d taken rest best b := lf_stop h (by have := h.tl; omega)
theorem lf_step {i : Nat} {o : List Int} {b' : List (List Int)} (h : LfI w d taken rest best i b) (ho : rest[i]? = some o) (r : LfR w d (taken ++ [o]) (farO w d o (rest.drop (i + 1))) b b') : LfI w d taken rest best (i + 1) b' := by
  have hi := (List.getElem?_eq_some_iff.mp ho).1
  have hd : rest.drop i = o :: rest.drop (i + 1) := by
    rw [List.drop_eq_getElem_cons hi]
    congr 1
    exact (List.getElem?_eq_some_iff.mp ho).2
  refine ⟨?_, Nat.le_trans h.le r.le, Nat.le_trans h.tl r.le, fun s hs ha => ?_⟩
  · rcases r.one with e | ⟨s, hs, ha, e⟩
    · rw [e]
      exact h.one
    · refine .inr ⟨o :: s, ?_, apL_cons hs ha, by rw [e, List.append_assoc]; rfl⟩
      have h1 : s.Sublist (rest.drop (i + 1)) := hs.trans List.filter_sublist
      have h2 : (o :: s).Sublist (rest.drop i) := by rw [hd]; exact h1.cons_cons o
      exact h2.trans (List.drop_sublist _ _)
  · rcases h.most s hs ha with h1 | h1
    · exact .inl (Nat.le_trans h1 r.le)
    · rw [hd] at h1
      cases h1 with
      | cons _ h1 => exact .inr h1
      | cons_cons _ h1 =>
        rename_i s'
        refine .inl ?_
        have h2 := r.most s' (apL_sub h1 ha) (List.pairwise_cons.mp ha).2
        rw [List.length_append] at h2
        simp only [List.length_cons, List.length_nil] at h2 ⊢
        omega
end
theorem apL_two {w : Str} {n : Nat} {d : Int} (hn : 1 ≤ n) : ∀ {rs : List (List Int)}, (∀ r ∈ rs, IsOrd n r) → ApL w d rs → ∀ x ∈ rs, ∀ y ∈ rs, x ≠ y → d ≤ farW w x y
  | [], _, _, x, hx, _, _, _ => absurd hx List.not_mem_nil
  | a :: rs, ho, h, x, hx, y, hy, ne => by
    obtain ⟨h1, h2⟩ := List.pairwise_cons.mp h
    have oa := ho a List.mem_cons_self
    rcases List.mem_cons.mp hx with e | hx
    · rcases List.mem_cons.mp hy with e2 | hy
      · exact absurd (e.trans e2.symm) ne
      · rw [e]; exact h1 y hy
    · rcases List.mem_cons.mp hy with e | hy
      · rw [e, farW_turn oa (ho x (List.mem_cons_of_mem _ hx)) hn]
        exact h1 x hx
      · exact apL_two hn (fun r m => ho r (List.mem_cons_of_mem _ m)) h2 x hx y hy ne
theorem apL_nodup {w : Str} {n : Nat} {d : Int} {rs : List (List Int)} (hn : 1 ≤ n) (hd : 1 ≤ d) (ho : ∀ r ∈ rs, IsOrd n r) (h : ApL w d rs) : rs.Nodup := by
  refine List.Pairwise.imp_of_mem (fun {a b} ma mb h e => ?_) h
  have := farW_self (w := w) (ho b mb) hn
  rw [e] at h
  omega
theorem apL_of {w : Str} {d : Int} {rs : List (List Int)} (nd : rs.Nodup) (h : ∀ x ∈ rs, ∀ y ∈ rs, x ≠ y → d ≤ farW w x y) : ApL w d rs := List.Pairwise.imp_of_mem (fun {a b} ma mb ne => h a ma b mb ne) nd
/-- all of it called otherwise, the first one as 0, 1, .. -/
theorem called_far {w : Str} {n : Nat} {z x y : List Int} (hw : IsWay w) (hn : 1 ≤ n) (oz : IsOrd n z) (ox : IsOrd n x) (oy : IsOrd n y) : farW w (behindL z x) (behindL z y) = farW w x y := by
  have hb : IsOrd n ((rg n).map fun t => g0 z t) := by
    have e : (rg n).map (fun t => g0 z t) = z := by
      have h := by_places z
      rw [oz.len] at h
      exact h.symm
    rw [e]
    exact oz
  exact farW_called (r := fun t => g0 z t) hw ox oy (behind_ord oz ox) (behind_ord oz oy) hn hb (behind_pos oz ox) (behind_pos oz oy)
theorem longest_most {w : Str} {n : Nat} {d : Int} {tl b : List (List Int)} (hw : IsWay w) (hn : 1 ≤ n) (hd : 1 ≤ d) (hk : allK n n = rg n :: tl) (r : LfR w d [rg n] (farO w d (rg n) tl) [] b) :
    (∀ x ∈ b, IsOrd n x) ∧ ApL w d b ∧ 1 ≤ b.length ∧ ∀ ss, (∀ x ∈ ss, IsOrd n x) → ApL w d ss → ss.length ≤ b.length := by
  have h1 : 1 ≤ b.length := by
    have := r.most [] (List.nil_sublist _) List.Pairwise.nil
    simpa using this
  have or : ∀ x ∈ rg n :: tl, IsOrd n x := fun x m => all_ord (by rw [hk]; exact m)
  have hb : ∃ s, s.Sublist (farO w d (rg n) tl) ∧ ApL w d s ∧ b = [rg n] ++ s := by
    rcases r.one with e | e
    · rw [e] at h1
      exact absurd h1 (by decide)
    · exact e
  obtain ⟨s, hs, ha, rfl⟩ := hb
  refine ⟨fun x m => ?_, apL_cons hs ha, h1, fun ss os as => ?_⟩
  · rcases List.mem_cons.mp m with rfl | m
    · exact or _ List.mem_cons_self
    · exact or x (List.mem_cons_of_mem _ (List.mem_filter.mp (hs.subset m)).1)
  cases ss with
  | nil => exact Nat.zero_le _
  | cons a t =>
    have oa := os a List.mem_cons_self
    have ot : ∀ x ∈ t, IsOrd n x := fun x m => os x (List.mem_cons_of_mem _ m)
    have bk := back_is oa
    have oz := back_ord oa bk
    obtain ⟨z, hz⟩ : ∃ z, z = (rg n).map (pos a) := ⟨_, rfl⟩
    rw [← hz] at bk oz
    have ez : behindL z a = rg n := behind_back oz (back_back oa bk)
    have nd := apL_nodup hn hd os as
    obtain ⟨nda, ndt⟩ := List.nodup_cons.mp nd
    have og : ∀ x ∈ t, IsOrd n (behindL z x) := fun x m => behind_ord oz (ot x m)
    have far1 : ∀ x ∈ t, d ≤ farW w (rg n) (behindL z x) := fun x m => by
      rw [← ez, called_far hw hn oz oa (ot x m)]
      exact (List.pairwise_cons.mp as).1 x m
    have hall := allK_nodup (n := n) n
    rw [hk] at hall
    have ndF : (farO w d (rg n) tl).Nodup := (List.nodup_cons.mp hall).2.filter _
    have hm : ∀ x ∈ t, behindL z x ∈ farO w d (rg n) tl := fun x m => by
      refine List.mem_filter.mpr ⟨?_, decide_eq_true (far1 x m)⟩
      have h := ord_mem (og x m)
      rw [hk] at h
      rcases List.mem_cons.mp h with e | h
      · have h2 := far1 x m
        rw [e, farW_self (show IsOrd n (rg n) from List.Perm.refl _) hn] at h2
        omega
      · exact h
    have ndg : (t.map (behindL z)).Nodup := by
      show List.Pairwise _ _
      rw [List.pairwise_map]
      exact ndt.imp_of_mem fun ma mb h e => h (behind_inj oz (ot _ ma) (ot _ mb) e)
    let s' := (farO w d (rg n) tl).filter fun x => decide (x ∈ t.map (behindL z))
    have nds : s'.Nodup := ndF.filter _
    have ms : ∀ x, x ∈ s' ↔ x ∈ t.map (behindL z) := fun x => by
      constructor
      · exact fun h => of_decide_eq_true (List.mem_filter.mp h).2
      · intro h
        obtain ⟨y, my, rfl⟩ := List.mem_map.mp h
        exact List.mem_filter.mpr ⟨hm y my, decide_eq_true h⟩
    have pl : s'.length = t.length := by
      have := (nodup_perm nds ndg ms).length_eq
      rw [List.length_map] at this
      exact this
    have as' : ApL w d s' := apL_of nds fun x hx y hy ne => by
      obtain ⟨u, mu, rfl⟩ := List.mem_map.mp ((ms x).mp hx)
      obtain ⟨v, mv, rfl⟩ := List.mem_map.mp ((ms y).mp hy)
      rw [called_far hw hn oz (ot u mu) (ot v mv)]
      exact apL_two hn ot (List.pairwise_cons.mp as).2 u mu v mv fun e => ne (by rw [e])
    have := r.most s' List.filter_sublist as'
    rw [pl] at this
    simp only [List.length_cons, List.length_nil] at this ⊢
    omega
end Fo
namespace Fo
open PySem PySem.Spec PyProof.Rows L2
def spFarOnes : Sp := fun vs H Q _ => ∃ (w : Str) (d : Int) (a l : Addr) (n : Nat) (xs : List Int) (bs : List Addr) (rs : List (List Int)), vs = [.str w, .int d, .ref a, .ref l] ∧ IsWay w ∧ H a = some (.lst (xs.map V.int)) ∧ IsOrd n xs ∧ 1 ≤ n ∧ n ≤ 12 ∧ H l = some (.lst (bs.map V.ref)) ∧ LL H bs rs ∧ (∀ r ∈ rs, IsOrd n r) ∧ rs.length ≤ 1000 ∧
  ∀ (l' : Addr) (as' : List Addr) (H' : Hp), H l' = none → H' l' = some (.lst (as'.map V.ref)) → as'.Sublist bs → LL H' as' (farO w d xs rs) → Same H H' → Q (.ref l') H'
/-- a search of which fewer than N are left -/
def spLF (N : Nat) : Sp := fun vs H Q _ => ∃ (w : Str) (d : Int) (t r b : Addr) (n : Nat) (ta ra ba : List Addr) (ts rs bs : List (List Int)), vs = [.str w, .int d, .ref t, .ref r, .ref b] ∧ IsWay w ∧ 1 ≤ n ∧ n ≤ 12 ∧ H t = some (.lst (ta.map V.ref)) ∧ LL H ta ts ∧ H r = some (.lst (ra.map V.ref)) ∧ LL H ra rs ∧ H b = some (.lst (ba.map V.ref)) ∧ LL H ba bs ∧ (∀ x ∈ rs, IsOrd n x) ∧ rs.length < N ∧ ts.length + rs.length ≤ 1000 ∧
  ∀ (l : Addr) (as : List Addr) (ss : List (List Int)) (H' : Hp), (l = t ∨ l = b ∨ H l = none) → (∀ x ∈ as, x ∈ ta ∨ x ∈ ra ∨ x ∈ ba) → H' l = some (.lst (as.map V.ref)) → LL H' as ss → LfR w d ts rs bs ss → Same H H' → Q (.ref l) H'
def spLongest : Sp := fun vs H Q _ => ∃ (w : Str) (n : Nat) (d : Int), vs = [.str w, .int n, .int d] ∧ IsWay w ∧ 1 ≤ n ∧ n ≤ 4 ∧ 1 ≤ d ∧
  ∀ (l : Addr) (as : List Addr) (ss : List (List Int)) (H' : Hp), H l = none → (∀ x ∈ as, H x = none) → H' l = some (.lst (as.map V.ref)) → LL H' as ss → (∀ x ∈ ss, IsOrd n x) → ApL w d ss → 1 ≤ ss.length → (∀ us, (∀ x ∈ us, IsOrd n x) → ApL w d us → us.length ≤ ss.length) → Same H H' → Q (.ref l) H'
theorem allK_head : ∀ n, n ≤ 4 → 1 ≤ n → ∃ tl, allK n n = rg n :: tl ∧ tl.length < 24 := by
  have h : ∀ n, n ≤ 4 → 1 ≤ n → (allK n n).head? = some (rg n) ∧ (allK n n).length ≤ 24 := by decide +kernel
  intro n h4 h1
  obtain ⟨a, b⟩ := h n h4 h1
  match hk : allK n n, a, b with
  | x :: tl, a, b => exact ⟨tl, by rw [Option.some.inj a], by rw [List.length_cons] at b; omega⟩
theorem far_more {w : Str} {d : Int} {o x : List Int} {rs : List (List Int)} {i : Nat} (h : rs[i]? = some x) : farO w d o (rs.take (i + 1)) = farO w d o (rs.take i) ++ (if d ≤ farW w o x then [x] else []) := by
  unfold farO
  rw [List.take_add_one, h, List.filter_append]
  congr 1
  show List.filter _ [x] = _
  rw [List.filter_cons]
  by_cases c : d ≤ farW w o x
  · rw [if_pos (decide_eq_true c), if_pos c]; rfl
  · rw [if_neg (fun z => c (of_decide_eq_true z)), if_neg c]; rfl
section
variable {P : Program} {w : World} {K : PySem.W.Frag} {mg : Str → Option Value} {base : Heap}
theorem scFO : FnScope ["way", "d", "order", "others", "other"] ["way", "d", "order", "others"] (defScope s_far_ones) := ⟨rfl, rfl, rfl, by decide +kernel, rfl, by decide +kernel, by decide +kernel⟩
set_option maxHeartbeats 2000000 in
theorem ok_farOnes {f f1 : Addr} {fd d1 : FuncData} {k : Nat} (T : Df K mg "far_ones" s_far_ones ["way", "d", "order", "others"] f fd) (T_known_far : Df K mg "known_far" s_known_far ["way", "one", "other"] f1 d1) (G_known_far : FnOk P w K mg base CX0 k f1 d1 ["way", "one", "other"] spFar) (B : Bi mg) : FnOk P w K mg base CX0 (k + 1) f fd ["way", "d", "order", "others"] spFarOnes := by
  refine T.F.ok scFO (fun vs H Q E h => ?_) (fun cdv A outer s H vs Q E hr h => ?_)
  · obtain ⟨z, d, a, l, n, xs, bs, rs, rfl, _⟩ := h
    rfl
  · obtain ⟨z, d, a, l, n, xs, bs, rs, rfl, hz, ha, ox, hn1, hn2, hl, hL, ho, hlen, q⟩ := h
    have hbl := hL.len
    refine ⟨_, 
      (pss_one (ps_ret (pe_lc (own := [("other", 4)]) (g := (gName 4)) (tt := (tTest (tOp (rI0 fun i j => .bl (decide (j ≤ i))) (tCall spFar [] E0 (tCons (tVar 0) (tCons (tVar 2) (tCons (tVar 4) tNil)))) (tVar 1)))) (te := (tVar 4)) rfl scFO.nd (pi_list (pv 3)) (blkOk_by (N := ["way", "d", "order", "others", "other"]) (sc := defScope s_far_ones) (by decide +kernel)) (fun _ _ _ _ _ => (pg_name (i := 4) scFO.nd rfl (.inl rfl))) (fun _ _ _ _ _ => (pts_one (pt_cmpR op_ge (pe_call G_known_far hr (by rfl) T_known_far.g T_known_far.F.kp T_known_far.b .nil pass0 (pa_cons (pv 0) (pa_cons (pv 2) (pa_cons (pv 4) pa_nil)))) (pv 1) (nomark _)))) (fun _ _ _ _ _ => (pv 4))))), ?_⟩
    refine ⟨_, rfl, l, rfl, ⟨_, SqL.of hl⟩, fun p np => ?_⟩
    refine lc_list (K := K) (a := l) (xs := bs.map V.ref) (fun i G => ∃ cs : List Addr, G p = some (.lst (cs.map V.ref)) ∧ cs.Sublist (bs.take i) ∧ LL G cs (farO z d xs (rs.take i)) ∧ Same H G) ⟨[], upd_same, List.nil_sublist _, trivial, same_new np⟩ (fun i G _ hP => by obtain ⟨_, _, _, _, sm⟩ := hP; exact SqL.of (sm _ _ hl)) (fun i x G hx hP => ?_) (fun G hP => ?_)
    · obtain ⟨c0, ec, rfl⟩ := ref_at_inv hx
      obtain ⟨cs, hp, hsub, hLc, sm⟩ := hP
      obtain ⟨row, er, hc⟩ := (hL.same sm).get ec
      have hbl2 : cs.length ≤ 1000 := by
        have := hsub.length_le
        rw [List.length_take] at this
        omega
      refine ⟨rfl, _, rfl, _, rfl, _, rfl, z, a, c0, n, xs, row, rfl, hz, sm _ _ ha, hc, ox, ho row (List.mem_of_getElem? er), hn1, hn2, fun G4 s4 => ?_⟩
      have et : bs.take (i + 1) = bs.take i ++ [c0] := by rw [List.take_add_one, ec]; rfl
      refine ⟨_, rfl, _, _, rfl, rfl, _, rfl, ite2 (fun z2 => ?_) (fun z2 => ?_)⟩
      · replace z2 := of_decide_eq_true z2
        refine ⟨_, rfl, _, s4 _ _ hp, line_lt (by rw [List.length_map]; omega), cs ++ [c0], by rw [upd_same, List.map_append]; rfl, ?_, ?_, fun b o e => ?_⟩
        · rw [et]
          exact hsub.append (List.Sublist.refl _)
        · rw [far_more er, if_pos z2]
          refine LL.snoc ((hLc.same s4).keep fun u hu o e => ?_) ?_
          · obtain ⟨ob, eo⟩ := (hL.same (sm.trans s4)).tracked (List.mem_of_mem_take (hsub.subset hu))
            have nup : u ≠ p := fun y => by
              obtain ⟨ob2, eo2⟩ := hL.tracked (List.mem_of_mem_take (hsub.subset hu))
              rw [y, np] at eo2
              cases eo2
            rw [upd_ne nup]
            exact e
          · have ncp : c0 ≠ p := fun y => by
              obtain ⟨ob2, eo2⟩ := hL.tracked (List.mem_of_getElem? ec)
              rw [y, np] at eo2
              cases eo2
            rw [upd_ne ncp]
            exact s4 _ _ hc
        · rw [upd_ne (ne_of_none e np)]
          exact s4 _ _ (sm _ _ e)
      · refine ⟨cs, s4 _ _ hp, ?_, ?_, sm.trans s4⟩
        · rw [et]
          exact hsub.trans (List.sublist_append_left _ _)
        · rw [far_more er, if_neg (fun y => z2 (decide_eq_true y)), List.append_nil]
          exact hLc.same s4
    · obtain ⟨cs, hp, hsub, hLc, sm⟩ := hP
      rw [List.take_of_length_le (by rw [List.length_map]; omega)] at hLc
      exact q p cs G np hp (hsub.trans (List.take_sublist _ _)) hLc sm
theorem scLF : FnScope ["way", "d", "taken", "rest", "best", "place", "order", "far"] ["way", "d", "taken", "rest", "best"] (defScope s_longest_from) := ⟨rfl, rfl, rfl, by decide +kernel, rfl, by decide +kernel, by decide +kernel⟩
set_option maxHeartbeats 4000000 in
theorem ok_lf1 {f f1 : Addr} {fd d1 : FuncData} {k N : Nat} (T_longest_from : Df K mg "longest_from" s_longest_from ["way", "d", "taken", "rest", "best"] f fd) (T_far_ones : Df K mg "far_ones" s_far_ones ["way", "d", "order", "others"] f1 d1) (G_far_ones : FnOk P w K mg base CX0 k f1 d1 ["way", "d", "order", "others"] spFarOnes) (G_longest_from : FnOk P w K mg base CX0 k f fd ["way", "d", "taken", "rest", "best"] (spLF N)) (B : Bi mg) : FnOk P w K mg base CX0 (k + 1) f fd ["way", "d", "taken", "rest", "best"] (spLF (N + 1)) := by
  refine T_longest_from.F.ok scLF (fun vs H Q E h => ?_) (fun cdv A outer s H vs Q E hr h => ?_)
  · obtain ⟨z, d, t, r, b, n, ta, ra, ba, ts, rs, bs, rfl, _⟩ := h
    rfl
  · obtain ⟨z, d, t, r, b, n, ta, ra, ba, ts, rs, bs, rfl, hz, hn1, hn2, ht, hTL, hr0, hRL, hb, hBL, ho, hN, hlen, q⟩ := h
    have lt := hTL.len
    have lr := hRL.len
    have lb := hBL.len
    refine ⟨_, 
      (Evl.pss_cut (ps_if (pt_cmpR op_gt (pe_callB call_len_seq (by rfl) B.len PySem.boot_len (pa_cons (pv 2) pa_nil)) (pe_callB call_len_seq (by rfl) B.len PySem.boot_len (pa_cons (pv 4) pa_nil)) (nomark _))
        (pss_one (ps_set (i := 4) scLF.nd rfl (.inl rfl) (pv 2)))
        pss_nil)
      (pss_cons (ps_for PassesOwn.never rfl (pi_enum (by rfl) B.enumerate (pa_cons (pv 3) pa_nil)) (pg_tup (by rfl) (pgs_cons (pg_name (i := 5) scLF.nd rfl (.inl rfl)) (pgs_cons (pg_name (i := 6) scLF.nd rfl (.inl rfl)) pgs_nil)))
        (pss_cons (ps_if (pt_cmpR op_le (pe_op op_sub (pe_op op_add (pe_callB call_len_seq (by rfl) B.len PySem.boot_len (pa_cons (pv 2) pa_nil)) (pe_callB call_len_seq (by rfl) B.len PySem.boot_len (pa_cons (pv 3) pa_nil))) (pv 5)) (pe_callB call_len_seq (by rfl) B.len PySem.boot_len (pa_cons (pv 4) pa_nil)) (nomark _))
          (pss_one (ps_ret (pv 4)))
          pss_nil)
        (pss_cons (ps_set (i := 7) scLF.nd rfl (.inl rfl) (pe_call G_far_ones hr (by rfl) T_far_ones.g T_far_ones.F.kp T_far_ones.b .nil pass0 (pa_cons (pv 0) (pa_cons (pv 1) (pa_cons (pv 6) (pa_cons (pe_slice sl_list (pv 3) (po_some (pe_op op_add (pv 5) pe_int)) po_none) pa_nil))))))
        (pss_one (ps_set (i := 4) scLF.nd rfl (.inl rfl) (pe_call G_longest_from hr (by rfl) T_longest_from.g T_longest_from.F.kp T_longest_from.b .nil pass0 (pa_cons (pv 0) (pa_cons (pv 1) (pa_cons (pe_op op_cat (pv 2) (pe_lst (pa_cons (pv 6) pa_nil))) (pa_cons (pv 7) (pa_cons (pv 4) pa_nil)))))))))))
      (pss_one (ps_ret (pv 4))))), ?_⟩
    -- best
    refine ⟨fun τ G => ∃ (b0 : Addr) (b0a : List Addr) (b0s : List (List Int)), τ = [some (.str z), some (.int d), some (.ref t), some (.ref r), some (.ref b0), none, none, none] ∧ (b0 = t ∨ b0 = b) ∧ (∀ x ∈ b0a, x ∈ ta ∨ x ∈ ba) ∧ H b0 = some (.lst (b0a.map V.ref)) ∧ LL H b0a b0s ∧ LfI z d ts rs bs 0 b0s ∧ G = H, ?_, fun τ G hM => ?_⟩
    · refine ⟨_, rfl, t, _, rfl, .inl (SqL.of ht), _, rfl, b, _, rfl, .inl (SqL.of hb), _, _, rfl, rfl, _, rfl, ite2 (fun c => ?_) (fun c => ?_)⟩
      · replace c := of_decide_eq_true c
        rw [List.length_map, List.length_map] at c
        have hs := lf_start (w := z) (d := d) (taken := ts) (rest := rs) (best := bs)
        rw [if_pos (by omega)] at hs
        exact ⟨_, rfl, t, ta, ts, rfl, .inl rfl, fun x m => .inl m, ht, hTL, hs, rfl⟩
      · have c' : ¬ ts.length > bs.length := fun y => c (decide_eq_true (by rw [List.length_map, List.length_map]; omega))
        have hs := lf_start (w := z) (d := d) (taken := ts) (rest := rs) (best := bs)
        rw [if_neg c'] at hs
        exact ⟨b, ba, bs, rfl, .inr rfl, fun x m => .inr m, hb, hBL, hs, rfl⟩
    obtain ⟨b0, b0a, b0s, rfl, hb0, hb0a, hbb, hBB, hI, rfl⟩ := hM
    refine ⟨_, rfl, r, _, rfl, SqL.of hr0, ?_⟩
    refine for_enumL (K := K) (a := r) (xs := ra.map V.ref) (fun i σ H1 => ∃ (y5 y6 y7 : Option V) (c : Addr) (ca : List Addr) (cs : List (List Int)), σ = [some (.str z), some (.int d), some (.ref t), some (.ref r), some (.ref c), y5, y6, y7] ∧ (c = t ∨ c = b ∨ G c = none) ∧ (∀ x ∈ ca, x ∈ ta ∨ x ∈ ra ∨ x ∈ ba) ∧ H1 c = some (.lst (ca.map V.ref)) ∧ LL H1 ca cs ∧ LfI z d ts rs bs i cs ∧ Same G H1) ⟨_, _, _, b0, b0a, b0s, rfl, hb0.imp id .inl, fun x m => (hb0a x m).imp id .inr, hbb, hBB, hI, Same.refl G⟩ (fun i σ H1 hP => by obtain ⟨_, _, _, _, _, _, _, _, _, _, _, _, sm⟩ := hP; exact SqL.of (sm _ _ hr0)) (fun i x T2 σ H1 hx hP nT => ?_) (fun σ H1 hP => ?_)
    · obtain ⟨y5, y6, y7, c, ca, cs, rfl, hc0, hca, hc, hCL, hI, sm⟩ := hP
      obtain ⟨c0, ec, rfl⟩ := ref_at_inv hx
      have s1 := same_new (o := .tup [.int (i : Nat), .ref c0]) nT
      have sm1 := sm.trans s1
      obtain ⟨row, er, hrow⟩ := (hRL.same sm1).get ec
      have hi := (List.getElem?_eq_some_iff.mp er).1
      have lc := hCL.len
      refine ⟨T2, _, rfl, .inl (.inl upd_same), rfl, _, _, rfl, _, _, rfl, rfl, ?_⟩
      have hc1 := s1 _ _ hc
      refine ⟨_, rfl, t, _, rfl, .inl (SqL.of (sm1 _ _ ht)), _, rfl, r, _, rfl, .inl (SqL.of (sm1 _ _ hr0)), _, _, rfl, rfl, _, rfl, _, _, rfl, rfl, _, rfl, c, _, rfl, .inl (SqL.of hc1), _, _, rfl, rfl, _, rfl, ite2 (fun z2 => ?_) (fun _ => ?_)⟩
      · replace z2 := of_decide_eq_true z2
        simp only [List.length_map] at z2
        refine ⟨_, rfl, ?_⟩
        exact q c ca cs _ hc0 hca hc1 (hCL.same s1) (lf_stop hI (by omega)) sm1
      -- those behind it that are far
      refine ⟨_, rfl, _, rfl, _, rfl, _, rfl, _, rfl, (i : Int), 1, rfl, rfl, _, rfl, r, _, rfl, SqL.of (sm1 _ _ hr0), fun u nu => ?_⟩
      rw [show (i : Int) + 1 = ((i + 1 : Nat) : Int) by omega, cutV_tail, ← List.map_drop]
      have s2 := same_new (o := .lst ((ra.drop (i + 1)).map V.ref)) nu
      have sm2 := sm1.trans s2
      have hRd : LL _ (ra.drop (i + 1)) (rs.drop (i + 1)) := LL.dropN (i + 1) (hRL.same sm2)
      refine ⟨z, d, c0, u, n, row, _, _, rfl, hz, s2 _ _ hrow, ho row (List.mem_of_getElem? er), hn1, hn2, upd_same, hRd, fun x m => ho x (List.mem_of_mem_drop m), by rw [List.length_drop]; omega, fun fl fa H3 nfl hfl hfa hFL s3 => ?_⟩
      have sm3 := sm2.trans s3
      -- further
      refine ⟨_, rfl, _, rfl, _, rfl, _, rfl, line_small (by show 1 ≤ 16777216; decide), fun v nv => ?_⟩
      have s4 := same_new (o := .lst [.ref c0]) nv
      refine ⟨t, v, _, _, rfl, rfl, (sm3.trans s4) _ _ ht, upd_same, line_small (by rw [List.length_map]; show _ + 1 ≤ 16777216; omega), fun v2 nv2 => ?_⟩
      have s5 := same_new (o := .lst (ta.map V.ref ++ [.ref c0])) nv2
      have s45 := s4.trans s5
      have sm5 := sm3.trans s45
      have hv2 : (upd (upd H3 v (.lst [.ref c0])) v2 (.lst (ta.map V.ref ++ [.ref c0]))) v2 = some (.lst ((ta ++ [c0]).map V.ref)) := by rw [upd_same, List.map_append]; rfl
      have hrow5 := ((s2.trans s3).trans s45) _ _ hrow
      have hc5 := ((s2.trans s3).trans s45) _ _ hc1
      have hC5 := (hCL.same s1).same ((s2.trans s3).trans s45)
      refine ⟨_, rfl, _, rfl, ?_⟩
      have lf2 : (farO z d row (rs.drop (i + 1))).length ≤ rs.length - (i + 1) := by
        have := List.length_filter_le (fun x => decide (d ≤ farW z row x)) (rs.drop (i + 1))
        rw [List.length_drop] at this
        exact this
      have lts := hTL.len
      refine ⟨z, d, v2, fl, c, n, ta ++ [c0], fa, ca, ts ++ [row], farO z d row (rs.drop (i + 1)), cs, rfl, hz, hn1, hn2, hv2, LL.snoc (hTL.same sm5) hrow5, s45 _ _ hfl, hFL.same s45, hc5, hC5, fun x m => ho x (List.mem_of_mem_drop (List.mem_filter.mp m).1), by omega, by rw [List.length_append]; show ts.length + 1 + _ ≤ 1000; omega, fun l as ss H6 hl has hl6 hL6 hR s6 => ?_⟩
      refine ⟨_, _, _, l, as, ss, rfl, ?_, fun x m => ?_, hl6, hL6, lf_step hI er hR, sm5.trans s6⟩
      · rcases hl with rfl | rfl | h
        · exact .inr (.inr ((sm3.trans s4).free nv2))
        · exact hc0
        · exact .inr (.inr (sm5.free h))
      · rcases has x m with h | h | h
        · rcases List.mem_append.mp h with h | h
          · exact .inl h
          · rw [List.mem_singleton.mp h]
            exact .inr (.inl (List.mem_of_getElem? ec))
        · exact .inr (.inl (List.mem_of_mem_drop (hfa.subset h)))
        · exact hca x h
    · obtain ⟨y5, y6, y7, c, ca, cs, rfl, hc0, hca, hc, hCL, hI, sm⟩ := hP
      rw [List.length_map, lr] at hI
      exact ⟨_, rfl, q c ca cs _ hc0 hca hc hCL (lf_end hI) sm⟩
theorem fn_lf0 {f : Addr} {fd : FuncData} {k : Nat} : FnOk P w K mg base CX0 k f fd ["way", "d", "taken", "rest", "best"] (spLF 0) :=
  ⟨fun _ _ _ _ h => by obtain ⟨_, _, _, _, _, _, _, _, _, _, _, _, _, _, _, _, _, _, _, _, _, _, _, h, _⟩ := h; exact absurd h (Nat.not_lt_zero _), fun _ _ _ _ _ _ _ _ _ _ _ _ _ h => by obtain ⟨_, _, _, _, _, _, _, _, _, _, _, _, _, _, _, _, _, _, _, _, _, _, _, h, _⟩ := h; exact absurd h (Nat.not_lt_zero _)⟩
theorem ok_lf {f f1 : Addr} {fd d1 : FuncData} {k : Nat} (T_longest_from : Df K mg "longest_from" s_longest_from ["way", "d", "taken", "rest", "best"] f fd) (T_far_ones : Df K mg "far_ones" s_far_ones ["way", "d", "order", "others"] f1 d1) (GF : ∀ j, FnOk P w K mg base CX0 (j + k) f1 d1 ["way", "d", "order", "others"] spFarOnes) (B : Bi mg) : ∀ N, FnOk P w K mg base CX0 (N + k) f fd ["way", "d", "taken", "rest", "best"] (spLF N)
  | 0 => fn_lf0
  | N + 1 => by
    have h := ok_lf1 T_longest_from T_far_ones (GF N) (ok_lf T_longest_from T_far_ones GF B N) B
    rw [show N + 1 + k = N + k + 1 by omega]
    exact h
theorem scLg : FnScope ["way", "n", "d", "first", "others"] ["way", "n", "d"] (defScope s_longest_apart) := ⟨rfl, rfl, rfl, by decide +kernel, rfl, by decide +kernel, by decide +kernel⟩
set_option maxHeartbeats 2000000 in
theorem ok_longest {f f1 f2 f3 f4 : Addr} {fd d1 d2 d3 d4 : FuncData} {k : Nat} {tk : Tok} (T : Df K mg "longest_apart" s_longest_apart ["way", "n", "d"] f fd) (T_check_apart : Df K mg "check_apart" s_check_apart ["way", "n", "most", "d"] f1 d1) (T_all_orders : Df K mg "all_orders" s_all_orders ["n"] f2 d2) (T_longest_from : Df K mg "longest_from" s_longest_from ["way", "d", "taken", "rest", "best"] f3 d3) (T_far_ones : Df K mg "far_ones" s_far_ones ["way", "d", "order", "others"] f4 d4) (G_check_apart : FnOk P w K mg base CX0 k f1 d1 ["way", "n", "most", "d"] spApart) (G_all_orders : FnOk P w K mg base CX0 k f2 d2 ["n"] spAllO) (G_longest_from : FnOk P w K mg base CX0 k f3 d3 ["way", "d", "taken", "rest", "best"] (spLF 24)) (G_far_ones : FnOk P w K mg base CX0 k f4 d4 ["way", "d", "order", "others"] spFarOnes) (B : Bi mg) (mS : mg "MOST_SEARCHED" = some (.int 4 tk)) : FnOk P w K mg base CX0 (k + 1) f fd ["way", "n", "d"] spLongest := by
  refine T.F.ok scLg (fun vs H Q E h => ?_) (fun cdv A outer s H vs Q E hr h => ?_)
  · obtain ⟨z, n, d, rfl, _⟩ := h
    rfl
  · obtain ⟨z, n, d, rfl, hz, hn1, hn4, hd, q⟩ := h
    obtain ⟨tl, hk, htl⟩ := allK_head n hn4 hn1
    refine ⟨_, 
      (pss_cons (ps_expr (pe_call G_check_apart hr (by rfl) T_check_apart.g T_check_apart.F.kp T_check_apart.b .nil pass0 (pa_cons (pv 0) (pa_cons (pv 1) (pa_cons (pe_glob (v := .int 4) (by rfl) mS ⟨_, rfl⟩) (pa_cons (pv 2) pa_nil))))))
      (pss_cons (ps_asg (pe_call G_all_orders hr (by rfl) T_all_orders.g T_all_orders.F.kp T_all_orders.b .nil pass0 (pa_cons (pv 1) pa_nil)) (pg_star1 (by rfl) (pgs_cons (pg_name (i := 3) scLg.nd rfl (.inl rfl)) (pgs_star (pg_name (i := 4) scLg.nd rfl (.inl rfl)) pgs_nil))))
      (pss_one (ps_ret (pe_call G_longest_from hr (by rfl) T_longest_from.g T_longest_from.F.kp T_longest_from.b .nil pass0 (pa_cons (pv 0) (pa_cons (pv 2) (pa_cons (pe_lst (pa_cons (pv 3) pa_nil)) (pa_cons (pe_call G_far_ones hr (by rfl) T_far_ones.g T_far_ones.F.kp T_far_ones.b .nil pass0 (pa_cons (pv 0) (pa_cons (pv 2) (pa_cons (pv 3) (pa_cons (pv 4) pa_nil))))) (pa_cons (pe_lst pa_nil) pa_nil)))))))))), ?_⟩
    refine ⟨_, rfl, _, rfl, _, rfl, z, (n : Int), 4, d, rfl, hz, by omega, by omega, hd, ?_⟩
    refine ⟨_, rfl, n, rfl, hn1, by omega, fun al aas H2 nal hal hLL nas nda s2 => ?_⟩
    rw [hk] at hLL
    match aas, hLL with
    | [], h => exact h.elim
    | f0 :: oa, hLL =>
    obtain ⟨hf0, hOL⟩ := hLL
    have lo := hOL.len
    have or : ∀ x ∈ rg n :: tl, IsOrd n x := fun x m => all_ord (by rw [hk]; exact m)
    refine ⟨al, _, _, rfl, SqL.of hal, by rw [List.length_map]; omega, fun D nD => ?_⟩
    have s3 := same_new (o := .lst (oa.map V.ref)) nD
    refine ⟨_, _, rfl, _, _, rfl, rfl, ?_⟩
    refine ⟨_, rfl, _, rfl, _, rfl, line_small (by show 1 ≤ 16777216; decide), fun u nu => ?_⟩
    have s4 := same_new (o := .lst [.ref f0]) nu
    have s34 := s3.trans s4
    refine ⟨_, rfl, _, rfl, _, rfl, _, rfl, z, d, f0, D, n, rg n, oa, tl, rfl, hz, s34 _ _ hf0, or _ List.mem_cons_self, hn1, by omega, s4 _ _ upd_same, hOL.same s34, fun x m => or x (List.mem_cons_of_mem _ m), by omega, fun fl fa H5 nfl hfl hfa hFL s5 => ?_⟩
    refine ⟨by decide, fun e ne => ?_⟩
    have s6 := same_new (o := .lst []) ne
    have s36 := s34.trans (s5.trans s6)
    have lf2 : (farO z d (rg n) tl).length ≤ tl.length := List.length_filter_le _ _
    refine ⟨z, d, u, fl, e, n, [f0], fa, [], [rg n], farO z d (rg n) tl, [], rfl, hz, hn1, by omega, (s5.trans s6) _ _ upd_same, ⟨s36 _ _ hf0, trivial⟩, s6 _ _ hfl, hFL.same s6, upd_same, trivial, fun x m => or x (List.mem_cons_of_mem _ (List.mem_filter.mp m).1), by omega, by show 1 + _ ≤ 1000; omega, fun l as ss H7 hl has hl7 hL7 hR s7 => ?_⟩
    obtain ⟨g1, g2, g3, g4⟩ := longest_most hz hn1 hd hk hR
    have s27 := s2.trans (s36.trans s7)
    refine q l as ss H7 ?_ (fun x m => ?_) hl7 hL7 g1 g2 g3 g4 s27
    · rcases hl with rfl | rfl | h
      · exact (s2.trans s3).free nu
      · exact (s2.trans (s34.trans s5)).free ne
      · exact (s2.trans s36).free h
    · rcases has x m with h | h | h
      · rw [List.mem_singleton.mp h]
        exact (nas f0 List.mem_cons_self).1
      · exact (nas x (List.mem_cons_of_mem _ (hfa.subset h))).1
      · exact absurd h List.not_mem_nil
end
end Fo
namespace Fo
open PySem PySem.Spec PyProof.Rows L2
/-- an order of n things -/
def GoodN (n : Nat) (d : PyData) : Prop := ∃ ns, d = .list (ns.map PyData.int) ∧ IsOrd n ns
def spIslN : Sp := fun vs H Q _ => ∃ (v : V) (d : PyData) (n : Nat), vs = [v, .int n] ∧ Dq H v d ∧ 1 ≤ n ∧ n ≤ 12 ∧ ∀ (b : Bool) (H' : Hp), (b = true ↔ GoodN n d) → Same H H' → Q (.bl b) H'
theorem goodN_len {n : Nat} {ds : List PyData} (h : GoodN n (.list ds)) : ds.length = n := by
  obtain ⟨ns, e, o⟩ := h
  injection e with e
  rw [e, List.length_map, o.len]
theorem all_snocQ {α : Type} {xs : List α} {i : Nat} {x : α} (e : xs[i]? = some x) {p : α → Prop} : (∀ y ∈ xs.take (i + 1), p y) ↔ (∀ y ∈ xs.take i, p y) ∧ p x := by
  rw [List.take_add_one, e]
  constructor
  · intro h
    exact ⟨fun y m => h y (List.mem_append_left _ m), h x (List.mem_append_right _ List.mem_cons_self)⟩
  · rintro ⟨h1, h2⟩ y m
    rcases List.mem_append.mp m with m | m
    · exact h1 y m
    · rw [List.mem_singleton.mp m]
      exact h2
theorem isE_false {xs : List V} (h : xs ≠ []) : xs.isEmpty = false := by
  cases xs with
  | nil => exact absurd rfl h
  | cons _ _ => rfl
section
variable {P : Program} {w : World} {K : PySem.W.Frag} {mg : Str → Option Value} {base : Heap}
end
end Fo
namespace Fo
open PySem PySem.Spec PyProof.Rows L2
theorem upA_snoc {w : Str} {d : Int} {rs : List (List Int)} {i : Nat} {o : List Int} (e : rs[i]? = some o) : UpA w d (rs.take (i + 1)) ↔ UpA w d (rs.take i) ∧ ∀ r ∈ rs.take i, d ≤ farW w o r := by
  rw [List.take_add_one, e]
  show (_ ++ [o]).Pairwise _ ↔ _
  rw [List.pairwise_append]
  constructor
  · rintro ⟨h1, _, h3⟩
    exact ⟨h1, fun r m => h3 r m o List.mem_cons_self⟩
  · rintro ⟨h1, h2⟩
    refine ⟨h1, List.pairwise_singleton _ _, fun a ma b mb => ?_⟩
    rw [List.mem_singleton.mp mb]
    exact h2 a ma
theorem UpA.take {w : Str} {d : Int} {rs : List (List Int)} (h : UpA w d rs) (i : Nat) : UpA w d (rs.take i) := h.sublist (List.take_sublist _ _)
/-- a list of orders of n things, any two so far apart -/
def ApD (w : Str) (n : Nat) (d : Int) (x : PyData) : Prop := ∃ ds, x = .list ds ∧ (∀ y ∈ ds, GoodN n y) ∧ UpA w d (ds.map intsD)
theorem goodN_D {n : Nat} {y : PyData} (h : GoodN n y) (h1 : 1 ≤ n) (h2 : n ≤ 12) : GoodD y ∧ lenD y = n ∧ IsOrd n (intsD y) := by
  obtain ⟨ns, rfl, o⟩ := h
  have l := o.len
  rw [intsD_of]
  exact ⟨⟨ns, rfl, by rw [l]; exact o, by omega, by omega⟩, by show (ns.map PyData.int).length = n; rw [List.length_map, l], o⟩
theorem goodD_N {n : Nat} {y : PyData} (h : GoodD y) (e : lenD y = n) : GoodN n y := by
  obtain ⟨ns, rfl, o, _⟩ := h
  have e : (ns.map PyData.int).length = n := e
  rw [List.length_map] at e
  exact ⟨ns, rfl, by rw [← e]; exact o⟩
def spLApD : Sp := fun vs H Q _ => ∃ (w : Str) (n : Nat) (d : Int) (v : V) (x : PyData), vs = [.str w, .int n, .int d, v] ∧ IsWay w ∧ 1 ≤ n ∧ n ≤ 12 ∧ Dq H v x ∧ (∀ ds, x = .list ds → ds.length ≤ 1000000) ∧ ∀ (b : Bool) (H' : Hp), (b = true ↔ ApD w n d x) → Same H H' → Q (.bl b) H'
section
variable {P : Program} {w : World} {K : PySem.W.Frag} {mg : Str → Option Value} {base : Heap}
end
end Fo
namespace Fo
open PySem PySem.Spec PyProof.Rows L2
theorem upA_to {w : Str} {d : Int} {rs : List (List Int)} (h : UpA w d rs) {i : Nat} {o : List Int} (e : rs[i]? = some o) : farAll w d o (rs.take i) = true := by
  unfold farAll
  rw [List.all_eq_true]
  intro x m
  obtain ⟨j, hj⟩ := List.mem_iff_getElem?.mp m
  rw [List.getElem?_take] at hj
  split at hj
  · rename_i hlt
    have hi := (List.getElem?_eq_some_iff.mp e).1
    have h2 := List.pairwise_iff_getElem.mp h j i (by omega) hi hlt
    rw [(List.getElem?_eq_some_iff.mp hj).2, (List.getElem?_eq_some_iff.mp e).2] at h2
    exact decide_eq_true h2
  · cases hj
theorem OL.keepT {H H' : Hp} {l : Addr} {as : List Addr} {rs : List (List Int)} {n : Nat} (h : OL H l as rs n) (s : KeepT H H') : OL H' l as rs n := ⟨s.lst h.top, h.ll.keepT s, h.ord, h.n1, h.n2⟩
def spAreFarD (Pt : Addr) : Sp := fun vs H Q _ => ∃ (w : Str) (d : Int) (l : Addr) (as : List Addr) (rs : List (List Int)) (n : Nat), vs = [.str w, .int d, .ref l] ∧ IsWay w ∧ OL H l as rs n ∧ GxR.TabG H Pt ∧ ∀ (b : Bool) H', (b = true ↔ UpA w d rs) → KeepT H H' → Q (.bl b) H'
def spLiesD (Pt : Addr) : Sp := fun vs H Q _ => ∃ (w : Str) (d : Int) (v : V) (x : PyData) (n : Nat), vs = [.str w, .int n, .int d, v] ∧ IsWay w ∧ 1 ≤ d ∧ 1 ≤ n ∧ n ≤ 12 ∧ Dq H v x ∧ (∀ ds, x = .list ds → ds.length ≤ 1000000) ∧ GxR.TabG H Pt ∧ ∀ (b : Bool) H', (b = true ↔ ApD w n d x) → KeepT H H' → Q (.bl b) H'
section
variable {P : Program} {w : World} {K : PySem.W.Frag} {mg : Str → Option Value} {base : Heap}
theorem scAF : FnScope ["way", "d", "orders", "place", "order"] ["way", "d", "orders"] (defScope s_are_far) := ⟨rfl, rfl, rfl, by decide +kernel, rfl, by decide +kernel, by decide +kernel⟩
set_option maxHeartbeats 2000000 in
theorem ok_areFarD {f f3 Pt : Addr} {fd d3 : FuncData} {k c0 : Nat} (T : Df K mg "are_far" s_are_far ["way", "d", "orders"] f fd) (T_is_far : DfC K mg "is_far" s_is_far ["way", "d", "order", "others"] f3 d3 c0) (G_is_far : FnOk P w K mg base CX0 k f3 d3 ["way", "d", "order", "others"] (spIsFar Pt)) (B : Bi mg) : FnOk P w K mg base CX0 (k + 1) f fd ["way", "d", "orders"] (spAreFarD Pt) := by
  refine T.F.ok scAF (fun vs H Q E h => ?_) (fun cdv A outer s H vs Q E hr h => ?_)
  · obtain ⟨z, d, l, as, rs, n, rfl, _⟩ := h
    rfl
  · obtain ⟨z, d, l, as, rs, n, rfl, hz, hO, ht, q⟩ := h
    have hal := hO.ll.len
    refine ⟨_, 
      (pss_cons (ps_for PassesOwn.never rfl (pi_enum (by rfl) B.enumerate (pa_cons (pv 2) pa_nil)) (pg_tup (by rfl) (pgs_cons (pg_name (i := 3) scAF.nd rfl (.inl rfl)) (pgs_cons (pg_name (i := 4) scAF.nd rfl (.inl rfl)) pgs_nil)))
        (pss_one (ps_if (pt_not (pt_val (pe_call G_is_far hr (by rfl) T_is_far.g T_is_far.F.kp T_is_far.b .nil pass0 (pa_cons (pv 0) (pa_cons (pv 1) (pa_cons (pv 4) (pa_cons (pe_slice sl_list (pv 2) po_none (po_some (pv 3))) pa_nil)))))))
          (pss_one (ps_ret pe_bl))
          pss_nil)))
      (pss_one (ps_ret pe_bl))), ?_⟩
    refine ⟨_, rfl, l, _, rfl, SqL.of hO.top, ?_⟩
    refine for_enumL (K := K) (a := l) (xs := as.map V.ref) (fun i σ G => ∃ y3 y4, σ = [some (.str z), some (.int d), some (.ref l), y3, y4] ∧ (∀ j o, j < i → rs[j]? = some o → farAll z d o (rs.take j) = true) ∧ KeepT H G) ⟨_, _, rfl, fun j o hj => absurd hj (Nat.not_lt_zero _), KeepT.refl H⟩ (fun i σ G hP => by obtain ⟨_, _, _, _, kG⟩ := hP; exact SqL.of (kG.lst hO.top)) (fun i x T2 σ G hx hP nT => ?_) (fun σ G hP => ?_)
    · obtain ⟨y3, y4, rfl, hF, kG⟩ := hP
      obtain ⟨c0, ec, rfl⟩ := ref_at_inv hx
      have s0 := same_new (o := .tup [.int (i : Nat), .ref c0]) nT
      have k0 := kG.trans (KeepT.of_same s0)
      obtain ⟨o, eo, hc⟩ := (hO.ll.keepT k0).get ec
      have hi := (List.getElem?_eq_some_iff.mp eo).1
      refine ⟨T2, _, rfl, .inl (.inl upd_same), rfl, _, _, rfl, _, _, rfl, rfl, ?_⟩
      refine ⟨_, rfl, _, rfl, _, rfl, _, rfl, _, rfl, _, rfl, l, _, rfl, SqL.of (k0.lst hO.top), fun c nc => ?_⟩
      rw [cutV_takeN, ← List.map_take]
      have k1 := k0.trans (KeepT.of_same (same_new (o := .lst ((as.take i).map V.ref)) nc))
      have hc1 := same_new (o := .lst ((as.take i).map V.ref)) nc _ _ hc
      refine ⟨z, d, c0, c, n, o, as.take i, rs.take i, rfl, hz, hc1, hO.ord o (List.mem_of_getElem? eo), hO.n1, hO.n2, upd_same, LL.takeN i (hO.ll.keepT k1), fun r m => hO.ord r (List.mem_of_mem_take m), k1.tab ht, fun H2 k2 => ?_⟩
      have k12 := k1.trans k2
      refine ⟨_, rfl, ?_⟩
      cases hb : farAll z d o (rs.take i) with
      | true => exact iteF ⟨_, _, rfl, fun j o' hj e => by
          by_cases c : j < i
          · exact hF j o' c e
          · obtain rfl : j = i := by omega
            rw [eo] at e
            cases e
            exact hb, k12⟩
      | false => exact iteT (q false H2 ⟨fun z => absurd z (by decide), fun u => by rw [upA_to u eo] at hb; cases hb⟩ k12)
    · obtain ⟨y3, y4, rfl, hF, kG⟩ := hP
      exact (q true G ⟨fun _ => upA_of fun i o e => hF i o (by rw [List.length_map, hal]; exact (List.getElem?_eq_some_iff.mp e).1) e, fun _ => rfl⟩ kG)
theorem scLA : FnScope ["way", "n", "d", "thing", "order"] ["way", "n", "d", "thing"] (defScope s_lies_apart) := ⟨rfl, rfl, rfl, by decide +kernel, rfl, by decide +kernel, by decide +kernel⟩
set_option maxHeartbeats 2000000 in
theorem ok_liesD {f f1 f2 f3 Pt : Addr} {fd d1 d2 d3 : FuncData} {k : Nat} {tk : Tok} (T : Df K mg "lies_apart" s_lies_apart ["way", "n", "d", "thing"] f fd) (T_check_apart : Df K mg "check_apart" s_check_apart ["way", "n", "most", "d"] f1 d1) (T_is_order_list : Df K mg "is_order_list" s_is_order_list ["thing"] f2 d2) (T_are_far : Df K mg "are_far" s_are_far ["way", "d", "orders"] f3 d3) (G_check_apart : FnOk P w K mg base CX0 k f1 d1 ["way", "n", "most", "d"] spApart) (G_is_order_list : FnOk P w K mg base CX0 k f2 d2 ["thing"] spOLD) (G_are_far : FnOk P w K mg base CX0 k f3 d3 ["way", "d", "orders"] (spAreFarD Pt)) (B : Bi mg) (mM : mg "MOST_THINGS" = some (.int 12 tk)) : FnOk P w K mg base CX0 (k + 1) f fd ["way", "n", "d", "thing"] (spLiesD Pt) := by
  refine T.F.ok scLA (fun vs H Q E h => ?_) (fun cdv A outer s H vs Q E hr h => ?_)
  · obtain ⟨z, d, v, x, n, rfl, _⟩ := h
    rfl
  · obtain ⟨z, d, v, x, n, rfl, hz, hd, hn1, hn2, hx, hlen, ht, q⟩ := h
    have no : ∀ {b : Bool}, b = false → ¬ ApD z n d x → (b = true ↔ ApD z n d x) := fun h z => by
      subst h
      exact ⟨fun y => absurd y Bool.false_ne_true, fun y => absurd y z⟩
    refine ⟨_, 
      (pss_cons (ps_expr (pe_call G_check_apart hr (by rfl) T_check_apart.g T_check_apart.F.kp T_check_apart.b .nil pass0 (pa_cons (pv 0) (pa_cons (pv 1) (pa_cons (pe_glob (v := .int 12) (by rfl) mM ⟨_, rfl⟩) (pa_cons (pv 2) pa_nil))))))
      (pss_cons (ps_if (PW.pt (pw_or (pt_not (pt_val (pe_call G_is_order_list hr (by rfl) T_is_order_list.g T_is_order_list.F.kp T_is_order_list.b .nil pass0 (pa_cons (pv 3) pa_nil)))) (pw_or1 (pt_not (pt_val (pe_callB (cr_all rfl) (by rfl) B.all (by decide +kernel) (pa_cons (pe_lc (own := [("order", 4)]) (g := (gName 4)) (tt := tYes) (te := (tOp rEq (tCB (rLenS K) (tCons (tVar 4) tNil)) (tVar 1))) rfl scLA.nd (pi_list (pv 3)) (blkOk_by (N := ["way", "n", "d", "thing", "order"]) (sc := defScope s_lies_apart) (by decide +kernel)) (fun _ _ _ _ _ => (pg_name (i := 4) scLA.nd rfl (.inl rfl))) (fun _ _ _ _ _ => pts_nil) (fun _ _ _ _ _ => (pe_cmpR op_eq (pe_callB call_len_seq (by rfl) B.len PySem.boot_len (pa_cons (pv 4) pa_nil)) (pv 1) (nomark _)))) pa_nil)))))))
        (pss_one (ps_ret pe_bl))
        pss_nil)
      (pss_one (ps_ret (pe_call G_are_far hr (by rfl) T_are_far.g T_are_far.F.kp T_are_far.b .nil pass0 (pa_cons (pv 0) (pa_cons (pv 2) (pa_cons (pv 3) pa_nil)))))))), ?_⟩
    refine ⟨_, rfl, _, rfl, _, rfl, z, (n : Int), 12, d, rfl, hz, by omega, by omega, hd, ?_⟩
    refine ⟨_, rfl, v, x, rfl, hx, hlen, fun b H1 hb s1 => ⟨b, rfl, ?_⟩⟩
    cases b with
    | false => exact iteT (iteT (q _ _ (no rfl fun ⟨ds, e, g, _⟩ => absurd (hb.mpr ⟨ds, e, fun y m => (goodN_D (g y m) hn1 hn2).1, fun y my u mu => by rw [(goodN_D (g y my) hn1 hn2).2.1, (goodN_D (g u mu) hn1 hn2).2.1]⟩) Bool.false_ne_true) (KeepT.of_same s1)))
    | true =>
      obtain ⟨ds, rfl, hg, hll⟩ := hb.mp rfl
      refine iteF ?_
      cases hx with
      | @lst l xs _ e al =>
        have hdl := hlen ds rfl
        obtain ⟨as, rfl, hL⟩ := good_ll al hg
        have hal := hL.len
        rw [List.length_map] at hal
        have e1 := s1 _ _ e
        refine ⟨_, rfl, l, rfl, ⟨_, SqL.of e1⟩, fun p2 np2 => ?_⟩
        refine lc_list (K := K) (a := l) (xs := as.map V.ref) (fun i H5 => (∃ bs : List Bool, H5 p2 = some (.lst (bs.map V.bl)) ∧ bs.length = i ∧ (bs.all id = true ↔ ∀ y ∈ ds.take i, lenD y = n)) ∧ Same H1 H5) ⟨⟨[], upd_same, rfl, by simp⟩, same_new np2⟩ (fun i H5 _ hP => SqL.of (hP.2 _ _ e1)) (fun i x H5 hx hP => ?_) (fun H5 hP => ?_)
        · obtain ⟨a, ea, rfl⟩ := ref_at_inv hx
          obtain ⟨⟨bs, hp5, hbl, hbi⟩, sm5⟩ := hP
          obtain ⟨r, er, ha⟩ := ((hL.same s1).same sm5).get ea
          have hi := (List.getElem?_eq_some_iff.mp ea).1
          obtain ⟨y, ey⟩ : ∃ y, ds[i]? = some y := ⟨ds[i]'(by omega), List.getElem?_eq_getElem (by omega)⟩
          rw [List.getElem?_map, ey] at er
          have er : intsD y = r := Option.some.inj er
          subst er
          obtain ⟨gy, _⟩ := good_ints (hg y (List.mem_of_getElem? ey))
          have ly : lenD y = (intsD y).length := by
            have : lenD y = lenD (.list ((intsD y).map PyData.int)) := by rw [← gy]
            rw [this]
            show ((intsD y).map PyData.int).length = _
            rw [List.length_map]
          refine ⟨rfl, _, rfl, a, _, rfl, .inl (SqL.of ha), _, rfl, rfl, ?_⟩
          refine ⟨_, hp5, line_lt (by rw [List.length_map]; omega), ⟨bs ++ [decide (V.int (((intsD y).map V.int).length : Nat) = V.int (n : Int))], ?_, by rw [List.length_append, hbl]; rfl, ?_⟩, fun b o e => ?_⟩
          · rw [upd_same, List.map_append]
            rfl
          · rw [all_snoc, hbi, all_snocQ ey, decide_eq_true_iff]
            refine and_congr_right fun _ => ?_
            rw [List.length_map, ly]
            exact ⟨fun z => by have := V.int.inj z; omega, fun z => by rw [z]⟩
          · rw [upd_ne (ne_of_none e np2)]
            exact sm5 _ _ e
        · obtain ⟨⟨bs, hp5, hbl, hbi⟩, sm5⟩ := hP
          rw [List.take_of_length_le (by rw [List.length_map]; omega)] at hbi
          refine ⟨p2, _, rfl, SqL.of hp5, _, rfl, ?_⟩
          have s15 := s1.trans sm5
          cases hall : bs.all id with
          | false =>
            exact iteT (q _ _ (no rfl fun ⟨ds', e', g, _⟩ => by injection e' with e'; subst e'; exact absurd (hbi.mpr fun y m => (goodN_D (g y m) hn1 hn2).2.1) (by rw [hall]; decide)) (KeepT.of_same s15))
          | true =>
            have hn := hbi.mp hall
            have hO : OL H5 l as (ds.map intsD) n := ⟨s15 _ _ e, hL.same s15, fun r m => by obtain ⟨y, my, rfl⟩ := List.mem_map.mp m; exact (goodN_D (goodD_N (hg y my) (hn y my)) hn1 hn2).2.2, hn1, hn2⟩
            refine iteF ?_
            refine ⟨_, rfl, _, rfl, _, rfl, z, d, l, as, _, n, rfl, hz, hO, (KeepT.of_same s15).tab ht, fun b H6 hb k6 => ?_⟩
            exact q b H6 ⟨fun y => ⟨ds, rfl, fun x m => goodD_N (hg x m) (hn x m), hb.mp y⟩, fun ⟨ds', e', _, u⟩ => hb.mpr (by injection e' with e'; rw [e']; exact u)⟩ ((KeepT.of_same s15).trans k6)
end
end Fo
namespace Fo
open PySem PySem.Spec PyProof.Rows L2
theorem eqvAll_listsP : ∀ a b : List (List Int), PyData.eqvAll (a.map dL) (b.map dL) = decide (a = b)
  | [], [] => by simp [PyData.eqvAll]
  | [], _ :: _ => by simp [PyData.eqvAll]
  | _ :: _, [] => by simp [PyData.eqvAll]
  | x :: a, y :: b => by
    show PyData.eqvAll (dL x :: a.map dL) (dL y :: b.map dL) = _
    rw [PyData.eqvAll, eqvAll_listsP a b, eqv_ints]
    by_cases h : x = y
    · subst h
      simp
    · rw [decide_eq_false h, Bool.false_and, decide_eq_false (fun z => h (by injection z))]
theorem eqv_listsP (a b : List (List Int)) : PyData.eqv (dLL a) (dLL b) = decide (a = b) := by
  show PyData.eqv (.list (a.map dL)) (.list (b.map dL)) = _
  rw [PyData.eqv, eqvAll_listsP]
def DnA (w : Str) (d : Int) (rs : List (List Int)) : Prop := rs.Pairwise fun a b => farW w b a < d
theorem dnA_snoc {w : Str} {d : Int} {rs : List (List Int)} {i : Nat} {o : List Int} (e : rs[i]? = some o) : DnA w d (rs.take (i + 1)) ↔ DnA w d (rs.take i) ∧ nearAll w d o (rs.take i) = true := by
  rw [List.take_add_one, e]
  show (_ ++ [o]).Pairwise _ ↔ _
  rw [List.pairwise_append]
  unfold nearAll
  rw [List.all_eq_true]
  constructor
  · rintro ⟨h1, _, h3⟩
    exact ⟨h1, fun r m => decide_eq_true (h3 r m o List.mem_cons_self)⟩
  · rintro ⟨h1, h2⟩
    refine ⟨h1, List.pairwise_singleton _ _, fun a ma b mb => ?_⟩
    rw [List.mem_singleton.mp mb]
    exact of_decide_eq_true (h2 a ma)
theorem DnA.take {w : Str} {d : Int} {rs : List (List Int)} (h : DnA w d rs) (i : Nat) : DnA w d (rs.take i) := h.sublist (List.take_sublist _ _)
/-- a list of orders of n things, not empty, any two nearer than d -/
def PtD (w : Str) (n : Nat) (d : Int) (y : PyData) : Prop := ∃ es, y = .list es ∧ es ≠ [] ∧ (∀ e ∈ es, GoodN n e) ∧ DnA w d (es.map intsD)
/-- a parting of all orders of n things -/
def PartD (w : Str) (n : Nat) (d : Int) (x : PyData) : Prop := ∃ ds, x = .list ds ∧ (∀ y ∈ ds, PtD w n d y) ∧ ((ds.map rowsD').flatten).Perm (allK n n)
/-- parts on the heap: lists of rows -/
inductive PtL (H : Hp) : List Addr → List (List Addr) → List (List (List Int)) → Prop
  | nil : PtL H [] [] []
  | cons {p : Addr} {ps : List Addr} {bs : List Addr} {bss : List (List Addr)} {rs : List (List Int)} {rss : List (List (List Int))} : H p = some (.lst (bs.map V.ref)) → LL H bs rs → PtL H ps bss rss → PtL H (p :: ps) (bs :: bss) (rs :: rss)
theorem PtL.keepT {H H' : Hp} {ps : List Addr} {bss : List (List Addr)} {rss : List (List (List Int))} (h : PtL H ps bss rss) (s : KeepT H H') : PtL H' ps bss rss := by
  induction h with
  | nil => exact .nil
  | cons e l _ ih => exact .cons (s.lst e) (l.keepT s) ih
theorem PtL.same {H H' : Hp} {ps : List Addr} {bss : List (List Addr)} {rss : List (List (List Int))} (h : PtL H ps bss rss) (s : Same H H') : PtL H' ps bss rss := h.keepT (KeepT.of_same s)
theorem PtL.len {H : Hp} {ps : List Addr} {bss : List (List Addr)} {rss : List (List (List Int))} (h : PtL H ps bss rss) : ps.length = rss.length ∧ bss.length = rss.length := by
  induction h with
  | nil => exact ⟨rfl, rfl⟩
  | cons _ _ _ ih => exact ⟨by rw [List.length_cons, List.length_cons, ih.1], by rw [List.length_cons, List.length_cons, ih.2]⟩
theorem PtL.get {H : Hp} {ps : List Addr} {bss : List (List Addr)} {rss : List (List (List Int))} (h : PtL H ps bss rss) : ∀ {i : Nat} {p : Addr}, ps[i]? = some p → ∃ bs rs, bss[i]? = some bs ∧ rss[i]? = some rs ∧ H p = some (.lst (bs.map V.ref)) ∧ LL H bs rs := by
  induction h with
  | nil => intro i p e; simp at e
  | cons e l _ ih =>
    intro i p ep
    cases i with
    | zero =>
      have := Option.some.inj (show some _ = some p from ep)
      subst this
      exact ⟨_, _, rfl, rfl, e, l⟩
    | succ i => exact ih (show _ from ep)
theorem old_pt {H : Hp} : ∀ {xs : List V} {ds : List PyData}, DqAll H xs ds → (∀ y ∈ ds, OLd y) → ∃ (ps : List Addr) (bss : List (List Addr)), xs = ps.map V.ref ∧ PtL H ps bss (ds.map rowsD')
  | [], [], _, _ => ⟨[], [], rfl, .nil⟩
  | _ :: _, d :: _, .cons h t, g => by
    obtain ⟨es, rfl, ge, _⟩ := g d List.mem_cons_self
    cases h with
    | @lst a xs _ e al =>
      obtain ⟨as, rfl, hL⟩ := good_ll al ge
      obtain ⟨ps, bss, rfl, hP⟩ := old_pt t fun y m => g y (List.mem_cons_of_mem _ m)
      exact ⟨a :: ps, as :: bss, rfl, .cons e hL hP⟩
def spAreNearD (Pt : Addr) : Sp := fun vs H Q _ => ∃ (w : Str) (d : Int) (l : Addr) (as : List Addr) (rs : List (List Int)) (n : Nat), vs = [.str w, .int d, .ref l] ∧ IsWay w ∧ OL H l as rs n ∧ GxR.TabG H Pt ∧ ∀ (b : Bool) H', (b = true ↔ DnA w d rs) → KeepT H H' → Q (.bl b) H'
def spPartD (Pt Pp : Addr) : Sp := fun vs H Q _ => ∃ (w : Str) (d : Int) (v : V) (x : PyData) (n : Nat), vs = [.str w, .int n, .int d, v] ∧ IsWay w ∧ 1 ≤ d ∧ 1 ≤ n ∧ n ≤ 5 ∧ Dq H v x ∧ Rw 1000000 9 x ∧ GxR.TabG H Pt ∧ GxR.TabG H Pp ∧ ∀ (b : Bool) H', (b = true ↔ PartD w n d x) → KeepT H H' → Q (.bl b) H'
theorem sort_rows {K : PySem.W.Frag} {H : Hp} {D : Addr} {bs : List Addr} {rs : List (List Int)} (hD : H D = some (.lst (bs.map V.ref))) (hL : LL H bs rs) :
    ∃ (ps : List (Addr × List Int)) (ss : List (List Int)), ss.Perm rs ∧ ss.Pairwise (· ≤ ·) ∧ SqL K H D (ps.map fun p => V.ref p.1) ∧ (∀ p ∈ ps, Dp K H (.ref p.1) (dL p.2)) ∧ ∀ l, H l = none → ∃ cs : List Addr, ((rowsR ps).map fun p => V.ref p.1) = cs.map V.ref ∧ LL (upd H l (.lst (cs.map V.ref))) cs ss ∧ ∀ c ∈ cs, c ∈ bs := by
  obtain ⟨h1, h2, h3⟩ := LL_zip hL
  have pm : ((rowsR (bs.zip rs)).map (·.2)).Perm rs := by
    have := (rowsR_perm (bs.zip rs)).map (·.2)
    rwa [h2] at this
  obtain ⟨ps, h4, h5, h6⟩ := sorted_rows (K := K) hD hL pm.symm (rowsR_sorted (bs.zip rs))
  exact ⟨ps, _, pm, rowsR_sorted _, h4, h5, h6⟩
theorem allK_le (n : Nat) : (allK n n).Pairwise (· ≤ ·) := (allK_sorted (n := n) n).imp fun h => List.le_of_lt h
theorem sort_is {n : Nat} {ss rs : List (List Int)} (h : ss.Perm rs) (hs : ss.Pairwise (· ≤ ·)) : ss = allK n n ↔ rs.Perm (allK n n) := by
  constructor
  · rintro rfl
    exact h.symm
  · intro p
    exact rows_eq (h.trans p) hs (allK_le n)
theorem rowsD_wt : ∀ y : PyData, (rowsD' y).length ≤ wt y
  | .list es => by
    show (es.map intsD).length ≤ _
    have := wtL_len es
    rw [List.length_map, wt]
    omega
  | .none => Nat.zero_le _
  | .bool _ => Nat.zero_le _
  | .int _ => Nat.zero_le _
  | .str _ => Nat.zero_le _
  | .tuple _ => Nat.zero_le _
  | .dict _ => Nat.zero_le _
theorem rows_wt : ∀ ds : List PyData, ((ds.map rowsD').flatten).length ≤ wtL ds
  | [] => Nat.zero_le _
  | d :: ds => by
    rw [List.map_cons, List.flatten_cons, List.length_append, wtL]
    have := rowsD_wt d
    have := rows_wt ds
    omega
theorem flat_len_mem : ∀ {pp : List (List (List Int))} {rs : List (List Int)}, rs ∈ pp → rs.length ≤ pp.flatten.length
  | [], _, m => absurd m List.not_mem_nil
  | a :: pp, rs, m => by
    rw [List.flatten_cons, List.length_append]
    rcases List.mem_cons.mp m with rfl | m
    · omega
    · have := flat_len_mem m
      omega
theorem flat_take_len : ∀ {pp : List (List (List Int))} (i : Nat), (pp.take i).flatten.length ≤ pp.flatten.length
  | [], _ => by simp
  | a :: pp, 0 => by simp
  | a :: pp, i + 1 => by
    have := flat_take_len (pp := pp) i
    rw [List.take_succ_cons, List.flatten_cons, List.flatten_cons, List.length_append, List.length_append]
    omega
section
variable {P : Program} {w : World} {K : PySem.W.Frag} {mg : Str → Option Value} {base : Heap}
theorem scAND : FnScope ["way", "d", "orders", "place", "order"] ["way", "d", "orders"] (defScope s_are_near) := ⟨rfl, rfl, rfl, by decide +kernel, rfl, by decide +kernel, by decide +kernel⟩
set_option maxHeartbeats 2000000 in
theorem ok_areNearD {f f3 Pt : Addr} {fd d3 : FuncData} {k c0 : Nat} (T : Df K mg "are_near" s_are_near ["way", "d", "orders"] f fd) (T_is_near : DfC K mg "is_near" s_is_near ["way", "d", "order", "others"] f3 d3 c0) (G_is_near : FnOk P w K mg base CX0 k f3 d3 ["way", "d", "order", "others"] (spIsNear Pt)) (B : Bi mg) : FnOk P w K mg base CX0 (k + 1) f fd ["way", "d", "orders"] (spAreNearD Pt) := by
  refine T.F.ok scAND (fun vs H Q E h => ?_) (fun cdv A outer s H vs Q E hr h => ?_)
  · obtain ⟨z, d, l, as, rs, n, rfl, _⟩ := h
    rfl
  · obtain ⟨z, d, l, as, rs, n, rfl, hz, hO, ht, q⟩ := h
    have hal := hO.ll.len
    refine ⟨_, 
      (pss_cons (ps_for PassesOwn.never rfl (pi_enum (by rfl) B.enumerate (pa_cons (pv 2) pa_nil)) (pg_tup (by rfl) (pgs_cons (pg_name (i := 3) scAND.nd rfl (.inl rfl)) (pgs_cons (pg_name (i := 4) scAND.nd rfl (.inl rfl)) pgs_nil)))
        (pss_one (ps_if (pt_not (pt_val (pe_call G_is_near hr (by rfl) T_is_near.g T_is_near.F.kp T_is_near.b .nil pass0 (pa_cons (pv 0) (pa_cons (pv 1) (pa_cons (pv 4) (pa_cons (pe_slice sl_list (pv 2) po_none (po_some (pv 3))) pa_nil)))))))
          (pss_one (ps_ret pe_bl))
          pss_nil)))
      (pss_one (ps_ret pe_bl))), ?_⟩
    refine ⟨_, rfl, l, _, rfl, SqL.of hO.top, ?_⟩
    refine for_enumL (K := K) (a := l) (xs := as.map V.ref) (fun i σ G => ∃ y3 y4, σ = [some (.str z), some (.int d), some (.ref l), y3, y4] ∧ DnA z d (rs.take i) ∧ KeepT H G) ⟨_, _, rfl, .nil, KeepT.refl H⟩ (fun i σ G hP => by obtain ⟨_, _, _, _, kG⟩ := hP; exact SqL.of (kG.lst hO.top)) (fun i x T2 σ G hx hP nT => ?_) (fun σ G hP => ?_)
    · obtain ⟨y3, y4, rfl, hF, kG⟩ := hP
      obtain ⟨c0, ec, rfl⟩ := ref_at_inv hx
      have s0 := same_new (o := .tup [.int (i : Nat), .ref c0]) nT
      have k0 := kG.trans (KeepT.of_same s0)
      obtain ⟨o, eo, hc⟩ := (hO.ll.keepT k0).get ec
      have hi := (List.getElem?_eq_some_iff.mp eo).1
      refine ⟨T2, _, rfl, .inl (.inl upd_same), rfl, _, _, rfl, _, _, rfl, rfl, ?_⟩
      refine ⟨_, rfl, _, rfl, _, rfl, _, rfl, _, rfl, _, rfl, l, _, rfl, SqL.of (k0.lst hO.top), fun c nc => ?_⟩
      rw [cutV_takeN, ← List.map_take]
      have k1 := k0.trans (KeepT.of_same (same_new (o := .lst ((as.take i).map V.ref)) nc))
      have hc1 := same_new (o := .lst ((as.take i).map V.ref)) nc _ _ hc
      refine ⟨z, d, c0, c, n, o, as.take i, rs.take i, rfl, hz, hc1, hO.ord o (List.mem_of_getElem? eo), hO.n1, hO.n2, upd_same, LL.takeN i (hO.ll.keepT k1), fun r m => hO.ord r (List.mem_of_mem_take m), k1.tab ht, fun H2 k2 => ?_⟩
      have k12 := k1.trans k2
      refine ⟨_, rfl, ?_⟩
      cases hb : nearAll z d o (rs.take i) with
      | true => exact iteF ⟨_, _, rfl, (dnA_snoc eo).mpr ⟨hF, hb⟩, k12⟩
      | false => exact iteT (q false H2 ⟨fun z => absurd z (by decide), fun u => by have := ((dnA_snoc eo).mp (u.take (i + 1))).2; rw [hb] at this; cases this⟩ k12)
    · obtain ⟨y3, y4, rfl, hF, kG⟩ := hP
      rw [List.take_of_length_le (by rw [List.length_map]; omega)] at hF
      exact q true G ⟨fun _ => hF, fun _ => rfl⟩ kG
theorem scIPD : FnScope ["way", "n", "d", "thing", "part", "order"] ["way", "n", "d", "thing"] (defScope s_is_parting) := ⟨rfl, rfl, rfl, by decide +kernel, rfl, by decide +kernel, by decide +kernel⟩
set_option maxHeartbeats 4000000 in
theorem ok_partD {f f1 f2 f3 f4 c Pt Pp : Addr} {fd d1 d2 d3 d4 : FuncData} {k : Nat} {tk : Tok} (T : DfC K mg "is_parting" s_is_parting ["way", "n", "d", "thing"] f fd c) (TB : LamX.TabB base mg c Pp) (T_check_apart : Df K mg "check_apart" s_check_apart ["way", "n", "most", "d"] f1 d1) (T_is_order_list : Df K mg "is_order_list" s_is_order_list ["thing"] f2 d2) (T_all_orders : Df K mg "all_orders" s_all_orders ["n"] f3 d3) (T_are_near : Df K mg "are_near" s_are_near ["way", "d", "orders"] f4 d4) (G_check_apart : FnOk P w K mg base CX0 (k + 1) f1 d1 ["way", "n", "most", "d"] spApart) (G_is_order_list : FnOk P w K mg base CX0 (k + 1) f2 d2 ["thing"] spOLD) (G_all_orders : FnOk P w K mg base CX0 (k + 1) f3 d3 ["n"] spAllO) (G_are_near : FnOk P w K mg base CX0 k f4 d4 ["way", "d", "orders"] (spAreNearD Pt)) (B : Bi mg) (mL : mg "MOST_PARTED" = some (.int 5 tk)) : FnOk P w K mg base CX0 (k + 2) f fd ["way", "n", "d", "thing"] (spPartD Pt Pp) := by
  refine fun_okC T.F T.c scIPD (fun vs H Q E h => ?_) (fun A outer s H vs Q E hr h => ?_)
  · obtain ⟨z, d, v, x, n, rfl, _⟩ := h
    rfl
  · obtain ⟨z, d, v, x, n, rfl, hz, hd, hn1, hn5, hx, rx, ht, htp, q⟩ := h
    have no : ∀ {b : Bool}, b = false → ¬ PartD z n d x → (b = true ↔ PartD z n d x) := fun h z => by
      subst h
      exact ⟨fun y => absurd y Bool.false_ne_true, fun y => absurd y z⟩
    refine ⟨_, 
      (pss_cons (ps_expr (pe_call G_check_apart hr (by rfl) T_check_apart.g T_check_apart.F.kp T_check_apart.b .nil pass0 (pa_cons (pv 0) (pa_cons (pv 1) (pa_cons (pe_glob (v := .int 5) (by rfl) mL ⟨_, rfl⟩) (pa_cons (pv 2) pa_nil))))))
      (pss_cons (ps_if (PW.pt (pw_or (pt_not (pt_val (pe_callB call_isi (by rfl) B.isinstance (by decide +kernel) (pa_cons (pv 3) (pa_cons (pe_bltn (v := .ty "list") (by rfl) B.list (by decide +kernel) rfl) pa_nil))))) (pw_or1 (pt_not (pt_val (pe_callB (cr_all rfl) (by rfl) B.all (by decide +kernel) (pa_cons (pe_lc (own := [("part", 4)]) (g := (gName 4)) (tt := tYes) (te := (tAndV (tCall spOLD [] E0 (tCons (tVar 4) tNil)) (tOp (rI0 fun i j => .bl (decide (j < i))) (tCB (rLenS K) (tCons (tVar 4) tNil)) (tC (.int 0))))) rfl scIPD.nd (pi_list (pv 3)) (blkOk_by (N := ["way", "n", "d", "thing", "part", "order"]) (sc := defScope s_is_parting) (by decide +kernel)) (fun _ _ _ _ _ => (pg_name (i := 4) scIPD.nd rfl (.inl rfl))) (fun _ _ _ _ _ => pts_nil) (fun _ _ _ _ _ => (pe_and (pe_call G_is_order_list hr (by rfl) T_is_order_list.g T_is_order_list.F.kp T_is_order_list.b .nil pass0 (pa_cons (pv 4) pa_nil)) (pe_one (pe_cmpR op_gt (pe_callB call_len_seq (by rfl) B.len PySem.boot_len (pa_cons (pv 4) pa_nil)) pe_int (nomark _)))))) pa_nil)))))))
        (pss_one (ps_ret pe_bl))
        pss_nil)
      (pss_cons (ps_if (pt_cmpR (op_neD hr.units) (pe_callB (cr_sortedR hr.units) (by rfl) B.sorted (by decide +kernel) (pa_cons (pe_lc2 (own := [("part", 4), ("order", 5)]) (vs1 := [5]) (wi1 := iList K (tVar 4)) (g := (gName 4)) (tt := tYes) (g1 := (gName 5)) (tt1 := tYes) (te := (tVar 5)) rfl scIPD.nd (pi_list (pv 3)) (blkOk_by (N := ["way", "n", "d", "thing", "part", "order"]) (sc := defScope s_is_parting) (by decide +kernel)) (by decide) (fun _ _ _ _ _ => (pg_name (i := 4) scIPD.nd rfl (.inl rfl))) (fun _ _ _ _ _ => pts_nil) (fun _ _ _ _ _ => (pi_list (pv 4))) (fun _ _ _ _ _ => (pg_name (i := 5) scIPD.nd rfl (.inl rfl))) (fun _ _ _ _ _ => pts_nil) (fun _ _ _ _ _ => (pv 5))) pa_nil)) (pe_call G_all_orders hr (by rfl) T_all_orders.g T_all_orders.F.kp T_all_orders.b .nil pass0 (pa_cons (pv 1) pa_nil)) (nomark _))
        (pss_one (ps_ret pe_bl))
        pss_nil)
      (pss_one (ps_ret (pe_allG (own := [("part", 4)]) (gt := (gName 4)) (te := (tCall (spAreNearD Pt) [] E0 (tCons (tVar 0) (tCons (tVar 2) (tCons (tVar 4) tNil))))) rfl scIPD.nd hr (by rfl) B.all (by decide +kernel) TB rfl (pi_list (pv 3)) (blkOk_by (N := ["way", "n", "d", "thing", "part", "order"]) (sc := defScope s_is_parting) (by decide +kernel)) (gsc_by (by decide +kernel)) (fun _ _ _ _ _ _ _ => (pg_name (i := 4) scIPD.nd rfl (.inl rfl))) (fun _ _ _ _ _ _ _ => (pe_call G_are_near (room_gen hr) (by rfl) T_are_near.g T_are_near.F.kp T_are_near.b .nil pass0 (pa_cons (pv 0) (pa_cons (pv 2) (pa_cons (pv 4) pa_nil))))))))))), ?_⟩
    refine ⟨_, rfl, _, rfl, _, rfl, z, (n : Int), 5, d, rfl, hz, by omega, by omega, hd, ?_⟩
    refine ⟨_, rfl, _, _, _, _, isListD x, rfl, .ty _, dq_ty hx, kit_listD x, _, rfl, ?_⟩
    cases hl : isListD x with
    | false => exact iteT (iteT (q _ _ (no rfl fun ⟨ds, e, _⟩ => by rw [e] at hl; cases hl) (KeepT.refl H)))
    | true =>
      cases hx with
      | @lst l xs ds e al =>
        have hal := al.len
        have hwt := rows_wt ds
        have hw2 := rx.l
        rw [wt] at hw2
        have hdl := wtL_len ds
        refine iteF ?_
        refine ⟨_, rfl, l, rfl, ⟨_, SqL.of e⟩, fun p np => ?_⟩
        refine lc_list (K := K) (a := l) (xs := xs) (fun i H5 => (∃ bs : List Bool, H5 p = some (.lst (bs.map V.bl)) ∧ bs.length = i ∧ (bs.all id = true ↔ ∀ y ∈ ds.take i, OLd y ∧ y ≠ .list [])) ∧ Same H H5) ⟨⟨[], upd_same, rfl, by simp⟩, same_new np⟩ (fun i H5 _ hP => SqL.of (hP.2 _ _ e)) (fun i x H5 hx hP => ?_) (fun H5 hP => ?_)
        · obtain ⟨⟨bs, hp, hbl, hbi⟩, sm⟩ := hP
          obtain ⟨y, ey, hy⟩ := al.get hx
          have hi := (List.getElem?_eq_some_iff.mp ey).1
          have ry := rx.lsts.mem (List.mem_of_getElem? ey)
          have add : ∀ (b : Bool) (H6 : Hp), Same H5 H6 → (b = true ↔ OLd y ∧ y ≠ .list []) → ∃ acc, H6 p = some (.lst acc) ∧ acc.length < sizeLine ∧ ((∃ bs : List Bool, (upd H6 p (.lst (acc ++ [V.bl b]))) p = some (.lst (bs.map V.bl)) ∧ bs.length = i + 1 ∧ (bs.all id = true ↔ ∀ y ∈ ds.take (i + 1), OLd y ∧ y ≠ .list [])) ∧ Same H (upd H6 p (.lst (acc ++ [V.bl b])))) := fun b H6 s6 hb =>
            ⟨_, s6 _ _ hp, line_lt (by rw [List.length_map]; omega), ⟨bs ++ [b], by rw [upd_same, List.map_append]; rfl, by rw [List.length_append, hbl]; rfl, by rw [all_snoc, hbi, hb, all_snocQ ey]⟩, fun b o e => by rw [upd_ne (ne_of_none e np)]; exact s6 _ _ (sm _ _ e)⟩
          refine ⟨rfl, _, rfl, x, y, rfl, hy.same sm, fun es ee => by subst ee; exact rw_len ry, fun b H6 hb s6 => ⟨b, rfl, ?_⟩⟩
          cases b with
          | false => exact iteF (add false H6 s6 ⟨fun z => absurd z Bool.false_ne_true, fun z => hb.mpr z.1⟩)
          | true =>
            have ho := hb.mp rfl
            obtain ⟨es, rfl, _⟩ := id ho
            have hy6 := (hy.same sm).same s6
            cases hy6 with
            | @lst c zs _ ec ac =>
              have hcl := ac.len
              refine iteT ⟨_, rfl, c, _, rfl, .inl (SqL.of ec), _, 0, rfl, rfl, ?_⟩
              refine add _ H6 s6 ⟨fun z => ⟨ho, fun w => ?_⟩, fun z => decide_eq_true ?_⟩
              · injection w with w
                have := of_decide_eq_true z
                rw [hcl, w] at this
                exact absurd this (by decide)
              · have : es ≠ [] := fun w => z.2 (by rw [w])
                have : 0 < es.length := List.length_pos_iff.mpr this
                omega
        obtain ⟨⟨bs, hp5, hbl, hbi⟩, s5⟩ := hP
        rw [List.take_of_length_le (by omega)] at hbi
        refine ⟨p, _, rfl, SqL.of hp5, _, rfl, ?_⟩
        have fromP : PartD z n d (.list ds) → ∀ y ∈ ds, OLd y ∧ y ≠ .list [] := fun ⟨ds', e', g, _⟩ y m => by
          injection e' with e'
          subst e'
          obtain ⟨es, rfl, ne, ge, _⟩ := g y m
          exact ⟨⟨es, rfl, fun x mx => (goodN_D (ge x mx) hn1 (by omega)).1, fun a ma b mb => by rw [(goodN_D (ge a ma) hn1 (by omega)).2.1, (goodN_D (ge b mb) hn1 (by omega)).2.1]⟩, fun w => ne (by injection w)⟩
        cases hall : bs.all id with
        | false => exact iteT (q _ _ (no rfl fun z => by have := hbi.mpr (fromP z); rw [hall] at this; cases this) (KeepT.of_same s5))
        | true =>
          have hg := hbi.mp hall
          refine iteF ?_
          obtain ⟨ps, bss, rfl, hL⟩ := old_pt al fun y m => (hg y m).1
          generalize hrss : ds.map rowsD' = rss at hL hwt
          have hll := hL.len
          have lps : (ps.map V.ref).length = ps.length := List.length_map _
          refine ⟨_, rfl, l, rfl, ⟨_, SqL.of (s5 _ _ e)⟩, fun D nD => ?_⟩
          have hl5 := s5 _ _ e
          have hL5 := hL.same s5
          refine lc2_list (K := K) (a := l) (xs := ps.map V.ref) (fun m H4 => ∃ cs : List Addr, H4 D = some (.lst (cs.map V.ref)) ∧ LL H4 cs ((rss.take m).flatten) ∧ (∀ u ∈ cs, ∃ ob, H5 u = some ob) ∧ Same H5 H4) ⟨[], upd_same, trivial, fun u m => absurd m List.not_mem_nil, same_new nD⟩ (fun i H4 _ hP => by obtain ⟨_, _, _, _, s4⟩ := hP; exact SqL.of (s4 _ _ hl5)) (fun m x H4 hx hP => ?_) (fun H4 hP => ?_)
          · obtain ⟨cs, hD4, hLc4, htr, s4⟩ := hP
            obtain ⟨c0, ec, rfl⟩ := ref_at_inv hx
            obtain ⟨bs, rs, eb, er, hp, hLp⟩ := hL5.get ec
            have lb := hLp.len
            have etk : (rss.take (m + 1)).flatten = (rss.take m).flatten ++ rs := by
              rw [List.take_add_one, er, List.flatten_append]
              simp
            have hmx := flat_take_len (pp := rss) (m + 1)
            refine ⟨rfl, ?_⟩
            refine ⟨_, rfl, c0, rfl, ⟨_, SqL.of (s4 _ _ hp)⟩, ?_⟩
            refine in_list (K := K) (a := c0) (xs := bs.map V.ref) (fun j H6 => ∃ cs : List Addr, H6 D = some (.lst (cs.map V.ref)) ∧ LL H6 cs ((rss.take m).flatten ++ rs.take j) ∧ (∀ u ∈ cs, ∃ ob, H5 u = some ob) ∧ Same H5 H6) ⟨cs, hD4, by rw [List.take_zero, List.append_nil]; exact hLc4, htr, s4⟩ (fun j H6 _ hP => by obtain ⟨_, _, _, _, s6⟩ := hP; exact SqL.of (s6 _ _ hp)) (fun j x H6 hx hP => ?_) (fun H6 hP => ?_)
            · obtain ⟨cs6, hD6, hL6, htr6, s6⟩ := hP
              obtain ⟨u0, eu, rfl⟩ := ref_at_inv hx
              obtain ⟨o, eo, ho⟩ := (hLp.same s6).get eu
              have l6 := hL6.len
              have hcnt : cs6.length ≤ 1000000 := by
                rw [l6, List.length_append, List.length_take]
                rw [etk, List.length_append] at hmx
                omega
              have nuD : u0 ≠ D := fun y => by
                obtain ⟨ob, eo'⟩ := hLp.tracked (List.mem_of_getElem? eu)
                rw [y, nD] at eo'
                cases eo'
              refine ⟨rfl, _, rfl, _, hD6, line_lt (by rw [List.length_map]; omega), cs6 ++ [u0], by rw [upd_same, List.map_append]; rfl, ?_, fun u hu => ?_, fun b ob e => ?_⟩
              · rw [List.take_add_one, eo, ← List.append_assoc]
                refine LL.snoc (hL6.keep fun u hu ob e => ?_) ?_
                · have nu : u ≠ D := fun y => by
                    obtain ⟨ob2, e2⟩ := htr6 u hu
                    rw [y, nD] at e2
                    cases e2
                  rw [upd_ne nu]
                  exact e
                · rw [upd_ne nuD]
                  exact ho
              · rcases List.mem_append.mp hu with hu | hu
                · exact htr6 u hu
                · rw [List.mem_singleton.mp hu]
                  exact hLp.tracked (List.mem_of_getElem? eu)
              · rw [upd_ne (ne_of_none e nD)]
                exact s6 _ _ e
            · obtain ⟨cs6, hD6, hL6, htr6, s6⟩ := hP
              have e3 : rs.take (bs.map V.ref).length = rs := List.take_of_length_le (by rw [List.length_map]; omega)
              rw [e3, ← etk] at hL6
              exact ⟨cs6, hD6, hL6, htr6, s6⟩
          obtain ⟨cs, hD4, hLc4, htr, s4⟩ := hP
          rw [List.take_of_length_le (by omega)] at hLc4
          obtain ⟨qs, ss, pm, hss, sq, hdq, hfin⟩ := sort_rows (K := K) hD4 hLc4
          refine ⟨D, qs, rfl, sq, hdq, fun r2 nr2 => ?_⟩
          obtain ⟨cs', ecs, hLs, _⟩ := hfin r2 nr2
          rw [ecs]
          have s6 := same_new (o := .lst (cs'.map V.ref)) nr2
          refine ⟨_, rfl, n, rfl, hn1, by omega, fun ao aas H7 nao hao hAA _ _ s7 => ?_⟩
          refine ⟨_, _, dp_lists (s7 _ _ upd_same) (hLs.same s7), dp_lists hao hAA, shaped_lists _, shaped_lists _, _, rfl, ?_⟩
          rw [eqv_listsP]
          have s07 := s5.trans (s4.trans (s6.trans s7))
          have k07 := KeepT.of_same s07
          by_cases hpm : rss.flatten.Perm (allK n n)
          rotate_left
          · rw [decide_eq_false (fun z => hpm ((sort_is pm hss).mp z))]
            exact iteT (q _ _ (no rfl fun ⟨ds', e', _, pp⟩ => hpm (by injection e' with e'; rw [← hrss, e']; exact pp)) k07)
          rw [decide_eq_true ((sort_is pm hss).mpr hpm)]
          refine iteF ?_
          have hm : ∀ rs ∈ rss, ∀ r ∈ rs, IsOrd n r := fun rs m r mr => all_ord (hpm.subset (List.mem_flatten.mpr ⟨rs, m, mr⟩))
          have iff0 : PartD z n d (.list ds) ↔ ∀ rs ∈ rss, DnA z d rs := by
            constructor
            · rintro ⟨ds', e', g, _⟩ rs m
              injection e' with e'
              subst e'
              rw [← hrss] at m
              obtain ⟨y, my, rfl⟩ := List.mem_map.mp m
              obtain ⟨es, rfl, _, _, dn⟩ := g y my
              exact dn
            · intro h
              refine ⟨ds, rfl, fun y m => ?_, by rw [hrss]; exact hpm⟩
              obtain ⟨⟨es, rfl, ge, _⟩, ne⟩ := hg y m
              have mr : es.map intsD ∈ rss := by rw [← hrss]; exact List.mem_map.mpr ⟨_, m, rfl⟩
              refine ⟨es, rfl, fun w => ne (by rw [w]), fun x mx => ?_, h _ mr⟩
              have o := hm _ mr (intsD x) (List.mem_map.mpr ⟨x, mx, rfl⟩)
              exact ⟨intsD x, (good_ints (ge x mx)).1, o⟩
          have L0 : ∀ G, KeepT H G → PtL G ps bss rss := fun G k => hL.keepT k
          -- each of them
          refine ⟨_, rfl, l, rfl, ⟨_, SqL.of (s07 _ _ e)⟩, k07.tab htp, fun H8 tb => ?_⟩
          have k8 := k07.trans (KeepT.of_tabbed (k07.tab htp) tb)
          refine all_list (K := K) (a := l) (xs := ps.map V.ref) (fun i G => KeepT H G ∧ ∀ rs ∈ rss.take i, DnA z d rs) ⟨k8, by simp⟩ (fun i G _ hP => SqL.of (hP.1.lst e)) (fun i x G hx hP => ?_) (fun G hP => ?_) (fun x G p p' hpq h => ?_)
          · obtain ⟨kG, hdn⟩ := hP
            obtain ⟨c0, ec, rfl⟩ := ref_at_inv hx
            obtain ⟨bs, rs, eb, er, hp, hLp⟩ := (L0 G kG).get ec
            have mr := List.mem_of_getElem? er
            refine ⟨rfl, _, rfl, _, rfl, _, rfl, z, d, c0, bs, rs, n, rfl, hz, ⟨hp, hLp, hm rs mr, hn1, by omega⟩, kG.tab ht, fun b G2 hb k2 => ⟨b, rfl, ?_⟩⟩
            cases b with
            | true => exact ⟨kG.trans k2, by rw [all_snocQ er]; exact ⟨hdn, hb.mp rfl⟩⟩
            | false => exact q false G2 (no rfl fun z => absurd (hb.mpr (iff0.mp z rs mr)) Bool.false_ne_true) (kG.trans k2)
          · obtain ⟨kG, hdn⟩ := hP
            rw [List.take_of_length_le (by omega)] at hdn
            exact q true G ⟨fun _ => iff0.mpr hdn, fun _ => rfl⟩ kG
          · obtain ⟨e1, i1, e2, i3, e3, i4, e4, zz, dd, cc, bb, rr, nn, e5, r1, r2, r3, r4⟩ := h
            exact ⟨e1, i1, e2, i3, e3, i4, e4, zz, dd, cc, bb, rr, nn, e5, r1, r2, r3, fun b H4 hb s4 => hpq _ _ (r4 b H4 hb s4)⟩
      | _ => cases hl
end
end Fo
namespace Fo
open PySem PySem.Spec PyProof.Rows L2
/-! the defs of apart, refused -/
theorem fun_okXC {P : Program} {w : World} {K : PySem.W.Frag} {mg : Str → Option Value} {base : Heap} {x qual : Str} {st : Stmt} {f c : Addr} {fd : FuncData} {N ps : List Str} {k : Nat} {sp : Sp} (F : Fun K x qual st f fd) (hc : fd.code = .ref c) (S : FnScope N ps (defScope st)) (len : ∀ vs H Q E, sp vs H Q E → vs.length = ps.length)
    (go : ∀ (A : Around) (outer : List Env) (s : Shared) (H : Hp) (vs : List V) (Q : VK) (E : XK), Room k (A.deeper (envOfC qual (defScope st) s.heap.objs.size f (.ref c))) → sp vs H Q E → ∃ t, PSs (cxOf (L2.CX P w) P w K mg base N qual (defScope st) f (.ref c) A outer s H E) (defBody st) t ∧ t { nx := fun _ H' => Q .non H', rt := Q } (start N vs) H) : FnOk P w K mg base (L2.CX P w) (k + 1) f fd ps sp := by
  obtain ⟨oc, od, kV, doc, pm, an, cdv, ct, osl, rfl, lk, hcd⟩ := F.ex
  obtain rfl : cdv = .ref c := hc
  exact fn_of lk hcd S len fun A outer s H vs Q E hr hsp => go A outer s H vs Q E hr hsp
def spLX (m : Int) (cW cN : Addr) : Sp := fun vs H Q E => ∃ (x v u y : V) (f d e : PyData), vs = [x, v, u, y] ∧ Dq H x f ∧ Dq H v d ∧ Dq H u e ∧ ((¬ WayD f ∧ E (.ref cW) none H) ∨ (WayD f ∧ ¬ (SizeD m d ∧ FromD 1 e) ∧ E (.ref cN) none H))
section
variable {P : Program} {w : World} {K : PySem.W.Frag} {mg : Str → Option Value} {base : Heap}
theorem scLgX : FnScope ["way", "n", "d", "first", "others"] ["way", "n", "d"] (defScope s_longest_apart) := ⟨rfl, rfl, rfl, by decide +kernel, rfl, by decide +kernel, by decide +kernel⟩
theorem ok_longX {f f1 f2 f3 f4 cW cN : Addr} {fd d1 d2 d3 d4 : FuncData} {k : Nat} {tk : Tok} (T : Df K mg "longest_apart" s_longest_apart ["way", "n", "d"] f fd) (T_check_apart : Df K mg "check_apart" s_check_apart ["way", "n", "most", "d"] f1 d1) (T_all_orders : Df K mg "all_orders" s_all_orders ["n"] f2 d2) (T_longest_from : Df K mg "longest_from" s_longest_from ["way", "d", "taken", "rest", "best"] f3 d3) (T_far_ones : Df K mg "far_ones" s_far_ones ["way", "d", "order", "others"] f4 d4) (G_check_apart : FnOk P w K mg base (L2.CX P w) k f1 d1 ["way", "n", "most", "d"] (spPX cW cN)) (B : Bi mg) (mS : mg "MOST_SEARCHED" = some (.int 4 tk)) : FnOk P w K mg base (L2.CX P w) (k + 1) f fd ["way", "n", "d"] (spBX 4 cW cN) := by
  have G_all_orders : FnOk P w K mg base CX0 k f2 d2 ["n"] spNever := fn_never
  have G_longest_from : FnOk P w K mg base CX0 k f3 d3 ["way", "d", "taken", "rest", "best"] spNever := fn_never
  have G_far_ones : FnOk P w K mg base CX0 k f4 d4 ["way", "d", "order", "others"] spNever := fn_never
  refine T.F.okX scLgX (fun vs H Q E h => ?_) (fun cdv A outer s H vs Q E hr h => ?_)
  · obtain ⟨x, v, u, f, d, e, rfl, _⟩ := h
    rfl
  · obtain ⟨x, v, u, f, d, e, rfl, hf, hd, he, q⟩ := h
    refine ⟨_, 
      (pss_cons (ps_expr (pe_callS G_check_apart hr (by rfl) T_check_apart.g T_check_apart.F.kp T_check_apart.b (fun σ => passAt (takes_of rfl rfl rfl rfl) σ) (pa_cons (pv 0) (pa_cons (pv 1) (pa_cons (pe_glob (v := .int 4) (by rfl) mS ⟨_, rfl⟩) (pa_cons (pv 2) pa_nil))))))
      (pss_cons (ps_asg (pe_call G_all_orders hr (by rfl) T_all_orders.g T_all_orders.F.kp T_all_orders.b .nil pass0 (pa_cons (pv 1) pa_nil)) (pg_star1 (by rfl) (pgs_cons (pg_name (i := 3) scLgX.nd rfl (.inl rfl)) (pgs_star (pg_name (i := 4) scLgX.nd rfl (.inl rfl)) pgs_nil))))
      (pss_one (ps_ret (pe_call G_longest_from hr (by rfl) T_longest_from.g T_longest_from.F.kp T_longest_from.b .nil pass0 (pa_cons (pv 0) (pa_cons (pv 2) (pa_cons (pe_lst (pa_cons (pv 3) pa_nil)) (pa_cons (pe_call G_far_ones hr (by rfl) T_far_ones.g T_far_ones.F.kp T_far_ones.b .nil pass0 (pa_cons (pv 0) (pa_cons (pv 2) (pa_cons (pv 3) (pa_cons (pv 4) pa_nil))))) (pa_cons (pe_lst pa_nil) pa_nil)))))))))), ?_⟩
    exact ⟨_, rfl, _, rfl, _, rfl, x, v, u, f, d, e, 4, rfl, by decide, by decide, hf, hd, he, q⟩
theorem scFaX : FnScope ["way", "n", "d", "taken", "order"] ["way", "n", "d"] (defScope s_first_apart) := ⟨rfl, rfl, rfl, by decide +kernel, rfl, by decide +kernel, by decide +kernel⟩
theorem ok_firstX {f f1 f2 f3 cW cN : Addr} {fd d1 d2 d3 : FuncData} {k : Nat} {c0 : Addr} {tk : Tok} (T : Df K mg "first_apart" s_first_apart ["way", "n", "d"] f fd) (T_check_apart : Df K mg "check_apart" s_check_apart ["way", "n", "most", "d"] f1 d1) (T_all_orders : Df K mg "all_orders" s_all_orders ["n"] f2 d2) (T_is_far : DfC K mg "is_far" s_is_far ["way", "d", "order", "others"] f3 d3 c0) (G_check_apart : FnOk P w K mg base (L2.CX P w) k f1 d1 ["way", "n", "most", "d"] (spPX cW cN)) (B : Bi mg) (mI : mg "MOST_LISTED" = some (.int 6 tk)) : FnOk P w K mg base (L2.CX P w) (k + 1) f fd ["way", "n", "d"] (spBX 6 cW cN) := by
  have G_all_orders : FnOk P w K mg base CX0 k f2 d2 ["n"] spNever := fn_never
  have G_is_far : FnOk P w K mg base CX0 k f3 d3 ["way", "d", "order", "others"] spNever := fn_never
  refine T.F.okX scFaX (fun vs H Q E h => ?_) (fun cdv A outer s H vs Q E hr h => ?_)
  · obtain ⟨x, v, u, f, d, e, rfl, _⟩ := h
    rfl
  · obtain ⟨x, v, u, f, d, e, rfl, hf, hd, he, q⟩ := h
    refine ⟨_, 
      (pss_cons (ps_expr (pe_callS G_check_apart hr (by rfl) T_check_apart.g T_check_apart.F.kp T_check_apart.b (fun σ => passAt (takes_of rfl rfl rfl rfl) σ) (pa_cons (pv 0) (pa_cons (pv 1) (pa_cons (pe_glob (v := .int 6) (by rfl) mI ⟨_, rfl⟩) (pa_cons (pv 2) pa_nil))))))
      (pss_cons (ps_set (i := 3) scFaX.nd rfl (.inl rfl) (pe_lst pa_nil))
      (pss_cons (ps_for (passes_of rfl) rfl (pi_list (pe_call G_all_orders hr (by rfl) T_all_orders.g T_all_orders.F.kp T_all_orders.b .nil pass0 (pa_cons (pv 1) pa_nil))) (pg_name (i := 4) scFaX.nd rfl (.inl rfl))
        (pss_one (ps_if (pt_val (pe_call G_is_far hr (by rfl) T_is_far.g T_is_far.F.kp T_is_far.b .nil pass0 (pa_cons (pv 0) (pa_cons (pv 2) (pa_cons (pv 4) (pa_cons (pv 3) pa_nil))))))
          (pss_one (ps_expr (pe_bm PySem.F.plainAttrs_list PySem.F.slot_list_append PySem.F.type_list_append mt_append (pv 3) (pa_cons (pv 4) pa_nil))))
          pss_nil)))
      (pss_one (ps_ret (pv 3)))))), ?_⟩
    exact ⟨_, rfl, _, rfl, _, rfl, x, v, u, f, d, e, 6, rfl, by decide, by decide, hf, hd, he, q⟩
theorem scFpX : FnScope ["way", "n", "d", "parts", "order", "place"] ["way", "n", "d"] (defScope s_first_parting) := ⟨rfl, rfl, rfl, by decide +kernel, rfl, by decide +kernel, by decide +kernel⟩
theorem ok_partgX {f f1 f2 f3 cW cN : Addr} {fd d1 d2 d3 : FuncData} {k : Nat} {tk : Tok} (T : Df K mg "first_parting" s_first_parting ["way", "n", "d"] f fd) (T_check_apart : Df K mg "check_apart" s_check_apart ["way", "n", "most", "d"] f1 d1) (T_all_orders : Df K mg "all_orders" s_all_orders ["n"] f2 d2) (T_first_near : Df K mg "first_near" s_first_near ["way", "d", "order", "parts"] f3 d3) (G_check_apart : FnOk P w K mg base (L2.CX P w) k f1 d1 ["way", "n", "most", "d"] (spPX cW cN)) (B : Bi mg) (mL : mg "MOST_PARTED" = some (.int 5 tk)) : FnOk P w K mg base (L2.CX P w) (k + 1) f fd ["way", "n", "d"] (spBX 5 cW cN) := by
  have G_all_orders : FnOk P w K mg base CX0 k f2 d2 ["n"] spNever := fn_never
  have G_first_near : FnOk P w K mg base CX0 k f3 d3 ["way", "d", "order", "parts"] spNever := fn_never
  refine T.F.okX scFpX (fun vs H Q E h => ?_) (fun cdv A outer s H vs Q E hr h => ?_)
  · obtain ⟨x, v, u, f, d, e, rfl, _⟩ := h
    rfl
  · obtain ⟨x, v, u, f, d, e, rfl, hf, hd, he, q⟩ := h
    refine ⟨_, 
      (pss_cons (ps_expr (pe_callS G_check_apart hr (by rfl) T_check_apart.g T_check_apart.F.kp T_check_apart.b (fun σ => passAt (takes_of rfl rfl rfl rfl) σ) (pa_cons (pv 0) (pa_cons (pv 1) (pa_cons (pe_glob (v := .int 5) (by rfl) mL ⟨_, rfl⟩) (pa_cons (pv 2) pa_nil))))))
      (pss_cons (ps_set (i := 3) scFpX.nd rfl (.inl rfl) (pe_lst pa_nil))
      (pss_cons (ps_for (passes_of rfl) rfl (pi_list (pe_call G_all_orders hr (by rfl) T_all_orders.g T_all_orders.F.kp T_all_orders.b .nil pass0 (pa_cons (pv 1) pa_nil))) (pg_name (i := 4) scFpX.nd rfl (.inl rfl))
        (pss_cons (ps_set (i := 5) scFpX.nd rfl (.inl rfl) (pe_call G_first_near hr (by rfl) T_first_near.g T_first_near.F.kp T_first_near.b .nil pass0 (pa_cons (pv 0) (pa_cons (pv 2) (pa_cons (pv 4) (pa_cons (pv 3) pa_nil))))))
        (pss_one (ps_if (pt_cmpR op_isN (pv 5) pe_non (nomark _))
          (pss_one (ps_expr (pe_bm PySem.F.plainAttrs_list PySem.F.slot_list_append PySem.F.type_list_append mt_append (pv 3) (pa_cons (pe_lst (pa_cons (pv 4) pa_nil)) pa_nil))))
          (pss_one (ps_expr (pe_bm PySem.F.plainAttrs_list PySem.F.slot_list_append PySem.F.type_list_append mt_append (pe_ix ix_list (pv 3) (pv 5) (fun _ _ => rfl)) (pa_cons (pv 4) pa_nil))))))))
      (pss_one (ps_ret (pv 3)))))), ?_⟩
    exact ⟨_, rfl, _, rfl, _, rfl, x, v, u, f, d, e, 5, rfl, by decide, by decide, hf, hd, he, q⟩
theorem scLaX : FnScope ["way", "n", "d", "thing", "order"] ["way", "n", "d", "thing"] (defScope s_lies_apart) := ⟨rfl, rfl, rfl, by decide +kernel, rfl, by decide +kernel, by decide +kernel⟩
theorem ok_liesX {f f1 f2 f3 cW cN : Addr} {fd d1 d2 d3 : FuncData} {k : Nat} {tk : Tok} (T : Df K mg "lies_apart" s_lies_apart ["way", "n", "d", "thing"] f fd) (T_check_apart : Df K mg "check_apart" s_check_apart ["way", "n", "most", "d"] f1 d1) (T_is_order_list : Df K mg "is_order_list" s_is_order_list ["thing"] f2 d2) (T_are_far : Df K mg "are_far" s_are_far ["way", "d", "orders"] f3 d3) (G_check_apart : FnOk P w K mg base (L2.CX P w) k f1 d1 ["way", "n", "most", "d"] (spPX cW cN)) (B : Bi mg) (mM : mg "MOST_THINGS" = some (.int 12 tk)) : FnOk P w K mg base (L2.CX P w) (k + 1) f fd ["way", "n", "d", "thing"] (spLX 12 cW cN) := by
  have G_is_order_list : FnOk P w K mg base CX0 k f2 d2 ["thing"] spNever := fn_never
  have G_are_far : FnOk P w K mg base CX0 k f3 d3 ["way", "d", "orders"] spNever := fn_never
  refine T.F.okX scLaX (fun vs H Q E h => ?_) (fun cdv A outer s H vs Q E hr h => ?_)
  · obtain ⟨x, v, u, y, f, d, e, rfl, _⟩ := h
    rfl
  · obtain ⟨x, v, u, y, f, d, e, rfl, hf, hd, he, q⟩ := h
    refine ⟨_, 
      (pss_cons (ps_expr (pe_callS G_check_apart hr (by rfl) T_check_apart.g T_check_apart.F.kp T_check_apart.b (fun σ => passAt (takes_of rfl rfl rfl rfl) σ) (pa_cons (pv 0) (pa_cons (pv 1) (pa_cons (pe_glob (v := .int 12) (by rfl) mM ⟨_, rfl⟩) (pa_cons (pv 2) pa_nil))))))
      (pss_cons (ps_if (PW.pt (pw_or (pt_not (pt_val (pe_call G_is_order_list hr (by rfl) T_is_order_list.g T_is_order_list.F.kp T_is_order_list.b .nil pass0 (pa_cons (pv 3) pa_nil)))) (pw_or1 (pt_not (pt_val (pe_callB (cr_all rfl) (by rfl) B.all (by decide +kernel) (pa_cons (pe_lc (own := [("order", 4)]) (g := (gName 4)) (tt := tYes) (te := (tOp rEq (tCB (rLenS K) (tCons (tVar 4) tNil)) (tVar 1))) rfl scLaX.nd (pi_list (pv 3)) (blkOk_by (N := ["way", "n", "d", "thing", "order"]) (sc := defScope s_lies_apart) (by decide +kernel)) (fun _ _ _ _ _ => (pg_name (i := 4) scLaX.nd rfl (.inl rfl))) (fun _ _ _ _ _ => pts_nil) (fun _ _ _ _ _ => (pe_cmpR op_eq (pe_callB call_len_seq (by rfl) B.len PySem.boot_len (pa_cons (pv 4) pa_nil)) (pv 1) (nomark _)))) pa_nil)))))))
        (pss_one (ps_ret pe_bl))
        pss_nil)
      (pss_one (ps_ret (pe_call G_are_far hr (by rfl) T_are_far.g T_are_far.F.kp T_are_far.b .nil pass0 (pa_cons (pv 0) (pa_cons (pv 2) (pa_cons (pv 3) pa_nil)))))))), ?_⟩
    exact ⟨_, rfl, _, rfl, _, rfl, x, v, u, f, d, e, 12, rfl, by decide, by decide, hf, hd, he, q⟩
theorem scIpX : FnScope ["way", "n", "d", "thing", "part", "order"] ["way", "n", "d", "thing"] (defScope s_is_parting) := ⟨rfl, rfl, rfl, by decide +kernel, rfl, by decide +kernel, by decide +kernel⟩
theorem ok_ispX {f f1 f2 f3 f4 c Pp cW cN : Addr} {fd d1 d2 d3 d4 : FuncData} {k : Nat} {tk : Tok} (T : DfC K mg "is_parting" s_is_parting ["way", "n", "d", "thing"] f fd c) (TB : LamX.TabB base mg c Pp) (T_check_apart : Df K mg "check_apart" s_check_apart ["way", "n", "most", "d"] f1 d1) (T_is_order_list : Df K mg "is_order_list" s_is_order_list ["thing"] f2 d2) (T_all_orders : Df K mg "all_orders" s_all_orders ["n"] f3 d3) (T_are_near : Df K mg "are_near" s_are_near ["way", "d", "orders"] f4 d4) (G_check_apart : FnOk P w K mg base (L2.CX P w) (k + 1) f1 d1 ["way", "n", "most", "d"] (spPX cW cN)) (B : Bi mg) (mL : mg "MOST_PARTED" = some (.int 5 tk)) : FnOk P w K mg base (L2.CX P w) (k + 2) f fd ["way", "n", "d", "thing"] (spLX 5 cW cN) := by
  have G_is_order_list : FnOk P w K mg base CX0 (k + 1) f2 d2 ["thing"] spNever := fn_never
  have G_all_orders : FnOk P w K mg base CX0 (k + 1) f3 d3 ["n"] spNever := fn_never
  have G_are_near : FnOk P w K mg base CX0 k f4 d4 ["way", "d", "orders"] spNever := fn_never
  refine fun_okXC T.F T.c scIpX (fun vs H Q E h => ?_) (fun A outer s H vs Q E hr h => ?_)
  · obtain ⟨x, v, u, y, f, d, e, rfl, _⟩ := h
    rfl
  · obtain ⟨x, v, u, y, f, d, e, rfl, hf, hd, he, q⟩ := h
    refine ⟨_, 
      (pss_cons (ps_expr (pe_callS G_check_apart hr (by rfl) T_check_apart.g T_check_apart.F.kp T_check_apart.b (fun σ => passAt (takes_of rfl rfl rfl rfl) σ) (pa_cons (pv 0) (pa_cons (pv 1) (pa_cons (pe_glob (v := .int 5) (by rfl) mL ⟨_, rfl⟩) (pa_cons (pv 2) pa_nil))))))
      (pss_cons (ps_if (PW.pt (pw_or (pt_not (pt_val (pe_callB call_isi (by rfl) B.isinstance (by decide +kernel) (pa_cons (pv 3) (pa_cons (pe_bltn (v := .ty "list") (by rfl) B.list (by decide +kernel) rfl) pa_nil))))) (pw_or1 (pt_not (pt_val (pe_callB (cr_all rfl) (by rfl) B.all (by decide +kernel) (pa_cons (pe_lc (own := [("part", 4)]) (g := (gName 4)) (tt := tYes) (te := (tAndV (tCall spNever [] E0 (tCons (tVar 4) tNil)) (tOp (rI0 fun i j => .bl (decide (j < i))) (tCB (rLenS K) (tCons (tVar 4) tNil)) (tC (.int 0))))) rfl scIpX.nd (pi_list (pv 3)) (blkOk_by (N := ["way", "n", "d", "thing", "part", "order"]) (sc := defScope s_is_parting) (by decide +kernel)) (fun _ _ _ _ _ => (pg_name (i := 4) scIpX.nd rfl (.inl rfl))) (fun _ _ _ _ _ => pts_nil) (fun _ _ _ _ _ => (pe_and (pe_call G_is_order_list hr (by rfl) T_is_order_list.g T_is_order_list.F.kp T_is_order_list.b .nil pass0 (pa_cons (pv 4) pa_nil)) (pe_one (pe_cmpR op_gt (pe_callB call_len_seq (by rfl) B.len PySem.boot_len (pa_cons (pv 4) pa_nil)) pe_int (nomark _)))))) pa_nil)))))))
        (pss_one (ps_ret pe_bl))
        pss_nil)
      (pss_cons (ps_if (pt_cmpR (op_neD hr.units) (pe_callB (cr_sortedR hr.units) (by rfl) B.sorted (by decide +kernel) (pa_cons (pe_lc2 (own := [("part", 4), ("order", 5)]) (vs1 := [5]) (wi1 := iList K (tVar 4)) (g := (gName 4)) (tt := tYes) (g1 := (gName 5)) (tt1 := tYes) (te := (tVar 5)) rfl scIpX.nd (pi_list (pv 3)) (blkOk_by (N := ["way", "n", "d", "thing", "part", "order"]) (sc := defScope s_is_parting) (by decide +kernel)) (by decide) (fun _ _ _ _ _ => (pg_name (i := 4) scIpX.nd rfl (.inl rfl))) (fun _ _ _ _ _ => pts_nil) (fun _ _ _ _ _ => (pi_list (pv 4))) (fun _ _ _ _ _ => (pg_name (i := 5) scIpX.nd rfl (.inl rfl))) (fun _ _ _ _ _ => pts_nil) (fun _ _ _ _ _ => (pv 5))) pa_nil)) (pe_call G_all_orders hr (by rfl) T_all_orders.g T_all_orders.F.kp T_all_orders.b .nil pass0 (pa_cons (pv 1) pa_nil)) (nomark _))
        (pss_one (ps_ret pe_bl))
        pss_nil)
      (pss_one (ps_ret (pe_allG (own := [("part", 4)]) (gt := (gName 4)) (te := (tCall spNever [] E0 (tCons (tVar 0) (tCons (tVar 2) (tCons (tVar 4) tNil))))) rfl scIpX.nd hr (by rfl) B.all (by decide +kernel) TB rfl (pi_list (pv 3)) (blkOk_by (N := ["way", "n", "d", "thing", "part", "order"]) (sc := defScope s_is_parting) (by decide +kernel)) (gsc_by (by decide +kernel)) (fun _ _ _ _ _ _ _ => (pg_name (i := 4) scIpX.nd rfl (.inl rfl))) (fun _ _ _ _ _ _ _ => (pe_call G_are_near (room_gen hr) (by rfl) T_are_near.g T_are_near.F.kp T_are_near.b .nil pass0 (pa_cons (pv 0) (pa_cons (pv 2) (pa_cons (pv 4) pa_nil))))))))))), ?_⟩
    exact ⟨_, rfl, _, rfl, _, rfl, x, v, u, f, d, e, 5, rfl, by decide, by decide, hf, hd, he, q⟩
end
end Fo
namespace Fo
open PySem PySem.Spec PyProof.Rows L2
theorem at2_b (b : Bool) (x y : V) : atI [x, y] (if b = true then 1 else 0) = some (if b = true then y else x) := by
  cases b <;> rfl
def word27 (j : Nat) : Str := if j = 1 then "way" else "number"
def spKindP (K : PySem.W.Frag) (c : Nat → Addr) : SpP := fun a cls d vs H Q _ => ∃ (C : Addr) (j : Nat), cls = .ref C ∧ d = none ∧ KdY K c C j ∧ (j = 1 ∨ j = 4) ∧ vs = [.ref a] ∧ ∀ H', Same H H' → Q (.str (word27 j)) H'
section
variable {P : Program} {w : World} {K : PySem.W.Frag} {mg : Str → Option Value} {base : Heap}
theorem scKind27 : FnScope ["e"] ["e"] (defScope s_law_kind) := ⟨rfl, rfl, rfl, by decide +kernel, rfl, by decide +kernel, by decide +kernel⟩
set_option maxHeartbeats 4000000 in
theorem ok_kind27 {f : Addr} {fd : FuncData} {k : Nat} {c : Nat → Addr} (T : Df K mg "_law_kind" s_law_kind ["e"] f fd) (g_NoOrder : mg "NoOrder" = some (.ref (c 0))) (g_NoWay : mg "NoWay" = some (.ref (c 1))) (g_NoFit : mg "NoFit" = some (.ref (c 2))) (g_NoPlace : mg "NoPlace" = some (.ref (c 3))) (g_NoNumber : mg "NoNumber" = some (.ref (c 4))) (g_TooMany : mg "TooMany" = some (.ref (c 5))) (g_NoText : mg "NoText" = some (.ref (c 6))) (g_NoName : mg "NoName" = some (.ref (c 7))) (g_NoRow : mg "NoRow" = some (.ref (c 8))) (B : Bi mg) : FnP P w K mg base (k + 1) f fd ["e"] (spKindP K c) := by
  refine okP T.F scKind27 (fun a cls d vs H Q E h => ?_) (fun cdv A outer s H vs Q E a oe cls d hr hz hf h => ?_)
  · obtain ⟨C, j, _, _, _, _, rfl, _⟩ := h
    rfl
  · obtain ⟨C, j, rfl, rfl, kd, hj, rfl, q⟩ := h
    refine ⟨_, 
      (pss_cons (ps_if (PW.pt (pw_or (pt_val (pe_callB (call_isQT List.mem_cons_self hz hf) (by rfl) B.isinstance (by decide +kernel) (pa_cons (pv 0) (pa_cons (pe_tup (pa_cons (pe_glob (v := .ref (c 2)) (by rfl) g_NoFit rfl) (pa_cons (pe_glob (v := .ref (c 7)) (by rfl) g_NoName rfl) (pa_cons (pe_glob (v := .ref (c 0)) (by rfl) g_NoOrder rfl) (pa_cons (pe_glob (v := .ref (c 3)) (by rfl) g_NoPlace rfl) (pa_cons (pe_glob (v := .ref (c 8)) (by rfl) g_NoRow rfl) (pa_cons (pe_glob (v := .ref (c 6)) (by rfl) g_NoText rfl) (pa_cons (pe_glob (v := .ref (c 5)) (by rfl) g_TooMany rfl) pa_nil)))))))) pa_nil)))) (pw_or1 (pt_not (pt_val (pe_callB (call_isQ List.mem_cons_self hz hf) (by rfl) B.isinstance (by decide +kernel) (pa_cons (pv 0) (pa_cons (pe_bltn (v := .ty "ValueError") (by rfl) B.ValueError (by decide +kernel) rfl) pa_nil))))))))
        (pss_one (ps_ret pe_str))
        pss_nil)
      (pss_cons (ps_if (pt_cmpR op_eq (pe_callB (call_isQ List.mem_cons_self hz hf) (by rfl) B.isinstance (by decide +kernel) (pa_cons (pv 0) (pa_cons (pe_glob (v := .ref (c 1)) (by rfl) g_NoWay rfl) pa_nil))) (pe_callB (call_isQ List.mem_cons_self hz hf) (by rfl) B.isinstance (by decide +kernel) (pa_cons (pv 0) (pa_cons (pe_glob (v := .ref (c 4)) (by rfl) g_NoNumber rfl) pa_nil))) (nomark _))
        (pss_one (ps_ret pe_str))
        pss_nil)
      (pss_one (ps_ret (pe_ix ix_list (pe_lst (pa_cons pe_str (pa_cons pe_str pa_nil))) (pe_callTy call_int1 (by rfl) B.int (by decide +kernel) (pa_cons (pe_callB (call_isQ List.mem_cons_self hz hf) (by rfl) B.isinstance (by decide +kernel) (pa_cons (pv 0) (pa_cons (pe_glob (v := .ref (c 1)) (by rfl) g_NoWay rfl) pa_nil))) pa_nil)) (fun _ _ => rfl)))))), ?_⟩
    have no : ∀ i, i < 9 → i ≠ j → PySem.W.kitOne K (.ref C) (.ref (c i)) = some false := fun i hi n => (kd.ks i hi).trans (congrArg some (decide_eq_false n))
    refine ⟨_, rfl, line_small (by show 7 ≤ 16777216; decide), fun tp ntp => ?_⟩
    have s1 := same_new (o := .tup [.ref (c 2), .ref (c 7), .ref (c 0), .ref (c 3), .ref (c 8), .ref (c 6), .ref (c 5)]) ntp
    refine ⟨C, tp, _, _, false, rfl, rfl, kd.ec, rfl, upd_same, .cons (.own _) (.cons (.own _) (.cons (.own _) (.cons (.own _) (.cons (.own _) (.cons (.own _) (.cons (.own _) .nil)))))), any_no fun u hu => ?_, _, rfl, iteF ?_⟩
    · simp only [List.mem_cons, List.not_mem_nil, or_false] at hu
      rcases hu with rfl | rfl | rfl | rfl | rfl | rfl | rfl
      · exact no 2 (by decide) (by omega)
      · exact no 7 (by decide) (by omega)
      · exact no 0 (by decide) (by omega)
      · exact no 3 (by decide) (by omega)
      · exact no 8 (by decide) (by omega)
      · exact no 6 (by decide) (by omega)
      · exact no 5 (by decide) (by omega)
    generalize upd H tp (.tup [.ref (c 2), .ref (c 7), .ref (c 0), .ref (c 3), .ref (c 8), .ref (c 6), .ref (c 5)]) = H1 at s1 ⊢
    refine ⟨_, rfl, C, _, _, _, rfl, rfl, kd.ec, rfl, .ty _, kd.ve, _, rfl, iteF ?_⟩
    refine ⟨_, rfl, C, _, _, _, rfl, rfl, kd.ec, rfl, .own _, kd.ks 1 (by decide), ?_⟩
    refine ⟨_, rfl, C, _, _, _, rfl, rfl, kd.ec, rfl, .own _, kd.ks 4 (by decide), ?_⟩
    refine ⟨rfl, _, rfl, ?_⟩
    rw [decide_eq_false (show ¬ V.bl (decide (1 = j)) = V.bl (decide (4 = j)) by rcases hj with rfl | rfl <;> decide)]
    refine iteF ?_
    refine ⟨line_small (by show 2 ≤ 16777216; decide), fun t nt => ?_⟩
    have s2 := s1.trans (same_new (o := .lst [.str "number", .str "way"]) nt)
    refine ⟨_, rfl, C, _, _, _, rfl, rfl, kd.ec, rfl, .own _, kd.ks 1 (by decide), ?_⟩
    refine .inr ⟨_, rfl, t, _, _, _, rfl, rfl, SqL.of upd_same, at2_b _ _ _, ?_⟩
    have := q _ s2
    unfold word27 at this
    rcases hj with rfl | rfl
    · exact this
    · exact this
end
end Fo
namespace Fo
open PySem PySem.Spec PyProof.Rows L2
section
variable {P : Program} {w : World} {K : PySem.W.Frag} {mg : Str → Option Value} {base : Heap}
def spLiesE (Pt cW cN : Addr) : Sp := fun vs H Q E => spLiesD Pt vs H Q E ∨ spLX 12 cW cN vs H Q E
def spLongE (cW cN : Addr) : Sp := fun vs H Q E => spLongest vs H Q E ∨ spBX 4 cW cN vs H Q E
def spFirstE (Pt cW cN : Addr) : Sp := fun vs H Q E => spFirst Pt vs H Q E ∨ spBX 6 cW cN vs H Q E
def spIsPE (Pt Pp cW cN : Addr) : Sp := fun vs H Q E => spPartD Pt Pp vs H Q E ∨ spLX 5 cW cN vs H Q E
def spPtgE (Pt cW cN : Addr) : Sp := fun vs H Q E => spParting Pt vs H Q E ∨ spBX 5 cW cN vs H Q E
theorem ok_liesE {f : Addr} {fd : FuncData} {k : Nat} {Pt cW cN : Addr} (T : Df K mg "lies_apart" s_lies_apart ["way", "n", "d", "thing"] f fd) (G1 : FnOk P w K mg base CX0 k f fd ["way", "n", "d", "thing"] (spLiesD Pt)) (G2 : FnOk P w K mg base (L2.CX P w) k f fd ["way", "n", "d", "thing"] (spLX 12 cW cN)) : FnOk P w K mg base (L2.CX P w) k f fd ["way", "n", "d", "thing"] (spLiesE Pt cW cN) := fn_or (fn_up G1) G2
theorem ok_longE {f : Addr} {fd : FuncData} {k : Nat} {cW cN : Addr} (T : Df K mg "longest_apart" s_longest_apart ["way", "n", "d"] f fd) (G1 : FnOk P w K mg base CX0 k f fd ["way", "n", "d"] spLongest) (G2 : FnOk P w K mg base (L2.CX P w) k f fd ["way", "n", "d"] (spBX 4 cW cN)) : FnOk P w K mg base (L2.CX P w) k f fd ["way", "n", "d"] (spLongE cW cN) := fn_or (fn_up G1) G2
theorem ok_firstE {f : Addr} {fd : FuncData} {k : Nat} {Pt cW cN : Addr} (T : Df K mg "first_apart" s_first_apart ["way", "n", "d"] f fd) (G1 : FnOk P w K mg base CX0 k f fd ["way", "n", "d"] (spFirst Pt)) (G2 : FnOk P w K mg base (L2.CX P w) k f fd ["way", "n", "d"] (spBX 6 cW cN)) : FnOk P w K mg base (L2.CX P w) k f fd ["way", "n", "d"] (spFirstE Pt cW cN) := fn_or (fn_up G1) G2
theorem ok_ispE {f : Addr} {fd : FuncData} {k : Nat} {Pt Pp cW cN c : Addr} (T : DfC K mg "is_parting" s_is_parting ["way", "n", "d", "thing"] f fd c) (G1 : FnOk P w K mg base CX0 k f fd ["way", "n", "d", "thing"] (spPartD Pt Pp)) (G2 : FnOk P w K mg base (L2.CX P w) k f fd ["way", "n", "d", "thing"] (spLX 5 cW cN)) : FnOk P w K mg base (L2.CX P w) k f fd ["way", "n", "d", "thing"] (spIsPE Pt Pp cW cN) := fn_or (fn_up G1) G2
theorem ok_ptgE {f : Addr} {fd : FuncData} {k : Nat} {Pt cW cN : Addr} (T : Df K mg "first_parting" s_first_parting ["way", "n", "d"] f fd) (G1 : FnOk P w K mg base CX0 k f fd ["way", "n", "d"] (spParting Pt)) (G2 : FnOk P w K mg base (L2.CX P w) k f fd ["way", "n", "d"] (spBX 5 cW cN)) : FnOk P w K mg base (L2.CX P w) k f fd ["way", "n", "d"] (spPtgE Pt cW cN) := fn_or (fn_up G1) G2
theorem same_at {H H' : Hp} {a : Addr} {o : HO} (s : Same H H') (na : H a = none) : Same H (upd H' a o) := fun b x e => by
  rw [upd_ne (ne_of_none e na)]
  exact s _ _ e
def most27 (i : Nat) : Int := if i = 0 then 12 else if i = 1 then 4 else if i = 2 then 6 else 5
/-- bad, by the word that is due; or good -/
def Ask27 (i : Nat) (f d e : PyData) (z : Str) : Prop := (z = "way" ∧ ¬ WayD f) ∨ (z = "number" ∧ WayD f ∧ ¬ (SizeD (most27 i) d ∧ FromD 1 e)) ∨ (z = "" ∧ WayD f ∧ (∃ n : Nat, d = .int n ∧ 1 ≤ n ∧ (n : Int) ≤ most27 i) ∧ ∃ t : Int, e = .int t ∧ 1 ≤ t)
def spWord27 (Pf Pn Pp : Addr) : Sp := fun vs H Q _ => ∃ (i : Nat) (x v u y : V) (f d e g : PyData) (z : Str), vs = [.int i, x, v, u, y] ∧ i < 5 ∧ Dq H x f ∧ Dq H v d ∧ Dq H u e ∧ Dq H y g ∧ Rw 100000 8 g ∧ GxR.TabG H Pf ∧ GxR.TabG H Pn ∧ GxR.TabG H Pp ∧ Ask27 i f d e z ∧ ∀ H', KeepT H H' → Q (.str z) H'
theorem scWord27 : FnScope ["door", "way", "n", "d", "thing", "word", "e"] ["door", "way", "n", "d", "thing"] (defScope s_law_word) := ⟨rfl, rfl, rfl, by decide +kernel, rfl, by decide +kernel, by decide +kernel⟩
set_option maxHeartbeats 4000000 in
theorem ok_word27 {f f0 f1 f2 f3 f4 f5 cE Pf Pn Pp : Addr} {c : Nat → Addr} {fd d0 d1 d2 d3 d4 d5 : FuncData} {k : Nat} {c3 : Addr} (T : Df K mg "_law_word" s_law_word ["door", "way", "n", "d", "thing"] f fd) (T_lies_apart : Df K mg "lies_apart" s_lies_apart ["way", "n", "d", "thing"] f0 d0) (T_longest_apart : Df K mg "longest_apart" s_longest_apart ["way", "n", "d"] f1 d1) (T_first_apart : Df K mg "first_apart" s_first_apart ["way", "n", "d"] f2 d2) (T_is_parting : DfC K mg "is_parting" s_is_parting ["way", "n", "d", "thing"] f3 d3 c3) (T_first_parting : Df K mg "first_parting" s_first_parting ["way", "n", "d"] f4 d4) (T__law_kind : Df K mg "_law_kind" s_law_kind ["e"] f5 d5)
    (G_lies_apart : FnOk P w K mg base (L2.CX P w) k f0 d0 ["way", "n", "d", "thing"] (spLiesE Pf (c 1) (c 4))) (G_longest_apart : FnOk P w K mg base (L2.CX P w) k f1 d1 ["way", "n", "d"] (spLongE (c 1) (c 4))) (G_first_apart : FnOk P w K mg base (L2.CX P w) k f2 d2 ["way", "n", "d"] (spFirstE Pf (c 1) (c 4))) (G_is_parting : FnOk P w K mg base (L2.CX P w) k f3 d3 ["way", "n", "d", "thing"] (spIsPE Pn Pp (c 1) (c 4))) (G_first_parting : FnOk P w K mg base (L2.CX P w) k f4 d4 ["way", "n", "d"] (spPtgE Pn (c 1) (c 4))) (G__law_kind : FnP P w K mg base k f5 d5 ["e"] (spKindP K c))
    (k1 : KdY K c (c 1) 1) (k4 : KdY K c (c 4) 4) (g_OrderError : mg "OrderError" = some (.ref cE)) (x1 : PySem.W.exmOne K (.ref (c 1)) (.ref cE) = some true) (x4 : PySem.W.exmOne K (.ref (c 4)) (.ref cE) = some true) : FnOk P w K mg base CX0 (k + 1) f fd ["door", "way", "n", "d", "thing"] (spWord27 Pf Pn Pp) := by
  refine T.F.ok scWord27 (fun vs H Q E h => ?_) (fun cdv A outer s H vs Q E hr h => ?_)
  · obtain ⟨i, x, v, u, y, f, d, e, g, z, rfl, _⟩ := h
    rfl
  · obtain ⟨i, x, v, u, y, f, d, e, g, z, rfl, hi, hf, hd, he, hg, rg, t1, t2, t3, ask, q⟩ := h
    refine ⟨_, 
      (pss_cons (ps_set (i := 5) scWord27.nd rfl (.inl rfl) pe_str)
      (Evl.pss_cut (ps_try_k (i := 6) rfl rfl rfl scWord27.nd rfl rfl ⟨by rfl, by decide, .inl g_OrderError⟩ takes0 (fun W pn xe tk po =>
        (pss_one (ps_if (pt_cmpR op_eq (pv 0) pe_int (nomark _))
          (pss_one (ps_expr (pe_callS G_lies_apart hr (by rfl) T_lies_apart.g T_lies_apart.F.kp T_lies_apart.b (fun σ => passAt tk σ) (pa_cons (pv 1) (pa_cons (pv 2) (pa_cons (pv 3) (pa_cons (pv 4) pa_nil)))))))
          (pss_one (ps_if (pt_cmpR op_eq (pv 0) pe_int (nomark _))
            (pss_one (ps_expr (pe_callS G_longest_apart hr (by rfl) T_longest_apart.g T_longest_apart.F.kp T_longest_apart.b (fun σ => passAt tk σ) (pa_cons (pv 1) (pa_cons (pv 2) (pa_cons (pv 3) pa_nil))))))
            (pss_one (ps_if (pt_cmpR op_eq (pv 0) pe_int (nomark _))
              (pss_one (ps_expr (pe_callS G_first_apart hr (by rfl) T_first_apart.g T_first_apart.F.kp T_first_apart.b (fun σ => passAt tk σ) (pa_cons (pv 1) (pa_cons (pv 2) (pa_cons (pv 3) pa_nil))))))
              (pss_one (ps_if (pt_cmpR op_eq (pv 0) pe_int (nomark _))
                (pss_one (ps_expr (pe_callS G_is_parting hr (by rfl) T_is_parting.g T_is_parting.F.kp T_is_parting.b (fun σ => passAt tk σ) (pa_cons (pv 1) (pa_cons (pv 2) (pa_cons (pv 3) (pa_cons (pv 4) pa_nil)))))))
                (pss_one (ps_expr (pe_callS G_first_parting hr (by rfl) T_first_parting.g T_first_parting.F.kp T_first_parting.b (fun σ => passAt tk σ) (pa_cons (pv 1) (pa_cons (pv 2) (pa_cons (pv 3) pa_nil))))))))))))))) (fun a oe cls d pn hz hf =>
        (pss_one (ps_set (i := 5) scWord27.nd rfl (.inl rfl) (pe_callP List.mem_cons_self hz hf G__law_kind ⟨hr.dp, hr.un⟩ (by rfl) T__law_kind.g T__law_kind.F.kp T__law_kind.b (pa_cons (pv 6) pa_nil))))))
      (pss_one (ps_ret (pv 5))))), ?_⟩
    refine ⟨fun τ G => τ = [some (.int (i : Nat)), some x, some v, some u, some y, some (.str z), none] ∧ KeepT H G, ?_, fun τ G hM => ?_⟩
    rotate_left
    · obtain ⟨rfl, kG⟩ := hM
      exact ⟨_, rfl, q G kG⟩
    have h5 : i = 0 ∨ i = 1 ∨ i = 2 ∨ i = 3 ∨ i = 4 := by omega
    rcases h5 with rfl | rfl | rfl | rfl | rfl
    · refine ⟨_, rfl, rfl, _, rfl, ?_⟩
      refine iteT ?_
      refine ⟨_, rfl, _, rfl, _, rfl, _, rfl, ?_⟩
      rcases ask with ⟨rfl, nw⟩ | ⟨rfl, wy, nn⟩ | ⟨rfl, ⟨wz, rfl, hw⟩, ⟨n, rfl, n1, n2⟩, t, rfl, ht⟩
      · exact .inr ⟨x, v, u, y, f, d, e, rfl, hf, hd, he, .inl ⟨nw, ⟨true, x1, fun _ a na => ⟨_, rfl, _, 1, rfl, rfl, k1, .inl rfl, rfl, fun H' s' => ⟨rfl, KeepT.of_same (same_at s' na)⟩⟩, fun z => absurd z.symm Bool.false_ne_true⟩⟩⟩
      · exact .inr ⟨x, v, u, y, f, d, e, rfl, hf, hd, he, .inr ⟨wy, nn, ⟨true, x4, fun _ a na => ⟨_, rfl, _, 4, rfl, rfl, k4, .inr rfl, rfl, fun H' s' => ⟨rfl, KeepT.of_same (same_at s' na)⟩⟩, fun z => absurd z.symm Bool.false_ne_true⟩⟩⟩
      · cases hf
        cases hd
        cases he
        have n3 : (n : Int) ≤ 12 := n2
        exact .inl ⟨wz, t, y, g, n, rfl, hw, ht, n1, by omega, hg, fun ds e => by subst e; exact Nat.le_trans (rw_len rg) (by decide), t1, fun b H' _ k' => ⟨rfl, k'⟩⟩
    · refine ⟨_, rfl, rfl, _, rfl, ?_⟩
      refine iteF ?_
      refine ⟨_, rfl, rfl, _, rfl, ?_⟩
      refine iteT ?_
      refine ⟨_, rfl, _, rfl, _, rfl, ?_⟩
      rcases ask with ⟨rfl, nw⟩ | ⟨rfl, wy, nn⟩ | ⟨rfl, ⟨wz, rfl, hw⟩, ⟨n, rfl, n1, n2⟩, t, rfl, ht⟩
      · exact .inr ⟨x, v, u, f, d, e, rfl, hf, hd, he, .inl ⟨nw, ⟨true, x1, fun _ a na => ⟨_, rfl, _, 1, rfl, rfl, k1, .inl rfl, rfl, fun H' s' => ⟨rfl, KeepT.of_same (same_at s' na)⟩⟩, fun z => absurd z.symm Bool.false_ne_true⟩⟩⟩
      · exact .inr ⟨x, v, u, f, d, e, rfl, hf, hd, he, .inr ⟨wy, nn, ⟨true, x4, fun _ a na => ⟨_, rfl, _, 4, rfl, rfl, k4, .inr rfl, rfl, fun H' s' => ⟨rfl, KeepT.of_same (same_at s' na)⟩⟩, fun z => absurd z.symm Bool.false_ne_true⟩⟩⟩
      · cases hf
        cases hd
        cases he
        have n3 : (n : Int) ≤ 4 := n2
        exact .inl ⟨wz, n, t, rfl, hw, n1, by omega, ht, fun l as ss H' _ _ _ _ _ _ _ _ s' => ⟨rfl, KeepT.of_same s'⟩⟩
    · refine ⟨_, rfl, rfl, _, rfl, ?_⟩
      refine iteF ?_
      refine ⟨_, rfl, rfl, _, rfl, ?_⟩
      refine iteF ?_
      refine ⟨_, rfl, rfl, _, rfl, ?_⟩
      refine iteT ?_
      refine ⟨_, rfl, _, rfl, _, rfl, ?_⟩
      rcases ask with ⟨rfl, nw⟩ | ⟨rfl, wy, nn⟩ | ⟨rfl, ⟨wz, rfl, hw⟩, ⟨n, rfl, n1, n2⟩, t, rfl, ht⟩
      · exact .inr ⟨x, v, u, f, d, e, rfl, hf, hd, he, .inl ⟨nw, ⟨true, x1, fun _ a na => ⟨_, rfl, _, 1, rfl, rfl, k1, .inl rfl, rfl, fun H' s' => ⟨rfl, KeepT.of_same (same_at s' na)⟩⟩, fun z => absurd z.symm Bool.false_ne_true⟩⟩⟩
      · exact .inr ⟨x, v, u, f, d, e, rfl, hf, hd, he, .inr ⟨wy, nn, ⟨true, x4, fun _ a na => ⟨_, rfl, _, 4, rfl, rfl, k4, .inr rfl, rfl, fun H' s' => ⟨rfl, KeepT.of_same (same_at s' na)⟩⟩, fun z => absurd z.symm Bool.false_ne_true⟩⟩⟩
      · cases hf
        cases hd
        cases he
        have n3 : (n : Int) ≤ 6 := n2
        exact .inl ⟨wz, n, t, rfl, hw, n1, by omega, ht, t1, fun l as H' _ _ _ _ _ k' => ⟨rfl, k'⟩⟩
    · refine ⟨_, rfl, rfl, _, rfl, ?_⟩
      refine iteF ?_
      refine ⟨_, rfl, rfl, _, rfl, ?_⟩
      refine iteF ?_
      refine ⟨_, rfl, rfl, _, rfl, ?_⟩
      refine iteF ?_
      refine ⟨_, rfl, rfl, _, rfl, ?_⟩
      refine iteT ?_
      refine ⟨_, rfl, _, rfl, _, rfl, _, rfl, ?_⟩
      rcases ask with ⟨rfl, nw⟩ | ⟨rfl, wy, nn⟩ | ⟨rfl, ⟨wz, rfl, hw⟩, ⟨n, rfl, n1, n2⟩, t, rfl, ht⟩
      · exact .inr ⟨x, v, u, y, f, d, e, rfl, hf, hd, he, .inl ⟨nw, ⟨true, x1, fun _ a na => ⟨_, rfl, _, 1, rfl, rfl, k1, .inl rfl, rfl, fun H' s' => ⟨rfl, KeepT.of_same (same_at s' na)⟩⟩, fun z => absurd z.symm Bool.false_ne_true⟩⟩⟩
      · exact .inr ⟨x, v, u, y, f, d, e, rfl, hf, hd, he, .inr ⟨wy, nn, ⟨true, x4, fun _ a na => ⟨_, rfl, _, 4, rfl, rfl, k4, .inr rfl, rfl, fun H' s' => ⟨rfl, KeepT.of_same (same_at s' na)⟩⟩, fun z => absurd z.symm Bool.false_ne_true⟩⟩⟩
      · cases hf
        cases hd
        cases he
        have n3 : (n : Int) ≤ 5 := n2
        exact .inl ⟨wz, t, y, g, n, rfl, hw, ht, n1, by omega, hg, rg.mono (by decide) (by decide), t2, t3, fun b H' _ k' => ⟨rfl, k'⟩⟩
    · refine ⟨_, rfl, rfl, _, rfl, ?_⟩
      refine iteF ?_
      refine ⟨_, rfl, rfl, _, rfl, ?_⟩
      refine iteF ?_
      refine ⟨_, rfl, rfl, _, rfl, ?_⟩
      refine iteF ?_
      refine ⟨_, rfl, rfl, _, rfl, ?_⟩
      refine iteF ?_
      refine ⟨_, rfl, _, rfl, _, rfl, ?_⟩
      rcases ask with ⟨rfl, nw⟩ | ⟨rfl, wy, nn⟩ | ⟨rfl, ⟨wz, rfl, hw⟩, ⟨n, rfl, n1, n2⟩, t, rfl, ht⟩
      · exact .inr ⟨x, v, u, f, d, e, rfl, hf, hd, he, .inl ⟨nw, ⟨true, x1, fun _ a na => ⟨_, rfl, _, 1, rfl, rfl, k1, .inl rfl, rfl, fun H' s' => ⟨rfl, KeepT.of_same (same_at s' na)⟩⟩, fun z => absurd z.symm Bool.false_ne_true⟩⟩⟩
      · exact .inr ⟨x, v, u, f, d, e, rfl, hf, hd, he, .inr ⟨wy, nn, ⟨true, x4, fun _ a na => ⟨_, rfl, _, 4, rfl, rfl, k4, .inr rfl, rfl, fun H' s' => ⟨rfl, KeepT.of_same (same_at s' na)⟩⟩, fun z => absurd z.symm Bool.false_ne_true⟩⟩⟩
      · cases hf
        cases hd
        cases he
        have n3 : (n : Int) ≤ 5 := n2
        exact .inl ⟨wz, n, t, rfl, hw, n1, by omega, ht, t2, fun l ps bss H' _ _ _ _ _ _ _ k' => ⟨rfl, k'⟩⟩
end
end Fo

namespace Fo
open PySem PySem.Spec PyProof.Rows L2
abbrev big26 : Int := 100000000000000000000000000
def spNoWay27 : Sp := fun vs H Q _ => ∃ (d : Addr), vs = [.ref d] ∧ StAt H d ∧ ∀ (v : V) (H' : Hp), Od (srcD d) 1000 3 (fun x => ¬ WayD x) H' v → StAt H' d → KeepD d H H' → Q v H'
/-- a number that is none: below one, or above the most where there is one -/
def NoNum (m : Int) (x : PyData) : Prop := ∀ i, x = .int i → 1 ≤ i → 0 < m ∧ m < i
def spNoNum27 : Sp := fun vs H Q _ => ∃ (d : Addr) (m : Int), vs = [.ref d, .int m] ∧ StAt H d ∧ 0 ≤ m ∧ m ≤ 12 ∧ ∀ (v : V) (H' : Hp), Od (srcD d) 10000 3 (NoNum m) H' v → StAt H' d → KeepD d H H' → Q v H'
theorem notway_s {z : Str} (h : (!(decide (z = "swap") || decide (z = "spot") || decide (z = "shift"))) = true) : ¬ WayD (.str z) := fun ⟨y, e, w⟩ => by
  injection e with e
  subst e
  rcases w with rfl | rfl | rfl <;> exact absurd h (by decide +kernel)
theorem notwayD {d : PyData} (h : isStrD d = false) : ¬ WayD d := fun g => by
  obtain ⟨z, rfl, _⟩ := g
  cases h
theorem notint {m : Int} {d : PyData} (h : ∀ i, d ≠ .int i) : NoNum m d := fun i e _ => absurd e (h i)
theorem notsize {m i : Int} (h : i < 1 ∨ (0 < m ∧ m < i)) : NoNum m (.int i) := fun j e h1 => by
  injection e with e
  subst e
  rcases h with h | h
  · omega
  · exact h
section
variable {S : Src} {σ : L2.St} {H : Hp}
/-- 13 + 3 * int(most > 0) -/
theorem oe_13 {m : Int} (e : σ[1]? = some (some (.int m))) : OE S (tOp (rI0 fun i j => V.int (i + j)) (tC (V.int 13)) (tOp (rI CMul fun i j => .int (i * j)) (tC (V.int 3)) (tCB rInt1 (tCons (tOp (rI0 fun i j => V.bl (decide (j < i))) (tVar 1) (tC (V.int 0))) tNil)))) σ H 110 0 (oI fun z => z = 13 + 3 * (if decide (0 < m) = true then 1 else 0)) := fun H1 Q e1 at1 q => by
  refine ⟨_, e, m, 0, rfl, rfl, .inr ⟨_, rfl, ?_⟩⟩
  refine ⟨3, _, rfl, rfl, .inl ⟨by decide, by decide⟩, 13, _, rfl, rfl, q _ _ (S.refl _) at1 ?_⟩
  · exact od_of_int ⟨by split <;> decide, by split <;> decide⟩ rfl
/-- an item among the first ones -/
theorem oe_ixH {K : PySem.W.Frag} {n1 n2 m k a b : Nat} {C D : PyData → Prop} {A : Int → Prop} {t u : TE} (h : OE S t σ H m k (oL fun ds => ∃ x y, ds = x ++ y ∧ (x.length = n1 ∧ ∀ z ∈ x, C z) ∧ (y.length = n2 ∧ ∀ z ∈ y, D z))) (g : OE S u σ H a b (oI A)) (hi : ∀ i, A i → 0 ≤ i ∧ i < (n1 : Int)) : OE S (tOp (rIxL K) t u) σ H m k C := fun H1 Q e1 at1 q =>
  h H1 _ e1 at1 fun v H2 e2 at2 o => g H2 _ (S.trans e1 e2) at2 fun w H3 e3 at3 o' => by
    obtain ⟨_, h1, h2, _, rfl, x, y, rfl, ⟨lx, cx⟩, _⟩ := o.kp e3
    obtain ⟨i, rfl, gi⟩ := od_int o'
    obtain ⟨i0, i1⟩ := hi i gi
    obtain ⟨p, xs, rfl, hp, ax⟩ := dq_lst h1
    have hl := ax.len
    rw [List.length_append] at hl
    have hi : i.toNat < xs.length := by omega
    have ev : xs[i.toNat]? = some xs[i.toNat] := List.getElem?_eq_getElem hi
    obtain ⟨d, ed, hd⟩ := ax.get ev
    have ed2 : x[i.toNat]? = some d := by rwa [List.getElem?_append_left (by omega)] at ed
    refine ⟨p, xs, i, xs[i.toNat], rfl, rfl, SqL.of (S.le _ _ _ hp), at_of (j := i.toNat) (Int.toNat_of_nonneg i0).symm ev, ?_⟩
    exact q _ _ (S.trans e2 e3) at3 ⟨d, hd, rw_mem h2 (List.mem_of_getElem? ed), cx d (List.mem_of_getElem? ed2)⟩
end
section
variable {P : Program} {w : World} {K : PySem.W.Frag} {mg : Str → Option Value} {base : Heap}
theorem scNoWay27 : FnScope ["store", "some"] ["store"] (defScope s_law_no_way) := ⟨rfl, rfl, rfl, by decide +kernel, rfl, by decide +kernel, by decide +kernel⟩
set_option maxHeartbeats 4000000 in
theorem ok_noWay27 {f fD : Addr} {fd dD : FuncData} {k : Nat} (T : Df K mg "_law_no_way" s_law_no_way ["store"] f fd) (T__law_take : Df K mg "_law_take" s_law_take ["store", "many"] fD dD) (G__law_take : FnOk P w K mg base CX0 k fD dD ["store", "many"] spTake) (B : Bi mg) : FnOk P w K mg base CX0 (k + 1) f fd ["store"] spNoWay27 := by
  refine T.F.ok scNoWay27 (fun vs H Q E h => ?_) (fun cdv A outer s H vs Q E hr h => ?_)
  · obtain ⟨d, rfl, _⟩ := h
    rfl
  · obtain ⟨d, rfl, D0, q⟩ := h
    have kk : (srcD d).Kp H H := (srcD d).refl H
    refine ⟨_, 
      (pss_cons (ps_set (i := 1) scNoWay27.nd rfl (.inl rfl) (pe_lst (pa_cons pe_str (pa_cons pe_str (pa_cons pe_str (pa_cons pe_str (pa_cons pe_str (pa_cons pe_str (pa_cons pe_str (pa_cons pe_non (pa_cons pe_int (pa_cons pe_bl (pa_cons (pe_lst (pa_cons pe_str pa_nil)) (pa_cons (pe_tup (pa_cons pe_str pa_nil)) (pa_cons pe_dnewK (pa_cons pe_str (pa_cons pe_int pa_nil)))))))))))))))))
      (pss_one (ps_ret (pe_ix ix_list (pv 1) (pe_call G__law_take hr (by rfl) T__law_take.g T__law_take.F.kp T__law_take.b .nil pass0 (pa_cons (pv 0) (pa_cons pe_int pa_nil))) (fun _ _ => rfl))))), ?_⟩
    refine os_set (S := srcD d) D0 (oe_lst (oa_consN (oe_tx 0 ⟨by decide +kernel, by decide +kernel⟩) (by first | (rintro _ ⟨_, rfl, _, rfl⟩; exact notway_s (by decide +kernel)) | (intro d h; exact notwayD (by first | (obtain ⟨_, rfl, _⟩ := h; rfl) | (cases h; rfl)))) (oa_consN (oe_tx 4 ⟨by decide +kernel, by decide +kernel⟩) (by first | (rintro _ ⟨_, rfl, _, rfl⟩; exact notway_s (by decide +kernel)) | (intro d h; exact notwayD (by first | (obtain ⟨_, rfl, _⟩ := h; rfl) | (cases h; rfl)))) (oa_consN (oe_tx 5 ⟨by decide +kernel, by decide +kernel⟩) (by first | (rintro _ ⟨_, rfl, _, rfl⟩; exact notway_s (by decide +kernel)) | (intro d h; exact notwayD (by first | (obtain ⟨_, rfl, _⟩ := h; rfl) | (cases h; rfl)))) (oa_consN (oe_tx 5 ⟨by decide +kernel, by decide +kernel⟩) (by first | (rintro _ ⟨_, rfl, _, rfl⟩; exact notway_s (by decide +kernel)) | (intro d h; exact notwayD (by first | (obtain ⟨_, rfl, _⟩ := h; rfl) | (cases h; rfl)))) (oa_consN (oe_tx 4 ⟨by decide +kernel, by decide +kernel⟩) (by first | (rintro _ ⟨_, rfl, _, rfl⟩; exact notway_s (by decide +kernel)) | (intro d h; exact notwayD (by first | (obtain ⟨_, rfl, _⟩ := h; rfl) | (cases h; rfl)))) (oa_consN (oe_tx 5 ⟨by decide +kernel, by decide +kernel⟩) (by first | (rintro _ ⟨_, rfl, _, rfl⟩; exact notway_s (by decide +kernel)) | (intro d h; exact notwayD (by first | (obtain ⟨_, rfl, _⟩ := h; rfl) | (cases h; rfl)))) (oa_consN (oe_tx 3 ⟨by decide +kernel, by decide +kernel⟩) (by first | (rintro _ ⟨_, rfl, _, rfl⟩; exact notway_s (by decide +kernel)) | (intro d h; exact notwayD (by first | (obtain ⟨_, rfl, _⟩ := h; rfl) | (cases h; rfl)))) (oa_consN oe_non (by first | (rintro _ ⟨_, rfl, _, rfl⟩; exact notway_s (by decide +kernel)) | (intro d h; exact notwayD (by first | (obtain ⟨_, rfl, _⟩ := h; rfl) | (cases h; rfl)))) (oa_consN (oe_intI (by decide)) (by first | (rintro _ ⟨_, rfl, _, rfl⟩; exact notway_s (by decide +kernel)) | (intro d h; exact notwayD (by first | (obtain ⟨_, rfl, _⟩ := h; rfl) | (cases h; rfl)))) (oa_consN (oe_bl true) (by first | (rintro _ ⟨_, rfl, _, rfl⟩; exact notway_s (by decide +kernel)) | (intro d h; exact notwayD (by first | (obtain ⟨_, rfl, _⟩ := h; rfl) | (cases h; rfl)))) (oa_consN (oe_lst (oa_cons (oe_tx 4 ⟨by decide +kernel, by decide +kernel⟩) oa_nil) (by decide)) (by first | (rintro _ ⟨_, rfl, _, rfl⟩; exact notway_s (by decide +kernel)) | (intro d h; exact notwayD (by first | (obtain ⟨_, rfl, _⟩ := h; rfl) | (cases h; rfl)))) (oa_consN (oe_tup (oa_cons (oe_tx 4 ⟨by decide +kernel, by decide +kernel⟩) oa_nil) (by decide)) (by first | (rintro _ ⟨_, rfl, _, rfl⟩; exact notway_s (by decide +kernel)) | (intro d h; exact notwayD (by first | (obtain ⟨_, rfl, _⟩ := h; rfl) | (cases h; rfl)))) (oa_consN oe_d0 (by first | (rintro _ ⟨_, rfl, _, rfl⟩; exact notway_s (by decide +kernel)) | (intro d h; exact notwayD (by first | (obtain ⟨_, rfl, _⟩ := h; rfl) | (cases h; rfl)))) (oa_consN (oe_tx 6 ⟨by decide +kernel, by decide +kernel⟩) (by first | (rintro _ ⟨_, rfl, _, rfl⟩; exact notway_s (by decide +kernel)) | (intro d h; exact notwayD (by first | (obtain ⟨_, rfl, _⟩ := h; rfl) | (cases h; rfl)))) (oa_consN (oe_intI (by decide)) (by first | (rintro _ ⟨_, rfl, _, rfl⟩; exact notway_s (by decide +kernel)) | (intro d h; exact notwayD (by first | (obtain ⟨_, rfl, _⟩ := h; rfl) | (cases h; rfl)))) (oa_nilN (fun x => ¬ WayD x))))))))))))))))) (by decide)) fun x1 H1 k1 D1 o_some => ?_
    replace kk := (srcD d).trans kk k1
    refine os_ret (S := srcD d) D1 (oe_ix (oe_v rfl o_some) (oe_takeC rfl (by decide)) (by grind)) fun v H' k' D' o' => q v H' (o'.mono (by decide) (by decide) fun _ h => h) D' ((srcD d).trans kk k')
theorem scNoNum27 : FnScope ["store", "most", "some"] ["store", "most"] (defScope s_law_no_number) := ⟨rfl, rfl, rfl, by decide +kernel, rfl, by decide +kernel, by decide +kernel⟩
set_option maxHeartbeats 8000000 in
theorem ok_noNum27 {f fD : Addr} {fd dD : FuncData} {k : Nat} (T : Df K mg "_law_no_number" s_law_no_number ["store", "most"] f fd) (T__law_take : Df K mg "_law_take" s_law_take ["store", "many"] fD dD) (G__law_take : FnOk P w K mg base CX0 k fD dD ["store", "many"] spTake) (B : Bi mg) : FnOk P w K mg base CX0 (k + 1) f fd ["store", "most"] spNoNum27 := by
  refine T.F.ok scNoNum27 (fun vs H Q E h => ?_) (fun cdv A outer s H vs Q E hr h => ?_)
  · obtain ⟨d, m, rfl, _⟩ := h
    rfl
  · obtain ⟨d, m, rfl, D0, m0, m1, q⟩ := h
    have kk : (srcD d).Kp H H := (srcD d).refl H
    have o_most : Od (srcD d) 110 0 (oI fun i => i = m) H (.int m) := od_of_int ⟨by omega, by omega⟩ rfl
    refine ⟨_, 
      (pss_cons (ps_set (i := 2) scNoNum27.nd rfl (.inl rfl) (pe_lst (pa_cons pe_int (pa_cons (pe_un un_neg pe_int) (pa_cons pe_bl (pa_cons pe_bl (pa_cons pe_non (pa_cons pe_str (pa_cons (pe_lst (pa_cons pe_int pa_nil)) (pa_cons (pe_tup (pa_cons pe_int pa_nil)) (pa_cons pe_dnewK (pa_cons (pe_op op_sub pe_int (pe_op op_pow pe_int pe_int)) (pa_cons (pe_op op_sub pe_int (pe_call G__law_take hr (by rfl) T__law_take.g T__law_take.F.kp T__law_take.b .nil pass0 (pa_cons (pv 0) (pa_cons pe_int pa_nil)))) (pa_cons pe_str (pa_cons (pe_lst pa_nil) pa_nil)))))))))))))))
      (pss_one (ps_ret (pe_ix ix_list (pe_op op_cat (pv 2) (pe_lst (pa_cons (pe_op op_add (pv 1) pe_int) (pa_cons (pe_op op_add (pe_op op_add (pv 1) pe_int) (pe_call G__law_take hr (by rfl) T__law_take.g T__law_take.F.kp T__law_take.b .nil pass0 (pa_cons (pv 0) (pa_cons pe_int pa_nil)))) (pa_cons (pe_op op_pow pe_int pe_int) pa_nil))))) (pe_call G__law_take hr (by rfl) T__law_take.g T__law_take.F.kp T__law_take.b .nil pass0 (pa_cons (pv 0) (pa_cons (pe_op op_add pe_int (pe_op op_mul pe_int (pe_callTy call_int1 (by rfl) B.int (by decide +kernel) (pa_cons (pe_cmpR op_gt (pv 1) pe_int (nomark _)) pa_nil)))) pa_nil))) (fun _ _ => rfl))))), ?_⟩
    refine os_set (S := srcD d) D0 (oe_lst (oa_consN (oe_intI (by decide)) (by intro d h; first | (obtain ⟨i, rfl, hi⟩ := h; exact notsize (by grind)) | (refine notint fun i e => ?_; subst e; first | (obtain ⟨_, e, _⟩ := h; cases e; done) | (cases h; done))) (oa_consN (oe_neg (oe_intI (by decide)) (by grind)) (by intro d h; first | (obtain ⟨i, rfl, hi⟩ := h; exact notsize (by grind)) | (refine notint fun i e => ?_; subst e; first | (obtain ⟨_, e, _⟩ := h; cases e; done) | (cases h; done))) (oa_consN (oe_bl true) (by intro d h; first | (obtain ⟨i, rfl, hi⟩ := h; exact notsize (by grind)) | (refine notint fun i e => ?_; subst e; first | (obtain ⟨_, e, _⟩ := h; cases e; done) | (cases h; done))) (oa_consN (oe_bl false) (by intro d h; first | (obtain ⟨i, rfl, hi⟩ := h; exact notsize (by grind)) | (refine notint fun i e => ?_; subst e; first | (obtain ⟨_, e, _⟩ := h; cases e; done) | (cases h; done))) (oa_consN oe_non (by intro d h; first | (obtain ⟨i, rfl, hi⟩ := h; exact notsize (by grind)) | (refine notint fun i e => ?_; subst e; first | (obtain ⟨_, e, _⟩ := h; cases e; done) | (cases h; done))) (oa_consN (oe_tx 1 ⟨by decide +kernel, by decide +kernel⟩) (by intro d h; first | (obtain ⟨i, rfl, hi⟩ := h; exact notsize (by grind)) | (refine notint fun i e => ?_; subst e; first | (obtain ⟨_, e, _⟩ := h; cases e; done) | (cases h; done))) (oa_consN (oe_lst (oa_cons (oe_intI (by decide)) oa_nil) (by decide)) (by intro d h; first | (obtain ⟨i, rfl, hi⟩ := h; exact notsize (by grind)) | (refine notint fun i e => ?_; subst e; first | (obtain ⟨_, e, _⟩ := h; cases e; done) | (cases h; done))) (oa_consN (oe_tup (oa_cons (oe_intI (by decide)) oa_nil) (by decide)) (by intro d h; first | (obtain ⟨i, rfl, hi⟩ := h; exact notsize (by grind)) | (refine notint fun i e => ?_; subst e; first | (obtain ⟨_, e, _⟩ := h; cases e; done) | (cases h; done))) (oa_consN oe_d0 (by intro d h; first | (obtain ⟨i, rfl, hi⟩ := h; exact notsize (by grind)) | (refine notint fun i e => ?_; subst e; first | (obtain ⟨_, e, _⟩ := h; cases e; done) | (cases h; done))) (oa_consN (oe_sub (oe_intI (by decide)) (oe_pow ⟨by decide, by decide, by decide⟩ ⟨by decide, by decide⟩) (by grind)) (by intro d h; first | (obtain ⟨i, rfl, hi⟩ := h; exact notsize (by grind)) | (refine notint fun i e => ?_; subst e; first | (obtain ⟨_, e, _⟩ := h; cases e; done) | (cases h; done))) (oa_consN (oe_sub (oe_intI (by decide)) (oe_takeC rfl (by decide)) (by grind)) (by intro d h; first | (obtain ⟨i, rfl, hi⟩ := h; exact notsize (by grind)) | (refine notint fun i e => ?_; subst e; first | (obtain ⟨_, e, _⟩ := h; cases e; done) | (cases h; done))) (oa_consN (oe_tx 0 ⟨by decide +kernel, by decide +kernel⟩) (by intro d h; first | (obtain ⟨i, rfl, hi⟩ := h; exact notsize (by grind)) | (refine notint fun i e => ?_; subst e; first | (obtain ⟨_, e, _⟩ := h; cases e; done) | (cases h; done))) (oa_consN (oe_lst oa_nil (by decide)) (by intro d h; first | (obtain ⟨i, rfl, hi⟩ := h; exact notsize (by grind)) | (refine notint fun i e => ?_; subst e; first | (obtain ⟨_, e, _⟩ := h; cases e; done) | (cases h; done))) (oa_nilN (NoNum m))))))))))))))) (by decide)) fun x1 H1 k1 D1 o_some => ?_
    replace o_most := o_most.kp k1
    replace kk := (srcD d).trans kk k1
    by_cases hm : 0 < m
    · refine os_ret (S := srcD d) D1 (oe_ix (oe_catN (oe_v rfl o_some) (oe_lst (oa_consN (oe_add (oe_v rfl o_most) (oe_intI (by decide)) (by grind)) (by intro d h; first | (obtain ⟨i, rfl, hi⟩ := h; exact notsize (by grind)) | (refine notint fun i e => ?_; subst e; first | (obtain ⟨_, e, _⟩ := h; cases e; done) | (cases h; done))) (oa_consN (oe_add (oe_add (oe_v rfl o_most) (oe_intI (by decide)) (by grind)) (oe_takeC rfl (by decide)) (by grind)) (by intro d h; first | (obtain ⟨i, rfl, hi⟩ := h; exact notsize (by grind)) | (refine notint fun i e => ?_; subst e; first | (obtain ⟨_, e, _⟩ := h; cases e; done) | (cases h; done))) (oa_consN (oe_pow ⟨by decide, by decide, by decide⟩ ⟨by decide, by decide⟩) (by intro d h; first | (obtain ⟨i, rfl, hi⟩ := h; exact notsize (by grind)) | (refine notint fun i e => ?_; subst e; first | (obtain ⟨_, e, _⟩ := h; cases e; done) | (cases h; done))) (oa_nilN (NoNum m))))) (by decide)) (by decide)) (oe_take rfl (oe_13 rfl) (fun z e => by rw [e]; split <;> decide)) (fun i h => by obtain ⟨y, rfl, i0, i1⟩ := h; rw [decide_eq_true hm] at i1; exact ⟨i0, i1⟩)) fun v H' k' D' o' => q v H' (o'.mono (by decide) (by decide) fun _ h => h) D' ((srcD d).trans kk k')
    · refine os_ret (S := srcD d) D1 (oe_ixH (oe_cat (oe_v rfl o_some) (oe_lst (oa_consN (oe_add (oe_v rfl o_most) (oe_intI (by decide)) (by grind)) (by exact fun _ _ => trivial) (oa_consN (oe_add (oe_add (oe_v rfl o_most) (oe_intI (by decide)) (by grind)) (oe_takeC rfl (by decide)) (by grind)) (by exact fun _ _ => trivial) (oa_consN (oe_pow ⟨by decide, by decide, by decide⟩ ⟨by decide, by decide⟩) (by exact fun _ _ => trivial) (oa_nilN (fun _ => True))))) (by decide)) (by decide)) (oe_take rfl (oe_13 rfl) (fun z e => by rw [e]; split <;> decide)) (fun i h => by obtain ⟨y, rfl, i0, i1⟩ := h; rw [decide_eq_false hm] at i1; exact ⟨i0, i1⟩)) fun v H' k' D' o' => q v H' (o'.mono (by decide) (by decide) fun _ h => h) D' ((srcD d).trans kk k')
end
end Fo
namespace Fo
open PySem PySem.Spec PyProof.Rows L2
mutual
theorem Dq.keepT {H H' : Hp} (s : KeepT H H') : ∀ (d : PyData) (v : V), Dq H v d → Dq H' v d
  | .none, _, h => by cases h; exact .non
  | .bool b, _, h => by cases h; exact .bl b
  | .int i, _, h => by cases h; exact .int i
  | .str x, _, h => by cases h; exact .str x
  | .list ds, _, h => by
    cases h with
    | lst e a => exact .lst (s.lst e) (DqAll.keepT s ds _ a)
  | .tuple ds, _, h => by
    cases h with
    | tup e a => exact .tup (s.1 _ _ e (fun q z => by cases z)) (DqAll.keepT s ds _ a)
  | .dict ks, _, h => by
    cases h with
    | dic e a => exact .dic (s.1 _ _ e (fun q z => by cases z)) a
theorem DqAll.keepT {H H' : Hp} (s : KeepT H H') : ∀ (ds : List PyData) (vs : List V), DqAll H vs ds → DqAll H' vs ds
  | [], _, h => by cases h; exact .nil
  | d :: ds, _, h => by
    cases h with
    | cons h1 h2 => exact .cons (Dq.keepT s d _ h1) (DqAll.keepT s ds _ h2)
end
end Fo
namespace Fo
open PySem PySem.Spec PyProof.Rows L2
/-! all stays but d, tables may grow -/
theorem KeepTD.r0 (d : Addr) (H : Hp) : KeepTD d H H := ⟨fun _ _ e _ _ => e, fun _ q e _ => ⟨q, e, id⟩⟩
theorem KeepTD.drw {d : Addr} {H0 H H' : Hp} (k : KeepTD d H0 H) (s : KeepD d H H') : KeepTD d H0 H' := by
  refine ⟨fun b o e n f => s _ _ (k.1 b o e n f) n, fun b q e n => ?_⟩
  obtain ⟨q', e', t⟩ := k.2 b q e n
  exact ⟨q', s _ _ e' n, t⟩
theorem KeepTD.sm {d : Addr} {H0 H H' : Hp} (k : KeepTD d H0 H) (s : Same H H') : KeepTD d H0 H' := k.drw (KeepD.of_same s)
theorem KeepTD.kt {d : Addr} {H0 H H' : Hp} (k : KeepTD d H0 H) (s : KeepT H H') : KeepTD d H0 H' := by
  refine ⟨fun b o e n f => s.1 b o (k.1 b o e n f) f, fun b q e n => ?_⟩
  obtain ⟨q', e', t⟩ := k.2 b q e n
  obtain ⟨q2, e2, t2⟩ := s.2 b q' e'
  exact ⟨q2, e2, fun h => t2 (t h)⟩
theorem KeepTD.tr {d : Addr} {H0 H H' : Hp} (k : KeepTD d H0 H) (s : KeepTD d H H') : KeepTD d H0 H' := by
  refine ⟨fun b o e n f => s.1 b o (k.1 b o e n f) n f, fun b q e n => ?_⟩
  obtain ⟨q', e', t⟩ := k.2 b q e n
  obtain ⟨q2, e2, t2⟩ := s.2 b q' e' n
  exact ⟨q2, e2, fun h => t2 (t h)⟩
theorem KeepTD.ov {d : Addr} {H0 H H' : Hp} (t : KeepT H0 H) (k : KeepTD d H H') (nD : H0 d = none) : KeepT H0 H' := by
  refine ⟨fun b o e f => k.1 b o (t.1 b o e f) (fun z => by rw [z, nD] at e; cases e) f, fun b q e => ?_⟩
  obtain ⟨q', e', u⟩ := t.2 b q e
  obtain ⟨q2, e2, u2⟩ := k.2 b q' e' (fun z => by rw [z, nD] at e; cases e)
  exact ⟨q2, e2, fun h => u2 (u h)⟩
theorem KeepTD.tbL {d : Addr} {xs : List V} {H H' : Hp} (k : KeepTD d H H') (ed : H d = some (.lst xs)) {P : Addr} (t : GxR.TabG H P) : GxR.TabG H' P := by
  obtain ⟨q, e, r⟩ := t
  obtain ⟨q', e', t'⟩ := k.2 P q e (fun z => by rw [z, ed] at e; cases e)
  exact ⟨q', e', t' r⟩
theorem KeepTD.lst {d : Addr} {H H' : Hp} (k : KeepTD d H H') {p : Addr} {xs : List V} (e : H p = some (.lst xs)) (n : p ≠ d) : H' p = some (.lst xs) := k.1 p _ e n (fun q z => by cases z)
theorem LL.keep' {H H' : Hp} : ∀ {as : List Addr} {rs : List (List Int)}, LL H as rs → (∀ a ∈ as, ∀ xs, H a = some (.lst xs) → H' a = some (.lst xs)) → LL H' as rs
  | [], [], _, _ => trivial
  | _ :: _, _ :: _, h, k => ⟨k _ List.mem_cons_self _ h.1, LL.keep' h.2 fun b m => k b (List.mem_cons_of_mem _ m)⟩
  | [], _ :: _, h, _ => h.elim
  | _ :: _, [], h, _ => h.elim
theorem LL.keepTD {d : Addr} {H H' : Hp} {as : List Addr} {rs : List (List Int)} (h : LL H as rs) (s : KeepTD d H H') (na : d ∉ as) : LL H' as rs := h.keep' fun a ha xs e => s.lst e (fun q => na (by rw [← q]; exact ha))
theorem StAt.kt {d : Addr} {H H' : Hp} (P : StAt H d) (s : KeepT H H') : StAt H' d := by
  obtain ⟨a, b, t, e⟩ := P
  exact ⟨a, b, t, s.lst e⟩
theorem StAt.notin {d : Addr} {H : Hp} (P : StAt H d) {as : List Addr} (h : ∀ a ∈ as, H a = none) : d ∉ as := fun m => by
  obtain ⟨a, b, t, e⟩ := P
  rw [h d m] at e
  cases e
theorem KeepTD.tbS {d : Addr} {H H' : Hp} (k : KeepTD d H H') (P0 : StAt H d) {P : Addr} (t : GxR.TabG H P) : GxR.TabG H' P := by
  obtain ⟨_, _, _, ed⟩ := P0
  exact k.tbL ed t
end Fo
namespace Fo
open PySem PySem.Spec PyProof.Rows L2
def spRight27 (Pf Pn Pp : Addr) : Sp := fun vs H Q _ => ∃ (d : Addr) (i : Nat), vs = [.ref d, .int i] ∧ StAt H d ∧ i < 5 ∧ GxR.TabG H Pf ∧ GxR.TabG H Pn ∧ GxR.TabG H Pp ∧ ∀ H', StAt H' d → KeepTD d H H' → Q (.bl true) H'
theorem pick2 (a b : V) {i : Int} (h0 : 0 ≤ i) (h1 : i < 2) : atI [a, b] i = some (if i = 1 then b else a) := by
  have : i = 0 ∨ i = 1 := by omega
  rcases this with rfl | rfl
  · rfl
  · rfl
theorem sized_no {m : Int} {x : PyData} (h : NoNum m x) : ¬ SizeD m x := fun ⟨i, e, h1, h2⟩ => by
  have := h i e h1
  omega
theorem from_no {x : PyData} (h : NoNum 0 x) : ¬ FromD 1 x := fun ⟨i, e, h1⟩ => by
  have := h i e h1
  omega
section
variable {P : Program} {w : World} {K : PySem.W.Frag} {mg : Str → Option Value} {base : Heap}
theorem scRight27 : FnScope ["store", "door", "most", "n", "d", "way", "thing", "bad", "kept", "marks", "some", "due"] ["store", "door"] (defScope s_law_right) := ⟨rfl, rfl, rfl, by decide +kernel, rfl, by decide +kernel, by decide +kernel⟩
set_option maxHeartbeats 8000000 in
theorem ok_right27 {f f0 f1 f2 f3 Pf Pn Pp : Addr} {fd d0 d1 d2 d3 : FuncData} {k : Nat} (T : Df K mg "_law_right" s_law_right ["store", "door"] f fd) (T__law_take : Df K mg "_law_take" s_law_take ["store", "many"] f0 d0) (T__law_no_way : Df K mg "_law_no_way" s_law_no_way ["store"] f1 d1) (T__law_no_number : Df K mg "_law_no_number" s_law_no_number ["store", "most"] f2 d2) (T__law_word : Df K mg "_law_word" s_law_word ["door", "way", "n", "d", "thing"] f3 d3) (G__law_take : FnOk P w K mg base CX0 k f0 d0 ["store", "many"] spTake) (G__law_no_way : FnOk P w K mg base CX0 k f1 d1 ["store"] spNoWay27) (G__law_no_number : FnOk P w K mg base CX0 k f2 d2 ["store", "most"] spNoNum27) (G__law_word : FnOk P w K mg base CX0 k f3 d3 ["door", "way", "n", "d", "thing"] (spWord27 Pf Pn Pp)) (sy : SysAt base) (B : Bi mg) : FnG P w K mg base (k + 1) f fd ["store", "door"] (spRight27 Pf Pn Pp) := by
  refine okG T.F scRight27 (fun vs H Q E h => ?_) (fun cdv A outer s H vs Q E gA hr h => ?_)
  · obtain ⟨d, i, rfl, _⟩ := h
    rfl
  · obtain ⟨d, i, rfl, D0, hi, t1, t2, t3, q⟩ := h
    refine ⟨_, 
      (pss_cons (ps_set (i := 2) scRight27.nd rfl (.inl rfl) (pe_ix ix_list (pe_lst (pa_cons pe_int (pa_cons pe_int (pa_cons pe_int (pa_cons pe_int (pa_cons pe_int pa_nil)))))) (pv 1) (fun _ _ => rfl)))
      (pss_cons (ps_set (i := 3) scRight27.nd rfl (.inl rfl) (pe_op op_add pe_int (pe_call G__law_take hr (by rfl) T__law_take.g T__law_take.F.kp T__law_take.b .nil pass0 (pa_cons (pv 0) (pa_cons (pe_callB (call_min2 rfl) (by rfl) B.min (by decide +kernel) (pa_cons (pv 2) (pa_cons pe_int pa_nil))) pa_nil)))))
      (pss_cons (ps_set (i := 4) scRight27.nd rfl (.inl rfl) (pe_op op_add pe_int (pe_call G__law_take hr (by rfl) T__law_take.g T__law_take.F.kp T__law_take.b .nil pass0 (pa_cons (pv 0) (pa_cons pe_int pa_nil)))))
      (pss_cons (ps_set (i := 5) scRight27.nd rfl (.inl rfl) (pe_ix ix_list (pe_lst (pa_cons pe_str (pa_cons pe_str (pa_cons pe_str pa_nil)))) (pe_call G__law_take hr (by rfl) T__law_take.g T__law_take.F.kp T__law_take.b .nil pass0 (pa_cons (pv 0) (pa_cons pe_int pa_nil))) (fun _ _ => rfl)))
      (pss_cons (ps_set (i := 6) scRight27.nd rfl (.inl rfl) (pe_ix ix_list (pe_lst (pa_cons (pe_lst pa_nil) (pa_cons (pe_lst (pa_cons (pe_listRg rfl (by rfl) B.list (prg_1 (by rfl) B.range (pv 3))) pa_nil)) (pa_cons pe_non (pa_cons pe_int (pa_cons (pe_lst (pa_cons (pe_lst (pa_cons (pe_listRg rfl (by rfl) B.list (prg_1 (by rfl) B.range (pv 3))) pa_nil)) pa_nil)) (pa_cons pe_str pa_nil))))))) (pe_call G__law_take hr (by rfl) T__law_take.g T__law_take.F.kp T__law_take.b .nil pass0 (pa_cons (pv 0) (pa_cons pe_int pa_nil))) (fun _ _ => rfl)))
      (pss_cons (ps_set (i := 7) scRight27.nd rfl (.inl rfl) (pe_lst (pa_cons (pe_call G__law_no_way hr (by rfl) T__law_no_way.g T__law_no_way.F.kp T__law_no_way.b .nil pass0 (pa_cons (pv 0) pa_nil)) (pa_cons (pe_call G__law_no_number hr (by rfl) T__law_no_number.g T__law_no_number.F.kp T__law_no_number.b .nil pass0 (pa_cons (pv 0) (pa_cons (pv 2) pa_nil))) (pa_cons (pe_call G__law_no_number hr (by rfl) T__law_no_number.g T__law_no_number.F.kp T__law_no_number.b .nil pass0 (pa_cons (pv 0) (pa_cons pe_int pa_nil))) pa_nil)))))
      (pss_cons (ps_set (i := 8) scRight27.nd rfl (.inl rfl) (pe_callB (call_reprD gA hr sy) (by rfl) B.repr (by decide +kernel) (pa_cons (pe_lst (pa_cons (pv 7) (pa_cons (pv 6) pa_nil))) pa_nil)))
      (pss_cons (ps_for PassesOwn.never rfl (pi_range1 (by rfl) B.range (pa_cons pe_int pa_nil)) (pg_name (i := 9) scRight27.nd rfl (.inl rfl))
        (pss_cons (ps_set (i := 10) scRight27.nd rfl (.inl rfl) (pe_lst (pa_cons (pe_ix ix_list (pe_lst (pa_cons (pv 5) (pa_cons (pe_ix ix_list (pv 7) pe_int (fun _ _ => rfl)) pa_nil))) (pe_op op_mod (pv 9) pe_int) (fun _ _ => rfl)) (pa_cons (pe_ix ix_list (pe_lst (pa_cons (pv 3) (pa_cons (pe_ix ix_list (pv 7) pe_int (fun _ _ => rfl)) pa_nil))) (pe_op op_mod (pe_op op_fdiv (pv 9) pe_int) pe_int) (fun _ _ => rfl)) (pa_cons (pe_ix ix_list (pe_lst (pa_cons (pv 4) (pa_cons (pe_ix ix_list (pv 7) pe_int (fun _ _ => rfl)) pa_nil))) (pe_op op_fdiv (pv 9) pe_int) (fun _ _ => rfl)) pa_nil)))))
        (pss_cons (ps_set (i := 11) scRight27.nd rfl (.inl rfl) (pe_ix ix_list (pe_lst (pa_cons pe_str (pa_cons pe_str pa_nil))) (pe_callTy call_int1 (by rfl) B.int (by decide +kernel) (pa_cons (pe_cmpR op_gt (pv 9) pe_int (nomark _)) pa_nil)) (fun _ _ => rfl)))
        (Evl.pss_cut (ps_if (pt_cmpR op_eq (pe_op op_mod (pv 9) pe_int) pe_int (nomark _))
          (pss_one (ps_set (i := 11) scRight27.nd rfl (.inl rfl) pe_str))
          pss_nil)
        (pss_one (ps_if (PW.pt (pw_or (pt_cmpR op_ne (pe_call G__law_word hr (by rfl) T__law_word.g T__law_word.F.kp T__law_word.b .nil pass0 (pa_cons (pv 1) (pa_cons (pe_ix ix_list (pv 10) pe_int (fun _ _ => rfl)) (pa_cons (pe_ix ix_list (pv 10) pe_int (fun _ _ => rfl)) (pa_cons (pe_ix ix_list (pv 10) pe_int (fun _ _ => rfl)) (pa_cons (pv 6) pa_nil)))))) (pv 11) (nomark _)) (pw_or1 (pt_cmpR op_ne (pe_callB (call_reprD gA hr sy) (by rfl) B.repr (by decide +kernel) (pa_cons (pe_lst (pa_cons (pv 7) (pa_cons (pv 6) pa_nil))) pa_nil)) (pv 8) (nomark _)))))
          (pss_one (ps_ret pe_bl))
          pss_nil))))))
      (pss_one (ps_ret pe_bl)))))))))), ?_⟩
    have hm : ∃ m : Nat, atI [V.int 12, .int 4, .int 6, .int 5, .int 5] (i : Int) = some (.int (m : Int)) ∧ (m : Int) = most27 i ∧ 4 ≤ m ∧ m ≤ 12 := by
      have h5 : i = 0 ∨ i = 1 ∨ i = 2 ∨ i = 3 ∨ i = 4 := by omega
      rcases h5 with rfl | rfl | rfl | rfl | rfl
      · exact ⟨12, rfl, rfl, by decide, by decide⟩
      · exact ⟨4, rfl, rfl, by decide, by decide⟩
      · exact ⟨6, rfl, rfl, by decide, by decide⟩
      · exact ⟨5, rfl, rfl, by decide, by decide⟩
      · exact ⟨5, rfl, rfl, by decide, by decide⟩
    obtain ⟨m, em, hm5, hm1, hm2⟩ := hm
    refine ⟨line_small (by show 5 ≤ 16777216; decide), fun l1 nl1 => ?_⟩
    have s1 := same_new (o := .lst [.int 12, .int 4, .int 6, .int 5, .int 5]) nl1
    refine ⟨_, rfl, l1, _, _, _, rfl, rfl, SqL.of upd_same, em, ?_⟩
    have D1 := D0.same s1
    have k1 := KeepD.of_same (d := d) s1
    generalize upd H l1 (.lst [.int 12, .int 4, .int 6, .int 5, .int 5]) = H1 at D1 k1 ⊢
    refine ⟨_, rfl, _, rfl, _, 4, rfl, ?_⟩
    rw [show (if (4 : Int) < (m : Int) then (4 : Int) else (m : Int)) = 4 by split <;> omega]
    refine ⟨d, 4, rfl, D1, by decide, by decide, fun v1 H2 v10 v11 D2 k2 => ⟨1, _, rfl, rfl, ?_⟩⟩
    obtain ⟨n, en, hn1, hn2⟩ : ∃ n : Nat, 1 + v1 = (n : Int) ∧ 1 ≤ n ∧ n ≤ 4 := ⟨(1 + v1).toNat, by omega, by omega, by omega⟩
    show gName 3 (V.int (1 + v1)) _ _ _
    rw [en]
    refine ⟨_, rfl, d, 9, rfl, D2, by decide, by decide, fun v2 H3 v20 v21 D3 k3 => ⟨2, _, rfl, rfl, ?_⟩⟩
    obtain ⟨t, et, ht1, ht2⟩ : ∃ t : Int, 2 + v2 = t ∧ 1 ≤ t ∧ t ≤ 20 := ⟨_, rfl, by omega, by omega⟩
    show gName 4 (V.int (2 + v2)) _ _ _
    rw [et]
    refine ⟨line_small (by show 3 ≤ 16777216; decide), fun l2 nl2 => ?_⟩
    have s2 := same_new (o := .lst [.str "swap", .str "spot", .str "shift"]) nl2
    refine ⟨_, rfl, d, 3, rfl, D3.same s2, by decide, by decide, fun u H4 u0 u1 D4 k4 => ?_⟩
    have hl2 := k4 _ _ upd_same (D3.ne nl2)
    obtain ⟨z, hz, ez⟩ : ∃ z : Str, IsWay z ∧ atI ([.str "swap", .str "spot", .str "shift"] : List V) u = some (.str z) := by
      have : u = 0 ∨ u = 1 ∨ u = 2 := by omega
      rcases this with rfl | rfl | rfl
      · exact ⟨"swap", .inl rfl, rfl⟩
      · exact ⟨"spot", .inr (.inl rfl), rfl⟩
      · exact ⟨"shift", .inr (.inr rfl), rfl⟩
    refine ⟨l2, _, u, _, rfl, rfl, SqL.of hl2, ez, ?_⟩
    have k04 : KeepD d H H4 := (((k1.trans k2).trans k3).trans (KeepD.of_same s2)).trans k4
    clear hl2 k1 k2 k3 k4 s2 D1 D2 D3
    have o_n : Od (srcD d) 110 0 (oI fun i => i = (n : Int)) H4 (.int n) := od_of_int ⟨by omega, by omega⟩ rfl
    refine os_set (S := srcD d) D4 (oe_ix (oe_lst (oa_consN (oe_lst oa_nil (by decide)) (by exact fun _ _ => trivial) (oa_consN (oe_lst (oa_cons ((oe_lrg (n := n) (by omega) (oe_v rfl o_n)).mono (m' := 500) (by omega) (Nat.le_refl _) fun _ h => h) oa_nil) (by decide)) (by exact fun _ _ => trivial) (oa_consN oe_non (by exact fun _ _ => trivial) (oa_consN (oe_intI (by decide)) (by exact fun _ _ => trivial) (oa_consN (oe_lst (oa_cons (oe_lst (oa_cons ((oe_lrg (n := n) (by omega) (oe_v rfl o_n)).mono (m' := 500) (by omega) (Nat.le_refl _) fun _ h => h) oa_nil) (by decide)) oa_nil) (by decide)) (by exact fun _ _ => trivial) (oa_consN (oe_tx 1 ⟨by decide +kernel, by decide +kernel⟩) (by exact fun _ _ => trivial) (oa_nilN (fun _ => True)))))))) (by decide)) (oe_takeC rfl (by decide)) (by grind)) fun th H5 k5 D5 o_th => ?_
    have o_th : Od (srcD d) 10000 5 (fun _ => True) H5 th := o_th.mono (by decide) (by decide) fun _ h => h
    refine ⟨_, rfl, d, rfl, D5, fun b0 H6 o0 D6 k6 => ⟨_, rfl, _, rfl, d, (m : Int), rfl, D6, by omega, by omega, fun b1 H7 o1 D7 k7 => ⟨_, rfl, d, 0, rfl, D7, by decide, by decide, fun b2 H8 o2 D8 k8 => ⟨line_small (by show 3 ≤ 16777216; decide), fun lb nlb => ?_⟩⟩⟩⟩
    have s9 := same_new (o := .lst [b0, b1, b2]) nlb
    have hlb : (upd H8 lb (.lst [b0, b1, b2])) lb = some (.lst [b0, b1, b2]) := upd_same
    have le8 := (srcD d).le H8
    obtain ⟨fth, hth, rth, _⟩ := (((o_th.kp k6).kp k7).kp k8)
    obtain ⟨f0, h0, r0, w0⟩ := (o0.kp k7).kp k8
    obtain ⟨f1, h1, r1, w1⟩ := o1.kp k8
    obtain ⟨f2, h2, r2, w2⟩ := o2
    have hth := (hth.same le8).same s9
    have h0 := (h0.same le8).same s9
    have h1 := (h1.same le8).same s9
    have h2 := (h2.same le8).same s9
    have k09 : KeepTD d H (upd H8 lb (.lst [b0, b1, b2])) := (KeepTD.r0 d H).drw (((((k04.trans k5).trans k6).trans k7).trans k8).trans (KeepD.of_same s9))
    have D9 := D8.same s9
    generalize upd H8 lb (.lst [b0, b1, b2]) = G0 at hlb hth h0 h1 h2 k09 D9 ⊢
    have rA : Rp 100000 (.list [.list [f0, f1, f2], fth]) := ((rw_list (rws_cons ((rw_list (rws_cons r0 (rws_cons (r1.mono (Nat.le_refl _) (Nat.le_refl 3)) (rws_cons r2 rws_nil)))).mono (Nat.le_refl _) (show 4 ≤ 5 by decide)) (rws_cons rth rws_nil))).mono (by decide) (Nat.le_refl _)).rp (by decide)
    refine ⟨_, rfl, _, rfl, line_small (by show 2 ≤ 16777216; decide), fun p np => ?_⟩
    have sp1 := same_new (o := .lst [.ref lb, th]) np
    refine ⟨_, _, 100000, rfl, .lst upd_same (.cons (.lst (sp1 _ _ hlb) (.cons (h0.same sp1) (.cons (h1.same sp1) (.cons (h2.same sp1) .nil)))) (.cons (hth.same sp1) .nil)), rA, by decide, ?_⟩
    refine ⟨_, rfl, by decide, by decide, ?_⟩
    refine for_range (n := 8) (fun j σ G => ∃ (y9 y10 y11 : Option V), σ = [some (.ref d), some (.int (i : Nat)), some (.int (m : Nat)), some (.int (n : Nat)), some (.int t), some (.str z), some th, some (.ref lb), some (.str (PyData.shown (.list [.list [f0, f1, f2], fth]))), y9, y10, y11] ∧ KeepT G0 G) ⟨_, _, _, rfl, KeepT.of_same sp1⟩ (fun j σ G hj hP => ?_) (fun σ G hP => ?_)
    rotate_left
    · obtain ⟨y9, y10, y11, rfl, kG⟩ := hP
      exact q G (D9.kt kG) (k09.kt kG)
    obtain ⟨y9, y10, y11, rfl, kG⟩ := hP
    have hlbG := kG.lst hlb
    have hj2 : 0 ≤ (0 + (j : Int)) % 2 ∧ (0 + (j : Int)) % 2 < 2 := by omega
    have hj4 : 0 ≤ (0 + (j : Int)) / 2 % 2 ∧ (0 + (j : Int)) / 2 % 2 < 2 := by omega
    have hj8 : 0 ≤ (0 + (j : Int)) / 4 ∧ (0 + (j : Int)) / 4 < 2 := by omega
    refine ⟨_, rfl, _, rfl, lb, _, _, _, rfl, rfl, SqL.of hlbG, rfl, line_small (by show 2 ≤ 16777216; decide), fun p1 np1 => ⟨_, rfl, _, 2, rfl, rfl, (show (0 : Int) < 2 by decide), p1, _, _, _, rfl, rfl, SqL.of upd_same, pick2 _ _ hj2.1 hj2.2, ?_⟩⟩
    have u1 := same_new (o := .lst [.str z, b0]) np1
    refine ⟨_, rfl, _, rfl, lb, _, _, _, rfl, rfl, SqL.of (u1 _ _ hlbG), rfl, line_small (by show 2 ≤ 16777216; decide), fun p2 np2 => ⟨_, rfl, _, 2, rfl, rfl, ⟨by decide, by decide⟩, _, 2, rfl, rfl, (show (0 : Int) < 2 by decide), p2, _, _, _, rfl, rfl, SqL.of upd_same, pick2 _ _ hj4.1 hj4.2, ?_⟩⟩
    have u2 := u1.trans (same_new (o := .lst [.int (n : Nat), b1]) np2)
    refine ⟨_, rfl, _, rfl, lb, _, _, _, rfl, rfl, SqL.of (u2 _ _ hlbG), rfl, line_small (by show 2 ≤ 16777216; decide), fun p3 np3 => ⟨_, rfl, _, 4, rfl, rfl, ⟨by decide, by decide⟩, p3, _, _, _, rfl, rfl, SqL.of upd_same, pick2 _ _ hj8.1 hj8.2, ?_⟩⟩
    have u3 := u2.trans (same_new (o := .lst [.int t, b2]) np3)
    refine ⟨line_small (by show 3 ≤ 16777216; decide), fun sm nsm => ?_⟩
    have kG4 := kG.trans (KeepT.of_same (u3.trans (same_new (o := .lst [(if (0 + (j : Int)) % 2 = 1 then b0 else .str z), (if (0 + (j : Int)) / 2 % 2 = 1 then b1 else .int (n : Nat)), (if (0 + (j : Int)) / 4 = 1 then b2 else .int t)]) nsm)))
    obtain ⟨X, eX, fX, hX, wX1, wX2⟩ : ∃ X, (if (0 + (j : Int)) % 2 = 1 then b0 else V.str z) = X ∧ ∃ f, Dq G0 X f ∧ ((0 + (j : Int)) % 2 = 1 → ¬ WayD f) ∧ (¬ (0 + (j : Int)) % 2 = 1 → f = .str z) := by
      by_cases c : (0 + (j : Int)) % 2 = 1
      · exact ⟨b0, if_pos c, f0, h0, fun _ => w0, fun y => absurd c y⟩
      · exact ⟨.str z, if_neg c, .str z, .str z, fun y => absurd y c, fun _ => rfl⟩
    obtain ⟨U, eU, fU, hU, wU1, wU2⟩ : ∃ U, (if (0 + (j : Int)) / 2 % 2 = 1 then b1 else V.int (n : Nat)) = U ∧ ∃ f, Dq G0 U f ∧ ((0 + (j : Int)) / 2 % 2 = 1 → NoNum (m : Int) f) ∧ (¬ (0 + (j : Int)) / 2 % 2 = 1 → f = .int (n : Nat)) := by
      by_cases c : (0 + (j : Int)) / 2 % 2 = 1
      · exact ⟨b1, if_pos c, f1, h1, fun _ => w1, fun y => absurd c y⟩
      · exact ⟨.int n, if_neg c, .int n, .int _, fun y => absurd y c, fun _ => rfl⟩
    obtain ⟨W, eW, fW, hW, wW1, wW2⟩ : ∃ W, (if (0 + (j : Int)) / 4 = 1 then b2 else V.int t) = W ∧ ∃ f, Dq G0 W f ∧ ((0 + (j : Int)) / 4 = 1 → NoNum 0 f) ∧ (¬ (0 + (j : Int)) / 4 = 1 → f = .int t) := by
      by_cases c : (0 + (j : Int)) / 4 = 1
      · exact ⟨b2, if_pos c, f2, h2, fun _ => w2, fun y => absurd c y⟩
      · exact ⟨.int t, if_neg c, .int t, .int _, fun y => absurd y c, fun _ => rfl⟩
    have hsm : (upd (upd (upd (upd G p1 (.lst [.str z, b0])) p2 (.lst [.int (n : Nat), b1])) p3 (.lst [.int t, b2])) sm (.lst [(if (0 + (j : Int)) % 2 = 1 then b0 else .str z), (if (0 + (j : Int)) / 2 % 2 = 1 then b1 else .int (n : Nat)), (if (0 + (j : Int)) / 4 = 1 then b2 else .int t)])) sm = some (.lst [X, U, W]) := by rw [upd_same, eX, eU, eW]
    generalize upd (upd (upd (upd G p1 (.lst [.str z, b0])) p2 (.lst [.int (n : Nat), b1])) p3 (.lst [.int t, b2])) sm (.lst [(if (0 + (j : Int)) % 2 = 1 then b0 else .str z), (if (0 + (j : Int)) / 2 % 2 = 1 then b1 else .int (n : Nat)), (if (0 + (j : Int)) / 4 = 1 then b2 else .int t)]) = G4 at kG4 hsm ⊢
    clear u1 u2 u3 np1 np2 np3 nsm
    -- due
    refine ⟨line_small (by show 2 ≤ 16777216; decide), fun p5 np5 => ?_⟩
    have s5 := same_new (o := .lst [.str "", .str "number"]) np5
    refine ⟨_, rfl, _, 1, rfl, rfl, .inr ⟨_, rfl, p5, _, _, _, rfl, rfl, SqL.of upd_same, at2_b _ _ _, ?_⟩⟩
    have kG5 := kG4.trans (KeepT.of_same s5)
    have hsm5 := s5 _ _ hsm
    generalize upd G4 p5 (.lst [.str "", .str "number"]) = G5 at kG5 hsm5 ⊢
    clear s5 np5 kG4 hsm
    refine ⟨fun τ C => τ = [some (.ref d), some (.int (i : Nat)), some (.int (m : Nat)), some (.int (n : Nat)), some (.int t), some (.str z), some th, some (.ref lb), some (.str (PyData.shown (.list [.list [f0, f1, f2], fth]))), some (.int (0 + (j : Int))), some (.ref sm), some (.str (if (0 + (j : Int)) % 2 = 1 then "way" else if (1 : Int) < 0 + (j : Int) then "number" else ""))] ∧ C = G5, ?_, fun τ C hM => ?_⟩
    · refine ⟨_, rfl, _, 2, rfl, rfl, (show (0 : Int) < 2 by decide), rfl, _, rfl, ?_⟩
      by_cases c : (0 + (j : Int)) % 2 = 1
      · rw [decide_eq_true (show V.int ((0 + (j : Int)) % 2) = V.int 1 by rw [c])]
        exact iteT ⟨by rw [if_pos c]; rfl, rfl⟩
      · rw [decide_eq_false (show ¬ V.int ((0 + (j : Int)) % 2) = V.int 1 from fun y => c (V.int.inj y))]
        refine iteF ⟨?_, rfl⟩
        rw [if_neg c]
        by_cases c2 : (1 : Int) < 0 + (j : Int)
        · rw [if_pos c2]
          show [_, _, _, _, _, _, _, _, _, _, _, some (if decide ((1 : Int) < 0 + (j : Int)) = true then V.str "number" else V.str "")] = _
          rw [decide_eq_true c2]
          rfl
        · rw [if_neg c2]
          show [_, _, _, _, _, _, _, _, _, _, _, some (if decide ((1 : Int) < 0 + (j : Int)) = true then V.str "number" else V.str "")] = _
          rw [decide_eq_false c2]
          rfl
    obtain ⟨rfl, rfl⟩ := hM
    have ask : Ask27 i fX fU fW (if (0 + (j : Int)) % 2 = 1 then "way" else if (1 : Int) < 0 + (j : Int) then "number" else "") := by
      by_cases c : (0 + (j : Int)) % 2 = 1
      · rw [if_pos c]
        exact .inl ⟨rfl, wX1 c⟩
      · rw [if_neg c]
        have wy : WayD fX := by rw [wX2 c]; exact ⟨z, rfl, hz⟩
        by_cases c2 : (1 : Int) < 0 + (j : Int)
        · rw [if_pos c2]
          refine .inr (.inl ⟨rfl, wy, fun ⟨sz, fr⟩ => ?_⟩)
          by_cases c3 : (0 + (j : Int)) / 2 % 2 = 1
          · rw [← hm5] at sz
            exact sized_no (wU1 c3) sz
          · exact from_no (wW1 (by omega)) fr
        · rw [if_neg c2]
          exact .inr (.inr ⟨rfl, wy, ⟨n, wU2 (by omega), hn1, by rw [← hm5]; omega⟩, t, wW2 (by omega), ht1⟩)
    generalize (if (0 + (j : Int)) % 2 = 1 then ("way" : Str) else if (1 : Int) < 0 + (j : Int) then "number" else "") = due at ask ⊢
    refine ⟨_, rfl, _, rfl, sm, _, _, _, rfl, rfl, SqL.of hsm5, rfl, _, rfl, sm, _, _, _, rfl, rfl, SqL.of hsm5, rfl, _, rfl, sm, _, _, _, rfl, rfl, SqL.of hsm5, rfl, _, rfl, ?_⟩
    refine ⟨i, X, U, W, th, fX, fU, fW, fth, due, rfl, hi, Dq.keepT kG5 _ _ hX, Dq.keepT kG5 _ _ hU, Dq.keepT kG5 _ _ hW, Dq.keepT kG5 _ _ hth, rth.mono (by decide) (by decide), kG5.tab (k09.tbS D0 t1), kG5.tab (k09.tbS D0 t2), kG5.tab (k09.tbS D0 t3), ask, fun G6 k6 => ?_⟩
    have k06 := kG5.trans k6
    refine ⟨_, rfl, rfl, _, rfl, ?_⟩
    rw [decide_eq_true rfl]
    refine iteF ?_
    refine ⟨_, rfl, _, rfl, line_small (by show 2 ≤ 16777216; decide), fun p7 np7 => ?_⟩
    have s7 := same_new (o := .lst [.ref lb, th]) np7
    have k07 := k06.trans (KeepT.of_same s7)
    refine ⟨_, _, 100000, rfl, .lst upd_same (.cons (.lst (k07.lst hlb) (.cons (Dq.keepT k07 _ _ h0) (.cons (Dq.keepT k07 _ _ h1) (.cons (Dq.keepT k07 _ _ h2) .nil)))) (.cons (Dq.keepT k07 _ _ hth) .nil)), rA, by decide, _, rfl, rfl, _, rfl, ?_⟩
    rw [decide_eq_true rfl]
    exact iteF ⟨_, _, _, rfl, k07⟩
end
end Fo
namespace Fo
open PySem PySem.Spec PyProof.Rows L2
def spLaw (K : PySem.W.Frag) (Pf Pn Pp : Addr) : Sp := fun vs H Q _ => ∃ (a : Addr) (ns : List Int), vs = [.ref a] ∧ SqL K H a (ns.map V.int) ∧ ns.length ≤ 63 ∧ GxR.TabG H Pf ∧ GxR.TabG H Pn ∧ GxR.TabG H Pp ∧ ∀ H', Q (.bl true) H'
theorem turns312 (n : Nat) : ∃ m : Nat, (if (12 : Int) < (if (3 : Int) > (n : Int) then 3 else (n : Int)) then 12 else (if (3 : Int) > (n : Int) then 3 else (n : Int))) = (m : Int) ∧ m ≤ 12 := by
  refine ⟨min (max n 3) 12, ?_, by omega⟩
  split <;> split <;> omega
section
variable {P : Program} {w : World} {K : PySem.W.Frag} {mg : Str → Option Value} {base : Heap}
theorem scLaw27 : FnScope ["script", "at", "store", "door"] ["script"] (defScope s_law) := ⟨rfl, rfl, rfl, by decide +kernel, rfl, by decide +kernel, by decide +kernel⟩
set_option maxHeartbeats 4000000 in
theorem ok_law {f f1 f2 f3 Pf Pn Pp : Addr} {fd d1 d2 d3 : FuncData} (T : Fun K "law" "law" s_law f fd) (T__law_store : Df K mg "_law_store" s_law_store ["cell"] f1 d1) (T__law_cell : Df K mg "_law_cell" s_law_cell ["script", "k"] f2 d2) (T__law_right : Df K mg "_law_right" s_law_right ["store", "door"] f3 d3) (G__law_store : FnOk P w K mg base CX0 39 f1 d1 ["cell"] spStore) (G__law_cell : FnOk P w K mg base CX0 39 f2 d2 ["script", "k"] (spCell K)) (G__law_right : FnG P w K mg base 39 f3 d3 ["store", "door"] (spRight27 Pf Pn Pp)) (B : Bi mg) : FnG P w K mg base 40 f fd ["script"] (spLaw K Pf Pn Pp) := by
  refine okG T scLaw27 (fun vs H Q E h => ?_) (fun cdv A outer s H vs Q E gA hr h => ?_)
  · obtain ⟨a, ns, rfl, _⟩ := h
    rfl
  · obtain ⟨a, ns, rfl, hS, hlen, t1, t2, t3, q⟩ := h
    refine ⟨_, 
      (pss_cons (ps_for PassesOwn.never rfl (pi_range1 (by rfl) B.range (pa_cons (pe_callB (call_min2 rfl) (by rfl) B.min (by decide +kernel) (pa_cons (pe_callB (call_max2 rfl) (by rfl) B.max (by decide +kernel) (pa_cons (pe_callB call_len_seq (by rfl) B.len PySem.boot_len (pa_cons (pv 0) pa_nil)) (pa_cons pe_int pa_nil))) (pa_cons pe_int pa_nil))) pa_nil)) (pg_name (i := 1) scLaw27.nd rfl (.inl rfl))
        (pss_cons (ps_set (i := 2) scLaw27.nd rfl (.inr rfl) (pe_call G__law_store hr (by rfl) T__law_store.g T__law_store.F.kp T__law_store.b .nil pass0 (pa_cons (pe_call G__law_cell hr (by rfl) T__law_cell.g T__law_cell.F.kp T__law_cell.b .nil pass0 (pa_cons (pv 0) (pa_cons (pv 1) pa_nil))) pa_nil)))
        (pss_one (ps_if (pt_cmpR (op_neNilL hr.units) (pe_lc (own := [("door", 3)]) (g := (gName 3)) (tt := (tNot (tB (tCall (spRight27 Pf Pn Pp) [] E0 (tCons (tVar 2) (tCons (tVar 3) tNil)))))) (te := (tVar 3)) rfl scLaw27.nd (pi_range1 (by rfl) B.range (pa_cons pe_int pa_nil)) (blkOk_by (N := ["script", "at", "store", "door"]) (sc := defScope s_law) (by decide +kernel)) (fun _ _ _ _ _ => (pg_name (i := 3) scLaw27.nd rfl (.inl rfl))) (fun _ _ _ _ _ => (pts_one (pt_not (pt_val (pe_callG G__law_right gA hr (by rfl) T__law_right.g T__law_right.F.kp T__law_right.b (pa_cons (pv 2) (pa_cons (pv 3) pa_nil))))))) (fun _ _ _ _ _ => (pv 3))) (pe_lst pa_nil) (nomark _))
          (pss_one (ps_ret pe_bl))
          pss_nil))))
      (pss_one (ps_ret pe_bl))), ?_⟩
    refine ⟨_, rfl, a, _, rfl, .inl hS, _, 3, rfl, _, 12, rfl, _, rfl, ?_⟩
    obtain ⟨m, em, hm⟩ := turns312 (ns.map V.int).length
    refine ⟨by rw [em]; omega, by rw [em]; omega, ?_⟩
    rw [em, Int.toNat_natCast]
    refine for_range (n := m) (fun i σ H3 => ∃ (y1 y2 y3 : Option V), σ = [some (.ref a), y1, y2, y3] ∧ KeepT H H3)
      ⟨_, _, _, rfl, KeepT.refl _⟩ (fun i σ H3 hi hP => ?_) (fun σ H3 hP => q _)
    obtain ⟨y1, y2, y3, rfl, k3⟩ := hP
    refine ⟨_, rfl, _, rfl, a, ns, i, by rw [show (0 + (i : Int)) = (i : Int) by omega]; rfl, k3.seq hS, hlen, by omega, fun c => ⟨c, rfl, fun d H4 nd D4 s4 => ?_⟩⟩
    have k4 := k3.trans (KeepT.of_same s4)
    refine ⟨5, rfl, by decide, by decide, fun p np => ?_⟩
    have npd := D4.ne np
    refine lc_range (lo := 0) (n := 5) (fun j G => G p = some (.lst []) ∧ StAt G d ∧ KeepTD d H4 G) ⟨upd_same, D4.new np, (KeepTD.r0 d H4).sm (same_new np)⟩ (fun j G hj hP => ?_) (fun G hP => ?_)
    · obtain ⟨hp, DG, kG⟩ := hP
      refine ⟨rfl, _, rfl, _, rfl, d, j, (by rw [show (0 + (j : Int)) = (j : Int) by omega]; rfl), DG, hj, kG.tbS D4 (k4.tab t1), kG.tbS D4 (k4.tab t2), kG.tbS D4 (k4.tab t3), fun G2 D2 k2 => ⟨true, rfl, iteF ⟨k2.lst hp npd, D2, kG.tr k2⟩⟩⟩
    · obtain ⟨hp, DG, kG⟩ := hP
      refine ⟨Nat.zero_le _, fun e ne => ?_⟩
      have s1 := same_new (o := .lst []) ne
      refine ⟨p, e, [], rfl, rfl, SqL.of (s1 _ _ hp), SqL.of upd_same, _, rfl, iteF ⟨_, _, _, rfl, (KeepTD.ov k4 kG (k3.free nd)).trans (KeepT.of_same s1)⟩⟩
end
end Fo
--LEVEL 40
--GLAW
--TABS is_far is_near is_parting
--CLASSES OrderError NoOrder NoWay NoFit NoPlace NoNumber TooMany NoText NoName NoRow
--RAISED NoWay NoNumber
--KINDS NoOrder NoWay NoFit NoPlace NoNumber TooMany NoText NoName NoRow
--LAWCALL ok_law F_law T__law_store T__law_cell T__law_right (ok_store (k := 38) T__law_store) (ok_cell (k := 38) T__law_cell B) (ok_right27 (k := 38) T__law_right T__law_take T__law_no_way T__law_no_number T__law_word (ok_take (k := 37) T__law_take) (ok_noWay27 (k := 37) T__law_no_way T__law_take (ok_take (k := 36) T__law_take) B) (ok_noNum27 (k := 37) T__law_no_number T__law_take (ok_take (k := 36) T__law_take) B) (ok_word27 (k := 37) (c := cls9 C_NoOrder C_NoWay C_NoFit C_NoPlace C_NoNumber C_TooMany C_NoText C_NoName C_NoRow) T__law_word T_lies_apart T_longest_apart T_first_apart T_is_parting T_first_parting T__law_kind (ok_liesE (k := 37) T_lies_apart (ok_liesD (k := 36) T_lies_apart T_check_apart T_is_order_list T_are_far (ok_apart (k := 33) T_check_apart T_check_way T_check_size T_check_from T_is_whole m_WAYS B) (ok_olD (k := 35) T_is_order_list T_is_order (ok_isOrdD (k := 33) T_is_order T_is_whole B m_MOST_THINGS) B) (ok_areFarD (k := 35) T_are_far T_is_far (ok_isFar (k := 33) T_is_far TB_is_far T_known_far (ok_known (k := 32) T_known_far T_far_by_swap T_far_by_spot T_far_by_shift (ok_swap (k := 31) T_far_by_swap T_seats_in (ok_seats (k := 29) T_seats_in T_places_in B) B) (ok_spot (k := 31) T_far_by_spot B) (ok_shift (k := 31) T_far_by_shift T_seats_in (ok_seats (k := 29) T_seats_in T_places_in B) B)) B) B) B m_MOST_THINGS) (ok_liesX (k := 36) T_lies_apart T_check_apart T_is_order_list T_are_far (ok_apX (k := 35) T_check_apart T_check_way T_check_size T_check_from (ok_wayX (k := 34) T_check_way m_WAYS X_NoWay B) (ok_sizeX (k := 34) T_check_size T_is_whole (ok_wholeD (k := 33) T_is_whole B) X_NoNumber B) (ok_fromX (k := 34) T_check_from T_is_whole (ok_wholeD (k := 33) T_is_whole B) X_NoNumber B)) B m_MOST_THINGS)) (ok_longE (k := 37) T_longest_apart (ok_longest (k := 36) T_longest_apart T_check_apart T_all_orders T_longest_from T_far_ones (ok_apart (k := 33) T_check_apart T_check_way T_check_size T_check_from T_is_whole m_WAYS B) (ok_all_orders (k := 34) T_all_orders T_orders_with B) (ok_lf (k := 12) T_longest_from T_far_ones (fun j => (ok_farOnes (k := j + 11) T_far_ones T_known_far (ok_known (k := j + 10) T_known_far T_far_by_swap T_far_by_spot T_far_by_shift (ok_swap (k := j + 9) T_far_by_swap T_seats_in (ok_seats (k := j + 7) T_seats_in T_places_in B) B) (ok_spot (k := j + 9) T_far_by_spot B) (ok_shift (k := j + 9) T_far_by_shift T_seats_in (ok_seats (k := j + 7) T_seats_in T_places_in B) B)) B)) B 24) (ok_farOnes (k := 35) T_far_ones T_known_far (ok_known (k := 34) T_known_far T_far_by_swap T_far_by_spot T_far_by_shift (ok_swap (k := 33) T_far_by_swap T_seats_in (ok_seats (k := 31) T_seats_in T_places_in B) B) (ok_spot (k := 33) T_far_by_spot B) (ok_shift (k := 33) T_far_by_shift T_seats_in (ok_seats (k := 31) T_seats_in T_places_in B) B)) B) B m_MOST_SEARCHED) (ok_longX (k := 36) T_longest_apart T_check_apart T_all_orders T_longest_from T_far_ones (ok_apX (k := 35) T_check_apart T_check_way T_check_size T_check_from (ok_wayX (k := 34) T_check_way m_WAYS X_NoWay B) (ok_sizeX (k := 34) T_check_size T_is_whole (ok_wholeD (k := 33) T_is_whole B) X_NoNumber B) (ok_fromX (k := 34) T_check_from T_is_whole (ok_wholeD (k := 33) T_is_whole B) X_NoNumber B)) B m_MOST_SEARCHED)) (ok_firstE (k := 37) T_first_apart (ok_first (k := 36) T_first_apart T_check_apart T_all_orders T_is_far (ok_apart (k := 33) T_check_apart T_check_way T_check_size T_check_from T_is_whole m_WAYS B) (ok_all_orders (k := 34) T_all_orders T_orders_with B) (ok_isFar (k := 34) T_is_far TB_is_far T_known_far (ok_known (k := 33) T_known_far T_far_by_swap T_far_by_spot T_far_by_shift (ok_swap (k := 32) T_far_by_swap T_seats_in (ok_seats (k := 30) T_seats_in T_places_in B) B) (ok_spot (k := 32) T_far_by_spot B) (ok_shift (k := 32) T_far_by_shift T_seats_in (ok_seats (k := 30) T_seats_in T_places_in B) B)) B) B m_MOST_LISTED) (ok_firstX (k := 36) T_first_apart T_check_apart T_all_orders T_is_far (ok_apX (k := 35) T_check_apart T_check_way T_check_size T_check_from (ok_wayX (k := 34) T_check_way m_WAYS X_NoWay B) (ok_sizeX (k := 34) T_check_size T_is_whole (ok_wholeD (k := 33) T_is_whole B) X_NoNumber B) (ok_fromX (k := 34) T_check_from T_is_whole (ok_wholeD (k := 33) T_is_whole B) X_NoNumber B)) B m_MOST_LISTED)) (ok_ispE (k := 37) T_is_parting (ok_partD (k := 35) T_is_parting TB_is_parting T_check_apart T_is_order_list T_all_orders T_are_near (ok_apart (k := 33) T_check_apart T_check_way T_check_size T_check_from T_is_whole m_WAYS B) (ok_olD (k := 35) T_is_order_list T_is_order (ok_isOrdD (k := 33) T_is_order T_is_whole B m_MOST_THINGS) B) (ok_all_orders (k := 34) T_all_orders T_orders_with B) (ok_areNearD (k := 34) T_are_near T_is_near (ok_isNear (k := 32) T_is_near TB_is_near T_known_far (ok_known (k := 31) T_known_far T_far_by_swap T_far_by_spot T_far_by_shift (ok_swap (k := 30) T_far_by_swap T_seats_in (ok_seats (k := 28) T_seats_in T_places_in B) B) (ok_spot (k := 30) T_far_by_spot B) (ok_shift (k := 30) T_far_by_shift T_seats_in (ok_seats (k := 28) T_seats_in T_places_in B) B)) B) B) B m_MOST_PARTED) (ok_ispX (k := 35) T_is_parting TB_is_parting T_check_apart T_is_order_list T_all_orders T_are_near (ok_apX (k := 35) T_check_apart T_check_way T_check_size T_check_from (ok_wayX (k := 34) T_check_way m_WAYS X_NoWay B) (ok_sizeX (k := 34) T_check_size T_is_whole (ok_wholeD (k := 33) T_is_whole B) X_NoNumber B) (ok_fromX (k := 34) T_check_from T_is_whole (ok_wholeD (k := 33) T_is_whole B) X_NoNumber B)) B m_MOST_PARTED)) (ok_ptgE (k := 37) T_first_parting (ok_parting (k := 36) T_first_parting T_check_apart T_all_orders T_first_near (ok_apart (k := 33) T_check_apart T_check_way T_check_size T_check_from T_is_whole m_WAYS B) (ok_all_orders (k := 34) T_all_orders T_orders_with B) (ok_fnear (k := 35) T_first_near T_is_near (ok_isNear (k := 33) T_is_near TB_is_near T_known_far (ok_known (k := 32) T_known_far T_far_by_swap T_far_by_spot T_far_by_shift (ok_swap (k := 31) T_far_by_swap T_seats_in (ok_seats (k := 29) T_seats_in T_places_in B) B) (ok_spot (k := 31) T_far_by_spot B) (ok_shift (k := 31) T_far_by_shift T_seats_in (ok_seats (k := 29) T_seats_in T_places_in B) B)) B) B) B m_MOST_PARTED) (ok_partgX (k := 36) T_first_parting T_check_apart T_all_orders T_first_near (ok_apX (k := 35) T_check_apart T_check_way T_check_size T_check_from (ok_wayX (k := 34) T_check_way m_WAYS X_NoWay B) (ok_sizeX (k := 34) T_check_size T_is_whole (ok_wholeD (k := 33) T_is_whole B) X_NoNumber B) (ok_fromX (k := 34) T_check_from T_is_whole (ok_wholeD (k := 33) T_is_whole B) X_NoNumber B)) B m_MOST_PARTED)) (ok_kind27 (k := 36) (c := cls9 C_NoOrder C_NoWay C_NoFit C_NoPlace C_NoNumber C_TooMany C_NoText C_NoName C_NoRow) T__law_kind g_NoOrder g_NoWay g_NoFit g_NoPlace g_NoNumber g_TooMany g_NoText g_NoName g_NoRow B) kd_NoWay kd_NoNumber g_OrderError xm_NoWay xm_NoNumber) sy B) B
namespace Fo
open PySem PySem.Spec PyProof.Rows L2
set_option maxHeartbeats 8000000 in
theorem all_mk {l : PySem.W.OpenLaw} {w : World} {K : PySem.W.Frag} {h : Heap} {mg : Str → Option Value} {fa : Addr} (X : K.In h) (G : h.Ns mainGlobals mg) (hfa : mg "law" = some (.ref fa))
    {f0 f1 f2 f3 f4 f5 f6 f7 f8 f9 f10 f11 f12 f13 f14 f15 f16 f17 f18 f19 f20 f21 f22 f23 f24 f25 f26 f27 f28 f29 f30 f31 f32 f33 f34 f35 : Addr} {od0 an0 od1 an1 od2 an2 od3 an3 od4 an4 od5 an5 od6 an6 od7 an7 od8 an8 od9 an9 od10 an10 od11 an11 od12 an12 od13 an13 od14 an14 od15 an15 od16 an16 od17 an17 od18 an18 od19 an19 od20 an20 od21 an21 od22 an22 od23 an23 od24 an24 od25 an25 od26 an26 od27 an27 od28 an28 od29 an29 od30 an30 od31 an31 od32 an32 od33 an33 od34 an34 od35 an35 : Option Addr} {sl0 sl1 sl2 sl3 sl4 sl5 sl6 sl7 sl8 sl9 sl10 sl11 sl12 sl13 sl14 sl15 sl16 sl17 sl18 sl19 sl20 sl21 sl22 sl23 sl24 sl25 sl26 sl27 sl28 sl29 sl30 sl31 sl32 sl33 sl34 sl35 : Array (Option Value)} {oc0 kV0 dc0 pm0 cd0 ct0 oc1 kV1 dc1 pm1 cd1 ct1 oc2 kV2 dc2 pm2 cd2 ct2 oc3 kV3 dc3 pm3 cd3 ct3 oc4 kV4 dc4 pm4 cd4 ct4 oc5 kV5 dc5 pm5 cd5 ct5 oc6 kV6 dc6 pm6 cd6 ct6 oc7 kV7 dc7 pm7 cd7 ct7 oc8 kV8 dc8 pm8 cd8 ct8 oc9 kV9 dc9 pm9 cd9 ct9 oc10 kV10 dc10 pm10 cd10 ct10 oc11 kV11 dc11 pm11 cd11 ct11 oc12 kV12 dc12 pm12 cd12 ct12 oc13 kV13 dc13 pm13 cd13 ct13 oc14 kV14 dc14 pm14 cd14 ct14 oc15 kV15 dc15 pm15 cd15 ct15 oc16 kV16 dc16 pm16 cd16 ct16 oc17 kV17 dc17 pm17 cd17 ct17 oc18 kV18 dc18 pm18 cd18 ct18 oc19 kV19 dc19 pm19 cd19 ct19 oc20 kV20 dc20 pm20 cd20 ct20 oc21 kV21 dc21 pm21 cd21 ct21 oc22 kV22 dc22 pm22 cd22 ct22 oc23 kV23 dc23 pm23 cd23 ct23 oc24 kV24 dc24 pm24 cd24 ct24 oc25 kV25 dc25 pm25 cd25 ct25 oc26 kV26 dc26 pm26 cd26 ct26 oc27 kV27 dc27 pm27 cd27 ct27 oc28 kV28 dc28 pm28 cd28 ct28 oc29 kV29 dc29 pm29 cd29 ct29 oc30 kV30 dc30 pm30 cd30 ct30 oc31 kV31 dc31 pm31 cd31 ct31 oc32 kV32 dc32 pm32 cd32 ct32 oc33 kV33 dc33 pm33 cd33 ct33 oc34 kV34 dc34 pm34 cd34 ct34 oc35 kV35 dc35 pm35 cd35 ct35 : Value} {tk_MOST_THINGS tk_MOST_LISTED tk_MOST_SEARCHED tk_MOST_PARTED : Tok} {aW : Addr} {ddW : Option Addr} {nW : Nat} {tW1 tW2 tW3 : Tok} {slW : Array (Option Value)} {C_OrderError C_NoOrder C_NoWay C_NoFit C_NoPlace C_NoNumber C_TooMany C_NoText C_NoName C_NoRow : Addr}
    (a0 : PySem.W.nsIn K mainGlobals "is_whole" = some (some (.ref f0))) (l0 : K.lookup f0 = some ⟨oc0, od0, .func (PySem.W.fnOf "is_whole" "is_whole" (defArgs s_is_whole) (defBody s_is_whole) (defScope s_is_whole) .none kV0 dc0 pm0 an0 cd0 ct0), sl0⟩) (c0 : PySem.W.codeIn K cd0 "is_whole" = true) (k0 : PySem.W.keepIn K (.ref f0) = true)
    (a1 : PySem.W.nsIn K mainGlobals "check_way" = some (some (.ref f1))) (l1 : K.lookup f1 = some ⟨oc1, od1, .func (PySem.W.fnOf "check_way" "check_way" (defArgs s_check_way) (defBody s_check_way) (defScope s_check_way) .none kV1 dc1 pm1 an1 cd1 ct1), sl1⟩) (c1 : PySem.W.codeIn K cd1 "check_way" = true) (k1 : PySem.W.keepIn K (.ref f1) = true)
    (a2 : PySem.W.nsIn K mainGlobals "check_from" = some (some (.ref f2))) (l2 : K.lookup f2 = some ⟨oc2, od2, .func (PySem.W.fnOf "check_from" "check_from" (defArgs s_check_from) (defBody s_check_from) (defScope s_check_from) .none kV2 dc2 pm2 an2 cd2 ct2), sl2⟩) (c2 : PySem.W.codeIn K cd2 "check_from" = true) (k2 : PySem.W.keepIn K (.ref f2) = true)
    (a3 : PySem.W.nsIn K mainGlobals "check_size" = some (some (.ref f3))) (l3 : K.lookup f3 = some ⟨oc3, od3, .func (PySem.W.fnOf "check_size" "check_size" (defArgs s_check_size) (defBody s_check_size) (defScope s_check_size) .none kV3 dc3 pm3 an3 cd3 ct3), sl3⟩) (c3 : PySem.W.codeIn K cd3 "check_size" = true) (k3 : PySem.W.keepIn K (.ref f3) = true)
    (a4 : PySem.W.nsIn K mainGlobals "check_apart" = some (some (.ref f4))) (l4 : K.lookup f4 = some ⟨oc4, od4, .func (PySem.W.fnOf "check_apart" "check_apart" (defArgs s_check_apart) (defBody s_check_apart) (defScope s_check_apart) .none kV4 dc4 pm4 an4 cd4 ct4), sl4⟩) (c4 : PySem.W.codeIn K cd4 "check_apart" = true) (k4 : PySem.W.keepIn K (.ref f4) = true)
    (a5 : PySem.W.nsIn K mainGlobals "is_order" = some (some (.ref f5))) (l5 : K.lookup f5 = some ⟨oc5, od5, .func (PySem.W.fnOf "is_order" "is_order" (defArgs s_is_order) (defBody s_is_order) (defScope s_is_order) .none kV5 dc5 pm5 an5 cd5 ct5), sl5⟩) (c5 : PySem.W.codeIn K cd5 "is_order" = true) (k5 : PySem.W.keepIn K (.ref f5) = true)
    (a6 : PySem.W.nsIn K mainGlobals "is_order_list" = some (some (.ref f6))) (l6 : K.lookup f6 = some ⟨oc6, od6, .func (PySem.W.fnOf "is_order_list" "is_order_list" (defArgs s_is_order_list) (defBody s_is_order_list) (defScope s_is_order_list) .none kV6 dc6 pm6 an6 cd6 ct6), sl6⟩) (c6 : PySem.W.codeIn K cd6 "is_order_list" = true) (k6 : PySem.W.keepIn K (.ref f6) = true)
    (a7 : PySem.W.nsIn K mainGlobals "places_in" = some (some (.ref f7))) (l7 : K.lookup f7 = some ⟨oc7, od7, .func (PySem.W.fnOf "places_in" "places_in" (defArgs s_places_in) (defBody s_places_in) (defScope s_places_in) .none kV7 dc7 pm7 an7 cd7 ct7), sl7⟩) (c7 : PySem.W.codeIn K cd7 "places_in" = true) (k7 : PySem.W.keepIn K (.ref f7) = true)
    (a8 : PySem.W.nsIn K mainGlobals "seats_in" = some (some (.ref f8))) (l8 : K.lookup f8 = some ⟨oc8, od8, .func (PySem.W.fnOf "seats_in" "seats_in" (defArgs s_seats_in) (defBody s_seats_in) (defScope s_seats_in) .none kV8 dc8 pm8 an8 cd8 ct8), sl8⟩) (c8 : PySem.W.codeIn K cd8 "seats_in" = true) (k8 : PySem.W.keepIn K (.ref f8) = true)
    (a9 : PySem.W.nsIn K mainGlobals "known_far" = some (some (.ref f9))) (l9 : K.lookup f9 = some ⟨oc9, od9, .func (PySem.W.fnOf "known_far" "known_far" (defArgs s_known_far) (defBody s_known_far) (defScope s_known_far) .none kV9 dc9 pm9 an9 cd9 ct9), sl9⟩) (c9 : PySem.W.codeIn K cd9 "known_far" = true) (k9 : PySem.W.keepIn K (.ref f9) = true)
    (a10 : PySem.W.nsIn K mainGlobals "far_by_swap" = some (some (.ref f10))) (l10 : K.lookup f10 = some ⟨oc10, od10, .func (PySem.W.fnOf "far_by_swap" "far_by_swap" (defArgs s_far_by_swap) (defBody s_far_by_swap) (defScope s_far_by_swap) .none kV10 dc10 pm10 an10 cd10 ct10), sl10⟩) (c10 : PySem.W.codeIn K cd10 "far_by_swap" = true) (k10 : PySem.W.keepIn K (.ref f10) = true)
    (a11 : PySem.W.nsIn K mainGlobals "far_by_spot" = some (some (.ref f11))) (l11 : K.lookup f11 = some ⟨oc11, od11, .func (PySem.W.fnOf "far_by_spot" "far_by_spot" (defArgs s_far_by_spot) (defBody s_far_by_spot) (defScope s_far_by_spot) .none kV11 dc11 pm11 an11 cd11 ct11), sl11⟩) (c11 : PySem.W.codeIn K cd11 "far_by_spot" = true) (k11 : PySem.W.keepIn K (.ref f11) = true)
    (a12 : PySem.W.nsIn K mainGlobals "far_by_shift" = some (some (.ref f12))) (l12 : K.lookup f12 = some ⟨oc12, od12, .func (PySem.W.fnOf "far_by_shift" "far_by_shift" (defArgs s_far_by_shift) (defBody s_far_by_shift) (defScope s_far_by_shift) .none kV12 dc12 pm12 an12 cd12 ct12), sl12⟩) (c12 : PySem.W.codeIn K cd12 "far_by_shift" = true) (k12 : PySem.W.keepIn K (.ref f12) = true)
    (a13 : PySem.W.nsIn K mainGlobals "all_orders" = some (some (.ref f13))) (l13 : K.lookup f13 = some ⟨oc13, od13, .func (PySem.W.fnOf "all_orders" "all_orders" (defArgs s_all_orders) (defBody s_all_orders) (defScope s_all_orders) .none kV13 dc13 pm13 an13 cd13 ct13), sl13⟩) (c13 : PySem.W.codeIn K cd13 "all_orders" = true) (k13 : PySem.W.keepIn K (.ref f13) = true)
    (a14 : PySem.W.nsIn K mainGlobals "orders_with" = some (some (.ref f14))) (l14 : K.lookup f14 = some ⟨oc14, od14, .func (PySem.W.fnOf "orders_with" "orders_with" (defArgs s_orders_with) (defBody s_orders_with) (defScope s_orders_with) .none kV14 dc14 pm14 an14 cd14 ct14), sl14⟩) (c14 : PySem.W.codeIn K cd14 "orders_with" = true) (k14 : PySem.W.keepIn K (.ref f14) = true)
    (a15 : PySem.W.nsIn K mainGlobals "lies_apart" = some (some (.ref f15))) (l15 : K.lookup f15 = some ⟨oc15, od15, .func (PySem.W.fnOf "lies_apart" "lies_apart" (defArgs s_lies_apart) (defBody s_lies_apart) (defScope s_lies_apart) .none kV15 dc15 pm15 an15 cd15 ct15), sl15⟩) (c15 : PySem.W.codeIn K cd15 "lies_apart" = true) (k15 : PySem.W.keepIn K (.ref f15) = true)
    (a16 : PySem.W.nsIn K mainGlobals "are_far" = some (some (.ref f16))) (l16 : K.lookup f16 = some ⟨oc16, od16, .func (PySem.W.fnOf "are_far" "are_far" (defArgs s_are_far) (defBody s_are_far) (defScope s_are_far) .none kV16 dc16 pm16 an16 cd16 ct16), sl16⟩) (c16 : PySem.W.codeIn K cd16 "are_far" = true) (k16 : PySem.W.keepIn K (.ref f16) = true)
    (a17 : PySem.W.nsIn K mainGlobals "is_far" = some (some (.ref f17))) (l17 : K.lookup f17 = some ⟨oc17, od17, .func (PySem.W.fnOf "is_far" "is_far" (defArgs s_is_far) (defBody s_is_far) (defScope s_is_far) .none kV17 dc17 pm17 an17 cd17 ct17), sl17⟩) (c17 : PySem.W.codeIn K cd17 "is_far" = true) (k17 : PySem.W.keepIn K (.ref f17) = true)
    (a18 : PySem.W.nsIn K mainGlobals "longest_apart" = some (some (.ref f18))) (l18 : K.lookup f18 = some ⟨oc18, od18, .func (PySem.W.fnOf "longest_apart" "longest_apart" (defArgs s_longest_apart) (defBody s_longest_apart) (defScope s_longest_apart) .none kV18 dc18 pm18 an18 cd18 ct18), sl18⟩) (c18 : PySem.W.codeIn K cd18 "longest_apart" = true) (k18 : PySem.W.keepIn K (.ref f18) = true)
    (a19 : PySem.W.nsIn K mainGlobals "longest_from" = some (some (.ref f19))) (l19 : K.lookup f19 = some ⟨oc19, od19, .func (PySem.W.fnOf "longest_from" "longest_from" (defArgs s_longest_from) (defBody s_longest_from) (defScope s_longest_from) .none kV19 dc19 pm19 an19 cd19 ct19), sl19⟩) (c19 : PySem.W.codeIn K cd19 "longest_from" = true) (k19 : PySem.W.keepIn K (.ref f19) = true)
    (a20 : PySem.W.nsIn K mainGlobals "far_ones" = some (some (.ref f20))) (l20 : K.lookup f20 = some ⟨oc20, od20, .func (PySem.W.fnOf "far_ones" "far_ones" (defArgs s_far_ones) (defBody s_far_ones) (defScope s_far_ones) .none kV20 dc20 pm20 an20 cd20 ct20), sl20⟩) (c20 : PySem.W.codeIn K cd20 "far_ones" = true) (k20 : PySem.W.keepIn K (.ref f20) = true)
    (a21 : PySem.W.nsIn K mainGlobals "first_apart" = some (some (.ref f21))) (l21 : K.lookup f21 = some ⟨oc21, od21, .func (PySem.W.fnOf "first_apart" "first_apart" (defArgs s_first_apart) (defBody s_first_apart) (defScope s_first_apart) .none kV21 dc21 pm21 an21 cd21 ct21), sl21⟩) (c21 : PySem.W.codeIn K cd21 "first_apart" = true) (k21 : PySem.W.keepIn K (.ref f21) = true)
    (a22 : PySem.W.nsIn K mainGlobals "is_parting" = some (some (.ref f22))) (l22 : K.lookup f22 = some ⟨oc22, od22, .func (PySem.W.fnOf "is_parting" "is_parting" (defArgs s_is_parting) (defBody s_is_parting) (defScope s_is_parting) .none kV22 dc22 pm22 an22 cd22 ct22), sl22⟩) (c22 : PySem.W.codeIn K cd22 "is_parting" = true) (k22 : PySem.W.keepIn K (.ref f22) = true)
    (a23 : PySem.W.nsIn K mainGlobals "are_near" = some (some (.ref f23))) (l23 : K.lookup f23 = some ⟨oc23, od23, .func (PySem.W.fnOf "are_near" "are_near" (defArgs s_are_near) (defBody s_are_near) (defScope s_are_near) .none kV23 dc23 pm23 an23 cd23 ct23), sl23⟩) (c23 : PySem.W.codeIn K cd23 "are_near" = true) (k23 : PySem.W.keepIn K (.ref f23) = true)
    (a24 : PySem.W.nsIn K mainGlobals "is_near" = some (some (.ref f24))) (l24 : K.lookup f24 = some ⟨oc24, od24, .func (PySem.W.fnOf "is_near" "is_near" (defArgs s_is_near) (defBody s_is_near) (defScope s_is_near) .none kV24 dc24 pm24 an24 cd24 ct24), sl24⟩) (c24 : PySem.W.codeIn K cd24 "is_near" = true) (k24 : PySem.W.keepIn K (.ref f24) = true)
    (a25 : PySem.W.nsIn K mainGlobals "first_parting" = some (some (.ref f25))) (l25 : K.lookup f25 = some ⟨oc25, od25, .func (PySem.W.fnOf "first_parting" "first_parting" (defArgs s_first_parting) (defBody s_first_parting) (defScope s_first_parting) .none kV25 dc25 pm25 an25 cd25 ct25), sl25⟩) (c25 : PySem.W.codeIn K cd25 "first_parting" = true) (k25 : PySem.W.keepIn K (.ref f25) = true)
    (a26 : PySem.W.nsIn K mainGlobals "first_near" = some (some (.ref f26))) (l26 : K.lookup f26 = some ⟨oc26, od26, .func (PySem.W.fnOf "first_near" "first_near" (defArgs s_first_near) (defBody s_first_near) (defScope s_first_near) .none kV26 dc26 pm26 an26 cd26 ct26), sl26⟩) (c26 : PySem.W.codeIn K cd26 "first_near" = true) (k26 : PySem.W.keepIn K (.ref f26) = true)
    (a27 : PySem.W.nsIn K mainGlobals "_law_cell" = some (some (.ref f27))) (l27 : K.lookup f27 = some ⟨oc27, od27, .func (PySem.W.fnOf "_law_cell" "_law_cell" (defArgs s_law_cell) (defBody s_law_cell) (defScope s_law_cell) .none kV27 dc27 pm27 an27 cd27 ct27), sl27⟩) (c27 : PySem.W.codeIn K cd27 "_law_cell" = true) (k27 : PySem.W.keepIn K (.ref f27) = true)
    (a28 : PySem.W.nsIn K mainGlobals "_law_store" = some (some (.ref f28))) (l28 : K.lookup f28 = some ⟨oc28, od28, .func (PySem.W.fnOf "_law_store" "_law_store" (defArgs s_law_store) (defBody s_law_store) (defScope s_law_store) .none kV28 dc28 pm28 an28 cd28 ct28), sl28⟩) (c28 : PySem.W.codeIn K cd28 "_law_store" = true) (k28 : PySem.W.keepIn K (.ref f28) = true)
    (a29 : PySem.W.nsIn K mainGlobals "_law_take" = some (some (.ref f29))) (l29 : K.lookup f29 = some ⟨oc29, od29, .func (PySem.W.fnOf "_law_take" "_law_take" (defArgs s_law_take) (defBody s_law_take) (defScope s_law_take) .none kV29 dc29 pm29 an29 cd29 ct29), sl29⟩) (c29 : PySem.W.codeIn K cd29 "_law_take" = true) (k29 : PySem.W.keepIn K (.ref f29) = true)
    (a30 : PySem.W.nsIn K mainGlobals "_law_kind" = some (some (.ref f30))) (l30 : K.lookup f30 = some ⟨oc30, od30, .func (PySem.W.fnOf "_law_kind" "_law_kind" (defArgs s_law_kind) (defBody s_law_kind) (defScope s_law_kind) .none kV30 dc30 pm30 an30 cd30 ct30), sl30⟩) (c30 : PySem.W.codeIn K cd30 "_law_kind" = true) (k30 : PySem.W.keepIn K (.ref f30) = true)
    (a31 : PySem.W.nsIn K mainGlobals "_law_word" = some (some (.ref f31))) (l31 : K.lookup f31 = some ⟨oc31, od31, .func (PySem.W.fnOf "_law_word" "_law_word" (defArgs s_law_word) (defBody s_law_word) (defScope s_law_word) .none kV31 dc31 pm31 an31 cd31 ct31), sl31⟩) (c31 : PySem.W.codeIn K cd31 "_law_word" = true) (k31 : PySem.W.keepIn K (.ref f31) = true)
    (a32 : PySem.W.nsIn K mainGlobals "_law_no_way" = some (some (.ref f32))) (l32 : K.lookup f32 = some ⟨oc32, od32, .func (PySem.W.fnOf "_law_no_way" "_law_no_way" (defArgs s_law_no_way) (defBody s_law_no_way) (defScope s_law_no_way) .none kV32 dc32 pm32 an32 cd32 ct32), sl32⟩) (c32 : PySem.W.codeIn K cd32 "_law_no_way" = true) (k32 : PySem.W.keepIn K (.ref f32) = true)
    (a33 : PySem.W.nsIn K mainGlobals "_law_no_number" = some (some (.ref f33))) (l33 : K.lookup f33 = some ⟨oc33, od33, .func (PySem.W.fnOf "_law_no_number" "_law_no_number" (defArgs s_law_no_number) (defBody s_law_no_number) (defScope s_law_no_number) .none kV33 dc33 pm33 an33 cd33 ct33), sl33⟩) (c33 : PySem.W.codeIn K cd33 "_law_no_number" = true) (k33 : PySem.W.keepIn K (.ref f33) = true)
    (a34 : PySem.W.nsIn K mainGlobals "_law_right" = some (some (.ref f34))) (l34 : K.lookup f34 = some ⟨oc34, od34, .func (PySem.W.fnOf "_law_right" "_law_right" (defArgs s_law_right) (defBody s_law_right) (defScope s_law_right) .none kV34 dc34 pm34 an34 cd34 ct34), sl34⟩) (c34 : PySem.W.codeIn K cd34 "_law_right" = true) (k34 : PySem.W.keepIn K (.ref f34) = true)
    (a35 : PySem.W.nsIn K mainGlobals "law" = some (some (.ref f35))) (l35 : K.lookup f35 = some ⟨oc35, od35, .func (PySem.W.fnOf "law" "law" (defArgs s_law) (defBody s_law) (defScope s_law) .none kV35 dc35 pm35 an35 cd35 ct35), sl35⟩) (c35 : PySem.W.codeIn K cd35 "law" = true) (k35 : PySem.W.keepIn K (.ref f35) = true)
    (g_MOST_THINGS : PySem.W.nsIn K mainGlobals "MOST_THINGS" = some (some (.int 12 tk_MOST_THINGS)))
    (g_MOST_LISTED : PySem.W.nsIn K mainGlobals "MOST_LISTED" = some (some (.int 6 tk_MOST_LISTED)))
    (g_MOST_SEARCHED : PySem.W.nsIn K mainGlobals "MOST_SEARCHED" = some (some (.int 4 tk_MOST_SEARCHED)))
    (g_MOST_PARTED : PySem.W.nsIn K mainGlobals "MOST_PARTED" = some (some (.int 5 tk_MOST_PARTED)))
    (g_WAYS : PySem.W.nsIn K mainGlobals "WAYS" = some (some (.ref aW))) (l_WAYS : K.lookup aW = some ⟨.type "tuple", ddW, .seq #[.str "swap" tW1, .str "spot" tW2, .str "shift" tW3] nW, slW⟩)
    (gc_OrderError : PySem.W.nsIn K mainGlobals "OrderError" = some (some (.ref C_OrderError)))
    (gc_NoOrder : PySem.W.nsIn K mainGlobals "NoOrder" = some (some (.ref C_NoOrder)))
    (gc_NoWay : PySem.W.nsIn K mainGlobals "NoWay" = some (some (.ref C_NoWay)))
    (gc_NoFit : PySem.W.nsIn K mainGlobals "NoFit" = some (some (.ref C_NoFit)))
    (gc_NoPlace : PySem.W.nsIn K mainGlobals "NoPlace" = some (some (.ref C_NoPlace)))
    (gc_NoNumber : PySem.W.nsIn K mainGlobals "NoNumber" = some (some (.ref C_NoNumber)))
    (gc_TooMany : PySem.W.nsIn K mainGlobals "TooMany" = some (some (.ref C_TooMany)))
    (gc_NoText : PySem.W.nsIn K mainGlobals "NoText" = some (some (.ref C_NoText)))
    (gc_NoName : PySem.W.nsIn K mainGlobals "NoName" = some (some (.ref C_NoName)))
    (gc_NoRow : PySem.W.nsIn K mainGlobals "NoRow" = some (some (.ref C_NoRow)))
    (xq_NoWay : PySem.W.excIn K C_NoWay [.type "ValueError", .type "Exception", .type "BaseException", .type "object"] "ValueError.__new__" = true) (xk_NoWay : PySem.W.keepIn K (.ref C_NoWay) = true) (xt_NoWay : PySem.W.typeIn K (.ref C_NoWay) = some (.type "type")) (xm_NoWay : PySem.W.exmOne K (.ref C_NoWay) (.ref C_OrderError) = some true) (xv_NoWay : PySem.W.kitOne K (.ref C_NoWay) (.type "ValueError") = some true)
    (xehg_NoWay : PySem.W.findIn K (.ref C_NoWay) "__getattribute__" = some (some (.builtin "BaseException.__getattribute__")))
    (xehk_NoWay : PySem.W.findIn K (.ref C_NoWay) "__getattr__" = some none)
    (xehs_NoWay : PySem.W.subIn K (.ref C_NoWay) (.type "BaseException") = some true)
    (xehd_NoWay : PySem.W.hasDictIn K C_NoWay = true)
    (xeha_NoWay : PySem.W.findIn K (.ref C_NoWay) "__class__" = some (some (.builtin "object.__class__")))
    (xehn_NoWay : PySem.W.specialIn K (.builtin "object.__class__") "__get__" = some (some (.builtin "getset_descriptor.__get__")))
    (xeht_NoWay : PySem.W.takesIn K (.builtin "object.__class__") = some true)
    (xehm_NoWay : PySem.W.mroIn K C_NoWay (.type "object") = some true)
    (xy_NoWay_NoOrder : PySem.W.kitOne K (.ref C_NoWay) (.ref C_NoOrder) = some false)
    (xy_NoWay_NoWay : PySem.W.kitOne K (.ref C_NoWay) (.ref C_NoWay) = some true)
    (xy_NoWay_NoFit : PySem.W.kitOne K (.ref C_NoWay) (.ref C_NoFit) = some false)
    (xy_NoWay_NoPlace : PySem.W.kitOne K (.ref C_NoWay) (.ref C_NoPlace) = some false)
    (xy_NoWay_NoNumber : PySem.W.kitOne K (.ref C_NoWay) (.ref C_NoNumber) = some false)
    (xy_NoWay_TooMany : PySem.W.kitOne K (.ref C_NoWay) (.ref C_TooMany) = some false)
    (xy_NoWay_NoText : PySem.W.kitOne K (.ref C_NoWay) (.ref C_NoText) = some false)
    (xy_NoWay_NoName : PySem.W.kitOne K (.ref C_NoWay) (.ref C_NoName) = some false)
    (xy_NoWay_NoRow : PySem.W.kitOne K (.ref C_NoWay) (.ref C_NoRow) = some false)
    (xq_NoNumber : PySem.W.excIn K C_NoNumber [.type "ValueError", .type "Exception", .type "BaseException", .type "object"] "ValueError.__new__" = true) (xk_NoNumber : PySem.W.keepIn K (.ref C_NoNumber) = true) (xt_NoNumber : PySem.W.typeIn K (.ref C_NoNumber) = some (.type "type")) (xm_NoNumber : PySem.W.exmOne K (.ref C_NoNumber) (.ref C_OrderError) = some true) (xv_NoNumber : PySem.W.kitOne K (.ref C_NoNumber) (.type "ValueError") = some true)
    (xehg_NoNumber : PySem.W.findIn K (.ref C_NoNumber) "__getattribute__" = some (some (.builtin "BaseException.__getattribute__")))
    (xehk_NoNumber : PySem.W.findIn K (.ref C_NoNumber) "__getattr__" = some none)
    (xehs_NoNumber : PySem.W.subIn K (.ref C_NoNumber) (.type "BaseException") = some true)
    (xehd_NoNumber : PySem.W.hasDictIn K C_NoNumber = true)
    (xeha_NoNumber : PySem.W.findIn K (.ref C_NoNumber) "__class__" = some (some (.builtin "object.__class__")))
    (xehn_NoNumber : PySem.W.specialIn K (.builtin "object.__class__") "__get__" = some (some (.builtin "getset_descriptor.__get__")))
    (xeht_NoNumber : PySem.W.takesIn K (.builtin "object.__class__") = some true)
    (xehm_NoNumber : PySem.W.mroIn K C_NoNumber (.type "object") = some true)
    (xy_NoNumber_NoOrder : PySem.W.kitOne K (.ref C_NoNumber) (.ref C_NoOrder) = some false)
    (xy_NoNumber_NoWay : PySem.W.kitOne K (.ref C_NoNumber) (.ref C_NoWay) = some false)
    (xy_NoNumber_NoFit : PySem.W.kitOne K (.ref C_NoNumber) (.ref C_NoFit) = some false)
    (xy_NoNumber_NoPlace : PySem.W.kitOne K (.ref C_NoNumber) (.ref C_NoPlace) = some false)
    (xy_NoNumber_NoNumber : PySem.W.kitOne K (.ref C_NoNumber) (.ref C_NoNumber) = some true)
    (xy_NoNumber_TooMany : PySem.W.kitOne K (.ref C_NoNumber) (.ref C_TooMany) = some false)
    (xy_NoNumber_NoText : PySem.W.kitOne K (.ref C_NoNumber) (.ref C_NoText) = some false)
    (xy_NoNumber_NoName : PySem.W.kitOne K (.ref C_NoNumber) (.ref C_NoName) = some false)
    (xy_NoNumber_NoRow : PySem.W.kitOne K (.ref C_NoNumber) (.ref C_NoRow) = some false)
    (z_ValueError : PySem.W.nsIn K mainGlobals "ValueError" = some none)
    (z_abs : PySem.W.nsIn K mainGlobals "abs" = some none)
    (z_all : PySem.W.nsIn K mainGlobals "all" = some none)
    (z_bool : PySem.W.nsIn K mainGlobals "bool" = some none)
    (z_enumerate : PySem.W.nsIn K mainGlobals "enumerate" = some none)
    (z_int : PySem.W.nsIn K mainGlobals "int" = some none)
    (z_isinstance : PySem.W.nsIn K mainGlobals "isinstance" = some none)
    (z_len : PySem.W.nsIn K mainGlobals "len" = some none)
    (z_list : PySem.W.nsIn K mainGlobals "list" = some none)
    (z_max : PySem.W.nsIn K mainGlobals "max" = some none)
    (z_min : PySem.W.nsIn K mainGlobals "min" = some none)
    (z_range : PySem.W.nsIn K mainGlobals "range" = some none)
    (z_repr : PySem.W.nsIn K mainGlobals "repr" = some none)
    (z_sorted : PySem.W.nsIn K mainGlobals "sorted" = some none)
    (z_str : PySem.W.nsIn K mainGlobals "str" = some none)
    {tc_is_far tp_is_far tc_is_near tp_is_near tc_is_parting tp_is_parting : Addr} {to_is_far to_is_near to_is_parting : Value} {td_is_far td_is_near td_is_parting : Option Addr} {tv_is_far tv_is_near tv_is_parting : Array Value} {ts_is_far ts_is_near ts_is_parting : Array (Option Value)}
    (e_is_far : cd17 = .ref tc_is_far) (u_is_far : K.lookup tc_is_far = some ⟨to_is_far, td_is_far, .fields tv_is_far, ts_is_far⟩) (v_is_far : tv_is_far[11]? = some (.ref tp_is_far)) (n_is_far : K.lookup tp_is_far = none)
    (e_is_near : cd24 = .ref tc_is_near) (u_is_near : K.lookup tc_is_near = some ⟨to_is_near, td_is_near, .fields tv_is_near, ts_is_near⟩) (v_is_near : tv_is_near[11]? = some (.ref tp_is_near)) (n_is_near : K.lookup tp_is_near = none)
    (e_is_parting : cd22 = .ref tc_is_parting) (u_is_parting : K.lookup tc_is_parting = some ⟨to_is_parting, td_is_parting, .fields tv_is_parting, ts_is_parting⟩) (v_is_parting : tv_is_parting[11]? = some (.ref tp_is_parting)) (n_is_parting : K.lookup tp_is_parting = none)
    (tabs : ∀ y ∈ ["is_far", "is_near", "is_parting"], ∀ c P, PySem.W.tabIn K y = some (c, P) → PySem.W.CodeHd h c P ∧ h.get? P = some { cls := .none, data := .fields #[] })
    : LawGS l w K 40 63 "script" mg fa h := by
  have e := hfa.symm.trans (PySem.W.mg_of X G a35)
  cases e
  have t_is_far := tab_mk a17 l17 e_is_far u_is_far v_is_far
  have t_is_near := tab_mk a24 l24 e_is_near u_is_near v_is_near
  have t_is_parting := tab_mk a22 l22 e_is_parting u_is_parting v_is_parting
  have F0 := fun_mk (st := s_is_whole) l0 c0 k0
  have F1 := fun_mk (st := s_check_way) l1 c1 k1
  have F2 := fun_mk (st := s_check_from) l2 c2 k2
  have F3 := fun_mk (st := s_check_size) l3 c3 k3
  have F4 := fun_mk (st := s_check_apart) l4 c4 k4
  have F5 := fun_mk (st := s_is_order) l5 c5 k5
  have F6 := fun_mk (st := s_is_order_list) l6 c6 k6
  have F7 := fun_mk (st := s_places_in) l7 c7 k7
  have F8 := fun_mk (st := s_seats_in) l8 c8 k8
  have F9 := fun_mk (st := s_known_far) l9 c9 k9
  have F10 := fun_mk (st := s_far_by_swap) l10 c10 k10
  have F11 := fun_mk (st := s_far_by_spot) l11 c11 k11
  have F12 := fun_mk (st := s_far_by_shift) l12 c12 k12
  have F13 := fun_mk (st := s_all_orders) l13 c13 k13
  have F14 := fun_mk (st := s_orders_with) l14 c14 k14
  have F15 := fun_mk (st := s_lies_apart) l15 c15 k15
  have F16 := fun_mk (st := s_are_far) l16 c16 k16
  have F17 := fun_mk (st := s_is_far) l17 c17 k17
  have F18 := fun_mk (st := s_longest_apart) l18 c18 k18
  have F19 := fun_mk (st := s_longest_from) l19 c19 k19
  have F20 := fun_mk (st := s_far_ones) l20 c20 k20
  have F21 := fun_mk (st := s_first_apart) l21 c21 k21
  have F22 := fun_mk (st := s_is_parting) l22 c22 k22
  have F23 := fun_mk (st := s_are_near) l23 c23 k23
  have F24 := fun_mk (st := s_is_near) l24 c24 k24
  have F25 := fun_mk (st := s_first_parting) l25 c25 k25
  have F26 := fun_mk (st := s_first_near) l26 c26 k26
  have F27 := fun_mk (st := s_law_cell) l27 c27 k27
  have F28 := fun_mk (st := s_law_store) l28 c28 k28
  have F29 := fun_mk (st := s_law_take) l29 c29 k29
  have F30 := fun_mk (st := s_law_kind) l30 c30 k30
  have F31 := fun_mk (st := s_law_word) l31 c31 k31
  have F32 := fun_mk (st := s_law_no_way) l32 c32 k32
  have F33 := fun_mk (st := s_law_no_number) l33 c33 k33
  have F34 := fun_mk (st := s_law_right) l34 c34 k34
  have F35 := fun_mk (st := s_law) l35 c35 k35
  have T_is_whole : Df K mg "is_whole" s_is_whole ["thing"] f0 _ := ⟨F0, F0.binds (ps := ["thing"]) (fun _ _ _ _ _ _ us hl => match us, hl with | [_], _ => rfl), PySem.W.mg_of X G a0⟩
  have T_check_way : Df K mg "check_way" s_check_way ["thing"] f1 _ := ⟨F1, F1.binds (ps := ["thing"]) (fun _ _ _ _ _ _ us hl => match us, hl with | [_], _ => rfl), PySem.W.mg_of X G a1⟩
  have T_check_from : Df K mg "check_from" s_check_from ["thing", "least"] f2 _ := ⟨F2, F2.binds (ps := ["thing", "least"]) (fun _ _ _ _ _ _ us hl => match us, hl with | [_, _], _ => rfl), PySem.W.mg_of X G a2⟩
  have T_check_size : Df K mg "check_size" s_check_size ["thing", "most"] f3 _ := ⟨F3, F3.binds (ps := ["thing", "most"]) (fun _ _ _ _ _ _ us hl => match us, hl with | [_, _], _ => rfl), PySem.W.mg_of X G a3⟩
  have T_check_apart : Df K mg "check_apart" s_check_apart ["way", "n", "most", "d"] f4 _ := ⟨F4, F4.binds (ps := ["way", "n", "most", "d"]) (fun _ _ _ _ _ _ us hl => match us, hl with | [_, _, _, _], _ => rfl), PySem.W.mg_of X G a4⟩
  have T_is_order : Df K mg "is_order" s_is_order ["thing"] f5 _ := ⟨F5, F5.binds (ps := ["thing"]) (fun _ _ _ _ _ _ us hl => match us, hl with | [_], _ => rfl), PySem.W.mg_of X G a5⟩
  have T_is_order_list : Df K mg "is_order_list" s_is_order_list ["thing"] f6 _ := ⟨F6, F6.binds (ps := ["thing"]) (fun _ _ _ _ _ _ us hl => match us, hl with | [_], _ => rfl), PySem.W.mg_of X G a6⟩
  have T_places_in : Df K mg "places_in" s_places_in ["order"] f7 _ := ⟨F7, F7.binds (ps := ["order"]) (fun _ _ _ _ _ _ us hl => match us, hl with | [_], _ => rfl), PySem.W.mg_of X G a7⟩
  have T_seats_in : Df K mg "seats_in" s_seats_in ["one", "other"] f8 _ := ⟨F8, F8.binds (ps := ["one", "other"]) (fun _ _ _ _ _ _ us hl => match us, hl with | [_, _], _ => rfl), PySem.W.mg_of X G a8⟩
  have T_known_far : Df K mg "known_far" s_known_far ["way", "one", "other"] f9 _ := ⟨F9, F9.binds (ps := ["way", "one", "other"]) (fun _ _ _ _ _ _ us hl => match us, hl with | [_, _, _], _ => rfl), PySem.W.mg_of X G a9⟩
  have T_far_by_swap : Df K mg "far_by_swap" s_far_by_swap ["one", "other"] f10 _ := ⟨F10, F10.binds (ps := ["one", "other"]) (fun _ _ _ _ _ _ us hl => match us, hl with | [_, _], _ => rfl), PySem.W.mg_of X G a10⟩
  have T_far_by_spot : Df K mg "far_by_spot" s_far_by_spot ["one", "other"] f11 _ := ⟨F11, F11.binds (ps := ["one", "other"]) (fun _ _ _ _ _ _ us hl => match us, hl with | [_, _], _ => rfl), PySem.W.mg_of X G a11⟩
  have T_far_by_shift : Df K mg "far_by_shift" s_far_by_shift ["one", "other"] f12 _ := ⟨F12, F12.binds (ps := ["one", "other"]) (fun _ _ _ _ _ _ us hl => match us, hl with | [_, _], _ => rfl), PySem.W.mg_of X G a12⟩
  have T_all_orders : Df K mg "all_orders" s_all_orders ["n"] f13 _ := ⟨F13, F13.binds (ps := ["n"]) (fun _ _ _ _ _ _ us hl => match us, hl with | [_], _ => rfl), PySem.W.mg_of X G a13⟩
  have T_orders_with : Df K mg "orders_with" s_orders_with ["choices"] f14 _ := ⟨F14, F14.binds (ps := ["choices"]) (fun _ _ _ _ _ _ us hl => match us, hl with | [_], _ => rfl), PySem.W.mg_of X G a14⟩
  have T_lies_apart : Df K mg "lies_apart" s_lies_apart ["way", "n", "d", "thing"] f15 _ := ⟨F15, F15.binds (ps := ["way", "n", "d", "thing"]) (fun _ _ _ _ _ _ us hl => match us, hl with | [_, _, _, _], _ => rfl), PySem.W.mg_of X G a15⟩
  have T_are_far : Df K mg "are_far" s_are_far ["way", "d", "orders"] f16 _ := ⟨F16, F16.binds (ps := ["way", "d", "orders"]) (fun _ _ _ _ _ _ us hl => match us, hl with | [_, _, _], _ => rfl), PySem.W.mg_of X G a16⟩
  have T_is_far : DfC K mg "is_far" s_is_far ["way", "d", "order", "others"] f17 _ tc_is_far := ⟨F17, F17.binds (ps := ["way", "d", "order", "others"]) (fun _ _ _ _ _ _ us hl => match us, hl with | [_, _, _, _], _ => rfl), PySem.W.mg_of X G a17, tab_code t_is_far a17 l17⟩
  have T_longest_apart : Df K mg "longest_apart" s_longest_apart ["way", "n", "d"] f18 _ := ⟨F18, F18.binds (ps := ["way", "n", "d"]) (fun _ _ _ _ _ _ us hl => match us, hl with | [_, _, _], _ => rfl), PySem.W.mg_of X G a18⟩
  have T_longest_from : Df K mg "longest_from" s_longest_from ["way", "d", "taken", "rest", "best"] f19 _ := ⟨F19, F19.binds (ps := ["way", "d", "taken", "rest", "best"]) (fun _ _ _ _ _ _ us hl => match us, hl with | [_, _, _, _, _], _ => rfl), PySem.W.mg_of X G a19⟩
  have T_far_ones : Df K mg "far_ones" s_far_ones ["way", "d", "order", "others"] f20 _ := ⟨F20, F20.binds (ps := ["way", "d", "order", "others"]) (fun _ _ _ _ _ _ us hl => match us, hl with | [_, _, _, _], _ => rfl), PySem.W.mg_of X G a20⟩
  have T_first_apart : Df K mg "first_apart" s_first_apart ["way", "n", "d"] f21 _ := ⟨F21, F21.binds (ps := ["way", "n", "d"]) (fun _ _ _ _ _ _ us hl => match us, hl with | [_, _, _], _ => rfl), PySem.W.mg_of X G a21⟩
  have T_is_parting : DfC K mg "is_parting" s_is_parting ["way", "n", "d", "thing"] f22 _ tc_is_parting := ⟨F22, F22.binds (ps := ["way", "n", "d", "thing"]) (fun _ _ _ _ _ _ us hl => match us, hl with | [_, _, _, _], _ => rfl), PySem.W.mg_of X G a22, tab_code t_is_parting a22 l22⟩
  have T_are_near : Df K mg "are_near" s_are_near ["way", "d", "orders"] f23 _ := ⟨F23, F23.binds (ps := ["way", "d", "orders"]) (fun _ _ _ _ _ _ us hl => match us, hl with | [_, _, _], _ => rfl), PySem.W.mg_of X G a23⟩
  have T_is_near : DfC K mg "is_near" s_is_near ["way", "d", "order", "others"] f24 _ tc_is_near := ⟨F24, F24.binds (ps := ["way", "d", "order", "others"]) (fun _ _ _ _ _ _ us hl => match us, hl with | [_, _, _, _], _ => rfl), PySem.W.mg_of X G a24, tab_code t_is_near a24 l24⟩
  have T_first_parting : Df K mg "first_parting" s_first_parting ["way", "n", "d"] f25 _ := ⟨F25, F25.binds (ps := ["way", "n", "d"]) (fun _ _ _ _ _ _ us hl => match us, hl with | [_, _, _], _ => rfl), PySem.W.mg_of X G a25⟩
  have T_first_near : Df K mg "first_near" s_first_near ["way", "d", "order", "parts"] f26 _ := ⟨F26, F26.binds (ps := ["way", "d", "order", "parts"]) (fun _ _ _ _ _ _ us hl => match us, hl with | [_, _, _, _], _ => rfl), PySem.W.mg_of X G a26⟩
  have T__law_cell : Df K mg "_law_cell" s_law_cell ["script", "k"] f27 _ := ⟨F27, F27.binds (ps := ["script", "k"]) (fun _ _ _ _ _ _ us hl => match us, hl with | [_, _], _ => rfl), PySem.W.mg_of X G a27⟩
  have T__law_store : Df K mg "_law_store" s_law_store ["cell"] f28 _ := ⟨F28, F28.binds (ps := ["cell"]) (fun _ _ _ _ _ _ us hl => match us, hl with | [_], _ => rfl), PySem.W.mg_of X G a28⟩
  have T__law_take : Df K mg "_law_take" s_law_take ["store", "many"] f29 _ := ⟨F29, F29.binds (ps := ["store", "many"]) (fun _ _ _ _ _ _ us hl => match us, hl with | [_, _], _ => rfl), PySem.W.mg_of X G a29⟩
  have T__law_kind : Df K mg "_law_kind" s_law_kind ["e"] f30 _ := ⟨F30, F30.binds (ps := ["e"]) (fun _ _ _ _ _ _ us hl => match us, hl with | [_], _ => rfl), PySem.W.mg_of X G a30⟩
  have T__law_word : Df K mg "_law_word" s_law_word ["door", "way", "n", "d", "thing"] f31 _ := ⟨F31, F31.binds (ps := ["door", "way", "n", "d", "thing"]) (fun _ _ _ _ _ _ us hl => match us, hl with | [_, _, _, _, _], _ => rfl), PySem.W.mg_of X G a31⟩
  have T__law_no_way : Df K mg "_law_no_way" s_law_no_way ["store"] f32 _ := ⟨F32, F32.binds (ps := ["store"]) (fun _ _ _ _ _ _ us hl => match us, hl with | [_], _ => rfl), PySem.W.mg_of X G a32⟩
  have T__law_no_number : Df K mg "_law_no_number" s_law_no_number ["store", "most"] f33 _ := ⟨F33, F33.binds (ps := ["store", "most"]) (fun _ _ _ _ _ _ us hl => match us, hl with | [_, _], _ => rfl), PySem.W.mg_of X G a33⟩
  have T__law_right : Df K mg "_law_right" s_law_right ["store", "door"] f34 _ := ⟨F34, F34.binds (ps := ["store", "door"]) (fun _ _ _ _ _ _ us hl => match us, hl with | [_, _], _ => rfl), PySem.W.mg_of X G a34⟩
  have B : Bi mg := ⟨PySem.W.mg_none_of X G z_ValueError, PySem.W.mg_none_of X G z_abs, PySem.W.mg_none_of X G z_all, PySem.W.mg_none_of X G z_bool, PySem.W.mg_none_of X G z_enumerate, PySem.W.mg_none_of X G z_int, PySem.W.mg_none_of X G z_isinstance, PySem.W.mg_none_of X G z_len, PySem.W.mg_none_of X G z_list, PySem.W.mg_none_of X G z_max, PySem.W.mg_none_of X G z_min, PySem.W.mg_none_of X G z_range, PySem.W.mg_none_of X G z_repr, PySem.W.mg_none_of X G z_sorted, PySem.W.mg_none_of X G z_str⟩
  have m_WAYS := wy_mk (PySem.W.mg_of X G g_WAYS) l_WAYS
  have m_MOST_THINGS := PySem.W.mg_of X G g_MOST_THINGS
  have m_MOST_LISTED := PySem.W.mg_of X G g_MOST_LISTED
  have m_MOST_SEARCHED := PySem.W.mg_of X G g_MOST_SEARCHED
  have m_MOST_PARTED := PySem.W.mg_of X G g_MOST_PARTED
  have g_OrderError := PySem.W.mg_of X G gc_OrderError
  have g_NoOrder := PySem.W.mg_of X G gc_NoOrder
  have g_NoWay := PySem.W.mg_of X G gc_NoWay
  have g_NoFit := PySem.W.mg_of X G gc_NoFit
  have g_NoPlace := PySem.W.mg_of X G gc_NoPlace
  have g_NoNumber := PySem.W.mg_of X G gc_NoNumber
  have g_TooMany := PySem.W.mg_of X G gc_TooMany
  have g_NoText := PySem.W.mg_of X G gc_NoText
  have g_NoName := PySem.W.mg_of X G gc_NoName
  have g_NoRow := PySem.W.mg_of X G gc_NoRow
  have ec_NoWay : ExcC K C_NoWay := ⟨xehg_NoWay, xehk_NoWay, xehs_NoWay, xehd_NoWay, xeha_NoWay, xehn_NoWay, xeht_NoWay, xehm_NoWay⟩
  have X_NoWay : ExK K mg "NoWay" C_NoWay := ⟨g_NoWay, xq_NoWay, xk_NoWay, xehs_NoWay, xt_NoWay, ec_NoWay⟩
  have kd_NoWay := kd_mk9 (i := 1) ec_NoWay xy_NoWay_NoOrder xy_NoWay_NoWay xy_NoWay_NoFit xy_NoWay_NoPlace xy_NoWay_NoNumber xy_NoWay_TooMany xy_NoWay_NoText xy_NoWay_NoName xy_NoWay_NoRow xv_NoWay (by decide)
  have ec_NoNumber : ExcC K C_NoNumber := ⟨xehg_NoNumber, xehk_NoNumber, xehs_NoNumber, xehd_NoNumber, xeha_NoNumber, xehn_NoNumber, xeht_NoNumber, xehm_NoNumber⟩
  have X_NoNumber : ExK K mg "NoNumber" C_NoNumber := ⟨g_NoNumber, xq_NoNumber, xk_NoNumber, xehs_NoNumber, xt_NoNumber, ec_NoNumber⟩
  have kd_NoNumber := kd_mk9 (i := 4) ec_NoNumber xy_NoNumber_NoOrder xy_NoNumber_NoWay xy_NoNumber_NoFit xy_NoNumber_NoPlace xy_NoNumber_NoNumber xy_NoNumber_TooMany xy_NoNumber_NoText xy_NoNumber_NoName xy_NoNumber_NoRow xv_NoNumber (by decide)
  refine ⟨PySem.W.fnOf "law" "law" (defArgs s_law) (defBody s_law) (defScope s_law) .none kV35 dc35 pm35 an35 cd35 ct35, [(tc_is_far, tp_is_far), (tc_is_near, tp_is_near), (tc_is_parting, tp_is_parting)], spLaw K tp_is_far tp_is_near tp_is_parting, ⟨?_, ?_, ?_⟩, fun s v => .of_eq rfl, fun H a ns hl hT hS => ⟨a, ns, rfl, hS, hl, ⟨#[], hT (tc_is_far, tp_is_far) (by simp), trivial⟩, ⟨#[], hT (tc_is_near, tp_is_near) (by simp), trivial⟩, ⟨#[], hT (tc_is_parting, tp_is_parting) (by simp), trivial⟩, fun _ => rfl⟩, fun base _ _ sy TBs => ?_⟩
  · rintro p hp
    simp only [List.mem_cons, List.not_mem_nil, or_false] at hp
    rcases hp with rfl | rfl | rfl
    · exact (tabs "is_far" (by simp) _ _ t_is_far).2
    · exact (tabs "is_near" (by simp) _ _ t_is_near).2
    · exact (tabs "is_parting" (by simp) _ _ t_is_parting).2
  · rintro p hp
    simp only [List.mem_cons, List.not_mem_nil, or_false] at hp
    rcases hp with rfl | rfl | rfl
    · exact n_is_far
    · exact n_is_near
    · exact n_is_parting
  · rintro p hp
    simp only [List.mem_cons, List.not_mem_nil, or_false] at hp
    rcases hp with rfl | rfl | rfl
    · exact (tabs "is_far" (by simp) _ _ t_is_far).1
    · exact (tabs "is_near" (by simp) _ _ t_is_near).1
    · exact (tabs "is_parting" (by simp) _ _ t_is_parting).1
  have TB_is_far := TBs (tc_is_far, tp_is_far) (by simp)
  have TB_is_near := TBs (tc_is_near, tp_is_near) (by simp)
  have TB_is_parting := TBs (tc_is_parting, tp_is_parting) (by simp)
  exact ok_law F35 T__law_store T__law_cell T__law_right (ok_store (k := 38) T__law_store) (ok_cell (k := 38) T__law_cell B) (ok_right27 (k := 38) T__law_right T__law_take T__law_no_way T__law_no_number T__law_word (ok_take (k := 37) T__law_take) (ok_noWay27 (k := 37) T__law_no_way T__law_take (ok_take (k := 36) T__law_take) B) (ok_noNum27 (k := 37) T__law_no_number T__law_take (ok_take (k := 36) T__law_take) B) (ok_word27 (k := 37) (c := cls9 C_NoOrder C_NoWay C_NoFit C_NoPlace C_NoNumber C_TooMany C_NoText C_NoName C_NoRow) T__law_word T_lies_apart T_longest_apart T_first_apart T_is_parting T_first_parting T__law_kind (ok_liesE (k := 37) T_lies_apart (ok_liesD (k := 36) T_lies_apart T_check_apart T_is_order_list T_are_far (ok_apart (k := 33) T_check_apart T_check_way T_check_size T_check_from T_is_whole m_WAYS B) (ok_olD (k := 35) T_is_order_list T_is_order (ok_isOrdD (k := 33) T_is_order T_is_whole B m_MOST_THINGS) B) (ok_areFarD (k := 35) T_are_far T_is_far (ok_isFar (k := 33) T_is_far TB_is_far T_known_far (ok_known (k := 32) T_known_far T_far_by_swap T_far_by_spot T_far_by_shift (ok_swap (k := 31) T_far_by_swap T_seats_in (ok_seats (k := 29) T_seats_in T_places_in B) B) (ok_spot (k := 31) T_far_by_spot B) (ok_shift (k := 31) T_far_by_shift T_seats_in (ok_seats (k := 29) T_seats_in T_places_in B) B)) B) B) B m_MOST_THINGS) (ok_liesX (k := 36) T_lies_apart T_check_apart T_is_order_list T_are_far (ok_apX (k := 35) T_check_apart T_check_way T_check_size T_check_from (ok_wayX (k := 34) T_check_way m_WAYS X_NoWay B) (ok_sizeX (k := 34) T_check_size T_is_whole (ok_wholeD (k := 33) T_is_whole B) X_NoNumber B) (ok_fromX (k := 34) T_check_from T_is_whole (ok_wholeD (k := 33) T_is_whole B) X_NoNumber B)) B m_MOST_THINGS)) (ok_longE (k := 37) T_longest_apart (ok_longest (k := 36) T_longest_apart T_check_apart T_all_orders T_longest_from T_far_ones (ok_apart (k := 33) T_check_apart T_check_way T_check_size T_check_from T_is_whole m_WAYS B) (ok_all_orders (k := 34) T_all_orders T_orders_with B) (ok_lf (k := 12) T_longest_from T_far_ones (fun j => (ok_farOnes (k := j + 11) T_far_ones T_known_far (ok_known (k := j + 10) T_known_far T_far_by_swap T_far_by_spot T_far_by_shift (ok_swap (k := j + 9) T_far_by_swap T_seats_in (ok_seats (k := j + 7) T_seats_in T_places_in B) B) (ok_spot (k := j + 9) T_far_by_spot B) (ok_shift (k := j + 9) T_far_by_shift T_seats_in (ok_seats (k := j + 7) T_seats_in T_places_in B) B)) B)) B 24) (ok_farOnes (k := 35) T_far_ones T_known_far (ok_known (k := 34) T_known_far T_far_by_swap T_far_by_spot T_far_by_shift (ok_swap (k := 33) T_far_by_swap T_seats_in (ok_seats (k := 31) T_seats_in T_places_in B) B) (ok_spot (k := 33) T_far_by_spot B) (ok_shift (k := 33) T_far_by_shift T_seats_in (ok_seats (k := 31) T_seats_in T_places_in B) B)) B) B m_MOST_SEARCHED) (ok_longX (k := 36) T_longest_apart T_check_apart T_all_orders T_longest_from T_far_ones (ok_apX (k := 35) T_check_apart T_check_way T_check_size T_check_from (ok_wayX (k := 34) T_check_way m_WAYS X_NoWay B) (ok_sizeX (k := 34) T_check_size T_is_whole (ok_wholeD (k := 33) T_is_whole B) X_NoNumber B) (ok_fromX (k := 34) T_check_from T_is_whole (ok_wholeD (k := 33) T_is_whole B) X_NoNumber B)) B m_MOST_SEARCHED)) (ok_firstE (k := 37) T_first_apart (ok_first (k := 36) T_first_apart T_check_apart T_all_orders T_is_far (ok_apart (k := 33) T_check_apart T_check_way T_check_size T_check_from T_is_whole m_WAYS B) (ok_all_orders (k := 34) T_all_orders T_orders_with B) (ok_isFar (k := 34) T_is_far TB_is_far T_known_far (ok_known (k := 33) T_known_far T_far_by_swap T_far_by_spot T_far_by_shift (ok_swap (k := 32) T_far_by_swap T_seats_in (ok_seats (k := 30) T_seats_in T_places_in B) B) (ok_spot (k := 32) T_far_by_spot B) (ok_shift (k := 32) T_far_by_shift T_seats_in (ok_seats (k := 30) T_seats_in T_places_in B) B)) B) B m_MOST_LISTED) (ok_firstX (k := 36) T_first_apart T_check_apart T_all_orders T_is_far (ok_apX (k := 35) T_check_apart T_check_way T_check_size T_check_from (ok_wayX (k := 34) T_check_way m_WAYS X_NoWay B) (ok_sizeX (k := 34) T_check_size T_is_whole (ok_wholeD (k := 33) T_is_whole B) X_NoNumber B) (ok_fromX (k := 34) T_check_from T_is_whole (ok_wholeD (k := 33) T_is_whole B) X_NoNumber B)) B m_MOST_LISTED)) (ok_ispE (k := 37) T_is_parting (ok_partD (k := 35) T_is_parting TB_is_parting T_check_apart T_is_order_list T_all_orders T_are_near (ok_apart (k := 33) T_check_apart T_check_way T_check_size T_check_from T_is_whole m_WAYS B) (ok_olD (k := 35) T_is_order_list T_is_order (ok_isOrdD (k := 33) T_is_order T_is_whole B m_MOST_THINGS) B) (ok_all_orders (k := 34) T_all_orders T_orders_with B) (ok_areNearD (k := 34) T_are_near T_is_near (ok_isNear (k := 32) T_is_near TB_is_near T_known_far (ok_known (k := 31) T_known_far T_far_by_swap T_far_by_spot T_far_by_shift (ok_swap (k := 30) T_far_by_swap T_seats_in (ok_seats (k := 28) T_seats_in T_places_in B) B) (ok_spot (k := 30) T_far_by_spot B) (ok_shift (k := 30) T_far_by_shift T_seats_in (ok_seats (k := 28) T_seats_in T_places_in B) B)) B) B) B m_MOST_PARTED) (ok_ispX (k := 35) T_is_parting TB_is_parting T_check_apart T_is_order_list T_all_orders T_are_near (ok_apX (k := 35) T_check_apart T_check_way T_check_size T_check_from (ok_wayX (k := 34) T_check_way m_WAYS X_NoWay B) (ok_sizeX (k := 34) T_check_size T_is_whole (ok_wholeD (k := 33) T_is_whole B) X_NoNumber B) (ok_fromX (k := 34) T_check_from T_is_whole (ok_wholeD (k := 33) T_is_whole B) X_NoNumber B)) B m_MOST_PARTED)) (ok_ptgE (k := 37) T_first_parting (ok_parting (k := 36) T_first_parting T_check_apart T_all_orders T_first_near (ok_apart (k := 33) T_check_apart T_check_way T_check_size T_check_from T_is_whole m_WAYS B) (ok_all_orders (k := 34) T_all_orders T_orders_with B) (ok_fnear (k := 35) T_first_near T_is_near (ok_isNear (k := 33) T_is_near TB_is_near T_known_far (ok_known (k := 32) T_known_far T_far_by_swap T_far_by_spot T_far_by_shift (ok_swap (k := 31) T_far_by_swap T_seats_in (ok_seats (k := 29) T_seats_in T_places_in B) B) (ok_spot (k := 31) T_far_by_spot B) (ok_shift (k := 31) T_far_by_shift T_seats_in (ok_seats (k := 29) T_seats_in T_places_in B) B)) B) B) B m_MOST_PARTED) (ok_partgX (k := 36) T_first_parting T_check_apart T_all_orders T_first_near (ok_apX (k := 35) T_check_apart T_check_way T_check_size T_check_from (ok_wayX (k := 34) T_check_way m_WAYS X_NoWay B) (ok_sizeX (k := 34) T_check_size T_is_whole (ok_wholeD (k := 33) T_is_whole B) X_NoNumber B) (ok_fromX (k := 34) T_check_from T_is_whole (ok_wholeD (k := 33) T_is_whole B) X_NoNumber B)) B m_MOST_PARTED)) (ok_kind27 (k := 36) (c := cls9 C_NoOrder C_NoWay C_NoFit C_NoPlace C_NoNumber C_TooMany C_NoText C_NoName C_NoRow) T__law_kind g_NoOrder g_NoWay g_NoFit g_NoPlace g_NoNumber g_TooMany g_NoText g_NoName g_NoRow B) kd_NoWay kd_NoNumber g_OrderError xm_NoWay xm_NoNumber) sy B) B
end Fo
open PySem PySem.W PyProof.Rows
set_option maxRecDepth 100000 in
set_option maxHeartbeats 0 in
theorem PySem.Challenge.cw_farorders_k27_no_ways_and_no_numbers_apa_holds : PySem.Challenge.rw_farorders_k27_no_ways_and_no_numbers_apa.Holds := by
  w_on; o_law; k_head; (case hw => w_witness2)
  k_fill
  refine Fo.walkGT (l := PySem.Challenge.rw_farorders_k27_no_ways_and_no_numbers_apa) (n := 63) (k := 40) (y := "script") rfl (by decide) rfl ⟨rfl, by decide, by decide⟩ (fun w h Y => PySem.W.kIn_of Y) (by decide +kernel) ?F
  case F =>
    intro w mg fa h KX G hmg tabs
    replace hmg : mg "law" = some (Value.ref fa) := hmg
    refine' Fo.all_mk KX G hmg ?a0 ?l0 ?c0 ?k0 ?a1 ?l1 ?c1 ?k1 ?a2 ?l2 ?c2 ?k2 ?a3 ?l3 ?c3 ?k3 ?a4 ?l4 ?c4 ?k4 ?a5 ?l5 ?c5 ?k5 ?a6 ?l6 ?c6 ?k6 ?a7 ?l7 ?c7 ?k7 ?a8 ?l8 ?c8 ?k8 ?a9 ?l9 ?c9 ?k9 ?a10 ?l10 ?c10 ?k10 ?a11 ?l11 ?c11 ?k11 ?a12 ?l12 ?c12 ?k12 ?a13 ?l13 ?c13 ?k13 ?a14 ?l14 ?c14 ?k14 ?a15 ?l15 ?c15 ?k15 ?a16 ?l16 ?c16 ?k16 ?a17 ?l17 ?c17 ?k17 ?a18 ?l18 ?c18 ?k18 ?a19 ?l19 ?c19 ?k19 ?a20 ?l20 ?c20 ?k20 ?a21 ?l21 ?c21 ?k21 ?a22 ?l22 ?c22 ?k22 ?a23 ?l23 ?c23 ?k23 ?a24 ?l24 ?c24 ?k24 ?a25 ?l25 ?c25 ?k25 ?a26 ?l26 ?c26 ?k26 ?a27 ?l27 ?c27 ?k27 ?a28 ?l28 ?c28 ?k28 ?a29 ?l29 ?c29 ?k29 ?a30 ?l30 ?c30 ?k30 ?a31 ?l31 ?c31 ?k31 ?a32 ?l32 ?c32 ?k32 ?a33 ?l33 ?c33 ?k33 ?a34 ?l34 ?c34 ?k34 ?a35 ?l35 ?c35 ?k35 ?g_MOST_THINGS ?g_MOST_LISTED ?g_MOST_SEARCHED ?g_MOST_PARTED ?g_WAYS ?l_WAYS ?gc_OrderError ?gc_NoOrder ?gc_NoWay ?gc_NoFit ?gc_NoPlace ?gc_NoNumber ?gc_TooMany ?gc_NoText ?gc_NoName ?gc_NoRow ?xq_NoWay ?xk_NoWay ?xt_NoWay ?xm_NoWay ?xv_NoWay ?xehg_NoWay ?xehk_NoWay ?xehs_NoWay ?xehd_NoWay ?xeha_NoWay ?xehn_NoWay ?xeht_NoWay ?xehm_NoWay ?xy_NoWay_NoOrder ?xy_NoWay_NoWay ?xy_NoWay_NoFit ?xy_NoWay_NoPlace ?xy_NoWay_NoNumber ?xy_NoWay_TooMany ?xy_NoWay_NoText ?xy_NoWay_NoName ?xy_NoWay_NoRow ?xq_NoNumber ?xk_NoNumber ?xt_NoNumber ?xm_NoNumber ?xv_NoNumber ?xehg_NoNumber ?xehk_NoNumber ?xehs_NoNumber ?xehd_NoNumber ?xeha_NoNumber ?xehn_NoNumber ?xeht_NoNumber ?xehm_NoNumber ?xy_NoNumber_NoOrder ?xy_NoNumber_NoWay ?xy_NoNumber_NoFit ?xy_NoNumber_NoPlace ?xy_NoNumber_NoNumber ?xy_NoNumber_TooMany ?xy_NoNumber_NoText ?xy_NoNumber_NoName ?xy_NoNumber_NoRow ?z_ValueError ?z_abs ?z_all ?z_bool ?z_enumerate ?z_int ?z_isinstance ?z_len ?z_list ?z_max ?z_min ?z_range ?z_repr ?z_sorted ?z_str ?e_is_far ?u_is_far ?v_is_far ?n_is_far ?e_is_near ?u_is_near ?v_is_near ?n_is_near ?e_is_parting ?u_is_parting ?v_is_parting ?n_is_parting (fun y hy c P ht => tabs y c P ?tabn ht)
    (case a0 => k_is); (case l0 => k_is); (case c0 => k_is); (case k0 => k_is); (case a1 => k_is); (case l1 => k_is); (case c1 => k_is); (case k1 => k_is); (case a2 => k_is); (case l2 => k_is); (case c2 => k_is); (case k2 => k_is); (case a3 => k_is); (case l3 => k_is); (case c3 => k_is); (case k3 => k_is); (case a4 => k_is); (case l4 => k_is); (case c4 => k_is); (case k4 => k_is); (case a5 => k_is); (case l5 => k_is); (case c5 => k_is); (case k5 => k_is); (case a6 => k_is); (case l6 => k_is); (case c6 => k_is); (case k6 => k_is); (case a7 => k_is); (case l7 => k_is); (case c7 => k_is); (case k7 => k_is); (case a8 => k_is); (case l8 => k_is); (case c8 => k_is); (case k8 => k_is); (case a9 => k_is); (case l9 => k_is); (case c9 => k_is); (case k9 => k_is); (case a10 => k_is); (case l10 => k_is); (case c10 => k_is); (case k10 => k_is); (case a11 => k_is); (case l11 => k_is); (case c11 => k_is); (case k11 => k_is); (case a12 => k_is); (case l12 => k_is); (case c12 => k_is); (case k12 => k_is); (case a13 => k_is); (case l13 => k_is); (case c13 => k_is); (case k13 => k_is); (case a14 => k_is); (case l14 => k_is); (case c14 => k_is); (case k14 => k_is); (case a15 => k_is); (case l15 => k_is); (case c15 => k_is); (case k15 => k_is); (case a16 => k_is); (case l16 => k_is); (case c16 => k_is); (case k16 => k_is); (case a17 => k_is); (case l17 => k_is); (case c17 => k_is); (case k17 => k_is); (case a18 => k_is); (case l18 => k_is); (case c18 => k_is); (case k18 => k_is); (case a19 => k_is); (case l19 => k_is); (case c19 => k_is); (case k19 => k_is); (case a20 => k_is); (case l20 => k_is); (case c20 => k_is); (case k20 => k_is); (case a21 => k_is); (case l21 => k_is); (case c21 => k_is); (case k21 => k_is); (case a22 => k_is); (case l22 => k_is); (case c22 => k_is); (case k22 => k_is); (case a23 => k_is); (case l23 => k_is); (case c23 => k_is); (case k23 => k_is); (case a24 => k_is); (case l24 => k_is); (case c24 => k_is); (case k24 => k_is); (case a25 => k_is); (case l25 => k_is); (case c25 => k_is); (case k25 => k_is); (case a26 => k_is); (case l26 => k_is); (case c26 => k_is); (case k26 => k_is); (case a27 => k_is); (case l27 => k_is); (case c27 => k_is); (case k27 => k_is); (case a28 => k_is); (case l28 => k_is); (case c28 => k_is); (case k28 => k_is); (case a29 => k_is); (case l29 => k_is); (case c29 => k_is); (case k29 => k_is); (case a30 => k_is); (case l30 => k_is); (case c30 => k_is); (case k30 => k_is); (case a31 => k_is); (case l31 => k_is); (case c31 => k_is); (case k31 => k_is); (case a32 => k_is); (case l32 => k_is); (case c32 => k_is); (case k32 => k_is); (case a33 => k_is); (case l33 => k_is); (case c33 => k_is); (case k33 => k_is); (case a34 => k_is); (case l34 => k_is); (case c34 => k_is); (case k34 => k_is); (case a35 => k_is); (case l35 => k_is); (case c35 => k_is); (case k35 => k_is); (case g_MOST_THINGS => k_is); (case g_MOST_LISTED => k_is); (case g_MOST_SEARCHED => k_is); (case g_MOST_PARTED => k_is); (case g_WAYS => k_is); (case l_WAYS => k_is); (case z_ValueError => k_is); (case z_abs => k_is); (case z_all => k_is); (case z_bool => k_is); (case z_enumerate => k_is); (case z_int => k_is); (case z_isinstance => k_is); (case z_len => k_is); (case z_list => k_is); (case z_max => k_is); (case z_min => k_is); (case z_range => k_is); (case z_repr => k_is); (case z_sorted => k_is); (case z_str => k_is)
    (case gc_OrderError => first | k_is | rfl | kernel_rfl); (case gc_NoOrder => first | k_is | rfl | kernel_rfl); (case gc_NoWay => first | k_is | rfl | kernel_rfl); (case gc_NoFit => first | k_is | rfl | kernel_rfl); (case gc_NoPlace => first | k_is | rfl | kernel_rfl); (case gc_NoNumber => first | k_is | rfl | kernel_rfl); (case gc_TooMany => first | k_is | rfl | kernel_rfl); (case gc_NoText => first | k_is | rfl | kernel_rfl); (case gc_NoName => first | k_is | rfl | kernel_rfl); (case gc_NoRow => first | k_is | rfl | kernel_rfl); (case xq_NoWay => first | k_is | rfl | kernel_rfl); (case xk_NoWay => first | k_is | rfl | kernel_rfl); (case xt_NoWay => first | k_is | rfl | kernel_rfl); (case xm_NoWay => first | k_is | rfl | kernel_rfl); (case xv_NoWay => first | k_is | rfl | kernel_rfl); (case xehg_NoWay => first | k_is | rfl | kernel_rfl); (case xehk_NoWay => first | k_is | rfl | kernel_rfl); (case xehs_NoWay => first | k_is | rfl | kernel_rfl); (case xehd_NoWay => first | k_is | rfl | kernel_rfl); (case xeha_NoWay => first | k_is | rfl | kernel_rfl); (case xehn_NoWay => first | k_is | rfl | kernel_rfl); (case xeht_NoWay => first | k_is | rfl | kernel_rfl); (case xehm_NoWay => first | k_is | rfl | kernel_rfl); (case xy_NoWay_NoOrder => first | k_is | rfl | kernel_rfl); (case xy_NoWay_NoWay => first | k_is | rfl | kernel_rfl); (case xy_NoWay_NoFit => first | k_is | rfl | kernel_rfl); (case xy_NoWay_NoPlace => first | k_is | rfl | kernel_rfl); (case xy_NoWay_NoNumber => first | k_is | rfl | kernel_rfl); (case xy_NoWay_TooMany => first | k_is | rfl | kernel_rfl); (case xy_NoWay_NoText => first | k_is | rfl | kernel_rfl); (case xy_NoWay_NoName => first | k_is | rfl | kernel_rfl); (case xy_NoWay_NoRow => first | k_is | rfl | kernel_rfl); (case xq_NoNumber => first | k_is | rfl | kernel_rfl); (case xk_NoNumber => first | k_is | rfl | kernel_rfl); (case xt_NoNumber => first | k_is | rfl | kernel_rfl); (case xm_NoNumber => first | k_is | rfl | kernel_rfl); (case xv_NoNumber => first | k_is | rfl | kernel_rfl); (case xehg_NoNumber => first | k_is | rfl | kernel_rfl); (case xehk_NoNumber => first | k_is | rfl | kernel_rfl); (case xehs_NoNumber => first | k_is | rfl | kernel_rfl); (case xehd_NoNumber => first | k_is | rfl | kernel_rfl); (case xeha_NoNumber => first | k_is | rfl | kernel_rfl); (case xehn_NoNumber => first | k_is | rfl | kernel_rfl); (case xeht_NoNumber => first | k_is | rfl | kernel_rfl); (case xehm_NoNumber => first | k_is | rfl | kernel_rfl); (case xy_NoNumber_NoOrder => first | k_is | rfl | kernel_rfl); (case xy_NoNumber_NoWay => first | k_is | rfl | kernel_rfl); (case xy_NoNumber_NoFit => first | k_is | rfl | kernel_rfl); (case xy_NoNumber_NoPlace => first | k_is | rfl | kernel_rfl); (case xy_NoNumber_NoNumber => first | k_is | rfl | kernel_rfl); (case xy_NoNumber_TooMany => first | k_is | rfl | kernel_rfl); (case xy_NoNumber_NoText => first | k_is | rfl | kernel_rfl); (case xy_NoNumber_NoName => first | k_is | rfl | kernel_rfl); (case xy_NoNumber_NoRow => first | k_is | rfl | kernel_rfl)
    (case e_is_far => exact rfl); (case u_is_far => k_is); (case v_is_far => exact rfl); (case n_is_far => kernel_rfl)
    (case e_is_near => exact rfl); (case u_is_near => k_is); (case v_is_near => exact rfl); (case n_is_near => kernel_rfl)
    (case e_is_parting => exact rfl); (case u_is_parting => k_is); (case v_is_parting => exact rfl); (case n_is_parting => kernel_rfl)
    case tabn =>
      simp only [List.mem_cons, List.not_mem_nil, or_false] at hy
      rcases hy with rfl | rfl | rfl <;> decide +kernel

