import PyProof.Rows.All
import Wide.All
import OpenK.AllK
import Wide.FinOn
import HandS.ForMost
import HandS.IsInst
import HandS.Conv
import HandS.Style
import HandS.More
import HandS.Evl
import HandS.Zip
import HandS.SetFor
import HandS.Sort
import HandS.Wide
import PySem.Challenge.RW_farorders_k59_most_by_places
set_option Elab.async false
set_option linter.all false
set_option maxRecDepth 100000
namespace Fo
open PySem PySem.Spec PyProof.Rows L2
/-! ### lists and orders -/
def rg (n : Nat) : List Int := (List.range n).map fun k => ((k : Nat) : Int)
def IsOrd (n : Nat) (ns : List Int) : Prop := ns.Perm (rg n)
theorem rg_len (n : Nat) : (rg n).length = n := by
  unfold rg
  rw [List.length_map, List.length_range]
theorem rg_mem {n : Nat} {x : Int} : x ∈ rg n ↔ 0 ≤ x ∧ x < n := by
  unfold rg
  rw [List.mem_map]
  constructor
  · rintro ⟨k, hk, rfl⟩
    have := List.mem_range.mp hk
    omega
  · rintro ⟨h0, h1⟩
    exact ⟨x.toNat, List.mem_range.mpr (by omega), by omega⟩
theorem rg_nodup (n : Nat) : (rg n).Nodup := by
  unfold rg
  exact List.Pairwise.map _ (fun a b h e => h (by omega)) List.nodup_range
theorem rg_sorted (n : Nat) : (rg n).Pairwise (· ≤ ·) := by
  unfold rg
  exact List.Pairwise.map _ (fun a b h => by omega) List.pairwise_lt_range
theorem rg_V (n : Nat) : rgV 0 (n : Int) = (rg n).map V.int := by
  unfold rgV rg
  rw [List.map_map, show ((n : Int) - 0).toNat = n by omega]
  apply List.map_congr_left
  intro a _
  show V.int (0 + (a : Int)) = V.int (a : Int)
  rw [Int.zero_add]
theorem IsOrd.len {n : Nat} {ns : List Int} (h : IsOrd n ns) : ns.length = n := (List.Perm.length_eq h).trans (rg_len n)
theorem IsOrd.mem {n : Nat} {ns : List Int} (h : IsOrd n ns) {x : Int} (m : x ∈ ns) : 0 ≤ x ∧ x < n := rg_mem.mp ((List.Perm.mem_iff h).mp m)
theorem IsOrd.nodup {n : Nat} {ns : List Int} (h : IsOrd n ns) : ns.Nodup := (List.Perm.nodup_iff h).mpr (rg_nodup n)
/-- two sorted lists of the same things are one -/
theorem sorted_eq : ∀ {a b : List Int}, a.Perm b → a.Pairwise (· ≤ ·) → b.Pairwise (· ≤ ·) → a = b := by
  intro a b hp ha hb
  exact List.Perm.eq_of_pairwise (fun x y _ _ h1 h2 => by omega) ha hb hp
/-- the things at p and p + 1 change places -/
def sw (xs : List Int) (p : Nat) : List Int := (xs.set p (xs.getD (p + 1) 0)).set (p + 1) (xs.getD p 0)
theorem split2 : ∀ {xs : List Int} {p : Nat}, p + 1 < xs.length → ∃ A a b B, xs = A ++ a :: b :: B ∧ A.length = p
  | [], p, h => by simp at h
  | [_], p, h => by simp at h
  | a :: b :: r, 0, _ => ⟨[], a, b, r, rfl, rfl⟩
  | a :: b :: r, p + 1, h => by
    obtain ⟨A, x, y, B, e, l⟩ := split2 (xs := b :: r) (p := p) (by simpa using h)
    exact ⟨a :: A, x, y, B, by rw [e]; rfl, by rw [List.length_cons, l]⟩
theorem sw_at : ∀ (A : List Int) (a b : Int) (B : List Int), sw (A ++ a :: b :: B) A.length = A ++ b :: a :: B
  | [], a, b, B => rfl
  | x :: A, a, b, B => by
    have ih := sw_at A a b B
    unfold sw at ih ⊢
    show x :: _ = x :: _
    exact congrArg (x :: ·) ih
theorem sw_perm {xs : List Int} {p : Nat} (h : p + 1 < xs.length) : (sw xs p).Perm xs := by
  obtain ⟨A, a, b, B, rfl, rfl⟩ := split2 h
  rw [sw_at]
  exact List.Perm.append_left A (List.Perm.swap a b B)
theorem sw_len (xs : List Int) (p : Nat) : (sw xs p).length = xs.length := by
  unfold sw
  rw [List.length_set, List.length_set]
theorem sw_ord {n : Nat} {xs : List Int} {p : Nat} (o : IsOrd n xs) (h : p + 1 < n) : IsOrd n (sw xs p) :=
  (sw_perm (by rw [o.len]; exact h)).trans o
theorem sw_V {xs : List Int} {p : Nat} {a b : Int} (ha : xs[p]? = some a) (hb : xs[p + 1]? = some b) : ((xs.map V.int).set p (V.int b)).set (p + 1) (V.int a) = (sw xs p).map V.int := by
  unfold sw
  rw [List.getD_eq_getElem?_getD, List.getD_eq_getElem?_getD, ha, hb, List.map_set, List.map_set]
  rfl
theorem pop_ins {xs : List Int} {p : Nat} {a : Int} (h : p + 1 < xs.length) (ha : xs[p]? = some a) : (xs.eraseIdx p).take (p + 1) ++ [a] ++ (xs.eraseIdx p).drop (p + 1) = sw xs p := by
  obtain ⟨A, x, y, B, rfl, rfl⟩ := split2 h
  have ex : x = a := by
    rw [List.getElem?_append_right (Nat.le_refl _), Nat.sub_self] at ha
    exact Option.some.inj ha
  subst ex
  rw [sw_at, List.eraseIdx_append_of_length_le (Nat.le_refl _), Nat.sub_self]
  show (A ++ y :: B).take (A.length + 1) ++ [x] ++ (A ++ y :: B).drop (A.length + 1) = _
  rw [List.take_append, List.drop_append]
  have t : A.length + 1 - A.length = 1 := by omega
  rw [t, List.take_of_length_le (by omega), List.drop_of_length_le (by omega)]
  simp
/-- the order at a walk's end -/
def wEnd (xs : List Int) (ws : List Int) : List Int := ws.foldl (fun x p => sw x p.toNat) xs
theorem wEnd_more {xs ws : List Int} {i : Nat} {p : Int} (h : ws[i]? = some p) : wEnd xs (ws.take (i + 1)) = sw (wEnd xs (ws.take i)) p.toNat := by
  unfold wEnd
  rw [List.take_add_one, h, List.foldl_append]
  rfl
theorem wEnd_ord {n : Nat} {xs : List Int} (o : IsOrd n xs) : ∀ {ws : List Int}, (∀ p ∈ ws, 0 ≤ p ∧ p + 1 < n) → IsOrd n (wEnd xs ws) := by
  intro ws
  induction ws generalizing xs with
  | nil => intro _; exact o
  | cons p ws ih =>
    intro h
    have hp := h p List.mem_cons_self
    exact ih (sw_ord o (by omega)) fun q hq => h q (List.mem_cons_of_mem _ hq)
theorem nodup_len : ∀ {l m : List Int}, l.Nodup → (∀ x ∈ l, x ∈ m) → l.length ≤ m.length
  | [], m, _, _ => Nat.zero_le _
  | a :: l, m, hn, hs => by
    obtain ⟨h1, h2⟩ := List.nodup_cons.mp hn
    have ha := hs a List.mem_cons_self
    have ih := nodup_len (l := l) (m := m.erase a) h2 fun x hx => by
      have ne : x ≠ a := fun e => h1 (by rw [← e]; exact hx)
      exact (List.mem_erase_of_ne ne).mpr (hs x (List.mem_cons_of_mem _ hx))
    rw [List.length_erase_of_mem ha] at ih
    have : 0 < m.length := List.length_pos_of_mem ha
    rw [List.length_cons]
    omega
theorem int_at {ns : List Int} {i : Nat} {x : Int} (h : ns[i]? = some x) : (ns.map V.int)[i]? = some (V.int x) := by
  rw [List.getElem?_map, h]
  rfl
theorem int_at_inv {ns : List Int} {i : Nat} {v : V} (h : (ns.map V.int)[i]? = some v) : ∃ x, ns[i]? = some x ∧ v = V.int x := by
  rw [List.getElem?_map] at h
  cases e : ns[i]? with
  | none => rw [e] at h; cases h
  | some x => rw [e] at h; exact ⟨x, rfl, (Option.some.inj h).symm⟩
theorem line_small {n : Nat} (h : n ≤ 16777216) : n ≤ sizeLine := by rw [sizeLine_eq]; exact h
theorem line_lt {n : Nat} (h : n < 16777216) : n < sizeLine := by rw [sizeLine_eq]; exact h
/-! ### data of ints -/
theorem dp_ints {K : PySem.W.Frag} {H : Hp} : ∀ ns : List Int, DpAll K H (ns.map V.int) (ns.map PyData.int)
  | [] => .nil
  | n :: r => .cons (.int n) (dp_ints r)
theorem dp_list {K : PySem.W.Frag} {H : Hp} {a : Addr} {ns : List Int} (h : H a = some (.lst (ns.map V.int))) : Dp K H (.ref a) (.list (ns.map PyData.int)) := .lst (SqL.of h) (dp_ints ns)
theorem eqv_int (i j : Int) : PyData.eqv (.int i) (.int j) = (i == j) := rfl
end Fo
namespace Fo
open PySem PySem.Spec PyProof.Rows L2
abbrev dI (ns : List Int) : List PyData := ns.map PyData.int
abbrev dL (ns : List Int) : PyData := .list (dI ns)
abbrev dLL (l : List (List Int)) : PyData := .list (l.map dL)
theorem lay_ints : ∀ ns : List Int, PyData.canLayAll0 (dI ns) = true
  | [] => rfl
  | n :: r => by
    show (PyData.canLay0 (.int n) && PyData.canLayAll0 (dI r)) = true
    rw [lay_ints r]
    rfl
theorem depth_ints : ∀ ns : List Int, PyData.depthAll (dI ns) = 0
  | [] => by simp [PyData.depthAll]
  | n :: r => by
    show PyData.depthAll (.int n :: dI r) = 0
    rw [PyData.depthAll, depth_ints r]
    simp [PyData.depth]
theorem lay_list (ns : List Int) : PyData.canLay0 (dL ns) = true := by
  rw [PyData.canLay0]
  exact lay_ints ns
theorem depth_list (ns : List Int) : PyData.depth (dL ns) = 1 := by
  rw [PyData.depth, depth_ints]
theorem shaped_list (ns : List Int) : SeqAt.shaped (dL ns) = true := by
  unfold SeqAt.shaped
  rw [lay_list, depth_list]
  rfl
theorem lay_lists : ∀ l : List (List Int), PyData.canLayAll0 (l.map dL) = true
  | [] => rfl
  | n :: r => by
    show (PyData.canLay0 (dL n) && PyData.canLayAll0 (r.map dL)) = true
    rw [lay_lists r, lay_list]
    rfl
theorem depth_lists : ∀ l : List (List Int), PyData.depthAll (l.map dL) ≤ 1
  | [] => by simp [PyData.depthAll]
  | n :: r => by
    show PyData.depthAll (dL n :: r.map dL) ≤ 1
    rw [PyData.depthAll, depth_list]
    have := depth_lists r
    omega
theorem shaped_lists (l : List (List Int)) : SeqAt.shaped (dLL l) = true := by
  unfold SeqAt.shaped
  rw [Bool.and_eq_true_iff]
  constructor
  · rw [PyData.canLay0]
    exact lay_lists l
  · apply decide_eq_true
    rw [PyData.depth]
    have := depth_lists l
    omega
theorem eqv_list (ns : List Int) : PyData.eqv (dL ns) (dL ns) = true := SeqAt.eqv_refl _ (lay_list ns)
theorem eqv_lists (l : List (List Int)) : PyData.eqv (dLL l) (dLL l) = true := SeqAt.eqv_refl _ (SeqAt.canLay_of_shaped (shaped_lists l))
theorem eqvAll_ints : ∀ a b : List Int, PyData.eqvAll (dI a) (dI b) = decide (a = b)
  | [], [] => by simp [PyData.eqvAll]
  | [], _ :: _ => by simp [PyData.eqvAll]
  | _ :: _, [] => by simp [PyData.eqvAll]
  | x :: a, y :: b => by
    show PyData.eqvAll (.int x :: dI a) (.int y :: dI b) = _
    rw [PyData.eqvAll, eqvAll_ints a b]
    show ((x == y) && decide (a = b)) = decide (x :: a = y :: b)
    by_cases h : x = y
    · subst h
      simp
    · simp [h]
theorem eqv_ints (a b : List Int) : PyData.eqv (dL a) (dL b) = decide (a = b) := by
  rw [PyData.eqv]
  exact eqvAll_ints a b
end Fo
namespace Fo
open PySem PySem.Spec PyProof.Rows L2
/-! ### slices of ints -/
def cutI (ws : List Int) (lo hi : Option Int) : List Int := (ws.drop (HT.sIx ws.length 0 lo)).take (HT.sIx ws.length ws.length hi - HT.sIx ws.length 0 lo)
theorem cut_ints (ws : List Int) (lo hi : Option Int) : cutV (ws.map V.int) lo hi = (cutI ws lo hi).map V.int := by
  unfold cutV cutI
  rw [List.length_map, List.map_take, List.map_drop]
theorem cutI_mem {ws : List Int} {lo hi : Option Int} {x : Int} (h : x ∈ cutI ws lo hi) : x ∈ ws := List.mem_of_mem_drop (List.mem_of_mem_take h)
theorem cutI_len (ws : List Int) (lo hi : Option Int) : (cutI ws lo hi).length ≤ ws.length := by
  unfold cutI
  rw [List.length_take, List.length_drop]
  omega
theorem cutI_head (ws : List Int) (k : Nat) : cutI ws none (some (k : Int)) = ws.take k := by
  unfold cutI
  rw [HT.sIx_none, HT.sIx_nat, List.drop_zero, Nat.sub_zero]
  by_cases h : k ≤ ws.length
  · rw [Nat.min_eq_left h]
  · rw [Nat.min_eq_right (by omega), List.take_length, List.take_of_length_le (by omega)]
theorem cutI_tail (ws : List Int) (k : Nat) : cutI ws (some (k : Int)) none = ws.drop k := by
  unfold cutI
  rw [HT.sIx_none, HT.sIx_nat]
  by_cases h : k ≤ ws.length
  · rw [Nat.min_eq_left h, List.take_of_length_le (by rw [List.length_drop]; exact Nat.le_refl _)]
  · rw [Nat.min_eq_right (by omega), List.drop_of_length_le (Nat.le_refl _), List.drop_of_length_le (by omega), List.take_nil]
end Fo
namespace Fo
open PySem PySem.Spec PyProof.Rows L2
/-! ### the text -/
def topS (i : Nat) : Stmt := PySem.Challenge.pw_farorders_k59_most_by_places.main.body.getD i (.Pass ⟨0, 0, 0, 0⟩)
abbrev s_OrderError : Stmt := topS 1
abbrev s_NoNumber : Stmt := topS 2
abbrev s_is_whole : Stmt := topS 4
abbrev s_check_size : Stmt := topS 5
abbrev s_count_orders : Stmt := topS 8
abbrev s_most_by_places : Stmt := topS 10
abbrev s_law_due : Stmt := topS 12
abbrev s_law : Stmt := topS 13
/-- a def of the text, where it stands -/
structure Df (K : PySem.W.Frag) (mg : Str → Option Value) (x : Str) (st : Stmt) (ps : List Str) (f : Addr) (fd : FuncData) : Prop where
  F : Fun K x x st f fd
  b : Binds K fd ps []
  g : mg x = some (.ref f)
/-- the built-in names as they were -/
structure Bi (mg : Str → Option Value) : Prop where
  bool : mg "bool" = none
  int : mg "int" = none
  isinstance : mg "isinstance" = none
  range : mg "range" = none
  sum : mg "sum" = none
end Fo
namespace Fo
open PySem PySem.Spec PyProof.Rows L2
theorem same_new {H : Hp} {p : Addr} {o : HO} (h : H p = none) : Same H (upd H p o) := fun b x e => by
  rw [upd_ne (ne_of_none e h)]
  exact e
theorem at2_0 {x y : V} : atI [x, y] 0 = some x := rfl
theorem at2_1 {x y : V} : atI [x, y] 1 = some y := rfl
end Fo
namespace Fo
open PySem PySem.Spec PyProof.Rows L2
theorem pop_perm : ∀ {xs : List Int} {k : Nat} {y : Int}, xs[k]? = some y → (y :: xs.eraseIdx k).Perm xs
  | [], k, y, h => by simp at h
  | a :: r, 0, y, h => by
    have e : a = y := Option.some.inj h
    subst e
    exact List.Perm.refl _
  | a :: r, k + 1, y, h => by
    have ih := pop_perm (xs := r) (k := k) (y := y) h
    show (y :: a :: r.eraseIdx k).Perm (a :: r)
    exact (List.Perm.swap a y _).trans (List.Perm.cons a ih)
theorem map_erase : ∀ (xs : List Int) (k : Nat), (xs.map V.int).eraseIdx k = (xs.eraseIdx k).map V.int
  | [], k => rfl
  | a :: r, 0 => rfl
  | a :: r, k + 1 => congrArg (V.int a :: ·) (map_erase r k)
/-- what len asks of a list or a tuple -/
abbrev rLenS (K : PySem.W.Frag) : List V → Hp → VK → Prop := fun xs H Q => ∃ p ys, xs = [.ref p] ∧ (SqL K H p ys ∨ SqT K H p ys) ∧ Q (.int ys.length) H
theorem seq_ix {i : Int} {k n : Nat} (e : i = (k : Int)) (h : k < n) : seqIndex? i n = some k := by
  subst e
  unfold seqIndex?
  have h1 : ¬ ((k : Int) < 0) := by omega
  simp only [h1, if_false]
  have h2 : (decide ((0 : Int) ≤ (k : Int)) && decide ((k : Int) < (n : Int))) = true := by
    simp
    omega
  rw [if_pos h2, Int.toNat_natCast]
theorem ix_n {i : Int} {k n : Nat} (e : i = (k : Int)) (h : k < n) : ixN n i = some k := by
  subst e
  unfold ixN
  rw [if_pos (by omega), if_pos (by omega), Int.toNat_natCast]
end Fo
namespace Fo
open PySem PySem.Spec PyProof.Rows L2
/-- a loop over enumerate of a list that stands still -/
theorem for_enumL {K : PySem.W.Frag} {a : Addr} {xs : List V} {g : TG} {tb : TS} {D : Ends} {σ : L2.St} {H : Hp} (Pv : Nat → L2.St → Hp → Prop) (h0 : Pv 0 σ H) (hq : ∀ i σ H, Pv i σ H → SqL K H a xs)
    (hs : ∀ (i : Nat) (x : V) (T : Addr) (σ : L2.St) (H : Hp), xs[i]? = some x → Pv i σ H → H T = none → g (.ref T) σ (upd H T (.tup [.int (i : Nat), x])) fun σ2 H2 => tb { D with nx := Pv (i + 1), ct := Pv (i + 1), bk := D.nx } σ2 H2) (hd : ∀ σ H, Pv xs.length σ H → D.nx σ H) :
    ∃ W : Nat → Nat → L2.St → Hp → Prop, (∃ m, W 0 m σ H) ∧ ∀ i m σ H, W i m σ H →
      ((Ite K a).stop i H ∧ D.nx σ H) ∨ ((Ite K a).go i H ∧ ∃ N : L2.St → Hp → Prop, (∀ σ' H', N σ' H' → ∃ m', m' < m ∧ W (i + 1) m' σ' H') ∧ ∀ v H', (Ite K a).yld i H v H' → g v σ H' fun σ2 H2 => tb { D with nx := N, ct := N, bk := D.nx } σ2 H2) := by
  refine ⟨fun i m σ H => m = xs.length - i ∧ i ≤ xs.length ∧ Pv i σ H, ⟨xs.length, rfl, Nat.zero_le _, h0⟩, ?_⟩
  rintro i m σ H ⟨rfl, hi, p⟩
  have qx := hq i σ H p
  by_cases hlt : i < xs.length
  · have hx : xs[i]? = some xs[i] := List.getElem?_eq_getElem hlt
    refine .inr ⟨⟨xs, _, qx, hx⟩, Pv (i + 1), fun σ' H' p' => ⟨xs.length - (i + 1), by omega, rfl, hlt, p'⟩, fun v H' y => ?_⟩
    obtain ⟨T, x', rfl, hT, rfl, f1⟩ := y
    exact hs i x' T σ H (f1 xs qx) p hT
  · have e : i = xs.length := by omega
    subst e
    exact .inl ⟨⟨xs, qx, Nat.le_refl _⟩, hd σ H p⟩
/-- a comprehension over enumerate of a list that stands still -/
theorem lc_enumL {K : PySem.W.Frag} {a : Addr} {xs : List V} {g : TG} {tt : TT} {te : TE} {vs : List Nat} {σ : L2.St} {H1 : Hp} {D : Addr} {Qd : Hp → Prop} (Pv : Nat → Hp → Prop) (h0 : Pv 0 (upd H1 D (.lst []))) (hl : ∀ i H, i ≤ xs.length → Pv i H → SqL K H a xs)
    (hs : ∀ (i : Nat) (x : V) (T : Addr) (H : Hp), xs[i]? = some x → Pv i H → H T = none → g (.ref T) (wipe σ vs) (upd H T (.tup [.int (i : Nat), x])) fun σ2 H2 => wipe σ2 vs = wipe σ vs ∧ tt σ2 H2 fun b H3 =>
      if b = true then te σ2 H3 fun y H4 => ∃ acc, H4 D = some (.lst acc) ∧ acc.length < sizeLine ∧ Pv (i + 1) (upd H4 D (.lst (acc ++ [y]))) else Pv (i + 1) H3) (hd : ∀ H, Pv xs.length H → Qd H) :
    ∃ W : Nat → Nat → Hp → Prop, (∃ m, W 0 m (upd H1 D (.lst []))) ∧ ∀ i m H, W i m H →
      ((Ite K a).stop i H ∧ Qd H) ∨ ((Ite K a).go i H ∧ ∃ Nx : Hp → Prop, (∀ H', Nx H' → ∃ m', m' < m ∧ W (i + 1) m' H') ∧ ∀ x H', (Ite K a).yld i H x H' → g x (wipe σ vs) H' fun σ2 H2 => wipe σ2 vs = wipe σ vs ∧ tt σ2 H2 fun b H3 =>
        if b = true then te σ2 H3 fun y H4 => ∃ acc, H4 D = some (.lst acc) ∧ acc.length < sizeLine ∧ Nx (upd H4 D (.lst (acc ++ [y]))) else Nx H3) := by
  refine ⟨fun i m H => m = xs.length - i ∧ i ≤ xs.length ∧ Pv i H, ⟨xs.length, by simp, Nat.zero_le _, h0⟩, ?_⟩
  rintro i m H ⟨rfl, hi, p⟩
  have q := hl i H hi p
  by_cases hlt : i < xs.length
  · refine .inr ⟨⟨xs, xs[i], q, by simp [hlt]⟩, Pv (i + 1), fun H' p' => ⟨xs.length - (i + 1), by omega, rfl, hlt, p'⟩, fun x H' y => ?_⟩
    obtain ⟨T, x', rfl, hT, rfl, f1⟩ := y
    exact hs i x' T H (f1 xs q) p hT
  · have e : i = xs.length := by omega
    subst e
    exact .inl ⟨⟨xs, q, Nat.le_refl _⟩, hd H p⟩
/-! ### the back of an order -/
def IsBack (ns ps : List Int) : Prop := ps.length = ns.length ∧ ∀ (j : Nat) (x : Int), ns[j]? = some x → ps[x.toNat]? = some (j : Int)
theorem ord_at {n : Nat} {ns : List Int} (o : IsOrd n ns) {t : Nat} (h : t < n) : ∃ j : Nat, j < n ∧ ns[j]? = some (t : Int) := by
  have m : (t : Int) ∈ ns := (List.Perm.mem_iff o).mpr (rg_mem.mpr ⟨by omega, by omega⟩)
  obtain ⟨j, hj⟩ := List.mem_iff_getElem?.mp m
  exact ⟨j, by have := (List.getElem?_eq_some_iff.mp hj).1; rw [o.len] at this; exact this, hj⟩
theorem ord_ix {n : Nat} {ns : List Int} (o : IsOrd n ns) {j : Nat} (h : j < n) : ∃ x : Int, ns[j]? = some x ∧ 0 ≤ x ∧ x < n := by
  have hj : j < ns.length := by rw [o.len]; exact h
  exact ⟨ns[j], List.getElem?_eq_getElem hj, o.mem (List.getElem_mem hj)⟩
theorem back_eq {n : Nat} {ns a b : List Int} (o : IsOrd n ns) (ha : IsBack ns a) (hb : IsBack ns b) : a = b := by
  apply List.ext_getElem?
  intro t
  by_cases h : t < n
  · obtain ⟨j, _, hj⟩ := ord_at o h
    have h1 := ha.2 j _ hj
    have h2 := hb.2 j _ hj
    rw [Int.toNat_natCast] at h1 h2
    rw [h1, h2]
  · rw [List.getElem?_eq_none (by rw [ha.1, o.len]; omega), List.getElem?_eq_none (by rw [hb.1, o.len]; omega)]
def behindL (ns ms : List Int) : List Int := ms.map fun p => ns.getD p.toNat 0
theorem behind_at {ns ms : List Int} {i : Nat} {p x : Int} (hp : ms[i]? = some p) (hx : ns[p.toNat]? = some x) : (behindL ns ms)[i]? = some x := by
  unfold behindL
  rw [List.getElem?_map, hp]
  show some (ns.getD p.toNat 0) = some x
  rw [List.getD_eq_getElem?_getD, hx]
  rfl
theorem behind_len (ns ms : List Int) : (behindL ns ms).length = ms.length := by
  unfold behindL
  rw [List.length_map]
theorem take_more {l : List Int} {i : Nat} {x : Int} (h : l[i]? = some x) : l.take (i + 1) = l.take i ++ [x] := by
  rw [List.take_add_one, h]
  rfl
theorem flat_ints : ∀ ns : List Int, (ns.map V.int).all flatV = true
  | [] => rfl
  | n :: r => by
    show (flatV (V.int n) && (r.map V.int).all flatV) = true
    rw [flat_ints r]
    rfl
theorem eqV_int (i j : Int) : eqV (.int i) (.int j) = (i == j) := rfl
end Fo
namespace Fo
open PySem PySem.Spec PyProof.Rows L2
/-! ### counts of orders, as the program reckons them -/
def addAt (l : List Int) (i : Nat) (v : Int) : List Int := l.set i (l.getD i 0 + v)
def swIn (m : Int) (far : Nat) : Nat → List Int → List Int
  | 0, l => l
  | p + 1, l => addAt (swIn m far p l) (far + p) m
def swOut (c : List Int) (b : Nat) : Nat → List Int
  | 0 => List.replicate (c.length + b) 0
  | i + 1 => swIn (c.getD i 0) i (b + 1) (swOut c b i)
def swNext (c : List Int) (b : Nat) : List Int := swOut c b c.length
def swC : Nat → List Int
  | 0 => [1]
  | k + 1 => swNext (swC k) (k + 1)
theorem addAt_len (l : List Int) (i : Nat) (v : Int) : (addAt l i v).length = l.length := List.length_set
theorem swIn_len (m : Int) (far : Nat) : ∀ (p : Nat) (l : List Int), (swIn m far p l).length = l.length
  | 0, _ => rfl
  | p + 1, l => by rw [swIn, addAt_len, swIn_len m far p l]
theorem swOut_len (c : List Int) (b : Nat) : ∀ i : Nat, (swOut c b i).length = c.length + b
  | 0 => List.length_replicate
  | i + 1 => by rw [swOut, swIn_len, swOut_len c b i]
def triN : Nat → Nat
  | 0 => 0
  | k + 1 => triN k + (k + 1)
theorem swC_len : ∀ k : Nat, (swC k).length = 1 + triN k
  | 0 => rfl
  | k + 1 => by
    show (swOut (swC k) (k + 1) (swC k).length).length = 1 + (triN k + (k + 1))
    rw [swOut_len, swC_len k]
    omega
theorem tri_le : ∀ k : Nat, k < 12 → triN k ≤ 66 ∧ triN k < (k + 1) * (k + 1) := by decide
theorem swC_good : ∀ k : Nat, k < 12 → (swC k).all (fun x => decide (0 ≤ x)) = true ∧ (swC k).head? = some 1 ∧ (swC k).sum ≤ 479001600 := by decide +kernel
/-! by places -/
def chN (n : Nat) : Nat → Int
  | 0 => 1
  | r + 1 => chN n r * ((n : Int) - r) / (r + 1)
def mvN : Nat → Int × Int
  | 0 => (1, 1)
  | k + 1 => ((mvN k).1 * (k + 1) + -(mvN k).2, -(mvN k).2)
def spC (n : Nat) : List Int := (List.range (n + 1)).map fun r => chN n r * (mvN r).1
theorem ch_small : ∀ n : Nat, n < 13 → ∀ r : Nat, r < 14 → 0 ≤ chN n r ∧ chN n r ≤ 1000 := by decide +kernel
theorem mv_small : ∀ n : Nat, n < 13 → 0 ≤ (mvN n).1 ∧ (mvN n).1 ≤ 479001600 ∧ -1 ≤ (mvN n).2 ∧ (mvN n).2 ≤ 1 := by decide +kernel
theorem spC_good : ∀ n : Nat, n < 13 → (spC n).all (fun x => decide (0 ≤ x)) = true ∧ (spC n).head? = some 1 ∧ (spC n).sum ≤ 479001600 := by decide +kernel
def facN : Nat → Int
  | 0 => 1
  | k + 1 => facN k * (k + 1)
theorem fac_small : ∀ n : Nat, n < 13 → 0 < facN n ∧ facN n ≤ 479001600 := by decide +kernel
def noneN : Nat → List Int
  | 0 => [1, 0]
  | k + 1 => noneN k ++ [((k : Int) + 2 - 1) * ((noneN k).getD (k + 1) 0 + (noneN k).getD k 0)]
theorem spC_law : ∀ n : Nat, n < 13 → spC n = (List.range (n + 1)).map fun r => facN n / facN r / facN (n - r) * (noneN (n - 1)).getD r 0 := by decide +kernel
theorem noneN_len : ∀ k : Nat, (noneN k).length = k + 2
  | 0 => rfl
  | k + 1 => by
    rw [noneN, List.length_append, noneN_len k]
    rfl
theorem noneN_small : ∀ k : Nat, k < 12 → (noneN k).all (fun x => decide (0 ≤ x) && decide (x ≤ 479001600)) = true := by decide +kernel
/-- the sum of a beginning of good counts -/
theorem sum_nonneg : ∀ l : List Int, l.all (fun x => decide (0 ≤ x)) = true → 0 ≤ l.sum
  | [], _ => Int.le_refl _
  | a :: l, h => by
    rw [List.all_cons, Bool.and_eq_true] at h
    have := of_decide_eq_true h.1
    have := sum_nonneg l h.2
    rw [List.sum_cons]
    omega
theorem sum_take {l : List Int} {k : Nat} (h : l.all (fun x => decide (0 ≤ x)) = true) (h1 : l.head? = some 1) (hk : 0 < k) : 1 ≤ (l.take k).sum ∧ (l.take k).sum ≤ l.sum := by
  match l, h1, k, hk with
  | a :: r, h1, k + 1, _ =>
    have e : a = 1 := Option.some.inj h1
    subst e
    rw [List.all_cons, Bool.and_eq_true] at h
    rw [List.take_succ_cons, List.sum_cons, List.sum_cons]
    have hs : (r.take k).sum + (r.drop k).sum = r.sum := by rw [← List.sum_append, List.take_append_drop]
    have h2 := h.2
    rw [← List.take_append_drop k r, List.all_append, Bool.and_eq_true] at h2
    have := sum_nonneg _ h2.1
    have := sum_nonneg _ h2.2
    omega
end Fo
namespace Fo
open PySem PySem.Spec PyProof.Rows L2
def spWhole : Sp := fun vs H Q _ => ∃ i : Int, vs = [.int i] ∧ Q (.bl true) H
section
variable {P : Program} {w : World} {K : PySem.W.Frag} {mg : Str → Option Value} {base : Heap}
theorem scWhole : FnScope ["thing"] ["thing"] (defScope s_is_whole) := ⟨rfl, rfl, rfl, by decide +kernel, rfl, by decide +kernel, by decide +kernel⟩
theorem ok_whole {f : Addr} {fd : FuncData} {k : Nat} (T : Df K mg "is_whole" s_is_whole ["thing"] f fd) (B : Bi mg) : FnOk P w K mg base CX0 (k + 1) f fd ["thing"] spWhole := by
  refine T.F.ok scWhole (fun vs H Q E h => ?_) (fun cdv A outer s H vs Q E hr h => ?_)
  · obtain ⟨i, rfl, _⟩ := h
    rfl
  · obtain ⟨i, rfl, q⟩ := h
    refine ⟨_, pss_one (ps_ret (pe_and (pe_callB call_isi (by rfl) B.isinstance (by decide +kernel) (pa_cons (pv 0) (pa_cons (pe_bltn (v := .ty "int") (by rfl) B.int (by decide +kernel) rfl) pa_nil)))
      (pe_one (pe_not (pe_callB call_isi (by rfl) B.isinstance (by decide +kernel) (pa_cons (pv 0) (pa_cons (pe_bltn (v := .ty "bool") (by rfl) B.bool (by decide +kernel) rfl) pa_nil))))))), ?_⟩
    refine ⟨_, rfl, _, _, _, _, true, rfl, .ty _, .base (.int _), kit_ty (by decide +kernel), true, rfl, iteT ?_⟩
    exact ⟨_, rfl, _, _, _, _, false, rfl, .ty _, .base (.int _), kit_ty (by decide +kernel), false, rfl, q⟩
end
end Fo
namespace Fo
open PySem PySem.Spec PyProof.Rows L2
def spSize : Sp := fun vs H Q _ => ∃ (n most : Int), vs = [.int n, .int most] ∧ 1 ≤ n ∧ n ≤ most ∧ Q .non H
section
variable {P : Program} {w : World} {K : PySem.W.Frag} {mg : Str → Option Value} {base : Heap}
theorem scSize : FnScope ["thing", "most"] ["thing", "most"] (defScope s_check_size) := ⟨rfl, rfl, rfl, by decide +kernel, rfl, by decide +kernel, by decide +kernel⟩
theorem ok_size {f fW : Addr} {fd fdW : FuncData} {k : Nat} (T : Df K mg "check_size" s_check_size ["thing", "most"] f fd) (T_is_whole : Df K mg "is_whole" s_is_whole ["thing"] fW fdW) (B : Bi mg) : FnOk P w K mg base CX0 (k + 2) f fd ["thing", "most"] spSize := by
  have G_is_whole : FnOk P w K mg base CX0 (k + 1) fW fdW ["thing"] spWhole := ok_whole T_is_whole B
  refine T.F.ok scSize (fun vs H Q E h => ?_) (fun cdv A outer s H vs Q E hr h => ?_)
  · obtain ⟨n, most, rfl, _⟩ := h
    rfl
  · obtain ⟨n, most, rfl, h1, h2, q⟩ := h
    refine ⟨_, 
      (pss_one (ps_if (PW.pt (pw_or (pt_not (pt_val (pe_call G_is_whole hr (by rfl) T_is_whole.g T_is_whole.F.kp T_is_whole.b .nil pass0 (pa_cons (pv 0) pa_nil)))) (pw_or (pt_cmpR op_lt (pv 0) pe_int (nomark _)) (pw_or1 (pt_cmpR op_gt (pv 0) (pv 1) (nomark _))))))
        (pss_one ps_never)
        pss_nil)), ?_⟩
    refine ⟨_, rfl, n, rfl, _, rfl, iteF ?_⟩
    refine ⟨_, rfl, n, 1, rfl, rfl, _, rfl, ite2 (fun z => absurd (of_decide_eq_true z) (by omega)) (fun _ => ?_)⟩
    exact ⟨_, rfl, _, rfl, n, most, rfl, rfl, _, rfl, ite2 (fun z => absurd (of_decide_eq_true z) (by omega)) (fun _ => q)⟩
end
end Fo
namespace Fo
open PySem PySem.Spec PyProof.Rows L2
def spFac : Sp := fun vs H Q _ => ∃ n : Nat, vs = [.int n] ∧ n ≤ 12 ∧ Q (.int (facN n)) H
def spMost : Sp := fun vs H Q _ => ∃ n d : Nat, vs = [.int n, .int d] ∧ 1 ≤ d ∧ d ≤ n ∧ n ≤ 12 ∧ Q (.int (facN n / facN (d - 1))) H
def dueN (n : Nat) : Nat → List Int
  | 0 => [(n : Int)]
  | i + 1 => ((dueN n i).getD 0 0 * ((n : Int) - 1 + ((i : Nat) : Int) * -1)) :: dueN n i
theorem dueN_len (n : Nat) : ∀ i, (dueN n i).length = i + 1
  | 0 => rfl
  | i + 1 => by rw [dueN, List.length_cons, dueN_len n i]
theorem due_most : ∀ n : Nat, n < 13 → ∀ d : Nat, d < n → (dueN n (n - 1)).getD d 0 = facN n / facN d := by decide +kernel
def spDue : Sp := fun vs H Q _ => ∃ n : Nat, vs = [.int n] ∧ 1 ≤ n ∧ n ≤ 12 ∧ ∀ (l : Addr) (H' : Hp), H l = none → H' l = some (.lst ((dueN n (n - 1)).map V.int)) → Same H H' → Q (.ref l) H'
def GoodT (H : Hp) (a : Addr) : Prop := ∃ n d : Nat, 1 ≤ d ∧ d ≤ n ∧ n ≤ 12 ∧ H a = some (.tup [.int n, .int d, .int (facN n / facN (d - 1))])
theorem GoodT.same {H H' : Hp} {a : Addr} (h : GoodT H a) (s : Same H H') : GoodT H' a := by
  obtain ⟨n, d, h1, h2, h3, e⟩ := h
  exact ⟨n, d, h1, h2, h3, s _ _ e⟩
def spLaw (K : PySem.W.Frag) : Sp := fun vs H Q _ => ∃ (a : Addr) (ns : List Int), vs = [.ref a] ∧ SqL K H a (ns.map V.int) ∧ ns.length ≤ 63 ∧ ∀ H', Q (.bl true) H'
theorem getD_some' {l : List Int} {i : Nat} (h : i < l.length) : l[i]? = some (l.getD i 0) := by
  rw [List.getD_eq_getElem?_getD, List.getElem?_eq_getElem h]
  rfl
theorem ref_at_inv' {as : List Addr} {i : Nat} {v : V} (h : (as.map V.ref)[i]? = some v) : ∃ a, as[i]? = some a ∧ v = V.ref a := by
  rw [List.getElem?_map] at h
  cases e : as[i]? with
  | none => rw [e] at h; cases h
  | some x => rw [e] at h; exact ⟨x, rfl, (Option.some.inj h).symm⟩
section
variable {P : Program} {w : World} {K : PySem.W.Frag} {mg : Str → Option Value} {base : Heap}
theorem scFac : FnScope ["n", "many", "things"] ["n"] (defScope s_count_orders) := ⟨rfl, rfl, rfl, by decide +kernel, rfl, by decide +kernel, by decide +kernel⟩
theorem ok_fac {f : Addr} {fd : FuncData} {k : Nat} (T : Df K mg "count_orders" s_count_orders ["n"] f fd) (B : Bi mg) : FnOk P w K mg base CX0 (k + 1) f fd ["n"] spFac := by
  refine T.F.ok scFac (fun vs H Q E h => ?_) (fun cdv A outer s H vs Q E hr h => ?_)
  · obtain ⟨n, rfl, _⟩ := h
    rfl
  · obtain ⟨n, rfl, hn, q⟩ := h
    refine ⟨_, 
      (pss_cons (ps_set (i := 1) scFac.nd rfl (.inl rfl) pe_int)
      (pss_cons (ps_for PassesOwn.never rfl (pi_range2 (by rfl) B.range (pa_cons pe_int (pa_cons (pe_op op_add (pv 0) pe_int) pa_nil))) (pg_name (i := 2) scFac.nd rfl (.inl rfl))
        (pss_one (ps_aug (i := 1) scFac.nd rfl (.inl rfl) (pv 2) iop_mul)))
      (pss_one (ps_ret (pv 1))))), ?_⟩
    refine ⟨_, rfl, (n : Int), 1, rfl, rfl, 1, _, rfl, ⟨by omega, by omega, by omega, by omega⟩, ?_⟩
    rw [show ((n : Int) + 1 - 1).toNat = n by omega]
    refine for_range (lo := 1) (n := n) (fun i σ H1 => ∃ y2 : Option V, σ = [some (.int n), some (.int (facN i)), y2] ∧ H1 = H) ⟨_, rfl, rfl⟩ (fun i σ H1 hi hW => ?_) (fun σ H1 hW => ?_)
    · obtain ⟨y2, rfl, rfl⟩ := hW
      have hf := fac_small i (by omega)
      refine ⟨_, rfl, _, rfl, _, _, rfl, rfl, .inl ⟨by omega, by omega⟩, some (.int (1 + (i : Int))), ?_, rfl⟩
      show [some (V.int (n : Int)), some (V.int (facN i * (1 + (i : Int)))), some (V.int (1 + (i : Int)))] = _
      rw [Int.add_comm 1 (i : Int)]
      rfl
    · obtain ⟨y2, rfl, rfl⟩ := hW
      exact ⟨_, rfl, q⟩
theorem scMost : FnScope ["n", "d"] ["n", "d"] (defScope s_most_by_places) := ⟨rfl, rfl, rfl, by decide +kernel, rfl, by decide +kernel, by decide +kernel⟩
theorem ok_most {f f1 f2 : Addr} {fd d1 d2 : FuncData} {k : Nat} {tk : Tok} (T : Df K mg "most_by_places" s_most_by_places ["n", "d"] f fd) (T_check_size : Df K mg "check_size" s_check_size ["thing", "most"] f1 d1) (T_count_orders : Df K mg "count_orders" s_count_orders ["n"] f2 d2) (G_check_size : FnOk P w K mg base CX0 k f1 d1 ["thing", "most"] spSize) (G_count_orders : FnOk P w K mg base CX0 k f2 d2 ["n"] spFac) (B : Bi mg) (mM : mg "MOST_THINGS" = some (.int 12 tk)) : FnOk P w K mg base CX0 (k + 1) f fd ["n", "d"] spMost := by
  refine T.F.ok scMost (fun vs H Q E h => ?_) (fun cdv A outer s H vs Q E hr h => ?_)
  · obtain ⟨n, d, rfl, _⟩ := h
    rfl
  · obtain ⟨n, d, rfl, h1, h2, h3, q⟩ := h
    refine ⟨_, 
      (pss_cons (ps_expr (pe_call G_check_size hr (by rfl) T_check_size.g T_check_size.F.kp T_check_size.b .nil pass0 (pa_cons (pv 0) (pa_cons (pe_glob (v := .int 12) (by rfl) mM ⟨_, rfl⟩) pa_nil))))
      (pss_cons (ps_expr (pe_call G_check_size hr (by rfl) T_check_size.g T_check_size.F.kp T_check_size.b .nil pass0 (pa_cons (pv 1) (pa_cons (pv 0) pa_nil))))
      (pss_one (ps_ret (pe_op op_fdiv (pe_call G_count_orders hr (by rfl) T_count_orders.g T_count_orders.F.kp T_count_orders.b .nil pass0 (pa_cons (pv 0) pa_nil)) (pe_call G_count_orders hr (by rfl) T_count_orders.g T_count_orders.F.kp T_count_orders.b .nil pass0 (pa_cons (pe_op op_sub (pv 1) pe_int) pa_nil))))))), ?_⟩
    refine ⟨_, rfl, n, 12, rfl, by omega, by omega, ?_⟩
    refine ⟨_, rfl, _, rfl, d, n, rfl, by omega, by omega, ?_⟩
    have hf := fac_small (d - 1) (by omega)
    exact ⟨_, rfl, n, rfl, h3, _, rfl, (d : Int), 1, rfl, rfl, d - 1, by show [V.int ((d : Int) - 1)] = _; rw [show (d : Int) - 1 = ((d - 1 : Nat) : Int) by omega], by omega, _, _, rfl, rfl, ⟨by omega, by omega⟩, q⟩
theorem scDue : FnScope ["n", "found", "d"] ["n"] (defScope s_law_due) := ⟨rfl, rfl, rfl, by decide +kernel, rfl, by decide +kernel, by decide +kernel⟩
theorem ok_due {f : Addr} {fd : FuncData} {k : Nat} (T : Df K mg "_law_due" s_law_due ["n"] f fd) (B : Bi mg) : FnOk P w K mg base CX0 (k + 1) f fd ["n"] spDue := by
  refine T.F.ok scDue (fun vs H Q E h => ?_) (fun cdv A outer s H vs Q E hr h => ?_)
  · obtain ⟨n, rfl, _⟩ := h
    rfl
  · obtain ⟨n, rfl, hn1, hn2, q⟩ := h
    refine ⟨_, 
      (pss_cons (ps_set (i := 1) scDue.nd rfl (.inl rfl) (pe_lst (pa_cons (pv 0) pa_nil)))
      (pss_cons (ps_for PassesOwn.never rfl (pi_range3 (by rfl) B.range (pa_cons (pe_op op_sub (pv 0) pe_int) (pa_cons pe_int (pa_cons (pe_un un_neg pe_int) pa_nil)))) (pg_name (i := 2) scDue.nd rfl (.inl rfl))
        (pss_one (ps_set (i := 1) scDue.nd rfl (.inl rfl) (pe_op op_cat (pe_lst (pa_cons (pe_op op_mul (pe_ix ix_list (pv 1) pe_int (fun _ _ => rfl)) (pv 2)) pa_nil)) (pv 1)))))
      (pss_one (ps_ret (pv 1))))), ?_⟩
    refine ⟨_, rfl, line_small (by show 1 ≤ 16777216; decide), fun l nl => ?_⟩
    have s1 := same_new (o := .lst [.int (n : Int)]) nl
    refine ⟨_, rfl, (n : Int), 1, rfl, rfl, 1, rfl, (n : Int) - 1, 0, -1, n - 1, rfl, ?_, ?_⟩
    · have := RgC.neg (i := (n : Int) - 1) (j := 0) (by omega) (by omega) (by omega) (by omega)
      rw [show ((n : Int) - 1 - 0).toNat = n - 1 by omega] at this
      exact this
    refine for_rangeC (n := n - 1) (fun i σ H1 => ∃ (l : Addr) (y2 : Option V), σ = [some (.int n), some (.ref l), y2] ∧ H l = none ∧ H1 l = some (.lst ((dueN n i).map V.int)) ∧ Same H H1) ⟨l, _, rfl, nl, upd_same, s1⟩ (fun i σ H1 hi hW => ?_) (fun σ H1 hW => ?_)
    · obtain ⟨l, y2, rfl, nl, hl, sm⟩ := hW
      have hlen := dueN_len n i
      refine ⟨_, rfl, l, _, 0, _, rfl, rfl, SqL.of hl, at_of (j := 0) rfl (int_at (getD_some' (by omega))), _, rfl, _, _, rfl, rfl, .inr ⟨by omega, by omega⟩, line_small (by show 1 ≤ 16777216; decide), fun p np => ?_⟩
      have t1 := same_new (o := .lst [.int ((dueN n i).getD 0 0 * ((n : Int) - 1 + ((i : Nat) : Int) * -1))]) np
      refine ⟨_, rfl, p, l, _, _, rfl, rfl, upd_same, t1 _ _ hl, line_small (by rw [List.length_map, hlen]; show 1 + _ ≤ _; omega), fun r nr => ?_⟩
      exact ⟨r, _, rfl, (sm.trans t1).free nr, upd_same, (sm.trans t1).trans (same_new nr)⟩
    · obtain ⟨l, y2, rfl, nl, hl, sm⟩ := hW
      exact ⟨_, rfl, q l H1 nl hl sm⟩
theorem scLaw : FnScope ["script", "some", "n", "row", "d", "due", "found"] ["script"] (defScope s_law) := ⟨rfl, rfl, rfl, by decide +kernel, rfl, by decide +kernel, by decide +kernel⟩
set_option maxHeartbeats 1000000 in
theorem ok_law {f f1 f2 : Addr} {fd d1 d2 : FuncData} (T : Fun K "law" "law" s_law f fd) (T__law_due : Df K mg "_law_due" s_law_due ["n"] f1 d1) (T_most_by_places : Df K mg "most_by_places" s_most_by_places ["n", "d"] f2 d2) (G__law_due : FnOk P w K mg base CX0 9 f1 d1 ["n"] spDue) (G_most_by_places : FnOk P w K mg base CX0 9 f2 d2 ["n", "d"] spMost) (B : Bi mg) : FnOk P w K mg base CX0 10 f fd ["script"] (spLaw K) := by
  refine T.ok scLaw (fun vs H Q E h => ?_) (fun cdv A outer s H vs Q E hr h => ?_)
  · obtain ⟨a, ns, rfl, _⟩ := h
    rfl
  · obtain ⟨a, ns, rfl, hS, hlen, q⟩ := h
    refine ⟨_, 
      (pss_cons (ps_set (i := 1) scLaw.nd rfl (.inl rfl) (pe_lst pa_nil))
      (pss_cons (ps_for PassesOwn.never rfl (pi_range2 (by rfl) B.range (pa_cons pe_int (pa_cons pe_int pa_nil))) (pg_name (i := 2) scLaw.nd rfl (.inr rfl))
        (pss_one (ps_set (i := 1) scLaw.nd rfl (.inl rfl) (pe_op op_cat (pv 1) (pe_lc (own := [("d", 4)]) (g := (gName 4)) (tt := tYes) (te := (tTup (tCons (tVar 2) (tCons (tVar 4) (tCons (tOp (rIxL K) (tCall spDue [] E0 (tCons (tVar 2) tNil)) (tOp (rI0 fun i j => .int (i - j)) (tVar 4) (tC (.int 1)))) tNil))))) rfl scLaw.nd (pi_range2 (by rfl) B.range (pa_cons pe_int (pa_cons (pe_op op_add (pv 2) pe_int) pa_nil))) (blkOk_by (N := ["script", "some", "n", "row", "d", "due", "found"]) (sc := defScope s_law) (by decide +kernel)) (fun _ _ _ _ _ => (pg_name (i := 4) scLaw.nd rfl (.inl rfl))) (fun _ _ _ _ _ => pts_nil) (fun _ _ _ _ _ => (pe_tup (pa_cons (pv 2) (pa_cons (pv 4) (pa_cons (pe_ix ix_list (pe_call G__law_due hr (by rfl) T__law_due.g T__law_due.F.kp T__law_due.b .nil pass0 (pa_cons (pv 2) pa_nil)) (pe_op op_sub (pv 4) pe_int) (fun _ _ => rfl)) pa_nil))))))))))
      (pss_cons (ps_for PassesOwn.never rfl (pi_list (pe_lst (pa_cons (pv 1) (pa_cons (pe_ix ix_list (pe_lst (pa_cons (pv 1) (pa_cons (pe_revL (pv 1)) pa_nil))) (pe_op op_mod (pe_callB (cr_sum rfl) (by rfl) B.sum (by decide +kernel) (pa_cons (pe_slice sl_list (pv 0) po_none (po_some pe_int)) pa_nil)) pe_int) (fun _ _ => rfl)) pa_nil)))) (pg_name (i := 3) scLaw.nd rfl (.inl rfl))
        (pss_one (ps_for PassesOwn.never rfl (pi_list (pv 3)) (pg_tup (by rfl) (pgs_cons (pg_name (i := 2) scLaw.nd rfl (.inr rfl)) (pgs_cons (pg_name (i := 4) scLaw.nd rfl (.inl rfl)) (pgs_cons (pg_name (i := 5) scLaw.nd rfl (.inl rfl)) pgs_nil))))
          (pss_cons (ps_set (i := 6) scLaw.nd rfl (.inl rfl) (pe_call G_most_by_places hr (by rfl) T_most_by_places.g T_most_by_places.F.kp T_most_by_places.b .nil pass0 (pa_cons (pv 2) (pa_cons (pv 4) pa_nil))))
          (pss_one (ps_if (PW.pt (pw_or (pt_not (pt_val (pe_callB call_isi (by rfl) B.isinstance (by decide +kernel) (pa_cons (pv 6) (pa_cons (pe_bltn (v := .ty "int") (by rfl) B.int (by decide +kernel) rfl) pa_nil))))) (pw_or (pt_val (pe_callB call_isi (by rfl) B.isinstance (by decide +kernel) (pa_cons (pv 6) (pa_cons (pe_bltn (v := .ty "bool") (by rfl) B.bool (by decide +kernel) rfl) pa_nil)))) (pw_or1 (pt_cmpR op_ne (pv 6) (pv 5) (nomark _))))))
            (pss_one (ps_ret pe_bl))
            pss_nil))))))
      (pss_one (ps_ret pe_bl))))), ?_⟩
    refine ⟨Nat.zero_le _, fun l0 nl0 => ?_⟩
    have s0 := same_new (o := .lst []) nl0
    refine ⟨1, 13, rfl, ⟨by omega, by omega, by omega, by omega⟩, ?_⟩
    refine for_range (lo := 1) (n := 12) (fun i σ H1 => ∃ (l : Addr) (as : List Addr) (y2 y3 y4 y5 y6 : Option V), σ = [some (.ref a), some (.ref l), y2, y3, y4, y5, y6] ∧ H1 l = some (.lst (as.map V.ref)) ∧ as.length ≤ 12 * i ∧ (∀ b ∈ as, GoodT H1 b) ∧ Same H H1)
      ⟨l0, [], _, _, _, _, _, rfl, upd_same, by simp, fun b hb => absurd hb List.not_mem_nil, s0⟩ (fun i σ H1 hi hW => ?_) (fun σ H1 hW => ?_)
    · obtain ⟨l, as, y2, y3, y4, y5, y6, rfl, hl, hal, hg, sm⟩ := hW
      obtain ⟨n, en⟩ : ∃ n : Nat, (n : Int) = 1 + (i : Int) := ⟨i + 1, by omega⟩
      rw [← en]
      refine ⟨_, rfl, _, rfl, (n : Int), 1, rfl, rfl, 1, _, rfl, ⟨by omega, by omega, by omega, by omega⟩, fun D nD => ?_⟩
      rw [show ((n : Int) + 1 - 1).toNat = n by omega]
      have nlD : l ≠ D := ne_of_none hl nD
      refine lc_range (lo := 1) (n := n) (fun m H3 => ∃ bs : List Addr, H3 D = some (.lst (bs.map V.ref)) ∧ bs.length = m ∧ (∀ b ∈ bs, GoodT H3 b) ∧ Same H1 H3) ⟨[], upd_same, rfl, fun b hb => absurd hb List.not_mem_nil, same_new nD⟩ (fun m H3 hm hP => ?_) (fun H3 hP => ?_)
      · obtain ⟨bs, hD3, hbl, hgb, s3⟩ := hP
        refine ⟨rfl, _, rfl, _, rfl, _, rfl, n, rfl, by omega, by omega, fun p H4 np hp s4 => ?_⟩
        have hdl := dueN_len n (n - 1)
        refine ⟨_, rfl, _, 1, rfl, rfl, p, _, _, _, rfl, rfl, SqL.of hp, at_of (j := m) (by omega) (int_at (getD_some' (by omega))), line_small (by show 3 ≤ 16777216; decide), fun t nt => ?_⟩
        have s5 := same_new (o := .tup [.int (n : Int), .int (1 + (m : Int)), .int ((dueN n (n - 1)).getD m 0)]) nt
        have hD5 := s5 _ _ (s4 _ _ hD3)
        have ntD : t ≠ D := (ne_of_none (s4 _ _ hD3) nt).symm
        refine ⟨_, hD5, line_lt (by rw [List.length_map]; omega), bs ++ [t], by rw [upd_same, List.map_append]; rfl, by rw [List.length_append, hbl]; rfl, fun b hb => ?_, fun u o e => ?_⟩
        · rcases List.mem_append.mp hb with hb | hb
          · obtain ⟨n', d', g1, g2, g3, e⟩ := ((hgb b hb).same s4).same s5
            refine ⟨n', d', g1, g2, g3, ?_⟩
            rw [upd_ne (fun z => by rw [z, hD5] at e; cases e)]
            exact e
          · rw [List.mem_singleton.mp hb]
            refine ⟨n, m + 1, by omega, by omega, by omega, ?_⟩
            rw [upd_ne ntD, upd_same, due_most n (by omega) m hm, show ((m + 1 : Nat) : Int) = 1 + (m : Int) by omega]
            rfl
        · rw [upd_ne (ne_of_none e nD)]
          exact s5 _ _ (s4 _ _ (s3 _ _ e))
      · obtain ⟨bs, hD3, hbl, hgb, s3⟩ := hP
        refine ⟨l, D, _, _, rfl, rfl, s3 _ _ hl, hD3, line_small (by rw [List.length_map, List.length_map]; omega), fun r nr => ?_⟩
        have s4 := same_new (o := .lst (as.map V.ref ++ bs.map V.ref)) nr
        refine ⟨r, as ++ bs, _, _, _, _, _, rfl, by rw [upd_same, List.map_append], by rw [List.length_append]; omega, fun b hb => ?_, (sm.trans s3).trans s4⟩
        rcases List.mem_append.mp hb with hb | hb
        · exact ((hg b hb).same s3).same s4
        · exact (hgb b hb).same s4
    · obtain ⟨l, as, y2, y3, y4, y5, y6, rfl, hl, hal, hg, sm⟩ := hW
      refine ⟨_, rfl, _, rfl, _, rfl, l, _, rfl, SqL.of hl, fun p np => ?_⟩
      have t1 := same_new (o := .lst (as.map V.ref).reverse) np
      have hp1 : (upd H1 p (.lst (as.map V.ref).reverse)) p = some (.lst (as.reverse.map V.ref)) := by rw [upd_same, List.map_reverse]
      have hl1 := t1 _ _ hl
      have sm1 := sm.trans t1
      have hg1 : ∀ b ∈ as, GoodT (upd H1 p (.lst (as.map V.ref).reverse)) b := fun b hb => (hg b hb).same t1
      generalize upd H1 p (.lst (as.map V.ref).reverse) = H2 at hp1 hl1 sm1 hg1 ⊢
      refine ⟨line_small (by show 2 ≤ 16777216; decide), fun q2 nq2 => ?_⟩
      have t2 := same_new (o := .lst [.ref l, .ref p]) nq2
      refine ⟨_, rfl, 63, rfl, a, _, rfl, (sm1.trans t2).seq hS, fun c nc => ?_⟩
      have t3 := same_new (o := .lst (cutV (ns.map V.int) none (some 63))) nc
      have t23 := t2.trans t3
      refine ⟨c, cutI ns none (some 63), rfl, SqL.of (by rw [upd_same, cut_ints]), _, 2, rfl, rfl, (show (0 : Int) < 2 by decide), ?_⟩
      have hq3 := t3 _ _ (upd_same (H := H2) (a := q2) (o := .lst [.ref l, .ref p]))
      have hl3 := t23 _ _ hl1
      have hp3 := t23 _ _ hp1
      have hg3 : ∀ b ∈ as, GoodT (upd (upd H2 q2 (.lst [.ref l, .ref p])) c (.lst (cutV (ns.map V.int) none (some 63)))) b := fun b hb => (hg1 b hb).same t23
      generalize upd (upd H2 q2 (.lst [.ref l, .ref p])) c (.lst (cutV (ns.map V.int) none (some 63))) = H3 at hq3 hl3 hp3 hg3 ⊢
      obtain ⟨r, er, bs, hr, hb⟩ : ∃ r, atI [V.ref l, V.ref p] ((cutI ns none (some 63)).sum % 2) = some (.ref r) ∧ ∃ bs : List Addr, H3 r = some (.lst (bs.map V.ref)) ∧ ∀ b ∈ bs, b ∈ as := by
        have h01 : (cutI ns none (some 63)).sum % 2 = 0 ∨ (cutI ns none (some 63)).sum % 2 = 1 := by omega
        rcases h01 with e | e
        · rw [e]
          exact ⟨l, rfl, as, hl3, fun b hb => hb⟩
        · rw [e]
          exact ⟨p, rfl, as.reverse, hp3, fun b hb => List.mem_reverse.mp hb⟩
      refine ⟨q2, _, _, _, rfl, rfl, SqL.of hq3, er, line_small (by show 2 ≤ 16777216; decide), fun o no => ?_⟩
      have t4 := same_new (o := .lst [.ref l, .ref r]) no
      have hl4 := t4 _ _ hl3
      have hr4 := t4 _ _ hr
      have hg4 : ∀ b ∈ as, GoodT (upd H3 o (.lst [.ref l, .ref r])) b := fun b hb => (hg3 b hb).same t4
      have ho4 : (upd H3 o (.lst [.ref l, .ref r])) o = some (.lst [.ref l, .ref r]) := upd_same
      generalize upd H3 o (.lst [.ref l, .ref r]) = H4 at hl4 hr4 hg4 ho4 ⊢
      refine ⟨o, rfl, ⟨_, SqL.of ho4⟩, ?_⟩
      refine for_list (xs := [.ref l, .ref r]) (fun m σ H5 => ∃ (y2 y3 y4 y5 y6 : Option V), σ = [some (.ref a), some (.ref l), y2, y3, y4, y5, y6] ∧ H5 = H4) ⟨_, _, _, _, _, rfl, rfl⟩ (fun m σ H5 _ hW => by obtain ⟨_, _, _, _, _, _, rfl⟩ := hW; exact SqL.of ho4) (fun m x σ H5 hx hW => ?_) (fun σ H5 hW => q _)
      obtain ⟨z2, z3, z4, z5, z6, rfl, rfl⟩ := hW
      obtain ⟨rw', cs, rfl, hrw, hcs⟩ : ∃ (rw' : Addr) (cs : List Addr), x = .ref rw' ∧ H5 rw' = some (.lst (cs.map V.ref)) ∧ ∀ b ∈ cs, b ∈ as := by
        match m, hx with
        | 0, hx => exact ⟨l, as, (Option.some.inj hx).symm, hl4, fun b hb => hb⟩
        | 1, hx => exact ⟨r, bs, (Option.some.inj hx).symm, hr4, hb⟩
        | m + 2, hx => cases hx
      refine ⟨_, rfl, rw', rfl, ⟨_, SqL.of hrw⟩, ?_⟩
      refine for_list (xs := cs.map V.ref) (fun m σ H6 => ∃ (y2 y4 y5 y6 : Option V), σ = [some (.ref a), some (.ref l), y2, some (.ref rw'), y4, y5, y6] ∧ H6 = H5) ⟨_, _, _, _, rfl, rfl⟩ (fun m σ H6 _ hW => by obtain ⟨_, _, _, _, _, rfl⟩ := hW; exact SqL.of hrw) (fun m x σ H6 hx hW => ?_) (fun σ H6 hW => ?_)
      · obtain ⟨x2, x4, x5, x6, rfl, rfl⟩ := hW
        obtain ⟨t, et, rfl⟩ := ref_at_inv' hx
        obtain ⟨n, d, g1, g2, g3, ht⟩ := hg4 t (hcs t (List.mem_of_getElem? et))
        refine ⟨t, _, rfl, .inl (.inl ht), rfl, _, _, rfl, _, _, rfl, _, _, rfl, rfl, ?_⟩
        refine ⟨_, rfl, _, rfl, n, d, rfl, g1, g2, g3, ?_⟩
        refine ⟨_, rfl, _, _, _, _, true, rfl, .ty _, .base (.int _), kit_ty (by decide +kernel), true, rfl, iteF ?_⟩
        refine ⟨_, rfl, _, _, _, _, false, rfl, .ty _, .base (.int _), kit_ty (by decide +kernel), false, rfl, iteF ?_⟩
        exact ⟨_, rfl, _, rfl, rfl, _, rfl, iteNS rfl ⟨_, _, _, _, rfl, rfl⟩⟩
      · obtain ⟨x2, x4, x5, x6, rfl, rfl⟩ := hW
        exact ⟨_, _, _, _, _, rfl, rfl⟩
end
end Fo
--LAWCALL ok_law F_law T__law_due T_most_by_places (ok_due (k := 8) T__law_due B) (ok_most (k := 8) T_most_by_places T_check_size T_count_orders (ok_size (k := 6) T_check_size T_is_whole B) (ok_fac (k := 7) T_count_orders B) B m_MOST_THINGS) B
namespace Fo
open PySem PySem.Spec PyProof.Rows L2
theorem all_mk {l : PySem.W.OpenLaw} {w : World} {K : PySem.W.Frag} {h : Heap} {mg : Str → Option Value} {fa : Addr} (X : K.In h) (G : h.Ns mainGlobals mg) (hfa : mg "law" = some (.ref fa))
    {f0 f1 f2 f3 f4 f5 : Addr} {od0 an0 od1 an1 od2 an2 od3 an3 od4 an4 od5 an5 : Option Addr} {sl0 sl1 sl2 sl3 sl4 sl5 : Array (Option Value)} {oc0 kV0 dc0 pm0 cd0 ct0 oc1 kV1 dc1 pm1 cd1 ct1 oc2 kV2 dc2 pm2 cd2 ct2 oc3 kV3 dc3 pm3 cd3 ct3 oc4 kV4 dc4 pm4 cd4 ct4 oc5 kV5 dc5 pm5 cd5 ct5 : Value} {tk_MOST_THINGS : Tok}
    (a0 : PySem.W.nsIn K mainGlobals "is_whole" = some (some (.ref f0))) (l0 : K.lookup f0 = some ⟨oc0, od0, .func (PySem.W.fnOf "is_whole" "is_whole" (defArgs s_is_whole) (defBody s_is_whole) (defScope s_is_whole) .none kV0 dc0 pm0 an0 cd0 ct0), sl0⟩) (c0 : PySem.W.codeIn K cd0 "is_whole" = true) (k0 : PySem.W.keepIn K (.ref f0) = true)
    (a1 : PySem.W.nsIn K mainGlobals "check_size" = some (some (.ref f1))) (l1 : K.lookup f1 = some ⟨oc1, od1, .func (PySem.W.fnOf "check_size" "check_size" (defArgs s_check_size) (defBody s_check_size) (defScope s_check_size) .none kV1 dc1 pm1 an1 cd1 ct1), sl1⟩) (c1 : PySem.W.codeIn K cd1 "check_size" = true) (k1 : PySem.W.keepIn K (.ref f1) = true)
    (a2 : PySem.W.nsIn K mainGlobals "count_orders" = some (some (.ref f2))) (l2 : K.lookup f2 = some ⟨oc2, od2, .func (PySem.W.fnOf "count_orders" "count_orders" (defArgs s_count_orders) (defBody s_count_orders) (defScope s_count_orders) .none kV2 dc2 pm2 an2 cd2 ct2), sl2⟩) (c2 : PySem.W.codeIn K cd2 "count_orders" = true) (k2 : PySem.W.keepIn K (.ref f2) = true)
    (a3 : PySem.W.nsIn K mainGlobals "most_by_places" = some (some (.ref f3))) (l3 : K.lookup f3 = some ⟨oc3, od3, .func (PySem.W.fnOf "most_by_places" "most_by_places" (defArgs s_most_by_places) (defBody s_most_by_places) (defScope s_most_by_places) .none kV3 dc3 pm3 an3 cd3 ct3), sl3⟩) (c3 : PySem.W.codeIn K cd3 "most_by_places" = true) (k3 : PySem.W.keepIn K (.ref f3) = true)
    (a4 : PySem.W.nsIn K mainGlobals "_law_due" = some (some (.ref f4))) (l4 : K.lookup f4 = some ⟨oc4, od4, .func (PySem.W.fnOf "_law_due" "_law_due" (defArgs s_law_due) (defBody s_law_due) (defScope s_law_due) .none kV4 dc4 pm4 an4 cd4 ct4), sl4⟩) (c4 : PySem.W.codeIn K cd4 "_law_due" = true) (k4 : PySem.W.keepIn K (.ref f4) = true)
    (a5 : PySem.W.nsIn K mainGlobals "law" = some (some (.ref f5))) (l5 : K.lookup f5 = some ⟨oc5, od5, .func (PySem.W.fnOf "law" "law" (defArgs s_law) (defBody s_law) (defScope s_law) .none kV5 dc5 pm5 an5 cd5 ct5), sl5⟩) (c5 : PySem.W.codeIn K cd5 "law" = true) (k5 : PySem.W.keepIn K (.ref f5) = true)
    (g_MOST_THINGS : PySem.W.nsIn K mainGlobals "MOST_THINGS" = some (some (.int 12 tk_MOST_THINGS)))
    (z_bool : PySem.W.nsIn K mainGlobals "bool" = some none)
    (z_int : PySem.W.nsIn K mainGlobals "int" = some none)
    (z_isinstance : PySem.W.nsIn K mainGlobals "isinstance" = some none)
    (z_range : PySem.W.nsIn K mainGlobals "range" = some none)
    (z_sum : PySem.W.nsIn K mainGlobals "sum" = some none)
    : ∃ fd : FuncData, (∀ (s : Shared) (v : Value), BindsTo s fd ⟨[v], []⟩ [("script", v)]) ∧ ∀ base : Heap, K.In base → base.Ns mainGlobals mg → FnOk l.prog w K mg base CX0 10 fa fd ["script"] (spLaw K) := by
  have e := hfa.symm.trans (PySem.W.mg_of X G a5)
  cases e
  have F0 := fun_mk (st := s_is_whole) l0 c0 k0
  have F1 := fun_mk (st := s_check_size) l1 c1 k1
  have F2 := fun_mk (st := s_count_orders) l2 c2 k2
  have F3 := fun_mk (st := s_most_by_places) l3 c3 k3
  have F4 := fun_mk (st := s_law_due) l4 c4 k4
  have F5 := fun_mk (st := s_law) l5 c5 k5
  have T_is_whole : Df K mg "is_whole" s_is_whole ["thing"] f0 _ := ⟨F0, F0.binds (ps := ["thing"]) (fun _ _ _ _ _ _ us hl => match us, hl with | [_], _ => rfl), PySem.W.mg_of X G a0⟩
  have T_check_size : Df K mg "check_size" s_check_size ["thing", "most"] f1 _ := ⟨F1, F1.binds (ps := ["thing", "most"]) (fun _ _ _ _ _ _ us hl => match us, hl with | [_, _], _ => rfl), PySem.W.mg_of X G a1⟩
  have T_count_orders : Df K mg "count_orders" s_count_orders ["n"] f2 _ := ⟨F2, F2.binds (ps := ["n"]) (fun _ _ _ _ _ _ us hl => match us, hl with | [_], _ => rfl), PySem.W.mg_of X G a2⟩
  have T_most_by_places : Df K mg "most_by_places" s_most_by_places ["n", "d"] f3 _ := ⟨F3, F3.binds (ps := ["n", "d"]) (fun _ _ _ _ _ _ us hl => match us, hl with | [_, _], _ => rfl), PySem.W.mg_of X G a3⟩
  have T__law_due : Df K mg "_law_due" s_law_due ["n"] f4 _ := ⟨F4, F4.binds (ps := ["n"]) (fun _ _ _ _ _ _ us hl => match us, hl with | [_], _ => rfl), PySem.W.mg_of X G a4⟩
  have B : Bi mg := ⟨PySem.W.mg_none_of X G z_bool, PySem.W.mg_none_of X G z_int, PySem.W.mg_none_of X G z_isinstance, PySem.W.mg_none_of X G z_range, PySem.W.mg_none_of X G z_sum⟩
  have m_MOST_THINGS := PySem.W.mg_of X G g_MOST_THINGS
  exact ⟨PySem.W.fnOf "law" "law" (defArgs s_law) (defBody s_law) (defScope s_law) .none kV5 dc5 pm5 an5 cd5 ct5, fun s v => .of_eq rfl, fun base _ _ => ok_law F5 T__law_due T_most_by_places (ok_due (k := 8) T__law_due B) (ok_most (k := 8) T_most_by_places T_check_size T_count_orders (ok_size (k := 6) T_check_size T_is_whole B) (ok_fac (k := 7) T_count_orders B) B m_MOST_THINGS) B⟩
end Fo
open PySem PySem.W PyProof.Rows
set_option maxRecDepth 100000 in
set_option maxHeartbeats 0 in
theorem PySem.Challenge.cw_farorders_k59_most_by_places_holds : PySem.Challenge.rw_farorders_k59_most_by_places.Holds := by
  w_on; o_law; k_head; (case hw => w_witness2)
  k_fill
  refine L2.walk_of (l := PySem.Challenge.rw_farorders_k59_most_by_places) (n := 63) (k := 10) (x := "script") (CX := fun _ => L2.CX0) (sp := fun w => Fo.spLaw _) rfl (by decide) rfl ⟨rfl, by decide, by decide⟩ (fun w h Y => PySem.W.kIn_of Y) ?F (fun _ _ a ns hl _ hS => ⟨a, ns, rfl, hS, hl, fun _ => rfl⟩) (fun _ _ _ _ _ h => h)
  case F =>
    intro w mg fa h KX G hmg
    refine' Fo.all_mk KX G hmg ?a0 ?l0 ?c0 ?k0 ?a1 ?l1 ?c1 ?k1 ?a2 ?l2 ?c2 ?k2 ?a3 ?l3 ?c3 ?k3 ?a4 ?l4 ?c4 ?k4 ?a5 ?l5 ?c5 ?k5 ?g_MOST_THINGS ?z_bool ?z_int ?z_isinstance ?z_range ?z_sum
    (case a0 => k_is); (case l0 => k_is); (case c0 => k_is); (case k0 => k_is); (case a1 => k_is); (case l1 => k_is); (case c1 => k_is); (case k1 => k_is); (case a2 => k_is); (case l2 => k_is); (case c2 => k_is); (case k2 => k_is); (case a3 => k_is); (case l3 => k_is); (case c3 => k_is); (case k3 => k_is); (case a4 => k_is); (case l4 => k_is); (case c4 => k_is); (case k4 => k_is); (case a5 => k_is); (case l5 => k_is); (case c5 => k_is); (case k5 => k_is); (case g_MOST_THINGS => k_is); (case z_bool => k_is); (case z_int => k_is); (case z_isinstance => k_is); (case z_range => k_is); (case z_sum => k_is)

