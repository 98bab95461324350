import PyProof.Rows.All
import Wide.All
import OpenK.AllK
import Wide.FinOn
import HandS.ForMost
import HandS.IsInst
import HandS.Conv
import HandS.Style
import HandS.More
import HandS.Evl
import HandS.Zip
import HandS.SetFor
import HandS.Sort
import HandS.Wide
import HandS.Deep
import KE.SortData
import HandS.DictComp
import HandS.DictTup
import HandS.TupLen
import KE.KDictKeyed
import KE.KDictWalk
import HandS.TupAny
import KE.KDictDisplayH
import KE.KDictSum
import KE.KDictCopyH
import KE.SortData
import HandS.DictSubView
import KE.DataMinMax
import KE.LtData
import HandS.Walk
import PySem.Challenge.RW_farorders_k14_whole_walks_of_few_things
set_option Elab.async false
set_option linter.all false
set_option maxRecDepth 100000
namespace Fo
open PySem PySem.Spec PyProof.Rows L2
/-! ### lists and orders -/
def rg (n : Nat) : List Int := (List.range n).map fun k => ((k : Nat) : Int)
def IsOrd (n : Nat) (ns : List Int) : Prop := ns.Perm (rg n)
theorem rg_len (n : Nat) : (rg n).length = n := by
  unfold rg
  rw [List.length_map, List.length_range]
theorem rg_mem {n : Nat} {x : Int} : x ∈ rg n ↔ 0 ≤ x ∧ x < n := by
  unfold rg
  rw [List.mem_map]
  constructor
  · rintro ⟨k, hk, rfl⟩
    have := List.mem_range.mp hk
    omega
  · rintro ⟨h0, h1⟩
    exact ⟨x.toNat, List.mem_range.mpr (by omega), by omega⟩
theorem rg_nodup (n : Nat) : (rg n).Nodup := by
  unfold rg
  exact List.Pairwise.map _ (fun a b h e => h (by omega)) List.nodup_range
theorem rg_sorted (n : Nat) : (rg n).Pairwise (· ≤ ·) := by
  unfold rg
  exact List.Pairwise.map _ (fun a b h => by omega) List.pairwise_lt_range
theorem rg_V (n : Nat) : rgV 0 (n : Int) = (rg n).map V.int := by
  unfold rgV rg
  rw [List.map_map, show ((n : Int) - 0).toNat = n by omega]
  apply List.map_congr_left
  intro a _
  show V.int (0 + (a : Int)) = V.int (a : Int)
  rw [Int.zero_add]
theorem IsOrd.len {n : Nat} {ns : List Int} (h : IsOrd n ns) : ns.length = n := (List.Perm.length_eq h).trans (rg_len n)
theorem IsOrd.mem {n : Nat} {ns : List Int} (h : IsOrd n ns) {x : Int} (m : x ∈ ns) : 0 ≤ x ∧ x < n := rg_mem.mp ((List.Perm.mem_iff h).mp m)
theorem IsOrd.nodup {n : Nat} {ns : List Int} (h : IsOrd n ns) : ns.Nodup := (List.Perm.nodup_iff h).mpr (rg_nodup n)
/-- two sorted lists of the same things are one -/
theorem sorted_eq : ∀ {a b : List Int}, a.Perm b → a.Pairwise (· ≤ ·) → b.Pairwise (· ≤ ·) → a = b := by
  intro a b hp ha hb
  exact List.Perm.eq_of_pairwise (fun x y _ _ h1 h2 => by omega) ha hb hp
/-- the things at p and p + 1 change places -/
def sw (xs : List Int) (p : Nat) : List Int := (xs.set p (xs.getD (p + 1) 0)).set (p + 1) (xs.getD p 0)
theorem split2 : ∀ {xs : List Int} {p : Nat}, p + 1 < xs.length → ∃ A a b B, xs = A ++ a :: b :: B ∧ A.length = p
  | [], p, h => by simp at h
  | [_], p, h => by simp at h
  | a :: b :: r, 0, _ => ⟨[], a, b, r, rfl, rfl⟩
  | a :: b :: r, p + 1, h => by
    obtain ⟨A, x, y, B, e, l⟩ := split2 (xs := b :: r) (p := p) (by simpa using h)
    exact ⟨a :: A, x, y, B, by rw [e]; rfl, by rw [List.length_cons, l]⟩
theorem sw_at : ∀ (A : List Int) (a b : Int) (B : List Int), sw (A ++ a :: b :: B) A.length = A ++ b :: a :: B
  | [], a, b, B => rfl
  | x :: A, a, b, B => by
    have ih := sw_at A a b B
    unfold sw at ih ⊢
    show x :: _ = x :: _
    exact congrArg (x :: ·) ih
theorem sw_perm {xs : List Int} {p : Nat} (h : p + 1 < xs.length) : (sw xs p).Perm xs := by
  obtain ⟨A, a, b, B, rfl, rfl⟩ := split2 h
  rw [sw_at]
  exact List.Perm.append_left A (List.Perm.swap a b B)
theorem sw_len (xs : List Int) (p : Nat) : (sw xs p).length = xs.length := by
  unfold sw
  rw [List.length_set, List.length_set]
theorem sw_ord {n : Nat} {xs : List Int} {p : Nat} (o : IsOrd n xs) (h : p + 1 < n) : IsOrd n (sw xs p) :=
  (sw_perm (by rw [o.len]; exact h)).trans o
theorem sw_V {xs : List Int} {p : Nat} {a b : Int} (ha : xs[p]? = some a) (hb : xs[p + 1]? = some b) : ((xs.map V.int).set p (V.int b)).set (p + 1) (V.int a) = (sw xs p).map V.int := by
  unfold sw
  rw [List.getD_eq_getElem?_getD, List.getD_eq_getElem?_getD, ha, hb, List.map_set, List.map_set]
  rfl
theorem pop_ins {xs : List Int} {p : Nat} {a : Int} (h : p + 1 < xs.length) (ha : xs[p]? = some a) : (xs.eraseIdx p).take (p + 1) ++ [a] ++ (xs.eraseIdx p).drop (p + 1) = sw xs p := by
  obtain ⟨A, x, y, B, rfl, rfl⟩ := split2 h
  have ex : x = a := by
    rw [List.getElem?_append_right (Nat.le_refl _), Nat.sub_self] at ha
    exact Option.some.inj ha
  subst ex
  rw [sw_at, List.eraseIdx_append_of_length_le (Nat.le_refl _), Nat.sub_self]
  show (A ++ y :: B).take (A.length + 1) ++ [x] ++ (A ++ y :: B).drop (A.length + 1) = _
  rw [List.take_append, List.drop_append]
  have t : A.length + 1 - A.length = 1 := by omega
  rw [t, List.take_of_length_le (by omega), List.drop_of_length_le (by omega)]
  simp
/-- the order at a walk's end -/
def wEnd (xs : List Int) (ws : List Int) : List Int := ws.foldl (fun x p => sw x p.toNat) xs
theorem wEnd_more {xs ws : List Int} {i : Nat} {p : Int} (h : ws[i]? = some p) : wEnd xs (ws.take (i + 1)) = sw (wEnd xs (ws.take i)) p.toNat := by
  unfold wEnd
  rw [List.take_add_one, h, List.foldl_append]
  rfl
theorem wEnd_ord {n : Nat} {xs : List Int} (o : IsOrd n xs) : ∀ {ws : List Int}, (∀ p ∈ ws, 0 ≤ p ∧ p + 1 < n) → IsOrd n (wEnd xs ws) := by
  intro ws
  induction ws generalizing xs with
  | nil => intro _; exact o
  | cons p ws ih =>
    intro h
    have hp := h p List.mem_cons_self
    exact ih (sw_ord o (by omega)) fun q hq => h q (List.mem_cons_of_mem _ hq)
theorem nodup_len : ∀ {l m : List Int}, l.Nodup → (∀ x ∈ l, x ∈ m) → l.length ≤ m.length
  | [], m, _, _ => Nat.zero_le _
  | a :: l, m, hn, hs => by
    obtain ⟨h1, h2⟩ := List.nodup_cons.mp hn
    have ha := hs a List.mem_cons_self
    have ih := nodup_len (l := l) (m := m.erase a) h2 fun x hx => by
      have ne : x ≠ a := fun e => h1 (by rw [← e]; exact hx)
      exact (List.mem_erase_of_ne ne).mpr (hs x (List.mem_cons_of_mem _ hx))
    rw [List.length_erase_of_mem ha] at ih
    have : 0 < m.length := List.length_pos_of_mem ha
    rw [List.length_cons]
    omega
theorem int_at {ns : List Int} {i : Nat} {x : Int} (h : ns[i]? = some x) : (ns.map V.int)[i]? = some (V.int x) := by
  rw [List.getElem?_map, h]
  rfl
theorem int_at_inv {ns : List Int} {i : Nat} {v : V} (h : (ns.map V.int)[i]? = some v) : ∃ x, ns[i]? = some x ∧ v = V.int x := by
  rw [List.getElem?_map] at h
  cases e : ns[i]? with
  | none => rw [e] at h; cases h
  | some x => rw [e] at h; exact ⟨x, rfl, (Option.some.inj h).symm⟩
theorem line_small {n : Nat} (h : n ≤ 16777216) : n ≤ sizeLine := by rw [sizeLine_eq]; exact h
theorem line_lt {n : Nat} (h : n < 16777216) : n < sizeLine := by rw [sizeLine_eq]; exact h
/-! ### data of ints -/
theorem dp_ints {K : PySem.W.Frag} {H : Hp} : ∀ ns : List Int, DpAll K H (ns.map V.int) (ns.map PyData.int)
  | [] => .nil
  | n :: r => .cons (.int n) (dp_ints r)
theorem dp_list {K : PySem.W.Frag} {H : Hp} {a : Addr} {ns : List Int} (h : H a = some (.lst (ns.map V.int))) : Dp K H (.ref a) (.list (ns.map PyData.int)) := .lst (SqL.of h) (dp_ints ns)
theorem eqv_int (i j : Int) : PyData.eqv (.int i) (.int j) = (i == j) := rfl
end Fo
namespace Fo
open PySem PySem.Spec PyProof.Rows L2
abbrev dI (ns : List Int) : List PyData := ns.map PyData.int
abbrev dL (ns : List Int) : PyData := .list (dI ns)
abbrev dLL (l : List (List Int)) : PyData := .list (l.map dL)
theorem lay_ints : ∀ ns : List Int, PyData.canLayAll0 (dI ns) = true
  | [] => rfl
  | n :: r => by
    show (PyData.canLay0 (.int n) && PyData.canLayAll0 (dI r)) = true
    rw [lay_ints r]
    rfl
theorem depth_ints : ∀ ns : List Int, PyData.depthAll (dI ns) = 0
  | [] => by simp [PyData.depthAll]
  | n :: r => by
    show PyData.depthAll (.int n :: dI r) = 0
    rw [PyData.depthAll, depth_ints r]
    simp [PyData.depth]
theorem lay_list (ns : List Int) : PyData.canLay0 (dL ns) = true := by
  rw [PyData.canLay0]
  exact lay_ints ns
theorem depth_list (ns : List Int) : PyData.depth (dL ns) = 1 := by
  rw [PyData.depth, depth_ints]
theorem shaped_list (ns : List Int) : SeqAt.shaped (dL ns) = true := by
  unfold SeqAt.shaped
  rw [lay_list, depth_list]
  rfl
theorem lay_lists : ∀ l : List (List Int), PyData.canLayAll0 (l.map dL) = true
  | [] => rfl
  | n :: r => by
    show (PyData.canLay0 (dL n) && PyData.canLayAll0 (r.map dL)) = true
    rw [lay_lists r, lay_list]
    rfl
theorem depth_lists : ∀ l : List (List Int), PyData.depthAll (l.map dL) ≤ 1
  | [] => by simp [PyData.depthAll]
  | n :: r => by
    show PyData.depthAll (dL n :: r.map dL) ≤ 1
    rw [PyData.depthAll, depth_list]
    have := depth_lists r
    omega
theorem shaped_lists (l : List (List Int)) : SeqAt.shaped (dLL l) = true := by
  unfold SeqAt.shaped
  rw [Bool.and_eq_true_iff]
  constructor
  · rw [PyData.canLay0]
    exact lay_lists l
  · apply decide_eq_true
    rw [PyData.depth]
    have := depth_lists l
    omega
theorem eqv_list (ns : List Int) : PyData.eqv (dL ns) (dL ns) = true := SeqAt.eqv_refl _ (lay_list ns)
theorem eqv_lists (l : List (List Int)) : PyData.eqv (dLL l) (dLL l) = true := SeqAt.eqv_refl _ (SeqAt.canLay_of_shaped (shaped_lists l))
theorem eqvAll_ints : ∀ a b : List Int, PyData.eqvAll (dI a) (dI b) = decide (a = b)
  | [], [] => by simp [PyData.eqvAll]
  | [], _ :: _ => by simp [PyData.eqvAll]
  | _ :: _, [] => by simp [PyData.eqvAll]
  | x :: a, y :: b => by
    show PyData.eqvAll (.int x :: dI a) (.int y :: dI b) = _
    rw [PyData.eqvAll, eqvAll_ints a b]
    show ((x == y) && decide (a = b)) = decide (x :: a = y :: b)
    by_cases h : x = y
    · subst h
      simp
    · simp [h]
theorem eqv_ints (a b : List Int) : PyData.eqv (dL a) (dL b) = decide (a = b) := by
  rw [PyData.eqv]
  exact eqvAll_ints a b
end Fo
namespace Fo
open PySem PySem.Spec PyProof.Rows L2
/-! ### slices of ints -/
def cutI (ws : List Int) (lo hi : Option Int) : List Int := (ws.drop (HT.sIx ws.length 0 lo)).take (HT.sIx ws.length ws.length hi - HT.sIx ws.length 0 lo)
theorem cut_ints (ws : List Int) (lo hi : Option Int) : cutV (ws.map V.int) lo hi = (cutI ws lo hi).map V.int := by
  unfold cutV cutI
  rw [List.length_map, List.map_take, List.map_drop]
theorem cutI_mem {ws : List Int} {lo hi : Option Int} {x : Int} (h : x ∈ cutI ws lo hi) : x ∈ ws := List.mem_of_mem_drop (List.mem_of_mem_take h)
theorem cutI_len (ws : List Int) (lo hi : Option Int) : (cutI ws lo hi).length ≤ ws.length := by
  unfold cutI
  rw [List.length_take, List.length_drop]
  omega
theorem cutI_head (ws : List Int) (k : Nat) : cutI ws none (some (k : Int)) = ws.take k := by
  unfold cutI
  rw [HT.sIx_none, HT.sIx_nat, List.drop_zero, Nat.sub_zero]
  by_cases h : k ≤ ws.length
  · rw [Nat.min_eq_left h]
  · rw [Nat.min_eq_right (by omega), List.take_length, List.take_of_length_le (by omega)]
theorem cutI_tail (ws : List Int) (k : Nat) : cutI ws (some (k : Int)) none = ws.drop k := by
  unfold cutI
  rw [HT.sIx_none, HT.sIx_nat]
  by_cases h : k ≤ ws.length
  · rw [Nat.min_eq_left h, List.take_of_length_le (by rw [List.length_drop]; exact Nat.le_refl _)]
  · rw [Nat.min_eq_right (by omega), List.drop_of_length_le (Nat.le_refl _), List.drop_of_length_le (by omega), List.take_nil]
end Fo
namespace Fo
open PySem PySem.Spec PyProof.Rows L2
/-! ### the text -/
def topS (i : Nat) : Stmt := PySem.Challenge.pw_farorders_k14_whole_walks_of_few_things.main.body.getD i (.Pass ⟨0, 0, 0, 0⟩)
abbrev s_OrderError : Stmt := topS 1
abbrev s_NoOrder : Stmt := topS 2
abbrev s_NoFit : Stmt := topS 3
abbrev s_NoPlace : Stmt := topS 4
abbrev s_is_whole : Stmt := topS 6
abbrev s_is_order : Stmt := topS 9
abbrev s_check_order : Stmt := topS 10
abbrev s_check_orders : Stmt := topS 11
abbrev s_check_fit : Stmt := topS 12
abbrev s_places_in : Stmt := topS 13
abbrev s_seats_in : Stmt := topS 14
abbrev s_is_walk : Stmt := topS 16
abbrev s_walk_end : Stmt := topS 17
abbrev s_exchange : Stmt := topS 18
abbrev s_short_walk : Stmt := topS 19
abbrev s_first_turned : Stmt := topS 20
abbrev s_rounds_between : Stmt := topS 21
abbrev s_followers_between : Stmt := topS 22
abbrev s_round_from : Stmt := topS 23
abbrev s_steps_between : Stmt := topS 24
abbrev s_law_deck : Stmt := topS 26
abbrev s_law_draw : Stmt := topS 27
abbrev s_law_rounds : Stmt := topS 28
abbrev s_law_walks : Stmt := topS 29
abbrev s_law : Stmt := topS 30
/-- a def of the text, where it stands -/
structure Df (K : PySem.W.Frag) (mg : Str → Option Value) (x : Str) (st : Stmt) (ps : List Str) (f : Addr) (fd : FuncData) : Prop where
  F : Fun K x x st f fd
  b : Binds K fd ps []
  g : mg x = some (.ref f)
/-- the built-in names as they were -/
structure Bi (mg : Str → Option Value) : Prop where
  ValueError : mg "ValueError" = none
  all : mg "all" = none
  bool : mg "bool" = none
  enumerate : mg "enumerate" = none
  int : mg "int" = none
  isinstance : mg "isinstance" = none
  len : mg "len" = none
  list : mg "list" = none
  max : mg "max" = none
  min : mg "min" = none
  range : mg "range" = none
  sorted : mg "sorted" = none
  sum : mg "sum" = none
  tuple : mg "tuple" = none
  zip : mg "zip" = none
end Fo
namespace Fo
open PySem PySem.Spec PyProof.Rows L2
theorem same_new {H : Hp} {p : Addr} {o : HO} (h : H p = none) : Same H (upd H p o) := fun b x e => by
  rw [upd_ne (ne_of_none e h)]
  exact e
theorem at2_0 {x y : V} : atI [x, y] 0 = some x := rfl
theorem at2_1 {x y : V} : atI [x, y] 1 = some y := rfl
end Fo
namespace Fo
open PySem PySem.Spec PyProof.Rows L2
theorem pop_perm : ∀ {xs : List Int} {k : Nat} {y : Int}, xs[k]? = some y → (y :: xs.eraseIdx k).Perm xs
  | [], k, y, h => by simp at h
  | a :: r, 0, y, h => by
    have e : a = y := Option.some.inj h
    subst e
    exact List.Perm.refl _
  | a :: r, k + 1, y, h => by
    have ih := pop_perm (xs := r) (k := k) (y := y) h
    show (y :: a :: r.eraseIdx k).Perm (a :: r)
    exact (List.Perm.swap a y _).trans (List.Perm.cons a ih)
theorem map_erase : ∀ (xs : List Int) (k : Nat), (xs.map V.int).eraseIdx k = (xs.eraseIdx k).map V.int
  | [], k => rfl
  | a :: r, 0 => rfl
  | a :: r, k + 1 => congrArg (V.int a :: ·) (map_erase r k)
/-- what len asks of a list or a tuple -/
abbrev rLenS (K : PySem.W.Frag) : List V → Hp → VK → Prop := fun xs H Q => ∃ p ys, xs = [.ref p] ∧ (SqL K H p ys ∨ SqT K H p ys) ∧ Q (.int ys.length) H
theorem seq_ix {i : Int} {k n : Nat} (e : i = (k : Int)) (h : k < n) : seqIndex? i n = some k := by
  subst e
  unfold seqIndex?
  have h1 : ¬ ((k : Int) < 0) := by omega
  simp only [h1, if_false]
  have h2 : (decide ((0 : Int) ≤ (k : Int)) && decide ((k : Int) < (n : Int))) = true := by
    simp
    omega
  rw [if_pos h2, Int.toNat_natCast]
theorem ix_n {i : Int} {k n : Nat} (e : i = (k : Int)) (h : k < n) : ixN n i = some k := by
  subst e
  unfold ixN
  rw [if_pos (by omega), if_pos (by omega), Int.toNat_natCast]
end Fo
namespace Fo
open PySem PySem.Spec PyProof.Rows L2
abbrev rMax2 : List V → Hp → VK → Prop := fun xs H Q => ∃ i j, xs = [.int i, .int j] ∧ Q (.int (if j > i then j else i)) H
abbrev rMin2 : List V → Hp → VK → Prop := fun xs H Q => ∃ i j, xs = [.int i, .int j] ∧ Q (.int (if j < i then j else i)) H
abbrev rInt1 : List V → Hp → VK → Prop := fun xs H Q => (∃ i, xs = [.int i] ∧ Q (.int i) H) ∨ ∃ k, xs = [.bl k] ∧ Q (.int (if k then 1 else 0)) H
theorem filter_more {l : List Int} {m : Nat} {x : Int} (p : Int → Bool) (h : l[m]? = some x) : (l.take (m + 1)).filter p = (l.take m).filter p ++ (if p x then [x] else []) := by
  rw [List.take_add_one, h, List.filter_append]
  show _ ++ List.filter p [x] = _
  rw [List.filter_cons]
  rfl
end Fo
namespace Fo
open PySem PySem.Spec PyProof.Rows L2
/-- a loop over enumerate of a list that stands still -/
theorem for_enumL {K : PySem.W.Frag} {a : Addr} {xs : List V} {g : TG} {tb : TS} {D : Ends} {σ : L2.St} {H : Hp} (Pv : Nat → L2.St → Hp → Prop) (h0 : Pv 0 σ H) (hq : ∀ i σ H, Pv i σ H → SqL K H a xs)
    (hs : ∀ (i : Nat) (x : V) (T : Addr) (σ : L2.St) (H : Hp), xs[i]? = some x → Pv i σ H → H T = none → g (.ref T) σ (upd H T (.tup [.int (i : Nat), x])) fun σ2 H2 => tb { D with nx := Pv (i + 1), ct := Pv (i + 1), bk := D.nx } σ2 H2) (hd : ∀ σ H, Pv xs.length σ H → D.nx σ H) :
    ∃ W : Nat → Nat → L2.St → Hp → Prop, (∃ m, W 0 m σ H) ∧ ∀ i m σ H, W i m σ H →
      ((Ite K a).stop i H ∧ D.nx σ H) ∨ ((Ite K a).go i H ∧ ∃ N : L2.St → Hp → Prop, (∀ σ' H', N σ' H' → ∃ m', m' < m ∧ W (i + 1) m' σ' H') ∧ ∀ v H', (Ite K a).yld i H v H' → g v σ H' fun σ2 H2 => tb { D with nx := N, ct := N, bk := D.nx } σ2 H2) := by
  refine ⟨fun i m σ H => m = xs.length - i ∧ i ≤ xs.length ∧ Pv i σ H, ⟨xs.length, rfl, Nat.zero_le _, h0⟩, ?_⟩
  rintro i m σ H ⟨rfl, hi, p⟩
  have qx := hq i σ H p
  by_cases hlt : i < xs.length
  · have hx : xs[i]? = some xs[i] := List.getElem?_eq_getElem hlt
    refine .inr ⟨⟨xs, _, qx, hx⟩, Pv (i + 1), fun σ' H' p' => ⟨xs.length - (i + 1), by omega, rfl, hlt, p'⟩, fun v H' y => ?_⟩
    obtain ⟨T, x', rfl, hT, rfl, f1⟩ := y
    exact hs i x' T σ H (f1 xs qx) p hT
  · have e : i = xs.length := by omega
    subst e
    exact .inl ⟨⟨xs, qx, Nat.le_refl _⟩, hd σ H p⟩
/-- a comprehension over enumerate of a list that stands still -/
theorem lc_enumL {K : PySem.W.Frag} {a : Addr} {xs : List V} {g : TG} {tt : TT} {te : TE} {vs : List Nat} {σ : L2.St} {H1 : Hp} {D : Addr} {Qd : Hp → Prop} (Pv : Nat → Hp → Prop) (h0 : Pv 0 (upd H1 D (.lst []))) (hl : ∀ i H, i ≤ xs.length → Pv i H → SqL K H a xs)
    (hs : ∀ (i : Nat) (x : V) (T : Addr) (H : Hp), xs[i]? = some x → Pv i H → H T = none → g (.ref T) (wipe σ vs) (upd H T (.tup [.int (i : Nat), x])) fun σ2 H2 => wipe σ2 vs = wipe σ vs ∧ tt σ2 H2 fun b H3 =>
      if b = true then te σ2 H3 fun y H4 => ∃ acc, H4 D = some (.lst acc) ∧ acc.length < sizeLine ∧ Pv (i + 1) (upd H4 D (.lst (acc ++ [y]))) else Pv (i + 1) H3) (hd : ∀ H, Pv xs.length H → Qd H) :
    ∃ W : Nat → Nat → Hp → Prop, (∃ m, W 0 m (upd H1 D (.lst []))) ∧ ∀ i m H, W i m H →
      ((Ite K a).stop i H ∧ Qd H) ∨ ((Ite K a).go i H ∧ ∃ Nx : Hp → Prop, (∀ H', Nx H' → ∃ m', m' < m ∧ W (i + 1) m' H') ∧ ∀ x H', (Ite K a).yld i H x H' → g x (wipe σ vs) H' fun σ2 H2 => wipe σ2 vs = wipe σ vs ∧ tt σ2 H2 fun b H3 =>
        if b = true then te σ2 H3 fun y H4 => ∃ acc, H4 D = some (.lst acc) ∧ acc.length < sizeLine ∧ Nx (upd H4 D (.lst (acc ++ [y]))) else Nx H3) := by
  refine ⟨fun i m H => m = xs.length - i ∧ i ≤ xs.length ∧ Pv i H, ⟨xs.length, by simp, Nat.zero_le _, h0⟩, ?_⟩
  rintro i m H ⟨rfl, hi, p⟩
  have q := hl i H hi p
  by_cases hlt : i < xs.length
  · refine .inr ⟨⟨xs, xs[i], q, by simp [hlt]⟩, Pv (i + 1), fun H' p' => ⟨xs.length - (i + 1), by omega, rfl, hlt, p'⟩, fun x H' y => ?_⟩
    obtain ⟨T, x', rfl, hT, rfl, f1⟩ := y
    exact hs i x' T H (f1 xs q) p hT
  · have e : i = xs.length := by omega
    subst e
    exact .inl ⟨⟨xs, q, Nat.le_refl _⟩, hd H p⟩
/-! ### the back of an order -/
def IsBack (ns ps : List Int) : Prop := ps.length = ns.length ∧ ∀ (j : Nat) (x : Int), ns[j]? = some x → ps[x.toNat]? = some (j : Int)
theorem ord_at {n : Nat} {ns : List Int} (o : IsOrd n ns) {t : Nat} (h : t < n) : ∃ j : Nat, j < n ∧ ns[j]? = some (t : Int) := by
  have m : (t : Int) ∈ ns := (List.Perm.mem_iff o).mpr (rg_mem.mpr ⟨by omega, by omega⟩)
  obtain ⟨j, hj⟩ := List.mem_iff_getElem?.mp m
  exact ⟨j, by have := (List.getElem?_eq_some_iff.mp hj).1; rw [o.len] at this; exact this, hj⟩
theorem ord_ix {n : Nat} {ns : List Int} (o : IsOrd n ns) {j : Nat} (h : j < n) : ∃ x : Int, ns[j]? = some x ∧ 0 ≤ x ∧ x < n := by
  have hj : j < ns.length := by rw [o.len]; exact h
  exact ⟨ns[j], List.getElem?_eq_getElem hj, o.mem (List.getElem_mem hj)⟩
theorem back_eq {n : Nat} {ns a b : List Int} (o : IsOrd n ns) (ha : IsBack ns a) (hb : IsBack ns b) : a = b := by
  apply List.ext_getElem?
  intro t
  by_cases h : t < n
  · obtain ⟨j, _, hj⟩ := ord_at o h
    have h1 := ha.2 j _ hj
    have h2 := hb.2 j _ hj
    rw [Int.toNat_natCast] at h1 h2
    rw [h1, h2]
  · rw [List.getElem?_eq_none (by rw [ha.1, o.len]; omega), List.getElem?_eq_none (by rw [hb.1, o.len]; omega)]
def behindL (ns ms : List Int) : List Int := ms.map fun p => ns.getD p.toNat 0
theorem behind_at {ns ms : List Int} {i : Nat} {p x : Int} (hp : ms[i]? = some p) (hx : ns[p.toNat]? = some x) : (behindL ns ms)[i]? = some x := by
  unfold behindL
  rw [List.getElem?_map, hp]
  show some (ns.getD p.toNat 0) = some x
  rw [List.getD_eq_getElem?_getD, hx]
  rfl
theorem behind_len (ns ms : List Int) : (behindL ns ms).length = ms.length := by
  unfold behindL
  rw [List.length_map]
theorem take_more {l : List Int} {i : Nat} {x : Int} (h : l[i]? = some x) : l.take (i + 1) = l.take i ++ [x] := by
  rw [List.take_add_one, h]
  rfl
theorem flat_ints : ∀ ns : List Int, (ns.map V.int).all flatV = true
  | [] => rfl
  | n :: r => by
    show (flatV (V.int n) && (r.map V.int).all flatV) = true
    rw [flat_ints r]
    rfl
theorem eqV_int (i j : Int) : eqV (.int i) (.int j) = (i == j) := rfl
end Fo
namespace Fo
open PySem PySem.Spec PyProof.Rows L2
/-! ### lists of lists -/
def LL (H : Hp) : List Addr → List (List Int) → Prop
  | [], [] => True
  | a :: as, r :: rs => H a = some (.lst (r.map V.int)) ∧ LL H as rs
  | _, _ => False
theorem LL.len {H : Hp} : ∀ {as : List Addr} {rs : List (List Int)}, LL H as rs → as.length = rs.length
  | [], [], _ => rfl
  | [], _ :: _, h => h.elim
  | _ :: _, [], h => h.elim
  | a :: as, r :: rs, h => by rw [List.length_cons, List.length_cons, LL.len h.2]
theorem LL.keep {H H' : Hp} : ∀ {as : List Addr} {rs : List (List Int)}, LL H as rs → (∀ a ∈ as, ∀ o, H a = some o → H' a = some o) → LL H' as rs
  | [], [], _, _ => trivial
  | [], _ :: _, h, _ => h.elim
  | _ :: _, [], h, _ => h.elim
  | a :: as, r :: rs, h, k => ⟨k a List.mem_cons_self _ h.1, LL.keep h.2 fun b hb => k b (List.mem_cons_of_mem _ hb)⟩
theorem LL.same {H H' : Hp} {as : List Addr} {rs : List (List Int)} (h : LL H as rs) (s : Same H H') : LL H' as rs := h.keep fun a _ o e => s a o e
theorem LL.get {H : Hp} : ∀ {as : List Addr} {rs : List (List Int)} {i : Nat} {a : Addr}, LL H as rs → as[i]? = some a → ∃ r, rs[i]? = some r ∧ H a = some (.lst (r.map V.int))
  | [], [], _, _, _, e => by simp at e
  | [], _ :: _, _, _, h, _ => h.elim
  | _ :: _, [], _, _, h, _ => h.elim
  | a :: as, r :: rs, 0, b, h, e => by
    have e2 : a = b := Option.some.inj e
    subst e2
    exact ⟨r, rfl, h.1⟩
  | a :: as, r :: rs, i + 1, b, h, e => LL.get (i := i) h.2 e
theorem LL.tracked {H : Hp} {as : List Addr} {rs : List (List Int)} (h : LL H as rs) {a : Addr} (ha : a ∈ as) : ∃ o, H a = some o := by
  obtain ⟨i, hi⟩ := List.mem_iff_getElem?.mp ha
  obtain ⟨r, _, e⟩ := h.get hi
  exact ⟨_, e⟩
theorem LL.snoc {H : Hp} : ∀ {as : List Addr} {rs : List (List Int)} {a : Addr} {r : List Int}, LL H as rs → H a = some (.lst (r.map V.int)) → LL H (as ++ [a]) (rs ++ [r])
  | [], [], _, _, _, e => ⟨e, trivial⟩
  | [], _ :: _, _, _, h, _ => h.elim
  | _ :: _, [], _, _, h, _ => h.elim
  | b :: as, s :: rs, _, _, h, e => ⟨h.1, LL.snoc h.2 e⟩
theorem LL.drop {H : Hp} : ∀ {as : List Addr} {rs : List (List Int)} (k : Nat), LL H as rs → LL H (as.drop k) (rs.drop k)
  | as, rs, 0, h => h
  | [], [], k + 1, _ => trivial
  | [], _ :: _, _ + 1, h => h.elim
  | _ :: _, [], _ + 1, h => h.elim
  | _ :: as, _ :: rs, k + 1, h => LL.drop k h.2
theorem dp_LL {K : PySem.W.Frag} {H : Hp} : ∀ {as : List Addr} {rs : List (List Int)}, LL H as rs → DpAll K H (as.map V.ref) (rs.map dL)
  | [], [], _ => .nil
  | [], _ :: _, h => h.elim
  | _ :: _, [], h => h.elim
  | _ :: _, _ :: _, h => .cons (dp_list h.1) (dp_LL h.2)
theorem dp_lists {K : PySem.W.Frag} {H : Hp} {l : Addr} {as : List Addr} {rs : List (List Int)} (hl : H l = some (.lst (as.map V.ref))) (h : LL H as rs) : Dp K H (.ref l) (dLL rs) := .lst (SqL.of hl) (dp_LL h)
theorem ref_at {as : List Addr} {i : Nat} {a : Addr} (h : as[i]? = some a) : (as.map V.ref)[i]? = some (V.ref a) := by
  rw [List.getElem?_map, h]
  rfl
theorem ref_at_inv {as : List Addr} {i : Nat} {v : V} (h : (as.map V.ref)[i]? = some v) : ∃ a, as[i]? = some a ∧ v = V.ref a := by
  rw [List.getElem?_map] at h
  cases e : as[i]? with
  | none => rw [e] at h; cases h
  | some x => rw [e] at h; exact ⟨x, rfl, (Option.some.inj h).symm⟩
theorem cutV_tail (xs : List V) (k : Nat) : cutV xs (some (k : Int)) none = xs.drop k := by
  unfold cutV
  rw [HT.sIx_none, HT.sIx_nat]
  by_cases h : k ≤ xs.length
  · rw [Nat.min_eq_left h, List.take_of_length_le (by rw [List.length_drop]; exact Nat.le_refl _)]
  · rw [Nat.min_eq_right (by omega), List.drop_of_length_le (Nat.le_refl _), List.drop_of_length_le (by omega), List.take_nil]
end Fo
namespace Fo
open PySem PySem.Spec PyProof.Rows L2
/-! ### sorted(rows), rows a list of lists of whole numbers -/
def rowsR (ps : List (Addr × List Int)) : List (Addr × List Int) := ps.mergeSort fun p q => decide (p.2 ≤ q.2)
def rSortedR (K : PySem.W.Frag) : List V → Hp → VK → Prop := fun vs H Q => ∃ (a : Addr) (ps : List (Addr × List Int)), vs = [V.ref a] ∧ SqL K H a (ps.map fun p => V.ref p.1) ∧ (∀ p ∈ ps, Dp K H (.ref p.1) (dL p.2)) ∧
  ∀ q, H q = none → Q (.ref q) (upd H q (.lst ((rowsR ps).map fun p => V.ref p.1)))
theorem each_refs : ∀ {ps : List (Addr × List Int)} {us : List Value}, Vals (ps.map fun p => V.ref p.1) us → PySem.W.EachIs (fun v (p : Addr × List Int) => v = Value.ref p.1) us ps
  | [], _, .nil => .nil
  | p :: ps, _, .cons r t => .cons r (each_refs t)
theorem refs_each : ∀ {ps : List (Addr × List Int)} {us : List Value}, PySem.W.EachIs (fun v (p : Addr × List Int) => v = Value.ref p.1) us ps → Vals (ps.map fun p => V.ref p.1) us
  | _, _, .nil => .nil
  | _, _, .cons r t => .cons r (refs_each t)
theorem each_all {R S : Value → (Addr × List Int) → Prop} : ∀ {us : List Value} {ps : List (Addr × List Int)}, PySem.W.EachIs R us ps → (∀ v p, p ∈ ps → R v p → S v p) → PySem.W.EachIs S us ps
  | _, _, .nil, _ => .nil
  | _, _, .cons r t, h => .cons (h _ _ List.mem_cons_self r) (each_all t fun v p hp => h v p (List.mem_cons_of_mem _ hp))
theorem cr_sortedR {X : Cx} (hu : X.A.units + 64 < cLine) : CallR X (.builtin "sorted") (rSortedR X.K) := by
  intro pins s σ H vs us Q J rel hz
  obtain ⟨a, ps, ev, sq, hd, q⟩ := hz
  subst ev
  obtain ⟨its, rv, hl, hlen⟩ := J.list sq
  rw [Vals.ref1 rel]
  have e := each_refs rv
  have el := rv.length
  rw [List.length_map] at el hlen
  refine PySem.W.sorted_data (enc := fun p : Addr × List Int => .list (p.2.map .int)) hl.isList e (each_all e fun v p hp hv => ?_) (PySem.W.AllAlike.of fun b b' => ?_) (PySem.W.Sortable.others fun b => ⟨(fun z => by cases z), (fun xs z => by cases z)⟩) hlen (fun b _ => ?_) fun out ol eo => ?_
  · subst hv
    exact Dp.reads J _ _ _ (hd p hp) rfl
  · show PySem.W.alike (.list (b.2.map .int)) (.list (b'.2.map .int)) = true
    simp only [PySem.W.alike]
    exact PySem.W.alike_ints _ _
  · show X.A.units + 2 + (dL b.2).depth < cLine
    rw [depth_list]
    omega
  · rw [PySem.W.dataLe_rows (fun p : Addr × List Int => p.2)] at eo
    obtain ⟨ep, he⟩ := PyProof.Rows.sortedAll_at s.heap its out.toArray
    have hl2 : ((rowsR ps).map fun p => V.ref p.1).length ≤ sizeLine := by
      unfold rowsR
      rw [List.length_map, List.length_mergeSort]
      exact hlen
    exact ⟨.ref _, upd H (s.heap.objs.size + 1) (.lst ((rowsR ps).map fun p => V.ref p.1)), J.laid (t' := s.toks) (fun _ _ => PyProof.Rows.sortedAll_old) (Nat.le_succ _) ⟨hl2, out, ep, refs_each eo, he⟩, rfl, q _ (J.hok.fresh (Nat.le_succ _))⟩
theorem rows_le_total (a b : Addr × List Int) : (decide (a.2 ≤ b.2) || decide (b.2 ≤ a.2)) = true := by
  rcases List.le_total a.2 b.2 with h | h
  · rw [decide_eq_true h]; rfl
  · rw [decide_eq_true h, Bool.or_true]
theorem rowsR_perm (ps : List (Addr × List Int)) : (rowsR ps).Perm ps := List.mergeSort_perm _ _
theorem rowsR_sorted (ps : List (Addr × List Int)) : ((rowsR ps).map (·.2)).Pairwise (· ≤ ·) := by
  have h := List.pairwise_mergeSort (le := fun p q : Addr × List Int => decide (p.2 ≤ q.2)) (fun a b c h1 h2 => decide_eq_true (List.le_trans (of_decide_eq_true h1) (of_decide_eq_true h2))) rows_le_total ps
  exact List.pairwise_map.mpr (h.imp fun h => of_decide_eq_true h)
end Fo
namespace Fo
open PySem PySem.Spec PyProof.Rows L2
/-! a list of anything held against the empty one -/
abbrev rNilEq (K : PySem.W.Frag) : R2 := fun x y H Q => ∃ a b xs, x = .ref a ∧ y = .ref b ∧ SqL K H a xs ∧ SqL K H b [] ∧ Q (.bl xs.isEmpty) H
abbrev rNilNe (K : PySem.W.Frag) : R2 := fun x y H Q => ∃ a b xs, x = .ref a ∧ y = .ref b ∧ SqL K H a xs ∧ SqL K H b [] ∧ Q (.bl (!xs.isEmpty)) H
section
variable {X : Cx}
theorem op_eqNilL (hu : X.A.units + 64 < cLine) : OpR X (compareOp .Eq) (rNilEq X.K) := by
  intro pins s σ H x y v u Q I rx ry h
  obtain ⟨a, b, xs, rfl, rfl, ha, hb, q⟩ := h
  cases (show v = Value.ref a from rx)
  cases (show u = Value.ref b from ry)
  obtain ⟨us, r1, p1, _⟩ := I.list ha
  obtain ⟨ws, r2, p2, _⟩ := I.list hb
  have e2 : ws.length = 0 := r2.length.symm
  have e1 : us.length = xs.length := r1.length.symm
  cases xs with
  | nil =>
    refine SeqAt.eq_listAt (e := fun _ => true) p1.isList p2.isList ?_ (by omega) (fun j h1 h2 => ?_) ?_
    · rw [List.size_toArray, List.size_toArray, e1, e2]
      rfl
    · rw [List.size_toArray, e2] at h2
      omega
    · rw [show ((List.range us.toArray.size).all fun _ => true) = true from List.all_eq_true.mpr fun _ _ => rfl]
      exact ⟨.bl true, H, I, rfl, q⟩
  | cons x r =>
    refine SeqAt.eq_list_lengthsAt p1.isList p2.isList ?_ (by omega) ⟨.bl false, H, I, rfl, q⟩
    rw [List.size_toArray, List.size_toArray, e1, e2]
    rfl
theorem op_neNilL (hu : X.A.units + 64 < cLine) : OpR X (compareOp .NotEq) (rNilNe X.K) := by
  intro pins s σ H x y v u Q I rx ry h
  obtain ⟨a, b, xs, rfl, rfl, ha, hb, q⟩ := h
  cases (show v = Value.ref a from rx)
  cases (show u = Value.ref b from ry)
  obtain ⟨us, r1, p1, _⟩ := I.list ha
  obtain ⟨ws, r2, p2, _⟩ := I.list hb
  have e2 : ws.length = 0 := r2.length.symm
  have e1 : us.length = xs.length := r1.length.symm
  cases xs with
  | nil =>
    refine SeqAt.RcNeAt.lists (e := fun _ => true) p1.isList p2.isList ?_ (by omega) (fun j h1 h2 => ?_) _ _ _ _ ?_
    · rw [List.size_toArray, List.size_toArray, e1, e2]
      rfl
    · rw [List.size_toArray, e2] at h2
      omega
    · rw [show ((List.range us.toArray.size).all fun _ => true) = true from List.all_eq_true.mpr fun _ _ => rfl]
      exact ⟨.bl false, H, I, rfl, q⟩
  | cons x r =>
    refine SeqAt.RcNeAt.lists_lengths p1.isList p2.isList ?_ (by omega) _ _ _ _ ⟨.bl true, H, I, rfl, q⟩
    rw [List.size_toArray, List.size_toArray, e1, e2]
    rfl
end
end Fo
namespace Fo
open PySem PySem.Spec PyProof.Rows L2
/-! lists that lie apart -/
theorem cutV_takeN (xs : List V) (i : Nat) : cutV xs none (some (i : Int)) = xs.take i := by
  unfold cutV
  rw [HT.sIx_none, HT.sIx_nat, List.drop_zero, Nat.sub_zero]
  by_cases hh : i ≤ xs.length
  · rw [Nat.min_eq_left hh]
  · rw [Nat.min_eq_right (by omega), List.take_length, List.take_of_length_le (by omega)]
theorem LL.takeN {H : Hp} : ∀ {as : List Addr} {rs : List (List Int)} (k : Nat), LL H as rs → LL H (as.take k) (rs.take k)
  | _, _, 0, _ => trivial
  | [], [], _ + 1, _ => trivial
  | [], _ :: _, _ + 1, h => h.elim
  | _ :: _, [], _ + 1, h => h.elim
  | _ :: _, _ :: _, k + 1, h => ⟨h.1, LL.takeN k h.2⟩
theorem LL.dropN {H : Hp} : ∀ {as : List Addr} {rs : List (List Int)} (k : Nat), LL H as rs → LL H (as.drop k) (rs.drop k)
  | _, _, 0, h => h
  | [], [], _ + 1, _ => trivial
  | [], _ :: _, _ + 1, h => h.elim
  | _ :: _, [], _ + 1, h => h.elim
  | _ :: _, _ :: _, k + 1, h => LL.dropN k h.2
theorem LL.appN {H : Hp} : ∀ {as bs : List Addr} {rs ss : List (List Int)}, LL H as rs → LL H bs ss → LL H (as ++ bs) (rs ++ ss)
  | [], _, [], _, _, h => h
  | _ :: _, _, _ :: _, _, a, h => ⟨a.1, LL.appN a.2 h⟩
  | [], _, _ :: _, _, a, _ => a.elim
  | _ :: _, _, [], _, a, _ => a.elim
end Fo
namespace Fo
open PySem PySem.Spec PyProof.Rows L2
/-! {(i, j): v for .. for ..}: two clauses, each key a tuple on the heap -/
section
variable {kx vx ta ia tb ib : Expr} {fa fb : List Expr} {sc : Scope} {at0 : Pos}
abbrev dc2E (kx vx ta ia : Expr) (fa : List Expr) (tb ib : Expr) (fb : List Expr) (sc : Scope) (at0 : Pos) : Expr :=
  .DictComp kx vx [⟨ta, ia, fa, 0⟩, ⟨tb, ib, fb, 0⟩] sc at0
theorem dc2_turn0 (it acc : Value) (env : Env) :
    compTurn (dc2E kx vx ta ia fa tb ib fb sc at0) 0 it acc env = (do
      standAt ia.pos
      match ← pyNext it with
      | none =>
        pure (.done .next)
      | some u =>
        letOwnedTupleGo ta it u
        assign ta env u
        let mut good := true
        for c in fa do
          if good then good ← isTrue c env (eval c env)
        if good then
          let y ← eval ib env
          standAt ib.pos
          let y ← foldedSetIterable ib env y
          let _ ← runOwn (.compStart (dc2E kx vx ta ia fa tb ib fb sc at0) 1 (← holding [y] (pyIter y)) acc env) env
        again (.compLoop (dc2E kx vx ta ia fa tb ib fb sc at0) 0 it acc env)) := by rfl
theorem dc2_turn1 (it : Value) (D : Addr) (env : Env) :
    compTurn (dc2E kx vx ta ia fa tb ib fb sc at0) 1 it (.ref D) env = (do
      standAt ib.pos
      match ← pyNext it with
      | none =>
        pure (.done .next)
      | some u =>
        letOwnedTupleGo tb it u
        assign tb env u
        let mut good := true
        for c in fb do
          if good then good ← isTrue c env (eval c env)
        if good then
          (do
            let k0 ← eval kx env
            let v0 ← holding [k0] (eval vx env)
            standAt { kx.pos with endLine := vx.pos.endLine, endCol := vx.pos.endCol }
            holding [k0, v0] (dictSet D k0 v0))
        again (.compLoop (dc2E kx vx ta ia fa tb ib fb sc at0) 1 it (.ref D) env)) := by rfl
variable {prog : Program} {w : World} {A : Around} {R : Result → Shared → Prop} {s : Shared} {it acc : Value} {env : Env}
theorem dc2_out (hs : ∀ x, foldedSetIterable ib env x = pure x) (J : Nat → Shared → Prop)
    (go : ∀ n s, J n s → wpAny (model prog w) A (pyNext it) (fun r s₁ => match r with
      | none => R (.ok .next) s₁
      | some u => wpAny (model prog w) A (letOwnedTupleGo ta it u) (fun _ s₂ =>
          wpAny (model prog w) A (assign ta env u) (fun _ s₃ =>
            wpAny (model prog w) A (forIn fa true fun c r => if r = true then do let ok ← isTrue c env (eval c env); pure (ForInStep.yield ok) else pure (ForInStep.yield r)) (fun ok s₄ =>
              if ok = true then
                wpAny (model prog w) A (eval ib env) (fun x s₅ => wpAny (model prog w) A (pyIter x) (fun i1 s₆ =>
                  codeAny (model prog w) A (.compStart (dc2E kx vx ta ia fa tb ib fb sc at0) 1 i1 acc env) (fun r s' => match r with
                    | .ok _ => ∃ m, m < n ∧ J m s'
                    | .error _ => False) s₆)
                  (notedBy (model prog w) A env fun e s' => R (.error e) s') s₅)
                  (notedBy (model prog w) A env fun e s' => R (.error e) s') s₄
              else ∃ m, m < n ∧ J m s₄)
              (notedBy (model prog w) A env fun e s' => R (.error e) s') s₃)
            (notedBy (model prog w) A env fun e s' => R (.error e) s') s₂)
          (notedBy (model prog w) A env fun e s' => R (.error e) s') s₁)
      (notedBy (model prog w) A env fun e s' => R (.error e) s') s)
    (n : Nat) (h : J n s) : codeAny (model prog w) A (.compLoop (dc2E kx vx ta ia fa tb ib fb sc at0) 0 it acc env) R s := by
  refine codeAny_loop rfl J (fun n s hJ => ?_) n h
  show wpAny _ A ((compTurn (dc2E kx vx ta ia fa tb ib fb sc at0) 0 it acc env).onRaise (fun x => do noteFrame x env; theTreesLotGoes x)) _ _ s
  refine wpAny_noted ?_
  rw [dc2_turn0]
  have lift : ∀ {α : Type} {m : Sem α} {P Q : α → Shared → Prop} {E : Value → Shared → Prop} {s : Shared}, wpAny (model prog w) A m P E s → (∀ a s, P a s → Q a s) → wpAny (model prog w) A m Q E s :=
    fun h k => wpAny_mono h k fun _ _ z => z
  refine wpAny_bind (wpAny_standAt (wpAny_bind (lift (go n s hJ) fun r s₁ h₁ => ?_)))
  match r, h₁ with
  | none, h₁ => exact wpAny_pure h₁
  | some u, h₁ =>
    refine wpAny_bind (lift h₁ fun _ s₂ h₂ => wpAny_bind (lift h₂ fun _ s₃ h₃ => wpAny_bind (lift h₃ fun ok s₄ h₄ => ?_)))
    match ok, h₄ with
    | false, h₄ => exact wpAny_pure ⟨rfl, h₄⟩
    | true, h₄ =>
      refine wpAny_bind (lift h₄ fun x s₅ h₅ => wpAny_bind (wpAny_standAt (wpAny_bind (wpAny_of_eq (hs x) (wpAny_bind (wpAny_holding (lift h₅ fun i1 s₆ h₆ => ?_)))))))
      refine wpAny_bind (wpAny_runOwn ?_)
      rw [Around.mark_none]
      refine codeAny_mono h₆ fun r s' hr => ?_
      match r, hr with
      | .ok f, hr =>
        first
          | exact wpAny_pure ⟨rfl, hr⟩
          | exact wpAny_bind (wpAny_pure (wpAny_pure ⟨rfl, hr⟩))
      | .error e, hr => exact False.elim hr
theorem dc2_in {D : Addr} (J : Nat → Shared → Prop)
    (go : ∀ n s, J n s → wpAny (model prog w) A (pyNext it) (fun r s₁ => match r with
      | none => R (.ok .next) s₁
      | some u => wpAny (model prog w) A (letOwnedTupleGo tb it u) (fun _ s₂ =>
          wpAny (model prog w) A (assign tb env u) (fun _ s₃ =>
            wpAny (model prog w) A (forIn fb true fun c r => if r = true then do let ok ← isTrue c env (eval c env); pure (ForInStep.yield ok) else pure (ForInStep.yield r)) (fun ok s₄ =>
              if ok = true then
                wpAny (model prog w) A (eval kx env) (fun k0 s₅ => wpAny (model prog w) A (eval vx env) (fun v0 s₆ =>
                  wpAny (model prog w) A (dictSet D k0 v0) (fun _ s₇ => ∃ m, m < n ∧ J m s₇)
                    (notedBy (model prog w) A env fun e s' => R (.error e) s') s₆)
                  (notedBy (model prog w) A env fun e s' => R (.error e) s') s₅)
                  (notedBy (model prog w) A env fun e s' => R (.error e) s') s₄
              else ∃ m, m < n ∧ J m s₄)
              (notedBy (model prog w) A env fun e s' => R (.error e) s') s₃)
            (notedBy (model prog w) A env fun e s' => R (.error e) s') s₂)
          (notedBy (model prog w) A env fun e s' => R (.error e) s') s₁)
      (notedBy (model prog w) A env fun e s' => R (.error e) s') s)
    (n : Nat) (h : J n s) : codeAny (model prog w) A (.compLoop (dc2E kx vx ta ia fa tb ib fb sc at0) 1 it (.ref D) env) R s := by
  refine codeAny_loop rfl J (fun n s hJ => ?_) n h
  show wpAny _ A ((compTurn (dc2E kx vx ta ia fa tb ib fb sc at0) 1 it (.ref D) env).onRaise (fun x => do noteFrame x env; theTreesLotGoes x)) _ _ s
  refine wpAny_noted ?_
  rw [dc2_turn1]
  have lift : ∀ {α : Type} {m : Sem α} {P Q : α → Shared → Prop} {E : Value → Shared → Prop} {s : Shared}, wpAny (model prog w) A m P E s → (∀ a s, P a s → Q a s) → wpAny (model prog w) A m Q E s :=
    fun h k => wpAny_mono h k fun _ _ z => z
  refine wpAny_bind (wpAny_standAt (wpAny_bind (lift (go n s hJ) fun r s₁ h₁ => ?_)))
  match r, h₁ with
  | none, h₁ => exact wpAny_pure h₁
  | some u, h₁ =>
    refine wpAny_bind (lift h₁ fun _ s₂ h₂ => wpAny_bind (lift h₂ fun _ s₃ h₃ => wpAny_bind (lift h₃ fun ok s₄ h₄ => ?_)))
    match ok, h₄ with
    | false, h₄ => exact wpAny_pure ⟨rfl, h₄⟩
    | true, h₄ =>
      exact wpAny_bind (wpAny_bind (lift h₄ fun k0 s₅ h₅ => wpAny_bind (wpAny_holding (lift h₅ fun v0 s₆ h₆ =>
        wpAny_bind (wpAny_standAt (wpAny_holding (lift h₆ fun _ s₇ h₇ => wpAny_pure ⟨rfl, h₇⟩)))))))
theorem dc2_start (h0 : codeAny (model prog w) A (.compLoop (dc2E kx vx ta ia fa tb ib fb sc at0) 1 it acc env) R s)
    (h : wpAny (model prog w) A (pyIter it) (fun i' s' => codeAny (model prog w) A (.compLoop (dc2E kx vx ta ia fa tb ib fb sc at0) 1 i' acc env) R s')
      (notedBy (model prog w) A env fun x s' => R (.error x) s') s) :
    codeAny (model prog w) A (.compStart (dc2E kx vx ta ia fa tb ib fb sc at0) 1 it acc env) R s := by
  refine codeAny_of_tree ?_
  show wpAny _ _ ((compStart (dc2E kx vx ta ia fa tb ib fb sc at0) 1 it acc env).onRaise (fun x => do noteFrame x env; standAt theWindowsPlace)) _ _ s
  refine wpAny_notedAt ?_
  unfold compStart
  show wpAny _ _ (ask >>= _) _ _ s
  refine wpAny_bind (wpAny_askSetting (wpAny_ite ?_))
  have later : ∀ {v : Value} {s' : Shared}, codeAny (model prog w) A (.compLoop (dc2E kx vx ta ia fa tb ib fb sc at0) 1 v acc env) R s' → wpAny (model prog w) A (again (.compLoop (dc2E kx vx ta ia fa tb ib fb sc at0) 1 v acc env)) (fun fin s' => match fin with | .done f => R (.ok f) s' | .again c' => c'.quiet = true ∧ codeAny (model prog w) A c' R s') (notedBy (model prog w) A env fun x s' => R (.error x) s') s' :=
    fun k => wpAny_pure ⟨rfl, k⟩
  split
  · first
      | exact wpAny_bind (wpAny_pure (later h0))
      | exact later h0
  · first
      | exact wpAny_bind (wpAny_rule (wpAny_bind (wpAny_standAt (wpAny_bind (wpAny_mono h (fun _ _ k => later k) fun _ _ z => z)))))
      | (refine wpAny_bind (wpAny_rule ?_)
         show wpAny _ _ (standAt ib.pos >>= _) _ _ s
         exact wpAny_bind (wpAny_standAt (wpAny_bind (wpAny_mono h (fun _ _ k => later k) fun _ _ z => z))))
end
/-- d[k] = v by a comprehension, k a tuple -/
theorem dt_store {X : Cx} {pins : List (Addr × Obj)} {σ : L2.St} {H : Hp} {s : Shared} {E : Value → Shared → Prop} {D b : Addr} {kvs : List (List Key × V)} {k : List Key} {v : V} {u r : Value} {Q : Unit → Shared → Prop}
    (hu : X.A.units < cLine) (I : Inv X pins σ H s) (hD : H D = some (.dT kvs)) (hb : H b = some (.tup (k.map kV))) (hz : kvs.length < sizeLine)
    (ry : RelV (.ref b) u) (rv : RelV v r) (h : ∀ s', Inv X pins σ (upd H D (.dT (putK kvs k v))) s' → Q () s') : wpAny (model X.prog X.w) X.A (dictSet D u r) Q E s := by
  cases (show u = Value.ref b from ry)
  obtain ⟨z, hd, xs, rel, dd⟩ := dt_of I.hok hD
  have hl : (putK kvs k v).length ≤ sizeLine := by
    have := length_putK kvs k v
    omega
  refine wpAny_dictSet_heap (hsz := by rw [← Paired.length rel]; exact z) hu (key_of I.hok hb) dd fun h' dd' hs => h _ ?_
  obtain ⟨q, es, ep, hq, h2, h3, h4, _, h5⟩ := dd'
  refine d_write I (by rw [hD]; exact True.intro) hs ⟨q, hq⟩ ⟨hl, hd, _, (rel.put k hb rv).keeps fun c ys ec => ?_, q, es, ep, hq, h2, h3, h4, h5⟩
  rw [upd_ne (ne_of ec hD (fun z => nomatch z))]
  exact ec
/-- {k: v for .. if .. for .. if ..}, D the new dict; each key a tuple of ints and texts -/
def tDc2 (wi : TI) (g : TG) (tt : TT) (wj : TI) (gj : TG) (tj : TT) (tk tv : TE) (vs vj : List Nat) : TE := fun σ H Q => wi σ H fun J H1 => ∀ D, H1 D = none →
  ∃ W : Nat → Nat → Hp → Prop, (∃ m, W 0 m (upd H1 D (.dT []))) ∧ ∀ i m G, W i m G →
    (J.stop i G ∧ Q (.ref D) G) ∨
    (J.go i G ∧ ∃ Nx : Hp → Prop, (∀ G', Nx G' → ∃ m', m' < m ∧ W (i + 1) m' G') ∧ ∀ x G', J.yld i G x G' →
      g x (wipe σ vs) G' fun σ2 H2 => wipe σ2 vs = wipe σ vs ∧ tt σ2 H2 fun b H3 =>
        if b = true then wj σ2 H3 fun Jj H4 =>
          ∃ Wj : Nat → Nat → Hp → Prop, (∃ m, Wj 0 m H4) ∧ ∀ j k G, Wj j k G →
            (Jj.stop j G ∧ Nx G) ∨
            (Jj.go j G ∧ ∃ Ny : Hp → Prop, (∀ G', Ny G' → ∃ k', k' < k ∧ Wj (j + 1) k' G') ∧ ∀ x G', Jj.yld j G x G' →
              gj x (wipe σ2 vj) G' fun σ3 H5 => wipe σ3 vj = wipe σ2 vj ∧ tj σ3 H5 fun b H6 =>
                if b = true then tk σ3 H6 fun y H7 => tv σ3 H7 fun z H8 =>
                  ∃ kvs k p, y = .ref p ∧ H8 p = some (.tup (k.map kV)) ∧ H8 D = some (.dT kvs) ∧ kvs.length < sizeLine ∧ Ny (upd H8 D (.dT (putK kvs k z)))
                else Ny H6)
        else Nx H3)
theorem pe_dc2 {X : Cx} {kx vx ta ia tb ib : Expr} {fa fb : List Expr} {sc : Scope} {own : List (Str × Nat)} {vj : List Nat} {at0 : Pos} {wi wj : TI} {g gj : TG} {tt tj : TT} {tk tv : TE}
    (hu : X.A.units < cLine) (calm : X.calm = true) (nd : X.N.Nodup) (pi : PI X ta ia wi) (blk : BlkOk X.N X.env.scope sc own) (hv : ∀ i ∈ vj, i ∈ own.map (·.2))
    (pg : ∀ (s : Shared) (H : Hp) (C : Addr) (cl : List (Str × Addr)) (fp : List Addr),
      PG (X.blk s H sc (compEnvC sc cl C X.env) fp) ta g)
    (pt : ∀ (s : Shared) (H : Hp) (C : Addr) (cl : List (Str × Addr)) (fp : List Addr),
      PTs (X.blk s H sc (compEnvC sc cl C X.env) fp) fa tt)
    (pj : ∀ (s : Shared) (H : Hp) (C : Addr) (cl : List (Str × Addr)) (fp : List Addr),
      PI (X.blk s H sc (compEnvC sc cl C X.env) fp) tb ib wj)
    (pgj : ∀ (s : Shared) (H : Hp) (C : Addr) (cl : List (Str × Addr)) (fp : List Addr),
      PG (X.blk s H sc (compEnvC sc cl C X.env) fp) tb gj)
    (ptj : ∀ (s : Shared) (H : Hp) (C : Addr) (cl : List (Str × Addr)) (fp : List Addr),
      PTs (X.blk s H sc (compEnvC sc cl C X.env) fp) fb tj)
    (pk : ∀ (s : Shared) (H : Hp) (C : Addr) (cl : List (Str × Addr)) (fp : List Addr),
      PE (X.blk s H sc (compEnvC sc cl C X.env) fp) kx tk)
    (pv' : ∀ (s : Shared) (H : Hp) (C : Addr) (cl : List (Str × Addr)) (fp : List Addr),
      PE (X.blk s H sc (compEnvC sc cl C X.env) fp) vx tv)
    (fold : ∀ x, foldedSetIterable ia X.env x = pure x := by intro _; rfl) (foldj : ∀ env x, foldedSetIterable ib env x = pure x := by intro _ _; rfl) :
    PE X (dc2E kx vx ta ia fa tb ib fb sc at0) (tDc2 wi g tt wj gj tj tk tv (own.map (·.2)) vj) := by
  refine ⟨fun pins s σ H Q I h => ?_⟩
  rw [arm_eval_DictComp]
  have free : ∀ y ∈ sc.names, y.2 = .free → ∃ c, X.env.cells.lookup y.1 = some c := fun y hy e =>
    I.ok.has _ (blk.free y hy e)
  refine wpAny_comprehension_free (use := none) rfl fold (closure_ok free) blk.kind (fun y hy e => by rw [blk.uniq y hy, e])
    (thn (pi.run pins s σ H _ I h) fun xv s1 hx => thn hx fun itv s2 h2 => ?_)
  obtain ⟨it, fp, tn, J, H2, e, I2, T, st2, f2, q⟩ := h2
  subst e
  refine wpAny_newObj_type (newEnv_comp ?_)
  generalize hD : s2.heap.objs.size = D
  obtain ⟨W, ⟨m0, w0⟩, turn⟩ := q D (I2.hok.fresh (Nat.le_of_eq hD))
  let s3 : Shared := { s2 with heap := s2.heap.push { cls := .type "dict", data := .dict #[] } }
  let H3 : Hp := upd H2 D (.dT [])
  have h3 : s3.heap = s2.heap.push { cls := .type "dict", data := .dict #[] } := rfl
  have I3 : Inv X pins σ H3 s3 := by
    refine I2.laid (t' := s2.toks) (fun b o e => Heap.get?_push_of_some _ e) (Nat.le_of_eq hD) ?_
    rw [← hD]
    exact dt_empty s2.heap I2.big
  have low : ∀ b ∈ fp, b < s2.heap.objs.size := fun b hb => by
    obtain ⟨o, e, _⟩ := T.obj _ _ st2 b hb
    exact Heap.lt_size e
  have f3 : ∀ b ∈ fp, FpOk X pins H3 b ∧ b < s3.heap.objs.size := fun b hb => by
    have lt := low b hb
    refine ⟨⟨?_, (f2 b hb).2⟩, by rw [h3, Heap.size_push]; exact Nat.lt_succ_of_lt lt⟩
    show upd H2 D (.dT []) b = none
    rw [upd_ne (by rw [← hD]; exact Nat.ne_of_lt lt)]
    exact (f2 b hb).1
  have st3 : tn 0 s3.heap := T.keep _ _ _ st2 fun b _ o e => by rw [h3]; exact Heap.get?_push_of_some _ e
  have I4 := block_start I3 blk nd f3
  have pg := pg s3 H3 s3.heap.objs.size (cellsFrom (s3.heap.objs.size + 1) sc.names (cloFrom X.env.cells sc.names [])) fp
  have pt := pt s3 H3 s3.heap.objs.size (cellsFrom (s3.heap.objs.size + 1) sc.names (cloFrom X.env.cells sc.names [])) fp
  have pj := pj s3 H3 s3.heap.objs.size (cellsFrom (s3.heap.objs.size + 1) sc.names (cloFrom X.env.cells sc.names [])) fp
  have pgj := pgj s3 H3 s3.heap.objs.size (cellsFrom (s3.heap.objs.size + 1) sc.names (cloFrom X.env.cells sc.names [])) fp
  have ptj := ptj s3 H3 s3.heap.objs.size (cellsFrom (s3.heap.objs.size + 1) sc.names (cloFrom X.env.cells sc.names [])) fp
  have pk := pk s3 H3 s3.heap.objs.size (cellsFrom (s3.heap.objs.size + 1) sc.names (cloFrom X.env.cells sc.names [])) fp
  have pe := pv' s3 H3 s3.heap.objs.size (cellsFrom (s3.heap.objs.size + 1) sc.names (cloFrom X.env.cells sc.names [])) fp
  have nfp : ∀ b ∈ fp, H3 b = none := fun b hb => (f3 b hb).1.1
  show codeAny _ _ (.compStart (dc2E kx vx ta ia fa tb ib fb sc at0) 0 (.ref it) (.ref D) (compEnvC sc (cellsFrom (s3.heap.objs.size + 1) sc.names (cloFrom X.env.cells sc.names [])) s3.heap.objs.size X.env)) (compPost (model X.prog X.w) X.A X.xe none _ (.ref D) s3.heap.objs.size) { s3 with heap := pushCells (s3.heap.push { cls := .type "dict", data := .dict #[] }) sc.names }
  generalize hce : compEnvC sc (cellsFrom (s3.heap.objs.size + 1) sc.names (cloFrom X.env.cells sc.names [])) s3.heap.objs.size X.env = ce at I4 pg pt pj pgj ptj pk pe ⊢
  have cL : ce.locals = s3.heap.objs.size := by rw [← hce]; rfl
  have hw0 : W 0 m0 H3 := w0
  clear_value H3
  generalize hs4 : ({ s3 with heap := pushCells (s3.heap.push { cls := .type "dict", data := .dict #[] }) sc.names } : Shared) = s4 at I4 ⊢
  have st4 : tn 0 s4.heap := T.keep _ _ _ st3 fun b _ o e => by rw [← hs4]; exact pushCells_keeps _ _ _ _ (Heap.get?_push_of_some _ e)
  clear_value s3
  have B0 : ∀ {H' : Hp}, (∀ b ∈ fp, H' b = none) → ∀ {σ' : L2.St} {s' : Shared}, Inv (X.blk s3 H3 sc ce fp) [] σ' H' s' → ∀ b ∈ fp, FpOk (X.blk s3 H3 sc ce fp) [] H' b := fun hn _ _ I' b hb =>
    ⟨hn b hb, (I'.ok.exf b hb).1, I'.ok.exfs b hb, .inl hb, fun x c e => (I'.ok.exf b hb).2 x c e, fun p hp => absurd (show p ∈ ([] : List (Addr × Obj)) ++ [] from hp) (by simp)⟩
  have loop : codeAny (model X.prog X.w) X.A (.compLoop (dc2E kx vx ta ia fa tb ib fb sc at0) 0 (.ref it) (.ref D) ce) (compPost (model X.prog X.w) X.A X.xe none (EP X pins σ Q) (.ref D) s3.heap.objs.size) s4 := by
    refine dc2_out (foldj ce) (fun n s' => ∃ i H', Inv (X.blk s3 H3 sc ce fp) [] (wipe σ (own.map (·.2))) H' s' ∧ tn i s'.heap ∧ (∀ b ∈ fp, H' b = none) ∧ W i n H') ?_ m0 ⟨0, H3, I4, st4, nfp, hw0⟩
    rintro n s5 ⟨i, H5, I5, st5, n5, w5⟩
    rcases turn i n H5 w5 with ⟨stop, qq⟩ | ⟨go, Nx, hNx, step⟩
    · refine thnF (T.done (X.blk s3 H3 sc ce fp) rfl rfl rfl calm i [] s5 _ H5 (fun _ _ => False) I5 (B0 n5 I5) st5 stop) fun r s6 ⟨hr, I6⟩ => ?_
      subst hr
      have I7 : Inv X pins σ H5 s6 := I3.call' (ch := fp) I6.os I6.base I6.hok I6.bare fun b hb =>
        let z := (f3 b hb).1.2
        ⟨z.2.2.1, z.1, z.2.2.2.1, z.2.2.2.2⟩
      have nC : H5 s3.heap.objs.size = none := by rw [← cL]; exact I6.free
      obtain ⟨m, hn, _⟩ := I6.loc
      have hn : s6.heap.Ns s3.heap.objs.size m := by rw [← cL]; exact hn
      obtain ⟨f0, f1, _, f3', f4, f5⟩ := I3.fpOk (Nat.le_refl _) nC
      exact ⟨m, hn, fun h'' sb => ⟨.ref D, H5, I7.turned (t' := s6.toks) (fun b o hb e => (sb.2 b hb).trans e) f0 f1 f3' f4 f5, rfl, qq⟩⟩
    · refine thnF (T.item (X.blk s3 H3 sc ce fp) rfl rfl rfl calm i [] s5 _ H5 (fun _ _ => False) I5 (B0 n5 I5) st5 go) fun r s6 ⟨u, hr, h6⟩ => ?_
      subst hr
      refine thnF h6 fun _ s7 ⟨x, H7, I7, r7, y7, st7, n7⟩ => ?_
      have I7' := I7.pinned (B0 n7 I7) (T.obj _ _ st7)
      refine thnF (pg.run _ s7 _ H7 x u _ I7' r7 (step x H7 y7)) fun _ s8 ⟨σ8, H8, I8, hw8, q8⟩ => ?_
      refine thnF (pt.run _ s8 σ8 H8 _ I8 q8) fun b s9 ⟨H9, I9, q9⟩ => ?_
      have len8 : (wipe σ (own.map (·.2))).length = σ8.length := by rw [← hw8, wipe_length]
      have back : ∀ {σ9 : L2.St} {s' : Shared} {H' : Hp}, Inv (X.blk s3 H3 sc ce fp) ([] ++ pinsAt fp s7.heap) σ9 H' s' → (wipe σ (own.map (·.2))).length = σ9.length → (∀ (j : Nat) v, (wipe σ (own.map (·.2)))[j]? = some (some v) → σ9[j]? = some (some v)) → Nx H' →
          ∃ m, m < n ∧ ∃ i H', Inv (X.blk s3 H3 sc ce fp) [] (wipe σ (own.map (·.2))) H' s' ∧ tn i s'.heap ∧ (∀ b ∈ fp, H' b = none) ∧ W i m H' := fun {σ9 s' H'} I' hl hk nx => by
        obtain ⟨m', hm, w'⟩ := hNx H' nx
        have stay : ∀ b ∈ fp, ∀ o, s7.heap.get? b = some o → s'.heap.get? b = some o ∧ H' b = none := fun b hb o e => by
          have z := I'.pin (b, o) (List.mem_append_right _ (List.mem_append_right _ (mem_pinsAt hb e)))
          exact ⟨z.1, z.2.1⟩
        refine ⟨m', hm, i + 1, H', (I'.unpinned (pins := [])).weak hl hk, T.keep _ _ _ st7 fun b hb o e => (stay b hb o e).1, fun b hb => ?_, w'⟩
        obtain ⟨o, e, _⟩ := T.obj _ _ st7 b hb
        exact (stay b hb o e).2
      have k8 : ∀ (j : Nat) v, (wipe σ (own.map (·.2)))[j]? = some (some v) → σ8[j]? = some (some v) := fun j v e => by
        rw [← hw8] at e
        exact (wipe_some e).1
      have k9 : ∀ (j : Nat) v, (wipe σ (own.map (·.2)))[j]? = some (some v) → (wipe σ8 vj)[j]? = some (some v) := fun j v e => by
        rw [← hw8] at e
        obtain ⟨e1, e2⟩ := wipe_some e
        rw [wipe_out fun z => e2 (hv j z)]
        exact e1
      match b, q9 with
      | false, q9 =>
        exact back I9 len8 k8 (by simpa using q9)
      | true, q9 =>
        rw [if_pos rfl] at q9 ⊢
        refine thnF (pj.run _ s9 σ8 H9 _ I9 q9) fun xv s10 hx => thnF hx fun itv s11 h11 => ?_
        obtain ⟨i1, fp1, tn1, J1, H11, e1, I11, T1, st11, f11, W1, ⟨m1, w1⟩, turn1⟩ := h11
        subst e1
        have B1 : ∀ {H' : Hp}, (∀ b ∈ fp1, H' b = none) → ∀ b ∈ fp1, FpOk (X.blk s3 H3 sc ce fp) ([] ++ pinsAt fp s7.heap) H' b := fun hn b hb => ⟨hn b hb, (f11 b hb).2⟩
        have loop1 : codeAny (model X.prog X.w) X.A (.compLoop (dc2E kx vx ta ia fa tb ib fb sc at0) 1 (.ref i1) (.ref D) ce)
            (fun r s' => match r with
              | .ok _ => ∃ m, m < n ∧ ∃ i H', Inv (X.blk s3 H3 sc ce fp) [] (wipe σ (own.map (·.2))) H' s' ∧ tn i s'.heap ∧ (∀ b ∈ fp, H' b = none) ∧ W i m H'
              | .error _ => False) s11 := by
          refine dc2_in (fun k s' => ∃ j H', Inv (X.blk s3 H3 sc ce fp) ([] ++ pinsAt fp s7.heap) (wipe σ8 vj) H' s' ∧ tn1 j s'.heap ∧ (∀ b ∈ fp1, H' b = none) ∧ W1 j k H') ?_ m1 ⟨0, H11, I11.weak (wipe_length _ _) (fun j v e => (wipe_some e).1), st11, fun b hb => (f11 b hb).1, w1⟩
          rintro k s12 ⟨j, H12, I12, st12, n12, w12⟩
          rcases turn1 j k H12 w12 with ⟨stop1, nx1⟩ | ⟨go1, Ny, hNy, step1⟩
          · refine thnF (T1.done (X.blk s3 H3 sc ce fp) rfl rfl rfl calm j _ s12 (wipe σ8 vj) H12 (fun _ _ => False) I12 (B1 n12) st12 stop1) fun r s13 ⟨hr, I13⟩ => ?_
            subst hr
            exact back I13 (len8.trans (wipe_length σ8 vj).symm) k9 nx1
          · refine thnF (T1.item (X.blk s3 H3 sc ce fp) rfl rfl rfl calm j _ s12 (wipe σ8 vj) H12 (fun _ _ => False) I12 (B1 n12) st12 go1) fun r s13 ⟨u1, hr, h13⟩ => ?_
            subst hr
            refine thnF h13 fun _ s14 ⟨x1, H14, I14, r14, y14, st14, n14⟩ => ?_
            have I14' := I14.pinned (B1 n14) (T1.obj _ _ st14)
            refine thnF (pgj.run _ s14 (wipe σ8 vj) H14 x1 u1 _ I14' r14 (step1 x1 H14 y14)) fun _ s15 ⟨σ15, H15, I15, hw15, q15⟩ => ?_
            refine thnF (ptj.run _ s15 σ15 H15 _ I15 q15) fun b1 s16 ⟨H16, I16, q16⟩ => ?_
            have back1 : ∀ {s' : Shared} {H' : Hp}, Inv (X.blk s3 H3 sc ce fp) (([] ++ pinsAt fp s7.heap) ++ pinsAt fp1 s14.heap) σ15 H' s' → Ny H' → ∃ m, m < k ∧ ∃ j H', Inv (X.blk s3 H3 sc ce fp) ([] ++ pinsAt fp s7.heap) (wipe σ8 vj) H' s' ∧ tn1 j s'.heap ∧ (∀ b ∈ fp1, H' b = none) ∧ W1 j m H' := fun {s' H'} I' nx => by
              obtain ⟨m', hm, w'⟩ := hNy H' nx
              have stay : ∀ b ∈ fp1, ∀ o, s14.heap.get? b = some o → s'.heap.get? b = some o ∧ H' b = none := fun b hb o e => by
                have z := I'.pin (b, o) (List.mem_append_right _ (List.mem_append_right _ (mem_pinsAt hb e)))
                exact ⟨z.1, z.2.1⟩
              refine ⟨m', hm, j + 1, H', I'.unpinned.weak (by rw [← hw15, wipe_length]) (fun j v e => by rw [← hw15] at e; exact (wipe_some e).1), T1.keep _ _ _ st14 fun b hb o e => (stay b hb o e).1, fun b hb => ?_, w'⟩
              obtain ⟨o, e, _⟩ := T1.obj _ _ st14 b hb
              exact (stay b hb o e).2
            match b1, q16 with
            | false, q16 => exact back1 I16 (by simpa using q16)
            | true, q16 =>
              rw [if_pos rfl] at q16 ⊢
              refine thnF (pk.run _ s16 σ15 H16 _ I16 q16) fun z s17 ⟨yk, H17, I17, r17, q17⟩ => ?_
              refine thnF (pe.run _ s17 σ15 H17 _ I17 q17) fun z2 s18 ⟨yv, H18, I18, r18, kvs, kk, p, ek, hp18, hD18, hz18, nx⟩ => ?_
              subst ek
              exact dt_store (X := X.blk s3 H3 sc ce fp) hu I18 hD18 hp18 hz18 r17 r18 fun s19 I19 => back1 I19 nx
        exact dc2_start loop1 (T1.self X.A 0 _ _ _ st11 loop1)
  exact codeAny_compStart_dict loop (T.self X.A 0 _ _ _ st4 loop)
/-- the first clause over a range -/
theorem dc2_outer {lo : Int} {n : Nat} {g gj : TG} {tt tj : TT} {wj : TI} {tk tv : TE} {vs vj : List Nat} {σ : L2.St} {H1 : Hp} {D : Addr} {Qd : Hp → Prop}
    (Pv : Nat → Hp → Prop) (h0 : Pv 0 (upd H1 D (.dT [])))
    (hs : ∀ i G, i < n → Pv i G → g (.int (lo + i)) (wipe σ vs) G fun σ2 H2 => wipe σ2 vs = wipe σ vs ∧ tt σ2 H2 fun b H3 =>
      if b = true then wj σ2 H3 fun Jj H4 =>
        ∃ Wj : Nat → Nat → Hp → Prop, (∃ m, Wj 0 m H4) ∧ ∀ j k G, Wj j k G →
          (Jj.stop j G ∧ Pv (i + 1) G) ∨
          (Jj.go j G ∧ ∃ Ny : Hp → Prop, (∀ G', Ny G' → ∃ k', k' < k ∧ Wj (j + 1) k' G') ∧ ∀ x G', Jj.yld j G x G' →
            gj x (wipe σ2 vj) G' fun σ3 H5 => wipe σ3 vj = wipe σ2 vj ∧ tj σ3 H5 fun b H6 =>
              if b = true then tk σ3 H6 fun y H7 => tv σ3 H7 fun z H8 =>
                ∃ kvs k p, y = .ref p ∧ H8 p = some (.tup (k.map kV)) ∧ H8 D = some (.dT kvs) ∧ kvs.length < sizeLine ∧ Ny (upd H8 D (.dT (putK kvs k z)))
              else Ny H6)
      else Pv (i + 1) H3) (hd : ∀ G, Pv n G → Qd G) :
    ∃ W : Nat → Nat → Hp → Prop, (∃ m, W 0 m (upd H1 D (.dT []))) ∧ ∀ i m G, W i m G →
      ((Itr lo n).stop i G ∧ Qd G) ∨
      ((Itr lo n).go i G ∧ ∃ Nx : Hp → Prop, (∀ G', Nx G' → ∃ m', m' < m ∧ W (i + 1) m' G') ∧ ∀ x G', (Itr lo n).yld i G x G' →
        g x (wipe σ vs) G' fun σ2 H2 => wipe σ2 vs = wipe σ vs ∧ tt σ2 H2 fun b H3 =>
          if b = true then wj σ2 H3 fun Jj H4 =>
            ∃ Wj : Nat → Nat → Hp → Prop, (∃ m, Wj 0 m H4) ∧ ∀ j k G, Wj j k G →
              (Jj.stop j G ∧ Nx G) ∨
              (Jj.go j G ∧ ∃ Ny : Hp → Prop, (∀ G', Ny G' → ∃ k', k' < k ∧ Wj (j + 1) k' G') ∧ ∀ x G', Jj.yld j G x G' →
                gj x (wipe σ2 vj) G' fun σ3 H5 => wipe σ3 vj = wipe σ2 vj ∧ tj σ3 H5 fun b H6 =>
                  if b = true then tk σ3 H6 fun y H7 => tv σ3 H7 fun z H8 =>
                    ∃ kvs k p, y = .ref p ∧ H8 p = some (.tup (k.map kV)) ∧ H8 D = some (.dT kvs) ∧ kvs.length < sizeLine ∧ Ny (upd H8 D (.dT (putK kvs k z)))
                  else Ny H6)
          else Nx H3) := by
  refine ⟨fun i m G => m = n - i ∧ (i ≤ n ∧ Pv i G), ⟨n, (Nat.sub_zero n).symm, Nat.zero_le n, h0⟩, ?_⟩
  rintro i m G ⟨rfl, hi, p⟩
  by_cases c : i < n
  · refine .inr ⟨c, Pv (i + 1), fun G' p' => ⟨n - (i + 1), by omega, rfl, c, p'⟩, fun x G' y => ?_⟩
    obtain ⟨rfl, rfl⟩ := y
    exact hs i _ c p
  · have e : i = n := by omega
    subst e
    exact .inl ⟨Nat.le_refl _, hd G p⟩
/-- the second one over a range -/
theorem dc2_inner {lo : Int} {n : Nat} {gj : TG} {tj : TT} {tk tv : TE} {vj : List Nat} {σ2 : L2.St} {H4 : Hp} {D : Addr} {Nx : Hp → Prop}
    (Pw : Nat → Hp → Prop) (h0 : Pw 0 H4)
    (hs : ∀ j G, j < n → Pw j G → gj (.int (lo + j)) (wipe σ2 vj) G fun σ3 H5 => wipe σ3 vj = wipe σ2 vj ∧ tj σ3 H5 fun b H6 =>
      if b = true then tk σ3 H6 fun y H7 => tv σ3 H7 fun z H8 =>
        ∃ kvs k p, y = .ref p ∧ H8 p = some (.tup (k.map kV)) ∧ H8 D = some (.dT kvs) ∧ kvs.length < sizeLine ∧ Pw (j + 1) (upd H8 D (.dT (putK kvs k z)))
      else Pw (j + 1) H6) (hd : ∀ G, Pw n G → Nx G) :
    ∃ Wj : Nat → Nat → Hp → Prop, (∃ m, Wj 0 m H4) ∧ ∀ j k G, Wj j k G →
      ((Itr lo n).stop j G ∧ Nx G) ∨
      ((Itr lo n).go j G ∧ ∃ Ny : Hp → Prop, (∀ G', Ny G' → ∃ k', k' < k ∧ Wj (j + 1) k' G') ∧ ∀ x G', (Itr lo n).yld j G x G' →
        gj x (wipe σ2 vj) G' fun σ3 H5 => wipe σ3 vj = wipe σ2 vj ∧ tj σ3 H5 fun b H6 =>
          if b = true then tk σ3 H6 fun y H7 => tv σ3 H7 fun z H8 =>
            ∃ kvs k p, y = .ref p ∧ H8 p = some (.tup (k.map kV)) ∧ H8 D = some (.dT kvs) ∧ kvs.length < sizeLine ∧ Ny (upd H8 D (.dT (putK kvs k z)))
          else Ny H6) := by
  refine ⟨fun j m G => m = n - j ∧ (j ≤ n ∧ Pw j G), ⟨n, (Nat.sub_zero n).symm, Nat.zero_le n, h0⟩, ?_⟩
  rintro j m G ⟨rfl, hi, p⟩
  by_cases c : j < n
  · refine .inr ⟨c, Pw (j + 1), fun G' p' => ⟨n - (j + 1), by omega, rfl, c, p'⟩, fun x G' y => ?_⟩
    obtain ⟨rfl, rfl⟩ := y
    exact hs j _ c p
  · have e : j = n := by omega
    subst e
    exact .inl ⟨Nat.le_refl _, hd G p⟩
end Fo
namespace Fo
open PySem PySem.Spec PyProof.Rows L2
/-! dicts keyed by tuples: ==, dict(pairs), values(), clear() -/
section
variable {prog : Program} {w : World} {K : Type} [DecidableEq K] {knd : HeapKind prog w K} {A : Around} {E : Value → Shared → Prop} {s : Shared}
theorem same_pairsH {nm : String} {a b : Addr} {xa xb : List (K × Addr × Value)} {Q : Bool → Shared → Prop} (hu : knd.room A) (ha : (a == sysModules) = false) (hb : (b == sysModules) = false)
    (da : s.heap.DictOfH knd a xa) (db : s.heap.DictOfH knd b xb) (hl : xa.length = xb.length)
    (hits : ∀ k p v, (k, p, v) ∈ xa → ∃ q y, atKey xb k = some (q, y) ∧ SeqAt.EqAt A s v y true) (h : Q true s) :
    wpAny (model prog w) A (Builtin.Dict.samePairs nm a b) Q E s := by
  obtain ⟨oa, es, ep, hoa, _, hda, hea, hisa, _⟩ := da
  obtain ⟨ob, es', ep', hob, _, hdb, heb, hisb, hnb⟩ := db
  have za := size_of_entries hea
  have zb := size_of_entries heb
  unfold Builtin.Dict.samePairs Builtin.Dict.showsAll
  have neg : ∀ {c : Addr}, (c == sysModules) = false → ¬ (c == sysModules) = true := fun e z => by rw [e] at z; cases z
  rw [if_neg (neg ha), if_neg (neg hb)]
  refine wpAny_bind (wpAny_pure (wpAny_bind (wpAny_pure (wpAny_bind (wpAny_dictEntries hoa hda ?_)))))
  dsimp only
  refine wpAny_bind (wpAny_dictEntries hob hdb ?_)
  rw [if_neg (by rw [za, zb, hl]; simp)]
  refine wpAny_bind (wpAny_dictEpoch hoa hda (wpAny_bind ?_))
  rw [Std.Legacy.Range.forIn_eq_forIn_range']
  simp only [Std.Legacy.Range.size, Nat.sub_zero, Nat.add_sub_cancel, Nat.div_one]
  refine wpAny_forIn_list _ (fun rest q s' => s' = s ∧ q = (none, ()) ∧ ∃ i, rest = List.range' i (es.size - i) ∧ i ≤ es.size) _ ?_ ?_ _ _ ⟨rfl, rfl, 0, by simp, Nat.zero_le _⟩
  · rintro x rest q s' ⟨rfl, rfl, i, hr, hi⟩
    obtain ⟨hlt, rfl, hrest⟩ : i < es.size ∧ x = i ∧ rest = List.range' (i + 1) (es.size - (i + 1)) := by
      rcases Nat.lt_or_ge i es.size with g | g
      · refine ⟨g, ?_⟩
        rw [show es.size - i = (es.size - (i + 1)) + 1 by omega, List.range'_succ] at hr
        injection hr with h1 h2
        exact ⟨h1, h2⟩
      · rw [Nat.sub_eq_zero_of_le g] at hr
        cases hr
    refine wpAny_bind (wpAny_dictEntries hoa hda ?_)
    obtain ⟨⟨k, p, v⟩, hkv⟩ : ∃ z, xa[x]? = some z := ⟨_, List.getElem?_eq_getElem (by omega)⟩
    have hex : es[x]? = some ⟨knd.hash k, .ref p, v⟩ := by rw [entry_at hea x, hkv]; rfl
    rw [hex]
    obtain ⟨q', y, hq, he⟩ := hits k p v (List.mem_of_getElem? hkv)
    show wpAny _ _ (holding [Value.ref p, v] _ >>= _) _ _ _
    refine wpAny_bind (wpAny_holding (wpAny_bind (wpAny_dictFind_heap hu (hisa _ (List.mem_of_getElem? hkv)) hob hdb heb hisb hnb (fun hno => ?_) (fun j pp hj => ?_))))
    · rw [atKey_none_of_get hno] at hq
      cases hq
    · rw [atKey_of_get hnb hj] at hq
      cases hq
      refine wpAny_bind (wpAny_dictEntries hob hdb ?_)
      rw [entry_at heb j, hj]
      refine wpAny_holding (he prog w _ _ ?_)
      show wpAny _ _ (if (!true) = true then _ else _) _ _ _
      rw [if_neg (by decide)]
      refine wpAny_bind (wpAny_dictEpoch hoa hda ?_)
      rw [if_neg (by simp)]
      exact wpAny_pure ⟨rfl, rfl, x + 1, hrest, hlt⟩
  · rintro q s' ⟨rfl, rfl, i, hr, hi⟩
    exact wpAny_pure h
theorem ne_dictsH {a b : Addr} {xa xb : List (K × Addr × Value)} {Q : Value → Shared → Prop} (hr : knd.room A.in1) (hu : A.units < cLine) (ha : (a == sysModules) = false) (hb : (b == sysModules) = false)
    (da : s.heap.DictOfH knd a xa) (db : s.heap.DictOfH knd b xb) (hl : xa.length = xb.length)
    (hits : ∀ k p v, (k, p, v) ∈ xa → ∃ q y, atKey xb k = some (q, y) ∧ SeqAt.EqAt A.in1 s v y true) (h : Q (.bool false) s) :
    wpAny (model prog w) A (compareOp .NotEq (.ref a) (.ref b)) Q E s := by
  refine wpAny_richCompare_same_room (op := .NotEq) da.typeIs db.typeIs PySem.F.slot_dict_ne (wpAny_call_entry PySem.F.slot_dict_ne da.typeIs PySem.F.entry_dict_ne ?_ (PySem.F.args_dict_ne_2 _ _)) hu
  show wpAny _ _ (Builtin.Dict.dictSlotArgs "__ne__" ⟨[.ref a, .ref b], []⟩ >>= _) _ _ s
  refine wpAny_bind ?_
  unfold Builtin.Dict.dictSlotArgs
  refine wpAny_bind (wpAny_notOrdered_dict da.typeIs ?_)
  show wpAny _ _ (pure (Value.ref a, Value.ref b)) _ _ s
  refine wpAny_pure (wpAny_bind (wpAny_isInstance (T := "dict") db.typeIs PySem.F.sub_dict_dict ?_))
  simp only [Bool.not_true, Bool.false_eq_true, if_false]
  refine wpAny_bind (wpAny_pure (wpAny_bind (wpAny_pure (wpAny_bind (same_pairsH hr ha hb da db hl hits (wpAny_pure ⟨_, rfl, ?_, ?_⟩))))))
  · exact fun x => nomatch x
  · simpa using h
end
section
variable {X : Cx}
theorem pairs_mem {α β : Type} {G : α → β → Prop} {l : List α} {m : List β} (h : Paired G l m) : ∀ y ∈ m, ∃ x ∈ l, G x y := by
  induction h with
  | nil => intro y hy; cases hy
  | @cons a b l m r t ih =>
    intro y hy
    rcases List.mem_cons.mp hy with rfl | hy
    · exact ⟨a, List.mem_cons_self, r⟩
    · obtain ⟨x, hx, g⟩ := ih y hy
      exact ⟨x, List.mem_cons_of_mem _ hx, g⟩
/-- != of two dicts that are the same, whatever the order of their keys -/
def rNeDT : R2 := fun x y H Q => ∃ a b ks ls, x = .ref a ∧ y = .ref b ∧ H a = some (.dT ks) ∧ H b = some (.dT ls) ∧ ks.length = ls.length ∧ (∀ p ∈ ks, valV ls p.1 = some p.2 ∧ flatB p.2 = true) ∧ Q (.bl false) H
theorem op_neDT (hu : X.A.units + 1 < cLine) : OpR X (compareOp .NotEq) rNeDT := by
  intro pins s σ H x y v u Q I rx ry h
  obtain ⟨a, b, ks, ls, rfl, rfl, ea, eb, hlen, hp, q⟩ := h
  obtain rfl : v = Value.ref a := rx
  obtain rfl : u = Value.ref b := ry
  obtain ⟨_, ya, xa, ra, da⟩ := dt_of I.hok ea
  obtain ⟨_, yb, xb, rb, db⟩ := dt_of I.hok eb
  refine ne_dictsH (tupleKind_room_in1 hu) (by omega) ya yb da db (by rw [← Paired.length ra, ← Paired.length rb]; exact hlen) (fun k p v m => ?_) ⟨.bl false, H, I, rfl, q⟩
  obtain ⟨⟨k', x⟩, hx, e1, e2, e3⟩ := pairs_mem ra _ m
  obtain rfl : k' = k := e1
  obtain ⟨g1, g2⟩ := hp _ hx
  have rr : RelO (some x) ((atKey xb k').map (·.2)) := by rw [← g1]; exact rb.val k'
  obtain ⟨y, hy, ry⟩ := rr.some_of
  obtain ⟨⟨q', y'⟩, hq, rfl⟩ := Option.map_eq_some_iff.mp hy
  exact ⟨q', y', hq, eqAt_same e3 ry g2⟩
theorem kt_new {P : Program} {w : World} {H : Hp} {h : Heap} {a : Addr} {kvs : List (List Key × V)} {xs : List (List Key × Addr × Value)} (z : kvs.length ≤ sizeLine) (hd : (a == sysModules) = false) (rel : KT H kvs xs) (dd : h.DictOfH (tupleKind (mixKind P w)) a xs) : ObjOk P w H h a (.dT kvs) := by
  obtain ⟨o, es, ep, h1, h2, h3, h4, _, h5⟩ := dd
  exact ⟨z, hd, xs, rel, o, es, ep, h1, h2, h3, h4, h5⟩
/-- d.clear() -/
def rClearT : V → List V → Hp → VK → Prop := fun x xs H Q => ∃ (a : Addr) (kvs : List (List L2.Key × V)), x = .ref a ∧ xs = [] ∧ H a = some (.dT kvs) ∧ Q .non (upd H a (.dT []))
theorem mt_clearT : MtR X "dict.clear" rClearT := by
  intro pins s σ H x xs v us Q I rx rxs h
  obtain ⟨a, kvs, rfl, rfl, ha, q⟩ := h
  cases rx
  cases rxs
  obtain ⟨z, hd, ys, rel, dd⟩ := dt_of I.hok ha
  refine clear_keyed (kvs := pairsH ys) (knd := tupleKind (mixKind X.prog X.w)) ⟨ys, dd, rfl⟩ (fun h' dd' hs => ?_) (by rw [pairsH_length, ← Paired.length rel]; exact z)
  obtain ⟨zs, dz, ez⟩ := dd'
  have hz : zs = [] := by
    cases zs with
    | nil => rfl
    | cons a l => cases ez
  subst hz
  have he : ∃ q, h'.get? a = some q := let ⟨q, _, _, hq, _⟩ := dz; ⟨q, hq⟩
  exact ⟨.non, _, d_write (t' := s.toks) I (by rw [ha]; exact True.intro) hs he (kt_new (Nat.zero_le _) hd .nil dz), rfl, q⟩
/-- the values of the locked dict at d -/
def ItdT (d : Addr) (o : Obj) (kvs : List (List Key × V)) : It :=
  ⟨fun i H => H d = some (.frz o (.dT kvs)) ∧ i < kvs.length, fun i H x H' => H' = H ∧ ∃ k, kvs[i]? = some (k, x), fun i H => H d = some (.frz o (.dT kvs)) ∧ kvs.length ≤ i⟩
theorem frz_vals {pins : List (Addr × Obj)} {σ : L2.St} {H : Hp} {s : Shared} {d : Addr} {o : Obj} {kvs : List (List Key × V)} (I : Inv X pins σ H s) (h : H d = some (.frz o (.dT kvs))) :
    (d == sysModules) = false ∧ s.heap.get? d = some o ∧ o.ExactDict ∧ ∃ (es : Array DictEntry) (ep : Nat), o.data = .dict es ep ∧ es.size = kvs.length ∧
      ∀ (i : Nat) (hi : i < es.size) (k : List Key) (v : V), kvs[i]? = some (k, v) → RelV v es[i].val := by
  obtain ⟨hd, z, hs, xs, pr, o', es, ep, ho, hx, hdt, he, _⟩ := I.hok d _ h
  rw [hd] at ho
  cases ho
  refine ⟨hs, hd, hx, es, ep, hdt, ?_, fun i hi k v e => ?_⟩
  · rw [size_of_entries he, Paired.length pr]
  · obtain ⟨b, hb, _, _, e3⟩ := paired_get pr e
    have q := entry_at he i
    rw [hb, Array.getElem?_eq_getElem hi] at q
    have q' := Option.some.inj q
    rw [q']
    exact e3
section
variable {P : Program} {w : World} {K : PySem.W.Frag} {tg : Expr} {d : Addr} {o : Obj} {es : Array DictEntry} {ep : Nat}
theorem turn_valsT {kvs : List (List Key × V)} (it : Addr) (hod : o.data = .dict es ep) : Turn P w K tg (ItdT d o kvs) [it] it (fun i h => h.IsValIter it d i kvs.length ep) where
  mem := by simp
  obj := fun i h st b hb => by
    obtain rfl : b = it := by simpa using hb
    obtain ⟨oi, e, c, dd⟩ := st
    exact ⟨oi, e, fun v z => by rw [dd] at z; cases z⟩
  keep := fun i h h' st k => st.at fun oi e => k it (by simp) oi e
  item := by
    intro X hP hw hK hc i pins s σ H E I hf st hg
    subst hP hw hK
    obtain ⟨hd, hi⟩ := hg
    obtain ⟨f0, f1, f2, f3, f4, f5⟩ := hf it (by simp)
    obtain ⟨hs, hgd, hx, es', ep', hdt, hsz, ent⟩ := frz_vals I hd
    obtain ⟨rfl, rfl⟩ := dict_ep hod hdt
    obtain ⟨⟨k, v⟩, hkv⟩ : ∃ p, kvs[i]? = some p := ⟨kvs[i], List.getElem?_eq_getElem hi⟩
    rw [← hsz] at st
    have hi' : i < es'.size := by omega
    refine wpAny_pyNext_values_item_raw st ⟨o, hgd, hx, hdt⟩ hi' fun h' st' sb => ?_
    have J : Inv X pins σ H { s with heap := h' } := I.turned (t' := s.toks) (fun b ob hb e => (sb.2 b hb).trans e) f0 f1 f3 f4 f5
    obtain ⟨oi, e, c, dd⟩ := id st'
    refine ⟨es'[i].val, rfl, go_of (s := { s with heap := h' }) e c dd (by decide) ⟨v, H, J, ent i hi' k v hkv, ⟨rfl, k, hkv⟩, ?_, fun b hb => (hf b hb).1⟩⟩
    show h'.IsValIter it d (i + 1) kvs.length _
    rw [← hsz]
    exact st'
  done := by
    intro X hP hw hK hc i pins s σ H E I hf st hg
    subst hP hw hK
    obtain ⟨hd, hi⟩ := hg
    obtain ⟨f0, f1, f2, f3, f4, f5⟩ := hf it (by simp)
    obtain ⟨hs, hgd, hx, es', ep', hdt, hsz, ent⟩ := frz_vals I hd
    obtain ⟨rfl, rfl⟩ := dict_ep hod hdt
    rw [← hsz] at st
    exact wpAny_pyNext_values_end_raw (I.ok.hd hc) st ⟨o, hgd, hx, hdt⟩ (by omega) fun h' eb => ⟨rfl, I.turned (t' := s.toks) (fun b ob hb e => eb b ob hb e) f0 f1 f3 f4 f5⟩
  self := fun A i s Q E st h => wpAny_pyIter_valiter st h
end
def iValsT (td : TE) : TI := fun σ H R => td σ H fun x H1 => ∃ d o kvs, x = .ref d ∧ H1 d = some (.frz o (.dT kvs)) ∧ R (ItdT d o kvs) H1
theorem pi_valuesT {tg e : Expr} {td : TE} {apos cpos : Pos} (he : PE X e td) (hbase : attributeBase e "values" X.env (eval e X.env) = eval e X.env := by rfl) (hline : (apos.endLine == cpos.line) = true := by rfl) :
    PI X tg (.Call (.Attribute e "values" apos) [] [] cpos) (iValsT td) := by
  refine ⟨fun pins s σ H R I h => ?_⟩
  refine wpAny_Call_method (T := "dict") (id := "dict.values") hbase rfl hline F.plainAttrs_dict F.slot_dict_values F.type_dict_values (thn (he.run pins s σ H _ I h) fun u s1 ⟨x, H1, I1, rx, d, o, kvs, ex, hd, q⟩ => ?_)
  subst ex
  obtain rfl : u = Value.ref d := rx
  obtain ⟨hs, hgd, hx, es, ep, hdt, hsz, ent⟩ := frz_vals I1 hd
  have raw : s1.heap.DictRaw d es ep := ⟨o, hgd, hx, hdt⟩
  refine ⟨raw.typeIs, fun a e => by cases e; exact ⟨o, hgd, hx.2.1⟩, ?_⟩
  have I2 : Inv X pins σ H1 { s1 with heap := s1.heap.push { cls := .type "dict_values", data := .fields #[.ref d] } } := I1.kept (t' := s1.toks) fun b ob q => Heap.get?_push_of_some _ q
  have fin : wpAny (model X.prog X.w) X.A (pyIter (.ref s1.heap.objs.size)) (PIE X pins σ tg R) X.xe { s1 with heap := s1.heap.push { cls := .type "dict_values", data := .fields #[.ref d] } } := by
    refine wpAny_pyIter_values_raw (d := d) (es := es) (ep := ep) ⟨_, Heap.get?_push_size _ rfl, rfl, rfl⟩ (raw.at fun o e => Heap.get?_push_of_some _ e) (pi_one (tk := s1.toks) I2 _ (turn_valsT _ hdt) ⟨_, Heap.get?_push_size _ rfl, rfl, ?_⟩ q)
    rw [← hsz] <;> rfl
  show wpAny _ _ (callWith cpos (.builtin "dict.values") [.ref d] [] []) _ X.xe s1
  exact method_meetsIn F.slot_dict_values F.entry_dict_values rfl (PySem.evalArgs_none ⟨rfl, raw.typeIs, F.args_dict_values_1 _, _, meets_dict_values_raw d hs, ⟨es, ep, raw⟩, fin⟩)
end
def mergeT (kvs more : List (List Key × V)) : List (List Key × V) := more.foldl (fun acc kv => putK acc kv.1 kv.2) kvs
theorem KT.merge {H : Hp} : ∀ {more : List (List Key × V)} {rs : List (List Key × Addr × Value)} {kvs : List (List Key × V)} {vs : List (List Key × Addr × Value)}, KT H more rs → KT H kvs vs → KT H (mergeT kvs more) (storedAllH vs rs)
  | _, _, _, _, .nil, h => h
  | _, _, _, _, .cons (a := kv) (b := x) ⟨h1, h2, h3⟩ t, h => by
    show KT H (mergeT (putK _ kv.1 kv.2) _) (storedAllH (storedH _ x.1 x.2.1 x.2.2) _)
    refine KT.merge t ?_
    rw [← h1]
    exact h.put kv.1 h2 h3
theorem length_mergeT : ∀ (more kvs : List (List Key × V)), (mergeT kvs more).length ≤ kvs.length + more.length
  | [], kvs => Nat.le_refl _
  | kv :: more, kvs => by
    have h1 := length_mergeT more (putK kvs kv.1 kv.2)
    have h2 := length_putK kvs kv.1 kv.2
    show (mergeT (putK kvs kv.1 kv.2) more).length ≤ _
    rw [List.length_cons]
    omega
section
variable {X : Cx}
/-- the pairs at ps: each a key's tuple and a value -/
theorem pairs_ofT {pins : List (Addr × Obj)} {σ : L2.St} {H : Hp} {s : Shared} (I : Inv X pins σ H s) : ∀ {ps : List Addr} {kvs : List (List Key × V)}, Paired (fun p kv => ∃ b, SqT X.K H p [.ref b, kv.2] ∧ H b = some (.tup (kv.1.map kV))) ps kvs →
    ∃ xs : List (List Key × Addr × Value), KT H kvs xs ∧ xs.length = ps.length ∧ ∀ (j : Nat) (x : List Key × Addr × Value), xs[j]? = some x → ∃ p, ps[j]? = some p ∧ IsTup s.heap p #[.ref x.2.1, x.2.2]
  | _, _, .nil => ⟨[], .nil, rfl, fun j q e => by simp at e⟩
  | _, _, .cons (a := p) (b := kv) ⟨b, h, hb⟩ t => by
    obtain ⟨xs, r, hl, hp⟩ := pairs_ofT I t
    obtain ⟨its, rv, ht, _⟩ := I.tuple h
    obtain ⟨u, y, ei, ru, ry⟩ := vals2 rv
    subst ei
    cases ru
    refine ⟨(kv.1, b, y) :: xs, .cons ⟨rfl, hb, ry⟩ r, by rw [List.length_cons, List.length_cons, hl], fun j q e => ?_⟩
    cases j with
    | zero =>
      have e' : (kv.1, b, y) = q := Option.some.inj e
      subst e'
      exact ⟨p, rfl, ht⟩
    | succ j =>
      obtain ⟨b, e1, e2⟩ := hp j q (by simpa using e)
      exact ⟨b, by simpa using e1, e2⟩
theorem u2_of {k : Nat} {A : Around} (r : Room k A) : A.units + 2 < cLine := by have := r.un; omega
/-- dict(xs) of a list of pairs whose keys are tuples -/
def rDictT (K : PySem.W.Frag) : List V → Hp → VK → Prop := fun xs H Q => ∃ (a : Addr) (ps : List Addr) (kvs : List (List Key × V)), xs = [.ref a] ∧ H a = some (.lst (ps.map V.ref)) ∧
  Paired (fun (p : Addr) (kv : List Key × V) => ∃ b, SqT K H p [V.ref b, kv.2] ∧ H b = some (.tup (kv.1.map kV))) ps kvs ∧ ∀ p, H p = none → Q (.ref p) (upd H p (.dT (mergeT [] kvs)))
theorem call_dictT (calm : X.calm = true) (hu : X.A.units + 2 < cLine) : CallR X (.type "dict") (rDictT X.K) := by
  intro pins s σ H xs us Q I r q
  obtain ⟨a, ps, kvs, ex, hq, hp, q⟩ := q
  subst ex
  obtain ⟨u, eu, rx⟩ := vals1 r
  subst eu
  cases rx
  obtain ⟨hz, its, n, rv, hg⟩ := I.hok a _ hq
  have ei := refs_at rv
  subst ei
  rw [List.length_map] at hz
  obtain ⟨ys, rel, hl, hpr⟩ := pairs_ofT I hp
  have hlk : kvs.length = ys.length := Paired.length rel
  let prs : List (Value × Value) := ys.map fun x => (Value.ref x.2.1, x.2.2)
  have hat : ∀ {j : Nat} {k v : Value}, prs[j]? = some (k, v) → ∃ x, ys[j]? = some x ∧ k = .ref x.2.1 ∧ v = x.2.2 := fun {j k v} e => by
    rw [List.getElem?_map] at e
    obtain ⟨x, hx, e⟩ := Option.map_eq_some_iff.mp e
    cases e
    exact ⟨x, hx, rfl, rfl⟩
  have stay : ∀ h', (∀ b o, s.heap.get? b = some o → h'.get? b = some o) → ∀ x ∈ ys, (tupleKind (mixKind X.prog X.w)).is h' x.1 x.2.1 := fun h' k x hx => by
    obtain ⟨kv, hkv, e1, e2, e3⟩ := pairs_mem rel x hx
    obtain ⟨o, its, n, h1, h2, h3, h4⟩ := key_of I.hok (by rw [← e1]; exact e2 : H x.2.1 = some (.tup (x.1.map kV)))
    exact ⟨o, its, n, k _ _ h1, h2, h3, h4⟩
  refine call_dict_pairsH (knd := tupleKind (mixKind X.prog X.w)) (ps := ys) (wr := []) (PairArg.list a (ps.map Value.ref).toArray (fun j => (ps[j]?).getD 0) prs) (I.ok.hd calm) hu
    ⟨⟨_, n, hg, rfl, rfl, rfl⟩, by simp [prs, hl], fun j k v e => ?_⟩ ⟨by simp [prs], fun i k v e => ?_⟩ (fun h' k x hx => ?_) (by simp only [prs, List.length_map]; omega) fun h' tk dd k => ?_
  · obtain ⟨x, hx, rfl, rfl⟩ := hat e
    obtain ⟨p, e1, e2⟩ := hpr j x hx
    refine ⟨by simp [e1], ?_⟩
    show PairAt s.heap ((ps[j]?).getD 0) _ _
    rw [e1]
    exact .inl e2
  · obtain ⟨x, hx, rfl, rfl⟩ := hat e
    exact ⟨x.1, x.2.1, hx, rfl⟩
  · exact stay h' (fun b o e => k b o (Nat.ne_of_lt (Heap.lt_size e)) (fun z => nomatch z) e) x hx
  · have hm : (s.heap.objs.size == sysModules) = false := beq_eq_false_iff_ne.mpr (Nat.ne_of_gt I.big)
    have hlen : (mergeT [] kvs).length ≤ sizeLine := by
      have := length_mergeT kvs []
      rw [List.length_nil, Nat.zero_add] at this
      omega
    have hf := I.hok.fresh (Nat.le_refl s.heap.objs.size)
    refine ⟨.ref s.heap.objs.size, upd H s.heap.objs.size (.dT (mergeT [] kvs)), I.laid (t' := tk) (fun b o e => k b o (fun z => nomatch z) e) (Nat.le_refl _) (kt_new hlen hm ((KT.merge rel .nil).keeps fun b ys e => ?_) dd), rfl, q _ hf⟩
    rw [upd_ne (ne_of_none e hf)]
    exact e
end
end Fo
namespace Fo
open PySem PySem.Spec PyProof.Rows L2
/-! ### the deck: a list of its pools and a number; a pool: three numbers -/
structure Dk where
  d : Addr
  pl : Addr
  as : List Addr
def Dk.Foot (D : Dk) (b : Addr) : Prop := b = D.d ∨ b = D.pl ∨ b ∈ D.as
structure DkAt (H : Hp) (D : Dk) : Prop where
  top : ∃ i : Int, H D.d = some (.lst [.ref D.pl, .int i])
  pools : H D.pl = some (.lst (D.as.map V.ref))
  len : 0 < D.as.length
  len2 : D.as.length ≤ 63
  at_ : ∀ a ∈ D.as, ∃ x y z : Int, H a = some (.lst [.int x, .int y, .int z])
def Keep (D : Dk) (H H' : Hp) : Prop := ∀ b o, H b = some o → ¬ D.Foot b → H' b = some o
theorem Keep.refl {D : Dk} (H : Hp) : Keep D H H := fun _ _ e _ => e
theorem Keep.trans {D : Dk} {H H1 H2 : Hp} (a : Keep D H H1) (b : Keep D H1 H2) : Keep D H H2 := fun c o e f => b c o (a c o e f) f
theorem Keep.new {D : Dk} {H : Hp} {p : Addr} {o : HO} (e : H p = none) : Keep D H (upd H p o) := fun b u h _ => by
  rw [upd_ne (ne_of_none h e)]
  exact h
theorem Keep.foot {D : Dk} {H : Hp} {p : Addr} {o : HO} (f : D.Foot p) : Keep D H (upd H p o) := fun b u h nf => by
  rw [upd_ne (fun e => nf (by rw [e]; exact f))]
  exact h
theorem Keep.of_same {D : Dk} {H H' : Hp} (h : Same H H') : Keep D H H' := fun b o e _ => h b o e
section
variable {H : Hp} {D : Dk}
theorem DkAt.tracked (h : DkAt H D) {b : Addr} (f : D.Foot b) : ∃ o, H b = some o := by
  rcases f with rfl | rfl | f
  · obtain ⟨i, e⟩ := h.top
    exact ⟨_, e⟩
  · exact ⟨_, h.pools⟩
  · obtain ⟨x, y, z, e⟩ := h.at_ b f
    exact ⟨_, e⟩
theorem DkAt.notFoot (h : DkAt H D) {p : Addr} (e : H p = none) : ¬ D.Foot p := fun f => by
  obtain ⟨o, q⟩ := h.tracked f
  rw [e] at q
  cases q
theorem DkAt.upd (h : DkAt H D) {p : Addr} {o : HO} (nf : ¬ D.Foot p) : DkAt (upd H p o) D where
  top := by
    obtain ⟨i, e⟩ := h.top
    exact ⟨i, by rw [upd_ne (fun q => nf (.inl q.symm))]; exact e⟩
  pools := by
    rw [upd_ne (fun q => nf (.inr (.inl q.symm)))]
    exact h.pools
  len := h.len
  len2 := h.len2
  at_ := fun a ha => by
    obtain ⟨x, y, z, e⟩ := h.at_ a ha
    exact ⟨x, y, z, by rw [upd_ne (fun q => nf (.inr (.inr (by rw [← q]; exact ha))))]; exact e⟩
theorem DkAt.new (h : DkAt H D) {p : Addr} {o : HO} (e : H p = none) : DkAt (L2.upd H p o) D := h.upd (h.notFoot e)
theorem DkAt.same (h : DkAt H D) {H' : Hp} (s : Same H H') : DkAt H' D := ⟨by obtain ⟨i, e⟩ := h.top; exact ⟨i, s _ _ e⟩, s _ _ h.pools, h.len, h.len2, fun a ha => by
  obtain ⟨x, y, z, e⟩ := h.at_ a ha
  exact ⟨x, y, z, s _ _ e⟩⟩
theorem DkAt.a_ne_d (h : DkAt H D) {a : Addr} (ha : a ∈ D.as) : a ≠ D.d := by
  obtain ⟨x, y, z, e⟩ := h.at_ a ha
  obtain ⟨i, e2⟩ := h.top
  exact ne_of e e2 (by intro q; cases q)
theorem DkAt.a_ne_pl (h : DkAt H D) {a : Addr} (ha : a ∈ D.as) : a ≠ D.pl := by
  obtain ⟨x, y, z, e⟩ := h.at_ a ha
  refine ne_of e h.pools ?_
  cases q : D.as with
  | nil => intro z; cases z
  | cons b r => intro z; cases z
theorem DkAt.d_ne_pl (h : DkAt H D) : D.d ≠ D.pl := by
  obtain ⟨i, e⟩ := h.top
  refine ne_of e h.pools ?_
  rcases q : D.as with _ | ⟨b, _ | ⟨c, r⟩⟩ <;> (intro z; cases z)
theorem DkAt.pool (h : DkAt H D) {a : Addr} (ha : a ∈ D.as) {x y z : Int} : DkAt (L2.upd H a (.lst [.int x, .int y, .int z])) D where
  top := by
    obtain ⟨i, e⟩ := h.top
    exact ⟨i, by rw [upd_ne (h.a_ne_d ha).symm]; exact e⟩
  pools := by
    rw [upd_ne (h.a_ne_pl ha).symm]
    exact h.pools
  len := h.len
  len2 := h.len2
  at_ := fun b hb => by
    by_cases q : b = a
    · subst q
      exact ⟨x, y, z, upd_same⟩
    · obtain ⟨x', y', z', e⟩ := h.at_ b hb
      exact ⟨x', y', z', by rw [upd_ne q]; exact e⟩
theorem DkAt.step (h : DkAt H D) {i : Int} : DkAt (L2.upd H D.d (.lst [.ref D.pl, .int i])) D where
  top := ⟨i, upd_same⟩
  pools := by
    rw [upd_ne h.d_ne_pl.symm]
    exact h.pools
  len := h.len
  len2 := h.len2
  at_ := fun b hb => by
    obtain ⟨x', y', z', e⟩ := h.at_ b hb
    exact ⟨x', y', z', by rw [upd_ne (h.a_ne_d hb)]; exact e⟩
end
/-! ### the promises of the law's own defs -/
def spDeck (K : PySem.W.Frag) : Sp := fun vs H Q _ => ∃ (a : Addr) (ns : List Int), vs = [.ref a] ∧ SqL K H a (ns.map V.int) ∧ ns.length ≤ 63 ∧
  ∀ (D : Dk) (H' : Hp), DkAt H' D → Same H H' → (∀ b, D.Foot b → H b = none) → Q (.ref D.d) H'
def spDraw : Sp := fun vs H Q _ => ∃ (D : Dk) (many : Int), vs = [.ref D.d, .int many] ∧ DkAt H D ∧ 0 < many ∧ many < 1000000 ∧
  ∀ (v : Int) (H' : Hp), 0 ≤ v → v < many → DkAt H' D → Keep D H H' → Q (.int v) H'
def spThings : Sp := fun vs H Q _ => ∃ (D : Dk), vs = [.ref D.d] ∧ DkAt H D ∧
  ∀ (n : Nat) (H' : Hp), 1 ≤ n → n ≤ 12 → DkAt H' D → Keep D H H' → Q (.int n) H'
def spOrder : Sp := fun vs H Q _ => ∃ (D : Dk) (n : Nat), vs = [.ref D.d, .int n] ∧ DkAt H D ∧ 1 ≤ n ∧ n ≤ 12 ∧
  ∀ (ns : List Int) (l : Addr) (H' : Hp), IsOrd n ns → H l = none → H' l = some (.lst (ns.map V.int)) → ¬ D.Foot l → DkAt H' D → Keep D H H' → Q (.ref l) H'
section
variable {P : Program} {w : World} {K : PySem.W.Frag} {mg : Str → Option Value} {base : Heap}
/-! ### a draw -/
theorem scDraw : FnScope ["deck", "many", "pool", "found", "number"] ["deck", "many"] (defScope s_law_draw) := ⟨rfl, rfl, rfl, by decide +kernel, rfl, by decide +kernel, by decide +kernel⟩
theorem at3_0 {x y z : V} : atI [x, y, z] 0 = some x := rfl
theorem at3_1 {x y z : V} : atI [x, y, z] 1 = some y := rfl
theorem at3_2 {x y z : V} : atI [x, y, z] 2 = some z := rfl
set_option maxHeartbeats 2000000 in
theorem ok_draw {f : Addr} {fd : FuncData} {k : Nat} (T : Df K mg "_law_draw" s_law_draw ["deck", "many"] f fd) (B : Bi mg) : FnOk P w K mg base CX0 (k + 1) f fd ["deck", "many"] spDraw := by
  refine T.F.ok scDraw (fun vs H Q E h => ?_) (fun cdv A outer s H vs Q E hr h => ?_)
  · obtain ⟨D, m, rfl, _⟩ := h
    rfl
  · obtain ⟨D, m, rfl, hD, hm0, hm1, q⟩ := h
    refine ⟨_, pss_cons (ps_set (i := 2) scDraw.nd rfl (.inl rfl) (pe_ix ix_list (pe_ix ix_list (pv 0) pe_int (fun _ _ => rfl)) (pe_op op_mod (pe_ix ix_list (pv 0) pe_int (fun _ _ => rfl)) (pe_callB call_len_seq (by rfl) B.len PySem.boot_len (pa_cons (pe_ix ix_list (pv 0) pe_int (fun _ _ => rfl)) pa_nil))) (fun _ _ => rfl)))
      (pss_cons (ps_asg (pe_op op_add (pe_ix ix_list (pv 0) pe_int (fun _ _ => rfl)) pe_int) (pg_sub (pv 0) pe_int set_list))
      (Evl.pss_cut (ps_if (PW.pt (pw_and (pt_cmpR op_eq (pe_ix ix_list (pv 2) pe_int (fun _ _ => rfl)) pe_int (nomark _)) (pw_and1 (pt_cmpR op_gt (pe_ix ix_list (pv 2) pe_int (fun _ _ => rfl)) pe_int (nomark _)))))
        (pss_cons (ps_set (i := 3) scDraw.nd rfl (.inl rfl) (pe_op op_mod (pe_ix ix_list (pv 2) pe_int (fun _ _ => rfl)) (pv 1)))
        (pss_cons (ps_asg (pe_op op_fdiv (pe_ix ix_list (pv 2) pe_int (fun _ _ => rfl)) (pv 1)) (pg_sub (pv 2) pe_int set_list))
        (pss_one (ps_ret (pv 3))))) pss_nil)
      (pss_cons (ps_asg (pe_op op_add (pe_ix ix_list (pv 2) pe_int (fun _ _ => rfl)) pe_int) (pg_sub (pv 2) pe_int set_list))
      (pss_cons (ps_set (i := 4) scDraw.nd rfl (.inl rfl) (pe_op op_mod (pe_op op_add (pe_op op_mod (pe_ix ix_list (pv 2) pe_int (fun _ _ => rfl)) pe_int) (pe_op op_mul pe_int (pe_ix ix_list (pv 2) pe_int (fun _ _ => rfl)))) pe_int))
      (pss_cons (ps_set (i := 4) scDraw.nd rfl (.inl rfl) (pe_op op_mod (pe_op op_mul (pv 4) (pv 4)) pe_int))
      (pss_cons (ps_set (i := 4) scDraw.nd rfl (.inl rfl) (pe_op op_mod (pe_op op_mul (pv 4) (pe_op op_add (pv 4) pe_int)) pe_int))
      (pss_one (ps_ret (pe_op op_mod (pe_op op_fdiv (pv 4) pe_int) (pv 1)))))))))), ?_⟩
    obtain ⟨i, hd⟩ := hD.top
    have hl := hD.len
    -- pool = deck[0][deck[1] % len(deck[0])]
    obtain ⟨j, hj, ej⟩ : ∃ j : Nat, j < D.as.length ∧ i % (((D.as.map V.ref).length : Nat) : Int) = (j : Int) := by
      rw [List.length_map]
      have h1 := Int.emod_nonneg i (show ((D.as.length : Nat) : Int) ≠ 0 by omega)
      have h2 := Int.emod_lt_of_pos i (show (0 : Int) < ((D.as.length : Nat) : Int) by omega)
      exact ⟨(i % ((D.as.length : Nat) : Int)).toNat, by omega, by omega⟩
    obtain ⟨a, ea⟩ : ∃ a, D.as[j]? = some a := ⟨D.as[j], List.getElem?_eq_getElem hj⟩
    have ha : a ∈ D.as := List.mem_of_getElem? ea
    have eV : (D.as.map V.ref)[j]? = some (V.ref a) := by rw [List.getElem?_map, ea]; rfl
    obtain ⟨x, y, z, hp⟩ := hD.at_ a ha
    refine ⟨_, rfl, D.d, _, 0, _, rfl, rfl, SqL.of hd, at2_0, _, rfl, D.d, _, 1, _, rfl, rfl, SqL.of hd, at2_1, _, rfl, D.d, _, 0, _, rfl, rfl, SqL.of hd, at2_0, D.pl, _, rfl, .inl (SqL.of hD.pools), i, _, rfl, rfl, ?_, D.pl, _, _, .ref a, rfl, rfl, SqL.of hD.pools, at_of ej eV, ?_⟩
    · rw [List.length_map]; omega
    -- deck[1] = deck[1] + 1
    refine ⟨_, rfl, D.d, _, 1, _, rfl, rfl, SqL.of hd, at2_1, i, 1, rfl, rfl, _, rfl, D.d, _, 1, 1, rfl, rfl, hd, rfl, ?_⟩
    have hD1 : DkAt (upd H D.d (.lst [.ref D.pl, .int (i + 1)])) D := hD.step
    have k1 : Keep D H (upd H D.d (.lst [.ref D.pl, .int (i + 1)])) := Keep.foot (.inl rfl)
    have hp1 : (upd H D.d (.lst [.ref D.pl, .int (i + 1)])) a = some (.lst [.int x, .int y, .int z]) := by
      rw [upd_ne (hD.a_ne_d ha)]
      exact hp
    refine ⟨fun σ' H' => σ' = [some (.ref D.d), some (.int m), some (.ref a), none, none] ∧ H' = upd H D.d (.lst [.ref D.pl, .int (i + 1)]), ?_, fun σ' H' hM => ?_⟩
    · -- if pool[1] == 1 and pool[0] > 0
      refine ⟨_, rfl, a, _, 1, _, rfl, rfl, SqL.of hp1, at3_1, rfl, _, rfl, ite2 (fun _ => ?_) (fun _ => iteF ⟨rfl, rfl⟩)⟩
      refine ⟨_, rfl, a, _, 0, _, rfl, rfl, SqL.of hp1, at3_0, x, 0, rfl, rfl, _, rfl, ite2 (fun _ => ?_) (fun _ => ⟨rfl, rfl⟩)⟩
      -- found = pool[0] % many; pool[0] = pool[0] // many
      refine ⟨_, rfl, a, _, 0, _, rfl, rfl, SqL.of hp1, at3_0, _, rfl, x, m, rfl, rfl, hm0, ?_⟩
      refine ⟨_, rfl, a, _, 0, _, rfl, rfl, SqL.of hp1, at3_0, _, rfl, x, m, rfl, rfl, ⟨hm0, by omega⟩, _, rfl, a, _, 0, 0, rfl, rfl, hp1, rfl, ?_⟩
      exact ⟨_, rfl, q _ _ (Int.emod_nonneg x (by omega)) (Int.emod_lt_of_pos x hm0) (hD1.pool ha) (k1.trans (Keep.foot (.inr (.inr ha))))⟩
    · obtain ⟨rfl, rfl⟩ := hM
      -- pool[2] = pool[2] + 1
      refine ⟨_, rfl, a, _, 2, _, rfl, rfl, SqL.of hp1, at3_2, z, 1, rfl, rfl, _, rfl, a, _, 2, 2, rfl, rfl, hp1, rfl, ?_⟩
      have hD2 : DkAt (upd (upd H D.d (.lst [.ref D.pl, .int (i + 1)])) a (.lst [.int x, .int y, .int (z + 1)])) D := hD1.pool ha
      have k2 : Keep D H (upd (upd H D.d (.lst [.ref D.pl, .int (i + 1)])) a (.lst [.int x, .int y, .int (z + 1)])) := k1.trans (Keep.foot (.inr (.inr ha)))
      have hp2 : (upd (upd H D.d (.lst [.ref D.pl, .int (i + 1)])) a (.lst [.int x, .int y, .int (z + 1)])) a = some (.lst [.int x, .int y, .int (z + 1)]) := upd_same
      refine ⟨_, rfl, a, _, 0, _, rfl, rfl, SqL.of hp2, at3_0, x, 99999999977, rfl, rfl, (show (0 : Int) < 99999999977 by decide), _, rfl, a, _, 2, _, rfl, rfl, SqL.of hp2, at3_2, 700001, z + 1, rfl, rfl, .inl ⟨by decide, by decide⟩, _, _, rfl, rfl, _, 99999999947, rfl, rfl, (show (0 : Int) < 99999999947 by decide), ?_⟩
      have b1 := Int.emod_nonneg (x % 99999999977 + 700001 * (z + 1)) (show (99999999947 : Int) ≠ 0 by decide)
      have b2 := Int.emod_lt_of_pos (x % 99999999977 + 700001 * (z + 1)) (show (0 : Int) < 99999999947 by decide)
      refine ⟨_, rfl, _, rfl, _, _, rfl, rfl, .inl ⟨?_, ?_⟩, _, 99999999821, rfl, rfl, (show (0 : Int) < 99999999821 by decide), ?_⟩
      · exact Int.lt_of_lt_of_le (by decide) b1
      · exact Int.lt_trans b2 (by decide)
      generalize hn : (x % 99999999977 + 700001 * (z + 1)) % 99999999947 = n1
      have c1 := Int.emod_nonneg (n1 * n1) (show (99999999821 : Int) ≠ 0 by decide)
      have c2 := Int.emod_lt_of_pos (n1 * n1) (show (0 : Int) < 99999999821 by decide)
      refine ⟨_, rfl, _, rfl, _, 19, rfl, rfl, _, _, rfl, rfl, .inl ⟨?_, ?_⟩, _, 9999999967, rfl, rfl, (show (0 : Int) < 9999999967 by decide), ?_⟩
      · exact Int.lt_of_lt_of_le (by decide) c1
      · exact Int.lt_trans c2 (by decide)
      refine ⟨_, rfl, _, 13, rfl, rfl, ⟨by decide, by decide⟩, _, rfl, _, m, rfl, rfl, hm0, ?_⟩
      exact q _ _ (Int.emod_nonneg _ (by omega)) (Int.emod_lt_of_pos _ hm0) hD2 k2
end
end Fo
namespace Fo
open PySem PySem.Spec PyProof.Rows L2
section
variable {P : Program} {w : World} {K : PySem.W.Frag} {mg : Str → Option Value} {base : Heap}
/-! ### how many things -/
theorem scDeck : FnScope ["script", "pools", "k", "cell"] ["script"] (defScope s_law_deck) := ⟨rfl, rfl, rfl, by decide +kernel, rfl, by decide +kernel, by decide +kernel⟩
set_option maxHeartbeats 2000000 in
theorem ok_deck {f : Addr} {fd : FuncData} {k : Nat} (T : Df K mg "_law_deck" s_law_deck ["script"] f fd) (B : Bi mg) : FnOk P w K mg base CX0 (k + 1) f fd ["script"] (spDeck K) := by
  refine T.F.ok scDeck (fun vs H Q E h => ?_) (fun cdv A outer s H vs Q E hr h => ?_)
  · obtain ⟨a, ns, rfl, _⟩ := h
    rfl
  · obtain ⟨a, ns, rfl, hS, hlen, q⟩ := h
    refine ⟨_, pss_cons (ps_set (i := 1) scDeck.nd rfl (.inl rfl) (pe_lst pa_nil))
      (pss_cons (ps_for PassesOwn.never rfl (pi_range1 (by rfl) B.range (pa_cons (pe_callB (call_max2 rfl) (by rfl) B.max (by decide +kernel) (pa_cons pe_int (pa_cons (pe_callB (call_min2 rfl) (by rfl) B.min (by decide +kernel) (pa_cons pe_int (pa_cons (pe_callB call_len_seq (by rfl) B.len PySem.boot_len (pa_cons (pv 0) pa_nil)) pa_nil))) pa_nil))) pa_nil)) (pg_name (i := 2) scDeck.nd rfl (.inl rfl))
        (pss_cons (ps_set (i := 3) scDeck.nd rfl (.inl rfl) pe_int)
        (Evl.pss_cut (ps_if (pt_cmpR op_lt (pv 2) (pe_callB call_len_seq (by rfl) B.len PySem.boot_len (pa_cons (pv 0) pa_nil)) (nomark _)) (pss_one (ps_set (i := 3) scDeck.nd rfl (.inl rfl) (pe_ix ix_list (pv 0) (pv 2) (fun _ _ => rfl)))) pss_nil)
        (pss_one (ps_expr (pe_bm PySem.F.plainAttrs_list PySem.F.slot_list_append PySem.F.type_list_append mt_append (pv 1) (pa_cons (pe_lst (pa_cons (pv 3) (pa_cons (pe_callTy call_int1 (by rfl) B.int (by decide +kernel) (pa_cons (pe_cmpR op_ge (pv 3) (pe_op op_pow pe_int pe_int) (nomark _)) pa_nil)) (pa_cons (pe_op op_mul pe_int (pv 2)) pa_nil)))) pa_nil)))))))
      (pss_one (ps_ret (pe_lst (pa_cons (pv 1) (pa_cons pe_int pa_nil)))))), ?_⟩
    refine ⟨Nat.zero_le _, fun pl np => ?_⟩
    have s1 : Same H (upd H pl (.lst [])) := same_new np
    have hlm : (ns.map V.int).length = ns.length := List.length_map _
    obtain ⟨m, hm1, hm2, em⟩ : ∃ m : Nat, 1 ≤ m ∧ m ≤ 63 ∧ (if (if ((ns.map V.int).length : Int) < 63 then ((ns.map V.int).length : Int) else 63) > 1 then (if ((ns.map V.int).length : Int) < 63 then ((ns.map V.int).length : Int) else 63) else 1) = (m : Int) := by
      rw [hlm]
      refine ⟨max 1 (min 63 ns.length), by omega, by omega, ?_⟩
      split <;> split <;> omega
    refine ⟨.ref a, rfl, a, _, rfl, .inl (s1.seq hS), 63, _, rfl, 1, _, rfl, _, rfl, ?_, ?_, ?_⟩
    · rw [em]; omega
    · rw [em]; omega
    · rw [em, Int.toNat_natCast]
      refine for_range (n := m) (fun i σ H3 => ∃ (as : List Addr) (yk yc : Option V), σ = [some (.ref a), some (.ref pl), yk, yc] ∧ as.length = i ∧ H3 pl = some (.lst (as.map V.ref)) ∧ (∀ b ∈ as, (∃ x y z : Int, H3 b = some (.lst [.int x, .int y, .int z])) ∧ H b = none) ∧ Same H H3)
        ⟨[], none, none, rfl, rfl, upd_same, (fun b hb => absurd hb List.not_mem_nil), s1⟩ (fun i σ H3 hi hP => ?_) (fun σ H3 hP => ?_)
      · obtain ⟨as, yk, yc, rfl, el, hpl, hat, sm⟩ := hP
        refine ⟨fun σ' H' => ∃ c : Int, σ' = [some (.ref a), some (.ref pl), some (.int (0 + i)), some (.int c)] ∧ H' = H3, ?_, fun σ' H' hM => ?_⟩
        · refine ⟨_, rfl, .ref a, rfl, a, _, rfl, .inl (sm.seq hS), _, _, rfl, rfl, _, rfl, ite2 (fun hc => ?_) (fun _ => ⟨0, rfl, rfl⟩)⟩
          have hlt : (0 + (i : Int)) < (ns.map V.int).length := of_decide_eq_true hc
          rw [hlm] at hlt
          have hix : i < ns.length := by omega
          exact ⟨_, rfl, _, rfl, a, _, _, _, rfl, rfl, sm.seq hS, at_of (j := i) (by omega) (int_at (List.getElem?_eq_getElem hix)), ns[i], rfl, rfl⟩
        · obtain ⟨c, rfl, rfl⟩ := hM
          refine ⟨_, rfl, .inl ⟨rfl, _, SqL.of hpl⟩, _, rfl, _, rfl, 10, 18, rfl, rfl, ⟨by decide, by decide, by decide⟩, _, _, rfl, rfl, .inr ⟨_, rfl, _, rfl, 31, _, rfl, rfl, .inl ⟨by decide, by decide⟩, line_small (by show 3 ≤ 16777216; decide), fun p np2 => ?_⟩⟩
          have hpl2 : (upd H' p (.lst [.int c, .int (if decide ((10 : Int) ^ (18 : Int).toNat ≤ c) = true then 1 else 0), .int (31 * (0 + (i : Int)))])) pl = some (.lst (as.map V.ref)) := same_new np2 _ _ hpl
          refine ⟨pl, _, _, rfl, rfl, hpl2, line_lt (by rw [List.length_map]; omega), ?_⟩
          have npl : p ≠ pl := (ne_of_none hpl np2).symm
          refine ⟨as ++ [p], _, _, rfl, by rw [List.length_append, el]; rfl, by rw [upd_same, List.map_append]; rfl, fun b hb => ?_, fun b o e => ?_⟩
          · rcases List.mem_append.mp hb with hb | hb
            · obtain ⟨⟨x, y, z, e⟩, n⟩ := hat b hb
              refine ⟨⟨x, y, z, ?_⟩, n⟩
              rw [upd_ne (show b ≠ pl from ?_), upd_ne (ne_of_none e np2)]
              · exact e
              · intro z
                rw [z] at e
                rw [hpl] at e
                cases as with
                | nil => cases e
                | cons u r => cases e
            · have eb : b = p := List.mem_singleton.mp hb
              subst eb
              exact ⟨⟨_, _, _, by rw [upd_ne npl]; exact upd_same⟩, sm.free np2⟩
          · rw [upd_ne (ne_of_none e np), upd_ne (ne_of_none (sm _ _ e) np2)]
            exact sm _ _ e
      · obtain ⟨as, yk, yc, rfl, el, hpl, hat, sm⟩ := hP
        refine ⟨_, rfl, line_small (by show 2 ≤ 16777216; decide), fun d nd => ?_⟩
        refine q ⟨d, pl, as⟩ _ ⟨⟨0, upd_same⟩, ?_, ?_, ?_, fun b hb => ?_⟩ (sm.trans (same_new nd)) (fun b hb => ?_)
        · exact same_new nd _ _ hpl
        · show 0 < as.length
          omega
        · show as.length ≤ 63
          omega
        · obtain ⟨⟨x, y, z, e⟩, n⟩ := hat b hb
          exact ⟨x, y, z, same_new nd _ _ e⟩
        · rcases hb with rfl | rfl | hb
          · exact sm.free nd
          · exact np
          · exact (hat b hb).2
end
end Fo
namespace Fo
open PySem PySem.Spec PyProof.Rows L2
/-! ### sums -/
def ind (b : Bool) : Nat := if b then 1 else 0
def sumN (l : List Int) (f : Int → Nat) : Nat := (l.map f).sum
theorem sumN_nil (f : Int → Nat) : sumN [] f = 0 := rfl
theorem sumN_cons (a : Int) (l : List Int) (f : Int → Nat) : sumN (a :: l) f = f a + sumN l f := by
  unfold sumN
  rw [List.map_cons, List.sum_cons]
theorem sumN_append (l m : List Int) (f : Int → Nat) : sumN (l ++ m) f = sumN l f + sumN m f := by
  unfold sumN
  rw [List.map_append, List.sum_append]
theorem sumN_perm {l m : List Int} (h : l.Perm m) (f : Int → Nat) : sumN l f = sumN m f := by
  induction h with
  | nil => rfl
  | cons x _ ih => rw [sumN_cons, sumN_cons, ih]
  | swap x y l => rw [sumN_cons, sumN_cons, sumN_cons, sumN_cons]; omega
  | trans _ _ h1 h2 => exact h1.trans h2
theorem sumN_congr {l : List Int} {f g : Int → Nat} (h : ∀ x ∈ l, f x = g x) : sumN l f = sumN l g := by
  unfold sumN
  rw [List.map_congr_left h]
theorem sumN_map (l : List Int) (g : Int → Int) (f : Int → Nat) : sumN (l.map g) f = sumN l (fun x => f (g x)) := by
  unfold sumN
  rw [List.map_map]
  rfl
theorem sumN_zero {l : List Int} {f : Int → Nat} (h : ∀ x ∈ l, f x = 0) : sumN l f = 0 := by
  rw [sumN_congr h]
  induction l with
  | nil => rfl
  | cons a l ih => rw [sumN_cons, ih fun x hx => h x (List.mem_cons_of_mem _ hx)]
theorem sumN_add (l : List Int) (f g : Int → Nat) : sumN l (fun x => f x + g x) = sumN l f + sumN l g := by
  induction l with
  | nil => rfl
  | cons a l ih => rw [sumN_cons, sumN_cons, sumN_cons, ih]; omega
theorem sumN_swap (l m : List Int) (f : Int → Int → Nat) : sumN l (fun i => sumN m (fun j => f i j)) = sumN m (fun j => sumN l (fun i => f i j)) := by
  induction l with
  | nil => exact (sumN_zero fun x _ => rfl).symm
  | cons a l ih =>
    rw [sumN_cons, ih, ← sumN_add]
    exact sumN_congr fun x _ => by rw [sumN_cons]
theorem filter_len (l : List Int) (p : Int → Bool) : (l.filter p).length = sumN l (fun x => ind (p x)) := by
  induction l with
  | nil => rfl
  | cons a l ih =>
    rw [sumN_cons, List.filter_cons]
    unfold ind at ih ⊢
    cases p a
    · simp only [Bool.false_eq_true, if_false]; omega
    · simp only [if_true, List.length_cons]; omega
/-! ### a list by its places -/
def g0 (s : List Int) (i : Int) : Int := s.getD i.toNat 0
theorem g0_at {s : List Int} {i : Nat} {x : Int} (h : s[i]? = some x) : g0 s (i : Int) = x := by
  unfold g0
  rw [Int.toNat_natCast, List.getD_eq_getElem?_getD, h]
  rfl
theorem by_places (s : List Int) : s = (rg s.length).map (g0 s) := by
  apply List.ext_getElem?
  intro i
  unfold rg
  rw [List.getElem?_map, List.getElem?_map]
  by_cases h : i < s.length
  · rw [List.getElem?_range h, List.getElem?_eq_getElem h]
    show some s[i] = some (g0 s (i : Int))
    rw [g0_at (List.getElem?_eq_getElem h)]
  · rw [List.getElem?_eq_none (by omega), List.getElem?_eq_none (by rw [List.length_range]; omega)]
    rfl
theorem rg_succ (n : Nat) : rg (n + 1) = rg n ++ [(n : Int)] := by
  unfold rg
  rw [List.range_succ, List.map_append]
  rfl
/-- how many of the later ones are less -/
def cntL (s : List Int) (i : Nat) : Nat := ((s.drop (i + 1)).filter (fun x => decide (x < g0 s i))).length
def invF (n : Nat) (a : Int → Int) : Nat := sumN (rg n) fun i => sumN (rg n) fun j => ind (decide (i < j) && decide (a j < a i))
def invN (s : List Int) : Nat := sumN (rg s.length) fun i => cntL s i.toNat
theorem drop_sum (n i : Nat) (f : Int → Nat) : sumN ((rg n).drop (i + 1)) f = sumN (rg n) fun j => if (i : Int) < j then f j else 0 := by
  induction n with
  | zero => rfl
  | succ n ih =>
    rw [rg_succ, sumN_append, ← ih, List.drop_append, sumN_append, rg_len]
    congr 1
    by_cases h : i + 1 ≤ n
    · rw [show i + 1 - n = 0 by omega, List.drop_zero, sumN_cons, sumN_cons, sumN_nil, sumN_nil, if_pos (by omega)]
    · rw [show i + 1 - n = (i - n) + 1 by omega, List.drop_succ_cons, List.drop_nil, sumN_cons, sumN_nil, sumN_nil, if_neg (by omega)]
theorem cnt_sum (s : List Int) (i : Nat) : cntL s i = sumN (rg s.length) fun j => ind (decide ((i : Int) < j) && decide (g0 s j < g0 s i)) := by
  unfold cntL
  rw [filter_len]
  have e : s.drop (i + 1) = ((rg s.length).drop (i + 1)).map (g0 s) := by
    rw [List.map_drop, ← by_places]
  rw [e, sumN_map, drop_sum]
  apply sumN_congr
  intro j _
  unfold ind
  by_cases h : (i : Int) < j
  · simp [h]
  · simp [h]
theorem inv_eq (s : List Int) : invN s = invF s.length (g0 s) := by
  unfold invN invF
  apply sumN_congr
  intro i hi
  have := rg_mem.mp hi
  rw [cnt_sum, Int.toNat_of_nonneg this.1]
/-! ### places of things -/
def pos (ys : List Int) (x : Int) : Int := ((ys.idxOf x : Nat) : Int)
def seatsL (xs ys : List Int) : List Int := xs.map (pos ys)
theorem pos_of {n : Nat} {ys : List Int} (o : IsOrd n ys) {j : Nat} {x : Int} (h : ys[j]? = some x) : pos ys x = (j : Int) := by
  obtain ⟨hj, e⟩ := List.getElem?_eq_some_iff.mp h
  have m : x ∈ ys := List.mem_of_getElem? h
  have hi : ys.idxOf x < ys.length := List.idxOf_lt_length_iff.mpr m
  have h2 : ys[ys.idxOf x]? = some x := by
    rw [List.getElem?_eq_getElem hi]
    exact congrArg some (List.getElem_idxOf hi)
  unfold pos
  rw [nd_ix o.nodup h2 h]
theorem pos_at {n : Nat} {ys : List Int} (o : IsOrd n ys) {x : Int} (h0 : 0 ≤ x) (h1 : x < n) : ∃ j : Nat, j < n ∧ ys[j]? = some x ∧ pos ys x = (j : Int) := by
  obtain ⟨j, hj, e⟩ := ord_at o (t := x.toNat) (by omega)
  rw [Int.toNat_of_nonneg h0] at e
  exact ⟨j, hj, e, pos_of o e⟩
theorem back_pos {n : Nat} {ys ps : List Int} (o : IsOrd n ys) (h : IsBack ys ps) {x : Int} (h0 : 0 ≤ x) (h1 : x < n) : ps[x.toNat]? = some (pos ys x) := by
  obtain ⟨j, hj, e, ep⟩ := pos_at o h0 h1
  rw [ep]
  exact h.2 j x e
theorem seats_len (xs ys : List Int) : (seatsL xs ys).length = xs.length := by
  unfold seatsL
  rw [List.length_map]
theorem seats_at {xs ys : List Int} {i : Nat} {x : Int} (h : xs[i]? = some x) : (seatsL xs ys)[i]? = some (pos ys x) := by
  unfold seatsL
  rw [List.getElem?_map, h]
  rfl
theorem seats_self {n : Nat} {ys : List Int} (o : IsOrd n ys) : seatsL ys ys = rg n := by
  apply List.ext_getElem?
  intro i
  by_cases h : i < n
  · obtain ⟨x, hx, _⟩ := ord_ix o h
    rw [seats_at hx, pos_of o hx]
    unfold rg
    rw [List.getElem?_map, List.getElem?_range h]
    rfl
  · rw [List.getElem?_eq_none (by rw [seats_len, o.len]; omega), List.getElem?_eq_none (by rw [rg_len]; omega)]
theorem seats_ord {n : Nat} {xs ys : List Int} (ox : IsOrd n xs) (oy : IsOrd n ys) : IsOrd n (seatsL xs ys) := by
  have h : (seatsL xs ys).Perm (seatsL ys ys) := List.Perm.map _ (ox.trans oy.symm)
  rw [seats_self oy] at h
  exact h
theorem g0_ord {n : Nat} {s : List Int} (o : IsOrd n s) : s = (rg n).map (g0 s) := by
  have e := by_places s
  rw [o.len] at e
  exact e
/-- inversions from the other side -/
theorem inv_turn {n : Nat} {s t : List Int} (os : IsOrd n s) (ot : IsOrd n t) (h : ∀ u ∈ rg n, g0 s (g0 t u) = u) : invN s = invN t := by
  rw [inv_eq, inv_eq, os.len, ot.len]
  unfold invF
  have p1 : ∀ f : Int → Nat, sumN (rg n) f = sumN (rg n) fun u => f (g0 t u) := fun f => by
    have e : sumN ((rg n).map (g0 t)) f = sumN (rg n) fun u => f (g0 t u) := sumN_map _ _ _
    rw [← e, ← g0_ord ot]
    exact (sumN_perm ot f).symm
  rw [p1]
  rw [sumN_congr (g := fun u => sumN (rg n) fun v => ind (decide (g0 t u < g0 t v) && decide (v < u))) (fun u hu => by
    rw [p1]
    exact sumN_congr fun v hv => by rw [h u hu, h v hv])]
  rw [sumN_swap]
  apply sumN_congr
  intro v _
  apply sumN_congr
  intro u _
  rw [Bool.and_comm]
theorem seats_turn {n : Nat} {xs ys : List Int} (ox : IsOrd n xs) (oy : IsOrd n ys) : ∀ u ∈ rg n, g0 (seatsL xs ys) (g0 (seatsL ys xs) u) = u := by
  intro u hu
  have hb := rg_mem.mp hu
  obtain ⟨y, hy, y0, y1⟩ := ord_ix oy (j := u.toNat) (by omega)
  have e1 : g0 (seatsL ys xs) u = pos xs y := by
    have := g0_at (seats_at (ys := xs) hy)
    rw [Int.toNat_of_nonneg hb.1] at this
    exact this
  obtain ⟨j, hj, ej, pj⟩ := pos_at ox y0 y1
  rw [e1, pj, g0_at (seats_at (ys := ys) ej), pos_of oy hy]
  omega
/-! ### how far two orders are -/
def farSwap (xs ys : List Int) : Int := ((invN (seatsL xs ys) : Nat) : Int)
def spotL (xs ys : List Int) : List Int := (rg xs.length).filter fun p => !decide (g0 xs p = g0 ys p)
def farSpot (xs ys : List Int) : Int := (((spotL xs ys).length : Nat) : Int)
def absI (i : Int) : Int := if i < 0 then -i else i
def gapsL (xs ys : List Int) : List Int := (rg xs.length).map fun p => absI (p - g0 (seatsL xs ys) p)
def maxL (l : List Int) : Int := l.foldr max 0
def farShift (xs ys : List Int) : Int := maxL (gapsL xs ys)
theorem maxL_of : ∀ {l : List Int} {m : Int}, (∀ x ∈ l, 0 ≤ x) → m ∈ l → (∀ x ∈ l, x ≤ m) → maxL l = m := by
  intro l m h0 hm hle
  have key : ∀ l : List Int, (∀ x ∈ l, x ≤ m) → maxL l ≤ m := by
    intro l hl
    induction l with
    | nil => exact h0 m hm
    | cons a l ih =>
      show max a (maxL l) ≤ m
      have h1 := hl a List.mem_cons_self
      have h2 := ih fun x hx => hl x (List.mem_cons_of_mem _ hx)
      omega
  have key2 : ∀ l : List Int, ∀ x ∈ l, x ≤ maxL l := by
    intro l
    induction l with
    | nil => intro x hx; exact absurd hx List.not_mem_nil
    | cons a l ih =>
      intro x hx
      show x ≤ max a (maxL l)
      rcases List.mem_cons.mp hx with rfl | hx
      · omega
      · have := ih x hx
        omega
  have := key l hle
  have := key2 l m hm
  omega
theorem gaps_nonneg (xs ys : List Int) : ∀ x ∈ gapsL xs ys, 0 ≤ x := by
  intro x hx
  obtain ⟨p, _, rfl⟩ := List.mem_map.mp hx
  unfold absI
  split <;> omega
theorem maxL_mem {l : List Int} (h0 : ∀ x ∈ l, 0 ≤ x) (hl : 0 < l.length) : maxL l ∈ l ∧ ∀ x ∈ l, x ≤ maxL l := by
  induction l with
  | nil => exact absurd hl (Nat.lt_irrefl _)
  | cons a l ih =>
    show max a (maxL l) ∈ a :: l ∧ ∀ x ∈ a :: l, x ≤ max a (maxL l)
    by_cases c : 0 < l.length
    · obtain ⟨h1, h2⟩ := ih (fun x hx => h0 x (List.mem_cons_of_mem _ hx)) c
      constructor
      · by_cases d : maxL l ≤ a
        · rw [Int.max_eq_left d]
          exact List.mem_cons_self
        · rw [Int.max_eq_right (by omega)]
          exact List.mem_cons_of_mem _ h1
      · intro x hx
        rcases List.mem_cons.mp hx with rfl | hx
        · omega
        · have := h2 x hx
          omega
    · have e : l = [] := List.eq_nil_of_length_eq_zero (by omega)
      subst e
      have := h0 a List.mem_cons_self
      have e2 : max a (maxL []) = a := by show max a 0 = a; omega
      rw [e2]
      exact ⟨List.mem_cons_self, fun x hx => by rw [List.mem_singleton.mp hx]; exact Int.le_refl _⟩
theorem farSwap_turn {n : Nat} {xs ys : List Int} (ox : IsOrd n xs) (oy : IsOrd n ys) : farSwap ys xs = farSwap xs ys := by
  unfold farSwap
  rw [inv_turn (seats_ord ox oy) (seats_ord oy ox) (seats_turn ox oy)]
theorem inv_rg (n : Nat) : invN (rg n) = 0 := by
  rw [inv_eq]
  unfold invF
  apply sumN_zero
  intro i hi
  apply sumN_zero
  intro j hj
  rw [rg_len] at hi hj
  have hi2 := rg_mem.mp hi
  have hj2 := rg_mem.mp hj
  have e : ∀ k : Int, k ∈ rg n → g0 (rg n) k = k := fun k hk => by
    have := rg_mem.mp hk
    have z : (rg n)[k.toNat]? = some k := by
      unfold rg
      rw [List.getElem?_map, List.getElem?_range (by omega)]
      show some ((k.toNat : Nat) : Int) = some k
      rw [Int.toNat_of_nonneg this.1]
    have z2 := g0_at z
    rw [Int.toNat_of_nonneg this.1] at z2
    exact z2
  rw [e i hi, e j hj]
  unfold ind
  by_cases c : i < j
  · have d : ¬ j < i := by omega
    simp [c, d]
  · simp [c]
theorem farSwap_self {n : Nat} {xs : List Int} (ox : IsOrd n xs) : farSwap xs xs = 0 := by
  unfold farSwap
  rw [seats_self ox, inv_rg]
  rfl
theorem farSpot_turn {xs ys : List Int} (h : xs.length = ys.length) : farSpot ys xs = farSpot xs ys := by
  unfold farSpot spotL
  rw [h]
  congr 3
  funext p
  congr 1
  by_cases c : g0 ys p = g0 xs p
  · rw [decide_eq_true c, decide_eq_true c.symm]
  · rw [decide_eq_false c, decide_eq_false fun e => c e.symm]
theorem farSpot_self (xs : List Int) : farSpot xs xs = 0 := by
  unfold farSpot spotL
  have e : ((rg xs.length).filter fun p => !decide (g0 xs p = g0 xs p)) = [] := by
    rw [List.filter_eq_nil_iff]
    intro a _
    simp
  rw [e]
  rfl
theorem gaps_len (xs ys : List Int) : (gapsL xs ys).length = xs.length := by
  unfold gapsL
  rw [List.length_map, rg_len]
theorem gaps_sub {n : Nat} {xs ys : List Int} (ox : IsOrd n xs) (oy : IsOrd n ys) : ∀ g ∈ gapsL ys xs, g ∈ gapsL xs ys := by
  intro g hg
  obtain ⟨u, hu, rfl⟩ := List.mem_map.mp hg
  rw [oy.len] at hu
  have hb := (seats_ord oy ox).mem (x := g0 (seatsL ys xs) u) (by
    have e := g0_ord (seats_ord oy ox)
    rw [e]
    exact List.mem_map.mpr ⟨u, hu, by rw [← e]⟩)
  refine List.mem_map.mpr ⟨g0 (seatsL ys xs) u, by rw [ox.len]; exact rg_mem.mpr hb, ?_⟩
  rw [seats_turn ox oy u hu]
  unfold absI
  split <;> split <;> omega
theorem farShift_turn {n : Nat} {xs ys : List Int} (ox : IsOrd n xs) (oy : IsOrd n ys) (hn : 1 ≤ n) : farShift ys xs = farShift xs ys := by
  unfold farShift
  obtain ⟨h1, h2⟩ := maxL_mem (gaps_nonneg xs ys) (by rw [gaps_len, ox.len]; exact hn)
  exact maxL_of (gaps_nonneg ys xs) (gaps_sub oy ox _ h1) fun x hx => h2 x (gaps_sub ox oy x hx)
theorem farShift_self {n : Nat} {xs : List Int} (ox : IsOrd n xs) (hn : 1 ≤ n) : farShift xs xs = 0 := by
  unfold farShift
  have z : ∀ g ∈ gapsL xs xs, g = 0 := by
    intro g hg
    obtain ⟨u, hu, rfl⟩ := List.mem_map.mp hg
    rw [ox.len] at hu
    have hb := rg_mem.mp hu
    rw [seats_self ox]
    have e : (rg n)[u.toNat]? = some u := by
      unfold rg
      rw [List.getElem?_map, List.getElem?_range (by omega)]
      show some ((u.toNat : Nat) : Int) = some u
      rw [Int.toNat_of_nonneg hb.1]
    have z2 := g0_at e
    rw [Int.toNat_of_nonneg hb.1] at z2
    rw [z2]
    unfold absI
    split <;> omega
  obtain ⟨h1, _⟩ := maxL_mem (gaps_nonneg xs xs) (by rw [gaps_len, ox.len]; exact hn)
  exact z _ h1
end Fo
namespace Fo
open PySem PySem.Spec PyProof.Rows L2
def spWhole : Sp := fun vs H Q _ => ∃ i : Int, vs = [.int i] ∧ Q (.bl true) H
section
variable {P : Program} {w : World} {K : PySem.W.Frag} {mg : Str → Option Value} {base : Heap}
theorem scWhole : FnScope ["thing"] ["thing"] (defScope s_is_whole) := ⟨rfl, rfl, rfl, by decide +kernel, rfl, by decide +kernel, by decide +kernel⟩
theorem ok_whole {f : Addr} {fd : FuncData} {k : Nat} (T : Df K mg "is_whole" s_is_whole ["thing"] f fd) (B : Bi mg) : FnOk P w K mg base CX0 (k + 1) f fd ["thing"] spWhole := by
  refine T.F.ok scWhole (fun vs H Q E h => ?_) (fun cdv A outer s H vs Q E hr h => ?_)
  · obtain ⟨i, rfl, _⟩ := h
    rfl
  · obtain ⟨i, rfl, q⟩ := h
    refine ⟨_, pss_one (ps_ret (pe_and (pe_callB call_isi (by rfl) B.isinstance (by decide +kernel) (pa_cons (pv 0) (pa_cons (pe_bltn (v := .ty "int") (by rfl) B.int (by decide +kernel) rfl) pa_nil)))
      (pe_one (pe_not (pe_callB call_isi (by rfl) B.isinstance (by decide +kernel) (pa_cons (pv 0) (pa_cons (pe_bltn (v := .ty "bool") (by rfl) B.bool (by decide +kernel) rfl) pa_nil))))))), ?_⟩
    refine ⟨_, rfl, _, _, _, _, true, rfl, .ty _, .base (.int _), kit_ty (by decide +kernel), true, rfl, iteT ?_⟩
    exact ⟨_, rfl, _, _, _, _, false, rfl, .ty _, .base (.int _), kit_ty (by decide +kernel), false, rfl, q⟩
end
end Fo
namespace Fo
open PySem PySem.Spec PyProof.Rows L2
/-! ### whole numbers, orders -/
def spIsOrd : Sp := fun vs H Q _ => ∃ (a : Addr) (n : Nat) (ns : List Int), vs = [.ref a] ∧ H a = some (.lst (ns.map V.int)) ∧ IsOrd n ns ∧ 1 ≤ n ∧ n ≤ 12 ∧ ∀ H', Same H H' → Q (.bl true) H'
def spCheck : Sp := fun vs H Q _ => ∃ (a : Addr) (n : Nat) (ns : List Int), vs = [.ref a] ∧ H a = some (.lst (ns.map V.int)) ∧ IsOrd n ns ∧ 1 ≤ n ∧ n ≤ 12 ∧ ∀ H', Same H H' → Q .non H'
section
variable {P : Program} {w : World} {K : PySem.W.Frag} {mg : Str → Option Value} {base : Heap}
theorem scIsOrd : FnScope ["thing", "number"] ["thing"] (defScope s_is_order) := ⟨rfl, rfl, rfl, by decide +kernel, rfl, by decide +kernel, by decide +kernel⟩
theorem all_true (n : Nat) : (List.replicate n true).all id = true := by simp
set_option maxHeartbeats 2000000 in
theorem ok_is_order {f fW : Addr} {fd fdW : FuncData} {k : Nat} {t : Tok} (T : Df K mg "is_order" s_is_order ["thing"] f fd) (TW : Df K mg "is_whole" s_is_whole ["thing"] fW fdW) (B : Bi mg) (mM : mg "MOST_THINGS" = some (.int 12 t)) : FnOk P w K mg base CX0 (k + 2) f fd ["thing"] spIsOrd := by
  have GW : FnOk P w K mg base CX0 (k + 1) fW fdW ["thing"] spWhole := ok_whole TW B
  refine T.F.ok scIsOrd (fun vs H Q E h => ?_) (fun cdv A outer s H vs Q E hr h => ?_)
  · obtain ⟨a, n, ns, rfl, _⟩ := h
    rfl
  · obtain ⟨a, n, ns, rfl, hl, ho, hn1, hn2, q⟩ := h
    have hlm : (ns.map V.int).length = n := by rw [List.length_map, ho.len]
    refine ⟨_, pss_cons (ps_if (PW.pt (pw_or (pt_not (pt_val (pe_callB call_isi (by rfl) B.isinstance (by decide +kernel) (pa_cons (pv 0) (pa_cons (pe_bltn (v := .ty "list") (by rfl) B.list (by decide +kernel) rfl) pa_nil)))))
        (pw_or (pt_cmpR op_lt (pe_callB call_len_seq (by rfl) B.len PySem.boot_len (pa_cons (pv 0) pa_nil)) pe_int (nomark _)) (pw_or1 (pt_cmpR op_gt (pe_callB call_len_seq (by rfl) B.len PySem.boot_len (pa_cons (pv 0) pa_nil)) (pe_glob (v := .int 12) (by rfl) mM ⟨_, rfl⟩) (nomark _))))))
        (pss_one (ps_ret pe_bl)) pss_nil)
      (pss_cons (ps_if (pt_not (pt_val (pe_callB (cr_all rfl) (by rfl) B.all (by decide +kernel) (pa_cons (pe_lc (own := [("number", 1)]) (g := gName 1) (tt := tYes) (te := tCall spWhole [] E0 (tCons (tVar 1) tNil)) rfl scIsOrd.nd (pi_list (pv 0)) (blkOk_by (N := ["thing", "number"]) (sc := defScope s_is_order) (by decide +kernel)) (fun _ _ _ _ _ => pg_name (i := 1) scIsOrd.nd rfl (.inl rfl)) (fun _ _ _ _ _ => pts_nil)
          (fun _ _ _ _ _ => pe_call GW hr (by rfl) TW.g TW.F.kp TW.b .nil pass0 (pa_cons (pv 1) pa_nil))) pa_nil)))) (pss_one (ps_ret pe_bl)) pss_nil)
      (pss_one (ps_ret (pe_cmpR (op_eqD hr.units) (pe_callB cr_sorted (by rfl) B.sorted (by decide +kernel) (pa_cons (pv 0) pa_nil)) (pe_listRg rfl (by rfl) B.list (prg_1 (by rfl) B.range (pe_callB call_len_seq (by rfl) B.len PySem.boot_len (pa_cons (pv 0) pa_nil)))) (nomark _))))), ?_⟩
    refine ⟨_, rfl, _, _, _, _, true, rfl, .ty _, .base (.lst hl), kit_ty (by decide +kernel), true, rfl, iteF ?_⟩
    refine ⟨_, rfl, a, _, rfl, .inl (SqL.of hl), _, 1, rfl, rfl, _, rfl, ite2 (fun c => absurd (of_decide_eq_true c) (by rw [hlm]; omega)) (fun _ => ?_)⟩
    refine ⟨_, rfl, a, _, rfl, .inl (SqL.of hl), _, 12, rfl, rfl, _, rfl, ite2 (fun c => absurd (of_decide_eq_true c) (by rw [hlm]; omega)) (fun _ => ?_)⟩
    refine ⟨_, rfl, a, rfl, ⟨_, SqL.of hl⟩, fun p np => ?_⟩
    refine lc_list (K := K) (a := a) (xs := ns.map V.int) (fun i H3 => H3 p = some (.lst ((List.replicate i true).map V.bl)) ∧ Same H H3) ⟨upd_same, same_new np⟩ (fun i H3 _ hP => SqL.of (hP.2 _ _ hl)) (fun i x H3 hx hP => ?_) (fun H3 hP => ?_)
    · obtain ⟨y, ey, rfl⟩ := int_at_inv hx
      obtain ⟨hp3, sm⟩ := hP
      refine ⟨rfl, _, rfl, y, rfl, _, hp3, line_lt (by
        rw [List.length_map, List.length_replicate]
        have := (List.getElem?_eq_some_iff.mp hx).1
        omega), ?_, fun b o e => ?_⟩
      · rw [upd_same, List.replicate_succ', List.map_append]
        rfl
      · rw [upd_ne (ne_of_none e np)]
        exact sm _ _ e
    · obtain ⟨hp3, sm⟩ := hP
      have hl3 := sm _ _ hl
      refine ⟨p, _, rfl, SqL.of hp3, _, rfl, ?_⟩
      rw [all_true]
      refine iteF ?_
      refine ⟨_, rfl, a, ns, rfl, SqL.of hl3, by rw [ho.len]; omega, fun ns' s1 hperm hsrt ns1 => ?_⟩
      have hl4 := same_new (o := .lst (ns'.map V.int)) ns1 _ _ hl3
      refine ⟨_, rfl, a, _, rfl, .inl (SqL.of hl4), _, rfl, RgOk.of_le (by omega) (by rw [hlm]; omega) (by omega) (by omega), fun s2 ns2 => ?_⟩
      have e1 : ns' = rg n := sorted_eq (hperm.trans ho) hsrt (rg_sorted n)
      subst e1
      rw [hlm]
      have h1 : (upd (upd H3 s1 (.lst ((rg n).map V.int))) s2 (.lst (rgV 0 (n : Int)))) s1 = some (.lst ((rg n).map V.int)) := same_new ns2 _ _ upd_same
      have h2 : (upd (upd H3 s1 (.lst ((rg n).map V.int))) s2 (.lst (rgV 0 (n : Int)))) s2 = some (.lst ((rg n).map V.int)) := by rw [upd_same, rg_V]
      refine ⟨_, _, dp_list h1, dp_list h2, shaped_list _, shaped_list _, ?_⟩
      rw [eqv_list]
      exact q _ ((sm.trans (same_new ns1)).trans (same_new ns2))
theorem scCheck : FnScope ["thing"] ["thing"] (defScope s_check_order) := ⟨rfl, rfl, rfl, by decide +kernel, rfl, by decide +kernel, by decide +kernel⟩
theorem ok_check {f fO fW : Addr} {fd fdO fdW : FuncData} {k : Nat} {t : Tok} (T : Df K mg "check_order" s_check_order ["thing"] f fd) (TO : Df K mg "is_order" s_is_order ["thing"] fO fdO) (TW : Df K mg "is_whole" s_is_whole ["thing"] fW fdW) (B : Bi mg) (mM : mg "MOST_THINGS" = some (.int 12 t)) : FnOk P w K mg base CX0 (k + 3) f fd ["thing"] spCheck := by
  have GO : FnOk P w K mg base CX0 (k + 2) fO fdO ["thing"] spIsOrd := ok_is_order TO TW B mM
  refine T.F.ok scCheck (fun vs H Q E h => ?_) (fun cdv A outer s H vs Q E hr h => ?_)
  · obtain ⟨a, n, ns, rfl, _⟩ := h
    rfl
  · obtain ⟨a, n, ns, rfl, hl, ho, hn1, hn2, q⟩ := h
    refine ⟨_, pss_one (ps_if (pt_not (pt_val (pe_call GO hr (by rfl) TO.g TO.F.kp TO.b .nil pass0 (pa_cons (pv 0) pa_nil)))) (pss_one ps_never) pss_nil), ?_⟩
    exact ⟨_, rfl, a, n, ns, rfl, hl, ho, hn1, hn2, fun H' sm => ⟨_, rfl, iteF (q H' sm)⟩⟩
end
end Fo
namespace Fo
open PySem PySem.Spec PyProof.Rows L2
def IsWay (w : Str) : Prop := w = "swap" ∨ w = "spot" ∨ w = "shift"
theorem n1 : ¬ (("spot" : Str) = "swap") := by decide +kernel
theorem n2 : ¬ (("shift" : Str) = "swap") := by decide +kernel
theorem n3 : ¬ (("shift" : Str) = "spot") := by decide +kernel
/-- the ways as the top has written them -/
structure Wy (K : PySem.W.Frag) (mg : Str → Option Value) (aW : Addr) : Prop where
  g : mg "WAYS" = some (.ref aW)
  t : ∀ H : Hp, SqT K H aW [.str "swap", .str "spot", .str "shift"]
theorem wy_mk {K : PySem.W.Frag} {mg : Str → Option Value} {aW : Addr} {dd : Option Addr} {n : Nat} {t1 t2 t3 : Tok} {sl : Array (Option Value)} (g : mg "WAYS" = some (.ref aW)) (l : K.lookup aW = some ⟨.type "tuple", dd, .seq #[.str "swap" t1, .str "spot" t2, .str "shift" t3] n, sl⟩) : Wy K mg aW :=
  ⟨g, fun H => .inr ⟨_, _, _, l, rfl, rfl, line_small (by show 3 ≤ 16777216; decide), .cons ⟨_, rfl⟩ (.cons ⟨_, rfl⟩ (.cons ⟨_, rfl⟩ .nil))⟩⟩
def spWay : Sp := fun vs H Q _ => ∃ (w : Str), vs = [.str w] ∧ IsWay w ∧ Q .non H
section
variable {P : Program} {w : World} {K : PySem.W.Frag} {mg : Str → Option Value} {base : Heap}
end
end Fo
namespace Fo
open PySem PySem.Spec PyProof.Rows L2
def spChecks : Sp := fun vs H Q _ => ∃ (a b : Addr) (n m : Nat) (ns ms : List Int), vs = [.ref a, .ref b] ∧ H a = some (.lst (ns.map V.int)) ∧ H b = some (.lst (ms.map V.int)) ∧ IsOrd n ns ∧ 1 ≤ n ∧ n ≤ 12 ∧ IsOrd m ms ∧ 1 ≤ m ∧ m ≤ 12 ∧ ∀ H', Same H H' → Q .non H'
def spFit : Sp := fun vs H Q _ => ∃ (a b : Addr) (ns ms : List Int), vs = [.ref a, .ref b] ∧ H a = some (.lst (ns.map V.int)) ∧ H b = some (.lst (ms.map V.int)) ∧ ns.length = ms.length ∧ Q .non H
def spBehind : Sp := fun vs H Q _ => ∃ (a b : Addr) (n : Nat) (ns ms : List Int), vs = [.ref a, .ref b] ∧ H a = some (.lst (ns.map V.int)) ∧ H b = some (.lst (ms.map V.int)) ∧ IsOrd n ns ∧ IsOrd n ms ∧ 1 ≤ n ∧ n ≤ 12 ∧
  ∀ (l : Addr) (H' : Hp), H l = none → H' l = some (.lst ((behindL ns ms).map V.int)) → Same H H' → Q (.ref l) H'
section
variable {P : Program} {w : World} {K : PySem.W.Frag} {mg : Str → Option Value} {base : Heap}
theorem scChecks : FnScope ["one", "other"] ["one", "other"] (defScope s_check_orders) := ⟨rfl, rfl, rfl, by decide +kernel, rfl, by decide +kernel, by decide +kernel⟩
theorem ok_checks {f fC : Addr} {fd fdC : FuncData} {k : Nat} (T : Df K mg "check_orders" s_check_orders ["one", "other"] f fd) (T_check_order : Df K mg "check_order" s_check_order ["thing"] fC fdC) (G_check_order : FnOk P w K mg base CX0 k fC fdC ["thing"] spCheck) : FnOk P w K mg base CX0 (k + 1) f fd ["one", "other"] spChecks := by
  refine T.F.ok scChecks (fun vs H Q E h => ?_) (fun cdv A outer s H vs Q E hr h => ?_)
  · obtain ⟨a, b, n, m, ns, ms, rfl, _⟩ := h
    rfl
  · obtain ⟨a, b, n, m, ns, ms, rfl, ha, hb, o1, n1, n2, o2, m1, m2, q⟩ := h
    refine ⟨_, 
      (pss_cons (ps_expr (pe_call G_check_order hr (by rfl) T_check_order.g T_check_order.F.kp T_check_order.b .nil pass0 (pa_cons (pv 0) pa_nil)))
      (pss_one (ps_expr (pe_call G_check_order hr (by rfl) T_check_order.g T_check_order.F.kp T_check_order.b .nil pass0 (pa_cons (pv 1) pa_nil))))), ?_⟩
    refine ⟨_, rfl, a, n, ns, rfl, ha, o1, n1, n2, fun H1 s1 => ?_⟩
    exact ⟨_, rfl, b, m, ms, rfl, s1 _ _ hb, o2, m1, m2, fun H2 s2 => q H2 (s1.trans s2)⟩
theorem scFit : FnScope ["one", "other"] ["one", "other"] (defScope s_check_fit) := ⟨rfl, rfl, rfl, by decide +kernel, rfl, by decide +kernel, by decide +kernel⟩
theorem ok_fit {f : Addr} {fd : FuncData} {k : Nat} (T : Df K mg "check_fit" s_check_fit ["one", "other"] f fd) (B : Bi mg) : FnOk P w K mg base CX0 (k + 1) f fd ["one", "other"] spFit := by
  refine T.F.ok scFit (fun vs H Q E h => ?_) (fun cdv A outer s H vs Q E hr h => ?_)
  · obtain ⟨a, b, ns, ms, rfl, _⟩ := h
    rfl
  · obtain ⟨a, b, ns, ms, rfl, ha, hb, e, q⟩ := h
    refine ⟨_, 
      (pss_one (ps_if (pt_cmpR op_ne (pe_callB call_len_seq (by rfl) B.len PySem.boot_len (pa_cons (pv 0) pa_nil)) (pe_callB call_len_seq (by rfl) B.len PySem.boot_len (pa_cons (pv 1) pa_nil)) (nomark _))
        (pss_one ps_never)
        pss_nil)), ?_⟩
    refine ⟨_, rfl, a, _, rfl, .inl (SqL.of ha), _, rfl, b, _, rfl, .inl (SqL.of hb), rfl, _, rfl, ?_⟩
    rw [List.length_map, List.length_map, e]
    exact iteNS rfl q
end
end Fo
namespace Fo
open PySem PySem.Spec PyProof.Rows L2
def spPlaces : Sp := fun vs H Q _ => ∃ (a : Addr) (n : Nat) (ns : List Int), vs = [.ref a] ∧ H a = some (.lst (ns.map V.int)) ∧ IsOrd n ns ∧ 1 ≤ n ∧ n ≤ 12 ∧
  ∀ (ps : List Int) (l : Addr) (H' : Hp), IsBack ns ps → H l = none → H' l = some (.lst (ps.map V.int)) → Same H H' → Q (.ref l) H'
section
variable {P : Program} {w : World} {K : PySem.W.Frag} {mg : Str → Option Value} {base : Heap}
theorem scPlaces : FnScope ["order", "places", "place", "thing"] ["order"] (defScope s_places_in) := ⟨rfl, rfl, rfl, by decide +kernel, rfl, by decide +kernel, by decide +kernel⟩
set_option maxHeartbeats 2000000 in
theorem ok_places {f : Addr} {fd : FuncData} {k : Nat} (T : Df K mg "places_in" s_places_in ["order"] f fd) (B : Bi mg) : FnOk P w K mg base CX0 (k + 1) f fd ["order"] spPlaces := by
  refine T.F.ok scPlaces (fun vs H Q E h => ?_) (fun cdv A outer s H vs Q E hr h => ?_)
  · obtain ⟨a, n, ns, rfl, _⟩ := h
    rfl
  · obtain ⟨a, n, ns, rfl, ha, ho, hn1, hn2, q⟩ := h
    have hlm : (ns.map V.int).length = n := by rw [List.length_map, ho.len]
    have hz : ∀ m : Nat, (List.replicate m [V.int 0]).flatten = (List.replicate m (0 : Int)).map V.int := by
      intro m
      induction m with
      | zero => rfl
      | succ m ih => rw [List.replicate_succ, List.replicate_succ, List.flatten_cons, ih]; rfl
    refine ⟨_, 
      (pss_cons (ps_set (i := 1) scPlaces.nd rfl (.inl rfl) (pe_op op_rep (pe_lst (pa_cons pe_int pa_nil)) (pe_callB call_len_seq (by rfl) B.len PySem.boot_len (pa_cons (pv 0) pa_nil))))
      (pss_cons (ps_for PassesOwn.never rfl (pi_enum (by rfl) B.enumerate (pa_cons (pv 0) pa_nil)) (pg_tup (by rfl) (pgs_cons (pg_name (i := 2) scPlaces.nd rfl (.inl rfl)) (pgs_cons (pg_name (i := 3) scPlaces.nd rfl (.inl rfl)) pgs_nil)))
        (pss_one (ps_asg (pv 2) (pg_sub (pv 1) (pv 3) set_list))))
      (pss_one (ps_ret (pv 1))))), ?_⟩
    refine ⟨line_small (by show 1 ≤ 16777216; decide), fun z nz => ?_⟩
    have s1 := same_new (o := .lst [.int 0]) nz
    refine ⟨_, rfl, a, _, rfl, .inl (SqL.of (s1 _ _ ha)), z, _, _, rfl, rfl, upd_same, by omega, by rw [hlm]; omega, line_small (by rw [hlm, Int.toNat_natCast]; show 1 * n ≤ _; omega), fun l nl => ?_⟩
    have s2 := s1.trans (same_new (o := .lst (List.replicate (((ns.map V.int).length : Nat) : Int).toNat [V.int 0]).flatten) nl)
    have nHl : H l = none := s1.free nl
    refine ⟨_, rfl, a, _, rfl, SqL.of (s2 _ _ ha), ?_⟩
    refine for_enumL (xs := ns.map V.int) (fun i σ H3 => ∃ (y2 y3 : Option V) (ps : List Int), σ = [some (.ref a), some (.ref l), y2, y3] ∧ H3 l = some (.lst (ps.map V.int)) ∧ ps.length = n ∧ (∀ (j : Nat) (x : Int), j < i → ns[j]? = some x → ps[x.toNat]? = some (j : Int)) ∧ Same H H3)
      ⟨none, none, List.replicate n 0, rfl, by rw [upd_same, hz, hlm, Int.toNat_natCast], by rw [List.length_replicate], fun j x hj => absurd hj (Nat.not_lt_zero _), s2⟩ (fun i σ H3 hP => by obtain ⟨_, _, _, _, _, _, _, sm⟩ := hP; exact SqL.of (sm _ _ ha)) (fun i x t σ H3 hx hP nt => ?_) (fun σ H3 hP => ?_)
    · obtain ⟨y2, y3, ps, rfl, hl3, el, hat, sm⟩ := hP
      obtain ⟨y, ey, rfl⟩ := int_at_inv hx
      have hy := ho.mem (List.mem_of_getElem? ey)
      have s3 := same_new (o := .tup [.int (i : Nat), .int y]) nt
      have hl4 := s3 _ _ hl3
      refine ⟨t, _, rfl, .inl (.inl upd_same), rfl, _, _, rfl, _, _, rfl, rfl, ?_⟩
      refine ⟨_, rfl, _, rfl, _, rfl, l, _, _, y.toNat, rfl, rfl, hl4, ix_n (by omega) (by rw [List.length_map]; omega), ?_⟩
      refine ⟨_, _, ps.set y.toNat (i : Int), rfl, by rw [upd_same, List.map_set], by rw [List.length_set]; exact el, fun j x hj hx2 => ?_, fun c o e => ?_⟩
      · by_cases c : j = i
        · subst c
          have e1 : x = y := Option.some.inj (hx2.symm.trans ey)
          subst e1
          rw [List.getElem?_set_self (by omega)]
        · have hx3 := ho.mem (List.mem_of_getElem? hx2)
          have ne : y.toNat ≠ x.toNat := fun e => c (nd_ix ho.nodup hx2 (by rw [ey]; congr 1; omega))
          rw [List.getElem?_set_ne ne]
          exact hat j x (by omega) hx2
      · rw [upd_ne (ne_of_none e nHl)]
        exact s3 _ _ (sm _ _ e)
    · obtain ⟨y2, y3, ps, rfl, hl3, el, hat, sm⟩ := hP
      rw [hlm] at hat
      refine ⟨_, rfl, q ps l H3 ⟨by rw [el, ho.len], fun j x hx => hat j x ?_ hx⟩ nHl hl3 sm⟩
      have := (List.getElem?_eq_some_iff.mp hx).1
      rw [ho.len] at this
      exact this
end
end Fo
namespace Fo
open PySem PySem.Spec PyProof.Rows L2
def two (vs : List V) (H : Hp) (a b : Addr) (n : Nat) (xs ys : List Int) : Prop := vs = [.ref a, .ref b] ∧ H a = some (.lst (xs.map V.int)) ∧ H b = some (.lst (ys.map V.int)) ∧ IsOrd n xs ∧ IsOrd n ys ∧ 1 ≤ n ∧ n ≤ 12
end Fo
namespace Fo
open PySem PySem.Spec PyProof.Rows L2
theorem g0_getD {s : List Int} {i : Nat} {x : Int} (h : s[i]? = some x) : g0 s i = x := g0_at h
def spSeats : Sp := fun vs H Q _ => ∃ (a b : Addr) (n : Nat) (xs ys : List Int), two vs H a b n xs ys ∧ ∀ (l : Addr) (H' : Hp), H l = none → H' l = some (.lst ((seatsL xs ys).map V.int)) → Same H H' → Q (.ref l) H'
section
variable {P : Program} {w : World} {K : PySem.W.Frag} {mg : Str → Option Value} {base : Heap}
theorem scSeats : FnScope ["one", "other", "places", "thing"] ["one", "other"] (defScope s_seats_in) := ⟨rfl, rfl, rfl, by decide +kernel, rfl, by decide +kernel, by decide +kernel⟩
set_option maxHeartbeats 2000000 in
theorem ok_seats {f fP : Addr} {fd fdP : FuncData} {k : Nat} (T : Df K mg "seats_in" s_seats_in ["one", "other"] f fd) (T_places_in : Df K mg "places_in" s_places_in ["order"] fP fdP) (B : Bi mg) : FnOk P w K mg base CX0 (k + 2) f fd ["one", "other"] spSeats := by
  have G_places_in : FnOk P w K mg base CX0 (k + 1) fP fdP ["order"] spPlaces := ok_places T_places_in B
  refine T.F.ok scSeats (fun vs H Q E h => ?_) (fun cdv A outer s H vs Q E hr h => ?_)
  · obtain ⟨a, b, n, xs, ys, ⟨rfl, _⟩, _⟩ := h
    rfl
  · obtain ⟨a, b, n, xs, ys, ⟨rfl, ha, hb, ox, oy, hn1, hn2⟩, q⟩ := h
    refine ⟨_, 
      (pss_cons (ps_set (i := 2) scSeats.nd rfl (.inr rfl) (pe_call G_places_in hr (by rfl) T_places_in.g T_places_in.F.kp T_places_in.b .nil pass0 (pa_cons (pv 1) pa_nil)))
      (pss_one (ps_ret (pe_lc (own := [("thing", 3)]) (g := (gName 3)) (tt := tYes) (te := (tOp (rIxL K) (tVar 2) (tVar 3))) rfl scSeats.nd (pi_list (pv 0)) (blkOk_by (N := ["one", "other", "places", "thing"]) (sc := defScope s_seats_in) (by decide +kernel)) (fun _ _ _ _ _ => (pg_name (i := 3) scSeats.nd rfl (.inl rfl))) (fun _ _ _ _ _ => pts_nil) (fun _ _ _ _ _ => (pe_ix ix_list (pv 2) (pv 3) (fun _ _ => rfl))))))), ?_⟩
    refine ⟨_, rfl, b, n, ys, rfl, hb, oy, hn1, hn2, fun ps l H1 hps nl hl s1 => ?_⟩
    refine ⟨_, rfl, a, rfl, ⟨_, SqL.of (s1 _ _ ha)⟩, fun D nD => ?_⟩
    have nHD : H D = none := s1.free nD
    refine lc_list (K := K) (a := a) (xs := xs.map V.int) (fun i H3 => H3 D = some (.lst (((seatsL xs ys).take i).map V.int)) ∧ H3 l = some (.lst (ps.map V.int)) ∧ Same H H3) ⟨upd_same, same_new nD _ _ hl, s1.trans (same_new nD)⟩ (fun i H3 _ hP => SqL.of (hP.2.2 _ _ ha)) (fun i x H3 hx hP => ?_) (fun H3 hP => ?_)
    · obtain ⟨y, ey, rfl⟩ := int_at_inv hx
      obtain ⟨hD3, hl3, sm⟩ := hP
      have hy := ox.mem (List.mem_of_getElem? ey)
      have hi := (List.getElem?_eq_some_iff.mp ey).1
      rw [ox.len] at hi
      refine ⟨rfl, _, rfl, _, rfl, l, _, _, _, rfl, rfl, SqL.of hl3, at_of (j := y.toNat) (by omega) (int_at (back_pos oy hps hy.1 hy.2)), _, hD3, line_lt (by rw [List.length_map, List.length_take]; omega), ?_, ?_, fun c o e => ?_⟩
      · rw [upd_same, take_more (seats_at ey), List.map_append]
        rfl
      · rw [upd_ne (ne_of_none hl nD)]
        exact hl3
      · rw [upd_ne (ne_of_none e nHD)]
        exact sm _ _ e
    · obtain ⟨hD3, hl3, sm⟩ := hP
      rw [List.take_of_length_le (by rw [seats_len, List.length_map]; exact Nat.le_refl _)] at hD3
      exact q D H3 nHD hD3 sm
end
end Fo
namespace Fo
open PySem PySem.Spec PyProof.Rows L2
/-! ### turned pairs, one after the other -/
def invR : List Int → Nat
  | [] => 0
  | x :: r => (r.filter (fun z => decide (z < x))).length + invR r
theorem rg_cons (n : Nat) : rg (n + 1) = 0 :: (rg n).map (· + 1) := by
  unfold rg
  rw [List.range_succ_eq_map, List.map_cons, List.map_map, List.map_map]
  rfl
theorem inv_NR : ∀ s : List Int, invN s = invR s
  | [] => rfl
  | x :: r => by
    have ih := inv_NR r
    unfold invN at ih ⊢
    rw [List.length_cons, rg_cons, sumN_cons, sumN_map]
    show cntL (x :: r) (0 : Int).toNat + _ = (r.filter (fun z => decide (z < x))).length + invR r
    rw [← ih]
    have e1 : cntL (x :: r) (0 : Int).toNat = (r.filter (fun z => decide (z < x))).length := rfl
    rw [e1]
    congr 1
    apply sumN_congr
    intro i hi
    have hb := rg_mem.mp hi
    obtain ⟨j, rfl⟩ : ∃ j : Nat, i = (j : Int) := ⟨i.toNat, by omega⟩
    rw [show ((j : Int) + 1).toNat = j + 1 by omega, Int.toNat_natCast]
    unfold cntL
    have e2 : g0 (x :: r) ((j + 1 : Nat) : Int) = g0 r (j : Int) := by
      unfold g0
      rw [Int.toNat_natCast, Int.toNat_natCast]
      rfl
    rw [e2]
    rfl
theorem filt_perm {a b : List Int} (h : a.Perm b) (p : Int → Bool) : (a.filter p).length = (b.filter p).length := (h.filter p).length_eq
theorem invR_at : ∀ (A : List Int) (a b : Int) (B : List Int), b < a → invR (A ++ a :: b :: B) = invR (A ++ b :: a :: B) + 1
  | [], a, b, B, h => by
    show ((b :: B).filter (fun z => decide (z < a))).length + ((B.filter (fun z => decide (z < b))).length + invR B) = ((a :: B).filter (fun z => decide (z < b))).length + ((B.filter (fun z => decide (z < a))).length + invR B) + 1
    rw [List.filter_cons, List.filter_cons, decide_eq_true h, decide_eq_false (show ¬ a < b by omega), if_pos rfl, if_neg (by decide), List.length_cons]
    omega
  | x :: A, a, b, B, h => by
    have ih := invR_at A a b B h
    show ((A ++ a :: b :: B).filter (fun z => decide (z < x))).length + invR (A ++ a :: b :: B) = ((A ++ b :: a :: B).filter (fun z => decide (z < x))).length + invR (A ++ b :: a :: B) + 1
    rw [ih, filt_perm (List.Perm.append_left A (List.Perm.swap b a B))]
    omega
theorem invR_sw {s : List Int} {p : Nat} {a b : Int} (ha : s[p]? = some a) (hb : s[p + 1]? = some b) (h : b < a) : invR s = invR (sw s p) + 1 := by
  have hl := (List.getElem?_eq_some_iff.mp hb).1
  obtain ⟨A, x, y, B, rfl, rfl⟩ := split2 hl
  have ex : x = a := by
    rw [List.getElem?_append_right (Nat.le_refl _), Nat.sub_self] at ha
    exact Option.some.inj ha
  have ey : y = b := by
    rw [List.getElem?_append_right (by omega), show A.length + 1 - A.length = 1 by omega] at hb
    exact Option.some.inj hb
  subst ex ey
  rw [sw_at, invR_at A x y B h]
def firstDesc : List Int → Option Nat
  | [] => none
  | [_] => none
  | x :: y :: r => if y < x then some 0 else (firstDesc (y :: r)).map (· + 1)
theorem fd_cons (x y : Int) (r : List Int) : firstDesc (x :: y :: r) = if y < x then some 0 else (firstDesc (y :: r)).map (· + 1) := by rw [firstDesc]
theorem fd_some : ∀ {s : List Int} {p : Nat} {a b : Int}, (∀ (j : Nat) (u v : Int), j < p → s[j]? = some u → s[j + 1]? = some v → u ≤ v) → s[p]? = some a → s[p + 1]? = some b → b < a → firstDesc s = some p
  | [], p, a, b, _, ha, _, _ => by simp at ha
  | [_], p, a, b, _, _, hb, _ => by simp at hb
  | x :: y :: r, 0, a, b, _, ha, hb, h => by
    have e1 : x = a := Option.some.inj ha
    have e2 : y = b := Option.some.inj hb
    rw [fd_cons, if_pos (by omega)]
  | x :: y :: r, p + 1, a, b, hl, ha, hb, h => by
    have h0 : x ≤ y := hl 0 x y (by omega) rfl rfl
    have ih := fd_some (s := y :: r) (p := p) (a := a) (b := b) (fun j u v hj hu hv => hl (j + 1) u v (by omega) hu hv) ha hb h
    rw [fd_cons, if_neg (by omega), ih]
    rfl
theorem fd_none : ∀ {s : List Int}, (∀ (j : Nat) (u v : Int), s[j]? = some u → s[j + 1]? = some v → u ≤ v) → firstDesc s = none
  | [], _ => rfl
  | [_], _ => rfl
  | x :: y :: r, hl => by
    have h0 : x ≤ y := hl 0 x y rfl rfl
    have ih := fd_none (s := y :: r) (fun j u v hu hv => hl (j + 1) u v hu hv)
    rw [fd_cons, if_neg (by omega), ih]
    rfl
theorem fd_at : ∀ {s : List Int} {p : Nat}, firstDesc s = some p → ∃ a b, s[p]? = some a ∧ s[p + 1]? = some b ∧ b < a ∧ ∀ (j : Nat) (u v : Int), j < p → s[j]? = some u → s[j + 1]? = some v → u ≤ v
  | [], p, h => by cases h
  | [_], p, h => by cases h
  | x :: y :: r, p, h => by
    rw [fd_cons] at h
    by_cases c : y < x
    · rw [if_pos c] at h
      cases h
      exact ⟨x, y, rfl, rfl, c, fun j u v hj => absurd hj (Nat.not_lt_zero _)⟩
    · rw [if_neg c] at h
      cases e : firstDesc (y :: r) with
      | none => rw [e] at h; cases h
      | some q =>
        rw [e] at h
        have ep : q + 1 = p := Option.some.inj h
        subst ep
        obtain ⟨a, b, ha, hb, hlt, hl⟩ := fd_at e
        refine ⟨a, b, ha, hb, hlt, fun j u v hj hu hv => ?_⟩
        cases j with
        | zero =>
          have e1 : x = u := Option.some.inj hu
          have e2 : y = v := Option.some.inj hv
          omega
        | succ j => exact hl j u v (by omega) hu hv
theorem fd_sorted : ∀ {s : List Int}, firstDesc s = none → s.Pairwise (· ≤ ·)
  | [], _ => List.Pairwise.nil
  | [_], _ => List.pairwise_singleton _ _
  | x :: y :: r, h => by
    rw [fd_cons] at h
    by_cases c : y < x
    · rw [if_pos c] at h; cases h
    · rw [if_neg c] at h
      have e : firstDesc (y :: r) = none := by
        cases e : firstDesc (y :: r) with
        | none => rfl
        | some q => rw [e] at h; cases h
      have ih := fd_sorted e
      refine List.Pairwise.cons (fun z hz => ?_) ih
      rcases List.mem_cons.mp hz with rfl | hz
      · omega
      · have := (List.pairwise_cons.mp ih).1 z hz
        omega
theorem invR_sorted : ∀ {s : List Int}, s.Pairwise (· ≤ ·) → invR s = 0
  | [], _ => rfl
  | x :: r, h => by
    obtain ⟨h1, h2⟩ := List.pairwise_cons.mp h
    show (r.filter (fun z => decide (z < x))).length + invR r = 0
    rw [invR_sorted h2, List.filter_eq_nil_iff.mpr (fun z hz => by
      have := h1 z hz
      simp
      omega)]
    rfl
theorem fd_pos {s : List Int} (h : 0 < invR s) : ∃ p, firstDesc s = some p := by
  cases e : firstDesc s with
  | none => rw [invR_sorted (fd_sorted e)] at h; omega
  | some p => exact ⟨p, rfl⟩
/-- the first of the shortest walks, of at most m places -/
def gw : Nat → List Int → List Int
  | 0, _ => []
  | m + 1, s => match firstDesc s with
    | none => []
    | some p => (p : Int) :: gw m (sw s p)
abbrev walkL (s : List Int) : List Int := gw (invR s) s
theorem walk_none {s : List Int} (h : firstDesc s = none) : walkL s = [] := by
  unfold walkL
  rw [invR_sorted (fd_sorted h)]
  rfl
theorem walk_some {s : List Int} {p : Nat} (h : firstDesc s = some p) : walkL s = (p : Int) :: walkL (sw s p) := by
  obtain ⟨a, b, ha, hb, hlt, _⟩ := fd_at h
  unfold walkL
  rw [invR_sw ha hb hlt, gw, h]
theorem walk_len : ∀ (m : Nat) (s : List Int), invR s = m → (walkL s).length = m
  | 0, s, h => by
    unfold walkL
    rw [h]
    rfl
  | m + 1, s, h => by
    obtain ⟨p, hp⟩ := fd_pos (s := s) (by omega)
    obtain ⟨a, b, ha, hb, hlt, _⟩ := fd_at hp
    rw [walk_some hp, List.length_cons, walk_len m (sw s p) (by have := invR_sw ha hb hlt; omega)]
theorem invR_len (s : List Int) : invR s ≤ s.length * s.length := by
  induction s with
  | nil => exact Nat.le_refl _
  | cons x r ih =>
    show (r.filter _).length + invR r ≤ (r.length + 1) * (r.length + 1)
    have h1 : (r.filter (fun z => decide (z < x))).length ≤ r.length := List.length_filter_le _ _
    have h2 : (r.length + 1) * (r.length + 1) = r.length * r.length + r.length + r.length + 1 := by
      rw [Nat.add_mul, Nat.mul_add]
      omega
    omega
theorem seats_sw {xs ys : List Int} {p : Nat} (h : p + 1 < xs.length) : seatsL (sw xs p) ys = sw (seatsL xs ys) p := by
  obtain ⟨A, a, b, B, rfl, rfl⟩ := split2 h
  rw [sw_at]
  unfold seatsL
  rw [List.map_append, List.map_cons, List.map_cons, List.map_append, List.map_cons, List.map_cons]
  have e := sw_at (A.map (pos ys)) (pos ys a) (pos ys b) (B.map (pos ys))
  rw [List.length_map] at e
  exact e.symm
theorem cut_sw {xs : List Int} {p : Nat} {a b : Int} (ha : xs[p]? = some a) (hb : xs[p + 1]? = some b) : xs.take p ++ [b, a] ++ xs.drop (p + 2) = sw xs p := by
  have hl := (List.getElem?_eq_some_iff.mp hb).1
  obtain ⟨A, x, y, B, rfl, rfl⟩ := split2 hl
  have ex : x = a := by
    rw [List.getElem?_append_right (Nat.le_refl _), Nat.sub_self] at ha
    exact Option.some.inj ha
  have ey : y = b := by
    rw [List.getElem?_append_right (by omega), show A.length + 1 - A.length = 1 by omega] at hb
    exact Option.some.inj hb
  subst ex ey
  rw [sw_at, List.take_left, List.drop_append, List.drop_of_length_le (by omega), show A.length + 2 - A.length = 2 by omega]
  simp
theorem filt_map (l : List Int) (f : Int → Int) (p : Int → Bool) : ((l.map f).filter p).length = (l.filter (fun x => p (f x))).length := by
  rw [List.filter_map, List.length_map]
  rfl
end Fo
namespace Fo
open PySem PySem.Spec PyProof.Rows L2
theorem pos_ord {n : Nat} {xs : List Int} (o : IsOrd n xs) : IsOrd n ((rg n).map (pos xs)) := by
  have h : ((rg n).map (pos xs)).Perm (seatsL xs xs) := List.Perm.map _ o.symm
  rw [seats_self o] at h
  exact h
theorem pos_in {n : Nat} {xs : List Int} (o : IsOrd n xs) {t : Int} (h : t ∈ rg n) : pos xs t ∈ rg n := by
  have := (pos_ord o).mem (List.mem_map.mpr ⟨t, h, rfl⟩)
  exact rg_mem.mpr this
theorem pos_inj {n : Nat} {xs : List Int} (o : IsOrd n xs) {t u : Int} (ht : t ∈ rg n) (hu : u ∈ rg n) (e : pos xs t = pos xs u) : t = u := by
  have h1 := rg_mem.mp ht
  have h2 := rg_mem.mp hu
  obtain ⟨i, _, ei, pi⟩ := pos_at o h1.1 h1.2
  obtain ⟨j, _, ej, pj⟩ := pos_at o h2.1 h2.2
  have : i = j := by omega
  subst this
  exact Option.some.inj (ei.symm.trans ej)
/-- a sum over the places is a sum over the things -/
theorem sum_pos {n : Nat} {xs : List Int} (o : IsOrd n xs) (f : Int → Nat) : sumN (rg n) f = sumN (rg n) fun t => f (pos xs t) := by
  have e : sumN ((rg n).map (pos xs)) f = sumN (rg n) fun t => f (pos xs t) := sumN_map _ _ _
  rw [← e]
  exact (sumN_perm (pos_ord o) f).symm
theorem sum_g0 {n : Nat} {xs : List Int} (o : IsOrd n xs) (f : Int → Nat) : sumN (rg n) f = sumN (rg n) fun p => f (g0 xs p) := by
  have e : sumN ((rg n).map (g0 xs)) f = sumN (rg n) fun t => f (g0 xs t) := sumN_map _ _ _
  rw [← e, ← g0_ord o]
  exact (sumN_perm o f).symm
theorem g0_pos {n : Nat} {xs : List Int} (o : IsOrd n xs) {t : Int} (h : t ∈ rg n) : g0 xs (pos xs t) = t := by
  have h1 := rg_mem.mp h
  obtain ⟨j, _, ej, pj⟩ := pos_at o h1.1 h1.2
  rw [pj]
  exact g0_at ej
theorem pos_g0 {n : Nat} {xs : List Int} (o : IsOrd n xs) {p : Int} (h : p ∈ rg n) : pos xs (g0 xs p) = p := by
  have h1 := rg_mem.mp h
  obtain ⟨x, hx, _⟩ := ord_ix o (j := p.toNat) (by omega)
  have e := g0_at hx
  rw [Int.toNat_of_nonneg h1.1] at e
  rw [e, pos_of o hx]
  omega
theorem g0_in {n : Nat} {xs : List Int} (o : IsOrd n xs) {p : Int} (h : p ∈ rg n) : g0 xs p ∈ rg n := by
  have h1 := rg_mem.mp h
  obtain ⟨x, hx, x0, x1⟩ := ord_ix o (j := p.toNat) (by omega)
  have e := g0_at hx
  rw [Int.toNat_of_nonneg h1.1] at e
  rw [e]
  exact rg_mem.mpr ⟨x0, x1⟩
end Fo
namespace Fo
open PySem PySem.Spec PyProof.Rows L2
/-! ### rounds -/
def it (f : Int → Int) : Nat → Int → Int
  | 0, t => t
  | j + 1, t => f (it f j t)
theorem it_add (f : Int → Int) (i j : Nat) (t : Int) : it f (i + j) t = it f i (it f j t) := by
  induction i with
  | zero => rw [Nat.zero_add]; rfl
  | succ i ih => rw [Nat.succ_add]; show f (it f (i + j) t) = f (it f i (it f j t)); rw [ih]
/-- f leads things to things, no two to one -/
structure Bij (n : Nat) (f : Int → Int) : Prop where
  into : ∀ t ∈ rg n, f t ∈ rg n
  inj : ∀ t ∈ rg n, ∀ u ∈ rg n, f t = f u → t = u
section
variable {n : Nat} {f : Int → Int}
theorem Bij.it_in (b : Bij n f) {t : Int} (ht : t ∈ rg n) : ∀ j, it f j t ∈ rg n
  | 0 => ht
  | j + 1 => b.into _ (b.it_in ht j)
theorem Bij.it_inj (b : Bij n f) {t u : Int} (ht : t ∈ rg n) (hu : u ∈ rg n) : ∀ j, it f j t = it f j u → t = u
  | 0, e => e
  | j + 1, e => b.it_inj ht hu j (b.inj _ (b.it_in ht j) _ (b.it_in hu j) e)
theorem Bij.again (b : Bij n f) {t : Int} (ht : t ∈ rg n) : ∃ j, j < n ∧ it f (j + 1) t = t := by
  by_cases h : ∃ j, j < n ∧ it f (j + 1) t = t
  · exact h
  · exfalso
    have nd : ((List.range (n + 1)).map (fun j => it f j t)).Nodup := by
      have : (List.range (n + 1)).Pairwise (fun i j => it f i t ≠ it f j t) := by
        have hp : (List.range (n + 1)).Pairwise (fun i j => i < j ∧ j < n + 1) := by
          rw [List.pairwise_iff_getElem]
          intro i j hi hj hij
          rw [List.getElem_range, List.getElem_range]
          rw [List.length_range] at hj
          exact ⟨hij, hj⟩
        refine hp.imp fun {i j} hij e => ?_
        have ej : it f j t = it f i (it f (j - i) t) := by rw [← it_add, show i + (j - i) = j by omega]
        rw [ej] at e
        have z := b.it_inj ht (b.it_in ht (j - i)) i e
        exact h ⟨j - i - 1, by omega, by rw [show j - i - 1 + 1 = j - i by omega]; exact z.symm⟩
      exact List.Pairwise.map _ (fun i j h => h) this
    have hl := nodup_len (m := rg n) nd fun x hx => by
      obtain ⟨j, _, rfl⟩ := List.mem_map.mp hx
      exact b.it_in ht j
    rw [List.length_map, List.length_range, rg_len] at hl
    omega
end
def per (n : Nat) (f : Int → Int) (t : Int) : Nat := ((List.range n).find? (fun j => decide (it f (j + 1) t = t))).getD 0 + 1
def cyc (n : Nat) (f : Int → Int) (t : Int) : List Int := (List.range (per n f t)).map fun j => it f j t
section
variable {n : Nat} {f : Int → Int}
theorem Bij.per_spec (b : Bij n f) {t : Int} (ht : t ∈ rg n) : 1 ≤ per n f t ∧ per n f t ≤ n ∧ it f (per n f t) t = t ∧ ∀ j, 1 ≤ j → j < per n f t → it f j t ≠ t := by
  obtain ⟨j0, h0, e0⟩ := b.again ht
  cases e : (List.range n).find? (fun j => decide (it f (j + 1) t = t)) with
  | none =>
    have := List.find?_eq_none.mp e j0 (List.mem_range.mpr h0)
    simp [e0] at this
  | some i =>
    obtain ⟨h1, h2, h3⟩ := List.find?_range_eq_some.mp e
    have hp : per n f t = i + 1 := by
      unfold per
      rw [e]
      rfl
    rw [hp]
    have hi := List.mem_range.mp h2
    refine ⟨by omega, by omega, of_decide_eq_true h1, fun j hj1 hj2 ez => ?_⟩
    have := h3 (j - 1) (by omega)
    rw [show j - 1 + 1 = j by omega, decide_eq_true ez] at this
    cases this
theorem cyc_len (t : Int) : (cyc n f t).length = per n f t := by
  unfold cyc
  rw [List.length_map, List.length_range]
theorem cyc_at {t : Int} {j : Nat} (h : j < per n f t) : (cyc n f t)[j]? = some (it f j t) := by
  unfold cyc
  rw [List.getElem?_map, List.getElem?_range h]
  rfl
theorem Bij.cyc_in (b : Bij n f) {t u : Int} (ht : t ∈ rg n) (h : u ∈ cyc n f t) : u ∈ rg n := by
  obtain ⟨j, _, rfl⟩ := List.mem_map.mp h
  exact b.it_in ht j
theorem Bij.cyc_it (b : Bij n f) {t : Int} (ht : t ∈ rg n) : ∀ m, it f m t ∈ cyc n f t := by
  obtain ⟨p1, p2, p3, p4⟩ := b.per_spec ht
  intro m
  induction m with
  | zero => exact List.mem_map.mpr ⟨0, List.mem_range.mpr p1, rfl⟩
  | succ m ih =>
    obtain ⟨j, hj, e⟩ := List.mem_map.mp ih
    have hj2 := List.mem_range.mp hj
    show f (it f m t) ∈ _
    rw [← e]
    by_cases c : j + 1 < per n f t
    · exact List.mem_map.mpr ⟨j + 1, List.mem_range.mpr c, rfl⟩
    · have : j + 1 = per n f t := by omega
      have e2 : f (it f j t) = t := by
        have z := p3
        rw [← this] at z
        exact z
      rw [e2]
      exact List.mem_map.mpr ⟨0, List.mem_range.mpr p1, rfl⟩
theorem Bij.cyc_self (b : Bij n f) {t : Int} (ht : t ∈ rg n) : t ∈ cyc n f t := b.cyc_it ht 0
theorem Bij.cyc_symm (b : Bij n f) {t u : Int} (ht : t ∈ rg n) (h : u ∈ cyc n f t) : t ∈ cyc n f u := by
  obtain ⟨p1, p2, p3, p4⟩ := b.per_spec ht
  have hu := b.cyc_in ht h
  obtain ⟨j, hj, rfl⟩ := List.mem_map.mp h
  have hj2 := List.mem_range.mp hj
  have := b.cyc_it hu (per n f t - j)
  rw [← it_add, show per n f t - j + j = per n f t by omega, p3] at this
  exact this
theorem Bij.cyc_trans (b : Bij n f) {t u v : Int} (ht : t ∈ rg n) (h1 : u ∈ cyc n f t) (h2 : v ∈ cyc n f u) : v ∈ cyc n f t := by
  obtain ⟨i, _, rfl⟩ := List.mem_map.mp h1
  obtain ⟨j, _, rfl⟩ := List.mem_map.mp h2
  rw [← it_add]
  exact b.cyc_it ht _
end
def mnL : List Int → Int
  | [] => 0
  | [a] => a
  | a :: b :: r => min a (mnL (b :: r))
theorem mnL_spec : ∀ {l : List Int}, 0 < l.length → mnL l ∈ l ∧ ∀ x ∈ l, mnL l ≤ x
  | [], h => absurd h (Nat.lt_irrefl _)
  | [a], _ => ⟨List.mem_cons_self, fun x hx => by rw [List.mem_singleton.mp hx]; exact Int.le_refl _⟩
  | a :: b :: r, _ => by
    obtain ⟨h1, h2⟩ := mnL_spec (l := b :: r) (by simp)
    show min a (mnL (b :: r)) ∈ _ ∧ ∀ x ∈ _, min a (mnL (b :: r)) ≤ x
    constructor
    · by_cases c : a ≤ mnL (b :: r)
      · rw [Int.min_eq_left c]
        exact List.mem_cons_self
      · rw [Int.min_eq_right (by omega)]
        exact List.mem_cons_of_mem _ h1
    · intro x hx
      rcases List.mem_cons.mp hx with rfl | hx
      · omega
      · have := h2 x hx
        omega
theorem mnL_of {l : List Int} {m : Int} (hm : m ∈ l) (h : ∀ x ∈ l, m ≤ x) : mnL l = m := by
  obtain ⟨h1, h2⟩ := mnL_spec (l := l) (List.length_pos_of_mem hm)
  have := h2 m hm
  have := h _ h1
  omega
def mn (n : Nat) (f : Int → Int) (t : Int) : Int := mnL (cyc n f t)
section
variable {n : Nat} {f : Int → Int}
theorem Bij.mn_spec (b : Bij n f) {t : Int} (ht : t ∈ rg n) : mn n f t ∈ cyc n f t ∧ ∀ u ∈ cyc n f t, mn n f t ≤ u :=
  mnL_spec (by rw [cyc_len]; exact (b.per_spec ht).1)
theorem Bij.mn_same (b : Bij n f) {t u : Int} (ht : t ∈ rg n) (h : u ∈ cyc n f t) : mn n f u = mn n f t := by
  have hu := b.cyc_in ht h
  obtain ⟨h1, h2⟩ := b.mn_spec ht
  refine mnL_of (b.cyc_trans hu (b.cyc_symm ht h) h1) fun x hx => h2 x (b.cyc_trans ht h hx)
theorem Bij.mn_mn (b : Bij n f) {t : Int} (ht : t ∈ rg n) : mn n f (mn n f t) = mn n f t := b.mn_same ht (b.mn_spec ht).1
theorem Bij.mn_in (b : Bij n f) {t : Int} (ht : t ∈ rg n) : mn n f t ∈ rg n := b.cyc_in ht (b.mn_spec ht).1
theorem Bij.mn_le (b : Bij n f) {t : Int} (ht : t ∈ rg n) : mn n f t ≤ t := (b.mn_spec ht).2 t (b.cyc_self ht)
/-- whose least is t lies in t's round -/
theorem Bij.of_mn (b : Bij n f) {t x : Int} (ht : t ∈ rg n) (hx : x ∈ rg n) (e : mn n f x = t) : x ∈ cyc n f t := by
  have h := (b.mn_spec hx).1
  rw [e] at h
  exact b.cyc_symm hx h
/-- a round that is told -/
def told (n : Nat) (f : Int → Int) (t : Int) : Bool := decide (1 < per n f t) && decide (t = mn n f t)
def roundsL (n : Nat) (f : Int → Int) : List (List Int) := ((rg n).filter (told n f)).map (cyc n f)
def leftL (n : Nat) (f : Int → Int) (T : Int) : List Int := (rg n).filter fun x => decide (T ≤ mn n f x)
def doneL (n : Nat) (f : Int → Int) (T : Int) : List (List Int) := ((rg n).filter fun u => decide (u < T) && told n f u).map (cyc n f)
theorem Bij.left_all (b : Bij n f) : leftL n f 0 = rg n := by
  unfold leftL
  rw [List.filter_eq_self]
  intro x hx
  apply decide_eq_true
  exact (rg_mem.mp (b.mn_in hx)).1
theorem done_none : doneL n f 0 = [] := by
  unfold doneL
  rw [List.filter_eq_nil_iff.mpr]
  · rfl
  · intro x hx
    have := (rg_mem.mp hx).1
    simp
    omega
theorem Bij.done_all (b : Bij n f) {T : Int} (h : leftL n f T = []) : doneL n f T = roundsL n f := by
  unfold doneL roundsL
  congr 1
  apply List.filter_congr
  intro u hu
  have hm : ¬ T ≤ mn n f u := by
    have := List.filter_eq_nil_iff.mp h u hu
    simpa using this
  by_cases c : told n f u = true
  · have c2 := c
    unfold told at c2
    rw [Bool.and_eq_true] at c2
    have e := of_decide_eq_true c2.2
    rw [c, decide_eq_true (show u < T by omega)]
    rfl
  · have c3 : told n f u = false := by simpa using c
    rw [c3, Bool.and_false]
/-- t the least of what is left -/
theorem Bij.least (b : Bij n f) {T t : Int} (hm : t ∈ leftL n f T) (hle : ∀ x ∈ leftL n f T, t ≤ x) : t ∈ rg n ∧ T ≤ t ∧ mn n f t = t ∧ ∀ x ∈ rg n, T ≤ mn n f x → t ≤ mn n f x := by
  obtain ⟨h1, h2⟩ := List.mem_filter.mp hm
  have h2' : T ≤ mn n f t := of_decide_eq_true h2
  have key : ∀ x ∈ rg n, T ≤ mn n f x → t ≤ mn n f x := fun x hx hT => hle _ (List.mem_filter.mpr ⟨b.mn_in hx, decide_eq_true (by rw [b.mn_mn hx]; exact hT)⟩)
  have a1 := key t h1 h2'
  have a2 := b.mn_le h1
  exact ⟨h1, by omega, by omega, key⟩
theorem Bij.left_step (b : Bij n f) {T t : Int} (hm : t ∈ leftL n f T) (hle : ∀ x ∈ leftL n f T, t ≤ x) : (leftL n f T).filter (fun x => !decide (x ∈ cyc n f t)) = leftL n f (t + 1) := by
  obtain ⟨ht, hT, e, key⟩ := b.least hm hle
  unfold leftL
  rw [List.filter_filter]
  apply List.filter_congr
  intro x hx
  by_cases c : x ∈ cyc n f t
  · have := b.mn_same ht c
    rw [decide_eq_true c, decide_eq_false (show ¬ t + 1 ≤ mn n f x by omega)]
    rfl
  · have ne : mn n f x ≠ t := fun z => c (b.of_mn ht hx z)
    rw [decide_eq_false c]
    by_cases d : T ≤ mn n f x
    · have := key x hx d
      rw [decide_eq_true d, decide_eq_true (show t + 1 ≤ mn n f x by omega)]
      rfl
    · rw [decide_eq_false d, decide_eq_false (show ¬ t + 1 ≤ mn n f x by omega)]
      rfl
theorem rg_split {n : Nat} {t : Int} (ht : t ∈ rg n) : ∃ B : List Int, rg n = rg t.toNat ++ t :: B ∧ ∀ x ∈ B, t < x := by
  induction n with
  | zero => exact absurd ht List.not_mem_nil
  | succ n ih =>
    have hb := rg_mem.mp ht
    by_cases c : t = (n : Int)
    · subst c
      exact ⟨[], by rw [rg_succ, Int.toNat_natCast], fun x hx => absurd hx List.not_mem_nil⟩
    · obtain ⟨B, e, hB⟩ := ih (rg_mem.mpr ⟨hb.1, by omega⟩)
      refine ⟨B ++ [(n : Int)], by rw [rg_succ, e, List.append_assoc]; rfl, fun x hx => ?_⟩
      rcases List.mem_append.mp hx with hx | hx
      · exact hB x hx
      · rw [List.mem_singleton.mp hx]
        omega
theorem Bij.done_step (b : Bij n f) {T t : Int} (hm : t ∈ leftL n f T) (hle : ∀ x ∈ leftL n f T, t ≤ x) : doneL n f (t + 1) = doneL n f T ++ (if 1 < per n f t then [cyc n f t] else []) := by
  obtain ⟨ht, hT, e, key⟩ := b.least hm hle
  obtain ⟨B, eB, hB⟩ := rg_split ht
  unfold doneL
  rw [eB, List.filter_append, List.filter_append, List.filter_cons, List.filter_cons]
  have f1 : (rg t.toNat).filter (fun u => decide (u < t + 1) && told n f u) = (rg t.toNat).filter (fun u => decide (u < T) && told n f u) := by
    apply List.filter_congr
    intro u hu
    have hub := rg_mem.mp hu
    have htb := rg_mem.mp ht
    have hun : u ∈ rg n := rg_mem.mpr ⟨hub.1, by omega⟩
    rw [decide_eq_true (show u < t + 1 by omega)]
    by_cases c : told n f u = true
    · have c2 := c
      unfold told at c2
      rw [Bool.and_eq_true] at c2
      have e2 := of_decide_eq_true c2.2
      have : u < T := by
        by_cases d : T ≤ mn n f u
        · have := key u hun d
          omega
        · omega
      rw [decide_eq_true this]
    · have c3 : told n f u = false := by simpa using c
      rw [c3, Bool.and_false, Bool.and_false]
  have f2 : B.filter (fun u => decide (u < t + 1) && told n f u) = [] := by
    rw [List.filter_eq_nil_iff]
    intro x hx
    have := hB x hx
    rw [decide_eq_false (show ¬ x < t + 1 by omega)]
    simp
  have f3 : B.filter (fun u => decide (u < T) && told n f u) = [] := by
    rw [List.filter_eq_nil_iff]
    intro x hx
    have := hB x hx
    rw [decide_eq_false (show ¬ x < T by omega)]
    simp
  have et : told n f t = decide (1 < per n f t) := by
    unfold told
    rw [decide_eq_true e.symm, Bool.and_true]
  rw [f1, f2, f3, et, decide_eq_true (show t < t + 1 by omega), decide_eq_false (show ¬ t < T by omega)]
  by_cases c : 1 < per n f t
  · rw [decide_eq_true c, if_pos c]
    simp
  · rw [decide_eq_false c, if_neg c]
    simp
theorem per_id {t : Int} (hn : 1 ≤ n) : per n (fun x => x) t = 1 := by
  unfold per
  have : (List.range n).find? (fun j => decide (it (fun x => x) (j + 1) t = t)) = some 0 := by
    rw [List.find?_range_eq_some]
    exact ⟨decide_eq_true rfl, List.mem_range.mpr (by omega), fun j hj => absurd hj (Nat.not_lt_zero _)⟩
  rw [this]
  rfl
end
/-! ### the follower of a thing -/
def fol (xs ys : List Int) (t : Int) : Int := g0 xs (pos ys t)
theorem fol_bij {n : Nat} {xs ys : List Int} (ox : IsOrd n xs) (oy : IsOrd n ys) : Bij n (fol xs ys) := by
  refine ⟨fun t ht => g0_in ox (pos_in oy ht), fun t ht u hu e => ?_⟩
  have h1 := pos_g0 ox (pos_in oy ht)
  have h2 := pos_g0 ox (pos_in oy hu)
  unfold fol at e
  rw [e] at h1
  exact pos_inj oy ht hu (h1.symm.trans h2)
theorem fol_self {n : Nat} {xs : List Int} (ox : IsOrd n xs) : ∀ t ∈ rg n, fol xs xs t = t := fun t ht => g0_pos ox ht
end Fo
namespace Fo
open PySem PySem.Spec PyProof.Rows L2
def spExch : Sp := fun vs H Q _ => ∃ (a : Addr) (p : Int) (xs : List Int), vs = [.ref a, .int p] ∧ H a = some (.lst (xs.map V.int)) ∧ 0 ≤ p ∧ p + 1 < xs.length ∧
  ∀ H', H' a = some (.lst ((sw xs p.toNat).map V.int)) → (∀ b o, b ≠ a → H b = some o → H' b = some o) → Q .non H'
section
variable {P : Program} {w : World} {K : PySem.W.Frag} {mg : Str → Option Value} {base : Heap}
theorem scExch : FnScope ["row", "place"] ["row", "place"] (defScope s_exchange) := ⟨rfl, rfl, rfl, by decide +kernel, rfl, by decide +kernel, by decide +kernel⟩
theorem ok_exch {f : Addr} {fd : FuncData} {k : Nat} (T : Df K mg "exchange" s_exchange ["row", "place"] f fd) : FnOk P w K mg base CX0 (k + 1) f fd ["row", "place"] spExch := by
  refine T.F.ok scExch (fun vs H Q E h => ?_) (fun cdv A outer s H vs Q E hr h => ?_)
  · obtain ⟨a, p, xs, rfl, _⟩ := h
    rfl
  · obtain ⟨l2, p, xs, rfl, hl5, p0, p1, q⟩ := h
    refine ⟨_, pss_one (ps_asg (pe_tup (pa_cons (pe_ix ix_list (pv 0) (pe_op op_add (pv 1) pe_int) (fun _ _ => rfl)) (pa_cons (pe_ix ix_list (pv 0) (pv 1) (fun _ _ => rfl)) pa_nil))) (pg_tup (by rfl) (pgs_cons (pg_sub (pv 0) (pv 1) set_list) (pgs_cons (pg_sub (pv 0) (pe_op op_add (pv 1) pe_int) set_list) pgs_nil)))), ?_⟩
    obtain ⟨a, ea⟩ : ∃ a, xs[p.toNat]? = some a := ⟨xs[p.toNat]'(by omega), List.getElem?_eq_getElem (by omega)⟩
    obtain ⟨b, eb⟩ : ∃ b, xs[p.toNat + 1]? = some b := ⟨xs[p.toNat + 1]'(by omega), List.getElem?_eq_getElem (by omega)⟩
    refine ⟨_, rfl, _, rfl, p, 1, rfl, rfl, l2, _, _, _, rfl, rfl, SqL.of hl5, at_of (j := p.toNat + 1) (by omega) (int_at eb), _, rfl, _, rfl, l2, _, _, _, rfl, rfl, SqL.of hl5, at_of (j := p.toNat) (by omega) (int_at ea), line_small (by show 2 ≤ 16777216; decide), fun t nt => ?_⟩
    have hl6 : (upd H t (.tup [.int b, .int a])) l2 = some (.lst (xs.map V.int)) := same_new nt _ _ hl5
    refine ⟨t, _, rfl, .inl (.inl upd_same), rfl, _, _, rfl, _, rfl, _, rfl, l2, _, _, p.toNat, rfl, rfl, hl6, ix_n (by omega) (by rw [List.length_map]; omega), ?_⟩
    refine ⟨_, _, rfl, _, rfl, _, rfl, p, 1, rfl, rfl, l2, _, _, p.toNat + 1, rfl, rfl, upd_same, ix_n (by omega) (by rw [List.length_set, List.length_map]; omega), ?_⟩
    refine ⟨rfl, q _ (by rw [upd_same, sw_V ea eb]) fun c o nc e => ?_⟩
    rw [upd_ne nc, upd_ne nc]
    exact same_new nt _ _ e
end
end Fo
namespace Fo
open PySem PySem.Spec PyProof.Rows L2
def turnedV : Option Nat → V
  | none => .non
  | some p => .int p
def spTurned : Sp := fun vs H Q _ => ∃ (a : Addr) (s : List Int), vs = [.ref a] ∧ H a = some (.lst (s.map V.int)) ∧ s.length ≤ 1000 ∧ 1 ≤ s.length ∧ Q (turnedV (firstDesc s)) H
def spShort : Sp := fun vs H Q _ => ∃ (a b : Addr) (n : Nat) (xs ys : List Int), two vs H a b n xs ys ∧ ∀ (l : Addr) (H' : Hp), H l = none → H' l = some (.lst ((walkL (seatsL xs ys)).map V.int)) → Same H H' → Q (.ref l) H'
section
variable {P : Program} {w : World} {K : PySem.W.Frag} {mg : Str → Option Value} {base : Heap}
theorem scTurned : FnScope ["seats", "place"] ["seats"] (defScope s_first_turned) := ⟨rfl, rfl, rfl, by decide +kernel, rfl, by decide +kernel, by decide +kernel⟩
set_option maxHeartbeats 2000000 in
theorem ok_turned {f : Addr} {fd : FuncData} {k : Nat} (T : Df K mg "first_turned" s_first_turned ["seats"] f fd) (B : Bi mg) : FnOk P w K mg base CX0 (k + 1) f fd ["seats"] spTurned := by
  refine T.F.ok scTurned (fun vs H Q E h => ?_) (fun cdv A outer s H vs Q E hr h => ?_)
  · obtain ⟨a, t, rfl, _⟩ := h
    rfl
  · obtain ⟨a, t, rfl, ha, hl, hl1, q⟩ := h
    have hlm : (t.map V.int).length = t.length := List.length_map _
    refine ⟨_, 
      (pss_cons (ps_for PassesOwn.never rfl (pi_range1 (by rfl) B.range (pa_cons (pe_op op_sub (pe_callB call_len_seq (by rfl) B.len PySem.boot_len (pa_cons (pv 0) pa_nil)) pe_int) pa_nil)) (pg_name (i := 1) scTurned.nd rfl (.inl rfl))
        (pss_one (ps_if (pt_cmpR op_gt (pe_ix ix_list (pv 0) (pv 1) (fun _ _ => rfl)) (pe_ix ix_list (pv 0) (pe_op op_add (pv 1) pe_int) (fun _ _ => rfl)) (nomark _))
          (pss_one (ps_ret (pv 1)))
          pss_nil)))
      (pss_one (ps_ret pe_non))), ?_⟩
    refine ⟨_, rfl, a, _, rfl, .inl (SqL.of ha), _, 1, rfl, rfl, _, rfl, by rw [hlm]; omega, by rw [hlm]; omega, ?_⟩
    refine for_range (n := (((t.map V.int).length : Nat) - (1 : Int)).toNat) (fun i σ H3 => ∃ y1 : Option V, σ = [some (.ref a), y1] ∧ H3 = H ∧ ∀ (j : Nat) (u v : Int), j < i → t[j]? = some u → t[j + 1]? = some v → u ≤ v)
      ⟨_, rfl, rfl, fun j u v hj => absurd hj (Nat.not_lt_zero _)⟩ (fun i σ H3 hi hP => ?_) (fun σ H3 hP => ?_)
    · obtain ⟨y1, rfl, rfl, hle⟩ := hP
      rw [hlm] at hi
      obtain ⟨x, ex⟩ : ∃ x, t[i]? = some x := ⟨t[i]'(by omega), List.getElem?_eq_getElem (by omega)⟩
      obtain ⟨y, ey⟩ : ∃ y, t[i + 1]? = some y := ⟨t[i + 1]'(by omega), List.getElem?_eq_getElem (by omega)⟩
      refine ⟨_, rfl, _, rfl, a, _, _, _, rfl, rfl, SqL.of ha, at_of (j := i) (by omega) (int_at ex), _, rfl, _, rfl, _, 1, rfl, rfl, a, _, _, _, rfl, rfl, SqL.of ha, at_of (j := i + 1) (by omega) (int_at ey), x, y, rfl, rfl, _, rfl, ite2 (fun c => ?_) (fun c => ?_)⟩
      · have hlt : y < x := of_decide_eq_true c
        rw [fd_some hle ex ey hlt] at q
        refine ⟨_, rfl, ?_⟩
        rw [Int.zero_add]
        exact q
      · refine ⟨_, rfl, rfl, fun j u v hj hu hv => ?_⟩
        by_cases d : j = i
        · subst d
          have e1 : x = u := Option.some.inj (ex.symm.trans hu)
          have e2 : y = v := Option.some.inj (ey.symm.trans hv)
          have hn : ¬ y < x := fun z => c (decide_eq_true z)
          omega
        · exact hle j u v (by omega) hu hv
    · obtain ⟨y1, rfl, rfl, hle⟩ := hP
      rw [fd_none (fun j u v hu hv => hle j u v (by
        have := (List.getElem?_eq_some_iff.mp hv).1
        rw [hlm]
        omega) hu hv)] at q
      exact q
theorem scShort : FnScope ["one", "other", "seats", "walk", "place"] ["one", "other"] (defScope s_short_walk) := ⟨rfl, rfl, rfl, by decide +kernel, rfl, by decide +kernel, by decide +kernel⟩
set_option maxHeartbeats 2000000 in
theorem ok_short {f f1 f2 f3 f4 f5 : Addr} {fd d1 d2 d3 d4 d5 : FuncData} {k : Nat} (T : Df K mg "short_walk" s_short_walk ["one", "other"] f fd) (T_check_orders : Df K mg "check_orders" s_check_orders ["one", "other"] f1 d1) (T_check_fit : Df K mg "check_fit" s_check_fit ["one", "other"] f2 d2) (T_seats_in : Df K mg "seats_in" s_seats_in ["one", "other"] f3 d3) (T_first_turned : Df K mg "first_turned" s_first_turned ["seats"] f4 d4) (T_exchange : Df K mg "exchange" s_exchange ["row", "place"] f5 d5)
    (G_check_orders : FnOk P w K mg base CX0 (k + 1) f1 d1 ["one", "other"] spChecks) (G_seats_in : FnOk P w K mg base CX0 (k + 1) f3 d3 ["one", "other"] spSeats) (B : Bi mg) : FnOk P w K mg base CX0 (k + 2) f fd ["one", "other"] spShort := by
  have G_check_fit : FnOk P w K mg base CX0 (k + 1) f2 d2 ["one", "other"] spFit := ok_fit T_check_fit B
  have G_first_turned : FnOk P w K mg base CX0 (k + 1) f4 d4 ["seats"] spTurned := ok_turned T_first_turned B
  have G_exchange : FnOk P w K mg base CX0 (k + 1) f5 d5 ["row", "place"] spExch := ok_exch T_exchange
  refine T.F.ok scShort (fun vs H Q E h => ?_) (fun cdv A outer s H vs Q E hr h => ?_)
  · obtain ⟨a, b, n, xs, ys, ⟨rfl, _⟩, _⟩ := h
    rfl
  · obtain ⟨a, b, n, xs, ys, ⟨rfl, ha, hb, ox, oy, hn1, hn2⟩, q⟩ := h
    refine ⟨_, 
      (pss_cons (ps_expr (pe_call G_check_orders hr (by rfl) T_check_orders.g T_check_orders.F.kp T_check_orders.b .nil pass0 (pa_cons (pv 0) (pa_cons (pv 1) pa_nil))))
      (pss_cons (ps_expr (pe_call G_check_fit hr (by rfl) T_check_fit.g T_check_fit.F.kp T_check_fit.b .nil pass0 (pa_cons (pv 0) (pa_cons (pv 1) pa_nil))))
      (pss_cons (ps_set (i := 2) scShort.nd rfl (.inl rfl) (pe_call G_seats_in hr (by rfl) T_seats_in.g T_seats_in.F.kp T_seats_in.b .nil pass0 (pa_cons (pv 0) (pa_cons (pv 1) pa_nil))))
      (pss_cons (ps_set (i := 3) scShort.nd rfl (.inl rfl) (pe_lst pa_nil))
      (pss_cons (ps_set (i := 4) scShort.nd rfl (.inl rfl) (pe_call G_first_turned hr (by rfl) T_first_turned.g T_first_turned.F.kp T_first_turned.b .nil pass0 (pa_cons (pv 2) pa_nil)))
      (pss_cons (ps_while PassesOwn.never (pt_cmpR op_notN (pv 4) pe_non (nomark _))
        (pss_cons (ps_expr (pe_call G_exchange hr (by rfl) T_exchange.g T_exchange.F.kp T_exchange.b .nil pass0 (pa_cons (pv 2) (pa_cons (pv 4) pa_nil))))
        (pss_cons (ps_expr (pe_bm PySem.F.plainAttrs_list PySem.F.slot_list_append PySem.F.type_list_append mt_append (pv 3) (pa_cons (pv 4) pa_nil)))
        (pss_one (ps_set (i := 4) scShort.nd rfl (.inl rfl) (pe_call G_first_turned hr (by rfl) T_first_turned.g T_first_turned.F.kp T_first_turned.b .nil pass0 (pa_cons (pv 2) pa_nil)))))))
      (pss_one (ps_ret (pv 3))))))))), ?_⟩
    refine ⟨_, rfl, _, rfl, a, b, n, n, xs, ys, rfl, ha, hb, ox, hn1, hn2, oy, hn1, hn2, fun H1 s1 => ?_⟩
    refine ⟨_, rfl, _, rfl, a, b, xs, ys, rfl, s1 _ _ ha, s1 _ _ hb, by rw [ox.len, oy.len], ?_⟩
    refine ⟨_, rfl, _, rfl, a, b, n, xs, ys, ⟨rfl, s1 _ _ ha, s1 _ _ hb, ox, oy, hn1, hn2⟩, fun sd H2 nsd hsd s2 => ?_⟩
    have s12 := s1.trans s2
    have nHsd : H sd = none := s1.free nsd
    refine ⟨Nat.zero_le _, fun wl nwl => ?_⟩
    have s3 := s12.trans (same_new (o := .lst []) nwl)
    have nHwl : H wl = none := s12.free nwl
    have nsw : sd ≠ wl := ne_of_none hsd nwl
    have hsd3 := same_new (o := .lst []) nwl _ _ hsd
    have hls : (seatsL xs ys).length = n := by rw [seats_len, ox.len]
    refine ⟨_, rfl, sd, seatsL xs ys, rfl, hsd3, by omega, by omega, ?_⟩
    refine ⟨fun m σ H4 => ∃ (t : List Int) (fs : List Int), σ = [some (.ref a), some (.ref b), some (.ref sd), some (.ref wl), some (turnedV (firstDesc t))] ∧ m = invR t ∧ t.length = n ∧ fs ++ walkL t = walkL (seatsL xs ys) ∧ fs.length + invR t = invR (seatsL xs ys) ∧ H4 sd = some (.lst (t.map V.int)) ∧ H4 wl = some (.lst (fs.map V.int)) ∧ Same H H4,
      ⟨_, seatsL xs ys, [], rfl, rfl, hls, rfl, by rw [List.length_nil]; omega, hsd3, upd_same, s3⟩, fun m σ H4 hW => ?_⟩
    obtain ⟨t, fs, rfl, rfl, el, ew, ei, hs4, hw4, sm⟩ := hW
    cases ef : firstDesc t with
    | none =>
      refine ⟨_, rfl, rfl, _, rfl, ?_⟩
      refine iteF ⟨_, rfl, q wl H4 nHwl ?_ sm⟩
      rw [walk_none ef, List.append_nil] at ew
      rw [← ew]
      exact hw4
    | some p =>
      obtain ⟨x, y, hx, hy, hlt, _⟩ := fd_at ef
      have hp := (List.getElem?_eq_some_iff.mp hy).1
      have hinv := invR_sw hx hy hlt
      refine ⟨_, rfl, rfl, _, rfl, ?_⟩
      refine iteT ⟨fun σ' H' => ∃ (t' fs' : List Int), σ' = [some (.ref a), some (.ref b), some (.ref sd), some (.ref wl), some (turnedV (firstDesc t'))] ∧ invR t' < invR t ∧ t'.length = n ∧ fs' ++ walkL t' = walkL (seatsL xs ys) ∧ fs'.length + invR t' = invR (seatsL xs ys) ∧ H' sd = some (.lst (t'.map V.int)) ∧ H' wl = some (.lst (fs'.map V.int)) ∧ Same H H', fun σ' H' hN => ?_, ?_⟩
      · obtain ⟨t', fs', e, lt, r⟩ := hN
        exact ⟨invR t', lt, t', fs', e, rfl, r⟩
      · refine ⟨_, rfl, _, rfl, sd, (p : Int), t, rfl, hs4, by omega, by omega, fun H5 h5 kp => ?_⟩
        rw [Int.toNat_natCast] at h5
        have hw5 := kp wl _ nsw.symm hw4
        have hbig : fs.length < 16777216 := by
          have := invR_len (seatsL xs ys)
          rw [hls] at this
          have h2 : n * n ≤ 12 * 12 := Nat.mul_le_mul hn2 hn2
          omega
        refine ⟨_, rfl, .inl ⟨rfl, _, SqL.of hw5⟩, _, rfl, wl, _, _, rfl, rfl, hw5, line_lt (by rw [List.length_map]; exact hbig), ?_⟩
        have hs6 : (upd H5 wl (.lst (fs.map V.int ++ [.int (p : Int)]))) sd = some (.lst ((sw t p).map V.int)) := by rw [upd_ne nsw]; exact h5
        refine ⟨_, rfl, sd, sw t p, rfl, hs6, by rw [sw_len]; omega, by rw [sw_len]; omega, ?_⟩
        refine ⟨sw t p, fs ++ [(p : Int)], rfl, by omega, by rw [sw_len]; exact el, ?_, ?_, hs6, by rw [upd_same, List.map_append]; rfl, fun c o e => ?_⟩
        · rw [List.append_assoc]
          show fs ++ ((p : Int) :: walkL (sw t p)) = _
          rw [← walk_some ef]
          exact ew
        · rw [List.length_append, List.length_singleton]
          omega
        · rw [upd_ne (ne_of_none e nHwl)]
          exact kp c o (ne_of_none e nHsd) (sm _ _ e)
end
end Fo
namespace Fo
open PySem PySem.Spec PyProof.Rows L2
/-! ### walks -/
def IsWalk (n : Nat) (ws : List Int) : Prop := ∀ p ∈ ws, 0 ≤ p ∧ p + 1 < n
def spIsWalk : Sp := fun vs H Q _ => ∃ (b : Addr) (n : Nat) (ws : List Int), vs = [.ref b, .int n] ∧ H b = some (.lst (ws.map V.int)) ∧ IsWalk n ws ∧ ws.length ≤ 1000 ∧ ∀ H', Same H H' → Q (.bl true) H'
def spWalkEnd : Sp := fun vs H Q _ => ∃ (a b : Addr) (n : Nat) (ns ws : List Int), vs = [.ref a, .ref b] ∧ H a = some (.lst (ns.map V.int)) ∧ H b = some (.lst (ws.map V.int)) ∧ IsOrd n ns ∧ 1 ≤ n ∧ n ≤ 12 ∧ IsWalk n ws ∧ ws.length ≤ 1000 ∧
  ∀ (H' : Hp) (l : Addr), Same H H' → H l = none → H' l = some (.lst ((wEnd ns ws).map V.int)) → Q (.ref l) H'
section
variable {P : Program} {w : World} {K : PySem.W.Frag} {mg : Str → Option Value} {base : Heap}
theorem scIsWalk : FnScope ["thing", "n", "place"] ["thing", "n"] (defScope s_is_walk) := ⟨rfl, rfl, rfl, by decide +kernel, rfl, by decide +kernel, by decide +kernel⟩
set_option maxHeartbeats 2000000 in
theorem ok_is_walk {f fW : Addr} {fd fdW : FuncData} {k : Nat} (T : Df K mg "is_walk" s_is_walk ["thing", "n"] f fd) (TW : Df K mg "is_whole" s_is_whole ["thing"] fW fdW) (B : Bi mg) : FnOk P w K mg base CX0 (k + 2) f fd ["thing", "n"] spIsWalk := by
  have GW : FnOk P w K mg base CX0 (k + 1) fW fdW ["thing"] spWhole := ok_whole TW B
  refine T.F.ok scIsWalk (fun vs H Q E h => ?_) (fun cdv A outer s H vs Q E hr h => ?_)
  · obtain ⟨b, n, ws, rfl, _⟩ := h
    rfl
  · obtain ⟨a, n, ws, rfl, hl, hw, hlen, q⟩ := h
    refine ⟨_, pss_cons (ps_if (pt_not (pt_val (pe_callB call_isi (by rfl) B.isinstance (by decide +kernel) (pa_cons (pv 0) (pa_cons (pe_bltn (v := .ty "list") (by rfl) B.list (by decide +kernel) rfl) pa_nil))))) (pss_one (ps_ret pe_bl)) pss_nil)
      (pss_one (ps_ret (pe_callB (cr_all rfl) (by rfl) B.all (by decide +kernel) (pa_cons (pe_lc (own := [("place", 2)]) (g := gName 2) (tt := tYes) (te := tAndV (tCall spWhole [] E0 (tCons (tVar 2) tNil)) (tChain (rI0 fun i j => .bl (decide (i ≤ j))) (rI0 fun i j => .bl (decide (i < j))) (tC (.int 0)) (tVar 2) (tOp (rI0 fun i j => .int (i - j)) (tVar 1) (tC (.int 1))))) rfl scIsWalk.nd (pi_list (pv 0)) (blkOk_by (N := ["thing", "n", "place"]) (sc := defScope s_is_walk) (by decide +kernel)) (fun _ _ _ _ _ => pg_name (i := 2) scIsWalk.nd rfl (.inl rfl)) (fun _ _ _ _ _ => pts_nil)
          (fun _ _ _ _ _ => pe_and (pe_call GW hr (by rfl) TW.g TW.F.kp TW.b .nil pass0 (pa_cons (pv 2) pa_nil)) (pe_one (pe_chain op_le op_lt pe_int (pv 2) (pe_op op_sub (pv 1) pe_int))))) pa_nil)))), ?_⟩
    refine ⟨_, rfl, _, _, _, _, true, rfl, .ty _, .base (.lst hl), kit_ty (by decide +kernel), true, rfl, iteF ?_⟩
    refine ⟨_, rfl, a, rfl, ⟨_, SqL.of hl⟩, fun p np => ?_⟩
    refine lc_list (K := K) (a := a) (xs := ws.map V.int) (fun i H3 => H3 p = some (.lst ((List.replicate i true).map V.bl)) ∧ Same H H3) ⟨upd_same, same_new np⟩ (fun i H3 _ hP => SqL.of (hP.2 _ _ hl)) (fun i x H3 hx hP => ?_) (fun H3 hP => ?_)
    · obtain ⟨y, ey, rfl⟩ := int_at_inv hx
      obtain ⟨hp3, sm⟩ := hP
      have hy := hw y (List.mem_of_getElem? ey)
      refine ⟨rfl, _, rfl, y, rfl, _, rfl, iteT ?_⟩
      refine ⟨_, rfl, 0, y, rfl, rfl, _, rfl, ?_⟩
      rw [decide_eq_true hy.1]
      refine iteT ⟨_, rfl, (n : Int), 1, rfl, rfl, y, _, rfl, rfl, ?_⟩
      dsimp only
      rw [decide_eq_true (show y < (n : Int) - 1 by omega)]
      refine ⟨_, hp3, line_lt (by
        rw [List.length_map, List.length_replicate]
        have := (List.getElem?_eq_some_iff.mp ey).1
        omega), ?_, fun b o e => ?_⟩
      · rw [upd_same, List.replicate_succ', List.map_append]
        rfl
      · rw [upd_ne (ne_of_none e np)]
        exact sm _ _ e
    · obtain ⟨hp3, sm⟩ := hP
      refine ⟨p, _, rfl, SqL.of hp3, ?_⟩
      rw [all_true]
      exact q H3 sm
theorem scWalkEnd : FnScope ["order", "walk", "end", "place"] ["order", "walk"] (defScope s_walk_end) := ⟨rfl, rfl, rfl, by decide +kernel, rfl, by decide +kernel, by decide +kernel⟩
set_option maxHeartbeats 2000000 in
theorem ok_walk_end {f fC fO fW fI fE : Addr} {fd fdC fdO fdW fdI fdE : FuncData} {k : Nat} {t : Tok} (T : Df K mg "walk_end" s_walk_end ["order", "walk"] f fd) (TC : Df K mg "check_order" s_check_order ["thing"] fC fdC) (TO : Df K mg "is_order" s_is_order ["thing"] fO fdO) (TW : Df K mg "is_whole" s_is_whole ["thing"] fW fdW)
    (TI : Df K mg "is_walk" s_is_walk ["thing", "n"] fI fdI) (TE : Df K mg "exchange" s_exchange ["row", "place"] fE fdE) (B : Bi mg) (mM : mg "MOST_THINGS" = some (.int 12 t)) : FnOk P w K mg base CX0 (k + 4) f fd ["order", "walk"] spWalkEnd := by
  have GC : FnOk P w K mg base CX0 (k + 3) fC fdC ["thing"] spCheck := ok_check TC TO TW B mM
  have GI : FnOk P w K mg base CX0 (k + 3) fI fdI ["thing", "n"] spIsWalk := ok_is_walk (k := k + 1) TI TW B
  have GE : FnOk P w K mg base CX0 (k + 3) fE fdE ["row", "place"] spExch := ok_exch (k := k + 2) TE
  refine T.F.ok scWalkEnd (fun vs H Q E h => ?_) (fun cdv A outer s H vs Q E hr h => ?_)
  · obtain ⟨a, b, n, ns, ws, rfl, _⟩ := h
    rfl
  · obtain ⟨a, b, n, ns, ws, rfl, ha, hb, ho, hn1, hn2, hw, hlen, q⟩ := h
    have hlm : (ns.map V.int).length = n := by rw [List.length_map, ho.len]
    refine ⟨_, pss_cons (ps_expr (pe_call GC hr (by rfl) TC.g TC.F.kp TC.b .nil pass0 (pa_cons (pv 0) pa_nil)))
      (pss_cons (ps_if (pt_not (pt_val (pe_call GI hr (by rfl) TI.g TI.F.kp TI.b .nil pass0 (pa_cons (pv 1) (pa_cons (pe_callB call_len_seq (by rfl) B.len PySem.boot_len (pa_cons (pv 0) pa_nil)) pa_nil))))) (pss_one ps_never) pss_nil)
      (pss_cons (ps_set (i := 2) scWalkEnd.nd rfl (.inl rfl) (pe_callTy call_list_of (by rfl) B.list (by decide +kernel) (pa_cons (pv 0) pa_nil)))
      (pss_cons (ps_for PassesOwn.never rfl (pi_list (pv 1)) (pg_name (i := 3) scWalkEnd.nd rfl (.inl rfl)) (pss_one (ps_expr (pe_call GE hr (by rfl) TE.g TE.F.kp TE.b .nil pass0 (pa_cons (pv 2) (pa_cons (pv 3) pa_nil))))))
      (pss_one (ps_ret (pv 2)))))), ?_⟩
    refine ⟨_, rfl, a, n, ns, rfl, ha, ho, hn1, hn2, fun H1 s1 => ?_⟩
    refine ⟨_, rfl, _, rfl, a, _, rfl, .inl (SqL.of (s1 _ _ ha)), b, n, ws, by rw [hlm]; rfl, s1 _ _ hb, hw, hlen, fun H2 s2 => ⟨_, rfl, iteF ?_⟩⟩
    have s12 := s1.trans s2
    refine ⟨_, rfl, a, _, rfl, .inl (SqL.of (s12 _ _ ha)), fun l nl => ?_⟩
    have s3 := s12.trans (same_new (o := .lst (ns.map V.int)) nl)
    have nHl : H l = none := s12.free nl
    have nbl : b ≠ l := ne_of_none hb nHl
    refine ⟨_, rfl, b, rfl, ⟨_, SqL.of (s3 _ _ hb)⟩, ?_⟩
    refine for_list (xs := ws.map V.int) (fun i σ H3 => ∃ y3, σ = [some (.ref a), some (.ref b), some (.ref l), y3] ∧ H3 l = some (.lst ((wEnd ns (ws.take i)).map V.int)) ∧ Same H H3)
      ⟨none, rfl, upd_same, s3⟩ (fun i σ H3 _ hP => by obtain ⟨y3, _, _, sm⟩ := hP; exact SqL.of (sm _ _ hb)) (fun i x σ H3 hx hP => ?_) (fun σ H3 hP => ?_)
    · obtain ⟨y3, rfl, hl3, sm⟩ := hP
      obtain ⟨p, ep, rfl⟩ := int_at_inv hx
      have hp := hw p (List.mem_of_getElem? ep)
      have ho3 : IsOrd n (wEnd ns (ws.take i)) := wEnd_ord ho fun z hz => hw z (List.mem_of_mem_take hz)
      refine ⟨_, rfl, _, rfl, l, p, _, rfl, hl3, hp.1, by rw [ho3.len]; exact hp.2, fun H4 h4 kp => ⟨_, rfl, by rw [wEnd_more ep]; exact h4, fun c o e => ?_⟩⟩
      exact kp c o (ne_of_none e nHl) (sm _ _ e)
    · obtain ⟨y3, rfl, hl3, sm⟩ := hP
      rw [List.length_map, List.take_length] at hl3
      exact ⟨_, rfl, q H3 l sm nHl hl3⟩
end
end Fo
namespace Fo
open PySem PySem.Spec PyProof.Rows L2
def spFol : Sp := fun vs H Q _ => ∃ (a b : Addr) (n : Nat) (xs ys : List Int), two vs H a b n xs ys ∧ ∀ (l : Addr) (H' : Hp), H l = none → H' l = some (.lst (((rg n).map (fol xs ys)).map V.int)) → Same H H' → Q (.ref l) H'
def spRound : Sp := fun vs H Q _ => ∃ (t : Int) (l : Addr) (n : Nat) (f : Int → Int), vs = [.int t, .ref l] ∧ H l = some (.lst (((rg n).map f).map V.int)) ∧ Bij n f ∧ t ∈ rg n ∧ n ≤ 12 ∧ ∀ (r : Addr) (H' : Hp), H r = none → H' r = some (.lst ((cyc n f t).map V.int)) → Same H H' → Q (.ref r) H'
def spRounds : Sp := fun vs H Q _ => ∃ (a b : Addr) (n : Nat) (xs ys : List Int), two vs H a b n xs ys ∧ ∀ (l : Addr) (as : List Addr) (H' : Hp), H l = none → H' l = some (.lst (as.map V.ref)) → LL H' as (roundsL n (fol xs ys)) → (∀ a ∈ as, H a = none ∧ a ≠ l) → as.Nodup → Same H H' → Q (.ref l) H'
def stepsI (n : Nat) (f : Int → Int) : Int := ((roundsL n f).map fun r => (r.length : Int) - 1).sum
def spSteps : Sp := fun vs H Q _ => ∃ (a b : Addr) (n : Nat) (xs ys : List Int), two vs H a b n xs ys ∧ ∀ (H' : Hp), Same H H' → Q (.int (stepsI n (fol xs ys))) H'
theorem rg_at {n : Nat} {f : Int → Int} {t : Int} (h : t ∈ rg n) : ((rg n).map f)[t.toNat]? = some (f t) := by
  have hb := rg_mem.mp h
  unfold rg
  rw [List.map_map, List.getElem?_map, List.getElem?_range (by omega)]
  show some (f ((t.toNat : Nat) : Int)) = some (f t)
  rw [Int.toNat_of_nonneg hb.1]
theorem rounds_len {n : Nat} {f : Int → Int} : (roundsL n f).length ≤ n := by
  unfold roundsL
  rw [List.length_map]
  have := List.length_filter_le (told n f) (rg n)
  rw [rg_len] at this
  exact this
section
variable {P : Program} {w : World} {K : PySem.W.Frag} {mg : Str → Option Value} {base : Heap}
theorem scFol : FnScope ["one", "other", "followers", "follower", "thing"] ["one", "other"] (defScope s_followers_between) := ⟨rfl, rfl, rfl, by decide +kernel, rfl, by decide +kernel, by decide +kernel⟩
set_option maxHeartbeats 2000000 in
theorem ok_fol {f : Addr} {fd : FuncData} {k : Nat} (T : Df K mg "followers_between" s_followers_between ["one", "other"] f fd) (B : Bi mg) : FnOk P w K mg base CX0 (k + 1) f fd ["one", "other"] spFol := by
  refine T.F.ok scFol (fun vs H Q E h => ?_) (fun cdv A outer s H vs Q E hr h => ?_)
  · obtain ⟨a, b, n, xs, ys, ⟨rfl, _⟩, _⟩ := h
    rfl
  · obtain ⟨a, b, n, xs, ys, ⟨rfl, ha, hb, ox, oy, hn1, hn2⟩, q⟩ := h
    have hxl : (xs.map V.int).length = n := by rw [List.length_map, ox.len]
    have hyl : (ys.map V.int).length = n := by rw [List.length_map, oy.len]
    have hz : ∀ m : Nat, (List.replicate m [V.int 0]).flatten = (List.replicate m (0 : Int)).map V.int := by
      intro m
      induction m with
      | zero => rfl
      | succ m ih => rw [List.replicate_succ, List.replicate_succ, List.flatten_cons, ih]; rfl
    refine ⟨_, 
      (pss_cons (ps_set (i := 2) scFol.nd rfl (.inl rfl) (pe_op op_rep (pe_lst (pa_cons pe_int pa_nil)) (pe_callB call_len_seq (by rfl) B.len PySem.boot_len (pa_cons (pv 0) pa_nil))))
      (pss_cons (ps_for PassesOwn.never rfl (pi_zip (by rfl) B.zip (pa_cons (pv 0) (pa_cons (pv 1) pa_nil))) (pg_tup (by rfl) (pgs_cons (pg_name (i := 3) scFol.nd rfl (.inl rfl)) (pgs_cons (pg_name (i := 4) scFol.nd rfl (.inl rfl)) pgs_nil)))
        (pss_one (ps_asg (pv 3) (pg_sub (pv 2) (pv 4) set_list))))
      (pss_one (ps_ret (pv 2))))), ?_⟩
    refine ⟨line_small (by show 1 ≤ 16777216; decide), fun z nz => ?_⟩
    have s1 := same_new (o := .lst [.int 0]) nz
    refine ⟨_, rfl, a, _, rfl, .inl (SqL.of (s1 _ _ ha)), z, _, _, rfl, rfl, upd_same, by omega, by rw [hxl]; omega, line_small (by rw [hxl, Int.toNat_natCast]; show 1 * n ≤ _; omega), fun l nl => ?_⟩
    have s2 := s1.trans (same_new (o := .lst (List.replicate (((xs.map V.int).length : Nat) : Int).toNat [V.int 0]).flatten) nl)
    have nHl : H l = none := s1.free nl
    refine ⟨_, rfl, _, rfl, a, b, _, _, rfl, SqL.of (s2 _ _ ha), SqL.of (s2 _ _ hb), ?_⟩
    refine RZ.for_zipL (xs := xs.map V.int) (ys := ys.map V.int) (by rw [hxl, hyl]) (fun i σ H3 => ∃ (y3 y4 : Option V) (ps : List Int), σ = [some (.ref a), some (.ref b), some (.ref l), y3, y4] ∧ H3 l = some (.lst (ps.map V.int)) ∧ ps.length = n ∧ (∀ (j : Nat) (x y : Int), j < i → xs[j]? = some x → ys[j]? = some y → ps[y.toNat]? = some x) ∧ Same H H3)
      ⟨none, none, List.replicate n 0, rfl, by rw [upd_same, hz, hxl, Int.toNat_natCast], by rw [List.length_replicate], fun j x y hj => absurd hj (Nat.not_lt_zero _), s2⟩ (fun i σ H3 hP => by obtain ⟨_, _, _, _, _, _, _, sm⟩ := hP; exact ⟨SqL.of (sm _ _ ha), SqL.of (sm _ _ hb)⟩) (fun i x y t σ H3 hx hy hP nt => ?_) (fun σ H3 hP => ?_)
    · obtain ⟨y3, y4, ps, rfl, hl3, el, hat, sm⟩ := hP
      obtain ⟨u, eu, rfl⟩ := int_at_inv hx
      obtain ⟨v, ev, rfl⟩ := int_at_inv hy
      have hv := oy.mem (List.mem_of_getElem? ev)
      have s3 := same_new (o := .tup [.int u, .int v]) nt
      have hl4 := s3 _ _ hl3
      refine ⟨t, _, rfl, .inl (.inl upd_same), rfl, _, _, rfl, _, _, rfl, rfl, ?_⟩
      refine ⟨_, rfl, _, rfl, _, rfl, l, _, _, v.toNat, rfl, rfl, hl4, ix_n (by omega) (by rw [List.length_map]; omega), ?_⟩
      refine ⟨_, _, ps.set v.toNat u, rfl, by rw [upd_same, List.map_set], by rw [List.length_set]; exact el, fun j x y hj hx2 hy2 => ?_, fun c o e => ?_⟩
      · by_cases c : j = i
        · subst c
          have e1 : x = u := Option.some.inj (hx2.symm.trans eu)
          have e2 : y = v := Option.some.inj (hy2.symm.trans ev)
          subst e1 e2
          rw [List.getElem?_set_self (by omega)]
        · have hy3 := oy.mem (List.mem_of_getElem? hy2)
          have ne : v.toNat ≠ y.toNat := fun e => c (nd_ix oy.nodup hy2 (by rw [ev]; congr 1; omega))
          rw [List.getElem?_set_ne ne]
          exact hat j x y (by omega) hx2 hy2
      · rw [upd_ne (ne_of_none e nHl)]
        exact s3 _ _ (sm _ _ e)
    · obtain ⟨y3, y4, ps, rfl, hl3, el, hat, sm⟩ := hP
      rw [hxl] at hat
      have eps : ps = (rg n).map (fol xs ys) := by
        apply List.ext_getElem?
        intro t
        by_cases c : t < n
        · obtain ⟨j, hj, ej⟩ := ord_at oy c
          obtain ⟨x, hx, _⟩ := ord_ix ox hj
          have e1 := hat j x _ hj hx ej
          rw [Int.toNat_natCast] at e1
          have e2 := rg_at (n := n) (f := fol xs ys) (t := (t : Int)) (rg_mem.mpr ⟨by omega, by omega⟩)
          rw [Int.toNat_natCast] at e2
          rw [e1, e2]
          unfold fol
          rw [pos_of oy ej, g0_at hx]
        · rw [List.getElem?_eq_none (by omega), List.getElem?_eq_none (by rw [List.length_map, rg_len]; omega)]
      subst eps
      exact ⟨_, rfl, q l H3 nHl hl3 sm⟩
theorem scRound : FnScope ["thing", "followers", "things", "follower"] ["thing", "followers"] (defScope s_round_from) := ⟨rfl, rfl, rfl, by decide +kernel, rfl, by decide +kernel, by decide +kernel⟩
set_option maxHeartbeats 2000000 in
theorem ok_round {f : Addr} {fd : FuncData} {k : Nat} (T : Df K mg "round_from" s_round_from ["thing", "followers"] f fd) : FnOk P w K mg base CX0 (k + 1) f fd ["thing", "followers"] spRound := by
  refine T.F.ok scRound (fun vs H Q E h => ?_) (fun cdv A outer s H vs Q E hr h => ?_)
  · obtain ⟨t, l, n, g, rfl, _⟩ := h
    rfl
  · obtain ⟨t, l, n, g, rfl, hl, hb, ht, hn, q⟩ := h
    have htb := rg_mem.mp ht
    obtain ⟨p1, p2, p3, p4⟩ := hb.per_spec ht
    refine ⟨_, 
      (pss_cons (ps_set (i := 2) scRound.nd rfl (.inl rfl) (pe_lst (pa_cons (pv 0) pa_nil)))
      (pss_cons (ps_set (i := 3) scRound.nd rfl (.inl rfl) (pe_ix ix_list (pv 1) (pv 0) (fun _ _ => rfl)))
      (pss_cons (ps_while PassesOwn.never (pt_cmpR op_ne (pv 3) (pv 0) (nomark _))
        (pss_cons (ps_expr (pe_bm PySem.F.plainAttrs_list PySem.F.slot_list_append PySem.F.type_list_append mt_append (pv 2) (pa_cons (pv 3) pa_nil)))
        (pss_one (ps_set (i := 3) scRound.nd rfl (.inl rfl) (pe_ix ix_list (pv 1) (pv 3) (fun _ _ => rfl))))))
      (pss_one (ps_ret (pv 2)))))), ?_⟩
    refine ⟨_, rfl, line_small (by show 1 ≤ 16777216; decide), fun r nr => ?_⟩
    have s1 := same_new (o := .lst [.int t]) nr
    refine ⟨_, rfl, _, rfl, l, _, _, _, rfl, rfl, SqL.of (s1 _ _ hl), at_of (j := t.toNat) (by omega) (int_at (rg_at ht)), ?_⟩
    refine ⟨fun m σ H3 => ∃ j : Nat, 1 ≤ j ∧ j ≤ per n g t ∧ m = per n g t - j ∧ σ = [some (.int t), some (.ref l), some (.ref r), some (.int (it g j t))] ∧ H3 r = some (.lst (((cyc n g t).take j).map V.int)) ∧ Same H H3,
      ⟨_, 1, by omega, p1, rfl, rfl, ?_, s1⟩, fun m σ H3 hW => ?_⟩
    · rw [upd_same, take_more (l := cyc n g t) (i := 0) (cyc_at p1)]
      rfl
    obtain ⟨j, j1, j2, rfl, rfl, hr3, sm⟩ := hW
    refine ⟨_, rfl, _, rfl, rfl, _, rfl, ?_⟩
    by_cases c : it g j t = t
    · have ej : j = per n g t := by
        by_cases d : j < per n g t
        · exact absurd c (p4 j j1 d)
        · omega
      refine iteNS (congrArg V.int c) ⟨_, rfl, q r H3 nr ?_ sm⟩
      rw [ej, List.take_of_length_le (by rw [cyc_len]; exact Nat.le_refl _)] at hr3
      exact hr3
    · have hj : j < per n g t := by
        by_cases d : j = per n g t
        · rw [d] at c
          exact absurd p3 c
        · omega
      rw [decide_eq_false (fun e => c (V.int.inj e))]
      have hin := hb.it_in ht j
      have hib := rg_mem.mp hin
      refine iteT ⟨fun σ' H' => σ' = [some (.int t), some (.ref l), some (.ref r), some (.int (it g (j + 1) t))] ∧ H' r = some (.lst (((cyc n g t).take (j + 1)).map V.int)) ∧ Same H H', fun σ' H' hN => ?_, ?_⟩
      · obtain ⟨e1, e2, e3⟩ := hN
        exact ⟨per n g t - (j + 1), by omega, j + 1, by omega, by omega, rfl, e1, e2, e3⟩
      · refine ⟨_, rfl, .inl ⟨rfl, _, SqL.of hr3⟩, _, rfl, r, _, _, rfl, rfl, hr3, line_lt (by rw [List.length_map, List.length_take]; omega), ?_⟩
        have nlr : l ≠ r := ne_of_none hl nr
        refine ⟨_, rfl, _, rfl, l, _, _, _, rfl, rfl, SqL.of (by rw [upd_ne nlr]; exact sm _ _ hl), at_of (j := (it g j t).toNat) (by omega) (int_at (rg_at hin)), rfl, ?_, fun u o e => ?_⟩
        · rw [upd_same, take_more (cyc_at hj), List.map_append]
          rfl
        · rw [upd_ne (ne_of_none e nr)]
          exact sm _ _ e
theorem scRounds : FnScope ["one", "other", "followers", "starts", "thing", "things"] ["one", "other"] (defScope s_rounds_between) := ⟨rfl, rfl, rfl, by decide +kernel, rfl, by decide +kernel, by decide +kernel⟩
set_option maxHeartbeats 4000000 in
theorem ok_rounds {f f1 f2 f3 f4 : Addr} {fd d1 d2 d3 d4 : FuncData} {k : Nat} (T : Df K mg "rounds_between" s_rounds_between ["one", "other"] f fd) (T_check_orders : Df K mg "check_orders" s_check_orders ["one", "other"] f1 d1) (T_check_fit : Df K mg "check_fit" s_check_fit ["one", "other"] f2 d2) (T_followers_between : Df K mg "followers_between" s_followers_between ["one", "other"] f3 d3) (T_round_from : Df K mg "round_from" s_round_from ["thing", "followers"] f4 d4)
    (G_check_orders : FnOk P w K mg base CX0 (k + 1) f1 d1 ["one", "other"] spChecks) (B : Bi mg) : FnOk P w K mg base CX0 (k + 2) f fd ["one", "other"] spRounds := by
  have G_check_fit : FnOk P w K mg base CX0 (k + 1) f2 d2 ["one", "other"] spFit := ok_fit T_check_fit B
  have G_followers_between : FnOk P w K mg base CX0 (k + 1) f3 d3 ["one", "other"] spFol := ok_fol T_followers_between B
  have G_round_from : FnOk P w K mg base CX0 (k + 1) f4 d4 ["thing", "followers"] spRound := ok_round T_round_from
  refine T.F.ok scRounds (fun vs H Q E h => ?_) (fun cdv A outer s H vs Q E hr h => ?_)
  · obtain ⟨a, b, n, xs, ys, ⟨rfl, _⟩, _⟩ := h
    rfl
  · obtain ⟨a, b, n, xs, ys, ⟨rfl, ha, hb, ox, oy, hn1, hn2⟩, q⟩ := h
    have hxl : (xs.map V.int).length = n := by rw [List.length_map, ox.len]
    have bj := fol_bij ox oy
    refine ⟨_, 
      (pss_cons (ps_expr (pe_call G_check_orders hr (by rfl) T_check_orders.g T_check_orders.F.kp T_check_orders.b .nil pass0 (pa_cons (pv 0) (pa_cons (pv 1) pa_nil))))
      (pss_cons (ps_expr (pe_call G_check_fit hr (by rfl) T_check_fit.g T_check_fit.F.kp T_check_fit.b .nil pass0 (pa_cons (pv 0) (pa_cons (pv 1) pa_nil))))
      (pss_cons (ps_set (i := 2) scRounds.nd rfl (.inr rfl) (pe_call G_followers_between hr (by rfl) T_followers_between.g T_followers_between.F.kp T_followers_between.b .nil pass0 (pa_cons (pv 0) (pa_cons (pv 1) pa_nil))))
      (pss_cons (ps_setLc (i := 3) (own := [("thing", 4)]) (g := (gName 4)) (tt := tYes) (te := (tCall spRound [] E0 (tCons (tVar 4) (tCons (tVar 2) tNil)))) (by rfl) scRounds.nd rfl rfl (sw_true rfl rfl rfl (by decide +kernel)) (pi_range1 (by rfl) B.range (pa_cons (pe_callB call_len_seq (by rfl) B.len PySem.boot_len (pa_cons (pv 0) pa_nil)) pa_nil)) (blkOk_by (N := ["one", "other", "followers", "starts", "thing", "things"]) (sc := defScope s_rounds_between) (by decide +kernel)) (fun _ _ _ _ _ => (pg_name (i := 4) scRounds.nd rfl (.inl rfl))) (fun _ _ _ _ _ => pts_nil) (fun _ _ _ _ _ => (pe_call G_round_from hr (by rfl) T_round_from.g T_round_from.F.kp T_round_from.b .nil pass0 (pa_cons (pv 4) (pa_cons (pv 2) pa_nil)))))
      (pss_one (ps_ret (pe_lc (own := [("things", 5)]) (g := (gName 5)) (tt := (tAnd (tTest (tOp (rI0 fun i j => .bl (decide (j < i))) (tCB (rLenS K) (tCons (tVar 5) tNil)) (tC (.int 1)))) (tTest (tOp rEq (tOp (rIxL K) (tVar 5) (tC (.int 0))) (tCB (rMin K) (tCons (tVar 5) tNil)))))) (te := (tVar 5)) rfl scRounds.nd (pi_list (pv 3)) (blkOk_by (N := ["one", "other", "followers", "starts", "thing", "things"]) (sc := defScope s_rounds_between) (by decide +kernel)) (fun _ _ _ _ _ => (pg_name (i := 5) scRounds.nd rfl (.inl rfl))) (fun _ _ _ _ _ => (pts_one (PW.pt (pw_and (pt_cmpR op_gt (pe_callB call_len_seq (by rfl) B.len PySem.boot_len (pa_cons (pv 5) pa_nil)) pe_int (nomark _)) (pw_and1 (pt_cmpR op_eq (pe_ix ix_list (pv 5) pe_int (fun _ _ => rfl)) (pe_callB (cr_min rfl) (by rfl) B.min (by decide +kernel) (pa_cons (pv 5) pa_nil)) (nomark _))))))) (fun _ _ _ _ _ => (pv 5))))))))), ?_⟩
    refine ⟨_, rfl, _, rfl, a, b, n, n, xs, ys, rfl, ha, hb, ox, hn1, hn2, oy, hn1, hn2, fun H1 s1 => ?_⟩
    refine ⟨_, rfl, _, rfl, a, b, xs, ys, rfl, s1 _ _ ha, s1 _ _ hb, by rw [ox.len, oy.len], ?_⟩
    refine ⟨_, rfl, _, rfl, a, b, n, xs, ys, ⟨rfl, s1 _ _ ha, s1 _ _ hb, ox, oy, hn1, hn2⟩, fun fl H2 nfl hfl s2 => ?_⟩
    have s12 := s1.trans s2
    -- starts
    refine ⟨_, rfl, a, _, rfl, .inl (SqL.of (s12 _ _ ha)), _, rfl, by omega, by rw [hxl]; omega, fun D nD => ?_⟩
    rw [hxl, Int.toNat_natCast]
    have nHD : H D = none := s12.free nD
    have nflD : fl ≠ D := ne_of_none hfl nD
    refine lc_range (lo := 0) (n := n) (fun m H3 => ∃ as : List Addr, H3 D = some (.lst (as.map V.ref)) ∧ LL H3 as ((rg m).map (cyc n (fol xs ys))) ∧ (∀ c ∈ as, H c = none ∧ c ≠ D) ∧ as.Nodup ∧ H3 fl = some (.lst (((rg n).map (fol xs ys)).map V.int)) ∧ Same H H3)
      ⟨[], upd_same, trivial, fun c hc => absurd hc List.not_mem_nil, List.nodup_nil, by rw [upd_ne nflD]; exact hfl, s12.trans (same_new nD)⟩ (fun m H3 hm hP => ?_) (fun H3 hP => ?_)
    · obtain ⟨as, hD3, hLL, hfr, hnd, hf3, sm⟩ := hP
      have hmr : (0 + (m : Int)) ∈ rg n := rg_mem.mpr ⟨by omega, by omega⟩
      refine ⟨rfl, _, rfl, _, rfl, 0 + (m : Int), fl, n, fol xs ys, rfl, hf3, bj, hmr, hn2, fun r H4 nr hr4 s4 => ?_⟩
      have hlen := hLL.len
      rw [List.length_map, rg_len] at hlen
      have nrD : r ≠ D := (ne_of_none hD3 nr).symm
      refine ⟨_, s4 _ _ hD3, line_lt (by rw [List.length_map]; omega), as ++ [r], by rw [upd_same, List.map_append]; rfl, ?_, fun c hc => ?_, ?_, by rw [upd_ne nflD]; exact s4 _ _ hf3, fun u o e => ?_⟩
      · rw [rg_succ, List.map_append]
        have h1 : LL (upd H4 D (.lst (as.map V.ref ++ [.ref r]))) as ((rg m).map (cyc n (fol xs ys))) := hLL.keep fun c hc o e => by rw [upd_ne (hfr c hc).2]; exact s4 _ _ e
        refine h1.snoc ?_
        rw [upd_ne nrD, ← Int.zero_add (m : Int)]
        exact hr4
      · rcases List.mem_append.mp hc with hc | hc
        · exact hfr c hc
        · rw [List.mem_singleton.mp hc]
          exact ⟨sm.free nr, nrD⟩
      · rw [List.nodup_append]
        refine ⟨hnd, List.nodup_cons.mpr ⟨List.not_mem_nil, List.nodup_nil⟩, fun x hx y hy e => ?_⟩
        rw [List.mem_singleton.mp hy] at e
        obtain ⟨o, eo⟩ := hLL.tracked hx
        rw [e, nr] at eo
        cases eo
      · rw [upd_ne (ne_of_none e nHD)]
        exact s4 _ _ (sm _ _ e)
    · obtain ⟨as, hD3, hLL, hfr, hnd, hf3, sm⟩ := hP
      have hlen := hLL.len
      rw [List.length_map, rg_len] at hlen
      refine ⟨_, rfl, D, rfl, ⟨_, SqL.of hD3⟩, fun G nG => ?_⟩
      have nHG : H G = none := sm.free nG
      refine lc_list (K := K) (a := D) (xs := as.map V.ref) (fun m H4 => ∃ bs : List Addr, H4 G = some (.lst (bs.map V.ref)) ∧ LL H4 bs (((rg m).filter (told n (fol xs ys))).map (cyc n (fol xs ys))) ∧ bs.Sublist (as.take m) ∧ Same H3 H4)
        ⟨[], upd_same, trivial, List.nil_sublist _, same_new nG⟩ (fun m H4 _ hP => by obtain ⟨_, _, _, _, s4⟩ := hP; exact SqL.of (s4 _ _ hD3)) (fun m x H4 hx hP => ?_) (fun H4 hP => ?_)
      · obtain ⟨bs, hG4, hLb, hsub, s4⟩ := hP
        obtain ⟨r, er, rfl⟩ := ref_at_inv hx
        have hm : m < n := by
          have := (List.getElem?_eq_some_iff.mp er).1
          omega
        obtain ⟨row, erow, hrow⟩ := hLL.get er
        have erow2 : row = cyc n (fol xs ys) (m : Int) := by
          unfold rg at erow
          rw [List.map_map, List.getElem?_map, List.getElem?_range hm] at erow
          exact (Option.some.inj erow).symm
        subst erow2
        have hrow4 := s4 _ _ hrow
        have hmr : (m : Int) ∈ rg n := rg_mem.mpr ⟨by omega, by omega⟩
        have hper := bj.per_spec hmr
        have ner : r ≠ G := ne_of_none hrow nG
        have hclen : ((cyc n (fol xs ys) (m : Int)).map V.int).length = per n (fol xs ys) (m : Int) := by rw [List.length_map, cyc_len]
        have etk : as.take (m + 1) = as.take m ++ [r] := by rw [List.take_add_one, er]; rfl
        have efm : (rg (m + 1)).filter (told n (fol xs ys)) = (rg m).filter (told n (fol xs ys)) ++ (if told n (fol xs ys) (m : Int) then [(m : Int)] else []) := by
          rw [rg_succ, List.filter_append, List.filter_cons]
          rfl
        have no : told n (fol xs ys) (m : Int) = false → ∃ bs : List Addr, H4 G = some (.lst (bs.map V.ref)) ∧ LL H4 bs (((rg (m + 1)).filter (told n (fol xs ys))).map (cyc n (fol xs ys))) ∧ bs.Sublist (as.take (m + 1)) ∧ Same H3 H4 := fun et => by
          refine ⟨bs, hG4, ?_, ?_, s4⟩
          · rw [efm, et]
            simpa using hLb
          · rw [etk]
            exact hsub.trans (List.sublist_append_left _ _)
        refine ⟨rfl, _, rfl, r, _, rfl, .inl (SqL.of hrow4), _, 1, rfl, rfl, _, rfl, ite2 (fun c => ?_) (fun c => ?_)⟩
        · have hp : 1 < per n (fol xs ys) (m : Int) := by
            have : (1 : Int) < ((((cyc n (fol xs ys) (m : Int)).map V.int).length : Nat) : Int) := of_decide_eq_true c
            rw [hclen] at this
            omega
          refine ⟨_, rfl, r, _, 0, _, rfl, rfl, SqL.of hrow4, atI_nat (j := 0) (int_at (cyc_at (j := 0) (by omega))), _, rfl, r, cyc n (fol xs ys) (m : Int), rfl, SqL.of hrow4, by rw [cyc_len]; omega, fun z hz hzle => ?_⟩
          have ez : mn n (fol xs ys) (m : Int) = z := mnL_of hz hzle
          have eit : it (fol xs ys) 0 (m : Int) = (m : Int) := rfl
          rw [eit]
          refine ⟨rfl, _, rfl, ?_⟩
          by_cases d : (m : Int) = z
          · have et : told n (fol xs ys) (m : Int) = true := by
              unfold told
              rw [decide_eq_true hp, decide_eq_true (show (m : Int) = mn n (fol xs ys) (m : Int) by rw [ez]; exact d)]
              rfl
            rw [decide_eq_true (congrArg V.int d)]
            refine iteT ⟨_, rfl, _, hG4, line_lt ?_, bs ++ [r], by rw [upd_same, List.map_append]; rfl, ?_, ?_, fun u o e => ?_⟩
            · rw [List.length_map]
              have := hsub.length_le
              rw [List.length_take] at this
              omega
            · rw [efm, et, if_pos rfl, List.map_append]
              have h1 : LL (upd H4 G (.lst (bs.map V.ref ++ [.ref r]))) bs (((rg m).filter (told n (fol xs ys))).map (cyc n (fol xs ys))) := hLb.keep fun c hc o e => by
                have hca : c ∈ as := List.mem_of_mem_take (hsub.subset hc)
                obtain ⟨o2, e2⟩ := hLL.tracked hca
                rw [upd_ne (ne_of_none e2 nG)]
                exact e
              refine h1.snoc ?_
              rw [upd_ne ner]
              exact hrow4
            · rw [etk]
              exact hsub.append (List.Sublist.refl _)
            · rw [upd_ne (ne_of_none e nG)]
              exact s4 _ _ e
          · have et : told n (fol xs ys) (m : Int) = false := by
              unfold told
              rw [decide_eq_false (show ¬ ((m : Int) = mn n (fol xs ys) (m : Int)) by rw [ez]; exact d), Bool.and_false]
            rw [decide_eq_false (fun e => d (V.int.inj e))]
            exact iteF (no et)
        · have et : told n (fol xs ys) (m : Int) = false := by
            unfold told
            rw [decide_eq_false (fun hp => c (decide_eq_true (by rw [hclen]; omega))), Bool.false_and]
          exact iteF (no et)
      · obtain ⟨bs, hG4, hLb, hsub, s4⟩ := hP
        rw [List.length_map, hlen] at hLb hsub
        refine q G bs H4 nHG hG4 hLb (fun c hc => ?_) ?_ (sm.trans s4)
        · have hca : c ∈ as := List.mem_of_mem_take (hsub.subset hc)
          obtain ⟨o2, e2⟩ := hLL.tracked hca
          exact ⟨(hfr c hca).1, ne_of_none e2 nG⟩
        · exact (hnd.sublist (List.take_sublist n as)).sublist hsub
theorem scSteps : FnScope ["one", "other", "things"] ["one", "other"] (defScope s_steps_between) := ⟨rfl, rfl, rfl, by decide +kernel, rfl, by decide +kernel, by decide +kernel⟩
set_option maxHeartbeats 2000000 in
theorem ok_steps {f f1 : Addr} {fd d1 : FuncData} {k : Nat} (T : Df K mg "steps_between" s_steps_between ["one", "other"] f fd) (T_rounds_between : Df K mg "rounds_between" s_rounds_between ["one", "other"] f1 d1) (G_rounds_between : FnOk P w K mg base CX0 k f1 d1 ["one", "other"] spRounds) (B : Bi mg) : FnOk P w K mg base CX0 (k + 1) f fd ["one", "other"] spSteps := by
  refine T.F.ok scSteps (fun vs H Q E h => ?_) (fun cdv A outer s H vs Q E hr h => ?_)
  · obtain ⟨a, b, n, xs, ys, ⟨rfl, _⟩, _⟩ := h
    rfl
  · obtain ⟨a, b, n, xs, ys, ⟨rfl, ha, hb, ox, oy, hn1, hn2⟩, q⟩ := h
    refine ⟨_, 
      (pss_one (ps_ret (pe_callB (cr_sum rfl) (by rfl) B.sum (by decide +kernel) (pa_cons (pe_lc (own := [("things", 2)]) (g := (gName 2)) (tt := tYes) (te := (tOp (rI0 fun i j => .int (i - j)) (tCB (rLenS K) (tCons (tVar 2) tNil)) (tC (.int 1)))) rfl scSteps.nd (pi_list (pe_call G_rounds_between hr (by rfl) T_rounds_between.g T_rounds_between.F.kp T_rounds_between.b .nil pass0 (pa_cons (pv 0) (pa_cons (pv 1) pa_nil)))) (blkOk_by (N := ["one", "other", "things"]) (sc := defScope s_steps_between) (by decide +kernel)) (fun _ _ _ _ _ => (pg_name (i := 2) scSteps.nd rfl (.inl rfl))) (fun _ _ _ _ _ => pts_nil) (fun _ _ _ _ _ => (pe_op op_sub (pe_callB call_len_seq (by rfl) B.len PySem.boot_len (pa_cons (pv 2) pa_nil)) pe_int))) pa_nil)))), ?_⟩
    refine ⟨_, rfl, _, rfl, a, b, n, xs, ys, ⟨rfl, ha, hb, ox, oy, hn1, hn2⟩, fun l as H1 nl hl hLL hfr hnd s1 => ?_⟩
    refine ⟨l, rfl, ⟨_, SqL.of hl⟩, fun D nD => ?_⟩
    have hlen := hLL.len
    have hrl := rounds_len (n := n) (f := fol xs ys)
    refine lc_list (K := K) (a := l) (xs := as.map V.ref) (fun m H3 => H3 D = some (.lst ((((roundsL n (fol xs ys)).map fun r => (r.length : Int) - 1).take m).map V.int)) ∧ Same H1 H3) ⟨upd_same, same_new nD⟩ (fun m H3 _ hP => SqL.of (hP.2 _ _ hl)) (fun m x H3 hx hP => ?_) (fun H3 hP => ?_)
    · obtain ⟨r, er, rfl⟩ := ref_at_inv hx
      obtain ⟨hD3, sm⟩ := hP
      obtain ⟨row, erow, hrow⟩ := hLL.get er
      have em : ((roundsL n (fol xs ys)).map fun r => (r.length : Int) - 1)[m]? = some ((row.length : Int) - 1) := by rw [List.getElem?_map, erow]; rfl
      refine ⟨rfl, _, rfl, r, _, rfl, .inl (SqL.of (sm _ _ hrow)), _, 1, rfl, rfl, _, hD3, line_lt (by rw [List.length_map, List.length_take, List.length_map]; omega), ?_, fun u o e => ?_⟩
      · rw [upd_same, take_more em, List.map_append, List.length_map]
        rfl
      · rw [upd_ne (ne_of_none e nD)]
        exact sm _ _ e
    · obtain ⟨hD3, sm⟩ := hP
      rw [List.take_of_length_le (by rw [List.length_map, List.length_map, hlen]; exact Nat.le_refl _)] at hD3
      exact ⟨D, _, rfl, SqL.of hD3, q H3 (s1.trans sm)⟩
end
end Fo
namespace Fo
open PySem PySem.Spec PyProof.Rows L2
/-! {k: v}, k a tuple; sorted(rows of tuples), sorted(d) of a dict keyed by tuples of ints -/
def tDispT (tk tv : TE) : TE := fun σ H Q => ∀ p, H p = none → tk σ (upd H p (.dT [])) fun y H1 => tv σ H1 fun z H2 => H2 p = some (.dT []) ∧ ∃ (k : List Key) (b : Addr), y = .ref b ∧ H2 b = some (.tup (k.map kV)) ∧ Q (.ref p) (upd H2 p (.dT [(k, z)]))
theorem pe_dispT {X : Cx} {k v : Expr} {tk tv : TE} {pos : Pos} (hu : X.A.units < cLine) (hk : PE X k tk) (hv : PE X v tv) : PE X (.Dict [some k] [v] pos) (tDispT tk tv) := by
  refine ⟨fun pins s σ H Q I q => ?_⟩
  have hn := I.hok.fresh (Nat.le_refl s.heap.objs.size)
  have I1 := I.laid (a := s.heap.objs.size) (o := .dT []) (h' := s.heap.push { cls := .type "dict", data := .dict #[] }) (t' := s.toks) (fun _ _ q => Heap.get?_push_of_some _ q) (Nat.le_refl _) (dt_empty s.heap I.big)
  have q0 := q _ hn
  have hp := zip_pairTrees [some k] [v] X.env pos rfl rfl
  rw [arm_eval_Dict, hp, dictDisplay_pairs (pairTrees [some k] [v] X.env pos) (fun e => nomatch e) (by show 1 < 17; decide)]
  refine wpAny_bind (wpAny_standAt (wpAny_bind (wpAny_subDictH (knd := tupleKind (mixKind X.prog X.w)) hu (by show 1 ≤ 15; decide) ?_)))
  refine pairTrees_cons_walk (thn (hk.run pins _ σ _ _ I1 q0) fun u s1 ⟨y, H1, J1, ry, q1⟩ => thn (hv.run pins s1 σ H1 _ J1 q1) fun r s2 ⟨z, H2, J2, rz, e, kk, b, ey, hb, q2⟩ => pairTrees_nil_walk ?_)
  subst ey
  cases ry
  obtain ⟨_, hd, xs, rel, dd⟩ := dt_of J2.hok e
  cases rel
  refine ⟨[(kk, b, r)], ⟨rfl, rfl, key_of J2.hok hb, trivial⟩, dd, fun h' t' dd' hs => wpAny_pure ⟨.ref s.heap.objs.size, upd H2 s.heap.objs.size (.dT [(kk, z)]), ?_, rfl, q2⟩⟩
  obtain ⟨o, es, ep, hq, h2, h3, h4, _, h5⟩ := dd'
  refine d_write J2 (by rw [e]; exact True.intro) hs ⟨o, hq⟩ ⟨by show 1 ≤ sizeLine; decide, hd, _, Paired.cons ⟨rfl, ?_, rz⟩ .nil, o, es, ep, hq, h2, h3, h4, h5⟩
  rw [upd_ne (ne_of hb e (fun z => nomatch z))]
  exact hb
theorem dataLe_tups {β : Type} (x : β → List Int) : PySem.W.dataLe false (fun b => PyData.tuple ((x b).map .int)) = fun p q => decide (x p ≤ x q) := by
  funext p q
  show (!PySem.W.dataLt (.tuple ((x q).map .int)) (.tuple ((x p).map .int))) = _
  rw [PySem.W.dataLt_tuple]
  show (!PySem.W.rowLt ((x q).map .int) ((x p).map .int)) = _
  rw [PySem.W.dataLt_ints]
  by_cases h : x q < x p
  · have h' : ¬ x p ≤ x q := fun r => List.not_lt.mpr r h
    simp [h, h']
  · have h' : x p ≤ x q := List.not_lt.mp h
    simp [h, h']
abbrev dTu (ns : List Int) : PyData := .tuple (ns.map PyData.int)
/-- the tuples of ints at ps -/
abbrev TuR (H : Hp) (ps : List (Addr × List Int)) : Prop := ∀ p ∈ ps, H p.1 = some (.tup (p.2.map V.int))
def rSortedT (K : PySem.W.Frag) : List V → Hp → VK → Prop := fun vs H Q => ∃ (a : Addr) (ps : List (Addr × List Int)), vs = [V.ref a] ∧ SqL K H a (ps.map fun p => V.ref p.1) ∧ TuR H ps ∧ (∀ p ∈ ps, p.2 ≠ []) ∧ ∀ q, H q = none → Q (.ref q) (upd H q (.lst ((rowsR ps).map fun p => V.ref p.1)))
theorem dp_tupI {K : PySem.W.Frag} {H : Hp} {a : Addr} {ns : List Int} (h : H a = some (.tup (ns.map V.int))) : Dp K H (.ref a) (dTu ns) := .tup (SqT.of h) (dp_ints ns)
theorem depth_tup (ns : List Int) : (dTu ns).depth ≤ 2 := by
  show (PyData.tuple (ns.map PyData.int)).depth ≤ 2
  have h : PyData.depthAll (ns.map PyData.int) = 0 := depth_ints ns
  rw [PyData.depth, h]
  decide
theorem alike_tups (a b : List Int) : PySem.W.alike (dTu a) (dTu b) = true := by
  show PySem.W.alike (.tuple (a.map .int)) (.tuple (b.map .int)) = true
  simp only [PySem.W.alike]
  exact PySem.W.alike_ints _ _
theorem sortable_tups {ps : List (Addr × List Int)} (hne : ∀ p ∈ ps, p.2 ≠ []) : PySem.W.Sortable (ps.map fun p : Addr × List Int => dTu p.2) := .inl fun d hd => by
  obtain ⟨p, mp, rfl⟩ := List.mem_map.mp hd
  have := hne p mp
  cases e : p.2 with
  | nil => exact absurd e this
  | cons x r => exact ⟨.int x, r.map .int, rfl⟩
theorem cr_sortedT {X : Cx} (hu : X.A.units + 64 < cLine) : CallR X (.builtin "sorted") (rSortedT X.K) := by
  intro pins s σ H vs us Q J rel hz
  obtain ⟨a, ps, ev, sq, hd, hne, q⟩ := hz
  subst ev
  obtain ⟨its, rv, hl, hlen⟩ := J.list sq
  rw [Vals.ref1 rel]
  have e := each_refs rv
  have el := rv.length
  rw [List.length_map] at el hlen
  refine PySem.W.sorted_data (enc := fun p : Addr × List Int => dTu p.2) hl.isList e (each_all e fun v p hp hv => ?_) (PySem.W.AllAlike.of fun b b' => alike_tups _ _) (sortable_tups hne) hlen (fun b _ => ?_) fun out ol eo => ?_
  · subst hv
    exact Dp.reads J _ _ _ (dp_tupI (hd p hp)) rfl
  · have := depth_tup b.2
    omega
  · rw [dataLe_tups (fun p : Addr × List Int => p.2)] at eo
    obtain ⟨ep, he⟩ := PyProof.Rows.sortedAll_at s.heap its out.toArray
    have hl2 : ((rowsR ps).map fun p => V.ref p.1).length ≤ sizeLine := by
      unfold rowsR
      rw [List.length_map, List.length_mergeSort]
      exact hlen
    exact ⟨.ref _, upd H (s.heap.objs.size + 1) (.lst ((rowsR ps).map fun p => V.ref p.1)), J.laid (t' := s.toks) (fun _ _ => PyProof.Rows.sortedAll_old) (Nat.le_succ _) ⟨hl2, out, ep, refs_each eo, he⟩, rfl, q _ (J.hok.fresh (Nat.le_succ _))⟩
/-- the dict's keys are tuples of ints, at ps -/
def rSortedDT : List V → Hp → VK → Prop := fun vs H Q => ∃ (a : Addr) (kvs : List (List Key × V)) (rows : List (List Int)), vs = [V.ref a] ∧ H a = some (.dT kvs) ∧ kvs.map (·.1) = rows.map (fun r => r.map Sum.inl) ∧ (∀ r ∈ rows, r ≠ []) ∧
  ∀ (ps : List (Addr × List Int)) q, ps.map (·.2) = rows → TuR H ps → H q = none → Q (.ref q) (upd H q (.lst ((rowsR ps).map fun p => V.ref p.1)))
theorem keys_at {H : Hp} : ∀ {kvs : List (List Key × V)} {xs : List (List Key × Addr × Value)} {rows : List (List Int)}, KT H kvs xs → kvs.map (·.1) = rows.map (fun r => r.map Sum.inl) →
    ∃ ps : List (Addr × List Int), ps.map (·.2) = rows ∧ TuR H ps ∧ xs.map (·.2.1) = ps.map (·.1)
  | _, _, [], .nil, _ => ⟨[], rfl, (fun p m => by cases m), rfl⟩
  | _, _, _ :: _, .nil, e => by cases e
  | _, _, [], .cons _ _, e => by cases e
  | _, _, r :: rows, .cons (a := kv) (b := x) ⟨h1, h2, h3⟩ t, e => by
    rw [List.map_cons, List.map_cons] at e
    injection e with e1 e2
    obtain ⟨ps, g1, g2, g3⟩ := keys_at t e2
    refine ⟨(x.2.1, r) :: ps, by rw [List.map_cons, g1], fun p m => ?_, by rw [List.map_cons, List.map_cons, g3]⟩
    rcases List.mem_cons.mp m with rfl | m
    · show H x.2.1 = some (.tup (r.map V.int))
      rw [h2, e1, List.map_map]
      rfl
    · exact g2 p m
theorem each_addrs {ps : List (Addr × List Int)} : ∀ {us : List Value}, us = ps.map (fun p => Value.ref p.1) → PySem.W.EachIs (fun v (p : Addr × List Int) => v = Value.ref p.1) us ps := by
  induction ps with
  | nil => intro us e; subst e; exact .nil
  | cons p ps ih => intro us e; subst e; exact .cons rfl (ih rfl)
theorem reads_intsT {h : Heap} : ∀ {ns : List Int} {vs : List Value} {as : List Addr}, ReadsAll h vs (ns.map PyData.int) as → as = []
  | [], _, _, r => by cases r; rfl
  | n :: ns, _, _, r => by
    cases r with
    | cons h1 h2 =>
      cases h1
      rw [reads_intsT h2]
      rfl
theorem reads_tupT {h : Heap} {v : Value} {ns : List Int} {as : List Addr} (r : Reads h v (dTu ns) as) : as = [] := by
  cases r with
  | tuple _ _ _ h => exact reads_intsT h
/-- what collect gives of such a source, and that the heap has grown -/
theorem collectG {prog : Program} {w : World} {A : Around} {E : Value → Shared → Prop} {s : Shared} {T : String} {a d : Addr} {n : Nat} {P : Nat → Value → Prop} {OK : Heap → Prop} {R : List Value → Shared → Prop}
    (G : PySem.W.KdlSrc prog w T a d n P OK) (quiet : A.handled = none) (ok : OK s.heap) (few : n ≤ sizeLine)
    (q : ∀ (h' : Heap) (t : Nat) (got : Array Value), s.heap.objs.size ≤ h'.objs.size → (∀ b o, s.heap.get? b = some o → h'.get? b = some o) → ItemsOf P got n → R got.toList { s with heap := h', toks := t }) :
    wpAny (model prog w) A (collect (.ref a)) R E s := by
  have low := G.there _ ok
  unfold collect
  refine wpAny_bind (wpAny_runValue (codeAny_builtin PyProof.Rows.entry_proto_collect' ?_))
  rw [Around.under_plainId PySem.F.plain_proto_collect _]
  show wpAny _ A.in1 (newList [] >>= fun z => again (.builtin "list.__iadd__" ⟨[z, .ref a], []⟩)) _ _ s
  refine wpAny_bind (wpAny_newObj_type (wpAny_pure ⟨plainId_quiet PySem.F.plain_list_iadd _, codeAny_builtin PyProof.Rows.entry_list_iadd' ?_⟩))
  rw [Around.under_plainId PySem.F.plain_list_iadd _]
  have top : (s.heap.push { cls := .type "list", data := .seq ([] : List Value).toArray }).get? s.heap.objs.size = some { cls := .type "list", data := .seq #[] } := Heap.get?_push_size _ rfl
  show wpAny _ A.in1 (Builtin.List.listExtendWith (.ref s.heap.objs.size) (.ref a) (.ref s.heap.objs.size)) _ _ _
  let Z : Result → Shared → Prop := fun r s' => ∃ (h' : Heap) (t : Nat) (got : Array Value) (c' : Nat), r = .ok (.ret (.ref s.heap.objs.size)) ∧ s' = { s with heap := h', toks := t } ∧ (∀ b o, s.heap.get? b = some o → h'.get? b = some o) ∧
    h'.get? s.heap.objs.size = some { cls := .type "list", dict := none, data := .seq got c', slots := #[] } ∧ ItemsOf P got n
  have Y := PySem.W.kdl_extend (A := A) (s := { s with heap := s.heap.push { cls := .type "list", data := .seq ([] : List Value).toArray } }) (R := Z) G quiet (G.keep _ _ ok fun b _ o e => Heap.get?_push_of_some _ e)
    s.heap.objs.size (Nat.ne_of_gt low.1) (Nat.ne_of_gt low.2) (.ref s.heap.objs.size) 0 top (fun h' t got c' k e3 g => ⟨h', t, got, c', rfl, rfl, fun b o e => k b o (Nat.ne_of_lt (Heap.lt_size e)) (Heap.get?_push_of_some _ e), e3, g⟩) few
  refine wpAny_mono Y (fun out s' z => ?_) fun e s' z => ?_
  · match out, z with
    | .done r, z =>
      obtain ⟨h', t, got, c', e1, rfl, k, e3, g⟩ := z
      cases e1
      show wpAny _ A (load s.heap.objs.size >>= _) _ _ _
      exact wpAny_bind (wpAny_load e3 (wpAny_pure (q h' t got (Nat.le_of_lt (Heap.lt_size e3)) k g)))
    | .again c1, z =>
      refine ⟨z.1, codeAny_mono z.2 fun r s2 y => ?_⟩
      obtain ⟨h', t, got, c', rfl, rfl, k, e3, g⟩ := y
      show wpAny _ A (load s.heap.objs.size >>= _) _ _ _
      exact wpAny_bind (wpAny_load e3 (wpAny_pure (q h' t got (Nat.le_of_lt (Heap.lt_size e3)) k g)))
  · obtain ⟨_, _, _, _, e1, _⟩ := z
    cases e1
theorem cr_sortedDT {X : Cx} (calm : X.calm = true) (hu : X.A.units + 64 < cLine) : CallR X (.builtin "sorted") rSortedDT := by
  intro pins s σ H vs us Q J rel hz
  obtain ⟨a, kvs, rows, ev, ha, hk, hne, q⟩ := hz
  subst ev
  rw [Vals.ref1 rel]
  obtain ⟨z, hd, xs, kt, o, es, ep, ho, hx, hdat, hes, _⟩ := dt_of J.hok ha
  obtain ⟨ps, g1, g2, g3⟩ := keys_at kt hk
  have lx : kvs.length = xs.length := Paired.length kt
  have le : es.size = xs.length := size_of_entries hes
  have lp : ps.length = xs.length := by
    have := congrArg List.length g3
    rw [List.length_map, List.length_map] at this
    exact this.symm
  have hh : X.A.handled = none := J.ok.hd calm
  refine Calls.call_function_entry PyProof.Rows.kind_sorted PyProof.Rows.plain_sorted PyProof.Rows.entry_sorted (PyProof.Rows.args_sorted1 _) ?_
  unfold Builtin.«sorted»
  refine wpAny_bind (m := checkCount "sorted" 1 1 _) (wpAny_pure ?_)
  refine wpAny_bind (collectG (A := X.A.in1) (KdlSrc.rawDict (es := es) (ep := ep) hd) hh ⟨o, ho, hx, hdat⟩ (by omega) fun h' tk acc fresh keep items => ?_)
  have hsz : acc.size = es.size := items.1
  have hacc : acc.toList = ps.map fun p => Value.ref p.1 := by
    refine List.ext_getElem? fun j => ?_
    by_cases hj : j < es.size
    · obtain ⟨v, hv⟩ : ∃ v, acc[j]? = some v := ⟨_, Array.getElem?_eq_getElem (by omega)⟩
      obtain ⟨hi, e⟩ := items.2 j v hv
      have q1 := entry_at hes j
      rw [Array.getElem?_eq_getElem hi] at q1
      obtain ⟨x, hx', ex⟩ := Option.map_eq_some_iff.mp q1.symm
      have q2 : (xs.map (·.2.1))[j]? = some x.2.1 := by rw [List.getElem?_map, hx']; rfl
      rw [g3, List.getElem?_map] at q2
      obtain ⟨p, hp, e2⟩ := Option.map_eq_some_iff.mp q2
      rw [Array.getElem?_toList, hv, List.getElem?_map, hp, e, ← ex]
      show some (Value.ref x.2.1) = some (Value.ref p.1)
      rw [e2]
    · rw [List.getElem?_eq_none (by rw [Array.length_toList]; omega), List.getElem?_eq_none (by rw [List.length_map]; omega)]
  have hpl : ps.length ≤ sizeLine := by omega
  refine wpAny_bind (wpAny_newList ?_ (by rw [hacc, List.length_map]; exact hpl))
  have hne' : ∀ p ∈ ps, p.2 ≠ [] := fun p m => hne p.2 (by rw [← g1]; exact List.mem_map.mpr ⟨p, m, rfl⟩)
  have hB : (h'.push { cls := .type "list", data := .seq acc.toList.toArray }).get? h'.objs.size = some (PyProof.Rows.seqObj "list" acc.toList.toArray 0) := Heap.get?_push_size _ rfl
  have old : ∀ b o, s.heap.get? b = some o → b < h'.objs.size ∧ (h'.push { cls := .type "list", data := .seq acc.toList.toArray }).get? b = some o := fun b o e => ⟨Heap.lt_size (keep _ _ e), Heap.get?_push_of_some _ (keep _ _ e)⟩
  have e1 := each_addrs hacc
  have rd : ∀ p ∈ ps, ∃ as, Reads (h'.push { cls := .type "list", data := .seq acc.toList.toArray }) (Value.ref p.1) (dTu p.2) as ∧ h'.objs.size ∉ as := fun p m => by
    have hr := Dp.reads J _ _ _ (dp_tupI (K := X.K) (g2 p m)) (show RelV (.ref p.1) (Value.ref p.1) from rfl)
    obtain ⟨as, r⟩ := hr
    refine ⟨as, PyProof.Rows.Reads.keeps (fun b o e => (old b o e).2) r, fun hm => ?_⟩
    rw [reads_tupT r] at hm
    cases hm
  refine wpAny_bind (wpAny_holding ?_)
  refine PySem.W.list_sort_data (A := X.A.in1) (enc := fun p : Addr × List Int => dTu p.2) hB e1 (each_all e1 fun v p hp hv => by subst hv; exact rd p hp) (PySem.W.AllAlike.of fun b b' => alike_tups _ _) (sortable_tups hne') hpl (fun b _ => ?_) fun out ol eo => ?_
  · have := depth_tup b.2
    show X.A.units + 1 + 1 + (dTu b.2).depth < cLine
    omega
  · rw [dataLe_tups (fun p : Addr × List Int => p.2)] at eo
    refine wpAny_pure ⟨_, rfl, ?_⟩
    obtain ⟨ep', he⟩ := PyProof.Rows.sortedHeap_at (vs := acc.toList) (out := out.toArray) hB
    have hl2 : ((rowsR ps).map fun p => V.ref p.1).length ≤ sizeLine := by
      unfold rowsR
      rw [List.length_map, List.length_mergeSort]
      exact hpl
    exact ⟨.ref _, upd H h'.objs.size (.lst ((rowsR ps).map fun p => V.ref p.1)), J.laid (t' := _) (fun b o e => (PyProof.Rows.sortedHeap_old (Nat.ne_of_lt (old b o e).1) (Heap.lt_size (old b o e).2)).trans (old b o e).2) fresh ⟨hl2, out, ep', refs_each eo, he⟩, rfl, q ps _ g1 g2 (J.hok.fresh fresh)⟩
end Fo
namespace Fo
open PySem PySem.Spec PyProof.Rows L2
/-! max(d.values()) of a dict keyed by tuples; min of a list of lists of ints -/
def tValsT (td : TE) : TE := fun σ H Q => td σ H fun x H1 => ∃ d kvs, x = .ref d ∧ H1 d = some (.dT kvs) ∧ ∀ p, H1 p = none → Q (.ref p) (upd H1 p (viewO "dict_values" p d))
theorem pe_valuesT {X : Cx} {e : Expr} {td : TE} {apos cpos : Pos} (he : PE X e td) (hbase : attributeBase e "values" X.env (eval e X.env) = eval e X.env := by rfl) (hline : (apos.endLine == cpos.line) = true := by rfl) :
    PE X (.Call (.Attribute e "values" apos) [] [] cpos) (tValsT td) := by
  refine ⟨fun pins s σ H Q I h => ?_⟩
  refine wpAny_Call_method (T := "dict") (id := "dict.values") hbase rfl hline F.plainAttrs_dict F.slot_dict_values F.type_dict_values (thn (he.run pins s σ H _ I h) fun u s1 ⟨x, H1, I1, rx, d, kvs, ex, hd, q⟩ => ?_)
  subst ex
  obtain rfl : u = Value.ref d := rx
  obtain ⟨z, hs, xs, kt, o, es, ep, ho, hx, hdat, hes, _⟩ := dt_of I1.hok hd
  have raw : s1.heap.DictRaw d es ep := ⟨o, ho, hx, hdat⟩
  refine ⟨raw.typeIs, fun a e => by cases e; exact ⟨o, ho, hx.2.1⟩, ?_⟩
  show wpAny _ _ (callWith cpos (.builtin "dict.values") [.ref d] [] []) _ X.xe s1
  exact method_meetsIn F.slot_dict_values F.entry_dict_values rfl (PySem.evalArgs_none ⟨rfl, raw.typeIs, F.args_dict_values_1 _, _, meets_dict_values_raw d hs, ⟨es, ep, raw⟩,
    .ref s1.heap.objs.size, _, I1.laid (t' := s1.toks) (fun b o q => Heap.get?_push_of_some _ q) (Nat.le_refl _) (viewO_ok (Heap.get?_push_size _ rfl)), rfl, q _ (I1.hok.fresh (Nat.le_refl _))⟩)
def rMaxVT : List V → Hp → VK → Prop := fun xs H Q => ∃ (p a : Addr) (kvs : List (List Key × V)) (ns : List Int), xs = [.ref p] ∧ H p = some (viewO "dict_values" p a) ∧ H a = some (.dT kvs) ∧ kvs.map Prod.snd = ns.map V.int ∧ 0 < ns.length ∧ ∀ m, m ∈ ns → (∀ y, y ∈ ns → y ≤ m) → Q (.int m) H
theorem cr_maxVT {X : Cx} (hc : X.calm = true) : CallR X (.builtin "max") rMaxVT := by
  intro pins s σ H xs us Q I rx h
  obtain ⟨p, a, kvs, ns, rfl, hp, hd, hns, hne, q⟩ := h
  rw [Vals.ref1 rx]
  obtain ⟨z, hsm, ys, kt, ob, es, ep, ho, hx, hdat, hes, _⟩ := dt_of I.hok hd
  have hv : s.heap.get? p = some (DSub.viewOb "dict_values" a) := (show ObjOk X.prog X.w H s.heap p (viewO "dict_values" p a) from I.hok p _ hp).1
  have hkn : kvs.length = ns.length := by
    have e := congrArg List.length hns
    rw [List.length_map, List.length_map] at e
    exact e
  have hsz : es.size = ns.length := by rw [size_of_entries hes, ← hkn, Paired.length kt]
  have hP : ∀ (i : Nat) (e : DictEntry), es[i]? = some e → ∃ t, e.val = .int (ns.getD i 0) t := fun i e he => by
    have hi : i < es.size := by
      rcases Nat.lt_or_ge i es.size with z | z
      · exact z
      · rw [Array.getElem?_eq_none z] at he
        cases he
    have hi2 : i < kvs.length := by omega
    have hi3 : i < ns.length := by omega
    obtain ⟨b, hb, _, _, e3⟩ := paired_get kt (List.getElem?_eq_getElem hi2)
    have qe := entry_at hes i
    rw [hb, he] at qe
    have q' := Option.some.inj qe
    have e2 : kvs[i].2 = V.int ns[i] := by
      have z : (kvs.map Prod.snd)[i]? = (ns.map V.int)[i]? := by rw [hns]
      rw [List.getElem?_map, List.getElem?_map, List.getElem?_eq_getElem hi2, List.getElem?_eq_getElem hi3] at z
      exact Option.some.inj z
    have e4 : ns.getD i 0 = ns[i] := by rw [List.getD_eq_getElem?_getD, List.getElem?_eq_getElem hi3] <;> rfl
    rw [e2] at e3
    rw [q', e4]
    exact e3
  refine call_max_walk ?_
  refine DSub.iter_vals hv ho hdat ?_
  have ha : a < s.heap.objs.size := Heap.lt_size ho
  refine ⟨s.heap.objs.size, [s.heap.objs.size, a], [s.heap.objs.size], es.size, fun i v => ∃ t, v = .int (ns.getD i 0) t, _, fun i j => decide (ns.getD i 0 > ns.getD j 0), rfl, DSub.walksVal (a := a) (show X.A.in1.handled = none from I.ok.hd hc) (Nat.ne_of_lt ha) hdat hP, ⟨Heap.get?_push_size _ rfl, Heap.get?_push_of_some _ ho⟩, fun b hb => ?_, by omega, CmpOf.ints_gt (fun i => ns.getD i 0) (fun i v z => z), fun v h' tk hv' hk => ?_⟩
  · show b < (s.heap.push _).objs.size
    rw [size_push']
    rcases List.mem_cons.mp hb with z | z
    · rw [z]
      exact Nat.lt_succ_self _
    · rw [List.mem_singleton.mp z]
      exact Nat.lt_succ_of_lt ha
  · obtain ⟨t, rfl⟩ := hv'
    obtain ⟨m1', m2'⟩ := argBest_gt (fun i => ns.getD i 0) (es.size - 1)
    have m1 : argBest (fun i j => decide (ns.getD i 0 > ns.getD j 0)) (es.size - 1) ≤ es.size - 1 := m1'
    have m2 : ∀ j, j ≤ es.size - 1 → ns.getD j 0 ≤ ns.getD (argBest (fun i j => decide (ns.getD i 0 > ns.getD j 0)) (es.size - 1)) 0 := m2'
    have hk2 : ∀ b o, s.heap.get? b = some o → h'.get? b = some o := fun b o e => hk b o (fun z => by rw [List.mem_singleton.mp z] at e; exact absurd (Heap.lt_size e) (Nat.lt_irrefl _)) (Heap.get?_push_of_some _ e)
    refine ⟨.int _, H, I.kept (t' := tk) hk2, ⟨t, rfl⟩, q _ (PySem.getD_mem (by omega)) fun y hy => ?_⟩
    obtain ⟨j, hj, e⟩ := List.mem_iff_getElem.mp hy
    have z := m2 j (by omega)
    have e3 : ns.getD j 0 = y := by rw [List.getD_eq_getElem?_getD, List.getElem?_eq_getElem hj, ← e] <;> rfl
    rw [← e3]
    exact z
/-! min of lists -/
def minL : List Int → List (List Int) → List Int
  | b, [] => b
  | b, y :: r => minL (if y < b then y else b) r
def rMinL (K : PySem.W.Frag) : List V → Hp → VK → Prop := fun vs H Q => ∃ (a : Addr) (as : List Addr) (x : List Int) (xs : List (List Int)), vs = [V.ref a] ∧ SqL K H a (as.map V.ref) ∧ LL H as (x :: xs) ∧ ∀ (i : Nat) (b : Addr), as[i]? = some b → (x :: xs)[i]? = some (minL x xs) → Q (.ref b) H
theorem alike_L14 (a b : List Int) : PySem.W.alike (dL a) (dL b) = true := by
  simp only [PySem.W.alike]
  exact PySem.W.alike_ints _ _
theorem lt_L14 (a b : List Int) : PySem.W.dataLt (dL a) (dL b) = decide (a < b) := by
  show PySem.W.dataLt (.list (a.map .int)) (.list (b.map .int)) = _
  rw [PySem.W.dataLt_list]
  show PySem.W.rowLt (a.map .int) (b.map .int) = _
  rw [PySem.W.dataLt_ints]
theorem minD_L : ∀ (xs : List (List Int)) (x : List Int), PySem.W.minD (dL x) (xs.map dL) = dL (minL x xs)
  | [], x => rfl
  | y :: r, x => by
    have e : PySem.W.minD (dL x) (dL y :: r.map dL) = PySem.W.minD (if PySem.W.dataLt (dL y) (dL x) = true then dL y else dL x) (r.map dL) := rfl
    show PySem.W.minD (dL x) (dL y :: r.map dL) = dL (minL (if y < x then y else x) r)
    rw [e, lt_L14]
    by_cases c : y < x
    · rw [if_pos (decide_eq_true c), if_pos c]
      exact minD_L r y
    · rw [if_neg (fun z => c (of_decide_eq_true z)), if_neg c]
      exact minD_L r x
theorem read_one14 {h : Heap} {v : Value} {d : PyData} {as : List Addr} (r : Reads h v d as) (hc : PyData.canLay0 d = true) : SeqAt.readOf h v = d := by
  have := SeqAt.readsAll_map [d] [v] _ (by simp [PyData.canLayAll0, hc]) (.cons r .nil)
  simpa using this
theorem cr_minL {X : Cx} (hu : X.A.units + 64 < cLine) (calm : X.calm = true) : CallR X (.builtin "min") (rMinL X.K) := by
  intro pins s σ H vs us Q I r h
  obtain ⟨a, as, x, xs, rfl, hs, hl, q⟩ := h
  obtain rfl := Vals.ref1 r
  obtain ⟨its, rv, pl, _⟩ := I.list hs
  have dp := dp_LL (K := X.K) hl
  obtain ⟨bs, ra⟩ := Dp.readsAll I _ _ its dp rv
  refine PySem.W.min_list_data (I.ok.hd calm) pl.isList ra ⟨fun p hp y hy => ?_, fun p hp => ?_⟩ ?_ fun i v h' tk cs hi hv kp => ?_
  · obtain ⟨p, _, rfl⟩ := List.mem_map.mp (show p ∈ (x :: xs).map dL from hp)
    obtain ⟨y, _, rfl⟩ := List.mem_map.mp (show y ∈ (x :: xs).map dL from hy)
    exact alike_L14 _ _
  · obtain ⟨p, _, rfl⟩ := List.mem_map.mp (show p ∈ (x :: xs).map dL from hp)
    exact fun z => by cases z
  · have := depth_lists (x :: xs)
    show X.A.units + 1 + PyData.depthAll ((x :: xs).map dL) < cLine
    omega
  · have I' := I.kept (t' := tk) kp
    rw [minD_L] at hv
    have hi1 : i < its.length := (List.getElem?_eq_some_iff.mp (by simpa using hi)).1
    have hal : as.length = its.length := by have := rv.length; rw [List.length_map] at this; exact this
    have eb : as[i]? = some as[i] := List.getElem?_eq_getElem (by omega)
    obtain ⟨w, ew, hb⟩ := hl.get eb
    obtain ⟨u, hu', ru⟩ := Vals.get rv (i := i) (x := V.ref as[i]) (by rw [List.getElem?_map, eb]; rfl)
    have ev : u = v := by
      have h2 : its[i]? = some v := by simpa using hi
      rw [hu'] at h2
      exact Option.some.inj h2
    subst ev
    obtain ⟨b1, rd1⟩ := Dp.reads I' _ _ _ (dp_list (K := X.K) hb) ru
    have o1 := read_one14 rd1 (lay_list _)
    have o2 := read_one14 hv (lay_list _)
    rw [o1] at o2
    have e3 : w = minL x xs := by
      have := eqv_ints w (minL x xs)
      rw [show dL w = dL (minL x xs) from o2, eqv_list] at this
      exact of_decide_eq_true this.symm
    exact ⟨.ref as[i], H, I', ru, q i _ eb (by rw [ew, e3])⟩
end Fo
namespace Fo
open PySem PySem.Spec PyProof.Rows L2
/-! all orders from one on, round by round -/
abbrev Fd := List (List Int × Int)
def nbG (one : List Int) (p q : Nat) : List Int := one.take p ++ [g0 one (q : Int)] ++ (one.drop (p + 1)).take (q - (p + 1)) ++ [g0 one (p : Int)] ++ one.drop (q + 1)
def hiN (n : Nat) (b : Bool) (p : Nat) : Nat := if b then min n (p + 2) else n
def has (f : Fd) (r : List Int) : Bool := f.any fun q => decide (q.1 = r)
def getR (f : Fd) (r : List Int) : Int := ((f.find? fun q => decide (q.1 = r)).map (·.2)).getD 0
def st1 (one : List Int) (p : Nat) (s : Fd × List (List Int)) (j : Nat) : Fd × List (List Int) :=
  if has s.1 (nbG one p (p + 1 + j)) then s else (s.1 ++ [(nbG one p (p + 1 + j), getR s.1 one + 1)], s.2 ++ [nbG one p (p + 1 + j)])
def stP (b : Bool) (one : List Int) (s : Fd × List (List Int)) (p : Nat) : Fd × List (List Int) := (List.range (hiN one.length b p - (p + 1))).foldl (st1 one p) s
def stOne (b : Bool) (s : Fd × List (List Int)) (one : List Int) : Fd × List (List Int) := (List.range one.length).foldl (stP b one) s
def stEdge (b : Bool) (f : Fd) (edge : List (List Int)) : Fd × List (List Int) := edge.foldl (stOne b) (f, [])
def bfsG (b : Bool) (xs : List Int) : Nat → Fd × List (List Int)
  | 0 => ([(xs, 0)], [xs])
  | k + 1 => stEdge b (bfsG b xs k).1 (bfsG b xs k).2
def rT (f : Fd) : List (List Key × V) := f.map fun p => (p.1.map Sum.inl, V.int p.2)
theorem inl_inj : ∀ {a b : List Int}, (a.map Sum.inl : List Key) = b.map Sum.inl → a = b
  | [], [], _ => rfl
  | [], _ :: _, h => by cases h
  | _ :: _, [], h => by cases h
  | x :: a, y :: b, h => by
    rw [List.map_cons, List.map_cons] at h
    injection h with h1 h2
    rw [Sum.inl.inj h1, inl_inj h2]
theorem rT_get {f : Fd} {r : List Int} : valV (rT f) (r.map Sum.inl) = if has f r then some (.int (getR f r)) else none := by
  induction f with
  | nil => rfl
  | cons p f ih =>
    show valV ((p.1.map Sum.inl, V.int p.2) :: rT f) _ = _
    by_cases e : p.1 = r
    · subst e
      rw [valV_pos rfl]
      have h1 : has (p :: f) p.1 = true := by unfold has; rw [List.any_cons, decide_eq_true rfl]; rfl
      have h2 : getR (p :: f) p.1 = p.2 := by unfold getR; rw [List.find?_cons, decide_eq_true rfl]; rfl
      rw [h1, h2]
      rfl
    · rw [valV_neg (fun z => e (inl_inj z)), ih]
      have h1 : has (p :: f) r = has f r := by unfold has; rw [List.any_cons, decide_eq_false e, Bool.false_or]
      have h2 : getR (p :: f) r = getR f r := by unfold getR; rw [List.find?_cons, decide_eq_false e]
      rw [h1, h2]
theorem rT_put {f : Fd} {r : List Int} {d : Int} (h : has f r = false) : putK (rT f) (r.map Sum.inl) (.int d) = rT (f ++ [(r, d)]) := by
  rw [putK_new _ (by rw [rT_get, h]; rfl)]
  unfold rT
  rw [List.map_append]
  rfl
theorem rT_len {f : Fd} : (rT f).length = f.length := List.length_map _
theorem st1_has {one : List Int} {s : Fd × List (List Int)} {p j : Nat} {r : List Int} (h : has s.1 r = true) : has (st1 one p s j).1 r = true := by
  unfold st1
  split
  · exact h
  · show has (_ ++ _) r = true
    unfold has at h ⊢
    rw [List.any_append, h]
    rfl
def lists7 (n : Nat) : Nat → List (List Int)
  | 0 => [[]]
  | m + 1 => (rg n).flatMap fun x => (lists7 n m).map (x :: ·)
def ordS (n : Nat) : List (List Int) := (lists7 n n).filter fun l => decide l.Nodup
theorem mem_lists7 {n : Nat} : ∀ {m : Nat} {xs : List Int}, xs.length = m → (∀ x ∈ xs, x ∈ rg n) → xs ∈ lists7 n m
  | 0, [], _, _ => List.mem_cons_self
  | m + 1, x :: xs, hl, h => List.mem_flatMap.mpr ⟨x, h x List.mem_cons_self, List.mem_map.mpr ⟨xs, mem_lists7 (by rw [List.length_cons] at hl; omega) (fun y m => h y (List.mem_cons_of_mem _ m)), rfl⟩⟩
theorem mem_ordS {n : Nat} {xs : List Int} (o : IsOrd n xs) : xs ∈ ordS n :=
  List.mem_filter.mpr ⟨mem_lists7 o.len (fun x m => rg_mem.mpr (o.mem m)), decide_eq_true o.nodup⟩
theorem bfs_factsT : ∀ n, n < 5 → ∀ xs ∈ ordS n, (bfsG true xs 7).2 = [] ∧ ∀ k, k < 8 → (bfsG true xs k).1.length ≤ 24 ∧ (bfsG true xs k).2.length ≤ 24 ∧ ∀ r ∈ (bfsG true xs k).2, r.length = n ∧ has (bfsG true xs k).1 r = true := by decide +kernel
theorem bfs_factsF : ∀ n, n < 5 → ∀ xs ∈ ordS n, (bfsG false xs 7).2 = [] ∧ ∀ k, k < 8 → (bfsG false xs k).1.length ≤ 24 ∧ (bfsG false xs k).2.length ≤ 24 ∧ ∀ r ∈ (bfsG false xs k).2, r.length = n ∧ has (bfsG false xs k).1 r = true := by decide +kernel
theorem bfs_facts (b : Bool) (n : Nat) (h : n < 5) (xs : List Int) (m : xs ∈ ordS n) : (bfsG b xs 7).2 = [] ∧ ∀ k, k < 8 → (bfsG b xs k).1.length ≤ 24 ∧ (bfsG b xs k).2.length ≤ 24 ∧ ∀ r ∈ (bfsG b xs k).2, r.length = n ∧ has (bfsG b xs k).1 r = true := by
  cases b with
  | true => exact bfs_factsT n h xs m
  | false => exact bfs_factsF n h xs m
theorem bfs_stop {b : Bool} {xs : List Int} {k : Nat} (h : (bfsG b xs k).2 = []) : ∀ j : Nat, bfsG b xs (k + j) = bfsG b xs k
  | 0 => rfl
  | j + 1 => by
    have e := bfs_stop h j
    show stEdge b (bfsG b xs (k + j)).1 (bfsG b xs (k + j)).2 = _
    rw [e, h]
    show ((bfsG b xs k).1, []) = bfsG b xs k
    rw [← h]
theorem fold_hasG {β : Type} {g : Fd × List (List Int) → β → Fd × List (List Int)} {r : List Int} (hg : ∀ s x, has s.1 r = true → has (g s x).1 r = true) : ∀ (ps : List β) (s : Fd × List (List Int)), has s.1 r = true → has (ps.foldl g s).1 r = true
  | [], _, h => h
  | p :: ps, s, h => by
    rw [List.foldl_cons]
    exact fold_hasG hg ps _ (hg s p h)
theorem stP_has {b : Bool} {one r : List Int} (s : Fd × List (List Int)) (p : Nat) (h : has s.1 r = true) : has (stP b one s p).1 r = true := fold_hasG (fun _ _ h => st1_has h) _ s h
theorem stOne_has {b : Bool} {one r : List Int} (s : Fd × List (List Int)) (h : has s.1 r = true) : has (stOne b s one).1 r = true := fold_hasG (fun s p h => stP_has s p h) _ s h
theorem fold_lenG {β : Type} {g : Fd × List (List Int) → β → Fd × List (List Int)} {c : Nat} : ∀ (ps : List β) (s : Fd × List (List Int)), (∀ s, ∀ x ∈ ps, (g s x).1.length ≤ s.1.length + c ∧ (g s x).2.length ≤ s.2.length + c) → (ps.foldl g s).1.length ≤ s.1.length + ps.length * c ∧ (ps.foldl g s).2.length ≤ s.2.length + ps.length * c
  | [], _, _ => ⟨Nat.le_add_right _ _, Nat.le_add_right _ _⟩
  | p :: ps, s, h => by
    rw [List.foldl_cons, List.length_cons, Nat.add_mul]
    have h1 := fold_lenG ps (g s p) fun s x m => h s x (List.mem_cons_of_mem _ m)
    have h2 := h s p List.mem_cons_self
    omega
theorem st1_len (one : List Int) (p : Nat) (s : Fd × List (List Int)) (j : Nat) : (st1 one p s j).1.length ≤ s.1.length + 1 ∧ (st1 one p s j).2.length ≤ s.2.length + 1 := by
  unfold st1
  split
  · omega
  · rw [List.length_append, List.length_append]
    exact ⟨Nat.le_refl _, Nat.le_refl _⟩
theorem hi_le (n : Nat) (b : Bool) (p : Nat) : hiN n b p ≤ n := by
  unfold hiN
  cases b
  · exact Nat.le_refl _
  · exact Nat.min_le_left _ _
theorem stP_len {b : Bool} {one : List Int} {n : Nat} (h : one.length = n) (s : Fd × List (List Int)) (p : Nat) : (stP b one s p).1.length ≤ s.1.length + n ∧ (stP b one s p).2.length ≤ s.2.length + n := by
  have h1 := fold_lenG (c := 1) (g := st1 one p) (List.range (hiN one.length b p - (p + 1))) s fun s j _ => st1_len one p s j
  have h2 := hi_le one.length b p
  rw [List.length_range, Nat.mul_one, h] at h1
  rw [h] at h2
  have e : stP b one s p = (List.range (hiN n b p - (p + 1))).foldl (st1 one p) s := by unfold stP; rw [h]
  rw [e]
  omega
theorem stOne_len {b : Bool} {one : List Int} {n : Nat} (h : one.length = n) (s : Fd × List (List Int)) : (stOne b s one).1.length ≤ s.1.length + n * n ∧ (stOne b s one).2.length ≤ s.2.length + n * n := by
  have h1 := fold_lenG (c := n) (g := stP b one) (List.range one.length) s fun s p _ => stP_len h s p
  rw [List.length_range, h] at h1
  have e : stOne b s one = (List.range n).foldl (stP b one) s := by unfold stOne; rw [h]
  rw [e]
  exact h1
theorem rng_foldl {α β : Type} (f : β → α → β) (b : β) (l : List α) {i : Nat} {x : α} (h : l[i]? = some x) : (l.take (i + 1)).foldl f b = f ((l.take i).foldl f b) x := by
  rw [List.take_add_one, h, List.foldl_append]
  rfl
theorem range_foldl {β : Type} (f : β → Nat → β) (b : β) (j : Nat) : (List.range (j + 1)).foldl f b = f ((List.range j).foldl f b) j := by
  rw [List.range_succ, List.foldl_append]
  rfl
theorem kV_inl (xs : List Int) : (xs.map Sum.inl : List Key).map kV = xs.map V.int := by
  rw [List.map_map]
  rfl
/-- the state of a round: the dict of those found, the list of those found in it -/
structure RInv (H : Hp) (fo la : Addr) (s : Fd × List (List Int)) (G : Hp) : Prop where
  hfo : G fo = some (.dT (rT s.1))
  hla : ∃ ps : List (Addr × List Int), G la = some (.lst (ps.map fun p => V.ref p.1)) ∧ TuR G ps ∧ ps.map (·.2) = s.2
  ne : la ≠ fo
  kp : ∀ b o, H b = some o → b ≠ fo → b ≠ la → G b = some o
end Fo
namespace Fo
open PySem PySem.Spec PyProof.Rows L2
theorem cat_any {K : PySem.W.Frag} {a b : Addr} {xs ys : List Int} {G : Hp} {Q : VK} (ha : G a = some (.tup (xs.map V.int))) (hb : G b = some (.tup (ys.map V.int))) (hl : xs.length + ys.length ≤ 1000)
    (q : ∀ (c : Addr) (G' : Hp), G' c = some (.tup ((xs ++ ys).map V.int)) → Same G G' → Q (.ref c) G') : rCatA K (.ref a) (.ref b) G Q := by
  refine ⟨a, b, _, _, rfl, rfl, SqT.of ha, SqT.of hb, line_small (by rw [List.length_map, List.length_map]; omega), fun e => ?_, fun _ e => ?_, fun _ _ p np => q p _ (by rw [List.map_append]; exact upd_same) (same_new np)⟩
  · rw [List.map_eq_nil_iff] at e
    subst e
    exact q b G hb (Same.refl G)
  · rw [List.map_eq_nil_iff] at e
    subst e
    exact q a G (by rw [List.append_nil]; exact ha) (Same.refl G)
theorem sl_take {K : PySem.W.Frag} {t : Addr} {r : List Int} {i : Nat} {G : Hp} {Q : VK} (ht : G t = some (.tup (r.map V.int))) (hi : i < r.length)
    (q : ∀ (c : Addr) (G' : Hp), G' c = some (.tup ((r.take i).map V.int)) → Same G G' → Q (.ref c) G') : rSlA K (.ref t) none (some (i : Int)) G Q := by
  refine ⟨t, _, rfl, SqT.of ht, fun h => ?_, fun _ p np => q p _ (by rw [upd_same, cutV_takeN, List.map_take]) (same_new np)⟩
  have := h.2
  rw [HT.sIx_nat, List.length_map, Nat.min_eq_left (by omega)] at this
  omega
theorem sl_drop {K : PySem.W.Frag} {t : Addr} {r : List Int} {i : Nat} {z : Int} {G : Hp} {Q : VK} (ht : G t = some (.tup (r.map V.int))) (hz : z = (i : Int)) (hi : 0 < i) (hi2 : i ≤ r.length)
    (q : ∀ (c : Addr) (G' : Hp), G' c = some (.tup ((r.drop i).map V.int)) → Same G G' → Q (.ref c) G') : rSlA K (.ref t) (some z) none G Q := by
  subst hz
  refine ⟨t, _, rfl, SqT.of ht, fun h => ?_, fun _ p np => q p _ ?_ (same_new np)⟩
  · have := h.1
    rw [HT.sIx_nat, List.length_map, Nat.min_eq_left hi2] at this
    omega
  · rw [upd_same]
    unfold cutV
    rw [HT.sIx_nat, HT.sIx_none, List.length_map, Nat.min_eq_left hi2, List.take_of_length_le (by rw [List.length_drop, List.length_map]; exact Nat.le_refl _), List.map_drop]
theorem sl_mid {K : PySem.W.Frag} {t : Addr} {r : List Int} {i j : Nat} {y z : Int} {G : Hp} {Q : VK} (ht : G t = some (.tup (r.map V.int))) (hy : y = (i : Int)) (hz : z = (j : Int)) (hi : 0 < i) (hi2 : i ≤ r.length) (hj : j ≤ r.length)
    (q : ∀ (c : Addr) (G' : Hp), G' c = some (.tup (((r.drop i).take (j - i)).map V.int)) → Same G G' → Q (.ref c) G') : rSlA K (.ref t) (some y) (some z) G Q := by
  subst hy
  subst hz
  refine ⟨t, _, rfl, SqT.of ht, fun h => ?_, fun _ p np => q p _ ?_ (same_new np)⟩
  · have := h.1
    rw [HT.sIx_nat, List.length_map, Nat.min_eq_left hi2] at this
    omega
  · rw [upd_same]
    unfold cutV
    rw [HT.sIx_nat, HT.sIx_nat, List.length_map, Nat.min_eq_left hi2, Nat.min_eq_left hj, List.map_take, List.map_drop]
theorem RInv.same {H G G' : Hp} {fo la : Addr} {s : Fd × List (List Int)} (h : RInv H fo la s G) (k : Same G G') : RInv H fo la s G' := by
  obtain ⟨ps, h1, h2, h3⟩ := h.hla
  exact ⟨k _ _ h.hfo, ⟨ps, k _ _ h1, fun p m => k _ _ (h2 p m), h3⟩, h.ne, fun b o e n1 n2 => k _ _ (h.kp b o e n1 n2)⟩
theorem g0At7 {r : List Int} {i : Nat} (h : i < r.length) : (r.map V.int)[i]? = some (.int (g0 r (i : Int))) := by
  rw [List.getElem?_map, List.getElem?_eq_getElem h]
  unfold g0
  rw [Int.toNat_natCast, List.getD_eq_getElem?_getD, List.getElem?_eq_getElem h]
  rfl
def spRnd : Sp := fun vs H Q _ => ∃ (o : Addr) (b : Bool) (xs : List Int) (n : Nat), vs = [.ref o, .bl b] ∧ H o = some (.lst (xs.map V.int)) ∧ IsOrd n xs ∧ 1 ≤ n ∧ n ≤ 4 ∧ ∀ (d : Addr) (H' : Hp), H d = none → H' d = some (.dT (rT (bfsG b xs 7).1)) → Same H H' → Q (.ref d) H'
section
variable {P : Program} {w : World} {K : PySem.W.Frag} {mg : Str → Option Value} {base : Heap}
theorem scRnd : FnScope ["order", "neighbours", "found", "edge", "later", "one", "p", "q", "other"] ["order", "neighbours"] (defScope s_law_rounds) := ⟨rfl, rfl, rfl, by decide +kernel, rfl, by decide +kernel, by decide +kernel⟩
set_option maxHeartbeats 4000000 in
theorem ok_rnd {f : Addr} {fd : FuncData} {k : Nat} (T : Df K mg "_law_rounds" s_law_rounds ["order", "neighbours"] f fd) (B : Bi mg) : FnOk P w K mg base CX0 (k + 1) f fd ["order", "neighbours"] spRnd := by
  refine T.F.ok scRnd (fun vs H Q E h => ?_) (fun cdv A outer s H vs Q E hr h => ?_)
  · obtain ⟨o, b, xs, n, rfl, _⟩ := h
    rfl
  · obtain ⟨o, b, xs, n, rfl, ho, ox, hn1, hn2, q⟩ := h
    refine ⟨_, 
      (pss_cons (ps_set (i := 2) scRnd.nd rfl (.inl rfl) (pe_dispT hr.units0 (pe_callTy call_tuple_of (by rfl) B.tuple (by decide +kernel) (pa_cons (pv 0) pa_nil)) pe_int))
      (pss_cons (ps_set (i := 3) scRnd.nd rfl (.inl rfl) (pe_lst (pa_cons (pe_callTy call_tuple_of (by rfl) B.tuple (by decide +kernel) (pa_cons (pv 0) pa_nil)) pa_nil)))
      (pss_cons (ps_while PassesOwn.never (pt_cmpR (op_neNilL hr.units) (pv 3) (pe_lst pa_nil) (nomark _))
        (pss_cons (ps_set (i := 4) scRnd.nd rfl (.inl rfl) (pe_lst pa_nil))
        (pss_cons (ps_for PassesOwn.never rfl (pi_list (pv 3)) (pg_name (i := 5) scRnd.nd rfl (.inl rfl))
          (pss_one (ps_for PassesOwn.never rfl (pi_range1 (by rfl) B.range (pa_cons (pe_callB call_len_seq (by rfl) B.len PySem.boot_len (pa_cons (pv 5) pa_nil)) pa_nil)) (pg_name (i := 6) scRnd.nd rfl (.inl rfl))
            (pss_one (ps_for PassesOwn.never rfl (pi_range2 (by rfl) B.range (pa_cons (pe_op op_add (pv 6) pe_int) (pa_cons (pe_ix ix_list (pe_lst (pa_cons (pe_callB call_len_seq (by rfl) B.len PySem.boot_len (pa_cons (pv 5) pa_nil)) (pa_cons (pe_callB (call_min2 rfl) (by rfl) B.min (by decide +kernel) (pa_cons (pe_callB call_len_seq (by rfl) B.len PySem.boot_len (pa_cons (pv 5) pa_nil)) (pa_cons (pe_op op_add (pv 6) pe_int) pa_nil))) pa_nil))) (pe_callTy call_int1 (by rfl) B.int (by decide +kernel) (pa_cons (pv 1) pa_nil)) (fun _ _ => rfl)) pa_nil))) (pg_name (i := 7) scRnd.nd rfl (.inl rfl))
              (pss_cons (ps_set (i := 8) scRnd.nd rfl (.inl rfl) (pe_op op_catA (pe_op op_catA (pe_op op_catA (pe_op op_catA (pe_slice sl_tupA (pv 5) po_none (po_some (pv 6))) (pe_tup (pa_cons (pe_ix ix_tup (pv 5) (pv 7) (fun _ _ => rfl)) pa_nil))) (pe_slice sl_tupA (pv 5) (po_some (pe_op op_add (pv 6) pe_int)) (po_some (pv 7)))) (pe_tup (pa_cons (pe_ix ix_tup (pv 5) (pv 6) (fun _ _ => rfl)) pa_nil))) (pe_slice sl_tupA (pv 5) (po_some (pe_op op_add (pv 7) pe_int)) po_none)))
              (pss_one (ps_if (pt_cmp (pc_dnotin (hu_of hr) (pv 8) (pv 2)))
                (pss_cons (ps_dput (hu_of hr) (pv 2) (pv 8) (pe_op op_add (pe_dget (hu_of hr) (pv 2) (pv 5) (fun _ _ => rfl)) pe_int) (by rfl))
                (pss_one (ps_expr (pe_bm PySem.F.plainAttrs_list PySem.F.slot_list_append PySem.F.type_list_append mt_append (pv 4) (pa_cons (pv 8) pa_nil)))))
                pss_nil))))))))
        (pss_one (ps_set (i := 3) scRnd.nd rfl (.inl rfl) (pv 4))))))
      (pss_one (ps_ret (pv 2)))))), ?_⟩
    refine fun fo nfo => ?_
    have u1 := same_new (o := .dT []) nfo
    refine ⟨_, rfl, o, _, rfl, .inl ⟨SqL.of (u1 _ _ ho), fun t0 nt0 => ?_⟩⟩
    have u2 := same_new (o := .tup (xs.map V.int)) nt0
    refine ⟨u2 _ _ upd_same, xs.map Sum.inl, t0, rfl, by rw [kV_inl]; exact upd_same, ?_⟩
    have u3 : Same H (upd (upd (upd H fo (.dT [])) t0 (.tup (xs.map V.int))) fo (.dT [(xs.map Sum.inl, .int 0)])) := fun b x e => by
      rw [upd_ne (ne_of_none e nfo)]
      exact u2 _ _ (u1 _ _ e)
    have hfo : (upd (upd (upd H fo (.dT [])) t0 (.tup (xs.map V.int))) fo (.dT [(xs.map Sum.inl, .int 0)])) fo = some (.dT (rT (bfsG b xs 0).1)) := upd_same
    generalize upd (upd (upd H fo (.dT [])) t0 (.tup (xs.map V.int))) fo (.dT [(xs.map Sum.inl, .int 0)]) = H1 at u3 hfo ⊢
    refine ⟨_, rfl, o, _, rfl, .inl ⟨SqL.of (u3 _ _ ho), fun t1 nt1 => ⟨line_small (by show 1 ≤ 16777216; decide), fun ea nea => ?_⟩⟩⟩
    have v1 := same_new (o := .tup (xs.map V.int)) nt1
    have v2 := same_new (o := .lst [.ref t1]) nea
    have ht1 := v2 _ _ (upd_same (H := H1) (a := t1) (o := .tup (xs.map V.int)))
    have hea : (upd (upd H1 t1 (.tup (xs.map V.int))) ea (.lst [.ref t1])) ea = some (.lst [.ref t1]) := upd_same
    have v12 := v1.trans v2
    generalize upd (upd H1 t1 (.tup (xs.map V.int))) ea (.lst [.ref t1]) = H2 at v12 ht1 hea ⊢
    have s02 := u3.trans v12
    have hf2 := v12 _ _ hfo
    clear u1 u2 u3 v1 v2 v12 nt0 nt1 nea hfo
    have hx := mem_ordS ox
    obtain ⟨b7, bk⟩ := bfs_facts b n (by omega) xs hx
    refine ⟨fun mm σ G => ∃ (k : Nat) (ea : Addr) (es : List (Addr × List Int)) (y3 y4 y5 y6 y7 : Option V), mm = 8 - k ∧ k < 8 ∧ σ = [some (.ref o), some (.bl b), some (.ref fo), some (.ref ea), y3, y4, y5, y6, y7] ∧ G fo = some (.dT (rT (bfsG b xs k).1)) ∧ G ea = some (.lst (es.map fun p => V.ref p.1)) ∧ TuR G es ∧ es.map (·.2) = (bfsG b xs k).2 ∧ Same H G,
      ⟨8, 0, ea, [(t1, xs)], none, none, none, none, none, rfl, by decide, rfl, hf2, hea, fun p m => by rw [List.mem_singleton.mp m]; exact ht1, rfl, s02⟩, fun mm σ G hW => ?_⟩
    clear hea ht1 hf2 s02
    obtain ⟨k, ea, es, y3, y4, y5, y6, y7, rfl, hk8, rfl, hfG, heG, htu, hes, sG⟩ := hW
    refine ⟨_, rfl, line_small (by show 0 ≤ 16777216; decide), fun e0 ne0 => ?_⟩
    have w1 := same_new (o := .lst []) ne0
    refine ⟨ea, e0, _, rfl, rfl, SqL.of (w1 _ _ heG), SqL.of upd_same, _, rfl, ?_⟩
    cases hc : es with
    | nil =>
      subst hc
      refine iteF ⟨_, rfl, ?_⟩
      have e0 : (bfsG b xs k).2 = [] := hes.symm
      have e1 := bfs_stop e0 (7 - k)
      rw [show k + (7 - k) = 7 by omega] at e1
      rw [← e1] at hfG
      exact q fo _ nfo (w1 _ _ hfG) (sG.trans w1)
    | cons p0 es' =>
      rw [← hc]
      have hk7 : k ≠ 7 := fun z => by
        rw [z, b7, hc] at hes
        cases hes
      rw [show (!(es.map fun p => V.ref p.1).isEmpty) = true by rw [hc]; rfl]
      clear hc
      have heG := w1 _ _ heG
      have hfG := w1 _ _ hfG
      have htu : TuR (upd G e0 (.lst [])) es := fun p m => w1 _ _ (htu p m)
      have sG := sG.trans w1
      generalize upd G e0 (.lst []) = G at heG hfG htu sG
      clear w1 ne0
      obtain ⟨bk1, bk2, bk3⟩ := bk k hk8
      refine iteT ⟨fun σ' G' => ∃ (ea : Addr) (es : List (Addr × List Int)) (y3 y4 y5 y6 y7 : Option V), σ' = [some (.ref o), some (.bl b), some (.ref fo), some (.ref ea), y3, y4, y5, y6, y7] ∧ G' fo = some (.dT (rT (bfsG b xs (k + 1)).1)) ∧ G' ea = some (.lst (es.map fun p => V.ref p.1)) ∧ TuR G' es ∧ es.map (·.2) = (bfsG b xs (k + 1)).2 ∧ Same H G',
        fun σ' G' ⟨ea, es, y3, y4, y5, y6, y7, e1, e2, e3, e4, e5, e6⟩ => ⟨8 - (k + 1), by omega, k + 1, ea, es, y3, y4, y5, y6, y7, rfl, by omega, e1, e2, e3, e4, e5, e6⟩, ?_⟩
      -- later = []
      refine ⟨line_small (by show 0 ≤ 16777216; decide), fun la nla => ?_⟩
      have w2 := same_new (o := .lst []) nla
      have nlf : la ≠ fo := fun z => by rw [z, hfG] at nla; cases nla
      have nef : ea ≠ fo := fun z => by rw [z, hfG] at heG; cases heG
      have nle : ea ≠ la := fun z => by rw [z, nla] at heG; cases heG
      refine ⟨_, rfl, ea, rfl, ⟨_, SqL.of (w2 _ _ heG)⟩, ?_⟩
      have hel : es.length ≤ 24 := by rw [← hes, List.length_map] at bk2; exact bk2
      have hen : ∀ p ∈ es, p.2.length = n ∧ has (bfsG b xs k).1 p.2 = true := fun p m => bk3 p.2 (by rw [← hes]; exact List.mem_map.mpr ⟨p, m, rfl⟩)
      refine for_it walk_list (fun i σ G' => ∃ (y4 y5 y6 y7 : Option V), σ = [some (.ref o), some (.bl b), some (.ref fo), some (.ref ea), some (.ref la), y4, y5, y6, y7] ∧ RInv G fo la (((bfsG b xs k).2.take i).foldl (stOne b) ((bfsG b xs k).1, [])) G')
        ⟨_, _, _, _, rfl, ⟨w2 _ _ hfG, ⟨[], upd_same, fun p m => (by cases m), rfl⟩, nlf, fun b x e _ _ => w2 _ _ e⟩⟩ (fun i σ G' _ hP => by obtain ⟨_, _, _, _, _, R⟩ := hP; exact SqL.of (R.kp _ _ heG nef nle)) (fun i x σ G' G'' hi hP hy => ?_) (fun σ G' hP => ?_)
      · obtain ⟨y4, y5, y6, y7, rfl, R⟩ := hP
        obtain ⟨rfl, ex⟩ := hy
        rw [List.getElem?_map] at ex
        obtain ⟨⟨t, r⟩, ep, rfl⟩ := Option.map_eq_some_iff.mp ex
        have mp := List.mem_of_getElem? ep
        obtain ⟨hrl, hrh⟩ := hen _ mp
        have hrl : r.length = n := hrl
        have ht0 : G t = some (.tup (r.map V.int)) := htu _ mp
        have ntf : t ≠ fo := fun z => by rw [z, hfG] at ht0; cases ht0
        have ntl : t ≠ la := fun z => by rw [z, nla] at ht0; cases ht0
        have er : (bfsG b xs k).2[i]? = some r := by rw [← hes, List.getElem?_map, ep]; rfl
        have hil : i < (bfsG b xs k).2.length := (List.getElem?_eq_some_iff.mp er).1
        obtain ⟨f1, f2⟩ := fold_lenG (c := n * n) (g := stOne b) ((bfsG b xs k).2.take i) ((bfsG b xs k).1, []) (fun s r m => stOne_len (bk3 r (List.mem_of_mem_take m)).1 s)
        have hsi : has (((bfsG b xs k).2.take i).foldl (stOne b) ((bfsG b xs k).1, [])).1 r = true := fold_hasG (fun s _ h => stOne_has s h) _ _ hrh
        have stp := rng_foldl (stOne b) ((bfsG b xs k).1, []) (bfsG b xs k).2 er
        rw [stp]
        have hnn : n * n ≤ 4 * 4 := Nat.mul_le_mul hn2 hn2
        have b1 : ((bfsG b xs k).2.take i).length * (n * n) ≤ 24 * 16 := Nat.mul_le_mul (by rw [List.length_take]; omega) hnn
        generalize ((bfsG b xs k).2.take i).foldl (stOne b) ((bfsG b xs k).1, []) = si at R hsi f1 f2 ⊢
        have f1 : si.1.length ≤ 500 := by have : (bfsG b xs k).1.length ≤ 24 := bk1; show si.1.length ≤ 500; simp only at f1; omega
        have f2 : si.2.length ≤ 500 := by simp only [List.length_nil] at f2; omega
        clear stp er hil
        have ht := R.kp _ _ ht0 ntf ntl
        have hrm : (r.map V.int).length = n := by rw [List.length_map, hrl]
        refine ⟨_, rfl, t, _, rfl, .inr (SqT.of ht), _, rfl, ?_, ?_, ?_⟩
        · rw [hrm]; omega
        · rw [hrm]; omega
        rw [hrm, Int.toNat_natCast]
        refine for_range (n := n) (fun p σ G' => ∃ (y6 y7 y8 : Option V), σ = [some (.ref o), some (.bl b), some (.ref fo), some (.ref ea), some (.ref la), some (.ref t), y6, y7, y8] ∧ RInv G fo la ((List.range p).foldl (stP b r) si) G') ⟨_, _, _, rfl, R⟩ (fun p σ G' hp hP => ?_) (fun σ G' hP => ?_)
        · obtain ⟨y6, y7, y8, rfl, R⟩ := hP
          obtain ⟨g1, g2⟩ := fold_lenG (c := n) (g := stP b r) (List.range p) si (fun s q _ => stP_len hrl s q)
          rw [List.length_range] at g1 g2
          have hpn : p * n ≤ 4 * 4 := Nat.mul_le_mul (by omega) hn2
          have hsp : has ((List.range p).foldl (stP b r) si).1 r = true := fold_hasG (fun s q h => stP_has s q h) _ si hsi
          rw [range_foldl]
          generalize (List.range p).foldl (stP b r) si = sp at R g1 g2 hsp ⊢
          have ht := R.kp _ _ ht0 ntf ntl
          rw [show (0 : Int) + (p : Int) = (p : Int) by omega]
          refine ⟨_, rfl, _, _, rfl, rfl, _, rfl, t, _, rfl, .inr (SqT.of ht), _, rfl, t, _, rfl, .inr (SqT.of ht), _, rfl, _, _, rfl, rfl, _, _, rfl, line_small (by show 2 ≤ 16777216; decide), fun ll nll => ?_⟩
          rw [hrm]
          have hval : atI [V.int (n : Int), V.int (if (p : Int) + 2 < (n : Int) then (p : Int) + 2 else (n : Int))] (if b = true then 1 else 0) = some (.int (hiN n b p : Nat)) := by
            cases b with
            | false => rfl
            | true =>
              show some (V.int (if (p : Int) + 2 < (n : Int) then (p : Int) + 2 else (n : Int))) = some (V.int ((min n (p + 2) : Nat) : Int))
              congr 2
              split <;> omega
          have shi := hi_le n b p
          have sl := same_new (o := .lst [V.int (n : Int), V.int (if (p : Int) + 2 < (n : Int) then (p : Int) + 2 else (n : Int))]) nll
          have R := R.same sl
          refine ⟨_, rfl, .inr ⟨b, rfl, ll, _, _, _, rfl, rfl, SqL.of upd_same, hval, _, _, rfl, ?_, ?_⟩⟩
          · omega
          generalize upd G' ll (.lst [V.int (n : Int), V.int (if (p : Int) + 2 < (n : Int) then (p : Int) + 2 else (n : Int))]) = G' at R ⊢
          rw [show (((hiN n b p : Nat) : Int) - ((p : Int) + 1)).toNat = hiN n b p - (p + 1) by omega]
          refine for_range (n := hiN n b p - (p + 1)) (fun j σ G' => ∃ (y7 y8 : Option V), σ = [some (.ref o), some (.bl b), some (.ref fo), some (.ref ea), some (.ref la), some (.ref t), some (.int (p : Int)), y7, y8] ∧ RInv G fo la ((List.range j).foldl (st1 r p) sp) G') ⟨_, _, rfl, R⟩ (fun j σ G' hj hP => ?_) (fun σ G' hP => ?_)
          · obtain ⟨y7, y8, rfl, R⟩ := hP
            obtain ⟨k1, k2⟩ := fold_lenG (c := 1) (g := st1 r p) (List.range j) sp (fun s q _ => st1_len r p s q)
            rw [List.length_range] at k1 k2
            have hsj : has ((List.range j).foldl (st1 r p) sp).1 r = true := fold_hasG (fun s q h => st1_has h) _ sp hsp
            rw [range_foldl]
            generalize (List.range j).foldl (st1 r p) sp = sj at R k1 k2 hsj ⊢
            have ht := R.kp _ _ ht0 ntf ntl
            have eq1 : (p : Int) + 1 + (j : Int) = ((p + 1 + j : Nat) : Int) := by omega
            rw [eq1]
            refine ⟨_, rfl, _, rfl, _, rfl, sl_take ht (by omega) fun c1 G1 hc1 s1 => ?_⟩
            have ht1 := s1 _ _ ht
            refine ⟨_, rfl, _, rfl, t, _, _, _, rfl, rfl, SqT.of ht1, at_of (j := p + 1 + j) rfl (g0At7 (by omega)), line_small (by show 1 ≤ 16777216; decide), fun c2 nc2 => ?_⟩
            have s2 := same_new (o := .tup [.int (g0 r ((p + 1 + j : Nat) : Int))]) nc2
            have hc2 : (upd G1 c2 (.tup [.int (g0 r ((p + 1 + j : Nat) : Int))])) c2 = some (.tup (([g0 r ((p + 1 + j : Nat) : Int)] : List Int).map V.int)) := upd_same
            refine cat_any (s2 _ _ hc1) hc2 (by rw [List.length_take]; simp only [List.length_cons, List.length_nil]; omega) fun c3 G3 hc3 s3 => ?_
            have ht3 := s3 _ _ (s2 _ _ ht1)
            refine ⟨_, rfl, _, rfl, _, _, rfl, rfl, _, rfl, _, rfl, _, rfl, ?_⟩
            refine sl_mid (i := p + 1) (j := p + 1 + j) (y := (p : Int) + 1) (z := ((p + 1 + j : Nat) : Int)) ht3 (by omega) rfl (by omega) (by omega) (by omega) fun c4 G4 hc4 s4 => ?_
            refine cat_any (s4 _ _ hc3) hc4 (by rw [List.length_append, List.length_take, List.length_take, List.length_drop]; simp only [List.length_cons, List.length_nil]; omega) fun c5 G5 hc5 s5 => ?_
            have ht5 := s5 _ _ (s4 _ _ ht3)
            refine ⟨_, rfl, _, rfl, t, _, _, _, rfl, rfl, SqT.of ht5, at_of (j := p) rfl (g0At7 (by omega)), line_small (by show 1 ≤ 16777216; decide), fun c6 nc6 => ?_⟩
            have s6 := same_new (o := .tup [.int (g0 r (p : Int))]) nc6
            have hc6 : (upd G5 c6 (.tup [.int (g0 r (p : Int))])) c6 = some (.tup (([g0 r (p : Int)] : List Int).map V.int)) := upd_same
            refine cat_any (s6 _ _ hc5) hc6 (by rw [List.length_append, List.length_append, List.length_take, List.length_take, List.length_drop]; simp only [List.length_cons, List.length_nil]; omega) fun c7 G7 hc7 s7 => ?_
            have ht7 := s7 _ _ (s6 _ _ ht5)
            refine ⟨_, rfl, _, rfl, _, _, rfl, rfl, _, rfl, ?_⟩
            unfold tNoPart
            refine sl_drop (i := p + 1 + j + 1) (z := ((p + 1 + j : Nat) : Int) + 1) ht7 (by omega) (by omega) (by omega) fun c8 G8 hc8 s8 => ?_
            refine cat_any (s8 _ _ hc7) hc8 (by rw [List.length_append, List.length_append, List.length_append, List.length_take, List.length_take, List.length_drop, List.length_drop]; simp only [List.length_cons, List.length_nil]; omega) fun c G9 hc s9 => ?_
            have R5 := ((((((((R.same s1).same s2).same s3).same s4).same s5).same s6).same s7).same s8).same s9
            have em : p + 1 + j - (p + 1) = j := by omega
            have hc : G9 c = some (.tup ((nbG r p (p + 1 + j)).map V.int)) := hc
            have ht9 := s9 _ _ (s8 _ _ ht7)
            clear R s1 s2 s3 s4 s5 s6 s7 s8 s9 hc1 hc2 hc3 hc4 hc5 hc6 hc7 hc8 ht1 ht3 ht5 ht7 ht
            have hcI : G9 c = some (.tup (((nbG r p (p + 1 + j)).map Sum.inl : List Key).map kV)) := by rw [kV_inl]; exact hc
            have htI : G9 t = some (.tup ((r.map Sum.inl : List Key).map kV)) := by rw [kV_inl]; exact ht9
            have gd := DGet.t R5.hfo hcI
            rw [rT_get] at gd
            refine ⟨_, rfl, _, rfl, fo, _, rfl, gd, _, rfl, ?_⟩
            have hst : st1 r p sj j = if has sj.1 (nbG r p (p + 1 + j)) then sj else (sj.1 ++ [(nbG r p (p + 1 + j), getR sj.1 r + 1)], sj.2 ++ [nbG r p (p + 1 + j)]) := rfl
            cases hh : has sj.1 (nbG r p (p + 1 + j)) with
            | true =>
              rw [hh] at hst
              refine iteF ⟨_, _, rfl, ?_⟩
              rw [hst]
              exact R5
            | false =>
              rw [hh] at hst
              have gt := DGet.t R5.hfo htI
              rw [rT_get, hsj] at gt
              refine iteT ⟨_, rfl, _, rfl, fo, _, rfl, gt, _, _, rfl, rfl, _, rfl, _, rfl, fo, _, rfl, DPut.t R5.hfo hcI (line_lt (by rw [rT_len]; omega)), ?_⟩
              rw [rT_put hh]
              obtain ⟨ps, h1, h2, h3⟩ := R5.hla
              have hpl : ps.length = sj.2.length := by rw [← h3, List.length_map]
              have nlf := R5.ne
              have h1' : (upd G9 fo (.dT (rT (sj.1 ++ [(nbG r p (p + 1 + j), getR sj.1 r + 1)])))) la = some (.lst (ps.map fun p => V.ref p.1)) := by rw [upd_ne nlf]; exact h1
              refine ⟨_, rfl, .inl ⟨rfl, _, SqL.of h1'⟩, _, rfl, la, _, _, rfl, rfl, h1', line_lt (by rw [List.length_map]; omega), _, _, rfl, ?_⟩
              rw [hst]
              have tk : ∀ (b : Addr) (vs : List V), G9 b = some (.tup vs) → (upd (upd G9 fo (.dT (rT (sj.1 ++ [(nbG r p (p + 1 + j), getR sj.1 r + 1)])))) la (.lst ((ps.map fun p => V.ref p.1) ++ [.ref c]))) b = some (.tup vs) := fun b vs e => by
                rw [upd_ne (ne_of e h1 (fun z => nomatch z)), upd_ne (ne_of e R5.hfo (fun z => nomatch z))]
                exact e
              refine ⟨by rw [upd_ne nlf.symm]; exact upd_same, ⟨ps ++ [(c, nbG r p (p + 1 + j))], by rw [upd_same, List.map_append]; rfl, fun p m => ?_, by rw [List.map_append, h3]; rfl⟩, nlf, fun b x e n1 n2 => ?_⟩
              · rcases List.mem_append.mp m with m | m
                · exact tk _ _ (h2 p m)
                · rw [List.mem_singleton.mp m]
                  exact tk _ _ hc
              · rw [upd_ne n2, upd_ne n1]
                exact R5.kp b x e n1 n2
          · obtain ⟨y7, y8, rfl, R⟩ := hP
            refine ⟨_, _, _, rfl, ?_⟩
            unfold stP
            rw [hrl]
            exact R
        · obtain ⟨y6, y7, y8, rfl, R⟩ := hP
          refine ⟨_, _, _, _, rfl, ?_⟩
          unfold stOne
          rw [hrl]
          exact R
      · obtain ⟨y4, y5, y6, y7, rfl, R⟩ := hP
        rw [List.length_map] at R
        have el : es.length = (bfsG b xs k).2.length := by rw [← hes, List.length_map]
        rw [el, List.take_length] at R
        obtain ⟨ps, h1, h2, h3⟩ := R.hla
        exact ⟨_, rfl, la, ps, _, _, _, _, _, rfl, R.hfo, h1, h2, h3, fun b x e => R.kp b x (sG b x e) (ne_of_none e nfo) (fun z => by rw [z, sG.free nla] at e; cases e)⟩
end
end Fo
namespace Fo
open PySem PySem.Spec PyProof.Rows L2
/-! all shortest walks, from the nearest on -/
def nb14 (one : List Int) (p : Nat) : List Int := one.take p ++ [g0 one ((p + 1 : Nat) : Int), g0 one (p : Int)] ++ one.drop (p + 2)
def wkAt (f : Fd) (d : Nat) (g : List Int → List (List Int)) (r : List Int) (p : Nat) : List (List Int) :=
  if getR f (nb14 r p) = (d : Int) then (g (nb14 r p)).map (· ++ [(p : Int)]) else []
def wk (f : Fd) : Nat → List Int → List (List Int)
  | 0, _ => [[]]
  | d + 1, r => (List.range (r.length - 1)).flatMap (wkAt f d (wk f d) r)
structure WE where
  row : List Int
  a : Addr
  as : List Addr
  ws : List (List Int)
def fnd (es : List WE) (r : List Int) : Option WE := es.find? fun e => decide (e.row = r)
def wT (es : List WE) : List (List Key × V) := es.map fun e => (e.row.map Sum.inl, V.ref e.a)
theorem fnd_cons (e : WE) (es : List WE) (r : List Int) : fnd (e :: es) r = if e.row = r then some e else fnd es r := by
  unfold fnd
  rw [List.find?_cons]
  by_cases c : e.row = r
  · rw [decide_eq_true c, if_pos c]
  · rw [decide_eq_false c, if_neg c]
theorem fnd_row {es : List WE} {r : List Int} {e : WE} (h : fnd es r = some e) : e.row = r ∧ e ∈ es := ⟨of_decide_eq_true (List.find?_some (p := fun e : WE => decide (e.row = r)) h), List.mem_of_find?_eq_some h⟩
theorem fnd_app {es fs : List WE} {r : List Int} : fnd (es ++ fs) r = (fnd es r).or (fnd fs r) := List.find?_append
theorem wT_get {es : List WE} {r : List Int} : valV (wT es) (r.map Sum.inl) = (fnd es r).map fun e => V.ref e.a := by
  induction es with
  | nil => rfl
  | cons p f ih =>
    show valV ((p.row.map Sum.inl, V.ref p.a) :: wT f) _ = _
    rw [fnd_cons]
    by_cases e : p.row = r
    · subst e
      rw [valV_pos rfl, if_pos rfl]
      rfl
    · rw [valV_neg (fun z => e (inl_inj z)), ih, if_neg e]
theorem wT_app (es fs : List WE) : wT (es ++ fs) = wT es ++ wT fs := List.map_append
theorem wT_new {es : List WE} {r : List Int} {a : Addr} {as : List Addr} {ws : List (List Int)} (h : fnd es r = none) : putK (wT es) (r.map Sum.inl) (.ref a) = wT (es ++ [⟨r, a, as, ws⟩]) := by
  rw [putK_new _ (by rw [wT_get, h]; rfl), wT_app]
  rfl
theorem wT_upd {es : List WE} {r : List Int} {a b : Addr} {as bs : List Addr} {ws vs : List (List Int)} (h : fnd es r = none) : putK (wT (es ++ [⟨r, a, as, ws⟩])) (r.map Sum.inl) (.ref b) = wT (es ++ [⟨r, b, bs, vs⟩]) := by
  have hn : ∀ kv ∈ wT es, ¬ kv.1 = r.map Sum.inl := fun kv m z => by
    have h1 : valV (wT es) (r.map Sum.inl) = none := by rw [wT_get, h]; rfl
    have h2 := valV_any (r.map Sum.inl) (wT es)
    rw [h1] at h2
    have h3 : ((wT es).any fun kv => decide (kv.1 = r.map Sum.inl)) = true := List.any_eq_true.mpr ⟨kv, m, decide_eq_true z⟩
    rw [h3] at h2
    cases h2
  unfold putK
  have hp : ((wT es ++ wT [⟨r, a, as, ws⟩]).any fun kv => decide (kv.1 = (r.map Sum.inl : List Key))) = true := List.any_eq_true.mpr ⟨(r.map Sum.inl, V.ref a), List.mem_append.mpr (.inr List.mem_cons_self), decide_eq_true rfl⟩
  rw [wT_app, if_pos hp, wT_app, List.map_append]
  congr 1
  · have : (wT es).map (fun kv => if kv.1 = r.map Sum.inl then (kv.1, V.ref b) else kv) = (wT es).map id := List.map_congr_left fun kv m => if_neg (hn kv m)
    rw [this, List.map_id]
  · show [if (r.map Sum.inl : List Key) = r.map Sum.inl then (r.map Sum.inl, V.ref b) else _] = _
    rw [if_pos rfl]
    rfl
theorem wT_len (es : List WE) : (wT es).length = es.length := List.length_map _
/-- the entries of the table, each a list of walks -/
def EntsAt (G : Hp) (es : List WE) : Prop := ∀ e ∈ es, G e.a = some (.lst (e.as.map V.ref)) ∧ LL G e.as e.ws
theorem EntsAt.move {G G' : Hp} {es : List WE} (h : EntsAt G es) (s : ∀ b vs, G b = some (.lst vs) → G' b = some (.lst vs)) : EntsAt G' es := fun e m => ⟨s _ _ (h e m).1, (h e m).2.keep fun a ma o eo => by
  obtain ⟨r, _, hr⟩ := (h e m).2.get (List.mem_iff_getElem?.mp ma).choose_spec
  rw [hr] at eo
  cases eo
  exact s _ _ hr⟩
def keysF (f : Fd) : List (List Int) := f.map (·.1)
theorem has_iff {f : Fd} {r : List Int} : has f r = true ↔ r ∈ keysF f := by
  unfold has keysF
  rw [List.any_eq_true, List.mem_map]
  constructor
  · rintro ⟨p, m, h⟩
    exact ⟨p, m, of_decide_eq_true h⟩
  · rintro ⟨p, m, h⟩
    exact ⟨p, m, decide_eq_true h⟩
theorem getR_mem {f : Fd} {r : List Int} (h : has f r = true) : (r, getR f r) ∈ f := by
  unfold getR
  cases e : f.find? fun q => decide (q.1 = r) with
  | none =>
    obtain ⟨q, m, hq⟩ := List.any_eq_true.mp h
    have := List.find?_eq_none.mp e q m
    exact absurd hq this
  | some q =>
    have h1 := List.find?_some e
    have h2 := List.mem_of_find?_eq_some e
    rw [← of_decide_eq_true h1]
    exact h2
theorem rT_at {f : Fd} {i : Nat} {k : List Key} {v : V} (h : (rT f)[i]? = some (k, v)) : ∃ r d, f[i]? = some (r, d) ∧ k = r.map Sum.inl ∧ v = .int d := by
  unfold rT at h
  rw [List.getElem?_map] at h
  obtain ⟨⟨r, d⟩, e, e2⟩ := Option.map_eq_some_iff.mp h
  cases e2
  exact ⟨r, d, e, rfl, rfl⟩
theorem rT_keys (f : Fd) : (rT f).map (·.1) = (keysF f).map fun r => r.map Sum.inl := by
  unfold rT keysF
  rw [List.map_map, List.map_map]
  rfl
end Fo
namespace Fo
open PySem PySem.Spec PyProof.Rows L2
def backF (ns : List Int) : List Int := (rg ns.length).map (pos ns)
/-- the walks by where the things stand -/
def wkS : Nat → List Int → List (List Int)
  | 0, _ => [[]]
  | d + 1, t => (List.range (t.length - 1)).flatMap fun p => if invR (sw t p) = d then (wkS d (sw t p)).map (· ++ [(p : Int)]) else []
def minOk (t : List Int) : Bool :=
  match wkS (invR t) t with
  | [] => false
  | x :: l => decide (minL x l = walkL (backF t)) && decide (l.length < 20)
theorem minB : ((List.range 5).all fun n => (ordS n).all minOk) = true := by decide +kernel
set_option maxHeartbeats 0 in
theorem wk_factsA : ∀ n, n < 5 → 1 ≤ n → ∀ xs ∈ ordS n, ((bfsG true xs 7).1.all fun p => decide (p.1 ∈ ordS n) && (decide (p.2 = farSwap xs p.1) && decide (p.2 ≤ 6) && (decide (p.1 = xs) || decide (0 < p.2)))) = true ∧ (keysF (bfsG true xs 7).1).Nodup ∧ has (bfsG true xs 7).1 xs = true ∧ (bfsG true xs 7).1.length ≤ 24 := by decide +kernel
set_option maxHeartbeats 0 in
theorem wk_factsB : ∀ n, n < 5 → 1 ≤ n → ∀ xs ∈ ordS n, ((ordS n).all fun r => has (bfsG true xs 7).1 r && has (bfsG false xs 7).1 r && decide (stepsI n (fol xs r) = getR (bfsG false xs 7).1 r)) = true := by decide +kernel
theorem ordS_ord : ∀ n, n < 5 → 1 ≤ n → ∀ xs ∈ ordS n, xs.isPerm (rg n) = true ∧ xs ≠ [] := by decide +kernel
theorem ordS_is {n : Nat} (hn : n < 5) (h1 : 1 ≤ n) {xs : List Int} (h : xs ∈ ordS n) : IsOrd n xs := List.isPerm_iff.mp (ordS_ord n hn h1 xs h).1
theorem nb_sw {n : Nat} {r : List Int} (o : IsOrd n r) {p : Nat} (hp : p < n - 1) : nb14 r p = sw r p := by
  obtain ⟨x, ex, _⟩ := ord_ix o (j := p) (by omega)
  obtain ⟨y, ey, _⟩ := ord_ix o (j := p + 1) (by omega)
  unfold nb14
  rw [g0_at ex, g0_at ey]
  exact cut_sw ex ey
theorem wk_S {n : Nat} {xs : List Int} {F : Fd} (hF : ∀ r, IsOrd n r → getR F r = ((invR (seatsL r xs) : Nat) : Int)) : ∀ (d : Nat) (r : List Int), IsOrd n r → wk F d r = wkS d (seatsL r xs)
  | 0, _, _ => rfl
  | d + 1, r, o => by
    show (List.range (r.length - 1)).flatMap (wkAt F d (wk F d) r) = (List.range ((seatsL r xs).length - 1)).flatMap _
    rw [seats_len, List.flatMap_def, List.flatMap_def]
    congr 1
    apply List.map_congr_left
    intro p hp
    have hp := List.mem_range.mp hp
    rw [o.len] at hp
    have os := sw_ord o (p := p) (by omega)
    unfold wkAt
    rw [nb_sw o hp, hF _ os, wk_S hF d _ os, seats_sw (by rw [o.len]; omega)]
    by_cases c : invR (sw (seatsL r xs) p) = d
    · rw [if_pos c, if_pos (by rw [c])]
    · rw [if_neg c, if_neg (by omega)]
theorem wEnd_app14 (xs u v : List Int) : wEnd xs (u ++ v) = wEnd (wEnd xs u) v := by
  unfold wEnd
  rw [List.foldl_append]
theorem sw_sw14 {xs : List Int} {p : Nat} (h : p + 1 < xs.length) : sw (sw xs p) p = xs := by
  obtain ⟨A, a, b, B, rfl, rfl⟩ := split2 h
  rw [sw_at, sw_at]
theorem wk_end {n : Nat} {xs : List Int} {F : Fd} (hF : ∀ r, IsOrd n r → getR F r = ((invR (seatsL r xs) : Nat) : Int)) (h0 : ∀ r, IsOrd n r → invR (seatsL r xs) = 0 → r = xs) : ∀ (d : Nat) (r : List Int), IsOrd n r → invR (seatsL r xs) = d → ∀ w ∈ wk F d r, wEnd xs w = r ∧ IsWalk n w ∧ w.length = d
  | 0, r, o, e, w, m => by
    rw [List.mem_singleton.mp (show w ∈ [[]] from m)]
    exact ⟨(h0 r o e).symm, fun p hp => absurd hp List.not_mem_nil, rfl⟩
  | d + 1, r, o, e, w, m => by
    obtain ⟨p, hp, hw⟩ := List.mem_flatMap.mp (show w ∈ (List.range (r.length - 1)).flatMap (wkAt F d (wk F d) r) from m)
    have hp := List.mem_range.mp hp
    rw [o.len] at hp
    have os := sw_ord o (p := p) (by omega)
    unfold wkAt at hw
    rw [nb_sw o hp, hF _ os] at hw
    by_cases c : invR (seatsL (sw r p) xs) = d
    · rw [if_pos (by rw [c])] at hw
      obtain ⟨u, mu, rfl⟩ := List.mem_map.mp hw
      obtain ⟨h1, h2, h3⟩ := wk_end hF h0 d _ os c u mu
      refine ⟨?_, fun q hq => ?_, by rw [List.length_append, h3]; rfl⟩
      · rw [wEnd_app14, h1]
        show sw (sw r p) ((p : Int)).toNat = r
        rw [Int.toNat_natCast, sw_sw14 (by rw [o.len]; omega)]
      · rcases List.mem_append.mp hq with hq | hq
        · exact h2 q hq
        · rw [List.mem_singleton.mp hq]
          omega
    · rw [if_neg (by omega)] at hw
      cases hw
theorem seats_back {n : Nat} {xs r : List Int} (ox : IsOrd n xs) (or : IsOrd n r) : seatsL xs r = backF (seatsL r xs) := by
  have ot := seats_ord or ox
  apply List.ext_getElem?
  intro u
  by_cases c : u < n
  · obtain ⟨x, ex, x0, x1⟩ := ord_ix ox c
    rw [seats_at ex]
    unfold backF rg
    rw [ot.len, List.getElem?_map, List.getElem?_map, List.getElem?_range c]
    show some (pos r x) = some (pos (seatsL r xs) ((u : Nat) : Int))
    obtain ⟨j, hj, ej, pj⟩ := pos_at or x0 x1
    have e1 : (seatsL r xs)[j]? = some ((u : Nat) : Int) := by rw [seats_at ej, pos_of ox ex]
    rw [pj, pos_of ot e1]
  · rw [List.getElem?_eq_none (by rw [seats_len, ox.len]; omega), List.getElem?_eq_none (by unfold backF; rw [List.length_map, rg_len, ot.len]; omega)]
structure WkFacts (n : Nat) (xs : List Int) (F : Fd) : Prop where
  len : F.length ≤ 24
  nd : (keysF F).Nodup
  at0 : has F xs = true
  ord : ∀ r, has F r = true ↔ IsOrd n r
  dist : ∀ r, IsOrd n r → getR F r = ((invR (seatsL r xs) : Nat) : Int)
  le6 : ∀ r, IsOrd n r → invR (seatsL r xs) ≤ 6
  zero : ∀ r, IsOrd n r → invR (seatsL r xs) = 0 → r = xs
theorem wk_facts {n : Nat} (hn : n < 5) (h1 : 1 ≤ n) {xs : List Int} (ox : IsOrd n xs) : WkFacts n xs (bfsG true xs 7).1 := by
  obtain ⟨fA, fN, fH, fL⟩ := wk_factsA n hn h1 xs (mem_ordS ox)
  have fB := wk_factsB n hn h1 xs (mem_ordS ox)
  generalize (bfsG true xs 7).1 = F at fA fN fH fL fB
  have hO : ∀ r, IsOrd n r → has F r = true := fun r o => by
    have := List.all_eq_true.mp fB r (mem_ordS o)
    simp only [Bool.and_eq_true] at this
    exact this.1.1
  have fAll : ∀ r, has F r = true → IsOrd n r ∧ getR F r = ((invR (seatsL r xs) : Nat) : Int) ∧ getR F r ≤ 6 ∧ (r = xs ∨ 0 < getR F r) := fun r hh => by
    have := List.all_eq_true.mp fA _ (getR_mem hh)
    simp only [Bool.and_eq_true, Bool.or_eq_true, decide_eq_true_eq] at this
    have o := ordS_is hn h1 this.1
    refine ⟨o, ?_, this.2.1.2, this.2.2⟩
    rw [this.2.1.1, ← farSwap_turn ox o]
    unfold farSwap
    rw [inv_NR]
  refine ⟨fL, fN, fH, fun r => ⟨fun h => (fAll r h).1, hO r⟩, fun r o => (fAll r (hO r o)).2.1, fun r o => ?_, fun r o e => ?_⟩
  · have := fAll r (hO r o)
    omega
  · have := fAll r (hO r o)
    rcases this.2.2.2 with h | h
    · exact h
    · omega
theorem wk_min {n : Nat} (hn : n < 5) {xs r : List Int} {F : Fd} (fk : WkFacts n xs F) (ox : IsOrd n xs) (o : IsOrd n r) : ∃ x l, wk F (getR F r).toNat r = x :: l ∧ minL x l = walkL (seatsL xs r) ∧ l.length < 20 := by
  have hd := fk.dist r o
  have e : (getR F r).toNat = invR (seatsL r xs) := by omega
  have m := List.all_eq_true.mp (List.all_eq_true.mp minB n (List.mem_range.mpr hn)) _ (mem_ordS (seats_ord o ox))
  rw [e, wk_S fk.dist _ _ o, seats_back ox o]
  unfold minOk at m
  cases c : wkS (invR (seatsL r xs)) (seatsL r xs) with
  | nil =>
    rw [c] at m
    cases m
  | cons x l =>
    rw [c] at m
    simp only [Bool.and_eq_true, decide_eq_true_eq] at m
    exact ⟨x, l, rfl, m.1, m.2⟩
theorem steps_fact {n : Nat} (hn : n < 5) (h1 : 1 ≤ n) {xs r : List Int} (ox : IsOrd n xs) (o : IsOrd n r) : has (bfsG false xs 7).1 r = true ∧ stepsI n (fol xs r) = getR (bfsG false xs 7).1 r := by
  have := List.all_eq_true.mp (wk_factsB n hn h1 xs (mem_ordS ox)) r (mem_ordS o)
  simp only [Bool.and_eq_true, decide_eq_true_eq] at this
  exact ⟨this.1.2, this.2⟩
end Fo
namespace Fo
open PySem PySem.Spec PyProof.Rows L2
def spWalks : Sp := fun vs H Q _ => ∃ (o d : Addr) (xs : List Int) (n : Nat), vs = [.ref o, .ref d] ∧ H o = some (.lst (xs.map V.int)) ∧ H d = some (.dT (rT (bfsG true xs 7).1)) ∧ IsOrd n xs ∧ 1 ≤ n ∧ n ≤ 4 ∧
  ∀ (wa : Addr) (es : List WE) (H' : Hp), H wa = none → H' wa = some (.dT (wT es)) → EntsAt H' es → (∀ r, has (bfsG true xs 7).1 r = true → ∃ e, fnd es r = some e ∧ e.ws = wk (bfsG true xs 7).1 (getR (bfsG true xs 7).1 r).toNat r) → Same H H' → Q (.ref wa) H'
theorem unlock7 {H G : Hp} {d : Addr} {o : Obj} {u : HO} (h : H d = some u) (s : Same (upd H d (.frz o u)) G) : Same H (upd G d u) := fun b x e => by
  by_cases c : b = d
  · subst c
    rw [h] at e
    rw [upd_same, e]
  · rw [upd_ne c]
    exact s b x (by rw [upd_ne c]; exact e)
theorem TuR.move {H H' : Hp} {ps : List (Addr × List Int)} (h : TuR H ps) (s : ∀ b vs, H b = some (.tup vs) → H' b = some (.tup vs)) : TuR H' ps := fun p m => s _ _ (h p m)
/-- the table so far: entries es, all up to the distance k, and those in ys -/
structure WInv (H : Hp) (f : Fd) (fo : Addr) (k : Int) (ys : List (List Int)) (es : List WE) (G : Hp) : Prop where
  hfo : G fo = some (.dT (wT es))
  en : EntsAt G es
  wsE : ∀ e ∈ es, e.ws = wk f (getR f e.row).toNat e.row
  dom : ∀ r, (fnd es r).isSome = (has f r && (decide (getR f r ≤ k) || decide (r ∈ ys)))
  len : (es.length : Int) ≤ 1 + 24 * k + (ys.length : Int)
  kp : Same H G
theorem WInv.same {H : Hp} {f : Fd} {fo : Addr} {k : Int} {ys : List (List Int)} {es : List WE} {G G' : Hp} (h : WInv H f fo k ys es G) (s : Same G G') : WInv H f fo k ys es G' :=
  ⟨s _ _ h.hfo, h.en.move fun b vs e => s _ _ e, h.wsE, h.dom, h.len, h.kp.trans s⟩
theorem getR_nd {f : Fd} (hn : (keysF f).Nodup) {p : List Int × Int} (m : p ∈ f) : getR f p.1 = p.2 := by
  have h1 := getR_mem (f := f) (r := p.1) (has_iff.mpr (List.mem_map.mpr ⟨p, m, rfl⟩))
  obtain ⟨i, ei⟩ := List.mem_iff_getElem?.mp h1
  obtain ⟨j, ej⟩ := List.mem_iff_getElem?.mp m
  have e1 : (keysF f)[i]? = some p.1 := by unfold keysF; rw [List.getElem?_map, ei]; rfl
  have e2 : (keysF f)[j]? = some p.1 := by unfold keysF; rw [List.getElem?_map, ej]; rfl
  have e3 := nd_ix hn e1 e2
  subst e3
  rw [ei] at ej
  have := Option.some.inj ej
  rw [← this]
theorem LL.app {H : Hp} : ∀ {as bs : List Addr} {rs ss : List (List Int)}, LL H as rs → LL H bs ss → LL H (as ++ bs) (rs ++ ss)
  | [], _, [], _, _, h => h
  | [], _, _ :: _, _, h, _ => h.elim
  | _ :: _, _, [], _, h, _ => h.elim
  | _ :: _, _, _ :: _, _, h, g => ⟨h.1, LL.app h.2 g⟩
section
variable {P : Program} {w : World} {K : PySem.W.Frag} {mg : Str → Option Value} {base : Heap}
theorem scWk : FnScope ["order", "rounds", "found", "far", "one", "p", "ahead", "walk"] ["order", "rounds"] (defScope s_law_walks) := ⟨rfl, rfl, rfl, by decide +kernel, rfl, by decide +kernel, by decide +kernel⟩
set_option pp.maxSteps 200000 in
set_option maxHeartbeats 4000000 in
theorem ok_walks {f : Addr} {fd : FuncData} {k : Nat} (T : Df K mg "_law_walks" s_law_walks ["order", "rounds"] f fd) (B : Bi mg) : FnOk P w K mg base CX0 (k + 1) f fd ["order", "rounds"] spWalks := by
  refine T.F.ok scWk (fun vs H Q E h => ?_) (fun cdv A outer s H vs Q E hr h => ?_)
  · obtain ⟨o, d, xs, n, rfl, _⟩ := h
    rfl
  · obtain ⟨o, d, xs, n, rfl, ho, hd, ox, hn1, hn2, q⟩ := h
    refine ⟨_, 
      (pss_cons (ps_set (i := 2) scWk.nd rfl (.inl rfl) (pe_dispT hr.units0 (pe_callTy call_tuple_of (by rfl) B.tuple (by decide +kernel) (pa_cons (pv 0) pa_nil)) (pe_lst (pa_cons (pe_lst pa_nil) pa_nil))))
      (pss_cons (ps_for PassesOwn.never rfl (pi_range2 (by rfl) B.range (pa_cons pe_int (pa_cons (pe_op op_add (pe_callB (cr_maxVT rfl) (by rfl) B.max (by decide +kernel) (pa_cons (pe_valuesT (pv 1)) pa_nil)) pe_int) pa_nil))) (pg_name (i := 3) scWk.nd rfl (.inr rfl))
        (pss_one (ps_for PassesOwn.never rfl (pi_list (pe_lock (pe_lc (own := [("one", 4)]) (g := (gName 4)) (tt := (tTest (tOp rEq (tDGet (tVar 1) (tVar 4)) (tVar 3)))) (te := (tVar 4)) rfl scWk.nd (pi_keys (pv 1)) (blkOk_by (N := ["order", "rounds", "found", "far", "one", "p", "ahead", "walk"]) (sc := defScope s_law_walks) (by decide +kernel)) (fun _ _ _ _ _ => (pg_name (i := 4) scWk.nd rfl (.inl rfl))) (fun _ _ _ _ _ => (pts_one (pt_cmpR op_eq (pe_dget (hu_of hr) (pv 1) (pv 4) (fun _ _ => rfl)) (pv 3) (nomark _)))) (fun _ _ _ _ _ => (pv 4))))) (pg_name (i := 4) scWk.nd rfl (.inl rfl))
          (pss_cons (ps_dput (hu_of hr) (pv 2) (pv 4) (pe_lst pa_nil) (by rfl))
          (pss_one (ps_for PassesOwn.never rfl (pi_range1 (by rfl) B.range (pa_cons (pe_op op_sub (pe_callB call_len_seq (by rfl) B.len PySem.boot_len (pa_cons (pv 4) pa_nil)) pe_int) pa_nil)) (pg_name (i := 5) scWk.nd rfl (.inr rfl))
            (pss_cons (ps_set (i := 6) scWk.nd rfl (.inl rfl) (pe_op op_catA (pe_op op_catA (pe_slice sl_tupA (pv 4) po_none (po_some (pv 5))) (pe_tup (pa_cons (pe_ix ix_tup (pv 4) (pe_op op_add (pv 5) pe_int) (fun _ _ => rfl)) (pa_cons (pe_ix ix_tup (pv 4) (pv 5) (fun _ _ => rfl)) pa_nil)))) (pe_slice sl_tupA (pv 4) (po_some (pe_op op_add (pv 5) pe_int)) po_none)))
            (pss_one (ps_if (pt_cmpR op_eq (pe_dget (hu_of hr) (pv 1) (pv 6) (fun _ _ => rfl)) (pe_op op_sub (pv 3) pe_int) (nomark _))
              (pss_one (ps_dput (hu_of hr) (pv 2) (pv 4) (pe_op op_cat (pe_dget (hu_of hr) (pv 2) (pv 4) (fun _ _ => rfl)) (pe_lc (own := [("walk", 7)]) (g := (gName 7)) (tt := tYes) (te := (tOp rCat (tVar 7) (tLst (tCons (tVar 5) tNil)))) rfl scWk.nd (pi_list (pe_dget (hu_of hr) (pv 2) (pv 6) (fun _ _ => rfl))) (blkOk_by (N := ["order", "rounds", "found", "far", "one", "p", "ahead", "walk"]) (sc := defScope s_law_walks) (by decide +kernel)) (fun _ _ _ _ _ => (pg_name (i := 7) scWk.nd rfl (.inl rfl))) (fun _ _ _ _ _ => pts_nil) (fun _ _ _ _ _ => (pe_op op_cat (pv 7) (pe_lst (pa_cons (pv 5) pa_nil)))))) (by rfl)))
              pss_nil)))))))))
      (pss_one (ps_ret (pv 2))))), ?_⟩
    have fk := wk_facts (by omega) hn1 ox
    generalize (bfsG true xs 7).1 = F at hd q fk
    refine fun fo nfo => ?_
    have u1 := same_new (o := .dT []) nfo
    refine ⟨_, rfl, o, _, rfl, .inl ⟨SqL.of (u1 _ _ ho), fun t0 nt0 => ?_⟩⟩
    have u2 := same_new (o := .tup (xs.map V.int)) nt0
    refine ⟨line_small (by show 0 ≤ 16777216; decide), fun i0 ni0 => ⟨line_small (by show 1 ≤ 16777216; decide), fun w0 nw0 => ?_⟩⟩
    have u3 := same_new (o := .lst []) ni0
    have u4 := same_new (o := .lst [.ref i0]) nw0
    refine ⟨u4 _ _ (u3 _ _ (u2 _ _ upd_same)), xs.map Sum.inl, t0, rfl, by rw [kV_inl]; exact u4 _ _ (u3 _ _ upd_same), ?_⟩
    have n0t : fo ≠ t0 := fun z => by rw [← z, upd_same] at nt0; cases nt0
    have hw0 : (upd (upd (upd (upd H fo (.dT [])) t0 (.tup (xs.map V.int))) i0 (.lst [])) w0 (.lst [.ref i0])) w0 = some (.lst [.ref i0]) := upd_same
    have hi0 := u4 _ _ (upd_same (H := upd (upd H fo (.dT [])) t0 (.tup (xs.map V.int))) (a := i0) (o := .lst []))
    have hf0 := u4 _ _ (u3 _ _ (u2 _ _ (upd_same (H := H) (a := fo) (o := .dT []))))
    have k0 := ((u1.trans u2).trans u3).trans u4
    generalize upd (upd (upd (upd H fo (.dT [])) t0 (.tup (xs.map V.int))) i0 (.lst [])) w0 (.lst [.ref i0]) = H1 at hw0 hi0 hf0 k0 ⊢
    have nwf : w0 ≠ fo := fun z => by rw [z, hf0] at hw0; cases hw0
    have nif : i0 ≠ fo := fun z => by rw [z, hf0] at hi0; cases hi0
    have W0 : WInv H F fo 0 [] [⟨xs, w0, [i0], [[]]⟩] (upd H1 fo (.dT [(xs.map Sum.inl, .ref w0)])) := by
      refine ⟨upd_same, fun e m => ?_, fun e m => ?_, fun r => ?_, ?_, fun b x e => ?_⟩
      · rw [List.mem_singleton.mp m]
        exact ⟨by rw [upd_ne nwf]; exact hw0, by rw [upd_ne nif]; exact hi0, trivial⟩
      · rw [List.mem_singleton.mp m]
        show [[]] = wk F (getR F xs).toNat xs
        have h1 := fk.dist xs ox
        have h2 : invR (seatsL xs xs) = 0 := by
          have := farSwap_self ox
          unfold farSwap at this
          rw [inv_NR] at this
          omega
        rw [h1, h2]
        rfl
      · rw [fnd_cons]
        by_cases c : xs = r
        · subst c
          rw [if_pos rfl, fk.at0]
          have h1 := fk.dist xs ox
          have h2 : invR (seatsL xs xs) = 0 := by
            have := farSwap_self ox
            unfold farSwap at this
            rw [inv_NR] at this
            omega
          rw [h1, h2]
          rfl
        · rw [if_neg c]
          show false = _
          cases hh : has F r with
          | false => rfl
          | true =>
            have o := (fk.ord r).mp hh
            have h1 := fk.dist r o
            rw [decide_eq_false (fun z => c (fk.zero r o (by omega)).symm)]
            rfl
      · show (1 : Int) ≤ 1 + 24 * 0 + ((0 : Nat) : Int)
        omega
      · rw [upd_ne (ne_of_none e nfo)]
        exact k0 _ _ e
    generalize upd H1 fo (.dT [(xs.map Sum.inl, .ref w0)]) = H2 at W0 ⊢
    clear hw0 hi0 hf0 k0 nwf nif n0t u1 u2 u3 u4 nt0 ni0 nw0
    have hd2 := W0.kp _ _ hd
    -- the greatest distance
    refine ⟨_, rfl, d, _, rfl, hd2, fun p np => ⟨p, d, rT F, F.map (·.2), rfl, upd_same, ?_, ?_, ?_, fun m hm hle => ?_⟩⟩
    · exact same_new np _ _ hd2
    · unfold rT
      rw [List.map_map, List.map_map]
      rfl
    · rw [List.length_map]
      have := has_iff.mp fk.at0
      have hl : F.length = (keysF F).length := (List.length_map _).symm
      rw [hl]
      exact List.length_pos_of_mem this
    have W0 := W0.same (same_new (o := viewO "dict_values" p d) np)
    generalize upd H2 p (viewO "dict_values" p d) = H3 at W0 ⊢
    clear hd2 np
    have hm6 : 0 ≤ m ∧ m ≤ 6 := by
      obtain ⟨pr, mp, rfl⟩ := List.mem_map.mp hm
      have hh : has F pr.1 = true := has_iff.mpr (List.mem_map.mpr ⟨pr, mp, rfl⟩)
      have o := (fk.ord _).mp hh
      have h1 := fk.dist _ o
      have h2 := fk.le6 _ o
      have h3 := getR_nd fk.nd mp
      omega
    have hmax : ∀ r, has F r = true → getR F r ≤ m := fun r hh => hle _ (List.mem_map.mpr ⟨_, getR_mem hh, rfl⟩)
    refine ⟨_, _, rfl, rfl, 1, _, rfl, by omega, ?_⟩
    rw [show (m + 1 - 1).toNat = m.toNat by omega]
    refine for_range (n := m.toNat) (fun j σ G => ∃ (es : List WE) (y3 y4 y5 y6 : Option V), σ = [some (.ref o), some (.ref d), some (.ref fo), y3, y4, y5, y6, none] ∧ WInv H F fo (j : Int) [] es G)
      ⟨_, _, _, _, _, rfl, W0⟩ (fun j σ G hj hP => ?_) (fun σ G hP => ?_)
    · obtain ⟨es, y3, y4, y5, y6, rfl, W⟩ := hP
      rw [show (1 : Int) + (j : Int) = ((j + 1 : Nat) : Int) by omega]
      have hdG := W.kp _ _ hd
      -- the rows so far away
      refine ⟨d, _, hdG, trivial, fun od => ⟨_, rfl, d, od, rfl, .inr ⟨_, upd_same, fun D nD => ?_⟩⟩⟩
      have nD0 : G D = none := by
        rw [← nD, upd_ne]
        exact fun z => by rw [z, upd_same] at nD; cases nD
      have nDd : D ≠ d := fun z => by rw [z, hdG] at nD0; cases nD0
      let L : List (List Int) := (keysF F).filter fun r => decide (getR F r = ((j + 1 : Nat) : Int))
      refine lc_it walk_keysT (fun i G' => ∃ ps : List (Addr × List Int), G' D = some (.lst (ps.map fun p => V.ref p.1)) ∧ TuR G' ps ∧ ps.map (·.2) = ((keysF F).take i).filter (fun r => decide (getR F r = ((j + 1 : Nat) : Int))) ∧ Same (upd G d (.frz od (.dT (rT F)))) G')
        ⟨[], upd_same, (fun p m => by cases m), rfl, same_new nD⟩ (fun i G _ hP => by obtain ⟨_, _, _, _, s⟩ := hP; exact s _ _ upd_same) (fun i x G1 G2 hi hP hy => ?_) (fun G1 hP => ?_)
      · obtain ⟨ps, hD, htu, eps, sG⟩ := hP
        obtain ⟨rfl, kk, v, c, ek, rfl, hc⟩ := hy
        obtain ⟨r, z, er, rfl, rfl⟩ := rT_at ek
        rw [kV_inl] at hc
        have ekr : (keysF F)[i]? = some r := by unfold keysF; rw [List.getElem?_map, er]; rfl
        have hil := (List.getElem?_eq_some_iff.mp ekr).1
        have hh : has F r = true := has_iff.mpr (List.mem_of_getElem? ekr)
        have hpl : ps.length ≤ 24 := by
          have := congrArg List.length eps
          rw [List.length_map] at this
          have h2 := List.length_filter_le (fun r => decide (getR F r = ((j + 1 : Nat) : Int))) ((keysF F).take i)
          rw [List.length_take] at h2
          have h3 : (keysF F).length = F.length := List.length_map _
          have := fk.len
          omega
        have gt := sG _ _ (upd_same (H := G) (a := d) (o := .frz od (.dT (rT F))))
        have hcI : G2 c = some (.tup ((r.map Sum.inl : List Key).map kV)) := by rw [kV_inl]; exact hc
        refine ⟨rfl, _, rfl, _, rfl, d, .int (getR F r), rfl, .inr ⟨_, _, c, .inr ⟨od, gt⟩, rfl, hcI, by rw [rT_get, if_pos hh]⟩, _, rfl, ?_⟩
        refine ⟨rfl, _, rfl, ite2 (fun cc => ?_) (fun cc => ?_)⟩
        · have hg : getR F r = ((j + 1 : Nat) : Int) := V.int.inj (of_decide_eq_true cc)
          refine ⟨_, rfl, _, hD, line_lt (by rw [List.length_map]; omega), ps ++ [(c, r)], by rw [upd_same, List.map_append]; rfl, fun p m => ?_, ?_, fun b o e => ?_⟩
          · rcases List.mem_append.mp m with m | m
            · have e := htu p m
              rw [upd_ne (ne_of e hD (fun z => nomatch z))]
              exact e
            · rw [List.mem_singleton.mp m]
              rw [upd_ne (ne_of hc hD (fun z => nomatch z))]
              exact hc
          · rw [List.map_append, eps, List.take_add_one, ekr, List.filter_append]
            show _ = _ ++ List.filter _ [r]
            rw [List.filter_cons, decide_eq_true hg]
            rfl
          · rw [upd_ne (ne_of_none e nD)]
            exact sG _ _ e
        · have hg : ¬ getR F r = ((j + 1 : Nat) : Int) := fun z => cc (decide_eq_true (by rw [z]))
          refine ⟨ps, hD, htu, ?_, sG⟩
          rw [eps, List.take_add_one, ekr, List.filter_append]
          show _ = _ ++ List.filter _ [r]
          rw [List.filter_cons, decide_eq_false hg]
          exact (List.append_nil _).symm
      obtain ⟨ps, hD, htu, eps, sG⟩ := hP
      rw [rT_len, ← show (keysF F).length = F.length from List.length_map _, List.take_length] at eps
      have gt := sG _ _ (upd_same (H := G) (a := d) (o := .frz od (.dT (rT F))))
      refine ⟨gt, D, rfl, ⟨_, SqL.of (show (upd G1 d (.dT (rT F))) D = some (.lst (ps.map fun p => V.ref p.1)) by rw [upd_ne nDd]; exact hD)⟩, ?_⟩
      have htu2 : TuR (upd G1 d (.dT (rT F))) ps := htu.move fun b vs e => by
        rw [upd_ne (ne_of e gt (fun z => nomatch z))]
        exact e
      have sU := unlock7 hdG sG
      have hDU : (upd G1 d (.dT (rT F))) D = some (.lst (ps.map fun p => V.ref p.1)) := by rw [upd_ne nDd]; exact hD
      have W1 := W.same sU
      have nDf : D ≠ fo := fun z => by rw [z, W.hfo] at nD0; cases nD0
      generalize upd G1 d (.dT (rT F)) = G2 at htu2 hDU W1 ⊢
      clear sU gt htu hD sG nD nD0 nDd hdG W
      have hLn : (ps.map (·.2)).Nodup := by rw [eps]; exact fk.nd.filter _
      have hLm : ∀ r, r ∈ ps.map (·.2) ↔ has F r = true ∧ getR F r = ((j + 1 : Nat) : Int) := fun r => by
        rw [eps, List.mem_filter, has_iff, decide_eq_true_eq]
      have hpl : ps.length ≤ 24 := by
        have h1 := congrArg List.length eps
        rw [List.length_map] at h1
        have h2 := List.length_filter_le (fun r => decide (getR F r = ((j + 1 : Nat) : Int))) (keysF F)
        have h3 : (keysF F).length = F.length := List.length_map _
        have := fk.len
        omega
      clear eps
      refine for_it walk_list (fun i σ G' => ∃ (es : List WE) (y4 y5 y6 : Option V), σ = [some (.ref o), some (.ref d), some (.ref fo), some (.int ((j + 1 : Nat) : Int)), y4, y5, y6, none] ∧ WInv H F fo (j : Int) ((ps.map (·.2)).take i) es G' ∧ G' D = some (.lst (ps.map fun p => V.ref p.1)) ∧ TuR G' ps)
        ⟨_, _, _, _, rfl, W1, hDU, htu2⟩ (fun i σ G' _ hP => by obtain ⟨_, _, _, _, _, _, h, _⟩ := hP; exact SqL.of h) (fun i x σ G' G'' hi hP hy => ?_) (fun σ G' hP => ?_)
      · obtain ⟨es, y4, y5, y6, rfl, W, hD, htu⟩ := hP
        obtain ⟨rfl, ex⟩ := hy
        rw [List.getElem?_map] at ex
        obtain ⟨⟨c, r⟩, ep, rfl⟩ := Option.map_eq_some_iff.mp ex
        have mp := List.mem_of_getElem? ep
        have er : (ps.map (·.2))[i]? = some r := by rw [List.getElem?_map, ep]; rfl
        obtain ⟨hh, hg⟩ := (hLm r).mp (List.mem_of_getElem? er)
        have orr := (fk.ord r).mp hh
        have hrl : r.length = n := orr.len
        have hc : G'' c = some (.tup (r.map V.int)) := htu _ mp
        have hnt : r ∉ (ps.map (·.2)).take i := fun m => by
          obtain ⟨j2, ej⟩ := List.mem_iff_getElem?.mp m
          have h1 := (List.getElem?_eq_some_iff.mp ej).1
          rw [List.length_take] at h1
          rw [List.getElem?_take_of_lt (by omega)] at ej
          have := nd_ix hLn ej er
          omega
        have hnone : fnd es r = none := by
          have hs := W.dom r
          rw [hh, decide_eq_false (show ¬ getR F r ≤ (j : Int) by omega), decide_eq_false hnt] at hs
          cases e : fnd es r with
          | none => rfl
          | some x => rw [e] at hs; cases hs
        refine ⟨line_small (by show 0 ≤ 16777216; decide), fun e0 ne0 => ?_⟩
        have s1 := same_new (o := .lst []) ne0
        have hc1 := s1 _ _ hc
        have hcI : (upd G'' e0 (.lst [])) c = some (.tup ((r.map Sum.inl : List Key).map kV)) := by rw [kV_inl]; exact hc1
        have hf1 := s1 _ _ W.hfo
        have hesl : es.length + 1 < 16777216 := by
          have h1 := W.len
          have h2 : ((ps.map (·.2)).take i).length ≤ 24 := by rw [List.length_take, List.length_map]; omega
          omega
        refine ⟨_, rfl, _, rfl, fo, _, rfl, DPut.t hf1 hcI (line_lt (by rw [wT_len]; exact Nat.lt_of_succ_lt hesl)), ?_⟩
        rw [wT_new (as := []) (ws := []) hnone]
        have n0 : e0 ≠ fo := fun z => by rw [z, W.hfo] at ne0; cases ne0
        have tkL : ∀ {G : Hp} {kv : List (List Key × V)} (kv2 : List (List Key × V)), G fo = some (.dT kv) → ∀ b vs, G b = some (.lst vs) → (upd G fo (.dT kv2)) b = some (.lst vs) := fun kv2 hf b vs e => by
          rw [upd_ne (ne_of e hf (fun z => nomatch z))]
          exact e
        have tkT : ∀ {G : Hp} {kv : List (List Key × V)} (kv2 : List (List Key × V)), G fo = some (.dT kv) → ∀ b vs, G b = some (.tup vs) → (upd G fo (.dT kv2)) b = some (.tup vs) := fun kv2 hf b vs e => by
          rw [upd_ne (ne_of e hf (fun z => nomatch z))]
          exact e
        have en1 : EntsAt (upd (upd G'' e0 (.lst [])) fo (.dT (wT (es ++ [⟨r, e0, [], []⟩])))) es := (W.en.move fun b vs e => s1 _ _ e).move (tkL _ hf1)
        have hcc := tkT (wT (es ++ [⟨r, e0, [], []⟩])) hf1 _ _ hc1
        refine ⟨_, rfl, c, _, rfl, .inr (SqT.of hcc), _, _, rfl, rfl, _, rfl, ?_, ?_, ?_⟩
        · rw [List.length_map, hrl]; omega
        · rw [List.length_map, hrl]; omega
        rw [List.length_map, hrl, show ((n : Int) - 1).toNat = n - 1 by omega]
        refine for_range (n := n - 1) (fun p σ G' => ∃ (y5 y6 : Option V) (a : Addr) (as : List Addr), σ = [some (.ref o), some (.ref d), some (.ref fo), some (.int ((j + 1 : Nat) : Int)), some (.ref c), y5, y6, none] ∧ G' fo = some (.dT (wT (es ++ [⟨r, a, as, (List.range p).flatMap (wkAt F j (wk F j) r)⟩]))) ∧ EntsAt G' es ∧ G' a = some (.lst (as.map V.ref)) ∧ LL G' as ((List.range p).flatMap (wkAt F j (wk F j) r)) ∧ as.length ≤ 20 * p ∧ G' D = some (.lst (ps.map fun p => V.ref p.1)) ∧ TuR G' ps ∧ Same H G')
          ⟨_, _, e0, [], rfl, upd_same, en1, tkL _ hf1 _ _ (upd_same (H := G'') (a := e0) (o := .lst [])), trivial, Nat.zero_le _, tkL _ hf1 _ _ (s1 _ _ hD), (htu.move fun b vs e => s1 _ _ e).move (tkT _ hf1), fun b x e => ?_⟩ (fun p σ G' hp hP => ?_) (fun σ G' hP => ?_)
        · rw [upd_ne (ne_of_none e nfo)]
          exact s1 _ _ (W.kp _ _ e)
        · obtain ⟨y5, y6, a, as, rfl, hf, hen, ha, hll, hal, hD, htu, kp⟩ := hP
          have ht : G' c = some (.tup (r.map V.int)) := htu _ mp
          rw [show (0 : Int) + (p : Int) = (p : Int) by omega]
          refine ⟨_, rfl, _, rfl, _, rfl, sl_take ht (by omega) fun c1 G1 hc1 s1 => ?_⟩
          have ht1 := s1 _ _ ht
          refine ⟨_, rfl, _, rfl, _, _, rfl, rfl, c, _, _, _, rfl, rfl, SqT.of ht1, at_of (j := p + 1) (by omega) (g0At7 (by omega)), _, rfl, _, rfl, c, _, _, _, rfl, rfl, SqT.of ht1, at_of (j := p) rfl (g0At7 (by omega)), line_small (by show 2 ≤ 16777216; decide), fun c2 nc2 => ?_⟩
          have s2 := same_new (o := .tup [.int (g0 r ((p + 1 : Nat) : Int)), .int (g0 r (p : Int))]) nc2
          have hc2 : (upd G1 c2 (.tup [.int (g0 r ((p + 1 : Nat) : Int)), .int (g0 r (p : Int))])) c2 = some (.tup (([g0 r ((p + 1 : Nat) : Int), g0 r (p : Int)] : List Int).map V.int)) := upd_same
          refine cat_any (s2 _ _ hc1) hc2 (by rw [List.length_take]; simp only [List.length_cons, List.length_nil]; omega) fun c3 G3 hc3 s3 => ?_
          have ht3 := s3 _ _ (s2 _ _ ht1)
          refine ⟨_, rfl, _, rfl, _, _, rfl, rfl, _, rfl, ?_⟩
          unfold tNoPart
          refine sl_drop (i := p + 2) (z := (p : Int) + 2) ht3 (by omega) (by omega) (by omega) fun c4 G4 hc4 s4 => ?_
          refine cat_any (s4 _ _ hc3) hc4 (by rw [List.length_append, List.length_take, List.length_drop]; simp only [List.length_cons, List.length_nil]; omega) fun ah G5 hah s5 => ?_
          have sA := (((s1.trans s2).trans s3).trans s4).trans s5
          have hah : G5 ah = some (.tup ((nb14 r p).map V.int)) := hah
          have hahI : G5 ah = some (.tup (((nb14 r p).map Sum.inl : List Key).map kV)) := by rw [kV_inl]; exact hah
          have htI : G5 c = some (.tup ((r.map Sum.inl : List Key).map kV)) := by rw [kV_inl]; exact sA _ _ ht
          have hd5 := sA _ _ (kp _ _ hd)
          have oah : IsOrd n (nb14 r p) := by rw [nb_sw orr hp]; exact sw_ord orr (by omega)
          have hhA : has F (nb14 r p) = true := (fk.ord _).mpr oah
          clear hc1 hc2 hc3 hc4 ht1 ht3 s1 s2 s3 s4 s5
          have stp : (List.range (p + 1)).flatMap (wkAt F j (wk F j) r) = (List.range p).flatMap (wkAt F j (wk F j) r) ++ wkAt F j (wk F j) r p := by
            rw [List.range_succ, List.flatMap_append]
            congr 1
            exact List.flatMap_singleton _ _
          refine ⟨_, rfl, _, rfl, d, .int (getR F (nb14 r p)), rfl, .inr ⟨_, _, ah, .inl hd5, rfl, hahI, by rw [rT_get, if_pos hhA]⟩, _, rfl, _, _, rfl, rfl, rfl, _, rfl, ite2 (fun cc => ?_) (fun cc => ?_)⟩
          · have hg2 : getR F (nb14 r p) = (j : Int) := by
              have := V.int.inj (of_decide_eq_true cc)
              omega
            have hf5 := sA _ _ hf
            have ha5 := sA _ _ ha
            have hen5 : EntsAt G5 es := hen.move fun b vs e => sA _ _ e
            have hll5 := hll.same sA
            have hD5 := sA _ _ hD
            have htu5 : TuR G5 ps := htu.move fun b vs e => sA _ _ e
            have kp5 := kp.trans sA
            clear hf ha hen hll hD htu kp sA ht
            obtain ⟨ee, hee⟩ : ∃ e, fnd es (nb14 r p) = some e := by
              have hs := W.dom (nb14 r p)
              rw [hhA, hg2, decide_eq_true (Int.le_refl _)] at hs
              exact Option.isSome_iff_exists.mp hs
            obtain ⟨her, hem⟩ := fnd_row hee
            have hews : ee.ws = wk F j (nb14 r p) := by
              have := W.wsE ee hem
              rw [her, hg2, Int.toNat_natCast] at this
              exact this
            obtain ⟨hea, hel⟩ := hen5 ee hem
            have hdist : invR (seatsL (nb14 r p) xs) = j := by
              have := fk.dist _ oah
              omega
            have hwl : ∀ w ∈ ee.ws, w.length = j := fun w m => (wk_end fk.dist fk.zero j _ oah hdist w (by rw [← hews]; exact m)).2.2
            have hel20 : ee.ws.length ≤ 20 := by
              obtain ⟨x, l, hx, _, hl⟩ := wk_min (by omega) fk ox oah
              rw [hg2, Int.toNat_natCast, ← hews] at hx
              rw [hx, List.length_cons]
              omega
            have heal : ee.as.length = ee.ws.length := hel.len
            refine ⟨_, rfl, _, rfl, fo, .ref a, rfl, .inr ⟨_, _, c, .inl hf5, rfl, htI, by rw [wT_get, fnd_app, hnone, fnd_cons, if_pos rfl]; rfl⟩, _, rfl, _, rfl, fo, .ref ee.a, rfl, .inr ⟨_, _, ah, .inl hf5, rfl, hahI, by rw [wT_get, fnd_app, hee]; rfl⟩, ee.a, rfl, ⟨_, SqL.of hea⟩, fun D2 nD2 => ?_⟩
            refine lc_list (K := K) (a := ee.a) (xs := ee.as.map V.ref) (fun m G => ∃ bs : List Addr, G D2 = some (.lst (bs.map V.ref)) ∧ LL G bs ((ee.ws.take m).map (· ++ [(p : Int)])) ∧ (∀ b ∈ bs, b ≠ D2) ∧ Same G5 G)
              ⟨[], upd_same, trivial, (fun b m => by cases m), same_new nD2⟩ (fun m G _ hP => by obtain ⟨_, _, _, _, s⟩ := hP; exact SqL.of (s _ _ hea)) (fun m x G hx hP => ?_) (fun G hP => ?_)
            · obtain ⟨bs, hD2, hbl, hbn, s5⟩ := hP
              obtain ⟨b, eb, rfl⟩ := ref_at_inv hx
              obtain ⟨w, ew, hb⟩ := hel.get eb
              have hw := hwl w (List.mem_of_getElem? ew)
              have hml := (List.getElem?_eq_some_iff.mp ew).1
              have hbb := hbl.len
              rw [List.length_map, List.length_take] at hbb
              refine ⟨rfl, _, rfl, _, rfl, line_small (by show 1 ≤ 16777216; decide), fun l1 nl1 => ?_⟩
              have t1 := same_new (o := .lst [.int (p : Int)]) nl1
              refine ⟨b, l1, w.map V.int, [.int (p : Int)], rfl, rfl, t1 _ _ (s5 _ _ hb), upd_same, line_small (by rw [List.length_map, hw]; show j + 1 ≤ 16777216; omega), fun c5 nc5 => ?_⟩
              have t2 := t1.trans (same_new (o := .lst (w.map V.int ++ [.int (p : Int)])) nc5)
              have hD2' := t2 _ _ hD2
              have nc : c5 ≠ D2 := fun z => by rw [z, t1 _ _ hD2] at nc5; cases nc5
              refine ⟨_, hD2', line_lt (by rw [List.length_map]; omega), bs ++ [c5], by rw [upd_same, List.map_append]; rfl, ?_, fun x m => ?_, fun x o e => ?_⟩
              · rw [List.take_add_one, ew, List.map_append]
                refine LL.snoc ((hbl.same t2).keep fun x mx o e => by rw [upd_ne (hbn x mx)]; exact e) ?_
                rw [upd_ne nc, upd_same, List.map_append]
                rfl
              · rcases List.mem_append.mp m with m | m
                · exact hbn x m
                · rw [List.mem_singleton.mp m]
                  exact nc
              · rw [upd_ne (ne_of_none e nD2)]
                exact t2 _ _ (s5 _ _ e)
            · obtain ⟨bs, hD2, hbl, hbn, s5⟩ := hP
              rw [List.length_map, heal, List.take_length] at hbl
              have hbb := hbl.len
              rw [List.length_map] at hbb
              refine ⟨a, D2, _, _, rfl, rfl, s5 _ _ ha5, hD2, line_small (by rw [List.length_map, List.length_map]; omega), fun nw nnw => ?_⟩
              have s6 := same_new (o := .lst (as.map V.ref ++ bs.map V.ref)) nnw
              have s56 := s5.trans s6
              have hf6 := s56 _ _ hf5
              have hll6 : LL (upd G nw (.lst (as.map V.ref ++ bs.map V.ref))) (as ++ bs) ((List.range (p + 1)).flatMap (wkAt F j (wk F j) r)) := by
                rw [stp, show wkAt F j (wk F j) r p = (wk F j (nb14 r p)).map (· ++ [(p : Int)]) from if_pos hg2, ← hews]
                exact LL.app (hll5.same s56) (hbl.same s6)
              have hnw : (upd G nw (.lst (as.map V.ref ++ bs.map V.ref))) nw = some (.lst ((as ++ bs).map V.ref)) := by rw [upd_same, List.map_append]
              refine ⟨_, rfl, _, rfl, fo, _, rfl, DPut.t hf6 (s56 _ _ htI) (line_lt (by rw [wT_len, List.length_append]; exact hesl)), ?_⟩
              rw [wT_upd (bs := as ++ bs) (vs := (List.range (p + 1)).flatMap (wkAt F j (wk F j) r)) hnone]
              refine ⟨_, _, nw, as ++ bs, rfl, upd_same, (hen5.move fun b vs e => s56 _ _ e).move (tkL _ hf6), tkL _ hf6 _ _ hnw, hll6.keep fun x mx o e => ?_, by rw [List.length_append]; omega, tkL _ hf6 _ _ (s56 _ _ hD5), (htu5.move fun b vs e => s56 _ _ e).move (tkT _ hf6), fun b x e => ?_⟩
              · obtain ⟨i2, ei2⟩ := List.mem_iff_getElem?.mp mx
                obtain ⟨r2, _, h2⟩ := hll6.get ei2
                rw [h2] at e
                cases e
                exact tkL _ hf6 _ _ h2
              · rw [upd_ne (ne_of_none e nfo)]
                exact s56 _ _ (kp5 _ _ e)
          · have hg2 : ¬ getR F (nb14 r p) = (j : Int) := fun z => cc (decide_eq_true (by rw [z]; congr 1; omega))
            refine ⟨_, _, a, as, rfl, ?_⟩
            rw [stp, show wkAt F j (wk F j) r p = [] from if_neg hg2, List.append_nil]
            exact ⟨sA _ _ hf, hen.move fun b vs e => sA _ _ e, sA _ _ ha, hll.same sA, by omega, sA _ _ hD, htu.move fun b vs e => sA _ _ e, kp.trans sA⟩
        · obtain ⟨y5, y6, a, as, rfl, hf, hen, ha, hll, _, hD, htu, kp⟩ := hP
          have hws : (List.range (n - 1)).flatMap (wkAt F j (wk F j) r) = wk F (getR F r).toNat r := by
            rw [hg, Int.toNat_natCast]
            show _ = (List.range (r.length - 1)).flatMap (wkAt F j (wk F j) r)
            rw [hrl]
          refine ⟨es ++ [⟨r, a, as, (List.range (n - 1)).flatMap (wkAt F j (wk F j) r)⟩], _, _, _, rfl, ⟨hf, fun e m => ?_, fun e m => ?_, fun r2 => ?_, ?_, kp⟩, hD, htu⟩
          · rcases List.mem_append.mp m with m | m
            · exact hen e m
            · rw [List.mem_singleton.mp m]
              exact ⟨ha, hll⟩
          · rcases List.mem_append.mp m with m | m
            · exact W.wsE e m
            · rw [List.mem_singleton.mp m]
              exact hws
          · rw [fnd_app, Option.isSome_or, W.dom r2, fnd_cons, List.take_add_one, er]
            show _ = (has F r2 && (decide (getR F r2 ≤ (j : Int)) || decide (r2 ∈ (ps.map (·.2)).take i ++ [r])))
            by_cases c2 : r = r2
            · subst c2
              rw [if_pos rfl, hh, decide_eq_true (show r ∈ (ps.map (·.2)).take i ++ [r] from List.mem_append.mpr (.inr List.mem_cons_self))]
              simp
            · rw [if_neg c2]
              have : (r2 ∈ (ps.map (·.2)).take i ++ [r]) ↔ r2 ∈ (ps.map (·.2)).take i := by
                rw [List.mem_append, List.mem_singleton]
                exact ⟨fun z => z.resolve_right (fun y => c2 y.symm), .inl⟩
              rw [decide_eq_decide.mpr this]
              show (_ || false) = _
              rw [Bool.or_false]
          · have h1 := W.len
            rw [List.take_add_one, er, List.length_append, List.length_append]
            show ((es.length + 1 : Nat) : Int) ≤ 1 + 24 * (j : Int) + (((ps.map (·.2)).take i).length + 1 : Nat)
            omega
      · obtain ⟨es, y4, y5, y6, rfl, W, _, _⟩ := hP
        rw [List.length_map, ← show (ps.map (·.2)).length = ps.length from List.length_map _, List.take_length] at W
        refine ⟨es, _, _, _, _, rfl, W.hfo, W.en, W.wsE, fun r => ?_, by have h1 := W.len; rw [List.length_map] at h1; show (es.length : Int) ≤ 1 + 24 * ((j + 1 : Nat) : Int) + ((0 : Nat) : Int); omega, W.kp⟩
        rw [W.dom r]
        cases hh : has F r with
        | false => rfl
        | true =>
          have hi := (hLm r)
          by_cases c1 : getR F r ≤ (j : Int)
          · rw [decide_eq_true c1, decide_eq_true (show getR F r ≤ ((j + 1 : Nat) : Int) by omega)]
            rfl
          · rw [decide_eq_false c1]
            by_cases c2 : getR F r = ((j + 1 : Nat) : Int)
            · rw [decide_eq_true (hi.mpr ⟨hh, c2⟩), decide_eq_true (show getR F r ≤ ((j + 1 : Nat) : Int) by omega)]
              rfl
            · rw [decide_eq_false (fun z => c2 (hi.mp z).2), decide_eq_false (show ¬ getR F r ≤ ((j + 1 : Nat) : Int) by omega)]
              rfl
    · obtain ⟨es, y3, y4, y5, y6, rfl, W⟩ := hP
      refine ⟨_, rfl, q fo es _ nfo W.hfo W.en (fun r hh => ?_) W.kp⟩
      have hm := hmax r hh
      have hs := W.dom r
      rw [hh, decide_eq_true (show getR F r ≤ ((m.toNat : Nat) : Int) by omega)] at hs
      cases e : fnd es r with
      | none => rw [e] at hs; cases hs
      | some x =>
        obtain ⟨h1, h2⟩ := fnd_row e
        exact ⟨x, rfl, by have := W.wsE x h2; rw [h1] at this; exact this⟩
end
end Fo
namespace Fo
open PySem PySem.Spec PyProof.Rows L2
def spLaw (K : PySem.W.Frag) : Sp := fun vs H Q _ => ∃ (a : Addr) (ns : List Int), vs = [.ref a] ∧ SqL K H a (ns.map V.int) ∧ ns.length ≤ 63 ∧ ∀ H', Q (.bl true) H'
theorem rounds_len14 (n : Nat) (f : Int → Int) : (roundsL n f).length ≤ n := by
  unfold roundsL
  rw [List.length_map]
  exact Nat.le_trans (List.length_filter_le _ _) (by rw [rg_len]; exact Nat.le_refl _)
section
variable {P : Program} {w : World} {K : PySem.W.Frag} {mg : Str → Option Value} {base : Heap}
theorem scLaw : FnScope ["script", "deck", "n", "every", "turn", "order", "walks", "steps", "row", "other", "walk", "one"] ["script"] (defScope s_law) := ⟨rfl, rfl, rfl, by decide +kernel, rfl, by decide +kernel, by decide +kernel⟩
set_option pp.maxSteps 200000 in
set_option maxHeartbeats 8000000 in
theorem ok_law {f f1 f2 f3 f4 f5 f6 f7 f8 : Addr} {fd d1 d2 d3 d4 d5 d6 d7 d8 : FuncData} (T : Fun K "law" "law" s_law f fd) (T__law_deck : Df K mg "_law_deck" s_law_deck ["script"] f1 d1) (T__law_draw : Df K mg "_law_draw" s_law_draw ["deck", "many"] f2 d2) (T__law_rounds : Df K mg "_law_rounds" s_law_rounds ["order", "neighbours"] f3 d3) (T__law_walks : Df K mg "_law_walks" s_law_walks ["order", "rounds"] f4 d4) (T_short_walk : Df K mg "short_walk" s_short_walk ["one", "other"] f5 d5) (T_steps_between : Df K mg "steps_between" s_steps_between ["one", "other"] f6 d6) (T_walk_end : Df K mg "walk_end" s_walk_end ["order", "walk"] f7 d7) (T_rounds_between : Df K mg "rounds_between" s_rounds_between ["one", "other"] f8 d8)
    (G__law_deck : FnOk P w K mg base CX0 11 f1 d1 ["script"] (spDeck K)) (G__law_draw : FnOk P w K mg base CX0 11 f2 d2 ["deck", "many"] spDraw) (G__law_rounds : FnOk P w K mg base CX0 11 f3 d3 ["order", "neighbours"] spRnd) (G__law_walks : FnOk P w K mg base CX0 11 f4 d4 ["order", "rounds"] spWalks)
    (G_short_walk : FnOk P w K mg base CX0 11 f5 d5 ["one", "other"] spShort) (G_steps_between : FnOk P w K mg base CX0 11 f6 d6 ["one", "other"] spSteps) (G_walk_end : FnOk P w K mg base CX0 11 f7 d7 ["order", "walk"] spWalkEnd) (G_rounds_between : FnOk P w K mg base CX0 11 f8 d8 ["one", "other"] spRounds)
    (B : Bi mg) : FnOk P w K mg base CX0 12 f fd ["script"] (spLaw K) := by
  refine T.ok scLaw (fun vs H Q E h => ?_) (fun cdv A outer s H vs Q E hr h => ?_)
  · obtain ⟨a, ns, rfl, _⟩ := h
    rfl
  · obtain ⟨a, ns, rfl, hS, hlen, q⟩ := h
    refine ⟨_, 
      (pss_cons (ps_set (i := 1) scLaw.nd rfl (.inl rfl) (pe_call G__law_deck hr (by rfl) T__law_deck.g T__law_deck.F.kp T__law_deck.b .nil pass0 (pa_cons (pv 0) pa_nil)))
      (pss_cons (ps_for PassesOwn.never rfl (pi_range2 (by rfl) B.range (pa_cons pe_int (pa_cons pe_int pa_nil))) (pg_name (i := 2) scLaw.nd rfl (.inl rfl))
        (pss_cons (ps_set (i := 3) scLaw.nd rfl (.inl rfl) (pe_callB (cr_sortedDT rfl hr.units) (by rfl) B.sorted (by decide +kernel) (pa_cons (pe_call G__law_rounds hr (by rfl) T__law_rounds.g T__law_rounds.F.kp T__law_rounds.b .nil pass0 (pa_cons (pe_listRg rfl (by rfl) B.list (prg_1 (by rfl) B.range (pv 2))) (pa_cons pe_bl pa_nil))) pa_nil)))
        (pss_one (ps_for PassesOwn.never rfl (pi_range1 (by rfl) B.range (pa_cons pe_int pa_nil)) (pg_name (i := 4) scLaw.nd rfl (.inl rfl))
          (pss_cons (ps_set (i := 5) scLaw.nd rfl (.inr rfl) (pe_callTy call_list_of (by rfl) B.list (by decide +kernel) (pa_cons (pe_ix ix_list (pv 3) (pe_call G__law_draw hr (by rfl) T__law_draw.g T__law_draw.F.kp T__law_draw.b .nil pass0 (pa_cons (pv 1) (pa_cons (pe_callB call_len_seq (by rfl) B.len PySem.boot_len (pa_cons (pv 3) pa_nil)) pa_nil))) (fun _ _ => rfl)) pa_nil)))
          (pss_cons (ps_set (i := 6) scLaw.nd rfl (.inl rfl) (pe_call G__law_walks hr (by rfl) T__law_walks.g T__law_walks.F.kp T__law_walks.b .nil pass0 (pa_cons (pv 5) (pa_cons (pe_call G__law_rounds hr (by rfl) T__law_rounds.g T__law_rounds.F.kp T__law_rounds.b .nil pass0 (pa_cons (pv 5) (pa_cons pe_bl pa_nil))) pa_nil))))
          (pss_cons (ps_set (i := 7) scLaw.nd rfl (.inl rfl) (pe_call G__law_rounds hr (by rfl) T__law_rounds.g T__law_rounds.F.kp T__law_rounds.b .nil pass0 (pa_cons (pv 5) (pa_cons pe_bl pa_nil))))
          (pss_one (ps_for PassesOwn.never rfl (pi_list (pv 3)) (pg_name (i := 8) scLaw.nd rfl (.inl rfl))
            (pss_cons (ps_set (i := 9) scLaw.nd rfl (.inr rfl) (pe_callTy call_list_of (by rfl) B.list (by decide +kernel) (pa_cons (pv 8) pa_nil)))
            (pss_cons (ps_if (PW.pt (pw_or (pt_cmpR (op_neD hr.units) (pe_call G_short_walk hr (by rfl) T_short_walk.g T_short_walk.F.kp T_short_walk.b .nil pass0 (pa_cons (pv 5) (pa_cons (pv 9) pa_nil))) (pe_callB (cr_minL hr.units rfl) (by rfl) B.min (by decide +kernel) (pa_cons (pe_dget (hu_of hr) (pv 6) (pv 8) (fun _ _ => rfl)) pa_nil)) (nomark _)) (pw_or1 (pt_cmpR op_ne (pe_call G_steps_between hr (by rfl) T_steps_between.g T_steps_between.F.kp T_steps_between.b .nil pass0 (pa_cons (pv 5) (pa_cons (pv 9) pa_nil))) (pe_dget (hu_of hr) (pv 7) (pv 8) (fun _ _ => rfl)) (nomark _)))))
              (pss_one (ps_ret pe_bl))
              pss_nil)
            (pss_cons (ps_if (pt_cmpR (op_neNilL hr.units) (pe_lc (own := [("walk", 10)]) (g := (gName 10)) (tt := (tTest (tOp (rNeD K) (tCall spWalkEnd [] E0 (tCons (tVar 5) (tCons (tVar 10) tNil))) (tVar 9)))) (te := (tVar 10)) rfl scLaw.nd (pi_list (pe_dget (hu_of hr) (pv 6) (pv 8) (fun _ _ => rfl))) (blkOk_by (N := ["script", "deck", "n", "every", "turn", "order", "walks", "steps", "row", "other", "walk", "one"]) (sc := defScope s_law) (by decide +kernel)) (fun _ _ _ _ _ => (pg_name (i := 10) scLaw.nd rfl (.inl rfl))) (fun _ _ _ _ _ => (pts_one (pt_cmpR (op_neD hr.units) (pe_call G_walk_end hr (by rfl) T_walk_end.g T_walk_end.F.kp T_walk_end.b .nil pass0 (pa_cons (pv 5) (pa_cons (pv 10) pa_nil))) (pv 9) (nomark _)))) (fun _ _ _ _ _ => (pv 10))) (pe_lst pa_nil) (nomark _))
              (pss_one (ps_ret pe_bl))
              pss_nil)
            (pss_one (ps_if (pt_cmpR op_ne (pe_callB (cr_sum rfl) (by rfl) B.sum (by decide +kernel) (pa_cons (pe_lc (own := [("one", 11)]) (g := (gName 11)) (tt := tYes) (te := (tOp (rI0 fun i j => .int (i - j)) (tCB (rLenS K) (tCons (tVar 11) tNil)) (tC (.int 1)))) rfl scLaw.nd (pi_list (pe_call G_rounds_between hr (by rfl) T_rounds_between.g T_rounds_between.F.kp T_rounds_between.b .nil pass0 (pa_cons (pv 5) (pa_cons (pv 9) pa_nil)))) (blkOk_by (N := ["script", "deck", "n", "every", "turn", "order", "walks", "steps", "row", "other", "walk", "one"]) (sc := defScope s_law) (by decide +kernel)) (fun _ _ _ _ _ => (pg_name (i := 11) scLaw.nd rfl (.inl rfl))) (fun _ _ _ _ _ => pts_nil) (fun _ _ _ _ _ => (pe_op op_sub (pe_callB call_len_seq (by rfl) B.len PySem.boot_len (pa_cons (pv 11) pa_nil)) pe_int))) pa_nil)) (pe_dget (hu_of hr) (pv 7) (pv 8) (fun _ _ => rfl)) (nomark _))
              (pss_one (ps_ret pe_bl))
              pss_nil))))))))))))))
      (pss_one (ps_ret pe_bl)))), ?_⟩
    refine ⟨_, rfl, a, ns, rfl, hS, hlen, fun D H0 D0 _ _ => ?_⟩
    refine ⟨1, 5, rfl, by decide, ?_⟩
    refine for_range (n := 4) (fun i σ H1 => ∃ y2 y3 y4 y5 y6 y7 y8 y9, σ = [some (.ref a), some (.ref D.d), y2, y3, y4, y5, y6, y7, y8, y9, none, none] ∧ DkAt H1 D)
      ⟨_, _, _, _, _, _, _, _, rfl, D0⟩ (fun i σ H1 hi hP => ?_) (fun σ H1 hP => q _)
    obtain ⟨y2, y3, y4, y5, y6, y7, y8, y9, rfl, D1⟩ := hP
    obtain ⟨n, en, hn1, hn2⟩ : ∃ n : Nat, (1 : Int) + (i : Int) = (n : Int) ∧ 1 ≤ n ∧ n ≤ 4 := ⟨1 + i, by omega, by omega, by omega⟩
    rw [en]
    have org : IsOrd n (rg n) := List.Perm.refl _
    have fk0 := wk_facts (by omega) hn1 org
    have fL := fk0.len
    have fP := List.length_pos_of_mem (has_iff.mp fk0.at0)
    have fK : ∀ r ∈ keysF (bfsG true (rg n) 7).1, IsOrd n r := fun r m => (fk0.ord r).mp (has_iff.mpr m)
    have fKl : (keysF (bfsG true (rg n) 7).1).length = (bfsG true (rg n) 7).1.length := List.length_map _
    rw [← fKl] at fL
    -- every
    refine ⟨_, rfl, _, rfl, RgOk.of_le (by decide) (by omega) (by decide) (by omega), fun l nl => ?_⟩
    rw [rg_V]
    refine ⟨l, true, rg n, n, rfl, upd_same, org, hn1, hn2, fun d H2 nd hd s2 => ?_⟩
    have D2 := (D1.new nl).same s2
    refine ⟨d, _, keysF (bfsG true (rg n) 7).1, rfl, hd, by rw [rT_keys], fun r m z => ?_, fun ks sr eks hks nsr => ?_⟩
    · have := (fK r m).len
      rw [z] at this
      simp only [List.length_nil] at this
      omega
    have D3 := D2.new (o := .lst ((rowsR ks).map fun p => V.ref p.1)) nsr
    have hsr : (upd H2 sr (.lst ((rowsR ks).map fun p => V.ref p.1))) sr = some (.lst ((rowsR ks).map fun p => V.ref p.1)) := upd_same
    have hkt : TuR (upd H2 sr (.lst ((rowsR ks).map fun p => V.ref p.1))) (rowsR ks) := fun p m => same_new nsr _ _ (hks p ((rowsR_perm ks).mem_iff.mp m))
    have hko : ∀ p ∈ rowsR ks, IsOrd n p.2 := fun p m => fK _ (by rw [← eks]; exact List.mem_map.mpr ⟨p, (rowsR_perm ks).mem_iff.mp m, rfl⟩)
    have hkl : (rowsR ks).length = (keysF (bfsG true (rg n) 7).1).length := by rw [(rowsR_perm ks).length_eq, ← eks, List.length_map]
    rw [← hkl] at fL fP
    generalize upd H2 sr (.lst ((rowsR ks).map fun p => V.ref p.1)) = H3 at D3 hsr hkt ⊢
    have nfsr : ¬ D.Foot sr := D2.notFoot nsr
    have nft : ∀ p ∈ rowsR ks, ¬ D.Foot p.1 := fun p m z => by
      have e := hkt p m
      rcases z with z | z | z
      · obtain ⟨i, e2⟩ := D3.top
        rw [← z, e] at e2
        cases e2
      · have e2 := D3.pools
        rw [← z, e] at e2
        cases e2
      · obtain ⟨x, y, z, e2⟩ := D3.at_ _ z
        rw [e] at e2
        cases e2
    generalize rowsR ks = rs at hsr hkt hko fL fP nft ⊢
    clear hkl eks hks nsr D2 s2 hd nd nl D1 fk0 fKl
    refine ⟨3, rfl, by decide, by decide, ?_⟩
    refine for_range (n := 3) (fun j σ H6 => ∃ y4 y5 y6 y7 y8 y9, σ = [some (.ref a), some (.ref D.d), some (.int n), some (.ref sr), y4, y5, y6, y7, y8, y9, none, none] ∧ DkAt H6 D ∧ H6 sr = some (.lst (rs.map fun p => V.ref p.1)) ∧ TuR H6 rs)
      ⟨_, _, _, _, _, _, rfl, D3, hsr, hkt⟩ (fun j σ H6 hj hP => ?_) (fun σ H6 hP => ?_)
    · obtain ⟨y4, y5, y6, y7, y8, y9, rfl, D6, hs6, ht6⟩ := hP
      have hll : (rs.map fun p => V.ref p.1).length = rs.length := List.length_map _
      refine ⟨_, rfl, _, rfl, _, rfl, sr, _, rfl, .inl (SqL.of hs6), D, _, rfl, D6, by rw [hll]; omega, by rw [hll]; omega, fun v H7 v0 v1 D7 k7 => ?_⟩
      rw [hll] at v1
      have hs7 := k7 _ _ hs6 nfsr
      obtain ⟨⟨t, xs⟩, ep⟩ : ∃ p, rs[v.toNat]? = some p := ⟨_, List.getElem?_eq_getElem (by omega)⟩
      have mp := List.mem_of_getElem? ep
      have ht7 := k7 _ _ (ht6 _ mp) (nft _ mp)
      have ox : IsOrd n xs := hko _ mp
      have htu7 : TuR H7 rs := fun p m => k7 _ _ (ht6 p m) (nft p m)
      refine ⟨sr, _, v, .ref t, rfl, rfl, SqL.of hs7, at_of (j := v.toNat) (by omega) (by rw [List.getElem?_map, ep]; rfl), t, _, rfl, .inr (SqT.of ht7), fun o no => ?_⟩
      have s8 := same_new (o := .lst (xs.map V.int)) no
      -- walks
      refine ⟨_, rfl, _, rfl, o, true, xs, n, rfl, upd_same, ox, hn1, hn2, fun ro H9 nro hro s9 => ?_⟩
      refine ⟨o, ro, xs, n, rfl, s9 _ _ upd_same, hro, ox, hn1, hn2, fun wa es H10 nwa hwa hen hes s10 => ?_⟩
      -- steps
      refine ⟨_, rfl, o, false, xs, n, rfl, s10 _ _ (s9 _ _ upd_same), ox, hn1, hn2, fun st H11 nst hst s11 => ?_⟩
      have ho := s11 _ _ (s10 _ _ (s9 _ _ (upd_same (H := H7) (a := o) (o := .lst (xs.map V.int)))))
      have sA := ((s8.trans s9).trans s10).trans s11
      have D11 := D7.same sA
      have hwa := s11 _ _ hwa
      have hen : EntsAt H11 es := hen.move fun b vs e => s11 _ _ e
      have hs11 := sA _ _ hs7
      have ht11 : TuR H11 rs := fun p m => sA _ _ (htu7 p m)
      have fk := wk_facts (by omega) hn1 ox
      clear s8 s9 s10 s11 nro hro nwa nst no sA hs7 htu7 ht7 D7 k7 D6 hs6 ht6
      generalize (bfsG true xs 7).1 = F at hes fk
      refine ⟨_, rfl, sr, rfl, ⟨_, SqL.of hs11⟩, ?_⟩
      refine for_it walk_list (fun i σ G => ∃ (y8 y9 : Option V), σ = [some (.ref a), some (.ref D.d), some (.int n), some (.ref sr), some (.int (0 + (j : Int))), some (.ref o), some (.ref wa), some (.ref st), y8, y9, none, none] ∧ Same H11 G)
        ⟨_, _, rfl, Same.refl _⟩ (fun i σ G _ hP => by obtain ⟨_, _, _, s⟩ := hP; exact SqL.of (s _ _ hs11)) (fun i x σ G G' hi hP hy => ?_) (fun σ G hP => ?_)
      · obtain ⟨y8, y9, rfl, sG⟩ := hP
        obtain ⟨rfl, ex⟩ := hy
        rw [List.getElem?_map] at ex
        obtain ⟨⟨c, r⟩, epr, rfl⟩ := Option.map_eq_some_iff.mp ex
        have mpr := List.mem_of_getElem? epr
        have orr : IsOrd n r := hko _ mpr
        have hh := (fk.ord r).mpr orr
        have hc := sG _ _ (ht11 _ mpr)
        obtain ⟨ee, hee, hew⟩ := hes r hh
        obtain ⟨her, hem⟩ := fnd_row hee
        obtain ⟨hea, hel⟩ := hen ee hem
        obtain ⟨x, l, hx, hmin, hl20⟩ := wk_min (by omega) fk ox orr
        obtain ⟨hhs, hsteps⟩ := steps_fact (by omega) hn1 ox orr
        -- other
        refine ⟨_, rfl, c, _, rfl, .inr (SqT.of hc), fun p np => ?_⟩
        have s1 := sG.trans (same_new (o := .lst (r.map V.int)) np)
        have hp : (upd G' p (.lst (r.map V.int))) p = some (.lst (r.map V.int)) := upd_same
        generalize upd G' p (.lst (r.map V.int)) = G1 at s1 hp ⊢
        have hc1 := s1 _ _ (ht11 _ mpr)
        -- short_walk
        refine ⟨_, rfl, _, rfl, o, p, n, xs, r, ⟨rfl, s1 _ _ ho, hp, ox, orr, hn1, by omega⟩, fun sw G2 nsw hsw s2 => ?_⟩
        have s12 := s1.trans s2
        have hc2 : G2 c = some (.tup ((r.map Sum.inl : List Key).map kV)) := by rw [kV_inl]; exact s2 _ _ hc1
        refine ⟨_, rfl, _, rfl, wa, .ref ee.a, rfl, .inr ⟨_, _, c, .inl (s12 _ _ hwa), rfl, hc2, by rw [wT_get, hee]; rfl⟩, ee.a, ee.as, x, l, rfl, SqL.of (s12 _ _ hea), by rw [← hx, ← hew]; exact hel.same s12, fun i2 b2 eb ewm => ?_⟩
        obtain ⟨w2, ew2, hb2⟩ := hel.get eb
        have hw2 : w2 = walkL (seatsL xs r) := by
          rw [hew, hx, ewm] at ew2
          rw [← Option.some.inj ew2, hmin]
        subst hw2
        refine ⟨_, _, dp_list hsw, dp_list (s12 _ _ hb2), shaped_list _, shaped_list _, _, rfl, ?_⟩
        rw [eqv_list]
        refine iteF ?_
        -- steps
        have ho2 := s12 _ _ ho
        have hp2 := s2 _ _ hp
        refine ⟨_, rfl, _, rfl, o, p, n, xs, r, ⟨rfl, ho2, hp2, ox, orr, hn1, by omega⟩, fun G3 s3 => ?_⟩
        have s13 := s12.trans s3
        have hc3 : G3 c = some (.tup ((r.map Sum.inl : List Key).map kV)) := s3 _ _ hc2
        refine ⟨_, rfl, _, rfl, st, .int (getR (bfsG false xs 7).1 r), rfl, .inr ⟨_, _, c, .inl (s13 _ _ hst), rfl, hc3, by rw [rT_get, if_pos hhs]⟩, rfl, _, rfl, iteNS (by rw [hsteps]) ?_⟩
        have hp3 := s3 _ _ hp2
        clear s1 s2 s12 s3 hp hp2 hc1 hc2 ho2 hsw hb2 nsw
        -- ends of walks
        refine ⟨_, rfl, _, rfl, wa, .ref ee.a, rfl, .inr ⟨_, _, c, .inl (s13 _ _ hwa), rfl, hc3, by rw [wT_get, hee]; rfl⟩, ee.a, rfl, ⟨_, SqL.of (s13 _ _ hea)⟩, fun D2 nD2 => ?_⟩
        refine lc_list (K := K) (a := ee.a) (xs := ee.as.map V.ref) (fun m G => G D2 = some (.lst (([] : List Int).map V.int)) ∧ Same G3 G) ⟨upd_same, same_new nD2⟩ (fun m G _ hP => SqL.of (hP.2 _ _ (s13 _ _ hea))) (fun m x G4 hx4 hP => ?_) (fun G4 hP => ?_)
        · obtain ⟨hD2, s4⟩ := hP
          obtain ⟨b, eb4, rfl⟩ := ref_at_inv hx4
          obtain ⟨w, ew4, hb⟩ := hel.get eb4
          have hdd : (getR F r).toNat = invR (seatsL r xs) := by
            have := fk.dist r orr
            omega
          have mw : w ∈ wk F (invR (seatsL r xs)) r := by
            rw [← hdd, ← hew]
            exact List.mem_of_getElem? ew4
          obtain ⟨we, wi, wl⟩ := wk_end fk.dist fk.zero _ r orr rfl w mw
          have hle := fk.le6 r orr
          have s14 := s13.trans s4
          refine ⟨rfl, _, rfl, _, rfl, o, b, n, xs, w, rfl, s14 _ _ ho, s14 _ _ hb, ox, hn1, by omega, wi, by omega, fun G5 we5 s5 nwe hwe => ?_⟩
          rw [we] at hwe
          refine ⟨_, rfl, _, _, dp_list hwe, dp_list (s5 _ _ (s4 _ _ hp3)), shaped_list _, shaped_list _, _, rfl, ?_⟩
          rw [eqv_list]
          exact ⟨s5 _ _ hD2, s4.trans s5⟩
        obtain ⟨hD2, s4⟩ := hP
        refine ⟨line_small (by show 0 ≤ 16777216; decide), fun z nz => ?_⟩
        have s5 := s4.trans (same_new (o := .lst []) nz)
        refine ⟨D2, z, [], rfl, rfl, SqL.of (same_new nz _ _ hD2), SqL.of upd_same, _, rfl, iteF ?_⟩
        have hp5 := s5 _ _ hp3
        have s15 := s13.trans s5
        generalize upd G4 z (.lst []) = G5 at s5 hp5 s15 ⊢
        clear s5 s4 hD2 nz nD2 s13 hp3 hc3
        -- rounds
        refine ⟨_, rfl, _, rfl, o, p, n, xs, r, ⟨rfl, s15 _ _ ho, hp5, ox, orr, hn1, by omega⟩, fun rl ras G6 nrl hrl hLL hfr hnd s6 => ?_⟩
        refine ⟨rl, rfl, ⟨_, SqL.of hrl⟩, fun D3 nD3 => ?_⟩
        have hlen3 := hLL.len
        refine lc_list (K := K) (a := rl) (xs := ras.map V.ref) (fun m G => G D3 = some (.lst ((((roundsL n (fol xs r)).take m).map fun q => (q.length : Int) - 1).map V.int)) ∧ Same G6 G) ⟨upd_same, same_new nD3⟩ (fun m G _ hP => SqL.of (hP.2 _ _ hrl)) (fun m x G7 hx7 hP => ?_) (fun G7 hP => ?_)
        · obtain ⟨hD3, s7⟩ := hP
          obtain ⟨b, eb7, rfl⟩ := ref_at_inv hx7
          obtain ⟨q7, eq7, hb⟩ := hLL.get eb7
          have hml := (List.getElem?_eq_some_iff.mp eq7).1
          refine ⟨rfl, _, rfl, b, _, rfl, .inl (SqL.of (s7 _ _ hb)), _, _, rfl, rfl, ?_⟩
          refine ⟨_, hD3, line_lt (by rw [List.length_map, List.length_map, List.length_take]; have := rounds_len14 n (fol xs r); omega), ?_, fun y o e => ?_⟩
          · rw [upd_same, List.take_add_one, eq7, List.map_append, List.map_append, List.length_map]
            rfl
          · rw [upd_ne (ne_of_none e nD3)]
            exact s7 _ _ e
        obtain ⟨hD3, s7⟩ := hP
        rw [List.length_map, hlen3, List.take_length] at hD3
        have s17 := (s15.trans s6).trans s7
        have hc7 : G7 c = some (.tup ((r.map Sum.inl : List Key).map kV)) := by rw [kV_inl]; exact s17 _ _ (ht11 _ mpr)
        refine ⟨D3, _, rfl, SqL.of hD3, _, rfl, _, rfl, st, .int (getR (bfsG false xs 7).1 r), rfl, .inr ⟨_, _, c, .inl (s17 _ _ hst), rfl, hc7, by rw [rT_get, if_pos hhs]⟩, rfl, _, rfl, iteNS (by rw [← hsteps]; rfl) ?_⟩
        exact ⟨_, _, rfl, s17⟩
      · obtain ⟨y8, y9, rfl, sG⟩ := hP
        exact ⟨_, _, _, _, _, _, rfl, D11.same sG, sG _ _ hs11, fun p m => sG _ _ (ht11 p m)⟩
    · obtain ⟨y4, y5, y6, y7, y8, y9, rfl, D6, _, _⟩ := hP
      exact ⟨_, _, _, _, _, _, _, _, rfl, D6⟩
end
end Fo
--LAWCALL ok_law F_law T__law_deck T__law_draw T__law_rounds T__law_walks T_short_walk T_steps_between T_walk_end T_rounds_between (ok_deck (k := 10) T__law_deck B) (ok_draw (k := 10) T__law_draw B) (ok_rnd (k := 10) T__law_rounds B) (ok_walks (k := 10) T__law_walks B) (ok_short (k := 9) T_short_walk T_check_orders T_check_fit T_seats_in T_first_turned T_exchange (ok_checks (k := 9) T_check_orders T_check_order (ok_check (k := 6) T_check_order T_is_order T_is_whole B m_MOST_THINGS)) (ok_seats (k := 8) T_seats_in T_places_in B) B) (ok_steps (k := 10) T_steps_between T_rounds_between (ok_rounds (k := 8) T_rounds_between T_check_orders T_check_fit T_followers_between T_round_from (ok_checks (k := 8) T_check_orders T_check_order (ok_check (k := 5) T_check_order T_is_order T_is_whole B m_MOST_THINGS)) B) B) (ok_walk_end (k := 7) T_walk_end T_check_order T_is_order T_is_whole T_is_walk T_exchange B m_MOST_THINGS) (ok_rounds (k := 9) T_rounds_between T_check_orders T_check_fit T_followers_between T_round_from (ok_checks (k := 9) T_check_orders T_check_order (ok_check (k := 6) T_check_order T_is_order T_is_whole B m_MOST_THINGS)) B) B
namespace Fo
open PySem PySem.Spec PyProof.Rows L2
set_option maxHeartbeats 8000000 in
theorem all_mk {l : PySem.W.OpenLaw} {w : World} {K : PySem.W.Frag} {h : Heap} {mg : Str → Option Value} {fa : Addr} (X : K.In h) (G : h.Ns mainGlobals mg) (hfa : mg "law" = some (.ref fa))
    {f0 f1 f2 f3 f4 f5 f6 f7 f8 f9 f10 f11 f12 f13 f14 f15 f16 f17 f18 f19 f20 : Addr} {od0 an0 od1 an1 od2 an2 od3 an3 od4 an4 od5 an5 od6 an6 od7 an7 od8 an8 od9 an9 od10 an10 od11 an11 od12 an12 od13 an13 od14 an14 od15 an15 od16 an16 od17 an17 od18 an18 od19 an19 od20 an20 : Option Addr} {sl0 sl1 sl2 sl3 sl4 sl5 sl6 sl7 sl8 sl9 sl10 sl11 sl12 sl13 sl14 sl15 sl16 sl17 sl18 sl19 sl20 : Array (Option Value)} {oc0 kV0 dc0 pm0 cd0 ct0 oc1 kV1 dc1 pm1 cd1 ct1 oc2 kV2 dc2 pm2 cd2 ct2 oc3 kV3 dc3 pm3 cd3 ct3 oc4 kV4 dc4 pm4 cd4 ct4 oc5 kV5 dc5 pm5 cd5 ct5 oc6 kV6 dc6 pm6 cd6 ct6 oc7 kV7 dc7 pm7 cd7 ct7 oc8 kV8 dc8 pm8 cd8 ct8 oc9 kV9 dc9 pm9 cd9 ct9 oc10 kV10 dc10 pm10 cd10 ct10 oc11 kV11 dc11 pm11 cd11 ct11 oc12 kV12 dc12 pm12 cd12 ct12 oc13 kV13 dc13 pm13 cd13 ct13 oc14 kV14 dc14 pm14 cd14 ct14 oc15 kV15 dc15 pm15 cd15 ct15 oc16 kV16 dc16 pm16 cd16 ct16 oc17 kV17 dc17 pm17 cd17 ct17 oc18 kV18 dc18 pm18 cd18 ct18 oc19 kV19 dc19 pm19 cd19 ct19 oc20 kV20 dc20 pm20 cd20 ct20 : Value} {tk_MOST_THINGS : Tok}
    (a0 : PySem.W.nsIn K mainGlobals "is_whole" = some (some (.ref f0))) (l0 : K.lookup f0 = some ⟨oc0, od0, .func (PySem.W.fnOf "is_whole" "is_whole" (defArgs s_is_whole) (defBody s_is_whole) (defScope s_is_whole) .none kV0 dc0 pm0 an0 cd0 ct0), sl0⟩) (c0 : PySem.W.codeIn K cd0 "is_whole" = true) (k0 : PySem.W.keepIn K (.ref f0) = true)
    (a1 : PySem.W.nsIn K mainGlobals "is_order" = some (some (.ref f1))) (l1 : K.lookup f1 = some ⟨oc1, od1, .func (PySem.W.fnOf "is_order" "is_order" (defArgs s_is_order) (defBody s_is_order) (defScope s_is_order) .none kV1 dc1 pm1 an1 cd1 ct1), sl1⟩) (c1 : PySem.W.codeIn K cd1 "is_order" = true) (k1 : PySem.W.keepIn K (.ref f1) = true)
    (a2 : PySem.W.nsIn K mainGlobals "check_order" = some (some (.ref f2))) (l2 : K.lookup f2 = some ⟨oc2, od2, .func (PySem.W.fnOf "check_order" "check_order" (defArgs s_check_order) (defBody s_check_order) (defScope s_check_order) .none kV2 dc2 pm2 an2 cd2 ct2), sl2⟩) (c2 : PySem.W.codeIn K cd2 "check_order" = true) (k2 : PySem.W.keepIn K (.ref f2) = true)
    (a3 : PySem.W.nsIn K mainGlobals "check_orders" = some (some (.ref f3))) (l3 : K.lookup f3 = some ⟨oc3, od3, .func (PySem.W.fnOf "check_orders" "check_orders" (defArgs s_check_orders) (defBody s_check_orders) (defScope s_check_orders) .none kV3 dc3 pm3 an3 cd3 ct3), sl3⟩) (c3 : PySem.W.codeIn K cd3 "check_orders" = true) (k3 : PySem.W.keepIn K (.ref f3) = true)
    (a4 : PySem.W.nsIn K mainGlobals "check_fit" = some (some (.ref f4))) (l4 : K.lookup f4 = some ⟨oc4, od4, .func (PySem.W.fnOf "check_fit" "check_fit" (defArgs s_check_fit) (defBody s_check_fit) (defScope s_check_fit) .none kV4 dc4 pm4 an4 cd4 ct4), sl4⟩) (c4 : PySem.W.codeIn K cd4 "check_fit" = true) (k4 : PySem.W.keepIn K (.ref f4) = true)
    (a5 : PySem.W.nsIn K mainGlobals "places_in" = some (some (.ref f5))) (l5 : K.lookup f5 = some ⟨oc5, od5, .func (PySem.W.fnOf "places_in" "places_in" (defArgs s_places_in) (defBody s_places_in) (defScope s_places_in) .none kV5 dc5 pm5 an5 cd5 ct5), sl5⟩) (c5 : PySem.W.codeIn K cd5 "places_in" = true) (k5 : PySem.W.keepIn K (.ref f5) = true)
    (a6 : PySem.W.nsIn K mainGlobals "seats_in" = some (some (.ref f6))) (l6 : K.lookup f6 = some ⟨oc6, od6, .func (PySem.W.fnOf "seats_in" "seats_in" (defArgs s_seats_in) (defBody s_seats_in) (defScope s_seats_in) .none kV6 dc6 pm6 an6 cd6 ct6), sl6⟩) (c6 : PySem.W.codeIn K cd6 "seats_in" = true) (k6 : PySem.W.keepIn K (.ref f6) = true)
    (a7 : PySem.W.nsIn K mainGlobals "is_walk" = some (some (.ref f7))) (l7 : K.lookup f7 = some ⟨oc7, od7, .func (PySem.W.fnOf "is_walk" "is_walk" (defArgs s_is_walk) (defBody s_is_walk) (defScope s_is_walk) .none kV7 dc7 pm7 an7 cd7 ct7), sl7⟩) (c7 : PySem.W.codeIn K cd7 "is_walk" = true) (k7 : PySem.W.keepIn K (.ref f7) = true)
    (a8 : PySem.W.nsIn K mainGlobals "walk_end" = some (some (.ref f8))) (l8 : K.lookup f8 = some ⟨oc8, od8, .func (PySem.W.fnOf "walk_end" "walk_end" (defArgs s_walk_end) (defBody s_walk_end) (defScope s_walk_end) .none kV8 dc8 pm8 an8 cd8 ct8), sl8⟩) (c8 : PySem.W.codeIn K cd8 "walk_end" = true) (k8 : PySem.W.keepIn K (.ref f8) = true)
    (a9 : PySem.W.nsIn K mainGlobals "exchange" = some (some (.ref f9))) (l9 : K.lookup f9 = some ⟨oc9, od9, .func (PySem.W.fnOf "exchange" "exchange" (defArgs s_exchange) (defBody s_exchange) (defScope s_exchange) .none kV9 dc9 pm9 an9 cd9 ct9), sl9⟩) (c9 : PySem.W.codeIn K cd9 "exchange" = true) (k9 : PySem.W.keepIn K (.ref f9) = true)
    (a10 : PySem.W.nsIn K mainGlobals "short_walk" = some (some (.ref f10))) (l10 : K.lookup f10 = some ⟨oc10, od10, .func (PySem.W.fnOf "short_walk" "short_walk" (defArgs s_short_walk) (defBody s_short_walk) (defScope s_short_walk) .none kV10 dc10 pm10 an10 cd10 ct10), sl10⟩) (c10 : PySem.W.codeIn K cd10 "short_walk" = true) (k10 : PySem.W.keepIn K (.ref f10) = true)
    (a11 : PySem.W.nsIn K mainGlobals "first_turned" = some (some (.ref f11))) (l11 : K.lookup f11 = some ⟨oc11, od11, .func (PySem.W.fnOf "first_turned" "first_turned" (defArgs s_first_turned) (defBody s_first_turned) (defScope s_first_turned) .none kV11 dc11 pm11 an11 cd11 ct11), sl11⟩) (c11 : PySem.W.codeIn K cd11 "first_turned" = true) (k11 : PySem.W.keepIn K (.ref f11) = true)
    (a12 : PySem.W.nsIn K mainGlobals "rounds_between" = some (some (.ref f12))) (l12 : K.lookup f12 = some ⟨oc12, od12, .func (PySem.W.fnOf "rounds_between" "rounds_between" (defArgs s_rounds_between) (defBody s_rounds_between) (defScope s_rounds_between) .none kV12 dc12 pm12 an12 cd12 ct12), sl12⟩) (c12 : PySem.W.codeIn K cd12 "rounds_between" = true) (k12 : PySem.W.keepIn K (.ref f12) = true)
    (a13 : PySem.W.nsIn K mainGlobals "followers_between" = some (some (.ref f13))) (l13 : K.lookup f13 = some ⟨oc13, od13, .func (PySem.W.fnOf "followers_between" "followers_between" (defArgs s_followers_between) (defBody s_followers_between) (defScope s_followers_between) .none kV13 dc13 pm13 an13 cd13 ct13), sl13⟩) (c13 : PySem.W.codeIn K cd13 "followers_between" = true) (k13 : PySem.W.keepIn K (.ref f13) = true)
    (a14 : PySem.W.nsIn K mainGlobals "round_from" = some (some (.ref f14))) (l14 : K.lookup f14 = some ⟨oc14, od14, .func (PySem.W.fnOf "round_from" "round_from" (defArgs s_round_from) (defBody s_round_from) (defScope s_round_from) .none kV14 dc14 pm14 an14 cd14 ct14), sl14⟩) (c14 : PySem.W.codeIn K cd14 "round_from" = true) (k14 : PySem.W.keepIn K (.ref f14) = true)
    (a15 : PySem.W.nsIn K mainGlobals "steps_between" = some (some (.ref f15))) (l15 : K.lookup f15 = some ⟨oc15, od15, .func (PySem.W.fnOf "steps_between" "steps_between" (defArgs s_steps_between) (defBody s_steps_between) (defScope s_steps_between) .none kV15 dc15 pm15 an15 cd15 ct15), sl15⟩) (c15 : PySem.W.codeIn K cd15 "steps_between" = true) (k15 : PySem.W.keepIn K (.ref f15) = true)
    (a16 : PySem.W.nsIn K mainGlobals "_law_deck" = some (some (.ref f16))) (l16 : K.lookup f16 = some ⟨oc16, od16, .func (PySem.W.fnOf "_law_deck" "_law_deck" (defArgs s_law_deck) (defBody s_law_deck) (defScope s_law_deck) .none kV16 dc16 pm16 an16 cd16 ct16), sl16⟩) (c16 : PySem.W.codeIn K cd16 "_law_deck" = true) (k16 : PySem.W.keepIn K (.ref f16) = true)
    (a17 : PySem.W.nsIn K mainGlobals "_law_draw" = some (some (.ref f17))) (l17 : K.lookup f17 = some ⟨oc17, od17, .func (PySem.W.fnOf "_law_draw" "_law_draw" (defArgs s_law_draw) (defBody s_law_draw) (defScope s_law_draw) .none kV17 dc17 pm17 an17 cd17 ct17), sl17⟩) (c17 : PySem.W.codeIn K cd17 "_law_draw" = true) (k17 : PySem.W.keepIn K (.ref f17) = true)
    (a18 : PySem.W.nsIn K mainGlobals "_law_rounds" = some (some (.ref f18))) (l18 : K.lookup f18 = some ⟨oc18, od18, .func (PySem.W.fnOf "_law_rounds" "_law_rounds" (defArgs s_law_rounds) (defBody s_law_rounds) (defScope s_law_rounds) .none kV18 dc18 pm18 an18 cd18 ct18), sl18⟩) (c18 : PySem.W.codeIn K cd18 "_law_rounds" = true) (k18 : PySem.W.keepIn K (.ref f18) = true)
    (a19 : PySem.W.nsIn K mainGlobals "_law_walks" = some (some (.ref f19))) (l19 : K.lookup f19 = some ⟨oc19, od19, .func (PySem.W.fnOf "_law_walks" "_law_walks" (defArgs s_law_walks) (defBody s_law_walks) (defScope s_law_walks) .none kV19 dc19 pm19 an19 cd19 ct19), sl19⟩) (c19 : PySem.W.codeIn K cd19 "_law_walks" = true) (k19 : PySem.W.keepIn K (.ref f19) = true)
    (a20 : PySem.W.nsIn K mainGlobals "law" = some (some (.ref f20))) (l20 : K.lookup f20 = some ⟨oc20, od20, .func (PySem.W.fnOf "law" "law" (defArgs s_law) (defBody s_law) (defScope s_law) .none kV20 dc20 pm20 an20 cd20 ct20), sl20⟩) (c20 : PySem.W.codeIn K cd20 "law" = true) (k20 : PySem.W.keepIn K (.ref f20) = true)
    (g_MOST_THINGS : PySem.W.nsIn K mainGlobals "MOST_THINGS" = some (some (.int 12 tk_MOST_THINGS)))
    (z_ValueError : PySem.W.nsIn K mainGlobals "ValueError" = some none)
    (z_all : PySem.W.nsIn K mainGlobals "all" = some none)
    (z_bool : PySem.W.nsIn K mainGlobals "bool" = some none)
    (z_enumerate : PySem.W.nsIn K mainGlobals "enumerate" = some none)
    (z_int : PySem.W.nsIn K mainGlobals "int" = some none)
    (z_isinstance : PySem.W.nsIn K mainGlobals "isinstance" = some none)
    (z_len : PySem.W.nsIn K mainGlobals "len" = some none)
    (z_list : PySem.W.nsIn K mainGlobals "list" = some none)
    (z_max : PySem.W.nsIn K mainGlobals "max" = some none)
    (z_min : PySem.W.nsIn K mainGlobals "min" = some none)
    (z_range : PySem.W.nsIn K mainGlobals "range" = some none)
    (z_sorted : PySem.W.nsIn K mainGlobals "sorted" = some none)
    (z_sum : PySem.W.nsIn K mainGlobals "sum" = some none)
    (z_tuple : PySem.W.nsIn K mainGlobals "tuple" = some none)
    (z_zip : PySem.W.nsIn K mainGlobals "zip" = some none)
    : ∃ fd : FuncData, (∀ (s : Shared) (v : Value), BindsTo s fd ⟨[v], []⟩ [("script", v)]) ∧ ∀ base : Heap, K.In base → base.Ns mainGlobals mg → FnOk l.prog w K mg base CX0 12 fa fd ["script"] (spLaw K) := by
  have e := hfa.symm.trans (PySem.W.mg_of X G a20)
  cases e
  have F0 := fun_mk (st := s_is_whole) l0 c0 k0
  have F1 := fun_mk (st := s_is_order) l1 c1 k1
  have F2 := fun_mk (st := s_check_order) l2 c2 k2
  have F3 := fun_mk (st := s_check_orders) l3 c3 k3
  have F4 := fun_mk (st := s_check_fit) l4 c4 k4
  have F5 := fun_mk (st := s_places_in) l5 c5 k5
  have F6 := fun_mk (st := s_seats_in) l6 c6 k6
  have F7 := fun_mk (st := s_is_walk) l7 c7 k7
  have F8 := fun_mk (st := s_walk_end) l8 c8 k8
  have F9 := fun_mk (st := s_exchange) l9 c9 k9
  have F10 := fun_mk (st := s_short_walk) l10 c10 k10
  have F11 := fun_mk (st := s_first_turned) l11 c11 k11
  have F12 := fun_mk (st := s_rounds_between) l12 c12 k12
  have F13 := fun_mk (st := s_followers_between) l13 c13 k13
  have F14 := fun_mk (st := s_round_from) l14 c14 k14
  have F15 := fun_mk (st := s_steps_between) l15 c15 k15
  have F16 := fun_mk (st := s_law_deck) l16 c16 k16
  have F17 := fun_mk (st := s_law_draw) l17 c17 k17
  have F18 := fun_mk (st := s_law_rounds) l18 c18 k18
  have F19 := fun_mk (st := s_law_walks) l19 c19 k19
  have F20 := fun_mk (st := s_law) l20 c20 k20
  have T_is_whole : Df K mg "is_whole" s_is_whole ["thing"] f0 _ := ⟨F0, F0.binds (ps := ["thing"]) (fun _ _ _ _ _ _ us hl => match us, hl with | [_], _ => rfl), PySem.W.mg_of X G a0⟩
  have T_is_order : Df K mg "is_order" s_is_order ["thing"] f1 _ := ⟨F1, F1.binds (ps := ["thing"]) (fun _ _ _ _ _ _ us hl => match us, hl with | [_], _ => rfl), PySem.W.mg_of X G a1⟩
  have T_check_order : Df K mg "check_order" s_check_order ["thing"] f2 _ := ⟨F2, F2.binds (ps := ["thing"]) (fun _ _ _ _ _ _ us hl => match us, hl with | [_], _ => rfl), PySem.W.mg_of X G a2⟩
  have T_check_orders : Df K mg "check_orders" s_check_orders ["one", "other"] f3 _ := ⟨F3, F3.binds (ps := ["one", "other"]) (fun _ _ _ _ _ _ us hl => match us, hl with | [_, _], _ => rfl), PySem.W.mg_of X G a3⟩
  have T_check_fit : Df K mg "check_fit" s_check_fit ["one", "other"] f4 _ := ⟨F4, F4.binds (ps := ["one", "other"]) (fun _ _ _ _ _ _ us hl => match us, hl with | [_, _], _ => rfl), PySem.W.mg_of X G a4⟩
  have T_places_in : Df K mg "places_in" s_places_in ["order"] f5 _ := ⟨F5, F5.binds (ps := ["order"]) (fun _ _ _ _ _ _ us hl => match us, hl with | [_], _ => rfl), PySem.W.mg_of X G a5⟩
  have T_seats_in : Df K mg "seats_in" s_seats_in ["one", "other"] f6 _ := ⟨F6, F6.binds (ps := ["one", "other"]) (fun _ _ _ _ _ _ us hl => match us, hl with | [_, _], _ => rfl), PySem.W.mg_of X G a6⟩
  have T_is_walk : Df K mg "is_walk" s_is_walk ["thing", "n"] f7 _ := ⟨F7, F7.binds (ps := ["thing", "n"]) (fun _ _ _ _ _ _ us hl => match us, hl with | [_, _], _ => rfl), PySem.W.mg_of X G a7⟩
  have T_walk_end : Df K mg "walk_end" s_walk_end ["order", "walk"] f8 _ := ⟨F8, F8.binds (ps := ["order", "walk"]) (fun _ _ _ _ _ _ us hl => match us, hl with | [_, _], _ => rfl), PySem.W.mg_of X G a8⟩
  have T_exchange : Df K mg "exchange" s_exchange ["row", "place"] f9 _ := ⟨F9, F9.binds (ps := ["row", "place"]) (fun _ _ _ _ _ _ us hl => match us, hl with | [_, _], _ => rfl), PySem.W.mg_of X G a9⟩
  have T_short_walk : Df K mg "short_walk" s_short_walk ["one", "other"] f10 _ := ⟨F10, F10.binds (ps := ["one", "other"]) (fun _ _ _ _ _ _ us hl => match us, hl with | [_, _], _ => rfl), PySem.W.mg_of X G a10⟩
  have T_first_turned : Df K mg "first_turned" s_first_turned ["seats"] f11 _ := ⟨F11, F11.binds (ps := ["seats"]) (fun _ _ _ _ _ _ us hl => match us, hl with | [_], _ => rfl), PySem.W.mg_of X G a11⟩
  have T_rounds_between : Df K mg "rounds_between" s_rounds_between ["one", "other"] f12 _ := ⟨F12, F12.binds (ps := ["one", "other"]) (fun _ _ _ _ _ _ us hl => match us, hl with | [_, _], _ => rfl), PySem.W.mg_of X G a12⟩
  have T_followers_between : Df K mg "followers_between" s_followers_between ["one", "other"] f13 _ := ⟨F13, F13.binds (ps := ["one", "other"]) (fun _ _ _ _ _ _ us hl => match us, hl with | [_, _], _ => rfl), PySem.W.mg_of X G a13⟩
  have T_round_from : Df K mg "round_from" s_round_from ["thing", "followers"] f14 _ := ⟨F14, F14.binds (ps := ["thing", "followers"]) (fun _ _ _ _ _ _ us hl => match us, hl with | [_, _], _ => rfl), PySem.W.mg_of X G a14⟩
  have T_steps_between : Df K mg "steps_between" s_steps_between ["one", "other"] f15 _ := ⟨F15, F15.binds (ps := ["one", "other"]) (fun _ _ _ _ _ _ us hl => match us, hl with | [_, _], _ => rfl), PySem.W.mg_of X G a15⟩
  have T__law_deck : Df K mg "_law_deck" s_law_deck ["script"] f16 _ := ⟨F16, F16.binds (ps := ["script"]) (fun _ _ _ _ _ _ us hl => match us, hl with | [_], _ => rfl), PySem.W.mg_of X G a16⟩
  have T__law_draw : Df K mg "_law_draw" s_law_draw ["deck", "many"] f17 _ := ⟨F17, F17.binds (ps := ["deck", "many"]) (fun _ _ _ _ _ _ us hl => match us, hl with | [_, _], _ => rfl), PySem.W.mg_of X G a17⟩
  have T__law_rounds : Df K mg "_law_rounds" s_law_rounds ["order", "neighbours"] f18 _ := ⟨F18, F18.binds (ps := ["order", "neighbours"]) (fun _ _ _ _ _ _ us hl => match us, hl with | [_, _], _ => rfl), PySem.W.mg_of X G a18⟩
  have T__law_walks : Df K mg "_law_walks" s_law_walks ["order", "rounds"] f19 _ := ⟨F19, F19.binds (ps := ["order", "rounds"]) (fun _ _ _ _ _ _ us hl => match us, hl with | [_, _], _ => rfl), PySem.W.mg_of X G a19⟩
  have B : Bi mg := ⟨PySem.W.mg_none_of X G z_ValueError, PySem.W.mg_none_of X G z_all, PySem.W.mg_none_of X G z_bool, PySem.W.mg_none_of X G z_enumerate, PySem.W.mg_none_of X G z_int, PySem.W.mg_none_of X G z_isinstance, PySem.W.mg_none_of X G z_len, PySem.W.mg_none_of X G z_list, PySem.W.mg_none_of X G z_max, PySem.W.mg_none_of X G z_min, PySem.W.mg_none_of X G z_range, PySem.W.mg_none_of X G z_sorted, PySem.W.mg_none_of X G z_sum, PySem.W.mg_none_of X G z_tuple, PySem.W.mg_none_of X G z_zip⟩
  have m_MOST_THINGS := PySem.W.mg_of X G g_MOST_THINGS
  exact ⟨PySem.W.fnOf "law" "law" (defArgs s_law) (defBody s_law) (defScope s_law) .none kV20 dc20 pm20 an20 cd20 ct20, fun s v => .of_eq rfl, fun base _ _ => ok_law F20 T__law_deck T__law_draw T__law_rounds T__law_walks T_short_walk T_steps_between T_walk_end T_rounds_between (ok_deck (k := 10) T__law_deck B) (ok_draw (k := 10) T__law_draw B) (ok_rnd (k := 10) T__law_rounds B) (ok_walks (k := 10) T__law_walks B) (ok_short (k := 9) T_short_walk T_check_orders T_check_fit T_seats_in T_first_turned T_exchange (ok_checks (k := 9) T_check_orders T_check_order (ok_check (k := 6) T_check_order T_is_order T_is_whole B m_MOST_THINGS)) (ok_seats (k := 8) T_seats_in T_places_in B) B) (ok_steps (k := 10) T_steps_between T_rounds_between (ok_rounds (k := 8) T_rounds_between T_check_orders T_check_fit T_followers_between T_round_from (ok_checks (k := 8) T_check_orders T_check_order (ok_check (k := 5) T_check_order T_is_order T_is_whole B m_MOST_THINGS)) B) B) (ok_walk_end (k := 7) T_walk_end T_check_order T_is_order T_is_whole T_is_walk T_exchange B m_MOST_THINGS) (ok_rounds (k := 9) T_rounds_between T_check_orders T_check_fit T_followers_between T_round_from (ok_checks (k := 9) T_check_orders T_check_order (ok_check (k := 6) T_check_order T_is_order T_is_whole B m_MOST_THINGS)) B) B⟩
end Fo
open PySem PySem.W PyProof.Rows
set_option maxRecDepth 100000 in
set_option maxHeartbeats 0 in
theorem PySem.Challenge.cw_farorders_k14_whole_walks_of_few_things_holds : PySem.Challenge.rw_farorders_k14_whole_walks_of_few_things.Holds := by
  w_on; o_law; k_head; (case hw => w_witness2)
  k_fill
  refine L2.walk_of (l := PySem.Challenge.rw_farorders_k14_whole_walks_of_few_things) (n := 63) (k := 12) (x := "script") (CX := fun _ => L2.CX0) (sp := fun w => Fo.spLaw _) rfl (by decide) rfl ⟨rfl, by decide, by decide⟩ (fun w h Y => PySem.W.kIn_of Y) ?F (fun _ _ a ns hl _ hS => ⟨a, ns, rfl, hS, hl, fun _ => rfl⟩) (fun _ _ _ _ _ h => h)
  case F =>
    intro w mg fa h KX G hmg
    refine' Fo.all_mk KX G hmg ?a0 ?l0 ?c0 ?k0 ?a1 ?l1 ?c1 ?k1 ?a2 ?l2 ?c2 ?k2 ?a3 ?l3 ?c3 ?k3 ?a4 ?l4 ?c4 ?k4 ?a5 ?l5 ?c5 ?k5 ?a6 ?l6 ?c6 ?k6 ?a7 ?l7 ?c7 ?k7 ?a8 ?l8 ?c8 ?k8 ?a9 ?l9 ?c9 ?k9 ?a10 ?l10 ?c10 ?k10 ?a11 ?l11 ?c11 ?k11 ?a12 ?l12 ?c12 ?k12 ?a13 ?l13 ?c13 ?k13 ?a14 ?l14 ?c14 ?k14 ?a15 ?l15 ?c15 ?k15 ?a16 ?l16 ?c16 ?k16 ?a17 ?l17 ?c17 ?k17 ?a18 ?l18 ?c18 ?k18 ?a19 ?l19 ?c19 ?k19 ?a20 ?l20 ?c20 ?k20 ?g_MOST_THINGS ?z_ValueError ?z_all ?z_bool ?z_enumerate ?z_int ?z_isinstance ?z_len ?z_list ?z_max ?z_min ?z_range ?z_sorted ?z_sum ?z_tuple ?z_zip
    (case a0 => k_is); (case l0 => k_is); (case c0 => k_is); (case k0 => k_is); (case a1 => k_is); (case l1 => k_is); (case c1 => k_is); (case k1 => k_is); (case a2 => k_is); (case l2 => k_is); (case c2 => k_is); (case k2 => k_is); (case a3 => k_is); (case l3 => k_is); (case c3 => k_is); (case k3 => k_is); (case a4 => k_is); (case l4 => k_is); (case c4 => k_is); (case k4 => k_is); (case a5 => k_is); (case l5 => k_is); (case c5 => k_is); (case k5 => k_is); (case a6 => k_is); (case l6 => k_is); (case c6 => k_is); (case k6 => k_is); (case a7 => k_is); (case l7 => k_is); (case c7 => k_is); (case k7 => k_is); (case a8 => k_is); (case l8 => k_is); (case c8 => k_is); (case k8 => k_is); (case a9 => k_is); (case l9 => k_is); (case c9 => k_is); (case k9 => k_is); (case a10 => k_is); (case l10 => k_is); (case c10 => k_is); (case k10 => k_is); (case a11 => k_is); (case l11 => k_is); (case c11 => k_is); (case k11 => k_is); (case a12 => k_is); (case l12 => k_is); (case c12 => k_is); (case k12 => k_is); (case a13 => k_is); (case l13 => k_is); (case c13 => k_is); (case k13 => k_is); (case a14 => k_is); (case l14 => k_is); (case c14 => k_is); (case k14 => k_is); (case a15 => k_is); (case l15 => k_is); (case c15 => k_is); (case k15 => k_is); (case a16 => k_is); (case l16 => k_is); (case c16 => k_is); (case k16 => k_is); (case a17 => k_is); (case l17 => k_is); (case c17 => k_is); (case k17 => k_is); (case a18 => k_is); (case l18 => k_is); (case c18 => k_is); (case k18 => k_is); (case a19 => k_is); (case l19 => k_is); (case c19 => k_is); (case k19 => k_is); (case a20 => k_is); (case l20 => k_is); (case c20 => k_is); (case k20 => k_is); (case g_MOST_THINGS => k_is); (case z_ValueError => k_is); (case z_all => k_is); (case z_bool => k_is); (case z_enumerate => k_is); (case z_int => k_is); (case z_isinstance => k_is); (case z_len => k_is); (case z_list => k_is); (case z_max => k_is); (case z_min => k_is); (case z_range => k_is); (case z_sorted => k_is); (case z_sum => k_is); (case z_tuple => k_is); (case z_zip => k_is)

