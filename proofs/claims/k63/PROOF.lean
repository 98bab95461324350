import PyProof.Rows.All
import Wide.All
import OpenK.AllK
import Wide.FinOn
import HandS.ForMost
import HandS.IsInst
import HandS.Conv
import HandS.Style
import HandS.More
import HandS.Evl
import HandS.Zip
import HandS.SetFor
import HandS.Sort
import HandS.Wide
import HandS.Deep
import KE.SortData
import PySem.Challenge.RW_farorders_k63_sums_to_polls
set_option Elab.async false
set_option linter.all false
set_option maxRecDepth 100000
namespace Fo
open PySem PySem.Spec PyProof.Rows L2
/-! ### lists and orders -/
def rg (n : Nat) : List Int := (List.range n).map fun k => ((k : Nat) : Int)
def IsOrd (n : Nat) (ns : List Int) : Prop := ns.Perm (rg n)
theorem rg_len (n : Nat) : (rg n).length = n := by
  unfold rg
  rw [List.length_map, List.length_range]
theorem rg_mem {n : Nat} {x : Int} : x ∈ rg n ↔ 0 ≤ x ∧ x < n := by
  unfold rg
  rw [List.mem_map]
  constructor
  · rintro ⟨k, hk, rfl⟩
    have := List.mem_range.mp hk
    omega
  · rintro ⟨h0, h1⟩
    exact ⟨x.toNat, List.mem_range.mpr (by omega), by omega⟩
theorem rg_nodup (n : Nat) : (rg n).Nodup := by
  unfold rg
  exact List.Pairwise.map _ (fun a b h e => h (by omega)) List.nodup_range
theorem rg_sorted (n : Nat) : (rg n).Pairwise (· ≤ ·) := by
  unfold rg
  exact List.Pairwise.map _ (fun a b h => by omega) List.pairwise_lt_range
theorem rg_V (n : Nat) : rgV 0 (n : Int) = (rg n).map V.int := by
  unfold rgV rg
  rw [List.map_map, show ((n : Int) - 0).toNat = n by omega]
  apply List.map_congr_left
  intro a _
  show V.int (0 + (a : Int)) = V.int (a : Int)
  rw [Int.zero_add]
theorem IsOrd.len {n : Nat} {ns : List Int} (h : IsOrd n ns) : ns.length = n := (List.Perm.length_eq h).trans (rg_len n)
theorem IsOrd.mem {n : Nat} {ns : List Int} (h : IsOrd n ns) {x : Int} (m : x ∈ ns) : 0 ≤ x ∧ x < n := rg_mem.mp ((List.Perm.mem_iff h).mp m)
theorem IsOrd.nodup {n : Nat} {ns : List Int} (h : IsOrd n ns) : ns.Nodup := (List.Perm.nodup_iff h).mpr (rg_nodup n)
/-- two sorted lists of the same things are one -/
theorem sorted_eq : ∀ {a b : List Int}, a.Perm b → a.Pairwise (· ≤ ·) → b.Pairwise (· ≤ ·) → a = b := by
  intro a b hp ha hb
  exact List.Perm.eq_of_pairwise (fun x y _ _ h1 h2 => by omega) ha hb hp
/-- the things at p and p + 1 change places -/
def sw (xs : List Int) (p : Nat) : List Int := (xs.set p (xs.getD (p + 1) 0)).set (p + 1) (xs.getD p 0)
theorem split2 : ∀ {xs : List Int} {p : Nat}, p + 1 < xs.length → ∃ A a b B, xs = A ++ a :: b :: B ∧ A.length = p
  | [], p, h => by simp at h
  | [_], p, h => by simp at h
  | a :: b :: r, 0, _ => ⟨[], a, b, r, rfl, rfl⟩
  | a :: b :: r, p + 1, h => by
    obtain ⟨A, x, y, B, e, l⟩ := split2 (xs := b :: r) (p := p) (by simpa using h)
    exact ⟨a :: A, x, y, B, by rw [e]; rfl, by rw [List.length_cons, l]⟩
theorem sw_at : ∀ (A : List Int) (a b : Int) (B : List Int), sw (A ++ a :: b :: B) A.length = A ++ b :: a :: B
  | [], a, b, B => rfl
  | x :: A, a, b, B => by
    have ih := sw_at A a b B
    unfold sw at ih ⊢
    show x :: _ = x :: _
    exact congrArg (x :: ·) ih
theorem sw_perm {xs : List Int} {p : Nat} (h : p + 1 < xs.length) : (sw xs p).Perm xs := by
  obtain ⟨A, a, b, B, rfl, rfl⟩ := split2 h
  rw [sw_at]
  exact List.Perm.append_left A (List.Perm.swap a b B)
theorem sw_len (xs : List Int) (p : Nat) : (sw xs p).length = xs.length := by
  unfold sw
  rw [List.length_set, List.length_set]
theorem sw_ord {n : Nat} {xs : List Int} {p : Nat} (o : IsOrd n xs) (h : p + 1 < n) : IsOrd n (sw xs p) :=
  (sw_perm (by rw [o.len]; exact h)).trans o
theorem sw_V {xs : List Int} {p : Nat} {a b : Int} (ha : xs[p]? = some a) (hb : xs[p + 1]? = some b) : ((xs.map V.int).set p (V.int b)).set (p + 1) (V.int a) = (sw xs p).map V.int := by
  unfold sw
  rw [List.getD_eq_getElem?_getD, List.getD_eq_getElem?_getD, ha, hb, List.map_set, List.map_set]
  rfl
theorem pop_ins {xs : List Int} {p : Nat} {a : Int} (h : p + 1 < xs.length) (ha : xs[p]? = some a) : (xs.eraseIdx p).take (p + 1) ++ [a] ++ (xs.eraseIdx p).drop (p + 1) = sw xs p := by
  obtain ⟨A, x, y, B, rfl, rfl⟩ := split2 h
  have ex : x = a := by
    rw [List.getElem?_append_right (Nat.le_refl _), Nat.sub_self] at ha
    exact Option.some.inj ha
  subst ex
  rw [sw_at, List.eraseIdx_append_of_length_le (Nat.le_refl _), Nat.sub_self]
  show (A ++ y :: B).take (A.length + 1) ++ [x] ++ (A ++ y :: B).drop (A.length + 1) = _
  rw [List.take_append, List.drop_append]
  have t : A.length + 1 - A.length = 1 := by omega
  rw [t, List.take_of_length_le (by omega), List.drop_of_length_le (by omega)]
  simp
/-- the order at a walk's end -/
def wEnd (xs : List Int) (ws : List Int) : List Int := ws.foldl (fun x p => sw x p.toNat) xs
theorem wEnd_more {xs ws : List Int} {i : Nat} {p : Int} (h : ws[i]? = some p) : wEnd xs (ws.take (i + 1)) = sw (wEnd xs (ws.take i)) p.toNat := by
  unfold wEnd
  rw [List.take_add_one, h, List.foldl_append]
  rfl
theorem wEnd_ord {n : Nat} {xs : List Int} (o : IsOrd n xs) : ∀ {ws : List Int}, (∀ p ∈ ws, 0 ≤ p ∧ p + 1 < n) → IsOrd n (wEnd xs ws) := by
  intro ws
  induction ws generalizing xs with
  | nil => intro _; exact o
  | cons p ws ih =>
    intro h
    have hp := h p List.mem_cons_self
    exact ih (sw_ord o (by omega)) fun q hq => h q (List.mem_cons_of_mem _ hq)
theorem nodup_len : ∀ {l m : List Int}, l.Nodup → (∀ x ∈ l, x ∈ m) → l.length ≤ m.length
  | [], m, _, _ => Nat.zero_le _
  | a :: l, m, hn, hs => by
    obtain ⟨h1, h2⟩ := List.nodup_cons.mp hn
    have ha := hs a List.mem_cons_self
    have ih := nodup_len (l := l) (m := m.erase a) h2 fun x hx => by
      have ne : x ≠ a := fun e => h1 (by rw [← e]; exact hx)
      exact (List.mem_erase_of_ne ne).mpr (hs x (List.mem_cons_of_mem _ hx))
    rw [List.length_erase_of_mem ha] at ih
    have : 0 < m.length := List.length_pos_of_mem ha
    rw [List.length_cons]
    omega
theorem int_at {ns : List Int} {i : Nat} {x : Int} (h : ns[i]? = some x) : (ns.map V.int)[i]? = some (V.int x) := by
  rw [List.getElem?_map, h]
  rfl
theorem int_at_inv {ns : List Int} {i : Nat} {v : V} (h : (ns.map V.int)[i]? = some v) : ∃ x, ns[i]? = some x ∧ v = V.int x := by
  rw [List.getElem?_map] at h
  cases e : ns[i]? with
  | none => rw [e] at h; cases h
  | some x => rw [e] at h; exact ⟨x, rfl, (Option.some.inj h).symm⟩
theorem line_small {n : Nat} (h : n ≤ 16777216) : n ≤ sizeLine := by rw [sizeLine_eq]; exact h
theorem line_lt {n : Nat} (h : n < 16777216) : n < sizeLine := by rw [sizeLine_eq]; exact h
/-! ### data of ints -/
theorem dp_ints {K : PySem.W.Frag} {H : Hp} : ∀ ns : List Int, DpAll K H (ns.map V.int) (ns.map PyData.int)
  | [] => .nil
  | n :: r => .cons (.int n) (dp_ints r)
theorem dp_list {K : PySem.W.Frag} {H : Hp} {a : Addr} {ns : List Int} (h : H a = some (.lst (ns.map V.int))) : Dp K H (.ref a) (.list (ns.map PyData.int)) := .lst (SqL.of h) (dp_ints ns)
theorem eqv_int (i j : Int) : PyData.eqv (.int i) (.int j) = (i == j) := rfl
end Fo
namespace Fo
open PySem PySem.Spec PyProof.Rows L2
abbrev dI (ns : List Int) : List PyData := ns.map PyData.int
abbrev dL (ns : List Int) : PyData := .list (dI ns)
abbrev dLL (l : List (List Int)) : PyData := .list (l.map dL)
theorem lay_ints : ∀ ns : List Int, PyData.canLayAll0 (dI ns) = true
  | [] => rfl
  | n :: r => by
    show (PyData.canLay0 (.int n) && PyData.canLayAll0 (dI r)) = true
    rw [lay_ints r]
    rfl
theorem depth_ints : ∀ ns : List Int, PyData.depthAll (dI ns) = 0
  | [] => by simp [PyData.depthAll]
  | n :: r => by
    show PyData.depthAll (.int n :: dI r) = 0
    rw [PyData.depthAll, depth_ints r]
    simp [PyData.depth]
theorem lay_list (ns : List Int) : PyData.canLay0 (dL ns) = true := by
  rw [PyData.canLay0]
  exact lay_ints ns
theorem depth_list (ns : List Int) : PyData.depth (dL ns) = 1 := by
  rw [PyData.depth, depth_ints]
theorem shaped_list (ns : List Int) : SeqAt.shaped (dL ns) = true := by
  unfold SeqAt.shaped
  rw [lay_list, depth_list]
  rfl
theorem lay_lists : ∀ l : List (List Int), PyData.canLayAll0 (l.map dL) = true
  | [] => rfl
  | n :: r => by
    show (PyData.canLay0 (dL n) && PyData.canLayAll0 (r.map dL)) = true
    rw [lay_lists r, lay_list]
    rfl
theorem depth_lists : ∀ l : List (List Int), PyData.depthAll (l.map dL) ≤ 1
  | [] => by simp [PyData.depthAll]
  | n :: r => by
    show PyData.depthAll (dL n :: r.map dL) ≤ 1
    rw [PyData.depthAll, depth_list]
    have := depth_lists r
    omega
theorem shaped_lists (l : List (List Int)) : SeqAt.shaped (dLL l) = true := by
  unfold SeqAt.shaped
  rw [Bool.and_eq_true_iff]
  constructor
  · rw [PyData.canLay0]
    exact lay_lists l
  · apply decide_eq_true
    rw [PyData.depth]
    have := depth_lists l
    omega
theorem eqv_list (ns : List Int) : PyData.eqv (dL ns) (dL ns) = true := SeqAt.eqv_refl _ (lay_list ns)
theorem eqv_lists (l : List (List Int)) : PyData.eqv (dLL l) (dLL l) = true := SeqAt.eqv_refl _ (SeqAt.canLay_of_shaped (shaped_lists l))
theorem eqvAll_ints : ∀ a b : List Int, PyData.eqvAll (dI a) (dI b) = decide (a = b)
  | [], [] => by simp [PyData.eqvAll]
  | [], _ :: _ => by simp [PyData.eqvAll]
  | _ :: _, [] => by simp [PyData.eqvAll]
  | x :: a, y :: b => by
    show PyData.eqvAll (.int x :: dI a) (.int y :: dI b) = _
    rw [PyData.eqvAll, eqvAll_ints a b]
    show ((x == y) && decide (a = b)) = decide (x :: a = y :: b)
    by_cases h : x = y
    · subst h
      simp
    · simp [h]
theorem eqv_ints (a b : List Int) : PyData.eqv (dL a) (dL b) = decide (a = b) := by
  rw [PyData.eqv]
  exact eqvAll_ints a b
end Fo
namespace Fo
open PySem PySem.Spec PyProof.Rows L2
/-! ### slices of ints -/
def cutI (ws : List Int) (lo hi : Option Int) : List Int := (ws.drop (HT.sIx ws.length 0 lo)).take (HT.sIx ws.length ws.length hi - HT.sIx ws.length 0 lo)
theorem cut_ints (ws : List Int) (lo hi : Option Int) : cutV (ws.map V.int) lo hi = (cutI ws lo hi).map V.int := by
  unfold cutV cutI
  rw [List.length_map, List.map_take, List.map_drop]
theorem cutI_mem {ws : List Int} {lo hi : Option Int} {x : Int} (h : x ∈ cutI ws lo hi) : x ∈ ws := List.mem_of_mem_drop (List.mem_of_mem_take h)
theorem cutI_len (ws : List Int) (lo hi : Option Int) : (cutI ws lo hi).length ≤ ws.length := by
  unfold cutI
  rw [List.length_take, List.length_drop]
  omega
theorem cutI_head (ws : List Int) (k : Nat) : cutI ws none (some (k : Int)) = ws.take k := by
  unfold cutI
  rw [HT.sIx_none, HT.sIx_nat, List.drop_zero, Nat.sub_zero]
  by_cases h : k ≤ ws.length
  · rw [Nat.min_eq_left h]
  · rw [Nat.min_eq_right (by omega), List.take_length, List.take_of_length_le (by omega)]
theorem cutI_tail (ws : List Int) (k : Nat) : cutI ws (some (k : Int)) none = ws.drop k := by
  unfold cutI
  rw [HT.sIx_none, HT.sIx_nat]
  by_cases h : k ≤ ws.length
  · rw [Nat.min_eq_left h, List.take_of_length_le (by rw [List.length_drop]; exact Nat.le_refl _)]
  · rw [Nat.min_eq_right (by omega), List.drop_of_length_le (Nat.le_refl _), List.drop_of_length_le (by omega), List.take_nil]
end Fo
namespace Fo
open PySem PySem.Spec PyProof.Rows L2
/-! ### the text -/
def topS (i : Nat) : Stmt := PySem.Challenge.pw_farorders_k63_sums_to_polls.main.body.getD i (.Pass ⟨0, 0, 0, 0⟩)
abbrev s_OrderError : Stmt := topS 1
abbrev s_NoOrder : Stmt := topS 2
abbrev s_NoWay : Stmt := topS 3
abbrev s_NoFit : Stmt := topS 4
abbrev s_is_whole : Stmt := topS 7
abbrev s_check_way : Stmt := topS 8
abbrev s_is_order : Stmt := topS 11
abbrev s_check_order : Stmt := topS 12
abbrev s_check_fit : Stmt := topS 13
abbrev s_is_order_list : Stmt := topS 14
abbrev s_places_in : Stmt := topS 15
abbrev s_seats_in : Stmt := topS 16
abbrev s_known_far : Stmt := topS 17
abbrev s_far_by_swap : Stmt := topS 18
abbrev s_far_by_spot : Stmt := topS 19
abbrev s_far_by_shift : Stmt := topS 20
abbrev s_check_poll : Stmt := topS 23
abbrev s_poll_sum : Stmt := topS 24
abbrev s_known_sum : Stmt := topS 25
abbrev s_law_cell_at : Stmt := topS 27
abbrev s_law_stir : Stmt := topS 28
abbrev s_law_deck : Stmt := topS 29
abbrev s_law_next : Stmt := topS 30
abbrev s_law_order : Stmt := topS 31
abbrev s_law_near : Stmt := topS 32
abbrev s_law_poll : Stmt := topS 33
abbrev s_law_places : Stmt := topS 34
abbrev s_law_far : Stmt := topS 35
abbrev s_law_whole : Stmt := topS 36
abbrev s_law_copied : Stmt := topS 37
abbrev s_law : Stmt := topS 38
/-- a def of the text, where it stands -/
structure Df (K : PySem.W.Frag) (mg : Str → Option Value) (x : Str) (st : Stmt) (ps : List Str) (f : Addr) (fd : FuncData) : Prop where
  F : Fun K x x st f fd
  b : Binds K fd ps []
  g : mg x = some (.ref f)
/-- the built-in names as they were -/
structure Bi (mg : Str → Option Value) : Prop where
  abs : mg "abs" = none
  all : mg "all" = none
  bool : mg "bool" = none
  enumerate : mg "enumerate" = none
  int : mg "int" = none
  isinstance : mg "isinstance" = none
  len : mg "len" = none
  list : mg "list" = none
  max : mg "max" = none
  min : mg "min" = none
  range : mg "range" = none
  sorted : mg "sorted" = none
  str : mg "str" = none
  sum : mg "sum" = none
  zip : mg "zip" = none
end Fo
namespace Fo
open PySem PySem.Spec PyProof.Rows L2
theorem same_new {H : Hp} {p : Addr} {o : HO} (h : H p = none) : Same H (upd H p o) := fun b x e => by
  rw [upd_ne (ne_of_none e h)]
  exact e
theorem at2_0 {x y : V} : atI [x, y] 0 = some x := rfl
theorem at2_1 {x y : V} : atI [x, y] 1 = some y := rfl
end Fo
namespace Fo
open PySem PySem.Spec PyProof.Rows L2
theorem pop_perm : ∀ {xs : List Int} {k : Nat} {y : Int}, xs[k]? = some y → (y :: xs.eraseIdx k).Perm xs
  | [], k, y, h => by simp at h
  | a :: r, 0, y, h => by
    have e : a = y := Option.some.inj h
    subst e
    exact List.Perm.refl _
  | a :: r, k + 1, y, h => by
    have ih := pop_perm (xs := r) (k := k) (y := y) h
    show (y :: a :: r.eraseIdx k).Perm (a :: r)
    exact (List.Perm.swap a y _).trans (List.Perm.cons a ih)
theorem map_erase : ∀ (xs : List Int) (k : Nat), (xs.map V.int).eraseIdx k = (xs.eraseIdx k).map V.int
  | [], k => rfl
  | a :: r, 0 => rfl
  | a :: r, k + 1 => congrArg (V.int a :: ·) (map_erase r k)
/-- what len asks of a list or a tuple -/
abbrev rLenS (K : PySem.W.Frag) : List V → Hp → VK → Prop := fun xs H Q => ∃ p ys, xs = [.ref p] ∧ (SqL K H p ys ∨ SqT K H p ys) ∧ Q (.int ys.length) H
theorem seq_ix {i : Int} {k n : Nat} (e : i = (k : Int)) (h : k < n) : seqIndex? i n = some k := by
  subst e
  unfold seqIndex?
  have h1 : ¬ ((k : Int) < 0) := by omega
  simp only [h1, if_false]
  have h2 : (decide ((0 : Int) ≤ (k : Int)) && decide ((k : Int) < (n : Int))) = true := by
    simp
    omega
  rw [if_pos h2, Int.toNat_natCast]
theorem ix_n {i : Int} {k n : Nat} (e : i = (k : Int)) (h : k < n) : ixN n i = some k := by
  subst e
  unfold ixN
  rw [if_pos (by omega), if_pos (by omega), Int.toNat_natCast]
end Fo
namespace Fo
open PySem PySem.Spec PyProof.Rows L2
abbrev rMax2 : List V → Hp → VK → Prop := fun xs H Q => ∃ i j, xs = [.int i, .int j] ∧ Q (.int (if j > i then j else i)) H
abbrev rMin2 : List V → Hp → VK → Prop := fun xs H Q => ∃ i j, xs = [.int i, .int j] ∧ Q (.int (if j < i then j else i)) H
abbrev rInt1 : List V → Hp → VK → Prop := fun xs H Q => (∃ i, xs = [.int i] ∧ Q (.int i) H) ∨ ∃ k, xs = [.bl k] ∧ Q (.int (if k then 1 else 0)) H
theorem filter_more {l : List Int} {m : Nat} {x : Int} (p : Int → Bool) (h : l[m]? = some x) : (l.take (m + 1)).filter p = (l.take m).filter p ++ (if p x then [x] else []) := by
  rw [List.take_add_one, h, List.filter_append]
  show _ ++ List.filter p [x] = _
  rw [List.filter_cons]
  rfl
end Fo
namespace Fo
open PySem PySem.Spec PyProof.Rows L2
/-! ### a deck: a list of drawn numbers that never gets empty -/
def DqAt (H : Hp) (d : Addr) : Prop := ∃ ms : List Int, H d = some (.lst (ms.map V.int)) ∧ 1 ≤ ms.length ∧ ms.length ≤ 1000 ∧ ∀ m ∈ ms, 0 ≤ m ∧ m < 2147483648
def KeepD (d : Addr) (H H' : Hp) : Prop := ∀ b o, H b = some o → b ≠ d → H' b = some o
theorem KeepD.refl (d : Addr) (H : Hp) : KeepD d H H := fun _ _ e _ => e
theorem KeepD.trans {d : Addr} {H H1 H2 : Hp} (a : KeepD d H H1) (b : KeepD d H1 H2) : KeepD d H H2 := fun c o e f => b c o (a c o e f) f
theorem KeepD.of_same {d : Addr} {H H' : Hp} (h : Same H H') : KeepD d H H' := fun b o e _ => h b o e
theorem KeepD.new {d : Addr} {H : Hp} {p : Addr} {o : HO} (e : H p = none) : KeepD d H (upd H p o) := KeepD.of_same (same_new e)
theorem KeepD.none {d : Addr} {H H1 : Hp} (k : KeepD d H H1) {p : Addr} (np : H1 p = none) (nf : p ≠ d) : H p = none := by
  cases e : H p with
  | none => rfl
  | some o =>
    have z := k p o e nf
    rw [np] at z
    cases z
theorem DqAt.same {H H' : Hp} {d : Addr} (h : DqAt H d) (s : Same H H') : DqAt H' d := by
  obtain ⟨ms, e, r⟩ := h
  exact ⟨ms, s _ _ e, r⟩
theorem DqAt.ne {H : Hp} {d : Addr} (h : DqAt H d) {p : Addr} (e : H p = none) : p ≠ d := by
  obtain ⟨ms, e1, _⟩ := h
  exact (ne_of_none e1 e).symm
theorem DqAt.upd {H : Hp} {d : Addr} (h : DqAt H d) {p : Addr} {o : HO} (n1 : p ≠ d) : DqAt (upd H p o) d := by
  obtain ⟨ms, e, r⟩ := h
  exact ⟨ms, by rw [upd_ne n1.symm]; exact e, r⟩
theorem DqAt.new {H : Hp} {d : Addr} (h : DqAt H d) {p : Addr} {o : HO} (e : H p = none) : DqAt (L2.upd H p o) d := h.upd (h.ne e)
def spCell (K : PySem.W.Frag) : Sp := fun vs H Q _ => ∃ (a : Addr) (ns : List Int) (k : Nat), vs = [.ref a, .int k] ∧ SqL K H a (ns.map V.int) ∧ ∀ (v : Int), Q (.int v) H
def spStir : Sp := fun vs H Q _ => ∃ (c k : Int), vs = [.int c, .int k] ∧ 0 ≤ k ∧ k ≤ 1000 ∧ ∀ (v : Int), 0 ≤ v → v < 2147483648 → Q (.int v) H
def spDeckN : Sp := fun vs H Q _ => ∃ (c : Int) (many : Nat), vs = [.int c, .int many] ∧ 1 ≤ many ∧ many ≤ 1000 ∧ ∀ (d : Addr) (H' : Hp), H d = none → DqAt H' d → Same H H' → Q (.ref d) H'
def spNext : Sp := fun vs H Q _ => ∃ (d : Addr), vs = [.ref d] ∧ DqAt H d ∧ ∀ (v : Int) (H' : Hp), 0 ≤ v → v < 2147483648 → DqAt H' d → KeepD d H H' → Q (.int v) H'
def spOrderN : Sp := fun vs H Q _ => ∃ (d : Addr) (n : Nat), vs = [.ref d, .int n] ∧ DqAt H d ∧ n ≤ 12 ∧
  ∀ (ns : List Int) (l : Addr) (H' : Hp), IsOrd n ns → H l = none → H' l = some (.lst (ns.map V.int)) → l ≠ d → DqAt H' d → KeepD d H H' → Q (.ref l) H'
def spNearN : Sp := fun vs H Q _ => ∃ (d o : Addr) (n : Nat) (ns : List Int), vs = [.ref d, .ref o] ∧ DqAt H d ∧ H o = some (.lst (ns.map V.int)) ∧ IsOrd n ns ∧ 1 ≤ n ∧ n ≤ 12 ∧
  ∀ (ms : List Int) (l : Addr) (H' : Hp), IsOrd n ms → H l = none → H' l = some (.lst (ms.map V.int)) → l ≠ d → DqAt H' d → KeepD d H H' → Q (.ref l) H'
theorem mod_b (x : Int) {m : Int} (h : 0 < m) : 0 ≤ x % m ∧ x % m < m := ⟨Int.emod_nonneg x (by omega), Int.emod_lt_of_pos x h⟩
theorem mul_b {x y a b : Int} (hx : 0 ≤ x) (hxa : x ≤ a) (hy : 0 ≤ y) (hyb : y ≤ b) : 0 ≤ x * y ∧ x * y ≤ a * b := ⟨Int.mul_nonneg hx hy, Int.mul_le_mul hxa hyb hy (by omega)⟩
section
variable {P : Program} {w : World} {K : PySem.W.Frag} {mg : Str → Option Value} {base : Heap}
theorem scCell : FnScope ["script", "k"] ["script", "k"] (defScope s_law_cell_at) := ⟨rfl, rfl, rfl, by decide +kernel, rfl, by decide +kernel, by decide +kernel⟩
theorem ok_cell {f : Addr} {fd : FuncData} {k : Nat} (T : Df K mg "_law_cell_at" s_law_cell_at ["script", "k"] f fd) (B : Bi mg) : FnOk P w K mg base CX0 (k + 1) f fd ["script", "k"] (spCell K) := by
  refine T.F.ok scCell (fun vs H Q E h => ?_) (fun cdv A outer s H vs Q E hr h => ?_)
  · obtain ⟨a, ns, k, rfl, _⟩ := h
    rfl
  · obtain ⟨a, ns, k, rfl, hS, q⟩ := h
    refine ⟨_, 
      (pss_cons (ps_if (pt_cmpR op_lt (pv 1) (pe_callB call_len_seq (by rfl) B.len PySem.boot_len (pa_cons (pv 0) pa_nil)) (nomark _))
        (pss_one (ps_ret (pe_ix ix_list (pv 0) (pv 1) (fun _ _ => rfl))))
        pss_nil)
      (pss_one (ps_ret pe_int))), ?_⟩
    refine ⟨_, rfl, _, rfl, a, _, rfl, .inl hS, (k : Int), _, rfl, rfl, _, rfl, ite2 (fun c => ?_) (fun _ => q 0)⟩
    have hl : (k : Int) < (((ns.map V.int).length : Nat) : Int) := of_decide_eq_true c
    rw [List.length_map] at hl
    exact ⟨_, rfl, _, rfl, a, _, _, _, rfl, rfl, hS, at_of (j := k) rfl (int_at (List.getElem?_eq_getElem (show k < ns.length by omega))), q _⟩
theorem scStir : FnScope ["cell", "k", "one"] ["cell", "k"] (defScope s_law_stir) := ⟨rfl, rfl, rfl, by decide +kernel, rfl, by decide +kernel, by decide +kernel⟩
theorem ok_stir {f : Addr} {fd : FuncData} {k : Nat} (T : Df K mg "_law_stir" s_law_stir ["cell", "k"] f fd) (B : Bi mg) : FnOk P w K mg base CX0 (k + 1) f fd ["cell", "k"] spStir := by
  refine T.F.ok scStir (fun vs H Q E h => ?_) (fun cdv A outer s H vs Q E hr h => ?_)
  · obtain ⟨c, k, rfl, _⟩ := h
    rfl
  · obtain ⟨c, k, rfl, k0, k1, q⟩ := h
    refine ⟨_, 
      (Evl.pss_cut (ps_set (i := 2) scStir.nd rfl (.inl rfl) (pe_op op_mod (pe_op op_mul (pe_op op_add (pe_op op_add (pe_op op_mod (pv 0) pe_int) (pe_op op_mul pe_int (pv 1))) pe_int) pe_int) pe_int))
      (Evl.pss_cut (ps_set (i := 2) scStir.nd rfl (.inl rfl) (pe_op op_mod (pe_op op_mul (pv 2) (pv 2)) pe_int))
      (pss_one (ps_ret (pe_op op_fdiv (pe_op op_mod (pe_op op_mul (pe_op op_add (pv 2) (pe_op op_mul pe_int (pv 1))) pe_int) pe_int) pe_int))))), ?_⟩
    refine ⟨fun τ G => ∃ x : Int, 0 ≤ x ∧ x < 2147483647 ∧ τ = [some (.int c), some (.int k), some (.int x)] ∧ G = H, ?_, fun τ G hM => ?_⟩
    · exact ⟨_, rfl, c, 2147483629, rfl, rfl, (show (0 : Int) < 2147483629 by decide), _, rfl, 9973, k, rfl, rfl, .inl ⟨by decide, by decide⟩, _, _, rfl, rfl, _, 5, rfl, rfl, _, 48271, rfl, rfl, .inr ⟨by decide, by decide⟩, _, 2147483647, rfl, rfl, (show (0 : Int) < 2147483647 by decide), _, (mod_b _ (by decide)).1, (mod_b _ (by decide)).2, rfl, rfl⟩
    obtain ⟨x, x0, x1, rfl, e1⟩ := hM
    subst e1
    refine ⟨fun τ G' => ∃ y : Int, 0 ≤ y ∧ y < 2147483587 ∧ τ = [some (.int c), some (.int k), some (.int y)] ∧ G' = G, ?_, fun τ G' hM => ?_⟩
    · exact ⟨_, rfl, _, rfl, x, x, rfl, rfl, .inl ⟨by omega, by omega⟩, _, 2147483587, rfl, rfl, (show (0 : Int) < 2147483587 by decide), _, (mod_b _ (by decide)).1, (mod_b _ (by decide)).2, rfl, rfl⟩
    obtain ⟨y, y0, y1, rfl, e1⟩ := hM
    subst e1
    have h1 := mod_b ((y + 7919 * k) * 16807) (m := 2147483563) (by decide)
    exact ⟨_, rfl, _, rfl, 7919, k, rfl, rfl, .inl ⟨by decide, by decide⟩, _, _, rfl, rfl, _, 16807, rfl, rfl, .inr ⟨by decide, by decide⟩, _, 2147483563, rfl, rfl, (show (0 : Int) < 2147483563 by decide), _, 8, rfl, rfl, ⟨by decide, by decide⟩, q _ (by omega) (by omega)⟩
theorem scDeckN : FnScope ["cell", "many", "found", "digits", "k", "number"] ["cell", "many"] (defScope s_law_deck) := ⟨rfl, rfl, rfl, by decide +kernel, rfl, by decide +kernel, by decide +kernel⟩
set_option maxHeartbeats 2000000 in
theorem ok_deckN {f fS : Addr} {fd fdS : FuncData} {k : Nat} (T : Df K mg "_law_deck" s_law_deck ["cell", "many"] f fd) (T__law_stir : Df K mg "_law_stir" s_law_stir ["cell", "k"] fS fdS) (B : Bi mg) : FnOk P w K mg base CX0 (k + 2) f fd ["cell", "many"] spDeckN := by
  have G__law_stir : FnOk P w K mg base CX0 (k + 1) fS fdS ["cell", "k"] spStir := ok_stir T__law_stir B
  refine T.F.ok scDeckN (fun vs H Q E h => ?_) (fun cdv A outer s H vs Q E hr h => ?_)
  · obtain ⟨c, m, rfl, _⟩ := h
    rfl
  · obtain ⟨c, m, rfl, m1, m2, q⟩ := h
    refine ⟨_, 
      (pss_cons (ps_set (i := 2) scDeckN.nd rfl (.inl rfl) (pe_lst pa_nil))
      (pss_cons (ps_set (i := 3) scDeckN.nd rfl (.inl rfl) (pv 0))
      (pss_cons (ps_for PassesOwn.never rfl (pi_range1 (by rfl) B.range (pa_cons (pv 1) pa_nil)) (pg_name (i := 4) scDeckN.nd rfl (.inl rfl))
        (pss_cons (ps_set (i := 5) scDeckN.nd rfl (.inl rfl) (pe_call G__law_stir hr (by rfl) T__law_stir.g T__law_stir.F.kp T__law_stir.b .nil pass0 (pa_cons (pv 0) (pa_cons (pv 4) pa_nil))))
        (Evl.pss_cut (ps_if (pt_cmpR op_ge (pv 0) (pe_op op_pow pe_int pe_int) (nomark _))
          (pss_one (ps_set (i := 5) scDeckN.nd rfl (.inl rfl) (pe_op op_mod (pv 3) pe_int)))
          pss_nil)
        (pss_cons (ps_set (i := 3) scDeckN.nd rfl (.inl rfl) (pe_op op_fdiv (pv 3) pe_int))
        (pss_one (ps_expr (pe_bm PySem.F.plainAttrs_list PySem.F.slot_list_append PySem.F.type_list_append mt_append (pv 2) (pa_cons (pv 5) pa_nil))))))))
      (pss_one (ps_ret (pe_revL (pv 2))))))), ?_⟩
    refine ⟨line_small (by show 0 ≤ 16777216; decide), fun l nl => ⟨_, rfl, ?_⟩⟩
    refine ⟨_, rfl, m, rfl, by omega, by omega, ?_⟩
    rw [Int.toNat_natCast]
    refine for_range (n := m) (fun i σ H3 => ∃ (x : Int) (y4 y5 : Option V) (ms : List Int), σ = [some (.int c), some (.int m), some (.ref l), some (.int x), y4, y5] ∧ H3 l = some (.lst (ms.map V.int)) ∧ ms.length = i ∧ (∀ z ∈ ms, 0 ≤ z ∧ z < 2147483648) ∧ Same H H3)
      ⟨c, none, none, [], rfl, upd_same, rfl, (fun _ h => absurd h List.not_mem_nil), same_new nl⟩ (fun i σ H3 hi hP => ?_) (fun σ H3 hP => ?_)
    · obtain ⟨x, y4, y5, ms, rfl, hl3, el, hb, s3⟩ := hP
      refine ⟨_, rfl, _, rfl, c, _, rfl, by omega, by omega, fun v v0 v1 => ?_⟩
      refine ⟨fun τ G => ∃ z : Int, 0 ≤ z ∧ z < 2147483648 ∧ τ = [some (.int c), some (.int m), some (.ref l), some (.int x), some (.int (0 + (i : Int))), some (.int z)] ∧ G = H3, ?_, fun τ G hM => ?_⟩
      · refine ⟨_, rfl, 10, 18, rfl, rfl, ⟨by decide, by decide, by decide⟩, c, _, rfl, rfl, _, rfl, ite2 (fun _ => ?_) (fun _ => ⟨v, v0, v1, rfl, rfl⟩)⟩
        have h1 := mod_b x (m := 720720) (by decide)
        exact ⟨_, rfl, x, 720720, rfl, rfl, (show (0 : Int) < 720720 by decide), _, h1.1, by omega, rfl, rfl⟩
      obtain ⟨z, z0, z1, rfl, e1⟩ := hM
      subst e1
      refine ⟨_, rfl, x, 720720, rfl, rfl, ⟨by decide, by decide⟩, ?_⟩
      refine ⟨_, rfl, .inl ⟨rfl, _, SqL.of hl3⟩, _, rfl, l, _, _, rfl, rfl, hl3, line_lt (by rw [List.length_map]; omega), ?_⟩
      refine ⟨_, _, _, ms ++ [z], rfl, by rw [upd_same, List.map_append]; rfl, by rw [List.length_append, el]; rfl, fun u hu => ?_, fun b o e => ?_⟩
      · rcases List.mem_append.mp hu with h | h
        · exact hb u h
        · rw [List.mem_singleton.mp h]
          exact ⟨z0, z1⟩
      · rw [upd_ne (ne_of_none e nl)]
        exact s3 _ _ e
    · obtain ⟨x, y4, y5, ms, rfl, hl3, el, hb, s3⟩ := hP
      refine ⟨_, rfl, l, _, rfl, SqL.of hl3, fun p np => ?_⟩
      have hHp : H p = none := by
        cases e : H p with
        | none => rfl
        | some o =>
          have z := s3 p o e
          rw [np] at z
          cases z
      refine q p _ hHp ⟨ms.reverse, by rw [upd_same, List.map_reverse], by rw [List.length_reverse]; omega, by rw [List.length_reverse]; omega, fun z hz => hb z (List.mem_reverse.mp hz)⟩ (s3.trans (same_new np))
theorem scNext : FnScope ["deck"] ["deck"] (defScope s_law_next) := ⟨rfl, rfl, rfl, by decide +kernel, rfl, by decide +kernel, by decide +kernel⟩
set_option maxHeartbeats 2000000 in
theorem ok_next {f fS : Addr} {fd fdS : FuncData} {k : Nat} (T : Df K mg "_law_next" s_law_next ["deck"] f fd) (T__law_stir : Df K mg "_law_stir" s_law_stir ["cell", "k"] fS fdS) (B : Bi mg) : FnOk P w K mg base CX0 (k + 2) f fd ["deck"] spNext := by
  have G__law_stir : FnOk P w K mg base CX0 (k + 1) fS fdS ["cell", "k"] spStir := ok_stir T__law_stir B
  refine T.F.ok scNext (fun vs H Q E h => ?_) (fun cdv A outer s H vs Q E hr h => ?_)
  · obtain ⟨d, rfl, _⟩ := h
    rfl
  · obtain ⟨d, rfl, ⟨ms, hd, l1, l2, hb⟩, q⟩ := h
    refine ⟨_, 
      (Evl.pss_cut (ps_if (pt_cmpR op_eq (pe_callB call_len_seq (by rfl) B.len PySem.boot_len (pa_cons (pv 0) pa_nil)) pe_int (nomark _))
        (pss_one (ps_expr (pe_bm PySem.F.plainAttrs_list PySem.F.slot_list_insert PySem.F.type_list_insert mt_insert (pv 0) (pa_cons pe_int (pa_cons (pe_op op_mul (pe_call G__law_stir hr (by rfl) T__law_stir.g T__law_stir.F.kp T__law_stir.b .nil pass0 (pa_cons (pe_ix ix_list (pv 0) pe_int (fun _ _ => rfl)) (pa_cons pe_int pa_nil))) (pe_callTy call_int1 (by rfl) B.int (by decide +kernel) (pa_cons (pe_cmpR op_gt (pe_ix ix_list (pv 0) pe_int (fun _ _ => rfl)) pe_int (nomark _)) pa_nil))) pa_nil)))))
        pss_nil)
      (pss_one (ps_ret (pe_bm0 PySem.F.plainAttrs_list PySem.F.slot_list_pop PySem.F.type_list_pop mt_pop (pv 0))))), ?_⟩
    refine ⟨fun τ G => ∃ ks : List Int, τ = [some (.ref d)] ∧ G d = some (.lst (ks.map V.int)) ∧ 2 ≤ ks.length ∧ ks.length ≤ 1000 ∧ (∀ z ∈ ks, 0 ≤ z ∧ z < 2147483648) ∧ KeepD d H G, ?_, fun τ G hM => ?_⟩
    · refine ⟨_, rfl, d, _, rfl, .inl (SqL.of hd), rfl, _, rfl, ite2 (fun c => ?_) (fun c => ?_)⟩
      · have hl : ms.length = 1 := by
          have z : V.int (((ms.map V.int).length : Nat) : Int) = V.int 1 := of_decide_eq_true c
          have z2 : (((ms.map V.int).length : Nat) : Int) = 1 := V.int.inj z
          rw [List.length_map] at z2
          omega
        obtain ⟨x, rfl⟩ := List.length_eq_one_iff.mp hl
        have hx := hb x List.mem_cons_self
        refine ⟨_, rfl, .inl ⟨rfl, _, SqL.of hd⟩, _, rfl, d, _, 0, _, rfl, rfl, SqL.of hd, rfl, x, 7, rfl, by decide, by decide, fun v v0 v1 => ⟨_, rfl, d, _, 0, _, rfl, rfl, SqL.of hd, rfl, x, 0, rfl, rfl, .inr ⟨_, rfl, v, _, rfl, rfl, .inl ⟨by omega, by omega⟩, ?_⟩⟩⟩
        refine ⟨d, _, 0, _, rfl, rfl, hd, line_lt (by show 1 < 16777216; decide), by decide, by decide, ?_⟩
        obtain ⟨u, eu, u0, u1⟩ : ∃ u : Int, v * (if decide ((0 : Int) < x) = true then 1 else 0) = u ∧ 0 ≤ u ∧ u < 2147483648 := by
          by_cases c : (0 : Int) < x
          · rw [decide_eq_true c, if_pos rfl, Int.mul_one]
            exact ⟨v, rfl, v0, v1⟩
          · rw [decide_eq_false c, if_neg (by decide), Int.mul_zero]
            exact ⟨0, rfl, by decide, by decide⟩
        refine ⟨[u, x], rfl, ?_, by show 2 ≤ 2; decide, by show 2 ≤ 1000; decide, fun z hz => ?_, fun b o e nb => by rw [upd_ne nb]; exact e⟩
        · rw [upd_same]
          dsimp only
          rw [eu]
          rfl
        · rcases List.mem_cons.mp hz with rfl | hz
          · exact ⟨u0, u1⟩
          · rw [List.mem_singleton.mp hz]
            exact hx
      · refine ⟨ms, rfl, hd, ?_, l2, hb, KeepD.refl _ _⟩
        by_cases e : ms.length = 1
        · exfalso
          apply c
          apply decide_eq_true
          rw [List.length_map, e]
          rfl
        · omega
    obtain ⟨ks, rfl, hk, l3, l4, hb3, kp⟩ := hM
    obtain ⟨y, ey⟩ : ∃ y, ks[ks.length - 1]? = some y := ⟨ks[ks.length - 1]'(by omega), List.getElem?_eq_getElem (by omega)⟩
    have hy := hb3 y (List.mem_of_getElem? ey)
    refine ⟨_, rfl, .inl ⟨rfl, _, SqL.of hk⟩, d, _, _, rfl, rfl, hk, by rw [List.length_map]; exact int_at ey, ?_⟩
    refine q y _ hy.1 hy.2 ⟨ks.dropLast, by rw [upd_same, List.map_dropLast], by rw [List.length_dropLast]; omega, by rw [List.length_dropLast]; omega, fun z hz => hb3 z ((List.dropLast_prefix ks).subset hz)⟩ (kp.trans fun b o e nb => by rw [upd_ne nb]; exact e)
end
end Fo
namespace Fo
open PySem PySem.Spec PyProof.Rows L2
theorem ins_perm (xs : List Int) (k : Nat) (y : Int) : (xs.take k ++ [y] ++ xs.drop k).Perm (y :: xs) := by
  rw [List.append_assoc]
  have h1 : (xs.take k ++ ([y] ++ xs.drop k)).Perm ([y] ++ (xs.take k ++ xs.drop k)) := by
    rw [← List.append_assoc, ← List.append_assoc]
    exact List.Perm.append_right _ List.perm_append_comm
  rw [List.take_append_drop] at h1
  exact h1
theorem set2_perm {xs : List Int} {p q : Nat} {a b : Int} (ha : xs[p]? = some a) (hb : xs[q]? = some b) : ((xs.set p b).set q a).Perm xs := by
  obtain ⟨h1, e1⟩ := List.getElem?_eq_some_iff.mp ha
  obtain ⟨h2, e2⟩ := List.getElem?_eq_some_iff.mp hb
  rw [← e1, ← e2]
  exact List.set_set_perm h1 h2
theorem set2_V (xs : List Int) (p q : Nat) (a b : Int) : ((xs.map V.int).set p (V.int b)).set q (V.int a) = ((xs.set p b).set q a).map V.int := by
  rw [List.map_set, List.map_set]
section
variable {P : Program} {w : World} {K : PySem.W.Frag} {mg : Str → Option Value} {base : Heap}
theorem scOrderN : FnScope ["deck", "n", "left", "thing"] ["deck", "n"] (defScope s_law_order) := ⟨rfl, rfl, rfl, by decide +kernel, rfl, by decide +kernel, by decide +kernel⟩
set_option maxHeartbeats 4000000 in
theorem ok_orderN {f fD : Addr} {fd fdD : FuncData} {k : Nat} (T : Df K mg "_law_order" s_law_order ["deck", "n"] f fd) (T__law_next : Df K mg "_law_next" s_law_next ["deck"] fD fdD) (G__law_next : FnOk P w K mg base CX0 k fD fdD ["deck"] spNext) (B : Bi mg) : FnOk P w K mg base CX0 (k + 1) f fd ["deck", "n"] spOrderN := by
  refine T.F.ok scOrderN (fun vs H Q E h => ?_) (fun cdv A outer s H vs Q E hr h => ?_)
  · obtain ⟨D, n, rfl, _⟩ := h
    rfl
  · obtain ⟨d, n, rfl, hD, hn2, q⟩ := h
    refine ⟨_, 
      (pss_cons (ps_set (i := 2) scOrderN.nd rfl (.inr rfl) (pe_listRg rfl (by rfl) B.list (prg_1 (by rfl) B.range (pv 1))))
      (pss_one (ps_ret (pe_lc (own := [("thing", 3)]) (g := (gName 3)) (tt := tYes) (te := (tBM K "list" rPopAt (tVar 2) (tCons (tOp (rI (fun _ j => 0 < j) fun i j => .int (i % j)) (tCall spNext [] E0 (tCons (tVar 0) tNil)) (tCB (rLenS K) (tCons (tVar 2) tNil))) tNil))) rfl scOrderN.nd (pi_range1 (by rfl) B.range (pa_cons (pv 1) pa_nil)) (blkOk_by (N := ["deck", "n", "left", "thing"]) (sc := defScope s_law_order) (by decide +kernel)) (fun _ _ _ _ _ => (pg_name (i := 3) scOrderN.nd rfl (.inl rfl))) (fun _ _ _ _ _ => pts_nil) (fun _ _ _ _ _ => (pe_bm PySem.F.plainAttrs_list PySem.F.slot_list_pop PySem.F.type_list_pop mt_popAt (pv 2) (pa_cons (pe_op op_mod (pe_call G__law_next hr (by rfl) T__law_next.g T__law_next.F.kp T__law_next.b .nil pass0 (pa_cons (pv 0) pa_nil)) (pe_callB call_len_seq (by rfl) B.len PySem.boot_len (pa_cons (pv 2) pa_nil))) pa_nil))))))), ?_⟩
    refine ⟨_, rfl, n, rfl, RgOk.of_le (by omega) (by omega) (by omega) (by omega), fun l nl => ?_⟩
    have hl0 : (upd H l (.lst (rgV 0 (n : Int)))) l = some (.lst ((rg n).map V.int)) := by rw [upd_same, rg_V]
    have D0 := hD.new (o := .lst (rgV 0 (n : Int))) nl
    have nf := hD.ne nl
    have k0 : KeepD d H (upd H l (.lst (rgV 0 (n : Int)))) := KeepD.new nl
    refine ⟨_, rfl, n, rfl, by omega, by omega, ?_⟩
    rw [Int.toNat_natCast]
    intro p np
    have npf := D0.ne np
    have lp : l ≠ p := ne_of_none hl0 np
    refine lc_range (lo := 0) (n := n) (fun i H3 => ∃ (rest acc : List Int), (acc ++ rest).Perm (rg n) ∧ acc.length = i ∧ H3 l = some (.lst (rest.map V.int)) ∧ H3 p = some (.lst (acc.map V.int)) ∧ DqAt H3 d ∧ ∀ b o, H b = some o → b ≠ d → H3 b = some o)
      ⟨rg n, [], List.Perm.refl _, rfl, by rw [upd_ne lp]; exact hl0, upd_same, D0.new np, fun b o e f => by rw [upd_ne (ne_of_none (k0 b o e f) np)]; exact k0 b o e f⟩ (fun i H3 hi hP => ?_) (fun H3 hP => ?_)
    · obtain ⟨rest, acc, hperm, el, hl3, hp3, D3, kp3⟩ := hP
      have hlen : rest.length = n - i := by
        have := List.Perm.length_eq hperm
        rw [List.length_append, rg_len] at this
        omega
      have hlm : (rest.map V.int).length = rest.length := List.length_map _
      refine ⟨rfl, ?_⟩
      refine ⟨_, rfl, .inl ⟨rfl, _, SqL.of hl3⟩, _, rfl, d, rfl, D3, fun v H4 v0 v1 D4 k4 => ?_⟩
      have hl4 := k4 l _ hl3 nf
      have hp4 := k4 p _ hp3 npf
      obtain ⟨j, ej, hj⟩ : ∃ j : Nat, v % (((rest.map V.int).length : Nat) : Int) = (j : Int) ∧ j < rest.length := by
        rw [hlm]
        have h1 := mod_b v (m := ((rest.length : Nat) : Int)) (by omega)
        exact ⟨(v % ((rest.length : Nat) : Int)).toNat, by omega, by omega⟩
      refine ⟨_, rfl, l, _, rfl, .inl (SqL.of hl4), v, _, rfl, rfl, by rw [hlm]; omega, ?_⟩
      obtain ⟨y, ey⟩ : ∃ y, rest[j]? = some y := ⟨rest[j]'(by omega), List.getElem?_eq_getElem (by omega)⟩
      refine ⟨l, _, _, j, _, rfl, rfl, hl4, by rw [ej]; omega, by rw [ej]; omega, seq_ix ej (by rw [hlm]; omega), int_at ey, ?_⟩
      refine ⟨acc.map V.int, by rw [upd_ne lp.symm]; exact hp4, line_lt (by rw [List.length_map]; omega), rest.eraseIdx j, acc ++ [y], ?_, by rw [List.length_append, el]; rfl, ?_, by rw [upd_same, List.map_append]; rfl, ?_, fun b o e f => ?_⟩
      · rw [List.append_assoc]
        exact (List.Perm.append_left acc (pop_perm ey)).trans hperm
      · rw [upd_ne lp, upd_same, map_erase]
      · exact (D4.upd nf).upd npf
      · have e4 := k4 b o (kp3 b o e f) f
        have nbl : b ≠ l := ne_of_none e nl
        have nbp : b ≠ p := ne_of_none (k0 b o e f) np
        rw [upd_ne nbp, upd_ne nbl]
        exact e4
    · obtain ⟨rest, acc, hperm, el, hl3, hp3, D3, kp3⟩ := hP
      have hr0 : rest = [] := by
        have := List.Perm.length_eq hperm
        rw [List.length_append, rg_len] at this
        exact List.eq_nil_of_length_eq_zero (by omega)
      subst hr0
      rw [List.append_nil] at hperm
      exact q acc p H3 hperm (k0.none np npf) hp3 npf D3 kp3
theorem scNearN : FnScope ["deck", "order", "found", "way", "turn", "p", "q"] ["deck", "order"] (defScope s_law_near) := ⟨rfl, rfl, rfl, by decide +kernel, rfl, by decide +kernel, by decide +kernel⟩
set_option maxHeartbeats 4000000 in
theorem ok_nearN {f fD : Addr} {fd fdD : FuncData} {k : Nat} (T : Df K mg "_law_near" s_law_near ["deck", "order"] f fd) (T__law_next : Df K mg "_law_next" s_law_next ["deck"] fD fdD) (G__law_next : FnOk P w K mg base CX0 k fD fdD ["deck"] spNext) (B : Bi mg) : FnOk P w K mg base CX0 (k + 1) f fd ["deck", "order"] spNearN := by
  refine T.F.ok scNearN (fun vs H Q E h => ?_) (fun cdv A outer s H vs Q E hr h => ?_)
  · obtain ⟨D, o, n, ns, rfl, _⟩ := h
    rfl
  · obtain ⟨d, o, n, ns, rfl, hD, h0, ho, hn1, hn2, q⟩ := h
    have hlm : (ns.map V.int).length = n := by rw [List.length_map, ho.len]
    refine ⟨_, 
      (pss_cons (ps_set (i := 2) scNearN.nd rfl (.inl rfl) (pe_callTy call_list_of (by rfl) B.list (by decide +kernel) (pa_cons (pv 1) pa_nil)))
      (pss_cons (ps_set (i := 3) scNearN.nd rfl (.inl rfl) (pe_op op_mod (pe_call G__law_next hr (by rfl) T__law_next.g T__law_next.F.kp T__law_next.b .nil pass0 (pa_cons (pv 0) pa_nil)) pe_int))
      (pss_cons (ps_for PassesOwn.never rfl (pi_range1 (by rfl) B.range (pa_cons (pe_op op_mul (pe_ix ix_list (pe_lst (pa_cons pe_int (pa_cons pe_int (pa_cons pe_int (pa_cons pe_int pa_nil))))) (pe_op op_mod (pe_call G__law_next hr (by rfl) T__law_next.g T__law_next.F.kp T__law_next.b .nil pass0 (pa_cons (pv 0) pa_nil)) pe_int) (fun _ _ => rfl)) (pe_callTy call_int1 (by rfl) B.int (by decide +kernel) (pa_cons (pe_cmpR op_gt (pe_callB call_len_seq (by rfl) B.len PySem.boot_len (pa_cons (pv 2) pa_nil)) pe_int (nomark _)) pa_nil))) pa_nil)) (pg_name (i := 4) scNearN.nd rfl (.inl rfl))
        (pss_cons (ps_set (i := 5) scNearN.nd rfl (.inl rfl) (pe_op op_mod (pe_call G__law_next hr (by rfl) T__law_next.g T__law_next.F.kp T__law_next.b .nil pass0 (pa_cons (pv 0) pa_nil)) (pe_op op_sub (pe_callB call_len_seq (by rfl) B.len PySem.boot_len (pa_cons (pv 2) pa_nil)) pe_int)))
        (pss_cons (ps_set (i := 6) scNearN.nd rfl (.inl rfl) (pe_ix ix_list (pe_lst (pa_cons (pe_op op_add (pv 5) pe_int) (pa_cons (pe_op op_mod (pe_call G__law_next hr (by rfl) T__law_next.g T__law_next.F.kp T__law_next.b .nil pass0 (pa_cons (pv 0) pa_nil)) (pe_callB call_len_seq (by rfl) B.len PySem.boot_len (pa_cons (pv 2) pa_nil))) (pa_cons (pe_op op_add (pv 5) pe_int) pa_nil)))) (pv 3) (fun _ _ => rfl)))
        (pss_one (ps_if (pt_cmpR op_lt (pv 3) pe_int (nomark _))
          (pss_one (ps_asg (pe_tup (pa_cons (pe_ix ix_list (pv 2) (pv 6) (fun _ _ => rfl)) (pa_cons (pe_ix ix_list (pv 2) (pv 5) (fun _ _ => rfl)) pa_nil))) (pg_tup (by rfl) (pgs_cons (pg_sub (pv 2) (pv 5) set_list) (pgs_cons (pg_sub (pv 2) (pv 6) set_list) pgs_nil)))))
          (pss_one (ps_expr (pe_bm PySem.F.plainAttrs_list PySem.F.slot_list_insert PySem.F.type_list_insert mt_insert (pv 2) (pa_cons (pe_op op_mod (pe_call G__law_next hr (by rfl) T__law_next.g T__law_next.F.kp T__law_next.b .nil pass0 (pa_cons (pv 0) pa_nil)) (pe_callB call_len_seq (by rfl) B.len PySem.boot_len (pa_cons (pv 2) pa_nil))) (pa_cons (pe_bm PySem.F.plainAttrs_list PySem.F.slot_list_pop PySem.F.type_list_pop mt_popAt (pv 2) (pa_cons (pv 5) pa_nil)) pa_nil))))))))))
      (pss_one (ps_ret (pv 2)))))), ?_⟩
    refine ⟨_, rfl, o, _, rfl, .inl (SqL.of h0), fun l nl => ?_⟩
    have s0 := same_new (o := .lst (ns.map V.int)) nl
    have D0 := hD.new (o := .lst (ns.map V.int)) nl
    have nf := hD.ne nl
    refine ⟨_, rfl, d, rfl, D0, fun w1 H1 _ _ D1 k1 => ⟨w1, 3, rfl, rfl, (show (0 : Int) < 3 by decide), ?_⟩⟩
    have hl1 := k1 l _ upd_same nf
    have kk1 : KeepD d H H1 := (KeepD.of_same s0).trans k1
    have hw := mod_b w1 (m := 3) (by decide)
    refine ⟨line_small (by show 4 ≤ 16777216; decide), fun t nt => ?_⟩
    have D1t := D1.new (o := .lst [.int 1, .int 1, .int 2, .int 4]) nt
    have ntd := D1.ne nt
    refine ⟨_, rfl, d, rfl, D1t, fun w2 H2 _ _ D2 k2 => ⟨w2, 4, rfl, rfl, (show (0 : Int) < 4 by decide), ?_⟩⟩
    have ht2 := k2 t _ upd_same ntd
    have kk2 : KeepD d H H2 := (kk1.trans (KeepD.new nt)).trans k2
    have hl2 := k2 l _ (same_new nt _ _ hl1) nf
    have hw2 := mod_b w2 (m := 4) (by decide)
    obtain ⟨u, eu, u0, u1⟩ : ∃ u : Int, atI [V.int 1, V.int 1, V.int 2, V.int 4] (w2 % 4) = some (.int u) ∧ 0 ≤ u ∧ u ≤ 4 := by
      have : w2 % 4 = 0 ∨ w2 % 4 = 1 ∨ w2 % 4 = 2 ∨ w2 % 4 = 3 := by omega
      rcases this with h | h | h | h <;> rw [h]
      · exact ⟨1, rfl, by decide, by decide⟩
      · exact ⟨1, rfl, by decide, by decide⟩
      · exact ⟨2, rfl, by decide, by decide⟩
      · exact ⟨4, rfl, by decide, by decide⟩
    refine ⟨t, _, _, _, rfl, rfl, SqL.of ht2, eu, _, rfl, l, _, rfl, .inl (SqL.of hl2), _, 1, rfl, rfl, .inr ⟨_, rfl, u, _, rfl, rfl, .inl ⟨by omega, by omega⟩, _, rfl, ?_⟩⟩
    obtain ⟨m, em, hm⟩ : ∃ m : Nat, u * (if decide ((1 : Int) < (((ns.map V.int).length : Nat) : Int)) = true then 1 else 0) = (m : Int) ∧ (m ≤ 4 ∧ (n = 1 → m = 0)) := by
      rw [hlm]
      by_cases c : (1 : Int) < (n : Int)
      · rw [decide_eq_true c, if_pos rfl, Int.mul_one]
        exact ⟨u.toNat, by omega, by omega, by omega⟩
      · rw [decide_eq_false c, if_neg (by decide), Int.mul_zero]
        exact ⟨0, by omega, by omega, fun _ => rfl⟩
    refine ⟨by rw [em]; omega, by rw [em]; omega, ?_⟩
    rw [em, Int.toNat_natCast]
    refine for_range (n := m) (fun i σ H3 => ∃ (y4 y5 y6 : Option V) (xs : List Int), σ = [some (.ref d), some (.ref o), some (.ref l), some (.int (w1 % 3)), y4, y5, y6] ∧ IsOrd n xs ∧ H3 l = some (.lst (xs.map V.int)) ∧ DqAt H3 d ∧ KeepD d H H3)
      ⟨none, none, none, ns, rfl, ho, hl2, D2, kk2⟩ (fun i σ H3 hi hP => ?_) (fun σ H3 hP => ?_)
    · obtain ⟨y4, y5, y6, xs, rfl, o3, hl3, D3, k3⟩ := hP
      have hxl := o3.len
      have hn : 2 ≤ n := by
        by_cases c : n = 1
        · have := hm.2 c
          omega
        · omega
      have hxm : (xs.map V.int).length = n := by rw [List.length_map]; exact hxl
      refine ⟨_, rfl, d, rfl, D3, fun v1 H4 _ _ D4 k4 => ?_⟩
      have hl4 := k4 l _ hl3 nf
      refine ⟨_, rfl, l, _, rfl, .inl (SqL.of hl4), _, 1, rfl, rfl, v1, _, rfl, rfl, by rw [hxm]; omega, ?_⟩
      obtain ⟨p, ep, hp⟩ : ∃ p : Nat, v1 % ((((xs.map V.int).length : Nat) : Int) - 1) = (p : Int) ∧ p + 1 < n := by
        rw [hxm]
        have h1 := mod_b v1 (m := (n : Int) - 1) (by omega)
        exact ⟨(v1 % ((n : Int) - 1)).toNat, by omega, by omega⟩
      show gName 5 (V.int (v1 % ((((xs.map V.int).length : Nat) : Int) - 1))) _ _ _
      rw [ep]
      refine ⟨_, rfl, (p : Int), 1, rfl, rfl, _, rfl, d, rfl, D4, fun v2 H5 _ _ D5 k5 => ?_⟩
      have hl5 := k5 l _ hl4 nf
      refine ⟨_, rfl, l, _, rfl, .inl (SqL.of hl5), v2, _, rfl, rfl, by rw [hxm]; omega, ?_⟩
      obtain ⟨u, eu, hu⟩ : ∃ u : Nat, v2 % (((xs.map V.int).length : Nat) : Int) = (u : Int) ∧ u < n := by
        rw [hxm]
        have h1 := mod_b v2 (m := (n : Int)) (by omega)
        exact ⟨(v2 % (n : Int)).toNat, by omega, by omega⟩
      refine ⟨_, rfl, (p : Int), 1, rfl, rfl, line_small (by show 3 ≤ 16777216; decide), fun t2 nt2 => ?_⟩
      have s6 := same_new (o := .lst [.int ((p : Int) + 1), .int (v2 % (((xs.map V.int).length : Nat) : Int)), .int ((p : Int) + 1)]) nt2
      have hl6 := s6 _ _ hl5
      obtain ⟨z, ez, hz⟩ : ∃ z : Nat, atI [V.int ((p : Int) + 1), V.int (v2 % (((xs.map V.int).length : Nat) : Int)), V.int ((p : Int) + 1)] (w1 % 3) = some (.int z) ∧ z < n := by
        have : w1 % 3 = 0 ∨ w1 % 3 = 1 ∨ w1 % 3 = 2 := by omega
        rcases this with h | h | h <;> rw [h, eu]
        · exact ⟨p + 1, rfl, hp⟩
        · exact ⟨u, rfl, hu⟩
        · exact ⟨p + 1, rfl, hp⟩
      refine ⟨_, rfl, t2, _, _, _, rfl, rfl, SqL.of upd_same, ez, ?_⟩
      obtain ⟨a, ea⟩ : ∃ a, xs[p]? = some a := ⟨xs[p]'(by omega), List.getElem?_eq_getElem (by omega)⟩
      obtain ⟨b, eb⟩ : ∃ b, xs[z]? = some b := ⟨xs[z]'(by omega), List.getElem?_eq_getElem (by omega)⟩
      have D6 := D5.new (o := .lst [.int ((p : Int) + 1), .int (v2 % (((xs.map V.int).length : Nat) : Int)), .int ((p : Int) + 1)]) nt2
      have k6 : KeepD d H (upd H5 t2 (.lst [.int ((p : Int) + 1), .int (v2 % (((xs.map V.int).length : Nat) : Int)), .int ((p : Int) + 1)])) := ((k3.trans k4).trans k5).trans (KeepD.of_same s6)
      generalize upd H5 t2 (.lst [.int ((p : Int) + 1), .int (v2 % (((xs.map V.int).length : Nat) : Int)), .int ((p : Int) + 1)]) = H6 at hl6 D6 k6 ⊢
      refine ⟨_, rfl, _, 2, rfl, rfl, _, rfl, ite2 (fun _ => ?_) (fun _ => ?_)⟩
      · refine ⟨_, rfl, _, rfl, l, _, _, _, rfl, rfl, SqL.of hl6, at_of (j := z) rfl (int_at eb), _, rfl, _, rfl, l, _, _, _, rfl, rfl, SqL.of hl6, at_of (j := p) rfl (int_at ea), line_small (by show 2 ≤ 16777216; decide), fun t3 nt3 => ?_⟩
        have hl7 := same_new (o := .tup [.int b, .int a]) nt3 _ _ hl6
        refine ⟨t3, _, rfl, .inl (.inl upd_same), rfl, _, _, rfl, _, rfl, _, rfl, l, _, _, p, rfl, rfl, hl7, ix_n rfl (by rw [List.length_map]; omega), ?_⟩
        refine ⟨_, _, rfl, _, rfl, _, rfl, l, _, _, z, rfl, rfl, upd_same, ix_n rfl (by rw [List.length_set, List.length_map]; omega), ?_⟩
        refine ⟨rfl, _, _, _, (xs.set p b).set z a, rfl, (set2_perm ea eb).trans o3, by rw [upd_same, set2_V], ((D6.new nt3).upd nf).upd nf, fun c x e f => ?_⟩
        have nc : c ≠ l := ne_of_none e nl
        rw [upd_ne nc, upd_ne nc]
        exact same_new nt3 _ _ (k6 c x e f)
      · refine ⟨_, rfl, .inl ⟨rfl, _, SqL.of hl6⟩, _, rfl, d, rfl, D6, fun v3 H7 _ _ D7 k7 => ?_⟩
        have hl7 := k7 l _ hl6 nf
        refine ⟨_, rfl, l, _, rfl, .inl (SqL.of hl7), v3, _, rfl, rfl, by rw [hxm]; omega, ?_⟩
        obtain ⟨y, ey, hy⟩ : ∃ y : Nat, v3 % (((xs.map V.int).length : Nat) : Int) = (y : Int) ∧ y < n := by
          rw [hxm]
          have h1 := mod_b v3 (m := (n : Int)) (by omega)
          exact ⟨(v3 % (n : Int)).toNat, by omega, by omega⟩
        refine ⟨_, rfl, .inl ⟨rfl, _, SqL.of hl7⟩, _, rfl, l, _, _, p, _, rfl, rfl, hl7, by omega, by omega, seq_ix rfl (by rw [hxm]; omega), int_at ea, ?_⟩
        refine ⟨l, _, _, _, rfl, rfl, upd_same, line_lt (by rw [map_erase, List.length_map, List.length_eraseIdx, hxl]; split <;> omega), by rw [ey]; omega, by rw [ey]; omega, ?_⟩
        refine ⟨_, _, _, (xs.eraseIdx p).take y ++ [a] ++ (xs.eraseIdx p).drop y, rfl, ((ins_perm _ _ _).trans (pop_perm ea)).trans o3, ?_, (D7.upd nf).upd nf, fun c x e f => ?_⟩
        · rw [upd_same, map_erase, List.map_append, List.map_append, List.map_take, List.map_drop, ey, Int.toNat_natCast]
          rfl
        · have nc : c ≠ l := ne_of_none e nl
          rw [upd_ne nc, upd_ne nc]
          exact k7 c x (k6 c x e f) f
    · obtain ⟨y4, y5, y6, xs, rfl, o3, hl3, D3, k3⟩ := hP
      exact ⟨_, rfl, q xs l H3 o3 nl hl3 nf D3 k3⟩
end
end Fo
namespace Fo
open PySem PySem.Spec PyProof.Rows L2
/-! ### lists of lists -/
def LL (H : Hp) : List Addr → List (List Int) → Prop
  | [], [] => True
  | a :: as, r :: rs => H a = some (.lst (r.map V.int)) ∧ LL H as rs
  | _, _ => False
theorem LL.len {H : Hp} : ∀ {as : List Addr} {rs : List (List Int)}, LL H as rs → as.length = rs.length
  | [], [], _ => rfl
  | [], _ :: _, h => h.elim
  | _ :: _, [], h => h.elim
  | a :: as, r :: rs, h => by rw [List.length_cons, List.length_cons, LL.len h.2]
theorem LL.keep {H H' : Hp} : ∀ {as : List Addr} {rs : List (List Int)}, LL H as rs → (∀ a ∈ as, ∀ o, H a = some o → H' a = some o) → LL H' as rs
  | [], [], _, _ => trivial
  | [], _ :: _, h, _ => h.elim
  | _ :: _, [], h, _ => h.elim
  | a :: as, r :: rs, h, k => ⟨k a List.mem_cons_self _ h.1, LL.keep h.2 fun b hb => k b (List.mem_cons_of_mem _ hb)⟩
theorem LL.same {H H' : Hp} {as : List Addr} {rs : List (List Int)} (h : LL H as rs) (s : Same H H') : LL H' as rs := h.keep fun a _ o e => s a o e
theorem LL.get {H : Hp} : ∀ {as : List Addr} {rs : List (List Int)} {i : Nat} {a : Addr}, LL H as rs → as[i]? = some a → ∃ r, rs[i]? = some r ∧ H a = some (.lst (r.map V.int))
  | [], [], _, _, _, e => by simp at e
  | [], _ :: _, _, _, h, _ => h.elim
  | _ :: _, [], _, _, h, _ => h.elim
  | a :: as, r :: rs, 0, b, h, e => by
    have e2 : a = b := Option.some.inj e
    subst e2
    exact ⟨r, rfl, h.1⟩
  | a :: as, r :: rs, i + 1, b, h, e => LL.get (i := i) h.2 e
theorem LL.tracked {H : Hp} {as : List Addr} {rs : List (List Int)} (h : LL H as rs) {a : Addr} (ha : a ∈ as) : ∃ o, H a = some o := by
  obtain ⟨i, hi⟩ := List.mem_iff_getElem?.mp ha
  obtain ⟨r, _, e⟩ := h.get hi
  exact ⟨_, e⟩
theorem LL.snoc {H : Hp} : ∀ {as : List Addr} {rs : List (List Int)} {a : Addr} {r : List Int}, LL H as rs → H a = some (.lst (r.map V.int)) → LL H (as ++ [a]) (rs ++ [r])
  | [], [], _, _, _, e => ⟨e, trivial⟩
  | [], _ :: _, _, _, h, _ => h.elim
  | _ :: _, [], _, _, h, _ => h.elim
  | b :: as, s :: rs, _, _, h, e => ⟨h.1, LL.snoc h.2 e⟩
theorem LL.drop {H : Hp} : ∀ {as : List Addr} {rs : List (List Int)} (k : Nat), LL H as rs → LL H (as.drop k) (rs.drop k)
  | as, rs, 0, h => h
  | [], [], k + 1, _ => trivial
  | [], _ :: _, _ + 1, h => h.elim
  | _ :: _, [], _ + 1, h => h.elim
  | _ :: as, _ :: rs, k + 1, h => LL.drop k h.2
theorem dp_LL {K : PySem.W.Frag} {H : Hp} : ∀ {as : List Addr} {rs : List (List Int)}, LL H as rs → DpAll K H (as.map V.ref) (rs.map dL)
  | [], [], _ => .nil
  | [], _ :: _, h => h.elim
  | _ :: _, [], h => h.elim
  | _ :: _, _ :: _, h => .cons (dp_list h.1) (dp_LL h.2)
theorem dp_lists {K : PySem.W.Frag} {H : Hp} {l : Addr} {as : List Addr} {rs : List (List Int)} (hl : H l = some (.lst (as.map V.ref))) (h : LL H as rs) : Dp K H (.ref l) (dLL rs) := .lst (SqL.of hl) (dp_LL h)
theorem ref_at {as : List Addr} {i : Nat} {a : Addr} (h : as[i]? = some a) : (as.map V.ref)[i]? = some (V.ref a) := by
  rw [List.getElem?_map, h]
  rfl
theorem ref_at_inv {as : List Addr} {i : Nat} {v : V} (h : (as.map V.ref)[i]? = some v) : ∃ a, as[i]? = some a ∧ v = V.ref a := by
  rw [List.getElem?_map] at h
  cases e : as[i]? with
  | none => rw [e] at h; cases h
  | some x => rw [e] at h; exact ⟨x, rfl, (Option.some.inj h).symm⟩
theorem cutV_tail (xs : List V) (k : Nat) : cutV xs (some (k : Int)) none = xs.drop k := by
  unfold cutV
  rw [HT.sIx_none, HT.sIx_nat]
  by_cases h : k ≤ xs.length
  · rw [Nat.min_eq_left h, List.take_of_length_le (by rw [List.length_drop]; exact Nat.le_refl _)]
  · rw [Nat.min_eq_right (by omega), List.drop_of_length_le (Nat.le_refl _), List.drop_of_length_le (by omega), List.take_nil]
end Fo
namespace Fo
open PySem PySem.Spec PyProof.Rows L2
/-- a list of orders of n things -/
structure OL (H : Hp) (l : Addr) (as : List Addr) (rs : List (List Int)) (n : Nat) : Prop where
  top : H l = some (.lst (as.map V.ref))
  ll : LL H as rs
  ord : ∀ r ∈ rs, IsOrd n r
  n1 : 1 ≤ n
  n2 : n ≤ 12
theorem OL.same {H H' : Hp} {l : Addr} {as : List Addr} {rs : List (List Int)} {n : Nat} (h : OL H l as rs n) (s : Same H H') : OL H' l as rs n := ⟨s _ _ h.top, h.ll.same s, h.ord, h.n1, h.n2⟩
theorem OL.keepD {H H' : Hp} {l d : Addr} {as : List Addr} {rs : List (List Int)} {n : Nat} (h : OL H l as rs n) (s : KeepD d H H') (nl : l ≠ d) (na : d ∉ as) : OL H' l as rs n :=
  ⟨s _ _ h.top nl, h.ll.keep fun a ha o e => s a o e (fun q => na (by rw [← q]; exact ha)), h.ord, h.n1, h.n2⟩
def spPoll : Sp := fun vs H Q _ => ∃ (d : Addr) (n most : Nat), vs = [.ref d, .int n, .int most] ∧ DqAt H d ∧ 1 ≤ n ∧ n ≤ 12 ∧ 1 ≤ most ∧ most ≤ 20 ∧
  ∀ (l : Addr) (as : List Addr) (rs : List (List Int)) (H' : Hp), OL H' l as rs n → 1 ≤ rs.length → rs.length ≤ most → H l = none → (∀ a ∈ as, H a = none) → l ≠ d → d ∉ as → DqAt H' d → KeepD d H H' → Q (.ref l) H'
section
variable {P : Program} {w : World} {K : PySem.W.Frag} {mg : Str → Option Value} {base : Heap}
theorem scPoll : FnScope ["deck", "n", "most", "first", "found", "kind", "turn", "at", "some"] ["deck", "n", "most"] (defScope s_law_poll) := ⟨rfl, rfl, rfl, by decide +kernel, rfl, by decide +kernel, by decide +kernel⟩
set_option maxHeartbeats 4000000 in
theorem ok_poll {f fD fO fN : Addr} {fd fdD fdO fdN : FuncData} {k : Nat} (T : Df K mg "_law_poll" s_law_poll ["deck", "n", "most"] f fd) (T__law_next : Df K mg "_law_next" s_law_next ["deck"] fD fdD) (G__law_next : FnOk P w K mg base CX0 k fD fdD ["deck"] spNext) (T__law_order : Df K mg "_law_order" s_law_order ["deck", "n"] fO fdO) (G__law_order : FnOk P w K mg base CX0 k fO fdO ["deck", "n"] spOrderN) (T__law_near : Df K mg "_law_near" s_law_near ["deck", "order"] fN fdN) (G__law_near : FnOk P w K mg base CX0 k fN fdN ["deck", "order"] spNearN) (B : Bi mg) : FnOk P w K mg base CX0 (k + 1) f fd ["deck", "n", "most"] spPoll := by
  refine T.F.ok scPoll (fun vs H Q E h => ?_) (fun cdv A outer s H vs Q E hr h => ?_)
  · obtain ⟨D, n, m, rfl, _⟩ := h
    rfl
  · obtain ⟨d, n, most, rfl, hD, hn1, hn2, hm1, hm2, q⟩ := h
    refine ⟨_, 
      (pss_cons (ps_set (i := 3) scPoll.nd rfl (.inl rfl) (pe_call G__law_order hr (by rfl) T__law_order.g T__law_order.F.kp T__law_order.b .nil pass0 (pa_cons (pv 0) (pa_cons (pv 1) pa_nil))))
      (pss_cons (ps_set (i := 4) scPoll.nd rfl (.inl rfl) (pe_lst (pa_cons (pv 3) pa_nil)))
      (pss_cons (ps_set (i := 5) scPoll.nd rfl (.inl rfl) (pe_op op_mod (pe_call G__law_next hr (by rfl) T__law_next.g T__law_next.F.kp T__law_next.b .nil pass0 (pa_cons (pv 0) pa_nil)) pe_int))
      (pss_cons (ps_for PassesOwn.never rfl (pi_range1 (by rfl) B.range (pa_cons (pe_ix ix_list (pe_lst (pa_cons (pe_op op_mod (pe_call G__law_next hr (by rfl) T__law_next.g T__law_next.F.kp T__law_next.b .nil pass0 (pa_cons (pv 0) pa_nil)) (pv 2)) (pa_cons (pe_op op_sub (pv 2) pe_int) (pa_cons (pe_op op_mod (pe_call G__law_next hr (by rfl) T__law_next.g T__law_next.F.kp T__law_next.b .nil pass0 (pa_cons (pv 0) pa_nil)) (pe_callB (call_min2 rfl) (by rfl) B.min (by decide +kernel) (pa_cons (pv 2) (pa_cons pe_int pa_nil)))) pa_nil)))) (pe_op op_mod (pe_call G__law_next hr (by rfl) T__law_next.g T__law_next.F.kp T__law_next.b .nil pass0 (pa_cons (pv 0) pa_nil)) pe_int) (fun _ _ => rfl)) pa_nil)) (pg_name (i := 6) scPoll.nd rfl (.inl rfl))
        (pss_cons (ps_set (i := 7) scPoll.nd rfl (.inl rfl) (pe_op op_mod (pe_call G__law_next hr (by rfl) T__law_next.g T__law_next.F.kp T__law_next.b .nil pass0 (pa_cons (pv 0) pa_nil)) (pv 1)))
        (pss_cons (ps_set (i := 8) scPoll.nd rfl (.inl rfl) (pe_lst (pa_cons (pe_call G__law_near hr (by rfl) T__law_near.g T__law_near.F.kp T__law_near.b .nil pass0 (pa_cons (pv 0) (pa_cons (pv 3) pa_nil))) (pa_cons (pe_call G__law_order hr (by rfl) T__law_order.g T__law_order.F.kp T__law_order.b .nil pass0 (pa_cons (pv 0) (pa_cons (pv 1) pa_nil))) (pa_cons (pe_op op_cat (pe_slice sl_list (pv 3) (po_some (pv 7)) po_none) (pe_slice sl_list (pv 3) po_none (po_some (pv 7)))) (pa_cons (pe_revL (pv 3)) pa_nil))))))
        (pss_cons (ps_expr (pe_bm PySem.F.plainAttrs_list PySem.F.slot_list_append PySem.F.type_list_append mt_append (pv 8) (pa_cons (pe_callTy call_list_of (by rfl) B.list (by decide +kernel) (pa_cons (pe_ix ix_list (pv 4) (pe_op op_mod (pe_call G__law_next hr (by rfl) T__law_next.g T__law_next.F.kp T__law_next.b .nil pass0 (pa_cons (pv 0) pa_nil)) (pe_callB call_len_seq (by rfl) B.len PySem.boot_len (pa_cons (pv 4) pa_nil))) (fun _ _ => rfl)) pa_nil)) pa_nil)))
        (pss_one (ps_expr (pe_bm PySem.F.plainAttrs_list PySem.F.slot_list_append PySem.F.type_list_append mt_append (pv 4) (pa_cons (pe_ix ix_list (pv 8) (pe_ix ix_list (pe_lst (pa_cons pe_int (pa_cons pe_int (pa_cons pe_int (pa_cons (pe_op op_mod (pe_call G__law_next hr (by rfl) T__law_next.g T__law_next.F.kp T__law_next.b .nil pass0 (pa_cons (pv 0) pa_nil)) pe_int) pa_nil))))) (pv 5) (fun _ _ => rfl)) (fun _ _ => rfl)) pa_nil))))))))
      (pss_one (ps_ret (pv 4))))))), ?_⟩
    refine ⟨_, rfl, _, rfl, d, n, rfl, hD, hn2, fun fs f0 H1 ofs nf0 hf1 nfd D1 k1 => ?_⟩
    refine ⟨_, rfl, line_small (by show 1 ≤ 16777216; decide), fun l nl => ?_⟩
    have hf2 := same_new (o := .lst [.ref f0]) nl _ _ hf1
    have D2 := D1.new (o := .lst [.ref f0]) nl
    have nld := D1.ne nl
    have nlf : l ≠ f0 := (ne_of_none hf1 nl).symm
    have k2 : KeepD d H (upd H1 l (.lst [.ref f0])) := k1.trans (KeepD.new nl)
    have nHl : H l = none := k1.none nl nld
    have hl2 : (upd H1 l (.lst [.ref f0])) l = some (.lst [.ref f0]) := upd_same
    generalize upd H1 l (.lst [.ref f0]) = H2 at hf2 D2 k2 hl2 ⊢
    refine ⟨_, rfl, d, rfl, D2, fun w1 H3 _ _ D3 k3 => ⟨w1, 4, rfl, rfl, (show (0 : Int) < 4 by decide), ?_⟩⟩
    have hw := mod_b w1 (m := 4) (by decide)
    refine ⟨_, rfl, d, rfl, D3, fun w2 H4 _ _ D4 k4 => ⟨_, rfl, w2, most, rfl, rfl, (show (0 : Int) < (most : Int) by omega), _, rfl, (most : Int), 1, rfl, rfl, _, rfl, d, rfl, D4, fun w3 H5 _ _ D5 k5 => ?_⟩⟩
    refine ⟨_, rfl, (most : Int), 4, rfl, w3, _, rfl, rfl, (by show (0 : Int) < if 4 < (most : Int) then 4 else (most : Int); split <;> omega), ?_⟩
    refine ⟨line_small (by show 3 ≤ 16777216; decide), fun t nt => ?_⟩
    have h1 := mod_b w2 (m := (most : Int)) (by omega)
    have h2 := mod_b w3 (m := (if 4 < (most : Int) then 4 else (most : Int))) (by split <;> omega)
    have h3 : (if 4 < (most : Int) then 4 else (most : Int)) ≤ most := by split <;> omega
    have D6 := D5.new (o := .lst [.int (w2 % most), .int ((most : Int) - 1), .int (w3 % (if 4 < (most : Int) then 4 else (most : Int)))]) nt
    have ntd := D5.ne nt
    refine ⟨_, rfl, d, rfl, D6, fun w4 H7 _ _ D7 k7 => ⟨w4, 3, rfl, rfl, (show (0 : Int) < 3 by decide), ?_⟩⟩
    have ht7 := k7 t _ upd_same ntd
    have k37 : KeepD d H2 H7 := ((k3.trans k4).trans k5).trans ((KeepD.new nt).trans k7)
    have h4 := mod_b w4 (m := 3) (by decide)
    obtain ⟨m, em, hm⟩ : ∃ m : Nat, atI [V.int (w2 % most), V.int ((most : Int) - 1), V.int (w3 % (if 4 < (most : Int) then 4 else (most : Int)))] (w4 % 3) = some (.int m) ∧ m + 1 ≤ most := by
      have : w4 % 3 = 0 ∨ w4 % 3 = 1 ∨ w4 % 3 = 2 := by omega
      rcases this with h | h | h <;> rw [h]
      · refine ⟨(w2 % most).toNat, ?_, by omega⟩
        rw [Int.toNat_of_nonneg h1.1]
        rfl
      · refine ⟨most - 1, ?_, by omega⟩
        rw [show ((most - 1 : Nat) : Int) = (most : Int) - 1 by omega]
        rfl
      · refine ⟨(w3 % (if 4 < (most : Int) then 4 else (most : Int))).toNat, ?_, by omega⟩
        rw [Int.toNat_of_nonneg h2.1]
        rfl
    refine ⟨t, _, _, _, rfl, rfl, SqL.of ht7, em, m, rfl, by omega, by omega, ?_⟩
    rw [Int.toNat_natCast]
    have hf7 := k37 f0 _ hf2 nfd
    have hl7 := k37 l _ hl2 nld
    refine for_range (n := m) (fun i σ G => ∃ (y6 y7 y8 : Option V) (as : List Addr) (rs : List (List Int)), σ = [some (.ref d), some (.int n), some (.int most), some (.ref f0), some (.ref l), some (.int (w1 % 4)), y6, y7, y8] ∧ G l = some (.lst (as.map V.ref)) ∧ LL G as rs ∧ (∀ r ∈ rs, IsOrd n r) ∧ rs.length = i + 1 ∧ G f0 = some (.lst (fs.map V.int)) ∧ (∀ a ∈ as, H a = none) ∧ d ∉ as ∧ l ∉ as ∧ DqAt G d ∧ KeepD d H G)
      ⟨none, none, none, [f0], [fs], rfl, hl7, ⟨hf7, trivial⟩, fun r hr => by rw [List.mem_singleton.mp hr]; exact ofs, rfl, hf7, fun a ha => by rw [List.mem_singleton.mp ha]; exact nf0, fun hd => nfd (List.mem_singleton.mp hd).symm, fun hd => nlf (List.mem_singleton.mp hd), D7, k2.trans k37⟩ (fun i σ G hi hP => ?_) (fun σ G hP => ?_)
    · obtain ⟨y6, y7, y8, as, rs, rfl, hl, hLL, ho, hlen, hf, hna, nda, nla, DG, kG⟩ := hP
      have halen := hLL.len
      -- at = next % n
      refine ⟨_, rfl, d, rfl, DG, fun v1 G1 _ _ DG1 kk1 => ⟨_, rfl, v1, n, rfl, rfl, (show (0 : Int) < (n : Int) by omega), ?_⟩⟩
      obtain ⟨c, ec, hc⟩ : ∃ c : Nat, v1 % (n : Int) = (c : Int) ∧ c < n := by
        have h1 := mod_b v1 (m := (n : Int)) (by omega)
        exact ⟨(v1 % (n : Int)).toNat, by omega, by omega⟩
      show gName 7 (V.int (v1 % (n : Int))) _ _ _
      rw [ec]
      have hf1 := kk1 f0 _ hf nfd
      -- near
      refine ⟨_, rfl, _, rfl, d, f0, n, fs, rfl, DG1, hf1, ofs, hn1, hn2, fun r1 a1 G2 o1 na1 ha1 nd1 DG2 kk2 => ?_⟩
      have hf2 := kk2 f0 _ hf1 nfd
      have c2 : KeepD d G G2 := kk1.trans kk2
      -- order
      refine ⟨_, rfl, _, rfl, d, n, rfl, DG2, hn2, fun r2 a2 G3 o2 na2 ha2 nd2 DG3 kk3 => ?_⟩
      have hf3 := kk3 f0 _ hf2 nfd
      have c3 : KeepD d G G3 := c2.trans kk3
      -- first[at:] + first[:at]
      refine ⟨_, rfl, _, rfl, _, rfl, f0, _, rfl, SqL.of hf3, fun p1 np1 => ?_⟩
      have s1 := same_new (o := .lst (cutV (fs.map V.int) (some (c : Int)) none)) np1
      refine ⟨_, rfl, _, rfl, _, rfl, f0, _, rfl, SqL.of (s1 _ _ hf3), fun p2 np2 => ?_⟩
      have s2 := s1.trans (same_new (o := .lst (cutV (fs.map V.int) none (some (c : Int)))) np2)
      have hp1 := same_new (o := .lst (cutV (fs.map V.int) none (some (c : Int)))) np2 p1 (.lst (cutV (fs.map V.int) (some (c : Int)) none)) upd_same
      have hp2 : (upd (upd G3 p1 (.lst (cutV (fs.map V.int) (some (c : Int)) none))) p2 (.lst (cutV (fs.map V.int) none (some (c : Int))))) p2 = _ := upd_same
      generalize upd (upd G3 p1 (.lst (cutV (fs.map V.int) (some (c : Int)) none))) p2 (.lst (cutV (fs.map V.int) none (some (c : Int)))) = G4 at s2 hp1 hp2 ⊢
      rw [cut_ints, cutI_tail] at hp1
      rw [cut_ints, cutI_head] at hp2
      have lf : fs.length = n := ofs.len
      refine ⟨_, _, _, _, rfl, rfl, hp1, hp2, line_small (by rw [List.length_map, List.length_drop, List.length_map, List.length_take]; omega), fun a3 na3 => ?_⟩
      have DG4 := DG3.same s2
      have c4 : KeepD d G G4 := c3.trans (KeepD.of_same s2)
      have nd3 := DG4.ne na3
      have s3 := same_new (o := .lst ((fs.drop c).map V.int ++ (fs.take c).map V.int)) na3
      -- first[::-1]
      refine ⟨_, rfl, f0, _, rfl, SqL.of (s3 _ _ (s2 _ _ hf3)), fun a4 na4 => ?_⟩
      have s4 := s3.trans (same_new (o := .lst (fs.map V.int).reverse) na4)
      have ha3 := same_new (o := .lst (fs.map V.int).reverse) na4 a3 (.lst ((fs.drop c).map V.int ++ (fs.take c).map V.int)) upd_same
      have ha4 : (upd (upd G4 a3 (.lst ((fs.drop c).map V.int ++ (fs.take c).map V.int))) a4 (.lst (fs.map V.int).reverse)) a4 = _ := upd_same
      have nd4 := (DG4.new na3).ne na4
      have na4' : G4 a4 = none := s3.free na4
      generalize upd (upd G4 a3 (.lst ((fs.drop c).map V.int ++ (fs.take c).map V.int))) a4 (.lst (fs.map V.int).reverse) = G5 at s4 ha3 ha4 ⊢
      have DG5 := DG4.same s4
      refine ⟨line_small (by show 4 ≤ 16777216; decide), fun sm nsm => ?_⟩
      have nsd := DG5.ne nsm
      have s5 := same_new (o := .lst [.ref a1, .ref a2, .ref a3, .ref a4]) nsm
      have hsm : (upd G5 sm (.lst [.ref a1, .ref a2, .ref a3, .ref a4])) sm = _ := upd_same
      have DG6 := DG5.same s5
      have c6 : KeepD d G (upd G5 sm (.lst [.ref a1, .ref a2, .ref a3, .ref a4])) := c4.trans (KeepD.of_same (s4.trans s5))
      have ga1 := (s4.trans s5) _ _ (s2 _ _ (kk3 _ _ ha1 nd1))
      have ga2 := (s4.trans s5) _ _ (s2 _ _ ha2)
      have ga3 := s5 _ _ ha3
      have ga4 := s5 _ _ ha4
      generalize upd G5 sm (.lst [.ref a1, .ref a2, .ref a3, .ref a4]) = G6 at s5 hsm DG6 c6 ga1 ga2 ga3 ga4 ⊢
      -- some.append(list(found[next % len(found)]))
      refine ⟨_, rfl, .inl ⟨rfl, _, SqL.of hsm⟩, _, rfl, _, rfl, d, rfl, DG6, fun v2 G7 _ _ DG7 kk7 => ?_⟩
      have c7 : KeepD d G G7 := c6.trans kk7
      have hl7 := c7 l _ hl nld
      refine ⟨_, rfl, l, _, rfl, .inl (SqL.of hl7), v2, _, rfl, rfl, (by show (0 : Int) < (((as.map V.ref).length : Nat) : Int); rw [List.length_map]; omega), ?_⟩
      obtain ⟨j, ej, hj⟩ : ∃ j : Nat, v2 % (((as.map V.ref).length : Nat) : Int) = (j : Int) ∧ j < as.length := by
        rw [List.length_map]
        have h1 := mod_b v2 (m := ((as.length : Nat) : Int)) (by omega)
        exact ⟨(v2 % ((as.length : Nat) : Int)).toNat, by omega, by omega⟩
      have LL7 : LL G7 as rs := hLL.keep fun a ha o e => c7 a o e (fun q => nda (by rw [← q]; exact ha))
      obtain ⟨b, eb⟩ : ∃ b, as[j]? = some b := ⟨as[j], List.getElem?_eq_getElem hj⟩
      obtain ⟨rb, erb, hb7⟩ := LL7.get eb
      have orb := ho rb (List.mem_of_getElem? erb)
      refine ⟨l, _, _, _, rfl, rfl, SqL.of hl7, at_of ej (ref_at eb), b, _, rfl, .inl (SqL.of hb7), fun a5 na5 => ?_⟩
      have nd5 := DG7.ne na5
      have s8 := same_new (o := .lst (rb.map V.int)) na5
      have hsm8 := s8 _ _ (kk7 _ _ hsm nsd)
      have ga5 : (upd G7 a5 (.lst (rb.map V.int))) a5 = _ := upd_same
      have gb1 := s8 _ _ (kk7 _ _ ga1 nd1)
      have gb2 := s8 _ _ (kk7 _ _ ga2 nd2)
      have gb3 := s8 _ _ (kk7 _ _ ga3 nd3)
      have gb4 := s8 _ _ (kk7 _ _ ga4 nd4)
      have DG8 := DG7.same s8
      have c8 : KeepD d G (upd G7 a5 (.lst (rb.map V.int))) := c7.trans (KeepD.of_same s8)
      generalize upd G7 a5 (.lst (rb.map V.int)) = G8 at s8 hsm8 ga5 gb1 gb2 gb3 gb4 DG8 c8 ⊢
      refine ⟨sm, _, _, rfl, rfl, hsm8, line_lt (by show 4 < 16777216; decide), ?_⟩
      have nGs : G sm = none := (c4.trans (KeepD.of_same s4)).none nsm nsd
      have n1 : G a1 = none := kk1.none na1 nd1
      have n2 : G a2 = none := c2.none na2 nd2
      have n3 : G a3 = none := c4.none na3 nd3
      have n4 : G a4 = none := c4.none na4' nd4
      have n5 : G a5 = none := c7.none na5 nd5
      have ne_ : ∀ {x : Addr} {y : List Int}, G8 x = some (.lst (y.map V.int)) → x ≠ sm := fun {x y} e => ne_of e hsm8 (by
        intro z
        cases y with
        | nil => cases z
        | cons u v => cases z)
      -- found.append(some[[0, 1, 2, next % 5][kind]])
      have DG9 := DG8.upd (o := .lst [.ref a1, .ref a2, .ref a3, .ref a4, .ref a5]) nsd
      have c9 : KeepD d G (upd G8 sm (.lst [.ref a1, .ref a2, .ref a3, .ref a4, .ref a5])) := fun b o e nb => by rw [upd_ne (ne_of_none e nGs)]; exact c8 b o e nb
      have hsm9 : (upd G8 sm (.lst [.ref a1, .ref a2, .ref a3, .ref a4, .ref a5])) sm = _ := upd_same
      have e1 := (upd_ne (H := G8) (o := .lst [.ref a1, .ref a2, .ref a3, .ref a4, .ref a5]) (ne_ gb1)).trans gb1
      have e2 := (upd_ne (H := G8) (o := .lst [.ref a1, .ref a2, .ref a3, .ref a4, .ref a5]) (ne_ gb2)).trans gb2
      have e3 := (upd_ne (H := G8) (o := .lst [.ref a1, .ref a2, .ref a3, .ref a4, .ref a5]) (ne_ (by rw [← List.map_append] at gb3; exact gb3))).trans gb3
      have e4 := (upd_ne (H := G8) (o := .lst [.ref a1, .ref a2, .ref a3, .ref a4, .ref a5]) (ne_ (by rw [← List.map_reverse] at gb4; exact gb4))).trans gb4
      have e5 := (upd_ne (H := G8) (o := .lst [.ref a1, .ref a2, .ref a3, .ref a4, .ref a5]) (ne_ ga5)).trans ga5
      have eG : upd G8 sm (.lst ([.ref a1, .ref a2, .ref a3, .ref a4] ++ [.ref a5])) = upd G8 sm (.lst [.ref a1, .ref a2, .ref a3, .ref a4, .ref a5]) := rfl
      rw [eG]
      generalize upd G8 sm (.lst [.ref a1, .ref a2, .ref a3, .ref a4, .ref a5]) = G9 at DG9 c9 hsm9 e1 e2 e3 e4 e5 ⊢
      have hl9 := c9 l _ hl nld
      refine ⟨_, rfl, .inl ⟨rfl, _, SqL.of hl9⟩, _, rfl, _, rfl, d, rfl, DG9, fun v3 GA _ _ DGA kkA => ⟨v3, 5, rfl, rfl, (show (0 : Int) < 5 by decide), ?_⟩⟩
      refine ⟨line_small (by show 4 ≤ 16777216; decide), fun t2 nt2 => ?_⟩
      have sA := same_new (o := .lst [.int 0, .int 1, .int 2, .int (v3 % 5)]) nt2
      have cB : KeepD d G9 (upd GA t2 (.lst [.int 0, .int 1, .int 2, .int (v3 % 5)])) := kkA.trans (KeepD.of_same sA)
      have DGB := DGA.same sA
      have htB : (upd GA t2 (.lst [.int 0, .int 1, .int 2, .int (v3 % 5)])) t2 = _ := upd_same
      generalize upd GA t2 (.lst [.int 0, .int 1, .int 2, .int (v3 % 5)]) = GB at cB DGB htB ⊢
      have h5 := mod_b v3 (m := 5) (by decide)
      obtain ⟨z, ez, hz⟩ : ∃ z : Nat, atI [V.int 0, V.int 1, V.int 2, V.int (v3 % 5)] (w1 % 4) = some (.int z) ∧ z < 5 := by
        have : w1 % 4 = 0 ∨ w1 % 4 = 1 ∨ w1 % 4 = 2 ∨ w1 % 4 = 3 := by omega
        rcases this with h | h | h | h <;> rw [h]
        · exact ⟨0, rfl, by decide⟩
        · exact ⟨1, rfl, by decide⟩
        · exact ⟨2, rfl, by decide⟩
        · refine ⟨(v3 % 5).toNat, ?_, by omega⟩
          rw [Int.toNat_of_nonneg h5.1]
          rfl
      refine ⟨_, rfl, t2, _, _, _, rfl, rfl, SqL.of htB, ez, ?_⟩
      obtain ⟨a, r, ea, na, nda', hea, hor⟩ : ∃ (a : Addr) (r : List Int), [V.ref a1, V.ref a2, V.ref a3, V.ref a4, V.ref a5][z]? = some (.ref a) ∧ G a = none ∧ a ≠ d ∧ G9 a = some (.lst (r.map V.int)) ∧ IsOrd n r := by
        have : z = 0 ∨ z = 1 ∨ z = 2 ∨ z = 3 ∨ z = 4 := by omega
        rcases this with rfl | rfl | rfl | rfl | rfl
        · exact ⟨a1, r1, rfl, n1, nd1, e1, o1⟩
        · exact ⟨a2, r2, rfl, n2, nd2, e2, o2⟩
        · refine ⟨a3, fs.drop c ++ fs.take c, rfl, n3, nd3, by rw [List.map_append]; exact e3, ?_⟩
          have : (fs.drop c ++ fs.take c).Perm (fs.take c ++ fs.drop c) := List.perm_append_comm
          rw [List.take_append_drop] at this
          exact this.trans ofs
        · exact ⟨a4, fs.reverse, rfl, n4, nd4, by rw [List.map_reverse]; exact e4, (List.reverse_perm fs).trans ofs⟩
        · exact ⟨a5, rb, rfl, n5, nd5, e5, orb⟩
      have hlB := cB l _ hl9 nld
      have hsB := cB sm _ hsm9 nsd
      refine ⟨sm, _, _, _, rfl, rfl, SqL.of hsB, at_of (j := z) rfl ea, ?_⟩
      refine ⟨l, _, _, rfl, rfl, hlB, line_lt (by rw [List.length_map]; omega), ?_⟩
      have cF : KeepD d G GB := c9.trans cB
      have nla2 : a ≠ l := fun e => by rw [e, hl] at na; cases na
      have LLB : LL GB as rs := hLL.keep fun a ha o e => cF a o e (fun q => nda (by rw [← q]; exact ha))
      refine ⟨_, _, _, as ++ [a], rs ++ [r], rfl, by rw [upd_same, List.map_append]; rfl, ?_, fun u hu => ?_, by rw [List.length_append, hlen]; rfl, ?_, fun u hu => ?_, fun hd => ?_, fun hd => ?_, DGB.upd nld, fun u o e nu => ?_⟩
      · refine LL.snoc (LLB.keep fun u hu o e => ?_) ?_
        · rw [upd_ne (fun q => nla (by rw [← q]; exact hu))]
          exact e
        · rw [upd_ne nla2]
          exact cB a _ hea nda'
      · rcases List.mem_append.mp hu with h | h
        · exact ho u h
        · rw [List.mem_singleton.mp h]
          exact hor
      · rw [upd_ne nlf.symm]
        exact cF f0 _ hf nfd
      · rcases List.mem_append.mp hu with h | h
        · exact hna u h
        · rw [List.mem_singleton.mp h]
          exact kG.none na nda'
      · rcases List.mem_append.mp hd with h | h
        · exact nda h
        · exact nda' (List.mem_singleton.mp h).symm
      · rcases List.mem_append.mp hd with h | h
        · exact nla h
        · exact nla2 (List.mem_singleton.mp h).symm
      · rw [upd_ne (fun q => by rw [q, nHl] at e; cases e)]
        exact cF u o (kG u o e nu) nu
    · obtain ⟨y6, y7, y8, as, rs, rfl, hl, hLL, ho, hlen, hf, hna, nda, nla, DG, kG⟩ := hP
      exact ⟨_, rfl, q l as rs G ⟨hl, hLL, ho, hn1, hn2⟩ (by omega) (by omega) nHl hna nld nda DG kG⟩
end
end Fo
namespace Fo
open PySem PySem.Spec PyProof.Rows L2
/-- a loop over enumerate of a list that stands still -/
theorem for_enumL {K : PySem.W.Frag} {a : Addr} {xs : List V} {g : TG} {tb : TS} {D : Ends} {σ : L2.St} {H : Hp} (Pv : Nat → L2.St → Hp → Prop) (h0 : Pv 0 σ H) (hq : ∀ i σ H, Pv i σ H → SqL K H a xs)
    (hs : ∀ (i : Nat) (x : V) (T : Addr) (σ : L2.St) (H : Hp), xs[i]? = some x → Pv i σ H → H T = none → g (.ref T) σ (upd H T (.tup [.int (i : Nat), x])) fun σ2 H2 => tb { D with nx := Pv (i + 1), ct := Pv (i + 1), bk := D.nx } σ2 H2) (hd : ∀ σ H, Pv xs.length σ H → D.nx σ H) :
    ∃ W : Nat → Nat → L2.St → Hp → Prop, (∃ m, W 0 m σ H) ∧ ∀ i m σ H, W i m σ H →
      ((Ite K a).stop i H ∧ D.nx σ H) ∨ ((Ite K a).go i H ∧ ∃ N : L2.St → Hp → Prop, (∀ σ' H', N σ' H' → ∃ m', m' < m ∧ W (i + 1) m' σ' H') ∧ ∀ v H', (Ite K a).yld i H v H' → g v σ H' fun σ2 H2 => tb { D with nx := N, ct := N, bk := D.nx } σ2 H2) := by
  refine ⟨fun i m σ H => m = xs.length - i ∧ i ≤ xs.length ∧ Pv i σ H, ⟨xs.length, rfl, Nat.zero_le _, h0⟩, ?_⟩
  rintro i m σ H ⟨rfl, hi, p⟩
  have qx := hq i σ H p
  by_cases hlt : i < xs.length
  · have hx : xs[i]? = some xs[i] := List.getElem?_eq_getElem hlt
    refine .inr ⟨⟨xs, _, qx, hx⟩, Pv (i + 1), fun σ' H' p' => ⟨xs.length - (i + 1), by omega, rfl, hlt, p'⟩, fun v H' y => ?_⟩
    obtain ⟨T, x', rfl, hT, rfl, f1⟩ := y
    exact hs i x' T σ H (f1 xs qx) p hT
  · have e : i = xs.length := by omega
    subst e
    exact .inl ⟨⟨xs, qx, Nat.le_refl _⟩, hd σ H p⟩
/-- a comprehension over enumerate of a list that stands still -/
theorem lc_enumL {K : PySem.W.Frag} {a : Addr} {xs : List V} {g : TG} {tt : TT} {te : TE} {vs : List Nat} {σ : L2.St} {H1 : Hp} {D : Addr} {Qd : Hp → Prop} (Pv : Nat → Hp → Prop) (h0 : Pv 0 (upd H1 D (.lst []))) (hl : ∀ i H, i ≤ xs.length → Pv i H → SqL K H a xs)
    (hs : ∀ (i : Nat) (x : V) (T : Addr) (H : Hp), xs[i]? = some x → Pv i H → H T = none → g (.ref T) (wipe σ vs) (upd H T (.tup [.int (i : Nat), x])) fun σ2 H2 => wipe σ2 vs = wipe σ vs ∧ tt σ2 H2 fun b H3 =>
      if b = true then te σ2 H3 fun y H4 => ∃ acc, H4 D = some (.lst acc) ∧ acc.length < sizeLine ∧ Pv (i + 1) (upd H4 D (.lst (acc ++ [y]))) else Pv (i + 1) H3) (hd : ∀ H, Pv xs.length H → Qd H) :
    ∃ W : Nat → Nat → Hp → Prop, (∃ m, W 0 m (upd H1 D (.lst []))) ∧ ∀ i m H, W i m H →
      ((Ite K a).stop i H ∧ Qd H) ∨ ((Ite K a).go i H ∧ ∃ Nx : Hp → Prop, (∀ H', Nx H' → ∃ m', m' < m ∧ W (i + 1) m' H') ∧ ∀ x H', (Ite K a).yld i H x H' → g x (wipe σ vs) H' fun σ2 H2 => wipe σ2 vs = wipe σ vs ∧ tt σ2 H2 fun b H3 =>
        if b = true then te σ2 H3 fun y H4 => ∃ acc, H4 D = some (.lst acc) ∧ acc.length < sizeLine ∧ Nx (upd H4 D (.lst (acc ++ [y]))) else Nx H3) := by
  refine ⟨fun i m H => m = xs.length - i ∧ i ≤ xs.length ∧ Pv i H, ⟨xs.length, by simp, Nat.zero_le _, h0⟩, ?_⟩
  rintro i m H ⟨rfl, hi, p⟩
  have q := hl i H hi p
  by_cases hlt : i < xs.length
  · refine .inr ⟨⟨xs, xs[i], q, by simp [hlt]⟩, Pv (i + 1), fun H' p' => ⟨xs.length - (i + 1), by omega, rfl, hlt, p'⟩, fun x H' y => ?_⟩
    obtain ⟨T, x', rfl, hT, rfl, f1⟩ := y
    exact hs i x' T H (f1 xs q) p hT
  · have e : i = xs.length := by omega
    subst e
    exact .inl ⟨⟨xs, q, Nat.le_refl _⟩, hd H p⟩
/-! ### the back of an order -/
def IsBack (ns ps : List Int) : Prop := ps.length = ns.length ∧ ∀ (j : Nat) (x : Int), ns[j]? = some x → ps[x.toNat]? = some (j : Int)
theorem ord_at {n : Nat} {ns : List Int} (o : IsOrd n ns) {t : Nat} (h : t < n) : ∃ j : Nat, j < n ∧ ns[j]? = some (t : Int) := by
  have m : (t : Int) ∈ ns := (List.Perm.mem_iff o).mpr (rg_mem.mpr ⟨by omega, by omega⟩)
  obtain ⟨j, hj⟩ := List.mem_iff_getElem?.mp m
  exact ⟨j, by have := (List.getElem?_eq_some_iff.mp hj).1; rw [o.len] at this; exact this, hj⟩
theorem ord_ix {n : Nat} {ns : List Int} (o : IsOrd n ns) {j : Nat} (h : j < n) : ∃ x : Int, ns[j]? = some x ∧ 0 ≤ x ∧ x < n := by
  have hj : j < ns.length := by rw [o.len]; exact h
  exact ⟨ns[j], List.getElem?_eq_getElem hj, o.mem (List.getElem_mem hj)⟩
theorem back_eq {n : Nat} {ns a b : List Int} (o : IsOrd n ns) (ha : IsBack ns a) (hb : IsBack ns b) : a = b := by
  apply List.ext_getElem?
  intro t
  by_cases h : t < n
  · obtain ⟨j, _, hj⟩ := ord_at o h
    have h1 := ha.2 j _ hj
    have h2 := hb.2 j _ hj
    rw [Int.toNat_natCast] at h1 h2
    rw [h1, h2]
  · rw [List.getElem?_eq_none (by rw [ha.1, o.len]; omega), List.getElem?_eq_none (by rw [hb.1, o.len]; omega)]
def behindL (ns ms : List Int) : List Int := ms.map fun p => ns.getD p.toNat 0
theorem behind_at {ns ms : List Int} {i : Nat} {p x : Int} (hp : ms[i]? = some p) (hx : ns[p.toNat]? = some x) : (behindL ns ms)[i]? = some x := by
  unfold behindL
  rw [List.getElem?_map, hp]
  show some (ns.getD p.toNat 0) = some x
  rw [List.getD_eq_getElem?_getD, hx]
  rfl
theorem behind_len (ns ms : List Int) : (behindL ns ms).length = ms.length := by
  unfold behindL
  rw [List.length_map]
theorem take_more {l : List Int} {i : Nat} {x : Int} (h : l[i]? = some x) : l.take (i + 1) = l.take i ++ [x] := by
  rw [List.take_add_one, h]
  rfl
theorem flat_ints : ∀ ns : List Int, (ns.map V.int).all flatV = true
  | [] => rfl
  | n :: r => by
    show (flatV (V.int n) && (r.map V.int).all flatV) = true
    rw [flat_ints r]
    rfl
theorem eqV_int (i j : Int) : eqV (.int i) (.int j) = (i == j) := rfl
end Fo
namespace Fo
open PySem PySem.Spec PyProof.Rows L2
def spWhole : Sp := fun vs H Q _ => ∃ i : Int, vs = [.int i] ∧ Q (.bl true) H
section
variable {P : Program} {w : World} {K : PySem.W.Frag} {mg : Str → Option Value} {base : Heap}
theorem scWhole : FnScope ["thing"] ["thing"] (defScope s_is_whole) := ⟨rfl, rfl, rfl, by decide +kernel, rfl, by decide +kernel, by decide +kernel⟩
theorem ok_whole {f : Addr} {fd : FuncData} {k : Nat} (T : Df K mg "is_whole" s_is_whole ["thing"] f fd) (B : Bi mg) : FnOk P w K mg base CX0 (k + 1) f fd ["thing"] spWhole := by
  refine T.F.ok scWhole (fun vs H Q E h => ?_) (fun cdv A outer s H vs Q E hr h => ?_)
  · obtain ⟨i, rfl, _⟩ := h
    rfl
  · obtain ⟨i, rfl, q⟩ := h
    refine ⟨_, pss_one (ps_ret (pe_and (pe_callB call_isi (by rfl) B.isinstance (by decide +kernel) (pa_cons (pv 0) (pa_cons (pe_bltn (v := .ty "int") (by rfl) B.int (by decide +kernel) rfl) pa_nil)))
      (pe_one (pe_not (pe_callB call_isi (by rfl) B.isinstance (by decide +kernel) (pa_cons (pv 0) (pa_cons (pe_bltn (v := .ty "bool") (by rfl) B.bool (by decide +kernel) rfl) pa_nil))))))), ?_⟩
    refine ⟨_, rfl, _, _, _, _, true, rfl, .ty _, .base (.int _), kit_ty (by decide +kernel), true, rfl, iteT ?_⟩
    exact ⟨_, rfl, _, _, _, _, false, rfl, .ty _, .base (.int _), kit_ty (by decide +kernel), false, rfl, q⟩
end
end Fo
namespace Fo
open PySem PySem.Spec PyProof.Rows L2
/-! ### whole numbers, orders -/
def spIsOrd : Sp := fun vs H Q _ => ∃ (a : Addr) (n : Nat) (ns : List Int), vs = [.ref a] ∧ H a = some (.lst (ns.map V.int)) ∧ IsOrd n ns ∧ 1 ≤ n ∧ n ≤ 12 ∧ ∀ H', Same H H' → Q (.bl true) H'
def spCheck : Sp := fun vs H Q _ => ∃ (a : Addr) (n : Nat) (ns : List Int), vs = [.ref a] ∧ H a = some (.lst (ns.map V.int)) ∧ IsOrd n ns ∧ 1 ≤ n ∧ n ≤ 12 ∧ ∀ H', Same H H' → Q .non H'
section
variable {P : Program} {w : World} {K : PySem.W.Frag} {mg : Str → Option Value} {base : Heap}
theorem scIsOrd : FnScope ["thing", "number"] ["thing"] (defScope s_is_order) := ⟨rfl, rfl, rfl, by decide +kernel, rfl, by decide +kernel, by decide +kernel⟩
theorem all_true (n : Nat) : (List.replicate n true).all id = true := by simp
set_option maxHeartbeats 2000000 in
theorem ok_is_order {f fW : Addr} {fd fdW : FuncData} {k : Nat} {t : Tok} (T : Df K mg "is_order" s_is_order ["thing"] f fd) (TW : Df K mg "is_whole" s_is_whole ["thing"] fW fdW) (B : Bi mg) (mM : mg "MOST_THINGS" = some (.int 12 t)) : FnOk P w K mg base CX0 (k + 2) f fd ["thing"] spIsOrd := by
  have GW : FnOk P w K mg base CX0 (k + 1) fW fdW ["thing"] spWhole := ok_whole TW B
  refine T.F.ok scIsOrd (fun vs H Q E h => ?_) (fun cdv A outer s H vs Q E hr h => ?_)
  · obtain ⟨a, n, ns, rfl, _⟩ := h
    rfl
  · obtain ⟨a, n, ns, rfl, hl, ho, hn1, hn2, q⟩ := h
    have hlm : (ns.map V.int).length = n := by rw [List.length_map, ho.len]
    refine ⟨_, pss_cons (ps_if (PW.pt (pw_or (pt_not (pt_val (pe_callB call_isi (by rfl) B.isinstance (by decide +kernel) (pa_cons (pv 0) (pa_cons (pe_bltn (v := .ty "list") (by rfl) B.list (by decide +kernel) rfl) pa_nil)))))
        (pw_or (pt_cmpR op_lt (pe_callB call_len_seq (by rfl) B.len PySem.boot_len (pa_cons (pv 0) pa_nil)) pe_int (nomark _)) (pw_or1 (pt_cmpR op_gt (pe_callB call_len_seq (by rfl) B.len PySem.boot_len (pa_cons (pv 0) pa_nil)) (pe_glob (v := .int 12) (by rfl) mM ⟨_, rfl⟩) (nomark _))))))
        (pss_one (ps_ret pe_bl)) pss_nil)
      (pss_cons (ps_if (pt_not (pt_val (pe_callB (cr_all rfl) (by rfl) B.all (by decide +kernel) (pa_cons (pe_lc (own := [("number", 1)]) (g := gName 1) (tt := tYes) (te := tCall spWhole [] E0 (tCons (tVar 1) tNil)) rfl scIsOrd.nd (pi_list (pv 0)) (blkOk_by (N := ["thing", "number"]) (sc := defScope s_is_order) (by decide +kernel)) (fun _ _ _ _ _ => pg_name (i := 1) scIsOrd.nd rfl (.inl rfl)) (fun _ _ _ _ _ => pts_nil)
          (fun _ _ _ _ _ => pe_call GW hr (by rfl) TW.g TW.F.kp TW.b .nil pass0 (pa_cons (pv 1) pa_nil))) pa_nil)))) (pss_one (ps_ret pe_bl)) pss_nil)
      (pss_one (ps_ret (pe_cmpR (op_eqD hr.units) (pe_callB cr_sorted (by rfl) B.sorted (by decide +kernel) (pa_cons (pv 0) pa_nil)) (pe_listRg rfl (by rfl) B.list (prg_1 (by rfl) B.range (pe_callB call_len_seq (by rfl) B.len PySem.boot_len (pa_cons (pv 0) pa_nil)))) (nomark _))))), ?_⟩
    refine ⟨_, rfl, _, _, _, _, true, rfl, .ty _, .base (.lst hl), kit_ty (by decide +kernel), true, rfl, iteF ?_⟩
    refine ⟨_, rfl, a, _, rfl, .inl (SqL.of hl), _, 1, rfl, rfl, _, rfl, ite2 (fun c => absurd (of_decide_eq_true c) (by rw [hlm]; omega)) (fun _ => ?_)⟩
    refine ⟨_, rfl, a, _, rfl, .inl (SqL.of hl), _, 12, rfl, rfl, _, rfl, ite2 (fun c => absurd (of_decide_eq_true c) (by rw [hlm]; omega)) (fun _ => ?_)⟩
    refine ⟨_, rfl, a, rfl, ⟨_, SqL.of hl⟩, fun p np => ?_⟩
    refine lc_list (K := K) (a := a) (xs := ns.map V.int) (fun i H3 => H3 p = some (.lst ((List.replicate i true).map V.bl)) ∧ Same H H3) ⟨upd_same, same_new np⟩ (fun i H3 _ hP => SqL.of (hP.2 _ _ hl)) (fun i x H3 hx hP => ?_) (fun H3 hP => ?_)
    · obtain ⟨y, ey, rfl⟩ := int_at_inv hx
      obtain ⟨hp3, sm⟩ := hP
      refine ⟨rfl, _, rfl, y, rfl, _, hp3, line_lt (by
        rw [List.length_map, List.length_replicate]
        have := (List.getElem?_eq_some_iff.mp hx).1
        omega), ?_, fun b o e => ?_⟩
      · rw [upd_same, List.replicate_succ', List.map_append]
        rfl
      · rw [upd_ne (ne_of_none e np)]
        exact sm _ _ e
    · obtain ⟨hp3, sm⟩ := hP
      have hl3 := sm _ _ hl
      refine ⟨p, _, rfl, SqL.of hp3, _, rfl, ?_⟩
      rw [all_true]
      refine iteF ?_
      refine ⟨_, rfl, a, ns, rfl, SqL.of hl3, by rw [ho.len]; omega, fun ns' s1 hperm hsrt ns1 => ?_⟩
      have hl4 := same_new (o := .lst (ns'.map V.int)) ns1 _ _ hl3
      refine ⟨_, rfl, a, _, rfl, .inl (SqL.of hl4), _, rfl, RgOk.of_le (by omega) (by rw [hlm]; omega) (by omega) (by omega), fun s2 ns2 => ?_⟩
      have e1 : ns' = rg n := sorted_eq (hperm.trans ho) hsrt (rg_sorted n)
      subst e1
      rw [hlm]
      have h1 : (upd (upd H3 s1 (.lst ((rg n).map V.int))) s2 (.lst (rgV 0 (n : Int)))) s1 = some (.lst ((rg n).map V.int)) := same_new ns2 _ _ upd_same
      have h2 : (upd (upd H3 s1 (.lst ((rg n).map V.int))) s2 (.lst (rgV 0 (n : Int)))) s2 = some (.lst ((rg n).map V.int)) := by rw [upd_same, rg_V]
      refine ⟨_, _, dp_list h1, dp_list h2, shaped_list _, shaped_list _, ?_⟩
      rw [eqv_list]
      exact q _ ((sm.trans (same_new ns1)).trans (same_new ns2))
theorem scCheck : FnScope ["thing"] ["thing"] (defScope s_check_order) := ⟨rfl, rfl, rfl, by decide +kernel, rfl, by decide +kernel, by decide +kernel⟩
theorem ok_check {f fO fW : Addr} {fd fdO fdW : FuncData} {k : Nat} {t : Tok} (T : Df K mg "check_order" s_check_order ["thing"] f fd) (TO : Df K mg "is_order" s_is_order ["thing"] fO fdO) (TW : Df K mg "is_whole" s_is_whole ["thing"] fW fdW) (B : Bi mg) (mM : mg "MOST_THINGS" = some (.int 12 t)) : FnOk P w K mg base CX0 (k + 3) f fd ["thing"] spCheck := by
  have GO : FnOk P w K mg base CX0 (k + 2) fO fdO ["thing"] spIsOrd := ok_is_order TO TW B mM
  refine T.F.ok scCheck (fun vs H Q E h => ?_) (fun cdv A outer s H vs Q E hr h => ?_)
  · obtain ⟨a, n, ns, rfl, _⟩ := h
    rfl
  · obtain ⟨a, n, ns, rfl, hl, ho, hn1, hn2, q⟩ := h
    refine ⟨_, pss_one (ps_if (pt_not (pt_val (pe_call GO hr (by rfl) TO.g TO.F.kp TO.b .nil pass0 (pa_cons (pv 0) pa_nil)))) (pss_one ps_never) pss_nil), ?_⟩
    exact ⟨_, rfl, a, n, ns, rfl, hl, ho, hn1, hn2, fun H' sm => ⟨_, rfl, iteF (q H' sm)⟩⟩
end
end Fo
namespace Fo
open PySem PySem.Spec PyProof.Rows L2
def IsWay (w : Str) : Prop := w = "swap" ∨ w = "spot" ∨ w = "shift"
theorem n1 : ¬ (("spot" : Str) = "swap") := by decide +kernel
theorem n2 : ¬ (("shift" : Str) = "swap") := by decide +kernel
theorem n3 : ¬ (("shift" : Str) = "spot") := by decide +kernel
/-- the ways as the top has written them -/
structure Wy (K : PySem.W.Frag) (mg : Str → Option Value) (aW : Addr) : Prop where
  g : mg "WAYS" = some (.ref aW)
  t : ∀ H : Hp, SqT K H aW [.str "swap", .str "spot", .str "shift"]
theorem wy_mk {K : PySem.W.Frag} {mg : Str → Option Value} {aW : Addr} {dd : Option Addr} {n : Nat} {t1 t2 t3 : Tok} {sl : Array (Option Value)} (g : mg "WAYS" = some (.ref aW)) (l : K.lookup aW = some ⟨.type "tuple", dd, .seq #[.str "swap" t1, .str "spot" t2, .str "shift" t3] n, sl⟩) : Wy K mg aW :=
  ⟨g, fun H => .inr ⟨_, _, _, l, rfl, rfl, line_small (by show 3 ≤ 16777216; decide), .cons ⟨_, rfl⟩ (.cons ⟨_, rfl⟩ (.cons ⟨_, rfl⟩ .nil))⟩⟩
def spWay : Sp := fun vs H Q _ => ∃ (w : Str), vs = [.str w] ∧ IsWay w ∧ Q .non H
section
variable {P : Program} {w : World} {K : PySem.W.Frag} {mg : Str → Option Value} {base : Heap}
theorem scWay : FnScope ["thing"] ["thing"] (defScope s_check_way) := ⟨rfl, rfl, rfl, by decide +kernel, rfl, by decide +kernel, by decide +kernel⟩
theorem ok_way {f aW : Addr} {fd : FuncData} {k : Nat} (T : Df K mg "check_way" s_check_way ["thing"] f fd) (W : Wy K mg aW) (B : Bi mg) : FnOk P w K mg base CX0 (k + 1) f fd ["thing"] spWay := by
  refine T.F.ok scWay (fun vs H Q E h => ?_) (fun cdv A outer s H vs Q E hr h => ?_)
  · obtain ⟨z, rfl, _⟩ := h
    rfl
  · obtain ⟨z, rfl, hz, q⟩ := h
    refine ⟨_, 
      (pss_one (ps_if (PW.pt (pw_or (pt_not (pt_val (pe_callB call_isi (by rfl) B.isinstance (by decide +kernel) (pa_cons (pv 0) (pa_cons (pe_bltn (v := .ty "str") (by rfl) B.str (by decide +kernel) rfl) pa_nil))))) (pw_or1 (pt_cmpR op_notIn_seq (pv 0) (pe_glob (v := .ref aW) (by rfl) W.g rfl) (by rfl)))))
        (pss_one ps_never)
        pss_nil)), ?_⟩
    refine ⟨_, rfl, _, _, _, _, true, rfl, .ty _, .base (.str _), kit_ty (by decide +kernel), true, rfl, iteF ?_⟩
    rcases hz with rfl | rfl | rfl
    · exact ⟨_, rfl, aW, _, rfl, .inr (W.t H), rfl, rfl, _, rfl, ite2 (fun c => absurd c (by decide +kernel)) (fun _ => q)⟩
    · exact ⟨_, rfl, aW, _, rfl, .inr (W.t H), rfl, rfl, _, rfl, ite2 (fun c => absurd c (by decide +kernel)) (fun _ => q)⟩
    · exact ⟨_, rfl, aW, _, rfl, .inr (W.t H), rfl, rfl, _, rfl, ite2 (fun c => absurd c (by decide +kernel)) (fun _ => q)⟩
end
end Fo
namespace Fo
open PySem PySem.Spec PyProof.Rows L2
def spFit : Sp := fun vs H Q _ => ∃ (a b : Addr) (ns ms : List Int), vs = [.ref a, .ref b] ∧ H a = some (.lst (ns.map V.int)) ∧ H b = some (.lst (ms.map V.int)) ∧ ns.length = ms.length ∧ Q .non H
section
variable {P : Program} {w : World} {K : PySem.W.Frag} {mg : Str → Option Value} {base : Heap}
theorem scFit : FnScope ["one", "other"] ["one", "other"] (defScope s_check_fit) := ⟨rfl, rfl, rfl, by decide +kernel, rfl, by decide +kernel, by decide +kernel⟩
theorem ok_fit {f : Addr} {fd : FuncData} {k : Nat} (T : Df K mg "check_fit" s_check_fit ["one", "other"] f fd) (B : Bi mg) : FnOk P w K mg base CX0 (k + 1) f fd ["one", "other"] spFit := by
  refine T.F.ok scFit (fun vs H Q E h => ?_) (fun cdv A outer s H vs Q E hr h => ?_)
  · obtain ⟨a, b, ns, ms, rfl, _⟩ := h
    rfl
  · obtain ⟨a, b, ns, ms, rfl, ha, hb, e, q⟩ := h
    refine ⟨_, 
      (pss_one (ps_if (pt_cmpR op_ne (pe_callB call_len_seq (by rfl) B.len PySem.boot_len (pa_cons (pv 0) pa_nil)) (pe_callB call_len_seq (by rfl) B.len PySem.boot_len (pa_cons (pv 1) pa_nil)) (nomark _))
        (pss_one ps_never)
        pss_nil)), ?_⟩
    refine ⟨_, rfl, a, _, rfl, .inl (SqL.of ha), _, rfl, b, _, rfl, .inl (SqL.of hb), rfl, _, rfl, ?_⟩
    rw [List.length_map, List.length_map, e]
    exact iteNS rfl q
end
end Fo
namespace Fo
open PySem PySem.Spec PyProof.Rows L2
/-! ### sums -/
def ind (b : Bool) : Nat := if b then 1 else 0
def sumN (l : List Int) (f : Int → Nat) : Nat := (l.map f).sum
theorem sumN_nil (f : Int → Nat) : sumN [] f = 0 := rfl
theorem sumN_cons (a : Int) (l : List Int) (f : Int → Nat) : sumN (a :: l) f = f a + sumN l f := by
  unfold sumN
  rw [List.map_cons, List.sum_cons]
theorem sumN_append (l m : List Int) (f : Int → Nat) : sumN (l ++ m) f = sumN l f + sumN m f := by
  unfold sumN
  rw [List.map_append, List.sum_append]
theorem sumN_perm {l m : List Int} (h : l.Perm m) (f : Int → Nat) : sumN l f = sumN m f := by
  induction h with
  | nil => rfl
  | cons x _ ih => rw [sumN_cons, sumN_cons, ih]
  | swap x y l => rw [sumN_cons, sumN_cons, sumN_cons, sumN_cons]; omega
  | trans _ _ h1 h2 => exact h1.trans h2
theorem sumN_congr {l : List Int} {f g : Int → Nat} (h : ∀ x ∈ l, f x = g x) : sumN l f = sumN l g := by
  unfold sumN
  rw [List.map_congr_left h]
theorem sumN_map (l : List Int) (g : Int → Int) (f : Int → Nat) : sumN (l.map g) f = sumN l (fun x => f (g x)) := by
  unfold sumN
  rw [List.map_map]
  rfl
theorem sumN_zero {l : List Int} {f : Int → Nat} (h : ∀ x ∈ l, f x = 0) : sumN l f = 0 := by
  rw [sumN_congr h]
  induction l with
  | nil => rfl
  | cons a l ih => rw [sumN_cons, ih fun x hx => h x (List.mem_cons_of_mem _ hx)]
theorem sumN_add (l : List Int) (f g : Int → Nat) : sumN l (fun x => f x + g x) = sumN l f + sumN l g := by
  induction l with
  | nil => rfl
  | cons a l ih => rw [sumN_cons, sumN_cons, sumN_cons, ih]; omega
theorem sumN_swap (l m : List Int) (f : Int → Int → Nat) : sumN l (fun i => sumN m (fun j => f i j)) = sumN m (fun j => sumN l (fun i => f i j)) := by
  induction l with
  | nil => exact (sumN_zero fun x _ => rfl).symm
  | cons a l ih =>
    rw [sumN_cons, ih, ← sumN_add]
    exact sumN_congr fun x _ => by rw [sumN_cons]
theorem filter_len (l : List Int) (p : Int → Bool) : (l.filter p).length = sumN l (fun x => ind (p x)) := by
  induction l with
  | nil => rfl
  | cons a l ih =>
    rw [sumN_cons, List.filter_cons]
    unfold ind at ih ⊢
    cases p a
    · simp only [Bool.false_eq_true, if_false]; omega
    · simp only [if_true, List.length_cons]; omega
/-! ### a list by its places -/
def g0 (s : List Int) (i : Int) : Int := s.getD i.toNat 0
theorem g0_at {s : List Int} {i : Nat} {x : Int} (h : s[i]? = some x) : g0 s (i : Int) = x := by
  unfold g0
  rw [Int.toNat_natCast, List.getD_eq_getElem?_getD, h]
  rfl
theorem by_places (s : List Int) : s = (rg s.length).map (g0 s) := by
  apply List.ext_getElem?
  intro i
  unfold rg
  rw [List.getElem?_map, List.getElem?_map]
  by_cases h : i < s.length
  · rw [List.getElem?_range h, List.getElem?_eq_getElem h]
    show some s[i] = some (g0 s (i : Int))
    rw [g0_at (List.getElem?_eq_getElem h)]
  · rw [List.getElem?_eq_none (by omega), List.getElem?_eq_none (by rw [List.length_range]; omega)]
    rfl
theorem rg_succ (n : Nat) : rg (n + 1) = rg n ++ [(n : Int)] := by
  unfold rg
  rw [List.range_succ, List.map_append]
  rfl
/-- how many of the later ones are less -/
def cntL (s : List Int) (i : Nat) : Nat := ((s.drop (i + 1)).filter (fun x => decide (x < g0 s i))).length
def invF (n : Nat) (a : Int → Int) : Nat := sumN (rg n) fun i => sumN (rg n) fun j => ind (decide (i < j) && decide (a j < a i))
def invN (s : List Int) : Nat := sumN (rg s.length) fun i => cntL s i.toNat
theorem drop_sum (n i : Nat) (f : Int → Nat) : sumN ((rg n).drop (i + 1)) f = sumN (rg n) fun j => if (i : Int) < j then f j else 0 := by
  induction n with
  | zero => rfl
  | succ n ih =>
    rw [rg_succ, sumN_append, ← ih, List.drop_append, sumN_append, rg_len]
    congr 1
    by_cases h : i + 1 ≤ n
    · rw [show i + 1 - n = 0 by omega, List.drop_zero, sumN_cons, sumN_cons, sumN_nil, sumN_nil, if_pos (by omega)]
    · rw [show i + 1 - n = (i - n) + 1 by omega, List.drop_succ_cons, List.drop_nil, sumN_cons, sumN_nil, sumN_nil, if_neg (by omega)]
theorem cnt_sum (s : List Int) (i : Nat) : cntL s i = sumN (rg s.length) fun j => ind (decide ((i : Int) < j) && decide (g0 s j < g0 s i)) := by
  unfold cntL
  rw [filter_len]
  have e : s.drop (i + 1) = ((rg s.length).drop (i + 1)).map (g0 s) := by
    rw [List.map_drop, ← by_places]
  rw [e, sumN_map, drop_sum]
  apply sumN_congr
  intro j _
  unfold ind
  by_cases h : (i : Int) < j
  · simp [h]
  · simp [h]
theorem inv_eq (s : List Int) : invN s = invF s.length (g0 s) := by
  unfold invN invF
  apply sumN_congr
  intro i hi
  have := rg_mem.mp hi
  rw [cnt_sum, Int.toNat_of_nonneg this.1]
/-! ### places of things -/
def pos (ys : List Int) (x : Int) : Int := ((ys.idxOf x : Nat) : Int)
def seatsL (xs ys : List Int) : List Int := xs.map (pos ys)
theorem pos_of {n : Nat} {ys : List Int} (o : IsOrd n ys) {j : Nat} {x : Int} (h : ys[j]? = some x) : pos ys x = (j : Int) := by
  obtain ⟨hj, e⟩ := List.getElem?_eq_some_iff.mp h
  have m : x ∈ ys := List.mem_of_getElem? h
  have hi : ys.idxOf x < ys.length := List.idxOf_lt_length_iff.mpr m
  have h2 : ys[ys.idxOf x]? = some x := by
    rw [List.getElem?_eq_getElem hi]
    exact congrArg some (List.getElem_idxOf hi)
  unfold pos
  rw [nd_ix o.nodup h2 h]
theorem pos_at {n : Nat} {ys : List Int} (o : IsOrd n ys) {x : Int} (h0 : 0 ≤ x) (h1 : x < n) : ∃ j : Nat, j < n ∧ ys[j]? = some x ∧ pos ys x = (j : Int) := by
  obtain ⟨j, hj, e⟩ := ord_at o (t := x.toNat) (by omega)
  rw [Int.toNat_of_nonneg h0] at e
  exact ⟨j, hj, e, pos_of o e⟩
theorem back_pos {n : Nat} {ys ps : List Int} (o : IsOrd n ys) (h : IsBack ys ps) {x : Int} (h0 : 0 ≤ x) (h1 : x < n) : ps[x.toNat]? = some (pos ys x) := by
  obtain ⟨j, hj, e, ep⟩ := pos_at o h0 h1
  rw [ep]
  exact h.2 j x e
theorem seats_len (xs ys : List Int) : (seatsL xs ys).length = xs.length := by
  unfold seatsL
  rw [List.length_map]
theorem seats_at {xs ys : List Int} {i : Nat} {x : Int} (h : xs[i]? = some x) : (seatsL xs ys)[i]? = some (pos ys x) := by
  unfold seatsL
  rw [List.getElem?_map, h]
  rfl
theorem seats_self {n : Nat} {ys : List Int} (o : IsOrd n ys) : seatsL ys ys = rg n := by
  apply List.ext_getElem?
  intro i
  by_cases h : i < n
  · obtain ⟨x, hx, _⟩ := ord_ix o h
    rw [seats_at hx, pos_of o hx]
    unfold rg
    rw [List.getElem?_map, List.getElem?_range h]
    rfl
  · rw [List.getElem?_eq_none (by rw [seats_len, o.len]; omega), List.getElem?_eq_none (by rw [rg_len]; omega)]
theorem seats_ord {n : Nat} {xs ys : List Int} (ox : IsOrd n xs) (oy : IsOrd n ys) : IsOrd n (seatsL xs ys) := by
  have h : (seatsL xs ys).Perm (seatsL ys ys) := List.Perm.map _ (ox.trans oy.symm)
  rw [seats_self oy] at h
  exact h
theorem g0_ord {n : Nat} {s : List Int} (o : IsOrd n s) : s = (rg n).map (g0 s) := by
  have e := by_places s
  rw [o.len] at e
  exact e
/-- inversions from the other side -/
theorem inv_turn {n : Nat} {s t : List Int} (os : IsOrd n s) (ot : IsOrd n t) (h : ∀ u ∈ rg n, g0 s (g0 t u) = u) : invN s = invN t := by
  rw [inv_eq, inv_eq, os.len, ot.len]
  unfold invF
  have p1 : ∀ f : Int → Nat, sumN (rg n) f = sumN (rg n) fun u => f (g0 t u) := fun f => by
    have e : sumN ((rg n).map (g0 t)) f = sumN (rg n) fun u => f (g0 t u) := sumN_map _ _ _
    rw [← e, ← g0_ord ot]
    exact (sumN_perm ot f).symm
  rw [p1]
  rw [sumN_congr (g := fun u => sumN (rg n) fun v => ind (decide (g0 t u < g0 t v) && decide (v < u))) (fun u hu => by
    rw [p1]
    exact sumN_congr fun v hv => by rw [h u hu, h v hv])]
  rw [sumN_swap]
  apply sumN_congr
  intro v _
  apply sumN_congr
  intro u _
  rw [Bool.and_comm]
theorem seats_turn {n : Nat} {xs ys : List Int} (ox : IsOrd n xs) (oy : IsOrd n ys) : ∀ u ∈ rg n, g0 (seatsL xs ys) (g0 (seatsL ys xs) u) = u := by
  intro u hu
  have hb := rg_mem.mp hu
  obtain ⟨y, hy, y0, y1⟩ := ord_ix oy (j := u.toNat) (by omega)
  have e1 : g0 (seatsL ys xs) u = pos xs y := by
    have := g0_at (seats_at (ys := xs) hy)
    rw [Int.toNat_of_nonneg hb.1] at this
    exact this
  obtain ⟨j, hj, ej, pj⟩ := pos_at ox y0 y1
  rw [e1, pj, g0_at (seats_at (ys := ys) ej), pos_of oy hy]
  omega
/-! ### how far two orders are -/
def farSwap (xs ys : List Int) : Int := ((invN (seatsL xs ys) : Nat) : Int)
def spotL (xs ys : List Int) : List Int := (rg xs.length).filter fun p => !decide (g0 xs p = g0 ys p)
def farSpot (xs ys : List Int) : Int := (((spotL xs ys).length : Nat) : Int)
def absI (i : Int) : Int := if i < 0 then -i else i
def gapsL (xs ys : List Int) : List Int := (rg xs.length).map fun p => absI (p - g0 (seatsL xs ys) p)
def maxL (l : List Int) : Int := l.foldr max 0
def farShift (xs ys : List Int) : Int := maxL (gapsL xs ys)
theorem maxL_of : ∀ {l : List Int} {m : Int}, (∀ x ∈ l, 0 ≤ x) → m ∈ l → (∀ x ∈ l, x ≤ m) → maxL l = m := by
  intro l m h0 hm hle
  have key : ∀ l : List Int, (∀ x ∈ l, x ≤ m) → maxL l ≤ m := by
    intro l hl
    induction l with
    | nil => exact h0 m hm
    | cons a l ih =>
      show max a (maxL l) ≤ m
      have h1 := hl a List.mem_cons_self
      have h2 := ih fun x hx => hl x (List.mem_cons_of_mem _ hx)
      omega
  have key2 : ∀ l : List Int, ∀ x ∈ l, x ≤ maxL l := by
    intro l
    induction l with
    | nil => intro x hx; exact absurd hx List.not_mem_nil
    | cons a l ih =>
      intro x hx
      show x ≤ max a (maxL l)
      rcases List.mem_cons.mp hx with rfl | hx
      · omega
      · have := ih x hx
        omega
  have := key l hle
  have := key2 l m hm
  omega
theorem gaps_nonneg (xs ys : List Int) : ∀ x ∈ gapsL xs ys, 0 ≤ x := by
  intro x hx
  obtain ⟨p, _, rfl⟩ := List.mem_map.mp hx
  unfold absI
  split <;> omega
theorem maxL_mem {l : List Int} (h0 : ∀ x ∈ l, 0 ≤ x) (hl : 0 < l.length) : maxL l ∈ l ∧ ∀ x ∈ l, x ≤ maxL l := by
  induction l with
  | nil => exact absurd hl (Nat.lt_irrefl _)
  | cons a l ih =>
    show max a (maxL l) ∈ a :: l ∧ ∀ x ∈ a :: l, x ≤ max a (maxL l)
    by_cases c : 0 < l.length
    · obtain ⟨h1, h2⟩ := ih (fun x hx => h0 x (List.mem_cons_of_mem _ hx)) c
      constructor
      · by_cases d : maxL l ≤ a
        · rw [Int.max_eq_left d]
          exact List.mem_cons_self
        · rw [Int.max_eq_right (by omega)]
          exact List.mem_cons_of_mem _ h1
      · intro x hx
        rcases List.mem_cons.mp hx with rfl | hx
        · omega
        · have := h2 x hx
          omega
    · have e : l = [] := List.eq_nil_of_length_eq_zero (by omega)
      subst e
      have := h0 a List.mem_cons_self
      have e2 : max a (maxL []) = a := by show max a 0 = a; omega
      rw [e2]
      exact ⟨List.mem_cons_self, fun x hx => by rw [List.mem_singleton.mp hx]; exact Int.le_refl _⟩
theorem farSwap_turn {n : Nat} {xs ys : List Int} (ox : IsOrd n xs) (oy : IsOrd n ys) : farSwap ys xs = farSwap xs ys := by
  unfold farSwap
  rw [inv_turn (seats_ord ox oy) (seats_ord oy ox) (seats_turn ox oy)]
theorem inv_rg (n : Nat) : invN (rg n) = 0 := by
  rw [inv_eq]
  unfold invF
  apply sumN_zero
  intro i hi
  apply sumN_zero
  intro j hj
  rw [rg_len] at hi hj
  have hi2 := rg_mem.mp hi
  have hj2 := rg_mem.mp hj
  have e : ∀ k : Int, k ∈ rg n → g0 (rg n) k = k := fun k hk => by
    have := rg_mem.mp hk
    have z : (rg n)[k.toNat]? = some k := by
      unfold rg
      rw [List.getElem?_map, List.getElem?_range (by omega)]
      show some ((k.toNat : Nat) : Int) = some k
      rw [Int.toNat_of_nonneg this.1]
    have z2 := g0_at z
    rw [Int.toNat_of_nonneg this.1] at z2
    exact z2
  rw [e i hi, e j hj]
  unfold ind
  by_cases c : i < j
  · have d : ¬ j < i := by omega
    simp [c, d]
  · simp [c]
theorem farSwap_self {n : Nat} {xs : List Int} (ox : IsOrd n xs) : farSwap xs xs = 0 := by
  unfold farSwap
  rw [seats_self ox, inv_rg]
  rfl
theorem farSpot_turn {xs ys : List Int} (h : xs.length = ys.length) : farSpot ys xs = farSpot xs ys := by
  unfold farSpot spotL
  rw [h]
  congr 3
  funext p
  congr 1
  by_cases c : g0 ys p = g0 xs p
  · rw [decide_eq_true c, decide_eq_true c.symm]
  · rw [decide_eq_false c, decide_eq_false fun e => c e.symm]
theorem farSpot_self (xs : List Int) : farSpot xs xs = 0 := by
  unfold farSpot spotL
  have e : ((rg xs.length).filter fun p => !decide (g0 xs p = g0 xs p)) = [] := by
    rw [List.filter_eq_nil_iff]
    intro a _
    simp
  rw [e]
  rfl
theorem gaps_len (xs ys : List Int) : (gapsL xs ys).length = xs.length := by
  unfold gapsL
  rw [List.length_map, rg_len]
theorem gaps_sub {n : Nat} {xs ys : List Int} (ox : IsOrd n xs) (oy : IsOrd n ys) : ∀ g ∈ gapsL ys xs, g ∈ gapsL xs ys := by
  intro g hg
  obtain ⟨u, hu, rfl⟩ := List.mem_map.mp hg
  rw [oy.len] at hu
  have hb := (seats_ord oy ox).mem (x := g0 (seatsL ys xs) u) (by
    have e := g0_ord (seats_ord oy ox)
    rw [e]
    exact List.mem_map.mpr ⟨u, hu, by rw [← e]⟩)
  refine List.mem_map.mpr ⟨g0 (seatsL ys xs) u, by rw [ox.len]; exact rg_mem.mpr hb, ?_⟩
  rw [seats_turn ox oy u hu]
  unfold absI
  split <;> split <;> omega
theorem farShift_turn {n : Nat} {xs ys : List Int} (ox : IsOrd n xs) (oy : IsOrd n ys) (hn : 1 ≤ n) : farShift ys xs = farShift xs ys := by
  unfold farShift
  obtain ⟨h1, h2⟩ := maxL_mem (gaps_nonneg xs ys) (by rw [gaps_len, ox.len]; exact hn)
  exact maxL_of (gaps_nonneg ys xs) (gaps_sub oy ox _ h1) fun x hx => h2 x (gaps_sub ox oy x hx)
theorem farShift_self {n : Nat} {xs : List Int} (ox : IsOrd n xs) (hn : 1 ≤ n) : farShift xs xs = 0 := by
  unfold farShift
  have z : ∀ g ∈ gapsL xs xs, g = 0 := by
    intro g hg
    obtain ⟨u, hu, rfl⟩ := List.mem_map.mp hg
    rw [ox.len] at hu
    have hb := rg_mem.mp hu
    rw [seats_self ox]
    have e : (rg n)[u.toNat]? = some u := by
      unfold rg
      rw [List.getElem?_map, List.getElem?_range (by omega)]
      show some ((u.toNat : Nat) : Int) = some u
      rw [Int.toNat_of_nonneg hb.1]
    have z2 := g0_at e
    rw [Int.toNat_of_nonneg hb.1] at z2
    rw [z2]
    unfold absI
    split <;> omega
  obtain ⟨h1, _⟩ := maxL_mem (gaps_nonneg xs xs) (by rw [gaps_len, ox.len]; exact hn)
  exact z _ h1
end Fo
namespace Fo
open PySem PySem.Spec PyProof.Rows L2
def farW (w : Str) (xs ys : List Int) : Int := if w = "swap" then farSwap xs ys else if w = "spot" then farSpot xs ys else farShift xs ys
theorem farW_swap (xs ys : List Int) : farW "swap" xs ys = farSwap xs ys := if_pos rfl
theorem farW_spot (xs ys : List Int) : farW "spot" xs ys = farSpot xs ys := by
  unfold farW
  rw [if_neg n1, if_pos rfl]
theorem farW_shift (xs ys : List Int) : farW "shift" xs ys = farShift xs ys := by
  unfold farW
  rw [if_neg n2, if_neg n3]
theorem farW_turn {w : Str} {n : Nat} {xs ys : List Int} (ox : IsOrd n xs) (oy : IsOrd n ys) (hn : 1 ≤ n) : farW w ys xs = farW w xs ys := by
  unfold farW
  rw [farSwap_turn ox oy, farSpot_turn (by rw [ox.len, oy.len]), farShift_turn ox oy hn]
theorem farW_self {w : Str} {n : Nat} {xs : List Int} (ox : IsOrd n xs) (hn : 1 ≤ n) : farW w xs xs = 0 := by
  unfold farW
  rw [farSwap_self ox, farSpot_self, farShift_self ox hn]
  split
  · rfl
  · split <;> rfl
abbrev rAbs : List V → Hp → VK → Prop := fun xs H Q => ∃ i, xs = [.int i] ∧ Q (.int (if i < 0 then -i else i)) H
def spFar : Sp := fun vs H Q _ => ∃ (w : Str) (a b : Addr) (n : Nat) (xs ys : List Int), vs = [.str w, .ref a, .ref b] ∧ IsWay w ∧ H a = some (.lst (xs.map V.int)) ∧ H b = some (.lst (ys.map V.int)) ∧ IsOrd n xs ∧ IsOrd n ys ∧ 1 ≤ n ∧ n ≤ 12 ∧ ∀ (H' : Hp), Same H H' → Q (.int (farW w xs ys)) H'
end Fo
namespace Fo
open PySem PySem.Spec PyProof.Rows L2
def two (vs : List V) (H : Hp) (a b : Addr) (n : Nat) (xs ys : List Int) : Prop := vs = [.ref a, .ref b] ∧ H a = some (.lst (xs.map V.int)) ∧ H b = some (.lst (ys.map V.int)) ∧ IsOrd n xs ∧ IsOrd n ys ∧ 1 ≤ n ∧ n ≤ 12
end Fo
namespace Fo
open PySem PySem.Spec PyProof.Rows L2
def spPlaces : Sp := fun vs H Q _ => ∃ (a : Addr) (n : Nat) (ns : List Int), vs = [.ref a] ∧ H a = some (.lst (ns.map V.int)) ∧ IsOrd n ns ∧ 1 ≤ n ∧ n ≤ 12 ∧
  ∀ (ps : List Int) (l : Addr) (H' : Hp), IsBack ns ps → H l = none → H' l = some (.lst (ps.map V.int)) → Same H H' → Q (.ref l) H'
section
variable {P : Program} {w : World} {K : PySem.W.Frag} {mg : Str → Option Value} {base : Heap}
theorem scPlaces : FnScope ["order", "places", "place", "thing"] ["order"] (defScope s_places_in) := ⟨rfl, rfl, rfl, by decide +kernel, rfl, by decide +kernel, by decide +kernel⟩
set_option maxHeartbeats 2000000 in
theorem ok_places {f : Addr} {fd : FuncData} {k : Nat} (T : Df K mg "places_in" s_places_in ["order"] f fd) (B : Bi mg) : FnOk P w K mg base CX0 (k + 1) f fd ["order"] spPlaces := by
  refine T.F.ok scPlaces (fun vs H Q E h => ?_) (fun cdv A outer s H vs Q E hr h => ?_)
  · obtain ⟨a, n, ns, rfl, _⟩ := h
    rfl
  · obtain ⟨a, n, ns, rfl, ha, ho, hn1, hn2, q⟩ := h
    have hlm : (ns.map V.int).length = n := by rw [List.length_map, ho.len]
    have hz : ∀ m : Nat, (List.replicate m [V.int 0]).flatten = (List.replicate m (0 : Int)).map V.int := by
      intro m
      induction m with
      | zero => rfl
      | succ m ih => rw [List.replicate_succ, List.replicate_succ, List.flatten_cons, ih]; rfl
    refine ⟨_, 
      (pss_cons (ps_set (i := 1) scPlaces.nd rfl (.inl rfl) (pe_op op_rep (pe_lst (pa_cons pe_int pa_nil)) (pe_callB call_len_seq (by rfl) B.len PySem.boot_len (pa_cons (pv 0) pa_nil))))
      (pss_cons (ps_for PassesOwn.never rfl (pi_enum (by rfl) B.enumerate (pa_cons (pv 0) pa_nil)) (pg_tup (by rfl) (pgs_cons (pg_name (i := 2) scPlaces.nd rfl (.inl rfl)) (pgs_cons (pg_name (i := 3) scPlaces.nd rfl (.inl rfl)) pgs_nil)))
        (pss_one (ps_asg (pv 2) (pg_sub (pv 1) (pv 3) set_list))))
      (pss_one (ps_ret (pv 1))))), ?_⟩
    refine ⟨line_small (by show 1 ≤ 16777216; decide), fun z nz => ?_⟩
    have s1 := same_new (o := .lst [.int 0]) nz
    refine ⟨_, rfl, a, _, rfl, .inl (SqL.of (s1 _ _ ha)), z, _, _, rfl, rfl, upd_same, by omega, by rw [hlm]; omega, line_small (by rw [hlm, Int.toNat_natCast]; show 1 * n ≤ _; omega), fun l nl => ?_⟩
    have s2 := s1.trans (same_new (o := .lst (List.replicate (((ns.map V.int).length : Nat) : Int).toNat [V.int 0]).flatten) nl)
    have nHl : H l = none := s1.free nl
    refine ⟨_, rfl, a, _, rfl, SqL.of (s2 _ _ ha), ?_⟩
    refine for_enumL (xs := ns.map V.int) (fun i σ H3 => ∃ (y2 y3 : Option V) (ps : List Int), σ = [some (.ref a), some (.ref l), y2, y3] ∧ H3 l = some (.lst (ps.map V.int)) ∧ ps.length = n ∧ (∀ (j : Nat) (x : Int), j < i → ns[j]? = some x → ps[x.toNat]? = some (j : Int)) ∧ Same H H3)
      ⟨none, none, List.replicate n 0, rfl, by rw [upd_same, hz, hlm, Int.toNat_natCast], by rw [List.length_replicate], fun j x hj => absurd hj (Nat.not_lt_zero _), s2⟩ (fun i σ H3 hP => by obtain ⟨_, _, _, _, _, _, _, sm⟩ := hP; exact SqL.of (sm _ _ ha)) (fun i x t σ H3 hx hP nt => ?_) (fun σ H3 hP => ?_)
    · obtain ⟨y2, y3, ps, rfl, hl3, el, hat, sm⟩ := hP
      obtain ⟨y, ey, rfl⟩ := int_at_inv hx
      have hy := ho.mem (List.mem_of_getElem? ey)
      have s3 := same_new (o := .tup [.int (i : Nat), .int y]) nt
      have hl4 := s3 _ _ hl3
      refine ⟨t, _, rfl, .inl (.inl upd_same), rfl, _, _, rfl, _, _, rfl, rfl, ?_⟩
      refine ⟨_, rfl, _, rfl, _, rfl, l, _, _, y.toNat, rfl, rfl, hl4, ix_n (by omega) (by rw [List.length_map]; omega), ?_⟩
      refine ⟨_, _, ps.set y.toNat (i : Int), rfl, by rw [upd_same, List.map_set], by rw [List.length_set]; exact el, fun j x hj hx2 => ?_, fun c o e => ?_⟩
      · by_cases c : j = i
        · subst c
          have e1 : x = y := Option.some.inj (hx2.symm.trans ey)
          subst e1
          rw [List.getElem?_set_self (by omega)]
        · have hx3 := ho.mem (List.mem_of_getElem? hx2)
          have ne : y.toNat ≠ x.toNat := fun e => c (nd_ix ho.nodup hx2 (by rw [ey]; congr 1; omega))
          rw [List.getElem?_set_ne ne]
          exact hat j x (by omega) hx2
      · rw [upd_ne (ne_of_none e nHl)]
        exact s3 _ _ (sm _ _ e)
    · obtain ⟨y2, y3, ps, rfl, hl3, el, hat, sm⟩ := hP
      rw [hlm] at hat
      refine ⟨_, rfl, q ps l H3 ⟨by rw [el, ho.len], fun j x hx => hat j x ?_ hx⟩ nHl hl3 sm⟩
      have := (List.getElem?_eq_some_iff.mp hx).1
      rw [ho.len] at this
      exact this
end
end Fo
namespace Fo
open PySem PySem.Spec PyProof.Rows L2
theorem g0_getD {s : List Int} {i : Nat} {x : Int} (h : s[i]? = some x) : g0 s i = x := g0_at h
def spSeats : Sp := fun vs H Q _ => ∃ (a b : Addr) (n : Nat) (xs ys : List Int), two vs H a b n xs ys ∧ ∀ (l : Addr) (H' : Hp), H l = none → H' l = some (.lst ((seatsL xs ys).map V.int)) → Same H H' → Q (.ref l) H'
section
variable {P : Program} {w : World} {K : PySem.W.Frag} {mg : Str → Option Value} {base : Heap}
theorem scSeats : FnScope ["one", "other", "places", "thing"] ["one", "other"] (defScope s_seats_in) := ⟨rfl, rfl, rfl, by decide +kernel, rfl, by decide +kernel, by decide +kernel⟩
set_option maxHeartbeats 2000000 in
theorem ok_seats {f fP : Addr} {fd fdP : FuncData} {k : Nat} (T : Df K mg "seats_in" s_seats_in ["one", "other"] f fd) (T_places_in : Df K mg "places_in" s_places_in ["order"] fP fdP) (B : Bi mg) : FnOk P w K mg base CX0 (k + 2) f fd ["one", "other"] spSeats := by
  have G_places_in : FnOk P w K mg base CX0 (k + 1) fP fdP ["order"] spPlaces := ok_places T_places_in B
  refine T.F.ok scSeats (fun vs H Q E h => ?_) (fun cdv A outer s H vs Q E hr h => ?_)
  · obtain ⟨a, b, n, xs, ys, ⟨rfl, _⟩, _⟩ := h
    rfl
  · obtain ⟨a, b, n, xs, ys, ⟨rfl, ha, hb, ox, oy, hn1, hn2⟩, q⟩ := h
    refine ⟨_, 
      (pss_cons (ps_set (i := 2) scSeats.nd rfl (.inr rfl) (pe_call G_places_in hr (by rfl) T_places_in.g T_places_in.F.kp T_places_in.b .nil pass0 (pa_cons (pv 1) pa_nil)))
      (pss_one (ps_ret (pe_lc (own := [("thing", 3)]) (g := (gName 3)) (tt := tYes) (te := (tOp (rIxL K) (tVar 2) (tVar 3))) rfl scSeats.nd (pi_list (pv 0)) (blkOk_by (N := ["one", "other", "places", "thing"]) (sc := defScope s_seats_in) (by decide +kernel)) (fun _ _ _ _ _ => (pg_name (i := 3) scSeats.nd rfl (.inl rfl))) (fun _ _ _ _ _ => pts_nil) (fun _ _ _ _ _ => (pe_ix ix_list (pv 2) (pv 3) (fun _ _ => rfl))))))), ?_⟩
    refine ⟨_, rfl, b, n, ys, rfl, hb, oy, hn1, hn2, fun ps l H1 hps nl hl s1 => ?_⟩
    refine ⟨_, rfl, a, rfl, ⟨_, SqL.of (s1 _ _ ha)⟩, fun D nD => ?_⟩
    have nHD : H D = none := s1.free nD
    refine lc_list (K := K) (a := a) (xs := xs.map V.int) (fun i H3 => H3 D = some (.lst (((seatsL xs ys).take i).map V.int)) ∧ H3 l = some (.lst (ps.map V.int)) ∧ Same H H3) ⟨upd_same, same_new nD _ _ hl, s1.trans (same_new nD)⟩ (fun i H3 _ hP => SqL.of (hP.2.2 _ _ ha)) (fun i x H3 hx hP => ?_) (fun H3 hP => ?_)
    · obtain ⟨y, ey, rfl⟩ := int_at_inv hx
      obtain ⟨hD3, hl3, sm⟩ := hP
      have hy := ox.mem (List.mem_of_getElem? ey)
      have hi := (List.getElem?_eq_some_iff.mp ey).1
      rw [ox.len] at hi
      refine ⟨rfl, _, rfl, _, rfl, l, _, _, _, rfl, rfl, SqL.of hl3, at_of (j := y.toNat) (by omega) (int_at (back_pos oy hps hy.1 hy.2)), _, hD3, line_lt (by rw [List.length_map, List.length_take]; omega), ?_, ?_, fun c o e => ?_⟩
      · rw [upd_same, take_more (seats_at ey), List.map_append]
        rfl
      · rw [upd_ne (ne_of_none hl nD)]
        exact hl3
      · rw [upd_ne (ne_of_none e nHD)]
        exact sm _ _ e
    · obtain ⟨hD3, hl3, sm⟩ := hP
      rw [List.take_of_length_le (by rw [seats_len, List.length_map]; exact Nat.le_refl _)] at hD3
      exact q D H3 nHD hD3 sm
end
end Fo
namespace Fo
open PySem PySem.Spec PyProof.Rows L2
def spSwap : Sp := fun vs H Q _ => ∃ (a b : Addr) (n : Nat) (xs ys : List Int), two vs H a b n xs ys ∧ ∀ (H' : Hp), Same H H' → Q (.int (farSwap xs ys)) H'
def spSpot : Sp := fun vs H Q _ => ∃ (a b : Addr) (n : Nat) (xs ys : List Int), two vs H a b n xs ys ∧ ∀ (H' : Hp), Same H H' → Q (.int (farSpot xs ys)) H'
def spShift : Sp := fun vs H Q _ => ∃ (a b : Addr) (n : Nat) (xs ys : List Int), two vs H a b n xs ys ∧ ∀ (H' : Hp), Same H H' → Q (.int (farShift xs ys)) H'
section
variable {P : Program} {w : World} {K : PySem.W.Frag} {mg : Str → Option Value} {base : Heap}
theorem scSwap : FnScope ["one", "other", "seats", "turned", "place", "seat", "later"] ["one", "other"] (defScope s_far_by_swap) := ⟨rfl, rfl, rfl, by decide +kernel, rfl, by decide +kernel, by decide +kernel⟩
set_option maxHeartbeats 2000000 in
theorem ok_swap {f fP : Addr} {fd fdP : FuncData} {k : Nat} (T : Df K mg "far_by_swap" s_far_by_swap ["one", "other"] f fd) (T_seats_in : Df K mg "seats_in" s_seats_in ["one", "other"] fP fdP) (G_seats_in : FnOk P w K mg base CX0 k fP fdP ["one", "other"] spSeats) (B : Bi mg) : FnOk P w K mg base CX0 (k + 1) f fd ["one", "other"] spSwap := by
  refine T.F.ok scSwap (fun vs H Q E h => ?_) (fun cdv A outer s H vs Q E hr h => ?_)
  · obtain ⟨a, b, n, xs, ys, ⟨rfl, _⟩, _⟩ := h
    rfl
  · obtain ⟨a, b, n, xs, ys, ⟨rfl, ha, hb, ox, oy, hn1, hn2⟩, q⟩ := h
    refine ⟨_, 
      (pss_cons (ps_set (i := 2) scSwap.nd rfl (.inl rfl) (pe_call G_seats_in hr (by rfl) T_seats_in.g T_seats_in.F.kp T_seats_in.b .nil pass0 (pa_cons (pv 0) (pa_cons (pv 1) pa_nil))))
      (pss_cons (ps_set (i := 3) scSwap.nd rfl (.inl rfl) pe_int)
      (pss_cons (ps_for PassesOwn.never rfl (pi_enum (by rfl) B.enumerate (pa_cons (pv 2) pa_nil)) (pg_tup (by rfl) (pgs_cons (pg_name (i := 4) scSwap.nd rfl (.inl rfl)) (pgs_cons (pg_name (i := 5) scSwap.nd rfl (.inr rfl)) pgs_nil)))
        (pss_one (ps_aug (i := 3) scSwap.nd rfl (.inl rfl) (pe_callB call_len_seq (by rfl) B.len PySem.boot_len (pa_cons (pe_lc (own := [("later", 6)]) (g := (gName 6)) (tt := (tTest (tOp (rI0 fun i j => .bl (decide (i < j))) (tVar 6) (tVar 5)))) (te := (tVar 6)) rfl scSwap.nd (pi_list (pe_slice sl_list (pv 2) (po_some (pe_op op_add (pv 4) pe_int)) po_none)) (blkOk_by (N := ["one", "other", "seats", "turned", "place", "seat", "later"]) (sc := defScope s_far_by_swap) (by decide +kernel)) (fun _ _ _ _ _ => (pg_name (i := 6) scSwap.nd rfl (.inl rfl))) (fun _ _ _ _ _ => (pts_one (pt_cmpR op_lt (pv 6) (pv 5) (nomark _)))) (fun _ _ _ _ _ => (pv 6))) pa_nil)) ip_add)))
      (pss_one (ps_ret (pv 3)))))), ?_⟩
    refine ⟨_, rfl, _, rfl, a, b, n, xs, ys, ⟨rfl, ha, hb, ox, oy, hn1, hn2⟩, fun l H1 nl hl s1 => ?_⟩
    have os := seats_ord ox oy
    refine ⟨_, rfl, l, _, rfl, SqL.of hl, ?_⟩
    refine for_enumL (xs := (seatsL xs ys).map V.int) (fun i σ H3 => ∃ (y4 y5 y6 : Option V), σ = [some (.ref a), some (.ref b), some (.ref l), some (.int ((sumN (rg i) (fun p => cntL (seatsL xs ys) p.toNat) : Nat) : Int)), y4, y5, y6] ∧ H3 l = some (.lst ((seatsL xs ys).map V.int)) ∧ Same H H3)
      ⟨none, none, none, rfl, hl, s1⟩ (fun i σ H3 hP => by obtain ⟨_, _, _, _, hl3, _⟩ := hP; exact SqL.of hl3) (fun i x t σ H3 hx hP nt => ?_) (fun σ H3 hP => ?_)
    · obtain ⟨y4, y5, y6, rfl, hl3, sm⟩ := hP
      obtain ⟨y, ey, rfl⟩ := int_at_inv hx
      have hi := (List.getElem?_eq_some_iff.mp ey).1
      rw [os.len] at hi
      have s3 := same_new (o := .tup [.int (i : Nat), .int y]) nt
      refine ⟨t, _, rfl, .inl (.inl upd_same), rfl, _, _, rfl, _, _, rfl, rfl, ?_⟩
      refine ⟨_, rfl, _, rfl, _, rfl, (i : Int), 1, rfl, rfl, _, rfl, l, _, rfl, SqL.of (s3 _ _ hl3), fun c nc => ?_⟩
      have s4 := s3.trans (same_new (o := .lst (cutV ((seatsL xs ys).map V.int) (some ((i : Int) + 1)) none)) nc)
      have ecut : cutV ((seatsL xs ys).map V.int) (some ((i : Int) + 1)) none = (((seatsL xs ys).drop (i + 1)).map V.int) := by
        rw [cut_ints, show (i : Int) + 1 = ((i + 1 : Nat) : Int) by omega, cutI_tail]
      have hc4 : (upd (upd H3 t (.tup [.int (i : Nat), .int y])) c (.lst (cutV ((seatsL xs ys).map V.int) (some ((i : Int) + 1)) none))) c = some (.lst (((seatsL xs ys).drop (i + 1)).map V.int)) := by rw [upd_same, ecut]
      refine ⟨c, rfl, ⟨_, SqL.of hc4⟩, fun D nD => ?_⟩
      have ncD : c ≠ D := ne_of_none hc4 nD
      refine lc_list (K := K) (a := c) (xs := ((seatsL xs ys).drop (i + 1)).map V.int) (fun m H5 => H5 D = some (.lst (((((seatsL xs ys).drop (i + 1)).take m).filter (fun z => decide (z < g0 (seatsL xs ys) i))).map V.int)) ∧ H5 c = some (.lst (((seatsL xs ys).drop (i + 1)).map V.int)) ∧ Same H3 H5)
        ⟨upd_same, by rw [upd_ne ncD]; exact hc4, s4.trans (same_new nD)⟩ (fun m H5 _ hP => SqL.of hP.2.1) (fun m x H5 hx hP => ?_) (fun H5 hP => ?_)
      · obtain ⟨hD5, hc5, s5⟩ := hP
        obtain ⟨z, ez, rfl⟩ := int_at_inv hx
        have eg : g0 (seatsL xs ys) i = y := g0_at ey
        refine ⟨rfl, _, rfl, _, rfl, z, y, rfl, rfl, _, rfl, ite2 (fun c => ?_) (fun c => ?_)⟩
        · have hz : z < y := of_decide_eq_true c
          refine ⟨_, rfl, _, hD5, line_lt ?_, ?_, by rw [upd_ne ncD]; exact hc5, fun u o e => ?_⟩
          · rw [List.length_map]
            refine Nat.lt_of_le_of_lt (List.length_filter_le _ _) ?_
            rw [List.length_take, List.length_drop, os.len]
            omega
          · rw [upd_same, filter_more _ ez, eg, decide_eq_true hz, if_pos rfl, List.map_append]
            rfl
          · rw [upd_ne (ne_of_none (s4 _ _ e) nD)]
            exact s5 _ _ e
        · refine ⟨?_, hc5, s5⟩
          rw [filter_more _ ez, eg, decide_eq_false (fun hz => c (decide_eq_true hz)), if_neg (by decide), List.append_nil]
          rw [eg] at hD5
          exact hD5
      · obtain ⟨hD5, hc5, s5⟩ := hP
        rw [List.length_map, List.take_length] at hD5
        refine ⟨D, _, rfl, .inl (SqL.of hD5), _, _, rfl, rfl, ?_⟩
        refine ⟨some (.int (i : Int)), some (.int y), y6, ?_, s5 _ _ hl3, sm.trans s5⟩
        rw [rg_succ, sumN_append, sumN_cons, sumN_nil, List.length_map]
        show [some (.ref a), some (.ref b), some (.ref l), some (V.int (((sumN (rg i) (fun p => cntL (seatsL xs ys) p.toNat) : Nat) : Int) + ((cntL (seatsL xs ys) i : Nat) : Int))), some (.int (i : Int)), some (.int y), y6] = _
        rw [Int.toNat_natCast, Int.natCast_add, Nat.add_zero]
    · obtain ⟨y4, y5, y6, rfl, hl3, sm⟩ := hP
      refine ⟨_, rfl, ?_⟩
      have z := q H3 sm
      unfold farSwap invN at z
      rw [List.length_map]
      exact z
theorem scSpot : FnScope ["one", "other", "place"] ["one", "other"] (defScope s_far_by_spot) := ⟨rfl, rfl, rfl, by decide +kernel, rfl, by decide +kernel, by decide +kernel⟩
set_option maxHeartbeats 2000000 in
theorem ok_spot {f : Addr} {fd : FuncData} {k : Nat} (T : Df K mg "far_by_spot" s_far_by_spot ["one", "other"] f fd) (B : Bi mg) : FnOk P w K mg base CX0 (k + 1) f fd ["one", "other"] spSpot := by
  refine T.F.ok scSpot (fun vs H Q E h => ?_) (fun cdv A outer s H vs Q E hr h => ?_)
  · obtain ⟨a, b, n, xs, ys, ⟨rfl, _⟩, _⟩ := h
    rfl
  · obtain ⟨a, b, n, xs, ys, ⟨rfl, ha, hb, ox, oy, hn1, hn2⟩, q⟩ := h
    have hxl : (xs.map V.int).length = n := by rw [List.length_map, ox.len]
    refine ⟨_, 
      (pss_one (ps_ret (pe_callB call_len_seq (by rfl) B.len PySem.boot_len (pa_cons (pe_lc (own := [("place", 2)]) (g := (gName 2)) (tt := (tTest (tOp rNe (tOp (rIxL K) (tVar 0) (tVar 2)) (tOp (rIxL K) (tVar 1) (tVar 2))))) (te := (tVar 2)) rfl scSpot.nd (pi_range1 (by rfl) B.range (pa_cons (pe_callB call_len_seq (by rfl) B.len PySem.boot_len (pa_cons (pv 0) pa_nil)) pa_nil)) (blkOk_by (N := ["one", "other", "place"]) (sc := defScope s_far_by_spot) (by decide +kernel)) (fun _ _ _ _ _ => (pg_name (i := 2) scSpot.nd rfl (.inl rfl))) (fun _ _ _ _ _ => (pts_one (pt_cmpR op_ne (pe_ix ix_list (pv 0) (pv 2) (fun _ _ => rfl)) (pe_ix ix_list (pv 1) (pv 2) (fun _ _ => rfl)) (nomark _)))) (fun _ _ _ _ _ => (pv 2))) pa_nil)))), ?_⟩
    refine ⟨_, rfl, a, _, rfl, .inl (SqL.of ha), _, rfl, by omega, by rw [hxl]; omega, fun D nD => ?_⟩
    rw [hxl, Int.toNat_natCast]
    refine lc_range (lo := 0) (n := n) (fun m H3 => H3 D = some (.lst (((rg m).filter (fun p => !decide (g0 xs p = g0 ys p))).map V.int)) ∧ Same H H3) ⟨upd_same, same_new nD⟩ (fun m H3 hm hP => ?_) (fun H3 hP => ?_)
    · obtain ⟨hD3, sm⟩ := hP
      obtain ⟨x, ex, _⟩ := ord_ix ox hm
      obtain ⟨y, ey, _⟩ := ord_ix oy hm
      have gx : g0 xs (m : Int) = x := g0_at ex
      have gy : g0 ys (m : Int) = y := g0_at ey
      have fm : ((rg (m + 1)).filter fun p => !decide (g0 xs p = g0 ys p)) = ((rg m).filter fun p => !decide (g0 xs p = g0 ys p)) ++ (if x = y then [] else [(m : Int)]) := by
        rw [rg_succ, List.filter_append, List.filter_cons, gx, gy]
        congr 1
        by_cases c : x = y
        · simp [c]
        · simp [c]
      refine ⟨rfl, _, rfl, _, rfl, a, _, _, _, rfl, rfl, SqL.of (sm _ _ ha), at_of (j := m) (by omega) (int_at ex), _, rfl, _, rfl, b, _, _, _, rfl, rfl, SqL.of (sm _ _ hb), at_of (j := m) (by omega) (int_at ey), rfl, _, rfl, ?_⟩
      by_cases c : x = y
      · subst c
        refine iteNS rfl ⟨?_, sm⟩
        rw [fm, if_pos rfl, List.append_nil]
        exact hD3
      · rw [decide_eq_false (fun e => c (V.int.inj e))]
        refine iteT ⟨_, rfl, _, hD3, line_lt ?_, ?_, fun u o e => ?_⟩
        · rw [List.length_map]
          refine Nat.lt_of_le_of_lt (List.length_filter_le _ _) ?_
          rw [rg_len]
          omega
        · rw [upd_same, fm, if_neg c, List.map_append, Int.zero_add]
          rfl
        · rw [upd_ne (ne_of_none e nD)]
          exact sm _ _ e
    · obtain ⟨hD3, sm⟩ := hP
      refine ⟨D, _, rfl, .inl (SqL.of hD3), ?_⟩
      have z := q H3 sm
      unfold farSpot spotL at z
      rw [ox.len] at z
      rw [List.length_map]
      exact z
theorem scShift : FnScope ["one", "other", "place", "seat"] ["one", "other"] (defScope s_far_by_shift) := ⟨rfl, rfl, rfl, by decide +kernel, rfl, by decide +kernel, by decide +kernel⟩
set_option maxHeartbeats 2000000 in
theorem ok_shift {f fP : Addr} {fd fdP : FuncData} {k : Nat} (T : Df K mg "far_by_shift" s_far_by_shift ["one", "other"] f fd) (T_seats_in : Df K mg "seats_in" s_seats_in ["one", "other"] fP fdP) (G_seats_in : FnOk P w K mg base CX0 k fP fdP ["one", "other"] spSeats) (B : Bi mg) : FnOk P w K mg base CX0 (k + 1) f fd ["one", "other"] spShift := by
  refine T.F.ok scShift (fun vs H Q E h => ?_) (fun cdv A outer s H vs Q E hr h => ?_)
  · obtain ⟨a, b, n, xs, ys, ⟨rfl, _⟩, _⟩ := h
    rfl
  · obtain ⟨a, b, n, xs, ys, ⟨rfl, ha, hb, ox, oy, hn1, hn2⟩, q⟩ := h
    refine ⟨_, 
      (pss_one (ps_ret (pe_callB (cr_max rfl) (by rfl) B.max (by decide +kernel) (pa_cons (pe_lc (own := [("place", 2), ("seat", 3)]) (g := (gTup K 2 (gCons (gName 2) (gCons (gName 3) gNil)))) (tt := tYes) (te := (tCB rAbs (tCons (tOp (rI0 fun i j => .int (i - j)) (tVar 2) (tVar 3)) tNil))) rfl scShift.nd (pi_enum (by rfl) B.enumerate (pa_cons (pe_call G_seats_in hr (by rfl) T_seats_in.g T_seats_in.F.kp T_seats_in.b .nil pass0 (pa_cons (pv 0) (pa_cons (pv 1) pa_nil))) pa_nil)) (blkOk_by (N := ["one", "other", "place", "seat"]) (sc := defScope s_far_by_shift) (by decide +kernel)) (fun _ _ _ _ _ => (pg_tup (by rfl) (pgs_cons (pg_name (i := 2) scShift.nd rfl (.inl rfl)) (pgs_cons (pg_name (i := 3) scShift.nd rfl (.inl rfl)) pgs_nil)))) (fun _ _ _ _ _ => pts_nil) (fun _ _ _ _ _ => (pe_callB call_abs (by rfl) B.abs (by decide +kernel) (pa_cons (pe_op op_sub (pv 2) (pv 3)) pa_nil)))) pa_nil)))), ?_⟩
    have os := seats_ord ox oy
    refine ⟨_, rfl, _, rfl, a, b, n, xs, ys, ⟨rfl, ha, hb, ox, oy, hn1, hn2⟩, fun l H1 nl hl s1 => ?_⟩
    refine ⟨l, _, rfl, SqL.of hl, fun D nD => ?_⟩
    have nlD : l ≠ D := ne_of_none hl nD
    have nHD : H D = none := s1.free nD
    refine lc_enumL (K := K) (a := l) (xs := (seatsL xs ys).map V.int) (fun m H3 => H3 D = some (.lst (((gapsL xs ys).take m).map V.int)) ∧ H3 l = some (.lst ((seatsL xs ys).map V.int)) ∧ Same H H3) ⟨upd_same, by rw [upd_ne nlD]; exact hl, s1.trans (same_new nD)⟩ (fun m H3 _ hP => SqL.of hP.2.1) (fun m x t H3 hx hP nt => ?_) (fun H3 hP => ?_)
    · obtain ⟨hD3, hl3, sm⟩ := hP
      obtain ⟨y, ey, rfl⟩ := int_at_inv hx
      have hi := (List.getElem?_eq_some_iff.mp ey).1
      rw [os.len] at hi
      have s3 := same_new (o := .tup [.int (m : Nat), .int y]) nt
      have eg : (gapsL xs ys)[m]? = some (absI ((m : Int) - y)) := by
        unfold gapsL rg
        rw [List.map_map, List.getElem?_map, List.getElem?_range (by rw [ox.len]; exact hi)]
        show some (absI ((m : Int) - g0 (seatsL xs ys) (m : Int))) = _
        rw [g0_at ey]
      refine ⟨t, _, rfl, .inl (.inl upd_same), rfl, _, _, rfl, _, _, rfl, rfl, rfl, ?_⟩
      refine ⟨_, rfl, _, rfl, (m : Int), y, rfl, rfl, _, rfl, _, s3 _ _ hD3, line_lt (by rw [List.length_map, List.length_take, gaps_len, ox.len]; omega), ?_, ?_, fun u o e => ?_⟩
      · rw [upd_same, take_more eg, List.map_append]
        rfl
      · rw [upd_ne nlD]
        exact s3 _ _ hl3
      · rw [upd_ne (ne_of_none e nHD)]
        exact s3 _ _ (sm _ _ e)
    · obtain ⟨hD3, hl3, sm⟩ := hP
      rw [List.take_of_length_le (by rw [gaps_len, List.length_map, seats_len]; exact Nat.le_refl _)] at hD3
      refine ⟨D, gapsL xs ys, rfl, SqL.of hD3, by rw [gaps_len, ox.len]; exact hn1, fun m hm hle => ?_⟩
      have e : farShift xs ys = m := maxL_of (gaps_nonneg xs ys) hm hle
      rw [← e]
      exact q H3 sm
theorem scKnown : FnScope ["way", "one", "other"] ["way", "one", "other"] (defScope s_known_far) := ⟨rfl, rfl, rfl, by decide +kernel, rfl, by decide +kernel, by decide +kernel⟩
theorem ok_known {f f4 f5 f6 : Addr} {fd d4 d5 d6 : FuncData} {k : Nat} (T : Df K mg "known_far" s_known_far ["way", "one", "other"] f fd) (T_far_by_swap : Df K mg "far_by_swap" s_far_by_swap ["one", "other"] f4 d4) (T_far_by_spot : Df K mg "far_by_spot" s_far_by_spot ["one", "other"] f5 d5) (T_far_by_shift : Df K mg "far_by_shift" s_far_by_shift ["one", "other"] f6 d6)
    (G_far_by_swap : FnOk P w K mg base CX0 k f4 d4 ["one", "other"] spSwap) (G_far_by_spot : FnOk P w K mg base CX0 k f5 d5 ["one", "other"] spSpot) (G_far_by_shift : FnOk P w K mg base CX0 k f6 d6 ["one", "other"] spShift) :
    FnOk P w K mg base CX0 (k + 1) f fd ["way", "one", "other"] spFar := by
  refine T.F.ok scKnown (fun vs H Q E h => ?_) (fun cdv A outer s H vs Q E hr h => ?_)
  · obtain ⟨z, a, b, n, xs, ys, rfl, _⟩ := h
    rfl
  · obtain ⟨z, a, b, n, xs, ys, rfl, hz, ha, hb, ox, oy, hn1, hn2, q⟩ := h
    refine ⟨_, 
      (pss_cons (ps_if (pt_cmpR op_eq (pv 0) pe_str (nomark _))
        (pss_one (ps_ret (pe_call G_far_by_swap hr (by rfl) T_far_by_swap.g T_far_by_swap.F.kp T_far_by_swap.b .nil pass0 (pa_cons (pv 1) (pa_cons (pv 2) pa_nil)))))
        pss_nil)
      (pss_cons (ps_if (pt_cmpR op_eq (pv 0) pe_str (nomark _))
        (pss_one (ps_ret (pe_call G_far_by_spot hr (by rfl) T_far_by_spot.g T_far_by_spot.F.kp T_far_by_spot.b .nil pass0 (pa_cons (pv 1) (pa_cons (pv 2) pa_nil)))))
        pss_nil)
      (pss_one (ps_ret (pe_call G_far_by_shift hr (by rfl) T_far_by_shift.g T_far_by_shift.F.kp T_far_by_shift.b .nil pass0 (pa_cons (pv 1) (pa_cons (pv 2) pa_nil))))))), ?_⟩
    rcases hz with rfl | rfl | rfl
    · refine ⟨_, rfl, rfl, _, rfl, ite2 (fun _ => ?_) (fun c => absurd (by decide +kernel) c)⟩
      exact ⟨_, rfl, _, rfl, a, b, n, xs, ys, ⟨rfl, ha, hb, ox, oy, hn1, hn2⟩, fun H2 s2 => by rw [← farW_swap]; exact q H2 s2⟩
    · refine ⟨_, rfl, rfl, _, rfl, ite2 (fun c => absurd c (by decide +kernel)) (fun _ => ?_)⟩
      refine ⟨_, rfl, rfl, _, rfl, ite2 (fun _ => ?_) (fun c => absurd (by decide +kernel) c)⟩
      exact ⟨_, rfl, _, rfl, a, b, n, xs, ys, ⟨rfl, ha, hb, ox, oy, hn1, hn2⟩, fun H2 s2 => by rw [← farW_spot]; exact q H2 s2⟩
    · refine ⟨_, rfl, rfl, _, rfl, ite2 (fun c => absurd c (by decide +kernel)) (fun _ => ?_)⟩
      refine ⟨_, rfl, rfl, _, rfl, ite2 (fun c => absurd c (by decide +kernel)) (fun _ => ?_)⟩
      exact ⟨_, rfl, _, rfl, a, b, n, xs, ys, ⟨rfl, ha, hb, ox, oy, hn1, hn2⟩, fun H2 s2 => by rw [← farW_shift]; exact q H2 s2⟩
end
end Fo
namespace Fo
open PySem PySem.Spec PyProof.Rows L2
/-- where a thing stands in an order -/
theorem idx_read {K : PySem.W.Frag} {H : Hp} {a : Addr} {n : Nat} {ys : List Int} {x : Int} {Q : VK} (o : IsOrd n ys) (h : H a = some (.lst (ys.map V.int))) (x0 : 0 ≤ x) (x1 : x < n) (q : Q (.int (pos ys x)) H) : rIndex K (.ref a) [.int x] H Q := by
  obtain ⟨j, hj, ej, pj⟩ := pos_at o x0 x1
  refine ⟨a, _, _, j, _, rfl, rfl, SqL.of h, rfl, flat_ints ys, int_at ej, ?_, fun u z' hu hz' => ?_, ?_⟩
  · show (x == x) = true
    exact beq_self_eq_true _
  · obtain ⟨y, ey, rfl⟩ := int_at_inv hz'
    show (y == x) = false
    rw [beq_eq_false_iff_ne]
    intro e
    subst e
    exact absurd (nd_ix o.nodup ey ej) (by omega)
  · rw [← pj]
    exact q
theorem idx_facts {n : Nat} {ys : List Int} {x : Int} (o : IsOrd n ys) (x0 : 0 ≤ x) (x1 : x < n) : ∃ j : Nat, (ys.map V.int)[j]? = some (V.int x) ∧ eqV (V.int x) (V.int x) = true ∧ (∀ (m : Nat) (z' : V), m < j → (ys.map V.int)[m]? = some z' → eqV z' (V.int x) = false) ∧ ((j : Nat) : Int) = pos ys x := by
  obtain ⟨j, hj, ej, pj⟩ := pos_at o x0 x1
  refine ⟨j, int_at ej, ?_, fun u z' hu hz' => ?_, pj.symm⟩
  · show (x == x) = true
    exact beq_self_eq_true _
  · obtain ⟨y, ey, rfl⟩ := int_at_inv hz'
    show (y == x) = false
    rw [beq_eq_false_iff_ne]
    intro e
    subst e
    exact absurd (nd_ix o.nodup ey ej) (by omega)
end Fo
namespace Fo
open PySem PySem.Spec PyProof.Rows L2
theorem all_trues {l : List Bool} (h : ∀ b ∈ l, b = true) : l.all id = true := List.all_eq_true.mpr fun b hb => h b hb
def sumW (w : Str) (xs : List Int) (rs : List (List Int)) : Int := (rs.map (farW w xs)).sum
def spOLst : Sp := fun vs H Q _ => ∃ (l : Addr) (as : List Addr) (rs : List (List Int)) (n : Nat), vs = [.ref l] ∧ OL H l as rs n ∧ rs.length ≤ 1000 ∧ ∀ H', Same H H' → Q (.bl true) H'
def spCPoll : Sp := fun vs H Q _ => ∃ (l : Addr) (as : List Addr) (rs : List (List Int)) (n : Nat), vs = [.ref l] ∧ OL H l as rs n ∧ 1 ≤ rs.length ∧ rs.length ≤ 20 ∧ ∀ H', Same H H' → Q .non H'
def spKSum : Sp := fun vs H Q _ => ∃ (w : Str) (l o : Addr) (as : List Addr) (rs : List (List Int)) (n : Nat) (xs : List Int), vs = [.str w, .ref l, .ref o] ∧ IsWay w ∧ OL H l as rs n ∧ rs.length ≤ 1000 ∧ H o = some (.lst (xs.map V.int)) ∧ IsOrd n xs ∧ ∀ H', Same H H' → Q (.int (sumW w xs rs)) H'
def spPSum : Sp := fun vs H Q _ => ∃ (w : Str) (l o : Addr) (as : List Addr) (rs : List (List Int)) (n : Nat) (xs : List Int), vs = [.str w, .ref l, .ref o] ∧ IsWay w ∧ OL H l as rs n ∧ 1 ≤ rs.length ∧ rs.length ≤ 20 ∧ H o = some (.lst (xs.map V.int)) ∧ IsOrd n xs ∧ ∀ H', Same H H' → Q (.int (sumW w xs rs)) H'
theorem take_more' {α : Type} {l : List α} {i : Nat} {x : α} (h : l[i]? = some x) : l.take (i + 1) = l.take i ++ [x] := by
  rw [List.take_add_one, h]
  rfl
section
variable {P : Program} {w : World} {K : PySem.W.Frag} {mg : Str → Option Value} {base : Heap}
theorem scOLst : FnScope ["thing", "each", "order"] ["thing"] (defScope s_is_order_list) := ⟨rfl, rfl, rfl, by decide +kernel, rfl, by decide +kernel, by decide +kernel⟩
set_option maxHeartbeats 2000000 in
theorem ok_olst {f f1 : Addr} {fd d1 : FuncData} {k : Nat} (T : Df K mg "is_order_list" s_is_order_list ["thing"] f fd) (T_is_order : Df K mg "is_order" s_is_order ["thing"] f1 d1) (G_is_order : FnOk P w K mg base CX0 k f1 d1 ["thing"] spIsOrd) (B : Bi mg) : FnOk P w K mg base CX0 (k + 1) f fd ["thing"] spOLst := by
  refine T.F.ok scOLst (fun vs H Q E h => ?_) (fun cdv A outer s H vs Q E hr h => ?_)
  · obtain ⟨l, as, rs, n, rfl, _⟩ := h
    rfl
  · obtain ⟨l, as, rs, n, rfl, hO, hlen, q⟩ := h
    have hal := hO.ll.len
    refine ⟨_, 
      (pss_cons (ps_if (PW.pt (pw_or (pt_not (pt_val (pe_callB call_isi (by rfl) B.isinstance (by decide +kernel) (pa_cons (pv 0) (pa_cons (pe_bltn (v := .ty "list") (by rfl) B.list (by decide +kernel) rfl) pa_nil))))) (pw_or1 (pt_not (pt_val (pe_callB (cr_all rfl) (by rfl) B.all (by decide +kernel) (pa_cons (pe_lc (own := [("each", 1)]) (g := (gName 1)) (tt := tYes) (te := (tCall spIsOrd [] E0 (tCons (tVar 1) tNil))) rfl scOLst.nd (pi_list (pv 0)) (blkOk_by (N := ["thing", "each", "order"]) (sc := defScope s_is_order_list) (by decide +kernel)) (fun _ _ _ _ _ => (pg_name (i := 1) scOLst.nd rfl (.inl rfl))) (fun _ _ _ _ _ => pts_nil) (fun _ _ _ _ _ => (pe_call G_is_order hr (by rfl) T_is_order.g T_is_order.F.kp T_is_order.b .nil pass0 (pa_cons (pv 1) pa_nil)))) pa_nil)))))))
        (pss_one (ps_ret pe_bl))
        pss_nil)
      (pss_one (ps_ret (pe_callB (cr_all rfl) (by rfl) B.all (by decide +kernel) (pa_cons (pe_lc (own := [("order", 2)]) (g := (gName 2)) (tt := tYes) (te := (tOp rEq (tCB (rLenS K) (tCons (tVar 2) tNil)) (tCB (rLenS K) (tCons (tOp (rIxL K) (tVar 0) (tC (.int 0))) tNil)))) rfl scOLst.nd (pi_list (pv 0)) (blkOk_by (N := ["thing", "each", "order"]) (sc := defScope s_is_order_list) (by decide +kernel)) (fun _ _ _ _ _ => (pg_name (i := 2) scOLst.nd rfl (.inl rfl))) (fun _ _ _ _ _ => pts_nil) (fun _ _ _ _ _ => (pe_cmpR op_eq (pe_callB call_len_seq (by rfl) B.len PySem.boot_len (pa_cons (pv 2) pa_nil)) (pe_callB call_len_seq (by rfl) B.len PySem.boot_len (pa_cons (pe_ix ix_list (pv 0) pe_int (fun _ _ => rfl)) pa_nil)) (nomark _)))) pa_nil))))), ?_⟩
    refine ⟨_, rfl, _, _, _, _, true, rfl, .ty _, .base (.lst hO.top), kit_ty (by decide +kernel), true, rfl, iteF ?_⟩
    refine ⟨_, rfl, l, rfl, ⟨_, SqL.of hO.top⟩, fun p np => ?_⟩
    refine lc_list (K := K) (a := l) (xs := as.map V.ref) (fun i H3 => H3 p = some (.lst ((List.replicate i true).map V.bl)) ∧ Same H H3) ⟨upd_same, same_new np⟩ (fun i H3 _ hP => SqL.of (hP.2 _ _ hO.top)) (fun i x H3 hx hP => ?_) (fun H3 hP => ?_)
    · obtain ⟨a, ea, rfl⟩ := ref_at_inv hx
      obtain ⟨hp3, sm⟩ := hP
      obtain ⟨r, er, ha⟩ := (hO.ll.same sm).get ea
      refine ⟨rfl, _, rfl, a, n, r, rfl, ha, hO.ord r (List.mem_of_getElem? er), hO.n1, hO.n2, fun H4 s4 => ⟨_, s4 _ _ hp3, line_lt (by
        rw [List.length_map, List.length_replicate]
        have := (List.getElem?_eq_some_iff.mp ea).1
        omega), ?_, fun b o e => ?_⟩⟩
      · rw [upd_same, List.replicate_succ', List.map_append]
        rfl
      · rw [upd_ne (ne_of_none e np)]
        exact s4 _ _ (sm _ _ e)
    · obtain ⟨hp3, sm⟩ := hP
      have h3 := hO.same sm
      refine ⟨p, _, rfl, SqL.of hp3, _, rfl, ?_⟩
      rw [all_true]
      refine iteF ?_
      refine ⟨_, rfl, l, rfl, ⟨_, SqL.of h3.top⟩, fun p2 np2 => ?_⟩
      refine lc_list (K := K) (a := l) (xs := as.map V.ref) (fun i H5 => H5 p2 = some (.lst ((List.replicate i true).map V.bl)) ∧ Same H3 H5) ⟨upd_same, same_new np2⟩ (fun i H5 _ hP => SqL.of (hP.2 _ _ h3.top)) (fun i x H5 hx hP => ?_) (fun H5 hP => ?_)
      · obtain ⟨a, ea, rfl⟩ := ref_at_inv hx
        obtain ⟨hp5, sm5⟩ := hP
        have h5 := h3.same sm5
        obtain ⟨r, er, ha⟩ := h5.ll.get ea
        have hi := (List.getElem?_eq_some_iff.mp ea).1
        obtain ⟨a0, ea0⟩ : ∃ a0, as[0]? = some a0 := ⟨as[0]'(by omega), List.getElem?_eq_getElem (by omega)⟩
        obtain ⟨r0, er0, ha0⟩ := h5.ll.get ea0
        have l1 := (h5.ord r (List.mem_of_getElem? er)).len
        have l2 := (h5.ord r0 (List.mem_of_getElem? er0)).len
        refine ⟨rfl, _, rfl, a, _, rfl, .inl (SqL.of ha), _, rfl, l, _, 0, _, rfl, rfl, SqL.of h5.top, at_of (j := 0) rfl (ref_at ea0), a0, _, rfl, .inl (SqL.of ha0), rfl, ?_⟩
        refine ⟨_, hp5, line_lt (by rw [List.length_map, List.length_replicate]; omega), ?_, fun b o e => ?_⟩
        · rw [upd_same, List.replicate_succ', List.map_append, List.length_map, List.length_map, l1, l2, decide_eq_true rfl]
          rfl
        · rw [upd_ne (ne_of_none e np2)]
          exact sm5 _ _ e
      · obtain ⟨hp5, sm5⟩ := hP
        refine ⟨p2, _, rfl, SqL.of hp5, ?_⟩
        rw [all_true]
        exact q _ (sm.trans sm5)
theorem scCPoll : FnScope ["thing"] ["thing"] (defScope s_check_poll) := ⟨rfl, rfl, rfl, by decide +kernel, rfl, by decide +kernel, by decide +kernel⟩
theorem ok_cpoll {f f1 : Addr} {fd d1 : FuncData} {k : Nat} {t : Tok} (T : Df K mg "check_poll" s_check_poll ["thing"] f fd) (T_is_order_list : Df K mg "is_order_list" s_is_order_list ["thing"] f1 d1) (G_is_order_list : FnOk P w K mg base CX0 k f1 d1 ["thing"] spOLst) (B : Bi mg) (mP : mg "MOST_POLLED" = some (.int 20 t)) : FnOk P w K mg base CX0 (k + 1) f fd ["thing"] spCPoll := by
  refine T.F.ok scCPoll (fun vs H Q E h => ?_) (fun cdv A outer s H vs Q E hr h => ?_)
  · obtain ⟨l, as, rs, n, rfl, _⟩ := h
    rfl
  · obtain ⟨l, as, rs, n, rfl, hO, h1, h2, q⟩ := h
    have hal := hO.ll.len
    have hml : (as.map V.ref).length = as.length := List.length_map _
    refine ⟨_, 
      (pss_one (ps_if (PW.pt (pw_or (pt_not (pt_val (pe_call G_is_order_list hr (by rfl) T_is_order_list.g T_is_order_list.F.kp T_is_order_list.b .nil pass0 (pa_cons (pv 0) pa_nil)))) (pw_or (pt_cmpR op_eq (pe_callB call_len_seq (by rfl) B.len PySem.boot_len (pa_cons (pv 0) pa_nil)) pe_int (nomark _)) (pw_or1 (pt_cmpR op_gt (pe_callB call_len_seq (by rfl) B.len PySem.boot_len (pa_cons (pv 0) pa_nil)) (pe_glob (v := .int 20) (by rfl) mP ⟨_, rfl⟩) (nomark _))))))
        (pss_one ps_never)
        pss_nil)), ?_⟩
    refine ⟨_, rfl, l, as, rs, n, rfl, hO, by omega, fun H1 s1 => ⟨_, rfl, iteF ?_⟩⟩
    have t1 := (hO.same s1).top
    refine ⟨_, rfl, l, _, rfl, .inl (SqL.of t1), rfl, _, rfl, ite2 (fun c => ?_) (fun _ => ?_)⟩
    · exfalso
      have z : V.int (((as.map V.ref).length : Nat) : Int) = V.int 0 := of_decide_eq_true c
      have z2 : (((as.map V.ref).length : Nat) : Int) = 0 := V.int.inj z
      omega
    refine ⟨_, rfl, l, _, rfl, .inl (SqL.of t1), _, 20, rfl, rfl, _, rfl, ite2 (fun c => absurd (of_decide_eq_true c) (by rw [hml]; omega)) (fun _ => q _ s1)⟩
theorem scKSum : FnScope ["way", "poll", "order", "other"] ["way", "poll", "order"] (defScope s_known_sum) := ⟨rfl, rfl, rfl, by decide +kernel, rfl, by decide +kernel, by decide +kernel⟩
set_option maxHeartbeats 2000000 in
theorem ok_ksum {f f1 : Addr} {fd d1 : FuncData} {k : Nat} (T : Df K mg "known_sum" s_known_sum ["way", "poll", "order"] f fd) (T_known_far : Df K mg "known_far" s_known_far ["way", "one", "other"] f1 d1) (G_known_far : FnOk P w K mg base CX0 k f1 d1 ["way", "one", "other"] spFar) (B : Bi mg) : FnOk P w K mg base CX0 (k + 1) f fd ["way", "poll", "order"] spKSum := by
  refine T.F.ok scKSum (fun vs H Q E h => ?_) (fun cdv A outer s H vs Q E hr h => ?_)
  · obtain ⟨z, l, o, as, rs, n, xs, rfl, _⟩ := h
    rfl
  · obtain ⟨z, l, o, as, rs, n, xs, rfl, hz, hO, h2, ho, ox, q⟩ := h
    have hal := hO.ll.len
    refine ⟨_, 
      (pss_one (ps_ret (pe_callB (cr_sum rfl) (by rfl) B.sum (by decide +kernel) (pa_cons (pe_lc (own := [("other", 3)]) (g := (gName 3)) (tt := tYes) (te := (tCall spFar [] E0 (tCons (tVar 0) (tCons (tVar 2) (tCons (tVar 3) tNil))))) rfl scKSum.nd (pi_list (pv 1)) (blkOk_by (N := ["way", "poll", "order", "other"]) (sc := defScope s_known_sum) (by decide +kernel)) (fun _ _ _ _ _ => (pg_name (i := 3) scKSum.nd rfl (.inl rfl))) (fun _ _ _ _ _ => pts_nil) (fun _ _ _ _ _ => (pe_call G_known_far hr (by rfl) T_known_far.g T_known_far.F.kp T_known_far.b .nil pass0 (pa_cons (pv 0) (pa_cons (pv 2) (pa_cons (pv 3) pa_nil)))))) pa_nil)))), ?_⟩
    refine ⟨_, rfl, l, rfl, ⟨_, SqL.of hO.top⟩, fun p np => ?_⟩
    refine lc_list (K := K) (a := l) (xs := as.map V.ref) (fun i H3 => H3 p = some (.lst (((rs.take i).map (farW z xs)).map V.int)) ∧ Same H H3) ⟨upd_same, same_new np⟩ (fun i H3 _ hP => SqL.of (hP.2 _ _ hO.top)) (fun i x H3 hx hP => ?_) (fun H3 hP => ?_)
    · obtain ⟨a, ea, rfl⟩ := ref_at_inv hx
      obtain ⟨hp3, sm⟩ := hP
      obtain ⟨r, er, ha⟩ := (hO.ll.same sm).get ea
      have hi := (List.getElem?_eq_some_iff.mp ea).1
      refine ⟨rfl, _, rfl, _, rfl, _, rfl, z, o, a, n, xs, r, rfl, hz, sm _ _ ho, ha, ox, hO.ord r (List.mem_of_getElem? er), hO.n1, hO.n2, fun H4 s4 => ⟨_, s4 _ _ hp3, line_lt (by rw [List.length_map, List.length_map, List.length_take]; omega), ?_, fun b o e => ?_⟩⟩
      · rw [upd_same, take_more' er, List.map_append, List.map_append]
        rfl
      · rw [upd_ne (ne_of_none e np)]
        exact s4 _ _ (sm _ _ e)
    · obtain ⟨hp3, sm⟩ := hP
      rw [List.take_of_length_le (by rw [List.length_map]; omega)] at hp3
      exact ⟨p, _, rfl, SqL.of hp3, q _ sm⟩
theorem scPSum : FnScope ["way", "poll", "order"] ["way", "poll", "order"] (defScope s_poll_sum) := ⟨rfl, rfl, rfl, by decide +kernel, rfl, by decide +kernel, by decide +kernel⟩
theorem ok_psum {f f1 f2 f3 f4 f5 : Addr} {fd d1 d2 d3 d4 d5 : FuncData} {k : Nat} (T : Df K mg "poll_sum" s_poll_sum ["way", "poll", "order"] f fd) (T_check_poll : Df K mg "check_poll" s_check_poll ["thing"] f1 d1) (T_check_order : Df K mg "check_order" s_check_order ["thing"] f2 d2) (T_check_way : Df K mg "check_way" s_check_way ["thing"] f3 d3) (T_check_fit : Df K mg "check_fit" s_check_fit ["one", "other"] f4 d4) (T_known_sum : Df K mg "known_sum" s_known_sum ["way", "poll", "order"] f5 d5)
    (G_check_poll : FnOk P w K mg base CX0 k f1 d1 ["thing"] spCPoll) (G_check_order : FnOk P w K mg base CX0 k f2 d2 ["thing"] spCheck) (G_check_way : FnOk P w K mg base CX0 k f3 d3 ["thing"] spWay) (G_check_fit : FnOk P w K mg base CX0 k f4 d4 ["one", "other"] spFit) (G_known_sum : FnOk P w K mg base CX0 k f5 d5 ["way", "poll", "order"] spKSum) : FnOk P w K mg base CX0 (k + 1) f fd ["way", "poll", "order"] spPSum := by
  refine T.F.ok scPSum (fun vs H Q E h => ?_) (fun cdv A outer s H vs Q E hr h => ?_)
  · obtain ⟨z, l, o, as, rs, n, xs, rfl, _⟩ := h
    rfl
  · obtain ⟨z, l, o, as, rs, n, xs, rfl, hz, hO, h1, h2, ho, ox, q⟩ := h
    have hal := hO.ll.len
    refine ⟨_, 
      (pss_cons (ps_expr (pe_call G_check_poll hr (by rfl) T_check_poll.g T_check_poll.F.kp T_check_poll.b .nil pass0 (pa_cons (pv 1) pa_nil)))
      (pss_cons (ps_expr (pe_call G_check_order hr (by rfl) T_check_order.g T_check_order.F.kp T_check_order.b .nil pass0 (pa_cons (pv 2) pa_nil)))
      (pss_cons (ps_expr (pe_call G_check_way hr (by rfl) T_check_way.g T_check_way.F.kp T_check_way.b .nil pass0 (pa_cons (pv 0) pa_nil)))
      (pss_cons (ps_expr (pe_call G_check_fit hr (by rfl) T_check_fit.g T_check_fit.F.kp T_check_fit.b .nil pass0 (pa_cons (pv 2) (pa_cons (pe_ix ix_list (pv 1) pe_int (fun _ _ => rfl)) pa_nil))))
      (pss_one (ps_ret (pe_call G_known_sum hr (by rfl) T_known_sum.g T_known_sum.F.kp T_known_sum.b .nil pass0 (pa_cons (pv 0) (pa_cons (pv 1) (pa_cons (pv 2) pa_nil)))))))))), ?_⟩
    refine ⟨_, rfl, l, as, rs, n, rfl, hO, h1, h2, fun H1 s1 => ?_⟩
    refine ⟨_, rfl, o, n, xs, rfl, s1 _ _ ho, ox, hO.n1, hO.n2, fun H2 s2 => ?_⟩
    have s12 := s1.trans s2
    have hO2 := hO.same s12
    refine ⟨_, rfl, z, rfl, hz, ?_⟩
    obtain ⟨a0, ea0⟩ : ∃ a0, as[0]? = some a0 := ⟨as[0]'(by omega), List.getElem?_eq_getElem (by omega)⟩
    obtain ⟨r0, er0, ha0⟩ := hO2.ll.get ea0
    refine ⟨_, rfl, _, rfl, l, _, 0, _, rfl, rfl, SqL.of hO2.top, at_of (j := 0) rfl (ref_at ea0), o, a0, xs, r0, rfl, s12 _ _ ho, ha0, by rw [ox.len, (hO.ord r0 (List.mem_of_getElem? er0)).len], ?_⟩
    exact ⟨_, rfl, _, rfl, _, rfl, z, l, o, as, rs, n, xs, rfl, hz, hO2, by omega, s12 _ _ ho, ox, fun H3 s3 => q _ (s12.trans s3)⟩
end
end Fo
namespace Fo
open PySem PySem.Spec PyProof.Rows L2
theorem lc_zipL {K : PySem.W.Frag} {a b : Addr} {xs ys : List V} {g : TG} {tt : TT} {te : TE} {vs : List Nat} {σ : L2.St} {H1 : Hp} {D : Addr} {Qd : Hp → Prop} (hlen : xs.length = ys.length) (Pv : Nat → Hp → Prop) (h0 : Pv 0 (upd H1 D (.lst []))) (hl : ∀ i H, i ≤ xs.length → Pv i H → SqL K H a xs ∧ SqL K H b ys)
    (hs : ∀ (i : Nat) (x y : V) (T : Addr) (H : Hp), xs[i]? = some x → ys[i]? = some y → Pv i H → H T = none → g (.ref T) (wipe σ vs) (upd H T (.tup [x, y])) fun σ2 H2 => wipe σ2 vs = wipe σ vs ∧ tt σ2 H2 fun b H3 =>
      if b = true then te σ2 H3 fun y H4 => ∃ acc, H4 D = some (.lst acc) ∧ acc.length < sizeLine ∧ Pv (i + 1) (upd H4 D (.lst (acc ++ [y]))) else Pv (i + 1) H3) (hd : ∀ H, Pv xs.length H → Qd H) :
    ∃ W : Nat → Nat → Hp → Prop, (∃ m, W 0 m (upd H1 D (.lst []))) ∧ ∀ i m H, W i m H →
      ((Itz K a b).stop i H ∧ Qd H) ∨ ((Itz K a b).go i H ∧ ∃ Nx : Hp → Prop, (∀ H', Nx H' → ∃ m', m' < m ∧ W (i + 1) m' H') ∧ ∀ x H', (Itz K a b).yld i H x H' → g x (wipe σ vs) H' fun σ2 H2 => wipe σ2 vs = wipe σ vs ∧ tt σ2 H2 fun b H3 =>
        if b = true then te σ2 H3 fun y H4 => ∃ acc, H4 D = some (.lst acc) ∧ acc.length < sizeLine ∧ Nx (upd H4 D (.lst (acc ++ [y]))) else Nx H3) := by
  refine ⟨fun i m H => m = xs.length - i ∧ i ≤ xs.length ∧ Pv i H, ⟨xs.length, by simp, Nat.zero_le _, h0⟩, ?_⟩
  rintro i m H ⟨rfl, hi, p⟩
  obtain ⟨q1, q2⟩ := hl i H hi p
  by_cases hlt : i < xs.length
  · refine .inr ⟨⟨xs, ys, xs[i], ys[i], q1, q2, by simp [hlt], List.getElem?_eq_getElem (by omega)⟩, Pv (i + 1), fun H' p' => ⟨xs.length - (i + 1), by omega, rfl, hlt, p'⟩, fun x H' y => ?_⟩
    obtain ⟨T, x', y', rfl, hT, rfl, f1, f2⟩ := y
    exact hs i x' y' T H (f1 xs q1) (f2 ys q2) p hT
  · have e : i = xs.length := by omega
    subst e
    exact .inl ⟨⟨xs, ys, q1, q2, .inl (Nat.le_refl _)⟩, hd H p⟩
end Fo
namespace Fo
open PySem PySem.Spec PyProof.Rows L2
/-- a dict that has for each thing of an order its place -/
def PlD (kvs : List (Key × V)) (xs : List Int) : Prop := ∀ x ∈ xs, valV kvs (Sum.inl x) = some (.int (pos xs x))
def spPlD : Sp := fun vs H Q _ => ∃ (a : Addr) (n : Nat) (xs : List Int), vs = [.ref a] ∧ H a = some (.lst (xs.map V.int)) ∧ IsOrd n xs ∧ n ≤ 12 ∧ ∀ (d : Addr) (kvs : List (Key × V)) (H' : Hp), H d = none → H' d = some (.dK kvs) → PlD kvs xs → Same H H' → Q (.ref d) H'
section
variable {P : Program} {w : World} {K : PySem.W.Frag} {mg : Str → Option Value} {base : Heap}
theorem scPlD : FnScope ["order", "found", "place", "thing"] ["order"] (defScope s_law_places) := ⟨rfl, rfl, rfl, by decide +kernel, rfl, by decide +kernel, by decide +kernel⟩
set_option maxHeartbeats 2000000 in
theorem ok_pld {f : Addr} {fd : FuncData} {k : Nat} (T : Df K mg "_law_places" s_law_places ["order"] f fd) (B : Bi mg) : FnOk P w K mg base CX0 (k + 1) f fd ["order"] spPlD := by
  refine T.F.ok scPlD (fun vs H Q E h => ?_) (fun cdv A outer s H vs Q E hr h => ?_)
  · obtain ⟨a, n, xs, rfl, _⟩ := h
    rfl
  · obtain ⟨a, n, xs, rfl, ha, ox, hn, q⟩ := h
    refine ⟨_, 
      (pss_cons (ps_set (i := 1) scPlD.nd rfl (.inl rfl) pe_dnewK)
      (pss_cons (ps_for PassesOwn.never rfl (pi_enum (by rfl) B.enumerate (pa_cons (pv 0) pa_nil)) (pg_tup (by rfl) (pgs_cons (pg_name (i := 2) scPlD.nd rfl (.inl rfl)) (pgs_cons (pg_name (i := 3) scPlD.nd rfl (.inl rfl)) pgs_nil)))
        (pss_one (ps_dput (hu_of hr) (pv 1) (pv 3) (pv 2) (by rfl))))
      (pss_one (ps_ret (pv 1))))), ?_⟩
    intro d nd
    have s0 := same_new (o := .dK []) nd
    refine ⟨_, rfl, a, _, rfl, SqL.of (s0 _ _ ha), ?_⟩
    refine for_enumL (xs := xs.map V.int) (fun i σ H3 => ∃ (y2 y3 : Option V) (kvs : List (Key × V)), σ = [some (.ref a), some (.ref d), y2, y3] ∧ H3 d = some (.dK kvs) ∧ kvs.length ≤ i ∧ (∀ x ∈ xs.take i, valV kvs (Sum.inl x) = some (.int (pos xs x))) ∧ Same H H3)
      ⟨none, none, [], rfl, upd_same, Nat.le_refl _, (fun x hx => absurd hx (by rw [List.take_zero]; exact List.not_mem_nil)), s0⟩ (fun i σ H3 hP => by obtain ⟨_, _, _, _, _, _, _, sm⟩ := hP; exact SqL.of (sm _ _ ha)) (fun i x t σ H3 hx hP nt => ?_) (fun σ H3 hP => ?_)
    · obtain ⟨y2, y3, kvs, rfl, hd, hl, hv, sm⟩ := hP
      obtain ⟨y, ey, rfl⟩ := int_at_inv hx
      have hi := (List.getElem?_eq_some_iff.mp ey).1
      rw [ox.len] at hi
      have s3 := same_new (o := .tup [.int (i : Nat), .int y]) nt
      have hd3 := s3 _ _ hd
      refine ⟨t, _, rfl, .inl (.inl upd_same), rfl, _, _, rfl, _, _, rfl, rfl, ?_⟩
      refine ⟨_, rfl, _, rfl, _, rfl, d, _, rfl, DPut.k (k := Sum.inl y) hd3 (line_lt (by omega)), ?_⟩
      refine ⟨_, _, putK kvs (Sum.inl y) (.int (i : Nat)), rfl, upd_same, Nat.le_trans (length_putK _ _ _) (by omega), fun x hx => ?_, fun b o e => ?_⟩
      · rw [valV_put]
        by_cases c : (Sum.inl x : Key) = Sum.inl y
        · rw [if_pos c]
          have e : x = y := Sum.inl.inj c
          subst e
          rw [pos_of ox ey]
        · rw [if_neg c]
          rw [take_more ey] at hx
          rcases List.mem_append.mp hx with h | h
          · exact hv x h
          · exact absurd (by rw [List.mem_singleton.mp h]) c
      · rw [upd_ne (ne_of_none e nd)]
        exact s3 _ _ (sm _ _ e)
    · obtain ⟨y2, y3, kvs, rfl, hd, hl, hv, sm⟩ := hP
      rw [List.length_map, List.take_length] at hv
      exact ⟨_, rfl, q d kvs H3 nd hd hv sm⟩
theorem scLFar : FnScope ["way", "one", "other", "there", "many", "place", "thing", "left", "right", "later"] ["way", "one", "other"] (defScope s_law_far) := ⟨rfl, rfl, rfl, by decide +kernel, rfl, by decide +kernel, by decide +kernel⟩
set_option maxHeartbeats 4000000 in
theorem ok_lfar {f f1 : Addr} {fd d1 : FuncData} {k : Nat} (T : Df K mg "_law_far" s_law_far ["way", "one", "other"] f fd) (T__law_places : Df K mg "_law_places" s_law_places ["order"] f1 d1) (G__law_places : FnOk P w K mg base CX0 k f1 d1 ["order"] spPlD) (B : Bi mg) : FnOk P w K mg base CX0 (k + 1) f fd ["way", "one", "other"] spFar := by
  refine T.F.ok scLFar (fun vs H Q E h => ?_) (fun cdv A outer s H vs Q E hr h => ?_)
  · obtain ⟨z, a, b, n, xs, ys, rfl, _⟩ := h
    rfl
  · obtain ⟨z, a, b, n, xs, ys, rfl, hz, ha0, hb0, ox, oy, hn1, hn2, q0⟩ := h
    have hxl : (xs.map V.int).length = n := by rw [List.length_map, ox.len]
    have hyl : (ys.map V.int).length = n := by rw [List.length_map, oy.len]
    refine ⟨_, 
      (pss_cons (ps_set (i := 3) scLFar.nd rfl (.inr rfl) (pe_call G__law_places hr (by rfl) T__law_places.g T__law_places.F.kp T__law_places.b .nil pass0 (pa_cons (pv 2) pa_nil)))
      (pss_cons (ps_if (pt_cmpR op_eq (pv 0) pe_str (nomark _))
        (pss_one (ps_ret (pe_callB call_len_seq (by rfl) B.len PySem.boot_len (pa_cons (pe_lc (own := [("left", 7), ("right", 8)]) (g := (gTup K 2 (gCons (gName 7) (gCons (gName 8) gNil)))) (tt := (tTest (tOp rNe (tVar 7) (tVar 8)))) (te := (tC (.int 1))) rfl scLFar.nd (pi_zip (by rfl) B.zip (pa_cons (pv 1) (pa_cons (pv 2) pa_nil))) (blkOk_by (N := ["way", "one", "other", "there", "many", "place", "thing", "left", "right", "later"]) (sc := defScope s_law_far) (by decide +kernel)) (fun _ _ _ _ _ => (pg_tup (by rfl) (pgs_cons (pg_name (i := 7) scLFar.nd rfl (.inl rfl)) (pgs_cons (pg_name (i := 8) scLFar.nd rfl (.inl rfl)) pgs_nil)))) (fun _ _ _ _ _ => (pts_one (pt_cmpR op_ne (pv 7) (pv 8) (nomark _)))) (fun _ _ _ _ _ => pe_int)) pa_nil))))
        pss_nil)
      (pss_cons (ps_if (pt_cmpR op_eq (pv 0) pe_str (nomark _))
        (pss_one (ps_ret (pe_callB (cr_max rfl) (by rfl) B.max (by decide +kernel) (pa_cons (pe_lc (own := [("place", 5), ("thing", 6)]) (g := (gTup K 2 (gCons (gName 5) (gCons (gName 6) gNil)))) (tt := tYes) (te := (tCB rAbs (tCons (tOp (rI0 fun i j => .int (i - j)) (tVar 5) (tDGet (tVar 3) (tVar 6))) tNil))) rfl scLFar.nd (pi_enum (by rfl) B.enumerate (pa_cons (pv 1) pa_nil)) (blkOk_by (N := ["way", "one", "other", "there", "many", "place", "thing", "left", "right", "later"]) (sc := defScope s_law_far) (by decide +kernel)) (fun _ _ _ _ _ => (pg_tup (by rfl) (pgs_cons (pg_name (i := 5) scLFar.nd rfl (.inl rfl)) (pgs_cons (pg_name (i := 6) scLFar.nd rfl (.inl rfl)) pgs_nil)))) (fun _ _ _ _ _ => pts_nil) (fun _ _ _ _ _ => (pe_callB call_abs (by rfl) B.abs (by decide +kernel) (pa_cons (pe_op op_sub (pv 5) (pe_dget (hu_of hr) (pv 3) (pv 6) (fun _ _ => rfl))) pa_nil)))) pa_nil))))
        pss_nil)
      (pss_cons (ps_set (i := 4) scLFar.nd rfl (.inl rfl) pe_int)
      (pss_cons (ps_for PassesOwn.never rfl (pi_enum (by rfl) B.enumerate (pa_cons (pv 1) pa_nil)) (pg_tup (by rfl) (pgs_cons (pg_name (i := 5) scLFar.nd rfl (.inl rfl)) (pgs_cons (pg_name (i := 6) scLFar.nd rfl (.inr rfl)) pgs_nil)))
        (pss_one (ps_set (i := 4) scLFar.nd rfl (.inl rfl) (pe_op op_add (pv 4) (pe_callB call_len_seq (by rfl) B.len PySem.boot_len (pa_cons (pe_lc (own := [("later", 9)]) (g := (gName 9)) (tt := (tTest (tOp (rI0 fun i j => .bl (decide (i < j))) (tDGet (tVar 3) (tVar 9)) (tDGet (tVar 3) (tVar 6))))) (te := (tC (.int 1))) rfl scLFar.nd (pi_list (pe_slice sl_list (pv 1) (po_some (pe_op op_add (pv 5) pe_int)) po_none)) (blkOk_by (N := ["way", "one", "other", "there", "many", "place", "thing", "left", "right", "later"]) (sc := defScope s_law_far) (by decide +kernel)) (fun _ _ _ _ _ => (pg_name (i := 9) scLFar.nd rfl (.inl rfl))) (fun _ _ _ _ _ => (pts_one (pt_cmpR op_lt (pe_dget (hu_of hr) (pv 3) (pv 9) (fun _ _ => rfl)) (pe_dget (hu_of hr) (pv 3) (pv 6) (fun _ _ => rfl)) (nomark _)))) (fun _ _ _ _ _ => pe_int)) pa_nil))))))
      (pss_one (ps_ret (pv 4)))))))), ?_⟩
    refine ⟨_, rfl, b, n, ys, rfl, hb0, oy, hn2, fun d kvs H1 nd hd hv s1 => ?_⟩
    have ha := s1 _ _ ha0
    have hb := s1 _ _ hb0
    have q : ∀ H', Same H1 H' → Q (.int (farW z xs ys)) H' := fun H' s => q0 H' (s1.trans s)
    have hvx : ∀ x ∈ xs, valV kvs (Sum.inl x) = some (.int (pos ys x)) := fun x hx => hv x ((List.Perm.mem_iff oy).mpr ((List.Perm.mem_iff ox).mp hx))
    have gt : ∀ {G : Hp} {x : Int}, Same H1 G → x ∈ xs → DGet G d (.int x) (some (.int (pos ys x))) := fun {G x} sm hx => by
      have := DGet.k (k := Sum.inl x) (sm _ _ hd)
      rw [hvx x hx] at this
      exact this
    clear q0 nd
    rcases hz with rfl | rfl | rfl
    · -- swap
      refine ⟨_, rfl, rfl, _, rfl, ite2 (fun c => absurd c (by decide +kernel)) (fun _ => ?_)⟩
      refine ⟨_, rfl, rfl, _, rfl, ite2 (fun c => absurd c (by decide +kernel)) (fun _ => ?_)⟩
      refine ⟨_, rfl, a, _, rfl, SqL.of ha, ?_⟩
      refine for_enumL (xs := xs.map V.int) (fun i σ H3 => ∃ (y5 y6 y9 : Option V), σ = [some (.str "swap"), some (.ref a), some (.ref b), some (.ref d), some (.int ((sumN (rg i) (fun p => cntL (seatsL xs ys) p.toNat) : Nat) : Int)), y5, y6, none, none, y9] ∧ Same H1 H3)
        ⟨_, _, _, rfl, Same.refl _⟩ (fun i σ H3 hP => by obtain ⟨_, _, _, _, sm⟩ := hP; exact SqL.of (sm _ _ ha)) (fun i x t σ H3 hx hP nt => ?_) (fun σ H3 hP => ?_)
      · obtain ⟨y5, y6, y9, rfl, sm⟩ := hP
        obtain ⟨y, ey, rfl⟩ := int_at_inv hx
        have hi := (List.getElem?_eq_some_iff.mp ey).1
        rw [ox.len] at hi
        have eg : g0 (seatsL xs ys) i = pos ys y := g0_at (seats_at ey)
        have s3 := same_new (o := .tup [.int (i : Nat), .int y]) nt
        refine ⟨t, _, rfl, .inl (.inl upd_same), rfl, _, _, rfl, _, _, rfl, rfl, ?_⟩
        refine ⟨_, rfl, _, rfl, _, rfl, (i : Int), 1, rfl, rfl, _, rfl, a, _, rfl, SqL.of (s3 _ _ (sm _ _ ha)), fun c nc => ?_⟩
        have ecut : cutV (xs.map V.int) (some ((i : Int) + 1)) none = ((xs.drop (i + 1)).map V.int) := by
          rw [cut_ints, show (i : Int) + 1 = ((i + 1 : Nat) : Int) by omega, cutI_tail]
        have s4 := s3.trans (same_new (o := .lst (cutV (xs.map V.int) (some ((i : Int) + 1)) none)) nc)
        have hc4 : (upd (upd H3 t (.tup [.int (i : Nat), .int y])) c (.lst (cutV (xs.map V.int) (some ((i : Int) + 1)) none))) c = some (.lst ((xs.drop (i + 1)).map V.int)) := by rw [upd_same, ecut]
        refine ⟨c, rfl, ⟨_, SqL.of hc4⟩, fun D nD => ?_⟩
        have ncD : c ≠ D := ne_of_none hc4 nD
        refine lc_list (K := K) (a := c) (xs := (xs.drop (i + 1)).map V.int) (fun m H5 => H5 D = some (.lst ((((xs.drop (i + 1)).take m).filter (fun z => decide (pos ys z < pos ys y))).map (fun _ => V.int 1))) ∧ H5 c = some (.lst ((xs.drop (i + 1)).map V.int)) ∧ Same H3 H5)
          ⟨upd_same, by rw [upd_ne ncD]; exact hc4, s4.trans (same_new nD)⟩ (fun m H5 _ hP => SqL.of hP.2.1) (fun m x H5 hx hP => ?_) (fun H5 hP => ?_)
        · obtain ⟨hD5, hc5, s5⟩ := hP
          obtain ⟨z, ez, rfl⟩ := int_at_inv hx
          have hzx : z ∈ xs := List.mem_of_mem_drop (List.mem_of_getElem? ez)
          refine ⟨rfl, _, rfl, _, rfl, d, _, rfl, gt (sm.trans s5) hzx, _, rfl, _, rfl, d, _, rfl, gt (sm.trans s5) (List.mem_of_getElem? ey), _, _, rfl, rfl, _, rfl, ite2 (fun c => ?_) (fun c => ?_)⟩
          · have hz : pos ys z < pos ys y := of_decide_eq_true c
            refine ⟨_, hD5, line_lt ?_, ?_, by rw [upd_ne ncD]; exact hc5, fun u o e => ?_⟩
            · rw [List.length_map]
              refine Nat.lt_of_le_of_lt (List.length_filter_le _ _) ?_
              rw [List.length_take, List.length_drop, ox.len]
              omega
            · rw [upd_same, filter_more _ ez, decide_eq_true hz, if_pos rfl, List.map_append]
              rfl
            · rw [upd_ne (ne_of_none (s4 _ _ e) nD)]
              exact s5 _ _ e
          · refine ⟨?_, hc5, s5⟩
            rw [filter_more _ ez, decide_eq_false (fun hz => c (decide_eq_true hz)), if_neg (by decide), List.append_nil]
            exact hD5
        · obtain ⟨hD5, hc5, s5⟩ := hP
          rw [List.length_map, List.take_length] at hD5
          refine ⟨D, _, rfl, .inl (SqL.of hD5), _, _, rfl, rfl, ?_⟩
          refine ⟨some (.int (i : Int)), some (.int y), y9, ?_, sm.trans s5⟩
          have ec : ((xs.drop (i + 1)).filter (fun z => decide (pos ys z < pos ys y))).length = cntL (seatsL xs ys) i := by
            unfold cntL
            rw [eg]
            unfold seatsL
            rw [← List.map_drop, List.filter_map, List.length_map]
            rfl
          rw [rg_succ, sumN_append, sumN_cons, sumN_nil, List.length_map, ec, Int.toNat_natCast, Int.natCast_add, Nat.add_zero]
          rfl
      · obtain ⟨y5, y6, y9, rfl, sm⟩ := hP
        refine ⟨_, rfl, ?_⟩
        have z := q H3 sm
        rw [farW_swap] at z
        unfold farSwap invN at z
        rw [seats_len] at z
        rw [List.length_map]
        exact z
    · -- spot
      refine ⟨_, rfl, rfl, _, rfl, ite2 (fun _ => ?_) (fun c => absurd (by decide +kernel) c)⟩
      refine ⟨_, rfl, _, rfl, a, b, _, _, rfl, SqL.of ha, SqL.of hb, fun D nD => ?_⟩
      refine lc_zipL (K := K) (a := a) (b := b) (xs := xs.map V.int) (ys := ys.map V.int) (by rw [hxl, hyl]) (fun m H3 => H3 D = some (.lst (((rg m).filter (fun p => !decide (g0 xs p = g0 ys p))).map (fun _ => V.int 1))) ∧ Same H1 H3) ⟨upd_same, same_new nD⟩ (fun m H3 _ hP => ⟨SqL.of (hP.2 _ _ ha), SqL.of (hP.2 _ _ hb)⟩) (fun m u v t H3 hu hv hP nt => ?_) (fun H3 hP => ?_)
      · obtain ⟨hD3, sm⟩ := hP
        obtain ⟨x, ex, rfl⟩ := int_at_inv hu
        obtain ⟨y, ey, rfl⟩ := int_at_inv hv
        have hm := (List.getElem?_eq_some_iff.mp ex).1
        rw [ox.len] at hm
        have gx : g0 xs (m : Int) = x := g0_at ex
        have gy : g0 ys (m : Int) = y := g0_at ey
        have s3 := same_new (o := .tup [.int x, .int y]) nt
        have fm : ((rg (m + 1)).filter fun p => !decide (g0 xs p = g0 ys p)) = ((rg m).filter fun p => !decide (g0 xs p = g0 ys p)) ++ (if x = y then [] else [(m : Int)]) := by
          rw [rg_succ, List.filter_append, List.filter_cons, gx, gy]
          congr 1
          by_cases c : x = y
          · simp [c]
          · simp [c]
        refine ⟨t, _, rfl, .inl (.inl upd_same), rfl, _, _, rfl, _, _, rfl, rfl, rfl, ?_⟩
        refine ⟨_, rfl, _, rfl, rfl, _, rfl, ?_⟩
        by_cases c : x = y
        · subst c
          refine iteNS rfl ⟨?_, sm.trans s3⟩
          rw [fm, if_pos rfl, List.append_nil]
          exact s3 _ _ hD3
        · rw [decide_eq_false (fun e => c (V.int.inj e))]
          refine iteT ⟨_, s3 _ _ hD3, line_lt ?_, ?_, fun u o e => ?_⟩
          · rw [List.length_map]
            refine Nat.lt_of_le_of_lt (List.length_filter_le _ _) ?_
            rw [rg_len]
            omega
          · rw [upd_same, fm, if_neg c, List.map_append]
            rfl
          · rw [upd_ne (ne_of_none e nD)]
            exact s3 _ _ (sm _ _ e)
      · obtain ⟨hD3, sm⟩ := hP
        refine ⟨D, _, rfl, .inl (SqL.of hD3), ?_⟩
        have z := q H3 sm
        rw [farW_spot] at z
        unfold farSpot spotL at z
        rw [List.length_map, List.length_map]
        exact z
    · -- shift
      refine ⟨_, rfl, rfl, _, rfl, ite2 (fun c => absurd c (by decide +kernel)) (fun _ => ?_)⟩
      refine ⟨_, rfl, rfl, _, rfl, ite2 (fun _ => ?_) (fun c => absurd (by decide +kernel) c)⟩
      refine ⟨_, rfl, a, _, rfl, SqL.of ha, fun D nD => ?_⟩
      refine lc_enumL (K := K) (a := a) (xs := xs.map V.int) (fun m H3 => H3 D = some (.lst (((gapsL xs ys).take m).map V.int)) ∧ Same H1 H3) ⟨upd_same, same_new nD⟩ (fun m H3 _ hP => SqL.of (hP.2 _ _ ha)) (fun m x t H3 hx hP nt => ?_) (fun H3 hP => ?_)
      · obtain ⟨hD3, sm⟩ := hP
        obtain ⟨y, ey, rfl⟩ := int_at_inv hx
        have hi := (List.getElem?_eq_some_iff.mp ey).1
        have hi2 := hi
        rw [ox.len] at hi
        have s3 := same_new (o := .tup [.int (m : Nat), .int y]) nt
        have eg : (gapsL xs ys)[m]? = some (absI ((m : Int) - pos ys y)) := by
          unfold gapsL rg
          rw [List.map_map, List.getElem?_map, List.getElem?_range hi2]
          show some (absI ((m : Int) - g0 (seatsL xs ys) (m : Int))) = _
          rw [g0_at (seats_at ey)]
        refine ⟨t, _, rfl, .inl (.inl upd_same), rfl, _, _, rfl, _, _, rfl, rfl, rfl, ?_⟩
        refine ⟨_, rfl, _, rfl, _, rfl, d, _, rfl, gt (sm.trans s3) (List.mem_of_getElem? ey), (m : Int), _, rfl, rfl, _, rfl, _, s3 _ _ hD3, line_lt (by rw [List.length_map, List.length_take, gaps_len, ox.len]; omega), ?_, fun u o e => ?_⟩
        · rw [upd_same, take_more eg, List.map_append]
          rfl
        · rw [upd_ne (ne_of_none e nD)]
          exact s3 _ _ (sm _ _ e)
      · obtain ⟨hD3, sm⟩ := hP
        rw [List.take_of_length_le (by rw [gaps_len, List.length_map]; exact Nat.le_refl _)] at hD3
        refine ⟨D, gapsL xs ys, rfl, SqL.of hD3, by rw [gaps_len, ox.len]; exact hn1, fun m hm hle => ?_⟩
        have e : farW "shift" xs ys = m := by
          rw [farW_shift]
          exact maxL_of (gaps_nonneg xs ys) hm hle
        rw [← e]
        exact q H3 sm
end
end Fo
namespace Fo
open PySem PySem.Spec PyProof.Rows L2
def spLaw (K : PySem.W.Frag) : Sp := fun vs H Q _ => ∃ (a : Addr) (ns : List Int), vs = [.ref a] ∧ SqL K H a (ns.map V.int) ∧ ns.length ≤ 63 ∧ ∀ H', Q (.bl true) H'
abbrev rListOf (K : PySem.W.Frag) : List V → Hp → VK → Prop := fun xs H Q => ∃ p ys, xs = [.ref p] ∧ (SqL K H p ys ∨ SqT K H p ys) ∧ ∀ l, H l = none → Q (.ref l) (upd H l (.lst ys))
def spCopied : Sp := fun vs H Q _ => ∃ (l : Addr) (as : List Addr) (rs : List (List Int)), vs = [.ref l] ∧ H l = some (.lst (as.map V.ref)) ∧ LL H as rs ∧ rs.length ≤ 1000 ∧ ∀ (l' : Addr) (as' : List Addr) (H' : Hp), H l' = none → (∀ a ∈ as', H a = none) → l' ∉ as' → H' l' = some (.lst (as'.map V.ref)) → LL H' as' rs → Same H H' → Q (.ref l') H'
theorem dp_of {K : PySem.W.Frag} {H : Hp} {l : Addr} {as : List Addr} {rs : List (List Int)} {n : Nat} (h : OL H l as rs n) : Dp K H (.ref l) (dLL rs) := dp_lists h.top h.ll
section
variable {P : Program} {w : World} {K : PySem.W.Frag} {mg : Str → Option Value} {base : Heap}
theorem scLWhole : FnScope ["thing"] ["thing"] (defScope s_law_whole) := ⟨rfl, rfl, rfl, by decide +kernel, rfl, by decide +kernel, by decide +kernel⟩
theorem ok_lwhole {f : Addr} {fd : FuncData} {k : Nat} (T : Df K mg "_law_whole" s_law_whole ["thing"] f fd) (B : Bi mg) : FnOk P w K mg base CX0 (k + 1) f fd ["thing"] spWhole := by
  refine T.F.ok scLWhole (fun vs H Q E h => ?_) (fun cdv A outer s H vs Q E hr h => ?_)
  · obtain ⟨i, rfl, _⟩ := h
    rfl
  · obtain ⟨i, rfl, q⟩ := h
    refine ⟨_, 
      (pss_one (ps_ret (pe_and (pe_callB call_isi (by rfl) B.isinstance (by decide +kernel) (pa_cons (pv 0) (pa_cons (pe_bltn (v := .ty "int") (by rfl) B.int (by decide +kernel) rfl) pa_nil))) (pe_one (pe_not (pe_callB call_isi (by rfl) B.isinstance (by decide +kernel) (pa_cons (pv 0) (pa_cons (pe_bltn (v := .ty "bool") (by rfl) B.bool (by decide +kernel) rfl) pa_nil)))))))), ?_⟩
    refine ⟨_, rfl, _, _, _, _, true, rfl, .ty _, .base (.int _), kit_ty (by decide +kernel), true, rfl, iteT ?_⟩
    exact ⟨_, rfl, _, _, _, _, false, rfl, .ty _, .base (.int _), kit_ty (by decide +kernel), false, rfl, q⟩
theorem scCopied : FnScope ["orders", "order"] ["orders"] (defScope s_law_copied) := ⟨rfl, rfl, rfl, by decide +kernel, rfl, by decide +kernel, by decide +kernel⟩
set_option maxHeartbeats 2000000 in
theorem ok_copied {f : Addr} {fd : FuncData} {k : Nat} (T : Df K mg "_law_copied" s_law_copied ["orders"] f fd) (B : Bi mg) : FnOk P w K mg base CX0 (k + 1) f fd ["orders"] spCopied := by
  refine T.F.ok scCopied (fun vs H Q E h => ?_) (fun cdv A outer s H vs Q E hr h => ?_)
  · obtain ⟨l, as, rs, rfl, _⟩ := h
    rfl
  · obtain ⟨l, as, rs, rfl, ht, hLL, hlen, q⟩ := h
    have hal := hLL.len
    refine ⟨_, 
      (pss_one (ps_ret (pe_lc (own := [("order", 1)]) (g := (gName 1)) (tt := tYes) (te := (tCB (rListOf K) (tCons (tVar 1) tNil))) rfl scCopied.nd (pi_list (pv 0)) (blkOk_by (N := ["orders", "order"]) (sc := defScope s_law_copied) (by decide +kernel)) (fun _ _ _ _ _ => (pg_name (i := 1) scCopied.nd rfl (.inl rfl))) (fun _ _ _ _ _ => pts_nil) (fun _ _ _ _ _ => (pe_callTy call_list_of (by rfl) B.list (by decide +kernel) (pa_cons (pv 1) pa_nil)))))), ?_⟩
    refine ⟨_, rfl, l, rfl, ⟨_, SqL.of ht⟩, fun p np => ?_⟩
    refine lc_list (K := K) (a := l) (xs := as.map V.ref) (fun i H3 => ∃ bs : List Addr, H3 p = some (.lst (bs.map V.ref)) ∧ LL H3 bs (rs.take i) ∧ (∀ a ∈ bs, H a = none) ∧ p ∉ bs ∧ Same H H3) ⟨[], upd_same, trivial, fun a ha => absurd ha List.not_mem_nil, List.not_mem_nil, same_new np⟩ (fun i H3 _ hP => by obtain ⟨_, _, _, _, _, sm⟩ := hP; exact SqL.of (sm _ _ ht)) (fun i x H3 hx hP => ?_) (fun H3 hP => ?_)
    · obtain ⟨a, ea, rfl⟩ := ref_at_inv hx
      obtain ⟨bs, hp3, hL3, hn3, np3, sm⟩ := hP
      obtain ⟨r, er, ha⟩ := (hLL.same sm).get ea
      have hbl := hL3.len
      rw [List.length_take] at hbl
      refine ⟨rfl, _, rfl, a, _, rfl, .inl (SqL.of ha), fun c nc => ?_⟩
      have s4 := same_new (o := .lst (r.map V.int)) nc
      have npc : p ≠ c := ne_of_none hp3 nc
      refine ⟨_, s4 _ _ hp3, line_lt (by rw [List.length_map]; omega), bs ++ [c], by rw [upd_same, List.map_append]; rfl, ?_, fun u hu => ?_, fun hu => ?_, fun b o e => ?_⟩
      · rw [take_more' er]
        refine LL.snoc ((hL3.same s4).keep fun u hu o e => ?_) ?_
        · rw [upd_ne (fun q => np3 (by rw [← q]; exact hu))]
          exact e
        · rw [upd_ne npc.symm, upd_same]
      · rcases List.mem_append.mp hu with h | h
        · exact hn3 u h
        · rw [List.mem_singleton.mp h]
          exact sm.free nc
      · rcases List.mem_append.mp hu with h | h
        · exact np3 h
        · exact npc (List.mem_singleton.mp h)
      · rw [upd_ne (ne_of_none e np)]
        exact s4 _ _ (sm _ _ e)
    · obtain ⟨bs, hp3, hL3, hn3, np3, sm⟩ := hP
      rw [List.take_of_length_le (by rw [List.length_map]; omega)] at hL3
      exact q p bs H3 np hn3 np3 hp3 hL3 sm
end
end Fo
namespace Fo
open PySem PySem.Spec PyProof.Rows L2
theorem way3 {m : Nat} {x : V} (h : [V.str "swap", V.str "spot", V.str "shift"][m]? = some x) : ∃ w : Str, x = .str w ∧ IsWay w := by
  match m, h with
  | 0, h => exact ⟨"swap", (Option.some.inj h).symm, .inl rfl⟩
  | 1, h => exact ⟨"spot", (Option.some.inj h).symm, .inr (.inl rfl)⟩
  | 2, h => exact ⟨"shift", (Option.some.inj h).symm, .inr (.inr rfl)⟩
  | m + 3, h => cases h
theorem turns5 (n : Nat) : ∃ m : Nat, (if (if 5 < (n : Int) then 5 else (n : Int)) > 1 then (if 5 < (n : Int) then 5 else (n : Int)) else 1) = (m : Int) ∧ m ≤ 5 := by
  by_cases c : 5 < (n : Int)
  · exact ⟨5, by rw [if_pos c]; rfl, by decide⟩
  · rw [if_neg c]
    by_cases c2 : (n : Int) > 1
    · exact ⟨n, by rw [if_pos c2], by omega⟩
    · exact ⟨1, by rw [if_neg c2]; rfl, by decide⟩
section
variable {P : Program} {w : World} {K : PySem.W.Frag} {mg : Str → Option Value} {base : Heap}
theorem scLaw : FnScope ["script", "k", "deck", "n", "poll", "handed", "order", "given", "way", "due", "again", "found", "one"] ["script"] (defScope s_law) := ⟨rfl, rfl, rfl, by decide +kernel, rfl, by decide +kernel, by decide +kernel⟩
set_option maxHeartbeats 4000000 in
theorem ok_law {f f1 f2 f3 f4 f5 f6 f7 f8 f9 f10 : Addr} {fd d1 d2 d3 d4 d5 d6 d7 d8 d9 d10 : FuncData} (T : Fun K "law" "law" s_law f fd) (T__law_deck : Df K mg "_law_deck" s_law_deck ["cell", "many"] f1 d1) (T__law_cell_at : Df K mg "_law_cell_at" s_law_cell_at ["script", "k"] f2 d2) (T__law_next : Df K mg "_law_next" s_law_next ["deck"] f3 d3) (T__law_poll : Df K mg "_law_poll" s_law_poll ["deck", "n", "most"] f4 d4) (T__law_copied : Df K mg "_law_copied" s_law_copied ["orders"] f5 d5) (T__law_near : Df K mg "_law_near" s_law_near ["deck", "order"] f6 d6) (T__law_order : Df K mg "_law_order" s_law_order ["deck", "n"] f7 d7) (T__law_far : Df K mg "_law_far" s_law_far ["way", "one", "other"] f8 d8) (T_poll_sum : Df K mg "poll_sum" s_poll_sum ["way", "poll", "order"] f9 d9) (T__law_whole : Df K mg "_law_whole" s_law_whole ["thing"] f10 d10)
    (G__law_deck : FnOk P w K mg base CX0 11 f1 d1 ["cell", "many"] spDeckN) (G__law_cell_at : FnOk P w K mg base CX0 11 f2 d2 ["script", "k"] (spCell K)) (G__law_next : FnOk P w K mg base CX0 11 f3 d3 ["deck"] spNext) (G__law_poll : FnOk P w K mg base CX0 11 f4 d4 ["deck", "n", "most"] spPoll) (G__law_copied : FnOk P w K mg base CX0 11 f5 d5 ["orders"] spCopied) (G__law_near : FnOk P w K mg base CX0 11 f6 d6 ["deck", "order"] spNearN) (G__law_order : FnOk P w K mg base CX0 11 f7 d7 ["deck", "n"] spOrderN) (G__law_far : FnOk P w K mg base CX0 11 f8 d8 ["way", "one", "other"] spFar) (G_poll_sum : FnOk P w K mg base CX0 11 f9 d9 ["way", "poll", "order"] spPSum) (G__law_whole : FnOk P w K mg base CX0 11 f10 d10 ["thing"] spWhole) (B : Bi mg) : FnOk P w K mg base CX0 12 f fd ["script"] (spLaw K) := by
  refine T.ok scLaw (fun vs H Q E h => ?_) (fun cdv A outer s H vs Q E hr h => ?_)
  · obtain ⟨a, ns, rfl, _⟩ := h
    rfl
  · obtain ⟨a, ns, rfl, hS, hlen, q⟩ := h
    refine ⟨_, 
      (pss_cons (ps_for PassesOwn.never rfl (pi_range1 (by rfl) B.range (pa_cons (pe_callB (call_max2 rfl) (by rfl) B.max (by decide +kernel) (pa_cons pe_int (pa_cons (pe_callB (call_min2 rfl) (by rfl) B.min (by decide +kernel) (pa_cons (pe_callB call_len_seq (by rfl) B.len PySem.boot_len (pa_cons (pv 0) pa_nil)) (pa_cons pe_int pa_nil))) pa_nil))) pa_nil)) (pg_name (i := 1) scLaw.nd rfl (.inl rfl))
        (pss_cons (ps_set (i := 2) scLaw.nd rfl (.inl rfl) (pe_call G__law_deck hr (by rfl) T__law_deck.g T__law_deck.F.kp T__law_deck.b .nil pass0 (pa_cons (pe_call G__law_cell_at hr (by rfl) T__law_cell_at.g T__law_cell_at.F.kp T__law_cell_at.b .nil pass0 (pa_cons (pv 0) (pa_cons (pv 1) pa_nil))) (pa_cons pe_int pa_nil))))
        (pss_cons (ps_set (i := 3) scLaw.nd rfl (.inl rfl) (pe_ix ix_list (pe_lst (pa_cons (pe_op op_add pe_int (pe_op op_mod (pe_call G__law_next hr (by rfl) T__law_next.g T__law_next.F.kp T__law_next.b .nil pass0 (pa_cons (pv 2) pa_nil)) pe_int)) (pa_cons (pe_op op_add pe_int (pe_op op_mod (pe_call G__law_next hr (by rfl) T__law_next.g T__law_next.F.kp T__law_next.b .nil pass0 (pa_cons (pv 2) pa_nil)) pe_int)) (pa_cons pe_int pa_nil)))) (pe_op op_mod (pe_call G__law_next hr (by rfl) T__law_next.g T__law_next.F.kp T__law_next.b .nil pass0 (pa_cons (pv 2) pa_nil)) pe_int) (fun _ _ => rfl)))
        (pss_cons (ps_set (i := 4) scLaw.nd rfl (.inl rfl) (pe_call G__law_poll hr (by rfl) T__law_poll.g T__law_poll.F.kp T__law_poll.b .nil pass0 (pa_cons (pv 2) (pa_cons (pv 3) (pa_cons pe_int pa_nil)))))
        (pss_cons (ps_set (i := 5) scLaw.nd rfl (.inl rfl) (pe_call G__law_copied hr (by rfl) T__law_copied.g T__law_copied.F.kp T__law_copied.b .nil pass0 (pa_cons (pv 4) pa_nil)))
        (pss_one (ps_for PassesOwn.never rfl (pi_list (pe_lst (pa_cons (pe_ix ix_list (pv 4) pe_int (fun _ _ => rfl)) (pa_cons (pe_call G__law_near hr (by rfl) T__law_near.g T__law_near.F.kp T__law_near.b .nil pass0 (pa_cons (pv 2) (pa_cons (pe_ix ix_list (pv 4) pe_int (fun _ _ => rfl)) pa_nil))) (pa_cons (pe_call G__law_order hr (by rfl) T__law_order.g T__law_order.F.kp T__law_order.b .nil pass0 (pa_cons (pv 2) (pa_cons (pv 3) pa_nil))) pa_nil))))) (pg_name (i := 6) scLaw.nd rfl (.inr rfl))
          (pss_cons (ps_set (i := 7) scLaw.nd rfl (.inl rfl) (pe_callTy call_list_of (by rfl) B.list (by decide +kernel) (pa_cons (pv 6) pa_nil)))
          (pss_one (ps_for PassesOwn.never rfl (pi_tup (pe_tup (pa_cons pe_str (pa_cons pe_str (pa_cons pe_str pa_nil))))) (pg_name (i := 8) scLaw.nd rfl (.inr rfl))
            (pss_cons (ps_set (i := 9) scLaw.nd rfl (.inl rfl) (pe_callB (cr_sum rfl) (by rfl) B.sum (by decide +kernel) (pa_cons (pe_lc (own := [("one", 12)]) (g := (gName 12)) (tt := tYes) (te := (tCall spFar [] E0 (tCons (tVar 8) (tCons (tVar 12) (tCons (tVar 6) tNil))))) rfl scLaw.nd (pi_list (pv 4)) (blkOk_by (N := ["script", "k", "deck", "n", "poll", "handed", "order", "given", "way", "due", "again", "found", "one"]) (sc := defScope s_law) (by decide +kernel)) (fun _ _ _ _ _ => (pg_name (i := 12) scLaw.nd rfl (.inl rfl))) (fun _ _ _ _ _ => pts_nil) (fun _ _ _ _ _ => (pe_call G__law_far hr (by rfl) T__law_far.g T__law_far.F.kp T__law_far.b .nil pass0 (pa_cons (pv 8) (pa_cons (pv 12) (pa_cons (pv 6) pa_nil)))))) pa_nil)))
            (pss_one (ps_for PassesOwn.never rfl (pi_range1 (by rfl) B.range (pa_cons pe_int pa_nil)) (pg_name (i := 10) scLaw.nd rfl (.inl rfl))
              (pss_cons (ps_set (i := 11) scLaw.nd rfl (.inl rfl) (pe_call G_poll_sum hr (by rfl) T_poll_sum.g T_poll_sum.F.kp T_poll_sum.b .nil pass0 (pa_cons (pv 8) (pa_cons (pv 5) (pa_cons (pv 7) pa_nil)))))
              (pss_one (ps_if (PW.pt (pw_or (pt_not (pt_val (pe_call G__law_whole hr (by rfl) T__law_whole.g T__law_whole.F.kp T__law_whole.b .nil pass0 (pa_cons (pv 11) pa_nil)))) (pw_or (pt_cmpR op_ne (pv 11) (pv 9) (nomark _)) (pw_or (pt_cmpR (op_neD hr.units) (pv 5) (pv 4) (nomark _)) (pw_or1 (pt_cmpR (op_neD hr.units) (pv 7) (pv 6) (nomark _)))))))
                (pss_one (ps_ret pe_bl))
                pss_nil))))))))))))))))
      (pss_one (ps_ret pe_bl))), ?_⟩
    refine ⟨_, rfl, a, _, rfl, .inl hS, _, 5, rfl, 1, _, rfl, _, rfl, ?_⟩
    obtain ⟨m, em, hm⟩ := turns5 (ns.map V.int).length
    refine ⟨by rw [em]; omega, by rw [em]; omega, ?_⟩
    rw [em, Int.toNat_natCast]
    refine for_range (n := m) (fun i σ H3 => ∃ (y1 y2 y3 y4 y5 y6 y7 y8 y9 y10 y11 y12 : Option V), σ = [some (.ref a), y1, y2, y3, y4, y5, y6, y7, y8, y9, y10, y11, y12] ∧ Same H H3)
      ⟨_, _, _, _, _, _, _, _, _, _, _, _, rfl, Same.refl _⟩ (fun i σ H3 hi hP => ?_) (fun σ H3 hP => q _)
    obtain ⟨y1, y2, y3, y4, y5, y6, y7, y8, y9, y10, y11, y12, rfl, s3⟩ := hP
    refine ⟨_, rfl, _, rfl, a, ns, i, by rw [show (0 + (i : Int)) = (i : Int) by omega]; rfl, s3.seq hS, fun c => ⟨c, 760, rfl, by decide, by decide, fun d H4 nd D4 s4 => ?_⟩⟩
    have s04 := s3.trans s4
    have nHd : H d = none := s3.free nd
    -- n
    refine ⟨_, rfl, d, rfl, D4, fun v1 H5 _ _ D5 k5 => ⟨v1, 12, rfl, rfl, (show (0 : Int) < 12 by decide), 1, _, rfl, rfl, ?_⟩⟩
    refine ⟨_, rfl, d, rfl, D5, fun v2 H6 _ _ D6 k6 => ⟨v2, 4, rfl, rfl, (show (0 : Int) < 4 by decide), 1, _, rfl, rfl, ?_⟩⟩
    refine ⟨line_small (by show 3 ≤ 16777216; decide), fun t nt => ?_⟩
    have D7 := D6.new (o := .lst [.int (1 + v1 % 12), .int (1 + v2 % 4), .int 12]) nt
    have ntd := D6.ne nt
    refine ⟨_, rfl, d, rfl, D7, fun v3 H8 _ _ D8 k8 => ⟨v3, 3, rfl, rfl, (show (0 : Int) < 3 by decide), ?_⟩⟩
    have b1 := mod_b v1 (m := 12) (by decide)
    have b2 := mod_b v2 (m := 4) (by decide)
    have b3 := mod_b v3 (m := 3) (by decide)
    obtain ⟨n, en, hn1, hn2⟩ : ∃ n : Nat, atI [V.int (1 + v1 % 12), V.int (1 + v2 % 4), V.int 12] (v3 % 3) = some (.int n) ∧ 1 ≤ n ∧ n ≤ 12 := by
      have : v3 % 3 = 0 ∨ v3 % 3 = 1 ∨ v3 % 3 = 2 := by omega
      rcases this with h | h | h <;> rw [h]
      · refine ⟨(1 + v1 % 12).toNat, ?_, by omega, by omega⟩
        rw [Int.toNat_of_nonneg (by omega)]
        rfl
      · refine ⟨(1 + v2 % 4).toNat, ?_, by omega, by omega⟩
        rw [Int.toNat_of_nonneg (by omega)]
        rfl
      · exact ⟨12, rfl, by decide, by decide⟩
    refine ⟨t, _, _, _, rfl, rfl, SqL.of (k8 t _ upd_same ntd), en, ?_⟩
    have kk8 : KeepD d H4 H8 := ((k5.trans k6).trans (KeepD.new nt)).trans k8
    -- poll
    refine ⟨_, rfl, _, rfl, d, n, 20, rfl, D8, hn1, hn2, by decide, by decide, fun l as rs H9 hO hl1 hl2 nl nas nld nda D9 k9 => ?_⟩
    have kk9 : KeepD d H4 H9 := kk8.trans k9
    -- handed
    refine ⟨_, rfl, l, as, rs, rfl, hO.top, hO.ll, by omega, fun l2 as2 H10 nl2 nas2 nin2 ht2 hLL2 s10 => ?_⟩
    have hO10 := hO.same s10
    have hP10 : OL H10 l2 as2 rs n := ⟨ht2, hLL2, hO.ord, hn1, hn2⟩
    have D10 := D9.same s10
    have nld2 := D9.ne nl2
    have nda2 : d ∉ as2 := fun h => D9.ne (nas2 d h) rfl
    have hal := hO.ll.len
    -- [poll[0], near, order]
    obtain ⟨a0, ea0⟩ : ∃ a0, as[0]? = some a0 := ⟨as[0]'(by omega), List.getElem?_eq_getElem (by omega)⟩
    obtain ⟨r0, er0, ha0⟩ := hO10.ll.get ea0
    have or0 := hO.ord r0 (List.mem_of_getElem? er0)
    have na0 : a0 ≠ d := fun e => nda (by rw [← e]; exact List.mem_of_getElem? ea0)
    refine ⟨_, rfl, l, _, 0, _, rfl, rfl, SqL.of hO10.top, at_of (j := 0) rfl (ref_at ea0), ?_⟩
    refine ⟨_, rfl, _, rfl, l, _, 0, _, rfl, rfl, SqL.of hO10.top, at_of (j := 0) rfl (ref_at ea0), d, a0, n, r0, rfl, D10, ha0, or0, hn1, hn2, fun r1 a1 H11 or1 na1 ha1 nd1 D11 k11 => ?_⟩
    refine ⟨_, rfl, _, rfl, d, n, rfl, D11, hn2, fun r2 a2 H12 or2 na2 ha2 nd2 D12 k12 => ?_⟩
    refine ⟨line_small (by show 3 ≤ 16777216; decide), fun o3 no3 => ?_⟩
    have s13 := same_new (o := .lst [.ref a0, .ref a1, .ref a2]) no3
    have ho3 : (upd H12 o3 (.lst [.ref a0, .ref a1, .ref a2])) o3 = _ := upd_same
    have kk12 : KeepD d H10 (upd H12 o3 (.lst [.ref a0, .ref a1, .ref a2])) := (k11.trans k12).trans (KeepD.of_same s13)
    have g0' := kk12 _ _ ha0 na0
    have g1' := s13 _ _ (k12 _ _ ha1 nd1)
    have g2' := s13 _ _ ha2
    have hO13 := hO10.keepD kk12 nld nda
    have hP13 := hP10.keepD kk12 nld2 nda2
    have kF : Same H (upd H12 o3 (.lst [.ref a0, .ref a1, .ref a2])) := fun b o e => kk12 b o (s10 b o (kk9 b o (s04 b o e) (ne_of_none e nHd))) (ne_of_none e nHd)
    generalize upd H12 o3 (.lst [.ref a0, .ref a1, .ref a2]) = H13 at ho3 g0' g1' g2' hO13 hP13 kF ⊢
    refine ⟨o3, rfl, ⟨_, SqL.of ho3⟩, ?_⟩
    refine for_list (xs := [.ref a0, .ref a1, .ref a2]) (fun j σ G => ∃ (y6 y7 y8 y9 y10 y11 y12 : Option V), σ = [some (.ref a), some (.int (0 + (i : Int))), some (.ref d), some (.int n), some (.ref l), some (.ref l2), y6, y7, y8, y9, y10, y11, y12] ∧ Same H13 G)
      ⟨_, _, _, _, _, _, _, rfl, Same.refl _⟩ (fun j σ G _ hP => by obtain ⟨_, _, _, _, _, _, _, _, sm⟩ := hP; exact SqL.of (sm _ _ ho3)) (fun j x σ G hx hP => ?_) (fun σ G hP => ?_)
    · obtain ⟨y6, y7, y8, y9, y10, y11, y12, rfl, sG⟩ := hP
      obtain ⟨b, xs, rfl, hb13, oxs⟩ : ∃ (b : Addr) (xs : List Int), x = .ref b ∧ H13 b = some (.lst (xs.map V.int)) ∧ IsOrd n xs := by
        match j, hx with
        | 0, hx => exact ⟨a0, r0, (Option.some.inj hx).symm, g0', or0⟩
        | 1, hx => exact ⟨a1, r1, (Option.some.inj hx).symm, g1', or1⟩
        | 2, hx => exact ⟨a2, r2, (Option.some.inj hx).symm, g2', or2⟩
        | m + 3, hx => cases hx
      have hb := sG _ _ hb13
      -- given
      refine ⟨_, rfl, b, _, rfl, .inl (SqL.of hb), fun gv ngv => ?_⟩
      have s14 := same_new (o := .lst (xs.map V.int)) ngv
      have hgv : (upd G gv (.lst (xs.map V.int))) gv = _ := upd_same
      have sG2 := sG.trans s14
      have hb2 := s14 _ _ hb
      generalize upd G gv (.lst (xs.map V.int)) = G2 at s14 hgv sG2 hb2 ⊢
      refine ⟨line_small (by show 3 ≤ 16777216; decide), fun tw ntw => ?_⟩
      have s15 := same_new (o := .tup [.str "swap", .str "spot", .str "shift"]) ntw
      have htw : (upd G2 tw (.tup [.str "swap", .str "spot", .str "shift"])) tw = _ := upd_same
      have sG3 := sG2.trans s15
      have hgv3 := s15 _ _ hgv
      have hb3 := s15 _ _ hb2
      generalize upd G2 tw (.tup [.str "swap", .str "spot", .str "shift"]) = G3 at s15 htw sG3 hgv3 hb3 ⊢
      refine ⟨tw, rfl, ⟨_, SqT.of htw⟩, ?_⟩
      refine for_tup (xs := [.str "swap", .str "spot", .str "shift"]) (fun j σ G4 => ∃ (y8 y9 y10 y11 y12 : Option V), σ = [some (.ref a), some (.int (0 + (i : Int))), some (.ref d), some (.int n), some (.ref l), some (.ref l2), some (.ref b), some (.ref gv), y8, y9, y10, y11, y12] ∧ Same G3 G4)
        ⟨_, _, _, _, _, rfl, Same.refl _⟩ (fun j σ G4 _ hP => by obtain ⟨_, _, _, _, _, _, sm⟩ := hP; exact SqT.of (sm _ _ htw)) (fun j x σ G4 hx hP => ?_) (fun σ G4 hP => ?_)
      · obtain ⟨z8, z9, z10, z11, z12, rfl, sG4⟩ := hP
        obtain ⟨wy, rfl, hwy⟩ := way3 hx
        have sA := sG3.trans sG4
        have hO4 := hO13.same sA
        -- due
        refine ⟨_, rfl, l, rfl, ⟨_, SqL.of hO4.top⟩, fun p np => ?_⟩
        refine lc_list (K := K) (a := l) (xs := as.map V.ref) (fun i H3 => H3 p = some (.lst (((rs.take i).map (farW wy xs)).map V.int)) ∧ Same G4 H3) ⟨upd_same, same_new np⟩ (fun i H3 _ hP => SqL.of (hP.2 _ _ hO4.top)) (fun i x H3 hx hP => ?_) (fun G5 hP => ?_)
        · obtain ⟨a', ea, rfl⟩ := ref_at_inv hx
          obtain ⟨hp3, sm⟩ := hP
          obtain ⟨r, er, ha⟩ := (hO4.ll.same sm).get ea
          have hi := (List.getElem?_eq_some_iff.mp ea).1
          have orr := hO.ord r (List.mem_of_getElem? er)
          refine ⟨rfl, _, rfl, _, rfl, _, rfl, wy, a', b, n, r, xs, rfl, hwy, ha, sm _ _ (sG4 _ _ hb3), orr, oxs, hn1, hn2, fun H4 s4 => ⟨_, s4 _ _ hp3, line_lt (by rw [List.length_map, List.length_map, List.length_take]; omega), ?_, fun b o e => ?_⟩⟩
          · rw [upd_same, take_more' er, List.map_append, List.map_append, farW_turn oxs orr hn1]
            rfl
          · rw [upd_ne (ne_of_none e np)]
            exact s4 _ _ (sm _ _ e)
        · obtain ⟨hp5, s5⟩ := hP
          rw [List.take_of_length_le (by rw [List.length_map]; omega)] at hp5
          refine ⟨p, _, rfl, SqL.of hp5, ?_⟩
          have sB := sA.trans s5
          have sC := sG4.trans s5
          refine ⟨2, rfl, by decide, by decide, ?_⟩
          refine for_range (n := 2) (fun j σ G6 => ∃ (y10 y11 y12 : Option V), σ = [some (.ref a), some (.int (0 + (i : Int))), some (.ref d), some (.int n), some (.ref l), some (.ref l2), some (.ref b), some (.ref gv), some (.str wy), some (.int (sumW wy xs rs)), y10, y11, y12] ∧ Same G5 G6)
            ⟨_, _, _, rfl, Same.refl _⟩ (fun j σ G6 hj hP => ?_) (fun σ G6 hP => ?_)
          · obtain ⟨u10, u11, u12, rfl, s6⟩ := hP
            have sD := sB.trans s6
            have sE := sC.trans s6
            refine ⟨_, rfl, _, rfl, _, rfl, wy, l2, gv, as2, rs, n, xs, rfl, hwy, hP13.same sD, hl1, hl2, sE _ _ hgv3, oxs, fun G7 s7 => ?_⟩
            have sF := sD.trans s7
            have sH := sE.trans s7
            refine ⟨_, rfl, _, rfl, _, rfl, iteF ?_⟩
            refine ⟨_, rfl, _, rfl, rfl, _, rfl, iteNS rfl ?_⟩
            refine ⟨_, rfl, _, rfl, _, _, dp_of (hP13.same sF), dp_of (hO13.same sF), shaped_lists _, shaped_lists _, _, rfl, ?_⟩
            rw [eqv_lists]
            refine iteF ?_
            refine ⟨_, rfl, _, rfl, _, _, dp_list (sH _ _ hgv3), dp_list (sH _ _ hb3), shaped_list _, shaped_list _, _, rfl, ?_⟩
            rw [eqv_list]
            exact iteF ⟨_, _, _, rfl, s6.trans s7⟩
          · obtain ⟨u10, u11, u12, rfl, s6⟩ := hP
            exact ⟨_, _, _, _, _, rfl, sC.trans s6⟩
      · obtain ⟨z8, z9, z10, z11, z12, rfl, sG4⟩ := hP
        exact ⟨_, _, _, _, _, _, _, rfl, sG3.trans sG4⟩
    · obtain ⟨y6, y7, y8, y9, y10, y11, y12, rfl, sG⟩ := hP
      exact ⟨_, _, _, _, _, _, _, _, _, _, _, _, rfl, kF.trans sG⟩
end
end Fo
--LAWCALL ok_law F_law T__law_deck T__law_cell_at T__law_next T__law_poll T__law_copied T__law_near T__law_order T__law_far T_poll_sum T__law_whole (ok_deckN (k := 9) T__law_deck T__law_stir B) (ok_cell (k := 10) T__law_cell_at B) (ok_next (k := 9) T__law_next T__law_stir B) (ok_poll (k := 10) T__law_poll T__law_next (ok_next (k := 8) T__law_next T__law_stir B) T__law_order (ok_orderN (k := 9) T__law_order T__law_next (ok_next (k := 7) T__law_next T__law_stir B) B) T__law_near (ok_nearN (k := 9) T__law_near T__law_next (ok_next (k := 7) T__law_next T__law_stir B) B) B) (ok_copied (k := 10) T__law_copied B) (ok_nearN (k := 10) T__law_near T__law_next (ok_next (k := 8) T__law_next T__law_stir B) B) (ok_orderN (k := 10) T__law_order T__law_next (ok_next (k := 8) T__law_next T__law_stir B) B) (ok_lfar (k := 10) T__law_far T__law_places (ok_pld (k := 9) T__law_places B) B) (ok_psum (k := 10) T_poll_sum T_check_poll T_check_order T_check_way T_check_fit T_known_sum (ok_cpoll (k := 9) T_check_poll T_is_order_list (ok_olst (k := 8) T_is_order_list T_is_order (ok_is_order (k := 6) T_is_order T_is_whole B m_MOST_THINGS) B) B m_MOST_POLLED) (ok_check (k := 7) T_check_order T_is_order T_is_whole B m_MOST_THINGS) (ok_way (k := 9) T_check_way m_WAYS B) (ok_fit (k := 9) T_check_fit B) (ok_ksum (k := 9) T_known_sum T_known_far (ok_known (k := 8) T_known_far T_far_by_swap T_far_by_spot T_far_by_shift (ok_swap (k := 7) T_far_by_swap T_seats_in (ok_seats (k := 5) T_seats_in T_places_in B) B) (ok_spot (k := 7) T_far_by_spot B) (ok_shift (k := 7) T_far_by_shift T_seats_in (ok_seats (k := 5) T_seats_in T_places_in B) B)) B)) (ok_lwhole (k := 10) T__law_whole B) B
namespace Fo
open PySem PySem.Spec PyProof.Rows L2
set_option maxHeartbeats 8000000 in
theorem all_mk {l : PySem.W.OpenLaw} {w : World} {K : PySem.W.Frag} {h : Heap} {mg : Str → Option Value} {fa : Addr} (X : K.In h) (G : h.Ns mainGlobals mg) (hfa : mg "law" = some (.ref fa))
    {f0 f1 f2 f3 f4 f5 f6 f7 f8 f9 f10 f11 f12 f13 f14 f15 f16 f17 f18 f19 f20 f21 f22 f23 f24 f25 f26 : Addr} {od0 an0 od1 an1 od2 an2 od3 an3 od4 an4 od5 an5 od6 an6 od7 an7 od8 an8 od9 an9 od10 an10 od11 an11 od12 an12 od13 an13 od14 an14 od15 an15 od16 an16 od17 an17 od18 an18 od19 an19 od20 an20 od21 an21 od22 an22 od23 an23 od24 an24 od25 an25 od26 an26 : Option Addr} {sl0 sl1 sl2 sl3 sl4 sl5 sl6 sl7 sl8 sl9 sl10 sl11 sl12 sl13 sl14 sl15 sl16 sl17 sl18 sl19 sl20 sl21 sl22 sl23 sl24 sl25 sl26 : Array (Option Value)} {oc0 kV0 dc0 pm0 cd0 ct0 oc1 kV1 dc1 pm1 cd1 ct1 oc2 kV2 dc2 pm2 cd2 ct2 oc3 kV3 dc3 pm3 cd3 ct3 oc4 kV4 dc4 pm4 cd4 ct4 oc5 kV5 dc5 pm5 cd5 ct5 oc6 kV6 dc6 pm6 cd6 ct6 oc7 kV7 dc7 pm7 cd7 ct7 oc8 kV8 dc8 pm8 cd8 ct8 oc9 kV9 dc9 pm9 cd9 ct9 oc10 kV10 dc10 pm10 cd10 ct10 oc11 kV11 dc11 pm11 cd11 ct11 oc12 kV12 dc12 pm12 cd12 ct12 oc13 kV13 dc13 pm13 cd13 ct13 oc14 kV14 dc14 pm14 cd14 ct14 oc15 kV15 dc15 pm15 cd15 ct15 oc16 kV16 dc16 pm16 cd16 ct16 oc17 kV17 dc17 pm17 cd17 ct17 oc18 kV18 dc18 pm18 cd18 ct18 oc19 kV19 dc19 pm19 cd19 ct19 oc20 kV20 dc20 pm20 cd20 ct20 oc21 kV21 dc21 pm21 cd21 ct21 oc22 kV22 dc22 pm22 cd22 ct22 oc23 kV23 dc23 pm23 cd23 ct23 oc24 kV24 dc24 pm24 cd24 ct24 oc25 kV25 dc25 pm25 cd25 ct25 oc26 kV26 dc26 pm26 cd26 ct26 : Value} {tk_MOST_THINGS tk_MOST_POLLED : Tok} {aW : Addr} {ddW : Option Addr} {nW : Nat} {tW1 tW2 tW3 : Tok} {slW : Array (Option Value)}
    (a0 : PySem.W.nsIn K mainGlobals "is_whole" = some (some (.ref f0))) (l0 : K.lookup f0 = some ⟨oc0, od0, .func (PySem.W.fnOf "is_whole" "is_whole" (defArgs s_is_whole) (defBody s_is_whole) (defScope s_is_whole) .none kV0 dc0 pm0 an0 cd0 ct0), sl0⟩) (c0 : PySem.W.codeIn K cd0 "is_whole" = true) (k0 : PySem.W.keepIn K (.ref f0) = true)
    (a1 : PySem.W.nsIn K mainGlobals "check_way" = some (some (.ref f1))) (l1 : K.lookup f1 = some ⟨oc1, od1, .func (PySem.W.fnOf "check_way" "check_way" (defArgs s_check_way) (defBody s_check_way) (defScope s_check_way) .none kV1 dc1 pm1 an1 cd1 ct1), sl1⟩) (c1 : PySem.W.codeIn K cd1 "check_way" = true) (k1 : PySem.W.keepIn K (.ref f1) = true)
    (a2 : PySem.W.nsIn K mainGlobals "is_order" = some (some (.ref f2))) (l2 : K.lookup f2 = some ⟨oc2, od2, .func (PySem.W.fnOf "is_order" "is_order" (defArgs s_is_order) (defBody s_is_order) (defScope s_is_order) .none kV2 dc2 pm2 an2 cd2 ct2), sl2⟩) (c2 : PySem.W.codeIn K cd2 "is_order" = true) (k2 : PySem.W.keepIn K (.ref f2) = true)
    (a3 : PySem.W.nsIn K mainGlobals "check_order" = some (some (.ref f3))) (l3 : K.lookup f3 = some ⟨oc3, od3, .func (PySem.W.fnOf "check_order" "check_order" (defArgs s_check_order) (defBody s_check_order) (defScope s_check_order) .none kV3 dc3 pm3 an3 cd3 ct3), sl3⟩) (c3 : PySem.W.codeIn K cd3 "check_order" = true) (k3 : PySem.W.keepIn K (.ref f3) = true)
    (a4 : PySem.W.nsIn K mainGlobals "check_fit" = some (some (.ref f4))) (l4 : K.lookup f4 = some ⟨oc4, od4, .func (PySem.W.fnOf "check_fit" "check_fit" (defArgs s_check_fit) (defBody s_check_fit) (defScope s_check_fit) .none kV4 dc4 pm4 an4 cd4 ct4), sl4⟩) (c4 : PySem.W.codeIn K cd4 "check_fit" = true) (k4 : PySem.W.keepIn K (.ref f4) = true)
    (a5 : PySem.W.nsIn K mainGlobals "is_order_list" = some (some (.ref f5))) (l5 : K.lookup f5 = some ⟨oc5, od5, .func (PySem.W.fnOf "is_order_list" "is_order_list" (defArgs s_is_order_list) (defBody s_is_order_list) (defScope s_is_order_list) .none kV5 dc5 pm5 an5 cd5 ct5), sl5⟩) (c5 : PySem.W.codeIn K cd5 "is_order_list" = true) (k5 : PySem.W.keepIn K (.ref f5) = true)
    (a6 : PySem.W.nsIn K mainGlobals "places_in" = some (some (.ref f6))) (l6 : K.lookup f6 = some ⟨oc6, od6, .func (PySem.W.fnOf "places_in" "places_in" (defArgs s_places_in) (defBody s_places_in) (defScope s_places_in) .none kV6 dc6 pm6 an6 cd6 ct6), sl6⟩) (c6 : PySem.W.codeIn K cd6 "places_in" = true) (k6 : PySem.W.keepIn K (.ref f6) = true)
    (a7 : PySem.W.nsIn K mainGlobals "seats_in" = some (some (.ref f7))) (l7 : K.lookup f7 = some ⟨oc7, od7, .func (PySem.W.fnOf "seats_in" "seats_in" (defArgs s_seats_in) (defBody s_seats_in) (defScope s_seats_in) .none kV7 dc7 pm7 an7 cd7 ct7), sl7⟩) (c7 : PySem.W.codeIn K cd7 "seats_in" = true) (k7 : PySem.W.keepIn K (.ref f7) = true)
    (a8 : PySem.W.nsIn K mainGlobals "known_far" = some (some (.ref f8))) (l8 : K.lookup f8 = some ⟨oc8, od8, .func (PySem.W.fnOf "known_far" "known_far" (defArgs s_known_far) (defBody s_known_far) (defScope s_known_far) .none kV8 dc8 pm8 an8 cd8 ct8), sl8⟩) (c8 : PySem.W.codeIn K cd8 "known_far" = true) (k8 : PySem.W.keepIn K (.ref f8) = true)
    (a9 : PySem.W.nsIn K mainGlobals "far_by_swap" = some (some (.ref f9))) (l9 : K.lookup f9 = some ⟨oc9, od9, .func (PySem.W.fnOf "far_by_swap" "far_by_swap" (defArgs s_far_by_swap) (defBody s_far_by_swap) (defScope s_far_by_swap) .none kV9 dc9 pm9 an9 cd9 ct9), sl9⟩) (c9 : PySem.W.codeIn K cd9 "far_by_swap" = true) (k9 : PySem.W.keepIn K (.ref f9) = true)
    (a10 : PySem.W.nsIn K mainGlobals "far_by_spot" = some (some (.ref f10))) (l10 : K.lookup f10 = some ⟨oc10, od10, .func (PySem.W.fnOf "far_by_spot" "far_by_spot" (defArgs s_far_by_spot) (defBody s_far_by_spot) (defScope s_far_by_spot) .none kV10 dc10 pm10 an10 cd10 ct10), sl10⟩) (c10 : PySem.W.codeIn K cd10 "far_by_spot" = true) (k10 : PySem.W.keepIn K (.ref f10) = true)
    (a11 : PySem.W.nsIn K mainGlobals "far_by_shift" = some (some (.ref f11))) (l11 : K.lookup f11 = some ⟨oc11, od11, .func (PySem.W.fnOf "far_by_shift" "far_by_shift" (defArgs s_far_by_shift) (defBody s_far_by_shift) (defScope s_far_by_shift) .none kV11 dc11 pm11 an11 cd11 ct11), sl11⟩) (c11 : PySem.W.codeIn K cd11 "far_by_shift" = true) (k11 : PySem.W.keepIn K (.ref f11) = true)
    (a12 : PySem.W.nsIn K mainGlobals "check_poll" = some (some (.ref f12))) (l12 : K.lookup f12 = some ⟨oc12, od12, .func (PySem.W.fnOf "check_poll" "check_poll" (defArgs s_check_poll) (defBody s_check_poll) (defScope s_check_poll) .none kV12 dc12 pm12 an12 cd12 ct12), sl12⟩) (c12 : PySem.W.codeIn K cd12 "check_poll" = true) (k12 : PySem.W.keepIn K (.ref f12) = true)
    (a13 : PySem.W.nsIn K mainGlobals "poll_sum" = some (some (.ref f13))) (l13 : K.lookup f13 = some ⟨oc13, od13, .func (PySem.W.fnOf "poll_sum" "poll_sum" (defArgs s_poll_sum) (defBody s_poll_sum) (defScope s_poll_sum) .none kV13 dc13 pm13 an13 cd13 ct13), sl13⟩) (c13 : PySem.W.codeIn K cd13 "poll_sum" = true) (k13 : PySem.W.keepIn K (.ref f13) = true)
    (a14 : PySem.W.nsIn K mainGlobals "known_sum" = some (some (.ref f14))) (l14 : K.lookup f14 = some ⟨oc14, od14, .func (PySem.W.fnOf "known_sum" "known_sum" (defArgs s_known_sum) (defBody s_known_sum) (defScope s_known_sum) .none kV14 dc14 pm14 an14 cd14 ct14), sl14⟩) (c14 : PySem.W.codeIn K cd14 "known_sum" = true) (k14 : PySem.W.keepIn K (.ref f14) = true)
    (a15 : PySem.W.nsIn K mainGlobals "_law_cell_at" = some (some (.ref f15))) (l15 : K.lookup f15 = some ⟨oc15, od15, .func (PySem.W.fnOf "_law_cell_at" "_law_cell_at" (defArgs s_law_cell_at) (defBody s_law_cell_at) (defScope s_law_cell_at) .none kV15 dc15 pm15 an15 cd15 ct15), sl15⟩) (c15 : PySem.W.codeIn K cd15 "_law_cell_at" = true) (k15 : PySem.W.keepIn K (.ref f15) = true)
    (a16 : PySem.W.nsIn K mainGlobals "_law_stir" = some (some (.ref f16))) (l16 : K.lookup f16 = some ⟨oc16, od16, .func (PySem.W.fnOf "_law_stir" "_law_stir" (defArgs s_law_stir) (defBody s_law_stir) (defScope s_law_stir) .none kV16 dc16 pm16 an16 cd16 ct16), sl16⟩) (c16 : PySem.W.codeIn K cd16 "_law_stir" = true) (k16 : PySem.W.keepIn K (.ref f16) = true)
    (a17 : PySem.W.nsIn K mainGlobals "_law_deck" = some (some (.ref f17))) (l17 : K.lookup f17 = some ⟨oc17, od17, .func (PySem.W.fnOf "_law_deck" "_law_deck" (defArgs s_law_deck) (defBody s_law_deck) (defScope s_law_deck) .none kV17 dc17 pm17 an17 cd17 ct17), sl17⟩) (c17 : PySem.W.codeIn K cd17 "_law_deck" = true) (k17 : PySem.W.keepIn K (.ref f17) = true)
    (a18 : PySem.W.nsIn K mainGlobals "_law_next" = some (some (.ref f18))) (l18 : K.lookup f18 = some ⟨oc18, od18, .func (PySem.W.fnOf "_law_next" "_law_next" (defArgs s_law_next) (defBody s_law_next) (defScope s_law_next) .none kV18 dc18 pm18 an18 cd18 ct18), sl18⟩) (c18 : PySem.W.codeIn K cd18 "_law_next" = true) (k18 : PySem.W.keepIn K (.ref f18) = true)
    (a19 : PySem.W.nsIn K mainGlobals "_law_order" = some (some (.ref f19))) (l19 : K.lookup f19 = some ⟨oc19, od19, .func (PySem.W.fnOf "_law_order" "_law_order" (defArgs s_law_order) (defBody s_law_order) (defScope s_law_order) .none kV19 dc19 pm19 an19 cd19 ct19), sl19⟩) (c19 : PySem.W.codeIn K cd19 "_law_order" = true) (k19 : PySem.W.keepIn K (.ref f19) = true)
    (a20 : PySem.W.nsIn K mainGlobals "_law_near" = some (some (.ref f20))) (l20 : K.lookup f20 = some ⟨oc20, od20, .func (PySem.W.fnOf "_law_near" "_law_near" (defArgs s_law_near) (defBody s_law_near) (defScope s_law_near) .none kV20 dc20 pm20 an20 cd20 ct20), sl20⟩) (c20 : PySem.W.codeIn K cd20 "_law_near" = true) (k20 : PySem.W.keepIn K (.ref f20) = true)
    (a21 : PySem.W.nsIn K mainGlobals "_law_poll" = some (some (.ref f21))) (l21 : K.lookup f21 = some ⟨oc21, od21, .func (PySem.W.fnOf "_law_poll" "_law_poll" (defArgs s_law_poll) (defBody s_law_poll) (defScope s_law_poll) .none kV21 dc21 pm21 an21 cd21 ct21), sl21⟩) (c21 : PySem.W.codeIn K cd21 "_law_poll" = true) (k21 : PySem.W.keepIn K (.ref f21) = true)
    (a22 : PySem.W.nsIn K mainGlobals "_law_places" = some (some (.ref f22))) (l22 : K.lookup f22 = some ⟨oc22, od22, .func (PySem.W.fnOf "_law_places" "_law_places" (defArgs s_law_places) (defBody s_law_places) (defScope s_law_places) .none kV22 dc22 pm22 an22 cd22 ct22), sl22⟩) (c22 : PySem.W.codeIn K cd22 "_law_places" = true) (k22 : PySem.W.keepIn K (.ref f22) = true)
    (a23 : PySem.W.nsIn K mainGlobals "_law_far" = some (some (.ref f23))) (l23 : K.lookup f23 = some ⟨oc23, od23, .func (PySem.W.fnOf "_law_far" "_law_far" (defArgs s_law_far) (defBody s_law_far) (defScope s_law_far) .none kV23 dc23 pm23 an23 cd23 ct23), sl23⟩) (c23 : PySem.W.codeIn K cd23 "_law_far" = true) (k23 : PySem.W.keepIn K (.ref f23) = true)
    (a24 : PySem.W.nsIn K mainGlobals "_law_whole" = some (some (.ref f24))) (l24 : K.lookup f24 = some ⟨oc24, od24, .func (PySem.W.fnOf "_law_whole" "_law_whole" (defArgs s_law_whole) (defBody s_law_whole) (defScope s_law_whole) .none kV24 dc24 pm24 an24 cd24 ct24), sl24⟩) (c24 : PySem.W.codeIn K cd24 "_law_whole" = true) (k24 : PySem.W.keepIn K (.ref f24) = true)
    (a25 : PySem.W.nsIn K mainGlobals "_law_copied" = some (some (.ref f25))) (l25 : K.lookup f25 = some ⟨oc25, od25, .func (PySem.W.fnOf "_law_copied" "_law_copied" (defArgs s_law_copied) (defBody s_law_copied) (defScope s_law_copied) .none kV25 dc25 pm25 an25 cd25 ct25), sl25⟩) (c25 : PySem.W.codeIn K cd25 "_law_copied" = true) (k25 : PySem.W.keepIn K (.ref f25) = true)
    (a26 : PySem.W.nsIn K mainGlobals "law" = some (some (.ref f26))) (l26 : K.lookup f26 = some ⟨oc26, od26, .func (PySem.W.fnOf "law" "law" (defArgs s_law) (defBody s_law) (defScope s_law) .none kV26 dc26 pm26 an26 cd26 ct26), sl26⟩) (c26 : PySem.W.codeIn K cd26 "law" = true) (k26 : PySem.W.keepIn K (.ref f26) = true)
    (g_MOST_THINGS : PySem.W.nsIn K mainGlobals "MOST_THINGS" = some (some (.int 12 tk_MOST_THINGS)))
    (g_MOST_POLLED : PySem.W.nsIn K mainGlobals "MOST_POLLED" = some (some (.int 20 tk_MOST_POLLED)))
    (g_WAYS : PySem.W.nsIn K mainGlobals "WAYS" = some (some (.ref aW))) (l_WAYS : K.lookup aW = some ⟨.type "tuple", ddW, .seq #[.str "swap" tW1, .str "spot" tW2, .str "shift" tW3] nW, slW⟩)
    (z_abs : PySem.W.nsIn K mainGlobals "abs" = some none)
    (z_all : PySem.W.nsIn K mainGlobals "all" = some none)
    (z_bool : PySem.W.nsIn K mainGlobals "bool" = some none)
    (z_enumerate : PySem.W.nsIn K mainGlobals "enumerate" = some none)
    (z_int : PySem.W.nsIn K mainGlobals "int" = some none)
    (z_isinstance : PySem.W.nsIn K mainGlobals "isinstance" = some none)
    (z_len : PySem.W.nsIn K mainGlobals "len" = some none)
    (z_list : PySem.W.nsIn K mainGlobals "list" = some none)
    (z_max : PySem.W.nsIn K mainGlobals "max" = some none)
    (z_min : PySem.W.nsIn K mainGlobals "min" = some none)
    (z_range : PySem.W.nsIn K mainGlobals "range" = some none)
    (z_sorted : PySem.W.nsIn K mainGlobals "sorted" = some none)
    (z_str : PySem.W.nsIn K mainGlobals "str" = some none)
    (z_sum : PySem.W.nsIn K mainGlobals "sum" = some none)
    (z_zip : PySem.W.nsIn K mainGlobals "zip" = some none)
    : ∃ fd : FuncData, (∀ (s : Shared) (v : Value), BindsTo s fd ⟨[v], []⟩ [("script", v)]) ∧ ∀ base : Heap, K.In base → base.Ns mainGlobals mg → FnOk l.prog w K mg base CX0 12 fa fd ["script"] (spLaw K) := by
  have e := hfa.symm.trans (PySem.W.mg_of X G a26)
  cases e
  have F0 := fun_mk (st := s_is_whole) l0 c0 k0
  have F1 := fun_mk (st := s_check_way) l1 c1 k1
  have F2 := fun_mk (st := s_is_order) l2 c2 k2
  have F3 := fun_mk (st := s_check_order) l3 c3 k3
  have F4 := fun_mk (st := s_check_fit) l4 c4 k4
  have F5 := fun_mk (st := s_is_order_list) l5 c5 k5
  have F6 := fun_mk (st := s_places_in) l6 c6 k6
  have F7 := fun_mk (st := s_seats_in) l7 c7 k7
  have F8 := fun_mk (st := s_known_far) l8 c8 k8
  have F9 := fun_mk (st := s_far_by_swap) l9 c9 k9
  have F10 := fun_mk (st := s_far_by_spot) l10 c10 k10
  have F11 := fun_mk (st := s_far_by_shift) l11 c11 k11
  have F12 := fun_mk (st := s_check_poll) l12 c12 k12
  have F13 := fun_mk (st := s_poll_sum) l13 c13 k13
  have F14 := fun_mk (st := s_known_sum) l14 c14 k14
  have F15 := fun_mk (st := s_law_cell_at) l15 c15 k15
  have F16 := fun_mk (st := s_law_stir) l16 c16 k16
  have F17 := fun_mk (st := s_law_deck) l17 c17 k17
  have F18 := fun_mk (st := s_law_next) l18 c18 k18
  have F19 := fun_mk (st := s_law_order) l19 c19 k19
  have F20 := fun_mk (st := s_law_near) l20 c20 k20
  have F21 := fun_mk (st := s_law_poll) l21 c21 k21
  have F22 := fun_mk (st := s_law_places) l22 c22 k22
  have F23 := fun_mk (st := s_law_far) l23 c23 k23
  have F24 := fun_mk (st := s_law_whole) l24 c24 k24
  have F25 := fun_mk (st := s_law_copied) l25 c25 k25
  have F26 := fun_mk (st := s_law) l26 c26 k26
  have T_is_whole : Df K mg "is_whole" s_is_whole ["thing"] f0 _ := ⟨F0, F0.binds (ps := ["thing"]) (fun _ _ _ _ _ _ us hl => match us, hl with | [_], _ => rfl), PySem.W.mg_of X G a0⟩
  have T_check_way : Df K mg "check_way" s_check_way ["thing"] f1 _ := ⟨F1, F1.binds (ps := ["thing"]) (fun _ _ _ _ _ _ us hl => match us, hl with | [_], _ => rfl), PySem.W.mg_of X G a1⟩
  have T_is_order : Df K mg "is_order" s_is_order ["thing"] f2 _ := ⟨F2, F2.binds (ps := ["thing"]) (fun _ _ _ _ _ _ us hl => match us, hl with | [_], _ => rfl), PySem.W.mg_of X G a2⟩
  have T_check_order : Df K mg "check_order" s_check_order ["thing"] f3 _ := ⟨F3, F3.binds (ps := ["thing"]) (fun _ _ _ _ _ _ us hl => match us, hl with | [_], _ => rfl), PySem.W.mg_of X G a3⟩
  have T_check_fit : Df K mg "check_fit" s_check_fit ["one", "other"] f4 _ := ⟨F4, F4.binds (ps := ["one", "other"]) (fun _ _ _ _ _ _ us hl => match us, hl with | [_, _], _ => rfl), PySem.W.mg_of X G a4⟩
  have T_is_order_list : Df K mg "is_order_list" s_is_order_list ["thing"] f5 _ := ⟨F5, F5.binds (ps := ["thing"]) (fun _ _ _ _ _ _ us hl => match us, hl with | [_], _ => rfl), PySem.W.mg_of X G a5⟩
  have T_places_in : Df K mg "places_in" s_places_in ["order"] f6 _ := ⟨F6, F6.binds (ps := ["order"]) (fun _ _ _ _ _ _ us hl => match us, hl with | [_], _ => rfl), PySem.W.mg_of X G a6⟩
  have T_seats_in : Df K mg "seats_in" s_seats_in ["one", "other"] f7 _ := ⟨F7, F7.binds (ps := ["one", "other"]) (fun _ _ _ _ _ _ us hl => match us, hl with | [_, _], _ => rfl), PySem.W.mg_of X G a7⟩
  have T_known_far : Df K mg "known_far" s_known_far ["way", "one", "other"] f8 _ := ⟨F8, F8.binds (ps := ["way", "one", "other"]) (fun _ _ _ _ _ _ us hl => match us, hl with | [_, _, _], _ => rfl), PySem.W.mg_of X G a8⟩
  have T_far_by_swap : Df K mg "far_by_swap" s_far_by_swap ["one", "other"] f9 _ := ⟨F9, F9.binds (ps := ["one", "other"]) (fun _ _ _ _ _ _ us hl => match us, hl with | [_, _], _ => rfl), PySem.W.mg_of X G a9⟩
  have T_far_by_spot : Df K mg "far_by_spot" s_far_by_spot ["one", "other"] f10 _ := ⟨F10, F10.binds (ps := ["one", "other"]) (fun _ _ _ _ _ _ us hl => match us, hl with | [_, _], _ => rfl), PySem.W.mg_of X G a10⟩
  have T_far_by_shift : Df K mg "far_by_shift" s_far_by_shift ["one", "other"] f11 _ := ⟨F11, F11.binds (ps := ["one", "other"]) (fun _ _ _ _ _ _ us hl => match us, hl with | [_, _], _ => rfl), PySem.W.mg_of X G a11⟩
  have T_check_poll : Df K mg "check_poll" s_check_poll ["thing"] f12 _ := ⟨F12, F12.binds (ps := ["thing"]) (fun _ _ _ _ _ _ us hl => match us, hl with | [_], _ => rfl), PySem.W.mg_of X G a12⟩
  have T_poll_sum : Df K mg "poll_sum" s_poll_sum ["way", "poll", "order"] f13 _ := ⟨F13, F13.binds (ps := ["way", "poll", "order"]) (fun _ _ _ _ _ _ us hl => match us, hl with | [_, _, _], _ => rfl), PySem.W.mg_of X G a13⟩
  have T_known_sum : Df K mg "known_sum" s_known_sum ["way", "poll", "order"] f14 _ := ⟨F14, F14.binds (ps := ["way", "poll", "order"]) (fun _ _ _ _ _ _ us hl => match us, hl with | [_, _, _], _ => rfl), PySem.W.mg_of X G a14⟩
  have T__law_cell_at : Df K mg "_law_cell_at" s_law_cell_at ["script", "k"] f15 _ := ⟨F15, F15.binds (ps := ["script", "k"]) (fun _ _ _ _ _ _ us hl => match us, hl with | [_, _], _ => rfl), PySem.W.mg_of X G a15⟩
  have T__law_stir : Df K mg "_law_stir" s_law_stir ["cell", "k"] f16 _ := ⟨F16, F16.binds (ps := ["cell", "k"]) (fun _ _ _ _ _ _ us hl => match us, hl with | [_, _], _ => rfl), PySem.W.mg_of X G a16⟩
  have T__law_deck : Df K mg "_law_deck" s_law_deck ["cell", "many"] f17 _ := ⟨F17, F17.binds (ps := ["cell", "many"]) (fun _ _ _ _ _ _ us hl => match us, hl with | [_, _], _ => rfl), PySem.W.mg_of X G a17⟩
  have T__law_next : Df K mg "_law_next" s_law_next ["deck"] f18 _ := ⟨F18, F18.binds (ps := ["deck"]) (fun _ _ _ _ _ _ us hl => match us, hl with | [_], _ => rfl), PySem.W.mg_of X G a18⟩
  have T__law_order : Df K mg "_law_order" s_law_order ["deck", "n"] f19 _ := ⟨F19, F19.binds (ps := ["deck", "n"]) (fun _ _ _ _ _ _ us hl => match us, hl with | [_, _], _ => rfl), PySem.W.mg_of X G a19⟩
  have T__law_near : Df K mg "_law_near" s_law_near ["deck", "order"] f20 _ := ⟨F20, F20.binds (ps := ["deck", "order"]) (fun _ _ _ _ _ _ us hl => match us, hl with | [_, _], _ => rfl), PySem.W.mg_of X G a20⟩
  have T__law_poll : Df K mg "_law_poll" s_law_poll ["deck", "n", "most"] f21 _ := ⟨F21, F21.binds (ps := ["deck", "n", "most"]) (fun _ _ _ _ _ _ us hl => match us, hl with | [_, _, _], _ => rfl), PySem.W.mg_of X G a21⟩
  have T__law_places : Df K mg "_law_places" s_law_places ["order"] f22 _ := ⟨F22, F22.binds (ps := ["order"]) (fun _ _ _ _ _ _ us hl => match us, hl with | [_], _ => rfl), PySem.W.mg_of X G a22⟩
  have T__law_far : Df K mg "_law_far" s_law_far ["way", "one", "other"] f23 _ := ⟨F23, F23.binds (ps := ["way", "one", "other"]) (fun _ _ _ _ _ _ us hl => match us, hl with | [_, _, _], _ => rfl), PySem.W.mg_of X G a23⟩
  have T__law_whole : Df K mg "_law_whole" s_law_whole ["thing"] f24 _ := ⟨F24, F24.binds (ps := ["thing"]) (fun _ _ _ _ _ _ us hl => match us, hl with | [_], _ => rfl), PySem.W.mg_of X G a24⟩
  have T__law_copied : Df K mg "_law_copied" s_law_copied ["orders"] f25 _ := ⟨F25, F25.binds (ps := ["orders"]) (fun _ _ _ _ _ _ us hl => match us, hl with | [_], _ => rfl), PySem.W.mg_of X G a25⟩
  have B : Bi mg := ⟨PySem.W.mg_none_of X G z_abs, PySem.W.mg_none_of X G z_all, PySem.W.mg_none_of X G z_bool, PySem.W.mg_none_of X G z_enumerate, PySem.W.mg_none_of X G z_int, PySem.W.mg_none_of X G z_isinstance, PySem.W.mg_none_of X G z_len, PySem.W.mg_none_of X G z_list, PySem.W.mg_none_of X G z_max, PySem.W.mg_none_of X G z_min, PySem.W.mg_none_of X G z_range, PySem.W.mg_none_of X G z_sorted, PySem.W.mg_none_of X G z_str, PySem.W.mg_none_of X G z_sum, PySem.W.mg_none_of X G z_zip⟩
  have m_WAYS := wy_mk (PySem.W.mg_of X G g_WAYS) l_WAYS
  have m_MOST_THINGS := PySem.W.mg_of X G g_MOST_THINGS
  have m_MOST_POLLED := PySem.W.mg_of X G g_MOST_POLLED
  exact ⟨PySem.W.fnOf "law" "law" (defArgs s_law) (defBody s_law) (defScope s_law) .none kV26 dc26 pm26 an26 cd26 ct26, fun s v => .of_eq rfl, fun base _ _ => ok_law F26 T__law_deck T__law_cell_at T__law_next T__law_poll T__law_copied T__law_near T__law_order T__law_far T_poll_sum T__law_whole (ok_deckN (k := 9) T__law_deck T__law_stir B) (ok_cell (k := 10) T__law_cell_at B) (ok_next (k := 9) T__law_next T__law_stir B) (ok_poll (k := 10) T__law_poll T__law_next (ok_next (k := 8) T__law_next T__law_stir B) T__law_order (ok_orderN (k := 9) T__law_order T__law_next (ok_next (k := 7) T__law_next T__law_stir B) B) T__law_near (ok_nearN (k := 9) T__law_near T__law_next (ok_next (k := 7) T__law_next T__law_stir B) B) B) (ok_copied (k := 10) T__law_copied B) (ok_nearN (k := 10) T__law_near T__law_next (ok_next (k := 8) T__law_next T__law_stir B) B) (ok_orderN (k := 10) T__law_order T__law_next (ok_next (k := 8) T__law_next T__law_stir B) B) (ok_lfar (k := 10) T__law_far T__law_places (ok_pld (k := 9) T__law_places B) B) (ok_psum (k := 10) T_poll_sum T_check_poll T_check_order T_check_way T_check_fit T_known_sum (ok_cpoll (k := 9) T_check_poll T_is_order_list (ok_olst (k := 8) T_is_order_list T_is_order (ok_is_order (k := 6) T_is_order T_is_whole B m_MOST_THINGS) B) B m_MOST_POLLED) (ok_check (k := 7) T_check_order T_is_order T_is_whole B m_MOST_THINGS) (ok_way (k := 9) T_check_way m_WAYS B) (ok_fit (k := 9) T_check_fit B) (ok_ksum (k := 9) T_known_sum T_known_far (ok_known (k := 8) T_known_far T_far_by_swap T_far_by_spot T_far_by_shift (ok_swap (k := 7) T_far_by_swap T_seats_in (ok_seats (k := 5) T_seats_in T_places_in B) B) (ok_spot (k := 7) T_far_by_spot B) (ok_shift (k := 7) T_far_by_shift T_seats_in (ok_seats (k := 5) T_seats_in T_places_in B) B)) B)) (ok_lwhole (k := 10) T__law_whole B) B⟩
end Fo
open PySem PySem.W PyProof.Rows
set_option maxRecDepth 100000 in
set_option maxHeartbeats 0 in
theorem PySem.Challenge.cw_farorders_k63_sums_to_polls_holds : PySem.Challenge.rw_farorders_k63_sums_to_polls.Holds := by
  w_on; o_law; k_head; (case hw => w_witness2)
  k_fill
  refine L2.walk_of (l := PySem.Challenge.rw_farorders_k63_sums_to_polls) (n := 63) (k := 12) (x := "script") (CX := fun _ => L2.CX0) (sp := fun w => Fo.spLaw _) rfl (by decide) rfl ⟨rfl, by decide, by decide⟩ (fun w h Y => PySem.W.kIn_of Y) ?F (fun _ _ a ns hl _ hS => ⟨a, ns, rfl, hS, hl, fun _ => rfl⟩) (fun _ _ _ _ _ h => h)
  case F =>
    intro w mg fa h KX G hmg
    refine' Fo.all_mk KX G hmg ?a0 ?l0 ?c0 ?k0 ?a1 ?l1 ?c1 ?k1 ?a2 ?l2 ?c2 ?k2 ?a3 ?l3 ?c3 ?k3 ?a4 ?l4 ?c4 ?k4 ?a5 ?l5 ?c5 ?k5 ?a6 ?l6 ?c6 ?k6 ?a7 ?l7 ?c7 ?k7 ?a8 ?l8 ?c8 ?k8 ?a9 ?l9 ?c9 ?k9 ?a10 ?l10 ?c10 ?k10 ?a11 ?l11 ?c11 ?k11 ?a12 ?l12 ?c12 ?k12 ?a13 ?l13 ?c13 ?k13 ?a14 ?l14 ?c14 ?k14 ?a15 ?l15 ?c15 ?k15 ?a16 ?l16 ?c16 ?k16 ?a17 ?l17 ?c17 ?k17 ?a18 ?l18 ?c18 ?k18 ?a19 ?l19 ?c19 ?k19 ?a20 ?l20 ?c20 ?k20 ?a21 ?l21 ?c21 ?k21 ?a22 ?l22 ?c22 ?k22 ?a23 ?l23 ?c23 ?k23 ?a24 ?l24 ?c24 ?k24 ?a25 ?l25 ?c25 ?k25 ?a26 ?l26 ?c26 ?k26 ?g_MOST_THINGS ?g_MOST_POLLED ?g_WAYS ?l_WAYS ?z_abs ?z_all ?z_bool ?z_enumerate ?z_int ?z_isinstance ?z_len ?z_list ?z_max ?z_min ?z_range ?z_sorted ?z_str ?z_sum ?z_zip
    (case a0 => k_is); (case l0 => k_is); (case c0 => k_is); (case k0 => k_is); (case a1 => k_is); (case l1 => k_is); (case c1 => k_is); (case k1 => k_is); (case a2 => k_is); (case l2 => k_is); (case c2 => k_is); (case k2 => k_is); (case a3 => k_is); (case l3 => k_is); (case c3 => k_is); (case k3 => k_is); (case a4 => k_is); (case l4 => k_is); (case c4 => k_is); (case k4 => k_is); (case a5 => k_is); (case l5 => k_is); (case c5 => k_is); (case k5 => k_is); (case a6 => k_is); (case l6 => k_is); (case c6 => k_is); (case k6 => k_is); (case a7 => k_is); (case l7 => k_is); (case c7 => k_is); (case k7 => k_is); (case a8 => k_is); (case l8 => k_is); (case c8 => k_is); (case k8 => k_is); (case a9 => k_is); (case l9 => k_is); (case c9 => k_is); (case k9 => k_is); (case a10 => k_is); (case l10 => k_is); (case c10 => k_is); (case k10 => k_is); (case a11 => k_is); (case l11 => k_is); (case c11 => k_is); (case k11 => k_is); (case a12 => k_is); (case l12 => k_is); (case c12 => k_is); (case k12 => k_is); (case a13 => k_is); (case l13 => k_is); (case c13 => k_is); (case k13 => k_is); (case a14 => k_is); (case l14 => k_is); (case c14 => k_is); (case k14 => k_is); (case a15 => k_is); (case l15 => k_is); (case c15 => k_is); (case k15 => k_is); (case a16 => k_is); (case l16 => k_is); (case c16 => k_is); (case k16 => k_is); (case a17 => k_is); (case l17 => k_is); (case c17 => k_is); (case k17 => k_is); (case a18 => k_is); (case l18 => k_is); (case c18 => k_is); (case k18 => k_is); (case a19 => k_is); (case l19 => k_is); (case c19 => k_is); (case k19 => k_is); (case a20 => k_is); (case l20 => k_is); (case c20 => k_is); (case k20 => k_is); (case a21 => k_is); (case l21 => k_is); (case c21 => k_is); (case k21 => k_is); (case a22 => k_is); (case l22 => k_is); (case c22 => k_is); (case k22 => k_is); (case a23 => k_is); (case l23 => k_is); (case c23 => k_is); (case k23 => k_is); (case a24 => k_is); (case l24 => k_is); (case c24 => k_is); (case k24 => k_is); (case a25 => k_is); (case l25 => k_is); (case c25 => k_is); (case k25 => k_is); (case a26 => k_is); (case l26 => k_is); (case c26 => k_is); (case k26 => k_is); (case g_MOST_THINGS => k_is); (case g_MOST_POLLED => k_is); (case g_WAYS => k_is); (case l_WAYS => k_is); (case z_abs => k_is); (case z_all => k_is); (case z_bool => k_is); (case z_enumerate => k_is); (case z_int => k_is); (case z_isinstance => k_is); (case z_len => k_is); (case z_list => k_is); (case z_max => k_is); (case z_min => k_is); (case z_range => k_is); (case z_sorted => k_is); (case z_str => k_is); (case z_sum => k_is); (case z_zip => k_is)

