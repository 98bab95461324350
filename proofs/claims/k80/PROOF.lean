import PyProof.Rows.All
import Wide.All
import OpenK.AllK
import Wide.FinOn
import HandS.ForMost
import HandS.IsInst
import HandS.Conv
import HandS.Style
import HandS.More
import HandS.Evl
import HandS.Zip
import HandS.SetFor
import HandS.Sort
import HandS.Wide
import HandS.Deep
import KE.SortData
import PySem.Challenge.RW_farorders_k80_whole_one_writing_each
set_option Elab.async false
set_option linter.all false
set_option maxRecDepth 100000
namespace Fo
open PySem PySem.Spec PyProof.Rows L2
/-! ### lists and orders -/
def rg (n : Nat) : List Int := (List.range n).map fun k => ((k : Nat) : Int)
def IsOrd (n : Nat) (ns : List Int) : Prop := ns.Perm (rg n)
theorem rg_len (n : Nat) : (rg n).length = n := by
  unfold rg
  rw [List.length_map, List.length_range]
theorem rg_mem {n : Nat} {x : Int} : x ∈ rg n ↔ 0 ≤ x ∧ x < n := by
  unfold rg
  rw [List.mem_map]
  constructor
  · rintro ⟨k, hk, rfl⟩
    have := List.mem_range.mp hk
    omega
  · rintro ⟨h0, h1⟩
    exact ⟨x.toNat, List.mem_range.mpr (by omega), by omega⟩
theorem rg_nodup (n : Nat) : (rg n).Nodup := by
  unfold rg
  exact List.Pairwise.map _ (fun a b h e => h (by omega)) List.nodup_range
theorem rg_sorted (n : Nat) : (rg n).Pairwise (· ≤ ·) := by
  unfold rg
  exact List.Pairwise.map _ (fun a b h => by omega) List.pairwise_lt_range
theorem rg_V (n : Nat) : rgV 0 (n : Int) = (rg n).map V.int := by
  unfold rgV rg
  rw [List.map_map, show ((n : Int) - 0).toNat = n by omega]
  apply List.map_congr_left
  intro a _
  show V.int (0 + (a : Int)) = V.int (a : Int)
  rw [Int.zero_add]
theorem IsOrd.len {n : Nat} {ns : List Int} (h : IsOrd n ns) : ns.length = n := (List.Perm.length_eq h).trans (rg_len n)
theorem IsOrd.mem {n : Nat} {ns : List Int} (h : IsOrd n ns) {x : Int} (m : x ∈ ns) : 0 ≤ x ∧ x < n := rg_mem.mp ((List.Perm.mem_iff h).mp m)
theorem IsOrd.nodup {n : Nat} {ns : List Int} (h : IsOrd n ns) : ns.Nodup := (List.Perm.nodup_iff h).mpr (rg_nodup n)
/-- two sorted lists of the same things are one -/
theorem sorted_eq : ∀ {a b : List Int}, a.Perm b → a.Pairwise (· ≤ ·) → b.Pairwise (· ≤ ·) → a = b := by
  intro a b hp ha hb
  exact List.Perm.eq_of_pairwise (fun x y _ _ h1 h2 => by omega) ha hb hp
/-- the things at p and p + 1 change places -/
def sw (xs : List Int) (p : Nat) : List Int := (xs.set p (xs.getD (p + 1) 0)).set (p + 1) (xs.getD p 0)
theorem split2 : ∀ {xs : List Int} {p : Nat}, p + 1 < xs.length → ∃ A a b B, xs = A ++ a :: b :: B ∧ A.length = p
  | [], p, h => by simp at h
  | [_], p, h => by simp at h
  | a :: b :: r, 0, _ => ⟨[], a, b, r, rfl, rfl⟩
  | a :: b :: r, p + 1, h => by
    obtain ⟨A, x, y, B, e, l⟩ := split2 (xs := b :: r) (p := p) (by simpa using h)
    exact ⟨a :: A, x, y, B, by rw [e]; rfl, by rw [List.length_cons, l]⟩
theorem sw_at : ∀ (A : List Int) (a b : Int) (B : List Int), sw (A ++ a :: b :: B) A.length = A ++ b :: a :: B
  | [], a, b, B => rfl
  | x :: A, a, b, B => by
    have ih := sw_at A a b B
    unfold sw at ih ⊢
    show x :: _ = x :: _
    exact congrArg (x :: ·) ih
theorem sw_perm {xs : List Int} {p : Nat} (h : p + 1 < xs.length) : (sw xs p).Perm xs := by
  obtain ⟨A, a, b, B, rfl, rfl⟩ := split2 h
  rw [sw_at]
  exact List.Perm.append_left A (List.Perm.swap a b B)
theorem sw_len (xs : List Int) (p : Nat) : (sw xs p).length = xs.length := by
  unfold sw
  rw [List.length_set, List.length_set]
theorem sw_ord {n : Nat} {xs : List Int} {p : Nat} (o : IsOrd n xs) (h : p + 1 < n) : IsOrd n (sw xs p) :=
  (sw_perm (by rw [o.len]; exact h)).trans o
theorem sw_V {xs : List Int} {p : Nat} {a b : Int} (ha : xs[p]? = some a) (hb : xs[p + 1]? = some b) : ((xs.map V.int).set p (V.int b)).set (p + 1) (V.int a) = (sw xs p).map V.int := by
  unfold sw
  rw [List.getD_eq_getElem?_getD, List.getD_eq_getElem?_getD, ha, hb, List.map_set, List.map_set]
  rfl
theorem pop_ins {xs : List Int} {p : Nat} {a : Int} (h : p + 1 < xs.length) (ha : xs[p]? = some a) : (xs.eraseIdx p).take (p + 1) ++ [a] ++ (xs.eraseIdx p).drop (p + 1) = sw xs p := by
  obtain ⟨A, x, y, B, rfl, rfl⟩ := split2 h
  have ex : x = a := by
    rw [List.getElem?_append_right (Nat.le_refl _), Nat.sub_self] at ha
    exact Option.some.inj ha
  subst ex
  rw [sw_at, List.eraseIdx_append_of_length_le (Nat.le_refl _), Nat.sub_self]
  show (A ++ y :: B).take (A.length + 1) ++ [x] ++ (A ++ y :: B).drop (A.length + 1) = _
  rw [List.take_append, List.drop_append]
  have t : A.length + 1 - A.length = 1 := by omega
  rw [t, List.take_of_length_le (by omega), List.drop_of_length_le (by omega)]
  simp
/-- the order at a walk's end -/
def wEnd (xs : List Int) (ws : List Int) : List Int := ws.foldl (fun x p => sw x p.toNat) xs
theorem wEnd_more {xs ws : List Int} {i : Nat} {p : Int} (h : ws[i]? = some p) : wEnd xs (ws.take (i + 1)) = sw (wEnd xs (ws.take i)) p.toNat := by
  unfold wEnd
  rw [List.take_add_one, h, List.foldl_append]
  rfl
theorem wEnd_ord {n : Nat} {xs : List Int} (o : IsOrd n xs) : ∀ {ws : List Int}, (∀ p ∈ ws, 0 ≤ p ∧ p + 1 < n) → IsOrd n (wEnd xs ws) := by
  intro ws
  induction ws generalizing xs with
  | nil => intro _; exact o
  | cons p ws ih =>
    intro h
    have hp := h p List.mem_cons_self
    exact ih (sw_ord o (by omega)) fun q hq => h q (List.mem_cons_of_mem _ hq)
theorem nodup_len : ∀ {l m : List Int}, l.Nodup → (∀ x ∈ l, x ∈ m) → l.length ≤ m.length
  | [], m, _, _ => Nat.zero_le _
  | a :: l, m, hn, hs => by
    obtain ⟨h1, h2⟩ := List.nodup_cons.mp hn
    have ha := hs a List.mem_cons_self
    have ih := nodup_len (l := l) (m := m.erase a) h2 fun x hx => by
      have ne : x ≠ a := fun e => h1 (by rw [← e]; exact hx)
      exact (List.mem_erase_of_ne ne).mpr (hs x (List.mem_cons_of_mem _ hx))
    rw [List.length_erase_of_mem ha] at ih
    have : 0 < m.length := List.length_pos_of_mem ha
    rw [List.length_cons]
    omega
theorem int_at {ns : List Int} {i : Nat} {x : Int} (h : ns[i]? = some x) : (ns.map V.int)[i]? = some (V.int x) := by
  rw [List.getElem?_map, h]
  rfl
theorem int_at_inv {ns : List Int} {i : Nat} {v : V} (h : (ns.map V.int)[i]? = some v) : ∃ x, ns[i]? = some x ∧ v = V.int x := by
  rw [List.getElem?_map] at h
  cases e : ns[i]? with
  | none => rw [e] at h; cases h
  | some x => rw [e] at h; exact ⟨x, rfl, (Option.some.inj h).symm⟩
theorem line_small {n : Nat} (h : n ≤ 16777216) : n ≤ sizeLine := by rw [sizeLine_eq]; exact h
theorem line_lt {n : Nat} (h : n < 16777216) : n < sizeLine := by rw [sizeLine_eq]; exact h
/-! ### data of ints -/
theorem dp_ints {K : PySem.W.Frag} {H : Hp} : ∀ ns : List Int, DpAll K H (ns.map V.int) (ns.map PyData.int)
  | [] => .nil
  | n :: r => .cons (.int n) (dp_ints r)
theorem dp_list {K : PySem.W.Frag} {H : Hp} {a : Addr} {ns : List Int} (h : H a = some (.lst (ns.map V.int))) : Dp K H (.ref a) (.list (ns.map PyData.int)) := .lst (SqL.of h) (dp_ints ns)
theorem eqv_int (i j : Int) : PyData.eqv (.int i) (.int j) = (i == j) := rfl
end Fo
namespace Fo
open PySem PySem.Spec PyProof.Rows L2
abbrev dI (ns : List Int) : List PyData := ns.map PyData.int
abbrev dL (ns : List Int) : PyData := .list (dI ns)
abbrev dLL (l : List (List Int)) : PyData := .list (l.map dL)
theorem lay_ints : ∀ ns : List Int, PyData.canLayAll0 (dI ns) = true
  | [] => rfl
  | n :: r => by
    show (PyData.canLay0 (.int n) && PyData.canLayAll0 (dI r)) = true
    rw [lay_ints r]
    rfl
theorem depth_ints : ∀ ns : List Int, PyData.depthAll (dI ns) = 0
  | [] => by simp [PyData.depthAll]
  | n :: r => by
    show PyData.depthAll (.int n :: dI r) = 0
    rw [PyData.depthAll, depth_ints r]
    simp [PyData.depth]
theorem lay_list (ns : List Int) : PyData.canLay0 (dL ns) = true := by
  rw [PyData.canLay0]
  exact lay_ints ns
theorem depth_list (ns : List Int) : PyData.depth (dL ns) = 1 := by
  rw [PyData.depth, depth_ints]
theorem shaped_list (ns : List Int) : SeqAt.shaped (dL ns) = true := by
  unfold SeqAt.shaped
  rw [lay_list, depth_list]
  rfl
theorem lay_lists : ∀ l : List (List Int), PyData.canLayAll0 (l.map dL) = true
  | [] => rfl
  | n :: r => by
    show (PyData.canLay0 (dL n) && PyData.canLayAll0 (r.map dL)) = true
    rw [lay_lists r, lay_list]
    rfl
theorem depth_lists : ∀ l : List (List Int), PyData.depthAll (l.map dL) ≤ 1
  | [] => by simp [PyData.depthAll]
  | n :: r => by
    show PyData.depthAll (dL n :: r.map dL) ≤ 1
    rw [PyData.depthAll, depth_list]
    have := depth_lists r
    omega
theorem shaped_lists (l : List (List Int)) : SeqAt.shaped (dLL l) = true := by
  unfold SeqAt.shaped
  rw [Bool.and_eq_true_iff]
  constructor
  · rw [PyData.canLay0]
    exact lay_lists l
  · apply decide_eq_true
    rw [PyData.depth]
    have := depth_lists l
    omega
theorem eqv_list (ns : List Int) : PyData.eqv (dL ns) (dL ns) = true := SeqAt.eqv_refl _ (lay_list ns)
theorem eqv_lists (l : List (List Int)) : PyData.eqv (dLL l) (dLL l) = true := SeqAt.eqv_refl _ (SeqAt.canLay_of_shaped (shaped_lists l))
theorem eqvAll_ints : ∀ a b : List Int, PyData.eqvAll (dI a) (dI b) = decide (a = b)
  | [], [] => by simp [PyData.eqvAll]
  | [], _ :: _ => by simp [PyData.eqvAll]
  | _ :: _, [] => by simp [PyData.eqvAll]
  | x :: a, y :: b => by
    show PyData.eqvAll (.int x :: dI a) (.int y :: dI b) = _
    rw [PyData.eqvAll, eqvAll_ints a b]
    show ((x == y) && decide (a = b)) = decide (x :: a = y :: b)
    by_cases h : x = y
    · subst h
      simp
    · simp [h]
theorem eqv_ints (a b : List Int) : PyData.eqv (dL a) (dL b) = decide (a = b) := by
  rw [PyData.eqv]
  exact eqvAll_ints a b
end Fo
namespace Fo
open PySem PySem.Spec PyProof.Rows L2
/-! ### slices of ints -/
def cutI (ws : List Int) (lo hi : Option Int) : List Int := (ws.drop (HT.sIx ws.length 0 lo)).take (HT.sIx ws.length ws.length hi - HT.sIx ws.length 0 lo)
theorem cut_ints (ws : List Int) (lo hi : Option Int) : cutV (ws.map V.int) lo hi = (cutI ws lo hi).map V.int := by
  unfold cutV cutI
  rw [List.length_map, List.map_take, List.map_drop]
theorem cutI_mem {ws : List Int} {lo hi : Option Int} {x : Int} (h : x ∈ cutI ws lo hi) : x ∈ ws := List.mem_of_mem_drop (List.mem_of_mem_take h)
theorem cutI_len (ws : List Int) (lo hi : Option Int) : (cutI ws lo hi).length ≤ ws.length := by
  unfold cutI
  rw [List.length_take, List.length_drop]
  omega
theorem cutI_head (ws : List Int) (k : Nat) : cutI ws none (some (k : Int)) = ws.take k := by
  unfold cutI
  rw [HT.sIx_none, HT.sIx_nat, List.drop_zero, Nat.sub_zero]
  by_cases h : k ≤ ws.length
  · rw [Nat.min_eq_left h]
  · rw [Nat.min_eq_right (by omega), List.take_length, List.take_of_length_le (by omega)]
theorem cutI_tail (ws : List Int) (k : Nat) : cutI ws (some (k : Int)) none = ws.drop k := by
  unfold cutI
  rw [HT.sIx_none, HT.sIx_nat]
  by_cases h : k ≤ ws.length
  · rw [Nat.min_eq_left h, List.take_of_length_le (by rw [List.length_drop]; exact Nat.le_refl _)]
  · rw [Nat.min_eq_right (by omega), List.drop_of_length_le (Nat.le_refl _), List.drop_of_length_le (by omega), List.take_nil]
end Fo
namespace Fo
open PySem PySem.Spec PyProof.Rows L2
/-! ### the text -/
def topS (i : Nat) : Stmt := PySem.Challenge.pw_farorders_k80_whole_one_writing_each.main.body.getD i (.Pass ⟨0, 0, 0, 0⟩)
abbrev s_OrderError : Stmt := topS 1
abbrev s_NoOrder : Stmt := topS 2
abbrev s_NoFit : Stmt := topS 3
abbrev s_NoText : Stmt := topS 4
abbrev s_is_whole : Stmt := topS 6
abbrev s_is_order : Stmt := topS 9
abbrev s_check_order : Stmt := topS 10
abbrev s_check_orders : Stmt := topS 11
abbrev s_check_fit : Stmt := topS 12
abbrev s_is_order_list : Stmt := topS 13
abbrev s_back_of : Stmt := topS 14
abbrev s_places_in : Stmt := topS 15
abbrev s_order_behind : Stmt := topS 16
abbrev s_show_order : Stmt := topS 19
abbrev s_written : Stmt := topS 20
abbrev s_show_orders : Stmt := topS 21
abbrev s_read_order : Stmt := topS 22
abbrev s_check_text : Stmt := topS 23
abbrev s_number_in : Stmt := topS 24
abbrev s_read_orders : Stmt := topS 25
abbrev s_law_pool : Stmt := topS 27
abbrev s_law_draw : Stmt := topS 28
abbrev s_law_order : Stmt := topS 29
abbrev s_law_near : Stmt := topS 30
abbrev s_law_otherwise : Stmt := topS 31
abbrev s_law : Stmt := topS 32
/-- a def of the text, where it stands -/
structure Df (K : PySem.W.Frag) (mg : Str → Option Value) (x : Str) (st : Stmt) (ps : List Str) (f : Addr) (fd : FuncData) : Prop where
  F : Fun K x x st f fd
  b : Binds K fd ps []
  g : mg x = some (.ref f)
/-- the built-in names as they were -/
structure Bi (mg : Str → Option Value) : Prop where
  all : mg "all" = none
  bool : mg "bool" = none
  enumerate : mg "enumerate" = none
  int : mg "int" = none
  isinstance : mg "isinstance" = none
  len : mg "len" = none
  list : mg "list" = none
  max : mg "max" = none
  min : mg "min" = none
  range : mg "range" = none
  sorted : mg "sorted" = none
  str : mg "str" = none
  zip : mg "zip" = none
end Fo
namespace Fo
open PySem PySem.Spec PyProof.Rows L2
theorem same_new {H : Hp} {p : Addr} {o : HO} (h : H p = none) : Same H (upd H p o) := fun b x e => by
  rw [upd_ne (ne_of_none e h)]
  exact e
theorem at2_0 {x y : V} : atI [x, y] 0 = some x := rfl
theorem at2_1 {x y : V} : atI [x, y] 1 = some y := rfl
end Fo
namespace Fo
open PySem PySem.Spec PyProof.Rows L2
theorem pop_perm : ∀ {xs : List Int} {k : Nat} {y : Int}, xs[k]? = some y → (y :: xs.eraseIdx k).Perm xs
  | [], k, y, h => by simp at h
  | a :: r, 0, y, h => by
    have e : a = y := Option.some.inj h
    subst e
    exact List.Perm.refl _
  | a :: r, k + 1, y, h => by
    have ih := pop_perm (xs := r) (k := k) (y := y) h
    show (y :: a :: r.eraseIdx k).Perm (a :: r)
    exact (List.Perm.swap a y _).trans (List.Perm.cons a ih)
theorem map_erase : ∀ (xs : List Int) (k : Nat), (xs.map V.int).eraseIdx k = (xs.eraseIdx k).map V.int
  | [], k => rfl
  | a :: r, 0 => rfl
  | a :: r, k + 1 => congrArg (V.int a :: ·) (map_erase r k)
/-- what len asks of a list or a tuple -/
abbrev rLenS (K : PySem.W.Frag) : List V → Hp → VK → Prop := fun xs H Q => ∃ p ys, xs = [.ref p] ∧ (SqL K H p ys ∨ SqT K H p ys) ∧ Q (.int ys.length) H
theorem seq_ix {i : Int} {k n : Nat} (e : i = (k : Int)) (h : k < n) : seqIndex? i n = some k := by
  subst e
  unfold seqIndex?
  have h1 : ¬ ((k : Int) < 0) := by omega
  simp only [h1, if_false]
  have h2 : (decide ((0 : Int) ≤ (k : Int)) && decide ((k : Int) < (n : Int))) = true := by
    simp
    omega
  rw [if_pos h2, Int.toNat_natCast]
theorem ix_n {i : Int} {k n : Nat} (e : i = (k : Int)) (h : k < n) : ixN n i = some k := by
  subst e
  unfold ixN
  rw [if_pos (by omega), if_pos (by omega), Int.toNat_natCast]
end Fo
namespace Fo
open PySem PySem.Spec PyProof.Rows L2
abbrev rMax2 : List V → Hp → VK → Prop := fun xs H Q => ∃ i j, xs = [.int i, .int j] ∧ Q (.int (if j > i then j else i)) H
abbrev rMin2 : List V → Hp → VK → Prop := fun xs H Q => ∃ i j, xs = [.int i, .int j] ∧ Q (.int (if j < i then j else i)) H
abbrev rInt1 : List V → Hp → VK → Prop := fun xs H Q => (∃ i, xs = [.int i] ∧ Q (.int i) H) ∨ ∃ k, xs = [.bl k] ∧ Q (.int (if k then 1 else 0)) H
theorem filter_more {l : List Int} {m : Nat} {x : Int} (p : Int → Bool) (h : l[m]? = some x) : (l.take (m + 1)).filter p = (l.take m).filter p ++ (if p x then [x] else []) := by
  rw [List.take_add_one, h, List.filter_append]
  show _ ++ List.filter p [x] = _
  rw [List.filter_cons]
  rfl
end Fo
namespace Fo
open PySem PySem.Spec PyProof.Rows L2
def KeepD (d : Addr) (H H' : Hp) : Prop := ∀ b o, H b = some o → b ≠ d → H' b = some o
theorem KeepD.refl (d : Addr) (H : Hp) : KeepD d H H := fun _ _ e _ => e
theorem KeepD.trans {d : Addr} {H H1 H2 : Hp} (a : KeepD d H H1) (b : KeepD d H1 H2) : KeepD d H H2 := fun c o e f => b c o (a c o e f) f
theorem KeepD.of_same {d : Addr} {H H' : Hp} (h : Same H H') : KeepD d H H' := fun b o e _ => h b o e
theorem KeepD.new {d : Addr} {H : Hp} {p : Addr} {o : HO} (e : H p = none) : KeepD d H (upd H p o) := KeepD.of_same (same_new e)
theorem KeepD.none {d : Addr} {H H1 : Hp} (k : KeepD d H H1) {p : Addr} (np : H1 p = none) (nf : p ≠ d) : H p = none := by
  cases e : H p with
  | none => rfl
  | some o =>
    have z := k p o e nf
    rw [np] at z
    cases z
theorem mod_b (x : Int) {m : Int} (h : 0 < m) : 0 ≤ x % m ∧ x % m < m := ⟨Int.emod_nonneg x (by omega), Int.emod_lt_of_pos x h⟩
theorem ins_perm (xs : List Int) (k : Nat) (y : Int) : (xs.take k ++ [y] ++ xs.drop k).Perm (y :: xs) := by
  rw [List.append_assoc]
  have h1 : (xs.take k ++ ([y] ++ xs.drop k)).Perm ([y] ++ (xs.take k ++ xs.drop k)) := by
    rw [← List.append_assoc, ← List.append_assoc]
    exact List.Perm.append_right _ List.perm_append_comm
  rw [List.take_append_drop] at h1
  exact h1
theorem set2_perm {xs : List Int} {p q : Nat} {a b : Int} (ha : xs[p]? = some a) (hb : xs[q]? = some b) : ((xs.set p b).set q a).Perm xs := by
  obtain ⟨h1, e1⟩ := List.getElem?_eq_some_iff.mp ha
  obtain ⟨h2, e2⟩ := List.getElem?_eq_some_iff.mp hb
  rw [← e1, ← e2]
  exact List.set_set_perm h1 h2
theorem set2_V (xs : List Int) (p q : Nat) (a b : Int) : ((xs.map V.int).set p (V.int b)).set q (V.int a) = ((xs.set p b).set q a).map V.int := by
  rw [List.map_set, List.map_set]
end Fo
namespace Fo
open PySem PySem.Spec PyProof.Rows L2
/-! ### a pool: three numbers, of which others are drawn -/
def PoolAt (H : Hp) (d : Addr) : Prop := ∃ a b s : Int, H d = some (.lst [.int a, .int b, .int s])
theorem PoolAt.same {H H' : Hp} {d : Addr} (h : PoolAt H d) (s : Same H H') : PoolAt H' d := by
  obtain ⟨a, b, t, e⟩ := h
  exact ⟨a, b, t, s _ _ e⟩
theorem PoolAt.ne {H : Hp} {d : Addr} (h : PoolAt H d) {p : Addr} (e : H p = none) : p ≠ d := by
  obtain ⟨a, b, t, e1⟩ := h
  exact (ne_of_none e1 e).symm
theorem PoolAt.upd {H : Hp} {d : Addr} (h : PoolAt H d) {p : Addr} {o : HO} (n1 : p ≠ d) : PoolAt (upd H p o) d := by
  obtain ⟨a, b, t, e⟩ := h
  exact ⟨a, b, t, by rw [upd_ne n1.symm]; exact e⟩
theorem PoolAt.new {H : Hp} {d : Addr} (h : PoolAt H d) {p : Addr} {o : HO} (e : H p = none) : PoolAt (L2.upd H p o) d := h.upd (h.ne e)
def spPool (K : PySem.W.Frag) : Sp := fun vs H Q _ => ∃ (a : Addr) (ns : List Int) (k : Nat), vs = [.ref a, .int k] ∧ SqL K H a (ns.map V.int) ∧ ∀ (d : Addr) (H' : Hp), H d = none → PoolAt H' d → Same H H' → Q (.ref d) H'
def spDrawP : Sp := fun vs H Q _ => ∃ (d : Addr) (many : Int), vs = [.ref d, .int many] ∧ PoolAt H d ∧ 0 < many ∧ many < 1073741824 ∧ ∀ (v : Int) (H' : Hp), 0 ≤ v → v < many → PoolAt H' d → KeepD d H H' → Q (.int v) H'
def spOrderP : Sp := fun vs H Q _ => ∃ (d : Addr) (n : Nat), vs = [.ref d, .int n] ∧ PoolAt H d ∧ n ≤ 12 ∧
  ∀ (ns : List Int) (l : Addr) (H' : Hp), IsOrd n ns → H l = none → H' l = some (.lst (ns.map V.int)) → l ≠ d → PoolAt H' d → KeepD d H H' → Q (.ref l) H'
def spNearP : Sp := fun vs H Q _ => ∃ (d o : Addr) (n : Nat) (ns : List Int), vs = [.ref d, .ref o] ∧ PoolAt H d ∧ H o = some (.lst (ns.map V.int)) ∧ IsOrd n ns ∧ 1 ≤ n ∧ n ≤ 12 ∧
  ∀ (ms : List Int) (l : Addr) (H' : Hp), IsOrd n ms → H l = none → H' l = some (.lst (ms.map V.int)) → l ≠ d → PoolAt H' d → KeepD d H H' → Q (.ref l) H'
theorem at3_0 {x y z : V} : atI [x, y, z] 0 = some x := rfl
theorem at3_1 {x y z : V} : atI [x, y, z] 1 = some y := rfl
theorem at3_2 {x y z : V} : atI [x, y, z] 2 = some z := rfl
section
variable {P : Program} {w : World} {K : PySem.W.Frag} {mg : Str → Option Value} {base : Heap}
theorem scDrawP : FnScope ["pool", "many", "found", "x"] ["pool", "many"] (defScope s_law_draw) := ⟨rfl, rfl, rfl, by decide +kernel, rfl, by decide +kernel, by decide +kernel⟩
set_option maxHeartbeats 1000000 in
theorem ok_drawP {f : Addr} {fd : FuncData} {k : Nat} (T : Df K mg "_law_draw" s_law_draw ["pool", "many"] f fd) (B : Bi mg) : FnOk P w K mg base CX0 (k + 1) f fd ["pool", "many"] spDrawP := by
  refine T.F.ok scDrawP (fun vs H Q E h => ?_) (fun cdv A outer s H vs Q E hr h => ?_)
  · obtain ⟨d, m, rfl, _⟩ := h
    rfl
  · obtain ⟨d, m, rfl, ⟨a, b, st, hd⟩, hm, hm2, q⟩ := h
    refine ⟨_, 
      (pss_cons (ps_if (pt_cmpR op_eq (pe_ix ix_list (pv 0) pe_int (fun _ _ => rfl)) pe_int (nomark _))
        (pss_cons (ps_set (i := 2) scDrawP.nd rfl (.inl rfl) (pe_op op_mod (pe_ix ix_list (pv 0) pe_int (fun _ _ => rfl)) (pv 1)))
        (pss_cons (ps_asg (pe_op op_fdiv (pe_ix ix_list (pv 0) pe_int (fun _ _ => rfl)) (pv 1)) (pg_sub (pv 0) pe_int set_list))
        (pss_one (ps_ret (pv 2)))))
        pss_nil)
      (pss_cons (ps_asg (pe_op op_add (pe_ix ix_list (pv 0) pe_int (fun _ _ => rfl)) pe_int) (pg_sub (pv 0) pe_int set_list))
      (Evl.pss_cut (ps_set (i := 3) scDrawP.nd rfl (.inl rfl) (pe_op op_mod (pe_op op_add (pe_op op_mod (pe_ix ix_list (pv 0) pe_int (fun _ _ => rfl)) pe_int) (pe_op op_mul pe_int (pe_ix ix_list (pv 0) pe_int (fun _ _ => rfl)))) pe_int))
      (Evl.pss_cut (ps_set (i := 3) scDrawP.nd rfl (.inl rfl) (pe_op op_mod (pe_op op_mul (pv 3) (pv 3)) pe_int))
      (Evl.pss_cut (ps_set (i := 3) scDrawP.nd rfl (.inl rfl) (pe_op op_mod (pe_op op_mul (pe_op op_add (pv 3) pe_int) (pv 3)) pe_int))
      (pss_one (ps_ret (pe_op op_mod (pe_op op_fdiv (pv 3) pe_int) (pv 1))))))))), ?_⟩
    refine ⟨_, rfl, d, _, 1, _, rfl, rfl, SqL.of hd, at3_1, rfl, _, rfl, ite2 (fun _ => ?_) (fun _ => ?_)⟩
    · refine ⟨_, rfl, d, _, 0, _, rfl, rfl, SqL.of hd, at3_0, _, rfl, a, m, rfl, rfl, hm, ?_⟩
      refine ⟨_, rfl, d, _, 0, _, rfl, rfl, SqL.of hd, at3_0, _, rfl, a, m, rfl, rfl, ⟨hm, hm2⟩, _, rfl, d, _, 0, 0, rfl, rfl, hd, rfl, ?_⟩
      obtain ⟨c1, c2⟩ := mod_b a hm
      exact ⟨_, rfl, q _ _ c1 c2 ⟨a / m, b, st, upd_same⟩ fun b o e nb => by rw [upd_ne nb]; exact e⟩
    · refine ⟨_, rfl, d, _, 2, _, rfl, rfl, SqL.of hd, at3_2, st, 1, rfl, rfl, _, rfl, d, _, 2, 2, rfl, rfl, hd, rfl, ?_⟩
      have hd1 : (upd H d (.lst (([.int a, .int b, .int st] : List V).set 2 (.int (st + 1))))) d = some (.lst [.int a, .int b, .int (st + 1)]) := upd_same
      have kp : KeepD d H (upd H d (.lst (([.int a, .int b, .int st] : List V).set 2 (.int (st + 1))))) := fun b o e nb => by rw [upd_ne nb]; exact e
      refine ⟨fun τ G => ∃ x : Int, 0 ≤ x ∧ x < 999999999989 ∧ τ = [some (.ref d), some (.int m), none, some (.int x)] ∧ G = upd H d (.lst (([.int a, .int b, .int st] : List V).set 2 (.int (st + 1)))), ?_, fun τ G hM => ?_⟩
      · have z := mod_b (a % 999999999989 + 440023 * (st + 1)) (m := 999999999989) (by decide)
        exact ⟨_, rfl, d, _, 0, _, rfl, rfl, SqL.of hd1, at3_0, _, 999999999989, rfl, rfl, (show (0 : Int) < 999999999989 by decide), _, rfl, d, _, 2, _, rfl, rfl, SqL.of hd1, at3_2, 440023, _, rfl, rfl, .inl ⟨by decide, by decide⟩, _, _, rfl, rfl, _, 999999999989, rfl, rfl, (show (0 : Int) < 999999999989 by decide), _, z.1, z.2, rfl, rfl⟩
      obtain ⟨x, x0, x1, rfl, e1⟩ := hM
      subst e1
      generalize upd H d (.lst (([.int a, .int b, .int st] : List V).set 2 (.int (st + 1)))) = G at hd1 kp ⊢
      refine ⟨fun τ G' => ∃ y : Int, 0 ≤ y ∧ y < 1000000000039 ∧ τ = [some (.ref d), some (.int m), none, some (.int y)] ∧ G' = G, ?_, fun τ G' hM => ?_⟩
      · exact ⟨_, rfl, _, rfl, x, x, rfl, rfl, .inl ⟨by omega, by omega⟩, _, 1000000000039, rfl, rfl, (show (0 : Int) < 1000000000039 by decide), _, (mod_b _ (by decide)).1, (mod_b _ (by decide)).2, rfl, rfl⟩
      obtain ⟨y, y0, y1, rfl, e1⟩ := hM
      subst e1
      refine ⟨fun τ G'' => ∃ z : Int, 0 ≤ z ∧ z < 999999999961 ∧ τ = [some (.ref d), some (.int m), none, some (.int z)] ∧ G'' = G', ?_, fun τ G'' hM => ?_⟩
      · exact ⟨_, rfl, y, 710009, rfl, rfl, _, rfl, _, y, rfl, rfl, .inr ⟨by omega, by omega⟩, _, 999999999961, rfl, rfl, (show (0 : Int) < 999999999961 by decide), _, (mod_b _ (by decide)).1, (mod_b _ (by decide)).2, rfl, rfl⟩
      obtain ⟨z, z0, z1, rfl, e1⟩ := hM
      subst e1
      obtain ⟨c1, c2⟩ := mod_b (z / 7) hm
      exact ⟨_, rfl, _, 7, rfl, rfl, ⟨by decide, by decide⟩, _, rfl, _, m, rfl, rfl, hm, q _ _ c1 c2 ⟨a, b, st + 1, hd1⟩ kp⟩
theorem scPool : FnScope ["script", "k", "cell"] ["script", "k"] (defScope s_law_pool) := ⟨rfl, rfl, rfl, by decide +kernel, rfl, by decide +kernel, by decide +kernel⟩
theorem ok_pool {f : Addr} {fd : FuncData} {k : Nat} (T : Df K mg "_law_pool" s_law_pool ["script", "k"] f fd) (B : Bi mg) : FnOk P w K mg base CX0 (k + 1) f fd ["script", "k"] (spPool K) := by
  refine T.F.ok scPool (fun vs H Q E h => ?_) (fun cdv A outer s H vs Q E hr h => ?_)
  · obtain ⟨a, ns, k, rfl, _⟩ := h
    rfl
  · obtain ⟨a, ns, k, rfl, hS, q⟩ := h
    refine ⟨_, 
      (pss_cons (ps_set (i := 2) scPool.nd rfl (.inl rfl) pe_int)
      (Evl.pss_cut (ps_if (pt_cmpR op_lt (pv 1) (pe_callB call_len_seq (by rfl) B.len PySem.boot_len (pa_cons (pv 0) pa_nil)) (nomark _))
        (pss_one (ps_set (i := 2) scPool.nd rfl (.inl rfl) (pe_ix ix_list (pv 0) (pv 1) (fun _ _ => rfl))))
        pss_nil)
      (pss_one (ps_ret (pe_lst (pa_cons (pv 2) (pa_cons (pe_callTy call_int1 (by rfl) B.int (by decide +kernel) (pa_cons (pe_cmpR op_ge (pv 2) (pe_op op_pow pe_int pe_int) (nomark _)) pa_nil)) (pa_cons (pe_op op_mul pe_int (pv 1)) pa_nil)))))))), ?_⟩
    refine ⟨fun τ G => ∃ x : Int, τ = [some (.ref a), some (.int k), some (.int x)] ∧ G = H, ?_, fun τ G hM => ?_⟩
    · refine ⟨_, rfl, _, rfl, a, _, rfl, .inl hS, (k : Int), _, rfl, rfl, _, rfl, ite2 (fun c => ?_) (fun _ => ⟨0, rfl, rfl⟩)⟩
      have hl : (k : Int) < (((ns.map V.int).length : Nat) : Int) := of_decide_eq_true c
      rw [List.length_map] at hl
      exact ⟨_, rfl, _, rfl, a, _, _, _, rfl, rfl, hS, at_of (j := k) rfl (int_at (List.getElem?_eq_getElem (show k < ns.length by omega))), _, rfl, rfl⟩
    obtain ⟨x, rfl, rfl⟩ := hM
    refine ⟨_, rfl, _, rfl, 10, 18, rfl, rfl, ⟨by decide, by decide, by decide⟩, x, _, rfl, rfl, .inr ⟨_, rfl, _, rfl, 37, (k : Int), rfl, rfl, .inl ⟨by decide, by decide⟩, line_small (by show 3 ≤ 16777216; decide), fun d nd => ?_⟩⟩
    exact q d _ nd ⟨_, _, _, upd_same⟩ (same_new nd)
theorem scOrderP : FnScope ["pool", "n", "left", "k"] ["pool", "n"] (defScope s_law_order) := ⟨rfl, rfl, rfl, by decide +kernel, rfl, by decide +kernel, by decide +kernel⟩
set_option maxHeartbeats 4000000 in
theorem ok_ordP {f fD : Addr} {fd fdD : FuncData} {k : Nat} (T : Df K mg "_law_order" s_law_order ["pool", "n"] f fd) (T__law_draw : Df K mg "_law_draw" s_law_draw ["pool", "many"] fD fdD) (G__law_draw : FnOk P w K mg base CX0 k fD fdD ["pool", "many"] spDrawP) (B : Bi mg) : FnOk P w K mg base CX0 (k + 1) f fd ["pool", "n"] spOrderP := by
  refine T.F.ok scOrderP (fun vs H Q E h => ?_) (fun cdv A outer s H vs Q E hr h => ?_)
  · obtain ⟨D, n, rfl, _⟩ := h
    rfl
  · obtain ⟨d, n, rfl, hD, hn2, q⟩ := h
    refine ⟨_, 
      (pss_cons (ps_set (i := 2) scOrderP.nd rfl (.inr rfl) (pe_listRg rfl (by rfl) B.list (prg_1 (by rfl) B.range (pv 1))))
      (pss_one (ps_ret (pe_lc (own := [("k", 3)]) (g := (gName 3)) (tt := tYes) (te := (tBM K "list" rPopAt (tVar 2) (tCons (tCall spDrawP [] E0 (tCons (tVar 0) (tCons (tCB (rLenS K) (tCons (tVar 2) tNil)) tNil))) tNil))) rfl scOrderP.nd (pi_range1 (by rfl) B.range (pa_cons (pv 1) pa_nil)) (blkOk_by (N := ["pool", "n", "left", "k"]) (sc := defScope s_law_order) (by decide +kernel)) (fun _ _ _ _ _ => (pg_name (i := 3) scOrderP.nd rfl (.inl rfl))) (fun _ _ _ _ _ => pts_nil) (fun _ _ _ _ _ => (pe_bm PySem.F.plainAttrs_list PySem.F.slot_list_pop PySem.F.type_list_pop mt_popAt (pv 2) (pa_cons (pe_call G__law_draw hr (by rfl) T__law_draw.g T__law_draw.F.kp T__law_draw.b .nil pass0 (pa_cons (pv 0) (pa_cons (pe_callB call_len_seq (by rfl) B.len PySem.boot_len (pa_cons (pv 2) pa_nil)) pa_nil))) pa_nil))))))), ?_⟩
    refine ⟨_, rfl, n, rfl, RgOk.of_le (by omega) (by omega) (by omega) (by omega), fun l nl => ?_⟩
    have hl0 : (upd H l (.lst (rgV 0 (n : Int)))) l = some (.lst ((rg n).map V.int)) := by rw [upd_same, rg_V]
    have D0 := hD.new (o := .lst (rgV 0 (n : Int))) nl
    have nf := hD.ne nl
    have k0 : KeepD d H (upd H l (.lst (rgV 0 (n : Int)))) := KeepD.new nl
    refine ⟨_, rfl, n, rfl, by omega, by omega, ?_⟩
    rw [Int.toNat_natCast]
    intro p np
    have npf := D0.ne np
    have lp : l ≠ p := ne_of_none hl0 np
    refine lc_range (lo := 0) (n := n) (fun i H3 => ∃ (rest acc : List Int), (acc ++ rest).Perm (rg n) ∧ acc.length = i ∧ H3 l = some (.lst (rest.map V.int)) ∧ H3 p = some (.lst (acc.map V.int)) ∧ PoolAt H3 d ∧ ∀ b o, H b = some o → b ≠ d → H3 b = some o)
      ⟨rg n, [], List.Perm.refl _, rfl, by rw [upd_ne lp]; exact hl0, upd_same, D0.new np, fun b o e f => by rw [upd_ne (ne_of_none (k0 b o e f) np)]; exact k0 b o e f⟩ (fun i H3 hi hP => ?_) (fun H3 hP => ?_)
    · obtain ⟨rest, acc, hperm, el, hl3, hp3, D3, kp3⟩ := hP
      have hlen : rest.length = n - i := by
        have := List.Perm.length_eq hperm
        rw [List.length_append, rg_len] at this
        omega
      have hlm : (rest.map V.int).length = rest.length := List.length_map _
      refine ⟨rfl, ?_⟩
      refine ⟨_, rfl, .inl ⟨rfl, _, SqL.of hl3⟩, _, rfl, _, rfl, l, _, rfl, .inl (SqL.of hl3), d, _, rfl, D3, by rw [hlm]; omega, by rw [hlm]; omega, fun v H4 v0 v1 D4 k4 => ?_⟩
      have hl4 := k4 l _ hl3 nf
      have hp4 := k4 p _ hp3 npf
      rw [hlm] at v1
      obtain ⟨j, ej⟩ : ∃ j : Nat, v = (j : Int) := ⟨v.toNat, by omega⟩
      subst ej
      obtain ⟨y, ey⟩ : ∃ y, rest[j]? = some y := ⟨rest[j]'(by omega), List.getElem?_eq_getElem (by omega)⟩
      refine ⟨l, _, _, j, _, rfl, rfl, hl4, by omega, by omega, seq_ix rfl (by rw [hlm]; omega), int_at ey, ?_⟩
      refine ⟨acc.map V.int, by rw [upd_ne lp.symm]; exact hp4, line_lt (by rw [List.length_map]; omega), rest.eraseIdx j, acc ++ [y], ?_, by rw [List.length_append, el]; rfl, ?_, by rw [upd_same, List.map_append]; rfl, ?_, fun b o e f => ?_⟩
      · rw [List.append_assoc]
        exact (List.Perm.append_left acc (pop_perm ey)).trans hperm
      · rw [upd_ne lp, upd_same, map_erase]
      · exact (D4.upd nf).upd npf
      · have e4 := k4 b o (kp3 b o e f) f
        have nbl : b ≠ l := ne_of_none e nl
        have nbp : b ≠ p := ne_of_none (k0 b o e f) np
        rw [upd_ne nbp, upd_ne nbl]
        exact e4
    · obtain ⟨rest, acc, hperm, el, hl3, hp3, D3, kp3⟩ := hP
      have hr0 : rest = [] := by
        have := List.Perm.length_eq hperm
        rw [List.length_append, rg_len] at this
        exact List.eq_nil_of_length_eq_zero (by omega)
      subst hr0
      rw [List.append_nil] at hperm
      exact q acc p H3 hperm (k0.none np npf) hp3 npf D3 kp3
theorem scNearP : FnScope ["pool", "order", "found", "turn", "p", "q"] ["pool", "order"] (defScope s_law_near) := ⟨rfl, rfl, rfl, by decide +kernel, rfl, by decide +kernel, by decide +kernel⟩
set_option maxHeartbeats 4000000 in
theorem ok_nearP {f fD : Addr} {fd fdD : FuncData} {k : Nat} (T : Df K mg "_law_near" s_law_near ["pool", "order"] f fd) (T__law_draw : Df K mg "_law_draw" s_law_draw ["pool", "many"] fD fdD) (G__law_draw : FnOk P w K mg base CX0 k fD fdD ["pool", "many"] spDrawP) (B : Bi mg) : FnOk P w K mg base CX0 (k + 1) f fd ["pool", "order"] spNearP := by
  refine T.F.ok scNearP (fun vs H Q E h => ?_) (fun cdv A outer s H vs Q E hr h => ?_)
  · obtain ⟨D, o, n, ns, rfl, _⟩ := h
    rfl
  · obtain ⟨d, o, n, ns, rfl, hD, h0, ho, hn1, hn2, q⟩ := h
    refine ⟨_, 
      (pss_cons (ps_set (i := 2) scNearP.nd rfl (.inl rfl) (pe_callTy call_list_of (by rfl) B.list (by decide +kernel) (pa_cons (pv 1) pa_nil)))
      (pss_cons (ps_for PassesOwn.never rfl (pi_range1 (by rfl) B.range (pa_cons (pe_ix ix_list (pe_lst (pa_cons pe_int (pa_cons pe_int (pa_cons pe_int (pa_cons pe_int (pa_cons pe_int pa_nil)))))) (pe_call G__law_draw hr (by rfl) T__law_draw.g T__law_draw.F.kp T__law_draw.b .nil pass0 (pa_cons (pv 0) (pa_cons pe_int pa_nil))) (fun _ _ => rfl)) pa_nil)) (pg_name (i := 3) scNearP.nd rfl (.inl rfl))
        (pss_cons (ps_set (i := 4) scNearP.nd rfl (.inl rfl) (pe_call G__law_draw hr (by rfl) T__law_draw.g T__law_draw.F.kp T__law_draw.b .nil pass0 (pa_cons (pv 0) (pa_cons (pe_callB call_len_seq (by rfl) B.len PySem.boot_len (pa_cons (pv 2) pa_nil)) pa_nil))))
        (pss_cons (ps_set (i := 5) scNearP.nd rfl (.inl rfl) (pe_ix ix_list (pe_lst (pa_cons (pe_op op_mod (pe_op op_add (pv 4) pe_int) (pe_callB call_len_seq (by rfl) B.len PySem.boot_len (pa_cons (pv 2) pa_nil))) (pa_cons (pe_call G__law_draw hr (by rfl) T__law_draw.g T__law_draw.F.kp T__law_draw.b .nil pass0 (pa_cons (pv 0) (pa_cons (pe_callB call_len_seq (by rfl) B.len PySem.boot_len (pa_cons (pv 2) pa_nil)) pa_nil))) pa_nil))) (pe_call G__law_draw hr (by rfl) T__law_draw.g T__law_draw.F.kp T__law_draw.b .nil pass0 (pa_cons (pv 0) (pa_cons pe_int pa_nil))) (fun _ _ => rfl)))
        (pss_one (ps_asg (pe_tup (pa_cons (pe_ix ix_list (pv 2) (pv 5) (fun _ _ => rfl)) (pa_cons (pe_ix ix_list (pv 2) (pv 4) (fun _ _ => rfl)) pa_nil))) (pg_tup (by rfl) (pgs_cons (pg_sub (pv 2) (pv 4) set_list) (pgs_cons (pg_sub (pv 2) (pv 5) set_list) pgs_nil))))))))
      (pss_one (ps_ret (pv 2))))), ?_⟩
    refine ⟨_, rfl, o, _, rfl, .inl (SqL.of h0), fun l nl => ?_⟩
    have s0 := same_new (o := .lst (ns.map V.int)) nl
    have D0 := hD.new (o := .lst (ns.map V.int)) nl
    have nf := hD.ne nl
    refine ⟨line_small (by show 5 ≤ 16777216; decide), fun t nt => ?_⟩
    have D1 := D0.new (o := .lst [.int 0, .int 0, .int 1, .int 2, .int 3]) nt
    have ntd := D0.ne nt
    have hl1 := same_new (o := .lst [.int 0, .int 0, .int 1, .int 2, .int 3]) nt _ _ (upd_same (H := H) (a := l) (o := .lst (ns.map V.int)))
    have s1 := s0.trans (same_new (o := .lst [.int 0, .int 0, .int 1, .int 2, .int 3]) nt)
    refine ⟨_, rfl, d, 5, rfl, D1, by decide, by decide, fun v H2 v0 v1 D2 k2 => ?_⟩
    have ht2 := k2 t _ upd_same ntd
    have kk2 : KeepD d H H2 := (KeepD.of_same s1).trans k2
    have hl2 := k2 l _ hl1 nf
    obtain ⟨m, em, hm⟩ : ∃ m : Nat, atI [V.int 0, V.int 0, V.int 1, V.int 2, V.int 3] v = some (.int m) ∧ m ≤ 3 := by
      have : v = 0 ∨ v = 1 ∨ v = 2 ∨ v = 3 ∨ v = 4 := by omega
      rcases this with rfl | rfl | rfl | rfl | rfl
      · exact ⟨0, rfl, by decide⟩
      · exact ⟨0, rfl, by decide⟩
      · exact ⟨1, rfl, by decide⟩
      · exact ⟨2, rfl, by decide⟩
      · exact ⟨3, rfl, by decide⟩
    refine ⟨t, _, _, _, rfl, rfl, SqL.of ht2, em, m, rfl, by omega, by omega, ?_⟩
    rw [Int.toNat_natCast]
    refine for_range (n := m) (fun i σ H3 => ∃ (y3 y4 y5 : Option V) (xs : List Int), σ = [some (.ref d), some (.ref o), some (.ref l), y3, y4, y5] ∧ IsOrd n xs ∧ H3 l = some (.lst (xs.map V.int)) ∧ PoolAt H3 d ∧ KeepD d H H3)
      ⟨none, none, none, ns, rfl, ho, hl2, D2, kk2⟩ (fun i σ H3 hi hP => ?_) (fun σ H3 hP => ?_)
    · obtain ⟨y3, y4, y5, xs, rfl, o3, hl3, D3, k3⟩ := hP
      have hxl := o3.len
      have hxm : (xs.map V.int).length = n := by rw [List.length_map]; exact hxl
      refine ⟨_, rfl, _, rfl, l, _, rfl, .inl (SqL.of hl3), d, _, rfl, D3, by rw [hxm]; omega, by rw [hxm]; omega, fun p H4 p0 p1 D4 k4 => ?_⟩
      rw [hxm] at p1
      have hl4 := k4 l _ hl3 nf
      obtain ⟨pn, rfl⟩ : ∃ pn : Nat, p = (pn : Int) := ⟨p.toNat, by omega⟩
      refine ⟨_, rfl, (pn : Int), 1, rfl, rfl, _, rfl, l, _, rfl, .inl (SqL.of hl4), _, _, rfl, rfl, by rw [hxm]; omega, ?_⟩
      refine ⟨_, rfl, _, rfl, l, _, rfl, .inl (SqL.of hl4), d, _, rfl, D4, by rw [hxm]; omega, by rw [hxm]; omega, fun u H5 u0 u1 D5 k5 => ?_⟩
      rw [hxm] at u1
      have hl5 := k5 l _ hl4 nf
      refine ⟨line_small (by show 2 ≤ 16777216; decide), fun t2 nt2 => ?_⟩
      have s6 := same_new (o := .lst [.int (((pn : Int) + 1) % (((xs.map V.int).length : Nat) : Int)), .int u]) nt2
      have hl6 := s6 _ _ hl5
      have nt2d := D5.ne nt2
      refine ⟨_, rfl, d, 2, rfl, D5.new nt2, by decide, by decide, fun c H6 c0 c1 D6 k6 => ?_⟩
      have ht6 := k6 t2 _ upd_same nt2d
      have hl7 := k6 l _ hl6 nf
      have kk6 : KeepD d H H6 := (((k3.trans k4).trans k5).trans (KeepD.of_same s6)).trans k6
      obtain ⟨z, ez, hz⟩ : ∃ z : Nat, atI [V.int (((pn : Int) + 1) % (((xs.map V.int).length : Nat) : Int)), V.int u] c = some (.int z) ∧ z < n := by
        have : c = 0 ∨ c = 1 := by omega
        rcases this with rfl | rfl
        · have h1 := mod_b ((pn : Int) + 1) (m := (((xs.map V.int).length : Nat) : Int)) (by rw [hxm]; omega)
          refine ⟨(((pn : Int) + 1) % (((xs.map V.int).length : Nat) : Int)).toNat, ?_, by rw [hxm] at h1 ⊢; omega⟩
          rw [Int.toNat_of_nonneg h1.1]
          rfl
        · refine ⟨u.toNat, ?_, by omega⟩
          rw [Int.toNat_of_nonneg u0]
          rfl
      refine ⟨t2, _, _, _, rfl, rfl, SqL.of ht6, ez, ?_⟩
      obtain ⟨a, ea⟩ : ∃ a, xs[pn]? = some a := ⟨xs[pn]'(by omega), List.getElem?_eq_getElem (by omega)⟩
      obtain ⟨b, eb⟩ : ∃ b, xs[z]? = some b := ⟨xs[z]'(by omega), List.getElem?_eq_getElem (by omega)⟩
      refine ⟨_, rfl, _, rfl, l, _, _, _, rfl, rfl, SqL.of hl7, at_of (j := z) rfl (int_at eb), _, rfl, _, rfl, l, _, _, _, rfl, rfl, SqL.of hl7, at_of (j := pn) rfl (int_at ea), line_small (by show 2 ≤ 16777216; decide), fun t3 nt3 => ?_⟩
      have hl8 := same_new (o := .tup [.int b, .int a]) nt3 _ _ hl7
      refine ⟨t3, _, rfl, .inl (.inl upd_same), rfl, _, _, rfl, _, rfl, _, rfl, l, _, _, pn, rfl, rfl, hl8, ix_n rfl (by rw [List.length_map]; omega), ?_⟩
      refine ⟨_, _, rfl, _, rfl, _, rfl, l, _, _, z, rfl, rfl, upd_same, ix_n rfl (by rw [List.length_set, List.length_map]; omega), ?_⟩
      refine ⟨rfl, _, _, _, (xs.set pn b).set z a, rfl, (set2_perm ea eb).trans o3, by rw [upd_same, set2_V], ((D6.new nt3).upd nf).upd nf, fun c x e f => ?_⟩
      have nc : c ≠ l := ne_of_none e nl
      rw [upd_ne nc, upd_ne nc]
      exact same_new nt3 _ _ (kk6 c x e f)
    · obtain ⟨y3, y4, y5, xs, rfl, o3, hl3, D3, k3⟩ := hP
      exact ⟨_, rfl, q xs l H3 o3 nl hl3 nf D3 k3⟩
end
end Fo
namespace Fo
open PySem PySem.Spec PyProof.Rows L2 TL
/-! ### writings -/
abbrev decT (i : Int) : Str := Str.ofString (toString i)
def wrT (xs : List Int) : Str := Txt.join " " (xs.map decT)
def wrL (rs : List (List Int)) : Str := if rs = [] then "-" else Txt.join ", " (rs.map wrT)
theorem dec_sign : ∀ k < 12, ∀ c ∈ tl (decT ((k : Nat) : Int)), 48 ≤ c ∧ c ≤ 57 := by decide +kernel
theorem dec_len : ∀ k < 12, (decT ((k : Nat) : Int)).length ≤ 2 := by decide +kernel
theorem dec_inj : ∀ k < 12, ∀ j < 12, decT ((k : Nat) : Int) = decT ((j : Nat) : Int) → k = j := by decide +kernel
theorem mem_joinL {S : List Nat} {c : Nat} : ∀ {ps : List (List Nat)}, c ∈ joinL S ps → c ∈ S ∨ ∃ p ∈ ps, c ∈ p
  | [], h => absurd h List.not_mem_nil
  | [p], h => .inr ⟨p, List.mem_singleton.mpr rfl, h⟩
  | p :: q :: r, h => by
    rcases List.mem_append.mp h with h | h
    · exact .inr ⟨p, List.mem_cons_self, h⟩
    rcases List.mem_append.mp h with h | h
    · exact .inl h
    rcases mem_joinL h with h | ⟨u, hu, h⟩
    · exact .inl h
    · exact .inr ⟨u, List.mem_cons_of_mem _ hu, h⟩
theorem len_joinL {S : List Nat} : ∀ (ps : List (List Nat)), (joinL S ps).length ≤ (ps.map List.length).sum + ps.length * S.length
  | [] => Nat.zero_le _
  | [p] => by
    show p.length ≤ (p.length + 0) + 1 * S.length
    omega
  | p :: q :: r => by
    have ih := len_joinL (S := S) (q :: r)
    show (p ++ (S ++ joinL S (q :: r))).length ≤ (p.length + ((q :: r).map List.length).sum) + ((q :: r).length + 1) * S.length
    rw [List.length_append, List.length_append, Nat.add_mul]
    omega
theorem tl_joinT (y : Str) (ps : List Str) : tl (Txt.join y ps) = joinL (tl y) (ps.map tl) := by rw [join_eq, tl_join]
theorem ord_nat {n : Nat} {xs : List Int} (o : IsOrd n xs) (hn : n ≤ 12) {x : Int} (h : x ∈ xs) : ∃ k : Nat, k < 12 ∧ x = (k : Int) := by
  have := o.mem h
  exact ⟨x.toNat, by omega, by omega⟩
theorem dec_at {n : Nat} {xs : List Int} (o : IsOrd n xs) (hn : n ≤ 12) {s : Str} (h : s ∈ xs.map decT) : ∃ k : Nat, k < 12 ∧ s = decT (k : Int) := by
  obtain ⟨x, hx, rfl⟩ := List.mem_map.mp h
  obtain ⟨k, hk, rfl⟩ := ord_nat o hn hx
  exact ⟨k, hk, rfl⟩
theorem wr_sign {n : Nat} {xs : List Int} (o : IsOrd n xs) (hn : n ≤ 12) {c : Nat} (h : c ∈ tl (wrT xs)) : c = 32 ∨ (48 ≤ c ∧ c ≤ 57) := by
  unfold wrT at h
  rw [tl_joinT] at h
  rcases mem_joinL h with h | ⟨p, hp, h⟩
  · exact .inl (List.mem_singleton.mp h)
  · obtain ⟨s, hs, rfl⟩ := List.mem_map.mp hp
    obtain ⟨k, hk, rfl⟩ := dec_at o hn hs
    exact .inr (dec_sign k hk c h)
theorem sum_le {l : List Nat} {b : Nat} (h : ∀ x ∈ l, x ≤ b) : l.sum ≤ l.length * b := by
  induction l with
  | nil => simp
  | cons a r ih =>
    have h1 := h a List.mem_cons_self
    have h2 := ih fun x hx => h x (List.mem_cons_of_mem _ hx)
    rw [List.sum_cons, List.length_cons, Nat.add_mul]
    omega
theorem dec_sum {n : Nat} {xs : List Int} (o : IsOrd n xs) (hn : n ≤ 12) : ((xs.map decT).map (·.length)).sum ≤ 24 := by
  have := sum_le (l := (xs.map decT).map (·.length)) (b := 2) fun x hx => by
    obtain ⟨s, hs, rfl⟩ := List.mem_map.mp hx
    obtain ⟨k, hk, rfl⟩ := dec_at o hn hs
    exact dec_len k hk
  rw [List.length_map, List.length_map, o.len] at this
  omega
theorem len_tl' (x : Str) : x.length = (tl x).length := by simp [Str.length]
theorem wr_len {n : Nat} {xs : List Int} (o : IsOrd n xs) (hn : n ≤ 12) : (wrT xs).length ≤ 36 := by
  rw [len_tl']
  unfold wrT
  rw [tl_joinT]
  refine Nat.le_trans (len_joinL _) ?_
  have h1 := dec_sum o hn
  have h2 : (((xs.map decT).map tl).map List.length) = (xs.map decT).map (·.length) := by
    rw [List.map_map]
    apply List.map_congr_left
    intro s _
    exact (len_tl' s).symm
  rw [h2, List.length_map, List.length_map, o.len]
  show _ + n * 1 ≤ 36
  omega
theorem wr_sum {n : Nat} {rs : List (List Int)} (o : ∀ r ∈ rs, IsOrd n r) (hn : n ≤ 12) : ((rs.map wrT).map (·.length)).sum ≤ rs.length * 36 := by
  have := sum_le (l := (rs.map wrT).map (·.length)) (b := 36) fun x hx => by
    obtain ⟨s, hs, rfl⟩ := List.mem_map.mp hx
    obtain ⟨r, hr, rfl⟩ := List.mem_map.mp hs
    exact wr_len (o r hr) hn
  rw [List.length_map, List.length_map] at this
  exact this
theorem wrL_len {n : Nat} {rs : List (List Int)} (o : ∀ r ∈ rs, IsOrd n r) (hn : n ≤ 12) : (wrL rs).length ≤ rs.length * 38 + 1 := by
  unfold wrL
  by_cases c : rs = []
  · rw [if_pos c]
    show 1 ≤ _
    omega
  · rw [if_neg c, len_tl', tl_joinT]
    refine Nat.le_trans (len_joinL _) ?_
    have h1 := wr_sum o hn
    have h2 : (((rs.map wrT).map tl).map List.length) = (rs.map wrT).map (·.length) := by
      rw [List.map_map]
      apply List.map_congr_left
      intro s _
      exact (len_tl' s).symm
    rw [h2, List.length_map, List.length_map]
    show _ + rs.length * 2 ≤ _
    omega
theorem split_wr {n : Nat} {xs : List Int} (o : IsOrd n xs) (hn1 : 1 ≤ n) (hn : n ≤ 12) : Txt.split (wrT xs) " " = xs.map decT := by
  refine split_join (y := " ") (s := 32) (S := []) rfl (by decide +kernel) (fun e => ?_) fun p hp hc => ?_
  · have := congrArg List.length e
    rw [List.length_map, o.len] at this
    simp at this
    omega
  · obtain ⟨k, hk, rfl⟩ := dec_at o hn hp
    have := dec_sign k hk 32 hc
    omega
theorem split_wrL {n : Nat} {rs : List (List Int)} (o : ∀ r ∈ rs, IsOrd n r) (hn : n ≤ 12) (hne : rs ≠ []) : Txt.split (wrL rs) ", " = rs.map wrT := by
  unfold wrL
  rw [if_neg hne]
  refine split_join (y := ", ") (s := 44) (S := [32]) rfl (by decide +kernel) (fun e => hne (List.map_eq_nil_iff.mp e)) fun p hp hc => ?_
  obtain ⟨r, hr, rfl⟩ := List.mem_map.mp hp
  have := wr_sign (o r hr) hn hc
  omega
theorem wrL_dash {n : Nat} {rs : List (List Int)} (o : ∀ r ∈ rs, IsOrd n r) (hn : n ≤ 12) (hne : rs ≠ []) : wrL rs ≠ "-" := by
  intro e
  have h : (45 : Nat) ∈ tl (wrL rs) := by
    rw [e]
    decide +kernel
  unfold wrL at h
  rw [if_neg hne, tl_joinT] at h
  rcases mem_joinL h with h | ⟨p, hp, h⟩
  · exact absurd h (by decide +kernel)
  · obtain ⟨s, hs, rfl⟩ := List.mem_map.mp hp
    obtain ⟨r, hr, rfl⟩ := List.mem_map.mp hs
    have := wr_sign (o r hr) hn h
    omega
theorem map_inj_dec {n m : Nat} : ∀ {xs ys : List Int}, (∀ x ∈ xs, ∃ k : Nat, k < 12 ∧ x = (k : Int)) → (∀ x ∈ ys, ∃ k : Nat, k < 12 ∧ x = (k : Int)) → xs.map decT = ys.map decT → xs = ys
  | [], [], _, _, _ => rfl
  | [], _ :: _, _, _, e => by cases e
  | _ :: _, [], _, _, e => by cases e
  | x :: xs, y :: ys, hx, hy, e => by
    have e1 := List.head_eq_of_cons_eq e
    have e2 := List.tail_eq_of_cons_eq e
    obtain ⟨k, hk, rfl⟩ := hx x List.mem_cons_self
    obtain ⟨j, hj, rfl⟩ := hy y List.mem_cons_self
    rw [dec_inj k hk j hj e1, map_inj_dec (n := n) (m := m) (fun z hz => hx z (List.mem_cons_of_mem _ hz)) (fun z hz => hy z (List.mem_cons_of_mem _ hz)) e2]
theorem wr_inj {n m : Nat} {xs ys : List Int} (ox : IsOrd n xs) (oy : IsOrd m ys) (h1 : 1 ≤ n) (h2 : n ≤ 12) (h3 : 1 ≤ m) (h4 : m ≤ 12) (e : wrT xs = wrT ys) : xs = ys := by
  have a := split_wr ox h1 h2
  rw [e, split_wr oy h3 h4] at a
  exact map_inj_dec (n := n) (m := m) (fun x hx => ord_nat ox h2 hx) (fun x hx => ord_nat oy h4 hx) a.symm
theorem map_inj_wr {n : Nat} (hn1 : 1 ≤ n) (hn : n ≤ 12) : ∀ {rs ss : List (List Int)}, (∀ r ∈ rs, IsOrd n r) → (∀ r ∈ ss, IsOrd n r) → rs.map wrT = ss.map wrT → rs = ss
  | [], [], _, _, _ => rfl
  | [], _ :: _, _, _, e => by cases e
  | _ :: _, [], _, _, e => by cases e
  | x :: xs, y :: ys, hx, hy, e => by
    have e1 := List.head_eq_of_cons_eq e
    have e2 := List.tail_eq_of_cons_eq e
    rw [wr_inj (hx x List.mem_cons_self) (hy y List.mem_cons_self) hn1 hn hn1 hn e1, map_inj_wr hn1 hn (fun z hz => hx z (List.mem_cons_of_mem _ hz)) (fun z hz => hy z (List.mem_cons_of_mem _ hz)) e2]
theorem wrL_inj {n : Nat} (hn1 : 1 ≤ n) (hn : n ≤ 12) {rs ss : List (List Int)} (o1 : ∀ r ∈ rs, IsOrd n r) (o2 : ∀ r ∈ ss, IsOrd n r) (e : wrL rs = wrL ss) : rs = ss := by
  by_cases c : rs = []
  · by_cases c2 : ss = []
    · rw [c, c2]
    · exfalso
      apply wrL_dash o2 hn c2
      rw [← e, c]
      rfl
  · by_cases c2 : ss = []
    · exfalso
      apply wrL_dash o1 hn c
      rw [e, c2]
      rfl
    · have a := split_wrL o1 hn c
      rw [e, split_wrL o2 hn c2] at a
      exact map_inj_wr hn1 hn o1 o2 a.symm
theorem wrL_one (r : List Int) : wrL [r] = wrT r := by
  unfold wrL
  rw [if_neg (by simp)]
  show Txt.join ", " [wrT r] = wrT r
  rw [join_eq]
  rfl
end Fo
namespace Fo
open PySem PySem.Spec PyProof.Rows L2
/-! ### lists of lists -/
def LL (H : Hp) : List Addr → List (List Int) → Prop
  | [], [] => True
  | a :: as, r :: rs => H a = some (.lst (r.map V.int)) ∧ LL H as rs
  | _, _ => False
theorem LL.len {H : Hp} : ∀ {as : List Addr} {rs : List (List Int)}, LL H as rs → as.length = rs.length
  | [], [], _ => rfl
  | [], _ :: _, h => h.elim
  | _ :: _, [], h => h.elim
  | a :: as, r :: rs, h => by rw [List.length_cons, List.length_cons, LL.len h.2]
theorem LL.keep {H H' : Hp} : ∀ {as : List Addr} {rs : List (List Int)}, LL H as rs → (∀ a ∈ as, ∀ o, H a = some o → H' a = some o) → LL H' as rs
  | [], [], _, _ => trivial
  | [], _ :: _, h, _ => h.elim
  | _ :: _, [], h, _ => h.elim
  | a :: as, r :: rs, h, k => ⟨k a List.mem_cons_self _ h.1, LL.keep h.2 fun b hb => k b (List.mem_cons_of_mem _ hb)⟩
theorem LL.same {H H' : Hp} {as : List Addr} {rs : List (List Int)} (h : LL H as rs) (s : Same H H') : LL H' as rs := h.keep fun a _ o e => s a o e
theorem LL.get {H : Hp} : ∀ {as : List Addr} {rs : List (List Int)} {i : Nat} {a : Addr}, LL H as rs → as[i]? = some a → ∃ r, rs[i]? = some r ∧ H a = some (.lst (r.map V.int))
  | [], [], _, _, _, e => by simp at e
  | [], _ :: _, _, _, h, _ => h.elim
  | _ :: _, [], _, _, h, _ => h.elim
  | a :: as, r :: rs, 0, b, h, e => by
    have e2 : a = b := Option.some.inj e
    subst e2
    exact ⟨r, rfl, h.1⟩
  | a :: as, r :: rs, i + 1, b, h, e => LL.get (i := i) h.2 e
theorem LL.tracked {H : Hp} {as : List Addr} {rs : List (List Int)} (h : LL H as rs) {a : Addr} (ha : a ∈ as) : ∃ o, H a = some o := by
  obtain ⟨i, hi⟩ := List.mem_iff_getElem?.mp ha
  obtain ⟨r, _, e⟩ := h.get hi
  exact ⟨_, e⟩
theorem LL.snoc {H : Hp} : ∀ {as : List Addr} {rs : List (List Int)} {a : Addr} {r : List Int}, LL H as rs → H a = some (.lst (r.map V.int)) → LL H (as ++ [a]) (rs ++ [r])
  | [], [], _, _, _, e => ⟨e, trivial⟩
  | [], _ :: _, _, _, h, _ => h.elim
  | _ :: _, [], _, _, h, _ => h.elim
  | b :: as, s :: rs, _, _, h, e => ⟨h.1, LL.snoc h.2 e⟩
theorem LL.drop {H : Hp} : ∀ {as : List Addr} {rs : List (List Int)} (k : Nat), LL H as rs → LL H (as.drop k) (rs.drop k)
  | as, rs, 0, h => h
  | [], [], k + 1, _ => trivial
  | [], _ :: _, _ + 1, h => h.elim
  | _ :: _, [], _ + 1, h => h.elim
  | _ :: as, _ :: rs, k + 1, h => LL.drop k h.2
theorem dp_LL {K : PySem.W.Frag} {H : Hp} : ∀ {as : List Addr} {rs : List (List Int)}, LL H as rs → DpAll K H (as.map V.ref) (rs.map dL)
  | [], [], _ => .nil
  | [], _ :: _, h => h.elim
  | _ :: _, [], h => h.elim
  | _ :: _, _ :: _, h => .cons (dp_list h.1) (dp_LL h.2)
theorem dp_lists {K : PySem.W.Frag} {H : Hp} {l : Addr} {as : List Addr} {rs : List (List Int)} (hl : H l = some (.lst (as.map V.ref))) (h : LL H as rs) : Dp K H (.ref l) (dLL rs) := .lst (SqL.of hl) (dp_LL h)
theorem ref_at {as : List Addr} {i : Nat} {a : Addr} (h : as[i]? = some a) : (as.map V.ref)[i]? = some (V.ref a) := by
  rw [List.getElem?_map, h]
  rfl
theorem ref_at_inv {as : List Addr} {i : Nat} {v : V} (h : (as.map V.ref)[i]? = some v) : ∃ a, as[i]? = some a ∧ v = V.ref a := by
  rw [List.getElem?_map] at h
  cases e : as[i]? with
  | none => rw [e] at h; cases h
  | some x => rw [e] at h; exact ⟨x, rfl, (Option.some.inj h).symm⟩
theorem cutV_tail (xs : List V) (k : Nat) : cutV xs (some (k : Int)) none = xs.drop k := by
  unfold cutV
  rw [HT.sIx_none, HT.sIx_nat]
  by_cases h : k ≤ xs.length
  · rw [Nat.min_eq_left h, List.take_of_length_le (by rw [List.length_drop]; exact Nat.le_refl _)]
  · rw [Nat.min_eq_right (by omega), List.drop_of_length_le (Nat.le_refl _), List.drop_of_length_le (by omega), List.take_nil]
end Fo
namespace Fo
open PySem PySem.Spec PyProof.Rows L2
/-- a list of orders of n things -/
structure OL (H : Hp) (l : Addr) (as : List Addr) (rs : List (List Int)) (n : Nat) : Prop where
  top : H l = some (.lst (as.map V.ref))
  ll : LL H as rs
  ord : ∀ r ∈ rs, IsOrd n r
  n1 : 1 ≤ n
  n2 : n ≤ 12
theorem OL.same {H H' : Hp} {l : Addr} {as : List Addr} {rs : List (List Int)} {n : Nat} (h : OL H l as rs n) (s : Same H H') : OL H' l as rs n := ⟨s _ _ h.top, h.ll.same s, h.ord, h.n1, h.n2⟩
theorem OL.keepD {H H' : Hp} {l d : Addr} {as : List Addr} {rs : List (List Int)} {n : Nat} (h : OL H l as rs n) (s : KeepD d H H') (nl : l ≠ d) (na : d ∉ as) : OL H' l as rs n :=
  ⟨s _ _ h.top nl, h.ll.keep fun a ha o e => s a o e (fun q => na (by rw [← q]; exact ha)), h.ord, h.n1, h.n2⟩
end Fo
namespace Fo
open PySem PySem.Spec PyProof.Rows L2
/-- a loop over enumerate of a list that stands still -/
theorem for_enumL {K : PySem.W.Frag} {a : Addr} {xs : List V} {g : TG} {tb : TS} {D : Ends} {σ : L2.St} {H : Hp} (Pv : Nat → L2.St → Hp → Prop) (h0 : Pv 0 σ H) (hq : ∀ i σ H, Pv i σ H → SqL K H a xs)
    (hs : ∀ (i : Nat) (x : V) (T : Addr) (σ : L2.St) (H : Hp), xs[i]? = some x → Pv i σ H → H T = none → g (.ref T) σ (upd H T (.tup [.int (i : Nat), x])) fun σ2 H2 => tb { D with nx := Pv (i + 1), ct := Pv (i + 1), bk := D.nx } σ2 H2) (hd : ∀ σ H, Pv xs.length σ H → D.nx σ H) :
    ∃ W : Nat → Nat → L2.St → Hp → Prop, (∃ m, W 0 m σ H) ∧ ∀ i m σ H, W i m σ H →
      ((Ite K a).stop i H ∧ D.nx σ H) ∨ ((Ite K a).go i H ∧ ∃ N : L2.St → Hp → Prop, (∀ σ' H', N σ' H' → ∃ m', m' < m ∧ W (i + 1) m' σ' H') ∧ ∀ v H', (Ite K a).yld i H v H' → g v σ H' fun σ2 H2 => tb { D with nx := N, ct := N, bk := D.nx } σ2 H2) := by
  refine ⟨fun i m σ H => m = xs.length - i ∧ i ≤ xs.length ∧ Pv i σ H, ⟨xs.length, rfl, Nat.zero_le _, h0⟩, ?_⟩
  rintro i m σ H ⟨rfl, hi, p⟩
  have qx := hq i σ H p
  by_cases hlt : i < xs.length
  · have hx : xs[i]? = some xs[i] := List.getElem?_eq_getElem hlt
    refine .inr ⟨⟨xs, _, qx, hx⟩, Pv (i + 1), fun σ' H' p' => ⟨xs.length - (i + 1), by omega, rfl, hlt, p'⟩, fun v H' y => ?_⟩
    obtain ⟨T, x', rfl, hT, rfl, f1⟩ := y
    exact hs i x' T σ H (f1 xs qx) p hT
  · have e : i = xs.length := by omega
    subst e
    exact .inl ⟨⟨xs, qx, Nat.le_refl _⟩, hd σ H p⟩
/-- a comprehension over enumerate of a list that stands still -/
theorem lc_enumL {K : PySem.W.Frag} {a : Addr} {xs : List V} {g : TG} {tt : TT} {te : TE} {vs : List Nat} {σ : L2.St} {H1 : Hp} {D : Addr} {Qd : Hp → Prop} (Pv : Nat → Hp → Prop) (h0 : Pv 0 (upd H1 D (.lst []))) (hl : ∀ i H, i ≤ xs.length → Pv i H → SqL K H a xs)
    (hs : ∀ (i : Nat) (x : V) (T : Addr) (H : Hp), xs[i]? = some x → Pv i H → H T = none → g (.ref T) (wipe σ vs) (upd H T (.tup [.int (i : Nat), x])) fun σ2 H2 => wipe σ2 vs = wipe σ vs ∧ tt σ2 H2 fun b H3 =>
      if b = true then te σ2 H3 fun y H4 => ∃ acc, H4 D = some (.lst acc) ∧ acc.length < sizeLine ∧ Pv (i + 1) (upd H4 D (.lst (acc ++ [y]))) else Pv (i + 1) H3) (hd : ∀ H, Pv xs.length H → Qd H) :
    ∃ W : Nat → Nat → Hp → Prop, (∃ m, W 0 m (upd H1 D (.lst []))) ∧ ∀ i m H, W i m H →
      ((Ite K a).stop i H ∧ Qd H) ∨ ((Ite K a).go i H ∧ ∃ Nx : Hp → Prop, (∀ H', Nx H' → ∃ m', m' < m ∧ W (i + 1) m' H') ∧ ∀ x H', (Ite K a).yld i H x H' → g x (wipe σ vs) H' fun σ2 H2 => wipe σ2 vs = wipe σ vs ∧ tt σ2 H2 fun b H3 =>
        if b = true then te σ2 H3 fun y H4 => ∃ acc, H4 D = some (.lst acc) ∧ acc.length < sizeLine ∧ Nx (upd H4 D (.lst (acc ++ [y]))) else Nx H3) := by
  refine ⟨fun i m H => m = xs.length - i ∧ i ≤ xs.length ∧ Pv i H, ⟨xs.length, by simp, Nat.zero_le _, h0⟩, ?_⟩
  rintro i m H ⟨rfl, hi, p⟩
  have q := hl i H hi p
  by_cases hlt : i < xs.length
  · refine .inr ⟨⟨xs, xs[i], q, by simp [hlt]⟩, Pv (i + 1), fun H' p' => ⟨xs.length - (i + 1), by omega, rfl, hlt, p'⟩, fun x H' y => ?_⟩
    obtain ⟨T, x', rfl, hT, rfl, f1⟩ := y
    exact hs i x' T H (f1 xs q) p hT
  · have e : i = xs.length := by omega
    subst e
    exact .inl ⟨⟨xs, q, Nat.le_refl _⟩, hd H p⟩
/-! ### the back of an order -/
def IsBack (ns ps : List Int) : Prop := ps.length = ns.length ∧ ∀ (j : Nat) (x : Int), ns[j]? = some x → ps[x.toNat]? = some (j : Int)
theorem ord_at {n : Nat} {ns : List Int} (o : IsOrd n ns) {t : Nat} (h : t < n) : ∃ j : Nat, j < n ∧ ns[j]? = some (t : Int) := by
  have m : (t : Int) ∈ ns := (List.Perm.mem_iff o).mpr (rg_mem.mpr ⟨by omega, by omega⟩)
  obtain ⟨j, hj⟩ := List.mem_iff_getElem?.mp m
  exact ⟨j, by have := (List.getElem?_eq_some_iff.mp hj).1; rw [o.len] at this; exact this, hj⟩
theorem ord_ix {n : Nat} {ns : List Int} (o : IsOrd n ns) {j : Nat} (h : j < n) : ∃ x : Int, ns[j]? = some x ∧ 0 ≤ x ∧ x < n := by
  have hj : j < ns.length := by rw [o.len]; exact h
  exact ⟨ns[j], List.getElem?_eq_getElem hj, o.mem (List.getElem_mem hj)⟩
theorem back_eq {n : Nat} {ns a b : List Int} (o : IsOrd n ns) (ha : IsBack ns a) (hb : IsBack ns b) : a = b := by
  apply List.ext_getElem?
  intro t
  by_cases h : t < n
  · obtain ⟨j, _, hj⟩ := ord_at o h
    have h1 := ha.2 j _ hj
    have h2 := hb.2 j _ hj
    rw [Int.toNat_natCast] at h1 h2
    rw [h1, h2]
  · rw [List.getElem?_eq_none (by rw [ha.1, o.len]; omega), List.getElem?_eq_none (by rw [hb.1, o.len]; omega)]
def behindL (ns ms : List Int) : List Int := ms.map fun p => ns.getD p.toNat 0
theorem behind_at {ns ms : List Int} {i : Nat} {p x : Int} (hp : ms[i]? = some p) (hx : ns[p.toNat]? = some x) : (behindL ns ms)[i]? = some x := by
  unfold behindL
  rw [List.getElem?_map, hp]
  show some (ns.getD p.toNat 0) = some x
  rw [List.getD_eq_getElem?_getD, hx]
  rfl
theorem behind_len (ns ms : List Int) : (behindL ns ms).length = ms.length := by
  unfold behindL
  rw [List.length_map]
theorem take_more {l : List Int} {i : Nat} {x : Int} (h : l[i]? = some x) : l.take (i + 1) = l.take i ++ [x] := by
  rw [List.take_add_one, h]
  rfl
theorem flat_ints : ∀ ns : List Int, (ns.map V.int).all flatV = true
  | [] => rfl
  | n :: r => by
    show (flatV (V.int n) && (r.map V.int).all flatV) = true
    rw [flat_ints r]
    rfl
theorem eqV_int (i j : Int) : eqV (.int i) (.int j) = (i == j) := rfl
end Fo
namespace Fo
open PySem PySem.Spec PyProof.Rows L2
def spWhole : Sp := fun vs H Q _ => ∃ i : Int, vs = [.int i] ∧ Q (.bl true) H
section
variable {P : Program} {w : World} {K : PySem.W.Frag} {mg : Str → Option Value} {base : Heap}
theorem scWhole : FnScope ["thing"] ["thing"] (defScope s_is_whole) := ⟨rfl, rfl, rfl, by decide +kernel, rfl, by decide +kernel, by decide +kernel⟩
theorem ok_whole {f : Addr} {fd : FuncData} {k : Nat} (T : Df K mg "is_whole" s_is_whole ["thing"] f fd) (B : Bi mg) : FnOk P w K mg base CX0 (k + 1) f fd ["thing"] spWhole := by
  refine T.F.ok scWhole (fun vs H Q E h => ?_) (fun cdv A outer s H vs Q E hr h => ?_)
  · obtain ⟨i, rfl, _⟩ := h
    rfl
  · obtain ⟨i, rfl, q⟩ := h
    refine ⟨_, pss_one (ps_ret (pe_and (pe_callB call_isi (by rfl) B.isinstance (by decide +kernel) (pa_cons (pv 0) (pa_cons (pe_bltn (v := .ty "int") (by rfl) B.int (by decide +kernel) rfl) pa_nil)))
      (pe_one (pe_not (pe_callB call_isi (by rfl) B.isinstance (by decide +kernel) (pa_cons (pv 0) (pa_cons (pe_bltn (v := .ty "bool") (by rfl) B.bool (by decide +kernel) rfl) pa_nil))))))), ?_⟩
    refine ⟨_, rfl, _, _, _, _, true, rfl, .ty _, .base (.int _), kit_ty (by decide +kernel), true, rfl, iteT ?_⟩
    exact ⟨_, rfl, _, _, _, _, false, rfl, .ty _, .base (.int _), kit_ty (by decide +kernel), false, rfl, q⟩
end
end Fo
namespace Fo
open PySem PySem.Spec PyProof.Rows L2
/-! ### whole numbers, orders -/
def spIsOrd : Sp := fun vs H Q _ => ∃ (a : Addr) (n : Nat) (ns : List Int), vs = [.ref a] ∧ H a = some (.lst (ns.map V.int)) ∧ IsOrd n ns ∧ 1 ≤ n ∧ n ≤ 12 ∧ ∀ H', Same H H' → Q (.bl true) H'
def spCheck : Sp := fun vs H Q _ => ∃ (a : Addr) (n : Nat) (ns : List Int), vs = [.ref a] ∧ H a = some (.lst (ns.map V.int)) ∧ IsOrd n ns ∧ 1 ≤ n ∧ n ≤ 12 ∧ ∀ H', Same H H' → Q .non H'
section
variable {P : Program} {w : World} {K : PySem.W.Frag} {mg : Str → Option Value} {base : Heap}
theorem scIsOrd : FnScope ["thing", "number"] ["thing"] (defScope s_is_order) := ⟨rfl, rfl, rfl, by decide +kernel, rfl, by decide +kernel, by decide +kernel⟩
theorem all_true (n : Nat) : (List.replicate n true).all id = true := by simp
set_option maxHeartbeats 2000000 in
theorem ok_is_order {f fW : Addr} {fd fdW : FuncData} {k : Nat} {t : Tok} (T : Df K mg "is_order" s_is_order ["thing"] f fd) (TW : Df K mg "is_whole" s_is_whole ["thing"] fW fdW) (B : Bi mg) (mM : mg "MOST_THINGS" = some (.int 12 t)) : FnOk P w K mg base CX0 (k + 2) f fd ["thing"] spIsOrd := by
  have GW : FnOk P w K mg base CX0 (k + 1) fW fdW ["thing"] spWhole := ok_whole TW B
  refine T.F.ok scIsOrd (fun vs H Q E h => ?_) (fun cdv A outer s H vs Q E hr h => ?_)
  · obtain ⟨a, n, ns, rfl, _⟩ := h
    rfl
  · obtain ⟨a, n, ns, rfl, hl, ho, hn1, hn2, q⟩ := h
    have hlm : (ns.map V.int).length = n := by rw [List.length_map, ho.len]
    refine ⟨_, pss_cons (ps_if (PW.pt (pw_or (pt_not (pt_val (pe_callB call_isi (by rfl) B.isinstance (by decide +kernel) (pa_cons (pv 0) (pa_cons (pe_bltn (v := .ty "list") (by rfl) B.list (by decide +kernel) rfl) pa_nil)))))
        (pw_or (pt_cmpR op_lt (pe_callB call_len_seq (by rfl) B.len PySem.boot_len (pa_cons (pv 0) pa_nil)) pe_int (nomark _)) (pw_or1 (pt_cmpR op_gt (pe_callB call_len_seq (by rfl) B.len PySem.boot_len (pa_cons (pv 0) pa_nil)) (pe_glob (v := .int 12) (by rfl) mM ⟨_, rfl⟩) (nomark _))))))
        (pss_one (ps_ret pe_bl)) pss_nil)
      (pss_cons (ps_if (pt_not (pt_val (pe_callB (cr_all rfl) (by rfl) B.all (by decide +kernel) (pa_cons (pe_lc (own := [("number", 1)]) (g := gName 1) (tt := tYes) (te := tCall spWhole [] E0 (tCons (tVar 1) tNil)) rfl scIsOrd.nd (pi_list (pv 0)) (blkOk_by (N := ["thing", "number"]) (sc := defScope s_is_order) (by decide +kernel)) (fun _ _ _ _ _ => pg_name (i := 1) scIsOrd.nd rfl (.inl rfl)) (fun _ _ _ _ _ => pts_nil)
          (fun _ _ _ _ _ => pe_call GW hr (by rfl) TW.g TW.F.kp TW.b .nil pass0 (pa_cons (pv 1) pa_nil))) pa_nil)))) (pss_one (ps_ret pe_bl)) pss_nil)
      (pss_one (ps_ret (pe_cmpR (op_eqD hr.units) (pe_callB cr_sorted (by rfl) B.sorted (by decide +kernel) (pa_cons (pv 0) pa_nil)) (pe_listRg rfl (by rfl) B.list (prg_1 (by rfl) B.range (pe_callB call_len_seq (by rfl) B.len PySem.boot_len (pa_cons (pv 0) pa_nil)))) (nomark _))))), ?_⟩
    refine ⟨_, rfl, _, _, _, _, true, rfl, .ty _, .base (.lst hl), kit_ty (by decide +kernel), true, rfl, iteF ?_⟩
    refine ⟨_, rfl, a, _, rfl, .inl (SqL.of hl), _, 1, rfl, rfl, _, rfl, ite2 (fun c => absurd (of_decide_eq_true c) (by rw [hlm]; omega)) (fun _ => ?_)⟩
    refine ⟨_, rfl, a, _, rfl, .inl (SqL.of hl), _, 12, rfl, rfl, _, rfl, ite2 (fun c => absurd (of_decide_eq_true c) (by rw [hlm]; omega)) (fun _ => ?_)⟩
    refine ⟨_, rfl, a, rfl, ⟨_, SqL.of hl⟩, fun p np => ?_⟩
    refine lc_list (K := K) (a := a) (xs := ns.map V.int) (fun i H3 => H3 p = some (.lst ((List.replicate i true).map V.bl)) ∧ Same H H3) ⟨upd_same, same_new np⟩ (fun i H3 _ hP => SqL.of (hP.2 _ _ hl)) (fun i x H3 hx hP => ?_) (fun H3 hP => ?_)
    · obtain ⟨y, ey, rfl⟩ := int_at_inv hx
      obtain ⟨hp3, sm⟩ := hP
      refine ⟨rfl, _, rfl, y, rfl, _, hp3, line_lt (by
        rw [List.length_map, List.length_replicate]
        have := (List.getElem?_eq_some_iff.mp hx).1
        omega), ?_, fun b o e => ?_⟩
      · rw [upd_same, List.replicate_succ', List.map_append]
        rfl
      · rw [upd_ne (ne_of_none e np)]
        exact sm _ _ e
    · obtain ⟨hp3, sm⟩ := hP
      have hl3 := sm _ _ hl
      refine ⟨p, _, rfl, SqL.of hp3, _, rfl, ?_⟩
      rw [all_true]
      refine iteF ?_
      refine ⟨_, rfl, a, ns, rfl, SqL.of hl3, by rw [ho.len]; omega, fun ns' s1 hperm hsrt ns1 => ?_⟩
      have hl4 := same_new (o := .lst (ns'.map V.int)) ns1 _ _ hl3
      refine ⟨_, rfl, a, _, rfl, .inl (SqL.of hl4), _, rfl, RgOk.of_le (by omega) (by rw [hlm]; omega) (by omega) (by omega), fun s2 ns2 => ?_⟩
      have e1 : ns' = rg n := sorted_eq (hperm.trans ho) hsrt (rg_sorted n)
      subst e1
      rw [hlm]
      have h1 : (upd (upd H3 s1 (.lst ((rg n).map V.int))) s2 (.lst (rgV 0 (n : Int)))) s1 = some (.lst ((rg n).map V.int)) := same_new ns2 _ _ upd_same
      have h2 : (upd (upd H3 s1 (.lst ((rg n).map V.int))) s2 (.lst (rgV 0 (n : Int)))) s2 = some (.lst ((rg n).map V.int)) := by rw [upd_same, rg_V]
      refine ⟨_, _, dp_list h1, dp_list h2, shaped_list _, shaped_list _, ?_⟩
      rw [eqv_list]
      exact q _ ((sm.trans (same_new ns1)).trans (same_new ns2))
theorem scCheck : FnScope ["thing"] ["thing"] (defScope s_check_order) := ⟨rfl, rfl, rfl, by decide +kernel, rfl, by decide +kernel, by decide +kernel⟩
theorem ok_check {f fO fW : Addr} {fd fdO fdW : FuncData} {k : Nat} {t : Tok} (T : Df K mg "check_order" s_check_order ["thing"] f fd) (TO : Df K mg "is_order" s_is_order ["thing"] fO fdO) (TW : Df K mg "is_whole" s_is_whole ["thing"] fW fdW) (B : Bi mg) (mM : mg "MOST_THINGS" = some (.int 12 t)) : FnOk P w K mg base CX0 (k + 3) f fd ["thing"] spCheck := by
  have GO : FnOk P w K mg base CX0 (k + 2) fO fdO ["thing"] spIsOrd := ok_is_order TO TW B mM
  refine T.F.ok scCheck (fun vs H Q E h => ?_) (fun cdv A outer s H vs Q E hr h => ?_)
  · obtain ⟨a, n, ns, rfl, _⟩ := h
    rfl
  · obtain ⟨a, n, ns, rfl, hl, ho, hn1, hn2, q⟩ := h
    refine ⟨_, pss_one (ps_if (pt_not (pt_val (pe_call GO hr (by rfl) TO.g TO.F.kp TO.b .nil pass0 (pa_cons (pv 0) pa_nil)))) (pss_one ps_never) pss_nil), ?_⟩
    exact ⟨_, rfl, a, n, ns, rfl, hl, ho, hn1, hn2, fun H' sm => ⟨_, rfl, iteF (q H' sm)⟩⟩
end
end Fo
namespace Fo
open PySem PySem.Spec PyProof.Rows L2
def spOLst : Sp := fun vs H Q _ => ∃ (l : Addr) (as : List Addr) (rs : List (List Int)) (n : Nat), vs = [.ref l] ∧ OL H l as rs n ∧ rs.length ≤ 1000 ∧ ∀ H', Same H H' → Q (.bl true) H'
theorem take_more' {α : Type} {l : List α} {i : Nat} {x : α} (h : l[i]? = some x) : l.take (i + 1) = l.take i ++ [x] := by
  rw [List.take_add_one, h]
  rfl
section
variable {P : Program} {w : World} {K : PySem.W.Frag} {mg : Str → Option Value} {base : Heap}
theorem scOLst : FnScope ["thing", "each", "order"] ["thing"] (defScope s_is_order_list) := ⟨rfl, rfl, rfl, by decide +kernel, rfl, by decide +kernel, by decide +kernel⟩
set_option maxHeartbeats 2000000 in
theorem ok_olst {f f1 : Addr} {fd d1 : FuncData} {k : Nat} (T : Df K mg "is_order_list" s_is_order_list ["thing"] f fd) (T_is_order : Df K mg "is_order" s_is_order ["thing"] f1 d1) (G_is_order : FnOk P w K mg base CX0 k f1 d1 ["thing"] spIsOrd) (B : Bi mg) : FnOk P w K mg base CX0 (k + 1) f fd ["thing"] spOLst := by
  refine T.F.ok scOLst (fun vs H Q E h => ?_) (fun cdv A outer s H vs Q E hr h => ?_)
  · obtain ⟨l, as, rs, n, rfl, _⟩ := h
    rfl
  · obtain ⟨l, as, rs, n, rfl, hO, hlen, q⟩ := h
    have hal := hO.ll.len
    refine ⟨_, 
      (pss_cons (ps_if (PW.pt (pw_or (pt_not (pt_val (pe_callB call_isi (by rfl) B.isinstance (by decide +kernel) (pa_cons (pv 0) (pa_cons (pe_bltn (v := .ty "list") (by rfl) B.list (by decide +kernel) rfl) pa_nil))))) (pw_or1 (pt_not (pt_val (pe_callB (cr_all rfl) (by rfl) B.all (by decide +kernel) (pa_cons (pe_lc (own := [("each", 1)]) (g := (gName 1)) (tt := tYes) (te := (tCall spIsOrd [] E0 (tCons (tVar 1) tNil))) rfl scOLst.nd (pi_list (pv 0)) (blkOk_by (N := ["thing", "each", "order"]) (sc := defScope s_is_order_list) (by decide +kernel)) (fun _ _ _ _ _ => (pg_name (i := 1) scOLst.nd rfl (.inl rfl))) (fun _ _ _ _ _ => pts_nil) (fun _ _ _ _ _ => (pe_call G_is_order hr (by rfl) T_is_order.g T_is_order.F.kp T_is_order.b .nil pass0 (pa_cons (pv 1) pa_nil)))) pa_nil)))))))
        (pss_one (ps_ret pe_bl))
        pss_nil)
      (pss_one (ps_ret (pe_callB (cr_all rfl) (by rfl) B.all (by decide +kernel) (pa_cons (pe_lc (own := [("order", 2)]) (g := (gName 2)) (tt := tYes) (te := (tOp rEq (tCB (rLenS K) (tCons (tVar 2) tNil)) (tCB (rLenS K) (tCons (tOp (rIxL K) (tVar 0) (tC (.int 0))) tNil)))) rfl scOLst.nd (pi_list (pv 0)) (blkOk_by (N := ["thing", "each", "order"]) (sc := defScope s_is_order_list) (by decide +kernel)) (fun _ _ _ _ _ => (pg_name (i := 2) scOLst.nd rfl (.inl rfl))) (fun _ _ _ _ _ => pts_nil) (fun _ _ _ _ _ => (pe_cmpR op_eq (pe_callB call_len_seq (by rfl) B.len PySem.boot_len (pa_cons (pv 2) pa_nil)) (pe_callB call_len_seq (by rfl) B.len PySem.boot_len (pa_cons (pe_ix ix_list (pv 0) pe_int (fun _ _ => rfl)) pa_nil)) (nomark _)))) pa_nil))))), ?_⟩
    refine ⟨_, rfl, _, _, _, _, true, rfl, .ty _, .base (.lst hO.top), kit_ty (by decide +kernel), true, rfl, iteF ?_⟩
    refine ⟨_, rfl, l, rfl, ⟨_, SqL.of hO.top⟩, fun p np => ?_⟩
    refine lc_list (K := K) (a := l) (xs := as.map V.ref) (fun i H3 => H3 p = some (.lst ((List.replicate i true).map V.bl)) ∧ Same H H3) ⟨upd_same, same_new np⟩ (fun i H3 _ hP => SqL.of (hP.2 _ _ hO.top)) (fun i x H3 hx hP => ?_) (fun H3 hP => ?_)
    · obtain ⟨a, ea, rfl⟩ := ref_at_inv hx
      obtain ⟨hp3, sm⟩ := hP
      obtain ⟨r, er, ha⟩ := (hO.ll.same sm).get ea
      refine ⟨rfl, _, rfl, a, n, r, rfl, ha, hO.ord r (List.mem_of_getElem? er), hO.n1, hO.n2, fun H4 s4 => ⟨_, s4 _ _ hp3, line_lt (by
        rw [List.length_map, List.length_replicate]
        have := (List.getElem?_eq_some_iff.mp ea).1
        omega), ?_, fun b o e => ?_⟩⟩
      · rw [upd_same, List.replicate_succ', List.map_append]
        rfl
      · rw [upd_ne (ne_of_none e np)]
        exact s4 _ _ (sm _ _ e)
    · obtain ⟨hp3, sm⟩ := hP
      have h3 := hO.same sm
      refine ⟨p, _, rfl, SqL.of hp3, _, rfl, ?_⟩
      rw [all_true]
      refine iteF ?_
      refine ⟨_, rfl, l, rfl, ⟨_, SqL.of h3.top⟩, fun p2 np2 => ?_⟩
      refine lc_list (K := K) (a := l) (xs := as.map V.ref) (fun i H5 => H5 p2 = some (.lst ((List.replicate i true).map V.bl)) ∧ Same H3 H5) ⟨upd_same, same_new np2⟩ (fun i H5 _ hP => SqL.of (hP.2 _ _ h3.top)) (fun i x H5 hx hP => ?_) (fun H5 hP => ?_)
      · obtain ⟨a, ea, rfl⟩ := ref_at_inv hx
        obtain ⟨hp5, sm5⟩ := hP
        have h5 := h3.same sm5
        obtain ⟨r, er, ha⟩ := h5.ll.get ea
        have hi := (List.getElem?_eq_some_iff.mp ea).1
        obtain ⟨a0, ea0⟩ : ∃ a0, as[0]? = some a0 := ⟨as[0]'(by omega), List.getElem?_eq_getElem (by omega)⟩
        obtain ⟨r0, er0, ha0⟩ := h5.ll.get ea0
        have l1 := (h5.ord r (List.mem_of_getElem? er)).len
        have l2 := (h5.ord r0 (List.mem_of_getElem? er0)).len
        refine ⟨rfl, _, rfl, a, _, rfl, .inl (SqL.of ha), _, rfl, l, _, 0, _, rfl, rfl, SqL.of h5.top, at_of (j := 0) rfl (ref_at ea0), a0, _, rfl, .inl (SqL.of ha0), rfl, ?_⟩
        refine ⟨_, hp5, line_lt (by rw [List.length_map, List.length_replicate]; omega), ?_, fun b o e => ?_⟩
        · rw [upd_same, List.replicate_succ', List.map_append, List.length_map, List.length_map, l1, l2, decide_eq_true rfl]
          rfl
        · rw [upd_ne (ne_of_none e np2)]
          exact sm5 _ _ e
      · obtain ⟨hp5, sm5⟩ := hP
        refine ⟨p2, _, rfl, SqL.of hp5, ?_⟩
        rw [all_true]
        exact q _ (sm.trans sm5)
end
end Fo
namespace Fo
open PySem PySem.Spec PyProof.Rows L2 TL
abbrev rStrI : List V → Hp → VK → Prop := fun xs H Q => ∃ i, xs = [.int i] ∧ i.natAbs.log2 < 1920 ∧ Q (.str (toString i)) H
abbrev rJoin (K : PySem.W.Frag) : V → List V → Hp → VK → Prop := fun x xs H Q => ∃ a p, ∃ ys : List Str, x = .str a ∧ xs = [.ref p] ∧ (SqL K H p (ys.map V.str) ∨ SqT K H p (ys.map V.str)) ∧ (ys.map (·.length)).sum + ys.length * a.length ≤ 16777216 ∧ Q (.str (Txt.join a ys)) H
def spWr : Sp := fun vs H Q _ => ∃ (a : Addr) (n : Nat) (xs : List Int), vs = [.ref a] ∧ H a = some (.lst (xs.map V.int)) ∧ IsOrd n xs ∧ 1 ≤ n ∧ n ≤ 12 ∧ ∀ H', Same H H' → Q (.str (wrT xs)) H'
def spWrL : Sp := fun vs H Q _ => ∃ (l : Addr) (as : List Addr) (rs : List (List Int)) (n : Nat), vs = [.ref l] ∧ OL H l as rs n ∧ rs.length ≤ 1000 ∧ ∀ H', Same H H' → Q (.str (wrL rs)) H'
def spText : Sp := fun vs H Q _ => ∃ (s : Str), vs = [.str s] ∧ Q .non H
def spNum : Sp := fun vs H Q _ => ∃ (x many : Nat), vs = [.str (decT x), .int many] ∧ x < many ∧ many ≤ 12 ∧ Q (.int x) H
def spRead : Sp := fun vs H Q _ => ∃ (n : Nat) (xs : List Int), vs = [.str (wrT xs)] ∧ IsOrd n xs ∧ 1 ≤ n ∧ n ≤ 12 ∧ ∀ (l : Addr) (H' : Hp), H l = none → H' l = some (.lst (xs.map V.int)) → Same H H' → Q (.ref l) H'
def spReadL : Sp := fun vs H Q _ => ∃ (n : Nat) (rs : List (List Int)), vs = [.str (wrL rs)] ∧ (∀ r ∈ rs, IsOrd n r) ∧ 1 ≤ n ∧ n ≤ 12 ∧ rs.length ≤ 1000 ∧ ∀ (l : Addr) (as : List Addr) (H' : Hp), OL H' l as rs n → H l = none → (∀ a ∈ as, H a = none) → as.Nodup → l ∉ as → Same H H' → Q (.ref l) H'
theorem str_at_inv {ys : List Str} {i : Nat} {v : V} (h : (ys.map V.str)[i]? = some v) : ∃ x, ys[i]? = some x ∧ v = V.str x := by
  rw [List.getElem?_map] at h
  cases e : ys[i]? with
  | none => rw [e] at h; cases h
  | some x => rw [e] at h; exact ⟨x, rfl, (Option.some.inj h).symm⟩
theorem log_small {x : Int} (h0 : 0 ≤ x) (h1 : x < 12) : x.natAbs.log2 < 1920 := by
  have : x.natAbs < 12 := by omega
  have h2 : ∀ k < 12, Nat.log2 k < 1920 := by decide +kernel
  exact h2 _ this
section
variable {P : Program} {w : World} {K : PySem.W.Frag} {mg : Str → Option Value} {base : Heap}
theorem scWr : FnScope ["order", "thing"] ["order"] (defScope s_written) := ⟨rfl, rfl, rfl, by decide +kernel, rfl, by decide +kernel, by decide +kernel⟩
set_option maxHeartbeats 2000000 in
theorem ok_wr {f : Addr} {fd : FuncData} {k : Nat} (T : Df K mg "written" s_written ["order"] f fd) (B : Bi mg) : FnOk P w K mg base CX0 (k + 1) f fd ["order"] spWr := by
  refine T.F.ok scWr (fun vs H Q E h => ?_) (fun cdv A outer s H vs Q E hr h => ?_)
  · obtain ⟨a, n, xs, rfl, _⟩ := h
    rfl
  · obtain ⟨a, n, xs, rfl, ha, ox, h1, h2, q⟩ := h
    refine ⟨_, 
      (pss_one (ps_ret (pe_join pe_str (pe_lc (own := [("thing", 1)]) (g := (gName 1)) (tt := tYes) (te := (tCB rStrI (tCons (tVar 1) tNil))) rfl scWr.nd (pi_list (pv 0)) (blkOk_by (N := ["order", "thing"]) (sc := defScope s_written) (by decide +kernel)) (fun _ _ _ _ _ => (pg_name (i := 1) scWr.nd rfl (.inl rfl))) (fun _ _ _ _ _ => pts_nil) (fun _ _ _ _ _ => (pe_callTy call_str_int (by rfl) B.str (by decide +kernel) (pa_cons (pv 1) pa_nil))))))), ?_⟩
    refine ⟨⟨_, rfl⟩, _, rfl, a, rfl, ⟨_, SqL.of ha⟩, fun p np => ?_⟩
    refine lc_list (K := K) (a := a) (xs := xs.map V.int) (fun i H3 => H3 p = some (.lst (((xs.take i).map decT).map V.str)) ∧ Same H H3) ⟨upd_same, same_new np⟩ (fun i H3 _ hP => SqL.of (hP.2 _ _ ha)) (fun i x H3 hx hP => ?_) (fun H3 hP => ?_)
    · obtain ⟨y, ey, rfl⟩ := int_at_inv hx
      obtain ⟨hp3, sm⟩ := hP
      have hi := (List.getElem?_eq_some_iff.mp ey).1
      have hy := ox.mem (List.mem_of_getElem? ey)
      rw [ox.len] at hi
      refine ⟨rfl, _, rfl, y, rfl, log_small hy.1 (by omega), _, hp3, line_lt (by rw [List.length_map, List.length_map, List.length_take]; omega), ?_, fun b o e => ?_⟩
      · rw [upd_same, take_more ey, List.map_append, List.map_append]
        rfl
      · rw [upd_ne (ne_of_none e np)]
        exact sm _ _ e
    · obtain ⟨hp3, sm⟩ := hP
      rw [List.length_map, List.take_length] at hp3
      refine ⟨_, p, _, rfl, rfl, .inl (SqL.of hp3), ?_, q _ sm⟩
      have := dec_sum ox h2
      rw [List.length_map, ox.len]
      show _ + n * 1 ≤ 16777216
      omega
theorem scShow : FnScope ["order"] ["order"] (defScope s_show_order) := ⟨rfl, rfl, rfl, by decide +kernel, rfl, by decide +kernel, by decide +kernel⟩
theorem ok_show {f f1 f2 : Addr} {fd d1 d2 : FuncData} {k : Nat} (T : Df K mg "show_order" s_show_order ["order"] f fd) (T_check_order : Df K mg "check_order" s_check_order ["thing"] f1 d1) (T_written : Df K mg "written" s_written ["order"] f2 d2) (G_check_order : FnOk P w K mg base CX0 k f1 d1 ["thing"] spCheck) (G_written : FnOk P w K mg base CX0 k f2 d2 ["order"] spWr) : FnOk P w K mg base CX0 (k + 1) f fd ["order"] spWr := by
  refine T.F.ok scShow (fun vs H Q E h => ?_) (fun cdv A outer s H vs Q E hr h => ?_)
  · obtain ⟨a, n, xs, rfl, _⟩ := h
    rfl
  · obtain ⟨a, n, xs, rfl, ha, ox, h1, h2, q⟩ := h
    refine ⟨_, 
      (pss_cons (ps_expr (pe_call G_check_order hr (by rfl) T_check_order.g T_check_order.F.kp T_check_order.b .nil pass0 (pa_cons (pv 0) pa_nil)))
      (pss_one (ps_ret (pe_call G_written hr (by rfl) T_written.g T_written.F.kp T_written.b .nil pass0 (pa_cons (pv 0) pa_nil))))), ?_⟩
    exact ⟨_, rfl, a, n, xs, rfl, ha, ox, h1, h2, fun H1 s1 => ⟨_, rfl, a, n, xs, rfl, s1 _ _ ha, ox, h1, h2, fun H2 s2 => q _ (s1.trans s2)⟩⟩
theorem scShowL : FnScope ["orders", "order"] ["orders"] (defScope s_show_orders) := ⟨rfl, rfl, rfl, by decide +kernel, rfl, by decide +kernel, by decide +kernel⟩
set_option maxHeartbeats 2000000 in
theorem ok_showL {f f1 f2 : Addr} {fd d1 d2 : FuncData} {k : Nat} {t : Tok} (T : Df K mg "show_orders" s_show_orders ["orders"] f fd) (T_is_order_list : Df K mg "is_order_list" s_is_order_list ["thing"] f1 d1) (T_written : Df K mg "written" s_written ["order"] f2 d2) (G_is_order_list : FnOk P w K mg base CX0 k f1 d1 ["thing"] spOLst) (G_written : FnOk P w K mg base CX0 k f2 d2 ["order"] spWr) (B : Bi mg) (mN : mg "NO_ORDERS" = some (.str "-" t)) : FnOk P w K mg base CX0 (k + 1) f fd ["orders"] spWrL := by
  refine T.F.ok scShowL (fun vs H Q E h => ?_) (fun cdv A outer s H vs Q E hr h => ?_)
  · obtain ⟨l, as, rs, n, rfl, _⟩ := h
    rfl
  · obtain ⟨l, as, rs, n, rfl, hO, hlen, q⟩ := h
    have hal := hO.ll.len
    refine ⟨_, 
      (pss_cons (ps_if (pt_not (pt_val (pe_call G_is_order_list hr (by rfl) T_is_order_list.g T_is_order_list.F.kp T_is_order_list.b .nil pass0 (pa_cons (pv 0) pa_nil))))
        (pss_one ps_never)
        pss_nil)
      (pss_cons (ps_if (pt_cmpR op_eq (pe_callB call_len_seq (by rfl) B.len PySem.boot_len (pa_cons (pv 0) pa_nil)) pe_int (nomark _))
        (pss_one (ps_ret (pe_glob (v := .str "-") (by rfl) mN ⟨_, rfl⟩)))
        pss_nil)
      (pss_one (ps_ret (pe_join pe_str (pe_lc (own := [("order", 1)]) (g := (gName 1)) (tt := tYes) (te := (tCall spWr [] E0 (tCons (tVar 1) tNil))) rfl scShowL.nd (pi_list (pv 0)) (blkOk_by (N := ["orders", "order"]) (sc := defScope s_show_orders) (by decide +kernel)) (fun _ _ _ _ _ => (pg_name (i := 1) scShowL.nd rfl (.inl rfl))) (fun _ _ _ _ _ => pts_nil) (fun _ _ _ _ _ => (pe_call G_written hr (by rfl) T_written.g T_written.F.kp T_written.b .nil pass0 (pa_cons (pv 1) pa_nil))))))))), ?_⟩
    refine ⟨_, rfl, l, as, rs, n, rfl, hO, hlen, fun H1 s1 => ⟨_, rfl, iteF ?_⟩⟩
    have h1 := hO.same s1
    refine ⟨_, rfl, l, _, rfl, .inl (SqL.of h1.top), rfl, _, rfl, ite2 (fun c => ?_) (fun c => ?_)⟩
    · have z : V.int (((as.map V.ref).length : Nat) : Int) = V.int 0 := of_decide_eq_true c
      have z2 : (((as.map V.ref).length : Nat) : Int) = 0 := V.int.inj z
      rw [List.length_map] at z2
      have e : rs = [] := List.eq_nil_of_length_eq_zero (by omega)
      subst e
      exact q _ s1
    · have hne : rs ≠ [] := fun e => c (decide_eq_true (by rw [List.length_map, hal, e]; rfl))
      refine ⟨⟨_, rfl⟩, _, rfl, l, rfl, ⟨_, SqL.of h1.top⟩, fun p np => ?_⟩
      refine lc_list (K := K) (a := l) (xs := as.map V.ref) (fun i H3 => H3 p = some (.lst (((rs.take i).map wrT).map V.str)) ∧ Same H1 H3) ⟨upd_same, same_new np⟩ (fun i H3 _ hP => SqL.of (hP.2 _ _ h1.top)) (fun i x H3 hx hP => ?_) (fun H3 hP => ?_)
      · obtain ⟨a, ea, rfl⟩ := ref_at_inv hx
        obtain ⟨hp3, sm⟩ := hP
        have hi := (List.getElem?_eq_some_iff.mp ea).1
        obtain ⟨r, er, ha⟩ := (h1.ll.same sm).get ea
        refine ⟨rfl, _, rfl, a, n, r, rfl, ha, hO.ord r (List.mem_of_getElem? er), hO.n1, hO.n2, fun H4 s4 => ⟨_, s4 _ _ hp3, line_lt (by rw [List.length_map, List.length_map, List.length_take]; omega), ?_, fun b o e => ?_⟩⟩
        · rw [upd_same, take_more' er, List.map_append, List.map_append]
          rfl
        · rw [upd_ne (ne_of_none e np)]
          exact s4 _ _ (sm _ _ e)
      · obtain ⟨hp3, sm⟩ := hP
        rw [List.length_map, List.take_of_length_le (by omega)] at hp3
        refine ⟨_, p, _, rfl, rfl, .inl (SqL.of hp3), ?_, ?_⟩
        · have := wr_sum hO.ord hO.n2
          rw [List.length_map]
          show _ + rs.length * 2 ≤ 16777216
          omega
        · have z := q _ (s1.trans sm)
          unfold wrL at z
          rw [if_neg hne] at z
          exact z
theorem scText : FnScope ["thing"] ["thing"] (defScope s_check_text) := ⟨rfl, rfl, rfl, by decide +kernel, rfl, by decide +kernel, by decide +kernel⟩
theorem ok_text {f : Addr} {fd : FuncData} {k : Nat} (T : Df K mg "check_text" s_check_text ["thing"] f fd) (B : Bi mg) : FnOk P w K mg base CX0 (k + 1) f fd ["thing"] spText := by
  refine T.F.ok scText (fun vs H Q E h => ?_) (fun cdv A outer s H vs Q E hr h => ?_)
  · obtain ⟨z, rfl, _⟩ := h
    rfl
  · obtain ⟨z, rfl, q⟩ := h
    refine ⟨_, 
      (pss_one (ps_if (pt_not (pt_val (pe_callB call_isi (by rfl) B.isinstance (by decide +kernel) (pa_cons (pv 0) (pa_cons (pe_bltn (v := .ty "str") (by rfl) B.str (by decide +kernel) rfl) pa_nil)))))
        (pss_one ps_never)
        pss_nil)), ?_⟩
    exact ⟨_, rfl, _, _, _, _, true, rfl, .ty _, .base (.str _), kit_ty (by decide +kernel), true, rfl, iteF q⟩
theorem scNum : FnScope ["word", "many", "number"] ["word", "many"] (defScope s_number_in) := ⟨rfl, rfl, rfl, by decide +kernel, rfl, by decide +kernel, by decide +kernel⟩
set_option maxHeartbeats 2000000 in
theorem ok_num {f : Addr} {fd : FuncData} {k : Nat} (T : Df K mg "number_in" s_number_in ["word", "many"] f fd) (B : Bi mg) : FnOk P w K mg base CX0 (k + 1) f fd ["word", "many"] spNum := by
  refine T.F.ok scNum (fun vs H Q E h => ?_) (fun cdv A outer s H vs Q E hr h => ?_)
  · obtain ⟨x, m, rfl, _⟩ := h
    rfl
  · obtain ⟨x, m, rfl, hx, hm, q⟩ := h
    refine ⟨_, 
      (pss_cons (ps_for PassesOwn.never rfl (pi_range1 (by rfl) B.range (pa_cons (pv 1) pa_nil)) (pg_name (i := 2) scNum.nd rfl (.inl rfl))
        (pss_one (ps_if (pt_cmpR op_eq (pv 0) (pe_callTy call_str_int (by rfl) B.str (by decide +kernel) (pa_cons (pv 2) pa_nil)) (nomark _))
          (pss_one (ps_ret (pv 2)))
          pss_nil)))
      (pss_one (ps_ret pe_non))), ?_⟩
    refine ⟨_, rfl, m, rfl, by omega, by omega, ?_⟩
    rw [Int.toNat_natCast]
    refine for_range (n := m) (fun i σ H3 => ∃ y : Option V, σ = [some (.str (decT x)), some (.int m), y] ∧ i ≤ x ∧ H3 = H) ⟨_, rfl, Nat.zero_le _, rfl⟩ (fun i σ H3 hi hP => ?_) (fun σ H3 hP => ?_)
    · obtain ⟨y, rfl, hix, rfl⟩ := hP
      rw [show (0 : Int) + (i : Int) = (i : Int) by omega]
      refine ⟨_, rfl, _, rfl, (i : Int), rfl, log_small (by omega) (by omega), rfl, _, rfl, ite2 (fun c => ?_) (fun c => ?_)⟩
      · have z : V.str (decT x) = V.str (decT i) := of_decide_eq_true c
        have e := dec_inj x (by omega) i (by omega) (V.str.inj z)
        subst e
        exact ⟨_, rfl, q⟩
      · refine ⟨_, rfl, ?_, rfl⟩
        have : i ≠ x := fun e => c (decide_eq_true (by rw [e]))
        omega
    · obtain ⟨y, rfl, hix, rfl⟩ := hP
      omega
theorem scRead : FnScope ["text", "order", "word"] ["text"] (defScope s_read_order) := ⟨rfl, rfl, rfl, by decide +kernel, rfl, by decide +kernel, by decide +kernel⟩
set_option maxHeartbeats 2000000 in
theorem ok_read {f f1 f2 f3 : Addr} {fd d1 d2 d3 : FuncData} {k : Nat} {t : Tok} (T : Df K mg "read_order" s_read_order ["text"] f fd) (T_check_text : Df K mg "check_text" s_check_text ["thing"] f1 d1) (T_number_in : Df K mg "number_in" s_number_in ["word", "many"] f2 d2) (T_is_order : Df K mg "is_order" s_is_order ["thing"] f3 d3) (G_check_text : FnOk P w K mg base CX0 k f1 d1 ["thing"] spText) (G_number_in : FnOk P w K mg base CX0 k f2 d2 ["word", "many"] spNum) (G_is_order : FnOk P w K mg base CX0 k f3 d3 ["thing"] spIsOrd) (mM : mg "MOST_THINGS" = some (.int 12 t)) : FnOk P w K mg base CX0 (k + 1) f fd ["text"] spRead := by
  refine T.F.ok scRead (fun vs H Q E h => ?_) (fun cdv A outer s H vs Q E hr h => ?_)
  · obtain ⟨n, xs, rfl, _⟩ := h
    rfl
  · obtain ⟨n, xs, rfl, ox, h1, h2, q⟩ := h
    refine ⟨_, 
      (pss_cons (ps_expr (pe_call G_check_text hr (by rfl) T_check_text.g T_check_text.F.kp T_check_text.b .nil pass0 (pa_cons (pv 0) pa_nil)))
      (pss_cons (ps_setLc (i := 1) (own := [("word", 2)]) (g := (gName 2)) (tt := tYes) (te := (tCall spNum [] E0 (tCons (tVar 2) (tCons (tC (.int 12)) tNil)))) (by rfl) scRead.nd rfl rfl (sw_true rfl rfl rfl (by decide +kernel)) (pi_list (pe_split (pv 0) pe_str)) (blkOk_by (N := ["text", "order", "word"]) (sc := defScope s_read_order) (by decide +kernel)) (fun _ _ _ _ _ => (pg_name (i := 2) scRead.nd rfl (.inl rfl))) (fun _ _ _ _ _ => pts_nil) (fun _ _ _ _ _ => (pe_call G_number_in hr (by rfl) T_number_in.g T_number_in.F.kp T_number_in.b .nil pass0 (pa_cons (pv 2) (pa_cons (pe_glob (v := .int 12) (by rfl) mM ⟨_, rfl⟩) pa_nil)))))
      (pss_cons (ps_if (pt_not (pt_val (pe_call G_is_order hr (by rfl) T_is_order.g T_is_order.F.kp T_is_order.b .nil pass0 (pa_cons (pv 1) pa_nil))))
        (pss_one ps_never)
        pss_nil)
      (pss_one (ps_ret (pv 1)))))), ?_⟩
    refine ⟨_, rfl, _, rfl, ?_⟩
    refine ⟨_, rfl, ⟨_, rfl⟩, _, _, rfl, rfl, by decide +kernel, line_small (by have := wr_len ox h2; omega), fun p np => ?_⟩
    rw [split_wr ox h1 h2]
    have sp := same_new (o := .lst ((xs.map decT).map V.str)) np
    have hp : (upd H p (.lst ((xs.map decT).map V.str))) p = _ := upd_same
    generalize upd H p (.lst ((xs.map decT).map V.str)) = H1 at sp hp ⊢
    refine ⟨p, rfl, ⟨_, SqL.of hp⟩, fun D nD => ?_⟩
    refine lc_list (K := K) (a := p) (xs := (xs.map decT).map V.str) (fun i H3 => H3 D = some (.lst ((xs.take i).map V.int)) ∧ Same H1 H3) ⟨upd_same, same_new nD⟩ (fun i H3 _ hP => SqL.of (hP.2 _ _ hp)) (fun i x H3 hx hP => ?_) (fun H3 hP => ?_)
    · obtain ⟨s, es, rfl⟩ := str_at_inv hx
      obtain ⟨hD3, sm⟩ := hP
      rw [List.getElem?_map] at es
      cases ey : xs[i]? with
      | none => rw [ey] at es; cases es
      | some y =>
        rw [ey] at es
        have es2 : decT y = s := Option.some.inj es
        subst es2
        obtain ⟨k, hk, rfl⟩ := ord_nat ox h2 (List.mem_of_getElem? ey)
        have hi := (List.getElem?_eq_some_iff.mp ey).1
        rw [ox.len] at hi
        refine ⟨rfl, _, rfl, k, 12, rfl, hk, Nat.le_refl _, _, hD3, line_lt (by rw [List.length_map, List.length_take]; omega), ?_, fun b o e => ?_⟩
        · rw [upd_same, take_more ey, List.map_append]
          rfl
        · rw [upd_ne (ne_of_none e nD)]
          exact sm _ _ e
    · obtain ⟨hD3, sm⟩ := hP
      rw [List.length_map, List.length_map, List.take_length] at hD3
      refine ⟨_, rfl, D, n, xs, rfl, hD3, ox, h1, h2, fun H4 s4 => ⟨_, rfl, iteF ?_⟩⟩
      exact ⟨_, rfl, q D H4 (sp.free nD) (s4 _ _ hD3) ((sp.trans sm).trans s4)⟩
theorem scReadL : FnScope ["text", "orders", "part"] ["text"] (defScope s_read_orders) := ⟨rfl, rfl, rfl, by decide +kernel, rfl, by decide +kernel, by decide +kernel⟩
set_option maxHeartbeats 2000000 in
theorem ok_readL {f f1 f2 f3 : Addr} {fd d1 d2 d3 : FuncData} {k : Nat} {t : Tok} (T : Df K mg "read_orders" s_read_orders ["text"] f fd) (T_check_text : Df K mg "check_text" s_check_text ["thing"] f1 d1) (T_read_order : Df K mg "read_order" s_read_order ["text"] f2 d2) (T_is_order_list : Df K mg "is_order_list" s_is_order_list ["thing"] f3 d3) (G_check_text : FnOk P w K mg base CX0 k f1 d1 ["thing"] spText) (G_read_order : FnOk P w K mg base CX0 k f2 d2 ["text"] spRead) (G_is_order_list : FnOk P w K mg base CX0 k f3 d3 ["thing"] spOLst) (mN : mg "NO_ORDERS" = some (.str "-" t)) : FnOk P w K mg base CX0 (k + 1) f fd ["text"] spReadL := by
  refine T.F.ok scReadL (fun vs H Q E h => ?_) (fun cdv A outer s H vs Q E hr h => ?_)
  · obtain ⟨n, rs, rfl, _⟩ := h
    rfl
  · obtain ⟨n, rs, rfl, ho, h1, h2, hlen, q⟩ := h
    refine ⟨_, 
      (pss_cons (ps_expr (pe_call G_check_text hr (by rfl) T_check_text.g T_check_text.F.kp T_check_text.b .nil pass0 (pa_cons (pv 0) pa_nil)))
      (pss_cons (ps_if (pt_cmpR op_eq (pv 0) (pe_glob (v := .str "-") (by rfl) mN ⟨_, rfl⟩) (nomark _))
        (pss_one (ps_ret (pe_lst pa_nil)))
        pss_nil)
      (pss_cons (ps_setLc (i := 1) (own := [("part", 2)]) (g := (gName 2)) (tt := tYes) (te := (tCall spRead [] E0 (tCons (tVar 2) tNil))) (by rfl) scReadL.nd rfl rfl (sw_true rfl rfl rfl (by decide +kernel)) (pi_list (pe_split (pv 0) pe_str)) (blkOk_by (N := ["text", "orders", "part"]) (sc := defScope s_read_orders) (by decide +kernel)) (fun _ _ _ _ _ => (pg_name (i := 2) scReadL.nd rfl (.inl rfl))) (fun _ _ _ _ _ => pts_nil) (fun _ _ _ _ _ => (pe_call G_read_order hr (by rfl) T_read_order.g T_read_order.F.kp T_read_order.b .nil pass0 (pa_cons (pv 2) pa_nil))))
      (pss_cons (ps_if (pt_not (pt_val (pe_call G_is_order_list hr (by rfl) T_is_order_list.g T_is_order_list.F.kp T_is_order_list.b .nil pass0 (pa_cons (pv 1) pa_nil))))
        (pss_one ps_never)
        pss_nil)
      (pss_one (ps_ret (pv 1))))))), ?_⟩
    refine ⟨_, rfl, _, rfl, ?_⟩
    refine ⟨_, rfl, rfl, _, rfl, ite2 (fun c => ?_) (fun c => ?_)⟩
    · have z : V.str (wrL rs) = V.str "-" := of_decide_eq_true c
      have e : rs = [] := by
        by_cases e : rs = []
        · exact e
        · exact absurd (V.str.inj z) (wrL_dash ho h2 e)
      subst e
      refine ⟨line_small (by show 0 ≤ 16777216; decide), fun l nl => ?_⟩
      exact q l [] _ ⟨upd_same, trivial, ho, h1, h2⟩ nl (fun a ha => absurd ha List.not_mem_nil) List.nodup_nil List.not_mem_nil (same_new nl)
    · have hne : rs ≠ [] := fun e => c (decide_eq_true (by rw [e]; rfl))
      refine ⟨_, rfl, ⟨_, rfl⟩, _, _, rfl, rfl, by decide +kernel, line_small (by have := wrL_len ho h2; omega), fun p np => ?_⟩
      rw [split_wrL ho h2 hne]
      have sp := same_new (o := .lst ((rs.map wrT).map V.str)) np
      have hp : (upd H p (.lst ((rs.map wrT).map V.str))) p = _ := upd_same
      generalize upd H p (.lst ((rs.map wrT).map V.str)) = H1 at sp hp ⊢
      refine ⟨p, rfl, ⟨_, SqL.of hp⟩, fun D nD => ?_⟩
      refine lc_list (K := K) (a := p) (xs := (rs.map wrT).map V.str) (fun i H3 => ∃ bs : List Addr, H3 D = some (.lst (bs.map V.ref)) ∧ LL H3 bs (rs.take i) ∧ (∀ a ∈ bs, H1 a = none) ∧ bs.Nodup ∧ D ∉ bs ∧ Same H1 H3) ⟨[], upd_same, trivial, fun a ha => absurd ha List.not_mem_nil, List.nodup_nil, List.not_mem_nil, same_new nD⟩ (fun i H3 _ hP => by obtain ⟨_, _, _, _, _, _, sm⟩ := hP; exact SqL.of (sm _ _ hp)) (fun i x H3 hx hP => ?_) (fun H3 hP => ?_)
      · obtain ⟨s, es, rfl⟩ := str_at_inv hx
        obtain ⟨bs, hD3, hL3, hn3, hnd, hDb, sm⟩ := hP
        rw [List.getElem?_map] at es
        cases ey : rs[i]? with
        | none => rw [ey] at es; cases es
        | some r =>
          rw [ey] at es
          have es2 : wrT r = s := Option.some.inj es
          subst es2
          have hbl := hL3.len
          rw [List.length_take] at hbl
          refine ⟨rfl, _, rfl, n, r, rfl, ho r (List.mem_of_getElem? ey), h1, h2, fun c H4 nc hc s4 => ?_⟩
          have ncD : c ≠ D := fun e => by rw [e, hD3] at nc; cases nc
          have ncb : c ∉ bs := fun h => by
            obtain ⟨o, e⟩ := hL3.tracked h
            rw [nc] at e
            cases e
          refine ⟨_, s4 _ _ hD3, line_lt (by rw [List.length_map]; omega), bs ++ [c], by rw [upd_same, List.map_append]; rfl, ?_, fun u hu => ?_, ?_, fun hu => ?_, fun b o e => ?_⟩
          · rw [take_more' ey]
            refine LL.snoc ((hL3.same s4).keep fun u hu o e => ?_) ?_
            · rw [upd_ne (fun q => hDb (by rw [← q]; exact hu))]
              exact e
            · rw [upd_ne ncD]
              exact hc
          · rcases List.mem_append.mp hu with h | h
            · exact hn3 u h
            · rw [List.mem_singleton.mp h]
              exact sm.free nc
          · exact List.nodup_append.mpr ⟨hnd, List.nodup_cons.mpr ⟨List.not_mem_nil, List.nodup_nil⟩, fun a ha b hb e => ncb (by rw [← List.mem_singleton.mp hb, ← e]; exact ha)⟩
          · rcases List.mem_append.mp hu with h | h
            · exact hDb h
            · exact ncD (List.mem_singleton.mp h).symm
          · rw [upd_ne (ne_of_none e nD)]
            exact s4 _ _ (sm _ _ e)
      · obtain ⟨bs, hD3, hL3, hn3, hnd, hDb, sm⟩ := hP
        rw [List.length_map, List.length_map, List.take_length] at hL3
        have hO : OL H3 D bs rs n := ⟨hD3, hL3, ho, h1, h2⟩
        refine ⟨_, rfl, D, bs, rs, n, rfl, hO, hlen, fun H4 s4 => ⟨_, rfl, iteF ?_⟩⟩
        exact ⟨_, rfl, q D bs H4 (hO.same s4) (sp.free nD) (fun a ha => sp.free (hn3 a ha)) hnd hDb ((sp.trans sm).trans s4)⟩
end
end Fo
namespace Fo
open PySem PySem.Spec PyProof.Rows L2
/-! ### lists of orders as pairs of address and order -/
theorem LL.pairs {H : Hp} : ∀ {as : List Addr} {rs : List (List Int)}, LL H as rs → ∃ ps : List (Addr × List Int), as = ps.map (·.1) ∧ rs = ps.map (·.2) ∧ ∀ p ∈ ps, H p.1 = some (.lst (p.2.map V.int))
  | [], [], _ => ⟨[], rfl, rfl, fun p h => absurd h List.not_mem_nil⟩
  | [], _ :: _, h => h.elim
  | _ :: _, [], h => h.elim
  | a :: as, r :: rs, h => by
    obtain ⟨ps, e1, e2, hp⟩ := LL.pairs h.2
    refine ⟨(a, r) :: ps, by rw [e1]; rfl, by rw [e2]; rfl, fun p hm => ?_⟩
    rcases List.mem_cons.mp hm with rfl | hm
    · exact h.1
    · exact hp p hm
theorem LL.ofPairs {H : Hp} : ∀ {ps : List (Addr × List Int)}, (∀ p ∈ ps, H p.1 = some (.lst (p.2.map V.int))) → LL H (ps.map (·.1)) (ps.map (·.2))
  | [], _ => trivial
  | p :: ps, h => ⟨h p List.mem_cons_self, LL.ofPairs fun q hq => h q (List.mem_cons_of_mem _ hq)⟩
abbrev pV (ps : List (Addr × List Int)) : List V := ps.map fun p => V.ref p.1
def cutP (ps : List (Addr × List Int)) (lo hi : Option Int) : List (Addr × List Int) := (ps.drop (HT.sIx ps.length 0 lo)).take (HT.sIx ps.length ps.length hi - HT.sIx ps.length 0 lo)
theorem cut_prs (ps : List (Addr × List Int)) (lo hi : Option Int) : cutV (pV ps) lo hi = pV (cutP ps lo hi) := by
  unfold cutV cutP pV
  rw [List.length_map, List.map_take, List.map_drop]
theorem cutP_mem {ps : List (Addr × List Int)} {lo hi : Option Int} {p : Addr × List Int} (h : p ∈ cutP ps lo hi) : p ∈ ps := List.mem_of_mem_drop (List.mem_of_mem_take h)
theorem cutP_len (ps : List (Addr × List Int)) (lo hi : Option Int) : (cutP ps lo hi).length ≤ ps.length := by
  unfold cutP
  rw [List.length_take, List.length_drop]
  omega
end Fo
namespace Fo
open PySem PySem.Spec PyProof.Rows L2
/-! ### sorted(rows), rows a list of lists of whole numbers -/
def rowsR (ps : List (Addr × List Int)) : List (Addr × List Int) := ps.mergeSort fun p q => decide (p.2 ≤ q.2)
def rSortedR (K : PySem.W.Frag) : List V → Hp → VK → Prop := fun vs H Q => ∃ (a : Addr) (ps : List (Addr × List Int)), vs = [V.ref a] ∧ SqL K H a (ps.map fun p => V.ref p.1) ∧ (∀ p ∈ ps, Dp K H (.ref p.1) (dL p.2)) ∧
  ∀ q, H q = none → Q (.ref q) (upd H q (.lst ((rowsR ps).map fun p => V.ref p.1)))
theorem each_refs : ∀ {ps : List (Addr × List Int)} {us : List Value}, Vals (ps.map fun p => V.ref p.1) us → PySem.W.EachIs (fun v (p : Addr × List Int) => v = Value.ref p.1) us ps
  | [], _, .nil => .nil
  | p :: ps, _, .cons r t => .cons r (each_refs t)
theorem refs_each : ∀ {ps : List (Addr × List Int)} {us : List Value}, PySem.W.EachIs (fun v (p : Addr × List Int) => v = Value.ref p.1) us ps → Vals (ps.map fun p => V.ref p.1) us
  | _, _, .nil => .nil
  | _, _, .cons r t => .cons r (refs_each t)
theorem each_all {R S : Value → (Addr × List Int) → Prop} : ∀ {us : List Value} {ps : List (Addr × List Int)}, PySem.W.EachIs R us ps → (∀ v p, p ∈ ps → R v p → S v p) → PySem.W.EachIs S us ps
  | _, _, .nil, _ => .nil
  | _, _, .cons r t, h => .cons (h _ _ List.mem_cons_self r) (each_all t fun v p hp => h v p (List.mem_cons_of_mem _ hp))
theorem cr_sortedR {X : Cx} (hu : X.A.units + 64 < cLine) : CallR X (.builtin "sorted") (rSortedR X.K) := by
  intro pins s σ H vs us Q J rel hz
  obtain ⟨a, ps, ev, sq, hd, q⟩ := hz
  subst ev
  obtain ⟨its, rv, hl, hlen⟩ := J.list sq
  rw [Vals.ref1 rel]
  have e := each_refs rv
  have el := rv.length
  rw [List.length_map] at el hlen
  refine PySem.W.sorted_data (enc := fun p : Addr × List Int => .list (p.2.map .int)) hl.isList e (each_all e fun v p hp hv => ?_) (PySem.W.AllAlike.of fun b b' => ?_) (PySem.W.Sortable.others fun b => ⟨(fun z => by cases z), (fun xs z => by cases z)⟩) hlen (fun b _ => ?_) fun out ol eo => ?_
  · subst hv
    exact Dp.reads J _ _ _ (hd p hp) rfl
  · show PySem.W.alike (.list (b.2.map .int)) (.list (b'.2.map .int)) = true
    simp only [PySem.W.alike]
    exact PySem.W.alike_ints _ _
  · show X.A.units + 2 + (dL b.2).depth < cLine
    rw [depth_list]
    omega
  · rw [PySem.W.dataLe_rows (fun p : Addr × List Int => p.2)] at eo
    obtain ⟨ep, he⟩ := PyProof.Rows.sortedAll_at s.heap its out.toArray
    have hl2 : ((rowsR ps).map fun p => V.ref p.1).length ≤ sizeLine := by
      unfold rowsR
      rw [List.length_map, List.length_mergeSort]
      exact hlen
    exact ⟨.ref _, upd H (s.heap.objs.size + 1) (.lst ((rowsR ps).map fun p => V.ref p.1)), J.laid (t' := s.toks) (fun _ _ => PyProof.Rows.sortedAll_old) (Nat.le_succ _) ⟨hl2, out, ep, refs_each eo, he⟩, rfl, q _ (J.hok.fresh (Nat.le_succ _))⟩
theorem rows_le_total (a b : Addr × List Int) : (decide (a.2 ≤ b.2) || decide (b.2 ≤ a.2)) = true := by
  rcases List.le_total a.2 b.2 with h | h
  · rw [decide_eq_true h]; rfl
  · rw [decide_eq_true h, Bool.or_true]
theorem rowsR_perm (ps : List (Addr × List Int)) : (rowsR ps).Perm ps := List.mergeSort_perm _ _
theorem rowsR_sorted (ps : List (Addr × List Int)) : ((rowsR ps).map (·.2)).Pairwise (· ≤ ·) := by
  have h := List.pairwise_mergeSort (le := fun p q : Addr × List Int => decide (p.2 ≤ q.2)) (fun a b c h1 h2 => decide_eq_true (List.le_trans (of_decide_eq_true h1) (of_decide_eq_true h2))) rows_le_total ps
  exact List.pairwise_map.mpr (h.imp fun h => of_decide_eq_true h)
end Fo
namespace Fo
open PySem PySem.Spec PyProof.Rows L2
abbrev rListOf (K : PySem.W.Frag) : List V → Hp → VK → Prop := fun xs H Q => ∃ p ys, xs = [.ref p] ∧ (SqL K H p ys ∨ SqT K H p ys) ∧ ∀ l, H l = none → Q (.ref l) (upd H l (.lst ys))
def spOther : Sp := fun vs H Q _ => ∃ (d l : Addr) (as : List Addr) (rs : List (List Int)) (n : Nat), vs = [.ref d, .ref l] ∧ PoolAt H d ∧ OL H l as rs n ∧ 1 ≤ rs.length ∧ rs.length ≤ 5 ∧ l ≠ d ∧ d ∉ as ∧
  ∀ (l' : Addr) (as' : List Addr) (rs' : List (List Int)) (H' : Hp), OL H' l' as' rs' n → rs'.length ≤ 20 → l' ≠ d → d ∉ as' → PoolAt H' d → KeepD d H H' → Q (.ref l') H'
section
variable {P : Program} {w : World} {K : PySem.W.Frag} {mg : Str → Option Value} {base : Heap}
theorem scOther : FnScope ["pool", "orders", "at", "way", "order"] ["pool", "orders"] (defScope s_law_otherwise) := ⟨rfl, rfl, rfl, by decide +kernel, rfl, by decide +kernel, by decide +kernel⟩
set_option maxHeartbeats 4000000 in
theorem ok_other {f f1 f2 : Addr} {fd d1 d2 : FuncData} {k : Nat} (T : Df K mg "_law_otherwise" s_law_otherwise ["pool", "orders"] f fd) (T__law_draw : Df K mg "_law_draw" s_law_draw ["pool", "many"] f1 d1) (T__law_near : Df K mg "_law_near" s_law_near ["pool", "order"] f2 d2) (G__law_draw : FnOk P w K mg base CX0 k f1 d1 ["pool", "many"] spDrawP) (G__law_near : FnOk P w K mg base CX0 k f2 d2 ["pool", "order"] spNearP) (B : Bi mg) : FnOk P w K mg base CX0 (k + 1) f fd ["pool", "orders"] spOther := by
  refine T.F.ok scOther (fun vs H Q E h => ?_) (fun cdv A outer s H vs Q E hr h => ?_)
  · obtain ⟨d, l, as, rs, n, rfl, _⟩ := h
    rfl
  · obtain ⟨d, l, as, rs, n, rfl, hD, hO, hl1, hl5, nld, nda, q⟩ := h
    obtain ⟨ps, ea, er, hps⟩ := hO.ll.pairs
    have top : H l = some (.lst (pV ps)) := by
      have := hO.top
      rw [ea, List.map_map] at this
      exact this
    have hpl : ps.length = rs.length := by rw [er, List.length_map]
    have hvl : (pV ps).length = rs.length := by rw [List.length_map, hpl]
    have npd : ∀ p ∈ ps, p.1 ≠ d := fun p hp e => nda (by rw [ea, ← e]; exact List.mem_map_of_mem hp)
    have hord : ∀ p ∈ ps, IsOrd n p.2 := fun p hp => hO.ord p.2 (by rw [er]; exact List.mem_map_of_mem hp)
    have fin : ∀ (l' : Addr) (qs : List (Addr × List Int)) (H' : Hp), H' l' = some (.lst (pV qs)) → (∀ p ∈ qs, H' p.1 = some (.lst (p.2.map V.int)) ∧ IsOrd n p.2 ∧ p.1 ≠ d) → qs.length ≤ 20 → l' ≠ d → PoolAt H' d → KeepD d H H' → Q (.ref l') H' := fun l' qs H' h1 h2 h3 h4 h5 h6 =>
      q l' (qs.map (·.1)) (qs.map (·.2)) H' ⟨by rw [List.map_map]; exact h1, LL.ofPairs fun p hp => (h2 p hp).1, fun r hr => by
        obtain ⟨p, hp, rfl⟩ := List.mem_map.mp hr
        exact (h2 p hp).2.1, hO.n1, hO.n2⟩ (by rw [List.length_map]; exact h3) h4 (fun hd => by
        obtain ⟨p, hp, e⟩ := List.mem_map.mp hd
        exact (h2 p hp).2.2 e) h5 h6
    refine ⟨_, 
      (pss_cons (ps_set (i := 2) scOther.nd rfl (.inl rfl) (pe_call G__law_draw hr (by rfl) T__law_draw.g T__law_draw.F.kp T__law_draw.b .nil pass0 (pa_cons (pv 0) (pa_cons (pe_callB call_len_seq (by rfl) B.len PySem.boot_len (pa_cons (pv 1) pa_nil)) pa_nil))))
      (pss_cons (ps_set (i := 3) scOther.nd rfl (.inl rfl) (pe_call G__law_draw hr (by rfl) T__law_draw.g T__law_draw.F.kp T__law_draw.b .nil pass0 (pa_cons (pv 0) (pa_cons pe_int pa_nil))))
      (pss_cons (ps_if (pt_cmpR op_eq (pv 3) pe_int (nomark _))
        (pss_one (ps_ret (pe_op op_cat (pe_op op_cat (pe_slice sl_list (pv 1) po_none (po_some (pv 2))) (pe_slice sl_list (pv 1) (po_some (pv 2)) (po_some (pe_op op_add (pv 2) pe_int)))) (pe_slice sl_list (pv 1) (po_some (pv 2)) po_none))))
        pss_nil)
      (pss_cons (ps_if (pt_cmpR op_eq (pv 3) pe_int (nomark _))
        (pss_one (ps_ret (pe_op op_cat (pe_slice sl_list (pv 1) po_none (po_some (pv 2))) (pe_slice sl_list (pv 1) (po_some (pe_op op_add (pv 2) pe_int)) po_none))))
        pss_nil)
      (pss_cons (ps_if (pt_cmpR op_eq (pv 3) pe_int (nomark _))
        (pss_one (ps_ret (pe_revL (pv 1))))
        pss_nil)
      (pss_cons (ps_if (pt_cmpR op_eq (pv 3) pe_int (nomark _))
        (pss_one (ps_ret (pe_lc (own := [("order", 4)]) (g := (gName 4)) (tt := tYes) (te := (tCB (rListOf K) (tCons (tVar 4) tNil))) rfl scOther.nd (pi_list (pv 1)) (blkOk_by (N := ["pool", "orders", "at", "way", "order"]) (sc := defScope s_law_otherwise) (by decide +kernel)) (fun _ _ _ _ _ => (pg_name (i := 4) scOther.nd rfl (.inl rfl))) (fun _ _ _ _ _ => pts_nil) (fun _ _ _ _ _ => (pe_callTy call_list_of (by rfl) B.list (by decide +kernel) (pa_cons (pv 4) pa_nil))))))
        pss_nil)
      (pss_cons (ps_if (pt_cmpR op_eq (pv 3) pe_int (nomark _))
        (pss_one (ps_ret (pe_op op_cat (pe_op op_cat (pe_slice sl_list (pv 1) po_none (po_some (pv 2))) (pe_lst (pa_cons (pe_call G__law_near hr (by rfl) T__law_near.g T__law_near.F.kp T__law_near.b .nil pass0 (pa_cons (pv 0) (pa_cons (pe_ix ix_list (pv 1) (pv 2) (fun _ _ => rfl)) pa_nil))) pa_nil))) (pe_slice sl_list (pv 1) (po_some (pe_op op_add (pv 2) pe_int)) po_none))))
        pss_nil)
      (pss_one (ps_ret (pe_callB (cr_sortedR hr.units) (by rfl) B.sorted (by decide +kernel) (pa_cons (pv 1) pa_nil))))))))))), ?_⟩
    refine ⟨_, rfl, _, rfl, l, _, rfl, .inl (SqL.of top), d, _, rfl, hD, by rw [hvl]; omega, by rw [hvl]; omega, fun at_ H1 a0 a1 D1 k1 => ?_⟩
    rw [hvl] at a1
    obtain ⟨c, rfl⟩ : ∃ c : Nat, at_ = (c : Int) := ⟨at_.toNat, by omega⟩
    refine ⟨_, rfl, d, 6, rfl, D1, by decide, by decide, fun way H2 w0 w1 D2 k2 => ?_⟩
    have k12 := k1.trans k2
    have t2 := k12 l _ top nld
    have p2 : ∀ p ∈ ps, H2 p.1 = some (.lst (p.2.map V.int)) ∧ IsOrd n p.2 ∧ p.1 ≠ d := fun p hp => ⟨k12 _ _ (hps p hp) (npd p hp), hord p hp, npd p hp⟩
    clear k1 k2 D1 hD top hps
    -- way 0
    refine ⟨_, rfl, rfl, _, rfl, ite2 (fun _ => ?_) (fun z0 => ?_)⟩
    · refine ⟨_, rfl, _, rfl, _, rfl, l, _, rfl, SqL.of t2, fun b1 nb1 => ?_⟩
      rw [cut_prs]
      have s1 := same_new (o := .lst (pV (cutP ps none (some (c : Int))))) nb1
      refine ⟨_, rfl, _, rfl, _, rfl, _, rfl, (c : Int), 1, rfl, rfl, _, rfl, l, _, rfl, SqL.of (s1 _ _ t2), fun b2 nb2 => ?_⟩
      rw [cut_prs]
      have s2 := s1.trans (same_new (o := .lst (pV (cutP ps (some (c : Int)) (some ((c : Int) + 1))))) nb2)
      have hb1 := same_new (o := .lst (pV (cutP ps (some (c : Int)) (some ((c : Int) + 1))))) nb2 _ _ (upd_same (H := H2) (a := b1) (o := .lst (pV (cutP ps none (some (c : Int))))))
      have c1 := cutP_len ps none (some (c : Int))
      have c2 := cutP_len ps (some (c : Int)) (some ((c : Int) + 1))
      have c3 := cutP_len ps (some (c : Int)) none
      refine ⟨b1, b2, _, _, rfl, rfl, hb1, upd_same, line_small (by rw [List.length_map, List.length_map]; omega), fun b3 nb3 => ?_⟩
      have s3 := s2.trans (same_new (o := .lst (pV (cutP ps none (some (c : Int))) ++ pV (cutP ps (some (c : Int)) (some ((c : Int) + 1))))) nb3)
      refine ⟨_, rfl, _, rfl, _, rfl, l, _, rfl, SqL.of (s3 _ _ t2), fun b4 nb4 => ?_⟩
      rw [cut_prs]
      have s4 := s3.trans (same_new (o := .lst (pV (cutP ps (some (c : Int)) none))) nb4)
      have hb3 := same_new (o := .lst (pV (cutP ps (some (c : Int)) none))) nb4 _ _ (upd_same (H := upd (upd H2 b1 (.lst (pV (cutP ps none (some (c : Int)))))) b2 (.lst (pV (cutP ps (some (c : Int)) (some ((c : Int) + 1)))))) (a := b3) (o := .lst (pV (cutP ps none (some (c : Int))) ++ pV (cutP ps (some (c : Int)) (some ((c : Int) + 1))))))
      refine ⟨b3, b4, _, _, rfl, rfl, hb3, upd_same, line_small (by rw [List.length_append, List.length_map, List.length_map, List.length_map]; omega), fun b5 nb5 => ?_⟩
      have s5 := s4.trans (same_new (o := .lst ((pV (cutP ps none (some (c : Int))) ++ pV (cutP ps (some (c : Int)) (some ((c : Int) + 1)))) ++ pV (cutP ps (some (c : Int)) none))) nb5)
      refine fin b5 ((cutP ps none (some (c : Int)) ++ cutP ps (some (c : Int)) (some ((c : Int) + 1))) ++ cutP ps (some (c : Int)) none) _ (by rw [upd_same]; unfold pV; rw [List.map_append, List.map_append]) (fun p hp => ?_) (by rw [List.length_append, List.length_append]; omega) ((D2.same s4).ne nb5) (D2.same s5) (k12.trans (KeepD.of_same s5))
      have hm : p ∈ ps := by
        rcases List.mem_append.mp hp with h | h
        · rcases List.mem_append.mp h with h | h
          · exact cutP_mem h
          · exact cutP_mem h
        · exact cutP_mem h
      obtain ⟨e1, e2, e3⟩ := p2 p hm
      exact ⟨s5 _ _ e1, e2, e3⟩
    -- way 1
    refine ⟨_, rfl, rfl, _, rfl, ite2 (fun _ => ?_) (fun z1 => ?_)⟩
    · refine ⟨_, rfl, _, rfl, _, rfl, l, _, rfl, SqL.of t2, fun b1 nb1 => ?_⟩
      rw [cut_prs]
      have s1 := same_new (o := .lst (pV (cutP ps none (some (c : Int))))) nb1
      refine ⟨_, rfl, _, rfl, (c : Int), 1, rfl, rfl, _, rfl, l, _, rfl, SqL.of (s1 _ _ t2), fun b2 nb2 => ?_⟩
      rw [cut_prs]
      have s2 := s1.trans (same_new (o := .lst (pV (cutP ps (some ((c : Int) + 1)) none))) nb2)
      have hb1 := same_new (o := .lst (pV (cutP ps (some ((c : Int) + 1)) none))) nb2 _ _ (upd_same (H := H2) (a := b1) (o := .lst (pV (cutP ps none (some (c : Int))))))
      have c1 := cutP_len ps none (some (c : Int))
      have c2 := cutP_len ps (some ((c : Int) + 1)) none
      refine ⟨b1, b2, _, _, rfl, rfl, hb1, upd_same, line_small (by rw [List.length_map, List.length_map]; omega), fun b3 nb3 => ?_⟩
      have s3 := s2.trans (same_new (o := .lst (pV (cutP ps none (some (c : Int))) ++ pV (cutP ps (some ((c : Int) + 1)) none))) nb3)
      refine fin b3 (cutP ps none (some (c : Int)) ++ cutP ps (some ((c : Int) + 1)) none) _ (by rw [upd_same]; unfold pV; rw [List.map_append]) (fun p hp => ?_) (by rw [List.length_append]; omega) ((D2.same s2).ne nb3) (D2.same s3) (k12.trans (KeepD.of_same s3))
      have hm : p ∈ ps := by
        rcases List.mem_append.mp hp with h | h
        · exact cutP_mem h
        · exact cutP_mem h
      obtain ⟨e1, e2, e3⟩ := p2 p hm
      exact ⟨s3 _ _ e1, e2, e3⟩
    -- way 2
    refine ⟨_, rfl, rfl, _, rfl, ite2 (fun _ => ?_) (fun z2 => ?_)⟩
    · refine ⟨_, rfl, l, _, rfl, SqL.of t2, fun b1 nb1 => ?_⟩
      have s1 := same_new (o := .lst (pV ps).reverse) nb1
      refine fin b1 ps.reverse _ (by rw [upd_same]; unfold pV; rw [List.map_reverse]) (fun p hp => ?_) (by rw [List.length_reverse]; omega) (D2.ne nb1) (D2.same s1) (k12.trans (KeepD.of_same s1))
      obtain ⟨e1, e2, e3⟩ := p2 p (List.mem_reverse.mp hp)
      exact ⟨s1 _ _ e1, e2, e3⟩
    -- way 3
    refine ⟨_, rfl, rfl, _, rfl, ite2 (fun _ => ?_) (fun z3 => ?_)⟩
    · refine ⟨_, rfl, l, rfl, ⟨_, SqL.of t2⟩, fun D nD => ?_⟩
      have nDd := D2.ne nD
      refine lc_list (K := K) (a := l) (xs := pV ps) (fun i H3 => ∃ qs : List (Addr × List Int), H3 D = some (.lst (pV qs)) ∧ qs.length = i ∧ (∀ p ∈ qs, H3 p.1 = some (.lst (p.2.map V.int)) ∧ IsOrd n p.2 ∧ p.1 ≠ d ∧ p.1 ≠ D) ∧ Same H2 H3) ⟨[], upd_same, rfl, fun p h => absurd h List.not_mem_nil, same_new nD⟩ (fun i H3 _ hP => by obtain ⟨_, _, _, _, sm⟩ := hP; exact SqL.of (sm _ _ t2)) (fun i x H3 hx hP => ?_) (fun H3 hP => ?_)
      · obtain ⟨qs, hD3, hql, hq3, sm⟩ := hP
        rw [List.getElem?_map] at hx
        cases ep : ps[i]? with
        | none => rw [ep] at hx; cases hx
        | some p =>
          rw [ep] at hx
          have ex : V.ref p.1 = x := Option.some.inj hx
          subst ex
          have hi := (List.getElem?_eq_some_iff.mp ep).1
          obtain ⟨e1, e2, e3⟩ := p2 p (List.mem_of_getElem? ep)
          refine ⟨rfl, _, rfl, p.1, _, rfl, .inl (SqL.of (sm _ _ e1)), fun u nu => ?_⟩
          have s4 := same_new (o := .lst (p.2.map V.int)) nu
          have nuD : u ≠ D := (ne_of_none hD3 nu).symm
          have nud : u ≠ d := (D2.same sm).ne nu
          refine ⟨_, s4 _ _ hD3, line_lt (by rw [List.length_map]; omega), qs ++ [(u, p.2)], by rw [upd_same]; unfold pV; rw [List.map_append]; rfl, by rw [List.length_append, hql]; rfl, fun x hx => ?_, fun b o e => ?_⟩
          · rcases List.mem_append.mp hx with h | h
            · obtain ⟨g1, g2, g3, g4⟩ := hq3 x h
              exact ⟨by rw [upd_ne g4]; exact s4 _ _ g1, g2, g3, g4⟩
            · rw [List.mem_singleton.mp h]
              exact ⟨by rw [upd_ne nuD, upd_same], e2, nud, nuD⟩
          · rw [upd_ne (ne_of_none e nD)]
            exact s4 _ _ (sm _ _ e)
      · obtain ⟨qs, hD3, hql, hq3, sm⟩ := hP
        rw [List.length_map] at hql
        exact fin D qs H3 hD3 (fun p hp => ⟨(hq3 p hp).1, (hq3 p hp).2.1, (hq3 p hp).2.2.1⟩) (by omega) nDd (D2.same sm) (k12.trans (KeepD.of_same sm))
    -- way 4
    refine ⟨_, rfl, rfl, _, rfl, ite2 (fun _ => ?_) (fun z4 => ?_)⟩
    · refine ⟨_, rfl, _, rfl, _, rfl, l, _, rfl, SqL.of t2, fun b1 nb1 => ?_⟩
      rw [cut_prs]
      have s1 := same_new (o := .lst (pV (cutP ps none (some (c : Int))))) nb1
      have hb1 : (upd H2 b1 (.lst (pV (cutP ps none (some (c : Int)))))) b1 = _ := upd_same
      have nb1d := D2.ne nb1
      have D3 := D2.same s1
      generalize upd H2 b1 (.lst (pV (cutP ps none (some (c : Int))))) = H3 at s1 hb1 D3 ⊢
      obtain ⟨p, ep⟩ : ∃ p, ps[c]? = some p := ⟨ps[c]'(by omega), List.getElem?_eq_getElem (by omega)⟩
      obtain ⟨e1, e2, e3⟩ := p2 p (List.mem_of_getElem? ep)
      have epv : (pV ps)[c]? = some (V.ref p.1) := by rw [List.getElem?_map, ep]; rfl
      refine ⟨_, rfl, _, rfl, _, rfl, l, _, _, _, rfl, rfl, SqL.of (s1 _ _ t2), at_of (j := c) rfl epv, d, p.1, n, p.2, rfl, D3, s1 _ _ e1, e2, hO.n1, hO.n2, fun ms u H4 om nu hu nud D4 k4 => ?_⟩
      refine ⟨line_small (by show 1 ≤ 16777216; decide), fun b2 nb2 => ?_⟩
      have s5 := same_new (o := .lst [.ref u]) nb2
      have hb1' := s5 _ _ (k4 _ _ hb1 nb1d)
      have c1 := cutP_len ps none (some (c : Int))
      have c2 := cutP_len ps (some ((c : Int) + 1)) none
      refine ⟨b1, b2, _, _, rfl, rfl, hb1', upd_same, line_small (by rw [List.length_map]; show _ + 1 ≤ 16777216; omega), fun b3 nb3 => ?_⟩
      have s6 := s5.trans (same_new (o := .lst (pV (cutP ps none (some (c : Int))) ++ [.ref u])) nb3)
      have k6 : KeepD d H2 (upd (upd H4 b2 (.lst [.ref u])) b3 (.lst (pV (cutP ps none (some (c : Int))) ++ [.ref u]))) := ((KeepD.of_same s1).trans k4).trans (KeepD.of_same s6)
      have hb3 : (upd (upd H4 b2 (.lst [.ref u])) b3 (.lst (pV (cutP ps none (some (c : Int))) ++ [.ref u]))) b3 = _ := upd_same
      have hu6 := s6 _ _ hu
      have D6 := D4.same s6
      generalize upd (upd H4 b2 (.lst [.ref u])) b3 (.lst (pV (cutP ps none (some (c : Int))) ++ [.ref u])) = H6 at k6 hb3 hu6 D6 ⊢
      have t6 := k6 l _ t2 nld
      refine ⟨_, rfl, _, rfl, (c : Int), 1, rfl, rfl, _, rfl, l, _, rfl, SqL.of t6, fun b4 nb4 => ?_⟩
      rw [cut_prs]
      have s7 := same_new (o := .lst (pV (cutP ps (some ((c : Int) + 1)) none))) nb4
      refine ⟨b3, b4, _, _, rfl, rfl, s7 _ _ hb3, upd_same, line_small (by rw [List.length_append, List.length_map, List.length_map]; show _ + 1 + _ ≤ 16777216; omega), fun b5 nb5 => ?_⟩
      have s8 := s7.trans (same_new (o := .lst ((pV (cutP ps none (some (c : Int))) ++ [.ref u]) ++ pV (cutP ps (some ((c : Int) + 1)) none))) nb5)
      refine fin b5 ((cutP ps none (some (c : Int)) ++ [(u, ms)]) ++ cutP ps (some ((c : Int) + 1)) none) _ (by rw [upd_same]; unfold pV; rw [List.map_append, List.map_append]; rfl) (fun p hp => ?_) (by rw [List.length_append, List.length_append]; show _ + 1 + _ ≤ 20; omega) ((D6.same s7).ne nb5) (D6.same s8) (k12.trans (k6.trans (KeepD.of_same s8)))
      rcases List.mem_append.mp hp with h | h
      · rcases List.mem_append.mp h with h | h
        · obtain ⟨e1, e2, e3⟩ := p2 p (cutP_mem h)
          exact ⟨s8 _ _ (k6 _ _ e1 e3), e2, e3⟩
        · rw [List.mem_singleton.mp h]
          exact ⟨s8 _ _ hu6, om, nud⟩
      · obtain ⟨e1, e2, e3⟩ := p2 p (cutP_mem h)
        exact ⟨s8 _ _ (k6 _ _ e1 e3), e2, e3⟩
    -- sorted
    refine ⟨_, rfl, l, ps, rfl, SqL.of t2, fun p hp => dp_list (p2 p hp).1, fun b1 nb1 => ?_⟩
    have s1 := same_new (o := .lst (pV (rowsR ps))) nb1
    have hpm := rowsR_perm ps
    refine fin b1 (rowsR ps) _ upd_same (fun p hp => ?_) (by rw [List.Perm.length_eq hpm]; omega) (D2.ne nb1) (D2.same s1) (k12.trans (KeepD.of_same s1))
    obtain ⟨e1, e2, e3⟩ := p2 p ((List.Perm.mem_iff hpm).mp hp)
    exact ⟨s1 _ _ e1, e2, e3⟩
end
end Fo
namespace Fo
open PySem PySem.Spec PyProof.Rows L2
/-! ### sums -/
def ind (b : Bool) : Nat := if b then 1 else 0
def sumN (l : List Int) (f : Int → Nat) : Nat := (l.map f).sum
theorem sumN_nil (f : Int → Nat) : sumN [] f = 0 := rfl
theorem sumN_cons (a : Int) (l : List Int) (f : Int → Nat) : sumN (a :: l) f = f a + sumN l f := by
  unfold sumN
  rw [List.map_cons, List.sum_cons]
theorem sumN_append (l m : List Int) (f : Int → Nat) : sumN (l ++ m) f = sumN l f + sumN m f := by
  unfold sumN
  rw [List.map_append, List.sum_append]
theorem sumN_perm {l m : List Int} (h : l.Perm m) (f : Int → Nat) : sumN l f = sumN m f := by
  induction h with
  | nil => rfl
  | cons x _ ih => rw [sumN_cons, sumN_cons, ih]
  | swap x y l => rw [sumN_cons, sumN_cons, sumN_cons, sumN_cons]; omega
  | trans _ _ h1 h2 => exact h1.trans h2
theorem sumN_congr {l : List Int} {f g : Int → Nat} (h : ∀ x ∈ l, f x = g x) : sumN l f = sumN l g := by
  unfold sumN
  rw [List.map_congr_left h]
theorem sumN_map (l : List Int) (g : Int → Int) (f : Int → Nat) : sumN (l.map g) f = sumN l (fun x => f (g x)) := by
  unfold sumN
  rw [List.map_map]
  rfl
theorem sumN_zero {l : List Int} {f : Int → Nat} (h : ∀ x ∈ l, f x = 0) : sumN l f = 0 := by
  rw [sumN_congr h]
  induction l with
  | nil => rfl
  | cons a l ih => rw [sumN_cons, ih fun x hx => h x (List.mem_cons_of_mem _ hx)]
theorem sumN_add (l : List Int) (f g : Int → Nat) : sumN l (fun x => f x + g x) = sumN l f + sumN l g := by
  induction l with
  | nil => rfl
  | cons a l ih => rw [sumN_cons, sumN_cons, sumN_cons, ih]; omega
theorem sumN_swap (l m : List Int) (f : Int → Int → Nat) : sumN l (fun i => sumN m (fun j => f i j)) = sumN m (fun j => sumN l (fun i => f i j)) := by
  induction l with
  | nil => exact (sumN_zero fun x _ => rfl).symm
  | cons a l ih =>
    rw [sumN_cons, ih, ← sumN_add]
    exact sumN_congr fun x _ => by rw [sumN_cons]
theorem filter_len (l : List Int) (p : Int → Bool) : (l.filter p).length = sumN l (fun x => ind (p x)) := by
  induction l with
  | nil => rfl
  | cons a l ih =>
    rw [sumN_cons, List.filter_cons]
    unfold ind at ih ⊢
    cases p a
    · simp only [Bool.false_eq_true, if_false]; omega
    · simp only [if_true, List.length_cons]; omega
/-! ### a list by its places -/
def g0 (s : List Int) (i : Int) : Int := s.getD i.toNat 0
theorem g0_at {s : List Int} {i : Nat} {x : Int} (h : s[i]? = some x) : g0 s (i : Int) = x := by
  unfold g0
  rw [Int.toNat_natCast, List.getD_eq_getElem?_getD, h]
  rfl
theorem by_places (s : List Int) : s = (rg s.length).map (g0 s) := by
  apply List.ext_getElem?
  intro i
  unfold rg
  rw [List.getElem?_map, List.getElem?_map]
  by_cases h : i < s.length
  · rw [List.getElem?_range h, List.getElem?_eq_getElem h]
    show some s[i] = some (g0 s (i : Int))
    rw [g0_at (List.getElem?_eq_getElem h)]
  · rw [List.getElem?_eq_none (by omega), List.getElem?_eq_none (by rw [List.length_range]; omega)]
    rfl
theorem rg_succ (n : Nat) : rg (n + 1) = rg n ++ [(n : Int)] := by
  unfold rg
  rw [List.range_succ, List.map_append]
  rfl
/-- how many of the later ones are less -/
def cntL (s : List Int) (i : Nat) : Nat := ((s.drop (i + 1)).filter (fun x => decide (x < g0 s i))).length
def invF (n : Nat) (a : Int → Int) : Nat := sumN (rg n) fun i => sumN (rg n) fun j => ind (decide (i < j) && decide (a j < a i))
def invN (s : List Int) : Nat := sumN (rg s.length) fun i => cntL s i.toNat
theorem drop_sum (n i : Nat) (f : Int → Nat) : sumN ((rg n).drop (i + 1)) f = sumN (rg n) fun j => if (i : Int) < j then f j else 0 := by
  induction n with
  | zero => rfl
  | succ n ih =>
    rw [rg_succ, sumN_append, ← ih, List.drop_append, sumN_append, rg_len]
    congr 1
    by_cases h : i + 1 ≤ n
    · rw [show i + 1 - n = 0 by omega, List.drop_zero, sumN_cons, sumN_cons, sumN_nil, sumN_nil, if_pos (by omega)]
    · rw [show i + 1 - n = (i - n) + 1 by omega, List.drop_succ_cons, List.drop_nil, sumN_cons, sumN_nil, sumN_nil, if_neg (by omega)]
theorem cnt_sum (s : List Int) (i : Nat) : cntL s i = sumN (rg s.length) fun j => ind (decide ((i : Int) < j) && decide (g0 s j < g0 s i)) := by
  unfold cntL
  rw [filter_len]
  have e : s.drop (i + 1) = ((rg s.length).drop (i + 1)).map (g0 s) := by
    rw [List.map_drop, ← by_places]
  rw [e, sumN_map, drop_sum]
  apply sumN_congr
  intro j _
  unfold ind
  by_cases h : (i : Int) < j
  · simp [h]
  · simp [h]
theorem inv_eq (s : List Int) : invN s = invF s.length (g0 s) := by
  unfold invN invF
  apply sumN_congr
  intro i hi
  have := rg_mem.mp hi
  rw [cnt_sum, Int.toNat_of_nonneg this.1]
/-! ### places of things -/
def pos (ys : List Int) (x : Int) : Int := ((ys.idxOf x : Nat) : Int)
def seatsL (xs ys : List Int) : List Int := xs.map (pos ys)
theorem pos_of {n : Nat} {ys : List Int} (o : IsOrd n ys) {j : Nat} {x : Int} (h : ys[j]? = some x) : pos ys x = (j : Int) := by
  obtain ⟨hj, e⟩ := List.getElem?_eq_some_iff.mp h
  have m : x ∈ ys := List.mem_of_getElem? h
  have hi : ys.idxOf x < ys.length := List.idxOf_lt_length_iff.mpr m
  have h2 : ys[ys.idxOf x]? = some x := by
    rw [List.getElem?_eq_getElem hi]
    exact congrArg some (List.getElem_idxOf hi)
  unfold pos
  rw [nd_ix o.nodup h2 h]
theorem pos_at {n : Nat} {ys : List Int} (o : IsOrd n ys) {x : Int} (h0 : 0 ≤ x) (h1 : x < n) : ∃ j : Nat, j < n ∧ ys[j]? = some x ∧ pos ys x = (j : Int) := by
  obtain ⟨j, hj, e⟩ := ord_at o (t := x.toNat) (by omega)
  rw [Int.toNat_of_nonneg h0] at e
  exact ⟨j, hj, e, pos_of o e⟩
theorem back_pos {n : Nat} {ys ps : List Int} (o : IsOrd n ys) (h : IsBack ys ps) {x : Int} (h0 : 0 ≤ x) (h1 : x < n) : ps[x.toNat]? = some (pos ys x) := by
  obtain ⟨j, hj, e, ep⟩ := pos_at o h0 h1
  rw [ep]
  exact h.2 j x e
theorem seats_len (xs ys : List Int) : (seatsL xs ys).length = xs.length := by
  unfold seatsL
  rw [List.length_map]
theorem seats_at {xs ys : List Int} {i : Nat} {x : Int} (h : xs[i]? = some x) : (seatsL xs ys)[i]? = some (pos ys x) := by
  unfold seatsL
  rw [List.getElem?_map, h]
  rfl
theorem seats_self {n : Nat} {ys : List Int} (o : IsOrd n ys) : seatsL ys ys = rg n := by
  apply List.ext_getElem?
  intro i
  by_cases h : i < n
  · obtain ⟨x, hx, _⟩ := ord_ix o h
    rw [seats_at hx, pos_of o hx]
    unfold rg
    rw [List.getElem?_map, List.getElem?_range h]
    rfl
  · rw [List.getElem?_eq_none (by rw [seats_len, o.len]; omega), List.getElem?_eq_none (by rw [rg_len]; omega)]
theorem seats_ord {n : Nat} {xs ys : List Int} (ox : IsOrd n xs) (oy : IsOrd n ys) : IsOrd n (seatsL xs ys) := by
  have h : (seatsL xs ys).Perm (seatsL ys ys) := List.Perm.map _ (ox.trans oy.symm)
  rw [seats_self oy] at h
  exact h
theorem g0_ord {n : Nat} {s : List Int} (o : IsOrd n s) : s = (rg n).map (g0 s) := by
  have e := by_places s
  rw [o.len] at e
  exact e
/-- inversions from the other side -/
theorem inv_turn {n : Nat} {s t : List Int} (os : IsOrd n s) (ot : IsOrd n t) (h : ∀ u ∈ rg n, g0 s (g0 t u) = u) : invN s = invN t := by
  rw [inv_eq, inv_eq, os.len, ot.len]
  unfold invF
  have p1 : ∀ f : Int → Nat, sumN (rg n) f = sumN (rg n) fun u => f (g0 t u) := fun f => by
    have e : sumN ((rg n).map (g0 t)) f = sumN (rg n) fun u => f (g0 t u) := sumN_map _ _ _
    rw [← e, ← g0_ord ot]
    exact (sumN_perm ot f).symm
  rw [p1]
  rw [sumN_congr (g := fun u => sumN (rg n) fun v => ind (decide (g0 t u < g0 t v) && decide (v < u))) (fun u hu => by
    rw [p1]
    exact sumN_congr fun v hv => by rw [h u hu, h v hv])]
  rw [sumN_swap]
  apply sumN_congr
  intro v _
  apply sumN_congr
  intro u _
  rw [Bool.and_comm]
theorem seats_turn {n : Nat} {xs ys : List Int} (ox : IsOrd n xs) (oy : IsOrd n ys) : ∀ u ∈ rg n, g0 (seatsL xs ys) (g0 (seatsL ys xs) u) = u := by
  intro u hu
  have hb := rg_mem.mp hu
  obtain ⟨y, hy, y0, y1⟩ := ord_ix oy (j := u.toNat) (by omega)
  have e1 : g0 (seatsL ys xs) u = pos xs y := by
    have := g0_at (seats_at (ys := xs) hy)
    rw [Int.toNat_of_nonneg hb.1] at this
    exact this
  obtain ⟨j, hj, ej, pj⟩ := pos_at ox y0 y1
  rw [e1, pj, g0_at (seats_at (ys := ys) ej), pos_of oy hy]
  omega
/-! ### how far two orders are -/
def farSwap (xs ys : List Int) : Int := ((invN (seatsL xs ys) : Nat) : Int)
def spotL (xs ys : List Int) : List Int := (rg xs.length).filter fun p => !decide (g0 xs p = g0 ys p)
def farSpot (xs ys : List Int) : Int := (((spotL xs ys).length : Nat) : Int)
def absI (i : Int) : Int := if i < 0 then -i else i
def gapsL (xs ys : List Int) : List Int := (rg xs.length).map fun p => absI (p - g0 (seatsL xs ys) p)
def maxL (l : List Int) : Int := l.foldr max 0
def farShift (xs ys : List Int) : Int := maxL (gapsL xs ys)
theorem maxL_of : ∀ {l : List Int} {m : Int}, (∀ x ∈ l, 0 ≤ x) → m ∈ l → (∀ x ∈ l, x ≤ m) → maxL l = m := by
  intro l m h0 hm hle
  have key : ∀ l : List Int, (∀ x ∈ l, x ≤ m) → maxL l ≤ m := by
    intro l hl
    induction l with
    | nil => exact h0 m hm
    | cons a l ih =>
      show max a (maxL l) ≤ m
      have h1 := hl a List.mem_cons_self
      have h2 := ih fun x hx => hl x (List.mem_cons_of_mem _ hx)
      omega
  have key2 : ∀ l : List Int, ∀ x ∈ l, x ≤ maxL l := by
    intro l
    induction l with
    | nil => intro x hx; exact absurd hx List.not_mem_nil
    | cons a l ih =>
      intro x hx
      show x ≤ max a (maxL l)
      rcases List.mem_cons.mp hx with rfl | hx
      · omega
      · have := ih x hx
        omega
  have := key l hle
  have := key2 l m hm
  omega
theorem gaps_nonneg (xs ys : List Int) : ∀ x ∈ gapsL xs ys, 0 ≤ x := by
  intro x hx
  obtain ⟨p, _, rfl⟩ := List.mem_map.mp hx
  unfold absI
  split <;> omega
theorem maxL_mem {l : List Int} (h0 : ∀ x ∈ l, 0 ≤ x) (hl : 0 < l.length) : maxL l ∈ l ∧ ∀ x ∈ l, x ≤ maxL l := by
  induction l with
  | nil => exact absurd hl (Nat.lt_irrefl _)
  | cons a l ih =>
    show max a (maxL l) ∈ a :: l ∧ ∀ x ∈ a :: l, x ≤ max a (maxL l)
    by_cases c : 0 < l.length
    · obtain ⟨h1, h2⟩ := ih (fun x hx => h0 x (List.mem_cons_of_mem _ hx)) c
      constructor
      · by_cases d : maxL l ≤ a
        · rw [Int.max_eq_left d]
          exact List.mem_cons_self
        · rw [Int.max_eq_right (by omega)]
          exact List.mem_cons_of_mem _ h1
      · intro x hx
        rcases List.mem_cons.mp hx with rfl | hx
        · omega
        · have := h2 x hx
          omega
    · have e : l = [] := List.eq_nil_of_length_eq_zero (by omega)
      subst e
      have := h0 a List.mem_cons_self
      have e2 : max a (maxL []) = a := by show max a 0 = a; omega
      rw [e2]
      exact ⟨List.mem_cons_self, fun x hx => by rw [List.mem_singleton.mp hx]; exact Int.le_refl _⟩
theorem farSwap_turn {n : Nat} {xs ys : List Int} (ox : IsOrd n xs) (oy : IsOrd n ys) : farSwap ys xs = farSwap xs ys := by
  unfold farSwap
  rw [inv_turn (seats_ord ox oy) (seats_ord oy ox) (seats_turn ox oy)]
theorem inv_rg (n : Nat) : invN (rg n) = 0 := by
  rw [inv_eq]
  unfold invF
  apply sumN_zero
  intro i hi
  apply sumN_zero
  intro j hj
  rw [rg_len] at hi hj
  have hi2 := rg_mem.mp hi
  have hj2 := rg_mem.mp hj
  have e : ∀ k : Int, k ∈ rg n → g0 (rg n) k = k := fun k hk => by
    have := rg_mem.mp hk
    have z : (rg n)[k.toNat]? = some k := by
      unfold rg
      rw [List.getElem?_map, List.getElem?_range (by omega)]
      show some ((k.toNat : Nat) : Int) = some k
      rw [Int.toNat_of_nonneg this.1]
    have z2 := g0_at z
    rw [Int.toNat_of_nonneg this.1] at z2
    exact z2
  rw [e i hi, e j hj]
  unfold ind
  by_cases c : i < j
  · have d : ¬ j < i := by omega
    simp [c, d]
  · simp [c]
theorem farSwap_self {n : Nat} {xs : List Int} (ox : IsOrd n xs) : farSwap xs xs = 0 := by
  unfold farSwap
  rw [seats_self ox, inv_rg]
  rfl
theorem farSpot_turn {xs ys : List Int} (h : xs.length = ys.length) : farSpot ys xs = farSpot xs ys := by
  unfold farSpot spotL
  rw [h]
  congr 3
  funext p
  congr 1
  by_cases c : g0 ys p = g0 xs p
  · rw [decide_eq_true c, decide_eq_true c.symm]
  · rw [decide_eq_false c, decide_eq_false fun e => c e.symm]
theorem farSpot_self (xs : List Int) : farSpot xs xs = 0 := by
  unfold farSpot spotL
  have e : ((rg xs.length).filter fun p => !decide (g0 xs p = g0 xs p)) = [] := by
    rw [List.filter_eq_nil_iff]
    intro a _
    simp
  rw [e]
  rfl
theorem gaps_len (xs ys : List Int) : (gapsL xs ys).length = xs.length := by
  unfold gapsL
  rw [List.length_map, rg_len]
theorem gaps_sub {n : Nat} {xs ys : List Int} (ox : IsOrd n xs) (oy : IsOrd n ys) : ∀ g ∈ gapsL ys xs, g ∈ gapsL xs ys := by
  intro g hg
  obtain ⟨u, hu, rfl⟩ := List.mem_map.mp hg
  rw [oy.len] at hu
  have hb := (seats_ord oy ox).mem (x := g0 (seatsL ys xs) u) (by
    have e := g0_ord (seats_ord oy ox)
    rw [e]
    exact List.mem_map.mpr ⟨u, hu, by rw [← e]⟩)
  refine List.mem_map.mpr ⟨g0 (seatsL ys xs) u, by rw [ox.len]; exact rg_mem.mpr hb, ?_⟩
  rw [seats_turn ox oy u hu]
  unfold absI
  split <;> split <;> omega
theorem farShift_turn {n : Nat} {xs ys : List Int} (ox : IsOrd n xs) (oy : IsOrd n ys) (hn : 1 ≤ n) : farShift ys xs = farShift xs ys := by
  unfold farShift
  obtain ⟨h1, h2⟩ := maxL_mem (gaps_nonneg xs ys) (by rw [gaps_len, ox.len]; exact hn)
  exact maxL_of (gaps_nonneg ys xs) (gaps_sub oy ox _ h1) fun x hx => h2 x (gaps_sub ox oy x hx)
theorem farShift_self {n : Nat} {xs : List Int} (ox : IsOrd n xs) (hn : 1 ≤ n) : farShift xs xs = 0 := by
  unfold farShift
  have z : ∀ g ∈ gapsL xs xs, g = 0 := by
    intro g hg
    obtain ⟨u, hu, rfl⟩ := List.mem_map.mp hg
    rw [ox.len] at hu
    have hb := rg_mem.mp hu
    rw [seats_self ox]
    have e : (rg n)[u.toNat]? = some u := by
      unfold rg
      rw [List.getElem?_map, List.getElem?_range (by omega)]
      show some ((u.toNat : Nat) : Int) = some u
      rw [Int.toNat_of_nonneg hb.1]
    have z2 := g0_at e
    rw [Int.toNat_of_nonneg hb.1] at z2
    rw [z2]
    unfold absI
    split <;> omega
  obtain ⟨h1, _⟩ := maxL_mem (gaps_nonneg xs xs) (by rw [gaps_len, ox.len]; exact hn)
  exact z _ h1
end Fo
namespace Fo
open PySem PySem.Spec PyProof.Rows L2
theorem pos_ord {n : Nat} {xs : List Int} (o : IsOrd n xs) : IsOrd n ((rg n).map (pos xs)) := by
  have h : ((rg n).map (pos xs)).Perm (seatsL xs xs) := List.Perm.map _ o.symm
  rw [seats_self o] at h
  exact h
theorem pos_in {n : Nat} {xs : List Int} (o : IsOrd n xs) {t : Int} (h : t ∈ rg n) : pos xs t ∈ rg n := by
  have := (pos_ord o).mem (List.mem_map.mpr ⟨t, h, rfl⟩)
  exact rg_mem.mpr this
theorem pos_inj {n : Nat} {xs : List Int} (o : IsOrd n xs) {t u : Int} (ht : t ∈ rg n) (hu : u ∈ rg n) (e : pos xs t = pos xs u) : t = u := by
  have h1 := rg_mem.mp ht
  have h2 := rg_mem.mp hu
  obtain ⟨i, _, ei, pi⟩ := pos_at o h1.1 h1.2
  obtain ⟨j, _, ej, pj⟩ := pos_at o h2.1 h2.2
  have : i = j := by omega
  subst this
  exact Option.some.inj (ei.symm.trans ej)
/-- a sum over the places is a sum over the things -/
theorem sum_pos {n : Nat} {xs : List Int} (o : IsOrd n xs) (f : Int → Nat) : sumN (rg n) f = sumN (rg n) fun t => f (pos xs t) := by
  have e : sumN ((rg n).map (pos xs)) f = sumN (rg n) fun t => f (pos xs t) := sumN_map _ _ _
  rw [← e]
  exact (sumN_perm (pos_ord o) f).symm
theorem sum_g0 {n : Nat} {xs : List Int} (o : IsOrd n xs) (f : Int → Nat) : sumN (rg n) f = sumN (rg n) fun p => f (g0 xs p) := by
  have e : sumN ((rg n).map (g0 xs)) f = sumN (rg n) fun t => f (g0 xs t) := sumN_map _ _ _
  rw [← e, ← g0_ord o]
  exact (sumN_perm o f).symm
theorem g0_pos {n : Nat} {xs : List Int} (o : IsOrd n xs) {t : Int} (h : t ∈ rg n) : g0 xs (pos xs t) = t := by
  have h1 := rg_mem.mp h
  obtain ⟨j, _, ej, pj⟩ := pos_at o h1.1 h1.2
  rw [pj]
  exact g0_at ej
theorem pos_g0 {n : Nat} {xs : List Int} (o : IsOrd n xs) {p : Int} (h : p ∈ rg n) : pos xs (g0 xs p) = p := by
  have h1 := rg_mem.mp h
  obtain ⟨x, hx, _⟩ := ord_ix o (j := p.toNat) (by omega)
  have e := g0_at hx
  rw [Int.toNat_of_nonneg h1.1] at e
  rw [e, pos_of o hx]
  omega
theorem g0_in {n : Nat} {xs : List Int} (o : IsOrd n xs) {p : Int} (h : p ∈ rg n) : g0 xs p ∈ rg n := by
  have h1 := rg_mem.mp h
  obtain ⟨x, hx, x0, x1⟩ := ord_ix o (j := p.toNat) (by omega)
  have e := g0_at hx
  rw [Int.toNat_of_nonneg h1.1] at e
  rw [e]
  exact rg_mem.mpr ⟨x0, x1⟩
end Fo
namespace Fo
open PySem PySem.Spec PyProof.Rows L2
def spChecks : Sp := fun vs H Q _ => ∃ (a b : Addr) (n m : Nat) (ns ms : List Int), vs = [.ref a, .ref b] ∧ H a = some (.lst (ns.map V.int)) ∧ H b = some (.lst (ms.map V.int)) ∧ IsOrd n ns ∧ 1 ≤ n ∧ n ≤ 12 ∧ IsOrd m ms ∧ 1 ≤ m ∧ m ≤ 12 ∧ ∀ H', Same H H' → Q .non H'
def spFit : Sp := fun vs H Q _ => ∃ (a b : Addr) (ns ms : List Int), vs = [.ref a, .ref b] ∧ H a = some (.lst (ns.map V.int)) ∧ H b = some (.lst (ms.map V.int)) ∧ ns.length = ms.length ∧ Q .non H
def spBehind : Sp := fun vs H Q _ => ∃ (a b : Addr) (n : Nat) (ns ms : List Int), vs = [.ref a, .ref b] ∧ H a = some (.lst (ns.map V.int)) ∧ H b = some (.lst (ms.map V.int)) ∧ IsOrd n ns ∧ IsOrd n ms ∧ 1 ≤ n ∧ n ≤ 12 ∧
  ∀ (l : Addr) (H' : Hp), H l = none → H' l = some (.lst ((behindL ns ms).map V.int)) → Same H H' → Q (.ref l) H'
section
variable {P : Program} {w : World} {K : PySem.W.Frag} {mg : Str → Option Value} {base : Heap}
theorem scChecks : FnScope ["one", "other"] ["one", "other"] (defScope s_check_orders) := ⟨rfl, rfl, rfl, by decide +kernel, rfl, by decide +kernel, by decide +kernel⟩
theorem ok_checks {f fC : Addr} {fd fdC : FuncData} {k : Nat} (T : Df K mg "check_orders" s_check_orders ["one", "other"] f fd) (T_check_order : Df K mg "check_order" s_check_order ["thing"] fC fdC) (G_check_order : FnOk P w K mg base CX0 k fC fdC ["thing"] spCheck) : FnOk P w K mg base CX0 (k + 1) f fd ["one", "other"] spChecks := by
  refine T.F.ok scChecks (fun vs H Q E h => ?_) (fun cdv A outer s H vs Q E hr h => ?_)
  · obtain ⟨a, b, n, m, ns, ms, rfl, _⟩ := h
    rfl
  · obtain ⟨a, b, n, m, ns, ms, rfl, ha, hb, o1, n1, n2, o2, m1, m2, q⟩ := h
    refine ⟨_, 
      (pss_cons (ps_expr (pe_call G_check_order hr (by rfl) T_check_order.g T_check_order.F.kp T_check_order.b .nil pass0 (pa_cons (pv 0) pa_nil)))
      (pss_one (ps_expr (pe_call G_check_order hr (by rfl) T_check_order.g T_check_order.F.kp T_check_order.b .nil pass0 (pa_cons (pv 1) pa_nil))))), ?_⟩
    refine ⟨_, rfl, a, n, ns, rfl, ha, o1, n1, n2, fun H1 s1 => ?_⟩
    exact ⟨_, rfl, b, m, ms, rfl, s1 _ _ hb, o2, m1, m2, fun H2 s2 => q H2 (s1.trans s2)⟩
theorem scFit : FnScope ["one", "other"] ["one", "other"] (defScope s_check_fit) := ⟨rfl, rfl, rfl, by decide +kernel, rfl, by decide +kernel, by decide +kernel⟩
theorem ok_fit {f : Addr} {fd : FuncData} {k : Nat} (T : Df K mg "check_fit" s_check_fit ["one", "other"] f fd) (B : Bi mg) : FnOk P w K mg base CX0 (k + 1) f fd ["one", "other"] spFit := by
  refine T.F.ok scFit (fun vs H Q E h => ?_) (fun cdv A outer s H vs Q E hr h => ?_)
  · obtain ⟨a, b, ns, ms, rfl, _⟩ := h
    rfl
  · obtain ⟨a, b, ns, ms, rfl, ha, hb, e, q⟩ := h
    refine ⟨_, 
      (pss_one (ps_if (pt_cmpR op_ne (pe_callB call_len_seq (by rfl) B.len PySem.boot_len (pa_cons (pv 0) pa_nil)) (pe_callB call_len_seq (by rfl) B.len PySem.boot_len (pa_cons (pv 1) pa_nil)) (nomark _))
        (pss_one ps_never)
        pss_nil)), ?_⟩
    refine ⟨_, rfl, a, _, rfl, .inl (SqL.of ha), _, rfl, b, _, rfl, .inl (SqL.of hb), rfl, _, rfl, ?_⟩
    rw [List.length_map, List.length_map, e]
    exact iteNS rfl q
end
end Fo
namespace Fo
open PySem PySem.Spec PyProof.Rows L2
def spPlaces : Sp := fun vs H Q _ => ∃ (a : Addr) (n : Nat) (ns : List Int), vs = [.ref a] ∧ H a = some (.lst (ns.map V.int)) ∧ IsOrd n ns ∧ 1 ≤ n ∧ n ≤ 12 ∧
  ∀ (ps : List Int) (l : Addr) (H' : Hp), IsBack ns ps → H l = none → H' l = some (.lst (ps.map V.int)) → Same H H' → Q (.ref l) H'
section
variable {P : Program} {w : World} {K : PySem.W.Frag} {mg : Str → Option Value} {base : Heap}
theorem scPlaces : FnScope ["order", "places", "place", "thing"] ["order"] (defScope s_places_in) := ⟨rfl, rfl, rfl, by decide +kernel, rfl, by decide +kernel, by decide +kernel⟩
set_option maxHeartbeats 2000000 in
theorem ok_places {f : Addr} {fd : FuncData} {k : Nat} (T : Df K mg "places_in" s_places_in ["order"] f fd) (B : Bi mg) : FnOk P w K mg base CX0 (k + 1) f fd ["order"] spPlaces := by
  refine T.F.ok scPlaces (fun vs H Q E h => ?_) (fun cdv A outer s H vs Q E hr h => ?_)
  · obtain ⟨a, n, ns, rfl, _⟩ := h
    rfl
  · obtain ⟨a, n, ns, rfl, ha, ho, hn1, hn2, q⟩ := h
    have hlm : (ns.map V.int).length = n := by rw [List.length_map, ho.len]
    have hz : ∀ m : Nat, (List.replicate m [V.int 0]).flatten = (List.replicate m (0 : Int)).map V.int := by
      intro m
      induction m with
      | zero => rfl
      | succ m ih => rw [List.replicate_succ, List.replicate_succ, List.flatten_cons, ih]; rfl
    refine ⟨_, 
      (pss_cons (ps_set (i := 1) scPlaces.nd rfl (.inl rfl) (pe_op op_rep (pe_lst (pa_cons pe_int pa_nil)) (pe_callB call_len_seq (by rfl) B.len PySem.boot_len (pa_cons (pv 0) pa_nil))))
      (pss_cons (ps_for PassesOwn.never rfl (pi_enum (by rfl) B.enumerate (pa_cons (pv 0) pa_nil)) (pg_tup (by rfl) (pgs_cons (pg_name (i := 2) scPlaces.nd rfl (.inl rfl)) (pgs_cons (pg_name (i := 3) scPlaces.nd rfl (.inl rfl)) pgs_nil)))
        (pss_one (ps_asg (pv 2) (pg_sub (pv 1) (pv 3) set_list))))
      (pss_one (ps_ret (pv 1))))), ?_⟩
    refine ⟨line_small (by show 1 ≤ 16777216; decide), fun z nz => ?_⟩
    have s1 := same_new (o := .lst [.int 0]) nz
    refine ⟨_, rfl, a, _, rfl, .inl (SqL.of (s1 _ _ ha)), z, _, _, rfl, rfl, upd_same, by omega, by rw [hlm]; omega, line_small (by rw [hlm, Int.toNat_natCast]; show 1 * n ≤ _; omega), fun l nl => ?_⟩
    have s2 := s1.trans (same_new (o := .lst (List.replicate (((ns.map V.int).length : Nat) : Int).toNat [V.int 0]).flatten) nl)
    have nHl : H l = none := s1.free nl
    refine ⟨_, rfl, a, _, rfl, SqL.of (s2 _ _ ha), ?_⟩
    refine for_enumL (xs := ns.map V.int) (fun i σ H3 => ∃ (y2 y3 : Option V) (ps : List Int), σ = [some (.ref a), some (.ref l), y2, y3] ∧ H3 l = some (.lst (ps.map V.int)) ∧ ps.length = n ∧ (∀ (j : Nat) (x : Int), j < i → ns[j]? = some x → ps[x.toNat]? = some (j : Int)) ∧ Same H H3)
      ⟨none, none, List.replicate n 0, rfl, by rw [upd_same, hz, hlm, Int.toNat_natCast], by rw [List.length_replicate], fun j x hj => absurd hj (Nat.not_lt_zero _), s2⟩ (fun i σ H3 hP => by obtain ⟨_, _, _, _, _, _, _, sm⟩ := hP; exact SqL.of (sm _ _ ha)) (fun i x t σ H3 hx hP nt => ?_) (fun σ H3 hP => ?_)
    · obtain ⟨y2, y3, ps, rfl, hl3, el, hat, sm⟩ := hP
      obtain ⟨y, ey, rfl⟩ := int_at_inv hx
      have hy := ho.mem (List.mem_of_getElem? ey)
      have s3 := same_new (o := .tup [.int (i : Nat), .int y]) nt
      have hl4 := s3 _ _ hl3
      refine ⟨t, _, rfl, .inl (.inl upd_same), rfl, _, _, rfl, _, _, rfl, rfl, ?_⟩
      refine ⟨_, rfl, _, rfl, _, rfl, l, _, _, y.toNat, rfl, rfl, hl4, ix_n (by omega) (by rw [List.length_map]; omega), ?_⟩
      refine ⟨_, _, ps.set y.toNat (i : Int), rfl, by rw [upd_same, List.map_set], by rw [List.length_set]; exact el, fun j x hj hx2 => ?_, fun c o e => ?_⟩
      · by_cases c : j = i
        · subst c
          have e1 : x = y := Option.some.inj (hx2.symm.trans ey)
          subst e1
          rw [List.getElem?_set_self (by omega)]
        · have hx3 := ho.mem (List.mem_of_getElem? hx2)
          have ne : y.toNat ≠ x.toNat := fun e => c (nd_ix ho.nodup hx2 (by rw [ey]; congr 1; omega))
          rw [List.getElem?_set_ne ne]
          exact hat j x (by omega) hx2
      · rw [upd_ne (ne_of_none e nHl)]
        exact s3 _ _ (sm _ _ e)
    · obtain ⟨y2, y3, ps, rfl, hl3, el, hat, sm⟩ := hP
      rw [hlm] at hat
      refine ⟨_, rfl, q ps l H3 ⟨by rw [el, ho.len], fun j x hx => hat j x ?_ hx⟩ nHl hl3 sm⟩
      have := (List.getElem?_eq_some_iff.mp hx).1
      rw [ho.len] at this
      exact this
end
end Fo
namespace Fo
open PySem PySem.Spec PyProof.Rows L2
section
variable {P : Program} {w : World} {K : PySem.W.Frag} {mg : Str → Option Value} {base : Heap}
theorem scBack : FnScope ["order"] ["order"] (defScope s_back_of) := ⟨rfl, rfl, rfl, by decide +kernel, rfl, by decide +kernel, by decide +kernel⟩
theorem ok_back {f fC fP : Addr} {fd fdC fdP : FuncData} {k : Nat} (T : Df K mg "back_of" s_back_of ["order"] f fd) (T_check_order : Df K mg "check_order" s_check_order ["thing"] fC fdC) (T_places_in : Df K mg "places_in" s_places_in ["order"] fP fdP) (G_check_order : FnOk P w K mg base CX0 (k + 1) fC fdC ["thing"] spCheck) (B : Bi mg) : FnOk P w K mg base CX0 (k + 2) f fd ["order"] spPlaces := by
  have G_places_in : FnOk P w K mg base CX0 (k + 1) fP fdP ["order"] spPlaces := ok_places T_places_in B
  refine T.F.ok scBack (fun vs H Q E h => ?_) (fun cdv A outer s H vs Q E hr h => ?_)
  · obtain ⟨a, n, ns, rfl, _⟩ := h
    rfl
  · obtain ⟨a, n, ns, rfl, ha, ho, hn1, hn2, q⟩ := h
    refine ⟨_, 
      (pss_cons (ps_expr (pe_call G_check_order hr (by rfl) T_check_order.g T_check_order.F.kp T_check_order.b .nil pass0 (pa_cons (pv 0) pa_nil)))
      (pss_one (ps_ret (pe_call G_places_in hr (by rfl) T_places_in.g T_places_in.F.kp T_places_in.b .nil pass0 (pa_cons (pv 0) pa_nil))))), ?_⟩
    refine ⟨_, rfl, a, n, ns, rfl, ha, ho, hn1, hn2, fun H1 s1 => ?_⟩
    exact ⟨_, rfl, a, n, ns, rfl, s1 _ _ ha, ho, hn1, hn2, fun ps l H2 hb nl hl s2 => q ps l H2 hb (s1.free nl) hl (s1.trans s2)⟩
end
end Fo
namespace Fo
open PySem PySem.Spec PyProof.Rows L2
section
variable {P : Program} {w : World} {K : PySem.W.Frag} {mg : Str → Option Value} {base : Heap}
theorem scBehind : FnScope ["first", "second", "place"] ["first", "second"] (defScope s_order_behind) := ⟨rfl, rfl, rfl, by decide +kernel, rfl, by decide +kernel, by decide +kernel⟩
set_option maxHeartbeats 2000000 in
theorem ok_behind {f fC fF : Addr} {fd fdC fdF : FuncData} {k : Nat} (T : Df K mg "order_behind" s_order_behind ["first", "second"] f fd) (T_check_orders : Df K mg "check_orders" s_check_orders ["one", "other"] fC fdC) (T_check_fit : Df K mg "check_fit" s_check_fit ["one", "other"] fF fdF) (G_check_orders : FnOk P w K mg base CX0 (k + 1) fC fdC ["one", "other"] spChecks) (B : Bi mg) : FnOk P w K mg base CX0 (k + 2) f fd ["first", "second"] spBehind := by
  have G_check_fit : FnOk P w K mg base CX0 (k + 1) fF fdF ["one", "other"] spFit := ok_fit T_check_fit B
  refine T.F.ok scBehind (fun vs H Q E h => ?_) (fun cdv A outer s H vs Q E hr h => ?_)
  · obtain ⟨a, b, n, ns, ms, rfl, _⟩ := h
    rfl
  · obtain ⟨a, b, n, ns, ms, rfl, ha, hb, o1, o2, hn1, hn2, q⟩ := h
    refine ⟨_, 
      (pss_cons (ps_expr (pe_call G_check_orders hr (by rfl) T_check_orders.g T_check_orders.F.kp T_check_orders.b .nil pass0 (pa_cons (pv 0) (pa_cons (pv 1) pa_nil))))
      (pss_cons (ps_expr (pe_call G_check_fit hr (by rfl) T_check_fit.g T_check_fit.F.kp T_check_fit.b .nil pass0 (pa_cons (pv 0) (pa_cons (pv 1) pa_nil))))
      (pss_one (ps_ret (pe_lc (own := [("place", 2)]) (g := (gName 2)) (tt := tYes) (te := (tOp (rIxL K) (tVar 0) (tVar 2))) rfl scBehind.nd (pi_list (pv 1)) (blkOk_by (N := ["first", "second", "place"]) (sc := defScope s_order_behind) (by decide +kernel)) (fun _ _ _ _ _ => (pg_name (i := 2) scBehind.nd rfl (.inl rfl))) (fun _ _ _ _ _ => pts_nil) (fun _ _ _ _ _ => (pe_ix ix_list (pv 0) (pv 2) (fun _ _ => rfl)))))))), ?_⟩
    refine ⟨_, rfl, _, rfl, a, b, n, n, ns, ms, rfl, ha, hb, o1, hn1, hn2, o2, hn1, hn2, fun H1 s1 => ?_⟩
    refine ⟨_, rfl, _, rfl, a, b, ns, ms, rfl, s1 _ _ ha, s1 _ _ hb, by rw [o1.len, o2.len], ?_⟩
    refine ⟨_, rfl, b, rfl, ⟨_, SqL.of (s1 _ _ hb)⟩, fun l nl => ?_⟩
    have nHl : H l = none := s1.free nl
    refine lc_list (K := K) (a := b) (xs := ms.map V.int) (fun i H3 => H3 l = some (.lst (((behindL ns ms).take i).map V.int)) ∧ Same H H3) ⟨upd_same, s1.trans (same_new nl)⟩ (fun i H3 _ hP => SqL.of (hP.2 _ _ hb)) (fun i x H3 hx hP => ?_) (fun H3 hP => ?_)
    · obtain ⟨p, ep, rfl⟩ := int_at_inv hx
      obtain ⟨hl3, sm⟩ := hP
      have hp := o2.mem (List.mem_of_getElem? ep)
      obtain ⟨y, ey, _⟩ := ord_ix o1 (j := p.toNat) (by omega)
      have hi := (List.getElem?_eq_some_iff.mp ep).1
      rw [o2.len] at hi
      refine ⟨rfl, _, rfl, _, rfl, a, _, _, _, rfl, rfl, SqL.of (sm _ _ ha), at_of (j := p.toNat) (by omega) (int_at ey), _, hl3, line_lt (by rw [List.length_map, List.length_take]; omega), ?_, fun c o e => ?_⟩
      · rw [upd_same, take_more (behind_at ep ey), List.map_append]
        rfl
      · rw [upd_ne (ne_of_none e nHl)]
        exact sm _ _ e
    · obtain ⟨hl3, sm⟩ := hP
      rw [List.take_of_length_le (by rw [behind_len, List.length_map]; exact Nat.le_refl _)] at hl3
      exact q l H3 nHl hl3 sm
end
end Fo
namespace Fo
open PySem PySem.Spec PyProof.Rows L2
theorem back_list {n : Nat} {ns ps : List Int} (o : IsOrd n ns) (h : IsBack ns ps) : ps = (rg n).map (pos ns) := by
  apply List.ext_getElem?
  intro t
  by_cases c : t < n
  · have e := back_pos o h (x := (t : Int)) (by omega) (by omega)
    rw [Int.toNat_natCast] at e
    rw [e]
    unfold rg
    rw [List.map_map, List.getElem?_map, List.getElem?_range c]
    rfl
  · rw [List.getElem?_eq_none (by rw [h.1, o.len]; omega), List.getElem?_eq_none (by rw [List.length_map, rg_len]; omega)]
theorem back_ord {n : Nat} {ns ps : List Int} (o : IsOrd n ns) (h : IsBack ns ps) : IsOrd n ps := by
  rw [back_list o h]
  exact pos_ord o
theorem behind_ord {n : Nat} {ns ms : List Int} (o1 : IsOrd n ns) (o2 : IsOrd n ms) : IsOrd n (behindL ns ms) := by
  have h : (behindL ns ms).Perm ((rg n).map (g0 ns)) := List.Perm.map _ o2
  rw [← g0_ord o1] at h
  exact h.trans o1
end Fo
namespace Fo
open PySem PySem.Spec PyProof.Rows L2
theorem eqvAll_lists : ∀ a b : List (List Int), PyData.eqvAll (a.map dL) (b.map dL) = decide (a = b)
  | [], [] => by simp [PyData.eqvAll]
  | [], _ :: _ => by simp [PyData.eqvAll]
  | _ :: _, [] => by simp [PyData.eqvAll]
  | x :: a, y :: b => by
    show PyData.eqvAll (dL x :: a.map dL) (dL y :: b.map dL) = _
    rw [PyData.eqvAll, eqvAll_lists a b, eqv_ints]
    by_cases h : x = y
    · subst h
      simp
    · simp [h]
theorem eqv_listsD (a b : List (List Int)) : PyData.eqv (dLL a) (dLL b) = decide (a = b) := by
  rw [PyData.eqv]
  exact eqvAll_lists a b
abbrev dS (ys : List Str) : PyData := .list (ys.map PyData.str)
theorem dp_strs {K : PySem.W.Frag} {H : Hp} : ∀ ys : List Str, DpAll K H (ys.map V.str) (ys.map PyData.str)
  | [] => .nil
  | n :: r => .cons (.str n) (dp_strs r)
theorem dp_strL {K : PySem.W.Frag} {H : Hp} {a : Addr} {ys : List Str} (h : H a = some (.lst (ys.map V.str))) : Dp K H (.ref a) (dS ys) := .lst (SqL.of h) (dp_strs ys)
theorem lay_strs : ∀ ys : List Str, (∀ y ∈ ys, PyData.canLay0 (.str y) = true) → PyData.canLayAll0 (ys.map PyData.str) = true
  | [], _ => rfl
  | n :: r, h => by
    show (PyData.canLay0 (.str n) && PyData.canLayAll0 (r.map PyData.str)) = true
    rw [lay_strs r fun y hy => h y (List.mem_cons_of_mem _ hy), h n List.mem_cons_self]
    rfl
theorem wr_lay {n : Nat} {rs : List (List Int)} (o : ∀ r ∈ rs, IsOrd n r) (hn : n ≤ 12) : ∀ y ∈ rs.map wrT, PyData.canLay0 (.str y) = true := by
  intro y hy
  obtain ⟨r, hr, rfl⟩ := List.mem_map.mp hy
  rw [PyData.canLay0]
  show (wrT r).cps.all (· < 0x110000) = true
  rw [← Array.all_toList, List.all_eq_true]
  intro c hc
  have := wr_sign (o r hr) hn hc
  exact decide_eq_true (by omega)
theorem depth_strs : ∀ ys : List Str, PyData.depthAll (ys.map PyData.str) = 0
  | [] => by simp [PyData.depthAll]
  | n :: r => by
    show PyData.depthAll (.str n :: r.map PyData.str) = 0
    rw [PyData.depthAll, depth_strs r]
    simp [PyData.depth]
theorem shaped_strs (ys : List Str) (h : ∀ y ∈ ys, PyData.canLay0 (.str y) = true) : SeqAt.shaped (dS ys) = true := by
  unfold SeqAt.shaped
  rw [Bool.and_eq_true_iff]
  constructor
  · rw [PyData.canLay0]
    exact lay_strs ys h
  · apply decide_eq_true
    rw [PyData.depth, depth_strs]
    decide
theorem eqv_strs (ys : List Str) (h : ∀ y ∈ ys, PyData.canLay0 (.str y) = true) : PyData.eqv (dS ys) (dS ys) = true := SeqAt.eqv_refl _ (SeqAt.canLay_of_shaped (shaped_strs ys h))
theorem dp_of {K : PySem.W.Frag} {H : Hp} {l : Addr} {as : List Addr} {rs : List (List Int)} {n : Nat} (h : OL H l as rs n) : Dp K H (.ref l) (dLL rs) := dp_lists h.top h.ll
theorem dp_nil {K : PySem.W.Frag} {H : Hp} {a : Addr} (h : H a = some (.lst [])) : Dp K H (.ref a) (dLL []) := .lst (SqL.of h) .nil
end Fo
namespace Fo
open PySem PySem.Spec PyProof.Rows L2 TL
def spLaw (K : PySem.W.Frag) : Sp := fun vs H Q _ => ∃ (a : Addr) (ns : List Int), vs = [.ref a] ∧ SqL K H a (ns.map V.int) ∧ ns.length ≤ 63 ∧ ∀ H', Q (.bl true) H'
theorem turns10 (n : Nat) : ∃ m : Nat, (if (if (n : Int) < 10 then (n : Int) else 10) > 1 then (if (n : Int) < 10 then (n : Int) else 10) else 1) = (m : Int) ∧ m ≤ 10 := by
  by_cases c : (n : Int) < 10
  · rw [if_pos c]
    by_cases c2 : (n : Int) > 1
    · exact ⟨n, by rw [if_pos c2], by omega⟩
    · exact ⟨1, by rw [if_neg c2]; rfl, by decide⟩
  · exact ⟨10, by rw [if_neg c]; rfl, by decide⟩
section
variable {P : Program} {w : World} {K : PySem.W.Frag} {mg : Str → Option Value} {base : Heap}
theorem scLaw : FnScope ["script", "k", "pool", "n", "one", "other", "order", "text", "orders", "pair", "texts", "some", "turn"] ["script"] (defScope s_law) := ⟨rfl, rfl, rfl, by decide +kernel, rfl, by decide +kernel, by decide +kernel⟩
set_option maxHeartbeats 8000000 in
theorem ok_law {f f1 f2 f3 f4 f5 f6 f7 f8 f9 f10 f11 : Addr} {fd d1 d2 d3 d4 d5 d6 d7 d8 d9 d10 d11 : FuncData} (T : Fun K "law" "law" s_law f fd) (T__law_pool : Df K mg "_law_pool" s_law_pool ["script", "k"] f1 d1) (T__law_draw : Df K mg "_law_draw" s_law_draw ["pool", "many"] f2 d2) (T__law_order : Df K mg "_law_order" s_law_order ["pool", "n"] f3 d3) (T__law_near : Df K mg "_law_near" s_law_near ["pool", "order"] f4 d4) (T__law_otherwise : Df K mg "_law_otherwise" s_law_otherwise ["pool", "orders"] f5 d5) (T_show_order : Df K mg "show_order" s_show_order ["order"] f6 d6) (T_show_orders : Df K mg "show_orders" s_show_orders ["orders"] f7 d7) (T_read_order : Df K mg "read_order" s_read_order ["text"] f8 d8) (T_read_orders : Df K mg "read_orders" s_read_orders ["text"] f9 d9) (T_back_of : Df K mg "back_of" s_back_of ["order"] f10 d10) (T_order_behind : Df K mg "order_behind" s_order_behind ["first", "second"] f11 d11)
    (G__law_pool : FnOk P w K mg base CX0 11 f1 d1 ["script", "k"] (spPool K)) (G__law_draw : FnOk P w K mg base CX0 11 f2 d2 ["pool", "many"] spDrawP) (G__law_order : FnOk P w K mg base CX0 11 f3 d3 ["pool", "n"] spOrderP) (G__law_near : FnOk P w K mg base CX0 11 f4 d4 ["pool", "order"] spNearP) (G__law_otherwise : FnOk P w K mg base CX0 11 f5 d5 ["pool", "orders"] spOther) (G_show_order : FnOk P w K mg base CX0 11 f6 d6 ["order"] spWr) (G_show_orders : FnOk P w K mg base CX0 11 f7 d7 ["orders"] spWrL) (G_read_order : FnOk P w K mg base CX0 11 f8 d8 ["text"] spRead) (G_read_orders : FnOk P w K mg base CX0 11 f9 d9 ["text"] spReadL) (G_back_of : FnOk P w K mg base CX0 11 f10 d10 ["order"] spPlaces) (G_order_behind : FnOk P w K mg base CX0 11 f11 d11 ["first", "second"] spBehind) (B : Bi mg) : FnOk P w K mg base CX0 12 f fd ["script"] (spLaw K) := by
  refine T.ok scLaw (fun vs H Q E h => ?_) (fun cdv A outer s H vs Q E hr h => ?_)
  · obtain ⟨a, ns, rfl, _⟩ := h
    rfl
  · obtain ⟨a, ns, rfl, hS, hlen, q⟩ := h
    refine ⟨_, 
      (pss_cons (ps_for PassesOwn.never rfl (pi_range1 (by rfl) B.range (pa_cons (pe_callB (call_max2 rfl) (by rfl) B.max (by decide +kernel) (pa_cons pe_int (pa_cons (pe_callB (call_min2 rfl) (by rfl) B.min (by decide +kernel) (pa_cons pe_int (pa_cons (pe_callB call_len_seq (by rfl) B.len PySem.boot_len (pa_cons (pv 0) pa_nil)) pa_nil))) pa_nil))) pa_nil)) (pg_name (i := 1) scLaw.nd rfl (.inl rfl))
        (pss_cons (ps_set (i := 2) scLaw.nd rfl (.inr rfl) (pe_call G__law_pool hr (by rfl) T__law_pool.g T__law_pool.F.kp T__law_pool.b .nil pass0 (pa_cons (pv 0) (pa_cons (pv 1) pa_nil))))
        (pss_cons (ps_set (i := 3) scLaw.nd rfl (.inl rfl) (pe_op op_add pe_int (pe_call G__law_draw hr (by rfl) T__law_draw.g T__law_draw.F.kp T__law_draw.b .nil pass0 (pa_cons (pv 2) (pa_cons pe_int pa_nil)))))
        (pss_cons (ps_set (i := 4) scLaw.nd rfl (.inr rfl) (pe_call G__law_order hr (by rfl) T__law_order.g T__law_order.F.kp T__law_order.b .nil pass0 (pa_cons (pv 2) (pa_cons (pv 3) pa_nil))))
        (pss_cons (ps_set (i := 5) scLaw.nd rfl (.inl rfl) (pe_call G__law_near hr (by rfl) T__law_near.g T__law_near.F.kp T__law_near.b .nil pass0 (pa_cons (pv 2) (pa_cons (pv 4) pa_nil))))
        (pss_cons (ps_if (pt_cmpR op_ne (pe_cmpR op_eq (pe_call G_show_order hr (by rfl) T_show_order.g T_show_order.F.kp T_show_order.b .nil pass0 (pa_cons (pv 4) pa_nil)) (pe_call G_show_order hr (by rfl) T_show_order.g T_show_order.F.kp T_show_order.b .nil pass0 (pa_cons (pv 5) pa_nil)) (nomark _)) (pe_cmpR (op_eqD hr.units) (pv 4) (pv 5) (nomark _)) (nomark _))
          (pss_one (ps_ret pe_bl))
          pss_nil)
        (pss_cons (ps_for PassesOwn.never rfl (pi_list (pe_lst (pa_cons (pv 4) (pa_cons (pv 5) (pa_cons (pe_call G_back_of hr (by rfl) T_back_of.g T_back_of.F.kp T_back_of.b .nil pass0 (pa_cons (pv 4) pa_nil)) (pa_cons (pe_call G_order_behind hr (by rfl) T_order_behind.g T_order_behind.F.kp T_order_behind.b .nil pass0 (pa_cons (pv 4) (pa_cons (pv 5) pa_nil))) pa_nil)))))) (pg_name (i := 6) scLaw.nd rfl (.inl rfl))
          (pss_cons (ps_set (i := 7) scLaw.nd rfl (.inl rfl) (pe_call G_show_order hr (by rfl) T_show_order.g T_show_order.F.kp T_show_order.b .nil pass0 (pa_cons (pv 6) pa_nil)))
          (pss_one (ps_if (PW.pt (pw_or (pt_cmpR (op_neD hr.units) (pe_call G_read_order hr (by rfl) T_read_order.g T_read_order.F.kp T_read_order.b .nil pass0 (pa_cons (pv 7) pa_nil)) (pv 6) (nomark _)) (pw_or (pt_cmpR op_ne (pe_call G_show_order hr (by rfl) T_show_order.g T_show_order.F.kp T_show_order.b .nil pass0 (pa_cons (pe_call G_read_order hr (by rfl) T_read_order.g T_read_order.F.kp T_read_order.b .nil pass0 (pa_cons (pv 7) pa_nil)) pa_nil)) (pv 7) (nomark _)) (pw_or1 (pt_cmpR op_ne (pe_call G_show_orders hr (by rfl) T_show_orders.g T_show_orders.F.kp T_show_orders.b .nil pass0 (pa_cons (pe_lst (pa_cons (pv 6) pa_nil)) pa_nil)) (pv 7) (nomark _))))))
            (pss_one (ps_ret pe_bl))
            pss_nil))))
        (pss_cons (ps_setLc (i := 8) (own := [("turn", 12)]) (g := (gName 12)) (tt := tYes) (te := (tCall spNearP [] E0 (tCons (tVar 2) (tCons (tVar 4) tNil)))) (by rfl) scLaw.nd rfl rfl (sw_true rfl rfl rfl (by decide +kernel)) (pi_range1 (by rfl) B.range (pa_cons (pe_op op_add pe_int (pe_call G__law_draw hr (by rfl) T__law_draw.g T__law_draw.F.kp T__law_draw.b .nil pass0 (pa_cons (pv 2) (pa_cons pe_int pa_nil)))) pa_nil)) (blkOk_by (N := ["script", "k", "pool", "n", "one", "other", "order", "text", "orders", "pair", "texts", "some", "turn"]) (sc := defScope s_law) (by decide +kernel)) (fun _ _ _ _ _ => (pg_name (i := 12) scLaw.nd rfl (.inl rfl))) (fun _ _ _ _ _ => pts_nil) (fun _ _ _ _ _ => (pe_call G__law_near hr (by rfl) T__law_near.g T__law_near.F.kp T__law_near.b .nil pass0 (pa_cons (pv 2) (pa_cons (pv 4) pa_nil)))))
        (pss_cons (ps_set (i := 9) scLaw.nd rfl (.inl rfl) (pe_lst (pa_cons (pv 8) (pa_cons (pe_call G__law_otherwise hr (by rfl) T__law_otherwise.g T__law_otherwise.F.kp T__law_otherwise.b .nil pass0 (pa_cons (pv 2) (pa_cons (pv 8) pa_nil))) pa_nil))))
        (pss_cons (ps_setLc (i := 10) (own := [("some", 11)]) (g := (gName 11)) (tt := tYes) (te := (tCall spWrL [] E0 (tCons (tVar 11) tNil))) (by rfl) scLaw.nd rfl rfl (sw_true rfl rfl rfl (by decide +kernel)) (pi_list (pv 9)) (blkOk_by (N := ["script", "k", "pool", "n", "one", "other", "order", "text", "orders", "pair", "texts", "some", "turn"]) (sc := defScope s_law) (by decide +kernel)) (fun _ _ _ _ _ => (pg_name (i := 11) scLaw.nd rfl (.inl rfl))) (fun _ _ _ _ _ => pts_nil) (fun _ _ _ _ _ => (pe_call G_show_orders hr (by rfl) T_show_orders.g T_show_orders.F.kp T_show_orders.b .nil pass0 (pa_cons (pv 11) pa_nil))))
        (pss_cons (ps_if (pt_cmpR op_ne (pe_cmpR op_eq (pe_ix ix_list (pv 10) pe_int (fun _ _ => rfl)) (pe_ix ix_list (pv 10) pe_int (fun _ _ => rfl)) (nomark _)) (pe_cmpR (op_eqD hr.units) (pe_ix ix_list (pv 9) pe_int (fun _ _ => rfl)) (pe_ix ix_list (pv 9) pe_int (fun _ _ => rfl)) (nomark _)) (nomark _))
          (pss_one (ps_ret pe_bl))
          pss_nil)
        (pss_one (ps_for PassesOwn.never rfl (pi_zip (by rfl) B.zip (pa_cons (pv 9) (pa_cons (pv 10) pa_nil))) (pg_tup (by rfl) (pgs_cons (pg_name (i := 11) scLaw.nd rfl (.inl rfl)) (pgs_cons (pg_name (i := 7) scLaw.nd rfl (.inl rfl)) pgs_nil)))
          (pss_cons (ps_if (PW.pt (pw_or (pt_cmpR (op_neD hr.units) (pe_call G_read_orders hr (by rfl) T_read_orders.g T_read_orders.F.kp T_read_orders.b .nil pass0 (pa_cons (pv 7) pa_nil)) (pv 11) (nomark _)) (pw_or1 (pt_cmpR op_ne (pe_call G_show_orders hr (by rfl) T_show_orders.g T_show_orders.F.kp T_show_orders.b .nil pass0 (pa_cons (pe_call G_read_orders hr (by rfl) T_read_orders.g T_read_orders.F.kp T_read_orders.b .nil pass0 (pa_cons (pv 7) pa_nil)) pa_nil)) (pv 7) (nomark _)))))
            (pss_one (ps_ret pe_bl))
            pss_nil)
          (pss_one (ps_if (PW.pt (pw_and (pt_cmpR (op_neD hr.units) (pv 11) (pe_lst pa_nil) (nomark _)) (pw_and1 (pt_cmpR (op_neD hr.units) (pe_split (pv 7) pe_str) (pe_lc (own := [("order", 6)]) (g := (gName 6)) (tt := tYes) (te := (tCall spWr [] E0 (tCons (tVar 6) tNil))) rfl scLaw.nd (pi_list (pv 11)) (blkOk_by (N := ["script", "k", "pool", "n", "one", "other", "order", "text", "orders", "pair", "texts", "some", "turn"]) (sc := defScope s_law) (by decide +kernel)) (fun _ _ _ _ _ => (pg_name (i := 6) scLaw.nd rfl (.inl rfl))) (fun _ _ _ _ _ => pts_nil) (fun _ _ _ _ _ => (pe_call G_show_order hr (by rfl) T_show_order.g T_show_order.F.kp T_show_order.b .nil pass0 (pa_cons (pv 6) pa_nil)))) (nomark _)))))
            (pss_one (ps_ret pe_bl))
            pss_nil))))))))))))))))
      (pss_one (ps_ret pe_bl))), ?_⟩
    refine ⟨_, rfl, a, _, rfl, .inl hS, 10, _, rfl, 1, _, rfl, _, rfl, ?_⟩
    obtain ⟨m, em, hm⟩ := turns10 (ns.map V.int).length
    refine ⟨by rw [em]; omega, by rw [em]; omega, ?_⟩
    rw [em, Int.toNat_natCast]
    refine for_range (n := m) (fun i σ H3 => ∃ (y1 y2 y3 y4 y5 y6 y7 y8 y9 y10 y11 y12 : Option V), σ = [some (.ref a), y1, y2, y3, y4, y5, y6, y7, y8, y9, y10, y11, y12] ∧ Same H H3)
      ⟨_, _, _, _, _, _, _, _, _, _, _, _, rfl, Same.refl _⟩ (fun i σ H3 hi hP => ?_) (fun σ H3 hP => q _)
    obtain ⟨y1, y2, y3, y4, y5, y6, y7, y8, y9, y10, y11, y12, rfl, s3⟩ := hP
    refine ⟨_, rfl, _, rfl, a, ns, i, by rw [show (0 + (i : Int)) = (i : Int) by omega]; rfl, s3.seq hS, fun d H4 nd D4 s4 => ?_⟩
    have s04 := s3.trans s4
    have nHd : H d = none := s3.free nd
    refine ⟨_, rfl, d, 12, rfl, D4, by decide, by decide, fun v H5 v0 v1 D5 k5 => ⟨1, v, rfl, rfl, ?_⟩⟩
    obtain ⟨n, en, hn1, hn2⟩ : ∃ n : Nat, 1 + v = (n : Int) ∧ 1 ≤ n ∧ n ≤ 12 := ⟨(1 + v).toNat, by omega, by omega, by omega⟩
    show gName 3 (V.int (1 + v)) _ _ _
    rw [en]
    refine ⟨_, rfl, _, rfl, d, n, rfl, D5, hn2, fun xs a1 H6 ox na1 ha1 nd1 D6 k6 => ?_⟩
    refine ⟨_, rfl, _, rfl, d, a1, n, xs, rfl, D6, ha1, ox, hn1, hn2, fun ys a2 H7 oy na2 ha2 nd2 D7 k7 => ?_⟩
    have ga1 := k7 _ _ ha1 nd1
    have kk7 : KeepD d H4 H7 := (k5.trans k6).trans k7
    have kS : Same H H7 := fun b o e => kk7 b o (s04 b o e) (ne_of_none e nHd)
    clear kk7 k5 k6 k7 ha1 na1 na2 D4 D5 D6 s3 s04 s4
    -- the writings of two are alike just where they are
    refine ⟨_, rfl, a1, n, xs, rfl, ga1, ox, hn1, hn2, fun H8 s8 => ?_⟩
    refine ⟨_, rfl, a2, n, ys, rfl, s8 _ _ ha2, oy, hn1, hn2, fun H9 s9 => ?_⟩
    have s89 := s8.trans s9
    refine ⟨rfl, _, rfl, _, rfl, _, _, dp_list (s89 _ _ ga1), dp_list (s89 _ _ ha2), shaped_list _, shaped_list _, rfl, _, rfl, ?_⟩
    refine iteNS (show V.bl (decide (V.str (wrT xs) = V.str (wrT ys))) = V.bl (PyData.eqv (dL xs) (dL ys)) from ?_) ?_
    · rw [eqv_ints]
      exact congrArg V.bl (decide_eq_decide.mpr ⟨fun h => wr_inj ox oy hn1 hn2 hn1 hn2 (V.str.inj h), fun h => by rw [h]⟩)
    have g1 := s89 _ _ ga1
    have g2 := s89 _ _ ha2
    have D9 := D7.same s89
    have kS9 := kS.trans s89
    clear s8 s9 s89 ga1 ha2 D7 kS
    -- [one, other, back_of(one), order_behind(one, other)]
    refine ⟨_, rfl, _, rfl, _, rfl, a1, n, xs, rfl, g1, ox, hn1, hn2, fun ps b1 H10 hps nb1 hb1 s10 => ?_⟩
    refine ⟨_, rfl, _, rfl, a1, a2, n, xs, ys, rfl, s10 _ _ g1, s10 _ _ g2, ox, oy, hn1, hn2, fun b2 H11 nb2 hb2 s11 => ?_⟩
    refine ⟨line_small (by show 4 ≤ 16777216; decide), fun o3 no3 => ?_⟩
    have s12 := same_new (o := .lst [.ref a1, .ref a2, .ref b1, .ref b2]) no3
    have ho3 : (upd H11 o3 (.lst [.ref a1, .ref a2, .ref b1, .ref b2])) o3 = _ := upd_same
    have sA := (s10.trans s11).trans s12
    have f1 := sA _ _ g1
    have f2 := sA _ _ g2
    have f3 := (s11.trans s12) _ _ hb1
    have f4 := s12 _ _ hb2
    have DA := D9.same sA
    have kSA := kS9.trans sA
    have ops := back_ord ox hps
    have obh := behind_ord ox oy
    generalize upd H11 o3 (.lst [.ref a1, .ref a2, .ref b1, .ref b2]) = HA at ho3 f1 f2 f3 f4 DA kSA
    clear sA s12 s11 s10 g1 g2 D9 kS9 hb1 hb2
    refine ⟨o3, rfl, ⟨_, SqL.of ho3⟩, ?_⟩
    refine for_list (xs := [.ref a1, .ref a2, .ref b1, .ref b2]) (fun j σ G => ∃ (y6 y7 : Option V), σ = [some (.ref a), some (.int (0 + (i : Int))), some (.ref d), some (.int n), some (.ref a1), some (.ref a2), y6, y7, y8, y9, y10, y11, y12] ∧ Same HA G)
      ⟨_, _, rfl, Same.refl _⟩ (fun j σ G _ hP => by obtain ⟨_, _, _, sm⟩ := hP; exact SqL.of (sm _ _ ho3)) (fun j x σ G hx hP => ?_) (fun σ G hP => ?_)
    · obtain ⟨y6, y7, rfl, sG⟩ := hP
      obtain ⟨b, zs, rfl, hbA, oz⟩ : ∃ (b : Addr) (zs : List Int), x = .ref b ∧ HA b = some (.lst (zs.map V.int)) ∧ IsOrd n zs := by
        match j, hx with
        | 0, hx => exact ⟨a1, xs, (Option.some.inj hx).symm, f1, ox⟩
        | 1, hx => exact ⟨a2, ys, (Option.some.inj hx).symm, f2, oy⟩
        | 2, hx => exact ⟨b1, ps, (Option.some.inj hx).symm, f3, ops⟩
        | 3, hx => exact ⟨b2, behindL xs ys, (Option.some.inj hx).symm, f4, obh⟩
        | m + 4, hx => cases hx
      have hb := sG _ _ hbA
      refine ⟨_, rfl, b, n, zs, rfl, hb, oz, hn1, hn2, fun G1 t1 => ?_⟩
      refine ⟨_, rfl, n, zs, rfl, oz, hn1, hn2, fun l1 G2 nl1 hl1 t2 => ?_⟩
      have t12 := t1.trans t2
      refine ⟨_, rfl, _, _, dp_list hl1, dp_list (t12 _ _ hb), shaped_list _, shaped_list _, _, rfl, ?_⟩
      rw [eqv_list]
      refine iteF ?_
      refine ⟨_, rfl, n, zs, rfl, oz, hn1, hn2, fun l2 G3 nl2 hl2 t3 => ?_⟩
      refine ⟨l2, n, zs, rfl, hl2, oz, hn1, hn2, fun G4 t4 => ⟨_, rfl, rfl, _, rfl, iteNS rfl ?_⟩⟩
      have t14 := (t12.trans t3).trans t4
      refine ⟨_, rfl, line_small (by show 1 ≤ 16777216; decide), fun l3 nl3 => ?_⟩
      have t5 := same_new (o := .lst [.ref b]) nl3
      have t15 := t14.trans t5
      refine ⟨l3, [b], [zs], n, rfl, ⟨upd_same, ⟨t15 _ _ hb, trivial⟩, fun r hr => by rw [List.mem_singleton.mp hr]; exact oz, hn1, hn2⟩, (by show 1 ≤ 1000; decide), fun G6 t6 => ⟨_, rfl, rfl, _, rfl, iteNS (congrArg V.str (wrL_one zs)) ?_⟩⟩
      exact ⟨_, _, rfl, sG.trans (t15.trans t6)⟩
    -- orders
    obtain ⟨y6, y7, rfl, sG⟩ := hP
    have g1 := sG _ _ f1
    have DG := DA.same sG
    have kG := kSA.trans sG
    clear sG f1 f2 f3 f4 DA kSA ho3
    refine ⟨_, rfl, d, 5, rfl, DG, by decide, by decide, fun v2 G1 u0 u1 D1 k1 => ⟨1, v2, rfl, rfl, _, rfl, by omega, by omega, fun p np => ?_⟩⟩
    have npd := D1.ne np
    have g1' := k1 _ _ g1 nd1
    have np1 : a1 ≠ p := ne_of_none g1' np
    obtain ⟨mm, emm, hm1, hm2⟩ : ∃ mm : Nat, (1 + v2).toNat = mm ∧ 1 ≤ mm ∧ mm ≤ 5 := ⟨_, rfl, by omega, by omega⟩
    rw [emm]
    refine lc_range (lo := 0) (n := mm) (fun i H3 => ∃ (bs : List Addr) (ss : List (List Int)), H3 p = some (.lst (bs.map V.ref)) ∧ LL H3 bs ss ∧ ss.length = i ∧ (∀ r ∈ ss, IsOrd n r) ∧ d ∉ bs ∧ p ∉ bs ∧ H3 a1 = some (.lst (xs.map V.int)) ∧ PoolAt H3 d ∧ KeepD d G1 H3)
      ⟨[], [], upd_same, trivial, rfl, fun r h => absurd h List.not_mem_nil, List.not_mem_nil, List.not_mem_nil, same_new np _ _ g1', D1.new np, KeepD.new np⟩ (fun i H3 hi hP => ?_) (fun H3 hP => ?_)
    · obtain ⟨bs, ss, hp3, hL3, hl3, ho3, hd3, hpb, ha3, D3, k3⟩ := hP
      have hbl := hL3.len
      refine ⟨rfl, _, rfl, _, rfl, d, a1, n, xs, rfl, D3, ha3, ox, hn1, hn2, fun ms u H4 om nu hu nud D4 k4 => ?_⟩
      have hp4 := k4 p _ hp3 npd
      have nup : u ≠ p := fun e => by rw [e, hp3] at nu; cases nu
      refine ⟨_, hp4, line_lt (by rw [List.length_map]; omega), bs ++ [u], ss ++ [ms], by rw [upd_same, List.map_append]; rfl, ?_, by rw [List.length_append, hl3]; rfl, fun r hr => ?_, fun h => ?_, fun h => ?_, by rw [upd_ne np1]; exact k4 _ _ ha3 nd1, D4.upd npd, fun b o e nb => ?_⟩
      · refine LL.snoc ((hL3.keep (H' := H4) fun c hc o e => k4 c o e (fun q => hd3 (by rw [← q]; exact hc))).keep fun c hc o e => ?_) ?_
        · rw [upd_ne (fun q => hpb (by rw [← q]; exact hc))]
          exact e
        · rw [upd_ne nup]
          exact hu
      · rcases List.mem_append.mp hr with h | h
        · exact ho3 r h
        · rw [List.mem_singleton.mp h]
          exact om
      · rcases List.mem_append.mp h with h | h
        · exact hd3 h
        · exact nud (List.mem_singleton.mp h).symm
      · rcases List.mem_append.mp h with h | h
        · exact hpb h
        · exact nup (List.mem_singleton.mp h).symm
      · rw [upd_ne (ne_of_none e np)]
        exact k4 b o (k3 b o e nb) nb
    obtain ⟨bs, ss, hp3, hL3, hl3, hos, hd3, hpb, ha3, D3, k3⟩ := hP
    have hO3 : OL H3 p bs ss n := ⟨hp3, hL3, hos, hn1, hn2⟩
    have kH3 : Same H H3 := fun b o e => k3 b o (k1 b o (kG b o e) (ne_of_none e nHd)) (ne_of_none e nHd)
    -- pair
    refine ⟨_, rfl, _, rfl, _, rfl, d, p, bs, ss, n, rfl, D3, hO3, by omega, by omega, npd, hd3, fun l' as' rs' H4 hO4 hl4 nld4 nda4 D4 k4 => ?_⟩
    refine ⟨line_small (by show 2 ≤ 16777216; decide), fun pr npr => ?_⟩
    have s5 := same_new (o := .lst [.ref p, .ref l']) npr
    have hpr : (upd H4 pr (.lst [.ref p, .ref l'])) pr = _ := upd_same
    have hA5 := (hO3.keepD k4 npd hd3).same s5
    have hB5 := hO4.same s5
    have kH5 : Same H (upd H4 pr (.lst [.ref p, .ref l'])) := fun b o e => s5 b o (k4 b o (kH3 b o e) (ne_of_none e nHd))
    generalize upd H4 pr (.lst [.ref p, .ref l']) = H5 at hpr hA5 hB5 kH5 ⊢
    clear s5 D4 D3 k4 hO4 hO3 kH3 k3 hp3 hL3 ha3 D1 k1 g1 g1' DG kG
    -- texts
    refine ⟨_, rfl, pr, rfl, ⟨_, SqL.of hpr⟩, fun D nD => ?_⟩
    refine lc_list (K := K) (a := pr) (xs := [.ref p, .ref l']) (fun i H6 => H6 D = some (.lst ((([wrL ss, wrL rs'] : List Str).take i).map V.str)) ∧ Same H5 H6) ⟨upd_same, same_new nD⟩ (fun i H6 _ hP => SqL.of (hP.2 _ _ hpr)) (fun i x H6 hx hP => ?_) (fun H6 hP => ?_)
    · obtain ⟨hD6, sm⟩ := hP
      match i, hx with
      | 0, hx =>
        have ex : V.ref p = x := Option.some.inj hx
        subst ex
        refine ⟨rfl, _, rfl, p, bs, ss, n, rfl, hA5.same sm, by omega, fun H7 s7 => ⟨_, s7 _ _ hD6, line_lt (by show 0 < 16777216; decide), by rw [upd_same]; rfl, fun b o e => ?_⟩⟩
        rw [upd_ne (ne_of_none e nD)]
        exact s7 _ _ (sm _ _ e)
      | 1, hx =>
        have ex : V.ref l' = x := Option.some.inj hx
        subst ex
        refine ⟨rfl, _, rfl, l', as', rs', n, rfl, hB5.same sm, by omega, fun H7 s7 => ⟨_, s7 _ _ hD6, line_lt (by show 1 < 16777216; decide), by rw [upd_same]; rfl, fun b o e => ?_⟩⟩
        rw [upd_ne (ne_of_none e nD)]
        exact s7 _ _ (sm _ _ e)
      | i + 2, hx => cases hx
    obtain ⟨hD6, s6⟩ := hP
    have hD6 : H6 D = some (.lst [V.str (wrL ss), V.str (wrL rs')]) := hD6
    have hA6 := hA5.same s6
    have hB6 := hB5.same s6
    have hpr6 := s6 _ _ hpr
    have kH6 := kH5.trans s6
    clear hA5 hB5 hpr kH5 s6
    refine ⟨_, rfl, D, _, 0, _, rfl, rfl, SqL.of hD6, at2_0, _, rfl, D, _, 1, _, rfl, rfl, SqL.of hD6, at2_1, rfl, ?_⟩
    refine ⟨_, rfl, pr, _, 0, _, rfl, rfl, SqL.of hpr6, at2_0, _, rfl, pr, _, 1, _, rfl, rfl, SqL.of hpr6, at2_1, _, _, dp_of hA6, dp_of hB6, shaped_lists _, shaped_lists _, rfl, _, rfl, ?_⟩
    refine iteNS (show V.bl (decide (V.str (wrL ss) = V.str (wrL rs'))) = V.bl (PyData.eqv (dLL ss) (dLL rs')) from ?_) ?_
    · rw [eqv_listsD]
      exact congrArg V.bl (decide_eq_decide.mpr ⟨fun h => wrL_inj hn1 hn2 hos hB6.ord (V.str.inj h), fun h => by rw [h]⟩)
    -- for some, text in zip(pair, texts)
    refine ⟨_, rfl, _, rfl, pr, D, _, _, rfl, SqL.of hpr6, SqL.of hD6, ?_⟩
    refine RZ.for_zipL (K := K) (a := pr) (b := D) (xs := [V.ref p, V.ref l']) (ys := [V.str (wrL ss), V.str (wrL rs')]) rfl (fun j σ G => ∃ (z1 z3 z4 z5 z6 z7 z8 z11 z12 : Option V), σ = [some (.ref a), z1, some (.ref d), z3, z4, z5, z6, z7, z8, some (.ref pr), some (.ref D), z11, z12] ∧ Same H6 G)
      ⟨_, _, _, _, _, _, _, _, _, rfl, Same.refl _⟩ (fun j σ G hP => by obtain ⟨_, _, _, _, _, _, _, _, _, _, sm⟩ := hP; exact ⟨SqL.of (sm _ _ hpr6), SqL.of (sm _ _ hD6)⟩) (fun j x y t σ G hx hy hP nt => ?_) (fun σ G hP => ?_)
    · obtain ⟨z1, z3, z4, z5, z6, z7, z8, z11, z12, rfl, sG⟩ := hP
      obtain ⟨lz, az, rz, rfl, rfl, hZ6, hlz⟩ : ∃ (lz : Addr) (az : List Addr) (rz : List (List Int)), x = .ref lz ∧ y = .str (wrL rz) ∧ OL H6 lz az rz n ∧ rz.length ≤ 20 := by
        match j, hx, hy with
        | 0, hx, hy => exact ⟨p, bs, ss, (Option.some.inj hx).symm, (Option.some.inj hy).symm, hA6, by omega⟩
        | 1, hx, hy => exact ⟨l', as', rs', (Option.some.inj hx).symm, (Option.some.inj hy).symm, hB6, by omega⟩
        | m + 2, hx, hy => cases hx
      have t0 := same_new (o := .tup [.ref lz, .str (wrL rz)]) nt
      refine ⟨t, _, rfl, .inl (.inl upd_same), rfl, _, _, rfl, _, _, rfl, rfl, ?_⟩
      have hZ := (hZ6.same sG).same t0
      have sG1 := sG.trans t0
      generalize upd G t (.tup [.ref lz, .str (wrL rz)]) = G0 at hZ sG1 ⊢
      refine ⟨_, rfl, n, rz, rfl, hZ.ord, hn1, hn2, by omega, fun l1 c1 G2 hO1 nl1 _ _ _ t2 => ?_⟩
      refine ⟨_, rfl, _, _, dp_of hO1, dp_of (hZ.same t2), shaped_lists _, shaped_lists _, _, rfl, ?_⟩
      rw [eqv_lists]
      refine iteF ?_
      refine ⟨_, rfl, n, rz, rfl, hZ.ord, hn1, hn2, by omega, fun l2 c2 G3 hO2 nl2 _ _ _ t3 => ?_⟩
      refine ⟨l2, c2, rz, n, rfl, hO2, by omega, fun G4 t4 => ⟨_, rfl, rfl, _, rfl, iteNS rfl ?_⟩⟩
      have t24 := (t2.trans t3).trans t4
      have hZ4 := hZ.same t24
      -- some != [] and text.split(', ') != [..]
      refine ⟨_, rfl, line_small (by show 0 ≤ 16777216; decide), fun e0 ne0 => ?_⟩
      have t5 := same_new (o := .lst []) ne0
      have hZ5 := hZ4.same t5
      have he0 : (upd G4 e0 (.lst [])) e0 = _ := upd_same
      have sG5 := (sG1.trans t24).trans t5
      generalize upd G4 e0 (.lst []) = G5 at hZ5 he0 sG5 ⊢
      refine ⟨_, _, dp_of hZ5, dp_nil he0, shaped_lists _, shaped_lists _, _, rfl, ?_⟩
      rw [eqv_listsD]
      by_cases c : rz = []
      · rw [decide_eq_true c]
        exact iteF ⟨_, _, _, _, _, _, _, _, _, rfl, sG5⟩
      rw [decide_eq_false c]
      refine iteT ?_
      refine ⟨_, rfl, ⟨_, rfl⟩, _, _, rfl, rfl, by decide +kernel, line_small (by have := wrL_len hZ.ord hn2; omega), fun p6 np6 => ?_⟩
      rw [split_wrL hZ.ord hn2 c]
      have t6 := same_new (o := .lst ((rz.map wrT).map V.str)) np6
      have hp6 : (upd G5 p6 (.lst ((rz.map wrT).map V.str))) p6 = _ := upd_same
      have hZ6 := hZ5.same t6
      have sG6 := sG5.trans t6
      generalize upd G5 p6 (.lst ((rz.map wrT).map V.str)) = G6 at hp6 hZ6 sG6 ⊢
      have hal := hZ6.ll.len
      refine ⟨_, rfl, lz, rfl, ⟨_, SqL.of hZ6.top⟩, fun D7 nD7 => ?_⟩
      refine lc_list (K := K) (a := lz) (xs := az.map V.ref) (fun i H7 => H7 D7 = some (.lst (((rz.take i).map wrT).map V.str)) ∧ Same G6 H7) ⟨upd_same, same_new nD7⟩ (fun i H7 _ hP => SqL.of (hP.2 _ _ hZ6.top)) (fun i x H7 hx hP => ?_) (fun H7 hP => ?_)
      · obtain ⟨b, eb, rfl⟩ := ref_at_inv hx
        obtain ⟨hp3, sm⟩ := hP
        have hi := (List.getElem?_eq_some_iff.mp eb).1
        obtain ⟨r, er, hb⟩ := (hZ6.ll.same sm).get eb
        refine ⟨rfl, _, rfl, b, n, r, rfl, hb, hZ.ord r (List.mem_of_getElem? er), hn1, hn2, fun H8 s8 => ⟨_, s8 _ _ hp3, line_lt (by rw [List.length_map, List.length_map, List.length_take]; omega), ?_, fun b o e => ?_⟩⟩
        · rw [upd_same, take_more' er, List.map_append, List.map_append]
          rfl
        · rw [upd_ne (ne_of_none e nD7)]
          exact s8 _ _ (sm _ _ e)
      · obtain ⟨hp3, sm⟩ := hP
        rw [List.length_map, List.take_of_length_le (by omega)] at hp3
        refine ⟨_, _, dp_strL (sm _ _ hp6), dp_strL hp3, shaped_strs _ (wr_lay hZ.ord hn2), shaped_strs _ (wr_lay hZ.ord hn2), _, rfl, ?_⟩
        rw [eqv_strs _ (wr_lay hZ.ord hn2)]
        exact iteF ⟨_, _, _, _, _, _, _, _, _, rfl, sG6.trans sm⟩
    · obtain ⟨z1, z3, z4, z5, z6, z7, z8, z11, z12, rfl, sG⟩ := hP
      exact ⟨_, _, _, _, _, _, _, _, _, _, _, _, rfl, kH6.trans sG⟩
end
end Fo
--LAWCALL ok_law F_law T__law_pool T__law_draw T__law_order T__law_near T__law_otherwise T_show_order T_show_orders T_read_order T_read_orders T_back_of T_order_behind (ok_pool (k := 10) T__law_pool B) (ok_drawP (k := 10) T__law_draw B) (ok_ordP (k := 10) T__law_order T__law_draw (ok_drawP (k := 9) T__law_draw B) B) (ok_nearP (k := 10) T__law_near T__law_draw (ok_drawP (k := 9) T__law_draw B) B) (ok_other (k := 10) T__law_otherwise T__law_draw T__law_near (ok_drawP (k := 9) T__law_draw B) (ok_nearP (k := 9) T__law_near T__law_draw (ok_drawP (k := 8) T__law_draw B) B) B) (ok_show (k := 10) T_show_order T_check_order T_written (ok_check (k := 7) T_check_order T_is_order T_is_whole B m_MOST_THINGS) (ok_wr (k := 9) T_written B)) (ok_showL (k := 10) T_show_orders T_is_order_list T_written (ok_olst (k := 9) T_is_order_list T_is_order (ok_is_order (k := 7) T_is_order T_is_whole B m_MOST_THINGS) B) (ok_wr (k := 9) T_written B) B m_NO_ORDERS) (ok_read (k := 10) T_read_order T_check_text T_number_in T_is_order (ok_text (k := 9) T_check_text B) (ok_num (k := 9) T_number_in B) (ok_is_order (k := 8) T_is_order T_is_whole B m_MOST_THINGS) m_MOST_THINGS) (ok_readL (k := 10) T_read_orders T_check_text T_read_order T_is_order_list (ok_text (k := 9) T_check_text B) (ok_read (k := 9) T_read_order T_check_text T_number_in T_is_order (ok_text (k := 8) T_check_text B) (ok_num (k := 8) T_number_in B) (ok_is_order (k := 7) T_is_order T_is_whole B m_MOST_THINGS) m_MOST_THINGS) (ok_olst (k := 9) T_is_order_list T_is_order (ok_is_order (k := 7) T_is_order T_is_whole B m_MOST_THINGS) B) m_NO_ORDERS) (ok_back (k := 9) T_back_of T_check_order T_places_in (ok_check (k := 7) T_check_order T_is_order T_is_whole B m_MOST_THINGS) B) (ok_behind (k := 9) T_order_behind T_check_orders T_check_fit (ok_checks (k := 9) T_check_orders T_check_order (ok_check (k := 6) T_check_order T_is_order T_is_whole B m_MOST_THINGS)) B) B
namespace Fo
open PySem PySem.Spec PyProof.Rows L2
set_option maxHeartbeats 8000000 in
theorem all_mk {l : PySem.W.OpenLaw} {w : World} {K : PySem.W.Frag} {h : Heap} {mg : Str → Option Value} {fa : Addr} (X : K.In h) (G : h.Ns mainGlobals mg) (hfa : mg "law" = some (.ref fa))
    {f0 f1 f2 f3 f4 f5 f6 f7 f8 f9 f10 f11 f12 f13 f14 f15 f16 f17 f18 f19 f20 f21 : Addr} {od0 an0 od1 an1 od2 an2 od3 an3 od4 an4 od5 an5 od6 an6 od7 an7 od8 an8 od9 an9 od10 an10 od11 an11 od12 an12 od13 an13 od14 an14 od15 an15 od16 an16 od17 an17 od18 an18 od19 an19 od20 an20 od21 an21 : Option Addr} {sl0 sl1 sl2 sl3 sl4 sl5 sl6 sl7 sl8 sl9 sl10 sl11 sl12 sl13 sl14 sl15 sl16 sl17 sl18 sl19 sl20 sl21 : Array (Option Value)} {oc0 kV0 dc0 pm0 cd0 ct0 oc1 kV1 dc1 pm1 cd1 ct1 oc2 kV2 dc2 pm2 cd2 ct2 oc3 kV3 dc3 pm3 cd3 ct3 oc4 kV4 dc4 pm4 cd4 ct4 oc5 kV5 dc5 pm5 cd5 ct5 oc6 kV6 dc6 pm6 cd6 ct6 oc7 kV7 dc7 pm7 cd7 ct7 oc8 kV8 dc8 pm8 cd8 ct8 oc9 kV9 dc9 pm9 cd9 ct9 oc10 kV10 dc10 pm10 cd10 ct10 oc11 kV11 dc11 pm11 cd11 ct11 oc12 kV12 dc12 pm12 cd12 ct12 oc13 kV13 dc13 pm13 cd13 ct13 oc14 kV14 dc14 pm14 cd14 ct14 oc15 kV15 dc15 pm15 cd15 ct15 oc16 kV16 dc16 pm16 cd16 ct16 oc17 kV17 dc17 pm17 cd17 ct17 oc18 kV18 dc18 pm18 cd18 ct18 oc19 kV19 dc19 pm19 cd19 ct19 oc20 kV20 dc20 pm20 cd20 ct20 oc21 kV21 dc21 pm21 cd21 ct21 : Value} {tk_MOST_THINGS tk_NO_ORDERS : Tok}
    (a0 : PySem.W.nsIn K mainGlobals "is_whole" = some (some (.ref f0))) (l0 : K.lookup f0 = some ⟨oc0, od0, .func (PySem.W.fnOf "is_whole" "is_whole" (defArgs s_is_whole) (defBody s_is_whole) (defScope s_is_whole) .none kV0 dc0 pm0 an0 cd0 ct0), sl0⟩) (c0 : PySem.W.codeIn K cd0 "is_whole" = true) (k0 : PySem.W.keepIn K (.ref f0) = true)
    (a1 : PySem.W.nsIn K mainGlobals "is_order" = some (some (.ref f1))) (l1 : K.lookup f1 = some ⟨oc1, od1, .func (PySem.W.fnOf "is_order" "is_order" (defArgs s_is_order) (defBody s_is_order) (defScope s_is_order) .none kV1 dc1 pm1 an1 cd1 ct1), sl1⟩) (c1 : PySem.W.codeIn K cd1 "is_order" = true) (k1 : PySem.W.keepIn K (.ref f1) = true)
    (a2 : PySem.W.nsIn K mainGlobals "check_order" = some (some (.ref f2))) (l2 : K.lookup f2 = some ⟨oc2, od2, .func (PySem.W.fnOf "check_order" "check_order" (defArgs s_check_order) (defBody s_check_order) (defScope s_check_order) .none kV2 dc2 pm2 an2 cd2 ct2), sl2⟩) (c2 : PySem.W.codeIn K cd2 "check_order" = true) (k2 : PySem.W.keepIn K (.ref f2) = true)
    (a3 : PySem.W.nsIn K mainGlobals "check_orders" = some (some (.ref f3))) (l3 : K.lookup f3 = some ⟨oc3, od3, .func (PySem.W.fnOf "check_orders" "check_orders" (defArgs s_check_orders) (defBody s_check_orders) (defScope s_check_orders) .none kV3 dc3 pm3 an3 cd3 ct3), sl3⟩) (c3 : PySem.W.codeIn K cd3 "check_orders" = true) (k3 : PySem.W.keepIn K (.ref f3) = true)
    (a4 : PySem.W.nsIn K mainGlobals "check_fit" = some (some (.ref f4))) (l4 : K.lookup f4 = some ⟨oc4, od4, .func (PySem.W.fnOf "check_fit" "check_fit" (defArgs s_check_fit) (defBody s_check_fit) (defScope s_check_fit) .none kV4 dc4 pm4 an4 cd4 ct4), sl4⟩) (c4 : PySem.W.codeIn K cd4 "check_fit" = true) (k4 : PySem.W.keepIn K (.ref f4) = true)
    (a5 : PySem.W.nsIn K mainGlobals "is_order_list" = some (some (.ref f5))) (l5 : K.lookup f5 = some ⟨oc5, od5, .func (PySem.W.fnOf "is_order_list" "is_order_list" (defArgs s_is_order_list) (defBody s_is_order_list) (defScope s_is_order_list) .none kV5 dc5 pm5 an5 cd5 ct5), sl5⟩) (c5 : PySem.W.codeIn K cd5 "is_order_list" = true) (k5 : PySem.W.keepIn K (.ref f5) = true)
    (a6 : PySem.W.nsIn K mainGlobals "back_of" = some (some (.ref f6))) (l6 : K.lookup f6 = some ⟨oc6, od6, .func (PySem.W.fnOf "back_of" "back_of" (defArgs s_back_of) (defBody s_back_of) (defScope s_back_of) .none kV6 dc6 pm6 an6 cd6 ct6), sl6⟩) (c6 : PySem.W.codeIn K cd6 "back_of" = true) (k6 : PySem.W.keepIn K (.ref f6) = true)
    (a7 : PySem.W.nsIn K mainGlobals "places_in" = some (some (.ref f7))) (l7 : K.lookup f7 = some ⟨oc7, od7, .func (PySem.W.fnOf "places_in" "places_in" (defArgs s_places_in) (defBody s_places_in) (defScope s_places_in) .none kV7 dc7 pm7 an7 cd7 ct7), sl7⟩) (c7 : PySem.W.codeIn K cd7 "places_in" = true) (k7 : PySem.W.keepIn K (.ref f7) = true)
    (a8 : PySem.W.nsIn K mainGlobals "order_behind" = some (some (.ref f8))) (l8 : K.lookup f8 = some ⟨oc8, od8, .func (PySem.W.fnOf "order_behind" "order_behind" (defArgs s_order_behind) (defBody s_order_behind) (defScope s_order_behind) .none kV8 dc8 pm8 an8 cd8 ct8), sl8⟩) (c8 : PySem.W.codeIn K cd8 "order_behind" = true) (k8 : PySem.W.keepIn K (.ref f8) = true)
    (a9 : PySem.W.nsIn K mainGlobals "show_order" = some (some (.ref f9))) (l9 : K.lookup f9 = some ⟨oc9, od9, .func (PySem.W.fnOf "show_order" "show_order" (defArgs s_show_order) (defBody s_show_order) (defScope s_show_order) .none kV9 dc9 pm9 an9 cd9 ct9), sl9⟩) (c9 : PySem.W.codeIn K cd9 "show_order" = true) (k9 : PySem.W.keepIn K (.ref f9) = true)
    (a10 : PySem.W.nsIn K mainGlobals "written" = some (some (.ref f10))) (l10 : K.lookup f10 = some ⟨oc10, od10, .func (PySem.W.fnOf "written" "written" (defArgs s_written) (defBody s_written) (defScope s_written) .none kV10 dc10 pm10 an10 cd10 ct10), sl10⟩) (c10 : PySem.W.codeIn K cd10 "written" = true) (k10 : PySem.W.keepIn K (.ref f10) = true)
    (a11 : PySem.W.nsIn K mainGlobals "show_orders" = some (some (.ref f11))) (l11 : K.lookup f11 = some ⟨oc11, od11, .func (PySem.W.fnOf "show_orders" "show_orders" (defArgs s_show_orders) (defBody s_show_orders) (defScope s_show_orders) .none kV11 dc11 pm11 an11 cd11 ct11), sl11⟩) (c11 : PySem.W.codeIn K cd11 "show_orders" = true) (k11 : PySem.W.keepIn K (.ref f11) = true)
    (a12 : PySem.W.nsIn K mainGlobals "read_order" = some (some (.ref f12))) (l12 : K.lookup f12 = some ⟨oc12, od12, .func (PySem.W.fnOf "read_order" "read_order" (defArgs s_read_order) (defBody s_read_order) (defScope s_read_order) .none kV12 dc12 pm12 an12 cd12 ct12), sl12⟩) (c12 : PySem.W.codeIn K cd12 "read_order" = true) (k12 : PySem.W.keepIn K (.ref f12) = true)
    (a13 : PySem.W.nsIn K mainGlobals "check_text" = some (some (.ref f13))) (l13 : K.lookup f13 = some ⟨oc13, od13, .func (PySem.W.fnOf "check_text" "check_text" (defArgs s_check_text) (defBody s_check_text) (defScope s_check_text) .none kV13 dc13 pm13 an13 cd13 ct13), sl13⟩) (c13 : PySem.W.codeIn K cd13 "check_text" = true) (k13 : PySem.W.keepIn K (.ref f13) = true)
    (a14 : PySem.W.nsIn K mainGlobals "number_in" = some (some (.ref f14))) (l14 : K.lookup f14 = some ⟨oc14, od14, .func (PySem.W.fnOf "number_in" "number_in" (defArgs s_number_in) (defBody s_number_in) (defScope s_number_in) .none kV14 dc14 pm14 an14 cd14 ct14), sl14⟩) (c14 : PySem.W.codeIn K cd14 "number_in" = true) (k14 : PySem.W.keepIn K (.ref f14) = true)
    (a15 : PySem.W.nsIn K mainGlobals "read_orders" = some (some (.ref f15))) (l15 : K.lookup f15 = some ⟨oc15, od15, .func (PySem.W.fnOf "read_orders" "read_orders" (defArgs s_read_orders) (defBody s_read_orders) (defScope s_read_orders) .none kV15 dc15 pm15 an15 cd15 ct15), sl15⟩) (c15 : PySem.W.codeIn K cd15 "read_orders" = true) (k15 : PySem.W.keepIn K (.ref f15) = true)
    (a16 : PySem.W.nsIn K mainGlobals "_law_pool" = some (some (.ref f16))) (l16 : K.lookup f16 = some ⟨oc16, od16, .func (PySem.W.fnOf "_law_pool" "_law_pool" (defArgs s_law_pool) (defBody s_law_pool) (defScope s_law_pool) .none kV16 dc16 pm16 an16 cd16 ct16), sl16⟩) (c16 : PySem.W.codeIn K cd16 "_law_pool" = true) (k16 : PySem.W.keepIn K (.ref f16) = true)
    (a17 : PySem.W.nsIn K mainGlobals "_law_draw" = some (some (.ref f17))) (l17 : K.lookup f17 = some ⟨oc17, od17, .func (PySem.W.fnOf "_law_draw" "_law_draw" (defArgs s_law_draw) (defBody s_law_draw) (defScope s_law_draw) .none kV17 dc17 pm17 an17 cd17 ct17), sl17⟩) (c17 : PySem.W.codeIn K cd17 "_law_draw" = true) (k17 : PySem.W.keepIn K (.ref f17) = true)
    (a18 : PySem.W.nsIn K mainGlobals "_law_order" = some (some (.ref f18))) (l18 : K.lookup f18 = some ⟨oc18, od18, .func (PySem.W.fnOf "_law_order" "_law_order" (defArgs s_law_order) (defBody s_law_order) (defScope s_law_order) .none kV18 dc18 pm18 an18 cd18 ct18), sl18⟩) (c18 : PySem.W.codeIn K cd18 "_law_order" = true) (k18 : PySem.W.keepIn K (.ref f18) = true)
    (a19 : PySem.W.nsIn K mainGlobals "_law_near" = some (some (.ref f19))) (l19 : K.lookup f19 = some ⟨oc19, od19, .func (PySem.W.fnOf "_law_near" "_law_near" (defArgs s_law_near) (defBody s_law_near) (defScope s_law_near) .none kV19 dc19 pm19 an19 cd19 ct19), sl19⟩) (c19 : PySem.W.codeIn K cd19 "_law_near" = true) (k19 : PySem.W.keepIn K (.ref f19) = true)
    (a20 : PySem.W.nsIn K mainGlobals "_law_otherwise" = some (some (.ref f20))) (l20 : K.lookup f20 = some ⟨oc20, od20, .func (PySem.W.fnOf "_law_otherwise" "_law_otherwise" (defArgs s_law_otherwise) (defBody s_law_otherwise) (defScope s_law_otherwise) .none kV20 dc20 pm20 an20 cd20 ct20), sl20⟩) (c20 : PySem.W.codeIn K cd20 "_law_otherwise" = true) (k20 : PySem.W.keepIn K (.ref f20) = true)
    (a21 : PySem.W.nsIn K mainGlobals "law" = some (some (.ref f21))) (l21 : K.lookup f21 = some ⟨oc21, od21, .func (PySem.W.fnOf "law" "law" (defArgs s_law) (defBody s_law) (defScope s_law) .none kV21 dc21 pm21 an21 cd21 ct21), sl21⟩) (c21 : PySem.W.codeIn K cd21 "law" = true) (k21 : PySem.W.keepIn K (.ref f21) = true)
    (g_MOST_THINGS : PySem.W.nsIn K mainGlobals "MOST_THINGS" = some (some (.int 12 tk_MOST_THINGS)))
    (g_NO_ORDERS : PySem.W.nsIn K mainGlobals "NO_ORDERS" = some (some (.str "-" tk_NO_ORDERS)))
    (z_all : PySem.W.nsIn K mainGlobals "all" = some none)
    (z_bool : PySem.W.nsIn K mainGlobals "bool" = some none)
    (z_enumerate : PySem.W.nsIn K mainGlobals "enumerate" = some none)
    (z_int : PySem.W.nsIn K mainGlobals "int" = some none)
    (z_isinstance : PySem.W.nsIn K mainGlobals "isinstance" = some none)
    (z_len : PySem.W.nsIn K mainGlobals "len" = some none)
    (z_list : PySem.W.nsIn K mainGlobals "list" = some none)
    (z_max : PySem.W.nsIn K mainGlobals "max" = some none)
    (z_min : PySem.W.nsIn K mainGlobals "min" = some none)
    (z_range : PySem.W.nsIn K mainGlobals "range" = some none)
    (z_sorted : PySem.W.nsIn K mainGlobals "sorted" = some none)
    (z_str : PySem.W.nsIn K mainGlobals "str" = some none)
    (z_zip : PySem.W.nsIn K mainGlobals "zip" = some none)
    : ∃ fd : FuncData, (∀ (s : Shared) (v : Value), BindsTo s fd ⟨[v], []⟩ [("script", v)]) ∧ ∀ base : Heap, K.In base → base.Ns mainGlobals mg → FnOk l.prog w K mg base CX0 12 fa fd ["script"] (spLaw K) := by
  have e := hfa.symm.trans (PySem.W.mg_of X G a21)
  cases e
  have F0 := fun_mk (st := s_is_whole) l0 c0 k0
  have F1 := fun_mk (st := s_is_order) l1 c1 k1
  have F2 := fun_mk (st := s_check_order) l2 c2 k2
  have F3 := fun_mk (st := s_check_orders) l3 c3 k3
  have F4 := fun_mk (st := s_check_fit) l4 c4 k4
  have F5 := fun_mk (st := s_is_order_list) l5 c5 k5
  have F6 := fun_mk (st := s_back_of) l6 c6 k6
  have F7 := fun_mk (st := s_places_in) l7 c7 k7
  have F8 := fun_mk (st := s_order_behind) l8 c8 k8
  have F9 := fun_mk (st := s_show_order) l9 c9 k9
  have F10 := fun_mk (st := s_written) l10 c10 k10
  have F11 := fun_mk (st := s_show_orders) l11 c11 k11
  have F12 := fun_mk (st := s_read_order) l12 c12 k12
  have F13 := fun_mk (st := s_check_text) l13 c13 k13
  have F14 := fun_mk (st := s_number_in) l14 c14 k14
  have F15 := fun_mk (st := s_read_orders) l15 c15 k15
  have F16 := fun_mk (st := s_law_pool) l16 c16 k16
  have F17 := fun_mk (st := s_law_draw) l17 c17 k17
  have F18 := fun_mk (st := s_law_order) l18 c18 k18
  have F19 := fun_mk (st := s_law_near) l19 c19 k19
  have F20 := fun_mk (st := s_law_otherwise) l20 c20 k20
  have F21 := fun_mk (st := s_law) l21 c21 k21
  have T_is_whole : Df K mg "is_whole" s_is_whole ["thing"] f0 _ := ⟨F0, F0.binds (ps := ["thing"]) (fun _ _ _ _ _ _ us hl => match us, hl with | [_], _ => rfl), PySem.W.mg_of X G a0⟩
  have T_is_order : Df K mg "is_order" s_is_order ["thing"] f1 _ := ⟨F1, F1.binds (ps := ["thing"]) (fun _ _ _ _ _ _ us hl => match us, hl with | [_], _ => rfl), PySem.W.mg_of X G a1⟩
  have T_check_order : Df K mg "check_order" s_check_order ["thing"] f2 _ := ⟨F2, F2.binds (ps := ["thing"]) (fun _ _ _ _ _ _ us hl => match us, hl with | [_], _ => rfl), PySem.W.mg_of X G a2⟩
  have T_check_orders : Df K mg "check_orders" s_check_orders ["one", "other"] f3 _ := ⟨F3, F3.binds (ps := ["one", "other"]) (fun _ _ _ _ _ _ us hl => match us, hl with | [_, _], _ => rfl), PySem.W.mg_of X G a3⟩
  have T_check_fit : Df K mg "check_fit" s_check_fit ["one", "other"] f4 _ := ⟨F4, F4.binds (ps := ["one", "other"]) (fun _ _ _ _ _ _ us hl => match us, hl with | [_, _], _ => rfl), PySem.W.mg_of X G a4⟩
  have T_is_order_list : Df K mg "is_order_list" s_is_order_list ["thing"] f5 _ := ⟨F5, F5.binds (ps := ["thing"]) (fun _ _ _ _ _ _ us hl => match us, hl with | [_], _ => rfl), PySem.W.mg_of X G a5⟩
  have T_back_of : Df K mg "back_of" s_back_of ["order"] f6 _ := ⟨F6, F6.binds (ps := ["order"]) (fun _ _ _ _ _ _ us hl => match us, hl with | [_], _ => rfl), PySem.W.mg_of X G a6⟩
  have T_places_in : Df K mg "places_in" s_places_in ["order"] f7 _ := ⟨F7, F7.binds (ps := ["order"]) (fun _ _ _ _ _ _ us hl => match us, hl with | [_], _ => rfl), PySem.W.mg_of X G a7⟩
  have T_order_behind : Df K mg "order_behind" s_order_behind ["first", "second"] f8 _ := ⟨F8, F8.binds (ps := ["first", "second"]) (fun _ _ _ _ _ _ us hl => match us, hl with | [_, _], _ => rfl), PySem.W.mg_of X G a8⟩
  have T_show_order : Df K mg "show_order" s_show_order ["order"] f9 _ := ⟨F9, F9.binds (ps := ["order"]) (fun _ _ _ _ _ _ us hl => match us, hl with | [_], _ => rfl), PySem.W.mg_of X G a9⟩
  have T_written : Df K mg "written" s_written ["order"] f10 _ := ⟨F10, F10.binds (ps := ["order"]) (fun _ _ _ _ _ _ us hl => match us, hl with | [_], _ => rfl), PySem.W.mg_of X G a10⟩
  have T_show_orders : Df K mg "show_orders" s_show_orders ["orders"] f11 _ := ⟨F11, F11.binds (ps := ["orders"]) (fun _ _ _ _ _ _ us hl => match us, hl with | [_], _ => rfl), PySem.W.mg_of X G a11⟩
  have T_read_order : Df K mg "read_order" s_read_order ["text"] f12 _ := ⟨F12, F12.binds (ps := ["text"]) (fun _ _ _ _ _ _ us hl => match us, hl with | [_], _ => rfl), PySem.W.mg_of X G a12⟩
  have T_check_text : Df K mg "check_text" s_check_text ["thing"] f13 _ := ⟨F13, F13.binds (ps := ["thing"]) (fun _ _ _ _ _ _ us hl => match us, hl with | [_], _ => rfl), PySem.W.mg_of X G a13⟩
  have T_number_in : Df K mg "number_in" s_number_in ["word", "many"] f14 _ := ⟨F14, F14.binds (ps := ["word", "many"]) (fun _ _ _ _ _ _ us hl => match us, hl with | [_, _], _ => rfl), PySem.W.mg_of X G a14⟩
  have T_read_orders : Df K mg "read_orders" s_read_orders ["text"] f15 _ := ⟨F15, F15.binds (ps := ["text"]) (fun _ _ _ _ _ _ us hl => match us, hl with | [_], _ => rfl), PySem.W.mg_of X G a15⟩
  have T__law_pool : Df K mg "_law_pool" s_law_pool ["script", "k"] f16 _ := ⟨F16, F16.binds (ps := ["script", "k"]) (fun _ _ _ _ _ _ us hl => match us, hl with | [_, _], _ => rfl), PySem.W.mg_of X G a16⟩
  have T__law_draw : Df K mg "_law_draw" s_law_draw ["pool", "many"] f17 _ := ⟨F17, F17.binds (ps := ["pool", "many"]) (fun _ _ _ _ _ _ us hl => match us, hl with | [_, _], _ => rfl), PySem.W.mg_of X G a17⟩
  have T__law_order : Df K mg "_law_order" s_law_order ["pool", "n"] f18 _ := ⟨F18, F18.binds (ps := ["pool", "n"]) (fun _ _ _ _ _ _ us hl => match us, hl with | [_, _], _ => rfl), PySem.W.mg_of X G a18⟩
  have T__law_near : Df K mg "_law_near" s_law_near ["pool", "order"] f19 _ := ⟨F19, F19.binds (ps := ["pool", "order"]) (fun _ _ _ _ _ _ us hl => match us, hl with | [_, _], _ => rfl), PySem.W.mg_of X G a19⟩
  have T__law_otherwise : Df K mg "_law_otherwise" s_law_otherwise ["pool", "orders"] f20 _ := ⟨F20, F20.binds (ps := ["pool", "orders"]) (fun _ _ _ _ _ _ us hl => match us, hl with | [_, _], _ => rfl), PySem.W.mg_of X G a20⟩
  have B : Bi mg := ⟨PySem.W.mg_none_of X G z_all, PySem.W.mg_none_of X G z_bool, PySem.W.mg_none_of X G z_enumerate, PySem.W.mg_none_of X G z_int, PySem.W.mg_none_of X G z_isinstance, PySem.W.mg_none_of X G z_len, PySem.W.mg_none_of X G z_list, PySem.W.mg_none_of X G z_max, PySem.W.mg_none_of X G z_min, PySem.W.mg_none_of X G z_range, PySem.W.mg_none_of X G z_sorted, PySem.W.mg_none_of X G z_str, PySem.W.mg_none_of X G z_zip⟩
  have m_MOST_THINGS := PySem.W.mg_of X G g_MOST_THINGS
  have m_NO_ORDERS := PySem.W.mg_of X G g_NO_ORDERS
  exact ⟨PySem.W.fnOf "law" "law" (defArgs s_law) (defBody s_law) (defScope s_law) .none kV21 dc21 pm21 an21 cd21 ct21, fun s v => .of_eq rfl, fun base _ _ => ok_law F21 T__law_pool T__law_draw T__law_order T__law_near T__law_otherwise T_show_order T_show_orders T_read_order T_read_orders T_back_of T_order_behind (ok_pool (k := 10) T__law_pool B) (ok_drawP (k := 10) T__law_draw B) (ok_ordP (k := 10) T__law_order T__law_draw (ok_drawP (k := 9) T__law_draw B) B) (ok_nearP (k := 10) T__law_near T__law_draw (ok_drawP (k := 9) T__law_draw B) B) (ok_other (k := 10) T__law_otherwise T__law_draw T__law_near (ok_drawP (k := 9) T__law_draw B) (ok_nearP (k := 9) T__law_near T__law_draw (ok_drawP (k := 8) T__law_draw B) B) B) (ok_show (k := 10) T_show_order T_check_order T_written (ok_check (k := 7) T_check_order T_is_order T_is_whole B m_MOST_THINGS) (ok_wr (k := 9) T_written B)) (ok_showL (k := 10) T_show_orders T_is_order_list T_written (ok_olst (k := 9) T_is_order_list T_is_order (ok_is_order (k := 7) T_is_order T_is_whole B m_MOST_THINGS) B) (ok_wr (k := 9) T_written B) B m_NO_ORDERS) (ok_read (k := 10) T_read_order T_check_text T_number_in T_is_order (ok_text (k := 9) T_check_text B) (ok_num (k := 9) T_number_in B) (ok_is_order (k := 8) T_is_order T_is_whole B m_MOST_THINGS) m_MOST_THINGS) (ok_readL (k := 10) T_read_orders T_check_text T_read_order T_is_order_list (ok_text (k := 9) T_check_text B) (ok_read (k := 9) T_read_order T_check_text T_number_in T_is_order (ok_text (k := 8) T_check_text B) (ok_num (k := 8) T_number_in B) (ok_is_order (k := 7) T_is_order T_is_whole B m_MOST_THINGS) m_MOST_THINGS) (ok_olst (k := 9) T_is_order_list T_is_order (ok_is_order (k := 7) T_is_order T_is_whole B m_MOST_THINGS) B) m_NO_ORDERS) (ok_back (k := 9) T_back_of T_check_order T_places_in (ok_check (k := 7) T_check_order T_is_order T_is_whole B m_MOST_THINGS) B) (ok_behind (k := 9) T_order_behind T_check_orders T_check_fit (ok_checks (k := 9) T_check_orders T_check_order (ok_check (k := 6) T_check_order T_is_order T_is_whole B m_MOST_THINGS)) B) B⟩
end Fo
open PySem PySem.W PyProof.Rows
set_option maxRecDepth 100000 in
set_option maxHeartbeats 0 in
theorem PySem.Challenge.cw_farorders_k80_whole_one_writing_each_holds : PySem.Challenge.rw_farorders_k80_whole_one_writing_each.Holds := by
  w_on; o_law; k_head; (case hw => w_witness2)
  k_fill
  refine L2.walk_of (l := PySem.Challenge.rw_farorders_k80_whole_one_writing_each) (n := 63) (k := 12) (x := "script") (CX := fun _ => L2.CX0) (sp := fun w => Fo.spLaw _) rfl (by decide) rfl ⟨rfl, by decide, by decide⟩ (fun w h Y => PySem.W.kIn_of Y) ?F (fun _ _ a ns hl _ hS => ⟨a, ns, rfl, hS, hl, fun _ => rfl⟩) (fun _ _ _ _ _ h => h)
  case F =>
    intro w mg fa h KX G hmg
    refine' Fo.all_mk KX G hmg ?a0 ?l0 ?c0 ?k0 ?a1 ?l1 ?c1 ?k1 ?a2 ?l2 ?c2 ?k2 ?a3 ?l3 ?c3 ?k3 ?a4 ?l4 ?c4 ?k4 ?a5 ?l5 ?c5 ?k5 ?a6 ?l6 ?c6 ?k6 ?a7 ?l7 ?c7 ?k7 ?a8 ?l8 ?c8 ?k8 ?a9 ?l9 ?c9 ?k9 ?a10 ?l10 ?c10 ?k10 ?a11 ?l11 ?c11 ?k11 ?a12 ?l12 ?c12 ?k12 ?a13 ?l13 ?c13 ?k13 ?a14 ?l14 ?c14 ?k14 ?a15 ?l15 ?c15 ?k15 ?a16 ?l16 ?c16 ?k16 ?a17 ?l17 ?c17 ?k17 ?a18 ?l18 ?c18 ?k18 ?a19 ?l19 ?c19 ?k19 ?a20 ?l20 ?c20 ?k20 ?a21 ?l21 ?c21 ?k21 ?g_MOST_THINGS ?g_NO_ORDERS ?z_all ?z_bool ?z_enumerate ?z_int ?z_isinstance ?z_len ?z_list ?z_max ?z_min ?z_range ?z_sorted ?z_str ?z_zip
    (case a0 => k_is); (case l0 => k_is); (case c0 => k_is); (case k0 => k_is); (case a1 => k_is); (case l1 => k_is); (case c1 => k_is); (case k1 => k_is); (case a2 => k_is); (case l2 => k_is); (case c2 => k_is); (case k2 => k_is); (case a3 => k_is); (case l3 => k_is); (case c3 => k_is); (case k3 => k_is); (case a4 => k_is); (case l4 => k_is); (case c4 => k_is); (case k4 => k_is); (case a5 => k_is); (case l5 => k_is); (case c5 => k_is); (case k5 => k_is); (case a6 => k_is); (case l6 => k_is); (case c6 => k_is); (case k6 => k_is); (case a7 => k_is); (case l7 => k_is); (case c7 => k_is); (case k7 => k_is); (case a8 => k_is); (case l8 => k_is); (case c8 => k_is); (case k8 => k_is); (case a9 => k_is); (case l9 => k_is); (case c9 => k_is); (case k9 => k_is); (case a10 => k_is); (case l10 => k_is); (case c10 => k_is); (case k10 => k_is); (case a11 => k_is); (case l11 => k_is); (case c11 => k_is); (case k11 => k_is); (case a12 => k_is); (case l12 => k_is); (case c12 => k_is); (case k12 => k_is); (case a13 => k_is); (case l13 => k_is); (case c13 => k_is); (case k13 => k_is); (case a14 => k_is); (case l14 => k_is); (case c14 => k_is); (case k14 => k_is); (case a15 => k_is); (case l15 => k_is); (case c15 => k_is); (case k15 => k_is); (case a16 => k_is); (case l16 => k_is); (case c16 => k_is); (case k16 => k_is); (case a17 => k_is); (case l17 => k_is); (case c17 => k_is); (case k17 => k_is); (case a18 => k_is); (case l18 => k_is); (case c18 => k_is); (case k18 => k_is); (case a19 => k_is); (case l19 => k_is); (case c19 => k_is); (case k19 => k_is); (case a20 => k_is); (case l20 => k_is); (case c20 => k_is); (case k20 => k_is); (case a21 => k_is); (case l21 => k_is); (case c21 => k_is); (case k21 => k_is); (case g_MOST_THINGS => k_is); (case g_NO_ORDERS => k_is); (case z_all => k_is); (case z_bool => k_is); (case z_enumerate => k_is); (case z_int => k_is); (case z_isinstance => k_is); (case z_len => k_is); (case z_list => k_is); (case z_max => k_is); (case z_min => k_is); (case z_range => k_is); (case z_sorted => k_is); (case z_str => k_is); (case z_zip => k_is)

